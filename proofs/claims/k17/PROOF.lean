import PyProof.Rows.All
import Wide.All
import OpenK.AllK
import Wide.FinOn
import Lean
import PyProof.EqAt
import PyProof.EqKinds
import PyProof.TupleCall
import PyProof.NeKinds
import PyProof.ReprRoads
import PyProof.ReprLen
import PyProof.Rows.RegStrFacts
import PyProof.Draws
import PyProof.EnumStmt
import PyProof.ZipIter
import PyProof.ListNew
import PyProof.TupleOfGen
import PyProof.ListRange
import PyProof.Rows.Range3
import PyProof.SumWalkG
import PyProof.Rows.RuleB_lshift
import PyProof.AutoSeq1
import PyProof.Cells
import PyProof.AutoListH
import PyProof.DictTable
import PyProof.RulesAs
import PyProof.NsDelKeeps
import KE.KDictList
import PyProof.IsiH_list
import PyProof.AttrMiss
import KE.KDictOf
import PyProof.StrCalls2
import PyProof.StrBlockL
import PyProof.StrBlockI
import PyProof.SliceStr2
import KE.KIntText
import PyProof.StrLawsTight
import PyProof.StrLawsAffix
import PyProof.Rows.StrSplitJoin
import PyProof.StrWalks
import PyProof.StrBlock2
import PyProof.StrLawsRepr
import PySem.Challenge.RW_joinedasks_k17_deeds_refused
set_option Elab.async false
set_option linter.all false
set_option maxRecDepth 100000
set_option maxHeartbeats 0
abbrev FG7:=PySem.W.Frag
abbrev VS7:=PySem.Value -> PySem.Shared -> Prop
namespace L2
open PySem PySem.Spec PyProof.Rows
abbrev Key:=Sum Int Str
def uY:Key -> Value -> Bool
 | .inl k,v=>Value.isInt k v
 | .inr x,v=>Value.isStrOf x v
def keyH (w:World):Key -> Int
 | .inl k=>hashInt k
 | .inr x=>hashStr w x
theorem zG:∀ {k:Key} {v:Value},uY k v = true -> (∃ i t,k = Sum.inl i /\ v = Value.int i t) \/ (∃ x t,k = Sum.inr x /\ v = Value.str x t)
 | .inl i,v,h=>by
  obtain ⟨t,e⟩:=Value.isInt_shape (k:=i) (v:=v) h
  exact .inl ⟨i,t,rfl,e⟩
 | .inr x,v,h=>by
  obtain ⟨t,e⟩:=Value.isStrOf_shape (x:=x) (v:=v) h
  exact .inr ⟨x,t,rfl,e⟩
theorem tV (i:Int) (t:Tok):uY (.inl i) (.int i t) = true:=by simp [uY,Value.isInt]
theorem tW (x:Str) (t:Tok):uY (.inr x) (.str x t) = true:=by simp [uY,Value.isStrOf]
theorem VX (a b:Int):decide ((Sum.inl a:Key) = Sum.inl b) = (a == b):=by
 by_cases e:a = b
 ·subst e; simp
 ·have h:¬ (Sum.inl a:Key) = Sum.inl b:=fun q=>e (Sum.inl.inj q)
  rw [decide_eq_false h]
  exact (beq_eq_false_iff_ne.mpr e).symm
theorem VY (a b:Str):decide ((Sum.inr a:Key) = Sum.inr b) = decide (a = b):=by
 by_cases e:a = b
 ·subst e; simp
 ·have h:¬ (Sum.inr a:Key) = Sum.inr b:=fun q=>e (Sum.inr.inj q)
  rw [decide_eq_false h,decide_eq_false e]
theorem VZ (a:Int) (b:Str):decide ((Sum.inl a:Key) = Sum.inr b) = false:=decide_eq_false (fun q=>nomatch q)
theorem V0 (a:Str) (b:Int):decide ((Sum.inr a:Key) = Sum.inl b) = false:=decide_eq_false (fun q=>nomatch q)
def zO (prog:Program) (w:World):PySem.KeyKind prog w Key where
 is:=uY
 hash:=keyH w
 inj:=fun v a b ha hb=>by
  rcases zG ha with ⟨i,t,rfl,rfl⟩ | ⟨x,t,rfl,rfl⟩
  ·rcases zG hb with ⟨j,u,rfl,e⟩ | ⟨y,u,rfl,e⟩
   ·injection e with e1 _; rw [e1]
   ·exact nomatch e
  ·rcases zG hb with ⟨j,u,rfl,e⟩ | ⟨y,u,rfl,e⟩
   ·exact nomatch e
   ·injection e with e1 _; rw [e1]
 byValue:=fun k v h=>by
  rcases zG h with ⟨i,t,rfl,rfl⟩ | ⟨x,t,rfl,rfl⟩ <;> rfl
 pyHash:=fun hv h=>by
  rcases zG hv with ⟨i,t,rfl,rfl⟩ | ⟨x,t,rfl,rfl⟩
  ·exact wpAny_pyHash_int h
  ·exact wpAny_pyHash_str h
 eqBool:=fun hu hv h=>by
  rcases zG hu with ⟨i,t,rfl,rfl⟩ | ⟨x,t,rfl,rfl⟩
  ·rcases zG hv with ⟨j,u,rfl,rfl⟩ | ⟨y,u,rfl,rfl⟩
   ·rw [VX] at h; exact wpAny_eqBool_int h
   ·rw [VZ] at h; exact SeqAt.EqAt.int_str i t y u _ _ _ _ h
  ·rcases zG hv with ⟨j,u,rfl,rfl⟩ | ⟨y,u,rfl,rfl⟩
   ·rw [V0] at h; exact SeqAt.EqAt.str_int x t j u _ _ _ _ h
   ·rw [VY] at h; exact wpAny_eqBool_str h
 «strs»:=fun k x t v h=>by
  rcases zG h with ⟨i,u,rfl,e⟩ | ⟨y,u,rfl,e⟩
  ·exact nomatch e
  ·injection e with e1 _
   subst e1
   cases v <;> rfl
theorem rH (prog:Program) (w:World) (i:Int) (t:Tok):(zO prog w).is (.inl i) (.int i t) = true:=tV i t
theorem rJ (prog:Program) (w:World) (x:Str) (t:Tok):(zO prog w).is (.inr x) (.str x t) = true:=tW x t
end L2
namespace L2
open PySem PySem.Spec PyProof.Rows
inductive V where
 | non | bl (b:Bool) | int (i:Int) | str (x:Str) | byt (b:Array UInt8) | flt (b:UInt64) | ref (a:Addr) | ty (n:String)
 deriving DecidableEq
def RelV:V -> Value -> Prop
 | .non,u=>u = Value.none
 | .bl b,u=>u = Value.bool b
 | .int i,u=>∃ t,u = Value.int i t
 | .str x,u=>∃ t,u = Value.str x t
 | .byt b,u=>∃ t,u = Value.bytes b t
 | .flt b,u=>∃ t,u = Value.float b t
 | .ref a,u=>u = Value.ref a
 | .ty n,u=>u = Value.type n
abbrev Vals:List V -> List Value -> Prop:=Paired RelV
theorem Vals.length {xs:List V} {us:List Value} (r:Vals xs us):xs.length = us.length:=Paired.length r
theorem Vals.get:∀ {xs:List V} {us:List Value} {i:Nat} {x:V},Vals xs us -> xs[i]? = some x -> ∃ u,us[i]? = some u /\ RelV x u
 | _,_,_,_,.nil,e=>by simp at e
 | _,_,0,_,.cons r _,e=>by simp at e; subst e; exact ⟨_,rfl,r⟩
 | _,_,i + 1,x,.cons _ t,e=>by
  obtain ⟨u,h1,h2⟩:=Vals.get (i:=i) (x:=x) t (by simpa using e)
  exact ⟨u,by simpa using h1,h2⟩
theorem Vals.set {x:V} {u:Value} (r:RelV x u):∀ {xs:List V} {us:List Value} (i:Nat),Vals xs us -> Vals (xs.set i x) (us.set i u)
 | _,_,_,.nil=>.nil
 | _,_,0,.cons _ t=>.cons r t
 | _,_,i + 1,.cons q t=>.cons q (Vals.set r i t)
theorem Vals.append:∀ {xs ys:List V} {us ws:List Value},Vals xs us -> Vals ys ws -> Vals (xs ++ ys) (us ++ ws)
 | _,_,_,_,.nil,s=>s
 | _,_,_,_,.cons r t,s=>.cons r (Vals.append t s)
theorem Vals.take:∀ {xs:List V} {us:List Value} (n:Nat),Vals xs us -> Vals (xs.take n) (us.take n)
 | _,_,0,_=>.nil
 | _,_,_ + 1,.nil=>.nil
 | _,_,n + 1,.cons r t=>.cons r (Vals.take n t)
theorem Vals.drop:∀ {xs:List V} {us:List Value} (n:Nat),Vals xs us -> Vals (xs.drop n) (us.drop n)
 | _,_,0,r=>r
 | _,_,_ + 1,.nil=>.nil
 | _,_,n + 1,.cons _ t=>Vals.drop n t
def RelO:Option V -> Option Value -> Prop
 | some v,some u=>RelV v u
 | none,none=>True
 | _,_=>False
def KV {κ:Type}:List (κ × V) -> List (κ × Value) -> Prop:=Paired fun (p:κ × V) (q:κ × Value)=>p.1 = q.1 /\ RelV p.2 q.2
def kV:Key -> V
 | .inl i=>.int i
 | .inr x=>.str x
inductive HO where
 /-- a list -/
 | lst (xs:List V)
 /-- a tuple (never changes) -/
 | tup (xs:List V)
 /-- a dict whose keys are ints and texts; one whose keys are tuples of ints and texts (the empty one is both) -/
 | dK (kvs:List (Key × V)) | dT (kvs:List (List Key × V))
 /-- a set of ints: its members,its size -/
 | set (S:Int -> Bool) (n:Nat)
 /-- an instance of the class at C,its dict at dx,its attributes -/
 | ins (C dx:Addr) (fs:List (Str × V))
 /-- the dict of the instance at x -/
 | own (x:Addr)
 /-- the dict of an exception -/
 | xd (fs:List (Str × V))
 /-- a bound method,f of x -/
 | met (f x:Addr)
 /-- a range object lo,lo + 1,.. below hi -/
 | rng (lo hi:Int)
 /-- a thing that is known to the object (the script; a dict while a loop walks it): read,never written while it is so -/
 | frz (o:Obj) (u:HO)
 /-- a code object's table -/
 | tbl (ps:Array Value)
 /-- any other thing,by what is true of its one object (a def of one's own: SetO a S n:=HO.ext fun h=>..) -/
 | ext (φ:Heap -> Prop)
abbrev Hp:=Addr -> Option HO
def upd (H:Hp) (a:Addr) (o:HO):Hp:=fun b=>if b = a then some o else H b
theorem zd {H:Hp} {a:Addr} {o:HO}:upd H a o a = some o:=by unfold upd; rw [if_pos rfl]
theorem zB {H:Hp} {a b:Addr} {o:HO} (h:b ≠ a):upd H a o b = H b:=by unfold upd; rw [if_neg h]
theorem zt {H:Hp} {a b:Addr} {o:HO} (h:H a = some o) (h':H b = none):a ≠ b:=by
 intro e; subst e; rw [h] at h'; cases h'
section
variable (P:Program) (w:World)
def yf (H:Hp) (h:Heap) (a:Addr):HO -> Prop
 | .lst xs=>xs.length <= sizeLine /\ ∃ (its:List Value) (n:Nat),Vals xs its /\ h.get? a = some { cls:=.type "list",data:=.seq its.toArray n }
 | .tup xs=>xs.length <= sizeLine /\ ∃ its:List Value,Vals xs its /\ IsTup h a its.toArray
 | .dK kvs=>kvs.length <= sizeLine /\ (a == sysModules) = false /\ ∃ vs,KV kvs vs /\ h.DictOf (zO P w) a vs
 | .dT kvs=>kvs.length <= sizeLine /\ (a == sysModules) = false /\ ∃ xs:List (List Key × Addr × Value),
   Paired (fun (p:List Key × V) (q:List Key × Addr × Value)=>p.1 = q.1 /\ H q.2.1 = some (.tup (p.1.map kV)) /\ RelV p.2 q.2.2) kvs xs ∧
   ∃ o es ep,h.get? a = some o /\ o.ExactDict /\ o.data = .dict es ep /\ es.toList = xs.map (entryOfKey (tupleKind (zO P w))) /\ (xs.map (·.1)).Nodup
 | .set S n=>h.SetOf (intKind P w) a S n
 | .ins C dx fs=>H dx = some (.own a) /\ fs.length <= 1000 /\ dx ≠ a /\ h.get? a = some (PySem.W.instObj C dx) ∧
   ∃ mA,h.Ns1 dx mA /\ (∀ f,RelO (fs.lookup f) (mA f)) /\ PySem.Within mA (fs.map (·.1))
 | .own _=>∃ o,h.get? a = some o
 | .xd fs=>∃ mA,h.Ns1 a mA /\ ∀ f,RelO (fs.lookup f) (mA f)
 | .rng lo hi=>∃ t u v,h.get? a = some { cls:=.type "range",data:=.fields #[.int lo t,.int hi u,.int 1 v] }
 | .frz o u=>h.get? a = some o /\ yf H h a u
 | .tbl ps=>h.get? a = some { cls:=.none,data:=.fields ps }
 | .met f x=>h.get? a = some (PySem.W.methodObj (.ref f) (.ref x))
 | .ext φ=>φ h /\ (∃ o,h.get? a = some o) /\ ∀ h1 h2:Heap,φ h1 -> (∀ o,h1.get? a = some o -> h2.get? a = some o) -> φ h2
def HOk (H:Hp) (h:Heap):Prop:=∀ a o,H a = some o -> yf P w H h a o
end
section
variable {P:Program} {w:World} {H H':Hp} {h h':Heap} {a:Addr} {o:HO}
theorem yf.lt (x:yf P w H h a o):a < h.objs.size:=by
 cases o with
 | lst xs=>obtain ⟨_,_,_,_,e⟩:=x; exact Heap.lt_size e
 | tup xs=>obtain ⟨_,_,_,p⟩:=x; exact p.lt
 | dK kvs=>obtain ⟨_,_,_,_,o,_,_,e,_⟩:=x; exact Heap.lt_size e
 | dT kvs=>obtain ⟨_,_,_,_,o,_,_,e,_⟩:=x; exact Heap.lt_size e
 | set S n=>obtain ⟨o,_,_,_,e,_⟩:=x; exact Heap.lt_size e
 | ins C dx fs=>obtain ⟨_,_,_,e,_⟩:=x; exact Heap.lt_size e
 | own y=>obtain ⟨_,e⟩:=x; exact Heap.lt_size e
 | xd fs=>obtain ⟨_,⟨_,_,_,e,_⟩,_⟩:=x; exact Heap.lt_size e
 | rng lo hi=>obtain ⟨_,_,_,e⟩:=x; exact Heap.lt_size e
 | frz ob u=>obtain ⟨e,_⟩:=x; exact Heap.lt_size e
 | tbl ps=>exact Heap.lt_size (show h.get? a = some _ from x)
 | met f y=>exact Heap.lt_size (show h.get? a = some _ from x)
 | ext φ=>obtain ⟨_,⟨_,e⟩,_⟩:=x; exact Heap.lt_size e
theorem Paired.mapP {α β:Type} {F G:α -> β -> Prop}:∀ {l₁:List α} {l₂:List β},Paired F l₁ l₂ -> (∀ a b,F a b -> G a b) -> Paired G l₁ l₂
 | _,_,.nil,_=>.nil
 | _,_,.cons r t,f=>.cons (f _ _ r) (Paired.mapP t f)
theorem yf.stay (x:yf P w H h a o) (k:∀ b u,(b = a \/ H b = some (.own a)) -> h.get? b = some u -> h'.get? b = some u)
  (ho:∀ b,H b = some (.own a) -> H' b = some (.own a)) (ht:∀ b xs,H b = some (.tup xs) -> H' b = some (.tup xs)):yf P w H' h' a o:=by
 induction o with
 | lst xs=>obtain ⟨z,its,n,r,e⟩:=x; exact ⟨z,its,n,r,k _ _ (.inl rfl) e⟩
 | tup xs=>obtain ⟨z,its,r,ob,e,c⟩:=x; exact ⟨z,its,r,ob,k _ _ (.inl rfl) e,c⟩
 | dK kvs=>obtain ⟨z,y,vs,r,ob,es,ep,e,c⟩:=x; exact ⟨z,y,vs,r,ob,es,ep,k _ _ (.inl rfl) e,c⟩
 | dT kvs =>
  obtain ⟨z,y,xs,r,ob,es,ep,e,c⟩:=x
  exact ⟨z,y,xs,Paired.mapP r fun p q z=>⟨z.1,ht _ _ z.2.1,z.2.2⟩,ob,es,ep,k _ _ (.inl rfl) e,c⟩
 | set S n=>obtain ⟨ob,es,ep,t,e,c⟩:=x; exact ⟨ob,es,ep,t,k _ _ (.inl rfl) e,c⟩
 | ins C dx fs =>
  obtain ⟨d,z,ne,e,mA,⟨od,es,ep,e2,c⟩,r⟩:=x
  exact ⟨ho _ d,z,ne,k _ _ (.inl rfl) e,mA,⟨od,es,ep,k _ _ (.inr d) e2,c⟩,r⟩
 | own y=>obtain ⟨ob,e⟩:=x; exact ⟨ob,k _ _ (.inl rfl) e⟩
 | xd fs=>obtain ⟨mA,⟨od,es,ep,e,c⟩,r⟩:=x; exact ⟨mA,⟨od,es,ep,k _ _ (.inl rfl) e,c⟩,r⟩
 | rng lo hi=>obtain ⟨t,u,v,e⟩:=x; exact ⟨t,u,v,k _ _ (.inl rfl) e⟩
 | frz ob u ih=>obtain ⟨e,q⟩:=x; exact ⟨k _ _ (.inl rfl) e,ih q⟩
 | tbl ps =>
  have e:h.get? a = some { cls:=.none,data:=.fields ps }:=x
  show h'.get? a = some { cls:=.none,data:=.fields ps }
  exact k a _ (.inl rfl) e
 | met f y =>
  have e:h.get? a = some (PySem.W.methodObj (.ref f) (.ref y)):=x
  show h'.get? a = some (PySem.W.methodObj (.ref f) (.ref y))
  exact k a _ (.inl rfl) e
 | ext φ=>obtain ⟨p,⟨o,e⟩,st⟩:=x; exact ⟨st _ _ p fun o q=>k _ _ (.inl rfl) q,⟨o,k _ _ (.inl rfl) e⟩,st⟩
theorem HOk.lt (x:HOk P w H h) (e:H a = some o):a < h.objs.size:=(x a o e).lt
theorem HOk.fresh (x:HOk P w H h) (e:h.objs.size <= a):H a = none:=by
 cases q:H a with
 | none=>rfl
 | some u=>exact absurd (Nat.lt_of_lt_of_le (x.lt q) e) (Nat.lt_irrefl _)
theorem HOk.kept (x:HOk P w H h) (k:∀ b u,h.get? b = some u -> h'.get? b = some u):HOk P w H h':=fun a o e =>
 (x a o e).stay (fun b u _ q=>k b u q) (fun _ q=>q) fun _ _ q=>q
theorem HOk.laid (x:HOk P w H h) (k:∀ b u,h.get? b = some u -> h'.get? b = some u) (hp:h.objs.size <= a) (new:yf P w (upd H a o) h' a o):HOk P w (upd H a o) h':=fun b u e=>by
 have hn:=x.fresh hp
 by_cases hb:b = a
 ·subst hb; rw [zd] at e; cases e; exact new
 ·rw [zB hb] at e
  exact (x b u e).stay (fun c v _ q=>k c v q) (fun c q=>by rw [zB (zt q hn)]; exact q) fun c xs q=>by rw [zB (zt q hn)]; exact q
end
def Rd (H:Hp) (a:Addr) (u:HO):Prop:=H a = some u \/ ∃ o,H a = some (.frz o u)
theorem Rd.of {H:Hp} {a:Addr} {u:HO} (h:H a = some u):Rd H a u:=.inl h
theorem Rd.ok {P:Program} {w:World} {H:Hp} {h:Heap} {a:Addr} {u:HO} (r:Rd H a u) (x:HOk P w H h):yf P w H h a u:=by
 rcases r with r | ⟨o,r⟩
 ·exact x a u r
 ·obtain ⟨_,q⟩:=x a _ r
  exact q
def Mut:Option HO -> Prop
 | some (.lst _)=>True
 | some (.dK _)=>True
 | some (.dT _)=>True
 | some (.set _ _)=>True
 | some (.ins _ _ _)=>True
 | some (.ext _)=>True
 | _=>False
section
variable {P:Program} {w:World} {H:Hp} {h h':Heap} {x e:Addr} {o':HO}
theorem HOk.write (ok:HOk P w H h) (mu:Mut (H x)) (he:e = x \/ H e = some (.own x)) (k:∀ b u,b ≠ e -> h.get? b = some u -> h'.get? b = some u) (heo:∃ u,h'.get? e = some u)
  (new:yf P w (upd H x o') h' x o'):HOk P w (upd H x o') h':=fun b u q=>by
 have nown:∀ c y,H c = some (.own y) -> c ≠ x:=fun c y r z=>by subst z; rw [r] at mu; exact mu
 have ntup:∀ c xs,H c = some (.tup xs) -> c ≠ x:=fun c xs r z=>by subst z; rw [r] at mu; exact mu
 by_cases hb:b = x
 ·subst hb; rw [zd] at q; cases q; exact new
 ·rw [zB hb] at q
  by_cases hbe:b = e
  ·have q':H b = some (.own x):=by
    rcases he with z | z
    ·exact absurd (hbe.trans z) hb
    ·rw [hbe]; exact z
   rw [q] at q'; cases q'
   obtain ⟨v,hv⟩:=heo
   exact ⟨v,by rw [hbe]; exact hv⟩
  ·refine (ok b u q).stay (fun c v hc r=>k c v ?_ r) (fun c r=>by rw [zB (nown c b r)]; exact r) fun c xs r=>by rw [zB (ntup c xs r)]; exact r
   rcases hc with rfl | hc
   ·exact hbe
   ·rintro rfl
    rcases he with z | z
    ·exact nown c b hc z
    ·rw [hc] at z; cases z; exact hb rfl
end
structure Un (fs ex:List Addr) (H H':Hp) (h h':Heap):Prop where
 keep:∀ b o,h.get? b = some o -> H b = none -> b ∉ fs -> b ∉ ex -> h'.get? b = some o
 slot:∀ b o,h.get? b = some o -> H b = none -> b ∈ fs -> b ∉ ex -> ∃ sl,h'.get? b = some { o with slots:=sl }
 free:∀ b o,h.get? b = some o -> H b = none -> b ∉ ex -> H' b = none
 there:∀ b o,h.get? b = some o -> b ∉ ex -> ∃ o',h'.get? b = some o'
 tups:∀ b xs,H b = some (.tup xs) -> H' b = some (.tup xs)
 frzs:∀ b o u,H b = some (.frz o u) -> H' b = some (.frz o u)
 tbls:∀ b ps,H b = some (.tbl ps) -> ∃ more,H' b = some (.tbl (ps ++ more))
section
variable {fs fs' ex ex':List Addr} {H H1 H2:Hp} {h h1 h2 h':Heap} {a x e:Addr} {o:HO}
theorem Un.any (u:Un fs ex H H1 h h1) {b:Addr} {ob:Obj} (q:h.get? b = some ob) (n:H b = none) (hx:b ∉ ex):∃ sl,h1.get? b = some { ob with slots:=sl }:=by
 by_cases hb:b ∈ fs
 ·exact u.slot b ob q n hb hx
 ·exact ⟨ob.slots,u.keep b ob q n hb hx⟩
theorem Un.trans (a:Un fs ex H H1 h h1) (b:Un fs ex H1 H2 h1 h2):Un fs ex H H2 h h2 where
 keep:=fun c ob q n hc hx=>b.keep c ob (a.keep c ob q n hc hx) (a.free c ob q n hx) hc hx
 slot:=fun c ob q n hc hx=>by
  obtain ⟨sl,e1⟩:=a.slot c ob q n hc hx
  obtain ⟨sl',e2⟩:=b.slot c _ e1 (a.free c ob q n hx) hc hx
  exact ⟨sl',e2⟩
 free:=fun c ob q n hx=>by
  obtain ⟨o',e1⟩:=a.there c ob q hx
  exact b.free c o' e1 (a.free c ob q n hx) hx
 there:=fun c ob q hx=>by
  obtain ⟨o',e1⟩:=a.there c ob q hx
  exact b.there c o' e1 hx
 tups:=fun c xs q=>b.tups c xs (a.tups c xs q)
 frzs:=fun c ob xs q=>b.frzs c ob xs (a.frzs c ob xs q)
 tbls:=fun c ps q=>by
  obtain ⟨m1,e1⟩:=a.tbls c ps q
  obtain ⟨m2,e2⟩:=b.tbls c _ e1
  exact ⟨m1 ++ m2,by rw [e2,Array.append_assoc]⟩
theorem Un.kept (k:∀ b u,h.get? b = some u -> h'.get? b = some u):Un fs ex H H h h' :=
 ⟨fun b ob q _ _ _=>k b ob q,fun b ob q _ _ _=>⟨ob.slots,k b ob q⟩,fun _ _ _ n _=>n,fun b ob q _=>⟨ob,k b ob q⟩,fun _ _ q=>q,fun _ _ _ q=>q,fun _ ps q=>⟨#[],by rw [q]; simp⟩⟩
theorem Un.refl:Un fs ex H H h h:=Un.kept fun _ _ q=>q
theorem Un.laid (k:∀ b u,h.get? b = some u -> h'.get? b = some u) (hp:h.objs.size <= a) (hn:H a = none):Un fs ex H (upd H a o) h h' where
 keep:=fun b u q _ _ _=>k b u q
 slot:=fun b u q _ _ _=>⟨u.slots,k b u q⟩
 free:=fun b u q n _=>by rw [zB (Nat.ne_of_lt (Nat.lt_of_lt_of_le (Heap.lt_size q) hp))]; exact n
 there:=fun b u q _=>⟨u,k b u q⟩
 tups:=fun b xs q=>by rw [zB (zt q hn)]; exact q
 frzs:=fun b u xs q=>by rw [zB (zt q hn)]; exact q
 tbls:=fun b ps q=>⟨#[],by rw [zB (zt q hn),q]; simp⟩
theorem Un.write (mu:Mut (H x)) (he:e = x \/ H e = some (.own x)) (k:∀ b u,b ≠ e -> h.get? b = some u -> h'.get? b = some u) (heo:∃ u,h'.get? e = some u):Un fs ex H (upd H x o) h h':=by
 have hx:∀ b,H b = none -> b ≠ x:=fun b n z=>by subst z; rw [n] at mu; exact mu
 have hb:∀ b,H b = none -> b ≠ e:=fun b n z=>by
  subst z
  rcases he with r | r
  ·exact hx b n r
  ·rw [n] at r; cases r
 have hm:∀ b u,H b = some u -> ¬ Mut (some u) -> b ≠ x:=fun b u q nm z=>by subst z; rw [q] at mu; exact nm mu
 refine ⟨fun b u q n _ _=>k b u (hb b n) q,fun b u q n _ _=>⟨u.slots,k b u (hb b n) q⟩,fun b u q n _=>by rw [zB (hx b n)]; exact n,fun b u q _=>?_,
  fun b xs q=>by rw [zB (hm b _ q fun z=>z)]; exact q,fun b u xs q=>by rw [zB (hm b _ q fun z=>z)]; exact q,fun b ps q=>⟨#[],by rw [zB (hm b _ q fun z=>z),q]; simp⟩⟩
 by_cases hbe:b = e
 ·subst hbe; exact heo
 ·exact ⟨u,k b u hbe q⟩
theorem Un.mono (u:Un fs ex H H1 h h1) (hs:∀ b ∈ fs,b ∈ fs') (hx:∀ b ∈ ex,b ∈ ex'):Un fs' ex' H H1 h h1 :=
 ⟨fun b ob q n hb he=>u.keep b ob q n (fun z=>hb (hs b z)) fun z=>he (hx b z),fun _ _ q n _ he=>u.any q n fun z=>he (hx _ z),fun b ob q n he=>u.free b ob q n fun z=>he (hx b z),fun b ob q he=>u.there b ob q fun z=>he (hx b z),u.tups,u.frzs,u.tbls⟩
end
def trk (h:Heap) (H:Hp):List Addr:=(List.range h.objs.size).filter fun a=>(H a).isSome
def hidT (h:Heap) (H:Hp):Heap:=PySem.W.hideAll h (trk h H)
theorem Ze (h:Heap) (H:Hp):(hidT h H).objs.size = h.objs.size:=PySem.W.hideAll_size _ _
theorem Y3 {h:Heap} {H:Hp} {b:Addr} {o:Obj} (e:h.get? b = some o) (n:H b = none):(hidT h H).get? b = some o :=
 PySem.W.hideAll_get _ e fun hm=>by
  have q:(H b).isSome = true:=(List.mem_filter.mp hm).2
  rw [n] at q; simp at q
theorem WM {h:Heap} {H:Hp} {b:Addr} {o:Obj} (e:(hidT h H).get? b = some o):h.get? b = some o /\ H b = none:=by
 have e':h.get? b = some o:=PySem.W.of_hideAll (trk h H) e
 refine ⟨e',?_⟩
 cases q:H b with
 | none=>rfl
 | some x =>
  have hm:b ∈ trk h H:=List.mem_filter.mpr ⟨List.mem_range.mpr (Heap.lt_size e'),by simp [q]⟩
  have z:(hidT h H).get? b = none:=PySem.W.hideAll_none (trk h H) hm
  rw [z] at e; cases e
def WN (g h:Heap) (L:Addr):List (Addr × Obj):=(List.range h.objs.size).filterMap fun a=>if a = L \/ (g.get? a).isSome = true then none else (h.get? a).map fun o=>(a,o)
def rest (g h:Heap) (L d:Addr):List (Addr × Obj):=(WN g h L).filter fun p=>decide (p.1 ≠ d)
end L2
namespace L2
open PySem PySem.Spec PyProof.Rows
structure Mod (K:FG7) (mg:Str -> Option Value) (base:Heap):Prop where
 kin:K.In base
 glob:base.Ns mainGlobals mg
 blt:∃ mb,base.Ns builtinsNs mb /\ ∀ x:Str,x ≠ "__name__" -> mb x = bootBuiltins x
 nolimit:base.NoLimit
structure Cx where
 prog:Program
 w:World
 K:FG7
 mg:Str -> Option Value
 base:Heap
 A:Around
 N:List Str
 s₀:Shared
 H₀:Hp
 env:Env
 outer:List Env
 stack:List Env
 ex:List Addr
 fn:Str -> Bool
 calm:Bool
 pn:List (Addr × Obj)
 xe:VS7
def frs (l:List Env):List Addr:=l.filterMap (·.frame)
abbrev Cx.fs (X:Cx):List Addr:=frs X.outer
def Vis (sc:Scope) (x:Str):Prop:=sc.names.lookup x = some .local \/ sc.names.lookup x = some .cell \/ sc.names.lookup x = some .free
def Loc (sc:Scope) (x:Str):Prop:=sc.names.lookup x = some .local \/ sc.names.lookup x = some .cell
def Look (env:Env) (h:Heap) (m:Str -> Option Value) (x:Str) (u:Value):Prop :=
 (env.kindOf x = some .local /\ m x = some u) \/ ((env.kindOf x = some .cell \/ env.kindOf x = some .free) /\ ∃ c,env.cells.lookup x = some c /\ h.IsCell c (some u))
structure Cx.Ok (X:Cx):Prop where
 mod:Mod X.K X.mg X.base
 kind:X.env.scope.kind = .function
 glob:X.env.globals = mainGlobals
 blt:X.env.builtins = builtinsNs
 above:X.s₀.heap.objs.size <= X.env.locals
 inj:∀ x y c,X.env.cells.lookup x = some c -> X.env.cells.lookup y = some c -> x = y
 has:∀ x,(X.env.kindOf x = some .cell \/ X.env.kindOf x = some .free) -> ∃ c,X.env.cells.lookup x = some c
 cab:∀ x c,X.fn x = true -> X.env.cells.lookup x = some c -> X.s₀.heap.objs.size <= c
 hd:X.calm = true -> X.A.handled = none
 frames:X.A.frames = some X.stack
 stk:X.stack = X.outer \/ (X.stack = X.env :: X.outer /\ X.env.frame = some X.env.locals)
 exf:∀ b ∈ X.ex,b ≠ X.env.locals /\ ∀ x c,X.env.cells.lookup x = some c -> c ≠ b
 bs:∀ b o,X.base.get? b = some o -> X.s₀.heap.get? b = some o /\ X.H₀ b = none
 bsz:X.base.objs.size <= X.s₀.heap.objs.size
 noex:∀ b o,X.base.get? b = some o -> b ∉ X.ex
 exfs:∀ b ∈ X.ex,b ∉ X.fs
 funs:X.s₀.heap.FunFrames X.base X.outer
 frf:∀ b ∈ X.fs,X.H₀ b = none
structure Inv (X:Cx) (pins:List (Addr × Obj)) (σ:List (Option V)) (H:Hp) (s:Shared):Prop where
 ok:X.Ok
 os:s.os = X.s₀.os
 bare:AllBare s.gens
 base:Un X.fs X.ex X.H₀ H X.s₀.heap s.heap
 loc:∃ m,s.heap.Ns X.env.locals m /\ ∀ (i:Nat) (x:Str) (v:V),X.N[i]? = some x -> σ[i]? = some (some v) -> Vis X.env.scope x -> ∃ u,RelV v u /\ Look X.env s.heap m x u
 cell:∀ x c,X.env.cells.lookup x = some c -> ∃ v,s.heap.IsCell c v
 free:H X.env.locals = none
 freeC:∀ x c,X.env.cells.lookup x = some c -> H c = none
 pin:∀ p ∈ X.pn ++ pins,s.heap.get? p.1 = some p.2 /\ H p.1 = none /\ p.1 ≠ X.env.locals /\ p.1 ∉ X.fs /\ ∀ v,p.2.data ≠ .cell v
 hok:HOk X.prog X.w H s.heap
 len:σ.length = X.N.length
section
variable {X:Cx} {pins:List (Addr × Obj)} {σ:List (Option V)} {H H':Hp} {s:Shared} {h':Heap}
theorem Cx.Ok.nofr (ok:X.Ok) {b:Addr} {o:Obj} (e:X.base.get? b = some o):b ∉ X.fs:=fun hb=>by
 have:=(ok.funs.mem hb).1
 rw [e] at this; cases this
theorem Inv.bs (I:Inv X pins σ H s):∀ b o,X.base.get? b = some o -> s.heap.get? b = some o /\ H b = none:=fun b o e =>
 ⟨I.base.keep b o (I.ok.bs b o e).1 (I.ok.bs b o e).2 (I.ok.nofr e) (I.ok.noex b o e),I.base.free b o (I.ok.bs b o e).1 (I.ok.bs b o e).2 (I.ok.noex b o e)⟩
theorem Inv.bk (I:Inv X pins σ H s):∀ b o,X.base.get? b = some o -> s.heap.get? b = some o:=fun b o e=>(I.bs b o e).1
theorem Inv.mod (I:Inv X pins σ H s):Mod X.K X.mg X.base:=I.ok.mod
theorem Inv.kIn (I:Inv X pins σ H s):X.K.In s.heap:=I.ok.mod.kin.keeps I.bk
theorem Inv.nolimit (I:Inv X pins σ H s):s.heap.NoLimit:=I.ok.mod.nolimit.keeps I.bk
theorem Inv.fr (I:Inv X pins σ H s):∃ m,Fr X.base X.env.locals s.heap m :=
 let ⟨m,hn,_⟩:=I.loc
 ⟨m,hn,I.bk,Nat.le_trans I.ok.bsz I.ok.above⟩
theorem Inv.lt (I:Inv X pins σ H s):X.env.locals < s.heap.objs.size:=let ⟨_,hn,_⟩:=I.loc; hn.lt
theorem Inv.sz (I:Inv X pins σ H s):X.s₀.heap.objs.size <= s.heap.objs.size:=Nat.le_trans I.ok.above (Nat.le_of_lt I.lt)
theorem Inv.nofs (I:Inv X pins σ H s) {a:Addr} (h:s.heap.objs.size <= a):a ∉ X.fs:=fun hb=>by
 obtain ⟨_,o,ho,_⟩:=I.ok.funs.mem hb
 exact absurd (Nat.lt_of_lt_of_le (Heap.lt_size ho) (Nat.le_trans I.sz h)) (Nat.lt_irrefl _)
theorem Inv.cne (I:Inv X pins σ H s):∀ x c,X.env.cells.lookup x = some c -> c ≠ X.env.locals:=fun x c e z=>by
 obtain ⟨v,o,ho,hd⟩:=I.cell x c e
 obtain ⟨m,⟨o',es,ep,ho',hd',_⟩,_⟩:=I.loc
 rw [z,ho'] at ho; cases ho; rw [hd'] at hd; cases hd
theorem Inv.funs (I:Inv X pins σ H s):s.heap.FunFrames X.base X.outer:=by
 have all:∀ (l:List Env),(∀ b ∈ frs l,b ∈ X.fs) -> X.s₀.heap.FunFrames X.base l -> s.heap.FunFrames X.base l:=by
  intro l
  induction l with
  | nil=>intro _ _; trivial
  | cons env r ih =>
   intro hs hl
   obtain ⟨hk,⟨L,o,hf,hn,ho,hd⟩,hr⟩:=hl
   have hL:L ∈ X.fs:=hs L (by unfold frs; rw [List.filterMap_cons,hf]; exact List.mem_cons_self)
   obtain ⟨sl,e⟩:=I.base.slot L o ho (I.ok.frf L hL) hL fun z=>I.ok.exfs L z hL
   exact ⟨hk,⟨L,_,hf,hn,e,hd⟩,ih (fun b hb=>hs b (by unfold frs; rw [List.filterMap_cons,hf]; exact List.mem_cons_of_mem _ hb)) hr⟩
 exact all X.outer (fun _ hb=>hb) I.ok.funs
theorem Inv.stack (I:Inv X pins σ H s):s.heap.FunFrames X.base X.stack:=by
 rcases I.ok.stk with e | ⟨e,hf⟩
 ·rw [e]; exact I.funs
 ·rw [e]
  obtain ⟨m,hn,_⟩:=I.loc
  refine .cons (by rw [I.ok.kind]; decide) hf hn ?_ I.funs
  exact Heap.get?_none_of_le (Nat.le_trans I.ok.bsz I.ok.above)
theorem Inv.stkSub (I:Inv X pins σ H s):∀ b ∈ frs X.stack,b ∈ X.env.locals :: X.fs:=fun b hb=>by
 rcases I.ok.stk with e | ⟨e,hf⟩
 ·rw [e] at hb; exact List.mem_cons_of_mem _ hb
 ·rw [e] at hb
  unfold frs at hb
  rw [List.filterMap_cons,hf] at hb
  exact hb
theorem Inv.stkFree (I:Inv X pins σ H s):∀ b ∈ frs X.stack,H b = none:=fun b hb=>by
 rcases List.mem_cons.mp (I.stkSub b hb) with e | hb
 ·rw [e]; exact I.free
 ·obtain ⟨_,o,ho,_⟩:=I.ok.funs.mem hb
  exact I.base.free b o ho (I.ok.frf b hb) fun z=>I.ok.exfs b z hb
theorem Inv.step {g':Array GenState} {t':Nat} {d':Drawn} {ch:List Addr} (I:Inv X pins σ H s)
  (hch:∀ b ∈ ch,(b ∈ X.ex \/ X.s₀.heap.objs.size <= b) /\ b ≠ X.env.locals /\ (∀ x c,X.env.cells.lookup x = some c -> c ≠ b) /\ ∀ p ∈ X.pn ++ pins,p.1 ≠ b)
  (keep:∀ b o,b ≠ X.env.locals -> b ∉ X.fs -> b ∉ ch -> s.heap.get? b = some o -> H b = none -> h'.get? b = some o)
  (slot:∀ b o,b ≠ X.env.locals -> b ∈ X.fs -> b ∉ ch -> s.heap.get? b = some o -> H b = none -> ∃ sl,h'.get? b = some { o with slots:=sl }) (free:∀ b o,b ∉ ch -> s.heap.get? b = some o -> H b = none -> H' b = none)
  (there:∀ b o,b ∉ ch -> s.heap.get? b = some o -> ∃ o',h'.get? b = some o')
  (tups:∀ b xs,H b = some (.tup xs) -> H' b = some (.tup xs)) (frzs:∀ b o u,H b = some (.frz o u) -> H' b = some (.frz o u)) (tbls:∀ b ps,H b = some (.tbl ps) -> ∃ more,H' b = some (.tbl (ps ++ more)))
  (ns:∀ m,s.heap.Ns X.env.locals m -> h'.Ns X.env.locals m) (hok:HOk X.prog X.w H' h') (hg:AllBare g') :
  Inv X pins σ H' { s with heap:=h',gens:=g',drawn:=d',toks:=t' }:=by
 have neL:∀ b o,X.s₀.heap.get? b = some o -> b ≠ X.env.locals:=fun b o e=>Nat.ne_of_lt (Nat.lt_of_lt_of_le (Heap.lt_size e) I.ok.above)
 have neC:∀ b o,X.s₀.heap.get? b = some o -> b ∉ X.ex -> b ∉ ch:=fun b o e hx hb=>by
  rcases (hch b hb).1 with z | z
  ·exact hx z
  ·exact absurd (Nat.lt_of_lt_of_le (Heap.lt_size e) z) (Nat.lt_irrefl _)
 have cellK:∀ x c,X.env.cells.lookup x = some c -> ∀ v,s.heap.IsCell c v -> h'.IsCell c v:=fun x c e v ⟨o,ho,hd⟩=>by
  have nch:c ∉ ch:=fun z=>(hch c z).2.2.1 x c e rfl
  by_cases hc:c ∈ X.fs
  ·obtain ⟨sl,q⟩:=slot c o (I.cne x c e) hc nch ho (I.freeC x c e)
   exact ⟨_,q,hd⟩
  ·exact ⟨o,keep c o (I.cne x c e) hc nch ho (I.freeC x c e),hd⟩
 refine ⟨I.ok,I.os,hg,⟨fun b o e n hb hx=>?_,fun b o e n hb hx=>?_,fun b o e n hx=>?_,fun b o e hx=>?_,fun b xs e=>tups b xs (I.base.tups b xs e),fun b o xs e=>frzs b o xs (I.base.frzs b o xs e),fun b ps e=>?_⟩,?_,fun x c e=>?_,?_,fun x c e=>?_,fun p hp=>?_,hok,I.len⟩
 ·exact keep b o (neL b o e) hb (neC b o e hx) (I.base.keep b o e n hb hx) (I.base.free b o e n hx)
 ·obtain ⟨sl,e1⟩:=I.base.slot b o e n hb hx
  obtain ⟨sl',e2⟩:=slot b _ (neL b o e) hb (neC b o e hx) e1 (I.base.free b o e n hx)
  exact ⟨sl',e2⟩
 ·obtain ⟨o',e1⟩:=I.base.there b o e hx
  exact free b o' (neC b o e hx) e1 (I.base.free b o e n hx)
 ·obtain ⟨o',e1⟩:=I.base.there b o e hx
  exact there b o' (neC b o e hx) e1
 ·obtain ⟨m1,e1⟩:=I.base.tbls b ps e
  obtain ⟨m2,e2⟩:=tbls b _ e1
  exact ⟨m1 ++ m2,by rw [e2,Array.append_assoc]⟩
 ·obtain ⟨m,hn,hl⟩:=I.loc
  refine ⟨m,ns m hn,fun i x v e1 e2 e3=>?_⟩
  obtain ⟨u,r,l⟩:=hl i x v e1 e2 e3
  refine ⟨u,r,?_⟩
  rcases l with l | ⟨k,c,e,z⟩
  ·exact .inl l
  ·exact .inr ⟨k,c,e,cellK x c e _ z⟩
 ·obtain ⟨v,z⟩:=I.cell x c e
  exact ⟨v,cellK x c e v z⟩
 ·obtain ⟨m,⟨o,_,_,ho,_⟩,_⟩:=I.loc
  exact free _ o (fun z=>(hch _ z).2.1 rfl) ho I.free
 ·obtain ⟨v,o,ho,hd⟩:=I.cell x c e
  exact free c o (fun z=>(hch c z).2.2.1 x c e rfl) ho (I.freeC x c e)
 ·obtain ⟨e,n,ne,nf,d⟩:=I.pin p hp
  have nch:p.1 ∉ ch:=fun z=>(hch p.1 z).2.2.2 p hp rfl
  exact ⟨keep p.1 p.2 ne nf nch e n,free p.1 p.2 nch e n,ne,nf,d⟩
theorem Inv.un {t':Nat} (I:Inv X pins σ H s) (u:Un X.fs [] H H' s.heap h') (hok:HOk X.prog X.w H' h'):Inv X pins σ H' { s with heap:=h',toks:=t' }:=by
 obtain ⟨m,⟨o,es,ep,ho,r⟩,_⟩:=id I.loc
 obtain ⟨sl,hL⟩:=u.any ho I.free (by simp)
 exact I.step (g':=s.gens) (d':=s.drawn) (ch:=[]) (fun _ z=>nomatch z) (fun b o _ hb _ e n=>u.keep b o e n hb (by simp)) (fun b o _ hb _ e n=>u.slot b o e n hb (by simp)) (fun b o _ e n=>u.free b o e n (by simp)) (fun b o _ e=>u.there b o e (by simp)) u.tups u.frzs u.tbls (fun m' hm=>by
  obtain ⟨o',es',ep',ho',r'⟩:=hm
  rw [ho] at ho'; cases ho'
  exact ⟨_,es',ep',hL,r'⟩) hok I.bare
theorem Inv.call {g':Array GenState} {t':Nat} {d':Drawn} {ch:List Addr} (I:Inv X pins σ H s) (u:Un (frs X.stack) ch H H' s.heap h') (hok:HOk X.prog X.w H' h') (hg:AllBare g')
  (hch:∀ b ∈ ch,(b ∈ X.ex \/ X.s₀.heap.objs.size <= b) /\ b ≠ X.env.locals /\ (∀ x c,X.env.cells.lookup x = some c -> c ≠ b) /\ ∀ p ∈ X.pn ++ pins,p.1 ≠ b) :
  Inv X pins σ H' { s with heap:=h',gens:=g',drawn:=d',toks:=t' }:=by
 obtain ⟨m,⟨o,es,ep,ho,r⟩,_⟩:=id I.loc
 obtain ⟨sl,hL⟩:=u.any ho I.free fun z=>(hch _ z).2.1 rfl
 exact I.step (ch:=ch) hch (fun b o hL hb hc e n=>u.keep b o e n (fun z=>(List.mem_cons.mp (I.stkSub b z)).elim hL hb) hc) (fun b o _ _ hc e n=>u.any e n hc) (fun b o hc e n=>u.free b o e n hc) (fun b o hc e=>u.there b o e hc) u.tups u.frzs u.tbls (fun m' hm=>by
  obtain ⟨o',es',ep',ho',r'⟩:=hm
  rw [ho] at ho'; cases ho'
  exact ⟨_,es',ep',hL,r'⟩) hok hg
theorem Inv.turned {t':Nat} {it:Addr} (I:Inv X pins σ H s) (k:∀ b o,b ≠ it -> s.heap.get? b = some o -> h'.get? b = some o) (hn:H it = none) (hL:it ≠ X.env.locals)
  (h1:it ∈ X.ex \/ X.s₀.heap.objs.size <= it) (h2:∀ x c,X.env.cells.lookup x = some c -> c ≠ it) (h3:∀ p ∈ X.pn ++ pins,p.1 ≠ it):Inv X pins σ H { s with heap:=h',toks:=t' }:=by
 have nit:∀ b u,H b = some u -> b ≠ it:=fun b u e z=>by rw [z,hn] at e; cases e
 refine I.step (g':=s.gens) (d':=s.drawn) (ch:=[it]) (fun b hb=>?_) (fun b o _ _ hc e _=>k b o (fun z=>hc (by simp [z])) e) (fun b o _ _ hc e _=>⟨o.slots,k b o (fun z=>hc (by simp [z])) e⟩) (fun _ _ _ _ n=>n)
  (fun b o hc e=>⟨o,k b o (fun z=>hc (by simp [z])) e⟩) (fun _ _ e=>e) (fun _ _ _ e=>e) (fun b ps e=>⟨#[],by rw [e]; simp⟩) (fun m hm=>?_) (fun b u e=>?_) I.bare
 ·have e:b = it:=by simpa using hb
  subst e
  exact ⟨h1,hL,h2,h3⟩
 ·obtain ⟨o,es,ep,ho,r⟩:=hm
  exact ⟨o,es,ep,k _ o (Ne.symm hL) ho,r⟩
 ·refine (I.hok b u e).stay (fun c v hc q=>k c v ?_ q) (fun _ q=>q) fun _ _ q=>q
  rcases hc with z | z
  ·rw [z]; exact nit b u e
  ·exact nit c _ z
theorem Inv.tok (I:Inv X pins σ H s) (t:Nat):Inv X pins σ H { s with toks:=t }:=I.un (h':=s.heap) (t':=t) Un.refl I.hok
theorem Inv.kept {t':Nat} (I:Inv X pins σ H s) (k:∀ b u,s.heap.get? b = some u -> h'.get? b = some u):Inv X pins σ H { s with heap:=h',toks:=t' }:=I.un (Un.kept k) (I.hok.kept k)
theorem Inv.laid {a:Addr} {o:HO} {t':Nat} (I:Inv X pins σ H s) (k:∀ b u,s.heap.get? b = some u -> h'.get? b = some u) (hp:s.heap.objs.size <= a) (new:yf X.prog X.w (upd H a o) h' a o) :
  Inv X pins σ (upd H a o) { s with heap:=h',toks:=t' }:=I.un (Un.laid k hp (I.hok.fresh hp)) (I.hok.laid k hp new)
theorem Inv.write {x e:Addr} {o:HO} {t':Nat} (I:Inv X pins σ H s) (mu:Mut (H x)) (he:e = x \/ H e = some (.own x)) (k:∀ b u,b ≠ e -> s.heap.get? b = some u -> h'.get? b = some u) (heo:∃ u,h'.get? e = some u)
  (new:yf X.prog X.w (upd H x o) h' x o):Inv X pins σ (upd H x o) { s with heap:=h',toks:=t' }:=I.un (Un.write mu he k heo) (I.hok.write mu he k heo new)
theorem Inv.pins_of {pins':List (Addr × Obj)} (I:Inv X pins σ H s) (h:∀ p ∈ pins',s.heap.get? p.1 = some p.2 /\ H p.1 = none /\ p.1 ≠ X.env.locals /\ p.1 ∉ X.fs /\ ∀ v,p.2.data ≠ .cell v):Inv X pins' σ H s :=
 ⟨I.ok,I.os,I.bare,I.base,I.loc,I.cell,I.free,I.freeC,fun p hp=>(List.mem_append.mp hp).elim (fun z=>I.pin p (List.mem_append_left _ z)) (h p),I.hok,I.len⟩
theorem uZ {N:List Str} (hN:N.Nodup) {i j:Nat} {x:Str} (a:N[i]? = some x) (b:N[j]? = some x):i = j:=by
 obtain ⟨h1,e1⟩:=List.getElem?_eq_some_iff.mp a
 obtain ⟨h2,e2⟩:=List.getElem?_eq_some_iff.mp b
 exact (List.getElem_inj hN).mp (e1.trans e2.symm)
theorem Zf {M:Model} {A:Around} {E:VS7} {i:Nat} {x:Str} {v:V} {u:Value} {Q:Unit -> Shared -> Prop} (I:Inv X pins σ H s) (hN:X.N.Nodup) (hi:X.N[i]? = some x) (hx:Loc X.env.scope x) (r:RelV v u)
  (h:∀ s',Inv X pins (σ.set i (some v)) H s' -> (∃ a,Heap.SameBut a s.heap s'.heap /\ (a = X.env.locals \/ X.env.cells.lookup x = some a)) -> Q () s') (hf:X.fn x = true \/ X.env.scope.names.lookup x = some .local :=by first | exact .inl rfl | exact .inr rfl | assumption):wpAny M A (storeName X.env x u) Q E s:=by
 obtain ⟨m,hn,hl⟩:=id I.loc
 have hcls:(X.env.scope.kind == .class || (X.env.scope.kind == .module && X.env.locals != X.env.globals)) = false:=by rw [I.ok.kind]; rfl
 have hiσ:i < σ.length:=by rw [I.len]; exact (List.getElem?_eq_some_iff.mp hi).1
 have cne:=I.cne
 have tracked:∀ {a:Addr} {h':Heap},(∃ o,s.heap.get? a = some o /\ H a = none) -> Heap.SameBut a s.heap h' -> HOk X.prog X.w H h':=fun {a h'} ha hs b ob e=>by
  obtain ⟨_,_,hfree⟩:=ha
  refine (I.hok b ob e).stay (fun c w' hc q=>(hs.2 c ?_).trans q) (fun _ q=>q) fun _ _ q=>q
  rintro rfl
  rcases hc with rfl | hc
  ·rw [hfree] at e; cases e
  ·rw [hfree] at hc; cases hc
 rcases hx with hk | hk
 ·refine wpAny_storeName_local hk hn (fun h' hn' hs=>?_) hcls
  obtain ⟨oL,_,_,hoL,_⟩:=id hn
  refine h _ ⟨I.ok,I.os,I.bare,⟨fun b o e n hb hx=>?_,fun b o e n hb hx=>?_,I.base.free,fun b o e hx=>?_,I.base.tups,I.base.frzs,I.base.tbls⟩,⟨_,hn',fun j y v' e1 e2 e3=>?_⟩,fun y c e=>?_,I.free,I.freeC,fun p hp=>?_,tracked ⟨oL,hoL,I.free⟩ hs,by simpa using I.len⟩ ⟨_,hs,.inl rfl⟩
  ·exact (hs.2 b (Nat.ne_of_lt (Nat.lt_of_lt_of_le (Heap.lt_size e) I.ok.above))).trans (I.base.keep b o e n hb hx)
  ·obtain ⟨sl,e1⟩:=I.base.slot b o e n hb hx
   exact ⟨sl,(hs.2 b (Nat.ne_of_lt (Nat.lt_of_lt_of_le (Heap.lt_size e) I.ok.above))).trans e1⟩
  ·obtain ⟨o',e1⟩:=I.base.there b o e hx
   exact ⟨o',(hs.2 b (Nat.ne_of_lt (Nat.lt_of_lt_of_le (Heap.lt_size e) I.ok.above))).trans e1⟩
  ·by_cases hj:j = i
   ·subst hj
    rw [hi] at e1; cases e1
    rw [List.getElem?_set_self hiσ] at e2
    cases e2
    exact ⟨u,r,.inl ⟨hk,by simp⟩⟩
   ·rw [List.getElem?_set_ne (Ne.symm hj)] at e2
    obtain ⟨u',r',q⟩:=hl j y v' e1 e2 e3
    refine ⟨u',r',?_⟩
    rcases q with ⟨k,e⟩ | ⟨k,c,e,z⟩
    ·refine .inl ⟨k,?_⟩
     have:y ≠ x:=fun e=>hj (uZ hN e1 (e ▸ hi))
     simp [this,e]
    ·exact .inr ⟨k,c,e,z.sameBut hs (cne y c e)⟩
  ·obtain ⟨w',z⟩:=I.cell y c e
   exact ⟨w',z.sameBut hs (cne y c e)⟩
  ·obtain ⟨e,n,ne,nf,d⟩:=I.pin p hp
   exact ⟨(hs.2 p.1 ne).trans e,n,ne,nf,d⟩
 ·have hfn:X.fn x = true:=by
   rcases hf with z | z
   ·exact z
   ·rw [z] at hk; cases hk
  obtain ⟨c,hc⟩:=I.ok.has x (.inl hk)
  obtain ⟨w',z⟩:=I.cell x c hc
  refine wpAny_storeName_cell I.ok.kind hk hc z (fun h' hc' hs=>?_)
  obtain ⟨oc,hoc,hocd⟩:=id z
  refine h { s with heap:=h' } ⟨I.ok,I.os,I.bare,⟨fun b o e n hb hx=>?_,fun b o e n hb hx=>?_,I.base.free,fun b o e hx=>?_,I.base.tups,I.base.frzs,I.base.tbls⟩,⟨m,hn.sameBut hs (Ne.symm (cne x c hc)),fun j y v' e1 e2 e3=>?_⟩,fun y c' e=>?_,I.free,I.freeC,fun p hp=>?_,tracked ⟨oc,hoc,I.freeC x c hc⟩ hs,by simpa using I.len⟩ ⟨c,hs,.inr hc⟩
  ·exact (hs.2 b (Nat.ne_of_lt (Nat.lt_of_lt_of_le (Heap.lt_size e) (I.ok.cab x c hfn hc)))).trans (I.base.keep b o e n hb hx)
  ·obtain ⟨sl,e1⟩:=I.base.slot b o e n hb hx
   exact ⟨sl,(hs.2 b (Nat.ne_of_lt (Nat.lt_of_lt_of_le (Heap.lt_size e) (I.ok.cab x c hfn hc)))).trans e1⟩
  ·obtain ⟨o',e1⟩:=I.base.there b o e hx
   exact ⟨o',(hs.2 b (Nat.ne_of_lt (Nat.lt_of_lt_of_le (Heap.lt_size e) (I.ok.cab x c hfn hc)))).trans e1⟩
  ·by_cases hj:j = i
   ·subst hj
    rw [hi] at e1; cases e1
    rw [List.getElem?_set_self hiσ] at e2
    cases e2
    exact ⟨u,r,.inr ⟨.inl hk,c,hc,hc'⟩⟩
   ·rw [List.getElem?_set_ne (Ne.symm hj)] at e2
    obtain ⟨u',r',q⟩:=hl j y v' e1 e2 e3
    refine ⟨u',r',?_⟩
    rcases q with q | ⟨k,c',e,z'⟩
    ·exact .inl q
    ·refine .inr ⟨k,c',e,z'.sameBut hs ?_⟩
     rintro rfl
     exact hj (uZ hN e1 (I.ok.inj _ _ _ e hc ▸ hi))
  ·by_cases hcc:c' = c
   ·subst hcc; exact ⟨_,hc'⟩
   ·obtain ⟨w2,z2⟩:=I.cell y c' e
    exact ⟨w2,z2.sameBut hs hcc⟩
  ·obtain ⟨e,n,ne,nf,d⟩:=I.pin p hp
   refine ⟨(hs.2 p.1 ?_).trans e,n,ne,nf,d⟩
   intro q
   rw [q,hoc] at e
   have q':oc = p.2:=Option.some.inj e
   exact d w' (by rw [← q']; exact hocd)
theorem vy {M:Model} {A:Around} {E:VS7} {i:Nat} {x:Str} {v:V} {u:Value} {Q:Unit -> Shared -> Prop} (I:Inv X pins σ H s) (hN:X.N.Nodup) (hi:X.N[i]? = some x) (hx:Loc X.env.scope x) (r:RelV v u)
  (h:∀ s',Inv X pins (σ.set i (some v)) H s' -> Q () s') (hf:X.fn x = true \/ X.env.scope.names.lookup x = some .local :=by first | exact .inl rfl | exact .inr rfl | assumption):wpAny M A (storeName X.env x u) Q E s :=
 Zf I hN hi hx r (fun s' I' _=>h s' I') hf
theorem Inv.call' {s':Shared} {ch:List Addr} (I:Inv X pins σ H s) (ho:s'.os = s.os) (u:Un (frs X.stack) ch H H' s.heap s'.heap) (hok:HOk X.prog X.w H' s'.heap) (hg:AllBare s'.gens)
  (hch:∀ b ∈ ch,(b ∈ X.ex \/ X.s₀.heap.objs.size <= b) /\ b ≠ X.env.locals /\ (∀ x c,X.env.cells.lookup x = some c -> c ≠ b) /\ ∀ p ∈ X.pn ++ pins,p.1 ≠ b):Inv X pins σ H' s':=by
 obtain ⟨h',g',d',t',o'⟩:=s'
 have e:o' = s.os:=ho
 subst e
 exact I.call (g':=g') (t':=t') (d':=d') u hok hg hch
end
abbrev XK:=Value -> Option Addr -> Hp -> Prop
abbrev St:=List (Option V)
abbrev VK:=V -> Hp -> Prop
abbrev TE:=St -> Hp -> VK -> Prop
abbrev TT:=St -> Hp -> (Bool -> Hp -> Prop) -> Prop
abbrev TA:=St -> Hp -> (List V -> Hp -> Prop) -> Prop
structure Ends where
 nx:St -> Hp -> Prop
 rt:VK
 bk:St -> Hp -> Prop:=fun _ _=>False
 ct:St -> Hp -> Prop:=fun _ _=>False
abbrev TS:=Ends -> St -> Hp -> Prop
def EP (X:Cx) (pins:List (Addr × Obj)) (σ:St) (Q:VK) (u:Value) (s':Shared):Prop:=∃ v H',Inv X pins σ H' s' /\ RelV v u /\ Q v H'
def TP (X:Cx) (pins:List (Addr × Obj)) (σ:St) (Q:Bool -> Hp -> Prop) (b:Bool) (s':Shared):Prop:=∃ H',Inv X pins σ H' s' /\ Q b H'
def AP (X:Cx) (pins:List (Addr × Obj)) (σ:St) (Q:List V -> Hp -> Prop) (us:List Value) (s':Shared):Prop:=∃ vs H',Inv X pins σ H' s' /\ Vals vs us /\ Q vs H'
def SP (X:Cx) (pins:List (Addr × Obj)) (D:Ends) (f:Flow) (s':Shared):Prop :=
 match f with
 | .next=>∃ σ' H',Inv X pins σ' H' s' /\ D.nx σ' H'
 | .brk=>∃ σ' H',Inv X pins σ' H' s' /\ D.bk σ' H'
 | .cont=>∃ σ' H',Inv X pins σ' H' s' /\ D.ct σ' H'
 | .ret u=>∃ v σ' H',Inv X pins σ' H' s' /\ RelV v u /\ D.rt v H'
def PE (X:Cx) (e:Expr) (t:TE):Prop :=
 ∀ (pins:List (Addr × Obj)) (s:Shared) (σ:St) (H:Hp) (Q:VK),Inv X pins σ H s -> t σ H Q -> wpAny (model X.prog X.w) X.A (eval e X.env) (EP X pins σ Q) X.xe s
def PT (X:Cx) (e:Expr) (t:TT):Prop :=
 ∀ (pins:List (Addr × Obj)) (s:Shared) (σ:St) (H:Hp) (Q:Bool -> Hp -> Prop),Inv X pins σ H s -> t σ H Q -> wpAny (model X.prog X.w) X.A (isTrue e X.env (eval e X.env)) (TP X pins σ Q) X.xe s
def PW (X:Cx) (e:Expr) (t:TT):Prop :=
 ∀ (whole:Sem Value) (pins:List (Addr × Obj)) (s:Shared) (σ:St) (H:Hp) (Q:Bool -> Hp -> Prop),Inv X pins σ H s -> t σ H Q -> wpAny (model X.prog X.w) X.A (isTrue e X.env whole) (TP X pins σ Q) X.xe s
theorem PW.pt {X:Cx} {e:Expr} {t:TT} (h:PW X e t):PT X e t:=h _
def PA (X:Cx) (es:List Expr) (t:TA):Prop :=
 ∀ (pos:Pos) (pins:List (Addr × Obj)) (s:Shared) (σ:St) (H:Hp) (Q:List V -> Hp -> Prop),Inv X pins σ H s -> t σ H Q -> wpAny (model X.prog X.w) X.A (spliced (backTo pos (starEach es X.env))) (AP X pins σ Q) X.xe s
def PS (X:Cx) (st:Stmt) (t:TS):Prop :=
 ∀ (pins:List (Addr × Obj)) (s:Shared) (σ:St) (H:Hp) (D:Ends),Inv X pins σ H s -> t D σ H -> wpAny (model X.prog X.w) X.A (exec st X.env) (SP X pins D) X.xe s
def PSs (X:Cx) (st:List Stmt) (t:TS):Prop :=
 ∀ (pins:List (Addr × Obj)) (s:Shared) (σ:St) (H:Hp) (D:Ends),Inv X pins σ H s -> t D σ H -> wpAny (model X.prog X.w) X.A (execs st X.env) (SP X pins D) X.xe s
theorem thn {α:Type} {t:Sem α} {Q Q':α -> Shared -> Prop} {M:Model} {A:Around} {E:VS7} {s:Shared} (h:wpAny M A t Q E s) (hQ:∀ a s,Q a s -> Q' a s):wpAny M A t Q' E s:=wpAny_mono h hQ fun _ _ x=>x
end L2
namespace L2
open PySem PySem.Spec PyProof.Rows
section
variable {X:Cx}
def tVar (i:Nat):TE:=fun σ H Q=>∃ v,σ[i]? = some (some v) /\ Q v H
def tC (v:V):TE:=fun _ H Q=>Q v H
theorem V1 {i:Nat} {x:Str} {pos:Pos} (hN:X.N[i]? = some x) (hv:Vis X.env.scope x) (hd:(x == ("__debug__":Str)) = false:=by decide) (hcd:(x == ("__classdict__":Str)) = false:=by decide):PE X (.Name x pos) (tVar i):=by
 intro pins s σ H Q I h
 obtain ⟨v,e,h⟩:=h
 obtain ⟨m,hn,hl⟩:=I.loc
 obtain ⟨u,r,l⟩:=hl i x v hN e hv
 have fin:EP X pins σ Q u s:=⟨v,H,I,r,h⟩
 rcases l with ⟨hk,hm⟩ | ⟨hk,c,hc,hcell⟩
 ·exact wpAny_Name (wpAny_loadName_local I.ok.kind hk hn hm fin) hd
 ·rcases hk with hk | hk
  ·exact wpAny_Name (wpAny_loadName_cell I.ok.kind hk hc hcell fin) hd
  ·exact wpAny_Name (wpAny_loadName_free I.ok.kind hk hc hcell fin hcd) hd
theorem zg {i j pos}:PE X (.Constant (.int i) j pos) (tC (.int i)):=fun _ _ _ H _ I h=>wpAny_Constant_int ⟨.int i,H,I.tok _,⟨_,rfl⟩,h⟩
theorem vq {b j pos}:PE X (.Constant (.bool b) j pos) (tC (.bl b)):=fun _ _ _ H _ I h=>Constant_bool ⟨.bl b,H,I,rfl,h⟩
theorem yt {j pos}:PE X (.Constant .none j pos) (tC .non):=fun _ _ _ H _ I h=>Constant_none ⟨.non,H,I,rfl,h⟩
theorem zM {x j pos}:PE X (.Constant (.str x) j pos) (tC (.str x)):=fun _ _ _ H _ I h=>Calls.Constant_str ⟨.str x,H,I.tok _,⟨_,rfl⟩,h⟩
def Gl (X:Cx) (x:Str):Prop:=X.env.kindOf x = some .globalImplicit
theorem wO {E:VS7} {pins:List (Addr × Obj)} {s:Shared} {σ:St} {H:Hp} {x:Str} {u:Value} {pos:Pos} {Q:VS7} (I:Inv X pins σ H s) (hg:Gl X x) (hm:X.mg x = some u) (h:Q u s)
  (hd:(x == ("__debug__":Str)) = false:=by decide):wpAny (model X.prog X.w) X.A (eval (.Name x pos) X.env) Q E s :=
 Calls.Name_function_global I.ok.kind hg (Calls.loadGlobal_global (by rw [I.ok.glob]; exact I.mod.glob.keeps I.bk) hm h) hd
theorem vg {E:VS7} {pins:List (Addr × Obj)} {s:Shared} {σ:St} {H:Hp} {x:Str} {u:Value} {pos:Pos} {Q:VS7} (I:Inv X pins σ H s) (hg:Gl X x) (hm:X.mg x = none) (hv:bootBuiltins x = some u) (h:Q u s)
  (hn:x ≠ "__name__":=by decide) (hd:(x == ("__debug__":Str)) = false:=by decide):wpAny (model X.prog X.w) X.A (eval (.Name x pos) X.env) Q E s:=by
 obtain ⟨mb,h1,h2⟩:=I.mod.blt
 exact Calls.Name_function_global I.ok.kind hg (Calls.loadGlobal_builtin (by rw [I.ok.glob]; exact I.mod.glob.keeps I.bk) hm (by rw [I.ok.blt]; exact h1.keeps I.bk) ((h2 x hn).trans hv) h) hd
theorem zC {x:Str} {v:V} {u:Value} {pos:Pos} (hg:Gl X x) (hm:X.mg x = some u) (r:RelV v u) (hd:(x == ("__debug__":Str)) = false:=by decide):PE X (.Name x pos) (tC v) :=
 fun _ _ _ H _ I h=>wO I hg hm ⟨v,H,I,r,h⟩ hd
theorem WO {x:Str} {v:V} {u:Value} {pos:Pos} (hg:Gl X x) (hm:X.mg x = none) (hv:bootBuiltins x = some u) (r:RelV v u) (hn:x ≠ "__name__":=by decide) (hd:(x == ("__debug__":Str)) = false:=by decide):PE X (.Name x pos) (tC v) :=
 fun _ _ _ H _ I h=>vg I hg hm hv ⟨v,H,I,r,h⟩ hn hd
variable {a b:Expr} {ta tb:TE} {pos:Pos}
def PC (X:Cx) (op:CmpOp) (a b:Expr) (t:TE):Prop :=
 ∀ (pins:List (Addr × Obj)) (s:Shared) (σ:St) (H:Hp) (Q:VK),Inv X pins σ H s -> t σ H Q →
  wpAny (model X.prog X.w) X.A (eval a X.env) (fun v s₁=>wpAny (model X.prog X.w) X.A (eval b X.env) (fun u s₂=>wpAny (model X.prog X.w) X.A (compareOp op v u) (EP X pins σ Q) X.xe s₂) X.xe s₁) X.xe s
theorem qG (b:Expr) {op:CmpOp} (h:op ≠ .In) (h2:op ≠ .NotIn):behindInMarks op b = false:=by
 have e1:(op == CmpOp.In) = false:=by cases op <;> first | rfl | exact absurd rfl h
 have e2:(op == CmpOp.NotIn) = false:=by cases op <;> first | rfl | exact absurd rfl h2
 cases b <;> simp [behindInMarks,e1,e2]
def tIsN (ta:TE):TE:=fun σ H Q=>ta σ H fun x H1=>Q (.bl (decide (x = .non))) H1
def Td (ta:TE):TE:=fun σ H Q=>ta σ H fun x H1=>Q (.bl (!decide (x = .non))) H1
theorem RelV.none_iff {x:V} {v:Value} (r:RelV x v):(v == Value.none) = decide (x = .non):=by
 cases x with
 | non=>cases r; rfl
 | bl _=>cases r; rfl
 | int _=>obtain ⟨t,rfl⟩:=r; rfl
 | str _=>obtain ⟨t,rfl⟩:=r; rfl
 | byt _=>obtain ⟨t,rfl⟩:=r; rfl
 | flt _=>obtain ⟨t,rfl⟩:=r; rfl
 | ref _=>cases r; rfl
 | ty _=>cases r; rfl
theorem xB {j pos'} (ha:PE X a ta):PC X .Is a (.Constant .none j pos') (tIsN ta):=by
 intro pins s σ H Q I h
 refine thn (ha pins s σ H _ I h) fun v s1 ⟨x,H1,I1,r1,q1⟩=>?_
 exact Constant_none (is_none_gen ⟨.bl _,H1,I1,by rw [r1.none_iff]; rfl,q1⟩)
theorem xk {j pos'} (ha:PE X a ta):PC X .IsNot a (.Constant .none j pos') (Td ta):=by
 intro pins s σ H Q I h
 refine thn (ha pins s σ H _ I h) fun v s1 ⟨x,H1,I1,r1,q1⟩=>?_
 exact Constant_none (isnot_none_gen ⟨.bl _,H1,I1,by rw [r1.none_iff]; rfl,q1⟩)
def tB (t:TE):TT:=fun σ H Q=>t σ H fun x H1=>∃ c,x = .bl c /\ Q c H1
theorem X4 {op:CmpOp} {t:TE} (h:PC X op a b t) (h1:behindInMarks op b = false:=by first | exact qG _ (by decide) (by decide) | rfl):PE X (.Compare a [op] [b] pos) t:=fun pins s σ H Q I hw=>wpAny_Compare1 (h pins s σ H Q I hw) h1
theorem yB {op:CmpOp} {t:TE} (h:PC X op a b t) (h1:behindInMarks op b = false:=by first | exact qG _ (by decide) (by decide) | rfl):PT X (.Compare a [op] [b] pos) (tB t):=by
 intro pins s σ H Q I hw
 refine wpAny_isTrue_Compare1 (thn (h pins s σ H _ I hw) fun v s1 h1=>thn h1 fun u s2 h2=>thn h2 fun c s3 ⟨x,H1,I1,r1,q1⟩=>?_) h1
 obtain ⟨d,rfl,q⟩:=q1
 cases r1
 exact wpAny_truthy_bool ⟨H1,I1,q⟩
theorem yd {e:Expr} {t:TE} (h:PE X e t) (he:∀ whole,isTrue e X.env whole = (do let v ← whole; standAt e.pos; holding [v] (truthy v)):=by intro _; rfl):PT X e (tB t):=by
 intro pins s σ H Q I hw
 refine isTrue_plain (thn (h pins s σ H _ I hw) fun v s1 ⟨x,H1,I1,r1,q1⟩=>?_) (he _)
 obtain ⟨d,rfl,q⟩:=q1
 cases r1
 exact wpAny_truthy_bool ⟨H1,I1,q⟩
variable {tA tB':TT} {rest:List Expr}
def tAnd (t u:TT):TT:=fun σ H Q=>t σ H fun c H1=>if c = true then u σ H1 Q else Q false H1
def tOr (t u:TT):TT:=fun σ H Q=>t σ H fun c H1=>if c = true then Q true H1 else u σ H1 Q
def tNot (t:TT):TT:=fun σ H Q=>t σ H fun c H1=>Q (!c) H1
theorem yD (ha:PT X a tA):PW X (.BoolOp .And [a] pos) tA:=by
 intro wh pins s σ H Q I h
 refine isTrue_and (thn (ha pins s σ H Q I h) fun c s1 e=>?_)
 cases c with
 | true=>exact isTrue_and_nil e
 | false=>exact e
theorem xv (ha:PT X a tA):PW X (.BoolOp .Or [a] pos) tA:=by
 intro wh pins s σ H Q I h
 refine isTrue_or (thn (ha pins s σ H Q I h) fun c s1 e=>?_)
 cases c with
 | false=>exact isTrue_or_nil e
 | true=>exact e
theorem y4 (ha:PT X a tA) (hb:PW X (.BoolOp .And (b :: rest) pos) tB'):PW X (.BoolOp .And (a :: b :: rest) pos) (tAnd tA tB'):=by
 intro wh pins s σ H Q I h
 refine isTrue_and (thn (ha pins s σ H _ I h) fun c s1 ⟨H1,I1,q1⟩=>?_)
 cases c with
 | true=>exact hb wh pins s1 σ H1 Q I1 q1
 | false=>exact ⟨H1,I1,q1⟩
theorem wP (ha:PT X a tA) (hb:PW X (.BoolOp .Or (b :: rest) pos) tB'):PW X (.BoolOp .Or (a :: b :: rest) pos) (tOr tA tB'):=by
 intro wh pins s σ H Q I h
 refine isTrue_or (thn (ha pins s σ H _ I h) fun c s1 ⟨H1,I1,q1⟩=>?_)
 cases c with
 | true=>exact ⟨H1,I1,q1⟩
 | false=>exact hb wh pins s1 σ H1 Q I1 q1
theorem yC (ha:PT X a tA):PT X (.UnaryOp .Not a pos) (tNot tA):=by
 intro pins s σ H Q I h
 exact isTrue_not (ha pins s σ H (fun c H1=>Q (!c) H1) I h)
def Te (ta tb:TE):TE:=fun σ H Q=>ta σ H fun x H1=>∃ c,x = .bl c /\ if c = true then tb σ H1 Q else Q (.bl false) H1
def tOrV (ta tb:TE):TE:=fun σ H Q=>ta σ H fun x H1=>∃ c,x = .bl c /\ if c = true then Q (.bl true) H1 else tb σ H1 Q
def Tf (ta:TE):TE:=fun σ H Q=>ta σ H fun x H1=>∃ c,x = .bl c /\ Q (.bl (!c)) H1
theorem vh {op} {t:TE} (h:PE X a t):PE X (.BoolOp op [a] pos) t:=fun pins s σ H Q I hw=>BoolOp_one (h pins s σ H Q I hw)
theorem qH (ha:PE X a ta) (hb:PE X (.BoolOp .And (b :: rest) pos) tb):PE X (.BoolOp .And (a :: b :: rest) pos) (Te ta tb):=by
 intro pins s σ H Q I h
 refine BoolOp_and (thn (ha pins s σ H _ I h) fun v s1 ⟨x,H1,I1,r1,q1⟩=>?_)
 obtain ⟨c,rfl,q1⟩:=q1
 cases r1
 refine wpAny_truthy_bool ?_
 cases c with
 | true=>exact hb pins s1 σ H1 Q I1 q1
 | false=>exact ⟨.bl false,H1,I1,rfl,q1⟩
theorem Y4 (ha:PE X a ta) (hb:PE X (.BoolOp .Or (b :: rest) pos) tb):PE X (.BoolOp .Or (a :: b :: rest) pos) (tOrV ta tb):=by
 intro pins s σ H Q I h
 refine BoolOp_or (thn (ha pins s σ H _ I h) fun v s1 ⟨x,H1,I1,r1,q1⟩=>?_)
 obtain ⟨c,rfl,q1⟩:=q1
 cases r1
 refine wpAny_truthy_bool ?_
 cases c with
 | false=>exact hb pins s1 σ H1 Q I1 q1
 | true=>exact ⟨.bl true,H1,I1,rfl,q1⟩
theorem qI (ha:PE X a ta):PE X (.UnaryOp .Not a pos) (Tf ta):=by
 intro pins s σ H Q I h
 refine UnaryOp_ (thn (ha pins s σ H _ I h) fun v s1 ⟨x,H1,I1,r1,q1⟩=>?_)
 obtain ⟨c,rfl,q1⟩:=q1
 cases r1
 exact not_of (wpAny_truthy_bool ⟨.bl (!c),H1,I1,rfl,q1⟩)
def tIf (t:TT) (ta tb:TE):TE:=fun σ H Q=>t σ H fun c H1=>if c = true then ta σ H1 Q else tb σ H1 Q
theorem zX {c:Expr} (hc:PT X c tA) (ha:PE X a ta) (hb:PE X b tb):PE X (.IfExp c a b pos) (tIf tA ta tb):=by
 intro pins s σ H Q I h
 refine wpAny_IfExp (thn (hc pins s σ H _ I h) fun d s1 ⟨H1,I1,q1⟩=>?_)
 cases d with
 | true=>exact ha pins s1 σ H1 Q I1 q1
 | false=>exact hb pins s1 σ H1 Q I1 q1
end
end L2
namespace L2
open PySem PySem.Spec PyProof.Rows
def SqL (K:FG7) (H:Hp) (a:Addr) (xs:List V):Prop :=
 Rd H a (.lst xs) ∨
  ∃ (o:Obj) (its:Array Value) (n:Nat),K.lookup a = some o /\ o.cls = .type "list" /\ o.dict = none /\ o.data = .seq its n /\ its.size <= sizeLine /\ Vals xs its.toList
def SqT (K:FG7) (H:Hp) (a:Addr) (xs:List V):Prop :=
 Rd H a (.tup xs) ∨
  ∃ (o:Obj) (its:Array Value) (n:Nat),K.lookup a = some o /\ o.cls = .type "tuple" /\ o.data = .seq its n /\ its.size <= sizeLine /\ Vals xs its.toList
def absV:Value -> Option V
 | .none=>some .non
 | .bool b=>some (.bl b)
 | .int i _=>some (.int i)
 | .str x _=>some (.str x)
 | .bytes b _=>some (.byt b)
 | .float b _=>some (.flt b)
 | .ref a=>some (.ref a)
 | .type n=>some (.ty n)
 | _=>none
theorem RelV.abs {x:V} {u:Value} (r:RelV x u):absV u = some x:=by
 cases x with
 | non=>cases r; rfl
 | bl _=>cases r; rfl
 | int _=>obtain ⟨t,rfl⟩:=r; rfl
 | str _=>obtain ⟨t,rfl⟩:=r; rfl
 | byt _=>obtain ⟨t,rfl⟩:=r; rfl
 | flt _=>obtain ⟨t,rfl⟩:=r; rfl
 | ref _=>cases r; rfl
 | ty _=>cases r; rfl
theorem RelV.inj {x y:V} {u:Value} (r:RelV x u) (q:RelV y u):x = y:=Option.some.inj (r.abs.symm.trans q.abs)
theorem Vals.inj:∀ {xs ys:List V} {us:List Value},Vals xs us -> Vals ys us -> xs = ys
 | _,_,_,.nil,.nil=>rfl
 | _,_,_,.cons r t,.cons r' t'=>by rw [r.inj r',Vals.inj t t']
section
variable {X:Cx} {pins:List (Addr × Obj)} {σ:St} {H:Hp} {s:Shared} {a:Addr} {xs ys:List V}
theorem SqL.of {K:FG7} (h:H a = some (.lst xs)):SqL K H a xs:=.inl (.inl h)
theorem SqT.of {K:FG7} (h:H a = some (.tup xs)):SqT K H a xs:=.inl (.inl h)
theorem Inv.list (I:Inv X pins σ H s) (h:SqL X.K H a xs):∃ its:List Value,Vals xs its /\ PlainL s.heap a its.toArray /\ xs.length <= sizeLine:=by
 rcases h with h | ⟨o,its,n,hk,hc,hd,hs,hz,r⟩
 ·obtain ⟨z,its,n,r,e⟩:=h.ok I.hok
  exact ⟨its,r,⟨_,n,e,rfl,rfl,rfl⟩,z⟩
 ·refine ⟨its.toList,r,⟨o,n,I.kIn a o hk,hc,hd,by simpa using hs⟩,?_⟩
  have e:=r.length
  simp only [Array.length_toList] at e
  omega
theorem Inv.tuple (I:Inv X pins σ H s) (h:SqT X.K H a xs):∃ its:List Value,Vals xs its /\ IsTup s.heap a its.toArray /\ xs.length <= sizeLine:=by
 rcases h with h | ⟨o,its,n,hk,hc,hs,hz,r⟩
 ·obtain ⟨z,its,r,p⟩:=h.ok I.hok
  exact ⟨its,r,p,z⟩
 ·refine ⟨its.toList,r,⟨o,I.kIn a o hk,hc,n,by simpa using hs⟩,?_⟩
  have e:=r.length
  simp only [Array.length_toList] at e
  omega
theorem Inv.list_inj (I:Inv X pins σ H s) (h:SqL X.K H a xs) (h':SqL X.K H a ys):xs = ys:=by
 obtain ⟨its,r,⟨o,n,e,_,_,d⟩,_⟩:=I.list h
 obtain ⟨its',r',⟨o',n',e',_,_,d'⟩,_⟩:=I.list h'
 rw [e] at e'; cases e'
 rw [d] at d'
 injection d' with d1 _
 have:its = its':=by simpa using congrArg Array.toList d1
 subst this
 exact r.inj r'
theorem Inv.tuple_inj (I:Inv X pins σ H s) (h:SqT X.K H a xs) (h':SqT X.K H a ys):xs = ys:=by
 obtain ⟨its,r,⟨o,e,_,n,d⟩,_⟩:=I.tuple h
 obtain ⟨its',r',⟨o',e',_,n',d'⟩,_⟩:=I.tuple h'
 rw [e] at e'; cases e'
 rw [d] at d'
 injection d' with d1 _
 have:its = its':=by simpa using congrArg Array.toList d1
 subst this
 exact r.inj r'
end
abbrev Cx.wish (X:Cx) (E:VS7):Cx:={ X with xe:=E }
abbrev Cx.nox (X:Cx):Cx:=X.wish fun _ _=>False
theorem Cx.Ok.wish {X:Cx} (ok:X.Ok) (E:VS7):(X.wish E).Ok :=
 ⟨ok.mod,ok.kind,ok.glob,ok.blt,ok.above,ok.inj,ok.has,ok.cab,ok.hd,ok.frames,ok.stk,ok.exf,ok.bs,ok.bsz,ok.noex,ok.exfs,ok.funs,ok.frf⟩
theorem Cx.Ok.unwish {X:Cx} {E:VS7} (ok:(X.wish E).Ok):X.Ok :=
 ⟨ok.mod,ok.kind,ok.glob,ok.blt,ok.above,ok.inj,ok.has,ok.cab,ok.hd,ok.frames,ok.stk,ok.exf,ok.bs,ok.bsz,ok.noex,ok.exfs,ok.funs,ok.frf⟩
section
variable {X:Cx} {pins:List (Addr × Obj)} {σ:St} {H:Hp} {s:Shared} {E:VS7}
theorem Inv.wish (I:Inv X pins σ H s) (E:VS7):Inv (X.wish E) pins σ H s:=⟨I.ok.wish E,I.os,I.bare,I.base,I.loc,I.cell,I.free,I.freeC,I.pin,I.hok,I.len⟩
theorem Inv.unwish (I:Inv (X.wish E) pins σ H s):Inv X pins σ H s:=⟨I.ok.unwish,I.os,I.bare,I.base,I.loc,I.cell,I.free,I.freeC,I.pin,I.hok,I.len⟩
theorem SP.unwish {D:Ends} {f:Flow} {s':Shared} (h:SP (X.wish E) pins D f s'):SP X pins D f s':=by
 cases f with
 | next=>obtain ⟨σ',H',I,q⟩:=h; exact ⟨σ',H',I.unwish,q⟩
 | brk=>obtain ⟨σ',H',I,q⟩:=h; exact ⟨σ',H',I.unwish,q⟩
 | cont=>obtain ⟨σ',H',I,q⟩:=h; exact ⟨σ',H',I.unwish,q⟩
 | ret u=>obtain ⟨v,σ',H',I,r,q⟩:=h; exact ⟨v,σ',H',I.unwish,r,q⟩
theorem PE.nox {e:Expr} {t:TE} (h:PE X.nox e t):PE X e t:=fun pins s σ H Q I hw =>
 wpAny_mono (h pins s σ H Q (I.wish _) hw) (fun _ _ ⟨v,H',I',r,q⟩=>⟨v,H',I'.unwish,r,q⟩) fun _ _ z=>False.elim z
theorem PT.nox {e:Expr} {t:TT} (h:PT X.nox e t):PT X e t:=fun pins s σ H Q I hw =>
 wpAny_mono (h pins s σ H Q (I.wish _) hw) (fun _ _ ⟨H',I',q⟩=>⟨H',I'.unwish,q⟩) fun _ _ z=>False.elim z
theorem PSs.nox {st:List Stmt} {t:TS} (h:PSs X.nox st t):PSs X st t:=fun pins s σ H D I hw =>
 wpAny_mono (h pins s σ H D (I.wish _) hw) (fun _ _ q=>q.unwish) fun _ _ z=>False.elim z
end
section
variable {X:Cx} {st:Stmt} {rest:List Stmt} {t u:TS} {e:Expr} {te:TE} {pos:Pos}
def V2:TS:=fun D σ H=>D.nx σ H
def tSeq (t u:TS):TS:=fun D σ H=>t { D with nx:=u D } σ H
theorem zx:PSs X [] V2:=fun _ _ σ H _ I h=>wpAny_execs_nil ⟨σ,H,I,h⟩
theorem zf (h1:PS X st t) (h2:PSs X rest u):PSs X (st :: rest) (tSeq t u):=by
 intro pins s σ H D I h
 refine wpAny_execs_cons (thn (h1 pins s σ H { D with nx:=u D } I h) fun f s1 q=>?_)
 cases f with
 | next =>
  obtain ⟨σ',H',I',q⟩:=q
  exact h2 pins s1 σ' H' D I' q
 | ret v=>exact q
 | brk=>exact q
 | cont=>exact q
theorem zh (h1:PS X st t):PSs X [st] t:=by
 intro pins s σ H D I h
 refine wpAny_execs_cons (thn (h1 pins s σ H D I h) fun f s1 q=>?_)
 cases f with
 | next=>exact wpAny_execs_nil q
 | ret v=>exact q
 | brk=>exact q
 | cont=>exact q
theorem Inv.quiet {pins:List (Addr × Obj)} {σ:St} {H:Hp} {s:Shared} (I:Inv X pins σ H s):interactive X.env = false:=by simp [interactive,I.ok.kind]
def Tg (te:TE):TS:=fun D σ H=>te σ H fun _ H1=>D.nx σ H1
theorem zP (he:PE X e te) (hs:swapsWith e none pos.line X.env = pure false:=by rfl):PS X (.Expr e pos) (Tg te):=by
 intro pins s σ H D I h
 exact wpAny_Expr_any (thn (he pins s σ H _ I h) fun v s1 ⟨x,H1,I1,r1,q1⟩=>⟨σ,H1,I1,q1⟩) I.quiet hs
def tRet (te:TE):TS:=fun D σ H=>te σ H D.rt
theorem zr (he:PE X e te):PS X (.Return (some e) pos) (tRet te):=by
 intro pins s σ H D I h
 exact wpAny_Return_some (thn (he pins s σ H _ I h) fun v s1 ⟨x,H1,I1,r1,q1⟩=>⟨x,σ,H1,I1,r1,q1⟩)
def tIfS (c:TT) (t u:TS):TS:=fun D σ H=>c σ H fun b H1=>if b = true then t D σ H1 else u D σ H1
theorem zH {c:Expr} {a b:List Stmt} {tc:TT} (hc:PT X c tc) (ha:PSs X a t) (hb:PSs X b u):PS X (.If c a b pos) (tIfS tc t u):=by
 intro pins s σ H D I h
 refine wpAny_If (thn (hc pins s σ H _ I h) fun d s1 ⟨H1,I1,q1⟩=>?_)
 cases d with
 | true=>exact ha pins s1 σ H1 D I1 q1
 | false=>exact hb pins s1 σ H1 D I1 q1
end
abbrev TG:=V -> St -> Hp -> (St -> Hp -> Prop) -> Prop
abbrev TGs:=List V -> St -> Hp -> (St -> Hp -> Prop) -> Prop
def PG (X:Cx) (target:Expr) (t:TG):Prop :=
 ∀ (pins:List (Addr × Obj)) (s:Shared) (σ:St) (H:Hp) (v:V) (u:Value) (Q:St -> Hp -> Prop),Inv X pins σ H s -> RelV v u -> t v σ H Q →
  wpAny (model X.prog X.w) X.A (assign target X.env u) (fun _ s'=>∃ σ' H',Inv X pins σ' H' s' /\ Q σ' H') X.xe s
def PGs (X:Cx) (ts:List Expr) (t:TGs):Prop :=
 ∀ (pins:List (Addr × Obj)) (s:Shared) (σ:St) (H:Hp) (vs:List V) (us:List Value) (Q:St -> Hp -> Prop),Inv X pins σ H s -> Vals vs us -> t vs σ H Q →
  wpAny (model X.prog X.w) X.A (assignInOrder ((assignEach ts X.env).map (·.2)) us) (fun _ s'=>∃ σ' H',Inv X pins σ' H' s' /\ Q σ' H') X.xe s
abbrev TSet:=V -> V -> V -> Hp -> (Hp -> Prop) -> Prop
def PSet (X:Cx) (t:TSet):Prop :=
 ∀ (pins:List (Addr × Obj)) (s:Shared) (σ:St) (H:Hp) (o i v:V) (ov iv u:Value) (Q:Hp -> Prop),Inv X pins σ H s -> RelV o ov -> RelV i iv -> RelV v u -> t o i v H Q →
  wpAny (model X.prog X.w) X.A (setItem ov iv u) (fun _ s'=>∃ H',Inv X pins σ H' s' /\ Q H') X.xe s
section
variable {X:Cx} {pos:Pos}
def wc (i:Nat):TG:=fun v σ H Q=>Q (σ.set i (some v)) H
theorem zy {i:Nat} {x:Str} (hN:X.N.Nodup) (hi:X.N[i]? = some x) (hx:Loc X.env.scope x) (hf:X.fn x = true \/ X.env.scope.names.lookup x = some .local :=by first | exact .inl rfl | exact .inr rfl | assumption):PG X (.Name x pos) (wc i):=by
 intro pins s σ H v u Q I r h
 exact wpAny_assign_Name (vy I hN hi hx r (fun s' I'=>⟨_,H,I',h⟩) hf)
def gNil:TGs:=fun vs σ H Q=>vs = [] /\ Q σ H
def Th (t:TG) (u:TGs):TGs:=fun vs σ H Q=>∃ v r,vs = v :: r /\ t v σ H fun σ' H'=>u r σ' H' Q
theorem xl:PGs X [] gNil:=by
 intro pins s σ H vs us Q I r h
 obtain ⟨e,h⟩:=h
 subst e
 cases r
 exact assignInOrder_nil ⟨σ,H,I,h⟩
theorem zD {e:Expr} {es:List Expr} {t:TG} {u:TGs} (h1:PG X e t) (h2:PGs X es u)
  (hs:(assignEach (e :: es) X.env).map (·.2) = assign e X.env :: (assignEach es X.env).map (·.2):=by rfl):PGs X (e :: es) (Th t u):=by
 intro pins s σ H vs us Q I r h
 obtain ⟨v,vr,e1,h⟩:=h
 subst e1
 cases r with
 | cons r rr =>
  rw [hs]
  refine assignInOrder_cons (thn (h1 pins s σ H _ _ _ I r h) fun _ s1 ⟨σ1,H1,I1,q1⟩=>?_)
  exact h2 pins s1 σ1 H1 _ _ Q I1 rr q1
def gTup (K:FG7) (n:Nat) (t:TGs):TG:=fun v σ H Q=>∃ a xs,v = .ref a /\ SqT K H a xs /\ xs.length = n /\ t xs σ H Q
theorem wv {es:List Expr} {k:Nat} {t:TGs} {n:Nat} (hc:X.calm = true) (h:PGs X es t)
  (hn:(assignEach es X.env).length = n:=by rfl) (hst:(assignEach es X.env).findIdx? (·.1) = none:=by rfl):PG X (.Tuple es k pos) (gTup X.K n t):=by
 intro pins s σ H v u Q I r hw
 obtain ⟨a,xs,e1,hq,hl,hw⟩:=hw
 subst e1
 cases r
 obtain ⟨its,rv,ht,hz⟩:=I.tuple hq
 refine assign_Tuple_tuple (I.ok.hd hc) ht (by simp [hn,← hl,rv.length]) hst fun h' hx=>?_
 have I1:Inv X pins σ H { s with heap:=h' }:=I.kept (t':=s.toks) fun b o e=>hx b o (Nat.ne_of_lt (Heap.lt_size e)) e
 exact h pins _ σ H xs _ Q I1 (by simpa using rv) hw
def gSub (to ti:TE) (t:TSet):TG:=fun v σ H Q=>to σ H fun o H1=>ti σ H1 fun i H2=>t o i v H2 fun H3=>Q σ H3
theorem X5 {o i:Expr} {to ti:TE} {t:TSet} (ho:PE X o to) (hi:PE X i ti) (hs:PSet X t)
  (ha:∀ v,assign (.Subscript o i pos) X.env v = (do
   let ov ← holding [v] (eval o X.env)
   let iv ← holding [v,ov] (eval i X.env)
   standAt pos
   holding [v,ov,iv] (setItem ov iv v)
   release [v,ov,iv] []):=by intro _; rfl):PG X (.Subscript o i pos) (gSub to ti t):=by
 intro pins s σ H v u Q I r h
 rw [ha]
 refine wpAny_bind (wpAny_holding (thn (ho pins s σ H _ I h) fun ov s1 ⟨x,H1,I1,r1,q1⟩=>?_))
 refine wpAny_bind (wpAny_holding (thn (hi pins s1 σ H1 _ I1 q1) fun iv s2 ⟨y,H2,I2,r2,q2⟩=>?_))
 refine wpAny_bind (wpAny_standAt (wpAny_bind (wpAny_holding (thn (hs pins s2 σ H2 x y v ov iv u _ I2 r1 r2 r q2) fun _ s3 ⟨H3,I3,q3⟩=>?_))))
 exact wpAny_release ⟨σ,H3,I3,q3⟩
def tAsg (te:TE) (g:TG):TS:=fun D σ H=>te σ H fun x H1=>g x σ H1 D.nx
theorem xZ {tg e:Expr} {te:TE} {g:TG} (he:PE X e te) (hg:PG X tg g) (hs:swapsWithSole [tg] e pos.line X.env = pure false:=by rfl) (hw:swappedStores [tg] e X.env = pure none:=by rfl)
  (h1:(assignEach [tg] X.env).map (·.2) = [assign tg X.env]:=by rfl):PS X (.Assign [tg] e pos) (tAsg te g):=by
 intro pins s σ H D I h
 refine wpAny_Assign_stores (thn (he pins s σ H _ I h) fun v s1 ⟨x,H1,I1,r1,q1⟩=>?_) hs hw
 rw [h1]
 exact thn (hg pins s1 σ H1 x v _ I1 r1 q1) fun _ s2 q=>q
theorem zv {i:Nat} {x:Str} {e:Expr} {te:TE} {pos':Pos} (hN:X.N.Nodup) (hi:X.N[i]? = some x) (hx:Loc X.env.scope x) (he:PE X e te) (hs:swapsWith e (some (.Name x pos')) pos.line X.env = pure false:=by rfl) (hf:X.fn x = true \/ X.env.scope.names.lookup x = some .local :=by first | exact .inl rfl | exact .inr rfl | assumption) :
  PS X (.Assign [.Name x pos'] e pos) (tAsg te (wc i)):=by
 intro pins s σ H D I h
 refine wpAny_Assign_Name (thn (he pins s σ H _ I h) fun v s1 ⟨y,H1,I1,r1,q1⟩=>?_) hs
 exact vy I1 hN hi hx r1 (fun s2 I2=>⟨_,H1,I2,q1⟩) hf
end
section
variable {X:Cx} {pos:Pos}
def V3 (c:TT) (tb:TS):TS:=fun D σ H=>∃ W:Nat -> St -> Hp -> Prop,(∃ m,W m σ H) /\ ∀ m σ H,W m σ H →
 c σ H fun b H1=>if b = true then ∃ N:St -> Hp -> Prop,(∀ σ' H',N σ' H' -> ∃ m',m' < m /\ W m' σ' H') /\ tb { D with nx:=N,ct:=N,bk:=D.nx } σ H1 else D.nx σ H1
theorem Y5 {c:Expr} {body:List Stmt} {tc:TT} {tb:TS} (hp:PassesOwn (model X.prog X.w) X.A X.env X.xe) (hc:PT X c tc) (hb:PSs X body tb):PS X (.While c body [] pos) (V3 tc tb):=by
 intro pins s σ H D I h
 obtain ⟨W,⟨m0,w0⟩,turn⟩:=h
 refine wpAny_While (codeAny_whileLoop (fun n s'=>∃ σ' H',Inv X pins σ' H' s' /\ W n σ' H') ?_ m0 ⟨σ,H,I,w0⟩)
 rintro n s1 ⟨σ1,H1,I1,w1⟩
 refine wpAny_passesOwn hp (thn (hc pins s1 σ1 H1 _ I1 (turn n σ1 H1 w1)) fun b s2 ⟨H2,I2,q2⟩=>?_)
 cases b with
 | true =>
  obtain ⟨N,hN,q2⟩:=q2
  rw [if_pos rfl]
  refine wpAny_passesOwn hp (thn (hb pins s2 σ1 H2 _ I2 q2) fun f s3 q3=>?_)
  cases f with
  | next =>
   obtain ⟨σ3,H3,I3,n3⟩:=q3
   obtain ⟨m',hm,w3⟩:=hN σ3 H3 n3
   exact ⟨m',hm,σ3,H3,I3,w3⟩
  | cont =>
   obtain ⟨σ3,H3,I3,n3⟩:=q3
   obtain ⟨m',hm,w3⟩:=hN σ3 H3 n3
   exact ⟨m',hm,σ3,H3,I3,w3⟩
  | brk=>exact q3
  | ret v=>exact q3
 | false =>
  rw [if_neg Bool.false_ne_true]
  exact wpAny_execs_nil ⟨σ1,H2,I2,q2⟩
end
structure It where
 go:Nat -> Hp -> Prop
 yld:Nat -> Hp -> V -> Hp -> Prop
 stop:Nat -> Hp -> Prop
def FpOk (X:Cx) (pins:List (Addr × Obj)) (H:Hp) (b:Addr):Prop :=
 H b = none /\ b ≠ X.env.locals /\ b ∉ X.fs /\ (b ∈ X.ex \/ X.s₀.heap.objs.size <= b) /\ (∀ x c,X.env.cells.lookup x = some c -> c ≠ b) /\ ∀ p ∈ X.pn ++ pins,p.1 ≠ b
theorem Inv.fpOk {X:Cx} {pins:List (Addr × Obj)} {σ:St} {H H':Hp} {s:Shared} {b:Addr} (I:Inv X pins σ H s) (hb:s.heap.objs.size <= b) (hn:H' b = none):FpOk X pins H' b:=by
 refine ⟨hn,Nat.ne_of_gt (Nat.lt_of_lt_of_le I.lt hb),I.nofs hb,.inr (Nat.le_trans I.sz hb),fun x c e z=>?_,fun p hp z=>?_⟩
 ·obtain ⟨v,q⟩:=I.cell x c e
  exact absurd (Nat.lt_of_lt_of_le q.lt (by rw [z]; exact hb)) (Nat.lt_irrefl _)
 ·exact absurd (Nat.lt_of_lt_of_le (Heap.lt_size (I.pin p hp).1) (by rw [z]; exact hb)) (Nat.lt_irrefl _)
structure Turn (P:Program) (w:World) (K:FG7) (tg:Expr) (J:It) (fp:List Addr) (it:Addr) (tn:Nat -> Heap -> Prop):Prop where
 mem:it ∈ fp
 obj:∀ i h,tn i h -> ∀ b ∈ fp,∃ o,h.get? b = some o /\ ∀ v,o.data ≠ .cell v
 keep:∀ i h h',tn i h -> (∀ b ∈ fp,∀ o,h.get? b = some o -> h'.get? b = some o) -> tn i h'
 item:∀ (X:Cx),X.prog = P -> X.w = w -> X.K = K -> X.calm = true -> ∀ (i:Nat) (pins:List (Addr × Obj)) (s:Shared) (σ:St) (H:Hp) (E:VS7),Inv X pins σ H s -> (∀ b ∈ fp,FpOk X pins H b) -> tn i s.heap -> J.go i H →
  wpAny (model P w) X.A (pyNext (.ref it)) (fun r s1=>∃ u,r = some u ∧
   wpAny (model P w) X.A (letOwnedTupleGo tg (.ref it) u) (fun _ s2=>∃ x H',Inv X pins σ H' s2 /\ RelV x u /\ J.yld i H x H' /\ tn (i + 1) s2.heap /\ ∀ b ∈ fp,H' b = none) E s1) E s
 done:∀ (X:Cx),X.prog = P -> X.w = w -> X.K = K -> X.calm = true -> ∀ (i:Nat) (pins:List (Addr × Obj)) (s:Shared) (σ:St) (H:Hp) (E:VS7),Inv X pins σ H s -> (∀ b ∈ fp,FpOk X pins H b) -> tn i s.heap -> J.stop i H →
  wpAny (model P w) X.A (pyNext (.ref it)) (fun r s1=>r = none /\ Inv X pins σ H s1) E s
 self:∀ (A:Around) (i:Nat) (s:Shared) (Q:VS7) (E:VS7),tn i s.heap -> Q (.ref it) s -> wpAny (model P w) A (pyIter (.ref it)) Q E s
abbrev TI:=St -> Hp -> (It -> Hp -> Prop) -> Prop
def PIE (X:Cx) (pins:List (Addr × Obj)) (σ:St) (tg:Expr) (R:It -> Hp -> Prop) (itv:Value) (s2:Shared):Prop :=
 ∃ (it:Addr) (fp:List Addr) (tn:Nat -> Heap -> Prop) (J:It) (H':Hp),itv = .ref it /\ Inv X pins σ H' s2 /\ Turn X.prog X.w X.K tg J fp it tn /\ tn 0 s2.heap /\ (∀ b ∈ fp,FpOk X pins H' b) /\ R J H'
def PI (X:Cx) (tg iter:Expr) (wi:TI):Prop :=
 ∀ (pins:List (Addr × Obj)) (s:Shared) (σ:St) (H:Hp) (R:It -> Hp -> Prop),Inv X pins σ H s -> wi σ H R →
  wpAny (model X.prog X.w) X.A (eval iter X.env) (fun v s1=>wpAny (model X.prog X.w) X.A (pyIter v) (PIE X pins σ tg R) X.xe s1) X.xe s
theorem Y6 {M:Model} {A:Around} {E:VS7} {s:Shared} {tg:Expr} {it:Addr} {u:Value} {o:Obj} {n:String} {vs:Array Value} {Q:Unit -> Shared -> Prop} (ho:s.heap.get? it = some o) (hc:o.cls = .type n) (hd:o.data = .fields vs)
    (hn:["enumerate","zip","dict_itemiterator","dict_reverseitemiterator","odict_iterator","itertools.zip_longest","itertools.pairwise"].contains n = false) (hQ:Q () s):wpAny M A (letOwnedTupleGo tg (.ref it) u) Q E s:=by
  unfold letOwnedTupleGo
  cases tg <;> first
    | exact wpAny_pure hQ
    | (cases u <;> first
        | exact wpAny_pure hQ
        | (refine wpAny_bind (wpAny_load ho ?_)
           rw [hc,hd]
           show wpAny M A (if (["enumerate","zip","dict_itemiterator","dict_reverseitemiterator","odict_iterator","itertools.zip_longest","itertools.pairwise"].contains n && vs[0]? == some (rawInt _)) = true then _ else _) Q E s
           rw [if_neg (by intro h; rw [hn,Bool.false_and] at h; cases h)]
           exact wpAny_pure hQ))
def Itl (K:FG7) (a:Addr):It :=
 ⟨fun i H=>∃ xs x,SqL K H a xs /\ xs[i]? = some x,fun i H x H'=>H' = H /\ ∀ xs,SqL K H a xs -> xs[i]? = some x,fun i H=>∃ xs,SqL K H a xs /\ xs.length <= i⟩
def Itt (K:FG7) (a:Addr):It :=
 ⟨fun i H=>∃ xs x,SqT K H a xs /\ xs[i]? = some x,fun i H x H'=>H' = H /\ ∀ xs,SqT K H a xs -> xs[i]? = some x,fun i H=>∃ xs,SqT K H a xs /\ xs.length <= i⟩
def Itr (lo:Int) (n:Nat):It:=⟨fun i _=>i < n,fun i H x H'=>H' = H /\ x = .int (lo + i),fun i _=>n <= i⟩
theorem Zg {P:Program} {w:World} {K:FG7} {tg:Expr} (a it:Addr):Turn P w K tg (Itl K a) [it] it (fun i h=>h.IsListIter it a i) where
 mem:=by simp
 obj:=fun i h st b hb=>by
  have e:b = it:=by simpa using hb
  subst e
  obtain ⟨o,e,c,d⟩:=st
  exact ⟨o,e,fun v z=>by rw [d] at z; cases z⟩
 keep:=fun i h h' st k=>st.at fun o e=>k it (by simp) o e
 item:=by
  intro X hP hw hK hc i pins s σ H E I hf st hg
  subst hP hw hK
  obtain ⟨xs,x,hq,hx⟩:=hg
  obtain ⟨its,rv,p,hz⟩:=I.list hq
  obtain ⟨u,hu,ru⟩:=rv.get hx
  obtain ⟨f0,f1,f2,f3,f4,f5⟩:=hf it (by simp)
  refine wpAny_pyNext_list_item st p.isList (x:=u) (by simpa using hu) fun h' st' sb=>?_
  have I1:Inv X pins σ H { s with heap:=h' }:=I.turned (t':=s.toks) (fun b o hb e=>(sb.2 b hb).trans e) f0 f1 f3 f4 f5
  obtain ⟨o,e,c,d⟩:=id st'
  exact ⟨u,rfl,Y6 (s:={ s with heap:=h' }) e c d (by decide) ⟨x,H,I1,ru,⟨rfl,fun ys hy=>by rw [I.list_inj hy hq]; exact hx⟩,st',fun b hb=>(hf b hb).1⟩⟩
 done:=by
  intro X hP hw hK hc i pins s σ H E I hf st hg
  subst hP hw hK
  obtain ⟨xs,hq,hx⟩:=hg
  obtain ⟨its,rv,p,hz⟩:=I.list hq
  obtain ⟨f0,f1,f2,f3,f4,f5⟩:=hf it (by simp)
  have hl:=rv.length
  exact wpAny_pyNext_list_end (I.ok.hd hc) st p.isList (by simp; omega) fun h' eb=>⟨rfl,I.turned (t':=s.toks) (fun b o hb e=>eb b o hb e) f0 f1 f3 f4 f5⟩
 self:=fun _ _ _ _ _ st h=>wpAny_pyIter_listiter st h
theorem jC {P:Program} {w:World} {K:FG7} {tg:Expr} (a it:Addr):Turn P w K tg (Itt K a) [it] it (fun i h=>h.IsTupleIter it a i) where
 mem:=by simp
 obj:=fun i h st b hb=>by
  have e:b = it:=by simpa using hb
  subst e
  obtain ⟨o,e,c,d⟩:=st
  exact ⟨o,e,fun v z=>by rw [d] at z; cases z⟩
 keep:=fun i h h' st k=>st.at fun o e=>k it (by simp) o e
 item:=by
  intro X hP hw hK hc i pins s σ H E I hf st hg
  subst hP hw hK
  obtain ⟨xs,x,hq,hx⟩:=hg
  obtain ⟨its,rv,p,hz⟩:=I.tuple hq
  obtain ⟨u,hu,ru⟩:=rv.get hx
  obtain ⟨f0,f1,f2,f3,f4,f5⟩:=hf it (by simp)
  refine wpAny_pyNext_tuple_item st (show s.heap.IsTuple a its.toArray from p) (x:=u) (by simpa using hu) fun h' st' sb=>?_
  have I1:Inv X pins σ H { s with heap:=h' }:=I.turned (t':=s.toks) (fun b o hb e=>(sb.2 b hb).trans e) f0 f1 f3 f4 f5
  obtain ⟨o,e,c,d⟩:=id st'
  exact ⟨u,rfl,Y6 (s:={ s with heap:=h' }) e c d (by decide) ⟨x,H,I1,ru,⟨rfl,fun ys hy=>by rw [I.tuple_inj hy hq]; exact hx⟩,st',fun b hb=>(hf b hb).1⟩⟩
 done:=by
  intro X hP hw hK hc i pins s σ H E I hf st hg
  subst hP hw hK
  obtain ⟨xs,hq,hx⟩:=hg
  obtain ⟨its,rv,p,hz⟩:=I.tuple hq
  obtain ⟨f0,f1,f2,f3,f4,f5⟩:=hf it (by simp)
  have hl:=rv.length
  exact wpAny_pyNext_tuple_end (I.ok.hd hc) st (show s.heap.IsTuple a its.toArray from p) (by simp; omega) fun h' eb=>⟨rfl,I.turned (t':=s.toks) (fun b o hb e=>eb b o hb e) f0 f1 f3 f4 f5⟩
 self:=fun _ _ _ _ _ st h=>wpAny_pyIter_tupleiter st h
theorem xL {P:Program} {w:World} {K:FG7} {tg:Expr} (it:Addr) (lo:Int) (n:Nat):Turn P w K tg (Itr lo n) [it] it (fun i h=>IsRangeIter h it (lo + (i:Nat) * 1) ((n:Int) - (i:Nat)) 1) where
 mem:=by simp
 obj:=fun i h st b hb=>by
  have e:b = it:=by simpa using hb
  subst e
  exact ⟨_,st,fun v z=>by
   have z':Data.fields _ = Data.cell v:=z
   cases z'⟩
 keep:=fun i h h' st k=>k it (by simp) _ st
 item:=by
  intro X hP hw hK hc i pins s σ H E I hf st hg
  subst hP hw hK
  obtain ⟨f0,f1,f2,f3,f4,f5⟩:=hf it (by simp)
  have W:=Walks.range (prog:=X.prog) (w:=X.w) (I.ok.hd hc) it lo 1 n
  refine W.item i s _ _ hg st fun v h' tk hv st' kk=>?_
  obtain ⟨t,rfl⟩:=hv
  have I1:Inv X pins σ H { s with heap:=h',toks:=tk }:=I.turned (fun b o hb e=>kk b o (by simpa using hb) e) f0 f1 f3 f4 f5
  refine ⟨_,rfl,Y6 (s:={ s with heap:=h',toks:=tk }) (n:="range_iterator") st' rfl rfl (by decide) ⟨.int (lo + i),H,I1,⟨t,?_⟩,⟨rfl,rfl⟩,st',fun b hb=>(hf b hb).1⟩⟩
  rw [Int.mul_one]
 done:=by
  intro X hP hw hK hc i pins s σ H E I hf st hg
  subst hP hw hK
  obtain ⟨f0,f1,f2,f3,f4,f5⟩:=hf it (by simp)
  exact wpAny_pyNext_range_end (I.ok.hd hc) st (by have:n <= i:=hg; omega) fun h' eb=>⟨rfl,I.turned (t':=s.toks) (fun b o hb e=>eb b o hb e) f0 f1 f3 f4 f5⟩
 self:=fun _ _ _ _ _ st h=>wpAny_pyIter_rangeiter st h
end L2
namespace L2
open PySem PySem.Spec PyProof.Rows
section
variable {X:Cx} {tg:Expr}
def V4 (K:FG7) (tl:TE):TI:=fun σ H R=>tl σ H fun x H1=>∃ a,x = .ref a /\ (∃ xs,SqL K H1 a xs) /\ R (Itl K a) H1
def iTup (K:FG7) (tl:TE):TI:=fun σ H R=>tl σ H fun x H1=>∃ a,x = .ref a /\ (∃ xs,SqT K H1 a xs) /\ R (Itt K a) H1
theorem u3 {l:Expr} {tl:TE} (hl:PE X l tl):PI X tg l (V4 X.K tl):=by
 intro pins s σ H R I h
 refine thn (hl pins s σ H _ I h) fun v s1 ⟨x,H1,I1,r1,q1⟩=>?_
 obtain ⟨a,e,⟨xs,hq⟩,q⟩:=q1
 subst e
 cases r1
 obtain ⟨its,rv,p,hz⟩:=I1.list hq
 refine wpAny_pyIter_list p.isList ?_
 refine ⟨s1.heap.objs.size,[s1.heap.objs.size],_,_,H1,rfl,I1.kept (t':=s1.toks) fun b o e=>Heap.get?_push_of_some _ e,Zg a _,⟨_,Heap.get?_push_size _ rfl,rfl,rfl⟩,fun b hb=>?_,q⟩
 have e:b = s1.heap.objs.size:=by simpa using hb
 subst e
 exact I1.fpOk (Nat.le_refl _) (I1.hok.fresh (Nat.le_refl _))
theorem Zh {l:Expr} {tl:TE} (hl:PE X l tl):PI X tg l (iTup X.K tl):=by
 intro pins s σ H R I h
 refine thn (hl pins s σ H _ I h) fun v s1 ⟨x,H1,I1,r1,q1⟩=>?_
 obtain ⟨a,e,⟨xs,hq⟩,q⟩:=q1
 subst e
 cases r1
 obtain ⟨its,rv,p,hz⟩:=I1.tuple hq
 refine wpAny_pyIter_tuple (show s1.heap.IsTuple a its.toArray from p) ?_
 refine ⟨s1.heap.objs.size,[s1.heap.objs.size],_,_,H1,rfl,I1.kept (t':=s1.toks) fun b o e=>Heap.get?_push_of_some _ e,jC a _,⟨_,Heap.get?_push_size _ rfl,rfl,rfl⟩,fun b hb=>?_,q⟩
 have e:b = s1.heap.objs.size:=by simpa using hb
 subst e
 exact I1.fpOk (Nat.le_refl _) (I1.hok.fresh (Nat.le_refl _))
theorem Y7 {pins:List (Addr × Obj)} {σ:St} {H:Hp} {s:Shared} {R:It -> Hp -> Prop} {E:VS7} {lo hi:Int} {t u v:Tok} {tk:Nat} (I:Inv X pins σ H s) (h1:-(2 ^ 62) <= lo) (h2:lo < 2 ^ 62) (h3:-(2 ^ 62) <= hi) (h4:hi < 2 ^ 62)
  (q:R (Itr lo (hi - lo).toNat) H):wpAny (model X.prog X.w) X.A (pyIter (.ref s.heap.objs.size)) (PIE X pins σ tg R) E { s with heap:=s.heap.push { cls:=.type "range",data:=.fields #[.int lo t,.int hi u,.int 1 v] },toks:=tk }:=by
 refine wpAny_pyIter_range (IsRange.new ..) (small_one h1 h2 h3 h4) ?_
 have I1:Inv X pins σ H { s with heap:=s.heap.push { cls:=.type "range",data:=.fields #[.int lo t,.int hi u,.int 1 v] },toks:=tk }:=I.kept fun b o e=>Heap.get?_push_of_some _ e
 refine ⟨(s.heap.push { cls:=.type "range",data:=.fields #[.int lo t,.int hi u,.int 1 v] }).objs.size,[(s.heap.push { cls:=.type "range",data:=.fields #[.int lo t,.int hi u,.int 1 v] }).objs.size],_,_,H,rfl,
  I1.kept (t':=tk) fun b o e=>Heap.get?_push_of_some _ e,xL _ lo (hi - lo).toNat,?_,fun b hb=>?_,q⟩
 ·have e1:lo + ((0:Nat):Int) * 1 = lo:=by simp
  have e2:(((hi - lo).toNat:Nat):Int) - ((0:Nat):Int) = Builtin.Range.rangeSize lo hi 1:=by rw [rangeSize_one]; split <;> omega
  show IsRangeIter _ _ (lo + ((0:Nat):Int) * 1) ((((hi - lo).toNat:Nat):Int) - ((0:Nat):Int)) 1
  rw [e1,e2]
  exact Heap.get?_push_size _ rfl
 ·have e:b = (s.heap.push { cls:=.type "range",data:=.fields #[.int lo t,.int hi u,.int 1 v] }).objs.size:=by simpa using hb
  subst e
  exact I1.fpOk (Nat.le_refl _) (I1.hok.fresh (Nat.le_refl _))
def V5 (ta:TA):TI:=fun σ H R=>ta σ H fun vs H1=>∃ j:Int,vs = [.int j] /\ -(2 ^ 62) <= j /\ j < 2 ^ 62 /\ R (Itr 0 j.toNat) H1
theorem xC {a:Expr} {ta:TA} {p pos:Pos} (hg:Gl X "range") (hm:X.mg "range" = none) (ha:PA X [a] ta) (hs:starEach [a] X.env = [(false,eval a X.env)]:=by rfl):PI X tg (.Call (.Name "range" p) [a] [] pos) (V5 ta):=by
 intro pins s σ H R I h
 refine Call_ (vg I hg hm boot_range (PyProof.Rows.callWith_type1 (thn (ha pos pins s σ H _ I h) fun us s1 ⟨vs,H1,I1,r1,q1⟩=>?_) hs rfl))
 obtain ⟨j,e,q1,q2,q⟩:=q1
 subst e
 cases r1 with
 | cons r rr =>
  cases rr
  obtain ⟨t,rfl⟩:=r
  exact call_range_1 (Y7 I1 (by omega) (by omega) q1 q2 (by simpa using q))
def tFor (wi:TI) (g:TG) (tb:TS):TS:=fun D σ H=>wi σ H fun J H1=>∃ W:Nat -> Nat -> St -> Hp -> Prop,(∃ m,W 0 m σ H1) /\ ∀ i m σ H,W i m σ H →
 (J.stop i H /\ D.nx σ H) \/ (J.go i H /\ ∃ N:St -> Hp -> Prop,(∀ σ' H',N σ' H' -> ∃ m',m' < m /\ W (i + 1) m' σ' H') /\ ∀ x H',J.yld i H x H' -> g x σ H' fun σ2 H2=>tb { D with nx:=N,ct:=N,bk:=D.nx } σ2 H2)
def x8 (fp:List Addr) (h:Heap):List (Addr × Obj):=fp.filterMap fun b=>(h.get? b).map fun o=>(b,o)
theorem z9 {fp:List Addr} {h:Heap} {b:Addr} {o:Obj} (hb:b ∈ fp) (e:h.get? b = some o):(b,o) ∈ x8 fp h:=List.mem_filterMap.mpr ⟨b,hb,by rw [e]; rfl⟩
theorem Zi {fp:List Addr} {h:Heap} {p:Addr × Obj} (hp:p ∈ x8 fp h):p.1 ∈ fp /\ h.get? p.1 = some p.2:=by
 obtain ⟨b,hb,e⟩:=List.mem_filterMap.mp hp
 cases q:h.get? b with
 | none=>rw [q] at e; cases e
 | some o =>
  rw [q] at e
  have e':(b,o) = p:=Option.some.inj e
  subst e'
  exact ⟨hb,q⟩
theorem Inv.pinned {pins:List (Addr × Obj)} {σ:St} {H:Hp} {s:Shared} {fp:List Addr} (I:Inv X pins σ H s) (hf:∀ b ∈ fp,FpOk X pins H b) (ho:∀ b ∈ fp,∃ o,s.heap.get? b = some o /\ ∀ v,o.data ≠ .cell v):Inv X (pins ++ x8 fp s.heap) σ H s :=
 I.pins_of fun p hp=>(List.mem_append.mp hp).elim (fun z=>I.pin p (List.mem_append_right _ z)) fun z=>by
  obtain ⟨hb,e⟩:=Zi z
  obtain ⟨f0,f1,f2,_⟩:=hf p.1 hb
  obtain ⟨o,e',d⟩:=ho p.1 hb
  rw [e] at e'; cases e'
  exact ⟨e,f0,f1,f2,d⟩
theorem Inv.unpinned {pins pl:List (Addr × Obj)} {σ:St} {H:Hp} {s:Shared} (I:Inv X (pins ++ pl) σ H s):Inv X pins σ H s:=I.pins_of fun p hp=>I.pin p (List.mem_append_right _ (List.mem_append_left _ hp))
theorem Zj {iter:Expr} {body:List Stmt} {wi:TI} {g:TG} {tb:TS} {pos:Pos} (hp:PassesOwn (model X.prog X.w) X.A X.env X.xe) (hc:X.calm = true) (hi:PI X tg iter wi) (hg:PG X tg g) (hb:PSs X body tb)
  (hs:∀ x,foldedSetIterable iter X.env x = pure x:=by intro _; rfl):PS X (.For tg iter body [] pos) (tFor wi g tb):=by
 intro pins s σ H D I h
 refine wpAny_For (thn (hi pins s σ H _ I h) fun v s1 h1=>thn h1 fun itv s2 h2=>?_) hs
 obtain ⟨it,fp,tn,J,H2,e,I2,T,st2,f2,W,⟨m0,w0⟩,turn⟩:=h2
 subst e
 -- what stays true of the iterator's objects through the loop
 have stat:∀ {H':Hp},(∀ b ∈ fp,H' b = none) -> ∀ b ∈ fp,FpOk X pins H' b:=fun hn b hb=>⟨hn b hb,(f2 b hb).2⟩
 refine codeAny_forLoop_any (fun n s'=>∃ i σ' H',Inv X pins σ' H' s' /\ tn i s'.heap /\ (∀ b ∈ fp,H' b = none) /\ W i n σ' H') ?_ m0 ⟨0,σ,H2,I2,st2,fun b hb=>(f2 b hb).1,w0⟩
 rintro n s3 ⟨i,σ3,H3,I3,st3,fr3,w3⟩
 rcases turn i n σ3 H3 w3 with ⟨stop,qn⟩ | ⟨go,N,hN,step⟩
 ·refine wpAny_passesOwn hp (thn (T.done X rfl rfl rfl hc i pins s3 σ3 H3 X.xe I3 (stat fr3) st3 stop) fun r s4 ⟨hr,I4⟩=>?_)
  subst hr
  exact wpAny_execs_nil ⟨σ3,H3,I4,qn⟩
 ·refine wpAny_passesOwn hp (thn (T.item X rfl rfl rfl hc i pins s3 σ3 H3 X.xe I3 (stat fr3) st3 go) fun r s4 ⟨u,hr,h4⟩=>?_)
  subst hr
  refine wpAny_passesOwn hp (thn h4 fun _ s5 ⟨x,H5,I5,r5,y5,st5,fr5⟩=>?_)
  have I5':=I5.pinned (stat fr5) (T.obj _ _ st5)
  refine wpAny_passesOwn hp (thn (hg _ s5 σ3 H5 x u _ I5' r5 (step x H5 y5)) fun _ s6 ⟨σ6,H6,I6,q6⟩=>?_)
  refine wpAny_passesOwn hp (thn (hb _ s6 σ6 H6 _ I6 q6) fun f s7 q7=>?_)
  have again:∀ {σ7:St} {H7:Hp},Inv X (pins ++ x8 fp s5.heap) σ7 H7 s7 -> N σ7 H7 -> ∃ m,m < n /\ ∃ i σ' H',Inv X pins σ' H' s7 /\ tn i s7.heap /\ (∀ b ∈ fp,H' b = none) /\ W i m σ' H':=fun {σ7 H7} I7 n7=>by
   obtain ⟨m',hm,w7⟩:=hN σ7 H7 n7
   refine ⟨m',hm,i + 1,σ7,H7,I7.unpinned,T.keep _ _ _ st5 fun b hb o e=>(I7.pin (b,o) (List.mem_append_right _ (List.mem_append_right _ (z9 hb e)))).1,fun b hb=>?_,w7⟩
   obtain ⟨o,e,d⟩:=T.obj _ _ st5 b hb
   exact (I7.pin (b,o) (List.mem_append_right _ (List.mem_append_right _ (z9 hb e)))).2.1
  cases f with
  | next=>obtain ⟨σ7,H7,I7,n7⟩:=q7; exact again I7 n7
  | cont=>obtain ⟨σ7,H7,I7,n7⟩:=q7; exact again I7 n7
  | brk=>obtain ⟨σ7,H7,I7,q7⟩:=q7; exact ⟨σ7,H7,I7.unpinned,q7⟩
  | ret v=>obtain ⟨x7,σ7,H7,I7,r7,q7⟩:=q7; exact ⟨x7,σ7,H7,I7.unpinned,r7,q7⟩
end
theorem tX {lo:Int} {n:Nat} {g:TG} {tb:TS} {D:Ends} {σ:St} {H:Hp} (Pv:Nat -> St -> Hp -> Prop) (h0:Pv 0 σ H)
  (hs:∀ i σ H,i < n -> Pv i σ H -> g (.int (lo + i)) σ H fun σ2 H2=>tb { D with nx:=Pv (i + 1),ct:=Pv (i + 1),bk:=D.nx } σ2 H2) (hd:∀ σ H,Pv n σ H -> D.nx σ H) :
  ∃ W:Nat -> Nat -> St -> Hp -> Prop,(∃ m,W 0 m σ H) /\ ∀ i m σ H,W i m σ H →
   ((Itr lo n).stop i H /\ D.nx σ H) \/ ((Itr lo n).go i H /\ ∃ N:St -> Hp -> Prop,(∀ σ' H',N σ' H' -> ∃ m',m' < m /\ W (i + 1) m' σ' H') /\ ∀ x H',(Itr lo n).yld i H x H' -> g x σ H' fun σ2 H2=>tb { D with nx:=N,ct:=N,bk:=D.nx } σ2 H2):=by
 refine ⟨fun i m σ H=>m = n - i /\ i <= n /\ Pv i σ H,⟨n,by simp,Nat.zero_le _,h0⟩,?_⟩
 rintro i m σ H ⟨rfl,hi,p⟩
 by_cases hlt:i < n
 ·refine .inr ⟨hlt,Pv (i + 1),fun σ' H' p'=>⟨n - (i + 1),by omega,rfl,hlt,p'⟩,fun x H' y=>?_⟩
  obtain ⟨e,y⟩:=y
  subst e y
  exact hs i σ _ hlt p
 ·have e:i = n:=by omega
  subst e
  exact .inl ⟨Nat.le_refl _,hd σ H p⟩
end L2
namespace L2
open PySem PySem.Spec PyProof.Rows
abbrev R2:=V -> V -> Hp -> VK -> Prop
def OpR (X:Cx) (f:Value -> Value -> Sem Value) (r:R2):Prop :=
 ∀ (pins:List (Addr × Obj)) (s:Shared) (σ:St) (H:Hp) (x y:V) (v u:Value) (Q:VK),Inv X pins σ H s -> RelV x v -> RelV y u -> r x y H Q →
  wpAny (model X.prog X.w) X.A (f v u) (EP X pins σ Q) X.xe s
def UnR (X:Cx) (f:Value -> Sem Value) (r:V -> Hp -> VK -> Prop):Prop :=
 ∀ (pins:List (Addr × Obj)) (s:Shared) (σ:St) (H:Hp) (x:V) (v:Value) (Q:VK),Inv X pins σ H s -> RelV x v -> r x H Q →
  wpAny (model X.prog X.w) X.A (f v) (EP X pins σ Q) X.xe s
def xm (X:Cx) (f:Value) (r:List V -> Hp -> VK -> Prop):Prop :=
 ∀ (pins:List (Addr × Obj)) (s:Shared) (σ:St) (H:Hp) (xs:List V) (us:List Value) (Q:VK),Inv X pins σ H s -> Vals xs us -> r xs H Q →
  wpAny (model X.prog X.w) X.A (call f us) (EP X pins σ Q) X.xe s
def TruR (X:Cx) (r:V -> Hp -> (Bool -> Hp -> Prop) -> Prop):Prop :=
 ∀ (pins:List (Addr × Obj)) (s:Shared) (σ:St) (H:Hp) (x:V) (v:Value) (Q:Bool -> Hp -> Prop),Inv X pins σ H s -> RelV x v -> r x H Q →
  wpAny (model X.prog X.w) X.A (truthy v) (TP X pins σ Q) X.xe s
def tOp (r:R2) (ta tb:TE):TE:=fun σ H Q=>ta σ H fun x H1=>tb σ H1 fun y H2=>r x y H2 Q
def tUn (r:V -> Hp -> VK -> Prop) (ta:TE):TE:=fun σ H Q=>ta σ H fun x H1=>r x H1 Q
def rI (C:Int -> Int -> Prop) (g:Int -> Int -> V):R2:=fun x y H Q=>∃ i j,x = .int i /\ y = .int j /\ C i j /\ Q (g i j) H
def rI0 (g:Int -> Int -> V):R2:=fun x y H Q=>∃ i j,x = .int i /\ y = .int j /\ Q (g i j) H
def rU (g:Int -> V):V -> Hp -> VK -> Prop:=fun x H Q=>∃ i,x = .int i /\ Q (g i) H
section
variable {X:Cx} {a b c:Expr} {ta tb tc:TE} {pos:Pos}
theorem binT (ha:PE X a ta) (hb:PE X b tb) {pins:List (Addr × Obj)} {s:Shared} {σ:St} {H:Hp} {R:V -> V -> Hp -> Prop} (I:Inv X pins σ H s)
  (h:ta σ H fun x H1=>tb σ H1 fun y H2=>R x y H2) {Q:VS7} {f:Value -> Value -> Sem Value}
  (hf:∀ v u s2 x y H2,Inv X pins σ H2 s2 -> RelV x v -> RelV y u -> R x y H2 -> wpAny (model X.prog X.w) X.A (f v u) Q X.xe s2) :
  wpAny (model X.prog X.w) X.A (eval a X.env) (fun v s₁=>wpAny (model X.prog X.w) X.A (eval b X.env) (fun u s₂=>wpAny (model X.prog X.w) X.A (f v u) Q X.xe s₂) X.xe s₁) X.xe s:=by
 refine thn (ha pins s σ H _ I h) fun v s1 ⟨x,H1,I1,r1,q1⟩=>?_
 refine thn (hb pins s1 σ H1 _ I1 q1) fun u s2 ⟨y,H2,I2,r2,q2⟩=>?_
 exact hf v u s2 x y H2 I2 r1 r2 q2
theorem zA {op:Operator} {r:R2} (ho:OpR X (binaryOp op) r) (ha:PE X a ta) (hb:PE X b tb):PE X (.BinOp a op b pos) (tOp r ta tb):=by
 intro pins s σ H Q I h
 exact wpAny_BinOp (binT ha hb I h fun v u s2 x y H2 I2 rx ry q=>ho pins s2 σ H2 x y v u Q I2 rx ry q)
theorem WP {op:UnaryOp} {r:V -> Hp -> VK -> Prop} (ho:UnR X (unaryOp op) r) (ha:PE X a ta):PE X (.UnaryOp op a pos) (tUn r ta):=by
 intro pins s σ H Q I h
 exact UnaryOp_ (thn (ha pins s σ H _ I h) fun v s1 ⟨x,H1,I1,r1,q1⟩=>ho pins s1 σ H1 x v Q I1 r1 q1)
theorem opI {f:Value -> Value -> Sem Value} {C:Int -> Int -> Prop} {g:Int -> Int -> Int}
  (rule:∀ (i j:Int) (t u:Tok) (s:Shared) (Q:VS7) (E:VS7),C i j -> Q (.int (g i j) s.toks) { s with toks:=s.toks + 1 } -> wpAny (model X.prog X.w) X.A (f (.int i t) (.int j u)) Q E s) :
  OpR X f (rI C fun i j=>.int (g i j)):=by
 intro pins s σ H x y v u Q I rx ry h
 obtain ⟨i,j,rfl,rfl,hc,q⟩:=h
 obtain ⟨t,rfl⟩:=rx
 obtain ⟨t',rfl⟩:=ry
 exact rule i j t t' s _ _ hc ⟨.int (g i j),H,I.tok _,⟨_,rfl⟩,q⟩
theorem opI0 {f:Value -> Value -> Sem Value} {g:Int -> Int -> Int}
  (rule:∀ (i j:Int) (t u:Tok) (s:Shared) (Q:VS7) (E:VS7),Q (.int (g i j) s.toks) { s with toks:=s.toks + 1 } -> wpAny (model X.prog X.w) X.A (f (.int i t) (.int j u)) Q E s) :
  OpR X f (rI0 fun i j=>.int (g i j)):=by
 intro pins s σ H x y v u Q I rx ry h
 obtain ⟨i,j,rfl,rfl,q⟩:=h
 obtain ⟨t,rfl⟩:=rx
 obtain ⟨t',rfl⟩:=ry
 exact rule i j t t' s _ _ ⟨.int (g i j),H,I.tok _,⟨_,rfl⟩,q⟩
theorem opB0 {f:Value -> Value -> Sem Value} {g:Int -> Int -> Bool}
  (rule:∀ (i j:Int) (t u:Tok) (s:Shared) (Q:VS7) (E:VS7),Q (.bool (g i j)) s -> wpAny (model X.prog X.w) X.A (f (.int i t) (.int j u)) Q E s) :
  OpR X f (rI0 fun i j=>.bl (g i j)):=by
 intro pins s σ H x y v u Q I rx ry h
 obtain ⟨i,j,rfl,rfl,q⟩:=h
 obtain ⟨t,rfl⟩:=rx
 obtain ⟨t',rfl⟩:=ry
 exact rule i j t t' s _ _ ⟨.bl (g i j),H,I,rfl,q⟩
def CPow (i j:Int):Prop:=0 <= j /\ j <= 1000000 /\ i.natAbs < 2 ^ 64
def CMul (i j:Int):Prop:=(-(2 ^ 64) < i /\ i < 2 ^ 64) \/ (-(2 ^ 64) < j /\ j < 2 ^ 64)
theorem CMul.ok {i j:Int} (h:CMul i j):IntMulOk i j:=by
 rcases h with ⟨h1,h2⟩ | ⟨h1,h2⟩
 ·exact .of_left (intBits_le_64 h1 h2)
 ·exact .of_right (intBits_le_64 h1 h2)
theorem y6:OpR X (binaryOp .Add) (rI0 fun i j=>.int (i + j)):=opI0 fun _ _ _ _ _ _ _ q=>add_int q
theorem ww:OpR X (binaryOp .Sub) (rI0 fun i j=>.int (i - j)):=opI0 fun _ _ _ _ _ _ _ q=>sub_int q
theorem vH:OpR X (binaryOp .Mod) (rI (fun _ j=>0 < j) fun i j=>.int (i % j)):=opI fun i j _ _ _ _ _ hc q=>by
 have h1:(0:Int) < j:=hc
 exact mod_int' (by omega) (by rw [Int.fmod_eq_emod_of_nonneg i (by omega)]; exact q)
theorem uz:OpR X (binaryOp .Pow) (rI CPow fun i j=>.int (i ^ j.toNat)):=opI fun _ _ _ _ _ _ _ hc q=>pow_int_small hc.1 hc.2.1 hc.2.2 q
theorem unI {f:Value -> Sem Value} {g:Int -> Int}
  (rule:∀ (i:Int) (t:Tok) (s:Shared) (Q:VS7) (E:VS7),Q (.int (g i) s.toks) { s with toks:=s.toks + 1 } -> wpAny (model X.prog X.w) X.A (f (.int i t)) Q E s) :
  UnR X f (rU fun i=>.int (g i)):=by
 intro pins s σ H x v Q I rx h
 obtain ⟨i,rfl,q⟩:=h
 obtain ⟨t,rfl⟩:=rx
 exact rule i t s _ _ ⟨.int (g i),H,I.tok _,⟨_,rfl⟩,q⟩
theorem Zk:UnR X (unaryOp .USub) (rU fun i=>.int (-i)):=unI fun _ _ _ _ _ q=>neg_int q
end
def scal:V -> V -> Bool
 | .non,.non=>true | .non,.int _=>true | .int _,.non=>true | .non,.bl _=>true | .bl _,.non=>true | .non,.str _=>true | .str _,.non=>true
 | .int _,.int _=>true | .bl _,.bl _=>true | .str _,.str _=>true | .byt _,.byt _=>true
 | .int _,.str _=>true | .str _,.int _=>true | .bl _,.str _=>true | .str _,.bl _=>true
 | _,_=>false
def rEq:R2:=fun x y H Q=>scal x y = true /\ Q (.bl (decide (x = y))) H
def rNe:R2:=fun x y H Q=>scal x y = true /\ Q (.bl (!decide (x = y))) H
theorem Zl {i j:Int}:decide (V.int i = V.int j) = (i == j):=by
 rw [Bool.eq_iff_iff]
 simp
theorem X6 {i j:Bool}:decide (V.bl i = V.bl j) = (i == j):=by
 rw [Bool.eq_iff_iff]
 simp
theorem Zm {i j:Str}:decide (V.str i = V.str j) = (i == j):=by
 rw [Bool.eq_iff_iff]
 simp
theorem Zn {i j:Array UInt8}:decide (V.byt i = V.byt j) = (i.toList == j.toList):=by
 rw [Bool.eq_iff_iff]
 cases i
 cases j
 simp
section
variable {X:Cx} {a b c:Expr} {ta tb tc:TE} {pos:Pos}
theorem zR {pins:List (Addr × Obj)} {σ:St} {H:Hp} {s:Shared} {Q:VK} {k k':Bool} (I:Inv X pins σ H s) (q:Q (.bl k) H) (e:k = k'):EP X pins σ Q (.bool k') s:=by
 subst e
 exact ⟨.bl k,H,I,rfl,q⟩
theorem yg:OpR X (compareOp .Eq) rEq:=by
 intro pins s σ H x y v u Q I rx ry h
 obtain ⟨hs,q⟩:=h
 cases x with
 | non =>
  cases rx
  cases y with
  | non=>cases ry; exact PySem.EqNone.eq_none_none (zR I q (by simp))
  | bl j=>cases ry; exact PySem.EqNone.eq_none_bool (zR I q (by simp))
  | int j=>obtain ⟨t',rfl⟩:=ry; exact PySem.EqNone.eq_none_int (zR I q (by simp))
  | str j=>obtain ⟨t',rfl⟩:=ry; exact PySem.EqNone.eq_none_str (zR I q (by simp))
  | _=>exact absurd (show false = true from hs) Bool.false_ne_true
 | bl i =>
  cases rx
  cases y with
  | non=>cases ry; exact PySem.EqNone.eq_bool_none (zR I q (by simp))
  | bl j=>cases ry; exact eq_bool (zR I q X6)
  | str j=>obtain ⟨t',rfl⟩:=ry; exact PySem.EqMixed.eq_bool_str (zR I q (by simp))
  | _=>exact absurd (show false = true from hs) Bool.false_ne_true
 | int i =>
  obtain ⟨t,rfl⟩:=rx
  cases y with
  | non=>cases ry; exact PySem.EqNone.eq_int_none (zR I q (by simp))
  | int j=>obtain ⟨t',rfl⟩:=ry; exact eq_int (zR I q Zl)
  | str j=>obtain ⟨t',rfl⟩:=ry; exact PySem.EqMixed.eq_int_str (zR I q (by simp))
  | _=>exact absurd (show false = true from hs) Bool.false_ne_true
 | str i =>
  obtain ⟨t,rfl⟩:=rx
  cases y with
  | non=>cases ry; exact PySem.EqNone.eq_str_none (zR I q (by simp))
  | bl j=>cases ry; exact PySem.EqMixed.eq_str_bool (zR I q (by simp))
  | int j=>obtain ⟨t',rfl⟩:=ry; exact PySem.EqMixed.eq_str_int (zR I q (by simp))
  | str j=>obtain ⟨t',rfl⟩:=ry; exact eq_str (zR I q Zm)
  | _=>exact absurd (show false = true from hs) Bool.false_ne_true
 | byt i =>
  obtain ⟨t,rfl⟩:=rx
  cases y with
  | byt j=>obtain ⟨t',rfl⟩:=ry; exact PySem.W.eq_bytes (zR I q Zn)
  | _=>exact absurd (show false = true from hs) Bool.false_ne_true
 | _=>cases y <;> exact absurd (show false = true from hs) Bool.false_ne_true
theorem u5:OpR X (compareOp .NotEq) rNe:=by
 intro pins s σ H x y v u Q I rx ry h
 obtain ⟨hs,q⟩:=h
 cases x with
 | non =>
  cases rx
  cases y with
  | non=>cases ry; exact PySem.EqNone.ne_none_none (zR I q (by simp))
  | bl j=>cases ry; exact PySem.EqNone.ne_none_bool (zR I q (by simp))
  | int j=>obtain ⟨t',rfl⟩:=ry; exact PySem.EqNone.ne_none_int (zR I q (by simp))
  | str j=>obtain ⟨t',rfl⟩:=ry; exact PySem.EqNone.ne_none_str (zR I q (by simp))
  | _=>exact absurd (show false = true from hs) Bool.false_ne_true
 | bl i =>
  cases rx
  cases y with
  | non=>cases ry; exact PySem.EqNone.ne_bool_none (zR I q (by simp))
  | bl j=>cases ry; exact ne_bool (zR I q (congrArg not X6))
  | str j=>obtain ⟨t',rfl⟩:=ry; exact PySem.EqMixed.ne_bool_str (zR I q (by simp))
  | _=>exact absurd (show false = true from hs) Bool.false_ne_true
 | int i =>
  obtain ⟨t,rfl⟩:=rx
  cases y with
  | non=>cases ry; exact PySem.EqNone.ne_int_none (zR I q (by simp))
  | int j=>obtain ⟨t',rfl⟩:=ry; exact ne_int (zR I q (congrArg not Zl))
  | str j=>obtain ⟨t',rfl⟩:=ry; exact PySem.EqMixed.ne_int_str (zR I q (by simp))
  | _=>exact absurd (show false = true from hs) Bool.false_ne_true
 | str i =>
  obtain ⟨t,rfl⟩:=rx
  cases y with
  | non=>cases ry; exact PySem.EqNone.ne_str_none (zR I q (by simp))
  | bl j=>cases ry; exact PySem.EqMixed.ne_str_bool (zR I q (by simp))
  | int j=>obtain ⟨t',rfl⟩:=ry; exact PySem.EqMixed.ne_str_int (zR I q (by simp))
  | str j=>obtain ⟨t',rfl⟩:=ry; exact ne_str (zR I q (congrArg not Zm))
  | _=>exact absurd (show false = true from hs) Bool.false_ne_true
 | byt i =>
  obtain ⟨t,rfl⟩:=rx
  cases y with
  | byt j=>obtain ⟨t',rfl⟩:=ry; exact PySem.W.ne_bytes (zR I q (congrArg not Zn))
  | _=>exact absurd (show false = true from hs) Bool.false_ne_true
 | _=>cases y <;> exact absurd (show false = true from hs) Bool.false_ne_true
theorem vI:OpR X (compareOp .Lt) (rI0 fun i j=>.bl (decide (i < j))):=opB0 fun _ _ _ _ _ _ _ q=>lt_int q
theorem rK:OpR X (compareOp .Gt) (rI0 fun i j=>.bl (decide (j < i))):=opB0 fun _ _ _ _ _ _ _ q=>gt_int q
theorem Ti:OpR X (compareOp .GtE) (rI0 fun i j=>.bl (decide (j <= i))):=opB0 fun _ _ _ _ _ _ _ q=>ge_int q
theorem zu (b:Expr) {op:CmpOp} (h:op ≠ .In:=by decide) (h2:op ≠ .NotIn:=by decide):behindInMarks op b = false:=by
 have e1:(op == CmpOp.In) = false:=by cases op <;> first | rfl | exact absurd rfl h
 have e2:(op == CmpOp.NotIn) = false:=by cases op <;> first | rfl | exact absurd rfl h2
 cases b <;> simp [behindInMarks,e1,e2]
theorem xn {op:CmpOp} {r:R2} (ho:OpR X (compareOp op) r) (ha:PE X a ta) (hb:PE X b tb) (hm:behindInMarks op b = false):PE X (.Compare a [op] [b] pos) (tOp r ta tb):=by
 intro pins s σ H Q I h
 exact wpAny_Compare1 (binT ha hb I h fun v u s2 x y H2 I2 rx ry q=>ho pins s2 σ H2 x y v u Q I2 rx ry q) hm
def Tj (t:TE):TT:=fun σ H Q=>t σ H fun x H'=>∃ k,x = .bl k /\ Q k H'
theorem zm {op:CmpOp} {r:R2} (ho:OpR X (compareOp op) r) (ha:PE X a ta) (hb:PE X b tb) (hm:behindInMarks op b = false):PT X (.Compare a [op] [b] pos) (Tj (tOp r ta tb)):=by
 intro pins s σ H Q I h
 refine wpAny_isTrue_Compare1 (thn (ha pins s σ H _ I h) fun v s1 ⟨x,H1,I1,r1,q1⟩=>thn (hb pins s1 σ H1 _ I1 q1) fun u s2 ⟨y,H2,I2,r2,q2⟩ =>
  thn (ho pins s2 σ H2 x y v u _ I2 r1 r2 q2) fun c s3 ⟨z,H3,I3,r3,k,e,q3⟩=>?_) hm
 subst e
 cases r3
 exact wpAny_truthy_bool ⟨H3,I3,q3⟩
def TruV (K:FG7) (x:V) (H:Hp) (k:Bool):Prop :=
 match x with
 | .non=>k = false
 | .bl b=>k = b
 | .int i=>k = (i != 0)
 | .str y=>y.length <= sizeLine /\ k = ((y.length:Int) != 0)
 | .byt y=>y.size <= sizeLine /\ k = ((y.size:Int) != 0)
 | .ref p=>(∃ xs,SqL K H p xs /\ k = !xs.isEmpty) \/ (∃ xs,SqT K H p xs /\ k = !xs.isEmpty) \/ ∃ kvs,H p = some (.dK kvs) /\ k = !kvs.isEmpty
 | _=>False
theorem jD {κ:Type} {kvs:List (κ × V)} {vs:List (κ × Value)} (r:KV kvs vs):(!vs.isEmpty) = !kvs.isEmpty:=by
 cases r <;> rfl
theorem uA {xs:List V} {its:List Value} (r:Vals xs its):(!its.toArray.isEmpty) = !xs.isEmpty:=by
 cases r <;> simp
theorem vJ:(sizeLine:Nat) < 2 ^ 63:=by rw [sizeLine_eq]; decide
theorem V6:TruR X (fun x H Q=>∃ k,TruV X.K x H k /\ Q k H):=by
 intro pins s σ H x v Q I rx h
 obtain ⟨k,e,q⟩:=h
 have hl:=vJ
 have hs:sizeLine = 16777216:=sizeLine_eq
 cases x with
 | non =>
  cases rx
  have e':k = false:=e
  subst e'
  exact truthy_none ⟨H,I,q⟩
 | bl b =>
  cases rx
  have e':k = b:=e
  subst e'
  exact wpAny_truthy_bool ⟨H,I,q⟩
 | int i =>
  obtain ⟨t,rfl⟩:=rx
  have e':k = (i != 0):=e
  subst e'
  exact PySem.P.truthy_int ⟨H,I,q⟩
 | str y =>
  obtain ⟨t,rfl⟩:=rx
  obtain ⟨hy,e'⟩:y.length <= sizeLine /\ k = ((y.length:Int) != 0):=e
  subst e'
  exact PySem.P.truthy_str (by omega) ⟨H,I.tok _,q⟩
 | byt y =>
  obtain ⟨t,rfl⟩:=rx
  obtain ⟨hy,e'⟩:y.size <= sizeLine /\ k = ((y.size:Int) != 0):=e
  subst e'
  exact PySem.W.truthy_bytes (by omega) ⟨H,I.tok _,q⟩
 | ref p =>
  cases rx
  have e':(∃ xs,SqL X.K H p xs /\ k = !xs.isEmpty) \/ (∃ xs,SqT X.K H p xs /\ k = !xs.isEmpty) \/ ∃ kvs,H p = some (.dK kvs) /\ k = !kvs.isEmpty:=e
  rcases e' with ⟨xs,hx,e'⟩ | ⟨xs,hx,e'⟩ | ⟨kvs,hx,e'⟩
  ·subst e'
   obtain ⟨its,r,pl,hz⟩:=I.list hx
   have hlen:=r.length
   exact wpAny_truthy_list pl.isList (by simp only [List.size_toArray]; omega) ⟨H,I.tok _,by rw [uA r]; exact q⟩
  ·subst e'
   obtain ⟨its,r,pl,hz⟩:=I.tuple hx
   have hlen:=r.length
   exact truthy_tuple pl (by simp only [List.size_toArray]; omega) ⟨H,I.tok _,by rw [uA r]; exact q⟩
  ·subst e'
   obtain ⟨hz,hS,vs,r,m⟩:kvs.length <= sizeLine /\ (p == sysModules) = false /\ ∃ vs,KV kvs vs /\ s.heap.DictOf (zO X.prog X.w) p vs:=I.hok p _ hx
   have hlen:kvs.length = vs.length:=Paired.length r
   exact wpAny_truthy_dict hS m (by omega) ⟨H,I.tok _,by rw [jD r]; exact q⟩
 | _=>exact (show False from e).elim
theorem Y8 (ha:PE X a ta) (he:∀ whole,isTrue a X.env whole = (do let v ← whole; standAt a.pos; holding [v] (truthy v))) :
  PT X a (fun σ H Q=>ta σ H fun x H'=>∃ k,TruV X.K x H' k /\ Q k H'):=by
 intro pins s σ H Q I h
 exact isTrue_plain (thn (ha pins s σ H _ I h) fun v s1 ⟨x,H1,I1,r1,q1⟩=>V6 pins s1 σ H1 x v Q I1 r1 q1) (he _)
theorem yE:OpR X (binaryOp .Add) (fun x y H Q=>∃ i j,x = .str i /\ y = .str j /\ i.length + j.length <= sizeLine /\ Q (.str (i ++ j)) H):=by
 intro pins s σ H x y v u Q I rx ry h
 obtain ⟨i,j,rfl,rfl,hz,q⟩:=h
 obtain ⟨t,rfl⟩:=rx
 obtain ⟨t',rfl⟩:=ry
 exact add_str (fun t' tk=>⟨.str (i ++ j),H,I.tok _,⟨_,rfl⟩,q⟩) hz
theorem wd {x:V} {us:List Value} (r:Vals [x] us):∃ u,us = [u] /\ RelV x u:=by
 cases r with
 | cons r1 r2=>cases r2; exact ⟨_,rfl,r1⟩
theorem rL {x y:V} {us:List Value} (r:Vals [x,y] us):∃ u w',us = [u,w'] /\ RelV x u /\ RelV y w':=by
 cases r with
 | cons r1 r2 =>
  cases r2 with
  | cons r3 r4=>cases r4; exact ⟨_,_,rfl,r1,r3⟩
theorem wx:xm X (.builtin "abs") (fun xs H Q=>∃ i,xs = [.int i] /\ Q (.int (if i < 0 then -i else i)) H):=by
 intro pins s σ H xs us Q I r h
 obtain ⟨i,rfl,q⟩:=h
 obtain ⟨u,rfl,t,rfl⟩:=wd r
 exact call_abs_int fun u tk=>⟨.int (if i < 0 then -i else i),H,I.tok _,⟨_,rfl⟩,q⟩
theorem tY (hc:X.calm = true):xm X (.builtin "max") (fun xs H Q=>∃ i j,xs = [.int i,.int j] /\ Q (.int (if j > i then j else i)) H):=by
 intro pins s σ H xs us Q I r h
 obtain ⟨i,j,rfl,q⟩:=h
 obtain ⟨u,w',rfl,⟨t,rfl⟩,⟨t',rfl⟩⟩:=rL r
 refine max_two_ints (I.ok.hd hc) fun h' tk k=>⟨_,H,I.kept k,?_,q⟩
 by_cases hj:j > i
 ·rw [if_pos hj,if_pos hj]; exact ⟨_,rfl⟩
 ·rw [if_neg hj,if_neg hj]; exact ⟨_,rfl⟩
theorem tZ (hc:X.calm = true):xm X (.builtin "min") (fun xs H Q=>∃ i j,xs = [.int i,.int j] /\ Q (.int (if j < i then j else i)) H):=by
 intro pins s σ H xs us Q I r h
 obtain ⟨i,j,rfl,q⟩:=h
 obtain ⟨u,w',rfl,⟨t,rfl⟩,⟨t',rfl⟩⟩:=rL r
 refine min_two_ints (I.ok.hd hc) fun h' tk k=>⟨_,H,I.kept k,?_,q⟩
 by_cases hj:j < i
 ·rw [if_pos hj,if_pos hj]; exact ⟨_,rfl⟩
 ·rw [if_neg hj,if_neg hj]; exact ⟨_,rfl⟩
theorem wy:xm X (.type "int") (fun xs H Q=>(∃ i,xs = [.int i] /\ Q (.int i) H) \/ ∃ k,xs = [.bl k] /\ Q (.int (if k then 1 else 0)) H):=by
 intro pins s σ H xs us Q I r h
 rcases h with ⟨i,rfl,q⟩ | ⟨k,rfl,q⟩
 ·obtain ⟨u,rfl,t,rfl⟩:=wd r
  exact call_int_int ⟨.int i,H,I,⟨_,rfl⟩,q⟩
 ·obtain ⟨u,rfl,r1⟩:=wd r
  cases r1
  exact call_int_bool ⟨.int (if k then 1 else 0),H,I.tok _,⟨_,rfl⟩,q⟩
theorem t4:xm X (.type "str") (fun xs H Q=>∃ i,xs = [.int i] /\ i.natAbs.log2 < 1920 /\ Q (.str (toString i)) H):=by
 intro pins s σ H xs us Q I r h
 obtain ⟨i,rfl,hz,q⟩:=h
 obtain ⟨u,rfl,t,rfl⟩:=wd r
 exact PySem.P.str_of_int hz ⟨.str _,H,I.tok _,⟨_,rfl⟩,q⟩
end
end L2
namespace L2
open PySem PySem.Spec PyProof.Rows
structure ObjM (h:Heap) (x dx C:Addr) (mA:Str -> Option Value):Prop where
 obj:h.get? x = some (PySem.W.instObj C dx)
 ns:h.Ns1 dx mA
 ne:dx ≠ x
theorem Zo {h:Heap} {dx:Addr} {mA:Str -> Option Value} (n:h.Ns1 dx mA):∃ od,h.get? dx = some od /\ ∀ name,PySem.W.lookIn name od = some (mA name):=by
 obtain ⟨o,es,ep,ho,hd,hk,_,hm⟩:=n
 refine ⟨o,ho,fun name=>?_⟩
 have e:=hm name
 unfold nsFind findBy at e
 rw [← Array.find?_toList] at e
 unfold PySem.W.lookIn
 rw [hd]
 dsimp only
 split
 ·rename_i y q
  rw [q] at e
  exact congrArg some e
 ·rename_i q
  rw [q] at e
  have a:es.toList.any (·.refKey) = false:=by
   rw [List.any_eq_false]
   intro y hy
   obtain ⟨z,t,hkey⟩:=hk y (Array.mem_toList_iff.mp hy)
   simp [DictEntry.refKey,hkey]
  have a':¬ es.toList.any (·.refKey) = true:=by rw [a]; exact Bool.false_ne_true
  rw [if_neg a']
  exact congrArg some e
theorem ObjM.look {h:Heap} {x dx C:Addr} {mA:Str -> Option Value} (I:ObjM h x dx C mA):∃ od,PySem.W.InstAt h x (PySem.W.instObj C dx) C (some od) /\ ∀ name,PySem.W.lookIn name od = some (mA name) :=
 let ⟨od,ho,hl⟩:=Zo I.ns
 ⟨od,⟨I.obj,rfl,rfl,ho⟩,hl⟩
section
variable {P:Program} {w:World} {H H':Hp} {h h':Heap} {a C dx:Addr} {fs fs':List (Str × V)}
theorem WQ (hok:HOk P w H h) (e:H a = some (.ins C dx fs)):∃ mA,ObjM h a dx C mA /\ (∀ f,RelO (fs.lookup f) (mA f)) /\ PySem.Within mA (fs.map (·.1)) /\ fs.length <= 1000 /\ H dx = some (.own a):=by
 obtain ⟨d,z,ne,ob,mA,n,r,q⟩:=(show yf P w H h a (.ins C dx fs) from hok a _ e)
 exact ⟨mA,⟨ob,n,ne⟩,r,q,z,d⟩
end
structure Cls (K:FG7) (C:Addr):Prop where
 pg:PySem.W.plainGet K C Str.empty = true
 hd:PySem.W.hasDictIn K C = true
 po:PySem.W.plainOver K C = true
 sa:PySem.W.findIn K (.ref C) "__setattr__" = some (some (.builtin "object.__setattr__"))
theorem Cls.get {K:FG7} {C:Addr} (c:Cls K C) (f:Str):PySem.W.plainGet K C f = true:=c.pg
def vK (K:FG7) (C:Addr) (f:Str):Prop:=PySem.W.findIn K (.ref C) f = some none
structure Con (K:FG7) (C:Addr) (f:Str) (v:V) (u:Value):Prop where
 at_:PySem.W.findIn K (.ref C) f = some (some u)
 rel:RelV v u
 get:PySem.W.specialIn K u "__get__" = some none
 cp:PySem.W.copiedNames.contains f = false
structure Meth (K:FG7) (C:Addr) (m:Str) (f:Addr):Prop where
 at_:PySem.W.findIn K (.ref C) m = some (some (.ref f))
 fn:PySem.W.isFn K (.ref f) = true
 kp:PySem.W.keepIn K (.ref f) = true
section
variable {X:Cx} {pins:List (Addr × Obj)} {σ:St} {H:Hp} {s:Shared} {a C dx:Addr} {fs:List (Str × V)} {f:Str} {v:V} {A:Around} {E:VS7}
theorem Inv.made (I:Inv X pins σ H s):Inv X pins σ (upd (upd H s.heap.objs.size (.own (s.heap.objs.size + 1))) (s.heap.objs.size + 1) (.ins C s.heap.objs.size []))
  { s with heap:=(s.heap.push PySem.W.emptyDict).push (PySem.W.instObj C s.heap.objs.size) }:=by
 have e1:(s.heap.push PySem.W.emptyDict).get? s.heap.objs.size = some PySem.W.emptyDict:=Heap.get?_push_size s.heap rfl
 have e2:((s.heap.push PySem.W.emptyDict).push (PySem.W.instObj C s.heap.objs.size)).get? (s.heap.objs.size + 1) = some (PySem.W.instObj C s.heap.objs.size):=by
  have:=Heap.get?_push_size (s.heap.push PySem.W.emptyDict) (o:=PySem.W.instObj C s.heap.objs.size) rfl
  rwa [Heap.size_push] at this
 have e3:(s.heap.push PySem.W.emptyDict).Ns s.heap.objs.size (fun _=>none):=⟨PySem.W.emptyDict,#[],_,e1,rfl,(fun e he=>absurd he (by simp)),fun _=>rfl⟩
 have I1:=I.laid (a:=s.heap.objs.size) (o:=.own (s.heap.objs.size + 1)) (h':=s.heap.push PySem.W.emptyDict) (t':=s.toks) (fun b u q=>Heap.get?_push_of_some _ q) (Nat.le_refl _) ⟨_,e1⟩
 refine I1.laid (a:=s.heap.objs.size + 1) (o:=.ins C s.heap.objs.size []) (t':=s.toks) (fun b u q=>Heap.get?_push_of_some _ q) (Nat.le_of_eq (Heap.size_push _ _)) ?_
 have ne:s.heap.objs.size ≠ s.heap.objs.size + 1:=Nat.ne_of_lt (Nat.lt_succ_self _)
 refine ⟨by rw [zB ne,zd],Nat.zero_le _,ne,e2,fun _=>none,(Heap.Ns1.of_empty e3).at fun o q=>Heap.get?_push_of_some _ q,fun _=>True.intro,fun y hy=>absurd rfl hy⟩
end
section
variable {X:Cx} {pins:List (Addr × Obj)} {σ:St} {H:Hp} {s:Shared} {A:Around} {E:VS7} {Q:VS7} {c:Value} {b:Bool}
inductive TyOf (K:FG7) (H:Hp):V -> Value -> Prop where
 | non:TyOf K H .non (.type "NoneType")
 | bl (x:Bool):TyOf K H (.bl x) (.type "bool")
 | int (i:Int):TyOf K H (.int i) (.type "int")
 | str (x:Str):TyOf K H (.str x) (.type "str")
 | flt (x:UInt64):TyOf K H (.flt x) (.type "float")
 | lst {a:Addr} {xs:List V} (e:H a = some (.lst xs)):TyOf K H (.ref a) (.type "list")
 | frz {a:Addr} {o:Obj} {xs:List V} (e:H a = some (.frz o (.lst xs))):TyOf K H (.ref a) (.type "list")
 | tup {a:Addr} {xs:List V} (e:H a = some (.tup xs)):TyOf K H (.ref a) (.type "tuple")
 | dK {a:Addr} {kvs:List (Key × V)} (e:H a = some (.dK kvs)):TyOf K H (.ref a) (.type "dict")
 | dT {a:Addr} {kvs:List (List Key × V)} (e:H a = some (.dT kvs)):TyOf K H (.ref a) (.type "dict")
 | ins {a C dx:Addr} {fs:List (Str × V)} (e:H a = some (.ins C dx fs)) (cl:Cls K C) (ha:PySem.W.findIn K (.ref C) "__class__" = some (some (.builtin "object.__class__")))
   (hn:PySem.W.specialIn K (.builtin "object.__class__") "__get__" = some (some (.builtin "getset_descriptor.__get__"))) (htk:PySem.W.takesIn K (.builtin "object.__class__") = some true)
   (hm:PySem.W.mroIn K C (.type "object") = some true):TyOf K H (.ref a) (.ref C)
theorem xD {x:V} {u t:Value} (I:Inv X pins σ H s) (rx:RelV x u) (ty:TyOf X.K H x t) (e:PySem.W.kitOne X.K t c = some b) (h:∀ tk,Q (.bool b) { s with toks:=tk }) :
  wpAny (model X.prog X.w) A (call (.builtin "isinstance") [u,c]) Q E s:=by
 cases ty with
 | non=>cases (show u = Value.none from rx); exact PySem.W.kia_one PySem.W.kitx_none I.kIn True.intro e (fun z=>nomatch z) h
 | bl y=>cases (show u = Value.bool y from rx); exact PySem.W.kia_one PySem.W.kitx_bool I.kIn True.intro e (fun z=>nomatch z) h
 | int i=>obtain ⟨t,q⟩:=(show ∃ t,u = Value.int i t from rx); cases q; exact PySem.W.kia_one PySem.W.kitx_int I.kIn True.intro e (fun z=>nomatch z) h
 | str y=>obtain ⟨t,q⟩:=(show ∃ t,u = Value.str y t from rx); cases q; exact PySem.W.kia_one PySem.W.kitx_str I.kIn True.intro e (fun z=>nomatch z) h
 | flt y=>obtain ⟨t,q⟩:=(show ∃ t,u = Value.float y t from rx); cases q; exact PySem.W.kia_one PySem.W.kitx_float I.kIn True.intro e (fun z=>nomatch z) h
 | @lst a xs ea =>
  cases (show u = Value.ref a from rx)
  obtain ⟨_,_,n,_,h1⟩:=(show yf X.prog X.w H s.heap a (.lst xs) from I.hok a _ ea)
  exact PySem.W.kia_one PySem.W.kitx_list I.kIn ⟨_,h1,rfl⟩ e (fun z=>nomatch z) h
 | @frz a ob xs ea =>
  cases (show u = Value.ref a from rx)
  obtain ⟨_,_,_,n,_,h1⟩:=(show yf X.prog X.w H s.heap a (.frz ob (.lst xs)) from I.hok a _ ea)
  exact PySem.W.kia_one PySem.W.kitx_list I.kIn ⟨_,h1,rfl⟩ e (fun z=>nomatch z) h
 | @tup a xs ea =>
  cases (show u = Value.ref a from rx)
  obtain ⟨_,_,_,p⟩:=(show yf X.prog X.w H s.heap a (.tup xs) from I.hok a _ ea)
  obtain ⟨o,h1,h2,_⟩:=p
  exact PySem.W.kia_one PySem.W.kitx_tuple I.kIn ⟨o,h1,h2⟩ e (fun z=>nomatch z) h
 | @dK a kvs ea =>
  cases (show u = Value.ref a from rx)
  obtain ⟨_,_,vs,_,p⟩:=(show yf X.prog X.w H s.heap a (.dK kvs) from I.hok a _ ea)
  obtain ⟨o,es,ep,h1,h2,_⟩:=p
  exact PySem.W.kia_one PySem.W.kitx_dict I.kIn ⟨o,h1,h2.1⟩ e (fun z=>nomatch z) h
 | @dT a kvs ea =>
  cases (show u = Value.ref a from rx)
  obtain ⟨_,_,xs,_,o,es,ep,h1,h2,_⟩:=(show yf X.prog X.w H s.heap a (.dT kvs) from I.hok a _ ea)
  exact PySem.W.kia_one PySem.W.kitx_dict I.kIn ⟨o,h1,h2.1⟩ e (fun z=>nomatch z) h
 | @ins a C dx fs ea cl ha hn htk hm =>
  cases (show u = Value.ref a from rx)
  obtain ⟨mA,O,_⟩:=WQ I.hok ea
  obtain ⟨od,J,_⟩:=O.look
  exact PySem.W.kia_one (PySem.W.kitx_own (cl.get _) cl.hd ha hn htk hm) I.kIn J e (fun z=>nomatch z) h
end
end L2
namespace L2
open PySem PySem.Spec PyProof.Rows
structure Room (k:Nat) (A:Around):Prop where
 hd:A.handled = none
 dp:A.depth + 3 * k + 5 < recursionLimit
 un:A.units + 16 * k + 200 < cLine
 gd:A.guards = some []
theorem Room.mono {j k:Nat} {A:Around} (r:Room k A) (h:j <= k):Room j A:=⟨r.hd,by have:=r.dp; omega,by have:=r.un; omega,r.gd⟩
theorem Room.deeper {k:Nat} {A:Around} (r:Room (k + 1) A) (env:Env):Room k (A.deeper env) :=
 ⟨r.hd,by have:=r.dp; show A.depth + 1 + 3 * k + 5 < _; omega,by have:=r.un; show A.units + 3 + 16 * k + 200 < _; omega,r.gd⟩
theorem Room.in1 {k:Nat} {A:Around} (r:Room (k + 1) A):Room k A.in1 :=
 ⟨r.hd,by have:=r.dp; show A.depth + 3 * k + 5 < _; omega,by have:=r.un; show A.units + 1 + 16 * k + 200 < _; omega,r.gd⟩
theorem Room.depth {k:Nat} {A:Around} (r:Room k A):A.depth < recursionLimit:=by have:=r.dp; omega
theorem Room.units {k:Nat} {A:Around} (r:Room k A):A.units + 64 < cLine:=by have:=r.un; omega
theorem Room.units0 {k:Nat} {A:Around} (r:Room k A):A.units < cLine:=by have:=r.un; omega
def tNil:TA:=fun _ H Q=>Q [] H
def t9 (ta:TE) (tr:TA):TA:=fun σ H Q=>ta σ H fun x H1=>tr σ H1 fun xs H2=>Q (x :: xs) H2
section
variable {X:Cx} {e:Expr} {es:List Expr} {te:TE} {t:TA} {pos:Pos}
theorem ze:PA X [] tNil:=fun _ _ _ _ H Q I h=>Calls.spliced_nil ⟨[],H,I,.nil,h⟩
theorem zc (ha:PE X e te) (hr:PA X es t) (hs:starEach (e :: es) X.env = (false,eval e X.env) :: starEach es X.env:=by rfl):PA X (e :: es) (t9 te t):=by
 intro pos pins s σ H Q I h
 rw [hs]
 show wpAny _ _ (spliced ((false,eval e X.env) :: backTo pos (starEach es X.env))) _ _ s
 refine Calls.spliced_cons (thn (ha pins s σ H _ I h) fun u s1 ⟨x,H1,I1,r1,q1⟩=>?_)
 exact thn (hr pos pins s1 σ H1 _ I1 q1) fun us s2 ⟨xs,H2,I2,r2,q2⟩=>⟨x :: xs,H2,I2,.cons r1 r2,q2⟩
def tTup (t:TA):TE:=fun σ H Q=>t σ H fun xs H1=>xs.length <= sizeLine /\ ∀ p,H1 p = none -> Q (.ref p) (upd H1 p (.tup xs))
def tLst (t:TA):TE:=fun σ H Q=>t σ H fun xs H1=>xs.length <= sizeLine /\ ∀ p,H1 p = none -> Q (.ref p) (upd H1 p (.lst xs))
theorem z7 {x1} (h:PA X es t):PE X (.Tuple es x1 pos) (tTup t):=by
 intro pins s σ H Q I hq
 refine wpAny_Tuple_spliced (thn (h pos pins s σ H _ I hq) fun us s1 ⟨xs,H1,I1,r,z,q⟩=>⟨by rw [← r.length]; exact z,?_⟩)
 have hf:H1 s1.heap.objs.size = none:=I1.hok.fresh (Nat.le_refl _)
 refine ⟨.ref s1.heap.objs.size,upd H1 s1.heap.objs.size (.tup xs),I1.laid (t':=s1.toks) (fun b u e=>Heap.get?_push_of_some _ e) (Nat.le_refl _) ?_,rfl,q _ hf⟩
 exact ⟨z,us,r,⟨_,Heap.get?_push_size _ rfl,rfl,_,rfl⟩⟩
theorem zJ (h:PA X es t):PE X (.List es pos) (tLst t):=by
 intro pins s σ H Q I hq
 refine wpAny_List_spliced (thn (h pos pins s σ H _ I hq) fun us s1 ⟨xs,H1,I1,r,z,q⟩=>⟨by rw [← r.length]; exact z,?_⟩)
 have hf:H1 s1.heap.objs.size = none:=I1.hok.fresh (Nat.le_refl _)
 refine ⟨.ref s1.heap.objs.size,upd H1 s1.heap.objs.size (.lst xs),I1.laid (t':=s1.toks) (fun b u e=>Heap.get?_push_of_some _ e) (Nat.le_refl _) ?_,rfl,q _ hf⟩
 exact ⟨z,us,0,r,Heap.get?_push_size _ rfl⟩
end
abbrev Sp:=List V -> Hp -> VK -> XK -> Prop
abbrev CXT:=List Env -> Hp -> Shared -> XK -> Value -> Shared -> Prop
structure Env0 (P:Program) (w:World) (K:FG7) (mg:Str -> Option Value) (base:Heap) (A:Around) (outer:List Env) (s:Shared) (H:Hp):Prop where
 frames:A.frames = some outer
 mod:Mod K mg base
 bs:∀ b o,base.get? b = some o -> s.heap.get? b = some o /\ H b = none
 bsz:base.objs.size <= s.heap.objs.size
 funs:s.heap.FunFrames base outer
 frf:∀ b ∈ frs outer,H b = none
 hok:HOk P w H s.heap
 bare:AllBare s.gens
def CE (outer:List Env) (P:Program) (w:World) (H:Hp) (s:Shared) (Q:VK) (u:Value) (s':Shared):Prop :=
 ∃ v H',s'.os = s.os /\ AllBare s'.gens /\ Un (frs outer) [] H H' s.heap s'.heap /\ HOk P w H' s'.heap /\ RelV v u /\ Q v H'
def CR (CX:CXT) (outer:List Env) (P:Program) (w:World) (H:Hp) (s:Shared) (Q:VK) (E:XK) (r:Result) (s':Shared):Prop :=
 match r with
 | .ok (.ret u)=>CE outer P w H s Q u s'
 | .ok _=>False
 | .error e=>CX outer H s E e s'
structure FnOk (P:Program) (w:World) (K:FG7) (mg:Str -> Option Value) (base:Heap) (CX:CXT) (k:Nat) (f:Addr) (fd:FuncData) (ps:List Str) (sp:Sp):Prop where
 len:∀ vs H Q E,sp vs H Q E -> vs.length = ps.length
 run:∀ (A:Around) (outer:List Env) (s:Shared) (H:Hp) (args:Args) (us:List Value) (vs:List V) (Q:VK) (E:XK),Room k A -> Env0 P w K mg base A outer s H -> BindsTo s fd args (ps.zip us) -> Vals vs us -> sp vs H Q E →
  codeAny (model P w) A (.call (.ref f) args) (CR CX outer P w H s Q E) s
theorem FnOk.mono {P:Program} {w:World} {K:FG7} {mg:Str -> Option Value} {base:Heap} {CX:CXT} {j k:Nat} {f:Addr} {fd:FuncData} {ps:List Str} {sp:Sp} (F:FnOk P w K mg base CX j f fd ps sp) (h:j <= k) :
  FnOk P w K mg base CX k f fd ps sp:=⟨F.len,fun A outer s H args us vs Q E hr=>F.run A outer s H args us vs Q E (hr.mono h)⟩
theorem FnOk.imp {P:Program} {w:World} {K:FG7} {mg:Str -> Option Value} {base:Heap} {CX:CXT} {k:Nat} {f:Addr} {fd:FuncData} {ps:List Str} {sp sp':Sp} (F:FnOk P w K mg base CX k f fd ps sp)
  (h:∀ vs H Q E,sp' vs H Q E -> sp vs H Q E):FnOk P w K mg base CX k f fd ps sp' :=
 ⟨fun vs H Q E q=>F.len vs H Q E (h _ _ _ _ q),fun A outer s H args us vs Q E hr he hb hv hs=>F.run A outer s H args us vs Q E hr he hb hv (h _ _ _ _ hs)⟩
theorem Env0.in1 {P:Program} {w:World} {K:FG7} {mg:Str -> Option Value} {base:Heap} {A:Around} {outer:List Env} {s:Shared} {H:Hp} (e:Env0 P w K mg base A outer s H) :
  Env0 P w K mg base A.in1 outer s H:=⟨e.frames,e.mod,e.bs,e.bsz,e.funs,e.frf,e.hok,e.bare⟩
section
variable {X:Cx} {pins:List (Addr × Obj)} {σ:St} {H:Hp} {s s':Shared}
theorem Inv.env0 (I:Inv X pins σ H s):Env0 X.prog X.w X.K X.mg X.base X.A X.stack s H :=
 ⟨I.ok.frames,I.ok.mod,I.bs,Nat.le_trans I.ok.bsz I.sz,I.stack,I.stkFree,I.hok,I.bare⟩
theorem Inv.after {Q:VK} {u:Value} (I:Inv X pins σ H s) (h:CE X.stack X.prog X.w H s Q u s'):EP X pins σ Q u s':=by
 obtain ⟨v,H',os,bare,un,hok,r,q⟩:=h
 obtain ⟨hh,g,d,t,os'⟩:=s'
 obtain rfl:os' = s.os:=os
 exact ⟨v,H',I.call (h':=hh) (g':=g) (d':=d) (t':=t) (ch:=[]) un hok bare (fun b z=>absurd z (by simp)),r,q⟩
end
def jE (sp:Sp) (dvs:List V) (E:XK) (t:TA):TE:=fun σ H Q=>t σ H fun vs H1=>sp (vs ++ dvs) H1 Q E
def wQ (K:FG7) (fd:FuncData) (ps:List Str) (ds:List Value):Prop :=
 ∀ (s:Shared) (us:List Value),K.In s.heap -> (us ++ ds).length = ps.length -> BindsTo s fd ⟨us,[]⟩ (ps.zip (us ++ ds))
theorem wQ.all {K:FG7} {fd:FuncData} {ps:List Str} (h:∀ us:List Value,us.length = ps.length -> bindArgs fd ⟨us,[]⟩ = pure (ps.zip us)):wQ K fd ps []:=fun s us _ hl=>by
 rw [List.append_nil] at hl ⊢
 exact .of_eq (h us hl)
def uB (CX:CXT) (X:Cx) (E:XK):Prop:=∀ (pins:List (Addr × Obj)) (σ:St) (H:Hp) (s:Shared) (e:Value) (s':Shared),Inv X pins σ H s -> CX X.stack H s E e s' -> X.xe e s'
section
variable {X:Cx} {CX:CXT} {k:Nat} {f C:Addr} {fd:FuncData} {ps:List Str} {sp:Sp} {dvs:List V} {ds:List Value} {E:XK} {x m:Str} {p pos apos:Pos} {e o:Expr} {es:List Expr} {ta:TE} {t:TA}
theorem V7 {pins:List (Addr × Obj)} {σ:St} {H:Hp} {s:Shared} {Q:VK} {us:List Value} {vs:List V} (F:FnOk X.prog X.w X.K X.mg X.base CX k f fd ps sp) (hr:Room k X.A) (hb:wQ X.K fd ps ds) (hd:Vals dvs ds) (hx:uB CX X E)
  (I:Inv X pins σ H s) (r:Vals vs us) (h:sp (vs ++ dvs) H Q E):wpAny (model X.prog X.w) X.A (call (.ref f) us) (EP X pins σ Q) X.xe s:=by
 have r2:Vals (vs ++ dvs) (us ++ ds):=r.append hd
 have hl:(us ++ ds).length = ps.length:=by rw [← r2.length]; exact F.len _ _ _ _ h
 refine wpAny_call (codeAny_mono (F.run X.A X.stack s H ⟨us,[]⟩ (us ++ ds) (vs ++ dvs) Q E hr I.env0 (hb s us I.kIn hl) r2 h) fun r s' hq=>?_)
 cases r with
 | error e=>exact hx pins σ H s e s' I hq
 | ok fl =>
  cases fl with
  | ret u=>exact I.after hq
  | next=>exact False.elim hq
  | brk=>exact False.elim hq
  | cont=>exact False.elim hq
theorem Zp (F:FnOk X.prog X.w X.K X.mg X.base CX k f fd ps sp) (hr:Room k X.A) (hg:Gl X x) (hm:X.mg x = some (.ref f)) (hk:PySem.W.keepIn X.K (.ref f) = true) (hb:wQ X.K fd ps ds) (hd:Vals dvs ds) (hx:uB CX X E)
  (ha:PA X (e :: es) t) (hdb:(x == ("__debug__":Str)) = false:=by decide) (he:starEach (e :: es) X.env = (false,eval e X.env) :: starEach es X.env:=by rfl) (hpl:(backTo pos (starEach es X.env)).any (·.1) = false:=by rfl) :
  PE X (.Call (.Name x p) (e :: es) [] pos) (jE sp dvs E t):=by
 intro pins s σ H Q I h
 refine wpAny_Call_Name_kw (wO I hg hm ?_ hdb)
 refine PySem.W.callWith_K (h₀:=X.base) I.ok.mod.kin hk (thn (ha pos pins s σ H _ I h) fun us s1 ⟨vs,H1,I1,r,q⟩=>⟨I1.kIn,?_⟩) he hpl
 exact V7 F hr hb hd hx I1 r q
structure Mk (K:FG7) (C f:Addr):Prop where
 makes:PySem.W.makesIn K C = true
 init:PySem.W.findIn K (.ref C) "__init__" = some (some (.ref f))
 fn:PySem.W.isFn K (.ref f) = true
 kp:PySem.W.keepIn K (.ref C) = true
end
section
variable {X:Cx} {CX:CXT} {k:Nat} {f C:Addr} {fd:FuncData} {ps ks:List Str} {sp:Sp} {E:XK} {x m:Str} {p pos apos kpos:Pos} {e o:Expr} {es:List Expr} {kws:List Keyword} {te ta:TE} {t tk:TA} {nm:Option Str}
structure KBinds (K:FG7) (fd:FuncData) (ps ks:List Str) (g:List Value -> List Value -> List Value) (gV:List V -> List V -> List V):Prop where
 to:∀ (s:Shared) (us ws:List Value),K.In s.heap -> (g us ws).length = ps.length -> BindsTo s fd ⟨us,ks.zip ws⟩ (ps.zip (g us ws))
 rel:∀ {vs:List V} {us:List Value} {zs:List V} {ws:List Value},Vals vs us -> Vals zs ws -> Vals (gV vs zs) (g us ws)
variable {g:List Value -> List Value -> List Value} {gV:List V -> List V -> List V}
end
structure FnScope (N P:List Str) (sc:Scope):Prop where
 kind:sc.kind = .function
 co:sc.isCoroutine = false
 gen:sc.isGenerator = false
 nd:N.Nodup
 pre:N.take P.length = P
 par:∀ x ∈ P,sc.names.lookup x = some .local \/ sc.names.lookup x = some .cell
 nofree:∀ y ∈ sc.names,y.2 ≠ .free
theorem sd {kindOf:Str -> Option NameKind} {x:Str}:∀ {binds:List (Str × Value)} {m:Str -> Option Value},(∀ v,(x,v) ∉ binds) -> bindL kindOf binds m x = m x
 | [],_,_=>rfl
 | (n,v) :: r,m,h=>by
  unfold bindL
  rw [sd fun w hw=>h w (List.mem_cons_of_mem _ hw)]
  split
  ·have:x ≠ n:=by rintro rfl; exact h v List.mem_cons_self
   simp [this]
  ·rfl
theorem se {kindOf:Str -> Option NameKind} {x:Str}:∀ {binds:List (Str × Value)} {m:Str -> Option Value},(∀ v,(x,v) ∉ binds) -> bindC kindOf binds m x = m x
 | [],_,_=>rfl
 | (n,v) :: r,m,h=>by
  unfold bindC
  rw [se fun w hw=>h w (List.mem_cons_of_mem _ hw)]
  split
  ·rfl
  ·have:x ≠ n:=by rintro rfl; exact h v List.mem_cons_self
   simp [this]
theorem sf {kindOf:Str -> Option NameKind} {x:Str} {v:Value}:∀ {P:List Str} {vs:List Value} {i:Nat} {m:Str -> Option Value},P.Nodup -> P[i]? = some x -> vs[i]? = some v -> kindOf x = some .local →
  bindL kindOf (P.zip vs) m x = some v
 | [],_,_,_,_,h,_,_=>by simp at h
 | _ :: _,[],_,_,_,_,h,_=>by simp at h
 | p :: P,w :: vs,0,m,nd,h1,h2,hk=>by
  simp at h1 h2; subst h1; subst h2
  show bindL kindOf ((p,w) :: P.zip vs) m p = _
  unfold bindL
  rw [sd fun v hv=>(List.nodup_cons.mp nd).1 (List.of_mem_zip hv).1,if_pos hk]
  simp
 | p :: P,w :: vs,i + 1,m,nd,h1,h2,hk=>by
  show bindL kindOf ((p,w) :: P.zip vs) m x = _
  unfold bindL
  exact sf (i:=i) (List.nodup_cons.mp nd).2 (by simpa using h1) (by simpa using h2) hk
theorem sg {kindOf:Str -> Option NameKind} {x:Str} {v:Value}:∀ {P:List Str} {vs:List Value} {i:Nat} {m:Str -> Option Value},P.Nodup -> P[i]? = some x -> vs[i]? = some v -> kindOf x ≠ some .local →
  bindC kindOf (P.zip vs) m x = some v
 | [],_,_,_,_,h,_,_=>by simp at h
 | _ :: _,[],_,_,_,_,h,_=>by simp at h
 | p :: P,w :: vs,0,m,nd,h1,h2,hk=>by
  simp at h1 h2; subst h1; subst h2
  show bindC kindOf ((p,w) :: P.zip vs) m p = _
  unfold bindC
  rw [se fun v hv=>(List.nodup_cons.mp nd).1 (List.of_mem_zip hv).1,if_neg hk]
  simp
 | p :: P,w :: vs,i + 1,m,nd,h1,h2,hk=>by
  show bindC kindOf ((p,w) :: P.zip vs) m x = _
  unfold bindC
  exact sg (i:=i) (List.nodup_cons.mp nd).2 (by simpa using h1) (by simpa using h2) hk
def vt (N:List Str) (vs:List V):St:=vs.map some ++ List.replicate (N.length - vs.length) none
def cxOf (CX:CXT) (P:Program) (w:World) (K:FG7) (mg:Str -> Option Value) (base:Heap) (N:List Str) (qual:Str) (scope:Scope) (f:Addr) (cd:Value) (A:Around) (outer:List Env) (s:Shared) (H:Hp) (E:XK):Cx where
 prog:=P
 w:=w
 K:=K
 mg:=mg
 base:=base
 A:=A.deeper (envOfC qual scope s.heap.objs.size f cd)
 N:=N
 s₀:=s
 H₀:=H
 env:=envOfC qual scope s.heap.objs.size f cd
 outer:=outer
 stack:=envOfC qual scope s.heap.objs.size f cd :: outer
 ex:=[]
 calm:=true
 fn:=fun _=>true
 pn:=[]
 xe:=fun e s'=>wpAny (model P w) (A.deeper (envOfC qual scope s.heap.objs.size f cd)) (leaving (envOfC qual scope s.heap.objs.size f cd) e) (fun _ s''=>CX outer H s E e s'') (fun e' s''=>CX outer H s E e' s'') s'
theorem qJ {sc:Scope} {n:Nat} {x:Str} (h:sc.names.lookup x = some .cell):∃ c,(cellsFrom n sc.names []).lookup x = some c:=by
 have q:=PySem.W.cellsFrom_some sc.names n [] (.inl h)
 exact Option.isSome_iff_exists.mp q
theorem sh {CX:CXT} {P:Program} {w:World} {K:FG7} {mg:Str -> Option Value} {base:Heap} {N ps:List Str} {qual:Str} {scope:Scope} {f:Addr} {cd:Value} {A:Around} {outer:List Env} {s s1:Shared} {H:Hp} {E:XK} {us:List Value} {vs:List V}
  (S:FnScope N ps scope) (hd:A.handled = none) (e0:Env0 P w K mg base A outer s H) (hl:vs.length = ps.length) (r:Vals vs us)
  (x:InCallC s s.heap.objs.size (bindL (envOfC qual scope s.heap.objs.size f cd).kindOf (ps.zip us) fun _=>none) (cellsFrom (s.heap.objs.size + 1) scope.names []) (bindC (envOfC qual scope s.heap.objs.size f cd).kindOf (ps.zip us) fun _=>none) s1) :
  Inv (cxOf CX P w K mg base N qual scope f cd A outer s H E) [] (vt N vs) H s1:=by
 have hpl:ps.length <= N.length:=by have:=congrArg List.length S.pre; rw [List.length_take] at this; omega
 obtain ⟨h1,tk,rfl,hk⟩:=x.done
 have noA:∀ b:Addr,b ∉ (cxOf CX P w K mg base N qual scope f cd A outer s H E).ex:=fun b z=>absurd (show b ∈ ([]:List Addr) from z) (by simp)
 refine ⟨⟨e0.mod,S.kind,rfl,rfl,Nat.le_refl _,fun y z c h1 h2=>?_,fun y hy=>?_,fun y c _ h=>?_,fun _=>hd,Around.frames_deeper e0.frames,.inr ⟨rfl,rfl⟩,fun b z=>absurd z (noA b),e0.bs,e0.bsz,fun b _ _=>noA b,fun b z=>absurd z (noA b),e0.funs,e0.frf⟩,
  rfl,e0.bare,Un.kept hk,⟨_,x.toInCall.ns,fun i y v h1 h2 h3=>?_⟩,fun y c h=>⟨_,x.cell y c h⟩,e0.hok.fresh (Nat.le_refl _),fun y c h=>?_,fun p hp=>absurd (show p ∈ ([]:List (Addr × Obj)) from hp) (by simp),e0.hok.kept hk,?_⟩
 ·exact name_of_addr x.apart (PySem.mem_of_lookup h1) (PySem.mem_of_lookup h2)
 ·have hy:scope.names.lookup y = some .cell \/ scope.names.lookup y = some .free:=hy
  rcases hy with hy | hy
  ·exact qJ hy
  ·exact absurd rfl (S.nofree _ (PySem.mem_of_lookup hy))
 ·exact Nat.le_of_lt (x.above y c (PySem.mem_of_lookup h))
 ·have hi:i < vs.length:=by
   unfold vt at h2
   by_cases hi:i < vs.length
   ·exact hi
   ·rw [List.getElem?_append_right (by simpa using hi)] at h2
    rw [List.getElem?_replicate] at h2
    split at h2 <;> cases h2
  have ha:vs[i]? = some v:=by
   unfold vt at h2
   rw [List.getElem?_append_left (by simpa using hi),List.getElem?_map] at h2
   cases e:vs[i]? with
   | none=>rw [e] at h2; cases h2
   | some a=>rw [e] at h2; cases h2; rfl
  obtain ⟨u,hu,rv⟩:=r.get ha
  have hp:ps[i]? = some y:=by
   rw [← S.pre,List.getElem?_take_of_lt (by omega)]; exact h1
  have ndP:ps.Nodup:=by rw [← S.pre]; exact S.nd.sublist (List.take_sublist _ _)
  refine ⟨u,rv,?_⟩
  rcases S.par y (List.mem_of_getElem? hp) with k | k
  ·exact .inl ⟨k,sf ndP hp hu k⟩
  ·obtain ⟨c,e⟩:=qJ (n:=s.heap.objs.size + 1) k
   refine .inr ⟨.inl k,c,e,?_⟩
   have q:=x.cell y c e
   rw [sg ndP hp hu (by show scope.names.lookup y ≠ _; rw [k]; decide)] at q
   exact q
 ·exact e0.hok.fresh (Nat.le_of_lt (x.above y c (PySem.mem_of_lookup h)))
 ·unfold vt
  show _ = N.length
  rw [List.length_append,List.length_map,List.length_replicate]
  omega
theorem V8 {CX:CXT} {P:Program} {w:World} {K:FG7} {mg:Str -> Option Value} {base:Heap} {k:Nat} {f:Addr} {name qual:Str} {params:Arguments} {body:List Stmt} {scope:Scope} {dV kV doc pm cdv ct oc:Value} {an od:Option Addr}
  {osl:Array (Option Value)} {N ps:List Str} {sp:Sp} (lk:K.lookup f = some ⟨oc,od,.func (PySem.W.fnOf name qual params body scope dV kV doc pm an cdv ct),osl⟩) (hcd:PySem.W.codeIn K cdv qual = true) (S:FnScope N ps scope)
  (len:∀ vs H Q E,sp vs H Q E -> vs.length = ps.length)
  (hbody:∀ (A:Around) (outer:List Env) (s:Shared) (H:Hp) (vs:List V) (Q:VK) (E:XK),Room k (A.deeper (envOfC qual scope s.heap.objs.size f cdv)) -> sp vs H Q E →
   ∃ t,PSs (cxOf CX P w K mg base N qual scope f cdv A outer s H E) body t /\ t { nx:=fun _ H'=>Q .non H',rt:=Q } (vt N vs) H) :
  FnOk P w K mg base CX (k + 1) f (PySem.W.fnOf name qual params body scope dV kV doc pm an cdv ct) ps sp:=by
 refine ⟨len,fun A outer s H args us vs Q E hr e0 hb r hsp=>?_⟩
 have hl:=len _ _ _ _ hsp
 have KX:K.In s.heap:=e0.mod.kin.keeps fun b o e=>(e0.bs b o e).1
 have lim:s.heap.NoLimit:=e0.mod.nolimit.keeps fun b o e=>(e0.bs b o e).1
 have hkind:∀ y ∈ ps.zip us,scope.names.lookup y.1 = some .local \/ (scope.names.lookup y.1 = some .cell /\ ((cellsFrom (s.heap.objs.size + 1) scope.names []).lookup y.1).isSome = true):=fun ⟨n,v⟩ hy=>by
  rcases S.par n (List.of_mem_zip hy).1 with q | q
  ·exact .inl q
  ·exact .inr ⟨q,PySem.W.cellsFrom_some _ _ _ (.inl q)⟩
 refine codeAny_call_function hr.depth (KX _ _ lk) rfl S.co S.gen rfl (PySem.W.codeRec_of KX hcd) (hb _ _ _ _ ?_)
 refine wpAny_newFunctionEnv_cells S.kind hkind fun env he s1 x=>?_
 subst he
 refine ⟨lim.keeps x.toInCall.keep,codeAny_func ?_⟩
 obtain ⟨t,ht,hq⟩:=hbody A outer s H vs Q E (hr.deeper _) hsp
 have I:Inv (cxOf CX P w K mg base N qual scope f cdv A outer s H E) [] (vt N vs) H s1:=sh S hr.hd e0 hl r x
 refine wpAny_mono (ht [] s1 (vt N vs) H _ I hq) (fun fl s' hs=>?_) fun e s' hs=>hs
 have fin:∀ {σ':St} {H':Hp} {v:V} {u:Value},Inv (cxOf CX P w K mg base N qual scope f cdv A outer s H E) [] σ' H' s' -> RelV v u -> Q v H' -> CE outer P w H s Q u s' :=
  fun {σ' H' v u} J rv q=>⟨v,H',J.os,J.bare,J.base,J.hok,rv,q⟩
 cases fl with
 | ret u =>
  obtain ⟨v,σ',H',J,rv,q⟩:=hs
  exact fin J rv q
 | next =>
  obtain ⟨σ',H',J,q⟩:=hs
  exact fin (v:=V.non) (u:=Value.none) J rfl q
 | brk =>
  obtain ⟨_,_,_,q⟩:=hs
  exact False.elim q
 | cont =>
  obtain ⟨_,_,_,q⟩:=hs
  exact False.elim q
end L2
namespace L2
open PySem PySem.Spec PyProof.Rows
section
variable {X:Cx} {x:Str} {p pos:Pos} {e:Expr} {es:List Expr} {t:TA} {id T:String} {r:List V -> Hp -> VK -> Prop}
def tCB (r:List V -> Hp -> VK -> Prop) (t:TA):TE:=fun σ H Q=>t σ H fun vs H1=>r vs H1 Q
theorem zk (hc:xm X (.builtin id) r) (hg:Gl X x) (hm:X.mg x = none) (hv:bootBuiltins x = some (.builtin id)) (ha:PA X (e :: es) t) (hn:x ≠ "__name__":=by decide) (hdb:(x == ("__debug__":Str)) = false:=by decide)
  (he:starEach (e :: es) X.env = (false,eval e X.env) :: starEach es X.env:=by rfl) (hpl:(backTo pos (starEach es X.env)).any (·.1) = false:=by rfl):PE X (.Call (.Name x p) (e :: es) [] pos) (tCB r t):=by
 intro pins s σ H Q I h
 refine wpAny_Call_Name_kw (vg I hg hm hv ?_ hn hdb)
 exact PyProof.Rows.callWith_builtin1 (thn (ha pos pins s σ H _ I h) fun us s1 ⟨vs,H1,I1,r1,q1⟩=>hc pins s1 σ H1 vs us Q I1 r1 q1) he hpl
theorem yV (hc:xm X (.type T) r) (hg:Gl X x) (hm:X.mg x = none) (hv:bootBuiltins x = some (.type T)) (ha:PA X (e :: es) t) (hn:x ≠ "__name__":=by decide) (hdb:(x == ("__debug__":Str)) = false:=by decide)
  (he:starEach (e :: es) X.env = (false,eval e X.env) :: starEach es X.env:=by rfl) (hpl:(backTo pos (starEach es X.env)).any (·.1) = false:=by rfl):PE X (.Call (.Name x p) (e :: es) [] pos) (tCB r t):=by
 intro pins s σ H Q I h
 refine wpAny_Call_Name_kw (vg I hg hm hv ?_ hn hdb)
 exact PyProof.Rows.callWith_type1 (thn (ha pos pins s σ H _ I h) fun us s1 ⟨vs,H1,I1,r1,q1⟩=>hc pins s1 σ H1 vs us Q I1 r1 q1) he hpl
end
end L2
namespace HT
open PySem PyProof.Rows
section
variable {prog:Program} {w:World} {A:Around} {E:VS7} {s:Shared}
theorem cat_tup {t b:Addr} {vs ws:List Value} {Q:VS7} (ht:IsTup s.heap t vs.toArray) (hb:IsTup s.heap b ws.toArray) (hv:vs ≠ [])
  (h1:ws = [] -> Q (.ref t) s) (h2:ws ≠ [] -> Q (.ref s.heap.objs.size) { s with heap:=s.heap.push { cls:=.type "tuple",data:=.seq (vs ++ ws).toArray } })
  (hsz:vs.length + ws.length <= sizeLine):wpAny (model prog w) A (binaryOp .Add (.ref t) (.ref b)) Q E s:=by
 obtain ⟨⟨cls,dd,data,sl⟩,ho,hc,n,hd⟩:=id ht
 obtain ⟨⟨cls2,dd2,data2,sl2⟩,ho2,hc2,n2,hd2⟩:=id hb
 simp only at hc hd hc2 hd2
 subst hc hd hc2 hd2
 have e:vs.toArray ++ ws.toArray = (vs ++ ws).toArray:=by simp
 by_cases hw:ws = []
 ·exact concat_meets ⟨_,ho,rfl⟩ ⟨_,ho2,rfl⟩ noFill_tuple_add seq_tuple_add PySem.F.slot_tuple_add PySem.F.entry_tuple_add (PySem.F.args_tuple_add_2 _ _)
   (tuple_addW1 t b vs.toArray ws.toArray n n2 dd dd2 sl sl2 (by simpa using hv) (by simp [hw])) ⟨ho,ho2,h1 hw⟩
 ·refine concat_meets ⟨_,ho,rfl⟩ ⟨_,ho2,rfl⟩ noFill_tuple_add seq_tuple_add PySem.F.slot_tuple_add PySem.F.entry_tuple_add (PySem.F.args_tuple_add_2 _ _)
   (tuple_addW2 t b vs.toArray ws.toArray n n2 dd dd2 sl sl2 (by simpa using hv) (by simpa using hw) (by rw [List.size_toArray,List.size_toArray]; exact hsz)) ⟨ho,ho2,?_⟩
  rw [e]
  exact h2 hw
def sIx (n d:Nat):Option Int -> Nat
 | none=>d
 | some v=>if v < 0 then (v + (n:Int)).toNat else min v.toNat n
theorem V9 (n d:Nat) (hd:d <= n) (o:Option Int):sIx n d o <= n:=by
 cases o with
 | none=>exact hd
 | some v =>
  show (if v < 0 then (v + (n:Int)).toNat else min v.toNat n) <= n
  by_cases hv:v < 0
  ·rw [if_pos hv]; omega
  ·rw [if_neg hv]; exact Nat.min_le_right _ _
theorem Zq (v:Int) (n d:Nat):(if v < 0 then max (v + (n:Int)) 0 else min v (n:Int)) = ((sIx n d (some v):Nat):Int):=by
 show (if v < 0 then max (v + (n:Int)) 0 else min v (n:Int)) = (((if v < 0 then (v + (n:Int)).toNat else min v.toNat n):Nat):Int)
 by_cases hv:v < 0
 ·simp only [if_pos hv]; omega
 ·simp only [if_neg hv]; omega
theorem jF (lo hi:Option Int) (n:Nat):Builtin.Slice.sliceAdjust lo hi 1 (n:Int) = (((sIx n 0 lo:Nat):Int),((sIx n n hi:Nat):Int)):=by
 have h1:¬ ((1:Int) < 0):=by omega
 unfold Builtin.Slice.sliceAdjust
 simp only [h1,if_false]
 refine Prod.ext ?_ ?_
 ·cases lo with
  | none=>rfl
  | some v=>exact Zq v n 0
 ·cases hi with
  | none=>rfl
  | some v=>exact Zq v n n
theorem jG (i j:Nat):Builtin.Slice.slicePlaces (i:Int) (j:Int) 1 = j - i:=by
 unfold Builtin.Slice.slicePlaces
 have h1:(1:Int) > 0:=by omega
 simp only [h1,if_true,Int.ediv_one]
 split <;> omega
theorem uC {v:Value} {o:Option Int} {Q:Option Int -> Shared -> Prop} (p:IsPart v o) (h:Q o s):wpAny (model prog w) A (Builtin.Slice.slicePartIndex v) Q E s:=by
 cases p with
 | none=>exact slicePart_none h
 | int i t=>exact slicePart_int h
theorem xw {sl:Addr} {vl vu:Value} {lo hi:Option Int} {n:Nat} {Q:Int × Int × Nat -> Shared -> Prop} (hs:s.heap.IsSliceOf sl vl vu .none) (pl:IsPart vl lo) (pu:IsPart vu hi)
  (h:Q (((sIx n 0 lo:Nat):Int),1,sIx n n hi - sIx n 0 lo) s):wpAny (model prog w) A (Builtin.Slice.sliceApplied (.ref sl) (pure (n:Int))) Q E s:=by
 obtain ⟨os,hos,hcs,hds⟩:=id hs
 unfold Builtin.Slice.sliceApplied Builtin.Slice.sliceFields
 refine wpAny_bind (wpAny_bind (wpAny_field hos hds (x:=vl) rfl (wpAny_bind (wpAny_field hos hds (x:=vu) rfl (wpAny_bind (wpAny_field hos hds (x:=.none) rfl (wpAny_pure ?_)))))))
 refine wpAny_bind (slicePart_none ?_)
 show wpAny _ _ (if ((1:Int) == 0) = true then _ else _) _ _ s
 rw [if_neg (by decide)]
 refine wpAny_bind (uC pl (wpAny_bind (uC pu (wpAny_bind (wpAny_pure ?_)))))
 show wpAny _ _ (match Builtin.Slice.sliceAdjust lo hi 1 (n:Int) with | (lo,hi)=>pure (lo,(1:Int),Builtin.Slice.slicePlaces lo hi 1)) _ _ s
 rw [jF lo hi n]
 show wpAny _ _ (pure (((sIx n 0 lo:Nat):Int),(1:Int),Builtin.Slice.slicePlaces ((sIx n 0 lo:Nat):Int) ((sIx n n hi:Nat):Int) 1)) _ _ s
 rw [jG]
 exact wpAny_pure h
theorem Y9 (xs:Array Value) (i k:Nat):((List.range k).filterMap fun (m:Nat)=>xs[((i:Int) + (m:Int) * 1).toNat]?).toArray = ((xs.toList.drop i).take k).toArray:=by
 have e:(fun (m:Nat)=>xs[((i:Int) + (m:Int) * 1).toNat]?) = fun m=>xs[i + m]?:=by
  funext m
  have:((i:Int) + (m:Int) * 1).toNat = i + m:=by omega
  rw [this]
 rw [e]
 have:=pick_run xs i k
 rw [List.filterMap_map] at this
 have e2:((fun x=>xs[x]?) ∘ fun x=>i + x) = fun m=>xs[i + m]?:=rfl
 rw [e2] at this
 rw [this]
theorem getItem_tuple_cut {t sl:Addr} {items:Array Value} {vl vu:Value} {lo hi:Option Int} {Q:VS7} (ht:IsTup s.heap t items) (hs:s.heap.IsSliceOf sl vl vu .none) (pl:IsPart vl lo) (pu:IsPart vu hi)
  (hw:¬ (sIx items.size 0 lo = 0 /\ sIx items.size items.size hi = items.size))
  (h:Q (.ref s.heap.objs.size) { s with heap:=s.heap.push { cls:=.type "tuple",data:=.seq ((items.toList.drop (sIx items.size 0 lo)).take (sIx items.size items.size hi - sIx items.size 0 lo)).toArray } })
  (hsz:items.size <= sizeLine):wpAny (model prog w) A (getItem (.ref t) (.ref sl)) Q E s:=by
 have htake:sizeOk (.seq ((items.toList.drop (sIx items.size 0 lo)).take (sIx items.size items.size hi - sIx items.size 0 lo)).toArray):=by
  show ((items.toList.drop (sIx items.size 0 lo)).take (sIx items.size items.size hi - sIx items.size 0 lo)).toArray.size <= sizeLine
  rw [List.size_toArray,List.length_take,List.length_drop,Array.length_toList]
  omega
 have hj:sIx items.size items.size hi <= items.size:=V9 _ _ (Nat.le_refl _) hi
 obtain ⟨os,hos,hcs,hds⟩:=id hs
 have hTs:s.TypeIs (.ref sl) "slice":=⟨os,hos,hcs⟩
 unfold getItem
 try with_reducible refine wpAny_holding ?_
 first | refine wpAny_bind (wpAny_pure ?_) | skip
 refine wpAny_bind (wpAny_sequenceKey ht.typeIs (by decide) ?_)
 refine wpAny_bind (wpAny_callSpecial?_slot (name:=Str.ofString "__getitem__") ht.typeIs PyProof.Rows.slot_tuple_getitem
  (wpAny_call_entry PyProof.Rows.slot_tuple_getitem ht.typeIs entry_tuple_getitem ?_ (args_tuple_getitem _ _)))
 show wpAny _ _ (Builtin.Tuple.tupleItemsOf (.ref t) >>= _) _ _ s
 refine wpAny_bind (tupleItemsOf_ ht ?_)
 refine wpAny_bind (wpAny_typeOf hTs ?_)
 rw [if_pos (by decide)]
 refine wpAny_bind (xw hs pl pu ?_)
 have hno:¬ ((((sIx items.size 0 lo:Nat):Int) == 0 && (1:Int) == 1 && (sIx items.size items.size hi - sIx items.size 0 lo) == items.size) = true):=by
  intro q
  rw [Bool.and_eq_true,Bool.and_eq_true] at q
  have q1:((sIx items.size 0 lo:Nat):Int) = 0:=eq_of_beq q.1.1
  have q2:sIx items.size items.size hi - sIx items.size 0 lo = items.size:=eq_of_beq q.2
  exact hw ⟨by omega,by omega⟩
 show wpAny _ _ (if (((sIx items.size 0 lo:Nat):Int) == 0 && (1:Int) == 1 && (sIx items.size items.size hi - sIx items.size 0 lo) == items.size) = true then _ else _) _ _ s
 rw [if_neg hno,Y9]
 first
  | exact wpAny_bind (m:=Builtin.Tuple.tupleExact _) (wpAny_newObj_type (wpAny_pure ⟨_,rfl,wpAny_pure h⟩) htake)
  | exact wpAny_bind (m:=Builtin.Tuple.tupleExact _) (wpAny_newObj_type (wpAny_bind (wpAny_pure (wpAny_pure ⟨_,rfl,wpAny_pure h⟩))) htake)
  | exact wpAny_bind (wpAny_bind (m:=Builtin.Tuple.tupleExact _) (wpAny_newObj_type (wpAny_pure (wpAny_pure ⟨_,rfl,wpAny_pure h⟩)) htake))
  | exact wpAny_bind (wpAny_bind (m:=Builtin.Tuple.tupleExact _) (wpAny_newObj_type (wpAny_pure ⟨_,rfl,wpAny_pure h⟩) htake))
end
end HT
namespace L2
open PySem PySem.Spec PyProof.Rows
abbrev TO:=St -> Hp -> (Option Int -> Hp -> Prop) -> Prop
def PO (X:Cx) (e:Option Expr) (t:TO):Prop :=
 ∀ (pins:List (Addr × Obj)) (s:Shared) (σ:St) (H:Hp) (Q:Option Int -> Hp -> Prop),Inv X pins σ H s -> t σ H Q →
  wpAny (model X.prog X.w) X.A (evalPart e X.env) (fun u s'=>∃ o H',Inv X pins σ H' s' /\ IsPart u o /\ Q o H') X.xe s
def WR:TO:=fun _ H Q=>Q none H
def Tk (t:TE):TO:=fun σ H Q=>t σ H fun x H1=>∃ i,x = .int i /\ Q (some i) H1
section
variable {X:Cx} {e:Expr} {te:TE} {lo hi:Option Expr} {tl th:TO} {pos p2:Pos}
theorem yu:PO X none WR:=by
 intro pins s σ H Q I h
 rw [evalPart_none]
 exact wpAny_pure ⟨none,H,I,.none,h⟩
theorem yF (h:PE X e te):PO X (some e) (Tk te):=by
 intro pins s σ H Q I hw
 rw [evalPart_some]
 refine thn (h pins s σ H _ I hw) fun u s1 ⟨x,H1,I1,r1,q1⟩=>?_
 obtain ⟨i,rfl,q⟩:=q1
 obtain ⟨t,rfl⟩:=r1
 exact ⟨some i,H1,I1,.int i t,q⟩
def SlR (X:Cx) (r:V -> Option Int -> Option Int -> Hp -> VK -> Prop):Prop :=
 ∀ (pins:List (Addr × Obj)) (s:Shared) (σ:St) (H:Hp) (x:V) (v vl vu:Value) (lo hi:Option Int) (sl:Addr) (Q:VK),Inv X pins σ H s -> RelV x v -> s.heap.IsSliceOf sl vl vu .none -> IsPart vl lo -> IsPart vu hi -> r x lo hi H Q →
  ∃ T id,typeLookup (.type T) "__getitem__" = pure (some (.builtin id)) /\ s.TypeIs v T /\ wpAny (model X.prog X.w) X.A (getItem v (.ref sl)) (EP X pins σ Q) X.xe s
def tSl (r:V -> Option Int -> Option Int -> Hp -> VK -> Prop) (te:TE) (tl th:TO):TE:=fun σ H Q=>te σ H fun x H1=>tl σ H1 fun l H2=>th σ H2 fun u H3=>r x l u H3 Q
theorem yR {r:V -> Option Int -> Option Int -> Hp -> VK -> Prop} (hr:SlR X r) (he:PE X e te) (hl:PO X lo tl) (hu:PO X hi th):PE X (.Subscript e (.Slice lo hi none p2) pos) (tSl r te tl th):=by
 intro pins s σ H Q I h
 refine Subscript_ (thn (he pins s σ H _ I h) fun v s1 ⟨x,H1,I1,r1,q1⟩=>?_)
 refine wpAny_Slice (thn (hl pins s1 σ H1 _ I1 q1) fun vl s2 ⟨l,H2,I2,pl,q2⟩=>thn (hu pins s2 σ H2 _ I2 q2) fun vu s3 ⟨u,H3,I3,pu,q3⟩=>?_)
 rw [evalPart_none]
 refine wpAny_pure ?_
 have I4:Inv X pins σ H3 { s3 with heap:=s3.heap.push { cls:=.type "slice",data:=.fields #[vl,vu,.none] } }:=I3.kept (t':=s3.toks) fun b ob q=>Heap.get?_push_of_some _ q
 obtain ⟨T,id,hT,ht,hg⟩:=hr pins { s3 with heap:=s3.heap.push { cls:=.type "slice",data:=.fields #[vl,vu,.none] } } σ H3 x v vl vu l u s3.heap.objs.size Q I4 r1 (Heap.IsSliceOf.new ..) pl pu q3
 show wpAny (model X.prog X.w) X.A (subscriptTail e (.Slice lo hi none p2) v (.ref s3.heap.objs.size)) (EP X pins σ Q) X.xe { s3 with heap:=s3.heap.push { cls:=.type "slice",data:=.fields #[vl,vu,.none] } }
 exact tail_any (ops:=[.ref s3.heap.objs.size,v]) ht hT hg (by with_unfolding_all rfl)
def cutV (xs:List V) (lo hi:Option Int):List V:=(xs.drop (HT.sIx xs.length 0 lo)).take (HT.sIx xs.length xs.length hi - HT.sIx xs.length 0 lo)
theorem vL (xs:List V) (lo hi:Option Int):(cutV xs lo hi).length <= xs.length:=by
 unfold cutV
 rw [List.length_take,List.length_drop]
 omega
def rSlT (K:FG7):V -> Option Int -> Option Int -> Hp -> VK -> Prop:=fun x lo hi H Q=>∃ a xs,x = .ref a /\ SqT K H a xs ∧
 ¬ (HT.sIx xs.length 0 lo = 0 /\ HT.sIx xs.length xs.length hi = xs.length) /\ ∀ p,H p = none -> Q (.ref p) (upd H p (.tup (cutV xs lo hi)))
theorem X7:SlR X (rSlT X.K):=by
 intro pins s σ H x v vl vu lo hi sl Q I rx hs pl pu h
 obtain ⟨a,xs,rfl,hx,hw,q⟩:=h
 cases rx
 obtain ⟨its,r,ht,hz⟩:=I.tuple hx
 have hlen:its.toArray.size = xs.length:=by rw [List.size_toArray]; exact r.length.symm
 refine ⟨"tuple",_,PyProof.Rows.slot_tuple_getitem.lookup,ht.typeIs,?_⟩
 refine HT.getItem_tuple_cut ht hs pl pu (by rw [hlen]; exact hw) ?_ (by rw [hlen]; exact hz)
 rw [hlen]
 refine ⟨.ref s.heap.objs.size,_,I.laid (t':=s.toks) (o:=.tup (cutV xs lo hi)) (fun b ob q=>Heap.get?_push_of_some _ q) (Nat.le_refl _) ?_,rfl,q _ (I.hok.fresh (Nat.le_refl _))⟩
 exact ⟨Nat.le_trans (vL xs lo hi) hz,_,(r.drop (HT.sIx xs.length 0 lo)).take (HT.sIx xs.length xs.length hi - HT.sIx xs.length 0 lo),IsTup.new _ _⟩
def Tl (K:FG7):R2:=fun x y H Q=>∃ a b xs ys,x = .ref a /\ y = .ref b /\ SqT K H a xs /\ SqT K H b ys /\ xs ≠ [] /\ xs.length + ys.length <= sizeLine ∧
 (ys = [] -> Q (.ref a) H) /\ (ys ≠ [] -> ∀ p,H p = none -> Q (.ref p) (upd H p (.tup (xs ++ ys))))
theorem Vals.nil_iff {xs:List V} {us:List Value} (r:Vals xs us):us = [] ↔ xs = []:=by
 cases r with
 | nil=>simp
 | cons _ _=>simp
theorem WS:OpR X (binaryOp .Add) (Tl X.K):=by
 intro pins s σ H x y v u Q I rx ry h
 obtain ⟨a,b,xs,ys,rfl,rfl,ha,hb,hx,hz,q1,q2⟩:=h
 cases rx
 cases ry
 obtain ⟨its,r1,p1,_⟩:=I.tuple ha
 obtain ⟨its2,r2,p2,_⟩:=I.tuple hb
 refine HT.cat_tup p1 p2 (fun z=>hx (r1.nil_iff.mp z)) (fun z=>⟨.ref a,H,I,rfl,q1 (r2.nil_iff.mp z)⟩) (fun z=>?_) (by rw [← r1.length,← r2.length]; exact hz)
 refine ⟨.ref s.heap.objs.size,_,I.laid (t':=s.toks) (o:=.tup (xs ++ ys)) (fun b ob q=>Heap.get?_push_of_some _ q) (Nat.le_refl _) ?_,rfl,q2 (fun w=>z (r2.nil_iff.mpr w)) _ (I.hok.fresh (Nat.le_refl _))⟩
 exact ⟨by rw [List.length_append]; exact hz,_,r1.append r2,IsTup.new _ _⟩
end
end L2
namespace L2
open PySem PySem.Spec PyProof.Rows
def ixN (n:Nat) (i:Int):Option Nat:=if 0 <= i then (if i < n then some i.toNat else none) else if -(n:Int) <= i then some (i + n).toNat else none
def atI {α:Type} (xs:List α) (i:Int):Option α:=(ixN xs.length i).bind fun j=>xs[j]?
theorem Zr {n:Nat} {i:Int} {j:Nat} (h:ixN n i = some j):seqIndex? i n = some j /\ j < n /\ -(n:Int) <= i /\ i < n:=by
 unfold ixN at h
 by_cases h0:0 <= i
 ·rw [if_pos h0] at h
  by_cases h1:i < n
  ·rw [if_pos h1] at h
   have e:i.toNat = j:=Option.some.inj h
   exact ⟨by rw [seqIndex_of h0 h1,e],by omega,by omega,h1⟩
  ·rw [if_neg h1] at h; cases h
 ·rw [if_neg h0] at h
  by_cases h1:-(n:Int) <= i
  ·rw [if_pos h1] at h
   have e:(i + n).toNat = j:=Option.some.inj h
   exact ⟨by rw [seqIndex_neg (by omega) h1,e],by omega,h1,by omega⟩
  ·rw [if_neg h1] at h; cases h
theorem rM {α:Type} {xs:List α} {i:Int} {v:α} (h:atI xs i = some v):∃ j,seqIndex? i xs.length = some j /\ xs[j]? = some v /\ j < xs.length /\ -(xs.length:Int) <= i /\ i < xs.length:=by
 unfold atI at h
 cases e:ixN xs.length i with
 | none=>rw [e] at h; cases h
 | some j =>
  rw [e] at h
  obtain ⟨h1,h2,h3,h4⟩:=Zr e
  exact ⟨j,h1,h,h2,h3,h4⟩
theorem ya {α:Type} {xs:List α} {j:Nat} {v:α} (h:xs[j]? = some v):atI xs (j:Int) = some v:=by
 have hj:j < xs.length:=(List.getElem?_eq_some_iff.mp h).1
 have e:ixN xs.length (j:Int) = some j:=by
  unfold ixN
  rw [if_pos (by omega),if_pos (by omega)]; simp
 unfold atI; rw [e]; exact h
def WT (b:Expr):Prop:=∀ o i,subscripted b false o i = operate [o,i] (getItem o i)
def IxR (X:Cx) (r:R2):Prop :=
 ∀ (value slice:Expr) (pins:List (Addr × Obj)) (s:Shared) (σ:St) (H:Hp) (x y:V) (v u:Value) (Q:VK),Inv X pins σ H s -> RelV x v -> RelV y u -> r x y H Q →
  subscripted slice false v u = operate [v,u] (getItem v u) -> wpAny (model X.prog X.w) X.A (subscriptTail value slice v u) (EP X pins σ Q) X.xe s
def MtR (X:Cx) (id:String) (r:V -> List V -> Hp -> VK -> Prop):Prop :=
 ∀ (pins:List (Addr × Obj)) (s:Shared) (σ:St) (H:Hp) (x:V) (xs:List V) (v:Value) (us:List Value) (Q:VK),Inv X pins σ H s -> RelV x v -> Vals xs us -> r x xs H Q →
  wpAny (model X.prog X.w) X.A (call (.builtin id) (v :: us)) (EP X pins σ Q) X.xe s
section
variable {X:Cx} {a b:Expr} {ta tb:TE} {pos:Pos}
theorem zQ {r:R2} (hr:IxR X r) (ha:PE X a ta) (hb:PE X b tb) (hs:WT b):PE X (.Subscript a b pos) (tOp r ta tb):=by
 intro pins s σ H Q I h
 exact Subscript_ (binT ha hb I h fun v u s2 x y H2 I2 rx ry q=>hr a b pins s2 σ H2 x y v u Q I2 rx ry q (hs _ _))
def rIxL (K:FG7):R2:=fun x y H Q=>∃ p xs i v,x = .ref p /\ y = .int i /\ SqL K H p xs /\ atI xs i = some v /\ Q v H
def rIxT (K:FG7):R2:=fun x y H Q=>∃ p xs i v,x = .ref p /\ y = .int i /\ SqT K H p xs /\ atI xs i = some v /\ Q v H
def rIxS:R2:=fun x y H Q=>∃ z i c,x = .str z /\ y = .int i /\ z.length <= sizeLine /\ atI z.cps.toList i = some c /\ Q (.str ⟨#[c]⟩) H
theorem zY:IxR X (rIxL X.K):=by
 intro value slice pins s σ H x y v u Q I rx ry h hs
 obtain ⟨p,xs,i,z,rfl,rfl,hq,he,q⟩:=h
 cases rx
 obtain ⟨t,rfl⟩:=ry
 obtain ⟨its,r,pl,hz⟩:=I.list hq
 obtain ⟨j,h1,h2,h3,h4,h5⟩:=rM he
 obtain ⟨w,ew,rw'⟩:=r.get h2
 have hl:=r.length
 have hn:=vJ
 have fin:EP X pins σ Q w s:=⟨z,H,I,rw',q⟩
 by_cases h0:0 <= i
 ·have hj:i.toNat = j:=by
   rw [seqIndex_of h0 h5] at h1
   exact Option.some.inj h1
  exact item_listR pl.isList h0 (by omega) (by rw [hj]; simpa using ew) fin hs
 ·have hj:(i + (its.toArray.size:Int)).toNat = j:=by
   rw [seqIndex_neg (by omega) h4] at h1
   rw [List.size_toArray,← hl]
   exact Option.some.inj h1
  exact subscriptTail_builtinR (x:=w) pl.isList.typeIs slot_list_getitem.lookup
   (wpAny_getItem_list_neg (Q:=fun r s'=>r = w /\ EP X pins σ Q r s') pl.isList (by omega) (by rw [List.size_toArray] <;> omega) (by omega) (by rw [hj]; simpa using ew) ⟨rfl,fin⟩) hs
theorem ye:IxR X (rIxT X.K):=by
 intro value slice pins s σ H x y v u Q I rx ry h hs
 obtain ⟨p,xs,i,z,rfl,rfl,hq,he,q⟩:=h
 cases rx
 obtain ⟨t,rfl⟩:=ry
 obtain ⟨its,r,pl,hz⟩:=I.tuple hq
 obtain ⟨j,h1,h2,h3,h4,h5⟩:=rM he
 obtain ⟨w,ew,rw'⟩:=r.get h2
 have hl:=r.length
 have hn:=vJ
 have fin:EP X pins σ Q w s:=⟨z,H,I,rw',q⟩
 exact subscriptTail_builtinR (x:=w) pl.typeIs slot_tuple_getitem.lookup
  (getItem_tuple (j:=j) (Q:=fun r s'=>r = w /\ EP X pins σ Q r s') pl (by omega) (by omega) (by rw [List.size_toArray,← hl]; exact h1) (by simpa using ew) ⟨rfl,fin⟩) hs
theorem qK:IxR X rIxS:=by
 intro value slice pins s σ H x y v u Q I rx ry h hs
 obtain ⟨z,i,c,rfl,rfl,hz,he,q⟩:=h
 obtain ⟨t,rfl⟩:=rx
 obtain ⟨t',rfl⟩:=ry
 obtain ⟨j,h1,h2,h3,h4,h5⟩:=rM he
 have hl:z.cps.toList.length = z.length:=by simp [Str.length]
 rw [hl] at h1 h4 h5
 have hn:=vJ
 exact tail_any (typeIs_str s z t) slot_str_getitem.lookup (getItem_str (c:=c) (by
  have e1:decide (i < -(2 ^ 63:Int)) = false:=decide_eq_false (by omega)
  have e2:decide (i >= 2 ^ 63) = false:=decide_eq_false (by omega)
  rw [e1,e2,Bool.or_false]) (by rw [h1]; simpa using h2) ⟨.str ⟨#[c]⟩,H,I.tok _,⟨_,rfl⟩,q⟩) hs
theorem jH (its:List Value) (n j:Nat) (u:Value):Obj.mapSeq (·.setIfInBounds j u) { cls:=.type "list",data:=.seq its.toArray n } = { cls:=.type "list",data:=.seq (its.set j u).toArray n }:=by
 simp [Obj.mapSeq]
theorem Inv.lst {pins:List (Addr × Obj)} {σ:St} {H:Hp} {s:Shared} {p:Addr} {xs:List V} (I:Inv X pins σ H s) (h:H p = some (.lst xs)) :
  ∃ (its:List Value) (n:Nat),Vals xs its /\ s.heap.get? p = some { cls:=.type "list",data:=.seq its.toArray n } /\ xs.length <= sizeLine:=by
 obtain ⟨z,its,n,r,e⟩:=I.hok p _ h
 exact ⟨its,n,r,e,z⟩
theorem Inv.lstUpd {pins:List (Addr × Obj)} {σ:St} {H:Hp} {s:Shared} {p:Addr} {xs ys:List V} {its its':List Value} {n n':Nat} {f:Obj -> Obj} (I:Inv X pins σ H s) (h:H p = some (.lst xs))
  (ho:s.heap.get? p = some { cls:=.type "list",data:=.seq its.toArray n }) (hf:f { cls:=.type "list",data:=.seq its.toArray n } = { cls:=.type "list",data:=.seq its'.toArray n' }) (r:Vals ys its') (hz:ys.length <= sizeLine) (t:Nat) :
  Inv X pins σ (upd H p (.lst ys)) { s with heap:=s.heap.update p f,toks:=t }:=by
 have e:(s.heap.update p f).get? p = some { cls:=.type "list",data:=.seq its'.toArray n' }:=by
  rw [Heap.get?_update_self f ho (by rw [hf] <;> rfl),hf]
 refine I.write (x:=p) (e:=p) (by rw [h]; trivial) (.inl rfl) (fun b u hb q=>(Heap.get?_update_other _ _ (Ne.symm hb)).trans q) ⟨_,e⟩ ?_
 exact ⟨hz,its',n',r,e⟩
def Tm:V -> V -> V -> Hp -> (Hp -> Prop) -> Prop:=fun o i v H Q=>∃ p xs k j,o = .ref p /\ i = .int k /\ H p = some (.lst xs) /\ ixN xs.length k = some j /\ Q (upd H p (.lst (xs.set j v)))
theorem qL:PSet X Tm:=by
 intro pins s σ H o i v ov iv u Q I ro ri rv h
 obtain ⟨p,xs,k,j,rfl,rfl,hp,hj,q⟩:=h
 cases ro
 obtain ⟨t,rfl⟩:=ri
 obtain ⟨its,n,r,ho,hz⟩:=I.lst hp
 obtain ⟨h1,h2,h3,h4⟩:=Zr hj
 have hl:=r.length
 have hn:=vJ
 have I':Inv X pins σ (upd H p (.lst (xs.set j v))) { s with heap:=s.heap.update p (Obj.mapSeq (·.setIfInBounds j u)) } :=
  I.lstUpd hp ho (jH its n j u) (r.set rv j) (by rw [List.length_set]; exact hz) s.toks
 by_cases h0:0 <= k
 ·have hk:k.toNat = j:=by
   rw [seqIndex_of h0 h4] at h1
   exact Option.some.inj h1
  exact PySem.W.ki_setAt ho h0 (by omega) (by rw [List.size_toArray,← hl]; exact h4) (by rw [hk]; exact ⟨_,I',q⟩)
 ·have hk:(k + (its.toArray.size:Int)).toNat = j:=by
   rw [seqIndex_neg (by omega) h3] at h1
   rw [List.size_toArray,← hl]
   exact Option.some.inj h1
  exact PySem.W.ki_setBack ho (by omega) (by rw [List.size_toArray,← hl]; exact h3) (by omega) (by rw [hk]; exact ⟨_,I',q⟩)
def xo:V -> Bool
 | .non=>true
 | .bl _=>true
 | .int _=>true
 | .str _=>true
 | _=>false
def eqV:V -> V -> Bool
 | .non,.non=>true
 | .bl a,.bl b=>a == b
 | .bl a,.int b=>(if a then 1 else 0) == b
 | .int a,.bl b=>a == (if b then 1 else 0)
 | .int a,.int b=>a == b
 | .str a,.str b=>a == b
 | _,_=>false
theorem X8 {A:Around} {s:Shared} {y x:V} {u v:Value} (ry:RelV y u) (rx:RelV x v) (fy:xo y = true) (fx:xo x = true):SeqAt.EqAt A s u v (eqV y x):=by
 cases y with
 | non =>
  cases ry
  cases x with
  | non=>cases rx; exact SeqAt.EqAt.same _
  | bl b=>cases rx; exact SeqAt.EqAt.none_bool b
  | int b=>obtain ⟨t,rfl⟩:=rx; exact SeqAt.EqAt.none_int b t
  | str b=>obtain ⟨t,rfl⟩:=rx; exact SeqAt.EqAt.none_str b t
  | _=>exact absurd (show false = true from fx) Bool.false_ne_true
 | bl a =>
  cases ry
  cases x with
  | non=>cases rx; exact SeqAt.EqAt.bool_none a
  | bl b=>cases rx; exact SeqAt.EqAt.bool_bool a b
  | int b=>obtain ⟨t,rfl⟩:=rx; exact SeqAt.EqAt.bool_int a b t
  | str b=>obtain ⟨t,rfl⟩:=rx; exact SeqAt.EqAt.bool_str a b t
  | _=>exact absurd (show false = true from fx) Bool.false_ne_true
 | int a =>
  obtain ⟨t',rfl⟩:=ry
  cases x with
  | non=>cases rx; exact SeqAt.EqAt.int_none a t'
  | bl b=>cases rx; exact SeqAt.EqAt.int_bool a t' b
  | int b=>obtain ⟨t,rfl⟩:=rx; exact SeqAt.EqAt.int_int a t' b t
  | str b=>obtain ⟨t,rfl⟩:=rx; exact SeqAt.EqAt.int_str a t' b t
  | _=>exact absurd (show false = true from fx) Bool.false_ne_true
 | str a =>
  obtain ⟨t',rfl⟩:=ry
  cases x with
  | non=>cases rx; exact SeqAt.EqAt.str_none a t'
  | bl b=>cases rx; exact SeqAt.EqAt.str_bool a t' b
  | int b=>obtain ⟨t,rfl⟩:=rx; exact SeqAt.EqAt.str_int a t' b t
  | str b=>obtain ⟨t,rfl⟩:=rx; exact SeqAt.EqAt.str_str a t' b t
  | _=>exact absurd (show false = true from fx) Bool.false_ne_true
 | _=>exact absurd (show false = true from fy) Bool.false_ne_true
def eqU (x:V) (u:Value):Bool:=match u with
 | .none=>eqV .non x
 | .bool b=>eqV (.bl b) x
 | .int i _=>eqV (.int i) x
 | .str z _=>eqV (.str z) x
 | _=>false
theorem X9 {x y:V} {u:Value} (r:RelV y u) (f:xo y = true):eqU x u = eqV y x:=by
 cases y with
 | non=>cases r; rfl
 | bl b=>cases r; rfl
 | int i=>obtain ⟨t,rfl⟩:=r; rfl
 | str z=>obtain ⟨t,rfl⟩:=r; rfl
 | _=>exact absurd (show false = true from f) Bool.false_ne_true
theorem rN {x:V}:∀ {xs:List V} {us:List Value},Vals xs us -> xs.all xo = true -> us.any (eqU x) = xs.any fun y=>eqV y x
 | _,_,.nil,_=>rfl
 | y :: xs,u :: us,.cons r t,f=>by
  rw [List.all_cons,Bool.and_eq_true] at f
  rw [List.any_cons,List.any_cons,X9 r f.1,rN t f.2]
theorem u6 {A:Around} {s:Shared} {x:V} {v:Value} (rx:RelV x v) (fx:xo x = true):∀ {xs:List V} {us:List Value},Vals xs us -> xs.all xo = true -> ∀ u ∈ us,SeqAt.EqAt A s u v (eqU x u)
 | _,_,.nil,_=>fun u hu=>by cases hu
 | y :: xs,u :: us,.cons r t,f=>fun u' hu=>by
  rw [List.all_cons,Bool.and_eq_true] at f
  rcases List.mem_cons.mp hu with rfl | hu
  ·rw [X9 r f.1]; exact X8 r rx f.1 fx
  ·exact u6 rx fx t f.2 u' hu
def inV (x:V) (xs:List V):Bool:=xs.any fun y=>eqV y x
def rIn (K:FG7) (neg:Bool):R2:=fun x y H Q=>∃ p xs,y = .ref p /\ (SqL K H p xs \/ SqT K H p xs) /\ xo x = true /\ xs.all xo = true /\ Q (.bl (if neg then !inV x xs else inV x xs)) H
theorem vM:OpR X (compareOp .In) (rIn X.K false):=by
 intro pins s σ H x y v u Q I rx ry h
 obtain ⟨p,xs,rfl,hq,fx,fs,q⟩:=h
 cases ry
 rcases hq with hq | hq
 ·obtain ⟨its,r,pl,hz⟩:=I.list hq
  refine SeqAt.in_listAt (eqU x) pl.isList (fun w hw=>u6 rx fx r fs w (by simpa using hw)) ⟨.bl _,H,I,rfl,?_⟩
  rw [show its.toArray.any (eqU x) = its.any (eqU x) by simp,rN r fs]
  exact q
 ·obtain ⟨its,r,pl,hz⟩:=I.tuple hq
  refine SeqAt.in_tupleAt (eqU x) pl (fun w hw=>u6 rx fx r fs w (by simpa using hw)) ⟨.bl _,H,I,rfl,?_⟩
  rw [show its.toArray.any (eqU x) = its.any (eqU x) by simp,rN r fs]
  exact q
theorem zW:xm X (.builtin "len") (fun xs H Q=>∃ p ys,xs = [.ref p] /\ (SqL X.K H p ys \/ SqT X.K H p ys) /\ Q (.int ys.length) H):=by
 intro pins s σ H xs us Q I r h
 obtain ⟨p,ys,rfl,hq,q⟩:=h
 obtain ⟨u,rfl,rx⟩:=wd r
 cases rx
 have hn:=vJ
 rcases hq with hq | hq
 ·obtain ⟨its,r',pl,hz⟩:=I.list hq
  have hlen:=r'.length
  exact Calls.call_len_list pl.isList (by simp only [List.size_toArray] <;> omega) ⟨.int ys.length,H,I.tok _,⟨s.toks + 1,by rw [List.size_toArray,hlen]⟩,q⟩
 ·obtain ⟨its,r',pl,hz⟩:=I.tuple hq
  have hlen:=r'.length
  exact len_tuple pl (by simp only [List.size_toArray] <;> omega) ⟨.int ys.length,H,I.tok _,⟨s.toks + 1,by rw [List.size_toArray,hlen]⟩,q⟩
theorem vi:xm X (.builtin "len") (fun xs H Q=>∃ z,xs = [.str z] /\ z.length <= sizeLine /\ Q (.int z.length) H):=by
 intro pins s σ H xs us Q I r h
 obtain ⟨z,rfl,hz,q⟩:=h
 obtain ⟨u,rfl,t,rfl⟩:=wd r
 have hn:=vJ
 exact len_str (by omega) ⟨.int z.length,H,I.tok _,⟨_,rfl⟩,q⟩
def tyV (K:FG7) (T:String) (x:V) (H:Hp):Prop:=match x with
 | .str _=>T = "str"
 | .int _=>T = "int"
 | .ref p=>(T = "list" /\ ∃ xs,SqL K H p xs) \/ (T = "tuple" /\ ∃ o,K.lookup p = some o /\ o.cls = .type "tuple" /\ o.dict = none) ∨
   (T = "dict" /\ ((∃ kvs,H p = some (.dK kvs)) \/ ∃ kvs,H p = some (.dT kvs))) \/ (T = "set" /\ ∃ S n,H p = some (.set S n))
 | _=>False
theorem Wa {pins:List (Addr × Obj)} {σ:St} {H:Hp} {s:Shared} {T:String} {x:V} {v:Value} (I:Inv X pins σ H s) (r:RelV x v) (ty:tyV X.K T x H) :
  s.TypeIs v T /\ ∀ a,v = .ref a -> ∃ ob,s.heap.get? a = some ob /\ ob.dict = none:=by
 cases x with
 | str z =>
  obtain ⟨t,rfl⟩:=r
  cases (show T = "str" from ty)
  exact ⟨typeIs_str s z t,fun _ e=>nomatch e⟩
 | int i =>
  obtain ⟨t,rfl⟩:=r
  cases (show T = "int" from ty)
  exact ⟨typeIs_int s i t,fun _ e=>nomatch e⟩
 | ref p =>
  cases r
  rcases ty with ⟨rfl,xs,hq⟩ | ⟨rfl,o,hk,hc,hd⟩ | ⟨rfl,hk⟩ | ⟨rfl,S,n,hk⟩
  ·obtain ⟨its,_,pl,_⟩:=I.list hq
   refine ⟨pl.isList.typeIs,fun a e=>?_⟩
   cases e
   obtain ⟨o,n,e,c,hd,_⟩:=pl
   exact ⟨o,e,hd⟩
  ·refine ⟨⟨o,I.kIn p o hk,hc⟩,fun a e=>?_⟩
   cases e
   exact ⟨o,I.kIn _ o hk,hd⟩
  ·have z:∃ o,s.heap.get? p = some o /\ o.ExactDict:=by
    rcases hk with ⟨kvs,hk⟩ | ⟨kvs,hk⟩
    ·obtain ⟨_,_,_,_,o,_,_,e,ex,_⟩:=I.hok p _ hk
     exact ⟨o,e,ex⟩
    ·obtain ⟨_,_,_,_,o,_,_,e,ex,_⟩:=I.hok p _ hk
     exact ⟨o,e,ex⟩
   obtain ⟨o,e,ex⟩:=z
   refine ⟨⟨o,e,ex.1⟩,fun a e2=>?_⟩
   cases e2
   exact ⟨o,e,ex.2.1⟩
  ·obtain ⟨o,_,_,_,e,ex,_⟩:=I.hok p _ hk
   refine ⟨⟨o,e,ex.1⟩,fun a e2=>?_⟩
   cases e2
   exact ⟨o,e,ex.2.1⟩
 | _=>exact False.elim ty
def tBM0 (K:FG7) (T:String) (r:V -> List V -> Hp -> VK -> Prop) (to:TE):TE:=fun σ H Q=>to σ H fun x H1=>tyV K T x H1 /\ r x [] H1 Q
def tBM (K:FG7) (T:String) (r:V -> List V -> Hp -> VK -> Prop) (to:TE) (t:TA):TE:=fun σ H Q=>to σ H fun x H1=>tyV K T x H1 /\ t σ H1 fun xs H2=>r x xs H2 Q
variable {o e:Expr} {es:List Expr} {to:TE} {t:TA} {name:Str} {apos cpos:Pos} {T id:String} {r:V -> List V -> Hp -> VK -> Prop}
theorem Wb (pa:PlainAttrs T) (slot:Slot T name id) (hty:typeOf (.builtin id) = pure (.type "method_descriptor")) (hm:MtR X id r) (ho:PE X o to)
  (hbase:attributeBase o name X.env (eval o X.env) = eval o X.env:=by rfl) (hline:(apos.endLine == cpos.line) = true:=by rfl):PE X (.Call (.Attribute o name apos) [] [] cpos) (tBM0 X.K T r to):=by
 intro pins s σ H Q I h
 refine wpAny_Call_method0_late hbase hline (thn (ho pins s σ H _ I h) fun v s1 ⟨x,H1,I1,r1,ty,q1⟩=>?_)
 obtain ⟨h1,h2⟩:=Wa I1 r1 ty
 exact ⟨T,id,pa,slot,hty,h1,h2,Calls.callWith_builtin rfl (PySem.evalArgs_none (hm pins s1 σ H1 x [] v [] Q I1 r1 .nil q1))⟩
theorem u7 (pa:PlainAttrs T) (slot:Slot T name id) (hty:typeOf (.builtin id) = pure (.type "method_descriptor")) (hm:MtR X id r) (ho:PE X o to) (ha:PA X (e :: es) t)
  (hbase:attributeBase o name X.env (eval o X.env) = eval o X.env:=by rfl)
  (hfew:((backTo cpos (starEach (e :: es) X.env)).all (fun x=>!x.1) && (backToKw cpos (keywordEach [] X.env)).all (fun x=>x.1.isSome)
   && decide ((e :: es).length + ([]:List Keyword).length + (if ([]:List Keyword).isEmpty then 0 else 1) < 30)) = true:=by rfl)
  (hline:(apos.endLine == cpos.line) = true:=by rfl) (hs:starEach (e :: es) X.env = (false,eval e X.env) :: starEach es X.env:=by rfl) (hplain:(backTo cpos (starEach es X.env)).any (·.1) = false:=by rfl) :
  PE X (.Call (.Attribute o name apos) (e :: es) [] cpos) (tBM X.K T r to t):=by
 intro pins s σ H Q I h
 refine wpAny_Call_method_late hbase hfew hline rfl (thn (ho pins s σ H _ I h) fun v s1 ⟨x,H1,I1,r1,ty,q1⟩=>?_)
 obtain ⟨h1,h2⟩:=Wa I1 r1 ty
 refine ⟨T,id,pa,slot,hty,h1,h2,?_⟩
 have hA:=ha cpos pins s1 σ H1 _ I1 q1
 rw [hs] at hA ⊢
 refine Calls.callWith_builtin (by show (false || (backTo cpos (starEach es X.env)).any (·.1)) = false; rw [hplain] <;> rfl) (Calls.evalArgs_plain ?_)
 exact thn hA fun us s2 ⟨vs,H2,I2,r2,q2⟩=>hm pins s2 σ H2 x vs v us Q I2 r1 r2 q2
end
end L2
namespace L2
open PySem PySem.Spec PyProof.Rows
def MtM (X:Cx) (id:String) (r:V -> List V -> Hp -> VK -> Prop):Prop :=
 ∀ (pins:List (Addr × Obj)) (s:Shared) (σ:St) (H:Hp) (x:V) (xs:List V) (v:Value) (us:List Value) (Q:VK),Inv X pins σ H s -> RelV x v -> Vals xs us -> r x xs H Q →
  wpAny (model X.prog X.w) X.A (call (.builtin id) (v :: us)) (EP X pins σ Q) X.xe s
theorem Vals.one:∀ {x:V} {us:List Value},Vals [x] us -> ∃ u,us = [u] /\ RelV x u
 | _,_,.cons r .nil=>⟨_,rfl,r⟩
theorem Vals.zero:∀ {us:List Value},Vals [] us -> us = []
 | _,.nil=>rfl
theorem Vals.dropLast {xs:List V} {us:List Value} (h:Vals xs us):Vals xs.dropLast us.dropLast:=by
 induction h with
 | nil=>exact .nil
 | cons r t ih =>
  cases t with
  | nil=>exact .nil
  | cons q t'=>exact .cons r ih
theorem Vals.reverse {xs:List V} {us:List Value} (h:Vals xs us):Vals xs.reverse us.reverse:=by
 induction h with
 | nil=>exact .nil
 | cons r t ih=>rw [List.reverse_cons,List.reverse_cons]; exact Vals.append ih (.cons r .nil)
theorem Vals.rep {xs:List V} {us:List Value} (h:Vals xs us):∀ k:Nat,Vals (List.replicate k xs).flatten (List.replicate k us).flatten
 | 0=>.nil
 | k + 1=>by
  rw [List.replicate_succ,List.replicate_succ,List.flatten_cons,List.flatten_cons]
  exact Vals.append h (Vals.rep h k)
theorem si (its:List Value):∀ (k:Nat) (acc:List Value),
  List.foldl (fun x1 x2=>x1 ++ x2) acc.toArray (List.replicate k its.toArray) = (acc ++ (List.replicate k its).flatten).toArray
 | 0,acc=>by simp
 | k + 1,acc=>by
  have e:acc.toArray ++ its.toArray = (acc ++ its).toArray:=by simp
  have e2:(acc ++ its) ++ (List.replicate k its).flatten = acc ++ (List.replicate (k + 1) its).flatten:=by
   rw [List.replicate_succ,List.flatten_cons,List.append_assoc]
  rw [← e2,← si its k (acc ++ its),← e,List.replicate_succ,List.foldl_cons]
section
variable {X:Cx} {pins:List (Addr × Obj)} {σ:St} {H:Hp} {s:Shared} {l b:Addr} {xs ys zs:List V}
theorem Inv.lset {its its':List Value} {n:Nat} {f:Array Value -> Array Value} {t':Nat} (I:Inv X pins σ H s) (hH:H l = some (.lst xs))
  (e:s.heap.get? l = some { cls:=.type "list",data:=.seq its.toArray n }) (hf:f its.toArray = its'.toArray) (hv:Vals ys its') (hz:ys.length <= sizeLine) :
  Inv X pins σ (upd H l (.lst ys)) { s with heap:=s.heap.update l (Obj.mapSeq f),toks:=t' }:=by
 have q:=PySem.IsL.update e f
 rw [hf] at q
 refine I.write (x:=l) (e:=l) (by rw [hH]; exact trivial) (.inl rfl) (fun b' u hb hu=>(Heap.get?_update_other s.heap (Obj.mapSeq f) (Ne.symm hb)).trans hu) ⟨_,q⟩ ?_
 exact ⟨hz,its',_,hv,q⟩
theorem Inv.lnew {its:List Value} {t':Nat} (I:Inv X pins σ H s) (hv:Vals ys its) (hz:ys.length <= sizeLine) :
  Inv X pins σ (upd H s.heap.objs.size (.lst ys)) { s with heap:=s.heap.push { cls:=.type "list",data:=.seq its.toArray },toks:=t' } :=
 I.laid (fun _ _ q=>Heap.get?_push_of_some _ q) (Nat.le_refl _) ⟨hz,its,0,hv,Heap.get?_push_size _ rfl⟩
theorem Inv.fresh (I:Inv X pins σ H s):H s.heap.objs.size = none:=I.hok.fresh (Nat.le_refl _)
theorem Inv.lstM (I:Inv X pins σ H s) (hH:H l = some (.lst xs)):xs.length <= sizeLine /\ ∃ (its:List Value) (n:Nat),Vals xs its /\ xs.length = its.length /\ s.heap.get? l = some { cls:=.type "list",data:=.seq its.toArray n }:=by
 obtain ⟨z,its,n,r,e⟩:=I.hok l _ hH
 exact ⟨z,its,n,r,r.length,e⟩
theorem Xa {n:Nat} (h:n <= sizeLine):Builtin.List.listTooLong n = false:=by
 unfold Builtin.List.listTooLong
 exact decide_eq_false (by omega)
end
section
variable {X:Cx}
def WU:V -> List V -> Hp -> VK -> Prop:=fun x vs H Q=>∃ l xs y,x = .ref l /\ vs = [y] /\ H l = some (.lst xs) /\ xs.length < sizeLine /\ Q .non (upd H l (.lst (xs ++ [y])))
theorem wz:MtM X "list.append" WU:=by
 intro pins s σ H x vs v us Q I rx rv h
 obtain ⟨l,xs,y,rfl,rfl,hH,hz,q⟩:=h
 cases rx
 obtain ⟨u,rfl,ru⟩:=rv.one
 obtain ⟨z,its,n,r,hl,e⟩:=I.lstM hH
 refine call_meets F.slot_list_append ⟨_,e,rfl⟩ F.entry_list_append (F.args_list_append_2 _ _) (PySem.list_append l its.toArray n u (by rw [List.size_toArray]; omega)) ⟨e,?_⟩
 refine ⟨.non,_,I.lset (its':=its ++ [u]) hH e (by simp) (r.append (.cons ru .nil)) ?_,rfl,q⟩
 rw [List.length_append,List.length_singleton]
 omega
def rCat:R2:=fun x y H Q=>∃ l b xs zs,x = .ref l /\ y = .ref b /\ H l = some (.lst xs) /\ H b = some (.lst zs) /\ xs.length + zs.length <= sizeLine /\ ∀ p,H p = none -> Q (.ref p) (upd H p (.lst (xs ++ zs)))
theorem yW:OpR X (binaryOp .Add) rCat:=by
 intro pins s σ H x y v u Q I rx ry h
 obtain ⟨l,b,xs,zs,rfl,rfl,hH,hB,hz,q⟩:=h
 cases rx
 cases ry
 obtain ⟨z,its,n,r,hl,e⟩:=I.lstM hH
 obtain ⟨z2,its2,n2,r2,hl2,e2⟩:=I.lstM hB
 refine PySem.P.add_list e e2 ?_ (by rw [List.size_toArray,List.size_toArray]; omega)
 have ea:its.toArray ++ its2.toArray = (its ++ its2).toArray:=by simp
 rw [ea]
 exact ⟨.ref _,_,I.lnew (t':=s.toks) (r.append r2) (by rw [List.length_append]; omega),rfl,q _ I.fresh⟩
def rRep:R2:=fun x y H Q=>∃ l k xs,x = .ref l /\ y = .int k /\ H l = some (.lst xs) /\ -(2 ^ 63) <= k /\ k < 2 ^ 63 /\ xs.length * k.toNat <= sizeLine ∧
 ∀ p,H p = none -> Q (.ref p) (upd H p (.lst (List.replicate k.toNat xs).flatten))
theorem WV {α:Type} (xs:List α) (k:Nat):(List.replicate k xs).flatten.length = k * xs.length:=by
 induction k with
 | zero=>simp
 | succ k ih=>rw [List.replicate_succ,List.flatten_cons,List.length_append,ih,Nat.succ_mul,Nat.add_comm]
theorem Wc:OpR X (binaryOp .Mult) rRep:=by
 intro pins s σ H x y v u Q I rx ry h
 obtain ⟨l,k,xs,rfl,rfl,hH,h1,h2,hz,q⟩:=h
 cases rx
 obtain ⟨t,rfl⟩:=ry
 obtain ⟨z,its,n,r,hl,e⟩:=I.lstM hH
 have hlen:its.toArray.size * k.toNat <= sizeLine:=by rw [List.size_toArray,← hl]; exact hz
 have hcap:¬ its.toArray.size * k.toNat > (2 ^ 63 - 1) / 8:=by
  have:(sizeLine:Nat) <= (2 ^ 63 - 1) / 8:=by decide
  omega
 have hfit:¬ (!Builtin.List.listFitsIndex k) = true:=by
  rw [fitsIndex_both h1 h2]
  exact Bool.false_ne_true
 have hlong:¬ Builtin.List.listTooLong (its.toArray.size * k.toNat) = true:=by
  rw [Xa hlen]
  exact Bool.false_ne_true
 have hnew:List.foldl (fun x1 x2=>x1 ++ x2) #[] (List.replicate (if its.toArray.isEmpty = true then 0 else k.toNat) its.toArray) = (List.replicate k.toNat its).flatten.toArray:=by
  have f0:∀ m:Nat,List.foldl (fun x1 x2=>x1 ++ x2) #[] (List.replicate m its.toArray) = (List.replicate m its).flatten.toArray:=fun m=>by
   have:=si its m []
   rw [List.nil_append] at this
   exact this
  rw [f0]
  cases its with
  | nil=>simp
  | cons a r'=>rw [if_neg (by simp)]
 refine wpAny_binaryOp_repeat_ref (T:="list") (U:="int") (by decide) ⟨_,e,rfl⟩ (fun s'=>typeIs_int s' k t) noFill_list_mul F.fills_int_mul F.slot_int_rmul repeat_list F.slot_int_index.lookup
  (call_meets F.slot_int_rmul (typeIs_int s k t) F.entry_int_rmul (F.args_int_rmul_2 _ _) (int___rmul___int_list k t l its.toArray n)
   ⟨e,rfl,⟨_,e,rfl⟩,call_meets F.slot_list_mul ⟨_,e,rfl⟩ F.entry_list_mul (F.args_list_mul_2 _ _) (AutoListH.list___mul___list_int_3 l its.toArray n k t hfit hcap hlong) ⟨e,?_⟩⟩)
 rw [hnew]
 exact ⟨.ref _,_,I.lnew (t':=s.toks) (r.rep k.toNat) (by rw [WV,Nat.mul_comm]; exact hz),rfl,q _ I.fresh⟩
end
end L2
namespace Att
open PySem PySem.W PySem.Calls PyProof.Rows
theorem vN {P:Params} {h:Heap}:∀ (ns:List Int) (vs:List Value),WellAll P h vs (ns.map WData.int) -> IntsAre vs ns:=by
 intro ns
 induction ns with
 | nil =>
  intro vs w
  rw [List.map_nil] at w
  cases w
  exact .nil
 | cons n ns ih =>
  intro vs w
  rw [List.map_cons] at w
  cases w with
  | cons a b =>
   cases a
   exact .cons _ _ (ih _ b)
theorem Zs {l:OpenLaw} {n:Nat} (hn:l.most = some n) {P:Params} {h:Heap} {args:List WData} {vals:List Value}
  (hpre:l.row.toRowW.claim.pre args = true) (hwl:WellAll P h vals args) :
  ∃ a vs ns,vals = [Value.ref a] /\ args = [WData.list (ns.map WData.int)] /\ h.get? a = some { cls:=.type "list",data:=.seq vs.toArray } /\ IntsAre vs ns /\ ns.length <= n:=by
 have hsh:WShape.hasAll [] args [.list .int] = true:=(pre_splitW hpre).1
 have hc:l.pre.holds [] { args:=args } = true:=(pre_splitW hpre).2
 obtain ⟨d,r,rfl,h1,h2⟩:=hasAllW_cons hsh
 obtain rfl:=hasAllW_nil h2
 obtain ⟨xs,rfl,h3⟩:=hasW_list h1
 obtain ⟨ns,rfl⟩:=items_int h3
 have hlen:ns.length <= n:=by
  unfold OpenLaw.pre at hc
  have h4:(WTm.not (.lt (.lit (.int (n:Int))) (.len (.arg 0)))).holds [] { args:=[.list (ns.map .int)] } = true:=by
   have h4:=(holds_andW hc).1
   rw [hn] at h4
   exact h4
  have h5:=condW_of h4 (w_not (w_lt w_lit (w_len_list (w_arg rfl))))
  rw [List.length_map] at h5
  refine Nat.le_of_not_lt fun q=>?_
  have q':(n:Int) < ((ns.length:Nat):Int):=by omega
  first
   | (rw [decide_eq_true q'] at h5; exact absurd h5 (by decide))
   | (simp at h5; omega)
 cases hwl with
 | cons w1 w2 =>
  cases w2
  cases w1 with
  | list ho hall=>exact ⟨_,_,ns,rfl,rfl,ho,vN ns _ hall,hlen⟩
theorem Zt (l:OpenLaw) (args:List WData):l.row.toRowW.claim.post args (.bool true) args = true :=
 postW_of (r:=l.row.toRowW) (X:=(true == true))
  (show WShape.has [] (.bool true) .bool = true by first | rfl | decide | simp [WShape.has,WShape.arms,WShape.armsAll])
  (show (WTm.eq .res (.lit (.bool true))).value [] { args:=args,res:=some (.bool true),after:=args } = some (.bool (true == true)) from w_eq_bool (w_res rfl) w_lit) rfl
theorem attach_call {l:OpenLaw} {n:Nat} {q:Program} {loose:List Str} {XP:(Str -> Option Value) -> Heap -> Prop} {YP:World -> Heap -> Prop} {d:DefRec}
  (hn:l.most = some n) (hdf:d.params.defaults = [])
  (call:∀ (w:World) (s₀ s₁:Shared) (mg mb:Str -> Option Value) (fa:Addr) (o:Obj) (pm cd doc:Value) (a:Addr) (vs:List Value) (ns:List Int),
   Ground q loose [] XP w s₀ mg mb s₁.heap -> YP w s₁.heap →
   s₁.heap.get? fa = some o -> o.data = .func (docDef d.name d.params d.body d.scope pm cd doc) -> s₁.heap.CodeRec cd d.name -> mg d.name = some (.ref fa) →
   s₁.heap.get? a = some { cls:=.type "list",data:=.seq vs.toArray } -> IntsAre vs ns -> ns.length <= n -> s₁.gens = #[] →
   codeAny (model l.prog w) callerA (.call (.ref fa) ⟨[.ref a],[]⟩) (fun r s'=>r = .ok (.ret (.bool true)) /\ OldK s₁.heap s'.heap /\ s'.os = s₁.os /\ AllBare s'.gens) s₁) :
  WalkO q loose XP YP l.row.toRowW d [] (fun f vs=>PySem.call f vs):=by
 intro w s₀ s₁ mg mb G Y fa o pm cd doc dV kV ho hd hcd hD hmg hg args vals as hpre hlay hrd hwl hlo
 obtain rfl:dV = .none:=Dflts.none hD hdf
 obtain rfl:kV = .none:=Dflts.noKw hD
 obtain ⟨a,vs,ns,rfl,rfl,hobj,hints,hlen⟩:=Zs hn hpre hwl
 refine enter_call (codeAny_mono (call w s₀ s₁ mg mb fa o pm cd doc a vs ns G Y ho (fd_plain hd) hcd hmg hobj hints hlen hg) fun r s' hq=>?_)
 obtain ⟨rfl,h2,h3,h4⟩:=hq
 exact ⟨.inl ⟨.bool true,.bool true,[],rfl,fun _=>rfl,.bool true,Zt l _,fun _=>⟨List.Pairwise.nil,fun _ hm=>(nomatch hm)⟩⟩,h2,h3,h4⟩
end Att
namespace L2
open PySem PySem.Spec PyProof.Rows
theorem vO:∀ {vs:List Value} {ns:List Int},IntsAre vs ns -> Vals (ns.map V.int) vs
 | _,_,.nil=>.nil
 | _,_,.cons n t h=>.cons ⟨t,rfl⟩ (vO h)
def Only (H:Hp):Prop:=∀ b,H b = none \/ ∃ o xs,H b = some (.frz o (.lst xs))
theorem Xb {P:Program} {w:World} {K:FG7} {mg mb:Str -> Option Value} {CX:CXT} {k:Nat} {fa a:Addr} {fd:FuncData} {x:Str} {sp:Sp} {s₁:Shared} {vs:List Value} {ns:List Int}
  (KX:K.In s₁.heap) (hns:s₁.heap.Ns mainGlobals mg) (hb:s₁.heap.Ns builtinsNs mb) (hbb:∀ x:Str,x ≠ "__name__" -> mb x = bootBuiltins x) (hlim:s₁.heap.NoLimit) (hg:s₁.gens = #[])
  (ha:s₁.heap.get? a = some { cls:=.type "list",data:=.seq vs.toArray }) (hi:IntsAre vs ns) (hl:ns.length <= sizeLine) (hr:Room k callerA)
  (F:∀ base:Heap,K.In base -> base.Ns mainGlobals mg -> FnOk P w K mg base CX k fa fd [x] sp) (hbind:∀ (s:Shared) (u:Value),BindsTo s fd ⟨[u],[]⟩ [(x,u)])
  (hsp:∀ H:Hp,Only H -> SqL K H a (ns.map V.int) -> sp [.ref a] H (fun v _=>v = .bl true) fun _ _ _=>False)
  (hCX:∀ H e s',CX [] H s₁ (fun _ _ _=>False) e s' -> False) :
  codeAny (model P w) callerA (.call (.ref fa) ⟨[.ref a],[]⟩) (fun r s'=>r = .ok (.ret (.bool true)) /\ OldK s₁.heap s'.heap /\ s'.os = s₁.os /\ AllBare s'.gens) s₁:=by
 have rv:=vO hi
 have lenV:=hi.length
 -- from an abstract heap in which nothing but the script may be tracked
 have core:∀ H:Hp,Only H -> SqL K H a (ns.map V.int) -> HOk P w H s₁.heap -> (∀ b,H b ≠ none -> b = a) -> (H a ≠ none -> K.lookup a = none) →
   codeAny (model P w) callerA (.call (.ref fa) ⟨[.ref a],[]⟩) (fun r s'=>r = .ok (.ret (.bool true)) /\ OldK s₁.heap s'.heap /\ s'.os = s₁.os /\ AllBare s'.gens) s₁:=by
  intro H hO hS hok hA hK
  have base_of:∀ {b:Addr} {o:Obj},s₁.heap.get? b = some o -> H b = none -> (hidT s₁.heap H).get? b = some o:=fun e n=>Y3 e n
  have noA:∀ {b:Addr} {o:Obj} {es:Array DictEntry} {ep:Nat},s₁.heap.get? b = some o -> o.data = .dict es ep -> H b = none:=fun {b o es ep} e d=>by
   cases q:H b with
   | none=>rfl
   | some u =>
    have e':b = a:=hA b (by rw [q]; simp)
    subst e'
    rw [ha] at e; cases e
    have d':Data.seq vs.toArray _ = Data.dict es ep:=d
    cases d'
  have nsK:∀ {b:Addr} {m:Str -> Option Value},s₁.heap.Ns b m -> (hidT s₁.heap H).Ns b m:=fun {b m} ⟨o,es,ep,e,d,r⟩=>⟨o,es,ep,base_of e (noA e d),d,r⟩
  have hKb:K.In (hidT s₁.heap H):=fun b o e=>base_of (KX b o e) (by
   cases q:H b with
   | none=>rfl
   | some u =>
    have e':b = a:=hA b (by rw [q]; simp)
    subst e'
    rw [hK (by rw [q]; simp)] at e; cases e)
  have hM:Mod K mg (hidT s₁.heap H):=⟨hKb,nsK hns,⟨mb,nsK hb,hbb⟩,let ⟨mc,h1,h2⟩:=hlim; ⟨mc,nsK h1,h2⟩⟩
  have e0:Env0 P w K mg (hidT s₁.heap H) callerA [] s₁ H:=⟨rfl,hM,fun b o e=>WM e,Nat.le_of_eq (Ze _ _),trivial,fun b hb=>absurd (show b ∈ ([]:List Addr) from hb) (by simp),hok,.of_eq hg⟩
  refine codeAny_mono ((F _ hKb (nsK hns)).run callerA [] s₁ H ⟨[.ref a],[]⟩ [.ref a] [.ref a] _ _ hr e0 (hbind s₁ (.ref a)) (.cons rfl .nil) (hsp H hO hS)) fun r s' h=>?_
  cases r with
  | error e=>exact (hCX H e s' h).elim
  | ok fl =>
   cases fl with
   | next=>exact False.elim h
   | brk=>exact False.elim h
   | cont=>exact False.elim h
   | ret u =>
    obtain ⟨v,H',os,bare,un,hok',r',q⟩:=h
    have q':v = .bl true:=q
    subst q'
    obtain rfl:u = Value.bool true:=r'
    refine ⟨rfl,OldK.of_keep fun b o e=>?_,os,bare⟩
    cases q:H b with
    | none=>exact un.keep b o e q (by intro z; exact absurd (show b ∈ ([]:List Addr) from z) (by simp)) (by simp)
    | some u =>
     rcases hO b with z | ⟨ob,xs,z⟩
     ·rw [q] at z; cases z
     ·have z2:=un.frzs b ob _ z
      obtain ⟨e1,_⟩:=hok b _ z
      obtain ⟨e2,_⟩:=hok' b _ z2
      rw [e] at e1; cases e1
      exact e2
 cases hk:K.lookup a with
 | some o =>
  -- the script is one of the module's own objects
  have e:=KX a o hk
  rw [ha] at e
  cases e
  refine core (fun _=>none) (fun _=>.inl rfl) (.inr ⟨_,vs.toArray,_,hk,rfl,rfl,rfl,by rw [List.size_toArray,lenV]; exact hl,by simpa using rv⟩) (fun b u z=>by have z':(none:Option HO) = some u:=z; cases z') (fun b z=>absurd rfl z) fun z=>absurd rfl z
 | none =>
  refine core (fun b=>if b = a then some (.frz { cls:=.type "list",data:=.seq vs.toArray } (.lst (ns.map V.int))) else none) (fun b=>?_) (.inl (.inr ⟨{ cls:=.type "list",data:=.seq vs.toArray },if_pos rfl⟩)) (fun b u z=>?_) (fun b z=>?_) fun _=>hk
  ·by_cases hb:b = a
   ·exact .inr ⟨_,_,if_pos hb⟩
   ·exact .inl (if_neg hb)
  ·by_cases hb:b = a
   ·have z':=(if_pos hb).symm.trans z
    cases z'
    subst hb
    exact ⟨ha,by rw [List.length_map]; exact hl,vs,_,rv,ha⟩
   ·have z':=(if_neg hb).symm.trans z
    cases z'
  ·by_cases hb:b = a
   ·exact hb
   ·exact absurd (if_neg hb) z
end L2
namespace L2
open PySem PySem.Spec PyProof.Rows
theorem walk_of {l:PySem.W.OpenLaw} {n k:Nat} {q:Program} {loose:List Str} {XP:(Str -> Option Value) -> Heap -> Prop} {YP:World -> Heap -> Prop} {d:DefRec} {K:Params -> FG7} {CX:World -> CXT} {sp:World -> Sp} {x:Str}
  (hn:l.most = some n) (hn2:n <= sizeLine) (hdf:d.params.defaults = []) (hr:Room k callerA)
  (hY:∀ (w:World) (h:Heap),YP w h -> (K w.params).In h)
  (F:∀ (w:World) (mg:Str -> Option Value) (fa:Addr) (h:Heap),(K w.params).In h -> h.Ns mainGlobals mg -> mg d.name = some (.ref fa) →
   ∃ fd:FuncData,(∀ (s:Shared) (u:Value),BindsTo s fd ⟨[u],[]⟩ [(x,u)]) ∧
    ∀ base:Heap,(K w.params).In base -> base.Ns mainGlobals mg -> FnOk l.prog w (K w.params) mg base (CX w) k fa fd [x] (sp w))
  (hsp:∀ (w:World) (H:Hp) (a:Addr) (ns:List Int),ns.length <= n -> Only H -> SqL (K w.params) H a (ns.map V.int) -> sp w [.ref a] H (fun v _=>v = .bl true) fun _ _ _=>False)
  (hCX:∀ (w:World) (H:Hp) (s:Shared) (e:Value) (s':Shared),CX w [] H s (fun _ _ _=>False) e s' -> False) :
  PySem.W.WalkO q loose XP YP l.row.toRowW d [] (fun f vs=>PySem.call f vs):=by
 refine Att.attach_call hn hdf fun w s₀ s₁ mg mb fa o pm cd doc a vs ns G Y ho hd hcd hmg hobj hints hlen hg=>?_
 have KX:=hY w _ Y
 obtain ⟨fd,hb,hF⟩:=F w mg fa _ KX G.T.g hmg
 exact Xb KX G.T.g G.T.b G.T.builtins G.T.nolimit hg hobj hints (Nat.le_trans hlen hn2) hr hF hb (fun H hO hS=>hsp w H a ns hlen hO hS) fun H e s'=>hCX w H s₁ e s'
end L2
namespace L2
open PySem PySem.Spec PyProof.Rows
def vP (s:Stmt):Arguments:=match s with
 | .FunctionDef _ a _ _ _ _ _ _ _ _=>a
 | _=>{ posonlyargs:=[],args:=[],vararg:=none,kwonlyargs:=[],kw_defaults:=[],kwarg:=none,defaults:=[] }
def xE (s:Stmt):List Stmt:=match s with
 | .FunctionDef _ _ b _ _ _ _ _ _ _=>b
 | _=>[]
def zl (s:Stmt):Scope:=match s with
 | .FunctionDef _ _ _ _ _ _ sc _ _ _=>sc
 | _=>{ kind:=.function,names:=[],isGenerator:=false,isCoroutine:=false }
abbrev CX0:CXT:=fun _ _ _ _ _ _=>False
abbrev E0:XK:=fun _ _ _=>False
theorem Tn {X:Cx}:uB CX0 X E0:=fun _ _ _ _ _ _ _ h=>h.elim
structure Fun (K:FG7) (x qual:Str) (st:Stmt) (f:Addr) (fd:FuncData):Prop where
 ex:∃ (oc:Value) (od:Option Addr) (kV doc pm:Value) (an:Option Addr) (cdv ct:Value) (osl:Array (Option Value)),
  fd = PySem.W.fnOf x qual (vP st) (xE st) (zl st) .none kV doc pm an cdv ct /\ K.lookup f = some ⟨oc,od,.func fd,osl⟩ /\ PySem.W.codeIn K cdv qual = true
 kp:PySem.W.keepIn K (.ref f) = true
section
variable {P:Program} {w:World} {K:FG7} {mg:Str -> Option Value} {base:Heap}
theorem Fun.ok {x qual:Str} {st:Stmt} {f:Addr} {fd:FuncData} {N ps:List Str} {k:Nat} {sp:Sp} (F:Fun K x qual st f fd) (S:FnScope N ps (zl st)) (len:∀ vs H Q E,sp vs H Q E -> vs.length = ps.length)
  (hbody:∀ (cdv:Value) (A:Around) (outer:List Env) (s:Shared) (H:Hp) (vs:List V) (Q:VK) (E:XK),Room k (A.deeper (envOfC qual (zl st) s.heap.objs.size f cdv)) -> sp vs H Q E →
   ∃ t,PSs (cxOf CX0 P w K mg base N qual (zl st) f cdv A outer s H E).nox (xE st) t /\ t { nx:=fun _ H'=>Q .non H',rt:=Q } (vt N vs) H):FnOk P w K mg base CX0 (k + 1) f fd ps sp:=by
 obtain ⟨oc,od,kV,doc,pm,an,cdv,ct,osl,rfl,lk,hcd⟩:=F.ex
 refine V8 lk hcd S len fun A outer s H vs Q E hr hsp=>?_
 obtain ⟨t,h,q⟩:=hbody cdv A outer s H vs Q E hr hsp
 exact ⟨t,h.nox,q⟩
theorem Fun.binds {x qual:Str} {st:Stmt} {f:Addr} {fd:FuncData} {ps:List Str} (F:Fun K x qual st f fd)
  (h:∀ (kV doc pm:Value) (an:Option Addr) (cdv ct:Value) (us:List Value),us.length = ps.length -> bindArgs (PySem.W.fnOf x qual (vP st) (xE st) (zl st) .none kV doc pm an cdv ct) ⟨us,[]⟩ = pure (ps.zip us)):wQ K fd ps []:=by
 obtain ⟨oc,od,kV,doc,pm,an,cdv,ct,osl,rfl,lk,hcd⟩:=F.ex
 exact .all (h kV doc pm an cdv ct)
theorem fun_mk {x qual:Str} {st:Stmt} {f:Addr} {oc:Value} {od an:Option Addr} {osl:Array (Option Value)} {kV doc pm cdv ct:Value} (l:K.lookup f = some ⟨oc,od,.func (PySem.W.fnOf x qual (vP st) (xE st) (zl st) .none kV doc pm an cdv ct),osl⟩)
  (c:PySem.W.codeIn K cdv qual = true) (k:PySem.W.keepIn K (.ref f) = true):Fun K x qual st f (PySem.W.fnOf x qual (vP st) (xE st) (zl st) .none kV doc pm an cdv ct):=⟨⟨oc,od,kV,doc,pm,an,cdv,ct,osl,rfl,l,c⟩,k⟩
end
theorem zn {n:Nat} (h:n <= 1000):n < sizeLine:=Nat.lt_of_le_of_lt h (by decide)
section
variable {X:Cx}
theorem pv (i:Nat) {x:Str} {pos:Pos} (hN:X.N[i]? = some x:=by rfl) (hv:Vis X.env.scope x:=by first | exact Or.inl rfl | exact Or.inr (Or.inl rfl) | exact Or.inr (Or.inr rfl)) (hd:(x == ("__debug__":Str)) = false:=by decide)
  (hcd:(x == ("__classdict__":Str)) = false:=by decide):PE X (.Name x pos) (tVar i):=V1 hN hv hd hcd
end
theorem iteF {A B:Prop} (h:B):if false = true then A else B:=by
 rw [if_neg Bool.false_ne_true]
 exact h
theorem iteT {A B:Prop} (h:A):if true = true then A else B:=by
 rw [if_pos rfl]
 exact h
theorem ite2 {c A B:Prop} [Decidable c] (h1:c -> A) (h2:¬ c -> B):if c then A else B:=by
 by_cases h:c
 ·rw [if_pos h]
  exact h1 h
 ·rw [if_neg h]
  exact h2 h
def Same (H H':Hp):Prop:=∀ b o,H b = some o -> H' b = some o
theorem Same.refl (H:Hp):Same H H:=fun _ _ h=>h
theorem Same.trans {H H1 H2:Hp} (a:Same H H1) (b:Same H1 H2):Same H H2:=fun c o h=>b c o (a c o h)
theorem Same.free {H H':Hp} (e:Same H H') {l:Addr} (h:H' l = Option.none):H l = Option.none:=by
 cases q:H l with
 | none=>rfl
 | some o =>
  rw [e l o q] at h
  cases h
theorem Same.seq {K:FG7} {H H':Hp} {a:Addr} {xs:List V} (e:Same H H') (h:SqL K H a xs):SqL K H' a xs:=by
 rcases h with (h | ⟨o,h⟩) | h
 ·exact .inl (.inl (e _ _ h))
 ·exact .inl (.inr ⟨o,e _ _ h⟩)
 ·exact .inr h
end L2
namespace L3
open PySem PySem.Spec PyProof.Rows L2
theorem Zu:bootBuiltins "abs" = some (.builtin "abs"):=by decide +kernel
theorem uo:bootBuiltins "len" = some (.builtin "len"):=by decide +kernel
theorem WW:bootBuiltins "max" = some (.builtin "max"):=by decide +kernel
theorem WX:bootBuiltins "min" = some (.builtin "min"):=by decide +kernel
theorem Xc:bootBuiltins "divmod" = some (.builtin "divmod"):=by decide +kernel
theorem Wd:bootBuiltins "repr" = some (.builtin "repr"):=by decide +kernel
theorem zi:bootBuiltins "isinstance" = some (.builtin "isinstance"):=by decide +kernel
theorem Ua:bootBuiltins "all" = some (.builtin "all"):=by decide +kernel
theorem rO:bootBuiltins "int" = some (.type "int"):=by decide +kernel
theorem We:bootBuiltins "bool" = some (.type "bool"):=by decide +kernel
theorem Ub:bootBuiltins "str" = some (.type "str"):=by decide +kernel
theorem Zv:bootBuiltins "tuple" = some (.type "tuple"):=by decide +kernel
theorem Uc:bootBuiltins "list" = some (.type "list"):=by decide +kernel
theorem Ud:bootBuiltins "dict" = some (.type "dict"):=by decide +kernel
def TyV (K:FG7) (H:Hp) (x:V) (T:String):Prop:=match x with
 | .non=>T = "NoneType"
 | .bl _=>T = "bool"
 | .int _=>T = "int"
 | .str _=>T = "str"
 | .ref a=>(T = "tuple" /\ ∃ xs,SqT K H a xs) \/ (T = "list" /\ ∃ xs,SqL K H a xs) \/ (T = "dict" /\ ∃ kvs,H a = some (.dK kvs))
 | _=>False
section
variable {X:Cx} {a b c:Expr} {ta tb tc:TE} {pos:Pos}
def rIsi (K:FG7):List V -> Hp -> VK -> Prop:=fun xs H Q=>∃ x T t k,xs = [x,.ty T] /\ TyV K H x t /\ PySem.W.kitOne K (.type t) (.type T) = some k /\ Q (.bl k) H
theorem xM:xm X (.builtin "isinstance") (rIsi X.K):=by
 intro pins s σ H xs us Q I r h
 obtain ⟨x,T,t,k,rfl,ty,e,q⟩:=h
 obtain ⟨u,w',rfl,rx,rt⟩:=rL r
 cases (show w' = Value.type T from rt)
 have fin:∀ tk,EP X pins σ Q (.bool k) { s with toks:=tk }:=fun tk=>⟨.bl k,H,I.tok _,rfl,q⟩
 cases x with
 | non=>cases (show t = "NoneType" from ty); exact xD I rx .non e fin
 | bl y=>cases (show t = "bool" from ty); exact xD I rx (.bl y) e fin
 | int i=>cases (show t = "int" from ty); exact xD I rx (.int i) e fin
 | str y=>cases (show t = "str" from ty); exact xD I rx (.str y) e fin
 | byt y=>exact ty.elim
 | flt y=>exact ty.elim
 | ty y=>exact ty.elim
 | ref a =>
  cases (show u = Value.ref a from rx)
  rcases ty with ⟨rfl,xs,hq⟩ | ⟨rfl,xs,hq⟩ | ⟨rfl,kvs,hq⟩
  ·obtain ⟨its,_,⟨o,h1,h2,_⟩,_⟩:=I.tuple hq
   exact PySem.W.kia_one PySem.W.kitx_tuple I.kIn ⟨o,h1,h2⟩ e (fun z=>nomatch z) fin
  ·obtain ⟨its,_,pl,_⟩:=I.list hq
   obtain ⟨o,h1,h2,_⟩:=pl.isList
   exact PySem.W.kia_one PySem.W.kitx_list I.kIn ⟨o,h1,h2⟩ e (fun z=>nomatch z) fin
  ·exact xD (x:=V.ref a) I (show RelV (.ref a) (.ref a) from rfl) (.dK hq) e fin
theorem wA {x:Str} {T:String} {pos:Pos} (hg:Gl X x) (hm:X.mg x = none) (hv:bootBuiltins x = some (.type T)) (hn:x ≠ "__name__":=by decide) (hd:(x == ("__debug__":Str)) = false:=by decide):PE X (.Name x pos) (tC (.ty T)) :=
 WO hg hm hv (show RelV (.ty T) (Value.type T) from rfl) hn hd
theorem yG:OpR X (binaryOp .Mult) (rI IntMulOk fun i j=>.int (i * j)):=opI fun _ _ _ _ _ _ _ hc q=>mul_int q hc
def Xd (i j:Int):Prop:=0 < j /\ j < 2 ^ 200
theorem Xd.py {i j:Int} (h:Xd i j):Builtin.divisionGoesByPylong i j = false:=by
 refine PyProof.noPylong_of_log2 ?_
 obtain ⟨h1,h2⟩:=h
 have h0:j.natAbs ≠ 0:=by omega
 have h3:j.natAbs < 2 ^ 200:=by
  have:(j.natAbs:Int) = j:=by omega
  have h4:((j.natAbs:Nat):Int) < ((2 ^ 200:Nat):Int):=by rw [this]; exact h2
  exact Int.ofNat_lt.mp h4
 exact Nat.lt_of_lt_of_le ((Nat.log2_lt h0).mpr h3) (by decide)
theorem qM:OpR X (binaryOp .FloorDiv) (rI Xd fun i j=>.int (i / j)):=opI fun i j _ _ _ _ _ hc q=>by
 have:=hc.1
 refine floordiv_int (by omega) ?_ (.inl hc.py)
 rw [Int.fdiv_eq_ediv_of_nonneg i (by omega)]
 exact q
theorem sj:xm X (.builtin "divmod") (fun xs H Q=>∃ i j,xs = [.int i,.int j] /\ Xd i j /\ ∀ p,H p = none -> Q (.ref p) (upd H p (.tup [.int (i / j),.int (i % j)]))):=by
 intro pins s σ H xs us Q I r h
 obtain ⟨i,j,rfl,hc,q⟩:=h
 have h1:=hc.1
 obtain ⟨u,w',rfl,⟨t,rfl⟩,⟨t',rfl⟩⟩:=rL r
 refine divmod_int (by omega) ?_ (.inl hc.py)
 rw [Int.fdiv_eq_ediv_of_nonneg i (by omega),Int.fmod_eq_emod_of_nonneg i (by omega)]
 have hn:H s.heap.objs.size = none:=I.hok.fresh (Nat.le_refl _)
 refine ⟨.ref s.heap.objs.size,_,?_,rfl,q _ hn⟩
 refine I.laid (fun b o e=>Heap.get?_push_of_some _ e) (Nat.le_refl _) ⟨by simp only [List.length_cons,List.length_nil]; rw [sizeLine_eq]; decide,[.int (i / j) s.toks,.int (i % j) (s.toks + 1)],.cons ⟨_,rfl⟩ (.cons ⟨_,rfl⟩ .nil),?_⟩
 exact ⟨_,Heap.get?_push_size s.heap rfl,rfl,0,rfl⟩
end
def zo (P:Program) (w:World) (K:FG7) (mg:Str -> Option Value) (base:Heap) (k:Nat) (x:Str) (ps:List Str) (sp:Sp):Prop :=
 ∃ (f:Addr) (fd:FuncData),FnOk P w K mg base CX0 k f fd ps sp /\ wQ K fd ps [] /\ PySem.W.keepIn K (.ref f) = true /\ mg x = some (.ref f)
theorem zo.mono {P:Program} {w:World} {K:FG7} {mg:Str -> Option Value} {base:Heap} {j k:Nat} {x:Str} {ps:List Str} {sp:Sp} (C:zo P w K mg base j x ps sp) (h:j <= k):zo P w K mg base k x ps sp:=by
 obtain ⟨f,fd,F,b,kp,m⟩:=C
 exact ⟨f,fd,F.mono h,b,kp,m⟩
section
variable {X:Cx} {k:Nat} {ps:List Str} {sp:Sp} {x:Str} {p pos:Pos} {e:Expr} {es:List Expr} {t:TA}
theorem zj (C:zo X.prog X.w X.K X.mg X.base k x ps sp) (hr:Room k X.A) (hg:Gl X x)
  (ha:PA X (e :: es) t) (hdb:(x == ("__debug__":Str)) = false:=by decide) (he:starEach (e :: es) X.env = (false,eval e X.env) :: starEach es X.env:=by rfl) (hpl:(backTo pos (starEach es X.env)).any (·.1) = false:=by rfl) :
  PE X (.Call (.Name x p) (e :: es) [] pos) (jE sp [] E0 t):=by
 obtain ⟨f,fd,F,b,kp,m⟩:=C
 exact Zp F hr hg m kp b .nil Tn ha hdb he hpl
end
structure Grow (m:List Addr) (H H':Hp):Prop where
 keep:∀ b o,b ∉ m -> H b = some o -> H' b = some o
 tup:∀ b xs,H b = some (.tup xs) -> H' b = some (.tup xs)
 frz:∀ b o u,H b = some (.frz o u) -> H' b = some (.frz o u)
theorem Grow.refl (m:List Addr) (H:Hp):Grow m H H:=⟨fun _ _ _ h=>h,fun _ _ h=>h,fun _ _ _ h=>h⟩
theorem Grow.trans {m:List Addr} {H H1 H2:Hp} (a:Grow m H H1) (b:Grow m H1 H2):Grow m H H2 :=
 ⟨fun c o n h=>b.keep c o n (a.keep c o n h),fun c xs h=>b.tup c xs (a.tup c xs h),fun c o u h=>b.frz c o u (a.frz c o u h)⟩
theorem Grow.new {m:List Addr} {H:Hp} {p:Addr} (h:H p = none) (o:HO):Grow m H (upd H p o) :=
 ⟨fun b u _ q=>by rw [zB (zt q h)]; exact q,fun b xs q=>by rw [zB (zt q h)]; exact q,fun b u v q=>by rw [zB (zt q h)]; exact q⟩
theorem Grow.set {m:List Addr} {H:Hp} {p:Addr} {xs:List V} (h:H p = some (.lst xs)) (hm:p ∈ m) (ys:List V):Grow m H (upd H p (.lst ys)) :=
 ⟨fun b u hb q=>by rw [zB (show b ≠ p from fun z=>hb (by rw [z]; exact hm))]; exact q,fun b zs q=>by rw [zB (fun z=>by subst z; rw [h] at q; cases q)]; exact q,fun b u v q=>by rw [zB (fun z=>by subst z; rw [h] at q; cases q)]; exact q⟩
theorem Grow.mono {m m':List Addr} {H H':Hp} (a:Grow m H H') (h:∀ b ∈ m,b ∈ m'):Grow m' H H':=⟨fun b o n q=>a.keep b o (fun z=>n (h b z)) q,a.tup,a.frz⟩
theorem Grow.same {H H':Hp} (a:Grow [] H H'):Same H H':=fun b o h=>a.keep b o (by simp) h
theorem Grow.sqT {m:List Addr} {H H':Hp} (g:Grow m H H') {K:FG7} {a:Addr} {xs:List V} (h:SqT K H a xs):SqT K H' a xs:=by
 rcases h with (h | ⟨o,h⟩) | h
 ·exact .inl (.inl (g.tup _ _ h))
 ·exact .inl (.inr ⟨o,g.frz _ _ _ h⟩)
 ·exact .inr h
theorem Grow.free {H H':Hp} {m:List Addr} (g:Grow m H H') {l:Addr} (hm:l ∉ m) (h:H' l = none):H l = none:=by
 cases q:H l with
 | none=>rfl
 | some o=>rw [g.keep l o hm q] at h; cases h
def Scr (K:FG7) (H:Hp) (a:Addr) (ns:List Int):Prop :=
 (∃ o,H a = some (.frz o (.lst (ns.map V.int)))) ∨
  ∃ (o:Obj) (its:Array Value) (n:Nat),K.lookup a = some o /\ o.cls = .type "list" /\ o.dict = none /\ o.data = .seq its n /\ its.size <= sizeLine /\ Vals (ns.map V.int) its.toList
theorem Scr.sq {K:FG7} {H:Hp} {a:Addr} {ns:List Int} (h:Scr K H a ns):SqL K H a (ns.map V.int):=by
 rcases h with ⟨o,h⟩ | h
 ·exact .inl (.inr ⟨o,h⟩)
 ·exact .inr h
theorem Scr.of {K:FG7} {H:Hp} {a:Addr} {ns:List Int} (hO:Only H) (h:SqL K H a (ns.map V.int)):Scr K H a ns:=by
 rcases h with (h | ⟨o,h⟩) | h
 ·rcases hO a with z | ⟨o,xs,z⟩
  ·rw [h] at z; cases z
  ·rw [h] at z; cases z
 ·exact .inl ⟨o,h⟩
 ·exact .inr h
theorem Grow.scr {m:List Addr} {H H':Hp} (g:Grow m H H') {K:FG7} {a:Addr} {ns:List Int} (h:Scr K H a ns):Scr K H' a ns:=by
 rcases h with ⟨o,h⟩ | h
 ·exact .inl ⟨o,g.frz _ _ _ h⟩
 ·exact .inr h
structure Blt (mg:Str -> Option Value):Prop where
 abs:mg "abs" = none
 len:mg "len" = none
 max:mg "max" = none
 min:mg "min" = none
 divmod:mg "divmod" = none
 repr:mg "repr" = none
 isinstance:mg "isinstance" = none
 all:mg "all" = none
 range:mg "range" = none
 int:mg "int" = none
 bool:mg "bool" = none
 str:mg "str" = none
 tuple:mg "tuple" = none
 list:mg "list" = none
 dict:mg "dict" = none
def sp1 (b:V -> Hp -> VK -> Prop):Sp:=fun vs H Q _=>∃ x,vs = [x] /\ b x H Q
def sp2 (b:V -> V -> Hp -> VK -> Prop):Sp:=fun vs H Q _=>∃ x y,vs = [x,y] /\ b x y H Q
def sp3 (b:V -> V -> V -> Hp -> VK -> Prop):Sp:=fun vs H Q _=>∃ x y z,vs = [x,y,z] /\ b x y z H Q
theorem yb {b:V -> Hp -> VK -> Prop} {p:Str}:∀ vs H Q E,sp1 b vs H Q E -> vs.length = [p].length:=fun vs H Q E h=>by
 obtain ⟨x,rfl,_⟩:=h; rfl
theorem xF {b:V -> V -> Hp -> VK -> Prop} {p q:Str}:∀ vs H Q E,sp2 b vs H Q E -> vs.length = [p,q].length:=fun vs H Q E h=>by
 obtain ⟨x,y,rfl,_⟩:=h; rfl
theorem WY {b:V -> V -> V -> Hp -> VK -> Prop} {p q r:Str}:∀ vs H Q E,sp3 b vs H Q E -> vs.length = [p,q,r].length:=fun vs H Q E h=>by
 obtain ⟨x,y,z,rfl,_⟩:=h; rfl
structure Deed where
 add:Int
 lo:Option Int
 hi:Option Int
 deriving DecidableEq
def ov:Option Int -> V
 | none=>.non
 | some i=>.int i
def Deed.vs (d:Deed):List V:=[.int d.add,ov d.lo,ov d.hi]
def Deed.Ok (d:Deed):Prop:=∀ l h,d.lo = some l -> d.hi = some h -> l < h \/ (l = h /\ d.add = 0)
def rP (lo:Option Int) (r:Int):Int:=match lo with
 | none=>r
 | some l=>if l > r then l else r
def u8 (hi:Option Int) (r:Int):Int:=match hi with
 | none=>r
 | some h=>if h < r then h else r
def Deed.mk' (d:Deed) (v:Int):Int:=u8 d.hi (rP d.lo (v + d.add))
def yv (K:FG7) (H:Hp) (x:V) (d:Deed):Prop:=∃ a,x = .ref a /\ SqT K H a d.vs
theorem Grow.deed {m:List Addr} {H H':Hp} (g:Grow m H H') {K:FG7} {x:V} {d:Deed} (h:yv K H x d):yv K H' x d:=by
 obtain ⟨a,e,h⟩:=h
 exact ⟨a,e,g.sqT h⟩
def vQ (K:FG7):Sp:=sp2 fun x y H Q=>∃ d v,yv K H x d /\ y = .int v /\ Q (.int (d.mk' v)) H
def Pot (H:Hp) (a:Addr):Prop:=∃ p0 p1:Int,H a = some (.lst [.int p0,.int p1]) /\ 0 <= p0
def Sm (n:Int):Prop:=-(10 ^ 30) < n /\ n < 10 ^ 30
def Deed.Sm (d:Deed):Prop:=L3.Sm d.add /\ (∀ l,d.lo = some l -> L3.Sm l) /\ ∀ h,d.hi = some h -> L3.Sm h
def Wf (K:FG7):Sp:=sp2 fun x y H Q=>∃ a ns k,x = .ref a /\ y = .int k /\ Scr K H a ns /\ 0 <= k /\ k < 1000 /\ ∀ p H',H p = none -> Grow [] H H' -> Pot H' p -> Q (.ref p) H'
def xp (_:FG7):Sp:=sp2 fun x y H Q=>∃ a m,x = .ref a /\ y = .int m /\ Pot H a /\ 0 < m /\ m < 2 ^ 200 /\ ∀ n H',0 <= n -> n < m -> Grow [a] H H' -> Pot H' a -> Q (.int n) H'
def wB (_:FG7):Sp:=sp1 fun x H Q=>∃ a,x = .ref a /\ Pot H a /\ ∀ n H',-(10 ^ 29) < n -> n < 10 ^ 29 -> Grow [a] H H' -> Pot H' a -> Q (.int n) H'
def Zw (K:FG7):Sp:=sp1 fun x H Q=>∃ a,x = .ref a /\ Pot H a /\ ∀ d y H',d.Ok -> d.Sm -> Grow [a] H H' -> Pot H' a -> yv K H' y d -> Q y H'
theorem Zx (A n o:Int):Deed.Ok ⟨A * (if (!decide (V.int n = V.int o)) = true then 1 else 0),some (if o < n then o else n),some (if o > n then o else n)⟩:=by
 intro l h hl hh
 cases hl; cases hh
 by_cases e:n = o
 ·subst e
  right
  refine ⟨by simp,?_⟩
  show A * (if (!decide (V.int n = V.int n)) = true then 1 else 0) = 0
  rw [decide_eq_true rfl]
  simp
 ·left
  split <;> split <;> omega
theorem qN (c:Bool):(if c = true then (1:Int) else 0) = 0 \/ (if c = true then (1:Int) else 0) = 1:=by cases c <;> simp
theorem Sm.of {n:Int} (h1:-(10 ^ 30) < n) (h2:n < 10 ^ 30):Sm n:=⟨h1,h2⟩
theorem sk {A n o:Int} (hA:Sm A) (hn:Sm n) (ho:Sm o):Deed.Sm ⟨A * (if (!decide (V.int n = V.int o)) = true then 1 else 0),some (if o < n then o else n),some (if o > n then o else n)⟩:=by
 obtain ⟨a1,a2⟩:=hA
 obtain ⟨b1,b2⟩:=hn
 obtain ⟨c1,c2⟩:=ho
 refine ⟨?_,fun l hl=>?_,fun h hh=>?_⟩
 ·show Sm (A * (if (!decide (V.int n = V.int o)) = true then 1 else 0))
  rcases qN (!decide (V.int n = V.int o)) with e | e
  ·rw [e,Int.mul_zero]; exact ⟨by omega,by omega⟩
  ·rw [e,Int.mul_one]; exact ⟨a1,a2⟩
 ·cases hl
  exact ⟨by split <;> omega,by split <;> omega⟩
 ·cases hh
  exact ⟨by split <;> omega,by split <;> omega⟩
def qO (K:FG7):Sp:=sp1 fun x H Q=>∃ a ns,x = .ref a /\ Scr K H a ns /\ ns.length <= 63 /\ ∀ H',Q (.bl true) H'
theorem To {A:Int} (h:Sm A):Deed.Sm ⟨A,none,none⟩:=⟨h,(fun l z=>by cases z),(fun l z=>by cases z)⟩
theorem Tp {A l:Int} (h:Sm A) (h2:Sm l):Deed.Sm ⟨A,some l,none⟩:=⟨h,(fun l z=>by cases z; exact h2),(fun l z=>by cases z)⟩
theorem Tq {A l:Int} (h:Sm A) (h2:Sm l):Deed.Sm ⟨A,none,some l⟩:=⟨h,(fun l z=>by cases z),(fun l z=>by cases z; exact h2)⟩
theorem ok_n {A:Int} {o:Option Int}:Deed.Ok ⟨A,none,o⟩:=fun l h z=>by cases z
theorem Ts {A l:Int}:Deed.Ok ⟨A,some l,none⟩:=fun l h z z2=>by cases z2
theorem szl {n:Nat} (h:Nat.ble n 1000 = true):n <= sizeLine:=Nat.le_of_lt (zn (Nat.le_of_ble_eq_true h))
theorem Tt {x y z:V}:¬ (HT.sIx [x,y,z].length 0 (some 1) = 0 /\ HT.sIx [x,y,z].length [x,y,z].length none = [x,y,z].length):=fun h=>absurd h.1 (by show ¬ HT.sIx 3 0 (some 1) = 0; decide)
theorem Grow.shrink {H H':Hp} {l:Addr} (h:H l = none) (g:Grow [l] H H'):Grow [] H H' :=
 ⟨fun b o _ q=>g.keep b o (fun z=>by rw [List.mem_singleton.mp z] at q; rw [h] at q; cases q) q,g.tup,g.frz⟩
theorem Grow.wk {m:List Addr} {H H':Hp} (g:Grow [] H H'):Grow m H H':=g.mono (by simp)
theorem Pot.grow {H H':Hp} {a:Addr} (p:Pot H a) (g:Grow [] H H'):Pot H' a:=by
 obtain ⟨u0,u1,hu,hn⟩:=p
 exact ⟨u0,u1,g.keep _ _ (by simp) hu,hn⟩
theorem Pot.new {H:Hp} {a l:Addr} (p:Pot H a) (hl:H l = none) (o:HO):Pot (upd H l o) a:=p.grow (Grow.new hl o)
theorem Zy {k:Int} (h:-(2 ^ 200) < k /\ k < 2 ^ 200):Builtin.Int.intBits k <= 200:=PySem.intBits_le_iff.mpr (by
 have h1:((k.natAbs:Nat):Int) < ((2 ^ 200:Nat):Int):=by
  have e:((2 ^ 200:Nat):Int) = 2 ^ 200:=rfl
  rw [e]; obtain ⟨a,b⟩:=h; omega
 exact Int.ofNat_lt.mp h1)
theorem jI {i j:Int} (h1:-(2 ^ 200) < i /\ i < 2 ^ 200) (h2:-(2 ^ 200) < j /\ j < 2 ^ 200):IntMulOk i j:=PySem.IntMulOk.of_le (Zy h1) (Zy h2) (by decide)
theorem xg {i j:Int} (h2:-(2 ^ 60) < j /\ j < 2 ^ 60):IntMulOk i j:=PySem.IntMulOk.of_right (Nat.le_trans ((PySem.intBits_le_iff (m:=60)).mpr (by obtain ⟨a,b⟩:=h2; omega)) (by decide))
section
variable {prog:Program} {w:World} {A:Around} {R:Result -> Shared -> Prop} {s:Shared}
theorem sm {elt target iter:Expr} {ifs:List Expr} {scope:Scope} {pos:Pos} {it acc:Value} {env:Env} (I:Nat -> Shared -> Prop)
  (turn:∀ n s,I n s -> wpAny (model prog w) A (pyNext it) (fun r s₁=>match r with
   | none=>R (.ok .next) s₁
   | some v=>wpAny (model prog w) A (letOwnedTupleGo target it v) (fun _ s₂=>wpAny (model prog w) A (assign target env v) (fun _ s₃ =>
     wpAny (model prog w) A (forIn ifs true fun c r=>if r = true then do let ok ← isTrue c env (eval c env); pure (ForInStep.yield ok) else pure (ForInStep.yield r)) (fun ok s₄ =>
      if ok = true then wpAny (model prog w) A (eval elt env) (fun x s₅ =>
       wpAny (model prog w) A (call (.builtin "list.append") [acc,x]) (fun _ s₆=>∃ m,m < n /\ I m s₆) (fun _ _=>False) s₅) (fun _ _=>False) s₄
      else ∃ m,m < n /\ I m s₄) (fun _ _=>False) s₃) (fun _ _=>False) s₂) (fun _ _=>False) s₁) (fun _ _=>False) s)
  (n:Nat) (h:I n s) :
  codeAny (model prog w) A (.compLoop (.ListComp elt [⟨target,iter,ifs,0⟩] scope pos) 0 it acc env) R s:=by
 refine codeAny_loop rfl I (fun n s hI=>?_) n h
 show wpAny _ A ((compTurn (.ListComp elt [⟨target,iter,ifs,0⟩] scope pos) 0 it acc env).onRaise (fun x=>do noteFrame x env; theTreesLotGoes x)) _ _ s
 refine wpAny_noted ?_
 rw [compTurn_list]
 have no:∀ (E:VS7) (e:Value) (s:Shared),(fun (_:Value) (_:Shared)=>False) e s -> E e s:=fun _ _ _ f=>f.elim
 refine wpAny_bind (wpAny_standAt (wpAny_bind (wpAny_mono (turn n s hI) (fun r s₁ h₁=>?_) (no _))))
 cases r with
 | none=>exact wpAny_pure h₁
 | some v =>
  refine wpAny_bind (wpAny_mono h₁ (fun _ s₂ h₂=>?_) (no _))
  refine wpAny_bind (wpAny_mono h₂ (fun _ s₃ h₃=>wpAny_bind (wpAny_mono h₃ (fun ok s₄ h₄=>?_) (no _))) (no _))
  cases ok with
  | true =>
   simp only [if_true] at h₄ ⊢
   exact wpAny_bind (wpAny_bind (wpAny_mono h₄ (fun x s₅ h₅=>wpAny_bind (wpAny_mono h₅ (fun _ s₆ h₆=>wpAny_pure (wpAny_pure ⟨rfl,h₆⟩)) (no _))) (no _)))
  | false =>
   simp only [Bool.false_eq_true,if_false] at h₄ ⊢
   first
    | exact wpAny_bind (wpAny_pure (wpAny_pure ⟨rfl,h₄⟩))
    | exact wpAny_pure ⟨rfl,h₄⟩
end
theorem uD {scope:Scope} {env:Env} (hfree:∀ y ∈ scope.names,y.2 = .free -> ∃ c,env.cells.lookup y.1 = some c) :
  ∃ cl,closureFor scope env = pure cl /\ (∀ x c,cl.lookup x = some c -> env.cells.lookup x = some c) /\ ∀ y ∈ scope.names,y.2 = .free -> ∃ c,cl.lookup y.1 = some c:=by
 have key:∀ (l:List (Str × NameKind)) (cs:List (Str × Addr)),(∀ y ∈ l,y.2 = .free -> ∃ c,env.cells.lookup y.1 = some c) -> (∀ x c,cs.lookup x = some c -> env.cells.lookup x = some c) →
   ∃ cl,(forIn l cs (fun (x:Str × NameKind) r=>do if x.2 == .free then do let c ← cellOf env x.1; pure (ForInStep.yield ((x.1,c) :: r)) else pure (ForInStep.yield r)):Sem (List (Str × Addr))) = pure cl ∧
    (∀ x c,cl.lookup x = some c -> env.cells.lookup x = some c) /\ (∀ y ∈ l,y.2 = .free -> ∃ c,cl.lookup y.1 = some c) /\ ∀ x c,cs.lookup x = some c -> ∃ c',cl.lookup x = some c':=by
  intro l
  induction l with
  | nil=>intro cs _ h2; exact ⟨cs,rfl,h2,fun y hy=>absurd hy (by simp),fun x c h=>⟨c,h⟩⟩
  | cons y r ih =>
   intro cs h1 h2
   obtain ⟨n,k⟩:=y
   by_cases hk:k = .free
   ·subst hk
    obtain ⟨c,hc⟩:=h1 (n,.free) (by simp) rfl
    have hc':env.cells.lookup n = some c:=hc
    have e0:cellOf env n = pure c:=by unfold cellOf; rw [hc']
    obtain ⟨cl,e,p1,p2,p3⟩:=ih ((n,c) :: cs) (fun z hz=>h1 z (List.mem_cons_of_mem _ hz)) (fun x d h=>by
     by_cases hx:x = n
     ·subst hx
      rw [List.lookup_cons_self] at h
      cases h; exact hc'
     ·rw [List.lookup_cons,beq_eq_false_iff_ne.mpr hx] at h
      exact h2 x d h)
    refine ⟨cl,?_,p1,fun z hz=>?_,fun x d h=>?_⟩
    ·rw [List.forIn_cons]
     simp only [beq_self_eq_true,if_true,e0,pure_bind]
     exact e
    ·rcases List.mem_cons.mp hz with rfl | hz
     ·intro _
      exact p3 n c List.lookup_cons_self
     ·exact p2 z hz
    ·by_cases hx:x = n
     ·subst hx; exact p3 x c List.lookup_cons_self
     ·exact p3 x d (by rw [List.lookup_cons,beq_eq_false_iff_ne.mpr hx]; exact h)
   ·have hb:(k == NameKind.free) = false:=beq_eq_false_iff_ne.mpr hk
    obtain ⟨cl,e,p1,p2,p3⟩:=ih cs (fun z hz=>h1 z (List.mem_cons_of_mem _ hz)) h2
    refine ⟨cl,?_,p1,fun z hz=>?_,p3⟩
    ·rw [List.forIn_cons]
     simp only [hb,Bool.false_eq_true,if_false,pure_bind]
     exact e
    ·rcases List.mem_cons.mp hz with rfl | hz
     ·intro h; exact absurd h hk
     ·exact p2 z hz
 obtain ⟨cl,e,p1,p2,_⟩:=key scope.names [] hfree (fun x c h=>by cases h)
 refine ⟨cl,?_,p1,p2⟩
 unfold closureFor
 first
  | (rw [show (forIn scope.names [] _:Sem (List (Str × Addr))) = pure cl from e]; rfl)
  | (simp only [bind_pure]; exact e)
  | exact e
def PIfs (X:Cx) (ifs:List Expr) (t:TT):Prop :=
 ∀ (pins:List (Addr × Obj)) (s:Shared) (σ:L2.St) (H:Hp) (Q:Bool -> Hp -> Prop),Inv X pins σ H s -> t σ H Q →
  wpAny (model X.prog X.w) X.A (forIn ifs true fun c r=>if r = true then do let ok ← isTrue c X.env (eval c X.env); pure (ForInStep.yield ok) else pure (ForInStep.yield r)) (TP X pins σ Q) X.xe s
def rQ:TT:=fun _ H Q=>Q true H
theorem xO {X:Cx}:PIfs X [] rQ:=fun pins s σ H Q I h=>wpAny_pure ⟨H,I,h⟩
theorem vz {X:Cx} {c:Expr} {t:TT} (hc:PT X c t):PIfs X [c] t:=fun pins s σ H Q I h=>wpAny_tests_one (hc pins s σ H Q I h)
abbrev cxC (X:Cx) (N':List Str) (scope:Scope) (cl:List (Str × Addr)) (C D:Addr) (fp:List Addr) (s:Shared) (H:Hp):Cx :=
 { X with N:=N',s₀:=s,H₀:=H,env:=compEnvC scope cl C X.env,outer:=X.stack,ex:=D :: fp,fn:=fun _=>false,xe:=fun _ _=>False }
def capt (sub:List (Option Nat)) (σ:L2.St):L2.St:=sub.map fun o=>match o with
 | none=>none
 | some i=>(match σ[i]? with | some v=>v | none=>none)
def vw (J:It) (σ0:L2.St) (H1:Hp) (g:TG) (tt:TT) (te:TE) (Q:VK):Prop :=
 ∃ W:Nat -> Nat -> List V -> L2.St -> Hp -> Prop,(∃ m,W 0 m [] σ0 H1) /\ ∀ i m ys σ' H',W i m ys σ' H' →
  (J.stop i H' /\ ∀ l,H' l = none -> Q (.ref l) (upd H' l (.lst ys))) ∨
  (J.go i H' /\ ∃ Nn:List V -> L2.St -> Hp -> Prop,(∀ zs σ2 H2,Nn zs σ2 H2 -> ∃ m',m' < m /\ W (i + 1) m' zs σ2 H2) ∧
   ∀ x H2,J.yld i H' x H2 -> g x σ' H2 fun σ2 H3=>tt σ2 H3 fun b H4=>if b = true then te σ2 H4 fun y H5=>ys.length < sizeLine /\ Nn (ys ++ [y]) σ2 H5 else Nn ys σ2 H4)
def Zz (wi:TI) (sub:List (Option Nat)) (g:TG) (tt:TT) (te:TE):TE:=fun σ H Q=>wi σ H fun J H1=>vw J (capt sub σ) H1 g tt te Q
structure CSc (X:Cx) (scope:Scope) (N':List Str) (sub:List (Option Nat)):Prop where
 free:∀ y ∈ scope.names,y.2 = .free -> X.env.kindOf y.1 = some .cell
 nocell:∀ y ∈ scope.names,y.2 ≠ .cell
 kind:scope.kind = .function
 names:∀ y ∈ scope.names,y.2 = .local -> scope.names.lookup y.1 = some .local
 len:sub.length = N'.length
 cap:∀ (j:Nat) (y:Str) (i:Nat),N'[j]? = some y -> sub[j]? = some (some i) -> X.N[i]? = some y /\ X.env.scope.names.lookup y = some .cell /\ scope.names.lookup y = some .free
theorem HOk.track {P:Program} {w:World} {H:Hp} {h:Heap} {a:Addr} {o:HO} (x:HOk P w H h) (hn:H a = none) (new:yf P w (upd H a o) h a o):HOk P w (upd H a o) h:=fun b u e=>by
 by_cases hb:b = a
 ·subst hb; rw [zd] at e; cases e; exact new
 ·rw [zB hb] at e
  exact (x b u e).stay (fun c v _ q=>q) (fun c q=>by rw [zB (zt q hn)]; exact q) fun c xs q=>by rw [zB (zt q hn)]; exact q
theorem x9 {scope:Scope} {env:Env} {y:Str} {k:NameKind} (h:(relabel scope env).names.lookup y = some k) :
  ∃ k',scope.names.lookup y = some k' /\ (k = k' \/ (k = .cell /\ k' = .free)):=by
 have key:∀ l:List (Str × NameKind),(l.map fun (n,k)=>if (k == NameKind.free && env.scope.kind == .function && env.kindOf n == some .cell) then (n,NameKind.cell) else (n,k)).lookup y = some k →
   ∃ k',l.lookup y = some k' /\ (k = k' \/ (k = .cell /\ k' = .free)):=by
  intro l
  induction l with
  | nil=>intro h; cases h
  | cons p r ih =>
   obtain ⟨n,k0⟩:=p
   intro h
   rw [List.map_cons] at h
   by_cases hc:(k0 == NameKind.free && env.scope.kind == .function && env.kindOf n == some .cell) = true
   ·have hf:k0 = .free:=by
     simp only [Bool.and_eq_true,beq_iff_eq] at hc
     exact hc.1.1
    dsimp only at h
    rw [if_pos hc,List.lookup_cons] at h
    rw [List.lookup_cons]
    cases hx:y == n with
    | true=>rw [hx] at h; cases h; exact ⟨k0,rfl,.inr ⟨rfl,hf⟩⟩
    | false=>rw [hx] at h; exact ih h
   ·dsimp only at h
    rw [if_neg hc,List.lookup_cons] at h
    rw [List.lookup_cons]
    cases hx:y == n with
    | true=>rw [hx] at h; cases h; exact ⟨_,rfl,.inl rfl⟩
    | false=>rw [hx] at h; exact ih h
 exact key scope.names h
theorem sr {scope:Scope} {env:Env} {y:Str} (hk:env.scope.kind = .function) (hc:env.kindOf y = some .cell) (h:scope.names.lookup y = some .free):(relabel scope env).names.lookup y = some .cell:=by
 have key:∀ l:List (Str × NameKind),l.lookup y = some .free -> (l.map fun (n,k)=>if (k == NameKind.free && env.scope.kind == .function && env.kindOf n == some .cell) then (n,NameKind.cell) else (n,k)).lookup y = some .cell:=by
  intro l
  induction l with
  | nil=>intro h; cases h
  | cons p r ih =>
   obtain ⟨n,k0⟩:=p
   intro h
   rw [List.map_cons]
   rw [List.lookup_cons] at h
   dsimp only
   cases hx:y == n with
   | true =>
    rw [hx] at h
    cases h
    have e:y = n:=by simpa using hx
    subst e
    rw [if_pos (by simp [hk,hc]),List.lookup_cons,hx]
   | false =>
    rw [hx] at h
    by_cases hc2:(k0 == NameKind.free && env.scope.kind == .function && env.kindOf n == some .cell) = true
    ·rw [if_pos hc2,List.lookup_cons,hx]; exact ih h
    ·rw [if_neg hc2,List.lookup_cons,hx]; exact ih h
 exact key scope.names h
section
variable {X:Cx} {pins:List (Addr × Obj)} {σ:L2.St} {H2:Hp} {s₂:Shared} {it:Addr} {fp:List Addr} {tn:Nat -> Heap -> Prop} {J:It} {scope:Scope} {cl:List (Str × Addr)} {N':List Str} {sub:List (Option Nat)}
theorem wR {h₁:Heap} {tk:Nat} (I:Inv X pins σ H2 s₂) (S:CSc X scope N' sub) (hcl1:∀ x c,cl.lookup x = some c -> X.env.cells.lookup x = some c) (hcl2:∀ y ∈ scope.names,y.2 = .free -> ∃ c,cl.lookup y.1 = some c)
    (f2:∀ b ∈ fp,FpOk X pins H2 b) (hfp:∀ b ∈ fp,b < s₂.heap.objs.size) {m:Str -> Option Value} {ob:Obj}
    (hns:h₁.Ns (s₂.heap.objs.size + 1) m) (hk:∀ b o,(s₂.heap.push ob).get? b = some o -> h₁.get? b = some o) :
    Inv (cxC X N' scope cl (s₂.heap.objs.size + 1) s₂.heap.objs.size fp { s₂ with heap:=s₂.heap.push ob } H2) pins (capt sub σ) H2 { s₂ with heap:=h₁,toks:=tk }:=by
  have old:∀ b o,s₂.heap.get? b = some o -> (s₂.heap.push ob).get? b = some o:=fun b o e=>Heap.get?_push_of_some _ e
  have old2:∀ b o,s₂.heap.get? b = some o -> h₁.get? b = some o:=fun b o e=>hk b o (old b o e)
  have sz:(s₂.heap.push ob).objs.size = s₂.heap.objs.size + 1:=Heap.size_push ..
  have cells:∀ x c,cl.lookup x = some c -> c < s₂.heap.objs.size:=fun x c e=>let ⟨v,q⟩:=I.cell x c (hcl1 x c e); q.lt
  have has:∀ x,((relabel scope X.env).names.lookup x = some .cell \/ (relabel scope X.env).names.lookup x = some .free) -> ∃ c,cl.lookup x = some c:=fun x hx=>by
    rcases hx with hx | hx
    · obtain ⟨k',e,z⟩:=x9 hx
      rcases z with z | ⟨_,z⟩
      · subst z; exact absurd rfl (S.nocell _ (PySem.mem_of_lookup e))
      · subst z; exact hcl2 _ (PySem.mem_of_lookup e) rfl
    · obtain ⟨k',e,z⟩:=x9 hx
      rcases z with z | ⟨z,_⟩
      · subst z; exact hcl2 _ (PySem.mem_of_lookup e) rfl
      · cases z
  have frsz:∀ b ∈ frs X.stack,b < s₂.heap.objs.size:=fun b hb=>by
    rcases List.mem_cons.mp (I.stkSub b hb) with z | z
    · rw [z]; exact I.lt
    · exact Nat.lt_of_not_le fun q=>I.nofs q z
  refine
    { ok :=
      { mod:=I.ok.mod,kind:=S.kind,glob:=I.ok.glob,blt:=I.ok.blt
        above:=by show (s₂.heap.push ob).objs.size <= s₂.heap.objs.size + 1; rw [sz]; exact Nat.le_refl _
        inj:=fun x y c h1 h2=>I.ok.inj x y c (hcl1 x c h1) (hcl1 y c h2)
        has:=has
        cab:=fun x c z=>by cases z
        hd:=I.ok.hd,frames:=I.ok.frames,stk:=.inl rfl
        exf:=fun b hb=>?exf
        bs:=fun b o e=>⟨old b o (I.bk b o e),(I.bs b o e).2⟩
        bsz:=by show X.base.objs.size <= (s₂.heap.push ob).objs.size; rw [sz]; exact Nat.le_succ_of_le (Nat.le_trans I.ok.bsz I.sz)
        noex:=fun b o e hb=>?noex
        exfs:=fun b hb=>?exfs
        funs:=?funs
        frf:=I.stkFree }
      os:=rfl,bare:=I.bare,base:=Un.kept fun b u e=>hk b u e
      loc:=⟨m,hns,?loc⟩
      cell:=fun x c e=>?cell
      free:=I.hok.fresh (Nat.le_succ _)
      freeC:=fun x c e=>I.freeC x c (hcl1 x c e)
      pin:=fun p hp=>?pin
      hok:=I.hok.kept old2
      len:=?len }
  case exf =>
    rcases List.mem_cons.mp hb with rfl | hb
    · exact ⟨Nat.ne_of_lt (Nat.lt_succ_self _),fun x c e=>Nat.ne_of_lt (cells x c e)⟩
    · exact ⟨Nat.ne_of_lt (Nat.lt_succ_of_lt (hfp b hb)),fun x c e=>(f2 b hb).2.2.2.2.1 x c (hcl1 x c e)⟩
  case noex =>
    have hl:b < X.s₀.heap.objs.size:=Nat.lt_of_lt_of_le (Heap.lt_size e) I.ok.bsz
    rcases List.mem_cons.mp hb with rfl | hb
    · exact absurd (Nat.lt_of_lt_of_le hl I.sz) (Nat.lt_irrefl _)
    · rcases (f2 b hb).2.2.2.1 with z | z
      · exact I.ok.noex b o e z
      · exact absurd (Nat.lt_of_lt_of_le hl z) (Nat.lt_irrefl _)
  case exfs =>
    intro hs
    rcases List.mem_cons.mp hb with rfl | hb
    · exact absurd (frsz _ hs) (Nat.lt_irrefl _)
    · rcases List.mem_cons.mp (I.stkSub b hs) with z | z
      · exact (f2 b hb).2.1 z
      · exact (f2 b hb).2.2.1 z
  case funs=>exact Heap.FunFrames.of_keeps (fun b o e _=>⟨o,old b o e,rfl⟩) I.stack
  case loc =>
    intro j y v hj hv hvis
    obtain ⟨mX,_,lX⟩:=I.loc
    unfold capt at hv
    rw [List.getElem?_map] at hv
    cases hs:sub[j]? with
    | none=>rw [hs] at hv; cases hv
    | some o =>
      rw [hs] at hv
      cases o with
      | none=>cases hv
      | some i =>
        obtain ⟨hN,hc,hf⟩:=S.cap j y i hj hs
        have hv':σ[i]? = some (some v):=by
          have z:(match σ[i]? with | some v=>v | none=>none) = some v:=Option.some.inj hv
          cases q:σ[i]? with
          | none=>rw [q] at z; cases z
          | some w=>rw [q] at z; rw [show w = some v from z]
        obtain ⟨u,ru,hl⟩:=lX i y v hN hv' (.inr (.inl hc))
        refine ⟨u,ru,?_⟩
        have kc:(relabel scope X.env).names.lookup y = some .cell:=sr I.ok.kind hc hf
        rcases hl with ⟨z,_⟩ | ⟨_,c,e,ic⟩
        · have z':X.env.scope.names.lookup y = some .local :=z
          rw [hc] at z'; cases z'
        · obtain ⟨c',e'⟩:=hcl2 _ (PySem.mem_of_lookup hf) rfl
          have:=hcl1 _ _ e'
          rw [e] at this; cases this
          refine .inr ⟨.inl kc,c,e',?_⟩
          obtain ⟨oc,h1,h2⟩:=ic
          exact ⟨oc,old2 _ _ h1,h2⟩
  case cell =>
    obtain ⟨v,oc,h1,h2⟩:=I.cell x c (hcl1 x c e)
    exact ⟨v,oc,old2 _ _ h1,h2⟩
  case pin =>
    obtain ⟨p1,p2,p3,p4,p5⟩:=I.pin p hp
    refine ⟨old2 _ _ p1,p2,Nat.ne_of_lt (Nat.lt_succ_of_lt (Heap.lt_size p1)),fun hs=>?_,p5⟩
    rcases List.mem_cons.mp (I.stkSub _ hs) with z | z
    · exact p3 z
    · exact p4 z
  case len =>
    show (capt sub σ).length = N'.length
    unfold capt
    rw [List.length_map]; exact S.len
theorem u9 {C D:Addr} {s₀:Shared} {s':Shared} {σ':L2.St} {H':Hp} {ys:List V} {us:List Value} {k:Nat} {oC:Obj} (I:Inv X pins σ H2 s₂)
    (hs₀:∀ b o,s₂.heap.get? b = some o -> s₀.heap.get? b = some o) (hos:s₀.os = s₂.os) (hD:s₂.heap.objs.size <= D) (hC:s₂.heap.objs.size <= C) (hDC:D ≠ C) (f2:∀ b ∈ fp,FpOk X pins H2 b)
    (I':Inv (cxC X N' scope cl C D fp s₀ H2) pins σ' H' s') (hn:H' D = none) (hy:s'.heap.get? D = some { cls:=.type "list",data:=.seq us.toArray k }) (rv:Vals ys us) (hz:ys.length <= sizeLine)
    (ho:s'.heap.get? C = some oC) (hd:∀ v,oC.data ≠ .cell v):Inv X (pins ++ [(C,oC)]) σ (upd H' D (.lst ys)) s' /\ FpOk X pins (upd H' D (.lst ys)) C:=by
  have neD:∀ b o,s₂.heap.get? b = some o -> b ≠ D:=fun b o e=>Nat.ne_of_lt (Nat.lt_of_lt_of_le (Heap.lt_size e) hD)
  have nm:∀ b o,s₂.heap.get? b = some o -> b ∉ fp -> b ∉ D :: fp:=fun b o e h z=>(List.mem_cons.mp z).elim (neD b o e) h
  have U:=I'.base
  have HC:upd H' D (.lst ys) C = none:=by rw [zB (Ne.symm hDC)]; exact I'.free
  have fpc:FpOk X pins (upd H' D (.lst ys)) C:=I.fpOk hC HC
  have un:Un (frs X.stack) fp H2 (upd H' D (.lst ys)) s₂.heap s'.heap :=
    { keep:=fun b o e n h1 h2=>U.keep b o (hs₀ b o e) n h1 (nm b o e h2)
      slot:=fun b o e n h1 h2=>U.slot b o (hs₀ b o e) n h1 (nm b o e h2)
      free:=fun b o e n h2=>by rw [zB (neD b o e)]; exact U.free b o (hs₀ b o e) n (nm b o e h2)
      there:=fun b o e h2=>U.there b o (hs₀ b o e) (nm b o e h2)
      tups:=fun b xs e=>by have z:=U.tups b xs e; rw [zB (zt z hn)]; exact z
      frzs:=fun b o u e=>by have z:=U.frzs b o u e; rw [zB (zt z hn)]; exact z
      tbls:=fun b ps e=>by obtain ⟨more,z⟩:=U.tbls b ps e; exact ⟨more,by rw [zB (zt z hn)]; exact z⟩ }
  have hok:HOk X.prog X.w (upd H' D (.lst ys)) s'.heap:=HOk.track I'.hok hn ⟨hz,us,k,rv,hy⟩
  have IX:Inv X pins σ (upd H' D (.lst ys)) s':=I.call' (I'.os.trans hos) un hok I'.bare fun b hb=>⟨(f2 b hb).2.2.2.1,(f2 b hb).2.1,(f2 b hb).2.2.2.2.1,(f2 b hb).2.2.2.2.2⟩
  refine ⟨IX.pins_of fun p hp=>?_,fpc⟩
  rcases List.mem_append.mp hp with hp | hp
  · exact IX.pin p (List.mem_append_right _ hp)
  · rw [List.mem_singleton.mp hp]
    exact ⟨ho,HC,fpc.2.1,fpc.2.2.1,hd⟩
end
section
variable {X:Cx} {scope:Scope} {N':List Str} {sub:List (Option Nat)} {x:Str} {px pos:Pos} {elt iter:Expr} {ifs:List Expr} {wi:TI} {g:TG} {tt:TT} {te:TE}
theorem CSc.clos {pins:List (Addr × Obj)} {σ:L2.St} {H:Hp} {s:Shared} (S:CSc X scope N' sub) (I:Inv X pins σ H s):∃ cl,closureFor scope X.env = pure cl /\ (∀ x c,cl.lookup x = some c -> X.env.cells.lookup x = some c) /\ ∀ y ∈ scope.names,y.2 = .free -> ∃ c,cl.lookup y.1 = some c :=
 uD fun y hy hf=>I.ok.has y.1 (.inl (S.free y hy hf))
end
def eqVs:List V -> List V -> Bool
 | [],[]=>true
 | x :: xs,y :: ys=>eqV x y && eqVs xs ys
 | _,_=>false
theorem qP:∀ {xs ys:List V},eqVs xs ys = true -> xs.length = ys.length
 | [],[],_=>rfl
 | x :: xs,y :: ys,h=>by
  have h':(eqV x y && eqVs xs ys) = true:=h
  rw [Bool.and_eq_true] at h'
  simp [qP h'.2]
 | [],_ :: _,h=>by cases h
 | _ :: _,[],h=>by cases h
theorem qQ:∀ {xs ys:List V},eqVs xs ys = true ↔ xs.length = ys.length /\ ∀ (j:Nat) (x y:V),xs[j]? = some x -> ys[j]? = some y -> eqV x y = true
 | [],[]=>by simp [eqVs]
 | x :: xs,y :: ys=>by
  show (eqV x y && eqVs xs ys) = true ↔ _
  rw [Bool.and_eq_true,qQ]
  constructor
  ·rintro ⟨h1,h2,h3⟩
   refine ⟨by simp [h2],fun j a b ha hb=>?_⟩
   cases j with
   | zero=>simp at ha hb; subst ha hb; exact h1
   | succ j=>exact h3 j a b (by simpa using ha) (by simpa using hb)
  ·rintro ⟨h1,h2⟩
   exact ⟨h2 0 x y rfl rfl,by simpa using h1,fun j a b ha hb=>h2 (j + 1) a b (by simpa using ha) (by simpa using hb)⟩
 | [],_ :: _=>by simp [eqVs]
 | _ :: _,[]=>by simp [eqVs]
theorem uE {xs ys:List V}:((List.range (min xs.length ys.length)).all (fun j=>match xs[j]?,ys[j]? with | some x,some y=>eqV x y | _,_=>true) && xs.length == ys.length) = eqVs xs ys:=by
 rw [Bool.eq_iff_iff,Bool.and_eq_true,List.all_eq_true,beq_iff_eq,qQ]
 constructor
 ·rintro ⟨h1,h2⟩
  refine ⟨h2,fun j x y hx hy=>?_⟩
  have hj:j < xs.length:=(List.getElem?_eq_some_iff.mp hx).1
  have:=h1 j (List.mem_range.mpr (by rw [← h2]; simpa using hj))
  rw [hx,hy] at this
  exact this
 ·rintro ⟨h1,h2⟩
  refine ⟨fun j hj=>?_,h1⟩
  have hj':=List.mem_range.mp hj
  have a:j < xs.length:=by omega
  have b:j < ys.length:=by omega
  rw [List.getElem?_eq_getElem a,List.getElem?_eq_getElem b]
  exact h2 j _ _ (List.getElem?_eq_getElem a) (List.getElem?_eq_getElem b)
theorem ZA {xs:List V} {us:List Value} (r:Vals xs us) (j:Nat) (h:j < us.length):∃ x,xs[j]? = some x /\ RelV x us[j]:=by
 have hl:=r.length
 have hx:xs[j]? = some xs[j]:=List.getElem?_eq_getElem (by omega)
 obtain ⟨u,e,q⟩:=r.get hx
 rw [List.getElem?_eq_getElem h] at e
 cases e
 exact ⟨_,hx,q⟩
theorem Wg {A:Around} {s:Shared} {xs ys:List V} {us ws:List Value} (r1:Vals xs us) (r2:Vals ys ws) (f1:xs.all xo = true) (f2:ys.all xo = true) :
  ∀ j (h1:j < us.toArray.size) (h2:j < ws.toArray.size),SeqAt.EqAt A s us.toArray[j] ws.toArray[j] ((fun j=>match xs[j]?,ys[j]? with | some x,some y=>eqV x y | _,_=>true) j):=by
 intro j h1 h2
 obtain ⟨x,ex,qx⟩:=ZA r1 j (by simpa using h1)
 obtain ⟨y,ey,qy⟩:=ZA r2 j (by simpa using h2)
 have fx:xo x = true:=List.all_eq_true.mp f1 x (List.mem_of_getElem? ex)
 have fy:xo y = true:=List.all_eq_true.mp f2 y (List.mem_of_getElem? ey)
 show SeqAt.EqAt A s _ _ (match xs[j]?,ys[j]? with | some x,some y=>eqV x y | _,_=>true)
 rw [ex,ey]
 simpa using X8 qx qy fx fy
section
variable {X:Cx}
def rEqT (K:FG7) (neg:Bool):R2:=fun x y H Q=>∃ a b xs ys,x = .ref a /\ y = .ref b /\ SqT K H a xs /\ SqT K H b ys /\ xs.all xo = true /\ ys.all xo = true /\ Q (.bl (if neg then !eqVs xs ys else eqVs xs ys)) H
theorem yU {h:Heap} {a:Addr} {its:Array Value} (t:IsTup h a its):h.IsTuple a its:=t
theorem Wh {k:Nat} (hr:Room k X.A):OpR X (compareOp .Eq) (rEqT X.K false):=by
 intro pins s σ H x y v u Q I rx ry h
 obtain ⟨a,b,xs,ys,rfl,rfl,ha,hb,f1,f2,q⟩:=h
 cases rx; cases ry
 obtain ⟨us,r1,t1,_⟩:=I.tuple ha
 obtain ⟨ws,r2,t2,_⟩:=I.tuple hb
 refine SeqAt.eq_tupleAt (yU t1) (yU t2) hr.units0 (Wg r1 r2 f1 f2) ?_
 rw [List.size_toArray,List.size_toArray,← r1.length,← r2.length,uE]
 exact ⟨.bl _,H,I,rfl,q⟩
end
section
variable {X:Cx} {pos:Pos}
theorem ss:∀ {bs:List Bool} {us:List Value},Vals (bs.map V.bl) us -> LSm.BoolsAre us bs
 | [],_,.nil=>.nil
 | b :: bs,_,.cons r t=>by
  cases r
  exact .cons b (ss t)
theorem su (hcalm:X.calm = true):xm X (.builtin "all") (fun xs H Q=>∃ (l:Addr) (bs:List Bool),xs = [.ref l] /\ SqL X.K H l (bs.map V.bl) /\ Q (.bl (bs.all id)) H):=by
 intro pins s σ H xs us Q I r h
 obtain ⟨l,bs,rfl,hl,q⟩:=h
 obtain ⟨u,rfl,rx⟩:=wd r
 cases (show u = Value.ref l from rx)
 obtain ⟨vs,rv,pl,_⟩:=I.list hl
 have hl':s.heap.IsList l vs.toArray:=pl.isList
 have hb:LSm.BoolsAre vs bs:=ss rv
 have hlt:l < s.heap.objs.size:=by obtain ⟨_,e,_⟩:=hl'; exact Heap.lt_size e
 refine call_all_walk (wpAny_pyIter_list hl' ?_)
 refine ⟨s.heap.objs.size,[s.heap.objs.size,l],[s.heap.objs.size],vs.toArray.size,_,_,fun i=>(bs[i]?).getD true,rfl,Walks.list (A:=X.A.in1) (I.ok.hd hcalm) _ l (Nat.ne_of_lt hlt) vs.toArray,
  ⟨⟨_,Heap.get?_push_size _ rfl,rfl,rfl⟩,hl'.push _⟩,fun i v s' Q' E' hP hQ=>?_,fun h' tk hk=>?_⟩
 ·obtain ⟨b,e,rfl⟩:=hb.get i v (by simpa using hP)
  simp only [e,Option.getD_some] at hQ
  exact wpAny_truthy_bool hQ
 ·have e:((List.range vs.toArray.size).all fun i=>(bs[i]?).getD true) = bs.all id:=by
   have hlen:bs.length = vs.length:=by rw [← rv.length,List.length_map]
   rw [List.size_toArray,← hlen,Bool.eq_iff_iff,List.all_eq_true,List.all_eq_true]
   constructor
   ·intro z b hb'
    obtain ⟨i,hi,rfl⟩:=List.getElem_of_mem hb'
    have:=z i (List.mem_range.mpr hi)
    simpa [List.getElem?_eq_getElem hi] using this
   ·intro z i hi
    have hi':=List.mem_range.mp hi
    simpa [List.getElem?_eq_getElem hi'] using z _ (List.getElem_mem hi')
  rw [e]
  exact ⟨.bl (bs.all id),H,I.kept (t':=tk) (h':=h') (LSm.kept_iter hk),rfl,q⟩
end
theorem CSc.of {X:Cx} {scope:Scope} {N':List Str} {sub:List (Option Nat)} (sc:Scope) (NN:List Str) (e:X.env.scope = sc) (en:X.N = NN)
  (h:((scope.names.all fun y=>(y.2 != .free || sc.names.lookup y.1 == some .cell) && (y.2 != .cell) && (y.2 != .local || scope.names.lookup y.1 == some .local)) && (sub.length == N'.length) &&
   ((N'.zip sub).all fun p=>match p.2 with | none=>true | some i=>NN[i]? == some p.1 && sc.names.lookup p.1 == some .cell && scope.names.lookup p.1 == some .free)) = true)
  (hk:scope.kind = .function):CSc X scope N' sub:=by
 rw [Bool.and_eq_true,Bool.and_eq_true] at h
 obtain ⟨⟨h1,h2⟩,h3⟩:=h
 have k1:=fun y hy=>List.all_eq_true.mp h1 y hy
 refine ⟨fun y hy hf=>?_,fun y hy hc=>?_,hk,fun y hy hl=>?_,by simpa using h2,fun j y i hj hs=>?_⟩
 ·have:=k1 y hy
  simp only [hf,Bool.and_eq_true] at this
  have z:=this.1.1
  show X.env.scope.names.lookup y.1 = _
  rw [e]; simpa using z
 ·have:=k1 y hy
  simp only [hc,Bool.and_eq_true] at this
  simp at this
 ·have:=k1 y hy
  simp only [hl,Bool.and_eq_true] at this
  simpa using this.2
 ·have hm:(y,some i) ∈ N'.zip sub:=by
   have:(N'.zip sub)[j]? = some (y,some i):=by
    rw [List.getElem?_zip_eq_some]; exact ⟨hj,hs⟩
   exact List.mem_of_getElem? this
  have:=List.all_eq_true.mp h3 _ hm
  simp only [Bool.and_eq_true,beq_iff_eq] at this
  rw [e,en]
  exact ⟨this.1.1,this.1.2,this.2⟩
theorem ZB (d e:Deed):eqVs d.vs e.vs = decide (d = e):=by
 obtain ⟨a,l,h⟩:=d
 obtain ⟨a',l',h'⟩:=e
 rw [Bool.eq_iff_iff,decide_eq_true_iff]
 have o:∀ p q:Option Int,eqV (ov p) (ov q) = true ↔ p = q:=fun p q=>by
  cases p <;> cases q <;> simp [ov,eqV]
 show (eqV (.int a) (.int a') && (eqV (ov l) (ov l') && (eqV (ov h) (ov h') && true))) = true ↔ _
 rw [Bool.and_eq_true,Bool.and_eq_true,Bool.and_eq_true,o,o]
 simp [eqV]
theorem sv (d:Deed):d.vs.all xo = true:=by
 obtain ⟨a,l,h⟩:=d
 cases l <;> cases h <;> rfl
def vR (a:Int) (lo hi:Option Int):Deed:=if lo ≠ none /\ lo = hi then ⟨0,lo,hi⟩ else ⟨a,lo,hi⟩
def thrO (e:Deed) (o:Option Int) (d:Option Int):Option Int:=match o with
 | none=>d
 | some l=>some (e.mk' l)
def Ue (d e:Deed):Deed:=vR (d.add + e.add) (thrO e d.lo e.lo) (thrO e d.hi e.hi)
def Deed.Bd (B:Int) (d:Deed):Prop:=(-B <= d.add /\ d.add <= B) /\ (∀ l,d.lo = some l -> -B <= l /\ l <= B) /\ ∀ h,d.hi = some h -> -B <= h /\ h <= B
theorem Uf (a v:Int):(Deed.mk a none none).mk' v = v + a:=rfl
theorem Tu {a l h:Int} (o:Deed.Ok ⟨a,some l,some h⟩):l < h \/ (l = h /\ a = 0):=o l h rfl rfl
theorem ZC {a:Int} {lo hi:Option Int} (h:∀ l u,lo = some l -> hi = some u -> l <= u):(vR a lo hi).Ok:=by
 unfold vR
 split
 ·rename_i c
  intro l u e1 e2
  have e1':lo = some l:=e1
  have e2':hi = some u:=e2
  right
  refine ⟨?_,rfl⟩
  have:=c.2
  rw [e1',e2'] at this
  exact Option.some.inj this
 ·rename_i c
  intro l u e1 e2
  have e1':lo = some l:=e1
  have e2':hi = some u:=e2
  left
  have:=h l u e1' e2'
  have ne:l ≠ u:=fun z=>c ⟨by rw [e1']; simp,by rw [e1',e2',z]⟩
  omega
theorem ZD (l r:Int):rP (some l) r = max l r:=by
 show (if l > r then l else r) = _
 split <;> omega
theorem ZE (h r:Int):u8 (some h) r = min h r:=by
 show (if h < r then h else r) = _
 split <;> omega
theorem Wi (r:Int):rP none r = r:=rfl
theorem Wj (r:Int):u8 none r = r:=rfl
theorem Deed.Sm.bd {d:Deed} (h:d.Sm):d.Bd (10 ^ 30):=by
 obtain ⟨⟨a1,a2⟩,h1,h2⟩:=h
 exact ⟨⟨by omega,by omega⟩,fun l e=>by have:=h1 l e; exact ⟨by have:=this.1; omega,by have:=this.2; omega⟩,fun l e=>by have:=h2 l e; exact ⟨by have:=this.1; omega,by have:=this.2; omega⟩⟩
theorem zz {c:Bool} {A B:Prop} (e:c = false) (h:B):if c = true then A else B:=by rw [e]; exact iteF h
theorem zK {c:Bool} {A B:Prop} (e:c = true) (h:A):if c = true then A else B:=by rw [e]; exact iteT h
theorem Xe {K:FG7} {a:Addr} {xs:List V} {g:TG} {tt:TT} {te:TE} {Q:VK} {σ:L2.St} {H:Hp} (Pv:Nat -> List V -> L2.St -> Hp -> Prop) (h0:Pv 0 [] σ H) (hl:∀ i ys σ H,i <= xs.length -> Pv i ys σ H -> SqT K H a xs)
  (hs:∀ i x ys σ H,xs[i]? = some x -> Pv i ys σ H -> g x σ H fun σ2 H3=>tt σ2 H3 fun b H4=>if b = true then te σ2 H4 fun y H5=>ys.length < sizeLine /\ Pv (i + 1) (ys ++ [y]) σ2 H5 else Pv (i + 1) ys σ2 H4)
  (hd:∀ ys σ H,Pv xs.length ys σ H -> ∀ l,H l = none -> Q (.ref l) (upd H l (.lst ys))) :
  vw (Itt K a) σ H g tt te Q:=by
 refine ⟨fun i m ys σ H=>m = xs.length - i /\ i <= xs.length /\ Pv i ys σ H,⟨xs.length,by simp,Nat.zero_le _,h0⟩,?_⟩
 rintro i m ys σ H ⟨rfl,hi,p⟩
 have q:=hl i ys σ H hi p
 by_cases hlt:i < xs.length
 ·refine .inr ⟨⟨xs,xs[i],q,by simp [hlt]⟩,Pv (i + 1),fun zs σ' H' p'=>⟨xs.length - (i + 1),by omega,rfl,hlt,p'⟩,fun x H' y=>?_⟩
  obtain ⟨e,y⟩:=y
  subst e
  exact hs i x ys σ _ (y xs q) p
 ·have e:i = xs.length:=by omega
  subst e
  exact .inl ⟨⟨xs,q,Nat.le_refl _⟩,hd ys σ H p⟩
theorem vS {K:FG7} {a:Addr} {xs:List V} {g:TG} {tt:TT} {te:TE} {Q:VK} {σ:L2.St} {H:Hp} (Pv:Nat -> List V -> L2.St -> Hp -> Prop) (h0:Pv 0 [] σ H) (hl:∀ i ys σ H,i <= xs.length -> Pv i ys σ H -> SqL K H a xs)
  (hs:∀ i x ys σ H,xs[i]? = some x -> Pv i ys σ H -> g x σ H fun σ2 H3=>tt σ2 H3 fun b H4=>if b = true then te σ2 H4 fun y H5=>ys.length < sizeLine /\ Pv (i + 1) (ys ++ [y]) σ2 H5 else Pv (i + 1) ys σ2 H4)
  (hd:∀ ys σ H,Pv xs.length ys σ H -> ∀ l,H l = none -> Q (.ref l) (upd H l (.lst ys))) :
  vw (Itl K a) σ H g tt te Q:=by
 refine ⟨fun i m ys σ H=>m = xs.length - i /\ i <= xs.length /\ Pv i ys σ H,⟨xs.length,by simp,Nat.zero_le _,h0⟩,?_⟩
 rintro i m ys σ H ⟨rfl,hi,p⟩
 have q:=hl i ys σ H hi p
 by_cases hlt:i < xs.length
 ·refine .inr ⟨⟨xs,xs[i],q,by simp [hlt]⟩,Pv (i + 1),fun zs σ' H' p'=>⟨xs.length - (i + 1),by omega,rfl,hlt,p'⟩,fun x H' y=>?_⟩
  obtain ⟨e,y⟩:=y
  subst e
  exact hs i x ys σ _ (y xs q) p
 ·have e:i = xs.length:=by omega
  subst e
  exact .inl ⟨⟨xs,q,Nat.le_refl _⟩,hd ys σ H p⟩
theorem ZF {K:FG7} {a:Addr} {xs:List V} {n:Nat} {te:TE} {Q:VK} {σ:L2.St} {H:Hp} (Pv:Nat -> List V -> L2.St -> Hp -> Prop) (h0:Pv 0 [] σ H) (hl:∀ i ys σ H,i <= xs.length -> Pv i ys σ H -> SqT K H a xs)
  (hs:∀ i x ys σ H,xs[i]? = some x -> Pv i ys σ H -> te (σ.set n (some x)) H fun y H5=>ys.length < sizeLine /\ Pv (i + 1) (ys ++ [y]) (σ.set n (some x)) H5)
  (hd:∀ ys σ H,Pv xs.length ys σ H -> ∀ l,H l = none -> Q (.ref l) (upd H l (.lst ys))):vw (Itt K a) σ H (wc n) rQ te Q :=
 Xe Pv h0 hl (fun i x ys σ H hx p=>by
  show if true = true then te (σ.set n (some x)) H (fun y H5=>ys.length < sizeLine /\ Pv (i + 1) (ys ++ [y]) (σ.set n (some x)) H5) else Pv (i + 1) ys (σ.set n (some x)) H
  rw [if_pos rfl]; exact hs i x ys σ H hx p) hd
theorem uF {K:FG7} {a:Addr} {xs:List V} {n:Nat} {te:TE} {Q:VK} {σ:L2.St} {H:Hp} (Pv:Nat -> List V -> L2.St -> Hp -> Prop) (h0:Pv 0 [] σ H) (hl:∀ i ys σ H,i <= xs.length -> Pv i ys σ H -> SqL K H a xs)
  (hs:∀ i x ys σ H,xs[i]? = some x -> Pv i ys σ H -> te (σ.set n (some x)) H fun y H5=>ys.length < sizeLine /\ Pv (i + 1) (ys ++ [y]) (σ.set n (some x)) H5)
  (hd:∀ ys σ H,Pv xs.length ys σ H -> ∀ l,H l = none -> Q (.ref l) (upd H l (.lst ys))):vw (Itl K a) σ H (wc n) rQ te Q :=
 vS Pv h0 hl (fun i x ys σ H hx p=>by
  show if true = true then te (σ.set n (some x)) H (fun y H5=>ys.length < sizeLine /\ Pv (i + 1) (ys ++ [y]) (σ.set n (some x)) H5) else Pv (i + 1) ys (σ.set n (some x)) H
  rw [if_pos rfl]; exact hs i x ys σ H hx p) hd
theorem WZ {X:Cx} {K:FG7} (h:X.K = K):IxR X (rIxT K):=by subst h; exact ye
theorem qR {X:Cx} {K:FG7} (h:X.K = K):IxR X (rIxL K):=by subst h; exact zY
theorem Ug {a:Int} {hi:Option Int}:vR a none hi = ⟨a,none,hi⟩:=by simp [vR]
theorem Uh {a l:Int}:vR a (some l) (some l) = ⟨0,some l,some l⟩:=by simp [vR]
theorem Wl {a l:Int} {hi:Option Int} (h:some l ≠ hi):vR a (some l) hi = ⟨a,some l,hi⟩:=by simp [vR,h]
def rR (_:FG7):Sp:=sp3 fun x y z H Q=>∃ a lo hi,x = .int a /\ y = ov lo /\ z = ov hi /\ ∀ t,H t = none -> Q (.ref t) (upd H t (.tup (vR a lo hi).vs))
def sx (K:FG7):Sp:=sp2 fun x y H Q=>∃ d e,yv K H x d /\ yv K H y e /\ ∀ t,H t = none -> Q (.ref t) (upd H t (.tup (Ue d e).vs))
theorem Deed.Bd.mono {d:Deed} {B C:Int} (b:d.Bd B) (h:B <= C):d.Bd C:=by
 obtain ⟨⟨b1,b2⟩,b3,b4⟩:=b
 exact ⟨⟨by omega,by omega⟩,fun l e=>by have:=b3 l e; omega,fun l e=>by have:=b4 l e; omega⟩
theorem W0:Deed.Bd 0 ⟨0,none,none⟩:=⟨⟨by decide,by decide⟩,(fun l z=>by cases z),(fun l z=>by cases z)⟩
def Wm (d:Deed) (P:Int) (o:Option Int):Option Int:=match o with
 | none=>none
 | some l=>some ((Deed.mk 0 d.lo d.hi).mk' (l + P))
def sy (d:Deed) (m:Int):Deed:=if m = 0 then ⟨0,none,none⟩ else vR (d.add * m) (Wm d (d.add * (m - 1)) d.lo) (Wm d (d.add * (m - 1)) d.hi)
section
variable {X:Cx}
def rEqL (K:FG7) (neg:Bool):R2:=fun x y H Q=>∃ a b xs ys,x = .ref a /\ y = .ref b /\ SqL K H a xs /\ SqL K H b ys /\ xs.all xo = true /\ ys.all xo = true /\ Q (.bl (if neg then !eqVs xs ys else eqVs xs ys)) H
theorem Ui {k:Nat} (hr:Room k X.A):OpR X (compareOp .NotEq) (rEqL X.K true):=by
 intro pins s σ H x y v u Q I rx ry h
 obtain ⟨a,b,xs,ys,rfl,rfl,ha,hb,f1,f2,q⟩:=h
 cases rx; cases ry
 obtain ⟨us,r1,t1,_⟩:=I.list ha
 obtain ⟨ws,r2,t2,_⟩:=I.list hb
 by_cases hl:us.length = ws.length
 ·refine SeqAt.RcNeAt.lists t1.isList t2.isList (by simpa using hl) hr.units0 (Wg r1 r2 f1 f2) _ _ _ _ ?_
  have e:=uE (xs:=xs) (ys:=ys)
  have e2:(xs.length == ys.length) = true:=by rw [beq_iff_eq,r1.length,r2.length]; exact hl
  rw [e2,Bool.and_true,show min xs.length ys.length = xs.length by rw [r1.length,r2.length]; omega] at e
  rw [List.size_toArray,← r1.length,e]
  exact ⟨.bl _,H,I,rfl,q⟩
 ·refine SeqAt.RcNeAt.lists_lengths t1.isList t2.isList (by simpa using hl) hr.units0 _ _ _ _ ?_
  have e:eqVs xs ys = false:=by
   cases z:eqVs xs ys with
   | false=>rfl
   | true=>exact absurd (by rw [← r1.length,← r2.length]; exact qP z) hl
  rw [e] at q
  exact ⟨.bl _,H,I,rfl,q⟩
end
theorem Grow.sqL {H H':Hp} (g:Grow [] H H') {K:FG7} {a:Addr} {xs:List V} (h:SqL K H a xs):SqL K H' a xs:=by
 rcases h with (h | ⟨o,h⟩) | h
 ·exact .inl (.inl (g.keep _ _ (by simp) h))
 ·exact .inl (.inr ⟨o,g.frz _ _ _ h⟩)
 ·exact .inr h
section
variable {K:FG7} {a:Addr} {xs:List V} {n:Nat} {tt:TT} {te:TE} {Q:VK} {σ:L2.St} {H:Hp}
theorem sB {p:V -> Bool} {f:V -> V} {i:Nat} {x:V} (hx:xs[i]? = some x):((xs.take (i + 1)).filter p).map f = ((xs.take i).filter p).map f ++ (if p x = true then [f x] else []):=by
 rw [List.take_add_one,hx,List.filter_append,List.map_append]
 congr 1
 show ((([x]:List V)).filter p).map f = _
 by_cases c:p x = true
 ·rw [if_pos c,List.filter_cons_of_pos c]; rfl
 ·rw [if_neg c,List.filter_cons_of_neg c]; rfl
theorem Xf {p:V -> Bool} {f:V -> V} {i:Nat} (h:xs.length <= 1000):(((xs.take i).filter p).map f).length < sizeLine:=by
 rw [List.length_map]
 refine zn ?_
 have:=List.length_filter_le p (xs.take i)
 have:=List.length_take_le i xs
 have:(xs.take i).length <= xs.length:=by rw [List.length_take]; omega
 omega
theorem Xg {p:V -> Bool} {f:V -> V}:((xs.take xs.length).filter p).map f = (xs.filter p).map f:=by rw [List.take_length]
theorem jJ (p:V -> Bool) (f:V -> V) (hl:SqL K H a xs) (hlen:xs.length <= 1000)
  (ht:∀ x H' (R:Bool -> Hp -> Prop),x ∈ xs -> Grow [] H H' -> (∀ H2,Grow [] H' H2 -> R (p x) H2) -> tt (σ.set n (some x)) H' R)
  (hs:∀ x H' (R:VK),x ∈ xs -> p x = true -> Grow [] H H' -> (∀ H2,Grow [] H' H2 -> R (f x) H2) -> te (σ.set n (some x)) H' R)
  (hd:∀ H' l,Grow [] H H' -> H' l = none -> Q (.ref l) (upd H' l (.lst ((xs.filter p).map f)))):vw (Itl K a) σ H (wc n) tt te Q:=by
 refine vS (xs:=xs) (fun i ys σ' H'=>Grow [] H H' /\ (σ' = σ \/ ∃ e,σ' = σ.set n e) /\ ys = ((xs.take i).filter p).map f) ⟨Grow.refl _ _,.inl rfl,rfl⟩ ?_ ?_ ?_
 ·rintro i ys σ' H' _ ⟨g,_⟩
  exact g.sqL hl
 ·rintro i x ys σ' H' hx ⟨g,hσ,rfl⟩
  have e:σ'.set n (some x) = σ.set n (some x):=by
   rcases hσ with rfl | ⟨e,rfl⟩
   ·rfl
   ·rw [List.set_set]
  show tt (σ'.set n (some x)) H' _
  rw [e]
  refine ht x H' _ (List.mem_of_getElem? hx) g fun H2 g2=>?_
  by_cases c:p x = true
  ·rw [if_pos c]
   refine hs x H2 _ (List.mem_of_getElem? hx) c (g.trans g2) fun H3 g3=>⟨Xf hlen,(g.trans g2).trans g3,.inr ⟨_,rfl⟩,?_⟩
   rw [sB hx,if_pos c]
  ·rw [if_neg c]
   refine ⟨g.trans g2,.inr ⟨_,rfl⟩,?_⟩
   rw [sB hx,if_neg c,List.append_nil]
 ·rintro ys σ' H' ⟨g,_,rfl⟩ l hl
  rw [Xg]
  exact hd H' l g hl
end
theorem qS {K:FG7} {H:Hp} {x y:V} {d e:Deed} {Q:VK} (hx:yv K H x d) (hy:yv K H y e) (q:Q (.bl (decide (d = e))) H):rEqT K false x y H Q:=by
 obtain ⟨a,rfl,ha⟩:=hx
 obtain ⟨b,rfl,hb⟩:=hy
 exact ⟨a,b,_,_,rfl,rfl,ha,hb,sv _,sv _,by rw [ZB]; exact q⟩
theorem nd {d e:Deed} (h:d = e):(!decide (d = e)) = false:=by rw [decide_eq_true h]; rfl
mutual
inductive Dat (K:FG7) (H:Hp):V -> PyData -> Prop
 | non:Dat K H .non .none
 | bl (b:Bool):Dat K H (.bl b) (.bool b)
 | int (i:Int):Dat K H (.int i) (.int i)
 | tup {a:Addr} {xs:List V} {ds:List PyData}:SqT K H a xs -> DatAll K H xs ds -> Dat K H (.ref a) (.tuple ds)
 | lst {a:Addr} {xs:List V} {ds:List PyData}:SqL K H a xs -> DatAll K H xs ds -> Dat K H (.ref a) (.list ds)
inductive DatAll (K:FG7) (H:Hp):List V -> List PyData -> Prop
 | nil:DatAll K H [] []
 | cons {x:V} {xs:List V} {d:PyData} {ds:List PyData}:Dat K H x d -> DatAll K H xs ds -> DatAll K H (x :: xs) (d :: ds)
end
section
variable {X:Cx} {pins:List (Addr × Obj)} {σ:L2.St} {H:Hp} {s:Shared}
mutual
theorem Dat.reads (I:Inv X pins σ H s):∀ {x:V} {d:PyData} {u:Value},Dat X.K H x d -> RelV x u -> ∃ as,Reads s.heap u d as
 | _,_,u,.non,r=>by
  cases (show u = Value.none from r)
  exact ⟨_,.none⟩
 | _,_,u,.bl b,r=>by
  cases (show u = Value.bool b from r)
  exact ⟨_,.bool b⟩
 | _,_,u,.int i,r=>by
  obtain ⟨t,rfl⟩:=r
  exact ⟨_,.int i t⟩
 | _,_,u,.tup (a:=a) hs hd,r=>by
  cases (show u = Value.ref a from r)
  obtain ⟨its,r1,⟨o,e1,e2,n,e3⟩,_⟩:=I.tuple hs
  obtain ⟨as,q⟩:=DatAll.reads I hd r1
  exact ⟨_,.tuple e1 e2 e3 q⟩
 | _,_,u,.lst (a:=a) hs hd,r=>by
  cases (show u = Value.ref a from r)
  obtain ⟨its,r1,⟨o,n,e1,e2,_,e3⟩,_⟩:=I.list hs
  obtain ⟨as,q⟩:=DatAll.reads I hd r1
  exact ⟨_,.list e1 e2 e3 q⟩
theorem DatAll.reads (I:Inv X pins σ H s):∀ {xs:List V} {ds:List PyData} {us:List Value},DatAll X.K H xs ds -> Vals xs us -> ∃ as,ReadsAll s.heap us ds as
 | _,_,_,.nil,.nil=>⟨_,.nil⟩
 | _,_,_,.cons h t,.cons r rs=>by
  obtain ⟨as,q⟩:=Dat.reads I h r
  obtain ⟨bs,q2⟩:=DatAll.reads I t rs
  exact ⟨_,.cons q q2⟩
end
end
mutual
/-- a bound of the text's length -/
def wtD:PyData -> Nat
 | .list xs | .tuple xs=>wtAll xs + 3
 | .int _=>1921
 | .none | .bool _=>5
 | _=>20000000
def wtAll:List PyData -> Nat
 | []=>0
 | x :: xs=>wtD x + 2 + wtAll xs
end
mutual
theorem shown_wt:∀ {d:PyData},d.showable = true -> d.hasDict = false -> wtD d <= 16777216 -> d.shown.length <= wtD d
 | .none,_,_,_=>by decide
 | .bool b,_,_,_=>by cases b <;> decide
 | .int i,h,_,_=>int_text_len_1921 (of_decide_eq_true h)
 | .str _,_,_,z=>absurd (show 20000000 <= 16777216 from z) (by decide)
 | .list xs,h,h2,z=>by
  have z':wtAll xs + 3 <= 16777216:=z
  have q:=shown_wtAll (xs:=xs) h h2 (by omega)
  have l:=listText_len_le (PyData.shownAll xs)
  show (listText (PyData.shownAll xs)).length <= wtAll xs + 3
  omega
 | .tuple xs,h,h2,z=>by
  have z':wtAll xs + 3 <= 16777216:=z
  have q:=shown_wtAll (xs:=xs) h h2 (by omega)
  have l:=tupleText_len_le (PyData.shownAll xs)
  show (tupleText (PyData.shownAll xs)).length <= wtAll xs + 3
  omega
 | .dict _,_,h,_=>by cases h
theorem shown_wtAll:∀ {xs:List PyData},PyData.showableAll xs = true -> PyData.hasDictAll xs = false -> wtAll xs <= 16777216 -> ((PyData.shownAll xs).map (·.length)).sum + 2 * (PyData.shownAll xs).length <= wtAll xs
 | [],_,_,_=>by decide
 | x :: xs,h,h2,z=>by
  have h':(x.showable && PyData.showableAll xs) = true:=h
  have h2':(x.hasDict || PyData.hasDictAll xs) = false:=h2
  rw [Bool.and_eq_true] at h'
  rw [Bool.or_eq_false_iff] at h2'
  have z':wtD x + 2 + wtAll xs <= 16777216:=z
  have q1:=shown_wt (d:=x) h'.1 h2'.1 (by omega)
  have q2:=shown_wtAll (xs:=xs) h'.2 h2'.2 (by omega)
  show (x.shown.length :: (PyData.shownAll xs).map (·.length)).sum + 2 * ((PyData.shownAll xs).length + 1) <= wtD x + 2 + wtAll xs
  rw [List.sum_cons]
  omega
end
abbrev Span:=Option (Option Int × Option Int)
def Wn (K:FG7) (H:Hp) (x:V):Span -> Prop
 | none=>x = .non
 | some (l,h)=>∃ a,x = .ref a /\ SqT K H a [ov l,ov h]
def sC (o:Option Int):Span:=match o with
 | none=>none
 | some e=>some (some e,some e)
def uG (d:Deed):Span:=if d.add = 0 then some (d.lo,d.hi) else sC (if 0 < d.add then d.hi else d.lo)
def ltO (v:Int):Option Int -> Bool
 | none=>false
 | some l=>decide (v < l)
def gtO (v:Int):Option Int -> Bool
 | none=>false
 | some h=>decide (h < v)
def y7 (d:Deed) (v:Int):Span:=if ltO v d.lo = true then none else if gtO v d.hi = true then none else some (if d.lo = some v then none else some (v - d.add),if d.hi = some v then none else some (v - d.add))
theorem zZ {ad v:Int} {lo hi L G:Option Int} (c1:¬ ltO v lo = true) (c2:¬ gtO v hi = true) (e1:(if lo = some v then none else some (v - ad)) = L) (e2:(if hi = some v then none else some (v - ad)) = G):y7 ⟨ad,lo,hi⟩ v = some (L,G):=by
 subst e1 e2
 exact (if_neg c1).trans (if_neg c2)
def oD:Option Int -> PyData
 | none=>.none
 | some i=>.int i
section
variable {K:FG7} {a:Addr} {xs:List V} {lo:Int} {n k:Nat} {te:TE} {Q:VK} {σ:L2.St} {H:Hp}
theorem qT (Pv:Nat -> List V -> Hp -> Prop) (h0:Pv 0 [] H)
  (hs:∀ i ys H',i < n -> Pv i ys H' -> te (σ.set k (some (.int (lo + i)))) H' fun y H5=>ys.length < sizeLine /\ Pv (i + 1) (ys ++ [y]) H5)
  (hd:∀ ys H',Pv n ys H' -> ∀ l,H' l = none -> Q (.ref l) (upd H' l (.lst ys))):vw (Itr lo n) σ H (wc k) rQ te Q:=by
 refine ⟨fun i m ys σ' H'=>m = n - i /\ i <= n /\ (σ' = σ \/ ∃ e,σ' = σ.set k e) /\ Pv i ys H',⟨n,by simp,Nat.zero_le _,.inl rfl,h0⟩,?_⟩
 rintro i m ys σ' H' ⟨rfl,hi,hσ,p⟩
 by_cases hlt:i < n
 ·refine .inr ⟨hlt,fun zs σ2 H2=>(σ2 = σ \/ ∃ e,σ2 = σ.set k e) /\ Pv (i + 1) zs H2,fun zs σ2 H2 p'=>⟨n - (i + 1),by omega,rfl,hlt,p'.1,p'.2⟩,fun x H2 y=>?_⟩
  obtain ⟨e,y⟩:=y
  subst e y
  have e:σ'.set k (some (V.int (lo + i))) = σ.set k (some (V.int (lo + i))):=by
   rcases hσ with rfl | ⟨e,rfl⟩
   ·rfl
   ·rw [List.set_set]
  show if true = true then te (σ'.set k (some (V.int (lo + i)))) H2 (fun y H5=>ys.length < sizeLine /\ ((σ'.set k (some (V.int (lo + i))) = σ \/ ∃ e,σ'.set k (some (V.int (lo + i))) = σ.set k e) /\ Pv (i + 1) (ys ++ [y]) H5)) else ((σ'.set k (some (V.int (lo + i))) = σ \/ ∃ e,σ'.set k (some (V.int (lo + i))) = σ.set k e) /\ Pv (i + 1) ys H2)
  rw [if_pos rfl,e]
  have e2:(fun (y:V) (H5:Hp)=>ys.length < sizeLine /\ ((σ.set k (some (V.int (lo + i))) = σ \/ ∃ e,σ.set k (some (V.int (lo + i))) = σ.set k e) /\ Pv (i + 1) (ys ++ [y]) H5)) = fun y H5=>ys.length < sizeLine /\ Pv (i + 1) (ys ++ [y]) H5:=by
   funext y H5
   exact propext ⟨fun z=>⟨z.1,z.2.2⟩,fun z=>⟨z.1,.inr ⟨_,rfl⟩,z.2⟩⟩
  rw [e2]
  exact hs i ys H2 hlt p
 ·have e:i = n:=by omega
  subst e
  exact .inl ⟨Nat.le_refl _,hd ys H' p⟩
theorem jK (Pv:Nat -> List V -> Hp -> Prop) (h0:Pv 0 [] H) (hl:∀ i ys H',Pv i ys H' -> SqL K H' a xs)
  (hs:∀ i x ys H',xs[i]? = some x -> Pv i ys H' -> te (σ.set k (some x)) H' fun y H5=>ys.length < sizeLine /\ Pv (i + 1) (ys ++ [y]) H5)
  (hd:∀ ys H',Pv xs.length ys H' -> ∀ l,H' l = none -> Q (.ref l) (upd H' l (.lst ys))):vw (Itl K a) σ H (wc k) rQ te Q:=by
 refine vS (xs:=xs) (fun i ys σ' H'=>(σ' = σ \/ ∃ e,σ' = σ.set k e) /\ Pv i ys H') ⟨.inl rfl,h0⟩ (fun i ys σ' H' _ p=>hl i ys H' p.2) ?_ (fun ys σ' H' p l hl=>hd ys H' p.2 l hl)
 rintro i x ys σ' H' hx ⟨hσ,p⟩
 have e:σ'.set k (some x) = σ.set k (some x):=by
  rcases hσ with rfl | ⟨e,rfl⟩
  ·rfl
  ·rw [List.set_set]
 show if true = true then te (σ'.set k (some x)) H' (fun y H5=>ys.length < sizeLine /\ ((σ'.set k (some x) = σ \/ ∃ e,σ'.set k (some x) = σ.set k e) /\ Pv (i + 1) (ys ++ [y]) H5)) else ((σ'.set k (some x) = σ \/ ∃ e,σ'.set k (some x) = σ.set k e) /\ Pv (i + 1) ys H')
 rw [if_pos rfl,e]
 have e2:(fun (y:V) (H5:Hp)=>ys.length < sizeLine /\ ((σ.set k (some x) = σ \/ ∃ e,σ.set k (some x) = σ.set k e) /\ Pv (i + 1) (ys ++ [y]) H5)) = fun y H5=>ys.length < sizeLine /\ Pv (i + 1) (ys ++ [y]) H5:=by
  funext y H5
  exact propext ⟨fun z=>⟨z.1,z.2.2⟩,fun z=>⟨z.1,.inr ⟨_,rfl⟩,z.2⟩⟩
 rw [e2]
 exact hs i x ys H' hx p
end
theorem Grow.fresh {m:List Addr} {H H':Hp} (h:∀ b ∈ m,H b = none) (g:Grow m H H'):Grow [] H H' :=
 ⟨fun b o _ q=>g.keep b o (fun z=>by rw [h b z] at q; cases q) q,g.tup,g.frz⟩
theorem Grow.less {m m':List Addr} {H H':Hp} (g:Grow m H H') (h:∀ b ∈ m,b ∈ m' \/ H b = none):Grow m' H H' :=
 ⟨fun b o n q=>g.keep b o (fun z=>by
  rcases h b z with w | w
  ·exact n w
  ·rw [w] at q; cases q) q,g.tup,g.frz⟩
theorem Pot.ne {H:Hp} {a l:Addr} (p:Pot H a) (h:H l = none):l ∉ [a]:=by
 intro z
 obtain ⟨z0,z1,hz,_⟩:=p
 rw [List.mem_singleton.mp z,hz] at h
 cases h
theorem W1 {n:Nat} {i:Int} (h0:0 <= i) (h:i.toNat < n):ixN n i = some i.toNat:=by
 unfold ixN; rw [if_pos h0,if_pos (by omega)]
theorem Tv {xs:List V} {i:Int} {j:Nat} {v:V} (h:ixN xs.length i = some j) (hv:xs[j]? = some v):atI xs i = some v:=by
 unfold atI; rw [h]; exact hv
structure Ask where
 hand:Int
 box:Int
 deed:Deed
def ZG (K:FG7) (H:Hp) (x:V) (k:Ask):Prop:=∃ r rd,x = .ref r /\ SqT K H r [.int k.hand,.int k.box,.ref rd] /\ SqT K H rd k.deed.vs
def AllA (K:FG7) (H:Hp):List V -> List Ask -> Prop
 | [],[]=>True
 | x :: xs,k :: ks=>ZG K H x k /\ AllA K H xs ks
 | _,_=>False
def we (K:FG7) (H:Hp) (x:V) (b:List Int):Prop:=∃ r,x = .ref r /\ SqT K H r (b.map V.int)
theorem Grow.ask {m:List Addr} {H H':Hp} (g:Grow m H H') {K:FG7} {x:V} {k:Ask} (h:ZG K H x k):ZG K H' x k:=by
 obtain ⟨r,rd,e,h1,h2⟩:=h
 exact ⟨r,rd,e,g.sqT h1,g.sqT h2⟩
theorem Grow.board {m:List Addr} {H H':Hp} (g:Grow m H H') {K:FG7} {x:V} {b:List Int} (h:we K H x b):we K H' x b:=by
 obtain ⟨r,e,h1⟩:=h
 exact ⟨r,e,g.sqT h1⟩
theorem AllA.len {K:FG7} {H:Hp}:∀ {xs:List V} {ks:List Ask},AllA K H xs ks -> xs.length = ks.length
 | [],[],_=>rfl
 | _ :: xs,_ :: ks,⟨_,t⟩=>congrArg (· + 1) (AllA.len t)
 | [],_ :: _,h=>h.elim
 | _ :: _,[],h=>h.elim
theorem AllA.get {K:FG7} {H:Hp}:∀ {xs:List V} {ks:List Ask} {i:Nat} {x:V},AllA K H xs ks -> xs[i]? = some x -> ∃ k,ks[i]? = some k /\ ZG K H x k
 | _ :: _,k :: _,0,x,⟨h,_⟩,e=>by
  obtain rfl:=Option.some.inj e
  exact ⟨k,rfl,h⟩
 | _ :: _,_ :: _,i + 1,x,⟨_,t⟩,e=>AllA.get (i:=i) t e
 | [],[],i,x,_,e=>by cases e
 | [],_ :: _,_,_,h,_=>h.elim
 | _ :: _,[],_,_,h,_=>h.elim
theorem AllA.snoc {K:FG7} {H:Hp}:∀ {xs:List V} {ks:List Ask} {x:V} {k:Ask},AllA K H xs ks -> ZG K H x k -> AllA K H (xs ++ [x]) (ks ++ [k])
 | [],[],_,_,_,h=>⟨h,trivial⟩
 | _ :: _,_ :: _,_,_,⟨h,t⟩,q=>⟨h,AllA.snoc t q⟩
 | [],_ :: _,_,_,h,_=>h.elim
 | _ :: _,[],_,_,h,_=>h.elim
theorem W3 {xs:List Int} {i:Nat} (h:i < xs.length):xs[i]? = some (xs.getD i 0):=by
 rw [List.getD_eq_getElem?_getD,List.getElem?_eq_getElem h]; rfl
def InB (B:Int) (xs:List Int):Prop:=∀ v ∈ xs,-B < v /\ v < B
def vT (d:Deed):PyData:=.tuple [.int d.add,oD d.lo,oD d.hi]
def Sh (d:PyData) (w n:Nat):Prop:=d.showable = true /\ d.hasDict = false /\ wtD d <= w /\ d.depth <= n
theorem Sh.mono {d:PyData} {w w' n n':Nat} (h:Sh d w n) (h1:w <= w') (h2:n <= n'):Sh d w' n':=⟨h.1,h.2.1,Nat.le_trans h.2.2.1 h1,Nat.le_trans h.2.2.2 h2⟩
theorem InB.mono {B C:Int} {xs:List Int} (h:InB B xs) (hC:B <= C):InB C xs:=fun v hv=>by have:=h v hv; omega
inductive Tr where
 | leaf (n:Int)
 | node (l r:Tr)
def Tr.ht:Tr -> Nat
 | .leaf _=>0
 | .node l r=>max l.ht r.ht + 1
def Tr.wt:Tr -> Nat
 | .leaf _=>1
 | .node l r=>l.wt + r.wt + 1
def AllR {α:Type} (R:V -> α -> Prop):List V -> List α -> Prop
 | [],[]=>True
 | x :: xs,k :: ks=>R x k /\ AllR R xs ks
 | _,_=>False
section
variable {α:Type} {R S:V -> α -> Prop}
theorem AllR.imp (h:∀ x k,R x k -> S x k):∀ {xs:List V} {ks:List α},AllR R xs ks -> AllR S xs ks
 | [],[],_=>trivial
 | _ :: _,_ :: _,⟨a,t⟩=>⟨h _ _ a,AllR.imp h t⟩
 | [],_ :: _,z=>z.elim
 | _ :: _,[],z=>z.elim
theorem AllR.len:∀ {xs:List V} {ks:List α},AllR R xs ks -> xs.length = ks.length
 | [],[],_=>rfl
 | _ :: xs,_ :: ks,⟨_,t⟩=>congrArg (· + 1) (AllR.len t)
 | [],_ :: _,h=>h.elim
 | _ :: _,[],h=>h.elim
theorem AllR.get:∀ {xs:List V} {ks:List α} {i:Nat} {x:V},AllR R xs ks -> xs[i]? = some x -> ∃ k,ks[i]? = some k /\ R x k
 | _ :: _,k :: _,0,x,⟨h,_⟩,e=>by
  obtain rfl:=Option.some.inj e
  exact ⟨k,rfl,h⟩
 | _ :: _,_ :: _,i + 1,x,⟨_,t⟩,e=>AllR.get (i:=i) t e
 | [],[],i,x,_,e=>by cases e
 | [],_ :: _,_,_,h,_=>h.elim
 | _ :: _,[],_,_,h,_=>h.elim
theorem AllR.app:∀ {xs ys:List V} {ks js:List α},AllR R xs ks -> AllR R ys js -> AllR R (xs ++ ys) (ks ++ js)
 | [],_,[],_,_,h=>h
 | _ :: _,_,_ :: _,_,⟨h,t⟩,q=>⟨h,AllR.app t q⟩
 | [],_,_ :: _,_,h,_=>h.elim
 | _ :: _,_,[],_,h,_=>h.elim
theorem AllR.one {x:V} {k:α} (h:R x k):AllR R [x] [k]:=⟨h,trivial⟩
theorem AllR.take:∀ {xs:List V} {ks:List α} {n:Nat},AllR R xs ks -> AllR R (xs.take n) (ks.take n)
 | [],[],n,_=>by rw [List.take_nil,List.take_nil]; trivial
 | _ :: _,_ :: _,0,_=>trivial
 | _ :: _,_ :: _,n + 1,⟨h,t⟩=>⟨h,AllR.take t⟩
 | [],_ :: _,_,h=>h.elim
 | _ :: _,[],_,h=>h.elim
end
def look:Deed:=⟨0,none,none⟩
def Uj (ds:List Deed):Prop:=∀ d ∈ ds,d.Ok
def runD (ds:List Deed):Deed:=ds.foldl Ue look
theorem AllR.drop {α:Type} {R:V -> α -> Prop}:∀ {xs:List V} {ks:List α} {n:Nat},AllR R xs ks -> AllR R (xs.drop n) (ks.drop n)
 | [],[],n,_=>by rw [List.drop_nil,List.drop_nil]; trivial
 | _ :: _,_ :: _,0,h=>h
 | _ :: _,_ :: _,n + 1,⟨h,t⟩=>AllR.drop (n:=n) t
 | [],_ :: _,_,h=>h.elim
 | _ :: _,[],_,h=>h.elim
theorem AllR.cut {α:Type} {R:V -> α -> Prop} {xs:List V} {ks:List α} (h:AllR R xs ks) (lo hi:Option Int):∃ us,AllR R (cutV xs lo hi) us /\ ∀ u ∈ us,u ∈ ks:=by
 unfold cutV
 exact ⟨_,(h.drop (n:=HT.sIx xs.length 0 lo)).take (n:=HT.sIx xs.length xs.length hi - HT.sIx xs.length 0 lo),fun u hu=>List.mem_of_mem_drop (List.mem_of_mem_take hu)⟩
def ZH (K:FG7) (H:Hp) (x:V) (rows:List (List Int)):Prop:=∃ r xs,x = .ref r /\ SqT K H r xs /\ AllR (we K H) xs rows
theorem Grow.boardsR {m:List Addr} {H H':Hp} (g:Grow m H H') {K:FG7} {xs:List V} {rows:List (List Int)} (h:AllR (we K H) xs rows):AllR (we K H') xs rows:=h.imp fun _ _ z=>g.board z
theorem Grow.rows {m:List Addr} {H H':Hp} (g:Grow m H H') {K:FG7} {x:V} {rows:List (List Int)} (h:ZH K H x rows):ZH K H' x rows:=by
 obtain ⟨r,xs,e,h1,h2⟩:=h
 exact ⟨r,xs,e,g.sqT h1,g.boardsR h2⟩
def Rng (m:Int) (xs:List Int):Prop:=∀ v ∈ xs,0 <= v /\ v < m
def Tx (R M:Nat) (rows:List (List Int)):Prop:=rows.length = R /\ ∀ row ∈ rows,row.length = M /\ Rng M row
theorem getI {xs:List Int} {i:Int} (h0:0 <= i) (h:i < xs.length):atI (xs.map V.int) i = some (V.int (xs.getD i.toNat 0)):=by
 have hj:i.toNat < xs.length:=by omega
 exact Tv (W1 h0 (by rw [List.length_map]; exact hj)) (by rw [List.getElem?_map,W3 hj]; rfl)
structure Fd (R:Nat) (tab:List (List Int)) (ns:List Int):Prop where
 tab:Tx R R tab
 ns:Rng R ns
section
variable {prog:Program} {w:World} {A:Around} {E:VS7} {s:Shared}
theorem rS {jt t:Addr} {i:Nat} {vs:Array Value} {v:Value} {Q:VS7} (hit:s.heap.IsTupleIter jt t i) (ht:s.heap.IsTuple t vs) (hv:vs[i]? = some v)
  (hQ:∀ h',h'.IsTupleIter jt t (i + 1) -> Heap.SameBut jt s.heap h' -> Q v { s with heap:=h' }):wpAny (model prog w) A (Builtin.SmallTypes.nextOf (.ref jt)) Q E s:=by
 obtain ⟨oj,hoj,cj,dj⟩:=id hit
 obtain ⟨ot,hot,_,nt,dt⟩:=ht
 unfold Builtin.SmallTypes.nextOf
 refine wpAny_bind (wpAny_callSpecial?_slot (name:=Str.ofString "__next__") hit.typeIs F.slot_tuple_iterator_next (wpAny_call_entry F.slot_tuple_iterator_next hit.typeIs F.entry_tuple_iterator_next ?_ (F.args_tuple_iterator_next_1 _)))
 show wpAny _ _ (field (.ref jt) 0 >>= _) _ _ s
 refine wpAny_bind (wpAny_field hoj dj (x:=.ref t) rfl ?_); show wpAny _ _ (if (Value.ref t == Value.none) = true then _ else _) _ _ s
 rw [if_neg (show ¬ ((Value.ref t == Value.none) = true) by exact Bool.false_ne_true)]; show wpAny _ _ (field (.ref jt) 1 >>= _) _ _ s
 refine wpAny_bind (wpAny_field hoj dj (x:=.int i 0) rfl ?_); show wpAny _ _ (seqItems? (.ref t) >>= _) _ _ s
 refine wpAny_bind (wpAny_seqItems hot dt ?_); simp only [Int.toNat_natCast,hv]
 refine wpAny_bind (wpAny_setField hoj dj (by simp) (wpAny_pure ⟨v,rfl,wpAny_pure (hQ _ ⟨_,Heap.get?_update_self _ hoj (Obj.isFreed_of_fields (Obj.data_mapFields dj _)),(Obj.cls_mapFields ..).trans cj,by rw [Obj.data_mapFields dj]; simp [rawInt]⟩ (Heap.SameBut.update ..))⟩))
theorem uH {jt t:Addr} {i:Nat} {vs:Array Value} {Q:VS7} (hh:A.handled = none) (hit:s.heap.IsTupleIter jt t i) (ht:s.heap.IsTuple t vs) (hv:vs[i]? = none)
  (hE:∀ h' e,Heap.ExtBut jt s.heap h' -> (∃ o,h'.get? e = some o /\ o.cls = .type "StopIteration") -> E (.ref e) { s with heap:=h' }):wpAny (model prog w) A (Builtin.SmallTypes.nextOf (.ref jt)) Q E s:=by
 obtain ⟨oj,hoj,cj,dj⟩:=id hit
 obtain ⟨ot,hot,_,nt,dt⟩:=ht
 unfold Builtin.SmallTypes.nextOf
 refine wpAny_bind (wpAny_callSpecial?_slot (name:=Str.ofString "__next__") hit.typeIs F.slot_tuple_iterator_next (wpAny_call_entry F.slot_tuple_iterator_next hit.typeIs F.entry_tuple_iterator_next ?_ (F.args_tuple_iterator_next_1 _)))
 show wpAny _ _ (field (.ref jt) 0 >>= _) _ _ s
 refine wpAny_bind (wpAny_field hoj dj (x:=.ref t) rfl ?_); show wpAny _ _ (if (Value.ref t == Value.none) = true then _ else _) _ _ s
 rw [if_neg (show ¬ ((Value.ref t == Value.none) = true) by exact Bool.false_ne_true)]; show wpAny _ _ (field (.ref jt) 1 >>= _) _ _ s
 refine wpAny_bind (wpAny_field hoj dj (x:=.int i 0) rfl ?_); show wpAny _ _ (seqItems? (.ref t) >>= _) _ _ s
 refine wpAny_bind (wpAny_seqItems hot dt ?_); simp only [Int.toNat_natCast,hv]
 refine wpAny_bind (wpAny_rule (wpAny_bind (wpAny_setField hoj dj (by simp) ?_))); show wpAny _ _ (newExc (.type "StopIteration") [] >>= _) _ _ _
 refine wpAny_bind ?_; simp only [newExc,newTuple]
 refine wpAny_bind (wpAny_newObj_type ?_ (by size_fits)); refine wpAny_bind (m:=firstArgMember _ _) (wpAny_of_eq (a:=Value.none) (by first | rfl | (simp only [firstArgMember]; rfl)) ?_)
 refine wpAny_newObj_type ?_ (by size_fits); simp only [raiseNew]
 refine wpAny_bind (wpAny_handled ?_); (first | rw [show A.in1.handled = none from hh] | rw [hh])
 exact wpAny_bind (wpAny_pure (wpAny_throw (hE _ _ (((Heap.SameBut.update ..).extBut.push _).push _) ⟨_,Heap.get?_push_size _ rfl,rfl⟩)))
end
theorem ZI {prog:Program} {w:World} {A:Around} (hh:A.handled = none) (jt t:Addr) (hne:t ≠ jt) (vs:Array Value) :
  Draws prog w A jt [jt,t] vs.size (fun i v=>vs[i]? = some v) (fun i h=>h.IsTupleIter jt t i /\ h.IsTuple t vs) where
 live:=fun _ _ st=>let ⟨o,ho,_⟩:=st.1; ⟨o,ho⟩
 frame:=fun _ _ _ st hk=>⟨st.1.at (hk jt (by simp)),st.2.at (hk t (by simp))⟩
 item:=fun i s Q E hi st hQ=>rS st.1 st.2 (v:=vs[i]) (by simp [hi]) fun h' hit' hs'=>hQ _ h' s.toks (by simp [hi]) ⟨hit',st.2.extBut hs'.extBut hne⟩ hs'
 done:=fun s Q E st hE=>uH hh st.1 st.2 (by simp) hE
theorem ZJ {prog:Program} {w:World} {A:Around} (hh:A.handled = none) (jt t:Addr) (vs:Array Value) {i:Nat} (hv:vs[i]? = none) :
  Draws prog w A jt [jt,t] i (fun _ _=>True) (fun j h=>j = i /\ h.IsTupleIter jt t i /\ h.IsTuple t vs) where
 live:=fun _ _ st=>let ⟨o,ho,_⟩:=st.2.1; ⟨o,ho⟩
 frame:=fun _ _ _ st hk=>⟨st.1,st.2.1.at (hk jt (by simp)),st.2.2.at (hk t (by simp))⟩
 item:=fun j s Q E hj st hQ=>absurd st.1 (Nat.ne_of_lt hj)
 done:=fun s Q E st hE=>uH hh st.2.1 st.2.2 hv hE
section
variable {X:Cx} {pins:List (Addr × Obj)} {σ:L2.St} {H:Hp} {s:Shared} {h':Heap}
theorem ZK {fp:List Addr} {t':Nat} (I:Inv X pins σ H s) (k:∀ b o,b ∉ fp -> s.heap.get? b = some o -> h'.get? b = some o) (ff:∀ b ∈ fp,FpOk X pins H b):Inv X pins σ H { s with heap:=h',toks:=t' }:=by
 have nit:∀ b u,H b = some u -> b ∉ fp:=fun b u e z=>by rw [(ff b z).1] at e; cases e
 refine I.step (g':=s.gens) (d':=s.drawn) (ch:=fp) (fun b hb=>?_) (fun b o _ _ hc e _=>k b o hc e) (fun b o _ _ hc e _=>⟨o.slots,k b o hc e⟩) (fun _ _ _ _ n=>n) (fun b o hc e=>⟨o,k b o hc e⟩) (fun _ _ e=>e) (fun _ _ _ e=>e) (fun b ps e=>⟨#[],by rw [e]; simp⟩) (fun m hm=>?_) (fun b u e=>?_) I.bare
 ·obtain ⟨_,f1,_,f3,f4,f5⟩:=ff b hb
  exact ⟨f3,f1,f4,f5⟩
 ·obtain ⟨o,es,ep,ho,r⟩:=hm
  exact ⟨o,es,ep,k _ o (fun z=>(ff _ z).2.1 rfl) ho,r⟩
 ·refine (I.hok b u e).stay (fun c v hc q=>k c v ?_ q) (fun _ q=>q) fun _ _ q=>q
  rcases hc with z | z
  ·rw [z]; exact nit b u e
  ·exact nit c _ z
theorem Xh {fp:List Addr} {T:Addr} {o:HO} {t':Nat} (I:Inv X pins σ H s) (k:∀ b o,b ∉ fp -> s.heap.get? b = some o -> h'.get? b = some o) (ff:∀ b ∈ fp,FpOk X pins H b) (hT:s.heap.objs.size <= T)
  (new:yf X.prog X.w (upd H T o) h' T o):Inv X pins σ (upd H T o) { s with heap:=h',toks:=t' }:=by
 have hn:H T = none:=I.hok.fresh hT
 have I1:Inv X pins σ H { s with heap:=h',toks:=t' }:=ZK I k ff
 have hok:HOk X.prog X.w (upd H T o) h':=HOk.track I1.hok hn new
 refine I.step (g':=s.gens) (d':=s.drawn) (ch:=fp) (fun b hb=>?_) (fun b o _ _ hc e _=>k b o hc e) (fun b o _ _ hc e _=>⟨o.slots,k b o hc e⟩) (fun b u _ e n=>by rw [zB (Nat.ne_of_lt (Nat.lt_of_lt_of_le (Heap.lt_size e) hT))]; exact n) (fun b o hc e=>⟨o,k b o hc e⟩)
  (fun b xs e=>by rw [zB (zt e hn)]; exact e) (fun b u xs e=>by rw [zB (zt e hn)]; exact e) (fun b ps e=>⟨#[],by rw [zB (zt e hn),e]; simp⟩) (fun m hm=>?_) hok I.bare
 ·obtain ⟨_,f1,_,f3,f4,f5⟩:=ff b hb
  exact ⟨f3,f1,f4,f5⟩
 ·obtain ⟨o,es,ep,ho,r⟩:=hm
  exact ⟨o,es,ep,k _ o (fun z=>(ff _ z).2.1 rfl) ho,r⟩
end
theorem Ty {ds:List Deed} {i:Nat} (h:i < ds.length):ds[i]? = some (ds.getD i look):=by
 rw [List.getD_eq_getElem?_getD,List.getElem?_eq_getElem h]; rfl
def Tz (j:Int) (ks:List Ask):List Deed:=(ks.filter fun k=>decide (k.box = j)).map Ask.deed
structure GInv (b:List Int) (ks:List Ask) (g:List Deed × List Deed) (p:List Int × List Int):Prop where
 l1:g.1.length = b.length
 l2:g.2.length = ks.length
 p1:p.1.length = ks.length
 p2:p.2.length = b.length
 bd1:∀ d ∈ g.1,d.Ok /\ d.Bd (ks.length * 10 ^ 30)
 bd2:∀ d ∈ g.2,d.Ok /\ d.Bd (ks.length * 10 ^ 30)
 run:∀ j:Nat,j < b.length -> g.1.getD j look = runD (Tz j ks)
 val:∀ j:Nat,j < b.length -> p.2.getD j 0 = (g.1.getD j look).mk' (b.getD j 0)
 ans:∀ i k,ks[i]? = some k -> p.1.getD i 0 = (g.2.getD i look).mk' (b.getD k.box.toNat 0)
theorem AllR.set {α:Type} {R:V -> α -> Prop} {x:V} {k:α} (h:R x k):∀ {xs:List V} {ks:List α} {n:Nat},AllR R xs ks -> AllR R (xs.set n x) (ks.set n k)
 | [],[],n,_=>by cases n <;> trivial
 | _ :: _,_ :: _,0,⟨_,t⟩=>⟨h,t⟩
 | _ :: _,_ :: _,n + 1,⟨a,t⟩=>⟨a,AllR.set h t⟩
 | [],_ :: _,_,z=>z.elim
 | _ :: _,[],_,z=>z.elim
def figI (k st l:Int):Int:=Builtin.bitAnd (l / 2 ^ (k - st).toNat) 1
def wfI (k st l w:Int):Int:=Builtin.bitXor l (Builtin.bitXor (figI k st l) w * 2 ^ (k - st).toNat)
def swI (k st l:Int):Int:=Builtin.bitOr (l / 2 ^ (k - st + 1).toNat * 2 ^ (k - st).toNat) (Builtin.bitAnd l (1 * 2 ^ (k - st).toNat - 1))
def jL (k n:Int):List Int:=(List.range k.toNat).map fun i:Nat=>Builtin.bitAnd (n / 2 ^ (k - 1 - (0 + (i:Int))).toNat) 1
def numL (xs:List Int):Int:=xs.foldl (fun f o=>2 * f + o) 0
def W4 (k h g:Int) (n:Nat):Int:=numL ((jL k g).take n ++ (jL k h).drop n)
def W5 (k l:Int) (st:Nat):Int:=numL ((jL k l).take (st - 1) ++ (jL k l).drop st)
theorem Wo {i j:Int} (h:-(2 ^ 60) < i /\ i < 2 ^ 60):IntMulOk i j:=PySem.IntMulOk.of_left (Nat.le_trans ((PySem.intBits_le_iff (m:=60)).mpr (by obtain ⟨a,b⟩:=h; omega)) (by decide))
abbrev lc2 (elt t0 i0 t1 i1:Expr) (ifs:List Expr) (scope:Scope) (pos:Pos):Expr:=.ListComp elt [⟨t0,i0,[],0⟩,⟨t1,i1,ifs,0⟩] scope pos
section
variable {prog:Program} {w:World} {A:Around} {R:Result -> Shared -> Prop} {s:Shared}
variable {elt t0 i0 t1 i1:Expr} {ifs:List Expr} {scope:Scope} {pos:Pos} {it acc:Value} {env:Env}
theorem W6:compTurn (lc2 elt t0 i0 t1 i1 ifs scope pos) 0 it acc env = (do
      standAt i0.pos
      match ← pyNext it with
      | none=>pure (.done .next)
      | some u =>
        letOwnedTupleGo t0 it u
        assign t0 env u
        let mut ko:=true
        for d in ([]:List Expr) do
          if ko then ko ← isTrue d env (eval d env)
        if ko then
          let y ← eval i1 env
          standAt i1.pos
          let y ← foldedSetIterable i1 env y
          let _ ← runOwn (.compStart (lc2 elt t0 i0 t1 i1 ifs scope pos) 1 (← holding [y] (pyIter y)) acc env) env
        again (.compLoop (lc2 elt t0 i0 t1 i1 ifs scope pos) 0 it acc env)):=by rfl
theorem W7:compTurn (lc2 elt t0 i0 t1 i1 ifs scope pos) 1 it acc env = (do
      standAt i1.pos
      match ← pyNext it with
      | none=>pure (.done .next)
      | some u =>
        letOwnedTupleGo t1 it u
        assign t1 env u
        let mut ko:=true
        for d in ifs do
          if ko then ko ← isTrue d env (eval d env)
        if ko then
          (do let _ ← call (.builtin "list.append") [acc,← eval elt env])
        again (.compLoop (lc2 elt t0 i0 t1 i1 ifs scope pos) 1 it acc env)):=by rfl
def noX:VS7:=fun _ _=>False
theorem W8 (I:Nat -> Shared -> Prop)
  (turn:∀ n s,I n s -> wpAny (model prog w) A (pyNext it) (fun r s₁=>match r with
   | none=>R (.ok .next) s₁
   | some v=>wpAny (model prog w) A (letOwnedTupleGo t1 it v) (fun _ s₂=>wpAny (model prog w) A (assign t1 env v) (fun _ s₃ =>
     wpAny (model prog w) A (forIn ifs true fun c r=>if r = true then do let ok ← isTrue c env (eval c env); pure (ForInStep.yield ok) else pure (ForInStep.yield r)) (fun ok s₄ =>
      if ok = true then wpAny (model prog w) A (eval elt env) (fun x s₅=>wpAny (model prog w) A (call (.builtin "list.append") [acc,x]) (fun _ s₆=>∃ m,m < n /\ I m s₆) noX s₅) noX s₄
      else ∃ m,m < n /\ I m s₄) noX s₃) noX s₂) noX s₁) noX s)
  (n:Nat) (h:I n s):codeAny (model prog w) A (.compLoop (lc2 elt t0 i0 t1 i1 ifs scope pos) 1 it acc env) R s:=by
 refine codeAny_loop rfl I (fun n s hI=>?_) n h
 show wpAny _ A ((compTurn (lc2 elt t0 i0 t1 i1 ifs scope pos) 1 it acc env).onRaise (fun x=>do noteFrame x env; theTreesLotGoes x)) _ _ s
 refine wpAny_noted ?_
 rw [W7]
 have no:∀ (E:VS7) (e:Value) (s:Shared),noX e s -> E e s:=fun _ _ _ f=>f.elim
 refine wpAny_bind (wpAny_standAt (wpAny_bind (wpAny_mono (turn n s hI) (fun r s₁ h₁=>?_) (no _))))
 cases r with
 | none=>exact wpAny_pure h₁
 | some v =>
  refine wpAny_bind (wpAny_mono h₁ (fun _ s₂ h₂=>?_) (no _))
  refine wpAny_bind (wpAny_mono h₂ (fun _ s₃ h₃=>wpAny_bind (wpAny_mono h₃ (fun ok s₄ h₄=>?_) (no _))) (no _))
  cases ok with
  | true =>
   simp only [if_true] at h₄ ⊢
   exact wpAny_bind (wpAny_bind (wpAny_mono h₄ (fun x s₅ h₅=>wpAny_bind (wpAny_mono h₅ (fun _ s₆ h₆=>wpAny_pure (wpAny_pure ⟨rfl,h₆⟩)) (no _))) (no _)))
  | false =>
   simp only [Bool.false_eq_true,if_false] at h₄ ⊢
   first
    | exact wpAny_bind (wpAny_pure (wpAny_pure ⟨rfl,h₄⟩))
    | exact wpAny_pure ⟨rfl,h₄⟩
theorem W9 (I:Nat -> Shared -> Prop) (hs:∀ x,foldedSetIterable i1 env x = pure x)
  (turn:∀ n s,I n s -> wpAny (model prog w) A (pyNext it) (fun r s₁=>match r with
   | none=>R (.ok .next) s₁
   | some v=>wpAny (model prog w) A (letOwnedTupleGo t0 it v) (fun _ s₂=>wpAny (model prog w) A (assign t0 env v) (fun _ s₃ =>
     wpAny (model prog w) A (eval i1 env) (fun y s₄=>wpAny (model prog w) A (pyIter y) (fun j s₅ =>
      codeAny (model prog w) A (.compStart (lc2 elt t0 i0 t1 i1 ifs scope pos) 1 j acc env) (fun r s'=>match r with | .ok _=>∃ m,m < n /\ I m s' | .error _=>False) s₅) noX s₄) noX s₃) noX s₂) noX s₁) noX s)
  (n:Nat) (h:I n s):codeAny (model prog w) A (.compLoop (lc2 elt t0 i0 t1 i1 ifs scope pos) 0 it acc env) R s:=by
 refine codeAny_loop rfl I (fun n s hI=>?_) n h
 show wpAny _ A ((compTurn (lc2 elt t0 i0 t1 i1 ifs scope pos) 0 it acc env).onRaise (fun x=>do noteFrame x env; theTreesLotGoes x)) _ _ s
 refine wpAny_noted ?_
 rw [W6]
 have no:∀ (E:VS7) (e:Value) (s:Shared),noX e s -> E e s:=fun _ _ _ f=>f.elim
 refine wpAny_bind (wpAny_standAt (wpAny_bind (wpAny_mono (turn n s hI) (fun r s₁ h₁=>?_) (no _))))
 cases r with
 | none=>exact wpAny_pure h₁
 | some v =>
  refine wpAny_bind (wpAny_mono h₁ (fun _ s₂ h₂=>?_) (no _))
  refine wpAny_bind (wpAny_mono h₂ (fun _ s₃ h₃=>wpAny_bind (wpAny_pure ?_)) (no _))
  simp only [if_true]
  refine wpAny_bind (wpAny_mono h₃ (fun y s₄ h₄=>wpAny_bind (wpAny_standAt (wpAny_bind (wpAny_of_eq (hs y) (wpAny_bind (wpAny_holding (wpAny_mono h₄ (fun j s₅ h₅=>?_) (no _)))))))) (no _))
  refine wpAny_bind (wpAny_runOwn (codeAny_mono h₅ fun r s' hr=>?_))
  cases r with
  | ok f=>first
    | exact wpAny_pure ⟨rfl,hr⟩
    | exact wpAny_pure (wpAny_pure ⟨rfl,hr⟩)
  | error e=>exact hr.elim
theorem Xi (h0:codeAny (model prog w) A (.compLoop (lc2 elt t0 i0 t1 i1 ifs scope pos) 1 it acc env) R s)
  (h:wpAny (model prog w) A (pyIter it) (fun it' s'=>codeAny (model prog w) A (.compLoop (lc2 elt t0 i0 t1 i1 ifs scope pos) 1 it' acc env) R s') noX s) :
  codeAny (model prog w) A (.compStart (lc2 elt t0 i0 t1 i1 ifs scope pos) 1 it acc env) R s:=by
 refine codeAny_of_tree ?_
 show wpAny _ _ ((compStart (lc2 elt t0 i0 t1 i1 ifs scope pos) 1 it acc env).onRaise (fun x=>do noteFrame x env; standAt theWindowsPlace)) _ _ s
 refine wpAny_notedAt ?_
 unfold compStart
 show wpAny _ _ (ask >>= _) _ _ s
 have no:∀ (E:VS7) (e:Value) (s:Shared),noX e s -> E e s:=fun _ _ _ f=>f.elim
 refine wpAny_bind (wpAny_askSetting (wpAny_ite ?_))
 split
 ·first
   | exact wpAny_bind (wpAny_pure (wpAny_pure ⟨rfl,h0⟩))
   | exact wpAny_pure ⟨rfl,h0⟩
 ·first
   | exact wpAny_bind (wpAny_rule (wpAny_bind (wpAny_standAt (wpAny_bind (wpAny_mono h (fun jt s' q=>wpAny_pure ⟨rfl,q⟩) (no _))))))
   | (refine wpAny_bind (wpAny_rule ?_); show wpAny _ _ (standAt i1.pos >>= _) _ _ s; exact wpAny_bind (wpAny_standAt (wpAny_bind (wpAny_mono h (fun jt s' q=>wpAny_pure ⟨rfl,q⟩) (no _)))))
end
def InW (J:It) (ys0:List V) (σ0:L2.St) (H1:Hp) (g:TG) (tt:TT) (te:TE) (Out:List V -> L2.St -> Hp -> Prop):Prop :=
 ∃ W:Nat -> Nat -> List V -> L2.St -> Hp -> Prop,(∃ m,W 0 m ys0 σ0 H1) /\ ∀ i m ys σ' H',W i m ys σ' H' →
  (J.stop i H' /\ Out ys σ' H') ∨
  (J.go i H' /\ ∃ Nn:List V -> L2.St -> Hp -> Prop,(∀ zs σ2 H2,Nn zs σ2 H2 -> ∃ m',m' < m /\ W (i + 1) m' zs σ2 H2) ∧
   ∀ x H2,J.yld i H' x H2 -> g x σ' H2 fun σ2 H3=>tt σ2 H3 fun b H4=>if b = true then te σ2 H4 fun y H5=>ys.length < sizeLine /\ Nn (ys ++ [y]) σ2 H5 else Nn ys σ2 H4)
def ZL (J:It) (σ0:L2.St) (H1:Hp) (g0:TG) (wi1:TI) (g1:TG) (tt:TT) (te:TE) (Q:VK):Prop :=
 ∃ W:Nat -> Nat -> List V -> L2.St -> Hp -> Prop,(∃ m,W 0 m [] σ0 H1) /\ ∀ i m ys σ' H',W i m ys σ' H' →
  (J.stop i H' /\ ∀ l,H' l = none -> Q (.ref l) (upd H' l (.lst ys))) ∨
  (J.go i H' /\ ∃ Nn:List V -> L2.St -> Hp -> Prop,(∀ zs σ2 H2,Nn zs σ2 H2 -> ∃ m',m' < m /\ W (i + 1) m' zs σ2 H2) ∧
   ∀ x H2,J.yld i H' x H2 -> g0 x σ' H2 fun σ2 H3=>wi1 σ2 H3 fun J2 H4=>InW J2 ys σ2 H4 g1 tt te Nn)
def Uk (wi:TI) (sub:List (Option Nat)) (g0:TG) (wi1:TI) (g1:TG) (tt:TT) (te:TE):TE:=fun σ H Q=>wi σ H fun J H1=>ZL J (capt sub σ) H1 g0 wi1 g1 tt te Q
section
variable {Y:Cx} {pins:List (Addr × Obj)} {D it2:Addr} {fp2:List Addr} {tn2:Nat -> Heap -> Prop} {J2:It} {y:Str} {py pos:Pos} {elt t0 i0 i1:Expr} {ifs:List Expr} {scope:Scope} {g1:TG} {tt:TT} {te:TE} {Out:List V -> L2.St -> Hp -> Prop} {W:Nat -> Nat -> List V -> L2.St -> Hp -> Prop} {R:Result -> Shared -> Prop}
theorem Ul (hxe:Y.xe = noX) (hcalm:Y.calm = true) (T:Turn Y.prog Y.w Y.K (.Name y py) J2 fp2 it2 tn2) (hD:∀ H':Hp,H' D = none -> FpOk Y pins H' D) (f2:∀ b ∈ fp2,∀ H':Hp,H' b = none -> FpOk Y pins H' b) (hDf:D ∉ fp2)
  (hg:PG Y (.Name y py) g1) (ht:PIfs Y ifs tt) (he:PE Y elt te)
  (turn:∀ i m ys σ' H',W i m ys σ' H' -> (J2.stop i H' /\ Out ys σ' H') ∨
   (J2.go i H' /\ ∃ Nn:List V -> L2.St -> Hp -> Prop,(∀ zs σ2 H2,Nn zs σ2 H2 -> ∃ m',m' < m /\ W (i + 1) m' zs σ2 H2) ∧
    ∀ x H2,J2.yld i H' x H2 -> g1 x σ' H2 fun σ2 H3=>tt σ2 H3 fun b H4=>if b = true then te σ2 H4 fun y H5=>ys.length < sizeLine /\ Nn (ys ++ [y]) σ2 H5 else Nn ys σ2 H4))
  (hR:∀ (ys:List V) (us:List Value) (k:Nat) (σ':L2.St) (H':Hp) (s':Shared),Inv Y pins σ' H' s' -> H' D = none -> s'.heap.get? D = some { cls:=.type "list",data:=.seq us.toArray k } -> Vals ys us -> ys.length <= sizeLine -> Out ys σ' H' -> R (.ok .next) s')
  (n:Nat) (s:Shared) (h:∃ i ys us k σ' H',Inv Y pins σ' H' s /\ tn2 i s.heap /\ (∀ b ∈ fp2,H' b = none) /\ H' D = none ∧
   s.heap.get? D = some { cls:=.type "list",data:=.seq (us:List Value).toArray k } /\ Vals ys us /\ ys.length <= sizeLine /\ W i n ys σ' H') :
  codeAny (model Y.prog Y.w) Y.A (.compLoop (lc2 elt t0 i0 (.Name y py) i1 ifs scope pos) 1 (.ref it2) (.ref D) Y.env) R s:=by
 refine W8 (fun n s=>∃ i ys us k σ' H',Inv Y pins σ' H' s /\ tn2 i s.heap /\ (∀ b ∈ fp2,H' b = none) /\ H' D = none ∧
   s.heap.get? D = some { cls:=.type "list",data:=.seq (us:List Value).toArray k } /\ Vals ys us /\ ys.length <= sizeLine /\ W i n ys σ' H') ?_ n h
 rintro n s ⟨i,ys,us,k,σ',H',I',st',fr,hn,hy,rv,hz,w'⟩
 obtain ⟨_,dL,dF,dE,dC,dP⟩:=hD H' hn
 have pD:Inv Y (pins ++ [(D,{ cls:=.type "list",data:=.seq us.toArray k })]) σ' H' s:=I'.pins_of fun p hp=>by
  rcases List.mem_append.mp hp with hp | hp
  ·exact I'.pin p (List.mem_append_right _ hp)
  ·rw [List.mem_singleton.mp hp]
   exact ⟨hy,hn,dL,dF,fun v z=>by cases z⟩
 have fpok:∀ {H'':Hp},(∀ b ∈ fp2,H'' b = none) -> ∀ b ∈ fp2,FpOk Y (pins ++ [(D,{ cls:=.type "list",data:=.seq us.toArray k })]) H'' b:=fun hz b hb=>by
  obtain ⟨q0,q1,q2,q3,q4,q5⟩:=f2 b hb _ (hz b hb)
  refine ⟨q0,q1,q2,q3,q4,fun p hp=>?_⟩
  rcases List.mem_append.mp hp with hp | hp
  ·exact q5 p (List.mem_append_left _ hp)
  ·rcases List.mem_append.mp hp with hp | hp
   ·exact q5 p (List.mem_append_right _ hp)
   ·rw [List.mem_singleton.mp hp]; exact fun z=>hDf (by rw [show D = b from z]; exact hb)
 rcases turn i n ys σ' H' w' with ⟨stop,q⟩ | ⟨go,Nn,hN,step⟩
 ·refine thn (T.done Y rfl rfl rfl hcalm i _ s σ' H' noX pD (fpok fr) st' stop) fun r s1 ⟨hr,I1⟩=>?_
  subst hr
  exact hR ys us k σ' H' s1 I1.unpinned hn (I1.pin (D,{ cls:=.type "list",data:=.seq us.toArray k }) (by simp)).1 rv hz q
 ·refine thn (T.item Y rfl rfl rfl hcalm i _ s σ' H' noX pD (fpok fr) st' go) fun r s1 ⟨u,hr,h4⟩=>?_
  subst hr
  refine thn h4 fun _ s2 ⟨x5,H5,I5,r5,y5,st5,fr5⟩=>?_
  have I5':=I5.pinned (fpok fr5) (T.obj _ _ st5)
  have hg5:=hg _ s2 σ' H5 x5 u _ I5' r5 (step x5 H5 y5)
  rw [hxe] at hg5
  refine thn hg5 fun _ s3 ⟨σ6,H6,I6,q6⟩=>?_
  have ht6:=ht _ s3 σ6 H6 _ I6 q6
  rw [hxe] at ht6
  refine thn ht6 fun ok s4 ⟨H7,I7,q7⟩=>?_
  have stay:∀ {σ7:L2.St} {H7:Hp} {s7:Shared},Inv Y (pins ++ [(D,{ cls:=.type "list",data:=.seq us.toArray k })] ++ x8 fp2 s2.heap) σ7 H7 s7 →
    (∀ b ∈ fp2,∀ o,s2.heap.get? b = some o -> s7.heap.get? b = some o) /\ (∀ b ∈ fp2,H7 b = none) /\ H7 D = none /\ s7.heap.get? D = some { cls:=.type "list",data:=.seq us.toArray k }:=fun {σ7 H7 s7} I7=>by
   have d:=I7.pin (D,{ cls:=.type "list",data:=.seq us.toArray k }) (by simp)
   refine ⟨fun b hb o e=>(I7.pin (b,o) (List.mem_append_right _ (List.mem_append_right _ (z9 hb e)))).1,fun b hb=>?_,d.2.1,d.1⟩
   obtain ⟨o,e,_⟩:=T.obj _ _ st5 b hb
   exact (I7.pin (b,o) (List.mem_append_right _ (List.mem_append_right _ (z9 hb e)))).2.1
  cases ok with
  | false =>
   rw [if_neg (by decide)] at q7 ⊢
   obtain ⟨k1,k2,k3,k4⟩:=stay I7
   obtain ⟨m',hm,w7⟩:=hN ys σ6 H7 q7
   exact ⟨m',hm,i + 1,ys,us,k,σ6,H7,I7.unpinned.unpinned,T.keep _ _ _ st5 k1,k2,k3,k4,rv,hz,w7⟩
  | true =>
   rw [if_pos rfl] at q7 ⊢
   have he7:=he _ s4 σ6 H7 _ I7 q7
   rw [hxe] at he7
   refine thn he7 fun v s5 ⟨z8,H8,I8,r8,hl8,n8⟩=>?_
   obtain ⟨k1,k2,k3,k4⟩:=stay I8
   refine wpAny_list_append_plain (l:=D) ⟨k,k4⟩ (fun h' pl sb=>?_) (by rw [List.size_toArray,← rv.length]; exact hz)
   obtain ⟨k',e'⟩:=pl
   obtain ⟨m',hm,w8⟩:=hN _ σ6 H8 n8
   refine ⟨m',hm,i + 1,ys ++ [z8],us ++ [v],k',σ6,H8,?_,T.keep _ _ _ (T.keep _ _ _ st5 k1) fun b hb o e=>sb.extBut b o (fun z=>hDf (by rw [← z]; exact hb)) e,k2,k3,?_,rv.append (.cons r8 .nil),?_,w8⟩
   ·exact (I8.unpinned.unpinned).turned (it:=D) (t':=s5.toks) (h':=h') (fun b o hb e=>sb.extBut b o hb e) k3 dL dE dC dP
   ·rw [e']; simp
   ·rw [List.length_append]; exact hl8
end
section
variable {X:Cx} {pins:List (Addr × Obj)} {σ:L2.St} {H2:Hp} {s₂:Shared} {it:Addr} {fp:List Addr} {tn:Nat -> Heap -> Prop} {J:It} {scope:Scope} {cl:List (Str × Addr)} {N':List Str} {sub:List (Option Nat)}
theorem run2 {C D:Addr} {s₀:Shared} {x y:Str} {px py pos:Pos} {elt i0 i1:Expr} {ifs:List Expr} {g0 g1:TG} {wi1:TI} {tt:TT} {te:TE} {Q:VK} {RR:Value -> Addr -> Result -> Shared -> Prop} {W:Nat -> Nat -> List V -> L2.St -> Hp -> Prop}
  (I:Inv X pins σ H2 s₂) (hcalm:X.calm = true) (T:Turn X.prog X.w X.K (.Name x px) J fp it tn) (f2:∀ b ∈ fp,FpOk X pins H2 b) (hfp:∀ b ∈ fp,b < s₂.heap.objs.size)
  (hs₀:∀ b o,s₂.heap.get? b = some o -> s₀.heap.get? b = some o) (hos:s₀.os = s₂.os) (hD:s₂.heap.objs.size <= D) (hC:s₂.heap.objs.size <= C) (hDC:D ≠ C)
  (hcl1:∀ x c,cl.lookup x = some c -> X.env.cells.lookup x = some c)
  (hg0:PG (cxC X N' scope cl C D fp s₀ H2) (.Name x px) g0) (hi1:PI (cxC X N' scope cl C D fp s₀ H2) (.Name y py) i1 wi1) (hg1:PG (cxC X N' scope cl C D fp s₀ H2) (.Name y py) g1) (ht:PIfs (cxC X N' scope cl C D fp s₀ H2) ifs tt) (he:PE (cxC X N' scope cl C D fp s₀ H2) elt te)
  (hss:∀ v,foldedSetIterable i1 (compEnvC scope cl C X.env) v = pure v)
  (turn:∀ i m ys σ' H',W i m ys σ' H' →
   (J.stop i H' /\ ∀ l,H' l = none -> Q (.ref l) (upd H' l (.lst ys))) ∨
   (J.go i H' /\ ∃ Nn:List V -> L2.St -> Hp -> Prop,(∀ zs σ2 H2,Nn zs σ2 H2 -> ∃ m',m' < m /\ W (i + 1) m' zs σ2 H2) ∧
    ∀ x H2,J.yld i H' x H2 -> g0 x σ' H2 fun σ2 H3=>wi1 σ2 H3 fun J2 H4=>InW J2 ys σ2 H4 g1 tt te Nn))
  (hRR:∀ (D C:Addr) (oC:Obj) (m:Str -> Option Value) (s':Shared) (Hf:Hp),Inv X (pins ++ [(C,oC)]) σ Hf s' -> s'.heap.Ns C m -> FpOk X pins Hf C -> Q (.ref D) Hf -> RR (.ref D) C (.ok .next) s')
  (n:Nat) (s:Shared) (h:∃ i ys us k σ' H',Inv (cxC X N' scope cl C D fp s₀ H2) pins σ' H' s /\ tn i s.heap /\ (∀ b ∈ fp,H' b = none) /\ H' D = none ∧
   s.heap.get? D = some { cls:=.type "list",data:=.seq (us:List Value).toArray k } /\ Vals ys us /\ ys.length <= sizeLine /\ W i n ys σ' H') :
  codeAny (model X.prog X.w) X.A (.compLoop (lc2 elt (.Name x px) i0 (.Name y py) i1 ifs scope pos) 0 (.ref it) (.ref D) (compEnvC scope cl C X.env)) (RR (.ref D) C) s:=by
 have frsz:∀ b ∈ frs X.stack,b < s₂.heap.objs.size:=fun b hb=>by
  rcases List.mem_cons.mp (I.stkSub b hb) with z | z
  ·rw [z]; exact I.lt
  ·exact Nat.lt_of_not_le fun q=>I.nofs q z
 have cells:∀ x c,cl.lookup x = some c -> c < s₂.heap.objs.size:=fun x c e=>let ⟨v,q⟩:=I.cell x c (hcl1 x c e); q.lt
 have pinsz:∀ p ∈ X.pn ++ pins,p.1 < s₂.heap.objs.size:=fun p hp=>Heap.lt_size (I.pin p hp).1
 refine W9 (fun n s=>∃ i ys us k σ' H',Inv (cxC X N' scope cl C D fp s₀ H2) pins σ' H' s /\ tn i s.heap /\ (∀ b ∈ fp,H' b = none) /\ H' D = none ∧
   s.heap.get? D = some { cls:=.type "list",data:=.seq (us:List Value).toArray k } /\ Vals ys us /\ ys.length <= sizeLine /\ W i n ys σ' H') hss ?_ n h
 rintro n s ⟨i,ys,us,k,σ',H',I',st',fr,hn,hy,rv,hz,w'⟩
 have pD:Inv (cxC X N' scope cl C D fp s₀ H2) (pins ++ [(D,{ cls:=.type "list",data:=.seq us.toArray k })]) σ' H' s:=I'.pins_of fun p hp=>by
  rcases List.mem_append.mp hp with hp | hp
  ·exact I'.pin p (List.mem_append_right _ hp)
  ·rw [List.mem_singleton.mp hp]
   exact ⟨hy,hn,hDC,fun z=>absurd (Nat.lt_of_lt_of_le (frsz _ z) hD) (Nat.lt_irrefl _),fun v z=>by cases z⟩
 have fpok:∀ {H'':Hp},(∀ b ∈ fp,H'' b = none) -> ∀ b ∈ fp,FpOk (cxC X N' scope cl C D fp s₀ H2) (pins ++ [(D,{ cls:=.type "list",data:=.seq us.toArray k })]) H'' b:=fun hz b hb=>by
  refine ⟨hz b hb,Nat.ne_of_lt (Nat.lt_of_lt_of_le (hfp b hb) hC),fun z=>?_,.inl (List.mem_cons_of_mem _ hb),fun x c e=>(f2 b hb).2.2.2.2.1 x c (hcl1 x c e),fun p hp=>?_⟩
  ·rcases List.mem_cons.mp (I.stkSub b z) with z | z
   ·exact (f2 b hb).2.1 z
   ·exact (f2 b hb).2.2.1 z
  ·rcases List.mem_append.mp hp with hp | hp
   ·exact (f2 b hb).2.2.2.2.2 p (List.mem_append_left _ hp)
   ·rcases List.mem_append.mp hp with hp | hp
    ·exact (f2 b hb).2.2.2.2.2 p (List.mem_append_right _ hp)
    ·rw [List.mem_singleton.mp hp]
     exact Nat.ne_of_gt (Nat.lt_of_lt_of_le (hfp b hb) hD)
 rcases turn i n ys σ' H' w' with ⟨stop,q⟩ | ⟨go,Nn,hN,step⟩
 ·refine thn (T.done (cxC X N' scope cl C D fp s₀ H2) rfl rfl rfl hcalm i _ s σ' H' noX pD (fpok fr) st' stop) fun r s1 ⟨hr,I1⟩=>?_
  subst hr
  have hy1:=(I1.pin (D,{ cls:=.type "list",data:=.seq us.toArray k }) (by simp)).1
  obtain ⟨m,hm,_⟩:=I1.loc
  obtain ⟨oC,es,ep,hoC,hdC,_⟩:=id hm
  obtain ⟨IX,fpc⟩:=u9 I hs₀ hos hD hC hDC f2 I1.unpinned hn hy1 rv hz hoC (by intro v z; rw [hdC] at z; cases z)
  exact hRR D C oC m s1 _ IX hm fpc (q D hn)
 ·refine thn (T.item (cxC X N' scope cl C D fp s₀ H2) rfl rfl rfl hcalm i _ s σ' H' noX pD (fpok fr) st' go) fun r s1 ⟨u,hr,h4⟩=>?_
  subst hr
  refine thn h4 fun _ s2 ⟨x5,H5,I5,r5,y5,st5,fr5⟩=>?_
  have I5':=I5.pinned (fpok fr5) (T.obj _ _ st5)
  refine thn (hg0 _ s2 σ' H5 x5 u _ I5' r5 (step x5 H5 y5)) fun _ s3 ⟨σ6,H6,I6,q6⟩=>?_
  refine thn (hi1 _ s3 σ6 H6 _ I6 q6) fun v s4 h4'=>?_
  refine thn h4' fun itv s5 ⟨it2,fp2,tn2,J2,H7,e2,I7,T2,st7,f7,W2,⟨m2,w2⟩,turn2⟩=>?_
  subst e2
  have dpin:=I7.pin (D,{ cls:=.type "list",data:=.seq us.toArray k }) (by simp)
  have I8:Inv (cxC X N' scope cl C D fp s₀ H2) (pins ++ x8 fp s2.heap) σ6 H7 s5:=I7.pins_of fun p hp=>I7.pin p (by
   rcases List.mem_append.mp hp with hp | hp
   ·exact List.mem_append_right _ (List.mem_append_left _ (List.mem_append_left _ hp))
   ·exact List.mem_append_right _ (List.mem_append_right _ hp))
  have hDfp2:D ∉ fp2:=fun z=>(f7 D z).2.2.2.2.2 (D,{ cls:=.type "list",data:=.seq us.toArray k }) (by simp) rfl
  have hDok:∀ H':Hp,H' D = none -> FpOk (cxC X N' scope cl C D fp s₀ H2) (pins ++ x8 fp s2.heap) H' D:=fun H' hn'=>by
   refine ⟨hn',hDC,fun z=>absurd (Nat.lt_of_lt_of_le (frsz _ z) hD) (Nat.lt_irrefl _),.inl (by simp),fun x c e=>Nat.ne_of_lt (Nat.lt_of_lt_of_le (cells x c e) hD),fun p hp=>?_⟩
   rcases List.mem_append.mp hp with hp | hp
   ·exact Nat.ne_of_lt (Nat.lt_of_lt_of_le (pinsz p (List.mem_append_left _ hp)) hD)
   ·rcases List.mem_append.mp hp with hp | hp
    ·exact Nat.ne_of_lt (Nat.lt_of_lt_of_le (pinsz p (List.mem_append_right _ hp)) hD)
    ·obtain ⟨b,hb,e⟩:=List.mem_filterMap.mp hp
     have:p.1 = b:=by
      cases q:s2.heap.get? b with
      | none=>rw [q] at e; cases e
      | some o=>rw [q] at e; cases e; rfl
     rw [this]; exact Nat.ne_of_lt (Nat.lt_of_lt_of_le (hfp b hb) hD)
  have f8:∀ b ∈ fp2,∀ H':Hp,H' b = none -> FpOk (cxC X N' scope cl C D fp s₀ H2) (pins ++ x8 fp s2.heap) H' b:=fun b hb H' hn'=>by
   obtain ⟨_,q1,q2,q3,q4,q5⟩:=f7 b hb
   refine ⟨hn',q1,q2,q3,q4,fun p hp=>q5 p ?_⟩
   rcases List.mem_append.mp hp with hp | hp
   ·exact List.mem_append_left _ hp
   ·rcases List.mem_append.mp hp with hp | hp
    ·exact List.mem_append_right _ (List.mem_append_left _ (List.mem_append_left _ hp))
    ·exact List.mem_append_right _ (List.mem_append_right _ hp)
  have loop:codeAny (model X.prog X.w) X.A (.compLoop (lc2 elt (.Name x px) i0 (.Name y py) i1 ifs scope pos) 1 (.ref it2) (.ref D) (compEnvC scope cl C X.env)) (fun r s'=>match r with
    | .ok _=>∃ m,m < n /\ ∃ i ys us k σ' H',Inv (cxC X N' scope cl C D fp s₀ H2) pins σ' H' s' /\ tn i s'.heap /\ (∀ b ∈ fp,H' b = none) /\ H' D = none ∧
      s'.heap.get? D = some { cls:=.type "list",data:=.seq (us:List Value).toArray k } /\ Vals ys us /\ ys.length <= sizeLine /\ W i m ys σ' H'
    | .error _=>False) s5:=by
   refine Ul (Y:=cxC X N' scope cl C D fp s₀ H2) rfl hcalm T2 hDok f8 hDfp2 hg1 ht he turn2 ?_ m2 s5 ⟨0,ys,us,k,σ6,H7,I8,st7,fun b hb=>(f7 b hb).1,dpin.2.1,dpin.1,rv,hz,w2⟩
   intro ys9 us9 k9 σ9 H9 s9 I9 hn9 hy9 rv9 hz9 o9
   obtain ⟨m',hm,w9⟩:=hN ys9 σ9 H9 o9
   refine ⟨m',hm,i + 1,ys9,us9,k9,σ9,H9,I9.unpinned,T.keep _ _ _ st5 fun b hb o e=>(I9.pin (b,o) (List.mem_append_right _ (List.mem_append_right _ (z9 hb e)))).1,fun b hb=>?_,hn9,hy9,rv9,hz9,w9⟩
   obtain ⟨o,e,_⟩:=T.obj _ _ st5 b hb
   exact (I9.pin (b,o) (List.mem_append_right _ (List.mem_append_right _ (z9 hb e)))).2.1
  exact Xi loop (T2.self _ _ _ _ _ st7 loop)
end
section
variable {X:Cx} {pins:List (Addr × Obj)} {σ:L2.St} {H2:Hp} {s₂:Shared} {it:Addr} {fp:List Addr} {tn:Nat -> Heap -> Prop} {J:It} {scope:Scope} {cl:List (Str × Addr)} {N':List Str} {sub:List (Option Nat)}
theorem rT {x y:Str} {px py pos:Pos} {elt i0 i1:Expr} {ifs:List Expr} {g0 g1:TG} {wi1:TI} {tt:TT} {te:TE} {E:VS7} {Q:VK} {RR:Value -> Addr -> Result -> Shared -> Prop}
  (I:Inv X pins σ H2 s₂) (hcalm:X.calm = true) (T:Turn X.prog X.w X.K (.Name x px) J fp it tn) (st:tn 0 s₂.heap) (f2:∀ b ∈ fp,FpOk X pins H2 b)
  (S:CSc X scope N' sub) (hcl1:∀ x c,cl.lookup x = some c -> X.env.cells.lookup x = some c) (hcl2:∀ y ∈ scope.names,y.2 = .free -> ∃ c,cl.lookup y.1 = some c)
  (hg0:∀ C D fp s H,PG (cxC X N' scope cl C D fp s H) (.Name x px) g0) (hi1:∀ C D fp s H,PI (cxC X N' scope cl C D fp s H) (.Name y py) i1 wi1) (hg1:∀ C D fp s H,PG (cxC X N' scope cl C D fp s H) (.Name y py) g1) (ht:∀ C D fp s H,PIfs (cxC X N' scope cl C D fp s H) ifs tt) (he:∀ C D fp s H,PE (cxC X N' scope cl C D fp s H) elt te)
  (hss:∀ C v,foldedSetIterable i1 (compEnvC scope cl C X.env) v = pure v)
  (hW:ZL J (capt sub σ) H2 g0 wi1 g1 tt te Q)
  (hRR:∀ (D C:Addr) (oC:Obj) (m:Str -> Option Value) (s':Shared) (Hf:Hp),Inv X (pins ++ [(C,oC)]) σ Hf s' -> s'.heap.Ns C m -> FpOk X pins Hf C -> Q (.ref D) Hf -> RR (.ref D) C (.ok .next) s') :
  wpAny (model X.prog X.w) X.A (newList []) (fun acc s₃=>wpAny (model X.prog X.w) X.A (newFunctionEnv scope X.env.globals cl [] X.env.qual none .none (some X.env)) (fun cenv s₄ =>
   codeAny (model X.prog X.w) X.A (.compStart (lc2 elt (.Name x px) i0 (.Name y py) i1 ifs scope pos) 0 (.ref it) acc { cenv with scope:=relabel scope X.env }) (RR acc cenv.locals) s₄) E s₃) E s₂:=by
 obtain ⟨W,⟨m0,w0⟩,turn⟩:=hW
 refine wpAny_newObj_type (wpAny_newFunctionEnv S.nocell (by intro y hy; simp at hy) (fun h₁ hns₁ hsb₁=>?_) S.kind)
 dsimp only at hns₁ hsb₁ ⊢
 have hC:(s₂.heap.push { cls:=.type "list",dict:=none,data:=.seq ([]:List Value).toArray }).objs.size = s₂.heap.objs.size + 1:=Heap.size_push ..
 rw [hC] at hns₁ hsb₁ ⊢
 have hk:∀ b o,(s₂.heap.push { cls:=.type "list",dict:=none,data:=.seq ([]:List Value).toArray }).get? b = some o -> h₁.get? b = some o:=fun b o e =>
  hsb₁.extBut b o (by have:=Heap.lt_size e; rw [hC] at this; exact Nat.ne_of_lt this) (Heap.get?_push_of_some _ e)
 have hfp:∀ b ∈ fp,b < s₂.heap.objs.size:=fun b hb=>by
  obtain ⟨o,e,_⟩:=T.obj _ _ st b hb
  exact Heap.lt_size e
 have I0:=wR (tk:=s₂.toks + ([]:List (Str × Value)).length) I S hcl1 hcl2 f2 hfp hns₁ hk
 have hD0:h₁.get? s₂.heap.objs.size = some { cls:=.type "list",data:=.seq ([]:List Value).toArray 0 }:=hk _ _ (Heap.get?_push_size _ rfl)
 have loop:codeAny (model X.prog X.w) X.A (.compLoop (lc2 elt (.Name x px) i0 (.Name y py) i1 ifs scope pos) 0 (.ref it) (.ref s₂.heap.objs.size) (compEnvC scope cl (s₂.heap.objs.size + 1) X.env)) (RR (.ref s₂.heap.objs.size) (s₂.heap.objs.size + 1)) { s₂ with heap:=h₁,toks:=s₂.toks + ([]:List (Str × Value)).length } :=
  run2 (s₀:={ s₂ with heap:=s₂.heap.push { cls:=.type "list",dict:=none,data:=.seq ([]:List Value).toArray } }) (C:=s₂.heap.objs.size + 1) (D:=s₂.heap.objs.size) I hcalm T f2 hfp (fun b o e=>Heap.get?_push_of_some _ e) rfl (Nat.le_refl _) (Nat.le_succ _) (Nat.ne_of_lt (Nat.lt_succ_self _)) hcl1 (hg0 _ _ _ _ _) (hi1 _ _ _ _ _) (hg1 _ _ _ _ _) (ht _ _ _ _ _) (he _ _ _ _ _) (hss _) turn hRR m0 _
   ⟨0,[],[],0,capt sub σ,H2,I0,T.keep _ _ _ st fun b hb o e=>hk b o (Heap.get?_push_of_some _ e),fun b hb=>(f2 b hb).1,I.hok.fresh (Nat.le_refl _),hD0,.nil,Nat.zero_le _,w0⟩
 exact codeAny_compStart_list loop (T.self _ _ _ _ _ (T.keep _ _ _ st fun b hb o e=>hk b o (Heap.get?_push_of_some _ e)) loop)
end
section
variable {X:Cx} {scope:Scope} {N':List Str} {sub:List (Option Nat)} {x y:Str} {px py pos:Pos} {elt i0 i1:Expr} {ifs:List Expr} {wi wi1:TI} {g0 g1:TG} {tt:TT} {te:TE}
theorem Xj {i:Nat} {z:Str} {pz spos:Pos} (hN:X.N.Nodup) (hiN:X.N[i]? = some z) (hy:X.env.scope.names.lookup z = some .local) (S:CSc X scope N' sub) (hcalm:X.calm = true) (hi:PI X (.Name x px) i0 wi)
  (hg0:∀ cl C D fp s H,PG (cxC X N' scope cl C D fp s H) (.Name x px) g0) (hi1:∀ cl C D fp s H,PI (cxC X N' scope cl C D fp s H) (.Name y py) i1 wi1) (hg1:∀ cl C D fp s H,PG (cxC X N' scope cl C D fp s H) (.Name y py) g1) (ht:∀ cl C D fp s H,PIfs (cxC X N' scope cl C D fp s H) ifs tt) (he:∀ cl C D fp s H,PE (cxC X N' scope cl C D fp s H) elt te)
  (hsw:swapsWith (lc2 elt (.Name x px) i0 (.Name y py) i1 ifs scope pos) (some (.Name z pz)) spos.line X.env = pure true:=by rfl)
  (hs:∀ x,foldedSetIterable i0 X.env x = pure x:=by intro _; rfl) (hss:∀ cl C v,foldedSetIterable i1 (compEnvC scope cl C X.env) v = pure v:=by intro _ _ _; rfl):PS X (.Assign [.Name z pz] (lc2 elt (.Name x px) i0 (.Name y py) i1 ifs scope pos) spos) (tAsg (Uk wi sub g0 wi1 g1 tt te) (wc i)):=by
 intro pins s σ H D I h
 obtain ⟨cl,hclos,hcl1,hcl2⟩:=S.clos I
 rw [exec_Assign_Name_used _ _ _ _ hsw]
 refine wpAny_bind (wpAny_standAt (wpAny_bind ?_))
 show wpAny _ X.A (do let _ ← comprehension (lc2 elt (.Name x px) i0 (.Name y py) i1 ifs scope pos) scope X.env _ (newList []) false (eval i0 X.env) (some (assign (.Name z pz) X.env))) _ _ s
 refine wpAny_bind (wpAny_mono (wpAny_comprehension_free (use:=some (assign (.Name z pz) X.env)) (Q:=fun _ s'=>SP X pins D .next s') rfl hs hclos S.kind S.names
  (thn (hi pins s σ H _ I h) fun v s1 h1=>thn h1 fun itv s2 h2=>?_)) (fun _ s' hq=>wpAny_pure (wpAny_pure hq)) fun _ _ e=>e)
 obtain ⟨it,fp,tn,J,H2,e,I2,T,st2,f2,hW⟩:=h2
 subst e
 refine rT (Q:=fun x H1=>wc i x σ H1 D.nx) (RR:=fun acc C=>compPost (model X.prog X.w) X.A X.xe (some (assign (.Name z pz) X.env)) (fun _ s'=>SP X pins D .next s') acc C) I2 hcalm T st2 f2 S hcl1 hcl2 (hg0 cl) (hi1 cl) (hg1 cl) (ht cl) (he cl) (hss cl) hW ?_
 intro L C oC m s' Hf IX hm fpc q
 have st:=zy (X:=X) (pos:=pz) hN hiN (.inl hy) (.inr hy) _ s' σ Hf (.ref L) (.ref L) D.nx IX rfl q
 refine thn st fun _ s'' ⟨σ2,H2,I2',q2⟩=>?_
 have p:=I2'.pin (C,oC) (by simp)
 have hm':s''.heap.Ns C m:=by
  obtain ⟨o,es,ep,e1,r⟩:=hm
  have z:=(IX.pin (C,oC) (by simp)).1
  rw [e1] at z; cases z
  exact ⟨_,es,ep,p.1,r⟩
 refine ⟨m,hm',fun h' sb=>⟨σ2,H2,?_,q2⟩⟩
 exact (I2'.unpinned).turned (it:=C) (t':=s''.toks) (h':=h') (fun b o hb e=>sb.extBut b o hb e) p.2.1 fpc.2.1 fpc.2.2.2.1 fpc.2.2.2.2.1 fpc.2.2.2.2.2
end
section
variable {X:Cx}
theorem rV:∀ {ns:List Int} {us:List Value},Vals (ns.map V.int) us -> ∀ (i:Nat) (v:Value),us[i]? = some v -> ∃ t,v = Value.int ((ns[i]?).getD 0) t
 | [],_,.nil,i,v,e=>by cases e
 | n :: ns,_,.cons r t,0,v,e=>by
  obtain ⟨u,rfl⟩:=r
  obtain rfl:=Option.some.inj e
  exact ⟨u,rfl⟩
 | n :: ns,_,.cons r t,i + 1,v,e=>rV t i v e
theorem ZM (hcalm:X.calm = true):xm X (.builtin "max") (fun xs H Q=>∃ (l:Addr) (ns:List Int),xs = [.ref l] /\ SqL X.K H l (ns.map V.int) /\ 0 < ns.length /\ ∀ M,M ∈ ns -> (∀ a ∈ ns,a <= M) -> Q (.int M) H):=by
 intro pins s σ H xs us Q I r h
 obtain ⟨l,ns,rfl,hl,h0,q⟩:=h
 obtain ⟨u,rfl,rx⟩:=wd r
 cases (show u = Value.ref l from rx)
 obtain ⟨vs,rv,pl,_⟩:=I.list hl
 have hl':s.heap.IsList l vs.toArray:=pl.isList
 have hb:=rV rv
 have hlen:ns.length = vs.length:=by rw [← rv.length,List.length_map]
 have hlt:l < s.heap.objs.size:=by obtain ⟨_,e,_⟩:=hl'; exact Heap.lt_size e
 have best:=argBest_gt (fun i=>(ns[i]?).getD 0) (vs.length - 1)
 refine call_max_walk (wpAny_pyIter_list hl' ?_)
 refine ⟨s.heap.objs.size,[s.heap.objs.size,l],[s.heap.objs.size],vs.toArray.size,_,_,fun i j=>decide ((ns[i]?).getD 0 > (ns[j]?).getD 0),rfl,Walks.list (A:=X.A.in1) (I.ok.hd hcalm) _ l (Nat.ne_of_lt hlt) vs.toArray,
  ⟨⟨_,Heap.get?_push_size _ rfl,rfl,rfl⟩,hl'.push _⟩,?_,?_,CmpOf.ints_gt _ (fun i v hP=>hb i v (by simpa using hP)),fun v h' tk hP hk=>?_⟩
 ·intro b hb
  have sz:(s.heap.push { cls:=.type "list_iterator",data:=.fields #[.ref l,.int 0 0] }).objs.size = s.heap.objs.size + 1:=Heap.size_push ..
  rcases List.mem_cons.mp hb with z | z
  ·rw [z]; show _ < (s.heap.push _).objs.size; rw [sz]; omega
  ·rw [List.mem_singleton.mp z]; show _ < (s.heap.push _).objs.size; rw [sz]; exact Nat.lt_succ_of_lt hlt
 ·rw [List.size_toArray]; omega
 ·rw [List.size_toArray] at hP
  obtain ⟨t,rfl⟩:=hb _ v (by simpa using hP)
  have hi:argBest (fun i j=>decide ((ns[i]?).getD 0 > (ns[j]?).getD 0)) (vs.length - 1) < ns.length:=by have:=best.1; omega
  refine ⟨.int ((ns[argBest (fun i j=>decide ((ns[i]?).getD 0 > (ns[j]?).getD 0)) (vs.length - 1)]?).getD 0),H,I.kept (t':=tk) (h':=h') (LSm.kept_iter hk),⟨t,rfl⟩,q _ ?_ ?_⟩
  ·rw [List.getElem?_eq_getElem hi]; exact List.getElem_mem hi
  ·intro a ha
   obtain ⟨j,hj,rfl⟩:=List.getElem_of_mem ha
   have:=best.2 j (by omega)
   rw [List.getElem?_eq_getElem hj] at this
   exact this
theorem ZN (hcalm:X.calm = true):xm X (.builtin "min") (fun xs H Q=>∃ (l:Addr) (ns:List Int),xs = [.ref l] /\ SqL X.K H l (ns.map V.int) /\ 0 < ns.length /\ ∀ M,M ∈ ns -> (∀ a ∈ ns,M <= a) -> Q (.int M) H):=by
 intro pins s σ H xs us Q I r h
 obtain ⟨l,ns,rfl,hl,h0,q⟩:=h
 obtain ⟨u,rfl,rx⟩:=wd r
 cases (show u = Value.ref l from rx)
 obtain ⟨vs,rv,pl,_⟩:=I.list hl
 have hl':s.heap.IsList l vs.toArray:=pl.isList
 have hb:=rV rv
 have hlen:ns.length = vs.length:=by rw [← rv.length,List.length_map]
 have hlt:l < s.heap.objs.size:=by obtain ⟨_,e,_⟩:=hl'; exact Heap.lt_size e
 have best:=argBest_lt (fun i=>(ns[i]?).getD 0) (vs.length - 1)
 refine call_min_walk (wpAny_pyIter_list hl' ?_)
 refine ⟨s.heap.objs.size,[s.heap.objs.size,l],[s.heap.objs.size],vs.toArray.size,_,_,fun i j=>decide ((ns[i]?).getD 0 < (ns[j]?).getD 0),rfl,Walks.list (A:=X.A.in1) (I.ok.hd hcalm) _ l (Nat.ne_of_lt hlt) vs.toArray,
  ⟨⟨_,Heap.get?_push_size _ rfl,rfl,rfl⟩,hl'.push _⟩,?_,?_,CmpOf.ints_lt _ (fun i v hP=>hb i v (by simpa using hP)),fun v h' tk hP hk=>?_⟩
 ·intro b hb
  have sz:(s.heap.push { cls:=.type "list_iterator",data:=.fields #[.ref l,.int 0 0] }).objs.size = s.heap.objs.size + 1:=Heap.size_push ..
  rcases List.mem_cons.mp hb with z | z
  ·rw [z]; show _ < (s.heap.push _).objs.size; rw [sz]; omega
  ·rw [List.mem_singleton.mp z]; show _ < (s.heap.push _).objs.size; rw [sz]; exact Nat.lt_succ_of_lt hlt
 ·rw [List.size_toArray]; omega
 ·rw [List.size_toArray] at hP
  obtain ⟨t,rfl⟩:=hb _ v (by simpa using hP)
  have hi:argBest (fun i j=>decide ((ns[i]?).getD 0 < (ns[j]?).getD 0)) (vs.length - 1) < ns.length:=by have:=best.1; omega
  refine ⟨.int ((ns[argBest (fun i j=>decide ((ns[i]?).getD 0 < (ns[j]?).getD 0)) (vs.length - 1)]?).getD 0),H,I.kept (t':=tk) (h':=h') (LSm.kept_iter hk),⟨t,rfl⟩,q _ ?_ ?_⟩
  ·rw [List.getElem?_eq_getElem hi]; exact List.getElem_mem hi
  ·intro a ha
   obtain ⟨j,hj,rfl⟩:=List.getElem_of_mem ha
   have:=best.2 j (by omega)
   rw [List.getElem?_eq_getElem hj] at this
   exact this
end
def uq (d:Deed):List Int:=(d.lo.toList ++ d.hi.toList).map fun z=>z - d.add
def metL (d e:Deed):List Int:=uq d ++ uq e
def rW (d e:Deed) (ns:List Int):Prop:=(metL d e = [] /\ ns = [0]) \/ ∃ m M:Int,m ∈ metL d e /\ (∀ a ∈ metL d e,m <= a) /\ (∀ a ∈ metL d e,a <= M) /\ ns = metL d e ++ [m - 1,M + 1]
theorem Um {a l h:Int} (o:Deed.Ok ⟨a,some l,some h⟩):l <= h /\ (l = h -> a = 0):=by
 rcases Tu o with z | ⟨z,w⟩
 ·exact ⟨by omega,fun e=>by omega⟩
 ·exact ⟨by omega,fun _=>w⟩
theorem qU {a l h v:Int} (o:l <= h) (hv:v + a <= l):(Deed.mk a (some l) (some h)).mk' v = l:=by
 simp only [Deed.mk',ZD,ZE]; omega
theorem ZO {a l h v:Int} (o:l <= h) (hv:h <= v + a):(Deed.mk a (some l) (some h)).mk' v = h:=by
 simp only [Deed.mk',ZD,ZE]; omega
theorem Uo {a l h v:Int} (o:l < h) (e:(Deed.mk a (some l) (some h)).mk' v = l):v + a <= l:=by
 simp only [Deed.mk',ZD,ZE] at e; omega
theorem Up {a l h a' l' h' m M:Int} (k1:l <= h /\ (l = h -> a = 0)) (k2:l' <= h' /\ (l' = h' -> a' = 0)) (m1:m <= l - a) (m2:m <= l' - a') (M1:h - a <= M) (M2:h' - a' <= M)
  (e1:(Deed.mk a (some l) (some h)).mk' (m - 1) = (Deed.mk a' (some l') (some h')).mk' (m - 1)) (e2:(Deed.mk a (some l) (some h)).mk' (M + 1) = (Deed.mk a' (some l') (some h')).mk' (M + 1))
  (e3:(Deed.mk a (some l) (some h)).mk' (l - a) = (Deed.mk a' (some l') (some h')).mk' (l - a)) (e4:(Deed.mk a (some l) (some h)).mk' (l' - a') = (Deed.mk a' (some l') (some h')).mk' (l' - a')):Deed.mk a (some l) (some h) = Deed.mk a' (some l') (some h'):=by
 rw [qU k1.1 (by omega),qU k2.1 (by omega)] at e1
 rw [ZO k1.1 (by omega),ZO k2.1 (by omega)] at e2
 subst e1; subst e2
 by_cases c:l = h
 ·rw [k1.2 c,k2.2 c]
 ·have c':l < h:=by omega
  rw [qU (a:=a) k1.1 (by omega)] at e3
  rw [qU (a:=a') (v:=l - a') k2.1 (by omega)] at e4
  have z3:=Uo c' e3.symm
  have z4:=Uo c' e4
  rw [show a = a' by omega]
theorem ZP {d e:Deed} {ns:List Int} (od:d.Ok) (oe:e.Ok) (t:rW d e ns) (h:∀ v ∈ ns,d.mk' v = e.mk' v):d = e:=by
 obtain ⟨a,lo,hi⟩:=d
 obtain ⟨a',lo',hi'⟩:=e
 rcases t with ⟨h0,rfl⟩ | ⟨m,M,hmm,hm,hM,rfl⟩
 ·cases lo <;> cases hi <;> cases lo' <;> cases hi' <;> first
   | (have:=h 0 (by simp); rw [Uf,Uf] at this; congr 1; omega)
   | simp [metL,uq] at h0
 ·have e1:=h (m - 1) (by simp)
  have e2:=h (M + 1) (by simp)
  have hh:∀ v ∈ metL ⟨a,lo,hi⟩ ⟨a',lo',hi'⟩,(Deed.mk a lo hi).mk' v = (Deed.mk a' lo' hi').mk' v:=fun v hv=>h v (List.mem_append_left _ hv)
  clear h
  cases lo <;> cases hi <;> cases lo' <;> cases hi' <;>
   (try have k1:=Um od) <;> (try have k2:=Um oe) <;>
   simp only [metL,uq,Option.toList,List.nil_append,List.append_nil,List.cons_append,List.map_cons,List.map_nil,List.mem_cons,List.not_mem_nil,or_false,forall_eq_or_imp,forall_eq] at hm hM hh hmm <;>
   first
    | exact Up k1 k2 hm.1 hm.2.2.1 hM.2.1 hM.2.2.2 e1 e2 hh.1 hh.2.2.1
    | (simp only [Deed.mk',ZD,ZE,Wi,Wj] at e1 e2 hh; omega)
    | (simp only [Deed.mk',ZD,ZE,Wi,Wj] at e1 e2 hh; simp only [Deed.mk.injEq,Option.some.injEq,true_and,and_true]; omega)
theorem ZQ {K:FG7} {a:Addr} {xs:List V} {g0 g1:TG} {wi1:TI} {tt:TT} {te:TE} {Q:VK} {σ:L2.St} {H:Hp} (Pv:Nat -> List V -> L2.St -> Hp -> Prop) (h0:Pv 0 [] σ H) (hl:∀ i ys σ H,i <= xs.length -> Pv i ys σ H -> SqT K H a xs)
  (hs:∀ i x ys σ H,xs[i]? = some x -> Pv i ys σ H -> g0 x σ H fun σ2 H3=>wi1 σ2 H3 fun J2 H4=>InW J2 ys σ2 H4 g1 tt te (Pv (i + 1)))
  (hd:∀ ys σ H,Pv xs.length ys σ H -> ∀ l,H l = none -> Q (.ref l) (upd H l (.lst ys))) :
  ZL (Itt K a) σ H g0 wi1 g1 tt te Q:=by
 refine ⟨fun i m ys σ H=>m = xs.length - i /\ i <= xs.length /\ Pv i ys σ H,⟨xs.length,by simp,Nat.zero_le _,h0⟩,?_⟩
 rintro i m ys σ H ⟨rfl,hi,p⟩
 have q:=hl i ys σ H hi p
 by_cases hlt:i < xs.length
 ·refine .inr ⟨⟨xs,xs[i],q,by simp [hlt]⟩,Pv (i + 1),fun zs σ' H' p'=>⟨xs.length - (i + 1),by omega,rfl,hlt,p'⟩,fun x H' y=>?_⟩
  obtain ⟨e,y⟩:=y
  subst e
  exact hs i x ys σ _ (y xs q) p
 ·have e:i = xs.length:=by omega
  subst e
  exact .inl ⟨⟨xs,q,Nat.le_refl _⟩,hd ys σ H p⟩
theorem Va {K:FG7} {a:Addr} {xs ys0:List V} {g:TG} {tt:TT} {te:TE} {Out:List V -> L2.St -> Hp -> Prop} {σ:L2.St} {H:Hp} (Pv:Nat -> List V -> L2.St -> Hp -> Prop) (h0:Pv 0 ys0 σ H) (hl:∀ i ys σ H,i <= xs.length -> Pv i ys σ H -> SqT K H a xs)
  (hs:∀ i x ys σ H,xs[i]? = some x -> Pv i ys σ H -> g x σ H fun σ2 H3=>tt σ2 H3 fun b H4=>if b = true then te σ2 H4 fun y H5=>ys.length < sizeLine /\ Pv (i + 1) (ys ++ [y]) σ2 H5 else Pv (i + 1) ys σ2 H4)
  (hd:∀ ys σ H,Pv xs.length ys σ H -> Out ys σ H) :
  InW (Itt K a) ys0 σ H g tt te Out:=by
 refine ⟨fun i m ys σ H=>m = xs.length - i /\ i <= xs.length /\ Pv i ys σ H,⟨xs.length,by simp,Nat.zero_le _,h0⟩,?_⟩
 rintro i m ys σ H ⟨rfl,hi,p⟩
 have q:=hl i ys σ H hi p
 by_cases hlt:i < xs.length
 ·refine .inr ⟨⟨xs,xs[i],q,by simp [hlt]⟩,Pv (i + 1),fun zs σ' H' p'=>⟨xs.length - (i + 1),by omega,rfl,hlt,p'⟩,fun x H' y=>?_⟩
  obtain ⟨e,y⟩:=y
  subst e
  exact hs i x ys σ _ (y xs q) p
 ·have e:i = xs.length:=by omega
  subst e
  exact .inl ⟨⟨xs,q,Nat.le_refl _⟩,hd ys σ H p⟩
theorem Vb {X:Cx} {K:FG7} (h:X.K = K):SlR X (rSlT K):=by subst h; exact X7
theorem Vc {X:Cx} {K:FG7} {tg l:Expr} {tl:TE} (h:X.K = K) (hl:PE X l tl):PI X tg l (iTup K tl):=by subst h; exact Zh hl
def sD (K:FG7):Sp:=sp2 fun x y H Q=>∃ d e,yv K H x d /\ yv K H y e /\ ∀ (p:Addr) (ns:List Int) (H':Hp),Grow [] H H' -> H' p = some (.lst (ns.map V.int)) -> ns.length <= 6 -> rW d e ns -> Q (.ref p) H'
theorem qV (d e:Deed):(metL d e).length <= 4:=by
 obtain ⟨a,lo,hi⟩:=d
 obtain ⟨a',lo',hi'⟩:=e
 cases lo <;> cases hi <;> cases lo' <;> cases hi' <;> simp [metL,uq]
def endK (z:Deed):Nat -> List Int
 | 0=>[]
 | 1=>z.lo.toList.map fun q=>q - z.add
 | _=>uq z
def metK (d e:Deed):Nat -> List Int
 | 0=>[]
 | 1=>uq d
 | _=>metL d e
theorem ZR {z:Deed} {j:Nat} {w:V} (h:[ov z.lo,ov z.hi][j]? = some w):∃ o:Option Int,w = ov o /\ endK z (j + 1) = endK z j ++ o.toList.map fun q=>q - z.add:=by
 rcases j with _ | _ | j
 ·exact ⟨z.lo,(Option.some.inj h).symm,rfl⟩
 ·exact ⟨z.hi,(Option.some.inj h).symm,List.map_append⟩
 ·cases h
theorem ZS {d e:Deed} {x y v:V} {i:Nat} {p:V -> Deed -> Prop} (hx:p x d) (hy:p y e) (h:[x,y][i]? = some v):∃ z,p v z /\ metK d e (i + 1) = metK d e i ++ uq z:=by
 rcases i with _ | _ | i
 ·exact ⟨d,(Option.some.inj h) ▸ hx,rfl⟩
 ·exact ⟨e,(Option.some.inj h) ▸ hy,rfl⟩
 ·cases h
theorem sE (z:Deed):(uq z).length <= 2:=by
 obtain ⟨a,lo,hi⟩:=z
 cases lo <;> cases hi <;> simp [uq]
theorem Xk (z:Deed) (j:Nat):(endK z j).length <= 2:=by
 rcases j with _ | _ | j
 ·exact Nat.zero_le _
 ·show (z.lo.toList.map fun q=>q - z.add).length <= 2
  cases z.lo <;> simp
 ·exact sE z
theorem Xl (d e:Deed) (j:Nat):(metK d e j).length <= 4:=by
 rcases j with _ | _ | j
 ·exact Nat.zero_le _
 ·exact Nat.le_trans (sE d) (by decide)
 ·exact qV d e
def pI (p:Int -> Bool):V -> Bool
 | .int i=>p i
 | _=>false
theorem ZT (p:Int -> Bool):∀ ns:List Int,((ns.map V.int).filter (pI p)).map id = (ns.filter p).map V.int
 | []=>rfl
 | n :: ns=>by
  have ih:=ZT p ns
  rw [List.map_id] at ih ⊢
  rw [List.map_cons,List.filter_cons,List.filter_cons,show pI p (V.int n) = p n from rfl]
  split
  ·rw [ih]; rfl
  ·exact ih
theorem Vd {K:FG7} {a:Addr} {n:Nat} {tt:TT} {te:TE} {Q:VK} {σ:L2.St} {H:Hp} {ns:List Int} (p:Int -> Bool) (hl:SqL K H a (ns.map V.int)) (hlen:ns.length <= 1000)
  (ht:∀ i H' (R:Bool -> Hp -> Prop),i ∈ ns -> Grow [] H H' -> (∀ H2,Grow [] H' H2 -> R (p i) H2) -> tt (σ.set n (some (.int i))) H' R)
  (hs:∀ i H' (R:VK),i ∈ ns -> Grow [] H H' -> (∀ H2,Grow [] H' H2 -> R (.int i) H2) -> te (σ.set n (some (.int i))) H' R)
  (hd:∀ H' l,Grow [] H H' -> H' l = none -> Q (.ref l) (upd H' l (.lst ((ns.filter p).map V.int)))):vw (Itl K a) σ H (wc n) tt te Q :=
 jJ (pI p) id hl (by rw [List.length_map]; exact hlen) (fun x H' R hx g k=>by obtain ⟨i,hi,rfl⟩:=List.mem_map.mp hx; exact ht i H' R hi g k)
  (fun x H' R hx _ g k=>by obtain ⟨i,hi,rfl⟩:=List.mem_map.mp hx; exact hs i H' R hi g k) (fun H' l g hl=>by rw [ZT]; exact hd H' l g hl)
def unl (d e:Deed) (v:Int):Bool:=!decide (V.int (d.mk' v) = V.int (e.mk' v))
theorem rX {d e:Deed} {ns:List Int} (od:d.Ok) (oe:e.Ok) (t:rW d e ns) (h:d ≠ e):∃ v ms,ns.filter (unl d e) = v :: ms /\ d.mk' v ≠ e.mk' v:=by
 cases hf:ns.filter (unl d e) with
 | nil =>
  refine absurd (ZP od oe t fun v hv=>?_) h
  have:=List.filter_eq_nil_iff.mp hf v hv
  unfold unl at this
  simpa using this
 | cons v ms =>
  have hv:v ∈ ns.filter (unl d e):=by rw [hf]; exact List.mem_cons_self
  have:=(List.mem_filter.mp hv).2
  unfold unl at this
  exact ⟨v,ms,rfl,by simpa using this⟩
theorem Deed.Sm.bd2 {d:Deed} (h:d.Sm):d.Bd (2 * 10 ^ 30):=h.bd.mono (by decide)
section
variable {X:Cx} {pins:List (Addr × Obj)} {σ:L2.St} {H2:Hp} {s₂:Shared} {it:Addr} {fp:List Addr} {tn:Nat -> Heap -> Prop} {J:It} {scope:Scope} {cl:List (Str × Addr)} {N':List Str} {sub:List (Option Nat)}
theorem ZU {C D:Addr} {s₀:Shared} {tg:Expr} {pos:Pos} {elt iter:Expr} {ifs:List Expr} {g:TG} {tt:TT} {te:TE} {Q:VK} {RR:Value -> Addr -> Result -> Shared -> Prop} {W:Nat -> Nat -> List V -> L2.St -> Hp -> Prop}
  (I:Inv X pins σ H2 s₂) (hcalm:X.calm = true) (T:Turn X.prog X.w X.K tg J fp it tn) (f2:∀ b ∈ fp,FpOk X pins H2 b) (hfp:∀ b ∈ fp,b < s₂.heap.objs.size)
  (hs₀:∀ b o,s₂.heap.get? b = some o -> s₀.heap.get? b = some o) (hos:s₀.os = s₂.os) (hD:s₂.heap.objs.size <= D) (hC:s₂.heap.objs.size <= C) (hDC:D ≠ C)
  (hcl1:∀ x c,cl.lookup x = some c -> X.env.cells.lookup x = some c)
  (hg:PG (cxC X N' scope cl C D fp s₀ H2) tg g) (ht:PIfs (cxC X N' scope cl C D fp s₀ H2) ifs tt) (he:PE (cxC X N' scope cl C D fp s₀ H2) elt te)
  (turn:∀ i m ys σ' H',W i m ys σ' H' →
   (J.stop i H' /\ ∀ l,H' l = none -> Q (.ref l) (upd H' l (.lst ys))) ∨
   (J.go i H' /\ ∃ Nn:List V -> L2.St -> Hp -> Prop,(∀ zs σ2 H2,Nn zs σ2 H2 -> ∃ m',m' < m /\ W (i + 1) m' zs σ2 H2) ∧
    ∀ x H2,J.yld i H' x H2 -> g x σ' H2 fun σ2 H3=>tt σ2 H3 fun b H4=>if b = true then te σ2 H4 fun y H5=>ys.length < sizeLine /\ Nn (ys ++ [y]) σ2 H5 else Nn ys σ2 H4))
  (hRR:∀ (D C:Addr) (oC:Obj) (m:Str -> Option Value) (s':Shared) (Hf:Hp),Inv X (pins ++ [(C,oC)]) σ Hf s' -> s'.heap.Ns C m -> FpOk X pins Hf C -> Q (.ref D) Hf -> RR (.ref D) C (.ok .next) s')
  (n:Nat) (s:Shared) (h:∃ i ys us k σ' H',Inv (cxC X N' scope cl C D fp s₀ H2) pins σ' H' s /\ tn i s.heap /\ (∀ b ∈ fp,H' b = none) /\ H' D = none ∧
   s.heap.get? D = some { cls:=.type "list",data:=.seq (us:List Value).toArray k } /\ Vals ys us /\ ys.length <= sizeLine /\ W i n ys σ' H') :
  codeAny (model X.prog X.w) X.A (.compLoop (.ListComp elt [⟨tg,iter,ifs,0⟩] scope pos) 0 (.ref it) (.ref D) (compEnvC scope cl C X.env)) (RR (.ref D) C) s:=by
 have frsz:∀ b ∈ frs X.stack,b < s₂.heap.objs.size:=fun b hb=>by
  rcases List.mem_cons.mp (I.stkSub b hb) with z | z
  ·rw [z]; exact I.lt
  ·exact Nat.lt_of_not_le fun q=>I.nofs q z
 have cells:∀ x c,cl.lookup x = some c -> c < s₂.heap.objs.size:=fun x c e=>let ⟨v,q⟩:=I.cell x c (hcl1 x c e); q.lt
 have pinsz:∀ p ∈ X.pn ++ pins,p.1 < s₂.heap.objs.size:=fun p hp=>Heap.lt_size (I.pin p hp).1
 refine sm (fun n s=>∃ i ys us k σ' H',Inv (cxC X N' scope cl C D fp s₀ H2) pins σ' H' s /\ tn i s.heap /\ (∀ b ∈ fp,H' b = none) /\ H' D = none ∧
   s.heap.get? D = some { cls:=.type "list",data:=.seq (us:List Value).toArray k } /\ Vals ys us /\ ys.length <= sizeLine /\ W i n ys σ' H') ?_ n h
 rintro n s ⟨i,ys,us,k,σ',H',I',st',fr,hn,hy,rv,hz,w'⟩
 have pD:Inv (cxC X N' scope cl C D fp s₀ H2) (pins ++ [(D,{ cls:=.type "list",data:=.seq us.toArray k })]) σ' H' s:=I'.pins_of fun p hp=>by
  rcases List.mem_append.mp hp with hp | hp
  ·exact I'.pin p (List.mem_append_right _ hp)
  ·rw [List.mem_singleton.mp hp]
   exact ⟨hy,hn,hDC,fun z=>absurd (Nat.lt_of_lt_of_le (frsz _ z) hD) (Nat.lt_irrefl _),fun v z=>by cases z⟩
 have fpok:∀ {H'':Hp},(∀ b ∈ fp,H'' b = none) -> ∀ b ∈ fp,FpOk (cxC X N' scope cl C D fp s₀ H2) (pins ++ [(D,{ cls:=.type "list",data:=.seq us.toArray k })]) H'' b:=fun hz b hb=>by
  refine ⟨hz b hb,Nat.ne_of_lt (Nat.lt_of_lt_of_le (hfp b hb) hC),fun z=>?_,.inl (List.mem_cons_of_mem _ hb),fun x c e=>(f2 b hb).2.2.2.2.1 x c (hcl1 x c e),fun p hp=>?_⟩
  ·rcases List.mem_cons.mp (I.stkSub b z) with z | z
   ·exact (f2 b hb).2.1 z
   ·exact (f2 b hb).2.2.1 z
  ·rcases List.mem_append.mp hp with hp | hp
   ·exact (f2 b hb).2.2.2.2.2 p (List.mem_append_left _ hp)
   ·rcases List.mem_append.mp hp with hp | hp
    ·exact (f2 b hb).2.2.2.2.2 p (List.mem_append_right _ hp)
    ·rw [List.mem_singleton.mp hp]
     exact Nat.ne_of_gt (Nat.lt_of_lt_of_le (hfp b hb) hD)
 rcases turn i n ys σ' H' w' with ⟨stop,q⟩ | ⟨go,Nn,hN,step⟩
 ·refine thn (T.done (cxC X N' scope cl C D fp s₀ H2) rfl rfl rfl hcalm i _ s σ' H' (fun _ _=>False) pD (fpok fr) st' stop) fun r s1 ⟨hr,I1⟩=>?_
  subst hr
  have hy1:=(I1.pin (D,{ cls:=.type "list",data:=.seq us.toArray k }) (by simp)).1
  obtain ⟨m,hm,_⟩:=I1.loc
  obtain ⟨oC,es,ep,hoC,hdC,_⟩:=id hm
  obtain ⟨IX,fpc⟩:=u9 I hs₀ hos hD hC hDC f2 I1.unpinned hn hy1 rv hz hoC (by intro v z; rw [hdC] at z; cases z)
  exact hRR D C oC m s1 _ IX hm fpc (q D hn)
 ·refine thn (T.item (cxC X N' scope cl C D fp s₀ H2) rfl rfl rfl hcalm i _ s σ' H' (fun _ _=>False) pD (fpok fr) st' go) fun r s1 ⟨u,hr,h4⟩=>?_
  subst hr
  refine thn h4 fun _ s2 ⟨x5,H5,I5,r5,y5,st5,fr5⟩=>?_
  have I5':=I5.pinned (fpok fr5) (T.obj _ _ st5)
  refine thn (hg _ s2 σ' H5 x5 u _ I5' r5 (step x5 H5 y5)) fun _ s3 ⟨σ6,H6,I6,q6⟩=>?_
  refine thn (ht _ s3 σ6 H6 _ I6 q6) fun ok s4 ⟨H7,I7,q7⟩=>?_
  have stay:∀ {σ7:L2.St} {H7:Hp} {s7:Shared},Inv (cxC X N' scope cl C D fp s₀ H2) (pins ++ [(D,{ cls:=.type "list",data:=.seq us.toArray k })] ++ x8 fp s2.heap) σ7 H7 s7 →
    (∀ b ∈ fp,∀ o,s2.heap.get? b = some o -> s7.heap.get? b = some o) /\ (∀ b ∈ fp,H7 b = none) /\ H7 D = none /\ s7.heap.get? D = some { cls:=.type "list",data:=.seq us.toArray k }:=fun {σ7 H7 s7} I7=>by
   have d:=I7.pin (D,{ cls:=.type "list",data:=.seq us.toArray k }) (by simp)
   refine ⟨fun b hb o e=>(I7.pin (b,o) (List.mem_append_right _ (List.mem_append_right _ (z9 hb e)))).1,fun b hb=>?_,d.2.1,d.1⟩
   obtain ⟨o,e,_⟩:=T.obj _ _ st5 b hb
   exact (I7.pin (b,o) (List.mem_append_right _ (List.mem_append_right _ (z9 hb e)))).2.1
  cases ok with
  | false =>
   rw [if_neg (by decide)] at q7 ⊢
   obtain ⟨k1,k2,k3,k4⟩:=stay I7
   obtain ⟨m',hm,w7⟩:=hN ys σ6 H7 q7
   exact ⟨m',hm,i + 1,ys,us,k,σ6,H7,I7.unpinned.unpinned,T.keep _ _ _ st5 k1,k2,k3,k4,rv,hz,w7⟩
  | true =>
   rw [if_pos rfl] at q7 ⊢
   refine thn (he _ s4 σ6 H7 _ I7 q7) fun v s5 ⟨y,H8,I8,r8,hl8,n8⟩=>?_
   obtain ⟨k1,k2,k3,k4⟩:=stay I8
   refine wpAny_list_append_plain (l:=D) ⟨k,k4⟩ (fun h' pl sb=>?_) (by rw [List.size_toArray,← rv.length]; exact hz)
   obtain ⟨k',e'⟩:=pl
   obtain ⟨m',hm,w8⟩:=hN _ σ6 H8 n8
   refine ⟨m',hm,i + 1,ys ++ [y],us ++ [v],k',σ6,H8,?_,T.keep _ _ _ (T.keep _ _ _ st5 k1) fun b hb o e=>sb.extBut b o (Nat.ne_of_lt (Nat.lt_of_lt_of_le (hfp b hb) hD)) e,k2,k3,?_,rv.append (.cons r8 .nil),?_,w8⟩
   ·exact (I8.unpinned.unpinned).turned (it:=D) (t':=s5.toks) (h':=h') (fun b o hb e=>sb.extBut b o hb e) k3 hDC (.inl (by simp)) (fun x c e=>Nat.ne_of_lt (Nat.lt_of_lt_of_le (cells x c e) hD)) (fun p hp=>Nat.ne_of_lt (Nat.lt_of_lt_of_le (pinsz p hp) hD))
   ·rw [e']; simp
   ·rw [List.length_append]; exact hl8
theorem vU {tg:Expr} {pos:Pos} {elt iter:Expr} {ifs:List Expr} {g:TG} {tt:TT} {te:TE} {E:VS7} {Q:VK} {RR:Value -> Addr -> Result -> Shared -> Prop}
  (I:Inv X pins σ H2 s₂) (hcalm:X.calm = true) (T:Turn X.prog X.w X.K tg J fp it tn) (st:tn 0 s₂.heap) (f2:∀ b ∈ fp,FpOk X pins H2 b)
  (S:CSc X scope N' sub) (hcl1:∀ x c,cl.lookup x = some c -> X.env.cells.lookup x = some c) (hcl2:∀ y ∈ scope.names,y.2 = .free -> ∃ c,cl.lookup y.1 = some c)
  (hg:∀ C D fp s H,PG (cxC X N' scope cl C D fp s H) tg g) (ht:∀ C D fp s H,PIfs (cxC X N' scope cl C D fp s H) ifs tt) (he:∀ C D fp s H,PE (cxC X N' scope cl C D fp s H) elt te)
  (hW:vw J (capt sub σ) H2 g tt te Q)
  (hRR:∀ (D C:Addr) (oC:Obj) (m:Str -> Option Value) (s':Shared) (Hf:Hp),Inv X (pins ++ [(C,oC)]) σ Hf s' -> s'.heap.Ns C m -> FpOk X pins Hf C -> Q (.ref D) Hf -> RR (.ref D) C (.ok .next) s') :
  wpAny (model X.prog X.w) X.A (newList []) (fun acc s₃=>wpAny (model X.prog X.w) X.A (newFunctionEnv scope X.env.globals cl [] X.env.qual none .none (some X.env)) (fun cenv s₄ =>
   codeAny (model X.prog X.w) X.A (.compStart (.ListComp elt [⟨tg,iter,ifs,0⟩] scope pos) 0 (.ref it) acc { cenv with scope:=relabel scope X.env }) (RR acc cenv.locals) s₄) E s₃) E s₂:=by
 obtain ⟨W,⟨m0,w0⟩,turn⟩:=hW
 refine wpAny_newObj_type (wpAny_newFunctionEnv S.nocell (by intro y hy; simp at hy) (fun h₁ hns₁ hsb₁=>?_) S.kind)
 dsimp only at hns₁ hsb₁ ⊢
 have hC:(s₂.heap.push { cls:=.type "list",dict:=none,data:=.seq ([]:List Value).toArray }).objs.size = s₂.heap.objs.size + 1:=Heap.size_push ..
 rw [hC] at hns₁ hsb₁ ⊢
 have hk:∀ b o,(s₂.heap.push { cls:=.type "list",dict:=none,data:=.seq ([]:List Value).toArray }).get? b = some o -> h₁.get? b = some o:=fun b o e =>
  hsb₁.extBut b o (by have:=Heap.lt_size e; rw [hC] at this; exact Nat.ne_of_lt this) (Heap.get?_push_of_some _ e)
 have hfp:∀ b ∈ fp,b < s₂.heap.objs.size:=fun b hb=>by
  obtain ⟨o,e,_⟩:=T.obj _ _ st b hb
  exact Heap.lt_size e
 have I0:=wR (tk:=s₂.toks + ([]:List (Str × Value)).length) I S hcl1 hcl2 f2 hfp hns₁ hk
 have hD0:h₁.get? s₂.heap.objs.size = some { cls:=.type "list",data:=.seq ([]:List Value).toArray 0 }:=hk _ _ (Heap.get?_push_size _ rfl)
 have loop:codeAny (model X.prog X.w) X.A (.compLoop (.ListComp elt [⟨tg,iter,ifs,0⟩] scope pos) 0 (.ref it) (.ref s₂.heap.objs.size) (compEnvC scope cl (s₂.heap.objs.size + 1) X.env)) (RR (.ref s₂.heap.objs.size) (s₂.heap.objs.size + 1)) { s₂ with heap:=h₁,toks:=s₂.toks + ([]:List (Str × Value)).length } :=
  ZU (s₀:={ s₂ with heap:=s₂.heap.push { cls:=.type "list",dict:=none,data:=.seq ([]:List Value).toArray } }) (C:=s₂.heap.objs.size + 1) (D:=s₂.heap.objs.size) I hcalm T f2 hfp (fun b o e=>Heap.get?_push_of_some _ e) rfl (Nat.le_refl _) (Nat.le_succ _) (Nat.ne_of_lt (Nat.lt_succ_self _)) hcl1 (hg _ _ _ _ _) (ht _ _ _ _ _) (he _ _ _ _ _) turn hRR m0 _
   ⟨0,[],[],0,capt sub σ,H2,I0,T.keep _ _ _ st fun b hb o e=>hk b o (Heap.get?_push_of_some _ e),fun b hb=>(f2 b hb).1,I.hok.fresh (Nat.le_refl _),hD0,.nil,Nat.zero_le _,w0⟩
 exact codeAny_compStart_list loop (T.self _ _ _ _ _ (T.keep _ _ _ st fun b hb o e=>hk b o (Heap.get?_push_of_some _ e)) loop)
end
section
variable {X:Cx} {scope:Scope} {N':List Str} {sub:List (Option Nat)} {tg:Expr} {pos:Pos} {elt iter:Expr} {ifs:List Expr} {wi:TI} {g:TG} {tt:TT} {te:TE}
theorem xP (S:CSc X scope N' sub) (hcalm:X.calm = true) (hi:PI X tg iter wi)
  (hg:∀ cl C D fp s H,PG (cxC X N' scope cl C D fp s H) tg g) (ht:∀ cl C D fp s H,PIfs (cxC X N' scope cl C D fp s H) ifs tt) (he:∀ cl C D fp s H,PE (cxC X N' scope cl C D fp s H) elt te)
  (hs:∀ x,foldedSetIterable iter X.env x = pure x:=by intro _; rfl):PE X (.ListComp elt [⟨tg,iter,ifs,0⟩] scope pos) (Zz wi sub g tt te):=by
 intro pins s σ H Q I h
 obtain ⟨cl,hclos,hcl1,hcl2⟩:=S.clos I
 rw [eval_ListComp]
 refine wpAny_comprehension_free (use:=none) rfl hs hclos S.kind S.names (thn (hi pins s σ H _ I h) fun v s1 h1=>thn h1 fun itv s2 h2=>?_)
 obtain ⟨it,fp,tn,J,H2,e,I2,T,st2,f2,hW⟩:=h2
 subst e
 refine vU (RR:=fun acc C=>compPost (model X.prog X.w) X.A X.xe none (EP X pins σ Q) acc C) I2 hcalm T st2 f2 S hcl1 hcl2 (hg cl) (ht cl) (he cl) hW ?_
 intro D C oC m s' Hf IX hm fpc q
 refine ⟨m,hm,fun h' sb=>⟨.ref D,Hf,?_,rfl,q⟩⟩
 exact (IX.unpinned).turned (it:=C) (t':=s'.toks) (h':=h') (fun b o hb e=>sb.extBut b o hb e) fpc.1 fpc.2.1 fpc.2.2.2.1 fpc.2.2.2.2.1 fpc.2.2.2.2.2
theorem qW {i:Nat} {y:Str} {py spos:Pos} (hN:X.N.Nodup) (hiN:X.N[i]? = some y) (hy:X.env.scope.names.lookup y = some .local) (S:CSc X scope N' sub) (hcalm:X.calm = true) (hi:PI X tg iter wi)
  (hg:∀ cl C D fp s H,PG (cxC X N' scope cl C D fp s H) tg g) (ht:∀ cl C D fp s H,PIfs (cxC X N' scope cl C D fp s H) ifs tt) (he:∀ cl C D fp s H,PE (cxC X N' scope cl C D fp s H) elt te)
  (hsw:swapsWith (.ListComp elt [⟨tg,iter,ifs,0⟩] scope pos) (some (.Name y py)) spos.line X.env = pure true:=by rfl)
  (hs:∀ x,foldedSetIterable iter X.env x = pure x:=by intro _; rfl):PS X (.Assign [.Name y py] (.ListComp elt [⟨tg,iter,ifs,0⟩] scope pos) spos) (tAsg (Zz wi sub g tt te) (wc i)):=by
 intro pins s σ H D I h
 obtain ⟨cl,hclos,hcl1,hcl2⟩:=S.clos I
 rw [exec_Assign_Name_used _ _ _ _ hsw]
 refine wpAny_bind (wpAny_standAt (wpAny_bind ?_))
 show wpAny _ X.A (do let _ ← comprehension (.ListComp elt [⟨tg,iter,ifs,0⟩] scope pos) scope X.env _ (newList []) false (eval iter X.env) (some (assign (.Name y py) X.env))) _ _ s
 refine wpAny_bind (wpAny_mono (wpAny_comprehension_free (use:=some (assign (.Name y py) X.env)) (Q:=fun _ s'=>SP X pins D .next s') rfl hs hclos S.kind S.names
  (thn (hi pins s σ H _ I h) fun v s1 h1=>thn h1 fun itv s2 h2=>?_)) (fun _ s' hq=>wpAny_pure (wpAny_pure hq)) fun _ _ e=>e)
 obtain ⟨it,fp,tn,J,H2,e,I2,T,st2,f2,hW⟩:=h2
 subst e
 refine vU (Q:=fun x H1=>wc i x σ H1 D.nx) (RR:=fun acc C=>compPost (model X.prog X.w) X.A X.xe (some (assign (.Name y py) X.env)) (fun _ s'=>SP X pins D .next s') acc C) I2 hcalm T st2 f2 S hcl1 hcl2 (hg cl) (ht cl) (he cl) hW ?_
 intro L C oC m s' Hf IX hm fpc q
 have st:=zy (X:=X) (pos:=py) hN hiN (.inl hy) (.inr hy) _ s' σ Hf (.ref L) (.ref L) D.nx IX rfl q
 refine thn st fun _ s'' ⟨σ2,H2,I2',q2⟩=>?_
 have p:=I2'.pin (C,oC) (by simp)
 have hm':s''.heap.Ns C m:=by
  obtain ⟨o,es,ep,e1,r⟩:=hm
  have z:=(IX.pin (C,oC) (by simp)).1
  rw [e1] at z; cases z
  exact ⟨_,es,ep,p.1,r⟩
 refine ⟨m,hm',fun h' sb=>⟨σ2,H2,?_,q2⟩⟩
 exact (I2'.unpinned).turned (it:=C) (t':=s''.toks) (h':=h') (fun b o hb e=>sb.extBut b o hb e) p.2.1 fpc.2.1 fpc.2.2.2.1 fpc.2.2.2.2.1 fpc.2.2.2.2.2
end
section
variable {prog:Program} {w:World} {A:Around} {E:VS7} {s:Shared}
theorem Wp {h:Heap} {T:Addr} {a b:Value} (hp:IsPair h T a b) (v:Value):IsPair (h.update T (Obj.mapSeq fun x=>x.setIfInBounds 0 v)) T v b /\ Heap.SameBut T h (h.update T (Obj.mapSeq fun x=>x.setIfInBounds 0 v)) :=
 ⟨Heap.get?_update_self _ hp rfl,Heap.SameBut.update ..⟩
theorem Uq {h:Heap} {T:Addr} {a b:Value} (hp:IsPair h T a b) (v:Value):IsPair (h.update T (Obj.mapSeq fun x=>x.setIfInBounds 1 v)) T a v /\ Heap.SameBut T h (h.update T (Obj.mapSeq fun x=>x.setIfInBounds 1 v)) :=
 ⟨Heap.get?_update_self _ hp rfl,Heap.SameBut.update ..⟩
end
section
variable {prog:Program} {w:World} {A:Around} {E:VS7} {s:Shared}
theorem ZV {e:Addr} {Q:Option Value -> Shared -> Prop} (h:∃ o,s.heap.get? e = some o /\ o.cls = .type "StopIteration") (q:Q none s) :
  wpAny (model prog w) A (do if ← isInstance (.ref e) (.type "StopIteration") then pure none else throw (.ref e):Sem (Option Value)) Q E s:=by
 refine wpAny_bind (wpAny_isInstance (T:="StopIteration") (b:=true) h (by first | rfl | decide) ?_)
 rw [if_pos rfl]
 exact wpAny_pure q
def wS (h:Heap) (a:Addr) (cn:String) (vs:Array Value):Prop:=(cn = "tuple_iterator" /\ h.IsTuple a vs) \/ (cn = "list_iterator" /\ h.IsList a vs)
theorem wS.iter {a:Addr} {cn:String} {vs:Array Value} {Q:VS7} (h:wS s.heap a cn vs)
  (q:Q (.ref s.heap.objs.size) { s with heap:=s.heap.push { cls:=.type cn,data:=.fields #[.ref a,.int 0 0] } }):wpAny (model prog w) A (pyIter (.ref a)) Q E s:=by
 rcases h with ⟨rfl,h⟩ | ⟨rfl,h⟩
 ·exact wpAny_pyIter_tuple h q
 ·exact wpAny_pyIter_list h q
theorem wS.push {h:Heap} {a:Addr} {cn:String} {vs:Array Value} (x:wS h a cn vs) (o:Obj):wS (h.push o) a cn vs:=by
 rcases x with ⟨rfl,x⟩ | ⟨rfl,x⟩
 ·exact .inl ⟨rfl,x.push o⟩
 ·exact .inr ⟨rfl,x.push o⟩
def zpO (c:String) (a:Addr):Obj:={ cls:=.type c,data:=.fields #[.ref a,.int 0 0] }
def zpT (a b:Value):Obj:={ cls:=.type "tuple",data:=.seq #[a,b] }
def zpZ (TI TO:Addr):Obj:={ cls:=.type "zip",data:=.fields #[.none,.bool false,.bool false,.ref TI,.ref TO] }
def zpN (h:Heap) (c1:String) (a:Addr) (c2:String) (b:Addr):Addr :=
 let h1:=h.push (zpO c1 a)
 let h2:=h1.push (zpO c2 b)
 let h3:=h2.push (zpT (.ref h.objs.size) (.ref h1.objs.size))
 (h3.push (zpT .none .none)).objs.size
def zpH (h:Heap) (c1:String) (a:Addr) (c2:String) (b:Addr):Heap :=
 let h1:=h.push (zpO c1 a)
 let h2:=h1.push (zpO c2 b)
 let h3:=h2.push (zpT (.ref h.objs.size) (.ref h1.objs.size))
 let h4:=h3.push (zpT .none .none)
 h4.push (zpZ h2.objs.size h3.objs.size)
theorem Ve (a b:Addr) (c1 c2:String) (xs ys:Array Value) :
  Meets (Builtin.«zip.__new__» ⟨[.type "zip",.ref a,.ref b],[]⟩) (fun _ R s=>wS s.heap a c1 xs /\ wS s.heap b c2 ys ∧
   R (.ok (.ret (.ref (zpN s.heap c1 a c2 b)))) { s with heap:=zpH s.heap c1 a c2 b }) :=
 .of_wp fun prog w A R s h=>by
  obtain ⟨hp,g,d,tk,os⟩:=s; obtain ⟨h1,h2,h⟩:=h
  have hsub:=sub_zip
  have h2':wS (Shared.heap ⟨hp.push { cls:=.type c1,data:=.fields #[.ref a,.int 0 0] },g,d,tk,os⟩) b c2 ys:=h2.push _
  wp_walk using wS.iter h1,wS.iter h2'
  exact ⟨_,rfl,h⟩
theorem ZW {a b:Addr} {c1 c2:String} {xs ys:Array Value} {Q:VS7} (ha:wS s.heap a c1 xs) (hb:wS s.heap b c2 ys)
  (h:∀ h',IsZip h' (s.heap.objs.size + 4) (s.heap.objs.size + 2) (s.heap.objs.size + 3) .none -> IsPair h' (s.heap.objs.size + 2) (.ref s.heap.objs.size) (.ref (s.heap.objs.size + 1)) -> IsPair h' (s.heap.objs.size + 3) .none .none →
   h'.get? s.heap.objs.size = some (zpO c1 a) -> h'.get? (s.heap.objs.size + 1) = some (zpO c2 b) -> (∀ c o,s.heap.get? c = some o -> h'.get? c = some o) -> Q (.ref (s.heap.objs.size + 4)) { s with heap:=h' }) :
  wpAny (model prog w) A (call (.type "zip") [.ref a,.ref b]) Q E s:=by
 refine callType_new F.called_zip (by decide) (F.typeCall_zip_2 _ _) (F.newCall_zip_2 _ _) (fun obj=>F.args_object_init_3 obj _ _) F.entry_zip_new (Ve a b c1 c2 xs ys) ⟨ha,hb,?_⟩
 have gs:∀ (h:Heap) (o:Obj) (m:Nat),o.isFreed = false -> h.objs.size = m -> (h.push o).get? m = some o /\ (h.push o).objs.size = m + 1:=fun h o m f e=>by
  subst e; exact ⟨Heap.get?_push_size _ f,Heap.size_push ..⟩
 obtain ⟨e1,z1⟩:=gs s.heap (zpO c1 a) _ rfl rfl
 obtain ⟨e2,z2⟩:=gs (s.heap.push (zpO c1 a)) (zpO c2 b) _ rfl z1
 obtain ⟨e3,z3⟩:=gs ((s.heap.push (zpO c1 a)).push (zpO c2 b)) (zpT (.ref s.heap.objs.size) (.ref (s.heap.push (zpO c1 a)).objs.size)) _ rfl z2
 obtain ⟨e4,z4⟩:=gs (((s.heap.push (zpO c1 a)).push (zpO c2 b)).push (zpT (.ref s.heap.objs.size) (.ref (s.heap.push (zpO c1 a)).objs.size))) (zpT .none .none) _ rfl z3
 obtain ⟨e5,z5⟩:=gs ((((s.heap.push (zpO c1 a)).push (zpO c2 b)).push (zpT (.ref s.heap.objs.size) (.ref (s.heap.push (zpO c1 a)).objs.size))).push (zpT .none .none)) (zpZ ((s.heap.push (zpO c1 a)).push (zpO c2 b)).objs.size (((s.heap.push (zpO c1 a)).push (zpO c2 b)).push (zpT (.ref s.heap.objs.size) (.ref (s.heap.push (zpO c1 a)).objs.size))).objs.size) _ rfl z4
 have eN:zpN s.heap c1 a c2 b = s.heap.objs.size + 4:=z4
 have ps:∀ (h:Heap) (o:Obj) (c:Addr) (q:Obj),h.get? c = some q -> (h.push o).get? c = some q:=fun h o c q e=>Heap.get?_push_of_some _ e
 have f5:(zpH s.heap c1 a c2 b).get? (s.heap.objs.size + 4) = some (zpZ (s.heap.objs.size + 2) (s.heap.objs.size + 3)):=by
  have:=e5
  rw [z2,z3] at this
  unfold zpH
  dsimp only
  rw [z2,z3]
  exact this
 have f3:(zpH s.heap c1 a c2 b).get? (s.heap.objs.size + 2) = some (zpT (.ref s.heap.objs.size) (.ref (s.heap.objs.size + 1))):=by
  have:=ps _ (zpZ ((s.heap.push (zpO c1 a)).push (zpO c2 b)).objs.size (((s.heap.push (zpO c1 a)).push (zpO c2 b)).push (zpT (.ref s.heap.objs.size) (.ref (s.heap.push (zpO c1 a)).objs.size))).objs.size) _ _ (ps _ (zpT .none .none) _ _ e3)
  unfold zpH
  dsimp only
  exact this.trans (by rw [z1])
 have f4:(zpH s.heap c1 a c2 b).get? (s.heap.objs.size + 3) = some (zpT .none .none):=ps _ _ _ _ e4
 have f1:(zpH s.heap c1 a c2 b).get? s.heap.objs.size = some (zpO c1 a):=ps _ _ _ _ (ps _ _ _ _ (ps _ _ _ _ (ps _ _ _ _ e1)))
 have f2:(zpH s.heap c1 a c2 b).get? (s.heap.objs.size + 1) = some (zpO c2 b):=ps _ _ _ _ (ps _ _ _ _ (ps _ _ _ _ e2))
 have fk:∀ c o,s.heap.get? c = some o -> (zpH s.heap c1 a c2 b).get? c = some o:=fun c o e=>ps _ _ _ _ (ps _ _ _ _ (ps _ _ _ _ (ps _ _ _ _ (ps _ _ _ _ e))))
 show _ /\ _
 rw [eN]
 exact ⟨⟨_,f5,rfl⟩,h _ f5 f3 f4 f1 f2 fk⟩
end
def SqC (c:Bool) (K:FG7) (H:Hp) (a:Addr) (xs:List V):Prop:=match c with
 | true=>SqT K H a xs
 | false=>SqL K H a xs
def wT (c:Bool) (h:Heap) (j a:Addr) (i:Nat):Prop:=match c with
 | true=>h.IsTupleIter j a i
 | false=>h.IsListIter j a i
def SeqC (c:Bool) (h:Heap) (a:Addr) (vs:Array Value):Prop:=match c with
 | true=>h.IsTuple a vs
 | false=>h.IsList a vs
def cnC (c:Bool):String:=match c with
 | true=>"tuple_iterator"
 | false=>"list_iterator"
theorem wT.at {c:Bool} {h h':Heap} {j a:Addr} {i:Nat} (x:wT c h j a i) (k:∀ o,h.get? j = some o -> h'.get? j = some o):wT c h' j a i:=by
 cases c
 ·exact Heap.IsListIter.at x k
 ·exact Heap.IsTupleIter.at x k
theorem wT.obj {c:Bool} {h:Heap} {j a:Addr} {i:Nat} (x:wT c h j a i):∃ o,h.get? j = some o /\ ∀ v,o.data ≠ .cell v:=by
 cases c
 ·obtain ⟨o,e,_,d⟩:=x
  exact ⟨o,e,fun v z=>by rw [d] at z; cases z⟩
 ·obtain ⟨o,e,_,d⟩:=x
  exact ⟨o,e,fun v z=>by rw [d] at z; cases z⟩
theorem wT.mk {c:Bool} {h:Heap} {j a:Addr} (e:h.get? j = some (zpO (cnC c) a)):wT c h j a 0:=by
 cases c
 ·exact ⟨_,e,rfl,rfl⟩
 ·exact ⟨_,e,rfl,rfl⟩
theorem SeqC.src {c:Bool} {h:Heap} {a:Addr} {vs:Array Value} (x:SeqC c h a vs):wS h a (cnC c) vs:=by
 cases c
 ·exact .inr ⟨rfl,x⟩
 ·exact .inl ⟨rfl,x⟩
theorem SeqC.lt {c:Bool} {h:Heap} {a:Addr} {vs:Array Value} (x:SeqC c h a vs):a < h.objs.size:=by
 cases c
 ·obtain ⟨_,e,_⟩:=(show h.IsList a vs from x); exact Heap.lt_size e
 ·obtain ⟨_,e,_⟩:=(show h.IsTuple a vs from x); exact Heap.lt_size e
theorem uI {prog:Program} {w:World} {A:Around} (hh:A.handled = none) (c:Bool) (j t:Addr) (hne:t ≠ j) (vs:Array Value) :
  Draws prog w A j [j,t] vs.size (fun i v=>vs[i]? = some v) (fun i h=>wT c h j t i /\ SeqC c h t vs):=by
 cases c
 ·exact Draws.list hh j t hne vs
 ·exact ZI hh j t hne vs
theorem jM {prog:Program} {w:World} {A:Around} (hh:A.handled = none) (jt t:Addr) (vs:Array Value) {i:Nat} (hv:vs[i]? = none) :
  Draws prog w A jt [jt,t] i (fun _ _=>True) (fun j h=>j = i /\ h.IsListIter jt t i /\ h.IsList t vs) where
 live:=fun _ _ st=>let ⟨o,ho,_⟩:=st.2.1; ⟨o,ho⟩
 frame:=fun _ _ _ st hk=>⟨st.1,st.2.1.at (hk jt (by simp)),st.2.2.at (hk t (by simp))⟩
 item:=fun j s Q E hj st hQ=>absurd st.1 (Nat.ne_of_lt hj)
 done:=fun s Q E st hE=>wpAny_nextOf_list_end hh st.2.1 st.2.2 hv hE
theorem xQ {prog:Program} {w:World} {A:Around} (hh:A.handled = none) (c:Bool) (j t:Addr) (vs:Array Value) {i:Nat} (hv:vs[i]? = none) :
  Draws prog w A j [j,t] i (fun _ _=>True) (fun k h=>k = i /\ wT c h j t i /\ SeqC c h t vs):=by
 cases c
 ·exact jM hh j t vs hv
 ·exact ZJ hh j t vs hv
theorem xR {X:Cx} {pins:List (Addr × Obj)} {σ:L2.St} {H:Hp} {s:Shared} {c:Bool} {a:Addr} {xs:List V} (I:Inv X pins σ H s) (h:SqC c X.K H a xs):∃ its:List Value,Vals xs its /\ SeqC c s.heap a its.toArray:=by
 cases c
 ·obtain ⟨its,r,p,_⟩:=I.list h
  exact ⟨its,r,p.isList⟩
 ·obtain ⟨its,r,p,_⟩:=I.tuple h
  exact ⟨its,r,p⟩
theorem y8 {X:Cx} {pins:List (Addr × Obj)} {σ:L2.St} {H:Hp} {s:Shared} {c:Bool} {a:Addr} {xs ys:List V} (I:Inv X pins σ H s) (h:SqC c X.K H a xs) (h':SqC c X.K H a ys):xs = ys:=by
 cases c
 ·exact I.list_inj h h'
 ·exact I.tuple_inj h h'
theorem nin2 {z j t:Nat} (h1:z ≠ j) (h2:z ≠ t):z ∉ ([j,t]:List Nat):=by simp [h1,h2]
def Itz (K:FG7) (c:Bool) (a:Addr) (d:Bool) (b:Addr):It :=
  ⟨fun i H=>∃ xs ys x y,SqC c K H a xs /\ SqC d K H b ys /\ xs[i]? = some x /\ ys[i]? = some y,
   fun i H x H'=>∃ T v w,H T = none /\ x = .ref T /\ H' = upd H T (.tup [v,w]) /\ (∀ xs,SqC c K H a xs -> xs[i]? = some v) /\ ∀ ys,SqC d K H b ys -> ys[i]? = some w,
   fun i H=>∃ xs ys,SqC c K H a xs /\ SqC d K H b ys /\ (xs.length <= i \/ ys.length <= i)⟩
theorem nad {n:Nat} (i j:Nat) (h:i ≠ j):n + i ≠ n + j:=fun z=>h (Nat.add_left_cancel z)
theorem nad0 {n:Nat} (i:Nat) (h:i ≠ 0):n + i ≠ n:=fun z=>h (Nat.add_left_cancel (z.trans (Nat.add_zero n).symm))
section
variable {X:Cx} {elts:List Expr} {kt:Nat} {pt:Pos}
theorem TB:bootBuiltins "zip" = some (.type "zip"):=by decide +kernel
end
def InC (C:Int) (xs:List Int):Prop:=∀ v ∈ xs,-C <= v /\ v <= C
theorem InC.mono {B C:Int} {xs:List Int} (h:InC B xs) (hC:B <= C):InC C xs:=fun v hv=>by have:=h v hv; omega
theorem vO:∀ {ns:List Int} {us:List Value},IntsAre us ns -> Vals (ns.map V.int) us:=by
 intro ns us h
 induction h with
 | nil=>exact .nil
 | cons n t _ ih=>exact .cons ⟨t,rfl⟩ ih
section
variable {X:Cx} {K:FG7}
theorem vA {α β:Type} {f g:α -> Option β}:∀ {l:List α},(∀ x ∈ l,f x = g x) -> l.filterMap f = l.filterMap g
 | [],_=>rfl
 | x :: xs,h=>by rw [List.filterMap_cons,List.filterMap_cons,h x (by simp),vA fun y hy=>h y (List.mem_cons_of_mem _ hy)]
theorem tf (its:List Value):slicePick its.toArray none none (some (-1)) = its.reverse.toArray:=by
 have key:∀ l:List Value,((List.range l.length).map fun k:Nat=>((l.length:Int) - 1 + -1 * (k:Int)).toNat).filterMap (l.toArray[·]?) = l.reverse:=by
  intro l
  refine List.ext_getElem? fun i=>?_
  have e:((List.range l.length).map fun k:Nat=>((l.length:Int) - 1 + -1 * (k:Int)).toNat).filterMap (l.toArray[·]?) = (List.range l.length).filterMap fun k=>l[l.length - 1 - k]?:=by
   rw [List.filterMap_map]
   refine vA fun k hk=>?_
   have:=List.mem_range.mp hk
   show l.toArray[((l.length:Int) - 1 + -1 * (k:Int)).toNat]? = _
   rw [show ((l.length:Int) - 1 + -1 * (k:Int)).toNat = l.length - 1 - k by omega]; simp
  have e2:(List.range l.length).filterMap (fun k=>l[l.length - 1 - k]?) = (List.range l.length).map fun k=>l.getD (l.length - 1 - k) .none:=by
   rw [← List.filterMap_eq_map]
   refine vA fun k hk=>?_
   have:=List.mem_range.mp hk
   rw [List.getElem?_eq_getElem (by omega)]
   show _ = some (l.getD (l.length - 1 - k) .none)
   rw [List.getD_eq_getElem?_getD,List.getElem?_eq_getElem (by omega)]; rfl
  rw [e,e2,List.getElem?_map]
  by_cases hi:i < l.length
  ·rw [List.getElem?_range hi,List.getElem?_reverse hi,List.getElem?_eq_getElem (by omega)]
   show some (l.getD (l.length - 1 - i) .none) = _
   rw [List.getD_eq_getElem?_getD,List.getElem?_eq_getElem (by omega)]; rfl
  ·rw [List.getElem?_eq_none (by rw [List.length_range]; omega),List.getElem?_eq_none (by rw [List.length_reverse]; omega)]; rfl
 unfold slicePick
 have b1:(sliceBounds none none (some (-1)) its.toArray.size).1 = (its.length:Int) - 1:=by simp [sliceBounds]
 have b2:(sliceBounds none none (some (-1)) its.toArray.size).2.1 = -1:=by simp [sliceBounds]
 have b3:(sliceBounds none none (some (-1)) its.toArray.size).2.2 = -1:=rfl
 rw [b1,b2,b3]
 have c:sliceRange ((its.length:Int) - 1) (-1) (-1) = (List.range its.length).map fun k:Nat=>((its.length:Int) - 1 + -1 * (k:Int)).toNat:=by
  unfold sliceRange
  by_cases h:its.length = 0
  ·rw [h]; rfl
  ·rw [if_neg (by decide),if_pos (by omega)]
   have:(((its.length:Int) - 1 - -1 - -1 - 1) / (- -1)).toNat = its.length:=by
    rw [show ((its.length:Int) - 1 - -1 - -1 - 1) = its.length by omega,show (- -1:Int) = 1 from rfl,Int.ediv_one]; omega
   dsimp only
   rw [this]
 rw [c,key]
theorem ZX:∀ {xs:List V} {us:List Value},Vals xs us -> Vals xs.reverse us.reverse
 | _,_,.nil=>.nil
 | _,_,.cons r t=>by
  rw [List.reverse_cons,List.reverse_cons]
  exact (ZX t).append (.cons r .nil)
def TC (K:FG7) (te:TE):TE:=fun σ H Q=>te σ H fun x H1=>∃ a xs,x = .ref a /\ SqL K H1 a xs /\ ∀ p,H1 p = none -> Q (.ref p) (upd H1 p (.lst xs.reverse))
theorem Vf {e:Expr} {te:TE} {j:Nat} {pc pu p2 pos:Pos} (hK:X.K = K) (he:PE X e te):PE X (.Subscript e (.Slice none none (some (.UnaryOp .USub (.Constant (.int 1) j pc) pu)) p2) pos) (TC K te):=by
 subst hK
 intro pins s σ H Q I h
 refine Subscript_ (thn (he pins s σ H _ I h) fun v s1 ⟨x,H1,I1,r1,q1⟩=>?_)
 obtain ⟨a,xs,rfl,hx,q⟩:=q1
 cases (show v = Value.ref a from r1)
 refine wpAny_Slice (thn (yu pins s1 σ H1 (fun o H2=>o = none /\ H2 = H1) I1 ⟨rfl,rfl⟩) fun vl s2 ⟨l,H2,I2,pl,q2a,q2⟩=>thn (yu pins s2 σ H2 (fun o H3=>o = none /\ H3 = H1) I2 ⟨rfl,q2⟩) fun vu s3 ⟨u,H3,I3,pu',q3a,q3⟩=>?_)
 subst q2a q3a
 cases pl
 cases pu'
 subst q3
 refine thn (yF (WP Zk zg) pins s3 σ H3 (fun o H4=>o = some (-1) /\ H4 = H3) I3 ⟨_,rfl,_,rfl,rfl,rfl⟩) fun vs s4 ⟨o,H4,I4,po,q4,q5⟩=>?_
 subst q4 q5
 have I5:Inv X pins σ H4 { s4 with heap:=s4.heap.push { cls:=.type "slice",data:=.fields #[.none,.none,vs] } }:=I4.kept (t':=s4.toks) fun b ob q=>Heap.get?_push_of_some _ q
 show wpAny (model X.prog X.w) X.A (subscriptTail e _ (.ref a) (.ref s4.heap.objs.size)) (EP X pins σ Q) X.xe { s4 with heap:=s4.heap.push { cls:=.type "slice",data:=.fields #[.none,.none,vs] } }
 obtain ⟨its,r,ht,hz⟩:=I5.list hx
 have hlen:=r.length
 refine tail_any (ops:=[.ref a,.ref s4.heap.objs.size]) ht.isList.typeIs slot_list_getitem.lookup ?_ (by with_unfolding_all rfl)
 refine wpAny_getItem_list_slice ht.isList (Heap.IsSliceOf.new ..) .none .none po (by decide) ?_ (by rw [List.size_toArray] <;> omega)
 rw [tf]
 refine ⟨.ref _,_,I5.laid (t':=s4.toks) (o:=.lst xs.reverse) (fun b ob q=>Heap.get?_push_of_some _ q) (Nat.le_refl _) ?_,rfl,q _ (I5.hok.fresh (Nat.le_refl _))⟩
 exact ⟨by rw [List.length_reverse]; exact hz,_,0,ZX r,Heap.get?_push_size _ rfl⟩
end
structure Wk (prog:Program) (w:World) (A:Around) (T:String) (I:Addr) (n:Nat) (Fr:Addr -> Prop) (J:List Value -> Shared -> Prop) (Fn:List Value -> Shared -> Prop):Prop where
 ty:∀ acc s,J acc s -> s.TypeIs (.ref I) T
 self:∀ acc s (Q:VS7) (E:VS7),J acc s -> Q (.ref I) s -> wpAny (model prog w) A (pyIter (.ref I)) Q E s
 stay:∀ acc s (S:Addr) (ob:Obj) (h':Heap),J acc s -> Fr S -> s.heap.get? S = some ob -> ob.cls = .type "list" -> (∀ b o,b ≠ S -> s.heap.get? b = some o -> h'.get? b = some o) -> h'.objs.size = s.heap.objs.size -> J acc { s with heap:=h' }
 next:∀ acc s (S:Addr) (ob:Obj) (Q:Option Value -> Shared -> Prop) (E:VS7),J acc s -> Fr S -> s.heap.get? S = some ob -> ob.cls = .type "list" →
  (∀ v s',acc.length < n -> J (acc ++ [v]) s' -> s'.heap.get? S = some ob -> Q (some v) s') -> (∀ s',Fn acc s' -> s'.heap.get? S = some ob -> Q none s') -> wpAny (model prog w) A (pyNext (.ref I)) Q E s
 push:∀ acc s (o:Obj),J acc s -> J acc { s with heap:=s.heap.push o }
section
variable {X:Cx} {K:FG7}
theorem Xm {k:Nat} (hK:X.K = K) (hr:Room k X.A):OpR X (compareOp .NotEq) (fun x y H Q=>∃ a b xs,x = .ref a /\ y = .ref b /\ SqL K H a xs /\ SqL K H b [] /\ Q (.bl (!xs.isEmpty)) H):=by
 subst hK
 intro pins s σ H x y v u Q I rx ry h
 obtain ⟨a,b,xs,rfl,rfl,ha,hb,q⟩:=h
 cases rx; cases ry
 obtain ⟨us,r1,t1,_⟩:=I.list ha
 obtain ⟨ws,r2,t2,_⟩:=I.list hb
 have hw:ws.length = 0:=r2.length.symm
 by_cases hl:us.length = ws.length
 ·refine SeqAt.RcNeAt.lists (e:=fun _=>true) t1.isList t2.isList (by simpa using hl) hr.units0 (fun j h1 h2=>absurd h2 (by simp; omega)) _ _ _ _ ?_
  have e:xs = []:=List.length_eq_zero_iff.mp (by rw [r1.length]; omega)
  subst e
  have e2:us = []:=List.length_eq_zero_iff.mp (by omega)
  subst e2
  exact ⟨.bl _,H,I,rfl,q⟩
 ·refine SeqAt.RcNeAt.lists_lengths t1.isList t2.isList (by simpa using hl) hr.units0 _ _ _ _ ?_
  have e:xs.isEmpty = false:=by
   cases xs with
   | nil=>exact absurd (by rw [← r1.length,hw]; rfl) hl
   | cons _ _=>rfl
  rw [e] at q
  exact ⟨.bl _,H,I,rfl,q⟩
end
def vj (H:Hp) (a:Addr):Prop:=∃ p0 c t:Int,H a = some (.lst [.int p0,.int c,.int t]) /\ 0 <= p0
theorem vj.grow {H H':Hp} {a:Addr} (p:vj H a) (g:Grow [] H H'):vj H' a:=by
 obtain ⟨x,y,z,h,q⟩:=p
 exact ⟨x,y,z,g.keep _ _ (by simp) h,q⟩
theorem vj.new {H:Hp} {a l:Addr} (p:vj H a) (hl:H l = none) (o:HO):vj (upd H l o) a:=p.grow (Grow.new hl o)
theorem vj.ne {H:Hp} {a l:Addr} (p:vj H a) (h:H l = none):l ∉ [a]:=by
 intro z
 obtain ⟨x,y,w,hz,_⟩:=p
 rw [List.mem_singleton.mp z,hz] at h
 cases h
def PrAt (K:FG7) (H:Hp) (x:V) (q:Nat × Nat):Prop:=∃ r,x = .ref r /\ SqT K H r [.int q.1,.int q.2]
theorem Grow.prs {m:List Addr} {H H':Hp} (g:Grow m H H') {K:FG7} {xs:List V} {qs:List (Nat × Nat)} (h:AllR (PrAt K H) xs qs):AllR (PrAt K H') xs qs:=h.imp fun _ _ ⟨r,e,z⟩=>⟨r,e,g.sqT z⟩
def TD (ns:List Int):List Int:=ns.mergeSort fun a b=>decide (a <= b)
def dupS:List Int -> Option Int
 | a :: b :: r=>if a = b then some a else dupS (b :: r)
 | _=>none
def Ur (rows:List (List Int)) (l:Nat):List Int:=rows.map fun r=>r.getD l 0
def wC (rows:List (List Int)) (l:Nat):Option Int:=dupS (TD (Ur rows l))
def tj (k:Nat) (rows:List (List Int)) (o:Option (Nat × Int)):Prop:=match o with
 | none=>∀ l,l <= k -> wC rows l = none
 | some (l,v)=>l <= k /\ wC rows l = some v /\ ∀ j,j < l -> wC rows j = none
theorem tj.one {k:Nat} {rows rows':List (List Int)} {o o':Option (Nat × Int)} (e:∀ l,wC rows l = wC rows' l) (h:tj k rows o) (h':tj k rows' o'):o = o':=by
 cases o with
 | none =>
  cases o' with
  | none=>rfl
  | some p =>
   obtain ⟨l,v⟩:=p
   have z:=h l h'.1
   rw [e,h'.2.1] at z; cases z
 | some p =>
  obtain ⟨l,v⟩:=p
  cases o' with
  | none =>
   have z:=h' l h.1
   rw [← e,h.2.1] at z; cases z
  | some p' =>
   obtain ⟨l',v'⟩:=p'
   obtain ⟨a1,a2,a3⟩:=h
   obtain ⟨b1,b2,b3⟩:=h'
   by_cases c:l < l'
   ·have z:=b3 l c
    rw [← e,a2] at z; cases z
   ·by_cases c2:l' < l
    ·have z:=a3 l' c2
     rw [e,b2] at z; cases z
    ·have:l = l':=by omega
     subst this
     rw [e,b2] at a2
     cases a2; rfl
def ZY (K:FG7) (H:Hp) (x:V) (o:Option (Nat × Int)):Prop:=match o with
 | none=>x = .non
 | some (l,v)=>∃ r,x = .ref r /\ SqT K H r [.int l,.int v]
theorem Grow.clash {m:List Addr} {H H':Hp} (g:Grow m H H') {K:FG7} {x:V} {o:Option (Nat × Int)} (h:ZY K H x o):ZY K H' x o:=by
 cases o with
 | none=>exact h
 | some p =>
  obtain ⟨l,v⟩:=p
  obtain ⟨r,e,z⟩:=h
  exact ⟨r,e,g.sqT z⟩
mutual
inductive Dq (K:FG7) (H:Hp):V -> PyData -> Prop
 | non:Dq K H .non .none
 | bl (b:Bool):Dq K H (.bl b) (.bool b)
 | int (i:Int):Dq K H (.int i) (.int i)
 | str (x:Str):Dq K H (.str x) (.str x)
 | tup {a:Addr} {xs:List V} {ds:List PyData}:SqT K H a xs -> DqAll K H xs ds -> Dq K H (.ref a) (.tuple ds)
 | lst {a:Addr} {xs:List V} {ds:List PyData}:SqL K H a xs -> DqAll K H xs ds -> Dq K H (.ref a) (.list ds)
inductive DqAll (K:FG7) (H:Hp):List V -> List PyData -> Prop
 | nil:DqAll K H [] []
 | cons {x:V} {xs:List V} {d:PyData} {ds:List PyData}:Dq K H x d -> DqAll K H xs ds -> DqAll K H (x :: xs) (d :: ds)
end
mutual
theorem Dat.dq {K:FG7} {H:Hp}:∀ {x:V} {d:PyData},Dat K H x d -> Dq K H x d
 | _,_,.non=>.non
 | _,_,.bl b=>.bl b
 | _,_,.int i=>.int i
 | _,_,.tup h t=>.tup h (DatAll.dq t)
 | _,_,.lst h t=>.lst h (DatAll.dq t)
theorem DatAll.dq {K:FG7} {H:Hp}:∀ {xs:List V} {ds:List PyData},DatAll K H xs ds -> DqAll K H xs ds
 | _,_,.nil=>.nil
 | _,_,.cons h t=>.cons (Dat.dq h) (DatAll.dq t)
end
theorem DqAll.len {K:FG7} {H:Hp}:∀ {xs:List V} {ds:List PyData},DqAll K H xs ds -> xs.length = ds.length
 | _,_,.nil=>rfl
 | _,_,.cons _ t=>congrArg (· + 1) (DqAll.len t)
theorem DqAll.app {K:FG7} {H:Hp}:∀ {xs:List V} {ds:List PyData} {ys:List V} {es:List PyData},DqAll K H xs ds -> DqAll K H ys es -> DqAll K H (xs ++ ys) (ds ++ es)
 | _,_,_,_,.nil,h=>h
 | _,_,_,_,.cons h t,g=>.cons h (DqAll.app t g)
theorem vB (n:Nat):(List.range n).all (fun _=>true) = true:=List.all_eq_true.mpr fun _ _=>rfl
section
variable {X:Cx} {pins:List (Addr × Obj)} {σ:L2.St} {H:Hp} {s:Shared}
mutual
theorem dq_eq (I:Inv X pins σ H s):∀ {d:PyData} {x y:V} {u v:Value} {A:Around},Dq X.K H x d -> Dq X.K H y d -> RelV x u -> RelV y v -> A.units + d.depth < cLine -> SeqAt.EqAt A s u v true
 | _,_,y,u,v,A,.non,hy,ru,rv,_=>by
  cases hy
  cases (show u = Value.none from ru)
  cases (show v = Value.none from rv)
  exact SeqAt.EqAt.same _
 | _,_,y,u,v,A,.bl b,hy,ru,rv,_=>by
  cases hy
  cases (show u = Value.bool b from ru)
  cases (show v = Value.bool b from rv)
  exact SeqAt.EqAt.same _
 | _,_,y,u,v,A,.int i,hy,ru,rv,_=>by
  cases hy
  obtain ⟨t,rfl⟩:=ru
  obtain ⟨t',rfl⟩:=rv
  have z:=SeqAt.EqAt.int_int (A:=A) (s:=s) i t i t'
  rw [beq_self_eq_true] at z
  exact z
 | _,_,y,u,v,A,.str x,hy,ru,rv,_=>by
  cases hy
  obtain ⟨t,rfl⟩:=ru
  obtain ⟨t',rfl⟩:=rv
  have z:=SeqAt.EqAt.str_str (A:=A) (s:=s) x t x t'
  rw [beq_self_eq_true] at z
  exact z
 | _,_,y,u,v,A,.tup (a:=a) (xs:=xs) (ds:=ds) hs ha,hy,ru,rv,hu=>by
  cases hy with
  | tup hs' ha' =>
   rename_i a' xs'
   cases (show u = Value.ref a from ru)
   cases (show v = Value.ref a' from rv)
   obtain ⟨us,r1,t1,_⟩:=I.tuple hs
   obtain ⟨ws,r2,t2,_⟩:=I.tuple hs'
   have hd:A.units + (PyData.depthAll ds + 1) < cLine:=hu
   by_cases e:a = a'
   ·subst e; exact SeqAt.EqAt.same _
   ·have l1:=ha.len
    have l2:=ha'.len
    have q:=SeqAt.RcAt.tuples (e:=fun _=>true) (yU t1) (yU t2) (by omega) (dqs_eq I ha ha' r1 r2 (A:=A.in1) (by show A.units + 1 + PyData.depthAll ds < cLine; omega))
    rw [vB,Bool.true_and,List.size_toArray,List.size_toArray,← r1.length,← r2.length,l1,l2,beq_self_eq_true] at q
    exact SeqAt.EqAt.of_refs e q
 | _,_,y,u,v,A,.lst (a:=a) (xs:=xs) (ds:=ds) hs ha,hy,ru,rv,hu=>by
  cases hy with
  | lst hs' ha' =>
   rename_i a' xs'
   cases (show u = Value.ref a from ru)
   cases (show v = Value.ref a' from rv)
   obtain ⟨us,r1,t1,_⟩:=I.list hs
   obtain ⟨ws,r2,t2,_⟩:=I.list hs'
   have hd:A.units + (PyData.depthAll ds + 1) < cLine:=hu
   by_cases e:a = a'
   ·subst e; exact SeqAt.EqAt.same _
   ·have l1:=ha.len
    have l2:=ha'.len
    have q:=SeqAt.RcAt.lists (e:=fun _=>true) t1.isList t2.isList (by rw [List.size_toArray,List.size_toArray,← r1.length,← r2.length,l1,l2]) (by omega) (dqs_eq I ha ha' r1 r2 (A:=A.in1) (by show A.units + 1 + PyData.depthAll ds < cLine; omega))
    rw [vB] at q
    exact SeqAt.EqAt.of_refs e q
theorem dqs_eq (I:Inv X pins σ H s):∀ {ds:List PyData} {xs ys:List V} {us vs:List Value} {A:Around},DqAll X.K H xs ds -> DqAll X.K H ys ds -> Vals xs us -> Vals ys vs -> A.units + PyData.depthAll ds < cLine →
  ∀ j (h1:j < us.toArray.size) (h2:j < vs.toArray.size),SeqAt.EqAt A s us.toArray[j] vs.toArray[j] true
 | _,_,_,_,_,A,.nil,hy,ru,rv,_=>fun j h1 _=>by
  cases ru
  exact absurd h1 (Nat.not_lt_zero j)
 | _,_,_,_,_,A,.cons (d:=d) (ds:=ds) hx tx,hy,ru,rv,hd=>fun j h1 h2=>by
  cases hy with
  | cons hy ty =>
   cases ru with
   | cons r1 rr1 =>
    cases rv with
    | cons r2 rr2 =>
     have hd':A.units + max d.depth (PyData.depthAll ds) < cLine:=hd
     cases j with
     | zero=>simpa using dq_eq I hx hy r1 r2 (A:=A) (by omega)
     | succ j =>
      have z:=dqs_eq I tx ty rr1 rr2 (A:=A) (by omega) j (by simpa using h1) (by simpa using h2)
      simpa using z
end
variable {K:FG7}
def Us (K:FG7) (neg:Bool):R2:=fun x y H Q=>∃ d,Dq K H x d /\ Dq K H y d /\ (∃ a,x = .ref a) /\ d.depth <= 100 /\ Q (.bl neg) H
theorem Ut {k:Nat} (hK:X.K = K) (hr:Room k X.A):OpR X (compareOp .Eq) (Us K true):=by
 subst hK
 intro pins s σ H x y u v Q I rx ry h
 obtain ⟨d,hx,hy,⟨a0,e0⟩,hd,q⟩:=h
 have hu:=hr.un
 cases hx with
 | non=>cases e0
 | bl b=>cases e0
 | int i=>cases e0
 | str x=>cases e0
 | tup hs ha =>
  cases hy with
  | tup hs' ha' =>
   rename_i a xs ds a' xs'
   cases (show u = Value.ref a from rx)
   cases (show v = Value.ref a' from ry)
   obtain ⟨us,r1,t1,_⟩:=I.tuple hs
   obtain ⟨ws,r2,t2,_⟩:=I.tuple hs'
   have hd':PyData.depthAll ds + 1 <= 100:=hd
   refine SeqAt.eq_tupleAt (e:=fun _=>true) (yU t1) (yU t2) hr.units0 (dqs_eq I ha ha' r1 r2 (A:=X.A.in1) (by show X.A.units + 1 + PyData.depthAll ds < cLine; omega)) ?_
   rw [vB,Bool.true_and,List.size_toArray,List.size_toArray,← r1.length,← r2.length,ha.len,ha'.len,beq_self_eq_true]
   exact ⟨.bl true,H,I,rfl,q⟩
 | lst hs ha =>
  cases hy with
  | lst hs' ha' =>
   rename_i a xs ds a' xs'
   cases (show u = Value.ref a from rx)
   cases (show v = Value.ref a' from ry)
   obtain ⟨us,r1,t1,_⟩:=I.list hs
   obtain ⟨ws,r2,t2,_⟩:=I.list hs'
   have hd':PyData.depthAll ds + 1 <= 100:=hd
   refine SeqAt.eq_listAt (e:=fun _=>true) t1.isList t2.isList (by rw [List.size_toArray,List.size_toArray,← r1.length,← r2.length,ha.len,ha'.len]) hr.units0 (dqs_eq I ha ha' r1 r2 (A:=X.A.in1) (by show X.A.units + 1 + PyData.depthAll ds < cLine; omega)) ?_
   rw [vB]
   exact ⟨.bl true,H,I,rfl,q⟩
end
def xN (k st a:Nat):Nat:=a ^^^ 2 ^ (k - st)
def nN (k st a:Nat):Nat:=(W5 k a st).toNat
def lN (k h g n:Nat):Nat:=(W4 k h g n).toNat
structure OneF (k st a:Nat):Prop where
 sw:swI k st a = W5 k a st
 num:W5 k a st = (nN k st a:Int)
 lt:nN k st a < 2 ^ (k - 1)
 nx:nN k st (xN k st a) = nN k st a
 xx:xN k st (xN k st a) = a
 xne:xN k st a ≠ a
 xlt:xN k st a < 2 ^ k
 w0:wfI k st a (Builtin.bitXor (figI k st a) 0) = (a:Int)
 w1:wfI k st a (Builtin.bitXor (figI k st a) 1) = (xN k st a:Int)
 c1:Builtin.bitXor (figI k st a) (figI k st (xN k st a)) = 1
 c0:Builtin.bitXor (figI k st a) (figI k st a) = 0
 b0:Builtin.bitXor (figI k st a) 0 = 0 \/ Builtin.bitXor (figI k st a) 0 = 1
 b1:Builtin.bitXor (figI k st a) 1 = 0 \/ Builtin.bitXor (figI k st a) 1 = 1
def plOf (gs:List Nat):List (Nat × Nat):=(List.range gs.length).map fun h=>(h,gs.getD h 0)
def vV (k:Nat) (gs:List Nat):Prop:=gs.length = 2 ^ k /\ ∀ g ∈ gs,g < 2 ^ k
theorem vV.get {k:Nat} {gs:List Nat} (h:vV k gs) {i:Nat} (hi:i < 2 ^ k):gs.getD i 0 < 2 ^ k:=by
 rw [List.getD_eq_getElem?_getD,List.getElem?_eq_getElem (by rw [h.1]; exact hi)]
 exact h.2 _ (List.getElem_mem _)
def Uu (k st:Nat) (q:Nat × Nat):Int:=Builtin.bitXor (figI k st (W4 k q.1 q.2 (st - 1))) (figI k st (W4 k q.1 q.2 st))
def Uv (k st:Nat) (m:List Int) (q:Nat × Nat):List Int:=m.set (nN k st (lN k q.1 q.2 st)) (Uu k st q)
def Uw (k st:Nat) (pl:List (Nat × Nat)):List Int:=pl.foldl (Uv k st) (List.replicate (2 ^ k / 2) 0)
def TF (k:Nat) (gs:List Nat):List (List Int):=(List.range k).map fun n=>Uw k (n + 1) (plOf gs)
def Ux (K:FG7) (H:Hp) (x:V) (k:Nat) (gs:List Nat) (o:Option (Nat × Int)):Prop:=∃ (r:Addr) (s:Str) (y:V),x = .ref r /\ SqT K H r [.str s,y] /\ match o with
 | none=>s = "settings" /\ ZH K H y (TF k gs)
 | some (l,v)=>s = "clash" /\ ∃ c,y = .ref c /\ SqT K H c [.int l,.int v]
theorem Grow.ans {m:List Addr} {H H':Hp} (g:Grow m H H') {K:FG7} {x:V} {k:Nat} {gs:List Nat} {o:Option (Nat × Int)} (h:Ux K H x k gs o):Ux K H' x k gs o:=by
 obtain ⟨r,s,y,e,z,w⟩:=h
 refine ⟨r,s,y,e,g.sqT z,?_⟩
 cases o with
 | none=>exact ⟨w.1,g.rows w.2⟩
 | some p =>
  obtain ⟨l,v⟩:=p
  obtain ⟨w1,c,e,z⟩:=w
  exact ⟨w1,c,e,g.sqT z⟩
theorem vV.set {k:Nat} {gs:List Nat} (h:vV k gs) {j n:Nat} (hn:n < 2 ^ k):vV k (gs.set j n):=by
 refine ⟨by rw [List.length_set,h.1],fun g hg=>?_⟩
 rcases List.mem_or_eq_of_mem_set hg with z | rfl
 ·exact h.2 g z
 ·exact hn
def wfN (k s l:Nat) (w:Int):Nat:=(wfI k s l w).toNat
structure WfF (k s l:Nat) (w:Int):Prop where
 eq:wfI k s l w = (wfN k s l w:Int)
 lt:wfN k s l w < 2 ^ k
 at_:figI k s (wfN k s l w) = w
 off:∀ t:Nat,t <= k -> t ≠ s -> figI k t (wfN k s l w) = figI k t l
def mixN (k e x t:Nat):Nat:=(numL ((jL k e).take (t - 1) ++ (jL k x).drop t)).toNat
def fstI (rows:List (List Int)) (t n:Nat):Int:=(rows.getD (t - 1) []).getD n 0
def TH (k:Nat) (rows:List (List Int)) (e m x y:Nat):Prop:=∃ t:Nat,m < t /\ t <= k /\ figI k t x ≠ figI k t y /\ (∀ u:Nat,t < u -> u <= k -> figI k u x = figI k u y) /\ figI k t x = fstI rows t (mixN k e x t)
structure OrdF (k:Nat) (rows:List (List Int)) (e n:Nat) (L:List Nat):Prop where
 len:L.length = 2 ^ n
 mem:∀ x ∈ L,x < 2 ^ k /\ ∀ t:Nat,1 <= t -> t <= k - n -> figI k t x = figI k t e
 all:∀ x:Nat,x < 2 ^ k -> (∀ t:Nat,1 <= t -> t <= k - n -> figI k t x = figI k t e) -> x ∈ L
 row:L.Pairwise (TH k rows e (k - n))
def LsR (H:Hp) (x:V) (row:List Int):Prop:=∃ r,x = .ref r /\ H r = some (.lst (row.map V.int))
def LsB (H:Hp) (x:V) (rows:List (List Int)):Prop:=∃ l xs,x = .ref l /\ H l = some (.lst xs) /\ AllR (LsR H) xs rows
def LsN (a:Addr) (H:Hp) (x:V) (row:List Int):Prop:=∃ r,x = .ref r /\ r ∉ [a] /\ H r = some (.lst (row.map V.int))
def LsA (a:Addr) (H:Hp) (x:V) (rows:List (List Int)):Prop:=∃ l xs,x = .ref l /\ l ∉ [a] /\ H l = some (.lst xs) /\ AllR (LsN a H) xs rows
theorem LsA.b {a:Addr} {H:Hp} {x:V} {rows:List (List Int)} (h:LsA a H x rows):LsB H x rows:=by
 obtain ⟨l,xs,e,n,z,w⟩:=h
 exact ⟨l,xs,e,z,w.imp fun _ _ ⟨r,e,_,z⟩=>⟨r,e,z⟩⟩
abbrev IsZp (h:Heap) (z TI TO:Addr) (f0 f1:Value):Prop:=h.get? z = some ⟨.type "zip",none,.fields #[f0,f1,.bool false,.ref TI,.ref TO],#[]⟩
def ZZ (h:Heap) (f0:Value):Prop:=f0 = .none \/ ∃ a t,f0 = .int a t /\ h.get? a.toNat = none
def Z0 (h:Heap) (f0:Value):Prop:=∃ a t o,f0 = .int a t /\ h.get? a.toNat = some o
section
variable {prog:Program} {w:World} {A:Around} {E:VS7} {s:Shared}
theorem jN {h:Heap} {z TI TO:Addr} {f0 f1:Value} (hz:IsZp h z TI TO f0 f1) (v:Value):IsZp (h.update z (Obj.mapFields fun x=>x.setIfInBounds 0 v)) z TI TO v f1 /\ Heap.SameBut z h (h.update z (Obj.mapFields fun x=>x.setIfInBounds 0 v)) :=
 ⟨Heap.get?_update_self _ hz rfl,Heap.SameBut.update ..⟩
theorem Uy {h:Heap} {z TI TO:Addr} {f0 f1:Value} (hz:IsZp h z TI TO f0 f1) (v:Value):IsZp (h.update z (Obj.mapFields fun x=>x.setIfInBounds 1 v)) z TI TO f0 v /\ Heap.SameBut z h (h.update z (Obj.mapFields fun x=>x.setIfInBounds 1 v)) :=
 ⟨Heap.get?_update_self _ hz rfl,Heap.SameBut.update ..⟩
theorem uJ {M:Model} {a:Addr} {Q:Option Obj -> Shared -> Prop} (h:Q (s.heap.get? a) s):wpAny M A (loadIfAlive a) Q E s:=fun _ _ _=>h
theorem rY {z TI TO:Addr} {f0 f1:Value} {Q:Bool -> Shared -> Prop} (hz:IsZp s.heap z TI TO f0 f1) (hf:ZZ s.heap f0) (h:Q true s):wpAny (model prog w) A (Builtin.SmallTypes.ownedTupleIsFree (.ref z)) Q E s:=by
 unfold Builtin.SmallTypes.ownedTupleIsFree
 rcases hf with rfl | ⟨a,t,rfl,e⟩
 ·exact wpAny_bind (wpAny_field hz rfl (x:=.none) rfl (wpAny_pure h))
 ·refine wpAny_bind (wpAny_field hz rfl (x:=.int a t) rfl ?_)
  refine wpAny_bind (uJ ?_)
  rw [e]
  exact wpAny_pure h
theorem rZ {z TI TO:Addr} {f0 f1:Value} {Q:Bool -> Shared -> Prop} (hz:IsZp s.heap z TI TO f0 f1) (hf:Z0 s.heap f0) (h:∀ h',IsZp h' z TI TO f0 (.bool true) -> Heap.SameBut z s.heap h' -> Q false { s with heap:=h' }) :
  wpAny (model prog w) A (Builtin.SmallTypes.ownedTupleIsFree (.ref z)) Q E s:=by
 unfold Builtin.SmallTypes.ownedTupleIsFree
 obtain ⟨a,t,o,rfl,e⟩:=hf
 refine wpAny_bind (wpAny_field hz rfl (x:=.int a t) rfl ?_)
 refine wpAny_bind (uJ ?_)
 rw [e]
 refine wpAny_bind (wpAny_field hz rfl (x:=f1) rfl ?_)
 by_cases c:f1 = .bool true
 ·subst c
  exact wpAny_pure (h _ hz ⟨rfl,fun _ _=>rfl⟩)
 ·obtain ⟨hz2,sb⟩:=Uy hz (.bool true)
  dsimp only
  rw [if_pos (by simpa using c)]
  exact wpAny_bind (wpAny_setField hz rfl (by show 1 < 5; decide) (wpAny_pure (h _ hz2 sb)))
theorem Z1 {z TI TO i1 i2:Addr} {fp1 fp2:List Addr} {n1 n2 i:Nat} {P1 P2:Nat -> Value -> Prop} {St1 St2:Nat -> Heap -> Prop} {a b f0 f1:Value} {Q:VS7}
  (D1:Draws prog w A i1 fp1 n1 P1 St1) (D2:Draws prog w A i2 fp2 n2 P2 St2)
  (hz:IsZp s.heap z TI TO f0 f1) (hfr:ZZ s.heap f0) (hI:IsPair s.heap TI (.ref i1) (.ref i2)) (hO:IsPair s.heap TO a b) (st1:St1 i s.heap) (st2:St2 i s.heap) (l1:i < n1) (l2:i < n2)
  (z1:z ∉ fp1) (z2:z ∉ fp2) (o1:TO ∉ fp1) (o2:TO ∉ fp2) (x12:i2 ∉ fp1) (x21:i1 ∉ fp2) (iz1:i1 ≠ z) (iz2:i2 ≠ z) (io1:i1 ≠ TO) (io2:i2 ≠ TO) (oz:TO ≠ z) (tz:TI ≠ z) (tO:TI ≠ TO) (ti1:TI ≠ i1) (ti2:TI ≠ i2)
  (hQ:∀ x y h' tk,P1 i x -> P2 i y -> IsZp h' z TI TO (rawInt s.heap.objs.size) (.bool false) -> IsPair h' TI (.ref i1) (.ref i2) -> IsPair h' TO x y -> St1 (i + 1) h' -> St2 (i + 1) h' -> IsPair h' s.heap.objs.size x y -> h'.objs.size = s.heap.objs.size + 1 →
   (∀ c o,c ≠ z -> c ≠ TO -> c ≠ i1 -> c ≠ i2 -> s.heap.get? c = some o -> h'.get? c = some o) -> Q (.ref s.heap.objs.size) { s with heap:=h',toks:=tk }) :
  wpAny (model prog w) A (Builtin.«zip.__next__» { pos:=[.ref z] }) (fun fin s'=>∃ v,fin = Fin.done (Flow.ret v) /\ Q v s') E s:=by
 show wpAny _ _ (field (.ref z) 2 >>= _) _ _ s
 refine wpAny_bind (wpAny_field hz rfl (x:=.bool false) rfl ?_)
 show wpAny _ _ (field (.ref z) 3 >>= _) _ _ s
 refine wpAny_bind (wpAny_field hz rfl (x:=.ref TI) rfl ?_)
 show wpAny _ _ (seqItems? (.ref TI) >>= _) _ _ s
 refine wpAny_bind (wpAny_seqItems hI rfl ?_)
 show wpAny _ _ (Builtin.SmallTypes.ownedTupleIsFree (.ref z) >>= _) _ _ s
 refine wpAny_bind (rY hz hfr ?_)
 show wpAny _ _ (rule _ >>= _) _ _ s
 refine wpAny_bind (wpAny_rule ?_)
 show wpAny _ _ (field (.ref z) 4 >>= _) _ _ s
 refine wpAny_bind (wpAny_field hz rfl (x:=.ref TO) rfl ?_)
 show wpAny _ _ (setField (.ref z) 0 .ellipsis >>= _) _ _ s
 refine wpAny_bind (wpAny_setField hz rfl (by show 0 < 5; decide) ?_)
 obtain ⟨hz0,sb0⟩:=jN hz .ellipsis
 revert hz0 sb0
 generalize s.heap.update z (Obj.mapFields fun x=>x.setIfInBounds 0 Value.ellipsis) = h0
 intro hz0 sb0
 have no:∀ b,b ≠ z -> ∀ o,s.heap.get? b = some o -> h0.get? b = some o:=fun b hb o e=>(sb0.2 b hb).trans e
 refine wpAny_bind ?_
 show wpAny _ _ (forIn [(Value.ref i1,0),(Value.ref i2,1)] (none,()) _) _ _ _
 rw [List.forIn_cons]
 refine wpAny_bind (wpAny_bind (wpAny_onRaise ?_))
 show wpAny _ _ (Builtin.SmallTypes.nextOf (.ref i1) >>= fun x=>pure (some x)) _ _ _
 refine wpAny_bind (D1.item i { s with heap:=h0 } _ _ l1 (D1.frame _ _ _ st1 fun b hb o e=>no b (fun q=>z1 (q ▸ hb)) o e) fun x h1 tk1 p1 st1' sb1=>wpAny_pure ?_)
 have hO1:IsPair h1 TO a b:=(sb1.2 TO (Ne.symm io1)).trans (no TO oz _ hO)
 show wpAny _ _ (seqItems? (.ref TO) >>= _) _ _ _
 refine wpAny_bind (wpAny_seqItems (s:={ s with heap:=h1,toks:=tk1 }) hO1 rfl ?_)
 show wpAny _ _ (updateSeq TO _ >>= _) _ _ _
 refine wpAny_bind (wpAny_updateSeq (s:={ s with heap:=h1,toks:=tk1 }) hO1 rfl ?_)
 obtain ⟨hO2,sb2⟩:=Wp hO1 x
 revert hO2 sb2
 show IsPair (h1.update TO (Obj.mapSeq fun q=>q.setIfInBounds 0 x)) TO x b -> Heap.SameBut TO h1 (h1.update TO (Obj.mapSeq fun q=>q.setIfInBounds 0 x)) -> wpAny _ _ _ _ _ { s with heap:=h1.update TO (Obj.mapSeq fun q=>q.setIfInBounds 0 x),toks:=tk1 }
 generalize h1.update TO (Obj.mapSeq fun q=>q.setIfInBounds 0 x) = h2
 intro hO2 sb2
 refine wpAny_bind (wpAny_letGo (wpAny_pure ?_))
 show wpAny _ _ (forIn [(Value.ref i2,1)] (none,()) _) _ _ _
 rw [List.forIn_cons]
 refine wpAny_bind (wpAny_bind (wpAny_onRaise ?_))
 show wpAny _ _ (Builtin.SmallTypes.nextOf (.ref i2) >>= fun x=>pure (some x)) _ _ _
 have k2:∀ c o,c ≠ z -> c ≠ TO -> c ≠ i1 -> s.heap.get? c = some o -> h2.get? c = some o:=fun c o c1 c2 c3 e=>(sb2.2 c c2).trans ((sb1.2 c c3).trans (no c c1 o e))
 refine wpAny_bind (D2.item i { s with heap:=h2,toks:=tk1 } _ _ l2 (D2.frame _ _ _ st2 fun c hc o e=>k2 c o (fun q=>z2 (q ▸ hc)) (fun q=>o2 (q ▸ hc)) (fun q=>x21 (q ▸ hc)) e) fun y h3 tk3 p2 st2' sb3=>wpAny_pure ?_)
 have hO3:IsPair h3 TO x b:=(sb3.2 TO (Ne.symm io2)).trans hO2
 show wpAny _ _ (seqItems? (.ref TO) >>= _) _ _ _
 refine wpAny_bind (wpAny_seqItems (s:={ s with heap:=h3,toks:=tk3 }) hO3 rfl ?_)
 show wpAny _ _ (updateSeq TO _ >>= _) _ _ _
 refine wpAny_bind (wpAny_updateSeq (s:={ s with heap:=h3,toks:=tk3 }) hO3 rfl ?_)
 obtain ⟨hO4,sb4⟩:=Uq hO3 y
 revert hO4 sb4
 show IsPair (h3.update TO (Obj.mapSeq fun q=>q.setIfInBounds 1 y)) TO x y -> Heap.SameBut TO h3 (h3.update TO (Obj.mapSeq fun q=>q.setIfInBounds 1 y)) -> wpAny _ _ _ _ _ { s with heap:=h3.update TO (Obj.mapSeq fun q=>q.setIfInBounds 1 y),toks:=tk3 }
 generalize h3.update TO (Obj.mapSeq fun q=>q.setIfInBounds 1 y) = h4
 intro hO4 sb4
 refine wpAny_bind (wpAny_letGo (wpAny_pure ?_))
 show wpAny _ _ (forIn [] (none,()) _) _ _ _
 rw [List.forIn_nil]
 refine wpAny_pure ?_
 show wpAny _ _ (seqItems? (.ref TO) >>= _) _ _ _
 refine wpAny_bind (wpAny_seqItems (s:={ s with heap:=h4,toks:=tk3 }) hO4 rfl ?_)
 show wpAny _ _ (newTuple [x,y] >>= _) _ _ _
 refine wpAny_bind ?_
 simp only [newTuple]
 have k4:∀ c o,c ≠ z -> c ≠ TO -> c ≠ i1 -> c ≠ i2 -> s.heap.get? c = some o -> h4.get? c = some o:=fun c o c1 c2 c3 c4 e=>(sb4.2 c c2).trans ((sb3.2 c c4).trans (k2 c o c1 c2 c3 e))
 have hz4:IsZp h4 z TI TO .ellipsis f1:=(sb4.2 z (Ne.symm oz)).trans ((sb3.2 z (Ne.symm iz2)).trans ((sb2.2 z (Ne.symm oz)).trans ((sb1.2 z (Ne.symm iz1)).trans hz0)))
 have s1':St1 (i + 1) h4:=D1.frame _ _ _ st1' fun c hc o e=>(sb4.2 c (fun q=>o1 (q ▸ hc))).trans ((sb3.2 c (fun q=>x12 (q ▸ hc))).trans ((sb2.2 c (fun q=>o1 (q ▸ hc))).trans e))
 have s2':St2 (i + 1) h4:=D2.frame _ _ _ st2' fun c hc o e=>(sb4.2 c (fun q=>o2 (q ▸ hc))).trans e
 have sz4:h4.objs.size = s.heap.objs.size:=by rw [sb4.1,sb3.1,sb2.1,sb1.1,sb0.1]
 refine wpAny_newObj_type ?_ (by size_fits)
 have hz5:IsZp (h4.push { cls:=.type "tuple",data:=.seq #[x,y] }) z TI TO .ellipsis f1:=Heap.get?_push_of_some _ hz4
 have hT5:IsPair (h4.push { cls:=.type "tuple",data:=.seq #[x,y] }) h4.objs.size x y:=Heap.get?_push_size _ rfl
 have sz5:(h4.push { cls:=.type "tuple",data:=.seq #[x,y] }).objs.size = h4.objs.size + 1:=Heap.size_push ..
 have k5:∀ c o,h4.get? c = some o -> (h4.push { cls:=.type "tuple",data:=.seq #[x,y] }).get? c = some o:=fun c o e=>Heap.get?_push_of_some _ e
 show wpAny _ _ _ _ _ { s with heap:=h4.push { cls:=.type "tuple",data:=.seq #[x,y] },toks:=tk3 }
 revert hz5 hT5 sz5 k5
 generalize h4.push { cls:=.type "tuple",data:=.seq #[x,y] } = h5
 intro hz5 hT5 sz5 k5
 show wpAny _ _ (Builtin.SmallTypes.ownedTupleHandOut (.ref z) (.ref h4.objs.size) >>= fun _=>pure (Fin.done (Flow.ret (.ref h4.objs.size)))) _ _ _
 rw [sz4] at hT5 sz5 ⊢
 refine wpAny_bind ?_
 show wpAny _ _ (setField (.ref z) 0 (rawInt s.heap.objs.size) >>= fun _=>setField (.ref z) 1 (.bool false)) _ _ _
 refine wpAny_bind (wpAny_setField (s:={ s with heap:=h5,toks:=tk3 }) hz5 rfl (by show 0 < 5; decide) ?_)
 obtain ⟨hz6,sb6⟩:=jN hz5 (rawInt s.heap.objs.size)
 obtain ⟨hz7,sb7⟩:=Uy hz6 (.bool false)
 refine wpAny_setField hz6 rfl (by show 1 < 5; decide) (wpAny_pure ⟨_,rfl,?_⟩)
 have k7:∀ c o,c ≠ z -> h4.get? c = some o -> ((h5.update z (Obj.mapFields fun x=>x.setIfInBounds 0 (rawInt s.heap.objs.size))).update z (Obj.mapFields fun x=>x.setIfInBounds 1 (.bool false))).get? c = some o:=fun c o c1 e=>(sb7.2 c c1).trans ((sb6.2 c c1).trans (k5 c o e))
 have nT:s.heap.objs.size ≠ z:=Nat.ne_of_gt (Heap.lt_size hz)
 exact hQ x y _ tk3 p1 p2 hz7 (k7 TI _ tz (k4 TI _ tz tO ti1 ti2 hI)) (k7 TO _ oz hO4) (D1.frame _ _ _ s1' fun c hc o e=>k7 c o (fun q=>z1 (q ▸ hc)) e) (D2.frame _ _ _ s2' fun c hc o e=>k7 c o (fun q=>z2 (q ▸ hc)) e) ((sb7.2 _ nT).trans ((sb6.2 _ nT).trans hT5)) (by rw [sb7.1,sb6.1,sz5]) fun c o c1 c2 c3 c4 e=>k7 c o c1 (k4 c o c1 c2 c3 c4 e)
theorem Z2 {z TI TO i1 i2:Addr} {fp1:List Addr} {n1:Nat} {P1:Nat -> Value -> Prop} {St1:Nat -> Heap -> Prop} {a b f0 f1:Value} {Q:Fin -> Shared -> Prop}
  (D1:Draws prog w A i1 fp1 n1 P1 St1)
  (hz:IsZp s.heap z TI TO f0 f1) (hfr:ZZ s.heap f0) (hI:IsPair s.heap TI (.ref i1) (.ref i2)) (hO:IsPair s.heap TO a b) (st1:St1 n1 s.heap)
  (z1:z ∉ fp1) (iz1:i1 ≠ z)
  (hE:∀ h' e tk,(∀ c o,c ≠ z -> c ≠ TO -> c ≠ i1 -> c ≠ i2 -> s.heap.get? c = some o -> h'.get? c = some o) -> (∃ o,h'.get? e = some o /\ o.cls = .type "StopIteration") -> E (.ref e) { s with heap:=h',toks:=tk }) :
  wpAny (model prog w) A (Builtin.«zip.__next__» { pos:=[.ref z] }) Q E s:=by
 show wpAny _ _ (field (.ref z) 2 >>= _) _ _ s
 refine wpAny_bind (wpAny_field hz rfl (x:=.bool false) rfl ?_)
 show wpAny _ _ (field (.ref z) 3 >>= _) _ _ s
 refine wpAny_bind (wpAny_field hz rfl (x:=.ref TI) rfl ?_)
 show wpAny _ _ (seqItems? (.ref TI) >>= _) _ _ s
 refine wpAny_bind (wpAny_seqItems hI rfl ?_)
 show wpAny _ _ (Builtin.SmallTypes.ownedTupleIsFree (.ref z) >>= _) _ _ s
 refine wpAny_bind (rY hz hfr ?_)
 show wpAny _ _ (rule _ >>= _) _ _ s
 refine wpAny_bind (wpAny_rule ?_)
 show wpAny _ _ (field (.ref z) 4 >>= _) _ _ s
 refine wpAny_bind (wpAny_field hz rfl (x:=.ref TO) rfl ?_)
 show wpAny _ _ (setField (.ref z) 0 .ellipsis >>= _) _ _ s
 refine wpAny_bind (wpAny_setField hz rfl (by show 0 < 5; decide) ?_)
 obtain ⟨hz0,sb0⟩:=jN hz .ellipsis
 revert hz0 sb0
 generalize s.heap.update z (Obj.mapFields fun x=>x.setIfInBounds 0 Value.ellipsis) = h0
 intro hz0 sb0
 have no:∀ b,b ≠ z -> ∀ o,s.heap.get? b = some o -> h0.get? b = some o:=fun b hb o e=>(sb0.2 b hb).trans e
 refine wpAny_bind ?_
 show wpAny _ _ (forIn [(Value.ref i1,0),(Value.ref i2,1)] (none,()) _) _ _ _
 rw [List.forIn_cons]
 refine wpAny_bind (wpAny_bind (wpAny_onRaise ?_))
 show wpAny _ _ (Builtin.SmallTypes.nextOf (.ref i1) >>= fun x=>pure (some x)) _ _ _
 refine wpAny_bind (D1.done { s with heap:=h0 } _ _ (D1.frame _ _ _ st1 fun b hb o e=>no b (fun q=>z1 (q ▸ hb)) o e) fun h1 e xb hs=>?_)
 have hz1:IsZp h1 z TI TO .ellipsis f1:=xb z _ (Ne.symm iz1) hz0
 obtain ⟨hz2,sb2⟩:=jN hz1 .none
 refine wpAny_setField (s:={ s with heap:=h1 }) hz1 rfl (by show 0 < 5; decide) (hE _ e s.toks (fun c o c1 c2 c3 c4 q=>(sb2.2 c c1).trans (xb c o c3 (no c c1 o q))) ?_)
 obtain ⟨o,ho,hc⟩:=hs
 refine ⟨o,(sb2.2 e fun q=>?_).trans ho,hc⟩
 rw [q,hz1] at ho
 obtain rfl:=Option.some.inj ho
 exact absurd hc (by show ¬ (Value.type "zip" = Value.type "StopIteration"); decide)
theorem Z3 {z TI TO i1 i2:Addr} {fp1 fp2:List Addr} {n1 i:Nat} {P1 P2:Nat -> Value -> Prop} {St1 St2:Nat -> Heap -> Prop} {a b f0 f1:Value} {Q:Fin -> Shared -> Prop}
  (D1:Draws prog w A i1 fp1 n1 P1 St1) (D2:Draws prog w A i2 fp2 i P2 St2)
  (hz:IsZp s.heap z TI TO f0 f1) (hfr:ZZ s.heap f0) (hI:IsPair s.heap TI (.ref i1) (.ref i2)) (hO:IsPair s.heap TO a b) (st1:St1 i s.heap) (st2:St2 i s.heap) (l1:i < n1)
  (z1:z ∉ fp1) (z2:z ∉ fp2) (o2:TO ∉ fp2) (x21:i1 ∉ fp2) (iz1:i1 ≠ z) (iz2:i2 ≠ z) (io1:i1 ≠ TO) (oz:TO ≠ z)
  (hE:∀ h' e tk,(∀ c o,c ≠ z -> c ≠ TO -> c ≠ i1 -> c ≠ i2 -> s.heap.get? c = some o -> h'.get? c = some o) -> (∃ o,h'.get? e = some o /\ o.cls = .type "StopIteration") -> E (.ref e) { s with heap:=h',toks:=tk }) :
  wpAny (model prog w) A (Builtin.«zip.__next__» { pos:=[.ref z] }) Q E s:=by
 show wpAny _ _ (field (.ref z) 2 >>= _) _ _ s
 refine wpAny_bind (wpAny_field hz rfl (x:=.bool false) rfl ?_)
 show wpAny _ _ (field (.ref z) 3 >>= _) _ _ s
 refine wpAny_bind (wpAny_field hz rfl (x:=.ref TI) rfl ?_)
 show wpAny _ _ (seqItems? (.ref TI) >>= _) _ _ s
 refine wpAny_bind (wpAny_seqItems hI rfl ?_)
 show wpAny _ _ (Builtin.SmallTypes.ownedTupleIsFree (.ref z) >>= _) _ _ s
 refine wpAny_bind (rY hz hfr ?_)
 show wpAny _ _ (rule _ >>= _) _ _ s
 refine wpAny_bind (wpAny_rule ?_)
 show wpAny _ _ (field (.ref z) 4 >>= _) _ _ s
 refine wpAny_bind (wpAny_field hz rfl (x:=.ref TO) rfl ?_)
 show wpAny _ _ (setField (.ref z) 0 .ellipsis >>= _) _ _ s
 refine wpAny_bind (wpAny_setField hz rfl (by show 0 < 5; decide) ?_)
 obtain ⟨hz0,sb0⟩:=jN hz .ellipsis
 revert hz0 sb0
 generalize s.heap.update z (Obj.mapFields fun x=>x.setIfInBounds 0 Value.ellipsis) = h0
 intro hz0 sb0
 have no:∀ b,b ≠ z -> ∀ o,s.heap.get? b = some o -> h0.get? b = some o:=fun b hb o e=>(sb0.2 b hb).trans e
 refine wpAny_bind ?_
 show wpAny _ _ (forIn [(Value.ref i1,0),(Value.ref i2,1)] (none,()) _) _ _ _
 rw [List.forIn_cons]
 refine wpAny_bind (wpAny_bind (wpAny_onRaise ?_))
 show wpAny _ _ (Builtin.SmallTypes.nextOf (.ref i1) >>= fun x=>pure (some x)) _ _ _
 refine wpAny_bind (D1.item i { s with heap:=h0 } _ _ l1 (D1.frame _ _ _ st1 fun b hb o e=>no b (fun q=>z1 (q ▸ hb)) o e) fun x h1 tk1 p1 st1' sb1=>wpAny_pure ?_)
 have hO1:IsPair h1 TO a b:=(sb1.2 TO (Ne.symm io1)).trans (no TO oz _ hO)
 show wpAny _ _ (seqItems? (.ref TO) >>= _) _ _ _
 refine wpAny_bind (wpAny_seqItems (s:={ s with heap:=h1,toks:=tk1 }) hO1 rfl ?_)
 show wpAny _ _ (updateSeq TO _ >>= _) _ _ _
 refine wpAny_bind (wpAny_updateSeq (s:={ s with heap:=h1,toks:=tk1 }) hO1 rfl ?_)
 obtain ⟨hO2,sb2⟩:=Wp hO1 x
 revert hO2 sb2
 show IsPair (h1.update TO (Obj.mapSeq fun q=>q.setIfInBounds 0 x)) TO x b -> Heap.SameBut TO h1 (h1.update TO (Obj.mapSeq fun q=>q.setIfInBounds 0 x)) -> wpAny _ _ _ _ _ { s with heap:=h1.update TO (Obj.mapSeq fun q=>q.setIfInBounds 0 x),toks:=tk1 }
 generalize h1.update TO (Obj.mapSeq fun q=>q.setIfInBounds 0 x) = h2
 intro hO2 sb2
 refine wpAny_bind (wpAny_letGo (wpAny_pure ?_))
 show wpAny _ _ (forIn [(Value.ref i2,1)] (none,()) _) _ _ _
 rw [List.forIn_cons]
 refine wpAny_bind (wpAny_bind (wpAny_onRaise ?_))
 show wpAny _ _ (Builtin.SmallTypes.nextOf (.ref i2) >>= fun x=>pure (some x)) _ _ _
 have k2:∀ c o,c ≠ z -> c ≠ TO -> c ≠ i1 -> s.heap.get? c = some o -> h2.get? c = some o:=fun c o c1 c2 c3 e=>(sb2.2 c c2).trans ((sb1.2 c c3).trans (no c c1 o e))
 have hz2:IsZp h2 z TI TO .ellipsis f1:=(sb2.2 z (Ne.symm oz)).trans ((sb1.2 z (Ne.symm iz1)).trans hz0)
 refine wpAny_bind (D2.done { s with heap:=h2,toks:=tk1 } _ _ (D2.frame _ _ _ st2 fun c hc o e=>k2 c o (fun q=>z2 (q ▸ hc)) (fun q=>o2 (q ▸ hc)) (fun q=>x21 (q ▸ hc)) e) fun h3 e xb hs=>?_)
 have hz3:IsZp h3 z TI TO .ellipsis f1:=xb z _ (Ne.symm iz2) hz2
 obtain ⟨hz4,sb4⟩:=jN hz3 .none
 refine wpAny_setField (s:={ s with heap:=h3,toks:=tk1 }) hz3 rfl (by show 0 < 5; decide) (hE _ e tk1 (fun c o c1 c2 c3 c4 q=>(sb4.2 c c1).trans (xb c o c4 (k2 c o c1 c2 c3 q))) ?_)
 obtain ⟨o,ho,hc⟩:=hs
 refine ⟨o,(sb4.2 e fun q=>?_).trans ho,hc⟩
 rw [q,hz3] at ho
 obtain rfl:=Option.some.inj ho
 exact absurd hc (by show ¬ (Value.type "zip" = Value.type "StopIteration"); decide)
theorem Z4 {z TI TO i1 i2:Addr} {fp1 fp2:List Addr} {n1 n2 i:Nat} {P1 P2:Nat -> Value -> Prop} {St1 St2:Nat -> Heap -> Prop} {a b f0 f1:Value} {Q:VS7}
  (D1:Draws prog w A i1 fp1 n1 P1 St1) (D2:Draws prog w A i2 fp2 n2 P2 St2)
  (hz:IsZp s.heap z TI TO f0 f1) (hfr:Z0 s.heap f0) (hI:IsPair s.heap TI (.ref i1) (.ref i2)) (hO:IsPair s.heap TO a b) (st1:St1 i s.heap) (st2:St2 i s.heap) (l1:i < n1) (l2:i < n2)
  (z1:z ∉ fp1) (z2:z ∉ fp2) (x12:i2 ∉ fp1) (x21:i1 ∉ fp2) (iz1:i1 ≠ z) (iz2:i2 ≠ z) (io1:i1 ≠ TO) (io2:i2 ≠ TO) (oz:TO ≠ z) (tz:TI ≠ z) (ti1:TI ≠ i1) (ti2:TI ≠ i2)
  (hQ:∀ x y h' tk,P1 i x -> P2 i y -> IsZp h' z TI TO f0 (.bool true) -> IsPair h' TI (.ref i1) (.ref i2) -> IsPair h' TO a b -> St1 (i + 1) h' -> St2 (i + 1) h' -> IsPair h' s.heap.objs.size x y -> h'.objs.size = s.heap.objs.size + 1 →
   (∀ c o,c ≠ z -> c ≠ i1 -> c ≠ i2 -> s.heap.get? c = some o -> h'.get? c = some o) -> Q (.ref s.heap.objs.size) { s with heap:=h',toks:=tk }) :
  wpAny (model prog w) A (Builtin.«zip.__next__» { pos:=[.ref z] }) (fun fin s'=>∃ v,fin = Fin.done (Flow.ret v) /\ Q v s') E s:=by
 show wpAny _ _ (field (.ref z) 2 >>= _) _ _ s
 refine wpAny_bind (wpAny_field hz rfl (x:=.bool false) rfl ?_)
 show wpAny _ _ (field (.ref z) 3 >>= _) _ _ s
 refine wpAny_bind (wpAny_field hz rfl (x:=.ref TI) rfl ?_)
 show wpAny _ _ (seqItems? (.ref TI) >>= _) _ _ s
 refine wpAny_bind (wpAny_seqItems hI rfl ?_)
 show wpAny _ _ (Builtin.SmallTypes.ownedTupleIsFree (.ref z) >>= _) _ _ s
 refine wpAny_bind (rZ hz hfr fun h0 hz0 sb0=>?_)
 have no:∀ b,b ≠ z -> ∀ o,s.heap.get? b = some o -> h0.get? b = some o:=fun b hb o e=>(sb0.2 b hb).trans e
 refine wpAny_bind ?_
 show wpAny _ _ (forIn #[Value.ref i1,Value.ref i2] (none,#[]) _) _ _ _
 rw [← Array.forIn_toList]
 show wpAny _ _ (forIn [Value.ref i1,Value.ref i2] (none,#[]) _) _ _ _
 rw [List.forIn_cons]
 refine wpAny_bind (wpAny_bind (wpAny_holding ?_))
 show wpAny _ _ (Builtin.SmallTypes.nextOf (.ref i1) >>= fun x=>pure (some x)) _ _ _
 refine wpAny_bind (D1.item i { s with heap:=h0 } _ _ l1 (D1.frame _ _ _ st1 fun b hb o e=>no b (fun q=>z1 (q ▸ hb)) o e) fun x h1 tk1 p1 st1' sb1=>wpAny_pure ?_)
 refine wpAny_pure ?_
 show wpAny _ _ (forIn [Value.ref i2] (none,#[x]) _) _ _ _
 rw [List.forIn_cons]
 refine wpAny_bind (wpAny_bind (wpAny_holding ?_))
 show wpAny _ _ (Builtin.SmallTypes.nextOf (.ref i2) >>= fun x=>pure (some x)) _ _ _
 have k1:∀ c o,c ≠ z -> c ≠ i1 -> s.heap.get? c = some o -> h1.get? c = some o:=fun c o c1 c3 e=>(sb1.2 c c3).trans (no c c1 o e)
 refine wpAny_bind (D2.item i { s with heap:=h1,toks:=tk1 } _ _ l2 (D2.frame _ _ _ st2 fun c hc o e=>k1 c o (fun q=>z2 (q ▸ hc)) (fun q=>x21 (q ▸ hc)) e) fun y h2 tk2 p2 st2' sb2=>wpAny_pure ?_)
 refine wpAny_pure ?_
 show wpAny _ _ (forIn [] (none,#[x,y]) _) _ _ _
 rw [List.forIn_nil]
 refine wpAny_pure ?_
 show wpAny _ _ (newTuple [x,y] >>= fun r=>pure (Fin.done (Flow.ret r))) _ _ _
 refine wpAny_bind ?_
 simp only [newTuple]
 refine wpAny_newObj_type ?_ (by size_fits)
 have k2:∀ c o,c ≠ z -> c ≠ i1 -> c ≠ i2 -> s.heap.get? c = some o -> h2.get? c = some o:=fun c o c1 c3 c4 e=>(sb2.2 c c4).trans (k1 c o c1 c3 e)
 have sz2:h2.objs.size = s.heap.objs.size:=by rw [sb2.1,sb1.1,sb0.1]
 have hz2:IsZp h2 z TI TO f0 (.bool true):=(sb2.2 z (Ne.symm iz2)).trans ((sb1.2 z (Ne.symm iz1)).trans hz0)
 have t1:St1 (i + 1) h2:=D1.frame _ _ _ st1' fun c hc o e=>(sb2.2 c (fun q=>x12 (q ▸ hc))).trans e
 have hT:IsPair (h2.push { cls:=.type "tuple",data:=.seq #[x,y] }) h2.objs.size x y:=Heap.get?_push_size _ rfl
 have sz3:(h2.push { cls:=.type "tuple",data:=.seq #[x,y] }).objs.size = h2.objs.size + 1:=Heap.size_push ..
 rw [sz2] at hT sz3
 show wpAny _ _ (pure (Fin.done (Flow.ret (.ref h2.objs.size)))) _ _ { s with heap:=h2.push { cls:=.type "tuple",data:=.seq #[x,y] },toks:=tk2 }
 rw [sz2]
 exact wpAny_pure ⟨_,rfl,hQ x y _ tk2 p1 p2 (Heap.get?_push_of_some _ hz2) (Heap.get?_push_of_some _ (k2 TI _ tz ti1 ti2 hI)) (Heap.get?_push_of_some _ (k2 TO _ oz (Ne.symm io1) (Ne.symm io2) hO))
  (D1.frame _ _ _ t1 fun c hc o e=>Heap.get?_push_of_some _ e) (D2.frame _ _ _ st2' fun c hc o e=>Heap.get?_push_of_some _ e) hT sz3 fun c o c1 c3 c4 e=>Heap.get?_push_of_some _ (k2 c o c1 c3 c4 e)⟩
theorem Z5 {z TI TO i1 i2:Addr} {fp1:List Addr} {n1:Nat} {P1:Nat -> Value -> Prop} {St1:Nat -> Heap -> Prop} {f0 f1:Value} {Q:Fin -> Shared -> Prop}
  (D1:Draws prog w A i1 fp1 n1 P1 St1)
  (hz:IsZp s.heap z TI TO f0 f1) (hfr:Z0 s.heap f0) (hI:IsPair s.heap TI (.ref i1) (.ref i2)) (st1:St1 n1 s.heap) (z1:z ∉ fp1)
  (hE:∀ h' e tk,(∀ c o,c ≠ z -> c ≠ i1 -> c ≠ i2 -> s.heap.get? c = some o -> h'.get? c = some o) -> (∃ o,h'.get? e = some o /\ o.cls = .type "StopIteration") -> E (.ref e) { s with heap:=h',toks:=tk }) :
  wpAny (model prog w) A (Builtin.«zip.__next__» { pos:=[.ref z] }) Q E s:=by
 show wpAny _ _ (field (.ref z) 2 >>= _) _ _ s
 refine wpAny_bind (wpAny_field hz rfl (x:=.bool false) rfl ?_)
 show wpAny _ _ (field (.ref z) 3 >>= _) _ _ s
 refine wpAny_bind (wpAny_field hz rfl (x:=.ref TI) rfl ?_)
 show wpAny _ _ (seqItems? (.ref TI) >>= _) _ _ s
 refine wpAny_bind (wpAny_seqItems hI rfl ?_)
 show wpAny _ _ (Builtin.SmallTypes.ownedTupleIsFree (.ref z) >>= _) _ _ s
 refine wpAny_bind (rZ hz hfr fun h0 hz0 sb0=>?_)
 have no:∀ b,b ≠ z -> ∀ o,s.heap.get? b = some o -> h0.get? b = some o:=fun b hb o e=>(sb0.2 b hb).trans e
 refine wpAny_bind ?_
 show wpAny _ _ (forIn #[Value.ref i1,Value.ref i2] (none,#[]) _) _ _ _
 rw [← Array.forIn_toList]
 show wpAny _ _ (forIn [Value.ref i1,Value.ref i2] (none,#[]) _) _ _ _
 rw [List.forIn_cons]
 refine wpAny_bind (wpAny_bind (wpAny_holding ?_))
 show wpAny _ _ (Builtin.SmallTypes.nextOf (.ref i1) >>= fun x=>pure (some x)) _ _ _
 exact wpAny_bind (D1.done { s with heap:=h0 } _ _ (D1.frame _ _ _ st1 fun b hb o e=>no b (fun q=>z1 (q ▸ hb)) o e) fun h1 e xb hs=>hE h1 e s.toks (fun c o c1 c3 c4 q=>xb c o c3 (no c c1 o q)) hs)
theorem Z6 {z TI TO i1 i2:Addr} {fp1 fp2:List Addr} {n1 i:Nat} {P1 P2:Nat -> Value -> Prop} {St1 St2:Nat -> Heap -> Prop} {f0 f1:Value} {Q:Fin -> Shared -> Prop}
  (D1:Draws prog w A i1 fp1 n1 P1 St1) (D2:Draws prog w A i2 fp2 i P2 St2)
  (hz:IsZp s.heap z TI TO f0 f1) (hfr:Z0 s.heap f0) (hI:IsPair s.heap TI (.ref i1) (.ref i2)) (st1:St1 i s.heap) (st2:St2 i s.heap) (l1:i < n1) (z1:z ∉ fp1) (z2:z ∉ fp2) (x21:i1 ∉ fp2)
  (hE:∀ h' e tk,(∀ c o,c ≠ z -> c ≠ i1 -> c ≠ i2 -> s.heap.get? c = some o -> h'.get? c = some o) -> (∃ o,h'.get? e = some o /\ o.cls = .type "StopIteration") -> E (.ref e) { s with heap:=h',toks:=tk }) :
  wpAny (model prog w) A (Builtin.«zip.__next__» { pos:=[.ref z] }) Q E s:=by
 show wpAny _ _ (field (.ref z) 2 >>= _) _ _ s
 refine wpAny_bind (wpAny_field hz rfl (x:=.bool false) rfl ?_)
 show wpAny _ _ (field (.ref z) 3 >>= _) _ _ s
 refine wpAny_bind (wpAny_field hz rfl (x:=.ref TI) rfl ?_)
 show wpAny _ _ (seqItems? (.ref TI) >>= _) _ _ s
 refine wpAny_bind (wpAny_seqItems hI rfl ?_)
 show wpAny _ _ (Builtin.SmallTypes.ownedTupleIsFree (.ref z) >>= _) _ _ s
 refine wpAny_bind (rZ hz hfr fun h0 hz0 sb0=>?_)
 have no:∀ b,b ≠ z -> ∀ o,s.heap.get? b = some o -> h0.get? b = some o:=fun b hb o e=>(sb0.2 b hb).trans e
 refine wpAny_bind ?_
 show wpAny _ _ (forIn #[Value.ref i1,Value.ref i2] (none,#[]) _) _ _ _
 rw [← Array.forIn_toList]
 show wpAny _ _ (forIn [Value.ref i1,Value.ref i2] (none,#[]) _) _ _ _
 rw [List.forIn_cons]
 refine wpAny_bind (wpAny_bind (wpAny_holding ?_))
 show wpAny _ _ (Builtin.SmallTypes.nextOf (.ref i1) >>= fun x=>pure (some x)) _ _ _
 refine wpAny_bind (D1.item i { s with heap:=h0 } _ _ l1 (D1.frame _ _ _ st1 fun b hb o e=>no b (fun q=>z1 (q ▸ hb)) o e) fun x h1 tk1 p1 st1' sb1=>wpAny_pure ?_)
 refine wpAny_pure ?_
 show wpAny _ _ (forIn [Value.ref i2] (none,#[x]) _) _ _ _
 rw [List.forIn_cons]
 refine wpAny_bind (wpAny_bind (wpAny_holding ?_))
 show wpAny _ _ (Builtin.SmallTypes.nextOf (.ref i2) >>= fun x=>pure (some x)) _ _ _
 have k1:∀ c o,c ≠ z -> c ≠ i1 -> s.heap.get? c = some o -> h1.get? c = some o:=fun c o c1 c3 e=>(sb1.2 c c3).trans (no c c1 o e)
 exact wpAny_bind (D2.done { s with heap:=h1,toks:=tk1 } _ _ (D2.frame _ _ _ st2 fun c hc o e=>k1 c o (fun q=>z2 (q ▸ hc)) (fun q=>x21 (q ▸ hc)) e) fun h2 e xb hs=>hE h2 e tk1 (fun c o c1 c3 c4 q=>xb c o c4 (k1 c o c1 c3 q)) hs)
end
section
variable {prog:Program} {w:World} {A:Around} {E:VS7} {s:Shared}
theorem Z7 {z TI TO:Addr} {f0 f1:Value} (hz:IsZp s.heap z TI TO f0 f1):s.TypeIs (.ref z) "zip":=⟨_,hz,rfl⟩
theorem jO {z TI TO:Addr} {f0 f1:Value} {Q:Option Value -> Shared -> Prop} (hz:IsZp s.heap z TI TO f0 f1)
  (h:wpAny (model prog w) A.in1 (Builtin.«zip.__next__» { pos:=[.ref z] }) (fun fin s'=>∃ v,fin = Fin.done (Flow.ret v) /\ Q (some v) s')
   (fun e s'=>∃ a,e = .ref a /\ (∃ o,s'.heap.get? a = some o /\ o.cls = .type "StopIteration") /\ Q none s') s):wpAny (model prog w) A (pyNext (.ref z)) Q E s:=by
 unfold pyNext
 refine wpAny_bind (wpAny_attempt (wpAny_callSpecial?_slot (name:=Str.ofString "__next__") (Z7 hz) F.slot_zip_next (wpAny_call_entry F.slot_zip_next (Z7 hz) F.entry_zip_next (wpAny_mono h (fun fin s' hq=>?_) (fun e s' hq=>?_)) (F.args_zip_next_1 _))))
 ·obtain ⟨v,rfl,q⟩:=hq
  exact ⟨v,rfl,wpAny_pure q⟩
 ·obtain ⟨a,rfl,ho,q⟩:=hq
  exact ZV ho q
theorem TJ {z TI TO:Addr} {f0 f1:Value} {Q:VS7} (hz:IsZp s.heap z TI TO f0 f1) (h:Q (.ref z) s):wpAny (model prog w) A (pyIter (.ref z)) Q E s:=by
 refine wpAny_pyIter_slot (Z7 hz) F.slot_zip_iter (wpAny_call_entry F.slot_zip_iter (Z7 hz) F.entry_zip_iter ?_ (F.args_zip_iter_1 _))
 exact wpAny_pure ⟨_,rfl,"zip",_,Z7 hz,F.slot_zip_next.lookup,h⟩
end
def Z8 (c d:Bool) (z TI TO i1 i2 a b:Addr) (i:Nat) (h:Heap):Prop :=
 (∃ f0 f1,IsZp h z TI TO f0 f1 /\ (f0 = .none \/ ∃ a t,f0 = Value.int a t)) /\ IsPair h TI (.ref i1) (.ref i2) /\ (∃ u v,IsPair h TO u v) /\ wT c h i1 a i /\ wT d h i2 b i
theorem uK {h:Heap} {f0:Value} (k:f0 = .none \/ ∃ a t,f0 = Value.int a t):ZZ h f0 \/ Z0 h f0:=by
 rcases k with rfl | ⟨a,t,rfl⟩
 ·exact .inl (.inl rfl)
 ·cases e:h.get? a.toNat with
  | none=>exact .inl (.inr ⟨a,t,rfl,e⟩)
  | some o=>exact .inr ⟨a,t,o,rfl,e⟩
theorem Z9 {P:Program} {w:World} {K:FG7} {nm:Str} {pt:Pos} (c d:Bool) (a b n:Nat) (ha:a < n) (hb:b < n) :
  Turn P w K (.Name nm pt) (Itz K c a d b) [n + 4,n + 3,n + 2,n + 1,n] (n + 4) (Z8 c d (n + 4) (n + 2) (n + 3) n (n + 1) a b) where
 mem:=by simp
 obj:=fun i h st q hq=>by
  obtain ⟨⟨f0,f1,hz,_⟩,hI,⟨u,v,hO⟩,s1,s2⟩:=st
  simp only [List.mem_cons,List.mem_nil_iff,or_false] at hq
  rcases hq with rfl | rfl | rfl | rfl | rfl
  ·exact ⟨_,hz,fun v z=>by cases z⟩
  ·exact ⟨_,hO,fun v z=>by cases z⟩
  ·exact ⟨_,hI,fun v z=>by cases z⟩
  ·exact s2.obj
  ·exact s1.obj
 keep:=fun i h h' st k=>by
  obtain ⟨⟨f0,f1,hz,hk⟩,hI,⟨u,v,hO⟩,s1,s2⟩:=st
  exact ⟨⟨f0,f1,k _ (by simp) _ hz,hk⟩,k _ (by simp) _ hI,⟨u,v,k _ (by simp) _ hO⟩,s1.at (k _ (by simp)),s2.at (k _ (by simp))⟩
 item:=by
  intro X hP hw hK hc i pins s σ H E I hf st hg
  subst hP hw hK
  obtain ⟨⟨f0,f1,hz,hk0⟩,hI,⟨u0,v0,hO⟩,s1,s2⟩:=st
  obtain ⟨xs,ys,x,y,hqa,hqb,hx,hy⟩:=hg
  obtain ⟨ia,ra,pa⟩:=xR I hqa
  obtain ⟨ib,rb,pb⟩:=xR I hqb
  obtain ⟨u,hu,ru⟩:=ra.get hx
  obtain ⟨v,hv,rv⟩:=rb.get hy
  have l1:i < ia.toArray.size:=by have:=(List.getElem?_eq_some_iff.mp hu).1; simpa using this
  have l2:i < ib.toArray.size:=by have:=(List.getElem?_eq_some_iff.mp hv).1; simpa using this
  have an:a ≠ n:=Nat.ne_of_lt ha
  have bn:b ≠ n + 1:=by omega
  have zs:n + 4 < s.heap.objs.size:=Heap.lt_size hz
  have fin:∀ p q h1 tk,ia.toArray[i]? = some p -> ib.toArray[i]? = some q -> (∃ f0 f1,IsZp h1 (n + 4) (n + 2) (n + 3) f0 f1 /\ (f0 = .none \/ ∃ a t,f0 = Value.int a t)) -> IsPair h1 (n + 2) (.ref n) (.ref (n + 1)) -> (∃ u v,IsPair h1 (n + 3) u v) -> wT c h1 n a (i + 1) -> wT d h1 (n + 1) b (i + 1) -> IsPair h1 s.heap.objs.size p q →
    (∀ c o,c ≠ n + 4 -> c ≠ n + 3 -> c ≠ n -> c ≠ n + 1 -> s.heap.get? c = some o -> h1.get? c = some o) →
    ∃ u,some (Value.ref s.heap.objs.size) = some u /\ wpAny (model X.prog X.w) X.A (letOwnedTupleGo (.Name nm pt) (.ref (n + 4)) u) (fun _ s2=>∃ x H',Inv X pins σ H' s2 /\ RelV x u /\ (Itz X.K c a d b).yld i H x H' /\ Z8 c d (n + 4) (n + 2) (n + 3) n (n + 1) a b (i + 1) s2.heap /\ ∀ b ∈ [n + 4,n + 3,n + 2,n + 1,n],H' b = none) E { s with heap:=h1,toks:=tk }:=by
   intro p q h1 tk hp hq hz1 hI1 hO1 st1 st2 hT hk
   have ep:p = u:=by
    have e2:ia.toArray[i]? = some u:=by simpa using hu
    rw [hp] at e2; exact Option.some.inj e2
   have eq':q = v:=by
    have e2:ib.toArray[i]? = some v:=by simpa using hv
    rw [hq] at e2; exact Option.some.inj e2
   subst ep eq'
   refine ⟨_,rfl,wpAny_pure ?_⟩
   have hk2:∀ b o,b ∉ [n + 4,n + 3,n + 2,n + 1,n] -> s.heap.get? b = some o -> h1.get? b = some o:=fun b o hb q =>
    hk b o (fun z=>hb (by simp [z])) (fun z=>hb (by simp [z])) (fun z=>hb (by simp [z])) (fun z=>hb (by simp [z])) q
   have hn:H s.heap.objs.size = none:=I.hok.fresh (Nat.le_refl _)
   have I2:Inv X pins σ (upd H s.heap.objs.size (.tup [x,y])) { s with heap:=h1,toks:=tk }:=Xh (s:=s) I hk2 hf (Nat.le_refl _) ⟨by show 2 <= sizeLine; decide,[p,q],.cons ru (.cons rv .nil),_,hT,rfl,0,rfl⟩
   refine ⟨.ref s.heap.objs.size,upd H s.heap.objs.size (.tup [x,y]),I2,rfl,⟨_,x,y,hn,rfl,rfl,fun zs hz=>by rw [y8 I hz hqa]; exact hx,fun zs hz=>by rw [y8 I hz hqb]; exact hy⟩,⟨hz1,hI1,hO1,st1,st2⟩,fun q hq=>?_⟩
   have nb:q ≠ s.heap.objs.size:=by
    simp only [List.mem_cons,List.mem_nil_iff,or_false] at hq
    omega
   rw [zB nb]; exact (hf q hq).1
  rcases uK (h:=s.heap) hk0 with hfr | hfr
  ·refine jO hz (Z1 (A:=X.A.in1) (Q:=fun v s1=>∃ u,some v = some u /\ wpAny (model X.prog X.w) X.A (letOwnedTupleGo (.Name nm pt) (.ref (n + 4)) u) (fun _ s2=>∃ x H',Inv X pins σ H' s2 /\ RelV x u /\ (Itz X.K c a d b).yld i H x H' /\ Z8 c d (n + 4) (n + 2) (n + 3) n (n + 1) a b (i + 1) s2.heap /\ ∀ b ∈ [n + 4,n + 3,n + 2,n + 1,n],H' b = none) E s1)
    (uI (A:=X.A.in1) (I.ok.hd hc) c n a an ia.toArray) (uI (A:=X.A.in1) (I.ok.hd hc) d (n + 1) b bn ib.toArray) hz hfr hI hO ⟨s1,pa⟩ ⟨s2,pb⟩ l1 l2 (nin2 (by first | exact nad _ _ (by decide) | exact nad0 _ (by decide) | exact (nad0 _ (by decide)).symm | omega) (by first | exact nad _ _ (by decide) | exact nad0 _ (by decide) | exact (nad0 _ (by decide)).symm | omega)) (nin2 (by first | exact nad _ _ (by decide) | exact nad0 _ (by decide) | exact (nad0 _ (by decide)).symm | omega) (by first | exact nad _ _ (by decide) | exact nad0 _ (by decide) | exact (nad0 _ (by decide)).symm | omega)) (nin2 (by first | exact nad _ _ (by decide) | exact nad0 _ (by decide) | exact (nad0 _ (by decide)).symm | omega) (by first | exact nad _ _ (by decide) | exact nad0 _ (by decide) | exact (nad0 _ (by decide)).symm | omega)) (nin2 (by first | exact nad _ _ (by decide) | exact nad0 _ (by decide) | exact (nad0 _ (by decide)).symm | omega) (by first | exact nad _ _ (by decide) | exact nad0 _ (by decide) | exact (nad0 _ (by decide)).symm | omega)) (nin2 (by first | exact nad _ _ (by decide) | exact nad0 _ (by decide) | exact (nad0 _ (by decide)).symm | omega) (by first | exact nad _ _ (by decide) | exact nad0 _ (by decide) | exact (nad0 _ (by decide)).symm | omega)) (nin2 (by first | exact nad _ _ (by decide) | exact nad0 _ (by decide) | exact (nad0 _ (by decide)).symm | omega) (by first | exact nad _ _ (by decide) | exact nad0 _ (by decide) | exact (nad0 _ (by decide)).symm | omega)) (by first | exact nad _ _ (by decide) | exact nad0 _ (by decide) | exact (nad0 _ (by decide)).symm | omega) (by first | exact nad _ _ (by decide) | exact nad0 _ (by decide) | exact (nad0 _ (by decide)).symm | omega) (by first | exact nad _ _ (by decide) | exact nad0 _ (by decide) | exact (nad0 _ (by decide)).symm | omega) (by first | exact nad _ _ (by decide) | exact nad0 _ (by decide) | exact (nad0 _ (by decide)).symm | omega) (by first | exact nad _ _ (by decide) | exact nad0 _ (by decide) | exact (nad0 _ (by decide)).symm | omega) (by first | exact nad _ _ (by decide) | exact nad0 _ (by decide) | exact (nad0 _ (by decide)).symm | omega) (by first | exact nad _ _ (by decide) | exact nad0 _ (by decide) | exact (nad0 _ (by decide)).symm | omega) (by first | exact nad _ _ (by decide) | exact nad0 _ (by decide) | exact (nad0 _ (by decide)).symm | omega) (by first | exact nad _ _ (by decide) | exact nad0 _ (by decide) | exact (nad0 _ (by decide)).symm | omega) fun p q h1 tk hp hq hz1 hI1 hO1 st1 st2 hT hsz hk=>fin p q h1 tk hp hq ⟨_,_,hz1,.inr ⟨_,_,rfl⟩⟩ hI1 ⟨_,_,hO1⟩ st1.1 st2.1 hT hk)
  ·refine jO hz (Z4 (A:=X.A.in1) (Q:=fun v s1=>∃ u,some v = some u /\ wpAny (model X.prog X.w) X.A (letOwnedTupleGo (.Name nm pt) (.ref (n + 4)) u) (fun _ s2=>∃ x H',Inv X pins σ H' s2 /\ RelV x u /\ (Itz X.K c a d b).yld i H x H' /\ Z8 c d (n + 4) (n + 2) (n + 3) n (n + 1) a b (i + 1) s2.heap /\ ∀ b ∈ [n + 4,n + 3,n + 2,n + 1,n],H' b = none) E s1)
    (uI (A:=X.A.in1) (I.ok.hd hc) c n a an ia.toArray) (uI (A:=X.A.in1) (I.ok.hd hc) d (n + 1) b bn ib.toArray) hz hfr hI hO ⟨s1,pa⟩ ⟨s2,pb⟩ l1 l2 (nin2 (by first | exact nad _ _ (by decide) | exact nad0 _ (by decide) | exact (nad0 _ (by decide)).symm | omega) (by first | exact nad _ _ (by decide) | exact nad0 _ (by decide) | exact (nad0 _ (by decide)).symm | omega)) (nin2 (by first | exact nad _ _ (by decide) | exact nad0 _ (by decide) | exact (nad0 _ (by decide)).symm | omega) (by first | exact nad _ _ (by decide) | exact nad0 _ (by decide) | exact (nad0 _ (by decide)).symm | omega)) (nin2 (by first | exact nad _ _ (by decide) | exact nad0 _ (by decide) | exact (nad0 _ (by decide)).symm | omega) (by first | exact nad _ _ (by decide) | exact nad0 _ (by decide) | exact (nad0 _ (by decide)).symm | omega)) (nin2 (by first | exact nad _ _ (by decide) | exact nad0 _ (by decide) | exact (nad0 _ (by decide)).symm | omega) (by first | exact nad _ _ (by decide) | exact nad0 _ (by decide) | exact (nad0 _ (by decide)).symm | omega)) (by first | exact nad _ _ (by decide) | exact nad0 _ (by decide) | exact (nad0 _ (by decide)).symm | omega) (by first | exact nad _ _ (by decide) | exact nad0 _ (by decide) | exact (nad0 _ (by decide)).symm | omega) (by first | exact nad _ _ (by decide) | exact nad0 _ (by decide) | exact (nad0 _ (by decide)).symm | omega) (by first | exact nad _ _ (by decide) | exact nad0 _ (by decide) | exact (nad0 _ (by decide)).symm | omega) (by first | exact nad _ _ (by decide) | exact nad0 _ (by decide) | exact (nad0 _ (by decide)).symm | omega) (by first | exact nad _ _ (by decide) | exact nad0 _ (by decide) | exact (nad0 _ (by decide)).symm | omega) (by first | exact nad _ _ (by decide) | exact nad0 _ (by decide) | exact (nad0 _ (by decide)).symm | omega) (by first | exact nad _ _ (by decide) | exact nad0 _ (by decide) | exact (nad0 _ (by decide)).symm | omega) fun p q h1 tk hp hq hz1 hI1 hO1 st1 st2 hT hsz hk=>fin p q h1 tk hp hq ⟨_,_,hz1,hk0⟩ hI1 ⟨_,_,hO1⟩ st1.1 st2.1 hT fun c o c1 c2 c3 c4 e=>hk c o c1 c3 c4 e)
 done:=by
  intro X hP hw hK hc i pins s σ H E I hf st hg
  subst hP hw hK
  obtain ⟨⟨f0,f1,hz,hk0⟩,hI,⟨u0,v0,hO⟩,s1,s2⟩:=st
  obtain ⟨xs,ys,hqa,hqb,hl⟩:=hg
  obtain ⟨ia,ra,pa⟩:=xR I hqa
  obtain ⟨ib,rb,pb⟩:=xR I hqb
  have la:=ra.length
  have lb:=rb.length
  have an:a ≠ n:=Nat.ne_of_lt ha
  have fin:∀ (h':Heap) (e:Addr) (tk:Nat),(∀ c o,c ≠ n + 4 -> c ≠ n + 3 -> c ≠ n -> c ≠ n + 1 -> s.heap.get? c = some o -> h'.get? c = some o) -> Inv X pins σ H { s with heap:=h',toks:=tk }:=fun h' e tk k =>
   ZK (fp:=[n + 4,n + 3,n + 2,n + 1,n]) I (fun b o hb q=>k b o (fun z=>hb (by simp [z])) (fun z=>hb (by simp [z])) (fun z=>hb (by simp [z])) (fun z=>hb (by simp [z])) q) hf
  rcases uK (h:=s.heap) hk0 with hfr | hfr
  ·by_cases h1:xs.length <= i
   ·exact jO hz (Z2 (A:=X.A.in1) (xQ (A:=X.A.in1) (I.ok.hd hc) c n a ia.toArray (i:=i) (by simp; omega)) hz hfr hI hO ⟨rfl,s1,pa⟩ (nin2 (by first | exact nad _ _ (by decide) | exact nad0 _ (by decide) | exact (nad0 _ (by decide)).symm | omega) (by first | exact nad _ _ (by decide) | exact nad0 _ (by decide) | exact (nad0 _ (by decide)).symm | omega)) (by first | exact nad _ _ (by decide) | exact nad0 _ (by decide) | exact (nad0 _ (by decide)).symm | omega) fun h' e tk k ho=>⟨e,rfl,ho,rfl,fin h' e tk k⟩)
   ·have h2:ys.length <= i:=by omega
    exact jO hz (Z3 (A:=X.A.in1) (uI (A:=X.A.in1) (I.ok.hd hc) c n a an ia.toArray) (xQ (A:=X.A.in1) (I.ok.hd hc) d (n + 1) b ib.toArray (i:=i) (by simp; omega)) hz hfr hI hO ⟨s1,pa⟩ ⟨rfl,s2,pb⟩ (by simp; omega) (nin2 (by first | exact nad _ _ (by decide) | exact nad0 _ (by decide) | exact (nad0 _ (by decide)).symm | omega) (by first | exact nad _ _ (by decide) | exact nad0 _ (by decide) | exact (nad0 _ (by decide)).symm | omega)) (nin2 (by first | exact nad _ _ (by decide) | exact nad0 _ (by decide) | exact (nad0 _ (by decide)).symm | omega) (by first | exact nad _ _ (by decide) | exact nad0 _ (by decide) | exact (nad0 _ (by decide)).symm | omega)) (nin2 (by first | exact nad _ _ (by decide) | exact nad0 _ (by decide) | exact (nad0 _ (by decide)).symm | omega) (by first | exact nad _ _ (by decide) | exact nad0 _ (by decide) | exact (nad0 _ (by decide)).symm | omega)) (nin2 (by first | exact nad _ _ (by decide) | exact nad0 _ (by decide) | exact (nad0 _ (by decide)).symm | omega) (by first | exact nad _ _ (by decide) | exact nad0 _ (by decide) | exact (nad0 _ (by decide)).symm | omega)) (by first | exact nad _ _ (by decide) | exact nad0 _ (by decide) | exact (nad0 _ (by decide)).symm | omega) (by first | exact nad _ _ (by decide) | exact nad0 _ (by decide) | exact (nad0 _ (by decide)).symm | omega) (by first | exact nad _ _ (by decide) | exact nad0 _ (by decide) | exact (nad0 _ (by decide)).symm | omega) (by first | exact nad _ _ (by decide) | exact nad0 _ (by decide) | exact (nad0 _ (by decide)).symm | omega) fun h' e tk k ho=>⟨e,rfl,ho,rfl,fin h' e tk k⟩)
  ·by_cases h1:xs.length <= i
   ·exact jO hz (Z5 (A:=X.A.in1) (xQ (A:=X.A.in1) (I.ok.hd hc) c n a ia.toArray (i:=i) (by simp; omega)) hz hfr hI ⟨rfl,s1,pa⟩ (nin2 (by first | exact nad _ _ (by decide) | exact nad0 _ (by decide) | exact (nad0 _ (by decide)).symm | omega) (by first | exact nad _ _ (by decide) | exact nad0 _ (by decide) | exact (nad0 _ (by decide)).symm | omega)) fun h' e tk k ho=>⟨e,rfl,ho,rfl,fin h' e tk fun c o c1 _ c3 c4 q=>k c o c1 c3 c4 q⟩)
   ·have h2:ys.length <= i:=by omega
    exact jO hz (Z6 (A:=X.A.in1) (uI (A:=X.A.in1) (I.ok.hd hc) c n a an ia.toArray) (xQ (A:=X.A.in1) (I.ok.hd hc) d (n + 1) b ib.toArray (i:=i) (by simp; omega)) hz hfr hI ⟨s1,pa⟩ ⟨rfl,s2,pb⟩ (by simp; omega) (nin2 (by first | exact nad _ _ (by decide) | exact nad0 _ (by decide) | exact (nad0 _ (by decide)).symm | omega) (by first | exact nad _ _ (by decide) | exact nad0 _ (by decide) | exact (nad0 _ (by decide)).symm | omega)) (nin2 (by first | exact nad _ _ (by decide) | exact nad0 _ (by decide) | exact (nad0 _ (by decide)).symm | omega) (by first | exact nad _ _ (by decide) | exact nad0 _ (by decide) | exact (nad0 _ (by decide)).symm | omega)) (nin2 (by first | exact nad _ _ (by decide) | exact nad0 _ (by decide) | exact (nad0 _ (by decide)).symm | omega) (by first | exact nad _ _ (by decide) | exact nad0 _ (by decide) | exact (nad0 _ (by decide)).symm | omega)) fun h' e tk k ho=>⟨e,rfl,ho,rfl,fin h' e tk fun c o c1 _ c3 c4 q=>k c o c1 c3 c4 q⟩)
 self:=fun _ _ _ _ _ st h=>by obtain ⟨⟨f0,f1,hz,_⟩,_⟩:=st; exact TJ hz h
def evIx (c n:Nat):List Nat:=(List.range ((n + 1 - c) / 2)).map fun k=>c + 2 * k
def yH {α:Type} (ks:List Nat) (xs:List α):List α:=ks.filterMap fun i=>xs[i]?
theorem Ya {its:List Value} {ks:List Nat} {lo:Option Int} (h:sliceRange (sliceBounds lo none (some 2) its.length).1 (sliceBounds lo none (some 2) its.length).2.1 (sliceBounds lo none (some 2) its.length).2.2 = ks) :
  slicePick its.toArray lo none (some 2) = (yH ks its).toArray:=by
 unfold slicePick yH
 rw [List.size_toArray,h]
 congr 1
 refine vA fun k _=>?_
 simp
theorem ix0 (n:Nat):sliceRange (sliceBounds none none (some 2) n).1 (sliceBounds none none (some 2) n).2.1 (sliceBounds none none (some 2) n).2.2 = evIx 0 n:=by
 have b1:(sliceBounds none none (some 2) n).1 = 0:=by simp [sliceBounds]
 have b2:(sliceBounds none none (some 2) n).2.1 = n:=by simp [sliceBounds]
 have b3:(sliceBounds none none (some 2) n).2.2 = 2:=rfl
 rw [b1,b2,b3]
 unfold sliceRange evIx
 rw [if_pos (by decide)]
 have:(if (0:Int) < n then ((n:Int) - 0 + 2 - 1) / 2 else 0).toNat = (n + 1 - 0) / 2:=by split <;> omega
 dsimp only
 rw [this]
 refine List.map_congr_left fun k _=>?_
 omega
theorem ix1 (n:Nat):sliceRange (sliceBounds (some 1) none (some 2) n).1 (sliceBounds (some 1) none (some 2) n).2.1 (sliceBounds (some 1) none (some 2) n).2.2 = evIx 1 n:=by
 have b1:(sliceBounds (some 1) none (some 2) n).1 = min 1 (n:Int):=by simp [sliceBounds]; omega
 have b2:(sliceBounds (some 1) none (some 2) n).2.1 = n:=by simp [sliceBounds]
 have b3:(sliceBounds (some 1) none (some 2) n).2.2 = 2:=rfl
 rw [b1,b2,b3]
 unfold sliceRange evIx
 rw [if_pos (by decide)]
 have:(if min 1 (n:Int) < n then ((n:Int) - min 1 (n:Int) + 2 - 1) / 2 else 0).toNat = (n + 1 - 1) / 2:=by split <;> omega
 dsimp only
 rw [this]
 refine List.map_congr_left fun k hk=>?_
 have:=List.mem_range.mp hk
 omega
theorem qX {xs:List V} {us:List Value} (r:Vals xs us):∀ ks:List Nat,Vals (yH ks xs) (yH ks us):=by
 intro ks
 induction ks with
 | nil=>exact .nil
 | cons k ks ih =>
  have hl:=r.length
  unfold yH at ih ⊢
  cases e:xs[k]? with
  | none =>
   have e2:us[k]? = none:=by rw [List.getElem?_eq_none_iff] at e ⊢; omega
   rw [List.filterMap_cons_none e,List.filterMap_cons_none e2]; exact ih
  | some x =>
   obtain ⟨u,hu,ru⟩:=r.get e
   rw [List.filterMap_cons_some e,List.filterMap_cons_some hu]; exact .cons ru ih
theorem qY {c n:Nat} (h:c <= 1):(evIx c n).length <= n:=by unfold evIx; rw [List.length_map,List.length_range]; omega
theorem qZ {α:Type} {ks:List Nat} {xs:List α}:(yH ks xs).length <= ks.length:=List.length_filterMap_le _ _
section
variable {X:Cx} {K:FG7}
def tEvL (K:FG7) (c:Nat) (te:TE):TE:=fun σ H Q=>te σ H fun x H1=>∃ a xs,x = .ref a /\ SqL K H1 a xs /\ ∀ p,H1 p = none -> Q (.ref p) (upd H1 p (.lst (yH (evIx c xs.length) xs)))
theorem Uz {e:Expr} {te:TE} {j:Nat} {pc p2 pos:Pos} (hK:X.K = K) (he:PE X e te):PE X (.Subscript e (.Slice none none (some (.Constant (.int 2) j pc)) p2) pos) (tEvL K 0 te):=by
 subst hK
 intro pins s σ H Q I h
 refine Subscript_ (thn (he pins s σ H _ I h) fun v s1 ⟨x,H1,I1,r1,q1⟩=>?_)
 obtain ⟨a,xs,rfl,hx,q⟩:=q1
 cases (show v = Value.ref a from r1)
 refine wpAny_Slice (thn (yu pins s1 σ H1 (fun o H2=>o = none /\ H2 = H1) I1 ⟨rfl,rfl⟩) fun vl s2 ⟨l,H2,I2,pl,q2a,q2⟩=>thn (yu pins s2 σ H2 (fun o H3=>o = none /\ H3 = H1) I2 ⟨rfl,q2⟩) fun vu s3 ⟨u,H3,I3,pu',q3a,q3⟩=>?_)
 subst q2a q3a q3
 refine thn (yF zg pins s3 σ H3 (fun o H4=>o = some 2 /\ H4 = H3) I3 ⟨_,rfl,rfl,rfl⟩) fun vs s4 ⟨o,H4,I4,po,q4,q5⟩=>?_
 subst q4 q5
 have I5:Inv X pins σ H4 { s4 with heap:=s4.heap.push { cls:=.type "slice",data:=.fields #[vl,vu,vs] } }:=I4.kept (t':=s4.toks) fun b ob q=>Heap.get?_push_of_some _ q
 show wpAny (model X.prog X.w) X.A (subscriptTail e _ (.ref a) (.ref s4.heap.objs.size)) (EP X pins σ Q) X.xe { s4 with heap:=s4.heap.push { cls:=.type "slice",data:=.fields #[vl,vu,vs] } }
 obtain ⟨its,r,ht,hz⟩:=I5.list hx
 have hlen:=r.length
 refine tail_any (ops:=[.ref a,.ref s4.heap.objs.size]) ht.isList.typeIs slot_list_getitem.lookup ?_ (by with_unfolding_all rfl)
 refine wpAny_getItem_list_slice ht.isList (Heap.IsSliceOf.new ..) pl pu' po (by decide) ?_ (by rw [List.size_toArray] <;> omega)
 rw [Ya (ix0 _)]
 rw [hlen] at q
 refine ⟨.ref _,_,I5.laid (t':=s4.toks) (o:=.lst (yH (evIx 0 its.length) xs)) (fun b ob q=>Heap.get?_push_of_some _ q) (Nat.le_refl _) ?_,rfl,q _ (I5.hok.fresh (Nat.le_refl _))⟩
 exact ⟨Nat.le_trans qZ (Nat.le_trans (qY (by decide)) (by omega)),_,0,qX r _,Heap.get?_push_size _ rfl⟩
theorem UA {e:Expr} {te:TE} {i j:Nat} {pb pc p2 pos:Pos} (hK:X.K = K) (he:PE X e te):PE X (.Subscript e (.Slice (some (.Constant (.int 1) i pb)) none (some (.Constant (.int 2) j pc)) p2) pos) (tEvL K 1 te):=by
 subst hK
 intro pins s σ H Q I h
 refine Subscript_ (thn (he pins s σ H _ I h) fun v s1 ⟨x,H1,I1,r1,q1⟩=>?_)
 obtain ⟨a,xs,rfl,hx,q⟩:=q1
 cases (show v = Value.ref a from r1)
 refine wpAny_Slice (thn (yF zg pins s1 σ H1 (fun o H2=>o = some 1 /\ H2 = H1) I1 ⟨_,rfl,rfl,rfl⟩) fun vl s2 ⟨l,H2,I2,pl,q2a,q2⟩=>thn (yu pins s2 σ H2 (fun o H3=>o = none /\ H3 = H1) I2 ⟨rfl,q2⟩) fun vu s3 ⟨u,H3,I3,pu',q3a,q3⟩=>?_)
 subst q2a q3a q3
 refine thn (yF zg pins s3 σ H3 (fun o H4=>o = some 2 /\ H4 = H3) I3 ⟨_,rfl,rfl,rfl⟩) fun vs s4 ⟨o,H4,I4,po,q4,q5⟩=>?_
 subst q4 q5
 have I5:Inv X pins σ H4 { s4 with heap:=s4.heap.push { cls:=.type "slice",data:=.fields #[vl,vu,vs] } }:=I4.kept (t':=s4.toks) fun b ob q=>Heap.get?_push_of_some _ q
 show wpAny (model X.prog X.w) X.A (subscriptTail e _ (.ref a) (.ref s4.heap.objs.size)) (EP X pins σ Q) X.xe { s4 with heap:=s4.heap.push { cls:=.type "slice",data:=.fields #[vl,vu,vs] } }
 obtain ⟨its,r,ht,hz⟩:=I5.list hx
 have hlen:=r.length
 refine tail_any (ops:=[.ref a,.ref s4.heap.objs.size]) ht.isList.typeIs slot_list_getitem.lookup ?_ (by with_unfolding_all rfl)
 refine wpAny_getItem_list_slice ht.isList (Heap.IsSliceOf.new ..) pl pu' po (by decide) ?_ (by rw [List.size_toArray] <;> omega)
 rw [Ya (ix1 _)]
 rw [hlen] at q
 refine ⟨.ref _,_,I5.laid (t':=s4.toks) (o:=.lst (yH (evIx 1 its.length) xs)) (fun b ob q=>Heap.get?_push_of_some _ q) (Nat.le_refl _) ?_,rfl,q _ (I5.hok.fresh (Nat.le_refl _))⟩
 exact ⟨Nat.le_trans qZ (Nat.le_trans (qY (by decide)) (by omega)),_,0,qX r _,Heap.get?_push_size _ rfl⟩
end
def vW (K:FG7) (H:Hp) (f:Addr) (rows:List (List Int)):Prop:=∃ xs,H f = some (.lst xs) /\ AllR (we K H) xs rows
theorem vW.grow {K:FG7} {H H':Hp} {f:Addr} {rows:List (List Int)} (h:vW K H f rows) (g:Grow [] H H'):vW K H' f rows:=by
 obtain ⟨xs,e,a⟩:=h
 exact ⟨xs,g.keep _ _ (by simp) e,g.boardsR a⟩
theorem vW.ne {K:FG7} {H:Hp} {f r:Addr} {rows:List (List Int)} (h:vW K H f rows) (e:H r = none):r ≠ f:=by
 obtain ⟨xs,e',_⟩:=h
 intro z; rw [z,e'] at e; cases e
theorem vW.set {K:FG7} {H:Hp} {f:Addr} {rows:List (List Int)} {xs:List V} (e:H f = some (.lst xs)) (a:AllR (we K H) xs rows):vW K H f rows:=⟨xs,e,a⟩
structure CScC (X:Cx) (scope:Scope) (N':List Str) (sub:List (Option Nat)):Prop where
 free:∀ y ∈ scope.names,y.2 = .free -> X.env.kindOf y.1 = some .cell
 nd:(scope.names.map (·.1)).Nodup
 kind:scope.kind = .function
 names:∀ y ∈ scope.names,y.2 = .local -> scope.names.lookup y.1 = some .local
 len:sub.length = N'.length
 cap:∀ (j:Nat) (y:Str) (i:Nat),N'[j]? = some y -> sub[j]? = some (some i) -> X.N[i]? = some y /\ X.env.scope.names.lookup y = some .cell /\ scope.names.lookup y = some .free
section
variable {X:Cx} {scope:Scope} {N':List Str} {sub:List (Option Nat)} {tg:Expr} {pos:Pos} {elt iter:Expr} {ifs:List Expr} {wi:TI} {g:TG} {tt:TT} {te:TE}
theorem CScC.clos {pins:List (Addr × Obj)} {σ:L2.St} {H:Hp} {s:Shared} (S:CScC X scope N' sub) (I:Inv X pins σ H s):∃ cl,closureFor scope X.env = pure cl /\ (∀ x c,cl.lookup x = some c -> X.env.cells.lookup x = some c) /\ ∀ y ∈ scope.names,y.2 = .free -> ∃ c,cl.lookup y.1 = some c :=
 uD fun y hy hf=>I.ok.has y.1 (.inl (S.free y hy hf))
end
theorem CScC.of {X:Cx} {scope:Scope} {N':List Str} {sub:List (Option Nat)} (sc:Scope) (NN:List Str) (e:X.env.scope = sc) (en:X.N = NN)
  (h:((scope.names.all fun y=>(y.2 != .free || sc.names.lookup y.1 == some .cell) && (y.2 != .local || scope.names.lookup y.1 == some .local)) && (sub.length == N'.length) &&
   ((N'.zip sub).all fun p=>match p.2 with | none=>true | some i=>NN[i]? == some p.1 && sc.names.lookup p.1 == some .cell && scope.names.lookup p.1 == some .free)) = true)
  (nd:(scope.names.map (·.1)).Nodup) (hk:scope.kind = .function):CScC X scope N' sub:=by
 rw [Bool.and_eq_true,Bool.and_eq_true] at h
 obtain ⟨⟨h1,h2⟩,h3⟩:=h
 have k1:=fun y hy=>List.all_eq_true.mp h1 y hy
 refine ⟨fun y hy hf=>?_,nd,hk,fun y hy hl=>?_,by simpa using h2,fun j y i hj hs=>?_⟩
 ·have:=k1 y hy
  simp only [hf,Bool.and_eq_true] at this
  have z:=this.1
  show X.env.scope.names.lookup y.1 = _
  rw [e]; simpa using z
 ·have:=k1 y hy
  simp only [hl,Bool.and_eq_true] at this
  simpa using this.2
 ·have hm:(y,some i) ∈ N'.zip sub:=by
   have:(N'.zip sub)[j]? = some (y,some i):=by
    rw [List.getElem?_zip_eq_some]; exact ⟨hj,hs⟩
   exact List.mem_of_getElem? this
  have:=List.all_eq_true.mp h3 _ hm
  simp only [Bool.and_eq_true,beq_iff_eq] at this
  rw [e,en]
  exact ⟨this.1.1,this.1.2,this.2⟩
theorem Uj.at {ds:List Deed} (h:Uj ds) {i:Nat} (hi:i < ds.length):(ds.getD i look).Ok:=h _ (List.mem_of_getElem? (Ty hi))
structure MixOk (m:List Nat):Prop where
 nd:m.Nodup
 lt:∀ j ∈ m,j < m.length
 has:∀ j,j < m.length -> j ∈ m
theorem MixOk.of {m:List Nat} {n:Nat} (h:m.Perm (List.range n)):MixOk m /\ m.length = n:=by
 have hl:m.length = n:=by rw [h.length_eq,List.length_range]
 refine ⟨⟨(h.nodup_iff).mpr List.nodup_range,fun j hj=>?_,fun j hj=>?_⟩,hl⟩
 ·rw [hl]; exact List.mem_range.mp (h.mem_iff.mp hj)
 ·exact h.mem_iff.mpr (List.mem_range.mpr (by omega))
theorem MixOk.at {m:List Nat} (h:MixOk m) {j:Nat} (hj:j < m.length):m.idxOf j < m.length /\ m.getD (m.idxOf j) 0 = j:=by
 have hl:=List.idxOf_lt_length_of_mem (h.has j hj)
 refine ⟨hl,?_⟩
 rw [List.getD_eq_getElem?_getD,List.getElem?_eq_getElem hl]
 exact List.getElem_idxOf hl
abbrev in2 (X:Cx):Cx:={ X with A:=X.A.in1.in1 }
theorem Vg {X:Cx} {pins:List (Addr × Obj)} {σ:L2.St} {H:Hp} {s:Shared} (I:Inv X pins σ H s):Inv (in2 X) pins σ H s :=
 ⟨⟨I.ok.mod,I.ok.kind,I.ok.glob,I.ok.blt,I.ok.above,I.ok.inj,I.ok.has,I.ok.cab,I.ok.hd,I.ok.frames,I.ok.stk,I.ok.exf,I.ok.bs,I.ok.bsz,I.ok.noex,I.ok.exfs,I.ok.funs,I.ok.frf⟩,I.os,I.bare,I.base,I.loc,I.cell,I.free,I.freeC,I.pin,I.hok,I.len⟩
theorem q8 {X:Cx} {pins:List (Addr × Obj)} {σ:L2.St} {H:Hp} {s:Shared} (I:Inv (L3.in2 X) pins σ H s):Inv X pins σ H s :=
 ⟨⟨I.ok.mod,I.ok.kind,I.ok.glob,I.ok.blt,I.ok.above,I.ok.inj,I.ok.has,I.ok.cab,I.ok.hd,I.ok.frames,I.ok.stk,I.ok.exf,I.ok.bs,I.ok.bsz,I.ok.noex,I.ok.exfs,I.ok.funs,I.ok.frf⟩,I.os,I.bare,I.base,I.loc,I.cell,I.free,I.freeC,I.pin,I.hok,I.len⟩
theorem UB {M:Model} {A:Around} {m:Sem (Option Value)} {E E':VS7} {s:Shared} {P:VS7} {Q:Option Value -> Shared -> Prop} (h:wpAny M A m (fun r s1=>∃ u,r = some u /\ wpAny M A (pure ()) (fun _ s2=>P u s2) E' s1) E s)
  (k:∀ u s1,P u s1 -> Q (some u) s1):wpAny M A m Q E s :=
 fun Γ p hΓ=>Sem.wp_mono M Γ m (fun r p' s1 z=>by obtain ⟨u,rfl,z⟩:=z; exact k u s1 (z Γ p' hΓ)) (fun _ _ _ e=>e) p s (h Γ p hΓ)
structure WkD (prog:Program) (w:World) (A:Around) (T:String) (I:Addr) (n:Nat) (Fr:Addr -> Prop) (J:List Value -> Shared -> Prop) (Fn:List Value -> Shared -> Prop):Prop where
 ty:∀ acc s,J acc s -> s.TypeIs (.ref I) T
 self:∀ acc s (Q:VS7) (E:VS7),J acc s -> Q (.ref I) s -> wpAny (model prog w) A (pyIter (.ref I)) Q E s
 stay:∀ acc s (S:Addr) (ob:Obj) (h':Heap),J acc s -> Fr S -> s.heap.get? S = some ob -> (ob.cls = .type "list" /\ ∀ v,ob.data ≠ .cell v) -> (∀ b o,b ≠ S -> s.heap.get? b = some o -> h'.get? b = some o) -> h'.objs.size = s.heap.objs.size -> J acc { s with heap:=h' }
 next:∀ acc s (S:Addr) (ob:Obj) (Q:Option Value -> Shared -> Prop) (E:VS7),J acc s -> Fr S -> s.heap.get? S = some ob -> (ob.cls = .type "list" /\ ∀ v,ob.data ≠ .cell v) →
  (∀ v s',acc.length < n -> J (acc ++ [v]) s' -> s'.heap.get? S = some ob -> Q (some v) s') -> (∀ s',Fn acc s' -> s'.heap.get? S = some ob -> Q none s') -> wpAny (model prog w) A (pyNext (.ref I)) Q E s
 push:∀ acc s (o:Obj),J acc s -> J acc { s with heap:=s.heap.push o }
section
variable {X:Cx} {pins:List (Addr × Obj)} {σ:L2.St} {fp:List Addr} {it:Addr} {tn:Nat -> Heap -> Prop} {Jt:It} {nm:Str} {pt:Pos} {cls:String} {H0:Hp} {S0:Addr} {n:Nat}
def WkJ (X:Cx) (pins:List (Addr × Obj)) (σ:L2.St) (fp:List Addr) (tn:Nat -> Heap -> Prop) (S0:Addr) (Wv:Nat -> List V -> Hp -> Prop) (acc:List Value) (s:Shared):Prop :=
 ∃ (H':Hp) (ys:List V),Inv X pins σ H' s /\ tn acc.length s.heap /\ (∀ b ∈ fp,H' b = none) /\ H' S0 = none /\ Vals ys acc /\ Wv acc.length ys H'
def WkF (X:Cx) (pins:List (Addr × Obj)) (σ:L2.St) (S0:Addr) (Jt:It) (Wv:Nat -> List V -> Hp -> Prop) (acc:List Value) (s:Shared):Prop :=
 ∃ (H':Hp) (ys:List V),Inv X pins σ H' s /\ H' S0 = none /\ Vals ys acc /\ Wv acc.length ys H' /\ Jt.stop acc.length H'
end
section
variable {X:Cx} {K:FG7} {a b:Expr} {ta:TA} {p p2 pos pos2:Pos}
theorem SqC.grow {c:Bool} {H H':Hp} {a:Addr} {xs:List V} (g:Grow [] H H') (h:SqC c K H a xs):SqC c K H' a xs:=by
 cases c
 ·exact g.sqL h
 ·exact g.sqT h
end
open PySem PySem.Spec PyProof.Rows L2 HT
section
variable {prog:Program} {w:World} {A:Around} {E:VS7} {s:Shared}
theorem Xn (l b:Addr) (us ws:Array Value) (n m:Nat) (d1 d2:Option Addr) (e1 e2:Array (Option Value)) (h0:us.isEmpty = true) :
  Meets (Builtin.«tuple.__add__» ⟨[.ref l,.ref b],[]⟩) (fun _ R s=>s.heap.get? l = some ⟨.type "tuple",d1,.seq us n,e1⟩ /\ s.heap.get? b = some ⟨.type "tuple",d2,.seq ws m,e2⟩ /\ R (.ok (.ret (.ref b))) s) :=
 .of_wp fun P w A R s h=>by
  obtain ⟨hh,gg,dd,tk,os⟩:=s
  obtain ⟨eL,eT,q⟩:=h
  have k1:=PySem.AutoSeq1.sub_tuple_tuple
  wp_walk using PySem.AutoSeq1.wpAny_loadPart' eL,PySem.AutoSeq1.wpAny_loadPart' eT
  exact ⟨_,rfl,q⟩
theorem Xo {t b:Addr} {vs ws:List Value} {Q:VS7} (ht:IsTup s.heap t vs.toArray) (hb:IsTup s.heap b ws.toArray) (hv:vs = []) (h1:Q (.ref b) s):wpAny (model prog w) A (binaryOp .Add (.ref t) (.ref b)) Q E s:=by
 obtain ⟨⟨c1,d1,x1,l1⟩,ho,hc,n,hd⟩:=id ht
 obtain ⟨⟨c2,d2,x2,l2⟩,ho2,hc2,m,hd2⟩:=id hb
 cases hc
 cases hd
 cases hc2
 cases hd2
 exact concat_meets ⟨_,ho,rfl⟩ ⟨_,ho2,rfl⟩ noFill_tuple_add seq_tuple_add PySem.F.slot_tuple_add PySem.F.entry_tuple_add (PySem.F.args_tuple_add_2 _ _) (Xn t b vs.toArray ws.toArray n m d1 d2 l1 l2 (by simp [hv])) ⟨ho,ho2,h1⟩
theorem tm {t sl:Addr} {us:Array Value} {vl vu:Value} {lo hi:Option Int} {Q:VS7} (ht:IsTup s.heap t us) (hs:s.heap.IsSliceOf sl vl vu .none) (pl:IsPart vl lo) (pu:IsPart vu hi)
  (hw:sIx us.size 0 lo = 0 /\ sIx us.size us.size hi = us.size) (h:Q (.ref t) s):wpAny (model prog w) A (getItem (.ref t) (.ref sl)) Q E s:=by
 obtain ⟨os,hos,hcs,hds⟩:=id hs
 have hTs:s.TypeIs (.ref sl) "slice":=⟨os,hos,hcs⟩
 unfold getItem
 try with_reducible refine wpAny_holding ?_
 first | refine wpAny_bind (wpAny_pure ?_) | skip
 refine wpAny_bind (wpAny_sequenceKey ht.typeIs (by decide) ?_)
 refine wpAny_bind (wpAny_callSpecial?_slot (name:=Str.ofString "__getitem__") ht.typeIs PyProof.Rows.slot_tuple_getitem
  (wpAny_call_entry PyProof.Rows.slot_tuple_getitem ht.typeIs entry_tuple_getitem ?_ (args_tuple_getitem _ _)))
 show wpAny _ _ (Builtin.Tuple.tupleItemsOf (.ref t) >>= _) _ _ s
 refine wpAny_bind (tupleItemsOf_ ht ?_)
 refine wpAny_bind (wpAny_typeOf hTs ?_)
 rw [if_pos (by decide)]
 refine wpAny_bind (xw hs pl pu ?_)
 have yes:(((sIx us.size 0 lo:Nat):Int) == 0 && (1:Int) == 1 && (sIx us.size us.size hi - sIx us.size 0 lo) == us.size) = true:=by
  rw [hw.1,hw.2]; simp
 show wpAny _ _ (if (((sIx us.size 0 lo:Nat):Int) == 0 && (1:Int) == 1 && (sIx us.size us.size hi - sIx us.size 0 lo) == us.size) = true then _ else _) _ _ s
 rw [if_pos yes]
 refine wpAny_bind ?_
 unfold Builtin.Tuple.tupleIsExact
 refine wpAny_bind (wpAny_typeOf ht.typeIs (wpAny_pure ?_))
 show wpAny _ _ (rule _ >>= _) _ _ s
 exact wpAny_bind (wpAny_rule (wpAny_bind (wpAny_pure (wpAny_pure ⟨_,rfl,wpAny_pure h⟩))))
end
section
variable {X:Cx} {K:FG7}
def rSlG (K:FG7):V -> Option Int -> Option Int -> Hp -> VK -> Prop:=fun x lo hi H Q=>∃ a xs,x = .ref a /\ SqT K H a xs /\ ∀ p H',Grow [] H H' -> SqT K H' p (cutV xs lo hi) -> Q (.ref p) H'
theorem Yb {xs:List V} {lo hi:Option Int} (h:HT.sIx xs.length 0 lo = 0 /\ HT.sIx xs.length xs.length hi = xs.length):cutV xs lo hi = xs:=by
 unfold cutV
 rw [h.1,h.2,List.drop_zero,Nat.sub_zero,List.take_length]
theorem wf (hK:X.K = K):SlR X (rSlG K):=by
 subst hK
 intro pins s σ H x v vl vu lo hi sl Q I rx hs pl pu h
 obtain ⟨a,xs,rfl,hx,q⟩:=h
 by_cases hw:HT.sIx xs.length 0 lo = 0 /\ HT.sIx xs.length xs.length hi = xs.length
 ·cases rx
  obtain ⟨its,r,ht,hz⟩:=I.tuple hx
  have hlen:its.toArray.size = xs.length:=by rw [List.size_toArray]; exact r.length.symm
  refine ⟨"tuple",_,PyProof.Rows.slot_tuple_getitem.lookup,ht.typeIs,?_⟩
  exact tm ht hs pl pu (by rw [hlen]; exact hw) ⟨.ref a,H,I,rfl,q a H (Grow.refl _ _) (by rw [Yb hw]; exact hx)⟩
 ·exact X7 pins s σ H _ v vl vu lo hi sl Q I rx hs pl pu ⟨a,xs,rfl,hx,hw,fun p hp=>q p _ (Grow.new hp _) (SqT.of zd)⟩
def TK (K:FG7):R2:=fun x y H Q=>∃ a b xs ys,x = .ref a /\ y = .ref b /\ SqT K H a xs /\ SqT K H b ys /\ xs.length + ys.length <= sizeLine /\ ∀ p H',Grow [] H H' -> SqT K H' p (xs ++ ys) -> Q (.ref p) H'
theorem wg (hK:X.K = K):OpR X (binaryOp .Add) (TK K):=by
 subst hK
 intro pins s σ H x y v u Q I rx ry h
 obtain ⟨a,b,xs,ys,rfl,rfl,ha,hb,hz,q⟩:=h
 by_cases hx:xs = []
 ·cases rx
  cases ry
  obtain ⟨its,r1,p1,_⟩:=I.tuple ha
  obtain ⟨its2,r2,p2,_⟩:=I.tuple hb
  exact Xo p1 p2 (r1.nil_iff.mpr hx) ⟨.ref b,H,I,rfl,q b H (Grow.refl _ _) (by rw [hx]; exact hb)⟩
 ·exact WS pins s σ H _ _ v u Q I rx ry ⟨a,b,xs,ys,rfl,rfl,ha,hb,hx,hz,fun e=>q a H (Grow.refl _ _) (by rw [e,List.append_nil]; exact ha),fun _ p hp=>q p _ (Grow.new hp _) (SqT.of zd)⟩
end
def r9 (P:Program) (w:World) (K:FG7) (mg:Str -> Option Value) (base:Heap) (C:Addr) (k:Nat) (m:Str) (ps:List Str) (sp:Sp):Prop :=
 ∃ (f:Addr) (fd:FuncData),FnOk P w K mg base CX0 k f fd ps sp /\ wQ K fd ps [] /\ Meth K C m f
def tq (P:Program) (w:World) (K:FG7) (mg:Str -> Option Value) (base:Heap) (C:Addr) (k:Nat) (ps:List Str) (sp:Sp):Prop :=
 ∃ (j:Nat) (f:Addr) (fd:FuncData),j + 1 = k /\ FnOk P w K mg base CX0 j f fd ps sp /\ wQ K fd ps [] /\ Mk K C f
section
variable {P:Program} {w:World} {K:FG7} {mg:Str -> Option Value} {base:Heap} {C:Addr} {j k:Nat} {m:Str} {ps:List Str} {sp:Sp}
theorem r9.mono (c:r9 P w K mg base C j m ps sp) (h:j <= k):r9 P w K mg base C k m ps sp:=by
 obtain ⟨f,fd,F,b,mt⟩:=c
 exact ⟨f,fd,F.mono h,b,mt⟩
theorem tq.mono (c:tq P w K mg base C j ps sp) (h:j <= k):tq P w K mg base C k ps sp:=by
 obtain ⟨i,f,fd,e,F,b,mt⟩:=c
 exact ⟨k - 1,f,fd,by omega,F.mono (by omega),b,mt⟩
end
structure CTxt (K:FG7) (mg:Str -> Option Value) (C:Addr):Prop where
 cl:Cls K C
 n1:vK K C "depth"
 n2:vK K C "gates"
 n3:vK K C "out_lines"
 n4:vK K C "ups"
 n5:vK K C "tokens"
 n6:vK K C "came_out"
 n7:vK K C "given"
 mgC:mg "Counter" = some (.ref C)
section
variable {X:Cx} {K:FG7}
def FrT (H:Hp) (r:Addr) (xs:List V):Prop:=∃ o:Obj,H r = some (.frz o (.tup xs)) /\ o.cls = .type "tuple" /\ o.dict = none
theorem FrT.sqT {H:Hp} {r:Addr} {xs:List V} (h:FrT H r xs):SqT K H r xs:=by
 obtain ⟨o,e,_⟩:=h
 exact .inl (.inr ⟨o,e⟩)
end
def Trc (h:Heap) (e T:Addr) (cls:Value):Prop :=
 ∃ oe vs oT ts,h.get? e = some oe /\ oe.cls = cls /\ oe.data = .fields vs /\ vs[1]? = some (.ref T) /\ T ≠ e /\ h.get? T = some oT /\ oT.data = .fields ts /\ ts[3]? = some .none /\ vs[2]? = some .none
structure Lft (fr:List Addr) (e T0 T:Addr) (cls:Value) (h h':Heap):Prop where
 keep:∀ b o,b ∉ fr -> b ≠ e -> b ≠ T0 -> h.get? b = some o -> h'.get? b = some o
 slot:∀ b o,b ∈ fr -> b ≠ e -> b ≠ T0 -> h.get? b = some o -> ∃ sl,h'.get? b = some { o with slots:=sl }
 new:h.get? T = none
 trc:Trc h' e T cls
section
variable {M:Model} {A:Around} {E:VS7} {s:Shared}
theorem wj {base:Heap} {env:Env} {outer:List Env} {L e:Addr} {oe:Obj} {vs:Array Value} {head:Value} {hadNext:Bool} {Q:Unit -> Shared -> Prop}
  (hfr:A.frames = some (env :: outer)) (hl:s.heap.FunFrames base (env :: outer)) (hf:env.frame = some L)
  (he:s.heap.get? e = some oe) (hd:oe.data = .fields vs) (hsz:1 < vs.size) (hv2:vs[2]? = some .none)
  (h:∀ h' T,Lft ((env :: outer).filterMap (·.frame)) e e T oe.cls s.heap h' -> Q () { s with heap:=h' }) :
  wpAny M A (do let a ← frameOf env; let pl ← entryPlaceOf L hadNext; let b ← EntryCells.newEntry head a .none (rawInt L) .none pl; setField (.ref e) 1 b) (fun _ s'=>wpAny M A (setFlight (.ref e) none) Q E s') E s:=by
 have hne:e ∉ (env :: outer).filterMap (·.frame):=fun hm=>by
  obtain ⟨_,o,ho,hnf⟩:=hl.mem hm
  rw [he] at ho
  cases ho
  exact hnf vs hd
 refine wpAny_bind (wpAny_frameOf_fun hfr hl hf fun h1 s1=>?_)
 refine wpAny_bind (wpAny_entryPlaceOf fun pl hpl=>?_)
 unfold EntryCells.newEntry newFields
 refine wpAny_bind (wpAny_newObj_type ?_ (hpl.sizeOk5 _ _ _ _ _))
 have e1:h1.get? e = some oe:=(s1.2.1 e hne).trans he
 have hTe:h1.objs.size ≠ e:=Nat.ne_of_gt (Heap.lt_size e1)
 generalize hT:({ cls:=.type "traceback",dict:=none,data:=.fields ([head,.ref L,.none,rawInt L,.none] ++ (if pl.isEmpty then List.replicate 6 Value.none else pl)).toArray }:Obj) = oT
 have hTd:oT.data = .fields ([head,.ref L,.none,rawInt L,.none] ++ (if pl.isEmpty then List.replicate 6 Value.none else pl)).toArray:=by rw [← hT]
 have hTf:oT.isFreed = false:=Obj.isFreed_of_fields hTd
 have e2:=Heap.get?_push_of_some (h:=h1) oT e1
 refine wpAny_setField e2 hd hsz ?_
 have d3:=Obj.data_mapFields hd (·.setIfInBounds 1 (Value.ref h1.objs.size))
 have e3:=Heap.get?_update_self (Obj.mapFields (·.setIfInBounds 1 (Value.ref h1.objs.size))) e2 (Obj.isFreed_of_fields d3)
 have t3:((h1.push oT).update e (Obj.mapFields (·.setIfInBounds 1 (Value.ref h1.objs.size)))).get? h1.objs.size = some oT:=(Heap.get?_update_other _ _ (Ne.symm hTe)).trans (Heap.get?_push_size h1 hTf)
 unfold setFlight
 refine wpAny_bind (wpAny_field e3 d3 (x:=.ref h1.objs.size) (by simp [hsz]) ?_)
 rw [if_pos (show (Value.ref h1.objs.size != Value.none) = true from by simp)]
 refine wpAny_setField t3 hTd (by simp only [List.size_toArray,List.length_append,List.length_cons,List.length_nil] <;> omega) (h _ h1.objs.size ?_)
 have keep:∀ b o,b ≠ e -> h1.get? b = some o →
   (((h1.push oT).update e (Obj.mapFields (·.setIfInBounds 1 (Value.ref h1.objs.size)))).update h1.objs.size (Obj.mapFields (·.setIfInBounds 3 ((none:Option Addr).elim Value.none fun f=>rawInt f)))).get? b = some o:=fun b o hbe hb=>by
  rw [Heap.get?_update_other _ _ (Nat.ne_of_gt (Heap.lt_size hb)),Heap.get?_update_other _ _ (Ne.symm hbe)]
  exact Heap.get?_push_of_some _ hb
 refine ⟨fun b o hb hbe _ ho=>keep b o hbe ((s1.2.1 b hb).trans ho),fun b o hb hbe _ ho=>?_,?_,?_⟩
 ·obtain ⟨sl,hs⟩:=s1.2.2 b o ho
  exact ⟨sl,keep b _ hbe hs⟩
 ·cases q:s.heap.get? h1.objs.size with
  | none=>rfl
  | some o =>
   have:=Heap.lt_size q
   rw [s1.1] at this
   exact absurd this (Nat.lt_irrefl _)
 ·refine ⟨_,_,_,_,(Heap.get?_update_other _ _ hTe).trans e3,Obj.cls_mapFields _ _,d3,by simp [hsz],hTe,Heap.get?_update_self _ t3 (Obj.isFreed_of_fields (Obj.data_mapFields hTd _)),Obj.data_mapFields hTd _,?_,(Array.getElem?_setIfInBounds_ne (by decide)).trans hv2⟩
  simp only [Array.getElem?_setIfInBounds,if_true]
  rw [if_pos (by simp only [List.size_toArray,List.length_append,List.length_cons,List.length_nil]; omega)]
  rfl
theorem qc {base:Heap} {env:Env} {outer:List Env} {L e:Addr} {oe:Obj} {vs:Array Value} {Q:Unit -> Shared -> Prop}
  (hfr:A.frames = some (env :: outer)) (hl:s.heap.FunFrames base (env :: outer)) (hf:env.frame = some L)
  (he:s.heap.get? e = some oe) (hd:oe.data = .fields vs) (h1:vs[1]? = some .none) (hv2:vs[2]? = some .none)
  (h:∀ h' T,Lft ((env :: outer).filterMap (·.frame)) e e T oe.cls s.heap h' -> Q () { s with heap:=h' }):wpAny M A (leaving env (.ref e)) Q E s:=by
 unfold leaving noteFrame
 simp only [hf]
 refine wpAny_bind (wpAny_bind (wpAny_field he hd h1 ?_))
 rw [if_neg (by decide)]
 exact wj hfr hl hf he hd (Array.getElem?_eq_some_iff.mp h1).1 hv2 h
theorem jP {base:Heap} {env:Env} {outer:List Env} {L e T0:Addr} {cls:Value} {Q:Unit -> Shared -> Prop}
  (hfr:A.frames = some (env :: outer)) (hl:s.heap.FunFrames base (env :: outer)) (hf:env.frame = some L) (ht:Trc s.heap e T0 cls)
  (h:∀ h' T,Lft ((env :: outer).filterMap (·.frame)) e T0 T cls s.heap h' -> Q () { s with heap:=h' }):wpAny M A (leaving env (.ref e)) Q E s:=by
 obtain ⟨oe,vs,oT,ts,he,hcls,hd,h1,hTe,hT,hdT,h3,hv2⟩:=ht
 subst hcls
 unfold leaving noteFrame
 simp only [hf]
 refine wpAny_bind (wpAny_bind (wpAny_field he hd h1 ?_))
 rw [if_pos (show (Value.ref T0 != Value.none) = true from by simp)]
 refine wpAny_bind (wpAny_field hT hdT h3 ?_)
 rw [if_neg (show ¬ ((Value.none == rawInt L) = true) from by simp [rawInt])]
 refine wpAny_bind (wpAny_setField hT hdT (Array.getElem?_eq_some_iff.mp h3).1 ?_)
 have other:∀ b,b ≠ T0 -> (s.heap.update T0 (Obj.mapFields (·.setIfInBounds 3 Value.none))).get? b = s.heap.get? b:=fun b hb=>Heap.get?_update_other _ _ (Ne.symm hb)
 have nf:∀ b o,s.heap.get? b = some o -> (∀ vs,o.data ≠ .fields vs) -> b ≠ T0:=fun b o hb hnf q=>by
  rw [q,hT] at hb
  cases hb
  exact hnf ts hdT
 refine wj hfr (hl.of_keeps fun b o hb hnf=>⟨o,(other b (nf b o hb hnf)).trans hb,rfl⟩) hf ((other e (Ne.symm hTe)).trans he) hd (Array.getElem?_eq_some_iff.mp h1).1 hv2 fun h' T x=>h h' T ?_
 refine ⟨fun b o hb hbe hb0 ho=>x.keep b o hb hbe hbe ((other b hb0).trans ho),fun b o hb hbe hb0 ho=>x.slot b o hb hbe hbe ((other b hb0).trans ho),?_,x.trc⟩
 have:=x.new
 by_cases q:T = T0
 ·subst q
  have e5:=Heap.get?_update_self (Obj.mapFields (·.setIfInBounds 3 Value.none)) hT (Obj.isFreed_of_fields (Obj.data_mapFields hdT _))
  rw [show (s.heap.update T (Obj.mapFields (·.setIfInBounds 3 Value.none))).get? T = _ from e5] at this
  cases this
 ·rw [← other T q]; exact this
end
def CX1 (P:Program) (w:World):CXT:=fun outer H s E e s'=>∃ (a T C:Addr) (H':Hp),e = .ref a /\ s'.os = s.os /\ AllBare s'.gens /\ Un (frs outer) [] H H' s.heap s'.heap /\ HOk P w H' s'.heap ∧
 Trc s'.heap a T (.ref C) /\ H' a = none /\ H' T = none /\ s.heap.get? a = none /\ s.heap.get? T = none /\ E e (some C) H'
theorem yf.at {P:Program} {w:World} {H:Hp} {h:Heap} {a:Addr} {o:HO} (x:yf P w H h a o):∃ ob,h.get? a = some ob:=by
 induction o with
 | lst xs=>obtain ⟨z,its,n,r,e⟩:=x; exact ⟨_,e⟩
 | tup xs=>obtain ⟨z,its,r,ob,e,c⟩:=x; exact ⟨_,e⟩
 | dK kvs=>obtain ⟨z,y,vs,r,ob,es,ep,e,c⟩:=x; exact ⟨_,e⟩
 | dT kvs=>obtain ⟨z,y,xs,r,ob,es,ep,e,c⟩:=x; exact ⟨_,e⟩
 | set S n=>obtain ⟨ob,es,ep,t,e,c⟩:=x; exact ⟨_,e⟩
 | ins C dx fs=>obtain ⟨d,z,ne,e,_⟩:=x; exact ⟨_,e⟩
 | own y=>exact x
 | xd fs=>obtain ⟨mA,⟨od,es,ep,e,c⟩,r⟩:=x; exact ⟨_,e⟩
 | rng lo hi=>obtain ⟨t,u,v,e⟩:=x; exact ⟨_,e⟩
 | frz ob u ih=>exact ⟨_,x.1⟩
 | tbl ps=>exact ⟨_,x⟩
 | met f y=>exact ⟨_,x⟩
 | ext φ=>exact x.2.1
theorem Xp {P:Program} {w:World} {H:Hp} {h h':Heap} {fr:List Addr} {e T0 T:Addr} {cls:Value} (x:HOk P w H h) (l:Lft fr e T0 T cls h h') (hfr:∀ b ∈ fr,H b = none) (he:H e = none) (h0:H T0 = none):HOk P w H h':=fun b u q=>by
 refine (x b u q).stay (fun c v hc r=>?_) (fun _ r=>r) fun _ _ r=>r
 have hn:H c ≠ none:=by
  rcases hc with rfl | hc
  ·rw [q]; exact fun z=>nomatch z
  ·rw [hc]; exact fun z=>nomatch z
 exact l.keep c v (fun z=>hn (hfr c z)) (fun z=>hn (by rw [z]; exact he)) (fun z=>hn (by rw [z]; exact h0)) r
section
variable {P:Program} {w:World} {K:FG7} {mg:Str -> Option Value} {base:Heap} {N:List Str} {qual:Str} {scope:Scope} {f:Addr} {cd:Value} {A:Around} {outer:List Env} {s0:Shared} {H0:Hp} {E:XK}
 {pins:List (Addr × Obj)} {σ:L2.St} {H:Hp} {s:Shared}
theorem Yc {h2:Heap} {e T0 T C:Addr} (I:Inv (cxOf (CX1 P w) P w K mg base N qual scope f cd A outer s0 H0 E) pins σ H s) (l:Lft ((envOfC qual scope s0.heap.objs.size f cd :: outer).filterMap (·.frame)) e T0 T (.ref C) s.heap h2)
  (new:∀ b o,s0.heap.get? b = some o -> b ≠ e /\ b ≠ T0) (he0:H e = none) (ht0:H T0 = none) (q:E (.ref e) (some C) H):CX1 P w outer H0 s0 E (.ref e) { s with heap:=h2 }:=by
 have hfr:∀ b ∈ (envOfC qual scope s0.heap.objs.size f cd :: outer).filterMap (·.frame),H b = none:=I.stkFree
 have hU:Un (frs outer) [] H0 H s0.heap s.heap:=I.base
 have newT:∀ b o,s0.heap.get? b = some o -> b ≠ T:=fun b o hb z=>by
  obtain ⟨o',h1⟩:=hU.there b o hb (by simp)
  have:=l.new
  rw [← z,h1] at this; cases this
 have nin:∀ b o,s0.heap.get? b = some o -> b ∉ frs outer -> b ∉ (envOfC qual scope s0.heap.objs.size f cd :: outer).filterMap (·.frame):=fun b o hb hn z=>by
  rcases List.mem_cons.mp (show b ∈ s0.heap.objs.size :: frs outer from z) with z | z
  ·exact Nat.ne_of_lt (Heap.lt_size hb) z
  ·exact hn z
 have isin:∀ b,b ∈ frs outer -> b ∈ (envOfC qual scope s0.heap.objs.size f cd :: outer).filterMap (·.frame):=fun b hb=>show b ∈ s0.heap.objs.size :: frs outer from List.mem_cons_of_mem _ hb
 refine ⟨e,T,C,H,rfl,I.os,I.bare,⟨fun b o hb hn hf hx'=>?_,fun b o hb hn hf hx'=>?_,hU.free,fun b o hb hx'=>?_,hU.tups,hU.frzs,hU.tbls⟩,Xp I.hok l hfr he0 ht0,l.trc,he0,?_,?_,?_,q⟩
 ·obtain ⟨n1,n2⟩:=new b o hb
  exact l.keep b o (nin b o hb hf) n1 n2 (hU.keep b o hb hn hf hx')
 ·obtain ⟨n1,n2⟩:=new b o hb
  obtain ⟨sl,h1⟩:=hU.slot b o hb hn hf hx'
  obtain ⟨sl',h2⟩:=l.slot b _ (isin b hf) n1 n2 h1
  exact ⟨sl',h2⟩
 ·obtain ⟨n1,n2⟩:=new b o hb
  obtain ⟨o',h1⟩:=hU.there b o hb hx'
  by_cases z:b ∈ (envOfC qual scope s0.heap.objs.size f cd :: outer).filterMap (·.frame)
  ·obtain ⟨sl,h2⟩:=l.slot b o' z n1 n2 h1
   exact ⟨_,h2⟩
  ·exact ⟨o',l.keep b o' z n1 n2 h1⟩
 ·cases r:H T with
  | none=>rfl
  | some o =>
   obtain ⟨ob,z⟩:=yf.at (I.hok T o r)
   rw [l.new] at z; cases z
 ·cases r:s0.heap.get? e with
  | none=>rfl
  | some o=>exact absurd rfl (new e o r).1
 ·cases r:s0.heap.get? T with
  | none=>rfl
  | some o=>exact absurd rfl (newT T o r)
theorem Vh {h':Heap} {e C:Addr} {args:List Value} (I:Inv (cxOf (CX1 P w) P w K mg base N qual scope f cd A outer s0 H0 E) pins σ H s) (hx:Heap.MadeExcOf s.heap h' e (.ref C) args) (q:E (.ref e) (some C) H) :
  (cxOf (CX1 P w) P w K mg base N qual scope f cd A outer s0 H0 E).xe (.ref e) { s with heap:=h' }:=by
 obtain ⟨t,he,ht,_⟩:=hx.there
 have he0:H e = none:=by
  cases r:H e with
  | none=>rfl
  | some o =>
   obtain ⟨ob,z⟩:=yf.at (I.hok e o r)
   rw [hx.new] at z; cases z
 have I1:Inv (cxOf (CX1 P w) P w K mg base N qual scope f cd A outer s0 H0 E) pins σ H { s with heap:=h' }:=I.kept (t':=s.toks) hx.keeps
 have new:∀ b o,s0.heap.get? b = some o -> b ≠ e:=fun b o hb z=>by
  have hU:Un (frs outer) [] H0 H s0.heap s.heap:=I.base
  obtain ⟨o',ho'⟩:=hU.there b o hb (by simp)
  rw [z,hx.new] at ho'; cases ho'
 refine qc (base:=base) (outer:=outer) (L:=s0.heap.objs.size) I.ok.frames I1.stack rfl he rfl rfl rfl fun h2 T l=>?_
 exact Yc I1 l (fun b o hb=>⟨new b o hb,new b o hb⟩) he0 he0 q
theorem zV {E':XK} (hE:∀ e C H',E' e (some C) H' -> E e (some C) H'):uB (CX1 P w) (cxOf (CX1 P w) P w K mg base N qual scope f cd A outer s0 H0 E) E':=by
 intro pins σ H s ex s' I hc
 obtain ⟨e,T0,C,H',rfl,os,bare,un,hok,trc,e0,t0,ne,nt,q⟩:=hc
 have I1:Inv (cxOf (CX1 P w) P w K mg base N qual scope f cd A outer s0 H0 E) pins σ H' s':=I.call' (ch:=[]) os un hok bare (fun b z=>absurd z (by simp))
 have new:∀ b o,s0.heap.get? b = some o -> b ≠ e /\ b ≠ T0:=fun b o hb=>by
  have hU:Un (frs outer) [] H0 H s0.heap s.heap:=I.base
  obtain ⟨o',ho'⟩:=hU.there b o hb (by simp)
  refine ⟨fun z=>?_,fun z=>?_⟩
  ·rw [z,ne] at ho'; cases ho'
  ·rw [z,nt] at ho'; cases ho'
 refine jP (base:=base) (outer:=outer) (L:=s0.heap.objs.size) I.ok.frames I1.stack rfl trc fun h2 T l=>?_
 exact Yc I1 l new e0 t0 (hE _ _ _ q)
end
abbrev veM:List Value:=[.type "ValueError",.type "Exception",.type "BaseException",.type "object"]
def ExcC (K:FG7) (mg:Str -> Option Value) (x:Str) (C:Addr):Prop:=∀ h:Heap,K.In h -> OwnCls x C veM "ValueError.__new__" mg h
def Wq (X:Cx) (E:XK):Prop:=∀ (pins:List (Addr × Obj)) (σ:L2.St) (H:Hp) (s:Shared) (h':Heap) (e C:Addr) (args:List Value),Inv X pins σ H s -> Heap.MadeExcOf s.heap h' e (.ref C) args -> E (.ref e) (some C) H -> X.xe (.ref e) { s with heap:=h' }
def UC (C:Addr) (E:XK) (te:TE):TS:=fun _ σ H=>te σ H fun _ H1=>∀ e,E (.ref e) (some C) H1
section
variable {X:Cx} {x:Str} {C:Addr} {np cpos pos:Pos} {e₀:Expr} {te:TE} {E:XK}
theorem wD (hc:X.calm = true) (O:ExcC X.K X.mg x C) (hg:Gl X x) (hr:Wq X E) (he:PE X e₀ te) (hdb:(x == ("__debug__":Str)) = false:=by decide)
  (hst:starEach [e₀] X.env = [(false,eval e₀ X.env)]:=by rfl):PS X (.Raise (some (.Call (.Name x np) [e₀] [] cpos)) none pos) (UC C E te):=by
 intro pins s σ H D I h
 obtain ⟨tl,N,nm,q,bs,hdct,sn,sub,ab,col,dd,k0,k1,k2,k3,k5,mN,hC,hN,hni,T⟩:=(O X.base I.mod.kin).obj
 refine wpAny_Raise_call_subT (C:=C) (nm:=nm) (q:=q) (N:=N) (bs:=bs) (bm:=tl) (hdct:=hdct) (sn:=sn) (sub:=sub) (ab:=ab) (col:=col) (dd:=dd) (k0:=k0) (k1:=k1) (k2:=k2) (k3:=k3) (k5:=k5)
  PySem.F.excBase_ValueError (mN:=mN) (T.hasType PySem.F.excBase_ValueError.hasBase) (I.ok.hd hc) (by rw [hst]; rfl) hni (wO I hg (O s.heap I.kIn).bound ⟨rfl,?_⟩ hdb)
 rw [hst]
 refine Calls.evalArgs_plain ?_
 show wpAny _ _ (spliced [(false,eval e₀ X.env)]) _ _ s
 refine Calls.spliced_cons (thn (he pins s σ H _ I h) fun v s1 ⟨y,H1,I1,r1,q1⟩=>Calls.spliced_nil ?_)
 exact ⟨rfl,szl rfl,I1.bk _ _ hC,hN.keeps I1.bk,T.keeps I1.bk,fun h' e hm=>hr pins σ H1 s1 h' e C _ I1 hm (q1 e)⟩
end
section
variable {P:Program} {w:World} {K:FG7} {mg:Str -> Option Value} {base:Heap} {N:List Str} {qual:Str} {scope:Scope} {f:Addr} {cd:Value} {A:Around} {outer:List Env} {s0:Shared} {H0:Hp} {E:XK}
theorem xG:Wq (cxOf (CX1 P w) P w K mg base N qual scope f cd A outer s0 H0 E) E:=fun _ _ _ _ _ _ _ _ I hx q=>Vh I hx q
end
section
variable {M:Model} {A:Around} {E:VS7} {s:Shared}
theorem Yd {base:Heap} {env:Env} {outer:List Env} {L e T0:Addr} {cls:Value} {Q:Unit -> Shared -> Prop}
  (hfr:A.frames = some (env :: outer)) (hl:s.heap.FunFrames base (env :: outer)) (hf:env.frame = some L) (ht:Trc s.heap e T0 cls)
  (h:∀ h' T,Lft ((env :: outer).filterMap (·.frame)) e T0 T cls s.heap h' -> Q () { s with heap:=h' }):wpAny M A (noteFrame (.ref e) env) (fun _ s'=>wpAny M A (setFlight (.ref e) none) Q E s') E s:=by
 obtain ⟨oe,vs,oT,ts,he,hcls,hd,h1,hTe,hT,hdT,h3,hv2⟩:=ht
 subst hcls
 unfold noteFrame
 simp only [hf]
 refine wpAny_bind (wpAny_field he hd h1 ?_)
 rw [if_pos (show (Value.ref T0 != Value.none) = true from by simp)]
 refine wpAny_bind (wpAny_field hT hdT h3 ?_)
 rw [if_neg (show ¬ ((Value.none == rawInt L) = true) from by simp [rawInt])]
 refine wpAny_bind (wpAny_setField hT hdT (Array.getElem?_eq_some_iff.mp h3).1 ?_)
 have other:∀ b,b ≠ T0 -> (s.heap.update T0 (Obj.mapFields (·.setIfInBounds 3 Value.none))).get? b = s.heap.get? b:=fun b hb=>Heap.get?_update_other _ _ (Ne.symm hb)
 have nf:∀ b o,s.heap.get? b = some o -> (∀ vs,o.data ≠ .fields vs) -> b ≠ T0:=fun b o hb hnf q=>by
  rw [q,hT] at hb
  cases hb
  exact hnf ts hdT
 refine wj hfr (hl.of_keeps fun b o hb hnf=>⟨o,(other b (nf b o hb hnf)).trans hb,rfl⟩) hf ((other e (Ne.symm hTe)).trans he) hd (Array.getElem?_eq_some_iff.mp h1).1 hv2 fun h' T x=>h h' T ?_
 refine ⟨fun b o hb hbe hb0 ho=>x.keep b o hb hbe hbe ((other b hb0).trans ho),fun b o hb hbe hb0 ho=>x.slot b o hb hbe hbe ((other b hb0).trans ho),?_,x.trc⟩
 have:=x.new
 by_cases q:T = T0
 ·subst q
  have e5:=Heap.get?_update_self (Obj.mapFields (·.setIfInBounds 3 Value.none)) hT (Obj.isFreed_of_fields (Obj.data_mapFields hdT _))
  rw [show (s.heap.update T (Obj.mapFields (·.setIfInBounds 3 Value.none))).get? T = _ from e5] at this
  cases this
 ·rw [← other T q]; exact this
theorem jQ {e T0:Addr} {cls:Value} {Q:Unit -> Shared -> Prop} (ht:Trc s.heap e T0 cls)
  (h:∀ h',(∀ b,b ≠ T0 -> h'.get? b = s.heap.get? b) -> Trc h' e T0 cls -> Q () { s with heap:=h' }):wpAny M A (setFlight (.ref e) none) Q E s:=by
 obtain ⟨oe,vs,oT,ts,he,hcls,hd,h1,hTe,hT,hdT,h3,hv2⟩:=ht
 unfold setFlight
 refine wpAny_bind (wpAny_field he hd h1 ?_)
 rw [if_pos (show (Value.ref T0 != Value.none) = true from by simp)]
 have other:∀ b,b ≠ T0 -> (s.heap.update T0 (Obj.mapFields (·.setIfInBounds 3 ((none:Option Addr).elim Value.none fun f=>rawInt f)))).get? b = s.heap.get? b:=fun b hb=>Heap.get?_update_other _ _ (Ne.symm hb)
 refine wpAny_setField hT hdT (Array.getElem?_eq_some_iff.mp h3).1 (h _ other ⟨oe,vs,_,_,(other e (Ne.symm hTe)).trans he,hcls,hd,h1,hTe,Heap.get?_update_self _ hT (Obj.isFreed_of_fields (Obj.data_mapFields hdT _)),Obj.data_mapFields hdT _,?_,hv2⟩)
 simp only [Array.getElem?_setIfInBounds,if_true]
 rw [if_pos (Array.getElem?_eq_some_iff.mp h3).1]
 rfl
end
structure ApX (X:Cx) (pins:List (Addr × Obj)) (H:Hp) (a T:Addr):Prop where
 s0:∀ b o,X.s₀.heap.get? b = some o -> b ≠ a /\ b ≠ T
 loc:X.env.locals ≠ a /\ X.env.locals ≠ T
 cel:∀ x c,X.env.cells.lookup x = some c -> c ≠ a /\ c ≠ T
 pin:∀ p ∈ X.pn ++ pins,p.1 ≠ a /\ p.1 ≠ T
 ha:H a = none
 hT:H T = none
theorem ApX.of {X:Cx} {pins:List (Addr × Obj)} {σ:L2.St} {H H':Hp} {s:Shared} {a T:Addr} (I:Inv X pins σ H s) (hx:X.ex = []) (na:s.heap.get? a = none) (nT:s.heap.get? T = none) (ha:H' a = none) (hT:H' T = none):ApX X pins H' a T:=by
 have ne:∀ b o,s.heap.get? b = some o -> b ≠ a /\ b ≠ T:=fun b o hb=>⟨fun z=>(by rw [z,na] at hb; cases hb),fun z=>(by rw [z,nT] at hb; cases hb)⟩
 refine ⟨fun b o hb=>?_,?_,fun x c hc=>?_,fun p hp=>ne _ _ (I.pin p hp).1,ha,hT⟩
 ·obtain ⟨o',h1⟩:=I.base.there b o hb (by rw [hx]; simp)
  exact ne b o' h1
 ·obtain ⟨m,⟨o,es,ep,ho,_⟩,_⟩:=I.loc
  exact ne _ _ ho
 ·obtain ⟨v,hv⟩:=I.cell x c hc
  obtain ⟨o,ho,_⟩:=hv
  exact ne _ _ ho
theorem Inv.leftK {X:Cx} {pins:List (Addr × Obj)} {σ:L2.St} {H:Hp} {s:Shared} {a T0:Addr} {h2:Heap} (I:Inv X pins σ H s) (hx:X.ex = []) (ap:ApX X pins H a T0)
  (lk:∀ b o,b ∉ frs X.stack -> b ≠ a -> b ≠ T0 -> s.heap.get? b = some o -> h2.get? b = some o) (ls:∀ b o,b ∈ frs X.stack -> b ≠ a -> b ≠ T0 -> s.heap.get? b = some o -> ∃ sl,h2.get? b = some { o with slots:=sl }):Inv X pins σ H { s with heap:=h2 }:=by
 have stk:∀ b,b ∈ frs X.stack -> b = X.env.locals \/ b ∈ X.fs:=fun b hb=>List.mem_cons.mp (I.stkSub b hb)
 have any:∀ b o,b ≠ a -> b ≠ T0 -> s.heap.get? b = some o -> ∃ sl,h2.get? b = some { o with slots:=sl }:=fun b o n1 n2 ho=>by
  by_cases z:b ∈ frs X.stack
  ·exact ls b o z n1 n2 ho
  ·exact ⟨o.slots,lk b o z n1 n2 ho⟩
 have cellK:∀ x c,X.env.cells.lookup x = some c -> ∀ v,s.heap.IsCell c v -> h2.IsCell c v:=fun x c e v ⟨o,ho,hd⟩=>by
  obtain ⟨n1,n2⟩:=ap.cel x c e
  obtain ⟨sl,h1⟩:=any c o n1 n2 ho
  exact ⟨_,h1,hd⟩
 refine ⟨I.ok,I.os,I.bare,⟨fun b o hb hn hf hx'=>?_,fun b o hb hn hf hx'=>?_,I.base.free,fun b o hb hx'=>?_,I.base.tups,I.base.frzs,I.base.tbls⟩,?_,fun x c hc=>?_,I.free,I.freeC,fun p hp=>?_,fun b u q=>?_,I.len⟩
 ·obtain ⟨n1,n2⟩:=ap.s0 b o hb
  refine lk b o (fun z=>?_) n1 n2 (I.base.keep b o hb hn hf hx')
  rcases stk b z with z | z
  ·exact absurd (Nat.lt_of_lt_of_le (Heap.lt_size hb) I.ok.above) (by rw [z]; exact Nat.lt_irrefl _)
  ·exact hf z
 ·obtain ⟨n1,n2⟩:=ap.s0 b o hb
  obtain ⟨sl,h1⟩:=I.base.slot b o hb hn hf hx'
  obtain ⟨sl',h3⟩:=any b _ n1 n2 h1
  exact ⟨sl',h3⟩
 ·obtain ⟨n1,n2⟩:=ap.s0 b o hb
  obtain ⟨o',h1⟩:=I.base.there b o hb hx'
  obtain ⟨sl,h3⟩:=any b o' n1 n2 h1
  exact ⟨_,h3⟩
 ·obtain ⟨m,⟨o,es,ep,ho,r⟩,hl⟩:=I.loc
  obtain ⟨sl,h1⟩:=any _ o ap.loc.1 ap.loc.2 ho
  refine ⟨m,⟨_,es,ep,h1,r⟩,fun i x v e1 e2 e3=>?_⟩
  obtain ⟨u,ru,lk⟩:=hl i x v e1 e2 e3
  refine ⟨u,ru,?_⟩
  rcases lk with lk | ⟨k1,c,k2,k3⟩
  ·exact .inl lk
  ·exact .inr ⟨k1,c,k2,cellK x c k2 _ k3⟩
 ·obtain ⟨v,hv⟩:=I.cell x c hc
  exact ⟨v,cellK x c hc v hv⟩
 ·obtain ⟨p1,p2,p3,p4,p5⟩:=I.pin p hp
  obtain ⟨n1,n2⟩:=ap.pin p hp
  refine ⟨lk _ _ (fun z=>?_) n1 n2 p1,p2,p3,p4,p5⟩
  rcases stk _ z with z | z
  ·exact p3 z
  ·exact p4 z
 ·refine (I.hok b u q).stay (fun c v hc r=>?_) (fun _ r=>r) fun _ _ r=>r
  have hn:H c ≠ none:=by
   rcases hc with rfl | hc
   ·rw [q]; exact fun z=>nomatch z
   ·rw [hc]; exact fun z=>nomatch z
  exact lk c v (fun z=>hn (I.stkFree c z)) (fun z=>hn (by rw [z]; exact ap.ha)) (fun z=>hn (by rw [z]; exact ap.hT)) r
theorem Inv.left {X:Cx} {pins:List (Addr × Obj)} {σ:L2.St} {H:Hp} {s:Shared} {a T0 T:Addr} {cls:Value} {h2:Heap} (I:Inv X pins σ H s) (hx:X.ex = []) (ap:ApX X pins H a T0)
  (l:Lft (frs X.stack) a T0 T cls s.heap h2):Inv X pins σ H { s with heap:=h2 }:=Inv.leftK I hx ap l.keep l.slot
abbrev pinX (X:Cx) (ps:List (Addr × Obj)) (E:VS7):Cx:={ X with pn:=X.pn ++ ps,xe:=E }
def Ye (X:Cx) (ps:List (Addr × Obj)) (E:XK):VS7:=fun e s'=>∃ (a T C:Addr) (σ:L2.St) (H:Hp),e = .ref a /\ Inv X ps σ H s' /\ Trc s'.heap a T (.ref C) /\ ApX X ps H a T /\ E e (some C) H
section
variable {X:Cx} {ps pins:List (Addr × Obj)} {E:VS7} {σ:L2.St} {H:Hp} {s:Shared}
theorem Inv.pinX (I:Inv X ps σ H s):Inv (pinX X ps E) [] σ H s :=
 ⟨⟨I.ok.mod,I.ok.kind,I.ok.glob,I.ok.blt,I.ok.above,I.ok.inj,I.ok.has,I.ok.cab,I.ok.hd,I.ok.frames,I.ok.stk,I.ok.exf,I.ok.bs,I.ok.bsz,I.ok.noex,I.ok.exfs,I.ok.funs,I.ok.frf⟩,I.os,I.bare,I.base,I.loc,I.cell,I.free,I.freeC,fun p hp=>I.pin p (by simpa using hp),I.hok,I.len⟩
theorem Inv.unpin (I:Inv (L3.pinX X ps E) pins σ H s):Inv X ps σ H s :=
 ⟨⟨I.ok.mod,I.ok.kind,I.ok.glob,I.ok.blt,I.ok.above,I.ok.inj,I.ok.has,I.ok.cab,I.ok.hd,I.ok.frames,I.ok.stk,I.ok.exf,I.ok.bs,I.ok.bsz,I.ok.noex,I.ok.exfs,I.ok.funs,I.ok.frf⟩,I.os,I.bare,I.base,I.loc,I.cell,I.free,I.freeC,fun p hp=>I.pin p (List.mem_append_left _ hp),I.hok,I.len⟩
end
theorem Xq {X:Cx} {ps:List (Addr × Obj)} {E:XK} (hx:X.ex = []):uB (CX1 X.prog X.w) (pinX X ps (Ye X ps E)) E:=by
 intro pins σ H s ex s' I hc
 obtain ⟨a,T0,C,H',rfl,os,bare,un,hok,trc,e0,t0,ne,nt,q⟩:=hc
 have I0:Inv X ps σ H s:=Inv.unpin I
 have I1:Inv X ps σ H' s':=I0.call' (ch:=[]) os un hok bare (fun b z=>absurd z (by simp))
 exact ⟨a,T0,C,σ,H',rfl,I1,trc,ApX.of I0 hx ne nt e0 t0,q⟩
abbrev handX (X:Cx) (e:Addr):Cx:={ X with A:=X.A.mark (some (.ref e)),calm:=false,xe:=fun _ _=>False }
section
variable {X:Cx} {pins:List (Addr × Obj)} {σ:L2.St} {H:Hp} {s:Shared} {e:Addr}
theorem Inv.handX (I:Inv X pins σ H s):Inv (handX X e) pins σ H s :=
 ⟨⟨I.ok.mod,I.ok.kind,I.ok.glob,I.ok.blt,I.ok.above,I.ok.inj,I.ok.has,I.ok.cab,fun z=>(nomatch z),I.ok.frames,I.ok.stk,I.ok.exf,I.ok.bs,I.ok.bsz,I.ok.noex,I.ok.exfs,I.ok.funs,I.ok.frf⟩,I.os,I.bare,I.base,I.loc,I.cell,I.free,I.freeC,I.pin,I.hok,I.len⟩
theorem Inv.unhand (ok:X.Ok) (I:Inv (L3.handX X e) pins σ H s):Inv X pins σ H s:=⟨ok,I.os,I.bare,I.base,I.loc,I.cell,I.free,I.freeC,I.pin,I.hok,I.len⟩
theorem SP.unhand (ok:X.Ok) {D:Ends} {f:Flow} (h:SP (L3.handX X e) pins D f s):SP X pins D f s:=by
 cases f with
 | next=>obtain ⟨σ',H',I,q⟩:=h; exact ⟨σ',H',Inv.unhand ok I,q⟩
 | brk=>obtain ⟨σ',H',I,q⟩:=h; exact ⟨σ',H',Inv.unhand ok I,q⟩
 | cont=>obtain ⟨σ',H',I,q⟩:=h; exact ⟨σ',H',Inv.unhand ok I,q⟩
 | ret u=>obtain ⟨v,σ',H',I,r,q⟩:=h; exact ⟨v,σ',H',Inv.unhand ok I,r,q⟩
theorem SP.unpin {ps:List (Addr × Obj)} {E:VS7} {D:Ends} {f:Flow} (h:SP (L3.pinX X ps E) [] D f s):SP X ps D f s:=by
 cases f with
 | next=>obtain ⟨σ',H',I,q⟩:=h; exact ⟨σ',H',Inv.unpin I,q⟩
 | brk=>obtain ⟨σ',H',I,q⟩:=h; exact ⟨σ',H',Inv.unpin I,q⟩
 | cont=>obtain ⟨σ',H',I,q⟩:=h; exact ⟨σ',H',Inv.unpin I,q⟩
 | ret u=>obtain ⟨v,σ',H',I,r,q⟩:=h; exact ⟨v,σ',H',Inv.unpin I,r,q⟩
end
open PySem.W in
/-- an exception class as the text's constants show it -/
theorem excC_of {K:FG7} {mg:Str -> Option Value} {x:Str} {C:Addr} (b:mg x = some (.ref C)) (q:PySem.W.excIn K C veM "ValueError.__new__" = true):ExcC K mg x C:=by
 intro h X
 refine ⟨b,?_⟩
 unfold PySem.W.excIn at q
 cases ho:K.lookup C with
 | none=>rw [ho] at q; cases q
 | some ob =>
  rw [ho] at q
  obtain ⟨oc,od,oda,osl⟩:=ob
  split at q
  ·rename_i dd cd sl e
   obtain ⟨rfl,rfl,rfl,rfl⟩:=Obj.mk.inj (Option.some.inj e)
   split at q
   ·rename_i C' bm k0 k1 k2 k3 n k5 hm hs
    simp only [Bool.and_eq_true,beq_iff_eq,Bool.not_eq_true'] at q
    obtain ⟨⟨⟨⟨⟨rfl,rfl⟩,hdel⟩,ht⟩,hok⟩,hni⟩:=q
    obtain ⟨nm,bs,mro,ns,qn,hd,sn,sub,ab,col,del⟩:=cd
    dsimp only at hm hdel hok hni
    subst hm hdel
    obtain ⟨l⟩:=osl
    have hl:l = [k0,k1,k2,k3,some (.builtin "ValueError.__new__"),k5]:=hs
    subst hl
    exact ⟨bm,ns,nm,qn,bs,hd,sn,sub,ab,col,od,k0,k1,k2,k3,k5,_,X _ _ ho,.of_isNs (PySem.W.isNs_of_in X hok),PySem.W.nsMap_none_of_in X hok hni,PySem.W.tail_of_in X ht⟩
   ·cases q
  ·cases q
section
variable {P:Program} {w:World} {K:FG7} {mg:Str -> Option Value} {base:Heap}
theorem Fun.okX {x qual:Str} {st:Stmt} {f:Addr} {fd:FuncData} {N ps:List Str} {k:Nat} {sp:Sp} (F:Fun K x qual st f fd) (S:FnScope N ps (zl st)) (len:∀ vs H Q E,sp vs H Q E -> vs.length = ps.length)
  (hbody:∀ (cdv:Value) (A:Around) (outer:List Env) (s:Shared) (H:Hp) (vs:List V) (Q:VK) (E:XK),Room k (A.deeper (envOfC qual (zl st) s.heap.objs.size f cdv)) -> sp vs H Q E →
   ∃ t,PSs (cxOf (CX1 P w) P w K mg base N qual (zl st) f cdv A outer s H E) (xE st) t /\ t { nx:=fun _ H'=>Q .non H',rt:=Q } (vt N vs) H):FnOk P w K mg base (CX1 P w) (k + 1) f fd ps sp:=by
 obtain ⟨oc,od,kV,doc,pm,an,cdv,ct,osl,rfl,lk,hcd⟩:=F.ex
 exact V8 lk hcd S len fun A outer s H vs Q E hr hsp=>hbody cdv A outer s H vs Q E hr hsp
end
def tu (P:Program) (w:World) (K:FG7) (mg:Str -> Option Value) (base:Heap) (C:Addr) (k:Nat) (m:Str) (ps:List Str) (sp:Sp):Prop :=
 ∃ (f:Addr) (fd:FuncData),FnOk P w K mg base (CX1 P w) k f fd ps sp /\ wQ K fd ps [] /\ Meth K C m f
def zF (P:Program) (w:World) (K:FG7) (mg:Str -> Option Value) (base:Heap) (k:Nat) (x:Str) (ps:List Str) (sp:Sp):Prop :=
 ∃ (f:Addr) (fd:FuncData),FnOk P w K mg base (CX1 P w) k f fd ps sp /\ wQ K fd ps [] /\ PySem.W.keepIn K (.ref f) = true /\ mg x = some (.ref f)
section
variable {P:Program} {w:World} {K:FG7} {mg:Str -> Option Value} {base:Heap} {C:Addr} {j k:Nat} {m x:Str} {ps:List Str} {sp:Sp}
theorem tu.mono (c:tu P w K mg base C j m ps sp) (h:j <= k):tu P w K mg base C k m ps sp:=by
 obtain ⟨f,fd,F,b,mt⟩:=c
 exact ⟨f,fd,F.mono h,b,mt⟩
theorem zF.mono (c:zF P w K mg base j x ps sp) (h:j <= k):zF P w K mg base k x ps sp:=by
 obtain ⟨f,fd,F,b,mt⟩:=c
 exact ⟨f,fd,F.mono h,b,mt⟩
end
section
variable {X:Cx} {C:Addr} {k:Nat} {m x:Str} {ps:List Str} {sp:Sp} {o e:Expr} {es:List Expr} {ta:TE} {t:TA} {apos pos p:Pos} {E:XK}
theorem zI (c:zF X.prog X.w X.K X.mg X.base k x ps sp) (hx:uB (CX1 X.prog X.w) X E) (hr:Room k X.A) (hg:Gl X x)
  (ha:PA X (e :: es) t) (hdb:(x == ("__debug__":Str)) = false:=by decide) (he:starEach (e :: es) X.env = (false,eval e X.env) :: starEach es X.env:=by rfl) (hpl:(backTo pos (starEach es X.env)).any (·.1) = false:=by rfl) :
  PE X (.Call (.Name x p) (e :: es) [] pos) (jE sp [] E t):=by
 obtain ⟨f,fd,F,b,kp,m⟩:=c
 exact Zp F hr hg m kp b .nil hx ha hdb he hpl
end
open PySem PySem.Spec PyProof.Rows L2 PySem.W
open PySem.Builtin PySem.Builtin.ObjectAttr PySem.Builtin.Getset_descriptor in
theorem exc_class_get {prog:Program} {w:World} {A:Around} {s:Shared} {K:FG7} {a C:Addr} {o:Obj} {R:Result -> Shared -> Prop} {tp:Value} (X:K.In s.heap) (hx:s.heap.get? a = some o) (hc:o.cls = .ref C) (hm:PySem.W.mroIn K C (.type "object") = some true)
  (h:R (.ok (.ret (.ref C))) s):codeAny (model prog w) A (.call (.builtin "getset_descriptor.__get__") ⟨[.builtin "object.__class__",.ref a,tp],[]⟩) R s:=by
 obtain ⟨hh,g,dr,t,os⟩:=s
 have L0:Looks (model prog w) hh (typeOf (.ref a)) (.ref C):=hc ▸ (Looks.ld hx).andThen .now
 have L1:=looks_mroIn (M:=model prog w) X hm
 refine codeAny_call_builtin KF.slot_gs.plain KF.entry_gs (KF.slot_gs.check _ _ _ _ _ _ _ _ KF.type_class (KF.args_gs _ _ _) ?_)
 unfold Builtin.«getset_descriptor.__get__» descrGet
 rw [dga_obj]
 refine wpAny_bind (wpAny_pure ?_)
 unfold descrGetter descrCheckInstance descrNameAndClass isInstance
 simp only [KF.owner_class]
 repeat lk
 refine ⟨Code.quiet_builtin _ (by decide +kernel),codeAny_builtin KF.entry_class ?_⟩
 unfold Builtin.«object.__class__» shownTypeOf
 repeat lk
 exact h
section
variable {prog:Program} {w:World} {A:Around} {E:VS7} {K:FG7} {a C:Addr} {o:Obj} {h:Heap} {g:Array GenState} {d:Drawn} {t:Nat} {os:OsState}
theorem vX {tk:Tok} {Q:PySem.Fin -> Shared -> Prop} (X:K.In h) (hx:h.get? a = some o) (hc:o.cls = .ref C) (ha:findIn K (.ref C) "__class__" = some (some (.builtin "object.__class__"))) (hm:PySem.W.mroIn K C (.type "object") = some true)
  (hq:Q (.done (.ret (.ref C))) ⟨h,g,d,t,os⟩):wpAny (model prog w) A (Builtin.«object.__getattribute__» ⟨[.ref a,.str "__class__" tk],[]⟩) Q E ⟨h,g,d,t,os⟩:=by
 have L0:Looks (model prog w) h (typeOf (.ref a)) (.ref C):=hc ▸ (Looks.ld hx).andThen .now
 have L1:=looks_findIn (M:=model prog w) X ha
 have f5:=PySem.F.typeOf_object_class
 have f6:=PySem.F.slot_gs_get.lookup
 have f7:=PySem.F.slot_gs_set.lookup
 repeat (any_goals (first | assumption | with_reducible refine L0.at ?_ | with_reducible refine L1.at ?_ | (with_reducible refine wpAny_loadPart_at hx ?_; rw [hc]) | wp_step))
 refine exc_class_get X hx hc hm ?_
 repeat (any_goals (first | assumption | wp_step))
theorem sF {M:Model} {nameV:Value} {Q:Unit -> Shared -> Prop} (X:K.In h) (hx:h.get? a = some o) (hc:o.cls = .ref C) (hb:PySem.W.mroIn K C (.type "BaseException") = some true) (hq:Q () ⟨h,g,d,t,os⟩) :
  wpAny M A (checkBuiltinCall "BaseException.__getattribute__" ⟨[.ref a,nameV],[]⟩) Q E ⟨h,g,d,t,os⟩:=by
 have hk:builtinKind "BaseException.__getattribute__" = some .slot:=by decide +kernel
 have hsplit:splitId "BaseException.__getattribute__" = some ("BaseException","__getattribute__"):=by decide +kernel
 have L0:Looks M h (typeOf (.ref a)) (.ref C):=hc ▸ (Looks.ld hx).andThen .now
 have L1:=looks_mroIn (M:=M) X hb
 have ha:=PySem.F.args_bexc_ga (.ref a) nameV
 simp only [checkBuiltinCall,hk,hsplit]
 refine wpAny_bind ?_
 unfold isInstance
 repeat (first | with_reducible refine L0.at ?_ | with_reducible refine L1.at ?_ | wp_step)
 exact hq
theorem ur {tk:Tok} {R:Result -> Shared -> Prop} (X:K.In h) (hx:h.get? a = some o) (hc:o.cls = .ref C) (ha:findIn K (.ref C) "__class__" = some (some (.builtin "object.__class__"))) (hm:PySem.W.mroIn K C (.type "object") = some true) (hb:PySem.W.mroIn K C (.type "BaseException") = some true)
  (hq:R (.ok (.ret (.ref C))) ⟨h,g,d,t,os⟩):codeAny (model prog w) A (.call (.builtin "BaseException.__getattribute__") ⟨[.ref a,.str "__class__" tk],[]⟩) R ⟨h,g,d,t,os⟩ :=
 codeAny_call_builtin (by decide +kernel) PySem.F.entry_bexc_ga (sF X hx hc hb (vX X hx hc ha hm hq))
theorem sG {tk:Tok} {Q:VS7} (X:K.In h) (hx:h.get? a = some o) (hc:o.cls = .ref C) (hga:findIn K (.ref C) "__getattribute__" = some (some (.builtin "BaseException.__getattribute__"))) (hgt:findIn K (.ref C) "__getattr__" = some none)
  (ha:findIn K (.ref C) "__class__" = some (some (.builtin "object.__class__"))) (hm:PySem.W.mroIn K C (.type "object") = some true) (hb:PySem.W.mroIn K C (.type "BaseException") = some true)
  (hq:Q (.ref C) ⟨h,g,d,t,os⟩):wpAny (model prog w) A (getAttrBy (.ref a) (.str "__class__" tk) false) Q E ⟨h,g,d,t,os⟩:=by
 have L0:Looks (model prog w) h (typeOf (.ref a)) (.ref C):=hc ▸ (Looks.ld hx).andThen .now
 have L1:=looks_findIn (M:=model prog w) X hga
 have L2:=looks_findIn (M:=model prog w) X hgt
 have f3:=PySem.F.attr_ValueError.ga.bind (.ref a)
 have hx2:(Value.builtin "BaseException.__getattribute__" == Value.builtin "object.__getattribute__") = false:=by decide +kernel
 have hx1:(onTheHeap (Value.ref C) && Value.builtin "BaseException.__getattribute__" == Value.builtin "object.__getattribute__") = false:=by rw [hx2]; rfl
 repeat (any_goals (first | assumption | with_reducible refine L0.at ?_ | with_reducible refine L1.at ?_ | with_reducible refine L2.at ?_ | (with_reducible refine wpAny_loadPart_at hx ?_; rw [hc]) | wp_step))
 refine ur X hx hc ha hm hb ?_
 repeat (any_goals (first | assumption | wp_step))
theorem ut {Q:Option Value -> Shared -> Prop} (X:K.In h) (hx:h.get? a = some o) (hc:o.cls = .ref C) (hga:findIn K (.ref C) "__getattribute__" = some (some (.builtin "BaseException.__getattribute__"))) (hgt:findIn K (.ref C) "__getattr__" = some none)
  (ha:findIn K (.ref C) "__class__" = some (some (.builtin "object.__class__"))) (hm:PySem.W.mroIn K C (.type "object") = some true) (hb:PySem.W.mroIn K C (.type "BaseException") = some true)
  (hq:Q (some (.ref C)) ⟨h,g,d,t + 1,os⟩):wpAny (model prog w) A (getAttr? (.ref a) "__class__") Q E ⟨h,g,d,t,os⟩:=by
 unfold getAttr? getAttrBy?
 repeat (any_goals (first | assumption | with_reducible apply sG X hx hc hga hgt ha hm hb | wp_step))
end
structure ExcK (K:FG7) (C:Addr):Prop where
 ga:findIn K (.ref C) "__getattribute__" = some (some (.builtin "BaseException.__getattribute__"))
 gt:findIn K (.ref C) "__getattr__" = some none
 cl:findIn K (.ref C) "__class__" = some (some (.builtin "object.__class__"))
 ob:mroIn K C (.type "object") = some true
 be:mroIn K C (.type "BaseException") = some true
theorem Yf {K:FG7} {C:Addr} {b:Value} {r:Bool} (e:mroIn K C b = some r):∃ cd,clsIn K C = some cd:=by
 obtain ⟨cd,a,_⟩:=Option.bind_eq_some_iff.mp e
 exact ⟨cd,a⟩
theorem Xr {K:FG7} {a C:Addr} (F:ExcK K C):KitX K (.ref a) (.ref C) (fun h=>∃ o,h.get? a = some o /\ o.cls = .ref C) where
 ty:=fun M h _ p=>by
  obtain ⟨o,h1,h2⟩:=p
  exact h2 ▸ (Looks.ld h1).andThen .now
 it:=fun _ _ X _=>by
  obtain ⟨cdD,hcD⟩:=Yf F.ob
  unfold clsIn at hcD
  split at hcD
  ·rename_i c' d' cd' sl' ho
   intro A' Q' E' s' k q
   unfold isType loadHead
   exact wpAny_bind (wpAny_loadPart (k _ _ (X _ _ ho)) (wpAny_pure q))
  ·cases hcD
 ne:=fun h tp dd its n sl X htp=>by
  obtain ⟨cdD,hcD⟩:=Yf F.ob
  refine Bool.eq_false_iff.mpr fun q=>?_
  have e:C = tp:=Value.ref.inj (beq_iff_eq.mp q)
  subst e
  unfold clsIn at hcD
  split at hcD
  ·rename_i c' d' cd' sl' ho
   have z:=(X _ _ ho).symm.trans htp
   cases z
  ·cases hcD
 ca:=fun {_ _ _ _ _ s} X p k=>by
  obtain ⟨h,g,d,t,os⟩:=s
  obtain ⟨o,h1,h2⟩:=p
  exact ut X h1 h2 F.ga F.gt F.cl F.ob F.be k
def ExO (a C:Addr):HO:=.ext fun h=>∃ o,h.get? a = some o /\ o.cls = .ref C /\ ∃ vs,o.data = .fields vs /\ vs[2]? = some .none
theorem ExO.cl {h:Heap} {a C:Addr} (p:∃ o,h.get? a = some o /\ o.cls = .ref C /\ ∃ vs,o.data = .fields vs /\ vs[2]? = some .none):∃ o,h.get? a = some o /\ o.cls = .ref C:=p.imp fun _ z=>⟨z.1,z.2.1⟩
def UD (K:FG7):List V -> Hp -> VK -> Prop:=fun xs H Q=>∃ (a C:Addr) (y:V) (c:Value) (b:Bool),xs = [.ref a,y] /\ H a = some (ExO a C) /\ (∀ u,RelV y u -> u = c) /\ ExcK K C /\ kitOne K (.ref C) c = some b /\ Q (.bl b) H
theorem zp {X:Cx} {K:FG7} (hK:X.K = K):xm X (.builtin "isinstance") (UD K):=by
 subst hK
 intro pins s σ H xs us Q I r h
 obtain ⟨a,C,y,c,b,rfl,hH,hy,F,e,q⟩:=h
 obtain ⟨u,w',rfl,rx,ry⟩:=rL r
 cases (show u = Value.ref a from rx)
 have:=hy w' ry
 subst this
 exact kia_one (Xr F) I.kIn (ExO.cl (I.hok a _ hH).1) e (fun z=>nomatch z) fun tk=>⟨.bl b,H,I.tok _,rfl,q⟩
theorem tv {M:Model} {A:Around} {E:VS7} {K:FG7} {h:Heap} {g:Array GenState} {d:Drawn} {t:Nat} {os:OsState} {e C' C N:Addr} {oe:Obj} {Q:Bool -> Shared -> Prop} {nm q:Str} {bs bm:List Value} {hdct:Bool} {sn:List Str} {sub:List Value} {ab:Bool} {col:Option Bool} {dd:Option Addr} {k0 k1 k2 k3 k5:Option Value} {newId:String}
  (X:K.In h) (hC:h.get? C = some (excClassObj nm q C N bs bm hdct sn sub ab col dd k0 k1 k2 k3 k5 newId)) (he:h.get? e = some oe) (hcls:oe.cls = .ref C') (hbase:bm.contains (.type "BaseException") = true) (hup:mroIn K C' (.ref C) = some true)
  (hq:Q true ⟨h,g,d,t,os⟩):wpAny M A (excMatches (.ref e) (.ref C)) Q E ⟨h,g,d,t,os⟩:=by
 have hcB:(Value.ref C :: bm).contains (.type "BaseException") = true:=by rw [List.contains_cons,hbase,Bool.or_true]
 have L1:=looks_mroIn (M:=M) X hup
 have f:=tc_notTuple
 unfold excMatches
 repeat (first | (with_reducible refine wpAny_loadPart_at he ?_; rw [hcls]) | with_reducible refine L1.at ?_ | with_reducible refine wpAny_loadPart_at hC ?_ | (with_reducible refine wpAny_isSubtype_exc hC ?_; rw [hcB]) | wp_step)
 exact hq
section
variable {X:Cx} {pins:List (Addr × Obj)} {σ:L2.St} {H:Hp} {s:Shared}
theorem wE {M:Model} {A:Around} {E:VS7} {i:Nat} {x:Str} {pos:Pos} {Q:Unit -> Shared -> Prop} (I:Inv X pins σ H s) (hN:X.N.Nodup) (hi:X.N[i]? = some x) (hx:X.env.kindOf x = some .local) (hx2:X.env.scope.names.lookup x = some .local)
  (h:∀ s',Inv X pins (σ.set i none) H s' -> Q () s'):wpAny M A (do bindName X.env x .none; unbindBehindTheSuite X.env x pos) Q E s:=by
 have hcls:(X.env.scope.kind == .class || (X.env.scope.kind == .module && X.env.locals != X.env.globals)) = false:=by rw [I.ok.kind]; rfl
 refine wpAny_bind (wpAny_bindName (vy (v:=.non) I hN hi (.inl hx2) rfl (fun s1 I1=>?_) (.inr hx2)))
 unfold unbindBehindTheSuite
 refine wpAny_onRaise ?_
 unfold unbindName
 refine wpAny_bind (wpAny_point (wpAny_bind ?_))
 unfold deleteName
 simp only [hx,hcls]
 rw [if_neg (by decide)]
 obtain ⟨m,hn,hl⟩:=id I1.loc
 refine wpAny_bind (wpAny_nsDel_keeps hn fun h' v hn' hs=>?_)
 have hiσ:i < σ.length:=by rw [I.len]; exact (List.getElem?_eq_some_iff.mp hi).1
 have hm:(m x).isSome = true:=by
  obtain ⟨u,_,l⟩:=hl i x .non hi (List.getElem?_set_self hiσ) (.inl hx2)
  rcases l with ⟨_,e⟩ | ⟨k,_⟩
  ·rw [e]; rfl
  ·rcases k with k | k <;> (rw [hx] at k; cases k)
 simp only [hm,if_true,Bool.not_true,Bool.false_eq_true,if_false]
 refine wpAny_pure (wpAny_point (h _ ?_))
 obtain ⟨oL,_,_,hoL,_⟩:=id hn
 have cne:=I1.cne
 have tracked:HOk X.prog X.w H h':=fun b ob e=>by
  refine (I1.hok b ob e).stay (fun c w' hc q=>(hs.2 c ?_).trans q) (fun _ q=>q) fun _ _ q=>q
  rintro rfl
  have hfree:=I1.free
  rcases hc with hc | hc
  ·rw [← hc] at e; rw [hfree] at e; cases e
  ·rw [hfree] at hc; cases hc
 refine ⟨I1.ok,I1.os,I1.bare,⟨fun b o e n hb hx=>?_,fun b o e n hb hx=>?_,I1.base.free,fun b o e hx=>?_,I1.base.tups,I1.base.frzs,I1.base.tbls⟩,⟨_,hn',fun j y v' e1 e2 e3=>?_⟩,fun y c e=>?_,I1.free,I1.freeC,fun p hp=>?_,tracked,by rw [List.length_set]; exact I.len⟩
 ·exact (hs.2 b (Nat.ne_of_lt (Nat.lt_of_lt_of_le (Heap.lt_size e) I1.ok.above))).trans (I1.base.keep b o e n hb hx)
 ·obtain ⟨sl,e1⟩:=I1.base.slot b o e n hb hx
  exact ⟨sl,(hs.2 b (Nat.ne_of_lt (Nat.lt_of_lt_of_le (Heap.lt_size e) I1.ok.above))).trans e1⟩
 ·obtain ⟨o',e1⟩:=I1.base.there b o e hx
  exact ⟨o',(hs.2 b (Nat.ne_of_lt (Nat.lt_of_lt_of_le (Heap.lt_size e) I1.ok.above))).trans e1⟩
 ·have hj:j ≠ i:=fun z=>by
   subst z
   rw [List.getElem?_set_self hiσ] at e2
   cases e2
  rw [List.getElem?_set_ne (Ne.symm hj)] at e2
  obtain ⟨u',r',q⟩:=hl j y v' e1 (by rw [List.getElem?_set_ne (Ne.symm hj)]; exact e2) e3
  refine ⟨u',r',?_⟩
  rcases q with ⟨k,e⟩ | ⟨k,c,e,z⟩
  ·refine .inl ⟨k,?_⟩
   have:y ≠ x:=fun e=>hj (uZ hN e1 (e ▸ hi))
   simp [this,e]
  ·exact .inr ⟨k,c,e,z.sameBut hs (cne y c e)⟩
 ·obtain ⟨w',z⟩:=I1.cell y c e
  exact ⟨w',z.sameBut hs (cne y c e)⟩
 ·obtain ⟨e,n,ne,nf,d⟩:=I1.pin p hp
  exact ⟨(hs.2 p.1 ne).trans e,n,ne,nf,d⟩
end
theorem Inv.trackX {X:Cx} {pins:List (Addr × Obj)} {σ:L2.St} {H:Hp} {s:Shared} {a T C:Addr} {o:Obj} (I:L2.Inv X pins σ H s) (ap:ApX X pins H a T) {vs:Array Value} (he:s.heap.get? a = some o) (hc:o.cls = .ref C) (hd:o.data = .fields vs) (h2:vs[2]? = some .none):L2.Inv X pins σ (upd H a (ExO a C)) s:=by
 refine ⟨I.ok,I.os,I.bare,⟨I.base.keep,I.base.slot,fun b o' e n hx=>?_,I.base.there,fun b xs e=>?_,fun b o' u e=>?_,fun b ps e=>?_⟩,I.loc,I.cell,?_,fun x c e=>?_,fun p hp=>?_,?_,I.len⟩
 ·rw [zB (ap.s0 b o' e).1]; exact I.base.free b o' e n hx
 ·have z:=I.base.tups b xs e
  rw [zB (zt z ap.ha)]; exact z
 ·have z:=I.base.frzs b o' u e
  rw [zB (zt z ap.ha)]; exact z
 ·obtain ⟨more,z⟩:=I.base.tbls b ps e
  exact ⟨more,by rw [zB (zt z ap.ha)]; exact z⟩
 ·rw [zB ap.loc.1]; exact I.free
 ·rw [zB (ap.cel x c e).1]; exact I.freeC x c e
 ·obtain ⟨p1,p2,p3,p4,p5⟩:=I.pin p hp
  exact ⟨p1,by rw [zB (ap.pin p hp).1]; exact p2,p3,p4,p5⟩
 ·refine HOk.track I.hok ap.ha ⟨⟨o,he,hc,vs,hd,h2⟩,⟨o,he⟩,fun h1 h2 φ k=>?_⟩
  obtain ⟨o',e1,e2⟩:=φ
  exact ⟨o',k _ e1,e2⟩
def Wr (i:Nat) (D:Ends):Ends:={ nx:=fun σ H=>D.nx (σ.set i none) H,rt:=D.rt,bk:=fun σ H=>D.bk (σ.set i none) H,ct:=fun σ H=>D.ct (σ.set i none) H }
def UE (n i:Nat) (K:FG7) (B:Addr) (E:XK) (tb:TS) (th:Addr -> TS):TS:=fun D σ H=>tb D σ H /\ ∀ (e C':Addr) (σ':L2.St) (H':Hp),σ'.length = n -> H' e = none -> E (.ref e) (some C') H' -> mroIn K C' (.ref B) = some true /\ th e (Wr i D) (σ'.set i (some (.ref e))) (upd H' e (ExO e C'))
section
variable {X:Cx} {x y:Str} {C:Addr} {np hpos pos:Pos} {body suite:List Stmt} {b₀:Stmt} {tb:TS} {th:Addr -> TS} {E:XK} {i:Nat} {K:FG7}
theorem Xs (hK:X.K = K) (hx:X.ex = []) (hstk:X.stack = X.env :: X.outer) (hf:X.env.frame = some X.env.locals) (O:ExcC X.K X.mg x C) (hg:Gl X x) (hN:X.N.Nodup) (hi:X.N[i]? = some y) (hy:X.env.kindOf y = some .local) (hy2:X.env.scope.names.lookup y = some .local)
  (hB:∀ ps,PSs (pinX X ps (Ye X ps E)) body tb) (hS:∀ e,PSs (handX X e) (b₀ :: suite) (th e)) (hdb:(x == ("__debug__":Str)) = false:=by decide) :
  PS X (.Try body [.ExceptHandler (some (.Name x np)) (some y) (b₀ :: suite) hpos] [] [] pos) (UE X.N.length i K C E tb th):=by
 subst hK
 intro pins s σ H D I ⟨hb,hh⟩
 refine wpAny_Try_except (wpAny_mono (hB pins [] s σ H D (Inv.pinX I) hb) (fun f s1 h1=>?_) (fun ex s1 h1=>?_))
 ·have h2:=SP.unpin h1
  cases f with
  | next=>exact wpAny_execs_nil h2
  | brk=>exact h2
  | cont=>exact h2
  | ret u=>exact h2
 ·obtain ⟨a,T,C',σ',H',rfl,I1,trc,ap,q⟩:=h1
  have hfr:X.A.frames = some (X.env :: X.outer):=by rw [← hstk]; exact I.ok.frames
  have hst:s1.heap.FunFrames X.base (X.env :: X.outer):=by rw [← hstk]; exact I1.stack
  refine Yd (base:=X.base) (outer:=X.outer) hfr hst hf trc fun h2 T2 l=>?_
  have l':Lft (frs X.stack) a T T2 (.ref C') s1.heap h2:=by rw [hstk]; exact l
  have I2:=Inv.left I1 hx ap l'
  have I3:Inv (handX X a) pins σ' H' { s1 with heap:=h2 }:=Inv.handX I2
  obtain ⟨tl,N,nm,q0,bs,hdct,sn,sub,ab,col,dd,k0,k1,k2,k3,k5,mN,hC,hNs,hni,TL⟩:=(O X.base I.mod.kin).obj
  obtain ⟨oe,vs,oT,ts,he,hcls,_⟩:=id l.trc
  have hn:H' a = none:=ap.ha
  obtain ⟨hup,q2⟩:=hh a C' σ' H' I1.len hn q
  refine wpAny_handleBy_cons (codeAny_handlers_test (wO (X:=handX X a) I3 hg (O X.base I.mod.kin).bound ?_ hdb)) (by intro q; cases q)
  refine tv I2.kIn (I2.bk _ _ hC) he hcls (TL.hasType PySem.F.excBase_ValueError.hasBase) hup (codeAny_handlers_suite_as ?_)
  refine jQ (s:={ s1 with heap:=h2 }) l.trc fun h3 hk trc3=>?_
  have hT2:H' T2 = none:=by
   cases r:H' T2 with
   | none=>rfl
   | some o =>
    obtain ⟨ob,z⟩:=yf.at (I1.hok T2 o r)
    rw [l.new] at z; cases z
  have ap2:ApX X pins H' T2 T2:=ApX.of I1 hx l.new l.new hT2 hT2
  have I4:=Inv.leftK I2 hx ap2 (h2:=h3) (fun b o _ n1 _ ho=>(hk b n1).trans ho) (fun b o _ n1 _ ho=>⟨o.slots,(hk b n1).trans ho⟩)
  obtain ⟨oe3,vs3,oT3,ts3,he3,hcls3,hd3,_,_,_,_,_,hv3⟩:=id trc3
  have I5:=Inv.trackX (C:=C') I4 ap he3 hcls3 hd3 hv3
  have I6:L2.Inv (handX X a) pins σ' (upd H' a (ExO a C')) { s1 with heap:=h3 }:=Inv.handX I5
  refine vy (X:=handX X a) (v:=.ref a) I6 hN hi (.inl hy2) rfl (fun s5 I7=>?_) (.inr hy2)
  refine wpAny_mono (hS a pins s5 _ _ (Wr i D) I7 q2) (fun f s2 h=>?_) (fun _ _ z=>False.elim z)
  cases f with
  | next =>
   obtain ⟨σ2,H2,J,q3⟩:=h
   exact wE (Inv.unhand I.ok J) hN hi hy hy2 fun s' J'=>⟨_,H2,J',q3⟩
  | brk =>
   obtain ⟨σ2,H2,J,q3⟩:=h
   exact wE (Inv.unhand I.ok J) hN hi hy hy2 fun s' J'=>⟨_,H2,J',q3⟩
  | cont =>
   obtain ⟨σ2,H2,J,q3⟩:=h
   exact wE (Inv.unhand I.ok J) hN hi hy hy2 fun s' J'=>⟨_,H2,J',q3⟩
  | ret u =>
   obtain ⟨v,σ2,H2,J,r,q3⟩:=h
   exact wE (Inv.unhand I.ok J) hN hi hy hy2 fun s' J'=>⟨v,_,H2,J',r,q3⟩
end
theorem vk:bootBuiltins "ValueError" = some (.type "ValueError"):=by kernel_rfl
end L3
namespace L2
open PySem PySem.Spec PyProof.Rows
end L2
namespace L2
open PySem PySem.Spec PyProof.Rows
end L2
namespace L2
open PySem PySem.Spec PyProof.Rows
end L2
namespace L2
open PySem PySem.Spec PyProof.Rows
end L2
namespace L2
open PySem PySem.Spec PyProof.Rows
end L2
namespace L2
open PySem PySem.Spec PyProof.Rows
end L2
namespace L2
open PySem PySem.Spec PyProof.Rows
section
variable {κ:Type} [DecidableEq κ]
def valV (kvs:List (κ × V)) (k:κ):Option V:=(kvs.find? fun kv=>decide (kv.1 = k)).map (·.2)
def putK (kvs:List (κ × V)) (k:κ) (v:V):List (κ × V) :=
 if (kvs.any fun kv=>decide (kv.1 = k)) = true then kvs.map (fun kv=>if kv.1 = k then (kv.1,v) else kv) else kvs ++ [(k,v)]
def UF (kvs:List (κ × V)) (k:κ):List (κ × V):=kvs.filter fun kv=>decide (kv.1 ≠ k)
theorem yw {p:κ × V} {r:List (κ × V)} {k:κ} (e:p.1 = k):valV (p :: r) k = some p.2:=by simp [valV,List.find?_cons,e]
theorem yx {p:κ × V} {r:List (κ × V)} {k:κ} (e:¬ p.1 = k):valV (p :: r) k = valV r k:=by simp [valV,List.find?_cons,e]
theorem vC (k:κ):∀ kvs:List (κ × V),(kvs.any fun kv=>decide (kv.1 = k)) = (valV kvs k).isSome
 | []=>rfl
 | p :: r=>by
  rw [List.any_cons]
  by_cases e:p.1 = k
  ·simp only [yw e,decide_eq_true e,Bool.true_or,Option.isSome_some]
  ·rw [yx e,decide_eq_false e,Bool.false_or]; exact vC k r
theorem q9 (k j:κ) (y:V):∀ kvs:List (κ × V),valV (kvs.map fun kv=>if kv.1 = k then (kv.1,y) else kv) j = (valV kvs j).map fun x=>if j = k then y else x
 | []=>rfl
 | p :: r=>by
  have ih:=q9 k j y r
  rw [List.map_cons]
  by_cases h:p.1 = k
  ·rw [if_pos h]
   by_cases e:p.1 = j
   ·rw [yw (p:=(p.1,y)) e,yw e,Option.map_some,if_pos (e.symm.trans h)]
   ·rw [yx (p:=(p.1,y)) e,yx e,ih]
  ·rw [if_neg h]
   by_cases e:p.1 = j
   ·rw [yw (p:=p) e,yw e,Option.map_some,if_neg (fun z=>h (e.trans z))]
   ·rw [yx (p:=p) e,yx e,ih]
theorem sH (k j:κ) (y:V):∀ kvs:List (κ × V),valV kvs k = none -> valV (kvs ++ [(k,y)]) j = if j = k then some y else valV kvs j
 | [],_=>by
  by_cases e:k = j
  ·rw [if_pos e.symm]; exact yw (p:=(k,y)) e
  ·rw [if_neg (fun z=>e z.symm)]; exact yx (p:=(k,y)) e
 | p :: r,hn=>by
  rw [List.cons_append]
  have hk:¬ p.1 = k:=fun z=>by rw [yw z] at hn; cases hn
  rw [yx hk] at hn
  have ih:=sH k j y r hn
  by_cases e:p.1 = j
  ·rw [yw e,yw e,if_neg (fun z=>hk (e.trans z))]
  ·rw [yx e,yx e,ih]
theorem yc (kvs:List (κ × V)) (k j:κ) (y:V):valV (putK kvs k y) j = if j = k then some y else valV kvs j:=by
 unfold putK
 by_cases a:(kvs.any fun kv=>decide (kv.1 = k)) = true
 ·rw [if_pos a,q9]
  rw [vC] at a
  by_cases e:j = k
  ·obtain ⟨x,hx⟩:=Option.isSome_iff_exists.mp a
   rw [if_pos e,e,hx,Option.map_some,if_pos rfl]
  ·rw [if_neg e]
   cases valV kvs j with
   | none=>rfl
   | some x=>rw [Option.map_some,if_neg e]
 ·rw [if_neg a]
  refine sH k j y kvs ?_
  rw [vC] at a
  cases q:valV kvs k with
  | none=>rfl
  | some x=>rw [q] at a; exact (a rfl).elim
theorem qd (kvs:List (κ × V)) (k:κ) (v:V):(putK kvs k v).length <= kvs.length + 1:=by
 unfold putK
 split
 ·rw [List.length_map]; omega
 ·rw [List.length_append,List.length_cons,List.length_nil]; omega
theorem RelO.isSome_eq {o:Option V} {u:Option Value} (r:RelO o u):o.isSome = u.isSome:=by
 cases o with
 | none=>cases u with
  | none=>rfl
  | some _=>exact (show False from r).elim
 | some _=>cases u with
  | none=>exact (show False from r).elim
  | some _=>rfl
theorem RelO.getD {o:Option V} {u:Option Value} {d:V} {d':Value} (r:RelO o u) (rd:RelV d d'):RelV (o.getD d) (u.getD d'):=by
 cases o with
 | none=>cases u with
  | none=>exact rd
  | some _=>exact (show False from r).elim
 | some _=>cases u with
  | none=>exact (show False from r).elim
  | some _=>exact r
theorem KV.val {kvs:List (κ × V)} {vs:List (κ × Value)} (r:KV kvs vs) (k:κ):RelO (valV kvs k) (valueAt vs k):=by
 unfold KV at r
 induction r with
 | nil=>exact True.intro
 | @cons p q ps qs h t ih =>
  obtain ⟨h1,h2⟩:=h
  by_cases e:p.1 = k
  ·have e':q.1 = k:=h1.symm.trans e
   have b:valueAt (q :: qs) k = some q.2:=by simp [valueAt,List.find?_cons,e']
   rw [yw e,b]; exact h2
  ·have e':¬ q.1 = k:=fun z=>e (h1.trans z)
   have b:valueAt (q :: qs) k = valueAt qs k:=by simp [valueAt,List.find?_cons,e']
   rw [yx e,b]; exact ih
theorem KV.any {kvs:List (κ × V)} {vs:List (κ × Value)} (r:KV kvs vs) (k:κ):(kvs.any fun kv=>decide (kv.1 = k)) = vs.any fun kv=>decide (kv.1 = k):=by
 unfold KV at r
 induction r with
 | nil=>rfl
 | cons h t ih=>rw [List.any_cons,List.any_cons,ih,h.1]
theorem KV.repl {kvs:List (κ × V)} {vs:List (κ × Value)} (r:KV kvs vs) (k:κ) {y:V} {u:Value} (ry:RelV y u) :
  KV (kvs.map fun kv=>if kv.1 = k then (kv.1,y) else kv) (vs.map fun kv=>if kv.1 = k then (kv.1,u) else kv):=by
 unfold KV at r ⊢
 induction r with
 | nil=>exact .nil
 | @cons p q ps qs h t ih =>
  rw [List.map_cons,List.map_cons]
  refine .cons ?_ ih
  obtain ⟨h1,h2⟩:=h
  by_cases e:p.1 = k
  ·rw [if_pos e,if_pos (h1.symm.trans e)]; exact ⟨h1,ry⟩
  ·rw [if_neg e,if_neg (fun z=>e (h1.trans z))]; exact ⟨h1,h2⟩
theorem KV.put {kvs:List (κ × V)} {vs:List (κ × Value)} (r:KV kvs vs) (k:κ) {y:V} {u:Value} (ry:RelV y u):KV (putK kvs k y) (stored vs k u):=by
 unfold putK stored
 rw [r.any k]
 by_cases e:(vs.any fun kv=>decide (kv.1 = k)) = true
 ·rw [if_pos e,if_pos e]; exact r.repl k ry
 ·rw [if_neg e,if_neg e]; exact Paired.snoc r ⟨rfl,ry⟩
theorem KV.drop {kvs:List (κ × V)} {vs:List (κ × Value)} (r:KV kvs vs) (k:κ):KV (UF kvs k) (without vs k):=by
 unfold KV at r ⊢
 unfold UF without
 induction r with
 | nil=>exact .nil
 | @cons p q ps qs h t ih =>
  obtain ⟨h1,h2⟩:=h
  rw [List.filter_cons,List.filter_cons]
  by_cases e:p.1 = k
  ·have a:¬ decide (p.1 ≠ k) = true:=by simp [e]
   have b:¬ decide (q.1 ≠ k) = true:=by simp [h1.symm.trans e]
   rw [if_neg a,if_neg b]; exact ih
  ·have e':¬ q.1 = k:=fun z=>e (h1.trans z)
   have a:decide (p.1 ≠ k) = true:=by simp [e]
   have b:decide (q.1 ≠ k) = true:=by simp [e']
   rw [if_pos a,if_pos b]; exact .cons ⟨h1,h2⟩ ih
theorem KV.keys {kvs:List (κ × V)} {vs:List (κ × Value)} (r:KV kvs vs):kvs.map (·.1) = vs.map (·.1):=by
 unfold KV at r
 induction r with
 | nil=>rfl
 | cons h t ih=>rw [List.map_cons,List.map_cons,ih,h.1]
theorem KV.length {kvs:List (κ × V)} {vs:List (κ × Value)} (r:KV kvs vs):kvs.length = vs.length:=Paired.length r
end
theorem Xt {P:Program} {w:World} {k:Key} {u:Value} (r:RelV (kV k) u):(zO P w).is k u = true:=by
 cases k with
 | inl i=>obtain ⟨t,e⟩:=(show ∃ t,u = Value.int i t from r); subst e; exact rH P w i t
 | inr x=>obtain ⟨t,e⟩:=(show ∃ t,u = Value.str x t from r); subst e; exact rJ P w x t
theorem sI {P:Program} {w:World}:∀ {ks:List Key} {us:List Value},Vals (ks.map kV) us -> ItemsAre (zO P w) ks us
 | [],_,r=>by rw [List.map_nil] at r; cases r; exact .nil
 | k :: ks,_,r=>by
  rw [List.map_cons] at r
  cases r with
  | cons h t=>exact .cons (Xt h) (sI t)
abbrev KT (H:Hp):List (List Key × V) -> List (List Key × Addr × Value) -> Prop:=Paired fun p q=>p.1 = q.1 /\ H q.2.1 = some (.tup (p.1.map kV)) /\ RelV p.2 q.2.2
theorem KT.val {H:Hp} {kvs:List (List Key × V)} {xs:List (List Key × Addr × Value)} (r:KT H kvs xs) (k:List Key):RelO (valV kvs k) ((atKey xs k).map (·.2)):=by
 induction r with
 | nil=>exact True.intro
 | @cons p q ps qs h t ih =>
  obtain ⟨h1,_,h2⟩:=h
  by_cases e:p.1 = k
  ·have e':q.1 = k:=h1.symm.trans e
   have b:atKey (q :: qs) k = some q.2:=by simp [atKey,List.find?_cons,e']
   rw [yw e,b]; exact h2
  ·have e':¬ q.1 = k:=fun z=>e (h1.trans z)
   have b:atKey (q :: qs) k = atKey qs k:=by simp [atKey,List.find?_cons,e']
   rw [yx e,b]; exact ih
theorem KT.repl {H:Hp} {kvs:List (List Key × V)} {xs:List (List Key × Addr × Value)} (r:KT H kvs xs) (k:List Key) {y:V} {u:Value} (ry:RelV y u) :
  KT H (kvs.map fun kv=>if kv.1 = k then (kv.1,y) else kv) (xs.map (putAt k u)):=by
 induction r with
 | nil=>exact .nil
 | @cons p q ps qs h t ih =>
  rw [List.map_cons,List.map_cons]
  refine .cons ?_ ih
  obtain ⟨h1,h2,h3⟩:=h
  unfold putAt
  by_cases e:p.1 = k
  ·rw [if_pos e,if_pos (h1.symm.trans e)]; exact ⟨h1,h2,ry⟩
  ·rw [if_neg e,if_neg (fun z=>e (h1.trans z))]; exact ⟨h1,h2,h3⟩
theorem KT.put {H:Hp} {kvs:List (List Key × V)} {xs:List (List Key × Addr × Value)} (r:KT H kvs xs) (k:List Key) {b:Addr} {y:V} {u:Value} (hb:H b = some (.tup (k.map kV))) (ry:RelV y u) :
  KT H (putK kvs k y) (storedH xs k b u):=by
 have e:(kvs.any fun kv=>decide (kv.1 = k)) = (atKey xs k).isSome:=by
  rw [vC,(r.val k).isSome_eq,Option.isSome_map]
 unfold putK storedH
 rw [e]
 by_cases q:(atKey xs k).isSome = true
 ·rw [if_pos q,if_pos q]; exact r.repl k ry
 ·rw [if_neg q,if_neg q]; exact Paired.snoc r ⟨rfl,hb,ry⟩
theorem KT.keeps {H H':Hp} {kvs:List (List Key × V)} {xs:List (List Key × Addr × Value)} (r:KT H kvs xs) (ht:∀ b ys,H b = some (.tup ys) -> H' b = some (.tup ys)):KT H' kvs xs :=
 Paired.mapP r fun _ _ z=>⟨z.1,ht _ _ z.2.1,z.2.2⟩
section
variable {P:Program} {w:World} {H:Hp} {h:Heap} {a:Addr}
theorem UG {u:HO} (ok:HOk P w H h) (e:Rd H a u):yf P w H h a u:=e.ok ok
theorem Vi {kvs:List (Key × V)} (ok:HOk P w H h) (e:Rd H a (.dK kvs)):kvs.length <= sizeLine /\ (a == sysModules) = false /\ ∃ vs,KV kvs vs /\ h.DictOf (zO P w) a vs :=
 show yf P w H h a (.dK kvs) from UG ok e
theorem Yg {ks:List Key} (ok:HOk P w H h) (e:H a = some (.tup (ks.map kV))):(tupleKind (zO P w)).is h ks a:=by
 obtain ⟨_,its,r,o,h1,h2,n,h3⟩:=(show yf P w H h a (.tup (ks.map kV)) from ok a _ e)
 exact ⟨o,its.toArray,n,h1,h2,h3,by simpa using sI r⟩
theorem Vj {kvs:List (List Key × V)} (ok:HOk P w H h) (e:Rd H a (.dT kvs)):kvs.length <= sizeLine /\ (a == sysModules) = false ∧
  ∃ xs,KT H kvs xs /\ h.DictOfH (tupleKind (zO P w)) a xs:=by
 obtain ⟨z,y,xs,r,o,es,ep,h1,h2,h3,h4,h5⟩:=(show yf P w H h a (.dT kvs) from UG ok e)
 refine ⟨z,y,xs,r,o,es,ep,h1,h2,h3,h4,fun x hx=>?_,h5⟩
 have all:∀ {l:List (List Key × V)} {m:List (List Key × Addr × Value)},KT H l m -> ∀ x ∈ m,(tupleKind (zO P w)).is h x.1 x.2.1:=by
  intro l m q
  induction q with
  | nil=>intro x hx; exact nomatch hx
  | @cons p q ps qs hq t ih =>
   intro x hx
   rcases List.mem_cons.mp hx with e | hx
   ·subst e
    exact Yg ok (by rw [← hq.1]; exact hq.2.1)
   ·exact ih x hx
 exact all r x hx
end
def DGet (H:Hp) (a:Addr) (y:V) (r:Option V):Prop :=
 (∃ kvs k,Rd H a (.dK kvs) /\ y = kV k /\ r = valV kvs k) \/ ∃ kvs k b,Rd H a (.dT kvs) /\ y = .ref b /\ H b = some (.tup (k.map kV)) /\ r = valV kvs k
def DPut (H:Hp) (a:Addr) (y v:V) (H':Hp):Prop :=
 (∃ kvs k,H a = some (.dK kvs) /\ y = kV k /\ kvs.length < sizeLine /\ H' = upd H a (.dK (putK kvs k v))) ∨
 ∃ kvs k b,H a = some (.dT kvs) /\ y = .ref b /\ H b = some (.tup (k.map kV)) /\ kvs.length < sizeLine /\ H' = upd H a (.dT (putK kvs k v))
theorem DGet.k {H:Hp} {a:Addr} {kvs:List (Key × V)} {k:Key} (e:H a = some (.dK kvs)):DGet H a (kV k) (valV kvs k):=.inl ⟨kvs,k,.inl e,rfl,rfl⟩
theorem DGet.t {H:Hp} {a b:Addr} {kvs:List (List Key × V)} {k:List Key} (e:H a = some (.dT kvs)) (eb:H b = some (.tup (k.map kV))):DGet H a (.ref b) (valV kvs k):=.inr ⟨kvs,k,b,.inl e,rfl,eb,rfl⟩
theorem DPut.k {H:Hp} {a:Addr} {kvs:List (Key × V)} {k:Key} {v:V} (e:H a = some (.dK kvs)) (hl:kvs.length < sizeLine):DPut H a (kV k) v (upd H a (.dK (putK kvs k v))):=.inl ⟨kvs,k,e,rfl,hl,rfl⟩
theorem DPut.t {H:Hp} {a b:Addr} {kvs:List (List Key × V)} {k:List Key} {v:V} (e:H a = some (.dT kvs)) (eb:H b = some (.tup (k.map kV))) (hl:kvs.length < sizeLine) :
  DPut H a (.ref b) v (upd H a (.dT (putK kvs k v))):=.inr ⟨kvs,k,b,e,rfl,eb,hl,rfl⟩
structure M1 (X:Cx) (o:Expr) (m:Str) (apos:Pos) (e:Expr) (cpos:Pos):Prop where
 base:attributeBase o m X.env (eval o X.env) = eval o X.env
 few:((backTo cpos (starEach [e] X.env)).all (fun x=>!x.1) && (backToKw cpos (keywordEach [] X.env)).all (fun x=>x.1.isSome)
  && decide (([e]:List Expr).length + ([]:List Keyword).length + (if ([]:List Keyword).isEmpty then 0 else 1) < 30)) = true
 line:(apos.endLine == cpos.line) = true
 trees:backTo cpos (starEach [e] X.env) = [(false,eval e X.env)]
structure M2 (X:Cx) (o:Expr) (m:Str) (apos:Pos) (e f:Expr) (cpos:Pos):Prop where
 base:attributeBase o m X.env (eval o X.env) = eval o X.env
 few:((backTo cpos (starEach [e,f] X.env)).all (fun x=>!x.1) && (backToKw cpos (keywordEach [] X.env)).all (fun x=>x.1.isSome)
  && decide (([e,f]:List Expr).length + ([]:List Keyword).length + (if ([]:List Keyword).isEmpty then 0 else 1) < 30)) = true
 line:(apos.endLine == cpos.line) = true
 trees:backTo cpos (starEach [e,f] X.env) = [(false,eval e X.env),(false,eval f X.env)]
def IsD (H:Hp) (a:Addr):Prop:=(∃ kvs,Rd H a (.dK kvs)) \/ ∃ kvs,Rd H a (.dT kvs)
theorem Ws {X:Cx} {pins:List (Addr × Obj)} {σ:St} {H:Hp} {s:Shared} {a:Addr} (I:Inv X pins σ H s) (d:IsD H a) :
  s.TypeIs (.ref a) "dict" /\ (∀ b,Value.ref a = .ref b -> ∃ ob,s.heap.get? b = some ob /\ ob.dict = none) /\ (a == sysModules) = false:=by
 rcases d with ⟨kvs,e⟩ | ⟨kvs,e⟩
 ·obtain ⟨_,hd,vs,_,dd⟩:=Vi I.hok e
  refine ⟨dd.typeIs,fun b q=>?_,hd⟩
  cases q
  obtain ⟨ob,_,_,h1,h2,_⟩:=dd
  exact ⟨ob,h1,h2.2.1⟩
 ·obtain ⟨_,hd,xs,_,dd⟩:=Vj I.hok e
  refine ⟨dd.typeIs,fun b q=>?_,hd⟩
  cases q
  obtain ⟨ob,_,_,h1,h2,_⟩:=dd
  exact ⟨ob,h1,h2.2.1⟩
section
variable {X:Cx} {pins:List (Addr × Obj)} {σ:St} {H:Hp} {s:Shared} {a:Addr} {y d:V} {u r:Value} {o:Option V} {A:Around} {E:VS7}
theorem UH {Q:VS7} (hu:A.units + 1 < cLine) (I:Inv X pins σ H s) (g:DGet H a y o) (ry:RelV y u) (h:∀ w' s',Inv X pins σ H s' -> RelV (o.getD .non) w' -> Q w' s') :
  wpAny (model X.prog X.w) A (call (.builtin "dict.get") [.ref a,u]) Q E s:=by
 rcases g with ⟨kvs,k,e,ey,l⟩ | ⟨kvs,k,b,e,ey,eb,l⟩
 ·subst ey
  obtain ⟨z,hd,vs,rel,dd⟩:=Vi I.hok e
  refine call_meetsIn PySem.F.slot_dict_get dd.typeIs PySem.F.entry_dict_get (PySem.F.args_dict_get_2 _ _) (meets_dict_get (zO X.prog X.w) a (Xt ry) hd) ⟨_,dd.mapOf,h _ _ (I.tok _) ?_⟩
  rw [l]
  exact (rel.val k).getD rfl
 ·subst ey
  cases (show u = Value.ref b from ry)
  obtain ⟨z,hd,xs,rel,dd⟩:=Vj I.hok e
  refine call_meetsIn PySem.F.slot_dict_get dd.typeIs PySem.F.entry_dict_get (PySem.F.args_dict_get_2 _ _) (meetsH_dict_get (tupleKind (zO X.prog X.w)) a b hd) ⟨tupleKind_room_in1 hu,k,xs,Yg I.hok eb,dd,h _ _ (I.tok _) ?_⟩
  rw [l]
  exact (rel.val k).getD rfl
theorem UI {Q:VS7} (hu:A.units + 1 < cLine) (I:Inv X pins σ H s) (g:DGet H a y o) (ry:RelV y u) (rd:RelV d r) (h:∀ w' s',Inv X pins σ H s' -> RelV (o.getD d) w' -> Q w' s') :
  wpAny (model X.prog X.w) A (call (.builtin "dict.get") [.ref a,u,r]) Q E s:=by
 rcases g with ⟨kvs,k,e,ey,l⟩ | ⟨kvs,k,b,e,ey,eb,l⟩
 ·subst ey
  obtain ⟨z,hd,vs,rel,dd⟩:=Vi I.hok e
  refine call_meetsIn PySem.F.slot_dict_get dd.typeIs PySem.F.entry_dict_get (PySem.F.args_dict_get_3 _ _ _) (meets_dict_get_default (zO X.prog X.w) a (Xt ry) hd r) ⟨_,dd.mapOf,h _ _ (I.tok _) ?_⟩
  rw [l]
  exact (rel.val k).getD rd
 ·subst ey
  cases (show u = Value.ref b from ry)
  obtain ⟨z,hd,xs,rel,dd⟩:=Vj I.hok e
  refine call_meetsIn PySem.F.slot_dict_get dd.typeIs PySem.F.entry_dict_get (PySem.F.args_dict_get_3 _ _ _) (meetsH_dict_get_default (tupleKind (zO X.prog X.w)) a b hd r) ⟨tupleKind_room_in1 hu,k,xs,Yg I.hok eb,dd,h _ _ (I.tok _) ?_⟩
  rw [l]
  exact (rel.val k).getD rd
end
def UJ (td ty:TE):TE:=fun σ H Q=>td σ H fun x H1=>∃ a,x = .ref a /\ IsD H1 a /\ ty σ H1 fun y H2=>∃ o,DGet H2 a y o /\ Q (o.getD .non) H2
def UK (td ty tx:TE):TE:=fun σ H Q=>td σ H fun x H1=>∃ a,x = .ref a /\ IsD H1 a /\ ty σ H1 fun y H2=>tx σ H2 fun z H3=>∃ o,DGet H3 a y o /\ Q (o.getD z) H3
section
variable {X:Cx} {o e f:Expr} {apos cpos:Pos} {td ty tx:TE}
theorem ja (hu:X.A.units + 1 < cLine) (ho:PE X o td) (he:PE X e ty) (m:M1 X o "get" apos e cpos):PE X (.Call (.Attribute o "get" apos) [e] [] cpos) (UJ td ty):=by
 intro pins s σ H Q I h
 refine wpAny_Call_method m.base m.few m.line PySem.F.plainAttrs_dict PySem.F.slot_dict_get PySem.F.type_dict_get (thn (ho pins s σ H _ I h) fun u s1 ⟨x,H1,I1,rx,a,ex,d,q1⟩=>?_)
 subst ex
 obtain rfl:u = Value.ref a:=rx
 obtain ⟨t1,t2,_⟩:=Ws I1 d
 refine ⟨t1,t2,?_⟩
 rw [m.trees]
 refine Calls.callWith_builtin rfl (Calls.evalArgs_plain (Calls.spliced_cons (thn (he pins s1 σ H1 _ I1 q1) fun iv s2 ⟨y,H2,I2,ry,ov,g,q2⟩=>Calls.spliced_nil ?_)))
 exact UH hu I2 g ry fun w' s3 I3 rw'=>⟨_,H2,I3,rw',q2⟩
theorem Xu (hu:X.A.units + 1 < cLine) (ho:PE X o td) (he:PE X e ty) (hf:PE X f tx) (m:M2 X o "get" apos e f cpos):PE X (.Call (.Attribute o "get" apos) [e,f] [] cpos) (UK td ty tx):=by
 intro pins s σ H Q I h
 refine wpAny_Call_method m.base m.few m.line PySem.F.plainAttrs_dict PySem.F.slot_dict_get PySem.F.type_dict_get (thn (ho pins s σ H _ I h) fun u s1 ⟨x,H1,I1,rx,a,ex,d,q1⟩=>?_)
 subst ex
 obtain rfl:u = Value.ref a:=rx
 obtain ⟨t1,t2,_⟩:=Ws I1 d
 refine ⟨t1,t2,?_⟩
 rw [m.trees]
 refine Calls.callWith_builtin rfl (Calls.evalArgs_plain (Calls.spliced_cons (thn (he pins s1 σ H1 _ I1 q1) fun iv s2 ⟨y,H2,I2,ry,q2⟩ =>
  Calls.spliced_cons (thn (hf pins s2 σ H2 _ I2 q2) fun fv s3 ⟨z,H3,I3,rz,ov,g,q3⟩=>Calls.spliced_nil ?_))))
 exact UI hu I3 g ry rz fun w' s4 I4 rw'=>⟨_,H3,I4,rw',q3⟩
end
end L2
namespace Att
open PySem PySem.W PySem.Calls PyProof.Rows
end Att
namespace L2
open PySem PySem.Spec PyProof.Rows
end L2
namespace L3
open PySem PySem.Spec PyProof.Rows L2
open PySem PySem.Spec PyProof.Rows L2 PySem.W
def Yh (es:Array DictEntry) (d:Addr) (ep:Nat) (h:Heap):Prop:=∃ o,h.get? d = some o /\ o.ExactDict /\ o.data = .dict es ep
section
variable {prog:Program} {w:World} {A:Around} {E:VS7} {s:Shared} {es:Array DictEntry} {d it:Addr} {ep i:Nat}
theorem Yh.typeIs (h:Yh es d ep s.heap):s.TypeIs (.ref d) "dict":=let ⟨o,ho,hc,_⟩:=h; ⟨o,ho,hc.1⟩
theorem Yh.keep {h h':Heap} (x:Yh es d ep h) (e:∀ o,h.get? d = some o -> h'.get? d = some o):Yh es d ep h':=let ⟨o,ho,r⟩:=x; ⟨o,e o ho,r⟩
end
section
variable {c:TT} {e:TE} {i:Nat} {v v':V} {t u r:TS} {D:Ends} {σ:L2.St} {H:Hp} {rt:VK} {bk ct:L2.St -> Hp -> Prop}
theorem c_if (Good:L2.St -> Hp -> Prop) (hr:∀ σ' H',Good σ' H' -> r D σ' H') (hc:(∀ σ' H',Good σ' H' -> r D σ' H') -> tIfS c t u { D with nx:=r D } σ H):tSeq (tIfS c t u) r D σ H:=hc hr
theorem yo (Good:V -> Hp -> Prop) (hc:∀ K:VK,(∀ v H',Good v H' -> K v H') -> e σ H K) (hr:∀ v H',Good v H' -> t D (σ.set i (some v)) H'):tSeq (tAsg e (wc i)) t D σ H:=hc _ fun v H' g=>hr v H' g
theorem xy (h:t D σ H):V2 ({ nx:=t D,rt:=rt,bk:=bk,ct:=ct }:Ends) σ H:=h
theorem xz (Good:Bool -> Hp -> Prop) (hc:∀ K:Bool -> Hp -> Prop,(∀ b H',Good b H' -> K b H') -> c σ H K) (hr:∀ b H',Good b H' -> if b = true then t { D with nx:=r D } σ H' else u { D with nx:=r D } σ H'):tSeq (tIfS c t u) r D σ H:=hc _ hr
end
theorem Yi {prog:Program} {w:World} {A:Around} {E:VS7} {s:Shared} {Q:Int -> Shared -> Prop} (h:Q 0xFCA86420 { s with toks:=s.toks + 1 }):wpAny (model prog w) A (pyHash .none) Q E s:=by
 unfold pyHash
 show wpAny _ _ (pyHashByItsType Value.none) Q E s
 unfold pyHashByItsType
 have hv:[Value.none].any Value.onHeap = false:=rfl
 have hT:s.TypeIs .none "NoneType":=rfl
 refine wpAny_bind ?_
 rw [cRoomFor,if_neg (by rw [hv]; exact Bool.false_ne_true)]; refine wpAny_pure ?_
 refine wpAny_bind (wpAny_specialOf hT PySem.F.slot_NoneType_hash.lookup ?_)
 show wpAny _ _ (if (some (Value.builtin "NoneType.__hash__") == some Value.none) = true then _ else _) Q E s
 rw [if_neg (by rw [beq_builtin_none]; exact Bool.false_ne_true)]
 refine wpAny_bind (wpAny_specialOf hT PySem.F.slot_NoneType_hash.lookup ?_)
 show wpAny _ _ (callSpecialIfBoundUnlessNone? .none "__hash__" _ >>= _) Q E s
 refine wpAny_bind (wpAny_callSpecialIfBoundUnlessNone?_slot hT PySem.F.slot_NoneType_hash
  (wpAny_call_entry PySem.F.slot_NoneType_hash hT PySem.F.entry_NoneType_hash
   (show wpAny _ _ (do ret (← mkInt 0xFCA86420)) _ _ s from wpAny_ret_mkInt ?_) (PySem.F.args_NoneType_hash_1 _)))
 exact wpAny_pure h
theorem qf {prog:Program} {w:World} {A:Around} {E:VS7} {s:Shared} {Q:Bool -> Shared -> Prop} (h:Q true s):wpAny (model prog w) A (eqBool .none .none) Q E s:=by
 unfold eqBool
 refine wpAny_holding ?_
 rw [if_pos (show (Value.none == Value.none) = true from rfl)]
 exact wpAny_bind (wpAny_rule (wpAny_pure h))
abbrev OKey:=Option Key
def okIs:OKey -> Value -> Bool
 | none,v=>v == .none
 | some k,v=>uY k v
theorem yp:∀ {k:OKey} {v:Value},okIs k v = true -> (k = none /\ v = .none) \/ ∃ q,k = some q /\ uY q v = true
 | none,v,h=>.inl ⟨rfl,eq_of_beq h⟩
 | some q,v,h=>.inr ⟨q,rfl,h⟩
theorem uL {q:Key} (h:uY q .none = true):False:=by
 rcases zG h with ⟨_,_,_,e⟩ | ⟨_,_,_,e⟩ <;> cases e
def Yj (prog:Program) (w:World):PySem.KeyKind prog w OKey where
 is:=okIs
 hash:=fun k=>match k with | none=>0xFCA86420 | some q=>keyH w q
 inj:=fun v a b ha hb=>by
  rcases yp ha with ⟨rfl,rfl⟩ | ⟨q,rfl,hq⟩ <;> rcases yp hb with ⟨rfl,e⟩ | ⟨r,rfl,hr⟩
  ·rfl
  ·exact (uL hr).elim
  ·subst e; exact (uL hq).elim
  ·exact congrArg some ((zO prog w).inj v q r hq hr)
 byValue:=fun k v h=>by
  rcases yp h with ⟨rfl,rfl⟩ | ⟨q,rfl,hq⟩
  ·rfl
  ·exact (zO prog w).byValue q v hq
 pyHash:=fun hv h=>by
  rcases yp hv with ⟨rfl,rfl⟩ | ⟨q,rfl,hq⟩
  ·exact Yi h
  ·exact (zO prog w).pyHash hq h
 eqBool:=fun hu hv h=>by
  rcases yp hu with ⟨rfl,rfl⟩ | ⟨q,rfl,hq⟩ <;> rcases yp hv with ⟨rfl,e⟩ | ⟨r,rfl,hr⟩
  ·subst e; exact qf (by simpa using h)
  ·rw [decide_eq_false (by simp)] at h
   rcases zG hr with ⟨i,t,_,rfl⟩ | ⟨x,t,_,rfl⟩
   ·exact SeqAt.EqAt.none_int i t _ _ _ _ h
   ·exact SeqAt.EqAt.none_str x t _ _ _ _ h
  ·rw [decide_eq_false (by simp)] at h
   subst e
   rcases zG hq with ⟨i,t,_,rfl⟩ | ⟨x,t,_,rfl⟩
   ·exact SeqAt.EqAt.int_none i t _ _ _ _ h
   ·exact SeqAt.EqAt.str_none x t _ _ _ _ h
  ·exact (zO prog w).eqBool hq hr (by simpa using h)
 «strs»:=fun k x t v h=>by
  rcases yp h with ⟨rfl,e⟩ | ⟨q,rfl,hq⟩
  ·cases e
  ·exact (zO prog w).strs q x t v hq
def okV:OKey -> V
 | none=>.non
 | some k=>kV k
theorem Vk {k:OKey} {v:Value} (r:RelV (okV k) v):okIs k v = true:=by
 cases k with
 | none=>cases (show v = Value.none from r); rfl
 | some q =>
  cases q with
  | inl i=>obtain ⟨t,rfl⟩:=r; exact tV i t
  | inr x=>obtain ⟨t,rfl⟩:=r; exact tW x t
theorem Xv {k:OKey} {v:Value} (h:okIs k v = true):RelV (okV k) v:=by
 rcases yp h with ⟨rfl,rfl⟩ | ⟨q,rfl,hq⟩
 ·rfl
 ·rcases zG hq with ⟨i,t,rfl,rfl⟩ | ⟨x,t,rfl,rfl⟩
  ·exact ⟨t,rfl⟩
  ·exact ⟨t,rfl⟩
def DcO (a:Addr) (kvs:List (V × V)):HO:=.ext fun h=>∃ o es n,h.get? a = some o /\ o.cls = .type "dict" /\ o.data = .dict es n /\ Vals (kvs.map (·.1)) (es.toList.map (·.key)) /\ Vals (kvs.map (·.2)) (es.toList.map (·.val))
mutual
/-- nested data,whose lists and dicts are none of m -/
inductive Od (K:FG7) (m:List Addr) (H:Hp):V -> PyData -> Prop
 | non:Od K m H .non .none
 | bl (b:Bool):Od K m H (.bl b) (.bool b)
 | int (i:Int):Od K m H (.int i) (.int i)
 | str (x:Str):Od K m H (.str x) (.str x)
 | tup {a:Addr} {xs:List V} {ds:List PyData}:SqT K H a xs -> Ods K m H xs ds -> Od K m H (.ref a) (.tuple ds)
 | lst {a:Addr} {xs:List V} {ds:List PyData}:H a = some (.lst xs) -> a ∉ m -> a ≠ sysModules -> Ods K m H xs ds -> Od K m H (.ref a) (.list ds)
 | dct {a:Addr} {kvs:List (V × V)} {ds:List (PyData × PyData)}:H a = some (DcO a kvs) -> a ∉ m -> a ≠ sysModules -> Ods K m H (kvs.map (·.1)) (ds.map (·.1)) -> Ods K m H (kvs.map (·.2)) (ds.map (·.2)) -> Od K m H (.ref a) (.dict ds)
inductive Ods (K:FG7) (m:List Addr) (H:Hp):List V -> List PyData -> Prop
 | nil:Ods K m H [] []
 | cons {x:V} {xs:List V} {d:PyData} {ds:List PyData}:Od K m H x d -> Ods K m H xs ds -> Ods K m H (x :: xs) (d :: ds)
end
section
variable {K:FG7} {m:List Addr} {H H':Hp}
mutual
theorem Od.grow (g:Grow m H H'):∀ {x:V} {d:PyData},Od K m H x d -> Od K m H' x d
 | _,_,.non=>.non
 | _,_,.bl b=>.bl b
 | _,_,.int i=>.int i
 | _,_,.str x=>.str x
 | _,_,.tup h t=>.tup (g.sqT h) (Ods.grow g t)
 | _,_,.lst h n b t=>.lst (g.keep _ _ n h) n b (Ods.grow g t)
 | _,_,.dct h n b t u=>.dct (g.keep _ _ n h) n b (Ods.grow g t) (Ods.grow g u)
theorem Ods.grow (g:Grow m H H'):∀ {xs:List V} {ds:List PyData},Ods K m H xs ds -> Ods K m H' xs ds
 | _,_,.nil=>.nil
 | _,_,.cons h t=>.cons (Od.grow g h) (Ods.grow g t)
end
theorem Ods.length:∀ {xs:List V} {ds:List PyData},Ods K m H xs ds -> xs.length = ds.length
 | _,_,.nil=>rfl
 | _,_,.cons _ t=>congrArg (· + 1) (Ods.length t)
theorem Ods.get:∀ {xs:List V} {ds:List PyData} {i:Nat} {x:V},Ods K m H xs ds -> xs[i]? = some x -> ∃ d,ds[i]? = some d /\ Od K m H x d
 | _,_,_,_,.nil,e=>by simp at e
 | _,_,0,_,.cons h _,e=>by simp at e; subst e; exact ⟨_,rfl,h⟩
 | _,_,i + 1,x,.cons _ t,e=>Ods.get (i:=i) t (by simpa using e)
theorem Ods.at:∀ {xs:List V} {ds:List PyData} {i:Nat} {d:PyData},Ods K m H xs ds -> ds[i]? = some d -> ∃ x,xs[i]? = some x /\ Od K m H x d
 | _,_,_,_,.nil,e=>by simp at e
 | _,_,0,_,.cons h _,e=>by simp at e; subst e; exact ⟨_,rfl,h⟩
 | _,_,i + 1,x,.cons _ t,e=>Ods.at (i:=i) t (by simpa using e)
theorem Ods.append:∀ {xs ys:List V} {ds es:List PyData},Ods K m H xs ds -> Ods K m H ys es -> Ods K m H (xs ++ ys) (ds ++ es)
 | _,_,_,_,.nil,s=>s
 | _,_,_,_,.cons r t,s=>.cons r (Ods.append t s)
theorem Ods.take:∀ {xs:List V} {ds:List PyData} (n:Nat),Ods K m H xs ds -> Ods K m H (xs.take n) (ds.take n)
 | _,_,0,_=>.nil
 | _,_,_ + 1,.nil=>.nil
 | _,_,n + 1,.cons r t=>.cons r (Ods.take n t)
theorem Ods.drop:∀ {xs:List V} {ds:List PyData} (n:Nat),Ods K m H xs ds -> Ods K m H (xs.drop n) (ds.drop n)
 | _,_,0,r=>r
 | _,_,_ + 1,.nil=>.nil
 | _,_,n + 1,.cons _ t=>Ods.drop n t
end
section
variable {X:Cx} {pins:List (Addr × Obj)} {σ:L2.St} {H:Hp} {s:Shared} {m:List Addr}
theorem vY (I:Inv X pins σ H s):sysModules < s.heap.objs.size:=Nat.lt_trans (by decide) (show mainGlobals < s.heap.objs.size from (I.mod.glob.keeps I.bk).lt)
theorem DcO.at (I:Inv X pins σ H s) {a:Addr} {kvs:List (V × V)} (h:H a = some (DcO a kvs)):∃ o es n,s.heap.get? a = some o /\ o.cls = .type "dict" /\ o.data = .dict es n /\ Vals (kvs.map (·.1)) (es.toList.map (·.key)) /\ Vals (kvs.map (·.2)) (es.toList.map (·.val)):=(I.hok a _ h).1
mutual
theorem Od.reads (I:Inv X pins σ H s):∀ {x:V} {d:PyData} {u:Value},Od X.K m H x d -> RelV x u -> ∃ as,Reads s.heap u d as /\ sysModules ∉ as
 | _,_,u,.non,r=>by
  cases (show u = Value.none from r)
  exact ⟨_,.none,by simp⟩
 | _,_,u,.bl b,r=>by
  cases (show u = Value.bool b from r)
  exact ⟨_,.bool b,by simp⟩
 | _,_,u,.int i,r=>by
  obtain ⟨t,rfl⟩:=r
  exact ⟨_,.int i t,by simp⟩
 | _,_,u,.str x,r=>by
  obtain ⟨t,rfl⟩:=r
  exact ⟨_,.str x t,by simp⟩
 | _,_,u,.tup (a:=a) hs hd,r=>by
  cases (show u = Value.ref a from r)
  obtain ⟨its,r1,⟨o,e1,e2,n,e3⟩,_⟩:=I.tuple hs
  obtain ⟨as,q,ns⟩:=Ods.reads I hd r1
  exact ⟨_,.tuple e1 e2 e3 q,ns⟩
 | _,_,u,.lst (a:=a) hs _ hb hd,r=>by
  cases (show u = Value.ref a from r)
  obtain ⟨its,r1,⟨o,n,e1,e2,_,e3⟩,_⟩:=I.list (SqL.of hs)
  obtain ⟨as,q,ns⟩:=Ods.reads I hd r1
  exact ⟨_,.list e1 e2 e3 q,fun z=>(List.mem_cons.mp z).elim (fun e=>hb e.symm) ns⟩
 | _,_,u,.dct (a:=a) hs _ hb h1 h2,r=>by
  cases (show u = Value.ref a from r)
  obtain ⟨o,es,n,e1,e2,e3,v1,v2⟩:=DcO.at I hs
  obtain ⟨as,q1,n1⟩:=Ods.reads I h1 v1
  obtain ⟨bs,q2,n2⟩:=Ods.reads I h2 v2
  refine ⟨_,.dict e1 e2 e3 q1 q2,fun z=>?_⟩
  rcases List.mem_append.mp z with z | z
  ·exact (List.mem_cons.mp z).elim (fun e=>hb e.symm) n1
  ·exact n2 z
theorem Ods.reads (I:Inv X pins σ H s):∀ {xs:List V} {ds:List PyData} {us:List Value},Ods X.K m H xs ds -> Vals xs us -> ∃ as,ReadsAll s.heap us ds as /\ sysModules ∉ as
 | _,_,_,.nil,.nil=>⟨_,.nil,by simp⟩
 | _,_,_,.cons h t,.cons r rs=>by
  obtain ⟨as,q,n1⟩:=Od.reads I h r
  obtain ⟨bs,q2,n2⟩:=Ods.reads I t rs
  exact ⟨_,.cons q q2,fun z=>(List.mem_append.mp z).elim n1 n2⟩
end
def UL (K:FG7):List V -> Hp -> VK -> Prop:=fun xs H Q=>∃ x d m,xs = [x] /\ Od K m H x d /\ d.showable = true /\ d.depth <= 60 /\ d.shown.length <= sizeLine /\ Q (.str d.shown) H
theorem uM {K:FG7} {k:Nat} (hK:X.K = K) (hr:Room k X.A):xm X (.builtin "repr") (UL K):=by
 subst hK
 intro pins s σ H xs us Q I r h
 obtain ⟨x,d,m,rfl,hd,h1,h3,h4,q⟩:=h
 obtain ⟨u,rfl,rx⟩:=wd r
 have key:∀ a,u = .ref a -> wpAny (model X.prog X.w) X.A (call (.builtin "repr") [u]) (EP X pins σ Q) X.xe s:=fun a e=>by
  subst e
  obtain ⟨as,rd,ns⟩:=Od.reads I hd rx
  exact repr_of_reads' rd h1 (fun _=>ns) hr.gd (by have:=hr.un; omega) (fun _ _ e=>e) (fun h' t tk hk=>⟨.str _,H,I.kept hk,⟨_,rfl⟩,q⟩) h4
 cases hd with
 | non =>
  cases (show u = Value.none from rx)
  exact PySem.P.repr_of_none ⟨.str _,H,I.tok _,⟨_,rfl⟩,q⟩
 | bl b =>
  cases (show u = Value.bool b from rx)
  exact PySem.P.repr_of_bool ⟨.str _,H,I.tok _,⟨_,rfl⟩,q⟩
 | int i =>
  obtain ⟨t,rfl⟩:=rx
  exact PySem.P.repr_of_int (of_decide_eq_true h1) ⟨.str _,H,I.tok _,⟨_,rfl⟩,q⟩
 | str x =>
  obtain ⟨t,rfl⟩:=rx
  exact PySem.P.repr_of_str ⟨.str _,H,I.tok _,⟨_,rfl⟩,q⟩ h4
 | tup hs ha=>exact key _ rx
 | lst hs _ _ ha=>exact key _ rx
 | dct hs _ _ h1 h2=>exact key _ rx
end
section
variable {K:FG7} {m m':List Addr} {H:Hp}
mutual
theorem Od.more {a:Addr} (h:H a = none):∀ {x:V} {d:PyData},Od K m H x d -> Od K (a :: m) H x d
 | _,_,.non=>.non
 | _,_,.bl b=>.bl b
 | _,_,.int i=>.int i
 | _,_,.str x=>.str x
 | _,_,.tup q t=>.tup q (Ods.more h t)
 | _,_,.lst q n b t=>.lst q (fun z=>(List.mem_cons.mp z).elim (fun e=>by rw [e,h] at q; cases q) n) b (Ods.more h t)
 | _,_,.dct q n b t u=>.dct q (fun z=>(List.mem_cons.mp z).elim (fun e=>by rw [e,h] at q; cases q) n) b (Ods.more h t) (Ods.more h u)
theorem Ods.more {a:Addr} (h:H a = none):∀ {xs:List V} {ds:List PyData},Ods K m H xs ds -> Ods K (a :: m) H xs ds
 | _,_,.nil=>.nil
 | _,_,.cons q t=>.cons (Od.more h q) (Ods.more h t)
end
mutual
theorem Od.less (h:∀ b ∈ m',b ∈ m):∀ {x:V} {d:PyData},Od K m H x d -> Od K m' H x d
 | _,_,.non=>.non
 | _,_,.bl b=>.bl b
 | _,_,.int i=>.int i
 | _,_,.str x=>.str x
 | _,_,.tup q t=>.tup q (Ods.less h t)
 | _,_,.lst q n b t=>.lst q (fun z=>n (h _ z)) b (Ods.less h t)
 | _,_,.dct q n b t u=>.dct q (fun z=>n (h _ z)) b (Ods.less h t) (Ods.less h u)
theorem Ods.less (h:∀ b ∈ m',b ∈ m):∀ {xs:List V} {ds:List PyData},Ods K m H xs ds -> Ods K m' H xs ds
 | _,_,.nil=>.nil
 | _,_,.cons q t=>.cons (Od.less h q) (Ods.less h t)
end
end
theorem vZ {ks:List (Option Expr)} {vs es:List Expr} {p:Pos} {env:Env}:starEach (.Dict ks vs p :: es) env = (false,eval (.Dict ks vs p) env) :: starEach es env:=by rfl
structure DR where
 p:List Addr -> L2.St -> Hp -> Prop
 mono:∀ {m σ H H'},Grow [] H H' -> p m σ H -> p m σ H'
 more:∀ {a m σ H},H a = none -> p m σ H -> p (a :: m) σ H
def DR.t:DR:=⟨fun _ _ _=>True,fun _ _=>trivial,fun _ _=>trivial⟩
def DR.and (a b:DR):DR:=⟨fun m σ H=>a.p m σ H /\ b.p m σ H,fun g h=>⟨a.mono g h.1,b.mono g h.2⟩,fun g h=>⟨a.more g h.1,b.more g h.2⟩⟩
def tOd (K:FG7) (R:DR) (D:PyData):TE:=fun σ H Q=>∃ m,R.p m σ H /\ (∀ b ∈ m,H b ≠ none) /\ ∀ x H',Grow [] H H' -> Od K m H' x D -> Q x H'
def tOds (K:FG7) (R:DR) (Ds:List PyData):TA:=fun σ H Q=>∃ m,R.p m σ H /\ (∀ b ∈ m,H b ≠ none) /\ ∀ xs H',Grow [] H H' -> Ods K m H' xs Ds -> Q xs H'
theorem wF {H H':Hp} {m:List Addr} (g:Grow [] H H') (h:∀ b ∈ m,H b ≠ none):∀ b ∈ m,H' b ≠ none:=fun b hb z=>by
 cases e:H b with
 | none=>exact h b hb e
 | some o=>rw [g.keep b o (by simp) e] at z; cases z
section
variable {X:Cx} {K:FG7} {R R':DR} {D:PyData} {Ds:List PyData} {e:Expr} {es:List Expr} {pos:Pos} {j}
theorem jb:PE X (.Constant .none j pos) (tOd K .t .none):=fun pins s σ H Q I ⟨m,_,_,q⟩=>yt pins s σ H Q I (q _ _ (Grow.refl _ _) .non)
theorem Xw {b:Bool}:PE X (.Constant (.bool b) j pos) (tOd K .t (.bool b)):=fun pins s σ H Q I ⟨m,_,_,q⟩=>vq pins s σ H Q I (q _ _ (Grow.refl _ _) (.bl b))
theorem v3 {i:Int}:PE X (.Constant (.int i) j pos) (tOd K .t (.int i)):=fun pins s σ H Q I ⟨m,_,_,q⟩=>zg pins s σ H Q I (q _ _ (Grow.refl _ _) (.int i))
theorem v5 {x:Str}:PE X (.Constant (.str x) j pos) (tOd K .t (.str x)):=fun pins s σ H Q I ⟨m,_,_,q⟩=>zM pins s σ H Q I (q _ _ (Grow.refl _ _) (.str x))
theorem xc:PA X [] (tOds K .t []):=fun pos pins s σ H Q I ⟨m,_,_,q⟩=>ze pos pins s σ H Q I (q _ _ (Grow.refl _ _) .nil)
theorem Xx (h:PE X e (tOd K R D)) (t:PA X es (tOds K R' Ds)) (hs:starEach (e :: es) X.env = (false,eval e X.env) :: starEach es X.env:=by rfl):PA X (e :: es) (tOds K (.and R R') (D :: Ds)):=fun pos pins s σ H Q I ⟨m,⟨r1,r2⟩,b,q⟩ =>
 zc h t hs pos pins s σ H Q I ⟨m,r1,b,fun x H1 g1 o1=>⟨m,R'.mono g1 r2,wF g1 b,fun xs H2 g2 o2=>q _ _ (g1.trans g2) (.cons (o1.grow (g2.mono (by simp))) o2)⟩⟩
theorem zw (h:PE X e (tOd K .t D)) (t:PA X es (tOds K R' Ds)) (hs:starEach (e :: es) X.env = (false,eval e X.env) :: starEach es X.env:=by rfl):PA X (e :: es) (tOds K R' (D :: Ds)):=fun pos pins s σ H Q I ⟨m,r2,b,q⟩ =>
 Xx h t hs pos pins s σ H Q I ⟨m,⟨trivial,r2⟩,b,q⟩
theorem sJ {x1} (h:PA X es (tOds K R Ds)) (hl:Ds.length <= 1000:=by decide):PE X (.Tuple es x1 pos) (tOd K R (.tuple Ds)):=fun pins s σ H Q I ⟨m,r,b,q⟩ =>
 z7 h pins s σ H Q I ⟨m,r,b,fun xs H' g o=>⟨by rw [o.length]; exact Nat.le_of_lt (zn hl),fun p hp =>
  have g2:=Grow.new (m:=[]) hp (.tup xs)
  q _ _ (g.trans g2) (.tup (SqT.of zd) (o.grow (g2.mono (by simp))))⟩⟩
def TM (t:TA):TE:=fun σ H Q=>t σ H fun xs H1=>xs.length <= sizeLine /\ ∀ p,H1 p = none -> p ≠ sysModules -> Q (.ref p) (upd H1 p (.lst xs))
theorem qg {t:TA} (h:PA X es t):PE X (.List es pos) (TM t):=by
 intro pins s σ H Q I hq
 refine wpAny_List_spliced (thn (h pos pins s σ H _ I hq) fun us s1 ⟨xs,H1,I1,r,z,q⟩=>⟨by rw [← r.length]; exact z,?_⟩)
 have hf:H1 s1.heap.objs.size = none:=I1.hok.fresh (Nat.le_refl _)
 refine ⟨.ref s1.heap.objs.size,upd H1 s1.heap.objs.size (.lst xs),I1.laid (t':=s1.toks) (fun b u e=>Heap.get?_push_of_some _ e) (Nat.le_refl _) ?_,rfl,q _ hf (Nat.ne_of_gt (vY I1))⟩
 exact ⟨z,us,0,r,Heap.get?_push_size _ rfl⟩
theorem Yk {m:List Addr} {H:Hp} {p:Addr} (b:∀ b ∈ m,H b ≠ none) (h:H p = none):p ∉ m:=fun z=>b p z h
theorem sK (h:PA X es (tOds K R Ds)) (hl:Ds.length <= 1000:=by decide):PE X (.List es pos) (tOd K R (.list Ds)):=fun pins s σ H Q I ⟨m,r,b,q⟩ =>
 qg h pins s σ H Q I ⟨m,r,b,fun xs H' g o=>⟨by rw [o.length]; exact Nat.le_of_lt (zn hl),fun p hp hn =>
  have g2:=Grow.new (m:=[]) hp (.lst xs)
  q _ _ (g.trans g2) (.lst zd (Yk (wF g b) hp) hn (o.grow (g2.mono (by simp))))⟩⟩
theorem jR (hK:X.K = K):xm X (.type "list") (fun xs H Q=>∃ p ys,xs = [.ref p] /\ (SqL K H p ys \/ SqT K H p ys) /\ ∀ l,H l = none -> l ≠ sysModules -> Q (.ref l) (upd H l (.lst ys))):=by
 subst hK
 intro pins s σ H xs us Q I r h
 obtain ⟨p,ys,rfl,hq,q⟩:=h
 obtain ⟨u,rfl,rx⟩:=wd r
 cases rx
 have fin:∀ (its:List Value),Vals ys its -> ys.length <= sizeLine -> ∀ (h':Heap) (c':Nat),(∀ b o',s.heap.get? b = some o' -> h'.get? b = some o') →
   h'.get? s.heap.objs.size = some { cls:=.type "list",dict:=none,data:=.seq its.toArray c',slots:=#[] } -> EP X pins σ Q (.ref s.heap.objs.size) { s with heap:=h' }:=fun its r' hz h' c' kp e =>
  ⟨.ref s.heap.objs.size,_,I.laid (t':=s.toks) kp (Nat.le_refl _) (show yf X.prog X.w _ h' _ (.lst ys) from ⟨hz,its,c',r',e⟩),rfl,q _ (I.hok.fresh (Nat.le_refl _)) (Nat.ne_of_gt (vY I))⟩
 rcases hq with hq | hq
 ·obtain ⟨its,r',pl,hz⟩:=I.list hq
  have hlen:=r'.length
  obtain ⟨o,ho,hc,n,hd⟩:=pl.isList
  exact call_list_seq p (.inl rfl) ho hc hd (fun h' c' kp e=>fin its r' hz h' c' kp e) (by simp only [List.size_toArray] <;> omega)
 ·obtain ⟨its,r',pl,hz⟩:=I.tuple hq
  have hlen:=r'.length
  obtain ⟨o,ho,hc,n,hd⟩:=pl
  exact call_list_seq p (.inr rfl) ho hc hd (fun h' c' kp e=>fin its r' hz h' c' kp e) (by simp only [List.size_toArray] <;> omega)
end
def okD:OKey -> PyData
 | none=>.none
 | some (.inl i)=>.int i
 | some (.inr x)=>.str x
theorem UM {K:FG7} {m:List Addr} {H:Hp}:∀ {k:OKey},Od K m H (okV k) (okD k)
 | none=>.non
 | some (.inl i)=>.int i
 | some (.inr x)=>.str x
def KxR (p:OKey × V) (q:Value × Value):Prop:=RelV (okV p.1) q.1 /\ RelV p.2 q.2
structure PO2 (X:Cx) (ks:List (Option Expr)) (vs:List Expr) (R:DR) (kds:List (OKey × PyData)):Prop where
 run:∀ (pos:Pos) (pins:List (Addr × Obj)) (s:Shared) (σ:L2.St) (H:Hp) (m:List Addr) (Q:List (Value × Value) -> Shared -> Prop),Inv X pins σ H s -> R.p m σ H -> (∀ b ∈ m,H b ≠ none) →
  (∀ r s' H' (kxs:List (OKey × V)),Inv X pins σ H' s' -> Grow [] H H' -> Paired KxR kxs r -> kxs.map (·.1) = kds.map (·.1) -> Ods X.K m H' (kxs.map (·.2)) (kds.map (·.2)) -> Q r s') →
  wpAny (model X.prog X.w) X.A (evalPairs (pairTrees ks vs X.env pos)) Q X.xe s
section
variable {X:Cx} {K:FG7} {R R':DR} {D:PyData} {e k:Expr} {ks:List (Option Expr)} {vs:List Expr} {kds:List (OKey × PyData)} {pos:Pos}
theorem Vl:PO2 X [] [] .t []:=⟨fun pos pins s σ H m Q I _ _ q=>pairTrees_nil_walk (q [] s H [] I (Grow.refl _ _) .nil rfl .nil)⟩
theorem Xy (key:OKey) (hk:PE X k (tC (okV key))) (h:PE X e (tOd X.K R D)) (t:PO2 X ks vs R' kds):PO2 X (some k :: ks) (e :: vs) (.and R R') ((key,D) :: kds):=⟨fun pos pins s σ H m Q I ⟨r1,r2⟩ b q=>by
 refine pairTrees_cons_walk (thn (hk pins s σ H (fun x H1=>x = okV key /\ H1 = H) I ⟨rfl,rfl⟩) fun u s1 ⟨x,H1,I1,rx,ex,eH⟩=>?_)
 subst ex eH
 refine thn (h pins s1 σ H1 (fun y H2=>Grow [] H1 H2 /\ Od X.K m H2 y D) I1 ⟨m,r1,b,fun y H2 g o=>⟨g,o⟩⟩) fun v s2 ⟨y,H2,I2,ry,g2,o2⟩=>?_
 refine t.run pos pins s2 σ H2 m _ I2 (R'.mono g2 r2) (wF g2 b) fun r s' H3 kxs I3 g3 pr ek od=>?_
 exact q _ s' H3 ((key,y) :: kxs) I3 (g2.trans g3) (.cons ⟨rx,ry⟩ pr) (by rw [List.map_cons,List.map_cons,ek]) (.cons (o2.grow (g3.mono (by simp))) od)⟩
theorem Yl (key:OKey) (hk:PE X k (tC (okV key))) (h:PE X e (tOd X.K .t D)) (t:PO2 X ks vs R' kds):PO2 X (some k :: ks) (e :: vs) R' ((key,D) :: kds):=⟨fun pos pins s σ H m Q I r2 b q=>(Xy key hk h t).run pos pins s σ H m Q I ⟨trivial,r2⟩ b q⟩
theorem Xz {i:Int} {j} {pk:Pos} (h:PE X e (tOd X.K .t D)) (t:PO2 X ks vs R' kds):PO2 X (some (.Constant (.int i) j pk) :: ks) (e :: vs) R' ((some (.inl i),D) :: kds):=Yl (some (.inl i)) zg h t
theorem Wt {α β γ:Type} (f:α -> γ) (l:List (α × β)):l.map (fun p=>f p.1) = (l.map (·.1)).map f:=by rw [List.map_map]; rfl
theorem jc {α β γ:Type} (f:α -> γ) (l:List (α × β)):(l.map fun p=>(f p.1,p.2)).map (·.1) = (l.map (·.1)).map f:=by rw [List.map_map,List.map_map]; rfl
theorem jd {α β γ:Type} (f:α -> γ) (l:List (α × β)):(l.map fun p=>(f p.1,p.2)).map (·.2) = l.map (·.2):=by rw [List.map_map]; rfl
def E0D (a:Addr):HO:=.ext fun h=>h.get? a = some { cls:=.type "dict",data:=.dict #[] }
theorem Ym {prog:Program} {w:World}:∀ {kxs:List (OKey × V)} {r:List (Value × Value)},Paired KxR kxs r -> ∃ kvs:List (OKey × Value),Carries (Yj prog w) r kvs /\ kvs.map (·.1) = kxs.map (·.1) /\ Vals (kxs.map (·.2)) (kvs.map (·.2))
 | _,_,.nil=>⟨[],trivial,rfl,.nil⟩
 | _,_,.cons (a:=x) (b:=y) h t=>by
  obtain ⟨kvs,c,e,v⟩:=Ym (prog:=prog) (w:=w) t
  exact ⟨(x.1,y.2) :: kvs,⟨Vk h.1,rfl,c⟩,by rw [List.map_cons,List.map_cons,e],.cons h.2 v⟩
theorem sL {kvs:List (OKey × Value)}:∀ {acc:List (OKey × Value)},((acc ++ kvs).map (·.1)).Nodup -> merged acc kvs = acc ++ kvs:=by
 induction kvs with
 | nil=>intro acc _; simp [merged]
 | cons kv r ih =>
  intro acc h
  have h1:stored acc kv.1 kv.2 = acc ++ [kv]:=by
   unfold stored
   rw [if_neg]
   intro z
   obtain ⟨x,hx,e⟩:=List.any_eq_true.mp z
   rw [List.map_append,List.nodup_append] at h
   exact h.2.2 x.1 (List.mem_map_of_mem hx) kv.1 (by simp) (of_decide_eq_true e)
  show merged (stored acc kv.1 kv.2) r = _
  rw [h1,ih (by simpa using h)]
  simp
theorem uN {prog:Program} {w:World}:∀ {es:List DictEntry} {kvs:List (OKey × Value)},Pairs (Yj prog w) es kvs -> Vals (kvs.map fun p=>okV p.1) (es.map (·.key)) /\ es.map (·.val) = kvs.map (·.2)
 | _,_,.nil=>⟨.nil,rfl⟩
 | _,_,.cons h1 h2 t=>by
  obtain ⟨a,b⟩:=uN t
  exact ⟨.cons (Xv h1) a,by rw [List.map_cons,List.map_cons,b,h2]⟩
theorem UN (h:PO2 X ks vs R kds) (hnd:(kds.map (·.1)).Nodup:=by decide) (hall:ks.all (·.isSome) = true:=by rfl) (hl:ks.length = vs.length:=by rfl) (h0:ks ≠ []:=by intro z; cases z) (hlen:ks.length <= 15:=by decide) :
  PE X (.Dict ks vs pos) (tOd X.K R (.dict (kds.map fun p=>(okD p.1,p.2)))):=by
 intro pins s σ H Q I ⟨m,hr,hb,q⟩
 have hf:H s.heap.objs.size = none:=I.hok.fresh (Nat.le_refl _)
 have I1:Inv X pins σ (upd H s.heap.objs.size (E0D s.heap.objs.size)) { s with heap:=s.heap.push { cls:=.type "dict",data:=.dict #[] } } :=
  I.laid (t':=s.toks) (fun b u e=>Heap.get?_push_of_some _ e) (Nat.le_refl _) ⟨Heap.get?_push_size _ rfl,⟨_,Heap.get?_push_size _ rfl⟩,fun h1 h2 a k=>k _ a⟩
 have g1:=Grow.new (m:=[]) hf (E0D s.heap.objs.size)
 refine wpAny_Dict_walk (knd:=Yj X.prog X.w) hall hl h0 hlen (h.run pos pins _ σ _ (s.heap.objs.size :: m) _ I1 (R.mono g1 (R.more hf hr)) ?_ fun r s1 H2 kxs I2 g2 pr ek od=>?_)
 ·intro b hb' z
  rcases List.mem_cons.mp hb' with e | e
  ·rw [e,zd] at z; cases z
  ·exact wF g1 hb b e z
 have h2a:H2 s.heap.objs.size = some (E0D s.heap.objs.size):=g2.keep _ _ (by simp) zd
 have hE:s1.heap.get? s.heap.objs.size = some { cls:=.type "dict",data:=.dict #[] }:=(I2.hok _ _ h2a).1
 obtain ⟨kvs,hc,ekv,vv⟩:=Ym (prog:=X.prog) (w:=X.w) pr
 refine ⟨kvs,hc,⟨_,#[],0,hE,⟨rfl,rfl,rfl⟩,rfl,fun e he=>by simp at he,.nil,List.nodup_nil⟩,fun h' hm hs=>?_⟩
 have hmk:merged [] kvs = kvs:=by
  have:=sL (kvs:=kvs) (acc:=[]) (by rw [List.nil_append,ekv,ek]; exact hnd)
  rw [this,List.nil_append]
 rw [hmk] at hm
 obtain ⟨o,es,ep,ho,hx,hd,_,prs,_⟩:=hm
 obtain ⟨v1,e2⟩:=uN prs
 have hk1:(kxs.map fun p=>(okV p.1,p.2)).map (·.1) = kvs.map fun p=>okV p.1:=by
  rw [jc,Wt,ekv]
 have hk2:(kxs.map fun p=>(okV p.1,p.2)).map (·.2) = kxs.map (·.2):=jd okV kxs
 have new:yf X.prog X.w (upd H2 s.heap.objs.size (DcO s.heap.objs.size (kxs.map fun p=>(okV p.1,p.2)))) h' s.heap.objs.size (DcO s.heap.objs.size (kxs.map fun p=>(okV p.1,p.2))):=by
  refine ⟨⟨o,es,ep,ho,hx.1,hd,by rw [hk1]; exact v1,by rw [hk2,e2]; exact vv⟩,⟨o,ho⟩,fun h1 h2 hφ hk=>?_⟩
  obtain ⟨o',es',n',a1,a2⟩:=hφ
  exact ⟨o',es',n',hk _ a1,a2⟩
 have I3:=I2.write (t':=s1.toks + r.length) (h':=h') (x:=s.heap.objs.size) (e:=s.heap.objs.size) (by rw [h2a]; trivial) (.inl rfl) (fun b u hb e=>(hs.2 b hb).trans e) ⟨o,ho⟩ new
 have g3:Grow (s.heap.objs.size :: m) H2 (upd H2 s.heap.objs.size (DcO s.heap.objs.size (kxs.map fun p=>(okV p.1,p.2)))) :=
  ⟨fun b u hb e=>by rw [zB (fun z=>hb (by simp [z]))]; exact e,fun b u e=>by rw [zB (fun z=>by rw [z,h2a] at e; cases e)]; exact e,fun b u v e=>by rw [zB (fun z=>by rw [z,h2a] at e; cases e)]; exact e⟩
 have G:Grow [] H (upd H2 s.heap.objs.size (DcO s.heap.objs.size (kxs.map fun p=>(okV p.1,p.2)))):=by
  have ga:=g1.trans g2
  refine ⟨fun b u hb e=>?_,fun b u e=>?_,fun b u v e=>?_⟩
  ·rw [zB (zt e hf)]; exact ga.keep b u hb e
  ·rw [zB (zt e hf)]; exact ga.tup b u e
  ·rw [zB (zt e hf)]; exact ga.frz b u v e
 refine ⟨.ref s.heap.objs.size,_,I3,rfl,q _ _ G (.dct zd (Yk hb hf) (Nat.ne_of_gt (vY I)) ?_ ?_)⟩
 ·rw [hk1]
  have:∀ {l:List OKey} {H:Hp},Ods X.K m H (l.map okV) (l.map okD):=fun {l H}=>by
   induction l with
   | nil=>exact .nil
   | cons a r ih=>exact .cons UM ih
  rw [Wt,ekv,ek,jc]
  exact this
 ·rw [hk2,jd]
  exact (od.grow g3).less fun b hb=>List.mem_cons_of_mem _ hb
theorem Yn:PE X (.Dict [] [] pos) (tOd K .t (.dict [])):=by
 intro pins s σ H Q I ⟨m,_,hb,q⟩
 have hf:H s.heap.objs.size = none:=I.hok.fresh (Nat.le_refl _)
 refine wpAny_Dict_empty ?_
 have I1:Inv X pins σ (upd H s.heap.objs.size (DcO s.heap.objs.size [])) { s with heap:=s.heap.push { cls:=.type "dict",data:=.dict #[] } } :=
  I.laid (t':=s.toks) (fun b u e=>Heap.get?_push_of_some _ e) (Nat.le_refl _) ⟨⟨_,_,_,Heap.get?_push_size _ rfl,rfl,rfl,.nil,.nil⟩,⟨_,Heap.get?_push_size _ rfl⟩,fun h1 h2 hφ hk=>by
   obtain ⟨o',es',n',a1,a2⟩:=hφ
   exact ⟨o',es',n',hk _ a1,a2⟩⟩
 exact ⟨.ref s.heap.objs.size,_,I1,rfl,q _ _ (Grow.new hf _) (.dct (kvs:=[]) (ds:=[]) zd (Yk hb hf) (Nat.ne_of_gt (vY I)) .nil .nil)⟩
end
def tyD:PyData -> String
 | .none=>"NoneType"
 | .bool _=>"bool"
 | .int _=>"int"
 | .str _=>"str"
 | .list _=>"list"
 | .tuple _=>"tuple"
 | .dict _=>"dict"
def TN (K:FG7):List V -> Hp -> VK -> Prop:=fun xs H Q=>∃ x d m T k,xs = [x,.ty T] /\ Od K m H x d /\ PySem.W.kitOne K (.type (tyD d)) (.type T) = some k /\ Q (.bl k) H
theorem yX {X:Cx} {K:FG7} (hK:X.K = K):xm X (.builtin "isinstance") (TN K):=by
 subst hK
 intro pins s σ H xs us Q I r h
 obtain ⟨x,d,m,T,k,rfl,hd,e,q⟩:=h
 cases hd with
 | non=>exact xM pins s σ H _ us Q I r ⟨_,T,_,k,rfl,rfl,e,q⟩
 | bl b=>exact xM pins s σ H _ us Q I r ⟨_,T,_,k,rfl,rfl,e,q⟩
 | int i=>exact xM pins s σ H _ us Q I r ⟨_,T,_,k,rfl,rfl,e,q⟩
 | str y=>exact xM pins s σ H _ us Q I r ⟨_,T,_,k,rfl,rfl,e,q⟩
 | tup hs _=>exact xM pins s σ H _ us Q I r ⟨_,T,_,k,rfl,.inl ⟨rfl,_,hs⟩,e,q⟩
 | lst hs _ _ _=>exact xM pins s σ H _ us Q I r ⟨_,T,_,k,rfl,.inr (.inl ⟨rfl,_,SqL.of hs⟩),e,q⟩
 | @dct a kvs ds hs _ _ _ _ =>
  obtain ⟨u,w',rfl,rx,rt⟩:=rL r
  cases (show w' = Value.type T from rt)
  cases (show u = Value.ref a from rx)
  obtain ⟨o,es,n,e1,e2,_⟩:=DcO.at I hs
  exact PySem.W.kia_one PySem.W.kitx_dict I.kIn ⟨o,e1,e2⟩ e (fun z=>nomatch z) fun tk=>⟨.bl k,H,I.tok _,rfl,q⟩
def intD:PyData -> Bool
 | .int _=>true
 | .bool _=>true
 | _=>false
def TQ:PyData -> Bool
 | .bool _=>true
 | _=>false
def tupD:PyData -> Bool
 | .tuple _=>true
 | _=>false
def yh:PyData -> Bool
 | .int _=>true
 | _=>false
def endD:PyData -> Bool
 | .none=>true
 | .int _=>true
 | _=>false
theorem Yo {K:FG7}:∀ {d:PyData},PySem.W.kitOne K (.type (tyD d)) (.type "int") = some (intD d)
 | .none=>rfl
 | .bool _=>rfl
 | .int _=>rfl
 | .str _=>rfl
 | .list _=>rfl
 | .tuple _=>rfl
 | .dict _=>rfl
theorem vD {K:FG7}:∀ {d:PyData},PySem.W.kitOne K (.type (tyD d)) (.type "bool") = some (TQ d)
 | .none=>rfl
 | .bool _=>rfl
 | .int _=>rfl
 | .str _=>rfl
 | .list _=>rfl
 | .tuple _=>rfl
 | .dict _=>rfl
theorem Yp {K:FG7}:∀ {d:PyData},PySem.W.kitOne K (.type (tyD d)) (.type "tuple") = some (tupD d)
 | .none=>rfl
 | .bool _=>rfl
 | .int _=>rfl
 | .str _=>rfl
 | .list _=>rfl
 | .tuple _=>rfl
 | .dict _=>rfl
theorem Wu {K:FG7} {m:List Addr} {H:Hp} {x:V} {d:PyData} (h:Od K m H x d):(x = .non /\ d = .none) \/ (x ≠ .non /\ d ≠ .none):=by
 cases h with
 | non=>exact .inl ⟨rfl,rfl⟩
 | _=>exact .inr ⟨(fun z=>nomatch z),(fun z=>nomatch z)⟩
def Vm (a:Int):PyData -> PyData -> Bool
 | .int x,.int y=>decide (x < y) || (decide (x = y) && decide (a = 0))
 | _,_=>true
def zN:PyData -> Bool
 | .tuple [.int a,l,h]=>endD l && endD h && Vm a l h
 | _=>false
def zS (K:FG7):Sp:=sp1 fun x H Q=>∃ d m,Od K m H x d /\ Q (.bl (yh d)) H
def uO (K:FG7):Sp:=sp1 fun x H Q=>∃ d m,Od K m H x d /\ Q (.bl (endD d)) H
def wm (K:FG7):Sp:=sp1 fun x H Q=>∃ d m,Od K m H x d /\ Q (.bl (zN d)) H
def vm (K:FG7):Sp:=sp1 fun x H Q=>∃ d m,Od K m H x d /\ ∀ H',Grow [] H H' -> Q (.bl (zN d)) H'
mutual
def leD (B:Int):PyData -> Bool
 | .int i=>decide (-B <= i) && decide (i <= B)
 | .list xs | .tuple xs=>leDs B xs
 | .dict kvs=>leDk B kvs
 | .none | .bool _ | .str _=>true
def leDs (B:Int):List PyData -> Bool
 | []=>true
 | x :: xs=>leD B x && leDs B xs
def leDk (B:Int):List (PyData × PyData) -> Bool
 | []=>true
 | (k,v) :: r=>leD B k && leD B v && leDk B r
end
mutual
def wtO:PyData -> Nat
 | .list xs | .tuple xs=>wtOs xs + 3
 | .dict kvs=>wtOk kvs + 3
 | .int _=>1921
 | .none | .bool _=>5
 | .str x=>(reprText x).length
def wtOs:List PyData -> Nat
 | []=>0
 | x :: xs=>wtO x + 2 + wtOs xs
def wtOk:List (PyData × PyData) -> Nat
 | []=>0
 | (k,v) :: r=>wtO k + wtO v + 4 + wtOk r
end
mutual
theorem leD_mono {B B':Int} (h:B <= B'):∀ {d:PyData},leD B d = true -> leD B' d = true
 | .int i,z=>by
  simp only [leD,Bool.and_eq_true,decide_eq_true_eq] at z ⊢
  omega
 | .list xs,z=>leDs_mono h (xs:=xs) z
 | .tuple xs,z=>leDs_mono h (xs:=xs) z
 | .dict kvs,z=>leDk_mono h (kvs:=kvs) z
 | .none,_=>rfl
 | .bool _,_=>rfl
 | .str _,_=>rfl
theorem leDs_mono {B B':Int} (h:B <= B'):∀ {xs:List PyData},leDs B xs = true -> leDs B' xs = true
 | [],_=>rfl
 | x :: xs,z=>by
  have z':=Bool.and_eq_true_iff.mp (show (leD B x && leDs B xs) = true from z)
  show (leD B' x && leDs B' xs) = true
  rw [leD_mono h z'.1,leDs_mono h z'.2]; rfl
theorem leDk_mono {B B':Int} (h:B <= B'):∀ {kvs:List (PyData × PyData)},leDk B kvs = true -> leDk B' kvs = true
 | [],_=>rfl
 | (k,v) :: r,z=>by
  have z':=Bool.and_eq_true_iff.mp (show (leD B k && leD B v && leDk B r) = true from z)
  have z'':=Bool.and_eq_true_iff.mp z'.1
  show (leD B' k && leD B' v && leDk B' r) = true
  rw [leD_mono h z''.1,leD_mono h z''.2,leDk_mono h z'.2]; rfl
end
theorem yy {B:Int}:∀ {xs:List PyData},leDs B xs = true ↔ ∀ x ∈ xs,leD B x = true
 | []=>by simp [leDs]
 | x :: xs=>by simp [leDs,yy (xs:=xs)]
theorem v6:∀ {xs ys:List PyData},wtOs (xs ++ ys) = wtOs xs + wtOs ys
 | [],ys=>by simp [wtOs]
 | x :: xs,ys=>by
  show wtO x + 2 + wtOs (xs ++ ys) = wtO x + 2 + wtOs xs + wtOs ys
  rw [v6]; omega
theorem sM:∀ {xs:List PyData} (n:Nat),wtOs (xs.take n) <= wtOs xs
 | _,0=>Nat.zero_le _
 | [],_ + 1=>Nat.le_refl _
 | x :: xs,n + 1=>by
  show wtO x + 2 + wtOs (xs.take n) <= wtO x + 2 + wtOs xs
  have:=sM (xs:=xs) n
  omega
theorem sN:∀ {xs:List PyData} (n:Nat),wtOs (xs.drop n) <= wtOs xs
 | _,0=>Nat.le_refl _
 | [],_ + 1=>Nat.le_refl _
 | x :: xs,n + 1=>by
  show wtOs (xs.drop n) <= wtO x + 2 + wtOs xs
  have:=sN (xs:=xs) n
  omega
def Bg:Int:=2 ^ 1000
mutual
theorem showable_le {B:Int} (hB:B <= Bg):∀ {d:PyData},leD B d = true -> d.showable = true
 | .int i,z=>by
  simp only [leD,Bool.and_eq_true,decide_eq_true_eq] at z
  have hb:Bg = 2 ^ 1000:=rfl
  show decide (i.natAbs.log2 < 1920) = true
  refine decide_eq_true ?_
  by_cases h0:i.natAbs = 0
  ·rw [h0]; decide
  ·rw [Nat.log2_lt h0]
   have h1:(i.natAbs:Int) <= Bg:=by omega
   have h2:i.natAbs <= 2 ^ 1000:=by rw [hb] at h1; exact_mod_cast h1
   exact Nat.lt_of_le_of_lt h2 (Nat.pow_lt_pow_right (by decide) (by decide))
 | .list xs,z=>showableAll_le hB (xs:=xs) z
 | .tuple xs,z=>showableAll_le hB (xs:=xs) z
 | .dict kvs,z=>showableKv_le hB (kvs:=kvs) z
 | .none,_=>rfl
 | .bool _,_=>rfl
 | .str _,_=>rfl
theorem showableAll_le {B:Int} (hB:B <= Bg):∀ {xs:List PyData},leDs B xs = true -> PyData.showableAll xs = true
 | [],_=>rfl
 | x :: xs,z=>by
  have z':=Bool.and_eq_true_iff.mp (show (leD B x && leDs B xs) = true from z)
  show (x.showable && PyData.showableAll xs) = true
  rw [showable_le hB z'.1,showableAll_le hB z'.2]; rfl
theorem showableKv_le {B:Int} (hB:B <= Bg):∀ {kvs:List (PyData × PyData)},leDk B kvs = true -> PyData.showableKv kvs = true
 | [],_=>rfl
 | (k,v) :: r,z=>by
  have z':=Bool.and_eq_true_iff.mp (show (leD B k && leD B v && leDk B r) = true from z)
  have z'':=Bool.and_eq_true_iff.mp z'.1
  show (k.showable && v.showable && PyData.showableKv r) = true
  rw [showable_le hB z''.1,showable_le hB z''.2,showableKv_le hB z'.2]; rfl
end
mutual
theorem shown_le:∀ {d:PyData},d.showable = true -> d.shown.length <= wtO d
 | .none,_=>by decide
 | .bool b,_=>by cases b <;> decide
 | .int i,h=>int_text_len_1921 (of_decide_eq_true h)
 | .str x,_=>Nat.le_refl _
 | .list xs,h=>by
  have q:=shown_les (xs:=xs) h
  have l:=listText_len_le (PyData.shownAll xs)
  show (listText (PyData.shownAll xs)).length <= wtOs xs + 3
  omega
 | .tuple xs,h=>by
  have q:=shown_les (xs:=xs) h
  have l:=tupleText_len_le (PyData.shownAll xs)
  show (tupleText (PyData.shownAll xs)).length <= wtOs xs + 3
  omega
 | .dict kvs,h=>by
  have q:=shown_lek (kvs:=kvs) h
  have l:=dictText_len_le (PyData.shownKv kvs)
  show (dictText (PyData.shownKv kvs)).length <= wtOk kvs + 3
  omega
theorem shown_les:∀ {xs:List PyData},PyData.showableAll xs = true -> ((PyData.shownAll xs).map (·.length)).sum + 2 * (PyData.shownAll xs).length <= wtOs xs
 | [],_=>by decide
 | x :: xs,h=>by
  have h':(x.showable && PyData.showableAll xs) = true:=h
  rw [Bool.and_eq_true] at h'
  have q1:=shown_le (d:=x) h'.1
  have q2:=shown_les (xs:=xs) h'.2
  show (((x.shown :: PyData.shownAll xs).map (·.length)).sum + 2 * (x.shown :: PyData.shownAll xs).length) <= wtO x + 2 + wtOs xs
  rw [List.map_cons,List.sum_cons,List.length_cons]
  omega
theorem shown_lek:∀ {kvs:List (PyData × PyData)},PyData.showableKv kvs = true -> ((PyData.shownKv kvs).map (·.length)).sum + 2 * (PyData.shownKv kvs).length <= wtOk kvs
 | [],_=>by decide
 | (k,v) :: r,h=>by
  have h':(k.showable && v.showable && PyData.showableKv r) = true:=h
  rw [Bool.and_eq_true,Bool.and_eq_true] at h'
  have q1:=shown_le (d:=k) h'.1.1
  have q2:=shown_le (d:=v) h'.1.2
  have q3:=shown_lek (kvs:=r) h'.2
  have e:(k.shown ++ ": " ++ v.shown).length = k.shown.length + 2 + v.shown.length:=by
   rw [strLen_append,strLen_append]; rfl
  show ((((k.shown ++ ": " ++ v.shown) :: PyData.shownKv r).map (·.length)).sum + 2 * ((k.shown ++ ": " ++ v.shown) :: PyData.shownKv r).length) <= wtO k + wtO v + 4 + wtOk r
  rw [List.map_cons,List.sum_cons,List.length_cons,e]
  omega
end
structure GdS (n k w:Nat) (ds:List PyData):Prop where
 le:leDs (10 ^ 30 + n) ds = true
 dp:PyData.depthAll ds <= k
 wt:wtOs ds <= w
structure GdD (n k w:Nat) (d:PyData):Prop where
 le:leD (10 ^ 30 + n) d = true
 dp:d.depth <= k
 wt:wtO d <= w
theorem qh {B:Int} {a b:List PyData} (ha:leDs B a = true) (hb:leDs B b = true):leDs B (a ++ b) = true:=yy.mpr fun x hx=>(List.mem_append.mp hx).elim (yy.mp ha x) (yy.mp hb x)
theorem yI {k:Nat}:∀ {xs:List PyData},PyData.depthAll xs <= k ↔ ∀ x ∈ xs,x.depth <= k
 | []=>by simp [PyData.depthAll]
 | x :: xs=>by
  show max x.depth (PyData.depthAll xs) <= k ↔ _
  rw [Nat.max_le,yI (xs:=xs)]
  simp
theorem GdS.append {n k w w':Nat} {a b:List PyData} (ha:GdS n k w a) (hb:GdS n k w' b):GdS n k (w + w') (a ++ b) :=
 ⟨qh ha.le hb.le,yI.mpr fun x hx=>(List.mem_append.mp hx).elim (yI.mp ha.dp x) (yI.mp hb.dp x),by rw [v6]; have:=ha.wt; have:=hb.wt; omega⟩
theorem GdS.sub {n k w:Nat} {a b:List PyData} (ha:GdS n k w a) (h:∀ x ∈ b,x ∈ a) (hw:wtOs b <= wtOs a):GdS n k w b :=
 ⟨yy.mpr fun x hx=>yy.mp ha.le x (h x hx),yI.mpr fun x hx=>yI.mp ha.dp x (h x hx),Nat.le_trans hw ha.wt⟩
theorem GdD.one {n k w:Nat} {d:PyData} (h:GdD n k w d):GdS n k (w + 2) [d]:=⟨by show (leD _ d && true) = true; rw [h.le]; rfl,by show max d.depth 0 <= k; have:=h.dp; omega,by show wtO d + 2 + 0 <= w + 2; have:=h.wt; omega⟩
theorem GdS.tup {n k w:Nat} {ds:List PyData} (h:GdS n k w ds):GdD n (k + 1) (w + 3) (.tuple ds):=⟨h.le,Nat.succ_le_succ h.dp,Nat.add_le_add_right h.wt 3⟩
theorem GdS.lst {n k w:Nat} {ds:List PyData} (h:GdS n k w ds):GdD n (k + 1) (w + 3) (.list ds):=⟨h.le,Nat.succ_le_succ h.dp,Nat.add_le_add_right h.wt 3⟩
theorem GdS.mono {n n' k k' w w':Nat} {ds:List PyData} (h:GdS n k w ds) (h1:n <= n') (h2:k <= k') (h3:w <= w'):GdS n' k' w' ds:=⟨leDs_mono (by omega) h.le,Nat.le_trans h.dp h2,Nat.le_trans h.wt h3⟩
theorem GdD.mono {n n' k k' w w':Nat} {d:PyData} (h:GdD n k w d) (h1:n <= n') (h2:k <= k') (h3:w <= w'):GdD n' k' w' d:=⟨leD_mono (by omega) h.le,Nat.le_trans h.dp h2,Nat.le_trans h.wt h3⟩
theorem TR {n:Nat} (h:n <= 1000000):(10:Int) ^ 30 + n <= Bg:=by
 have h1:(10:Int) ^ 30 + 1000000 <= Bg:=by decide +kernel
 omega
theorem GdD.shows {n k w:Nat} {d:PyData} (h:GdD n k w d) (hn:n <= 1000000) (hk:k <= 60) (hw:w <= 1000000):d.showable = true /\ d.depth <= 60 /\ d.shown.length <= sizeLine:=by
 have s:=showable_le (TR hn) h.le
 refine ⟨s,Nat.le_trans h.dp hk,?_⟩
 have:=shown_le s
 have:=h.wt
 have:(1000000:Nat) <= sizeLine:=by decide
 omega
def cutD (xs:List PyData) (lo hi:Option Int):List PyData:=(xs.drop (HT.sIx xs.length 0 lo)).take (HT.sIx xs.length xs.length hi - HT.sIx xs.length 0 lo)
theorem Ods.cut {K:FG7} {m:List Addr} {H:Hp} {xs:List V} {ds:List PyData} {lo hi:Option Int} (h:Ods K m H xs ds):Ods K m H (cutV xs lo hi) (cutD ds lo hi):=by
 unfold cutV cutD
 rw [h.length]
 exact (h.drop _).take _
theorem GdS.cut {n k w:Nat} {ds:List PyData} {lo hi:Option Int} (h:GdS n k w ds):GdS n k w (cutD ds lo hi):=by
 unfold cutD
 exact h.sub (fun x hx=>List.mem_of_mem_drop (List.mem_of_mem_take hx)) (Nat.le_trans (sM _) (sN _))
def oddL:List PyData:=[.none,.bool true,.bool false,.str "",.str "3",.str "look",.tuple [],.list [],.dict [],.tuple [.int 3],.list [.int 3],.dict [(.int 3,.int 4)],.str "None",.tuple [.str "a",.int 1],.dict [(.int 0,.int 1),(.none,.int 2),(.int 7,.int 3)],.str "012"]
theorem Vn {d:PyData} (h:d ∈ oddL) (n:Nat):GdD n 2 12000 d:=by
 have key:∀ d ∈ oddL,leD 10 d = true /\ d.depth <= 2 /\ wtO d <= 12000:=by
  intro d hd
  simp only [oddL,List.mem_cons,List.not_mem_nil,or_false] at hd
  rcases hd with rfl | rfl | rfl | rfl | rfl | rfl | rfl | rfl | rfl | rfl | rfl | rfl | rfl | rfl | rfl | rfl <;> exact ⟨by decide +kernel,by decide +kernel,by decide +kernel⟩
 obtain ⟨a,b,c⟩:=key d h
 exact ⟨leD_mono (by omega) a,b,c⟩
theorem wa {i:Int} {n:Nat} (h1:-(10 ^ 30) - n <= i) (h2:i <= 10 ^ 30 + n):GdD n 0 1921 (.int i):=⟨by show (decide (-(10 ^ 30 + (n:Int)) <= i) && decide (i <= 10 ^ 30 + (n:Int))) = true; rw [decide_eq_true (by omega),decide_eq_true h2]; rfl,Nat.le_refl _,Nat.le_refl _⟩
theorem wU {d:PyData} (h:zN d = true):∃ a l u,d = .tuple [.int a,l,u] /\ endD l = true /\ endD u = true /\ Vm a l u = true:=by
 unfold zN at h
 split at h
 ·rename_i a l u
  simp only [Bool.and_eq_true] at h
  exact ⟨a,l,u,rfl,h.1.1,h.1.2,h.2⟩
 ·cases h
theorem sO {n k w:Nat} {d:PyData} (h:endD d = true) (g:leD (10 ^ 30 + n) d = true):GdD n 0 1921 d:=by
 cases d with
 | none=>exact ⟨rfl,Nat.le_refl _,by decide⟩
 | int i=>exact ⟨g,Nat.le_refl _,Nat.le_refl _⟩
 | _=>cases h
theorem Yq {n k w:Nat} {a:Int} {l u:PyData} (g:GdD n k w (.tuple [.int a,l,u])) (hl:endD l = true) (hu:endD u = true):GdS n 0 5769 [.int a,l,u]:=by
 have z:=yy.mp (show leDs (10 ^ 30 + n) [.int a,l,u] = true from g.le)
 exact ((sO (k:=k) (w:=w) (d:=.int a) rfl (z _ (by simp))).one.append ((sO (k:=k) (w:=w) hl (z _ (by simp))).one.append (sO (k:=k) (w:=w) hu (z _ (by simp))).one)).mono (Nat.le_refl _) (Nat.le_refl _) (by decide)
def je (K:FG7):Sp:=sp1 fun x H Q=>∃ a,x = .ref a /\ Pot H a /\ ∀ y d H',d ∈ oddL -> Grow [a] H H' -> Pot H' a -> Od K [a] H' y d -> Q y H'
def v8 (K:FG7):Sp:=sp2 fun x y H Q=>∃ a d n k w,x = .ref a /\ Pot H a /\ Od K [a] H y d /\ zN d = true /\ GdD n k w d /\ n <= 100 /\ ∀ z d' H',Grow [a] H H' -> Pot H' a -> Od K [a] H' z d' -> GdD (n + 1) 3 30000 d' -> Q z H'
def dPy (d:Deed):PyData:=.tuple [.int d.add,match d.lo with | none=>.none | some i=>.int i,match d.hi with | none=>.none | some i=>.int i]
theorem UO {K:FG7} {m:List Addr} {H:Hp}:∀ {o:Option Int},Od K m H (ov o) (match o with | none=>.none | some i=>.int i)
 | none=>.non
 | some i=>.int i
theorem Vo {K:FG7} {m:List Addr} {H:Hp} {x:V} {d:Deed} (h:yv K H x d):Od K m H x (dPy d):=by
 obtain ⟨a,rfl,hs⟩:=h
 exact .tup hs (.cons (.int _) (.cons UO (.cons UO .nil)))
theorem Ww {d:Deed} (h:d.Sm):GdD 0 1 5772 (dPy d):=by
 obtain ⟨ad,lo,hi⟩:=d
 obtain ⟨h1,h2,h3⟩:=h
 have h1:L3.Sm ad:=h1
 have key:∀ o:Option Int,(∀ l,o = some l -> L3.Sm l) -> GdD 0 0 1921 (match o with | none=>.none | some i=>.int i):=fun o ho=>by
  cases o with
  | none=>exact ⟨rfl,Nat.le_refl _,by decide⟩
  | some i=>have:=ho i rfl; exact wa (by have:=this.1; omega) (by have:=this.2; omega)
 exact (((wa (n:=0) (i:=ad) (by have:=h1.1; omega) (by have:=h1.2; omega)).one.append ((key lo h2).one.append (key hi h3).one)).tup).mono (Nat.le_refl _) (Nat.le_refl _) (by decide)
section
variable {K:FG7} {m:List Addr} {H:Hp} {x:V}
theorem Od.inv_lst {ds:List PyData} (h:Od K m H x (.list ds)):∃ a xs,x = .ref a /\ H a = some (.lst xs) /\ a ∉ m /\ a ≠ sysModules /\ Ods K m H xs ds:=by
 cases h with
 | lst h1 h2 h3 h4=>exact ⟨_,_,rfl,h1,h2,h3,h4⟩
theorem Od.inv_tup {ds:List PyData} (h:Od K m H x (.tuple ds)):∃ a xs,x = .ref a /\ SqT K H a xs /\ Ods K m H xs ds:=by
 cases h with
 | tup h1 h2=>exact ⟨_,_,rfl,h1,h2⟩
theorem Od.inv_int {i:Int} (h:Od K m H x (.int i)):x = .int i:=by cases h; rfl
theorem Od.inv_non (h:Od K m H x .none):x = .non:=by cases h; rfl
theorem Ods.inv1 {xs:List V} {d:PyData} (h:Ods K m H xs [d]):∃ x,xs = [x] /\ Od K m H x d:=by
 cases h with
 | cons h t=>cases t; exact ⟨_,rfl,h⟩
theorem Ods.inv3 {xs:List V} {d e f:PyData} (h:Ods K m H xs [d,e,f]):∃ x y z,xs = [x,y,z] /\ Od K m H x d /\ Od K m H y e /\ Od K m H z f:=by
 cases h with
 | cons h t =>
  cases t with
  | cons h2 t =>
   obtain ⟨z,rfl,hz⟩:=Ods.inv1 t
   exact ⟨_,_,_,rfl,h,h2,hz⟩
theorem Yr {d:PyData} (h:tupD d = false):zN d = false:=by
 cases d with
 | tuple _=>cases h
 | _=>rfl
theorem sP {ds:List PyData} (h:ds.length ≠ 3):zN (.tuple ds) = false:=by
 cases e:zN (.tuple ds) with
 | false=>rfl
 | true=>obtain ⟨a,l,u,e2,_⟩:=wU e; cases e2; exact absurd rfl h
theorem jf {a l u:PyData} (h:yh a = false):zN (.tuple [a,l,u]) = false:=by
 cases a with
 | int _=>cases h
 | _=>rfl
theorem sQ {a:Int} {l u:PyData}:zN (.tuple [.int a,l,u]) = (endD l && endD u && Vm a l u):=rfl
theorem wG {a:Addr} (pp:Pot H a):∀ b ∈ [a],H b ≠ none:=fun b hb z=>by
 obtain ⟨u0,u1,hu,_⟩:=pp
 rw [List.mem_singleton.mp hb,hu] at z; cases z
end
theorem jg {X:Cx} {st:List Stmt}:PSs X st (fun _ _ _=>False):=fun _ _ _ _ _ _ h=>h.elim
section
variable {X:Cx}
theorem jS:MtR X "str.isdigit" (fun x xs H Q=>∃ z,x = .str z /\ xs = [] /\ Q (.bl (Txt.isdigit z)) H):=by
 intro pins s σ H x xs v us Q I rx r h
 obtain ⟨z,rfl,rfl,q⟩:=h
 obtain ⟨t,rfl⟩:=rx
 cases r
 exact SC.isdigit ⟨.bl _,H,I,rfl,q⟩
theorem jT:MtR X "str.isascii" (fun x xs H Q=>∃ z,x = .str z /\ xs = [] /\ Q (.bl (Txt.isascii z)) H):=by
 intro pins s σ H x xs v us Q I rx r h
 obtain ⟨z,rfl,rfl,q⟩:=h
 obtain ⟨t,rfl⟩:=rx
 cases r
 exact SC.isascii ⟨.bl _,H,I,rfl,q⟩
theorem v9:MtR X "str.removeprefix" (fun x xs H Q=>∃ z y,x = .str z /\ xs = [.str y] /\ z.length <= sizeLine /\ Q (.str (Txt.removeprefix z y)) H):=by
 intro pins s σ H x xs v us Q I rx r h
 obtain ⟨z,y,rfl,rfl,hz,q⟩:=h
 obtain ⟨t,rfl⟩:=rx
 obtain ⟨u,rfl,t',rfl⟩:=wd r
 exact SC.removeprefix (fun t' k=>⟨.str _,H,I.kept (t':=k) fun b o e=>e,⟨t',rfl⟩,q⟩) hz
theorem sR:∀ {ts:List Str} {us:List Value},Vals (ts.map V.str) us -> ∃ l:List (Str × Tok),l.map (·.1) = ts /\ strValues l = us
 | [],_,.nil=>⟨[],rfl,rfl⟩
 | a :: ts,_,.cons r rr=>by
  obtain ⟨t,rfl⟩:=r
  obtain ⟨l,h1,h2⟩:=sR rr
  exact ⟨(a,t) :: l,by rw [List.map_cons,h1],by rw [← h2]; rfl⟩
theorem sS:∀ {l:List (Str × Tok)},Vals ((l.map (·.1)).map V.str) (strValues l)
 | []=>.nil
 | _ :: _=>.cons ⟨_,rfl⟩ sS
theorem qi:MtR X "str.join" (fun x xs H Q=>∃ z a ts,x = .str z /\ xs = [.ref a] /\ SqL X.K H a (ts.map V.str) /\ JoinOk z ts = true /\ Q (.str (Str.join z ts)) H):=by
 intro pins s σ H x xs v us Q I rx r h
 obtain ⟨z,a,ts,rfl,rfl,hx,ok,q⟩:=h
 obtain ⟨t,rfl⟩:=rx
 obtain ⟨u,rfl,ru⟩:=wd r
 cases (show u = Value.ref a from ru)
 obtain ⟨its,rr,pl,hz⟩:=I.list hx
 obtain ⟨l,h1,rfl⟩:=sR rr
 exact SC.join pl.isList h1 ok fun t' k=>⟨.str _,H,I.kept (t':=k) fun b o e=>e,⟨t',by rw [← StrLaws.glued_eq_join]; rfl⟩,q⟩
theorem XA:MtR X "str.split" (fun x xs H Q=>∃ z y,x = .str z /\ xs = [.str y] /\ (y.length == 0) = false /\ z.length <= sizeLine /\ (Txt.split z y).length <= sizeLine /\ ∀ p,H p = none -> Q (.ref p) (upd H p (.lst ((Txt.split z y).map V.str)))):=by
 intro pins s σ H x xs v us Q I rx r h
 obtain ⟨z,y,rfl,rfl,hy,hz,hn,q⟩:=h
 obtain ⟨t,rfl⟩:=rx
 obtain ⟨u,rfl,t',rfl⟩:=wd r
 have fin:∀ (l:List (Str × Tok)) (m k:Nat),l.map (·.1) = Txt.split z y -> EP X pins σ Q (.ref s.heap.objs.size) { s with heap:=s.heap.push { cls:=.type "list",data:=.seq (strValues l).toArray m },toks:=k }:=by
  intro l m k hl
  refine ⟨.ref s.heap.objs.size,_,I.laid (t':=k) (o:=.lst ((Txt.split z y).map V.str)) (fun b ob e=>Heap.get?_push_of_some _ e) (Nat.le_refl _) ?_,rfl,q _ (I.hok.fresh (Nat.le_refl _))⟩
  exact ⟨by rw [List.length_map]; exact hn,_,m,by rw [← hl]; exact sS,Heap.get?_push_size _ rfl⟩
 cases h1:(decide (z.length < y.length) || decide (Builtin.Str.strKind z < Builtin.Str.strKind y))
 ·cases hf:(Builtin.Str.occurrences z y 0 z.length (z.length + 1)).isEmpty
  ·have e:Txt.split z y = Builtin.Str.partsBetween z (Builtin.Str.occurrences z y 0 z.length (z.length + 1)) y.length:=(if_neg (ne_true_of_eq_false h1)).trans (if_neg (ne_true_of_eq_false hf))
   refine call_meets F.slot_str_split (typeIs_str _ _ _) F.entry_str_split (F.args_str_split_2 _ _) (meets_str_split_sep z y t t' h1 hy hf hz (by rw [← e]; exact hn)) ?_
   show EP X pins σ Q _ { s with toks:=_,heap:=s.heap.push { cls:=.type "list",data:=.seq (strsFrom s.toks (Builtin.Str.partsBetween z (Builtin.Str.occurrences z y 0 z.length (z.length + 1)) y.length)).toArray } }
   rw [strsFrom_eq]
   exact fin (numbered s.toks _) _ _ ((numbered_texts _ _).trans e.symm)
  ·exact call_meets F.slot_str_split (typeIs_str _ _ _) F.entry_str_split (F.args_str_split_2 _ _) (meets_str_split_not_found z y t t' h1 hy hf)
    (fin [(z,t)] _ _ ((if_neg (ne_true_of_eq_false h1)).trans (if_pos hf)).symm)
 ·exact call_meets F.slot_str_split (typeIs_str _ _ _) F.entry_str_split (F.args_str_split_2 _ _) (meets_str_split_cannot_occur z y t t' h1)
   (fin [(z,t)] _ _ (if_pos h1).symm)
theorem UP:SlR X (fun x lo hi H Q=>∃ z,x = .str z /\ z.length <= sizeLine /\ Q (.str (Txt.slice z lo hi)) H):=by
 intro pins s σ H x v vl vu lo hi sl Q I rx hs pl pu h
 obtain ⟨z,rfl,hz,q⟩:=h
 obtain ⟨t,rfl⟩:=rx
 refine ⟨"str",_,F.slot_str_getitem.lookup,typeIs_str _ _ _,?_⟩
 have fin:∀ t' k,EP X pins σ Q (.str (Txt.slice z lo hi) t') { s with toks:=k }:=fun t' k=>⟨.str _,H,I.kept (t':=k) fun b o e=>e,⟨t',rfl⟩,q⟩
 have ok:(Txt.slice z lo hi).length <= sizeLine:=Nat.le_trans (Txt.slice_le z _ _) hz
 cases pl with
 | none =>
  cases pu with
  | none=>exact wpAny_getItem_str_slice (l:=none) (u:=none) (st:=none) hs rfl (post_val_or_str ⟨ok,fin⟩)
  | int j uj=>exact wpAny_getItem_str_slice (l:=none) (u:=some (j,uj)) (st:=none) hs rfl (post_val_or_str ⟨ok,fin⟩)
 | int i ui =>
  cases pu with
  | none=>exact wpAny_getItem_str_slice (l:=some (i,ui)) (u:=none) (st:=none) hs rfl (post_val_or_str ⟨ok,fin⟩)
  | int j uj=>exact wpAny_getItem_str_slice (l:=some (i,ui)) (u:=some (j,uj)) (st:=none) hs rfl (post_val_or_str ⟨ok,fin⟩)
theorem Ys:xm X (.type "int") (fun xs H Q=>∃ z n,xs = [.str z] /\ PySem.intText? z = some n /\ z.length <= 640 /\ Q (.int n) H):=by
 intro pins s σ H xs us Q I r h
 obtain ⟨z,n,rfl,hn,hz,q⟩:=h
 obtain ⟨u,rfl,t,rfl⟩:=wd r
 exact PySem.W.KIN.call_text hn hz ⟨.int n,H,I.tok _,⟨_,rfl⟩,q⟩
end
def It0:It:=⟨fun _ _=>False,fun _ _ _ _=>False,fun _ _=>True⟩
theorem qj {P:Program} {w:World} {K:FG7} {tg:Expr} (it:Addr) (n d:Nat):Turn P w K tg It0 [it] it (fun _ h=>IsRangeIter h it (n:Int) 0 d) where
 mem:=by simp
 obj:=fun i h st b hb=>by
  obtain rfl:b = it:=by simpa using hb
  refine ⟨_,st,fun v z=>?_⟩
  have z':Data.fields _ = Data.cell v:=z
  cases z'
 keep:=fun i h h' st k=>k it (by simp) _ st
 item:=by
  intro X hP hw hK hc i pins s σ H E I hf st hg
  exact absurd hg (fun z=>z)
 done:=by
  intro X hP hw hK hc i pins s σ H E I hf st hg
  subst hP hw hK
  obtain ⟨f0,f1,f2,f3,f4,f5⟩:=hf it (by simp)
  exact wpAny_pyNext_range_end (I.ok.hd hc) st (by omega) fun h' eb=>⟨rfl,I.turned (t':=s.toks) (fun b o hb e=>eb b o hb e) f0 f1 f3 f4 f5⟩
 self:=fun _ _ _ _ _ st h=>wpAny_pyIter_rangeiter st h
theorem UQ {n d:Nat} (h:0 < (d:Int)):Builtin.Range.rangeSize (n:Int) (n:Int) (d:Int) = 0:=by
 unfold Builtin.Range.rangeSize
 rw [if_pos h]
 split
 ·omega
 ·rfl
theorem UR {n d:Nat} (h1:n <= 1000) (h2:0 < (d:Int)) (h3:(d:Int) <= 1000):Builtin.Range.small (n:Int) (n:Int) (d:Int) = true:=by
 unfold Builtin.Range.small
 rw [UQ h2]
 simp only [Builtin.Range.rangeFitsLong,Bool.and_eq_true,Bool.or_eq_true,decide_eq_true_eq,beq_iff_eq,h2,if_true]
 omega
def TU (ta:TA):TI:=fun σ H R=>ta σ H fun vs H1=>∃ n d:Nat,vs = [.int n,.int n,.int d] /\ n <= 1000 /\ 0 < (d:Int) /\ (d:Int) <= 1000 /\ R It0 H1
section
variable {X:Cx}
theorem Yt {tg a b c:Expr} {ta:TA} {p pos:Pos} (hg:Gl X "range") (hm:X.mg "range" = none) (ha:PA X [a,b,c] ta)
  (hs:starEach [a,b,c] X.env = [(false,eval a X.env),(false,eval b X.env),(false,eval c X.env)]:=by rfl) (hs2:starEach [b,c] X.env = [(false,eval b X.env),(false,eval c X.env)]:=by rfl) :
  PI X tg (.Call (.Name "range" p) [a,b,c] [] pos) (TU ta):=by
 intro pins s σ H R I h
 refine Call_ (vg I hg hm boot_range (PyProof.Rows.callWith_type1 (thn (ha pos pins s σ H _ I h) fun us s1 ⟨vs,H1,I1,r1,q1⟩=>?_) (by rw [hs,hs2]) (by rw [hs2]; rfl)))
 obtain ⟨n,d,e,n1,d1,d2,q⟩:=q1
 subst e
 cases r1 with
 | cons r rr =>
  cases rr with
  | cons r' rr =>
   cases rr with
   | cons r'' rr =>
    cases rr
    obtain ⟨t,rfl⟩:=r
    obtain ⟨t',rfl⟩:=r'
    obtain ⟨t'',rfl⟩:=r''
    refine call_range_3 (by simpa using Int.ne_of_gt d1) ?_ (Or.inl (PyProof.noPylong_small (by omega)))
    refine wpAny_pyIter_range (IsRange.new ..) (UR n1 d1 d2) ?_
    have I2:Inv X pins σ H1 { s1 with heap:=s1.heap.push { cls:=.type "range",data:=.fields #[.int (n:Int) t,.int (n:Int) t',.int (d:Int) t''] },toks:=s1.toks }:=I1.kept fun b o e=>Heap.get?_push_of_some _ e
    refine ⟨(s1.heap.push { cls:=.type "range",data:=.fields #[.int (n:Int) t,.int (n:Int) t',.int (d:Int) t''] }).objs.size,[(s1.heap.push { cls:=.type "range",data:=.fields #[.int (n:Int) t,.int (n:Int) t',.int (d:Int) t''] }).objs.size],_,_,H1,rfl,
     I2.kept (t':=s1.toks) fun b o e=>Heap.get?_push_of_some _ e,qj _ n d,?_,fun b hb=>?_,q⟩
    ·show IsRangeIter _ _ (n:Int) 0 d
     have:=UQ (n:=n) d1
     rw [← this]
     exact Heap.get?_push_size _ rfl
    ·obtain rfl:b = (s1.heap.push { cls:=.type "range",data:=.fields #[.int (n:Int) t,.int (n:Int) t',.int (d:Int) t''] }).objs.size:=by simpa using hb
     exact I2.fpOk (Nat.le_refl _) (I2.hok.fresh (Nat.le_refl _))
end
theorem qk:typeLookup (.type "zip") "keys" = pure none:=by rw [typeLookup_type,builtinLookup_eq_fast]; kernel_rfl
theorem wn:typeLookup (.type "zip") "__getattr__" = pure none:=by rw [typeLookup_type,builtinLookup_eq_fast]; kernel_rfl
theorem sT:entryFor table "zip.__getattribute__" = some Builtin.«object.__getattribute__»:=entryFor_alias (id':="object.__getattribute__") (by kernel_rfl) (by decide +kernel) (by decide +kernel) (by kernel_rfl)
theorem uP:entryFor table "dict.update.loop" = some Builtin.«dict.update.loop»:=entryFor_of_tree (by kernel_rfl)
theorem xS:plainId "dict.update.loop" = true:=by decide +kernel
section
variable {prog:Program} {w:World} {A:Around} {E:VS7}
theorem ql (a:Addr) (u:Tok):MeetsIn prog w (Builtin.«object.__getattribute__» ⟨[.ref a,.str "keys" u],[]⟩)
  (fun A R s=>A.handled = none /\ (∃ d,s.heap.get? a = some { cls:=.type "zip",data:=.fields d }) /\ ∀ h' tk e,Heap.NewAttrErr s.heap h' e (.ref a) "keys" -> R (.error (.ref e)) { s with heap:=h',toks:=tk }) :=
 .of_wp fun A R s ⟨hh,⟨d,hx⟩,hR⟩=>by
  obtain ⟨h,g,dr,t,os⟩:=s
  have hT:(⟨h,g,dr,t,os⟩:Shared).TypeIs (.ref a) "zip":=⟨_,hx,rfl⟩
  have f4:=qk
  unfold Builtin.«object.__getattribute__»
  repeat (any_goals (first | assumption | wp_step))
  exact wpAny_raiseAttrError hh hR (attrMsg_fits (by decide +kernel) (by size_fits))
theorem tD {s:Shared} {a:Addr} {dt:Array Value} {Q:Option Value -> Shared -> Prop} (hx:s.heap.get? a = some { cls:=.type "zip",data:=.fields dt }) (hA:A.handled = none)
  (hq:∀ h' tk,(∀ b o,s.heap.get? b = some o -> h'.get? b = some o) -> Q none { s with heap:=h',toks:=tk }) :
  wpAny (model prog w) A (getAttr? (.ref a) "keys") Q E s:=by
 obtain ⟨h,g,d,t,os⟩:=s
 have hT:∀ t',(⟨h,g,d,t',os⟩:Shared).TypeIs (.ref a) "zip":=fun _=>⟨_,hx,rfl⟩
 have f1:=sub_AttributeError
 have f3:=F.slot_zip_getattribute.lookup
 have f4:=F.slot_zip_getattribute.bind (.ref a)
 have f5:=wn
 unfold getAttr? getAttrBy? getAttrBy
 repeat (any_goals (first | assumption | exact hT _ | ((with_reducible show wpAny _ _ (call (Value.builtin "zip.__getattribute__") _ _) _ _ _); refine call_meetsIn F.slot_zip_getattribute (hT _) sT (F.args_zip_getattribute_2 _ _) (ql a _) ⟨hA,⟨_,hx⟩,fun h' tk' e hxx=>?_⟩) | wp_step))
 obtain ⟨t',u',he⟩:=hxx.there
 show wpAny _ _ (getattributeRaised _ _ _ _ _ _ _) _ _ _
 unfold getattributeRaised
 have hE:∀ t2,(⟨h',g,d,t2,os⟩:Shared).TypeIs (.ref e) "AttributeError":=fun _=>⟨_,he,rfl⟩
 repeat (any_goals (first | assumption | exact hE _ | wp_step))
 exact hq _ _ hxx.keeps
end
def yi (ks:List Str) (zs:List V):List (Key × V):=(ks.zip zs).foldl (fun d p=>putK d (Sum.inr p.1) p.2) []
theorem sU (ks:List Str) (zs:List V):(yi ks zs).length <= ks.length:=by
 have go:∀ (ps:List (Str × V)) (d:List (Key × V)),(ps.foldl (fun d p=>putK d (Sum.inr p.1) p.2) d).length <= d.length + ps.length:=by
  intro ps
  induction ps with
  | nil=>intro d; exact Nat.le_refl _
  | cons p ps ih =>
   intro d
   have h1:=ih (putK d (Sum.inr p.1) p.2)
   have h2:=qd d (Sum.inr p.1) p.2
   rw [List.foldl_cons,List.length_cons]
   omega
 have:=go (ks.zip zs) []
 have h2:(ks.zip zs).length <= ks.length:=by rw [List.length_zip]; exact Nat.min_le_left _ _
 rw [List.length_nil,Nat.zero_add] at this
 exact Nat.le_trans this h2
theorem jU {ks:List Str} {zs:List V} {i:Nat} {k:Str} {y:V} (h1:ks[i]? = some k) (h2:zs[i]? = some y):yi (ks.take (i + 1)) (zs.take (i + 1)) = putK (yi (ks.take i) (zs.take i)) (Sum.inr k) y:=by
 have l1:=(List.getElem?_eq_some_iff.mp h1).1
 have l2:=(List.getElem?_eq_some_iff.mp h2).1
 unfold yi
 rw [List.take_succ,h1,List.take_succ,h2,Option.toList_some,Option.toList_some,List.zip_append (by rw [List.length_take,List.length_take]; omega),List.foldl_append]
 rfl
structure WkE (prog:Program) (w:World) (A:Around) (T:String) (I:Addr) (n:Nat) (S:Addr) (J:List Value -> Shared -> Prop) (Fn:List Value -> Shared -> Prop):Prop where
 self:∀ (B:Around) acc s (Q:VS7) (E:VS7),J acc s -> Q (.ref I) s -> wpAny (model prog w) B (pyIter (.ref I)) Q E s
 stay:∀ acc s (ob:Obj) (h':Heap) (tk:Nat),J acc s -> s.heap.get? S = some ob -> (∀ v,ob.data ≠ .cell v) -> (∀ b o,b ≠ S -> s.heap.get? b = some o -> h'.get? b = some o) -> J acc { s with heap:=h',toks:=tk }
 next:∀ acc s (ob:Obj) (Q:Option Value -> Shared -> Prop) (E:VS7),J acc s -> s.heap.get? S = some ob -> (∀ v,ob.data ≠ .cell v) →
  (∀ v s',acc.length < n -> J (acc ++ [v]) s' -> s'.heap.get? S = some ob -> Q (some v) s') -> (∀ s',Fn acc s' -> s'.heap.get? S = some ob -> Q none s') -> wpAny (model prog w) A (pyNext (.ref I)) Q E s
section
variable {X:Cx} {pins:List (Addr × Obj)} {σ:L2.St} {fp:List Addr} {it:Addr} {tn:Nat -> Heap -> Prop} {Jt:It} {nm:Str} {pt:Pos} {cls:String} {H0:Hp} {S0:Addr} {n:Nat}
theorem XB (hc:X.calm = true) (T:Turn X.prog X.w X.K (.Name nm pt) Jt fp it tn) (f2:∀ b ∈ fp,FpOk X pins H0 b) (fS:FpOk X pins H0 S0) (hfS:∀ b ∈ fp,b ≠ S0)
  (Wv:Nat -> List V -> Hp -> Prop) (step:∀ i ys H,Wv i ys H -> (Jt.go i H /\ i < n /\ ∀ x H',Jt.yld i H x H' -> Wv (i + 1) (ys ++ [x]) H') \/ Jt.stop i H) :
  WkE X.prog X.w X.A.in1.in1 cls it n S0 (WkJ X pins σ fp tn S0 Wv) (WkF X pins σ S0 Jt Wv) where
 self:=fun B acc s Q E ⟨_,_,_,st,_⟩ q=>T.self _ _ _ _ _ st q
 stay:=fun acc s ob h' tk j hob hl hk=>by
  obtain ⟨H',ys,I,st,fr,hn,rv,w⟩:=j
  refine ⟨H',ys,I.turned (it:=S0) (t':=tk) (fun b o hb e=>hk b o hb e) hn fS.2.1 fS.2.2.2.1 fS.2.2.2.2.1 fS.2.2.2.2.2,T.keep _ _ _ st fun b hb o e=>hk b o (hfS b hb) e,fr,hn,rv,w⟩
 next:=fun acc s ob Q E j hob hl hsome hnone=>by
  obtain ⟨H',ys,I,st,fr,hn,rv,w⟩:=j
  have pS:Inv (in2 X) (pins ++ [(S0,ob)]) σ H' s:=(Vg I).pins_of fun p hp=>by
   rcases List.mem_append.mp hp with hp | hp
   ·exact I.pin p (List.mem_append_right _ hp)
   ·rw [List.mem_singleton.mp hp]
    exact ⟨hob,hn,fS.2.1,fS.2.2.1,hl⟩
  have fpok:∀ b ∈ fp,FpOk (in2 X) (pins ++ [(S0,ob)]) H' b:=fun b hb=>by
   obtain ⟨_,z2,z3,z4,z5,z6⟩:=f2 b hb
   refine ⟨fr b hb,z2,z3,z4,z5,fun p hp=>?_⟩
   rcases List.mem_append.mp hp with hp | hp
   ·exact z6 p (List.mem_append_left _ hp)
   ·rcases List.mem_append.mp hp with hp | hp
    ·exact z6 p (List.mem_append_right _ hp)
    ·rw [List.mem_singleton.mp hp]; exact (hfS b hb).symm
  rcases step _ _ _ w with ⟨go,hlt,yl⟩ | stop
  ·refine UB (T.item (in2 X) rfl rfl rfl hc acc.length (pins ++ [(S0,ob)]) s σ H' E pS fpok st go) fun u s1 ⟨x,H2,I2,rx,y,st2,fr2⟩=>?_
   have p:=I2.pin (S0,ob) (by simp)
   refine hsome u s1 hlt ⟨H2,ys ++ [x],(q8 I2).unpinned,?_,fr2,p.2.1,rv.append (.cons rx .nil),?_⟩ p.1
   ·rw [List.length_append]; exact st2
   ·rw [List.length_append]; exact yl x H2 y
  ·refine thn (T.done (in2 X) rfl rfl rfl hc acc.length (pins ++ [(S0,ob)]) s σ H' E pS fpok st stop) fun r s1 ⟨hr,I2⟩=>?_
   subst hr
   exact hnone s1 ⟨H',ys,(q8 I2).unpinned,hn,rv,w,stop⟩ (I2.pin (S0,ob) (by simp)).1
end
section
variable {prog:Program} {w:World} {A:Around} {R:Result -> Shared -> Prop} {T:String} {I D:Addr} {n:Nat} {J Fn:List Value -> Shared -> Prop}
theorem jV {ks:List Str} {zs:List V} (W:WkE prog w A.in1 T I n D J Fn) (hn:n <= sizeLine)
  (hJ:∀ acc v s',J (acc ++ [v]) s' -> acc.length < n -> ∃ t k y u tk ot m,v = .ref t /\ t ≠ D /\ s'.heap.get? t = some ot /\ ot.cls = .type "tuple" /\ ot.data = .seq #[.str k tk,u] m /\ ks[acc.length]? = some k /\ zs[acc.length]? = some y /\ RelV y u) :
  ∀ (m:Nat) (s:Shared) (acc:List Value),n - acc.length = m -> acc.length <= n -> J acc s -> (∃ vs,KV (yi (ks.take acc.length) (zs.take acc.length)) vs /\ s.heap.DictOf (zO prog w) D vs) →
  (∀ s' acc' vs,Fn acc' s' -> acc'.length <= n -> KV (yi (ks.take acc'.length) (zs.take acc'.length)) vs -> s'.heap.DictOf (zO prog w) D vs -> R (.ok (.ret .none)) s') →
  codeAny (model prog w) A (.builtin "dict.update.loop" ⟨[.ref D,.ref I,rawInt acc.length,.none],[]⟩) R s:=by
 intro m
 induction m with
 | zero =>
  intro s acc hm hi hj hS hR
  obtain ⟨vs,rel,o,es,ep,ho,hx,hd,rest⟩:=hS
  refine codeAny_builtin uP ?_
  rw [Around.under_plainId xS _]
  show wpAny _ A.in1 (pyNext (.ref I) >>= _) _ _ s
  refine wpAny_bind (W.next acc s o _ _ hj ho (fun v z=>by rw [hd] at z; cases z) (fun v s' hl=>by omega) fun s' hf hS'=>?_)
  show wpAny _ A.in1 (Builtin.Dict.addKeywords D [] >>= fun _=>ret Value.none) _ _ _
  unfold Builtin.Dict.addKeywords
  exact wpAny_bind (wpAny_pure (wpAny_pure (hR s' acc vs hf hi rel ⟨o,es,ep,hS',hx,hd,rest⟩)))
 | succ m ih =>
  intro s acc hm hi hj hS hR
  obtain ⟨vs,rel,o,es,ep,ho,hx,hd,rest⟩:=hS
  refine codeAny_builtin uP ?_
  rw [Around.under_plainId xS _]
  show wpAny _ A.in1 (pyNext (.ref I) >>= _) _ _ s
  refine wpAny_bind (W.next acc s o _ _ hj ho (fun v z=>by rw [hd] at z; cases z) (fun v s' hl hj' hS'=>?_) fun s' hf hS'=>?_)
  ·obtain ⟨t,k,y,u,tk,ot,mm,rfl,htD,hot,hct,hdt,hk,hy,ry⟩:=hJ acc v s' hj' hl
   have dd:s'.heap.DictOf (zO prog w) D vs:=⟨o,es,ep,hS',hx,hd,rest⟩
   refine wpAny_bind (wpAny_holding ?_)
   show wpAny _ A.in1 ((Builtin.Dict.pairItems (.ref t)).tryCatch _ >>= _) _ _ _
   refine wpAny_bind (wpAny_tryCatch ?_)
   unfold Builtin.Dict.pairItems
   refine wpAny_bind (wpAny_typeOf (T:="tuple") ⟨ot,hot,hct⟩ ?_)
   show wpAny _ _ (if (Value.type "tuple" == Value.type "list" || Value.type "tuple" == Value.type "tuple") = true then _ else _) _ _ _
   rw [if_pos (by decide)]
   refine wpAny_bind (wpAny_seqItems hot hdt (wpAny_pure ?_))
   show wpAny _ _ (holding [Value.str k tk,u] (dictSet D (.str k tk) u)) _ _ _
   refine wpAny_holding ?_
   have hl2:=rel.length
   have hl3:=sU (ks.take acc.length) (zs.take acc.length)
   have hl4:(ks.take acc.length).length <= acc.length:=by rw [List.length_take]; exact Nat.min_le_left _ _
   refine wpAny_dictSet_pairs (knd:=zO prog w) (k:=Sum.inr k) (hsz:=by omega) (Xt (k:=Sum.inr k) ⟨tk,rfl⟩) dd fun h2 dd2 sb=>?_
   refine wpAny_pure ⟨plainId_quiet xS _,?_⟩
   have el:(acc ++ [Value.ref t]).length = acc.length + 1:=by rw [List.length_append]; rfl
   have e1:((acc.length:Int) + 1) = (((acc ++ [Value.ref t]).length:Nat):Int):=by rw [el]; omega
   show codeAny (model prog w) A (.builtin "dict.update.loop" ⟨[.ref D,.ref I,rawInt ((acc.length:Int) + 1),.none],[]⟩) R _
   rw [e1]
   refine ih _ (acc ++ [Value.ref t]) (by rw [el]; omega) (by rw [el]; omega) (W.stay _ s' o _ _ hj' hS' (fun v z=>by rw [hd] at z; cases z) fun b o hb e=>sb.extBut b o hb e) ⟨_,?_,dd2⟩ hR
   rw [el,jU hk hy]
   exact rel.put _ ry
  ·show wpAny _ A.in1 (Builtin.Dict.addKeywords D [] >>= fun _=>ret Value.none) _ _ _
   unfold Builtin.Dict.addKeywords
   exact wpAny_bind (wpAny_pure (wpAny_pure (hR s' acc vs hf hi rel ⟨o,es,ep,hS',hx,hd,rest⟩)))
end
theorem sV:∀ {zs:List V} {us:List Value} {i:Nat} {u:Value},Vals zs us -> us[i]? = some u -> ∃ z,zs[i]? = some z /\ RelV z u
 | _,_,_,_,.nil,h=>by cases h
 | _,_,0,_,.cons r _,h=>by cases h; exact ⟨_,rfl,r⟩
 | _,_,i + 1,_,.cons _ t,h=>sV (i:=i) t h
section
variable {X:Cx} {K:FG7} {a b:Expr} {ta:TA} {p p2 pos pos2:Pos}
def XC (K:FG7) (ta:TA):TE:=fun σ H Q=>ta σ H fun vs H1=>∃ (a b:Addr) (ks:List Str) (zs:List V),vs = [.ref a,.ref b] /\ SqL K H1 a (ks.map V.str) /\ SqL K H1 b zs /\ ks.length = zs.length /\ ks.length <= 1000 ∧
 ∀ (r:Addr) (H':Hp),Grow [] H1 H' -> H1 r = none -> H' r = some (.dK (yi ks zs)) -> Q (.ref r) H'
theorem jW (hK:X.K = K) (hc:X.calm = true) (hh:X.A.handled = none) (hgl:Gl X "dict") (hml:X.mg "dict" = none) (hge:Gl X "zip") (hme:X.mg "zip" = none) (ha:PA X [a,b] ta)
    (hs:starEach [a,b] X.env = [(false,eval a X.env),(false,eval b X.env)]:=by rfl) (hs3:starEach [b] X.env = [(false,eval b X.env)]:=by rfl) (hs2:starEach [(.Call (.Name "zip" p2) [a,b] [] pos2:Expr)] X.env = [(false,eval (.Call (.Name "zip" p2) [a,b] [] pos2) X.env)]:=by rfl) :
    PE X (.Call (.Name "dict" p) [.Call (.Name "zip" p2) [a,b] [] pos2] [] pos) (XC K ta):=by
  subst hK
  intro pins s σ H Q I h
  refine wpAny_Call_Name_kw (vg I hgl hml Ud (PyProof.Rows.callWith_type1 ?_ hs2 rfl))
  rw [hs2]
  show wpAny _ _ (spliced [(false,eval (.Call (.Name "zip" p2) [a,b] [] pos2) X.env)]) _ _ s
  refine Calls.spliced_cons ?_
  refine Call_ (vg I hge hme TB (PyProof.Rows.callWith_type1 (thn (ha pos2 pins s σ H _ I h) fun us s1 ⟨vs,H1,I1,r1,q1⟩=>?_) (by rw [hs,hs3]) (by rw [hs3]; rfl)))
  obtain ⟨ra,rb,ks,zs,e,hqa,hqb,hxy,hlen,q⟩:=q1
  subst e
  obtain ⟨u,w',rfl,e1,e2⟩:=rL r1
  cases (show u = Value.ref ra from e1)
  cases (show w' = Value.ref rb from e2)
  have hqa':SqC false X.K H1 ra (ks.map V.str):=hqa
  have hqb':SqC false X.K H1 rb zs:=hqb
  obtain ⟨ia,va,pa⟩:=xR I1 hqa'
  obtain ⟨ib,vb,pb⟩:=xR I1 hqb'
  refine ZW pa.src pb.src fun h' hz hI hO h1 h2 hk=>Calls.spliced_nil ?_
  have I2:Inv X pins σ H1 { s1 with heap:=h' }:=I1.kept (t':=s1.toks) hk
  have ez:s1.heap.objs.size + 4 < h'.objs.size:=Heap.lt_size hz
  have T:=Z9 (P:=X.prog) (w:=X.w) (K:=X.K) (nm:="x") (pt:=pos) false false ra rb s1.heap.objs.size pa.lt pb.lt
  refine callType_codes (Q₁:=fun obj s₁=>obj = .ref h'.objs.size /\ s₁ = { { s1 with heap:=h' } with heap:=h'.push { cls:=.type "dict",data:=.dict #[] } }) F.kt_called_dict (F.kt_typeCall_dict_1 _) F.entry_dict_init (kt_code_dict_new _ ⟨rfl,rfl⟩) ?_
  rintro obj s₁ ⟨rfl,rfl⟩
  have hT:(h'.push { cls:=.type "dict",data:=.dict #[] }).get? h'.objs.size = some { cls:=.type "dict",data:=.dict #[] }:=Heap.get?_push_size _ rfl
  refine ⟨⟨_,hT,rfl⟩,F.args_dict_init_2 _ _,?_⟩
  unfold Builtin.«dict.__init__»
  refine wpAny_bind ?_
  unfold Builtin.Dict.selfAndRest
  refine wpAny_bind (wpAny_notOrdered_dict ⟨_,hT,rfl⟩ (show wpAny _ _ (pure (h'.objs.size,[Value.ref (s1.heap.objs.size + 4)])) _ _ _ from wpAny_pure ?_))
  show wpAny _ _ (Builtin.Dict.updateFrom "dict.__init__" h'.objs.size (.ref (s1.heap.objs.size + 4)) [] .none) _ _ _
  unfold Builtin.Dict.updateFrom
  have hz1:=Heap.get?_push_of_some { cls:=.type "dict",data:=.dict #[] } hz
  refine wpAny_bind (wpAny_typeOf (T:="zip") ⟨_,hz1,rfl⟩ ?_)
  rw [if_pos (by decide)]
  refine wpAny_bind (tD hz1 hh fun h3 tk3 k3=>?_)
  rw [if_pos (by rfl)]
  refine wpAny_bind (wpAny_rule ?_)
  have kk:∀ b o,h'.get? b = some o -> h3.get? b = some o:=fun b o e=>k3 b o (Heap.get?_push_of_some _ e)
  have I3:Inv X pins σ H1 { s1 with heap:=h3,toks:=tk3 }:=I2.kept (t':=tk3) kk
  have f2:∀ b ∈ [s1.heap.objs.size + 4,s1.heap.objs.size + 3,s1.heap.objs.size + 2,s1.heap.objs.size + 1,s1.heap.objs.size],FpOk X pins H1 b:=fun b hb=>by
    have hle:s1.heap.objs.size <= b:=by
      simp only [List.mem_cons,List.mem_nil_iff,or_false] at hb
      rcases hb with rfl | rfl | rfl | rfl | rfl <;> first | exact Nat.le_add_right _ _ | exact Nat.le_refl _
    exact I1.fpOk hle (I1.hok.fresh hle)
  have fS:FpOk X pins H1 h'.objs.size:=I2.fpOk (Nat.le_refl _) (I2.hok.fresh (Nat.le_refl _))
  have hsM:(h'.objs.size == sysModules) = false:=by
    have:=Nat.ne_of_gt (vY I2)
    exact beq_false_of_ne this
  have W:=XB (cls:="zip") (n:=ks.length) hc T f2 fS (fun b hb=>by
      simp only [List.mem_cons,List.mem_nil_iff,or_false] at hb
      rcases hb with rfl | rfl | rfl | rfl | rfl <;> exact Nat.ne_of_lt (by omega)) (σ:=σ) (fun i vs H'=>Grow [] H1 H' /\ vs.length = i /\ i <= ks.length /\ ∀ (j:Nat) (x:Str) (y:V),j < i -> ks[j]? = some x -> zs[j]? = some y -> ∃ T,vs[j]? = some (.ref T) /\ H' T = some (.tup [.str x,y])) (by
    rintro i vs H' ⟨g,hzl,hil,hall⟩
    have qa:=SqC.grow g hqa'
    have qb:=SqC.grow g hqb'
    by_cases hi:i < ks.length
    · refine .inl ⟨⟨ks.map V.str,zs,.str ks[i],zs[i],qa,qb,by simp,by simp⟩,hi,?_⟩
      rintro x H2 ⟨T,v,w,hT,rfl,rfl,y1,y2⟩
      have gT:=Grow.new (m:=[]) hT (.tup [v,w])
      refine ⟨g.trans gT,by rw [List.length_append,hzl]; rfl,hi,fun j x y hj ex ey=>?_⟩
      by_cases hji:j < i
      · obtain ⟨T',z1,z2⟩:=hall j x y hji ex ey
        exact ⟨T',by rw [List.getElem?_append_left (by omega)]; exact z1,gT.keep _ _ (by simp) z2⟩
      · have e:j = i:=by omega
        subst e
        have y1':=y1 (ks.map V.str) qa
        rw [List.getElem?_map,ex] at y1'
        rw [y2 zs qb] at ey
        cases y1'; cases ey
        exact ⟨T,by rw [List.getElem?_append_right (by omega),hzl,Nat.sub_self]; rfl,zd⟩
    · exact .inr ⟨ks.map V.str,zs,qa,qb,.inl (by rw [List.length_map]; omega)⟩)
  have j0:WkJ X pins σ [s1.heap.objs.size + 4,s1.heap.objs.size + 3,s1.heap.objs.size + 2,s1.heap.objs.size + 1,s1.heap.objs.size] (Z8 false false (s1.heap.objs.size + 4) (s1.heap.objs.size + 2) (s1.heap.objs.size + 3) s1.heap.objs.size (s1.heap.objs.size + 1) ra rb) h'.objs.size (fun i vs H'=>Grow [] H1 H' /\ vs.length = i /\ i <= ks.length /\ ∀ (j:Nat) (x:Str) (y:V),j < i -> ks[j]? = some x -> zs[j]? = some y -> ∃ T,vs[j]? = some (.ref T) /\ H' T = some (.tup [.str x,y])) [] { s1 with heap:=h3,toks:=tk3 } :=
    ⟨H1,[],I3,T.keep 0 h' h3 ⟨⟨_,_,hz,.inl rfl⟩,hI,⟨_,_,hO⟩,.mk h1,.mk h2⟩ (fun b _ o e=>kk b o e),fun b hb=>(f2 b hb).1,fS.1,.nil,Grow.refl _ _,rfl,Nat.zero_le _,fun j x y hj=>absurd hj (Nat.not_lt_zero _)⟩
  refine wpAny_bind (W.self _ [] _ _ _ j0 ?_)
  refine wpAny_pure ⟨plainId_quiet xS _,?_⟩
  refine jV (A:=X.A.in1) (ks:=ks) (zs:=zs) W (Nat.le_of_lt (zn hlen)) ?_ _ _ [] rfl (Nat.zero_le _) j0 ⟨[],.nil,?_⟩ ?_
  · rintro acc v s' ⟨H',ys,J1,st,fr,hn,rv,g,hyl,hil,hall⟩ hlt
    obtain ⟨k,hk'⟩:∃ k,ks[acc.length]? = some k:=⟨_,List.getElem?_eq_getElem hlt⟩
    obtain ⟨y,hy⟩:∃ y,zs[acc.length]? = some y:=⟨_,List.getElem?_eq_getElem (by omega)⟩
    obtain ⟨t,z1,z2⟩:=hall acc.length k y (by rw [List.length_append]; exact Nat.lt_succ_self _) hk' hy
    obtain ⟨z,hz',rz⟩:=sV (i:=acc.length) (u:=v) rv (by rw [List.getElem?_append_right (Nat.le_refl _),Nat.sub_self]; rfl)
    rw [z1] at hz'
    obtain rfl:=Option.some.inj hz'
    cases (show v = Value.ref t from rz)
    obtain ⟨_,its,rits,hit⟩:=(show yf X.prog X.w H' s'.heap t (.tup [.str k,y]) from J1.hok t _ z2)
    obtain ⟨u1,uv,rfl,r1',rv'⟩:∃ u1 uv,its = [u1,uv] /\ RelV (.str k) u1 /\ RelV y uv:=by
      cases rits with
      | cons a c=>cases c with | cons b d=>cases d; exact ⟨_,_,rfl,a,b⟩
    obtain ⟨tk,rfl⟩:=r1'
    obtain ⟨ot,hot,hct,m,hdt⟩:=hit
    exact ⟨t,k,y,uv,tk,ot,m,rfl,zt z2 hn,hot,hct,hdt,hk',hy,rv'⟩
  · exact ⟨_,#[],0,k3 _ _ hT,⟨rfl,rfl,rfl⟩,rfl,fun e he=>by simp at he,.nil,List.nodup_nil⟩
  · rintro s' acc vs ⟨H',ys,J1,hn,rv,⟨g,hyl,hil,hall⟩,stop⟩ hal rel dd
    have hacc:acc.length = ks.length:=by
      obtain ⟨xs',ys',za,zb,hl⟩:=stop
      have ea:=y8 J1 za (SqC.grow g hqa')
      have eb:=y8 J1 zb (SqC.grow g hqb')
      rw [ea,eb,List.length_map] at hl
      omega
    rw [hacc,List.take_length,hxy,List.take_length] at rel
    have un:Un (frs X.stack) [h'.objs.size] H' (upd H' h'.objs.size (.dK (yi ks zs))) s'.heap s'.heap :=
      { keep:=fun b o e _ _ _=>e
        slot:=fun b o e _ _ _=>⟨o.slots,e⟩
        free:=fun b o e n hb=>by rw [zB (fun z=>hb (by simp [z]))]; exact n
        there:=fun b o e _=>⟨o,e⟩
        tups:=fun b xs e=>by rw [zB (zt e hn)]; exact e
        frzs:=fun b o u e=>by rw [zB (zt e hn)]; exact e
        tbls:=fun b ps e=>⟨#[],by rw [zB (zt e hn),e]; simp⟩ }
    have hzz:(yi ks zs).length <= sizeLine:=Nat.le_trans (sU ks zs) (Nat.le_of_lt (zn hlen))
    have tracked:Inv X pins σ (upd H' h'.objs.size (.dK (yi ks zs))) s':=J1.call' (ch:=[h'.objs.size]) rfl un (HOk.track J1.hok hn ⟨hzz,hsM,vs,rel,dd⟩) J1.bare fun b hb=>by
      rw [List.mem_singleton.mp hb]
      exact ⟨fS.2.2.2.1,fS.2.1,fS.2.2.2.2.1,fS.2.2.2.2.2⟩
    have gr:=Grow.new (m:=[]) hn (.dK (yi ks zs))
    exact ⟨rfl,.ref h'.objs.size,_,tracked,rfl,q _ _ (g.trans gr) (g.free (by simp) hn) zd⟩
end
open PySem PySem.Spec PyProof.Rows L2 PySem.NumText
abbrev cl (x:Str):List Nat:=x.cps.toList
theorem yY {a b:Str} (h:cl a = cl b):a = b:=Str.ext' (by rw [← Array.toArray_toList (xs:=a.cps),← Array.toArray_toList (xs:=b.cps)]; exact congrArg List.toArray h)
theorem y9 (a b:Str):cl (a ++ b) = cl a ++ cl b:=by show (a.cps ++ b.cps).toList = _; rw [Array.toList_append]
theorem yZ (a:Str):a.length = (cl a).length:=by show a.cps.size = a.cps.toList.length; rw [Array.length_toList]
def zq (n:Int):Str:=Str.ofString (toString n)
theorem y0 (m:Nat):cl (zq (m:Int)) = (Nat.toDigits 10 m).map Char.toNat:=PySem.W.KIN.signs_num m
theorem wH (m:Nat):cl (zq (Int.negSucc m)) = 45 :: (Nat.toDigits 10 (m + 1)).map Char.toNat:=by
 unfold zq
 rw [show cl (Str.ofString (toString (Int.negSucc m))) = (toString (Int.negSucc m)).toList.map Char.toNat from signs_ofString _]
 show (("-" ++ Nat.repr (m + 1):String)).toList.map Char.toNat = _
 rw [String.toList_append,List.map_append,Nat.toList_repr]
 rfl
theorem xh {m:Nat}:AllDigits ((Nat.toDigits 10 m).map Char.toNat):=by
 intro c hc
 obtain ⟨ch,hch,e⟩:=List.mem_map.mp hc
 have r:=digit_range (Nat.isDigit_of_mem_toDigits (by decide) (by decide) hch)
 rw [← e]
 exact r
theorem Wx (m:Nat):(Nat.toDigits 10 m).map Char.toNat ≠ []:=fun e=>by
 have h:=toDigits_len_ge 10 m
 rw [List.map_eq_nil_iff.mp e] at h
 exact absurd h (by decide)
theorem sW (m:Nat):(if Int.negSucc m < 0 then -Int.negSucc m else Int.negSucc m) = ((m + 1:Nat):Int):=by
 rw [if_pos (Int.negSucc_lt_zero m)]; rfl
theorem jh (n:Int):(if n < 0 then Str.ofString "-" else Str.ofString "") ++ zq (if n < 0 then -n else n) = zq n:=by
 cases n with
 | ofNat m =>
  have h:¬ (Int.ofNat m < 0):=by show ¬ ((m:Int) < 0); omega
  rw [if_neg h,if_neg h]
  exact yY (by rw [y9]; rfl)
 | negSucc m =>
  rw [sW,if_pos (Int.negSucc_lt_zero m)]
  refine yY ?_
  rw [y9,y0,wH]; rfl
theorem sX {n:Int} {c:Nat} (h:c ∈ cl (zq n)):c = 45 \/ (48 <= c /\ c <= 57):=by
 cases n with
 | ofNat m =>
  rw [show Int.ofNat m = (m:Int) from rfl,y0] at h
  exact .inr (xh c h)
 | negSucc m =>
  rw [wH] at h
  rcases List.mem_cons.mp h with e | h
  ·exact .inl e
  ·exact .inr (xh c h)
theorem Yu {n:Int}:32 ∉ cl (zq n):=fun h=>by
 rcases sX h with e | ⟨a,_⟩
 ·cases e
 ·exact absurd a (by decide)
theorem wI (m:Nat):∃ c r,cl (zq m) = c :: r /\ 48 <= c /\ c <= 57:=by
 have h1:=Wx m
 have h2:=@xh m
 rw [y0]
 match (Nat.toDigits 10 m).map Char.toNat,h1,h2 with
 | [],h1,_=>exact absurd rfl h1
 | c :: r,_,h2=>exact ⟨c,r,rfl,h2 c (List.mem_cons_self ..)⟩
theorem xH (n:Int):Txt.removeprefix (zq n) (Str.ofString "-") = zq (if n < 0 then -n else n):=by
 rw [StrLaws.removeprefix_eq]
 cases n with
 | ofNat m =>
  have h:¬ (Int.ofNat m < 0):=by show ¬ ((m:Int) < 0); omega
  rw [if_neg h,if_neg]
  intro z
  rw [Bool.and_eq_true,StrLaws.subAt_eq] at z
  obtain ⟨c,r,e,c1,c2⟩:=wI m
  have z2:=z.2
  rw [show (zq (Int.ofNat m)).cps.toList = c :: r from e] at z2
  have z3:[c] = [45]:=eq_of_beq z2
  have:=(List.cons.inj z3).1
  omega
 | negSucc m =>
  rw [sW]
  have hl:(zq (Int.negSucc m)).length = (zq ((m + 1:Nat):Int)).length + 1:=by
   rw [yZ,yZ,wH,y0]; rfl
  rw [if_pos]
  ·refine yY ?_
   rw [y0]
   show (List.take ((zq (Int.negSucc m)).length - 1) (List.drop 1 (cl (zq (Int.negSucc m))))).toArray.toList = _
   rw [List.toList_toArray,wH,List.drop_one,List.tail_cons,List.take_of_length_le]
   rw [yZ,wH]; simp
  ·rw [Bool.and_eq_true,StrLaws.subAt_eq]
   refine ⟨decide_eq_true ?_,?_⟩
   ·rw [show (Str.ofString "-").length = 1 from by decide,hl]; omega
   ·rw [show (zq (Int.negSucc m)).cps.toList = _ from wH m]; rfl
theorem sY (m:Nat):Txt.isascii (zq m) = true:=by
 unfold Txt.isascii
 rw [← Array.all_toList,List.all_eq_true]
 intro c hc
 have:=(xh c (by rw [← y0]; exact hc)).2
 exact decide_eq_true (by omega)
theorem sZ (m:Nat):Txt.isdigit (zq m) = true:=by
 unfold Txt.isdigit
 rw [Bool.and_eq_true,← Array.all_toList,List.all_eq_true]
 constructor
 ·refine decide_eq_true ?_
  rw [yZ,y0]
  exact List.length_pos_iff.mpr (Wx m)
 ·intro c hc
  have h:=xh c (by rw [← y0]; exact hc)
  have:∀ d,d < 10 -> Unicode.isDigit (48 + d) = true:=by decide +kernel
  have e:=this (c - 48) (by omega)
  rwa [show 48 + (c - 48) = c by omega] at e
theorem ua {m:Nat} (h:m < 10 ^ 62):(zq m).length <= 62:=by
 rw [yZ,y0,List.length_map]
 have go:∀ (k m:Nat),0 < k -> m < 10 ^ k -> (Nat.toDigits 10 m).length <= k:=by
  intro k
  induction k with
  | zero=>intro m h; omega
  | succ k ih =>
   intro m _ hm
   by_cases h10:m < 10
   ·rw [Nat.toDigits_of_lt_base h10]; simp
   ·have hk:0 < k:=by
     rcases Nat.eq_zero_or_pos k with e | e
     ·subst e; omega
     ·exact e
    have hm':m / 10 < 10 ^ k:=by
     rw [Nat.div_lt_iff_lt_mul (by decide)]
     rw [Nat.pow_succ] at hm; omega
    have t:Nat.toDigits 10 (m / 10) ++ Nat.toDigits 10 (m % 10) = Nat.toDigits 10 (10 * (m / 10) + m % 10):=Nat.toDigits_append_toDigits (by decide) (by omega) (Nat.mod_lt m (by decide))
    rw [Nat.div_add_mod] at t
    rw [← t,List.length_append,Nat.toDigits_of_lt_base (Nat.mod_lt m (by decide))]
    have:=ih (m / 10) hk hm'
    simp only [List.length_cons,List.length_nil]
    omega
 exact go 62 m (by decide) h
theorem ji {m:Nat} (h:0 < m):∃ c r,cl (zq m) = c :: r /\ c ≠ 48:=by
 rw [y0]
 induction m using Nat.strongRecOn with
 | _ m ih =>
  by_cases h10:m < 10
  ·rw [Nat.toDigits_of_lt_base h10]
   exact ⟨_,[],rfl,(by decide:∀ m,m < 10 -> 0 < m -> (Nat.digitChar m).toNat ≠ 48) m h10 h⟩
  ·have t:Nat.toDigits 10 (m / 10) ++ Nat.toDigits 10 (m % 10) = Nat.toDigits 10 (10 * (m / 10) + m % 10):=Nat.toDigits_append_toDigits (by decide) (by omega) (Nat.mod_lt m (by decide))
   rw [Nat.div_add_mod] at t
   obtain ⟨c,r,e,hc⟩:=ih (m / 10) (by omega) (by omega)
   rw [← t,List.map_append,e]
   exact ⟨c,_,rfl,hc⟩
theorem XD {m:Nat} (h:m < 10 ^ 62):PySem.intText? (Str.ofString "0" ++ zq m) = some (m:Int):=by
 have e0:cl (Str.ofString "0" ++ zq m) = 48 :: (Nat.toDigits 10 m).map Char.toNat:=by rw [y9,y0]; rfl
 have hl:=ua h
 have e:=intText_digits (x:=Str.ofString "0" ++ zq m) (by
  intro c hc
  rw [show (Str.ofString "0" ++ zq m).cps.toList = _ from e0] at hc
  rcases List.mem_cons.mp hc with e | hc
  ·rw [e]; decide
  ·exact xh c hc) (by rw [show (Str.ofString "0" ++ zq m).cps.toList = _ from e0]; simp) (by rw [Str.length_append,show (Str.ofString "0").length = 1 from by decide]; omega)
 rw [e,show (Str.ofString "0" ++ zq m).cps.toList = _ from e0]
 have:digitsVal (48 :: (Nat.toDigits 10 m).map Char.toNat) = digitsVal ((Nat.toDigits 10 m).map Char.toNat):=rfl
 rw [this,PySem.W.KIN.val_back]
def xf:List (List Nat) -> List Nat
 | []=>[]
 | [x]=>x
 | x :: y :: r=>x ++ 32 :: xf (y :: r)
theorem wo:∀ ws:List Str,cl (Str.join (Str.ofString " ") ws) = xf (ws.map cl)
 | []=>rfl
 | [x]=>rfl
 | x :: y :: r=>by
  show cl (x ++ Str.ofString " " ++ Str.join (Str.ofString " ") (y :: r)) = cl x ++ 32 :: xf ((y :: r).map cl)
  rw [y9,y9,wo (y :: r),List.append_assoc]
  rfl
theorem Yv:∀ {x y t u:List Nat},32 ∉ x -> 32 ∉ y -> (t = [] \/ ∃ r,t = 32 :: r) -> (u = [] \/ ∃ r,u = 32 :: r) -> x ++ t = y ++ u -> x = y /\ t = u
 | [],[],t,u,_,_,_,_,e=>⟨rfl,e⟩
 | [],b :: y,t,u,_,hy,ht,_,e=>by
  rcases ht with rfl | ⟨r,rfl⟩
  ·cases e
  ·have:=(List.cons.inj e).1
   exact absurd (List.mem_cons_self ..) (this ▸ hy)
 | a :: x,[],t,u,hx,_,_,hu,e=>by
  rcases hu with rfl | ⟨r,rfl⟩
  ·cases e
  ·have:=(List.cons.inj e).1
   exact absurd (List.mem_cons_self ..) (this ▸ hx)
 | a :: x,b :: y,t,u,hx,hy,ht,hu,e=>by
  have e1:=(List.cons.inj e).1
  have e2:=(List.cons.inj e).2
  obtain ⟨h1,h2⟩:=Yv (fun z=>hx (List.mem_cons_of_mem _ z)) (fun z=>hy (List.mem_cons_of_mem _ z)) ht hu e2
  exact ⟨by rw [e1,h1],h2⟩
def Vp:List (List Nat) -> List Nat
 | []=>[]
 | y :: r=>32 :: xf (y :: r)
theorem xT (x:List Nat):∀ r,xf (x :: r) = x ++ Vp r
 | []=>(List.append_nil x).symm
 | _ :: _=>rfl
theorem jj:∀ r,Vp r = [] \/ ∃ q,Vp r = 32 :: q
 | []=>.inl rfl
 | _ :: _=>.inr ⟨_,rfl⟩
theorem rc:∀ {a b:List (List Nat)},a ≠ [] -> b ≠ [] -> (∀ x ∈ a,32 ∉ x) -> (∀ x ∈ b,32 ∉ x) -> xf a = xf b -> a = b
 | [],_,h,_,_,_,_=>absurd rfl h
 | _,[],_,h,_,_,_=>absurd rfl h
 | x :: a,y :: b,_,_,ha,hb,e=>by
  rw [xT,xT] at e
  obtain ⟨e1,e2⟩:=Yv (ha x (List.mem_cons_self ..)) (hb y (List.mem_cons_self ..)) (jj a) (jj b) e
  match a,b,e2,ha,hb with
  | [],[],_,_,_=>rw [e1]
  | [],_ :: _,e2,_,_=>cases e2
  | _ :: _,[],e2,_,_=>cases e2
  | p :: a,q :: b,e2,ha,hb =>
   have e3:=(List.cons.inj e2).2
   rw [e1,rc (a:=p :: a) (b:=q :: b) (by simp) (by simp) (fun z hz=>ha z (List.mem_cons_of_mem _ hz)) (fun z hz=>hb z (List.mem_cons_of_mem _ hz)) e3]
theorem uQ:∀ {a b:List Str},a.map cl = b.map cl -> a = b
 | [],[],_=>rfl
 | [],_ :: _,h=>by cases h
 | _ :: _,[],h=>by cases h
 | x :: a,y :: b,h=>by
  rw [List.map_cons,List.map_cons] at h
  injection h with h1 h2
  rw [yY h1,uQ h2]
theorem Vq:Str.ofString " " = ⟨#[32]⟩:=by decide
theorem vn {ws:List Str} (h0:ws ≠ []) (h:∀ w ∈ ws,32 ∉ cl w):Txt.split (Str.join (Str.ofString " ") ws) (Str.ofString " ") = ws:=by
 have e:=StrLaws.join_split (Str.join (Str.ofString " ") ws) (Str.ofString " ")
 have e1:=congrArg cl e
 rw [wo,wo] at e1
 refine uQ (rc ?_ (by simpa using h0) ?_ ?_ e1)
 ·intro z
  have:=split_pos (Str.join (Str.ofString " ") ws) (Str.ofString " ")
  rw [List.map_eq_nil_iff.mp z] at this
  exact absurd this (by decide)
 ·intro x hx
  obtain ⟨p,hp,rfl⟩:=List.mem_map.mp hx
  rw [Vq] at hp
  exact StrLaws.split_free _ 32 p hp
 ·intro x hx
  obtain ⟨p,hp,rfl⟩:=List.mem_map.mp hx
  exact h p hp
abbrev S18 (s:String):Str:=Str.ofString s
def yj (d:Deed):List (Str × Int) :=
 if d.lo ≠ none /\ d.lo = d.hi then [(S18 "set",d.lo.getD 0)] else
 (if d.add = 0 then [] else [(S18 "add",d.add)]) ++ (d.lo.toList.map fun l=>(S18 "low",l)) ++ d.hi.toList.map fun u=>(S18 "high",u)
def yk (p:Str × Int):Str:=p.1 ++ S18 " " ++ zq p.2
def yS (ps:List (Str × Int)):List Str:=ps.flatMap fun p=>[p.1,zq p.2]
def xA (d:Deed):Str:=if (yj d).isEmpty then S18 "look" else Str.join (S18 " ") ((yj d).map yk)
theorem jk:∀ ps:List (Str × Int),xf ((ps.map yk).map cl) = xf ((yS ps).map cl)
 | []=>rfl
 | [p]=>by
  show cl (p.1 ++ S18 " " ++ zq p.2) = cl p.1 ++ 32 :: cl (zq p.2)
  rw [y9,y9,List.append_assoc]; rfl
 | p :: q :: r=>by
  show cl (p.1 ++ S18 " " ++ zq p.2) ++ 32 :: xf (((q :: r).map yk).map cl) = cl p.1 ++ 32 :: (cl (zq p.2) ++ 32 :: xf ((yS (q :: r)).map cl))
  rw [y9,y9,jk (q :: r),List.append_assoc,List.append_assoc]
  rfl
theorem jl (ps:List (Str × Int)):Str.join (S18 " ") (ps.map yk) = Str.join (S18 " ") (yS ps):=yY (by rw [wo,wo,jk])
theorem XE {d:Deed} {p:Str × Int} (h:p ∈ yj d):p.1 ∈ [S18 "set",S18 "add",S18 "low",S18 "high"]:=by
 unfold yj at h
 split at h
 ·rw [List.mem_singleton.mp h]; simp
 ·rcases List.mem_append.mp h with h | h
  ·rcases List.mem_append.mp h with h | h
   ·split at h
    ·cases h
    ·rw [List.mem_singleton.mp h]; simp
   ·obtain ⟨_,_,rfl⟩:=List.mem_map.mp h; simp
  ·obtain ⟨_,_,rfl⟩:=List.mem_map.mp h; simp
theorem XF {d:Deed}:∀ w ∈ yS (yj d),32 ∉ cl w:=by
 intro w hw
 obtain ⟨p,hp,hw⟩:=List.mem_flatMap.mp hw
 have hk:=XE hp
 rcases List.mem_cons.mp hw with rfl | hw
 ·have:∀ k ∈ [S18 "set",S18 "add",S18 "low",S18 "high"],32 ∉ cl k:=by decide
  exact this _ hk
 ·rw [List.mem_singleton.mp hw]; exact Yu
theorem ub {d:Deed} (h:(yj d).isEmpty = false):Txt.split (xA d) (S18 " ") = yS (yj d):=by
 unfold xA
 rw [h,if_neg (by decide),jl]
 refine vn ?_ XF
 cases hp:yj d with
 | nil=>rw [hp] at h; cases h
 | cons p r=>intro z; cases z
def uR (_:FG7):Sp:=sp1 fun x H Q=>∃ n:Int,x = .int n /\ -(10 ^ 61) <= n /\ n <= 10 ^ 61 /\ ∀ H',Grow [] H H' -> Q (.str (zq n)) H'
theorem lg18 {n:Int} (h:n.natAbs < 10 ^ 62):n.natAbs.log2 < 1920:=by
 by_cases h0:n.natAbs = 0
 ·rw [h0]; decide
 ·exact (Nat.log2_lt h0).mpr (Nat.lt_trans h (by decide))
theorem Vr {n:Int} (n0:-(10 ^ 61) <= n) (n1:n <= 10 ^ 61):∃ k:Nat,(if n < 0 then -n else n) = (k:Int) /\ k < 10 ^ 62:=by
 refine ⟨n.natAbs,?_,?_⟩
 ·split <;> omega
 ·omega
theorem Vs {n:Int} (n0:-(10 ^ 61) <= n) (n1:n <= 10 ^ 61):(zq n).length <= 63:=by
 obtain ⟨k,hk,hk1⟩:=Vr n0 n1
 have:=ua hk1
 rw [← jh n,hk,Str.length_append]
 have h1:(if n < 0 then Str.ofString "-" else Str.ofString "").length <= 1:=by split <;> decide
 omega
theorem jm {sep:Str} {ts:List Str} (hs:sep.length <= 1) (h:∀ y ∈ ts,y.length <= 1000) (hl:ts.length <= 10):JoinOk sep ts = true:=by
 unfold JoinOk
 rw [StrLaws.joinFits (B:=1000) h]
 ·rfl
 ·have:ts.length * 1000 <= 10 * 1000:=Nat.mul_le_mul_right _ hl
  have h2:ts.length * sep.length <= 10 * 1:=Nat.mul_le_mul hl hs
  omega
theorem wp (x:Str):Txt.slice x none (some (x.length:Int)) = x:=by
 unfold Txt.slice
 rw [if_pos]
 rw [Bool.and_eq_true]
 refine ⟨rfl,?_⟩
 rw [StrLaws.sliceIdx_none_lo]
 have h:=StrLaws.strSliceIndices_plain (a:=0) (b:=x.length) (len:=x.length) (Nat.zero_le _) (Nat.le_refl _)
 rw [show ((0:Nat):Int) = 0 from rfl] at h
 rw [h,List.length_map,List.length_range,Nat.sub_zero]
 exact beq_self_eq_true _
theorem wV (n:Int):∃ c,atI (zq n).cps.toList 0 = some c /\ (c = 45 ↔ n < 0):=by
 cases n with
 | ofNat m =>
  obtain ⟨c,r,e,c1,c2⟩:=wI m
  refine ⟨c,by rw [show (zq (Int.ofNat m)).cps.toList = c :: r from e]; exact ya (j:=0) rfl,fun z=>by omega,fun z=>?_⟩
  have:¬ ((m:Int) < 0):=by omega
  exact absurd z this
 | negSucc m=>exact ⟨45,by rw [show (zq (Int.negSucc m)).cps.toList = _ from wH m]; exact ya (j:=0) rfl,fun _=>Int.negSucc_lt_zero m,fun _=>rfl⟩
theorem Yw (k:Nat):∃ c,atI (zq k).cps.toList 0 = some c /\ (c = 48 -> k = 0):=by
 obtain ⟨c,r,e,c1,c2⟩:=wI k
 refine ⟨c,by rw [show (zq k).cps.toList = c :: r from e]; exact ya (j:=0) rfl,fun z=>?_⟩
 rcases Nat.eq_zero_or_pos k with e0 | e0
 ·exact e0
 ·obtain ⟨c',r',e',ne⟩:=ji e0
  rw [e] at e'
  exact absurd ((List.cons.inj e').1 ▸ z) ne
theorem uc {c:Nat} {z:Str} {b:Nat} (hz:z = ⟨#[b]⟩):decide (V.str ⟨#[c]⟩ = V.str z) = decide (c = b):=by
 subst hz
 rw [Bool.eq_iff_iff,decide_eq_true_eq,decide_eq_true_eq]
 constructor
 ·intro h; injection h with h; injection h with h; simpa using h
 ·intro h; rw [h]
theorem Room.u118 {k:Nat} {A:Around} (r:Room k A):A.units + 1 < cLine:=by have:=r.un; omega
def wW (d:Deed):List (Str × Int):=if d.add = 0 then [] else [(S18 "add",d.add)]
def wJ (d:Deed):List (Str × Int):=wW d ++ d.lo.toList.map fun l=>(S18 "low",l)
def zL (d:Deed):List (Str × Int):=wJ d ++ d.hi.toList.map fun u=>(S18 "high",u)
theorem xI {d:Deed} (h:¬ (d.lo ≠ none /\ d.lo = d.hi)):yj d = zL d:=if_neg h
theorem Vt {d:Deed} (h:d.lo ≠ none /\ d.lo = d.hi):xA d = S18 "set " ++ zq (d.lo.getD 0):=by
 unfold xA
 have e:yj d = [(S18 "set",d.lo.getD 0)]:=if_pos h
 rw [e]
 show S18 "set" ++ S18 " " ++ zq _ = _
 rw [show S18 "set" ++ S18 " " = S18 "set " from by decide]
theorem XG:xA ⟨0,none,none⟩ = S18 "look":=rfl
theorem Wy {d:Deed} (h:d ≠ ⟨0,none,none⟩):(zL d).isEmpty = false:=by
 obtain ⟨ad,lo,hi⟩:=d
 unfold zL wJ wW
 by_cases ha:ad = 0
 ·cases lo with
  | some l=>simp [ha]
  | none =>
   cases hi with
   | some u=>simp [ha]
   | none=>exact absurd (by rw [ha]) h
 ·simp [ha]
theorem Vu {d:Deed} (h:¬ (d.lo ≠ none /\ d.lo = d.hi)) (hl:d ≠ ⟨0,none,none⟩):xA d = Str.join (S18 " ") ((zL d).map yk):=by
 unfold xA
 rw [xI h,Wy hl,if_neg (by decide)]
theorem jn (d:Deed):(zL d).length <= 3:=by
 unfold zL wJ wW
 rw [List.length_append,List.length_append,List.length_map,List.length_map]
 have h1:(if d.add = 0 then [] else [(S18 "add",d.add)]:List (Str × Int)).length <= 1:=by split <;> simp
 have h2:d.lo.toList.length <= 1:=by cases d.lo <;> simp
 have h3:d.hi.toList.length <= 1:=by cases d.hi <;> simp
 omega
theorem TV {d:Deed} (b:d.Bd (10 ^ 61)) {p:Str × Int} (h:p ∈ zL d):p.1.length <= 4 /\ -(10 ^ 61) <= p.2 /\ p.2 <= 10 ^ 61:=by
 unfold zL wJ wW at h
 rcases List.mem_append.mp h with h | h
 ·rcases List.mem_append.mp h with h | h
  ·split at h
   ·cases h
   ·rw [List.mem_singleton.mp h]; exact ⟨show (S18 "add").length <= 4 by decide,b.1⟩
  ·obtain ⟨l,hl,rfl⟩:=List.mem_map.mp h
   exact ⟨show (S18 "low").length <= 4 by decide,b.2.1 l (by cases hlo:d.lo with | none=>rw [hlo] at hl; cases hl | some z=>rw [hlo] at hl; rw [List.mem_singleton.mp hl])⟩
 ·obtain ⟨l,hl,rfl⟩:=List.mem_map.mp h
  exact ⟨show (S18 "high").length <= 4 by decide,b.2.2 l (by cases hlo:d.hi with | none=>rw [hlo] at hl; cases hl | some z=>rw [hlo] at hl; rw [List.mem_singleton.mp hl])⟩
theorem XH {p:Str × Int} (h:p.1.length <= 4 /\ -(10 ^ 61) <= p.2 /\ p.2 <= 10 ^ 61):(yk p).length <= 1000:=by
 unfold yk
 rw [Str.length_append,Str.length_append]
 have:=Vs h.2.1 h.2.2
 have e:(S18 " ").length = 1:=by decide
 omega
theorem Vv {d:Deed} (b:d.Bd (10 ^ 61)):JoinOk (S18 " ") ((zL d).map yk) = true:=by
 refine jm (by decide) (fun y hy=>?_) (by rw [List.length_map]; have:=jn d; omega)
 obtain ⟨p,hp,rfl⟩:=List.mem_map.mp hy
 exact XH (TV b hp)
theorem XI (l:Int):Str.ofString "add " ++ zq l = yk (S18 "add",l):=congrArg (· ++ zq l) (show Str.ofString "add " = S18 "add" ++ S18 " " by decide)
theorem XJ (l:Int):Str.ofString "low " ++ zq l = yk (S18 "low",l):=congrArg (· ++ zq l) (show Str.ofString "low " = S18 "low" ++ S18 " " by decide)
theorem Yx (l:Int):Str.ofString "high " ++ zq l = yk (S18 "high",l):=congrArg (· ++ zq l) (show Str.ofString "high " = S18 "high" ++ S18 " " by decide)
theorem wK {z:Str} {n:Int} (hz:z.length <= 5) (n0:-(10 ^ 61) <= n) (n1:n <= 10 ^ 61):z.length + (zq n).length <= sizeLine:=by
 have:=Vs n0 n1
 exact Nat.le_of_lt (zn (by omega))
theorem XL:∀ {ps:List (Str × Int)},ps.length <= 3 -> yH (evIx 1 ((yS ps).map V.str).length) ((yS ps).map V.str) = ps.map fun p=>V.str (zq p.2)
 | [],_=>rfl
 | [a],_=>by
  show yH (evIx 1 2) [V.str a.1,V.str (zq a.2)] = _
  rw [show evIx 1 2 = [1] from by decide]; rfl
 | [a,b],_=>by
  show yH (evIx 1 4) [V.str a.1,V.str (zq a.2),V.str b.1,V.str (zq b.2)] = _
  rw [show evIx 1 4 = [1,3] from by decide]; rfl
 | [a,b,c],_=>by
  show yH (evIx 1 6) [V.str a.1,V.str (zq a.2),V.str b.1,V.str (zq b.2),V.str c.1,V.str (zq c.2)] = _
  rw [show evIx 1 6 = [1,3,5] from by decide]; rfl
 | _ :: _ :: _ :: _ :: _,h=>by simp only [List.length_cons] at h; omega
theorem XM:∀ {ps:List (Str × Int)},ps.length <= 3 -> yH (evIx 0 ((yS ps).map V.str).length) ((yS ps).map V.str) = (ps.map (·.1)).map V.str
 | [],_=>rfl
 | [a],_=>by
  show yH (evIx 0 2) [V.str a.1,V.str (zq a.2)] = _
  rw [show evIx 0 2 = [0] from by decide]; rfl
 | [a,b],_=>by
  show yH (evIx 0 4) [V.str a.1,V.str (zq a.2),V.str b.1,V.str (zq b.2)] = _
  rw [show evIx 0 4 = [0,2] from by decide]; rfl
 | [a,b,c],_=>by
  show yH (evIx 0 6) [V.str a.1,V.str (zq a.2),V.str b.1,V.str (zq b.2),V.str c.1,V.str (zq c.2)] = _
  rw [show evIx 0 6 = [0,2,4] from by decide]; rfl
 | _ :: _ :: _ :: _ :: _,h=>by simp only [List.length_cons] at h; omega
theorem tE:∀ ps:List (Str × Int),(yS ps).length = 2 * ps.length
 | []=>rfl
 | p :: ps=>by
  show (p.1 :: zq p.2 :: yS ps).length = 2 * (ps.length + 1)
  rw [List.length_cons,List.length_cons,tE ps]; omega
theorem tF (d:Deed):(yj d).length <= 3:=by
 by_cases hs:d.lo ≠ none /\ d.lo = d.hi
 ·have e:yj d = [(S18 "set",d.lo.getD 0)]:=if_pos hs
  rw [e]; simp
 ·rw [xI hs]; exact jn d
theorem yL (k:Key):valV ([]:List (Key × V)) k = none:=rfl
theorem jX {a b:Str} (h:a ≠ b):(Sum.inr a:Key) ≠ Sum.inr b:=fun z=>h (Sum.inr.inj z)
theorem Vw (ad:Int) (lo hi:Option Int) (k:Key):valV (yi ((zL ⟨ad,lo,hi⟩).map (·.1)) ((zL ⟨ad,lo,hi⟩).map fun p=>V.int p.2)) k =
  if k = Sum.inr (S18 "high") /\ hi ≠ none then hi.map V.int else if k = Sum.inr (S18 "low") /\ lo ≠ none then lo.map V.int else if k = Sum.inr (S18 "add") /\ ad ≠ 0 then some (.int ad) else none:=by
 unfold zL wJ wW
 by_cases ha:ad = 0
 ·rw [if_pos ha]
  cases lo with
  | none =>
   cases hi with
   | none=>simp [yi,ha,yL]
   | some u =>
    show valV (putK [] (Sum.inr (S18 "high")) (V.int u)) k = _
    rw [yc,yL]; simp [ha]
  | some l =>
   cases hi with
   | none =>
    show valV (putK [] (Sum.inr (S18 "low")) (V.int l)) k = _
    rw [yc,yL]; simp [ha]
   | some u =>
    show valV (putK (putK [] (Sum.inr (S18 "low")) (V.int l)) (Sum.inr (S18 "high")) (V.int u)) k = _
    rw [yc,yc,yL]; simp [ha]
 ·rw [if_neg ha]
  cases lo with
  | none =>
   cases hi with
   | none =>
    show valV (putK [] (Sum.inr (S18 "add")) (V.int ad)) k = _
    rw [yc,yL]; simp [ha]
   | some u =>
    show valV (putK (putK [] (Sum.inr (S18 "add")) (V.int ad)) (Sum.inr (S18 "high")) (V.int u)) k = _
    rw [yc,yc,yL]; simp [ha]
  | some l =>
   cases hi with
   | none =>
    show valV (putK (putK [] (Sum.inr (S18 "add")) (V.int ad)) (Sum.inr (S18 "low")) (V.int l)) k = _
    rw [yc,yc,yL]; simp [ha]
   | some u =>
    show valV (putK (putK (putK [] (Sum.inr (S18 "add")) (V.int ad)) (Sum.inr (S18 "low")) (V.int l)) (Sum.inr (S18 "high")) (V.int u)) k = _
    rw [yc,yc,yc,yL]; simp [ha]
theorem Vx (ad:Int) (lo hi:Option Int):(valV (yi ((zL ⟨ad,lo,hi⟩).map (·.1)) ((zL ⟨ad,lo,hi⟩).map fun p=>V.int p.2)) (Sum.inr (S18 "add"))).getD (.int 0) = .int ad:=by
 rw [Vw,if_neg (fun z=>jX (by decide) z.1),if_neg (fun z=>jX (by decide) z.1)]
 by_cases ha:ad = 0
 ·rw [if_neg (fun z=>z.2 ha),ha]; rfl
 ·rw [if_pos ⟨rfl,ha⟩]; rfl
theorem Vy (ad:Int) (lo hi:Option Int):(valV (yi ((zL ⟨ad,lo,hi⟩).map (·.1)) ((zL ⟨ad,lo,hi⟩).map fun p=>V.int p.2)) (Sum.inr (S18 "low"))).getD .non = ov lo:=by
 rw [Vw,if_neg (fun z=>jX (by decide) z.1)]
 cases lo with
 | none=>rw [if_neg (fun z=>z.2 rfl),if_neg (fun z=>jX (by decide) z.1)]; rfl
 | some l=>rw [if_pos ⟨rfl,by simp⟩]; rfl
theorem XN (ad:Int) (lo hi:Option Int):(valV (yi ((zL ⟨ad,lo,hi⟩).map (·.1)) ((zL ⟨ad,lo,hi⟩).map fun p=>V.int p.2)) (Sum.inr (S18 "high"))).getD .non = ov hi:=by
 rw [Vw]
 cases hi with
 | none=>rw [if_neg (fun z=>z.2 rfl),if_neg (fun z=>jX (by decide) z.1),if_neg (fun z=>jX (by decide) z.1)]; rfl
 | some l=>rw [if_pos ⟨rfl,by simp⟩]; rfl
theorem wL {d:Deed} (h:(zL d).isEmpty = false):∃ p r,zL d = p :: r /\ decide (V.str p.1 = V.str (Str.ofString "set")) = false:=by
 have hk:∀ p ∈ zL d,p.1 ∈ [S18 "add",S18 "low",S18 "high"]:=by
  intro p h
  unfold zL wJ wW at h
  rcases List.mem_append.mp h with h | h
  ·rcases List.mem_append.mp h with h | h
   ·split at h
    ·cases h
    ·rw [List.mem_singleton.mp h]; simp
   ·obtain ⟨_,_,rfl⟩:=List.mem_map.mp h; simp
  ·obtain ⟨_,_,rfl⟩:=List.mem_map.mp h; simp
 cases hp:zL d with
 | nil=>rw [hp] at h; cases h
 | cons p r =>
  refine ⟨p,r,rfl,decide_eq_false fun z=>?_⟩
  have h1:=hk p (by rw [hp]; exact List.mem_cons_self ..)
  have z':p.1 = Str.ofString "set":=V.str.inj z
  rw [z'] at h1
  exact absurd h1 (by decide)
theorem jY {d:Deed} (h:(yj d).isEmpty = false):xA d ≠ S18 "look":=by
 intro z
 have e:=ub h
 rw [z] at e
 have e2:=vn (ws:=[S18 "look"]) (by simp) (by intro w hw; rw [List.mem_singleton.mp hw]; decide)
 rw [show Str.join (Str.ofString " ") [S18 "look"] = S18 "look" from rfl] at e2
 have e3:[S18 "look"] = yS (yj d):=e2.symm.trans e
 have:=congrArg List.length e3
 rw [tE] at this
 simp only [List.length_cons,List.length_nil] at this
 omega
theorem jo {d:Deed} (h:(yj d).isEmpty = true):d = ⟨0,none,none⟩:=by
 by_cases hs:d.lo ≠ none /\ d.lo = d.hi
 ·have e:yj d = [(S18 "set",d.lo.getD 0)]:=if_pos hs
  rw [e] at h; cases h
 ·rw [xI hs] at h
  by_cases hl:d = ⟨0,none,none⟩
  ·exact hl
  ·rw [Wy hl] at h; cases h
theorem Yy {K:FG7} {H:Hp}:∀ {o:Option Int},Od K [] H (ov o) (oD o)
 | none=>.non
 | some _=>.int _
theorem re {K:FG7} {H:Hp} {x:V} {d:Deed} (h:yv K H x d):Od K [] H x (vT d):=by
 obtain ⟨a,rfl,hs⟩:=h
 exact .tup hs (.cons (.int _) (.cons Yy (.cons Yy .nil)))
theorem Yz {n m:Int} (h:zq n = zq m):n = m:=by
 have e1:zq (if n < 0 then -n else n) = zq (if m < 0 then -m else m):=by rw [← xH,← xH,h]
 have key:∀ a b:Nat,zq a = zq b -> a = b:=fun a b z=>by
  have:=congrArg (fun x=>digitsVal (cl x)) z
  simp only [y0,PySem.W.KIN.val_back] at this
  exact this
 obtain ⟨c,hc,c45⟩:=wV n
 obtain ⟨c',hc',c45'⟩:=wV m
 rw [h,hc'] at hc
 have ec:c' = c:=Option.some.inj hc
 rw [ec] at c45'
 have hs:n < 0 ↔ m < 0:=c45.symm.trans c45'
 by_cases hn:n < 0
 ·have hm:=hs.mp hn
  rw [if_pos hn,if_pos hm,show -n = ((-n).toNat:Int) by omega,show -m = ((-m).toNat:Int) by omega] at e1
  have:=key _ _ e1
  omega
 ·have hm:¬ m < 0:=fun z=>hn (hs.mpr z)
  rw [if_neg hn,if_neg hm,show n = (n.toNat:Int) by omega,show m = (m.toNat:Int) by omega] at e1
  have:=key _ _ e1
  omega
theorem US {n:Nat}:∀ {cs:List Nat},cs.length = n -> AllDigits cs -> cs ≠ [] -> (cs.head? ≠ some 48 \/ cs = [48]) -> cl (zq (digitsVal cs:Nat)) = cs:=by
 induction n with
 | zero=>intro cs hl _ h0 _; exact absurd (List.length_eq_zero_iff.mp hl) h0
 | succ n ih =>
  intro cs hl hd h0 h1
  obtain ⟨ds,c,rfl⟩:∃ ds c,cs = ds ++ [c]:=⟨cs.dropLast,cs.getLast h0,(List.dropLast_concat_getLast h0).symm⟩
  have hc:=hd c (by simp)
  have hds:AllDigits ds:=fun x hx=>hd x (List.mem_append_left _ hx)
  have ec:∀ d,d < 10 -> (Nat.digitChar d).toNat = 48 + d:=by decide
  rw [y0,digitsVal_snoc]
  by_cases e:ds = []
  ·subst e
   rw [show digitsVal [] * 10 + (c - 48) = c - 48 from by rw [show digitsVal [] = 0 from rfl]; omega,Nat.toDigits_of_lt_base (by omega)]
   show [(Nat.digitChar (c - 48)).toNat] = [c]
   rw [ec _ (by omega)]
   congr 1; omega
  ·have hh:ds.head? ≠ some 48:=by
    rcases h1 with h1 | h1
    ·cases ds with
     | nil=>exact absurd rfl e
     | cons a r=>exact h1
    ·have:=congrArg List.length h1
     rw [List.length_append] at this
     have:=List.length_pos_iff.mpr e
     simp only [List.length_cons,List.length_nil] at *
     omega
   have hl':ds.length = n:=by rw [List.length_append] at hl; simpa using hl
   have i:=ih hl' hds e (.inl hh)
   have hp:0 < digitsVal ds:=by
    rcases Nat.eq_zero_or_pos (digitsVal ds) with z | z
    ·rw [z] at i
     rw [← i] at hh
     exact absurd (by decide) hh
    ·exact z
   have t:Nat.toDigits 10 (digitsVal ds) ++ Nat.toDigits 10 (c - 48) = Nat.toDigits 10 (10 * digitsVal ds + (c - 48)):=Nat.toDigits_append_toDigits (by decide) hp (by omega)
   rw [Nat.mul_comm,← t,List.map_append,← y0,i,Nat.toDigits_of_lt_base (by omega)]
   show ds ++ [(Nat.digitChar (c - 48)).toNat] = ds ++ [c]
   rw [ec _ (by omega)]
   congr 2; omega
theorem YA (w:Str):(∃ r,cl w = 45 :: r /\ cl (Txt.removeprefix w (S18 "-")) = r) \/ ((cl w).head? ≠ some 45 /\ Txt.removeprefix w (S18 "-") = w):=by
 rw [StrLaws.removeprefix_eq]
 match hw:cl w with
 | [] =>
  refine .inr ⟨by simp,?_⟩
  rw [if_neg]
  intro z
  rw [Bool.and_eq_true,StrLaws.subAt_eq,show w.cps.toList = [] from hw] at z
  exact absurd z.2 (by decide)
 | c :: r =>
  by_cases h:c = 45
  ·subst h
   refine .inl ⟨r,rfl,?_⟩
   rw [if_pos]
   ·show (List.take (w.length - 1) (List.drop 1 (cl w))).toArray.toList = r
    rw [List.toList_toArray,hw,List.drop_one,List.tail_cons,List.take_of_length_le]
    rw [yZ,hw]; simp
   ·rw [Bool.and_eq_true,StrLaws.subAt_eq,show w.cps.toList = 45 :: r from hw]
    refine ⟨decide_eq_true ?_,rfl⟩
    rw [show (S18 "-").length = 1 from by decide,yZ,hw]; simp
  ·refine .inr ⟨by simpa using h,?_⟩
   rw [if_neg]
   intro z
   rw [Bool.and_eq_true,StrLaws.subAt_eq,show w.cps.toList = c :: r from hw] at z
   have z3:[c] = [45]:=eq_of_beq z.2
   exact h (List.cons.inj z3).1
theorem Wz {f:Str} (h1:Txt.isascii f = true) (h2:Txt.isdigit f = true):AllDigits (cl f) /\ cl f ≠ []:=by
 unfold Txt.isascii at h1
 unfold Txt.isdigit at h2
 rw [Bool.and_eq_true,← Array.all_toList,List.all_eq_true] at h2
 rw [← Array.all_toList,List.all_eq_true] at h1
 constructor
 ·intro c hc
  have a:=of_decide_eq_true (h1 c hc)
  have b:=h2.2 c hc
  have key:∀ c,c < 128 -> Unicode.isDigit c = true -> 48 <= c /\ c <= 57:=by decide +kernel
  exact key c a b
 ·intro e
  have:=of_decide_eq_true h2.1
  rw [yZ,e] at this
  exact absurd this (by decide)
theorem WA {w:Str} (h1:Txt.isascii (Txt.removeprefix w (S18 "-")) = true) (h2:Txt.isdigit (Txt.removeprefix w (S18 "-")) = true) (h3:(cl (Txt.removeprefix w (S18 "-"))).head? = some 48 -> w = S18 "0") :
  w = zq (if (cl w).head? = some 45 then -((digitsVal (cl (Txt.removeprefix w (S18 "-"))):Nat):Int) else (digitsVal (cl (Txt.removeprefix w (S18 "-"))):Nat)):=by
 obtain ⟨a,b⟩:=Wz h1 h2
 by_cases h48:(cl (Txt.removeprefix w (S18 "-"))).head? = some 48
 ·have e:=h3 h48
  subst e
  decide +kernel
 ·have e:=US rfl a b (.inl h48)
  rcases YA w with ⟨r,hr,hr'⟩ | ⟨hn,hw⟩
  ·rw [if_pos (by rw [hr]; rfl)]
   rw [hr'] at e h48 b ⊢
   have hp:0 < digitsVal r:=by
    rcases Nat.eq_zero_or_pos (digitsVal r) with z | z
    ·rw [z] at e
     rw [← e] at h48
     exact absurd (by decide) h48
    ·exact z
   obtain ⟨m,hm⟩:∃ m,digitsVal r = m + 1:=⟨digitsVal r - 1,by omega⟩
   rw [hm] at e ⊢
   refine yY ?_
   rw [hr,show -((m + 1:Nat):Int) = Int.negSucc m from rfl,wH,← y0,e]
  ·rw [if_neg hn]
   rw [hw] at e ⊢
   exact yY e.symm
theorem UT (n:Int):∃ k:Nat,(if n < 0 then -n else n) = (k:Int):=⟨n.natAbs,by split <;> omega⟩
theorem YB {w:Str} (h:(Txt.isascii (Txt.removeprefix w (S18 "-")) && Txt.isdigit (Txt.removeprefix w (S18 "-"))) = false) (n:Int):w ≠ zq n:=by
 rintro rfl
 obtain ⟨k,hk⟩:=UT n
 rw [xH,hk,sY,sZ] at h
 cases h
theorem YC {w:Str} (h:(cl (Txt.removeprefix w (S18 "-"))).head? = some 48) (h0:w ≠ S18 "0") (n:Int):w ≠ zq n:=by
 rintro rfl
 obtain ⟨k,hk⟩:=UT n
 rw [xH,hk] at h
 rcases Nat.eq_zero_or_pos k with z | z
 ·have:n = 0:=by split at hk <;> omega
  subst this
  exact h0 (by decide)
 ·obtain ⟨c,r,e,hc⟩:=ji z
  rw [e] at h
  exact hc (Option.some.inj h)
def yO (w:Str):Str:=Txt.removeprefix w (S18 "-")
def ok19 (w:Str):Bool:=Txt.isascii (yO w) && Txt.isdigit (yO w) && (decide ((cl (yO w)).head? ≠ some 48) || decide (w = S18 "0"))
def UU (w:Str):Int:=if (cl w).head? = some 45 then -((digitsVal (cl (yO w)):Nat):Int) else (digitsVal (cl (yO w)):Nat)
def rd19 (w:Str):Option Int:=if ok19 w = true then some (UU w) else none
theorem tG {w:Str} (h:ok19 w = true):Txt.isascii (yO w) = true /\ Txt.isdigit (yO w) = true /\ ((cl (yO w)).head? = some 48 -> w = S18 "0"):=by
 unfold ok19 at h
 rw [Bool.and_eq_true,Bool.and_eq_true,Bool.or_eq_true,decide_eq_true_eq,decide_eq_true_eq] at h
 exact ⟨h.1.1,h.1.2,fun z=>h.2.resolve_left fun k=>k z⟩
theorem qm {w:Str} {n:Int} (h:rd19 w = some n):w = zq n:=by
 unfold rd19 at h
 split at h
 ·rename_i ho
  obtain ⟨a,b,c⟩:=tG ho
  rw [← Option.some.inj h]
  exact WA a b c
 ·cases h
theorem rf (n:Int):rd19 (zq n) = some n:=by
 cases ho:ok19 (zq n) with
 | true =>
  obtain ⟨a,b,c⟩:=tG ho
  have e:=Yz (WA a b c)
  unfold rd19
  rw [if_pos ho]
  exact congrArg some e.symm
 | false =>
  exfalso
  unfold ok19 at ho
  cases h1:(Txt.isascii (yO (zq n)) && Txt.isdigit (yO (zq n))) with
  | false=>exact YB h1 n rfl
  | true =>
   rw [h1,Bool.true_and,Bool.or_eq_false_iff,decide_eq_false_iff_not,decide_eq_false_iff_not] at ho
   exact YC (Decidable.not_not.mp ho.1) ho.2 n rfl
theorem TW {n:Nat}:∀ {cs:List Nat},cs.length = n -> AllDigits cs -> digitsVal cs < 10 ^ n:=by
 induction n with
 | zero=>intro cs hl _; rw [List.length_eq_zero_iff.mp hl]; decide
 | succ n ih =>
  intro cs hl hd
  have h0:cs ≠ []:=fun z=>by rw [z] at hl; cases hl
  obtain ⟨ds,c,rfl⟩:∃ ds c,cs = ds ++ [c]:=⟨cs.dropLast,cs.getLast h0,(List.dropLast_concat_getLast h0).symm⟩
  have hc:=hd c (by simp)
  have hl':ds.length = n:=by rw [List.length_append] at hl; simpa using hl
  have i:=ih hl' fun x hx=>hd x (List.mem_append_left _ hx)
  rw [digitsVal_snoc,Nat.pow_succ]
  omega
structure W19 (w:Str):Prop where
 asc:∀ c ∈ cl w,c < 128
 len:w.length <= 1996
 few:AllDigits (cl (yO w)) -> (yO w).length <= 60
theorem UV {w:Str} {n:Int} (W:W19 w) (h:rd19 w = some n):-(10 ^ 61) <= n /\ n <= 10 ^ 61:=by
 unfold rd19 at h
 split at h
 ·rename_i ho
  obtain ⟨a,b,c⟩:=tG ho
  have hd:=(Wz a b).1
  have h1:=TW rfl hd
  have h2:=W.few hd
  rw [yZ] at h2
  have h3:digitsVal (cl (yO w)) < 10 ^ 60:=Nat.lt_of_lt_of_le h1 (Nat.pow_le_pow_right (by decide) h2)
  rw [← Option.some.inj h]
  unfold UU
  split <;> omega
 ·cases h
def jZ (s:Nat × Deed) (p:Str × Str):Option (Nat × Deed) :=
 match rd19 p.2 with
 | none=>none
 | some n =>
  if p.1 = S18 "add" then (if s.1 = 0 /\ n ≠ 0 then some (1,⟨n,s.2.lo,s.2.hi⟩) else none)
  else if p.1 = S18 "low" then (if s.1 <= 1 then some (2,⟨s.2.add,some n,s.2.hi⟩) else none)
  else if p.1 = S18 "high" then (if s.1 <= 2 then some (3,⟨s.2.add,s.2.lo,some n⟩) else none)
  else none
def rg:List (Str × Str) -> Nat × Deed -> Option (Nat × Deed)
 | [],s=>some s
 | p :: r,s=>match jZ s p with
  | none=>none
  | some s'=>rg r s'
def lt19:Option Int -> Option Int -> Bool
 | some l,some h=>decide (l < h)
 | _,_=>true
def pr19 (ps:List (Str × Str)):Option Deed:=match rg ps (0,⟨0,none,none⟩) with
 | none=>none
 | some s=>if lt19 s.2.lo s.2.hi = true then some s.2 else none
def pw19 (p:Str × Int):Str × Str:=(p.1,zq p.2)
theorem Vz {j:Nat} {d:Deed} {p:Str × Str} {j':Nat} {d':Deed} (h:jZ (j,d) p = some (j',d')) (i0:j = 0 -> d.add = 0) (i1:j <= 1 -> d.lo = none) (i2:j <= 2 -> d.hi = none) :
  (j' = 0 -> d'.add = 0) /\ (j' <= 1 -> d'.lo = none) /\ (j' <= 2 -> d'.hi = none) /\ (zL d').map pw19 = (zL d).map pw19 ++ [p]:=by
 unfold jZ at h
 obtain ⟨ad,lo,hi⟩:=d
 obtain ⟨k,x⟩:=p
 cases hr:rd19 x with
 | none=>simp only [hr] at h; cases h
 | some n =>
  simp only [hr] at h
  have ex:=qm hr
  split at h
  ·rename_i hk
   split at h
   ·rename_i hc
    cases h
    have e1:ad = 0:=i0 hc.1
    have e2:lo = none:=i1 (by omega)
    have e3:hi = none:=i2 (by omega)
    subst e1 e2 e3
    refine ⟨fun z=>absurd z (by decide),fun _=>rfl,fun _=>rfl,?_⟩
    unfold zL wJ wW
    simp only [if_neg hc.2,hk,ex,pw19,Option.toList_none,List.map_nil,List.append_nil,List.map_cons,List.nil_append,if_pos]
   ·cases h
  ·split at h
   ·rename_i hk
    split at h
    ·rename_i hc
     cases h
     have e2:lo = none:=i1 hc
     have e3:hi = none:=i2 (by omega)
     subst e2 e3
     refine ⟨fun z=>absurd z (by decide),fun z=>absurd z (by decide),fun _=>rfl,?_⟩
     unfold zL wJ
     simp only [wW,hk,ex,pw19,Option.toList_none,Option.toList_some,List.map_nil,List.append_nil,List.map_cons,List.map_append]
    ·cases h
   ·split at h
    ·rename_i hk
     split at h
     ·rename_i hc
      cases h
      have e3:hi = none:=i2 hc
      subst e3
      refine ⟨fun z=>absurd z (by decide),fun z=>absurd z (by decide),fun z=>absurd z (by decide),?_⟩
      unfold zL
      simp only [wJ,wW,hk,ex,pw19,Option.toList_none,Option.toList_some,List.map_nil,List.append_nil,List.map_cons,List.map_append]
     ·cases h
    ·cases h
theorem YD:∀ {ps:List (Str × Str)} {j:Nat} {d:Deed} {j':Nat} {d':Deed},rg ps (j,d) = some (j',d') -> (j = 0 -> d.add = 0) -> (j <= 1 -> d.lo = none) -> (j <= 2 -> d.hi = none) -> (zL d').map pw19 = (zL d).map pw19 ++ ps
 | [],j,d,j',d',h,_,_,_=>by cases h; rw [List.append_nil]
 | p :: r,j,d,j',d',h,i0,i1,i2=>by
  unfold rg at h
  cases hs:jZ (j,d) p with
  | none=>simp only [hs] at h; cases h
  | some s =>
   simp only [hs] at h
   obtain ⟨j1,d1⟩:=s
   obtain ⟨a,b,c,e⟩:=Vz hs i0 i1 i2
   rw [YD h a b c,e,List.append_assoc]; rfl
theorem VA (ad:Int) (lo hi:Option Int):∃ j,rg ((zL ⟨ad,lo,hi⟩).map pw19) (0,⟨0,none,none⟩) = some (j,⟨ad,lo,hi⟩):=by
 have n1:S18 "low" ≠ S18 "add":=by decide
 have n2:S18 "high" ≠ S18 "add":=by decide
 have n3:S18 "high" ≠ S18 "low":=by decide
 unfold zL wJ wW
 by_cases ha:ad = 0
 ·subst ha
  cases lo <;> cases hi <;> simp only [if_pos,Option.toList_none,Option.toList_some,List.map_nil,List.append_nil,List.map_cons,List.nil_append,List.map_append,List.cons_append,pw19,rg,jZ,rf,n1,n2,n3,if_false,Nat.zero_le,Nat.le_refl,show (2 <= 2) from Nat.le_refl 2,reduceIte] <;> exact ⟨_,rfl⟩
 ·cases lo <;> cases hi <;> simp only [if_neg ha,Option.toList_none,Option.toList_some,List.map_nil,List.append_nil,List.map_cons,List.nil_append,List.map_append,List.cons_append,pw19,rg,jZ,rf,n1,n2,n3,if_false,if_pos,Nat.zero_le,Nat.le_refl,ne_eq,ha,not_false_eq_true,and_self,show (2 <= 2) from Nat.le_refl 2,show (1 <= 2) from by decide,reduceIte] <;> exact ⟨_,rfl⟩
theorem VB {ps:List (Str × Str)} {d:Deed} (h:pr19 ps = some d):d.Ok /\ ¬ (d.lo ≠ none /\ d.lo = d.hi) /\ ps = (zL d).map pw19:=by
 unfold pr19 at h
 cases hs:rg ps (0,⟨0,none,none⟩) with
 | none=>simp only [hs] at h; cases h
 | some s =>
  obtain ⟨j,e⟩:=s
  simp only [hs] at h
  split at h
  ·rename_i hl
   cases h
   have r:=YD hs (fun _=>rfl) (fun _=>rfl) (fun _=>rfl)
   have hlt:∀ l u,d.lo = some l -> d.hi = some u -> l < u:=fun l u h1 h2=>by
    rw [h1,h2] at hl
    exact of_decide_eq_true hl
   refine ⟨fun l u h1 h2=>.inl (hlt l u h1 h2),fun z=>?_,?_⟩
   ·cases hlo:d.lo with
    | none=>exact z.1 hlo
    | some l=>have:=hlt l l hlo (by rw [← z.2,hlo]); omega
   ·rw [r]; rfl
  ·cases h
theorem UW {d:Deed} (od:d.Ok) (hn:¬ (d.lo ≠ none /\ d.lo = d.hi)):pr19 ((zL d).map pw19) = some d:=by
 obtain ⟨ad,lo,hi⟩:=d
 obtain ⟨j,e⟩:=VA ad lo hi
 unfold pr19
 simp only [e]
 rw [if_pos]
 cases lo with
 | none=>rfl
 | some l =>
  cases hi with
  | none=>rfl
  | some u =>
   refine decide_eq_true ?_
   rcases od l u rfl rfl with c | ⟨c,_⟩
   ·exact c
   ·exact absurd ⟨by simp,by rw [c]⟩ hn
def j2 {α:Type}:List α -> List (α × α)
 | a :: b :: r=>(a,b) :: j2 r
 | _=>[]
def lr19 (w:Str):Option Deed :=
 if w = S18 "look" then some ⟨0,none,none⟩
 else if (Txt.split w (S18 " ")).length % 2 = 1 then none
 else if (Txt.split w (S18 " "))[0]? = some (S18 "set") /\ (Txt.split w (S18 " ")).length = 2 then ((Txt.split w (S18 " "))[1]?.bind rd19).map fun n=>⟨0,some n,some n⟩
 else pr19 (j2 (Txt.split w (S18 " ")))
theorem jp:∀ {ws:List Str},ws.length % 2 ≠ 1 -> ∀ {ps:List (Str × Int)},j2 ws = ps.map pw19 -> ws = yS ps
 | [],_,[],_=>rfl
 | [],_,_ :: _,h=>by cases h
 | [_],h,_,_=>absurd rfl h
 | a :: b :: r,h,[],e=>by cases e
 | a :: b :: r,h,p :: ps,e=>by
  obtain ⟨e1,e2⟩:=List.cons.inj (show (a,b) :: j2 r = pw19 p :: ps.map pw19 from e)
  have:=jp (ws:=r) (by simp only [List.length_cons] at h; omega) e2
  cases e1
  show p.1 :: zq p.2 :: r = p.1 :: zq p.2 :: yS ps
  rw [this]
theorem YE:∀ ps:List (Str × Int),j2 (yS ps) = ps.map pw19
 | []=>rfl
 | p :: ps=>by
  show (p.1,zq p.2) :: j2 (yS ps) = _
  rw [YE ps]; rfl
theorem YF {d:Deed} {w:Str} (h:Txt.split w (S18 " ") = yS (yj d)) (he:(yj d).isEmpty = false):xA d = w:=by
 unfold xA
 rw [he,if_neg (by decide),jl,← h]
 exact StrLaws.join_split w (S18 " ")
theorem qo (w:Str):Txt.split w (S18 " ") ≠ []:=fun z=>by
 have:=split_pos w (S18 " ")
 rw [z] at this
 exact absurd this (by decide)
theorem tH {w:Str} {d:Deed} (h:lr19 w = some d):d.Ok /\ xA d = w:=by
 unfold lr19 at h
 split at h
 ·rename_i e
  cases h
  exact ⟨fun l h z=>(by cases z),by rw [e]; rfl⟩
 ·split at h
  ·cases h
  ·rename_i hev
   split at h
   ·rename_i hset
    obtain ⟨n,hn,rfl⟩:=Option.map_eq_some_iff.mp h
    refine ⟨fun l u h1 h2=>.inr ⟨by cases h1; cases h2; rfl,rfl⟩,?_⟩
    generalize hws:Txt.split w (S18 " ") = ws at hset hn
    match ws,hset,hn with
    | [a,b],hset,hn =>
     have e1:a = S18 "set":=Option.some.inj hset.1
     have e2:b = zq n:=qm hn
     subst e1 e2
     have hp:yj ⟨0,some n,some n⟩ = [(S18 "set",n)]:=if_pos ⟨by simp,rfl⟩
     exact YF (by rw [hws,hp]; rfl) (by rw [hp]; rfl)
    | [],hset,_=>exact absurd hset.2 (by decide)
    | [_],hset,_=>exact absurd hset.2 (by simp)
    | _ :: _ :: _ :: _,hset,_=>exact absurd hset.2 (by simp)
   ·obtain ⟨ok,hn,hp⟩:=VB h
    have e:=jp hev hp
    refine ⟨ok,YF (by rw [xI hn]; exact e) ?_⟩
    rw [xI hn]
    cases hq:zL d with
    | nil=>rw [hq] at e; exact absurd e (qo w)
    | cons=>rfl
theorem UX {d:Deed} (od:d.Ok):lr19 (xA d) = some d:=by
 unfold lr19
 cases he:(yj d).isEmpty with
 | true=>rw [jo he]; exact if_pos rfl
 | false =>
  rw [if_neg (jY he),ub he,tE,if_neg (by omega)]
  by_cases hset:d.lo ≠ none /\ d.lo = d.hi
  ·have e:yj d = [(S18 "set",d.lo.getD 0)]:=if_pos hset
   rw [e,if_pos ⟨rfl,rfl⟩]
   show ((rd19 (zq (d.lo.getD 0))).map _) = _
   rw [rf]
   obtain ⟨ad,lo,hi⟩:=d
   cases lo with
   | none=>exact absurd rfl hset.1
   | some z =>
    have eh:hi = some z:=hset.2.symm
    subst eh
    have ha:ad = 0:=by
     rcases od z z rfl rfl with c | ⟨_,c⟩
     ·omega
     ·exact c
    subst ha
    rfl
  ·rw [xI hset] at he ⊢
   obtain ⟨p,r,ep,hne⟩:=wL he
   rw [if_neg,YE,UW od hset]
   rintro ⟨z,_⟩
   rw [ep] at z
   exact (of_decide_eq_false hne) (congrArg V.str (Option.some.inj (show some p.1 = some (S18 "set") from z)))
theorem uS {c:Nat} {l:List Nat} (hc:c ∈ l):∀ {ls:List (List Nat)},l ∈ ls -> c ∈ xf ls
 | x :: r,h=>by
  rw [xT]
  rcases List.mem_cons.mp h with rfl | h
  ·exact List.mem_append_left _ hc
  ·refine List.mem_append_right _ ?_
   cases r with
   | nil=>cases h
   | cons y r=>exact List.mem_cons_of_mem _ (uS hc h)
theorem rh:∀ {ls:List (List Nat)} {l:List Nat},l ∈ ls -> ∃ a b,xf ls = a ++ (l ++ b)
 | x :: r,l,h=>by
  rw [xT]
  rcases List.mem_cons.mp h with rfl | h
  ·exact ⟨[],_,rfl⟩
  ·cases r with
   | nil=>cases h
   | cons y r =>
    obtain ⟨a,b,e⟩:=rh h
    exact ⟨x ++ 32 :: a,b,by show x ++ 32 :: xf (y :: r) = _; rw [e,List.append_assoc]; rfl⟩
theorem tI (w:Str):cl w = xf ((Txt.split w (S18 " ")).map cl):=by
 rw [← wo]
 exact congrArg cl (StrLaws.join_split w (S18 " ")).symm
structure T19 (n:Nat) (w:Str):Prop where
 asc:∀ c ∈ cl w,c < 128
 len:w.length <= n
theorem YG:∀ {ls:List (List Nat)} {l:List Nat},l ∈ ls -> l.length <= (xf ls).length:=by
 intro ls l h
 obtain ⟨a,b,e⟩:=rh h
 rw [e,List.length_append,List.length_append]; omega
theorem YH {n:Nat} {w p:Str} (h:T19 n w) (hp:p ∈ Txt.split w (S18 " ")):T19 n p:=by
 have hm:cl p ∈ (Txt.split w (S18 " ")).map cl:=List.mem_map_of_mem hp
 refine ⟨fun c hc=>h.asc c (by rw [tI w]; exact uS hc hm),?_⟩
 rw [yZ]
 refine Nat.le_trans (YG hm) ?_
 rw [← tI w,← yZ]
 exact h.len
def wt19 (ws:List Str):Nat:=(ws.map fun w=>w.length + 1).sum
theorem jq:∀ {ls:List (List Nat)},ls ≠ [] -> (xf ls).length + 1 = (ls.map fun l=>l.length + 1).sum
 | [],h=>absurd rfl h
 | [x],_=>by simp [xf]
 | x :: y :: r,_=>by
  have i:=jq (ls:=y :: r) (by simp)
  show (x ++ 32 :: xf (y :: r)).length + 1 = _
  rw [List.map_cons,List.sum_cons,← i,List.length_append,List.length_cons]; omega
theorem TX (ws:List Str):((ws.map cl).map fun l=>l.length + 1).sum = wt19 ws:=by
 unfold wt19
 rw [List.map_map]
 congr 1
theorem XO (w:Str):wt19 (Txt.split w (S18 " ")) = w.length + 1:=by
 rw [← TX,← jq (by simpa using qo w),← tI,← yZ]
theorem WB:∀ ws:List Str,ws.length <= wt19 ws
 | []=>Nat.le_refl _
 | w :: ws=>by have:=WB ws; unfold wt19 at *; rw [List.map_cons,List.sum_cons,List.length_cons]; omega
structure Ws19 (n:Nat) (ws:List Str):Prop where
 asc:∀ w ∈ ws,∀ c ∈ cl w,c < 128
 len:wt19 ws <= n
theorem YI (w:Str):(yO w).length <= w.length:=by
 rcases YA w with ⟨r,h1,h2⟩ | ⟨_,h2⟩
 ·rw [yZ,yZ,h1,show cl (yO w) = r from h2,List.length_cons]; omega
 ·rw [show yO w = w from h2]; exact Nat.le_refl _
def spX1 (f:V -> Hp -> VK -> XK -> Prop):Sp:=fun vs H Q E=>∃ x,vs = [x] /\ f x H Q E
def spX2 (f:V -> V -> Hp -> VK -> XK -> Prop):Sp:=fun vs H Q E=>∃ x y,vs = [x,y] /\ f x y H Q E
theorem wM {f:V -> Hp -> VK -> XK -> Prop} {p:Str}:∀ vs H Q E,spX1 f vs H Q E -> vs.length = [p].length:=by rintro vs H Q E ⟨x,rfl,_⟩; rfl
theorem xU {f:V -> V -> Hp -> VK -> XK -> Prop} {p q:Str}:∀ vs H Q E,spX2 f vs H Q E -> vs.length = [p,q].length:=by rintro vs H Q E ⟨x,y,rfl,_⟩; rfl
def ud (P:Program) (w:World) (K:FG7) (mg:Str -> Option Value) (base:Heap) (C:Addr) (k:Nat) (ps:List Str) (sp:Sp):Prop :=
 ∃ (j:Nat) (f:Addr) (fd:FuncData),j + 1 = k /\ FnOk P w K mg base (CX1 P w) j f fd ps sp /\ wQ K fd ps [] /\ Mk K C f
section
variable {P:Program} {w:World} {K:FG7} {mg:Str -> Option Value} {base:Heap} {C:Addr} {j k:Nat} {m:Str} {ps:List Str} {sp:Sp}
theorem ud.mono (c:ud P w K mg base C j ps sp) (h:j <= k):ud P w K mg base C k ps sp:=by
 obtain ⟨i,f,fd,e,F,b,mt⟩:=c
 exact ⟨k - 1,f,fd,by omega,F.mono (by omega),b,mt⟩
end
theorem T19.mono {n k:Nat} {w:Str} (h:T19 n w) (hk:n <= k):T19 k w:=⟨h.asc,Nat.le_trans h.len hk⟩
theorem jr {n:Nat} (h:n <= 5000):n <= sizeLine:=Nat.le_trans h (by decide)
theorem UY {n:Nat} (h:n <= 5000):n < sizeLine:=Nat.lt_of_le_of_lt h (by decide)
theorem XQ {l:List Nat} {c:Nat} (h:l.head? = some c):atI l 0 = some c:=by
 cases l with
 | nil=>cases h
 | cons a r=>cases h; exact ya (j:=0) rfl
theorem UZ {w:Str} (h:(Txt.isascii (yO w) && Txt.isdigit (yO w)) = true) (hn:rd19 w = none):(cl (yO w)).head? = some 48 /\ w ≠ S18 "0":=by
 unfold rd19 at hn
 split at hn
 ·cases hn
 ·rename_i ho
  unfold ok19 at ho
  rw [h,Bool.true_and,Bool.or_eq_true,decide_eq_true_eq,decide_eq_true_eq,not_or] at ho
  exact ⟨Decidable.not_not.mp ho.1,ho.2⟩
def OutD (K:FG7) (H:Hp) (y:V):Option Deed -> Prop
 | none=>y = .non
 | some d=>yv K H y d
def XR:PyData -> Option Deed
 | .str w=>lr19 w
 | _=>none
def D19 (dd:PyData):Prop:=∀ w,dd = .str w -> T19 994 w /\ ∀ p ∈ Txt.split w (S18 " "),W19 p
def VC (K:FG7) (H:Hp) (rs:List V) (ps:List (Str × Str)):Prop:=rs.length = ps.length /\ ∀ (i:Nat) (p:Str × Str),ps[i]? = some p -> ∃ t:Addr,rs[i]? = some (V.ref t) /\ SqT K H t [V.str p.1,V.str p.2]
def uT (_:FG7):Sp:=sp1 fun x H Q=>∃ w,x = .str w /\ W19 w /\ Q (ov (rd19 w)) H
def ju (K:FG7):Sp:=sp1 fun x H Q=>∃ ws a,x = .ref a /\ SqL K H a (ws.map V.str) /\ ws ≠ [] /\ ws.length <= 1997 /\ (∀ w ∈ ws,W19 w) ∧
 ∀ y H' o,Grow [] H H' -> OutD K H' y o -> (∀ e,o = some e -> e.Bd (10 ^ 61)) -> (∀ d:Deed,d.Ok -> (yj d).isEmpty = false -> ws = yS (yj d) -> o = some d) -> Q y H'
def wX (A:Addr) (K:FG7):Sp:=spX1 fun x H Q E=>∃ dd m,Od K m H x dd /\ D19 dd /\ (∀ y H' d,XR dd = some d -> Grow [] H H' -> yv K H' y d -> Q y H') /\ (XR dd = none -> ∀ e H',Grow [] H H' -> E (.ref e) (some A) H')
theorem uU {α β:Type} (f:α -> β) (ks:List Nat) (xs:List α):yH ks (xs.map f) = (yH ks xs).map f:=by
 unfold yH
 induction ks with
 | nil=>rfl
 | cons k ks ih =>
  rw [List.filterMap_cons,List.filterMap_cons,List.getElem?_map]
  cases xs[k]? with
  | none=>exact ih
  | some x=>exact congrArg (f x :: ·) ih
theorem uV {α:Type} {ks:List Nat} {xs:List α} {x:α} (h:x ∈ yH ks xs):x ∈ xs:=by
 obtain ⟨k,_,hk⟩:=List.mem_filterMap.mp h
 exact List.mem_of_getElem? hk
theorem wY {α:Type} {xs:List α}:∀ {ks:List Nat},(∀ k ∈ ks,k < xs.length) -> (yH ks xs).length = ks.length
 | [],_=>rfl
 | k :: ks,h=>by
  have i:=wY (xs:=xs) (ks:=ks) fun j hj=>h j (List.mem_cons_of_mem _ hj)
  unfold yH at i ⊢
  rw [List.filterMap_cons,List.getElem?_eq_getElem (h k (List.mem_cons_self ..))]
  exact congrArg (· + 1) i
def os19 (ws:List Str):List Str:=yH (evIx 1 ws.length) ws
def es19 (ws:List Str):List Str:=yH (evIx 0 ws.length) ws
theorem U0 (ws:List Str):(os19 ws).length = ws.length / 2:=by
 unfold os19
 rw [wY]
 ·unfold evIx; rw [List.length_map,List.length_range]; omega
 ·intro k hk
  obtain ⟨j,hj,rfl⟩:=List.mem_map.mp hk
  have:=List.mem_range.mp hj
  omega
theorem U1 (ws:List Str):(es19 ws).length = (ws.length + 1) / 2:=by
 unfold es19
 rw [wY]
 ·unfold evIx; rw [List.length_map,List.length_range]; omega
 ·intro k hk
  obtain ⟨j,hj,rfl⟩:=List.mem_map.mp hk
  have:=List.mem_range.mp hj
  omega
theorem WC (ws:List Str):yH (evIx 1 (ws.map V.str).length) (ws.map V.str) = (os19 ws).map V.str:=by rw [uU,List.length_map]; rfl
theorem WD (ws:List Str):yH (evIx 0 (ws.map V.str).length) (ws.map V.str) = (es19 ws).map V.str:=by rw [uU,List.length_map]; rfl
theorem wZ:∀ {a b:List Str},a.map V.str = b.map V.str -> a = b
 | [],[],_=>rfl
 | [],_ :: _,h=>by cases h
 | _ :: _,[],h=>by cases h
 | x :: a,y :: b,h=>by
  obtain ⟨h1,h2⟩:=List.cons.inj h
  rw [V.str.inj h1,wZ h2]
theorem WE {ps:List (Str × Int)} (h:ps.length <= 3):os19 (yS ps) = ps.map fun p=>zq p.2:=by
 refine wZ ?_
 rw [← WC,XL h,List.map_map]; rfl
theorem U2 {ps:List (Str × Int)} (h:ps.length <= 3):es19 (yS ps) = ps.map (·.1):=by
 refine wZ ?_
 rw [← WD,XM h]
def ns19 (ws:List Str):List Int:=(os19 ws).map fun w=>(rd19 w).getD 0
theorem WF {ps:List (Str × Int)} (h:ps.length <= 3):ns19 (yS ps) = ps.map (·.2):=by
 unfold ns19
 rw [WE h,List.map_map]
 refine List.map_congr_left fun p _=>?_
 show (rd19 (zq p.2)).getD 0 = p.2
 rw [rf]; rfl
def qp (ws:List Str):Bool:=((os19 ws).any fun w=>(rd19 w).isNone) || !decide (ws.length = 2 * (os19 ws).length)
theorem VD {ps:List (Str × Int)} (h:ps.length <= 3):qp (yS ps) = false:=by
 unfold qp
 rw [WE h,Bool.or_eq_false_iff]
 constructor
 ·rw [List.any_map,List.any_eq_false]
  intro p _
  show ¬ (rd19 (zq p.2)).isNone = true
  rw [rf]; intro z; cases z
 ·rw [tE,List.length_map,decide_eq_true rfl]; rfl
theorem rj:∀ os:List Str,(os.map fun w=>ov (rd19 w)).all xo = true
 | []=>rfl
 | w :: os=>by
  rw [List.map_cons,List.all_cons,rj os]
  cases rd19 w <;> rfl
theorem tJ:∀ os:List Str,inV .non (os.map fun w=>ov (rd19 w)) = os.any fun w=>(rd19 w).isNone
 | []=>rfl
 | w :: os=>by
  have:=tJ os
  unfold inV at this ⊢
  rw [List.map_cons,List.any_cons,List.any_cons,this]
  cases rd19 w <;> rfl
theorem WG:∀ {os:List Str},(os.any fun w=>(rd19 w).isNone) = false -> (os.map fun w=>ov (rd19 w)) = (os.map fun w=>(rd19 w).getD 0).map V.int
 | [],_=>rfl
 | w :: os,h=>by
  rw [List.any_cons,Bool.or_eq_false_iff] at h
  rw [List.map_cons,WG h.2,List.map_cons,List.map_cons]
  cases hw:rd19 w with
  | none=>rw [hw] at h; exact absurd h.1 (by decide)
  | some n=>rfl
theorem TY {ws:List Str} (h:∀ w ∈ ws,W19 w):∀ n ∈ ns19 ws,-(10 ^ 61) <= n /\ n <= 10 ^ 61:=by
 intro n hn
 obtain ⟨w,hw,rfl⟩:=List.mem_map.mp hn
 cases hr:rd19 w with
 | none=>exact ⟨by decide,by decide⟩
 | some m=>exact UV (h w (uV hw)) hr
def gI19 (D:List (Key × V)) (k:Key):Option Int:=match valV D k with
 | some (.int i)=>some i
 | _=>none
theorem U3 {ns:List Int}:∀ (l:List (Str × V)) (D:List (Key × V)),(∀ p ∈ l,∃ i ∈ ns,p.2 = V.int i) -> (∀ k v,valV D k = some v -> ∃ i ∈ ns,v = V.int i) -> ∀ k v,valV (l.foldl (fun d p=>putK d (Sum.inr p.1) p.2) D) k = some v -> ∃ i ∈ ns,v = V.int i
 | [],D,_,hD=>hD
 | p :: l,D,hl,hD=>by
  refine U3 l _ (fun q hq=>hl q (List.mem_cons_of_mem _ hq)) fun k v h=>?_
  rw [yc] at h
  split at h
  ·rw [← Option.some.inj h]; exact hl p (List.mem_cons_self ..)
  ·exact hD k v h
theorem WH {es:List Str} {ns:List Int} {k:Key} {v:V} (h:valV (yi es (ns.map V.int)) k = some v):∃ i ∈ ns,v = V.int i:=by
 refine U3 (ns:=ns) (es.zip (ns.map V.int)) [] (fun p hp=>?_) (fun k v h=>by cases h) k v h
 obtain ⟨i,hi,e⟩:=List.mem_map.mp (List.of_mem_zip hp).2
 exact ⟨i,hi,e.symm⟩
theorem jv (es:List Str) (ns:List Int) (k:Key):valV (yi es (ns.map V.int)) k = (gI19 (yi es (ns.map V.int)) k).map V.int:=by
 unfold gI19
 cases h:valV (yi es (ns.map V.int)) k with
 | none=>rfl
 | some v=>obtain ⟨i,_,rfl⟩:=WH h; rfl
theorem YJ {es:List Str} {ns:List Int} {k:Key} {i:Int} (h:gI19 (yi es (ns.map V.int)) k = some i):i ∈ ns:=by
 have e:=jv es ns k
 rw [h] at e
 obtain ⟨j,hj,z⟩:=WH e
 rw [V.int.inj z]; exact hj
def dz19 (es:List Str) (ns:List Int):Deed:=⟨(gI19 (yi es (ns.map V.int)) (Sum.inr (S18 "add"))).getD 0,gI19 (yi es (ns.map V.int)) (Sum.inr (S18 "low")),gI19 (yi es (ns.map V.int)) (Sum.inr (S18 "high"))⟩
theorem WI (es:List Str) (ns:List Int):(valV (yi es (ns.map V.int)) (Sum.inr (S18 "add"))).getD (.int 0) = .int (dz19 es ns).add:=by
 rw [jv]
 show _ = V.int ((gI19 _ _).getD 0)
 cases gI19 (yi es (ns.map V.int)) (Sum.inr (S18 "add")) <;> rfl
theorem WJ (es:List Str) (ns:List Int):(valV (yi es (ns.map V.int)) (Sum.inr (S18 "low"))).getD .non = ov (dz19 es ns).lo:=by
 rw [jv]
 show _ = ov (gI19 _ _)
 cases gI19 (yi es (ns.map V.int)) (Sum.inr (S18 "low")) <;> rfl
theorem YK (es:List Str) (ns:List Int):(valV (yi es (ns.map V.int)) (Sum.inr (S18 "high"))).getD .non = ov (dz19 es ns).hi:=by
 rw [jv]
 show _ = ov (gI19 _ _)
 cases gI19 (yi es (ns.map V.int)) (Sum.inr (S18 "high")) <;> rfl
theorem TZ {es:List Str} {ns:List Int} (h:∀ n ∈ ns,-(10 ^ 61) <= n /\ n <= 10 ^ 61):(dz19 es ns).Bd (10 ^ 61):=by
 refine ⟨?_,fun l hl=>h l (YJ hl),fun u hu=>h u (YJ hu)⟩
 show -(10 ^ 61) <= (gI19 _ _).getD 0 /\ (gI19 _ _).getD 0 <= 10 ^ 61
 cases hg:gI19 (yi es (ns.map V.int)) (Sum.inr (S18 "add")) with
 | none=>exact ⟨by decide,by decide⟩
 | some i=>exact h i (YJ hg)
theorem jw {a b:Option Int} (z:ov a = ov b):a = b:=by
 cases a <;> cases b <;> first | rfl | (cases z; rfl) | (cases z; done)
theorem U4 (d:Deed):dz19 ((zL d).map (·.1)) ((zL d).map (·.2)) = d:=by
 obtain ⟨ad,lo,hi⟩:=d
 have e:((zL ⟨ad,lo,hi⟩).map (·.2)).map V.int = (zL ⟨ad,lo,hi⟩).map fun p=>V.int p.2:=by rw [List.map_map]; rfl
 have g1:=WI ((zL ⟨ad,lo,hi⟩).map (·.1)) ((zL ⟨ad,lo,hi⟩).map (·.2))
 have g2:=WJ ((zL ⟨ad,lo,hi⟩).map (·.1)) ((zL ⟨ad,lo,hi⟩).map (·.2))
 have g3:=YK ((zL ⟨ad,lo,hi⟩).map (·.1)) ((zL ⟨ad,lo,hi⟩).map (·.2))
 rw [e,Vx] at g1
 rw [e,Vy] at g2
 rw [e,XN] at g3
 have h1:=V.int.inj g1
 have h2:=jw g2
 have h3:=jw g3
 generalize dz19 _ _ = z at h1 h2 h3 ⊢
 obtain ⟨a,b,c⟩:=z
 rw [h1,h2,h3]
theorem VE {d:Deed} (od:d.Ok) (he:(yj d).isEmpty = false) (h:(yS (yj d))[0]? = some (S18 "set")):∃ z,d = ⟨0,some z,some z⟩ /\ yj d = [(S18 "set",z)]:=by
 by_cases hset:d.lo ≠ none /\ d.lo = d.hi
 ·have e:yj d = [(S18 "set",d.lo.getD 0)]:=if_pos hset
  obtain ⟨ad,lo,hi⟩:=d
  cases lo with
  | none=>exact absurd rfl hset.1
  | some z =>
   have eh:hi = some z:=hset.2.symm
   subst eh
   have ha:ad = 0:=by
    rcases od z z rfl rfl with c | ⟨_,c⟩
    ·omega
    ·exact c
   subst ha
   exact ⟨z,rfl,e⟩
 ·exfalso
  rw [xI hset] at he h
  obtain ⟨p,r,ep,hne⟩:=wL he
  rw [ep] at h
  exact (of_decide_eq_false hne) (congrArg V.str (Option.some.inj (show some p.1 = some (S18 "set") from h)))
theorem j3 {d:Deed} (h:(yS (yj d))[0]? ≠ some (S18 "set")):yj d = zL d:=by
 by_cases hset:d.lo ≠ none /\ d.lo = d.hi
 ·have e:yj d = [(S18 "set",d.lo.getD 0)]:=if_pos hset
  rw [e] at h
  exact absurd rfl h
 ·exact xI hset
theorem VC.grow {K:FG7} {H H':Hp} {rs:List V} {ps:List (Str × Str)} (h:VC K H rs ps) (g:Grow [] H H'):VC K H' rs ps:=⟨h.1,fun i p hp=>by
 obtain ⟨t,a,b⟩:=h.2 i p hp
 exact ⟨t,a,g.sqT b⟩⟩
def G19 (s:Str):Prop:=s.length <= 100 /\ 0 < s.length /\ ∀ c ∈ cl s,c < 128
instance {s:Str}:Decidable (G19 s):=by unfold G19; infer_instance
theorem Ws19.mono {n k:Nat} {ws:List Str} (h:Ws19 n ws) (hk:n <= k):Ws19 k ws:=⟨h.asc,Nat.le_trans h.len hk⟩
def j4:PyData -> Bool
 | .str _=>true
 | _=>false
theorem YL {K:FG7} (d:PyData):PySem.W.kitOne K (.type (tyD d)) (.type "str") = some (j4 d):=by cases d <;> rfl
theorem T3 {dd:PyData} (h:j4 dd = false):XR dd = none:=by
 cases dd <;> first | rfl | cases h
theorem U5 {K:FG7} {m:List Addr} {H:Hp} {x:V} {dd:PyData} (h:Od K m H x dd) (hs:j4 dd = true):∃ w,dd = .str w /\ x = .str w:=by
 cases h <;> first | exact ⟨_,rfl,rfl⟩ | cases hs
theorem qr {w:Str} {n:Nat} (h:T19 n w):(Txt.split w (S18 " ")).length <= n + 1:=by
 have:=WB (Txt.split w (S18 " "))
 rw [XO] at this
 have:=h.len
 omega
def U6 (h:Heap) (e:Addr):Prop:=∃ o vs,h.get? e = some o /\ o.data = .fields vs /\ vs[2]? = some .none
theorem tK:entryFor table "proto.unchain" = some Builtin.«proto.unchain»:=entryFor_of_fast (by kernel_rfl)
section
variable {prog:Program} {w:World} {A:Around} {E:VS7} {s:Shared}
theorem j5 {e x:Addr} {Q:VS7} (hn:U6 s.heap e) (h:Q .none s):wpAny (model prog w) A (runValue (.builtin "proto.unchain" ⟨[.ref x,.ref e,.ref e,.bool false],[]⟩)) Q E s:=by
 obtain ⟨o,vs,ho,hd,h2⟩:=hn
 refine wpAny_runValue (codeAny_builtin tK ?_)
 show wpAny _ _ (field (.ref e) 2 >>= _) _ _ s
 refine wpAny_bind (wpAny_field ho hd h2 ?_)
 exact wpAny_pure h
end
structure RoomH (k:Nat) (A:Around):Prop where
 dp:A.depth + 3 * k + 5 < recursionLimit
 un:A.units + 16 * k + 200 < cLine
theorem RoomH.mono {j k:Nat} {A:Around} (r:RoomH k A) (h:j <= k):RoomH j A:=⟨by have:=r.dp; omega,by have:=r.un; omega⟩
theorem RoomH.of {k:Nat} {X:Cx} {e:Addr} (r:Room k X.A):RoomH k (handX X e).A:=⟨r.dp,r.un⟩
abbrev cxH (P:Program) (w:World) (K:FG7) (mg:Str -> Option Value) (base:Heap) (N:List Str) (qual:Str) (scope:Scope) (f:Addr) (cd:Value) (A:Around) (outer:List Env) (s:Shared) (H:Hp):Cx :=
 { cxOf CX0 P w K mg base N qual scope f cd A outer s H E0 with calm:=false,xe:=fun _ _=>False }
structure FnOkH (P:Program) (w:World) (K:FG7) (mg:Str -> Option Value) (base:Heap) (k:Nat) (f:Addr) (fd:FuncData) (ps:List Str) (sp:Addr -> Sp):Prop where
 len:∀ e vs H Q E,sp e vs H Q E -> vs.length = ps.length
 run:∀ (A:Around) (outer:List Env) (s:Shared) (H:Hp) (args:Args) (us:List Value) (vs:List V) (Q:VK) (e:Addr),A.handled = some (.ref e) -> RoomH k A -> Env0 P w K mg base A outer s H -> BindsTo s fd args (ps.zip us) -> Vals vs us -> sp e vs H Q E0 →
  codeAny (model P w) A (.call (.ref f) args) (CR CX0 outer P w H s Q E0) s
section
variable {P:Program} {w:World} {K:FG7} {mg:Str -> Option Value} {base:Heap}
theorem j6 {N ps:List Str} {qual:Str} {scope:Scope} {f:Addr} {cd:Value} {A:Around} {outer:List Env} {s s1:Shared} {H:Hp} {us:List Value} {vs:List V}
  (S:FnScope N ps scope) (e0:Env0 P w K mg base A outer s H) (hl:vs.length = ps.length) (r:Vals vs us)
  (x:InCallC s s.heap.objs.size (bindL (envOfC qual scope s.heap.objs.size f cd).kindOf (ps.zip us) fun _=>none) (cellsFrom (s.heap.objs.size + 1) scope.names []) (bindC (envOfC qual scope s.heap.objs.size f cd).kindOf (ps.zip us) fun _=>none) s1) :
  Inv (cxH P w K mg base N qual scope f cd A outer s H) [] (vt N vs) H s1:=by
 have e1:Env0 P w K mg base { A with handled:=none } outer s H:=⟨e0.frames,e0.mod,e0.bs,e0.bsz,e0.funs,e0.frf,e0.hok,e0.bare⟩
 have I:=sh (CX:=CX0) (E:=E0) (A:={ A with handled:=none }) (f:=f) (cd:=cd) (qual:=qual) S rfl e1 hl r x
 exact ⟨⟨I.ok.mod,I.ok.kind,I.ok.glob,I.ok.blt,I.ok.above,I.ok.inj,I.ok.has,I.ok.cab,fun z=>(nomatch z),Around.frames_deeper e0.frames,I.ok.stk,I.ok.exf,I.ok.bs,I.ok.bsz,I.ok.noex,I.ok.exfs,I.ok.funs,I.ok.frf⟩,I.os,I.bare,I.base,I.loc,I.cell,I.free,I.freeC,I.pin,I.hok,I.len⟩
theorem U7 {k:Nat} {x qual:Str} {st:Stmt} {f:Addr} {fd:FuncData} {N ps:List Str} {sp:Addr -> Sp} (F:Fun K x qual st f fd) (S:FnScope N ps (zl st))
  (len:∀ e vs H Q E,sp e vs H Q E -> vs.length = ps.length)
  (hbody:∀ (cdv:Value) (A:Around) (outer:List Env) (s:Shared) (H:Hp) (vs:List V) (Q:VK) (E:XK) (e:Addr),A.handled = some (.ref e) -> RoomH k A -> sp e vs H Q E0 →
   ∃ t,PSs (cxH P w K mg base N qual (zl st) f cdv A outer s H) (xE st) t /\ t { nx:=fun _ H'=>Q .non H',rt:=Q } (vt N vs) H) :
  FnOkH P w K mg base (k + 1) f fd ps sp:=by
 obtain ⟨oc,od,kV,doc,pm,an,cdv,ct,osl,rfl,lk,hcd⟩:=F.ex
 refine ⟨len,fun A outer s H args us vs Q e hh hr e0 hb r hsp=>?_⟩
 have hl:=len _ _ _ _ _ hsp
 have KX:K.In s.heap:=e0.mod.kin.keeps fun b o e=>(e0.bs b o e).1
 have lim:s.heap.NoLimit:=e0.mod.nolimit.keeps fun b o e=>(e0.bs b o e).1
 have hkind:∀ y ∈ ps.zip us,(zl st).names.lookup y.1 = some .local \/ ((zl st).names.lookup y.1 = some .cell /\ ((cellsFrom (s.heap.objs.size + 1) (zl st).names []).lookup y.1).isSome = true):=fun ⟨n,v⟩ hy=>by
  rcases S.par n (List.of_mem_zip hy).1 with q | q
  ·exact .inl q
  ·exact .inr ⟨q,PySem.W.cellsFrom_some _ _ _ (.inl q)⟩
 refine codeAny_call_function (by have:=hr.dp; omega) (KX _ _ lk) rfl S.co S.gen rfl (PySem.W.codeRec_of KX hcd) (hb _ _ _ _ ?_)
 refine wpAny_newFunctionEnv_cells S.kind hkind fun env he s1 x=>?_
 subst he
 refine ⟨lim.keeps x.toInCall.keep,codeAny_func ?_⟩
 obtain ⟨t,ht,hq⟩:=hbody cdv A outer s H vs Q E0 e hh (hr.mono (Nat.le_succ _)) hsp
 have I:=j6 (f:=f) (cd:=cdv) (qual:=qual) S e0 hl r x
 refine wpAny_mono (ht [] s1 (vt N vs) H _ I hq) (fun fl s' hs=>?_) fun e s' hs=>hs.elim
 have fin:∀ {σ':L2.St} {H':Hp} {v:V} {u:Value},Inv (cxH P w K mg base N qual (zl st) f cdv A outer s H) [] σ' H' s' -> RelV v u -> Q v H' -> CE outer P w H s Q u s' :=
  fun {σ' H' v u} J rv q=>⟨v,H',J.os,J.bare,J.base,J.hok,rv,q⟩
 cases fl with
 | ret u =>
  obtain ⟨v,σ',H',J,rv,q⟩:=hs
  exact fin J rv q
 | next =>
  obtain ⟨σ',H',J,q⟩:=hs
  exact fin (v:=V.non) (u:=Value.none) J rfl q
 | brk =>
  obtain ⟨_,_,_,q⟩:=hs
  exact False.elim q
 | cont =>
  obtain ⟨_,_,_,q⟩:=hs
  exact False.elim q
end
def w4 (P:Program) (w:World) (K:FG7) (mg:Str -> Option Value) (base:Heap) (k:Nat) (x:Str) (ps:List Str) (sp:Addr -> Sp):Prop :=
 ∃ (f:Addr) (fd:FuncData),FnOkH P w K mg base k f fd ps sp /\ wQ K fd ps [] /\ PySem.W.keepIn K (.ref f) = true /\ mg x = some (.ref f)
theorem w4.mono {P:Program} {w:World} {K:FG7} {mg:Str -> Option Value} {base:Heap} {j k:Nat} {x:Str} {ps:List Str} {sp:Addr -> Sp} (c:w4 P w K mg base j x ps sp) (h:j <= k):w4 P w K mg base k x ps sp:=by
 obtain ⟨f,fd,F,b,mt⟩:=c
 exact ⟨f,fd,⟨F.len,fun A outer s H args us vs Q e hh hr=>F.run A outer s H args us vs Q e hh (hr.mono h)⟩,b,mt⟩
section
variable {X:Cx} {k:Nat} {x:Str} {ps:List Str} {sp:Addr -> Sp} {e:Expr} {es:List Expr} {t:TA} {pos p:Pos} {e0:Addr}
theorem XS (c:w4 X.prog X.w X.K X.mg X.base k x ps sp) (hh:X.A.handled = some (.ref e0)) (hr:RoomH k X.A) (hg:Gl X x)
  (ha:PA X (e :: es) t) (hdb:(x == ("__debug__":Str)) = false:=by decide) (he:starEach (e :: es) X.env = (false,eval e X.env) :: starEach es X.env:=by rfl) (hpl:(backTo pos (starEach es X.env)).any (·.1) = false:=by rfl) :
  PE X (.Call (.Name x p) (e :: es) [] pos) (jE (sp e0) [] E0 t):=by
 obtain ⟨f,fd,F,hb,hk,hm⟩:=c
 intro pins s σ H Q I h
 refine wpAny_Call_Name_kw (wO I hg hm ?_ hdb)
 refine PySem.W.callWith_K (h₀:=X.base) I.ok.mod.kin hk (thn (ha pos pins s σ H _ I h) fun us s1 ⟨vs,H1,I1,r,q⟩=>⟨I1.kIn,?_⟩) he hpl
 have q':sp e0 vs H1 Q E0:=by rw [← List.append_nil vs]; exact q
 have hl:(us ++ []).length = ps.length:=by rw [List.append_nil,← r.length]; exact F.len _ _ _ _ _ q'
 have hb':=hb s1 us I1.kIn hl
 rw [List.append_nil] at hb'
 refine wpAny_call (codeAny_mono (F.run X.A X.stack s1 H1 ⟨us,[]⟩ us vs Q e0 hh hr I1.env0 hb' r q') fun r s' hq=>?_)
 cases r with
 | error e=>exact hq.elim
 | ok fl =>
  cases fl with
  | ret u=>exact I1.after hq
  | next=>exact False.elim hq
  | brk=>exact False.elim hq
  | cont=>exact False.elim hq
end
def WK (C:Addr) (te:TE):TE:=fun σ H Q=>te σ H fun _ H1=>∀ e,H1 e = none -> Q (.ref e) (upd H1 e (ExO e C))
section
variable {X:Cx} {x:Str} {C:Addr} {np cpos:Pos} {e₀:Expr} {te:TE}
theorem zT (hx:X.ex = []) (O:ExcC X.K X.mg x C) (hg:Gl X x) (he:PE X e₀ te) (hdb:(x == ("__debug__":Str)) = false:=by decide)
  (hst:starEach [e₀] X.env = [(false,eval e₀ X.env)]:=by rfl):PE X (.Call (.Name x np) [e₀] [] cpos) (WK C te):=by
 intro pins s σ H Q I h
 obtain ⟨tl,N,nm,q,bs,hdct,sn,sub,ab,col,dd,k0,k1,k2,k3,k5,mN,hC,hN,hni,T⟩:=(O X.base I.mod.kin).obj
 refine wpAny_Call_ofName (wO I hg (O s.heap I.kIn).bound ?_ hdb)
 unfold callWith
 rw [hst]
 refine wpAny_bind (wpAny_holding (wpAny_mono (Q:=fun a s₂=>∃ (v:Value) (H1:Hp),a = ⟨[v],[]⟩ /\ Inv X pins σ H1 s₂ /\ ∀ e,H1 e = none -> Q (.ref e) (upd H1 e (ExO e C))) ?_ (fun a s₂ h₂=>?_) fun _ _ x=>x))
 ·refine Calls.evalArgs_plain ?_
  show wpAny _ _ (spliced [(false,eval e₀ X.env)]) _ _ s
  refine Calls.spliced_cons (thn (he pins s σ H _ I h) fun v s1 ⟨y,H1,I1,r1,q1⟩=>Calls.spliced_nil ?_)
  exact ⟨v,H1,rfl,I1,q1⟩
 obtain ⟨v,H1,rfl,I1,q1⟩:=h₂
 refine wpAny_bind (wpAny_standAt ?_)
 have hC1:=I1.bk _ _ hC
 have hN1:=hN.keeps I1.bk
 have T1:OwnTail s₂.heap veM tl:=T.keeps I1.bk
 obtain ⟨hp,gg,dd',tk,os⟩:=s₂
 refine wpAny_bind (wpAny_keeperOf_exc hC1 ?_)
 refine wpAny_bind (wpAny_call_exc_subT (hrest:=szl rfl) PySem.F.excBase_ValueError T1 hC1 hN1 hni fun h' e hm=>wpAny_bind (wpAny_holding (wpAny_point (wpAny_pure ?_))))
 obtain ⟨t,ht,_,_⟩:=hm.there
 have he0:H1 e = none:=by
  cases r:H1 e with
  | none=>rfl
  | some o =>
   obtain ⟨ob,z⟩:=yf.at (I1.hok e o r)
   rw [hm.new] at z; cases z
 have I2:=I1.kept (t':=tk) hm.keeps
 exact ⟨.ref e,_,Inv.trackX (C:=C) I2 (ApX.of (H':=H1) I1 hx hm.new hm.new he0 he0) ht rfl rfl rfl,rfl,q1 e he0⟩
end
section
variable {prog:Program} {w:World} {A:Around} {E:VS7} {s:Shared}
theorem w5 {it e:Addr} {x left step:Int} {Q:Option Value -> Shared -> Prop} (hh:A.handled = some (.ref e)) (hn:U6 s.heap e) (hit:IsRangeIter s.heap it x left step) (hleft:left <= 0)
  (hQ:∀ h',Heap.ExtBut it s.heap h' -> Q none { s with heap:=h' }):wpAny (model prog w) A (pyNext (.ref it)) Q E s:=by
 have hT:s.TypeIs (.ref it) "range_iterator":=⟨_,hit,rfl⟩
 unfold pyNext
 refine wpAny_bind (wpAny_attempt (wpAny_callSpecial?_slot (name:=Str.ofString "__next__") hT PySem.F.slot_range_iterator_next
  (wpAny_call_entry PySem.F.slot_range_iterator_next hT PySem.F.entry_range_iterator_next ?_ (PySem.F.args_range_iterator_next_1 _))))
 show wpAny _ _ (field (.ref it) 0 >>= _) _ _ s
 refine wpAny_bind (wpAny_field hit rfl (x:=rawInt x) rfl ?_)
 show wpAny _ _ (field (.ref it) 1 >>= _) _ _ s
 refine wpAny_bind (wpAny_field hit rfl (x:=rawInt left) rfl ?_)
 show wpAny _ _ (field (.ref it) 2 >>= _) _ _ s
 refine wpAny_bind (wpAny_field hit rfl (x:=rawInt step) rfl ?_)
 show wpAny _ _ (if left <= 0 then _ else _) _ _ s
 rw [if_pos hleft]
 refine wpAny_bind (wpAny_rule ?_)
 refine wpAny_bind ?_
 show wpAny _ _ (newExc (.type "StopIteration") [] >>= _) _ _ _
 refine wpAny_bind ?_
 simp only [newExc,newTuple]
 refine wpAny_bind (wpAny_newObj_type ?_ (by size_fits))
 refine wpAny_bind (m:=firstArgMember _ _) (wpAny_of_eq (a:=Value.none) (by first | rfl | (simp only [firstArgMember]; rfl)) ?_)
 refine wpAny_newObj_type ?_ (by size_fits)
 simp only [raiseNew]
 refine wpAny_bind (wpAny_handled ?_)
 rw [show A.in1.handled = some (.ref e) from hh]
 obtain ⟨oe,vs,hoe,hde,h2⟩:=hn
 have e2:=Heap.get?_push_of_some (h:=s.heap) { cls:=Value.type "tuple",data:=Data.seq #[] } hoe
 have lt:=Heap.lt_size e2
 have ext:Heap.ExtBut it s.heap (s.heap.push { cls:=Value.type "tuple",data:=Data.seq #[] }):=(Heap.ExtBut.refl it s.heap).push _
 generalize s.heap.push { cls:=Value.type "tuple",data:=Data.seq #[] } = h2' at e2 lt ext ⊢
 have hne2:Value.ref e ≠ Value.ref h2'.objs.size:=fun z=>Nat.ne_of_lt lt (Value.ref.inj z)
 dsimp only
 rw [if_pos (bne_iff_ne.mpr hne2)]
 generalize hO:({ cls:=Value.type "StopIteration",data:=Data.fields (#[Value.ref s.heap.objs.size,Value.none,Value.none,Value.none,Value.bool false,Value.none] ++ ownMembersOf (Value.type "StopIteration") []) }:Obj) = oS
 have hSd:oS.data = Data.fields (#[Value.ref s.heap.objs.size,Value.none,Value.none,Value.none,Value.bool false,Value.none] ++ ownMembersOf (Value.type "StopIteration") []):=by rw [← hO]
 have hSc:oS.cls = Value.type "StopIteration":=by rw [← hO]
 have e3:=Heap.get?_push_of_some (h:=h2') oS e2
 have eS:(h2'.push oS).get? h2'.objs.size = some oS:=Heap.get?_push_size _ (Obj.isFreed_of_fields hSd)
 refine wpAny_bind (wpAny_holding (j5 ⟨oe,vs,e3,hde,h2⟩ ?_))
 refine wpAny_bind (m:=updateField _ _ _) ?_
 refine wpAny_setField (a:=h2'.objs.size) eS hSd (by rw [Array.size_append]; exact Nat.lt_of_lt_of_le (show 2 < 6 by decide) (Nat.le_add_right 6 _)) (wpAny_throw ?_)
 have e5:=Heap.get?_update_self (Obj.mapFields (·.setIfInBounds 2 (Value.ref e))) eS (Obj.isFreed_of_fields (Obj.data_mapFields hSd _))
 refine wpAny_bind (wpAny_isInstance (T:="StopIteration") (b:=true) ⟨_,e5,(Obj.cls_mapFields ..).trans hSc⟩ isSubtype_stop ?_)
 refine wpAny_pure (hQ _ fun b o' hb ho'=>?_)
 have q:=ext b o' hb ho'
 exact (Heap.get?_update_other _ _ (Nat.ne_of_gt (Heap.lt_size q))).trans (Heap.get?_push_of_some _ q)
end
structure TurnH (e0:Addr) (P:Program) (w:World) (K:FG7) (tg:Expr) (J:It) (fp:List Addr) (it:Addr) (tn:Nat -> Heap -> Prop):Prop where
 obj:∀ i h,tn i h -> ∀ b ∈ fp,∃ o,h.get? b = some o /\ ∀ v,o.data ≠ .cell v
 keep:∀ i h h',tn i h -> (∀ b ∈ fp,∀ o,h.get? b = some o -> h'.get? b = some o) -> tn i h'
 item:∀ (X:Cx),X.prog = P -> X.w = w -> X.K = K -> X.A.handled = some (.ref e0) -> ∀ (i:Nat) (pins:List (Addr × Obj)) (s:Shared) (σ:L2.St) (H:Hp) (E:VS7),Inv X pins σ H s -> (∀ b ∈ fp,FpOk X pins H b) -> tn i s.heap -> J.go i H →
  wpAny (model P w) X.A (pyNext (.ref it)) (fun r s1=>∃ u,r = some u ∧
   wpAny (model P w) X.A (letOwnedTupleGo tg (.ref it) u) (fun _ s2=>∃ x H',Inv X pins σ H' s2 /\ RelV x u /\ J.yld i H x H' /\ tn (i + 1) s2.heap /\ ∀ b ∈ fp,H' b = none) E s1) E s
 done:∀ (X:Cx),X.prog = P -> X.w = w -> X.K = K -> X.A.handled = some (.ref e0) -> ∀ (i:Nat) (pins:List (Addr × Obj)) (s:Shared) (σ:L2.St) (H:Hp) (E:VS7),Inv X pins σ H s -> (∀ b ∈ fp,FpOk X pins H b) -> tn i s.heap -> J.stop i H →
  wpAny (model P w) X.A (pyNext (.ref it)) (fun r s1=>r = none /\ Inv X pins σ H s1) E s
 self:∀ (A:Around) (i:Nat) (s:Shared) (Q:VS7) (E:VS7),tn i s.heap -> Q (.ref it) s -> wpAny (model P w) A (pyIter (.ref it)) Q E s
def PIEH (e0:Addr) (X:Cx) (pins:List (Addr × Obj)) (σ:L2.St) (tg:Expr) (R:It -> Hp -> Prop) (itv:Value) (s2:Shared):Prop :=
 ∃ (it:Addr) (fp:List Addr) (tn:Nat -> Heap -> Prop) (J:It) (H':Hp),itv = .ref it /\ Inv X pins σ H' s2 /\ TurnH e0 X.prog X.w X.K tg J fp it tn /\ tn 0 s2.heap /\ (∀ b ∈ fp,FpOk X pins H' b) /\ R J H'
def PIH (e0:Addr) (X:Cx) (tg iter:Expr) (wi:TI):Prop :=
 ∀ (pins:List (Addr × Obj)) (s:Shared) (σ:L2.St) (H:Hp) (R:It -> Hp -> Prop),Inv X pins σ H s -> wi σ H R →
  wpAny (model X.prog X.w) X.A (eval iter X.env) (fun v s1=>wpAny (model X.prog X.w) X.A (pyIter v) (PIEH e0 X pins σ tg R) X.xe s1) X.xe s
def ItrH (e0:Addr) (lo:Int) (n:Nat):It:={ Itr lo n with stop:=fun i H=>(Itr lo n).stop i H /\ ∃ C,H e0 = some (ExO e0 C) }
theorem qt {P:Program} {w:World} {K:FG7} {tg:Expr} {e0:Addr} (it:Addr) (lo:Int) (n:Nat):TurnH e0 P w K tg (ItrH e0 lo n) [it] it (fun i h=>IsRangeIter h it (lo + (i:Nat) * 1) ((n:Int) - (i:Nat)) 1) where
 obj:=(xL (P:=P) (w:=w) (K:=K) (tg:=tg) it lo n).obj
 keep:=(xL (P:=P) (w:=w) (K:=K) (tg:=tg) it lo n).keep
 self:=(xL (P:=P) (w:=w) (K:=K) (tg:=tg) it lo n).self
 item:=by
  intro X hP hw hK hc i pins s σ H E I hf st hg
  subst hP hw hK
  obtain ⟨f0,f1,f2,f3,f4,f5⟩:=hf it (by simp)
  have hg':i < n:=hg
  refine wpAny_pyNext_range_item st (by omega) fun h' st' kk=>?_
  have I1:Inv X pins σ H { s with heap:=h',toks:=s.toks + 1 }:=I.turned (fun b o hb e=>kk.extBut b o hb e) f0 f1 f3 f4 f5
  have st2:IsRangeIter h' it (lo + ((i + 1:Nat):Int) * 1) ((n:Int) - ((i + 1:Nat):Int)) 1:=by
   have e1:lo + (i:Int) * 1 + 1 = lo + ((i + 1:Nat):Int) * 1:=by omega
   have e2:(n:Int) - (i:Int) - 1 = (n:Int) - ((i + 1:Nat):Int):=by omega
   rw [← e1,← e2]; exact st'
  refine ⟨_,rfl,Y6 (s:={ s with heap:=h',toks:=s.toks + 1 }) (n:="range_iterator") st2 rfl rfl (by decide) ⟨.int (lo + i),H,I1,⟨s.toks,?_⟩,⟨rfl,rfl⟩,st2,fun b hb=>(hf b hb).1⟩⟩
  rw [Int.mul_one]
 done:=by
  intro X hP hw hK hc i pins s σ H E I hf st hg
  subst hP hw hK
  obtain ⟨f0,f1,f2,f3,f4,f5⟩:=hf it (by simp)
  obtain ⟨hg,C,hE⟩:=hg
  obtain ⟨oe,heo,_,ws,hed,hew⟩:=(I.hok e0 _ hE).1
  exact w5 hc ⟨oe,ws,heo,hed,hew⟩ st (by have:n <= i:=hg; omega) fun h' eb=>⟨rfl,I.turned (t':=s.toks) (fun b o hb e=>eb b o hb e) f0 f1 f3 f4 f5⟩
section
variable {X:Cx} {tg:Expr} {e0:Addr}
theorem YM {pins:List (Addr × Obj)} {σ:L2.St} {H:Hp} {s:Shared} {R:It -> Hp -> Prop} {E:VS7} {hi:Int} {t u v:Tok} {tk:Nat} (I:Inv X pins σ H s) (h3:-(2 ^ 62) <= hi) (h4:hi < 2 ^ 62)
  (q:R (ItrH e0 0 hi.toNat) H):wpAny (model X.prog X.w) X.A (pyIter (.ref s.heap.objs.size)) (PIEH e0 X pins σ tg R) E { s with heap:=s.heap.push { cls:=.type "range",data:=.fields #[.int 0 t,.int hi u,.int 1 v] },toks:=tk }:=by
 refine wpAny_pyIter_range (IsRange.new ..) (small_one (by omega) (by omega) h3 h4) ?_
 have I1:Inv X pins σ H { s with heap:=s.heap.push { cls:=.type "range",data:=.fields #[.int 0 t,.int hi u,.int 1 v] },toks:=tk }:=I.kept fun b o e=>Heap.get?_push_of_some _ e
 refine ⟨(s.heap.push { cls:=.type "range",data:=.fields #[.int 0 t,.int hi u,.int 1 v] }).objs.size,[(s.heap.push { cls:=.type "range",data:=.fields #[.int 0 t,.int hi u,.int 1 v] }).objs.size],_,_,H,rfl,
  I1.kept (t':=tk) fun b o e=>Heap.get?_push_of_some _ e,qt _ 0 hi.toNat,?_,fun b hb=>?_,q⟩
 ·have e1:(0:Int) + ((0:Nat):Int) * 1 = 0:=by simp
  have e2:((hi.toNat:Nat):Int) - ((0:Nat):Int) = Builtin.Range.rangeSize 0 hi 1:=by rw [rangeSize_one]; split <;> omega
  show IsRangeIter _ _ ((0:Int) + ((0:Nat):Int) * 1) (((hi.toNat:Nat):Int) - ((0:Nat):Int)) 1
  rw [e1,e2]
  exact Heap.get?_push_size _ rfl
 ·have e:b = (s.heap.push { cls:=.type "range",data:=.fields #[.int 0 t,.int hi u,.int 1 v] }).objs.size:=by simpa using hb
  subst e
  exact I1.fpOk (Nat.le_refl _) (I1.hok.fresh (Nat.le_refl _))
def U8 (e0:Addr) (ta:TA):TI:=fun σ H R=>ta σ H fun vs H1=>∃ j:Int,vs = [.int j] /\ -(2 ^ 62) <= j /\ j < 2 ^ 62 /\ R (ItrH e0 0 j.toNat) H1
theorem j7 {a:Expr} {ta:TA} {p pos:Pos} (hg:Gl X "range") (hm:X.mg "range" = none) (ha:PA X [a] ta) (hs:starEach [a] X.env = [(false,eval a X.env)]:=by rfl):PIH e0 X tg (.Call (.Name "range" p) [a] [] pos) (U8 e0 ta):=by
 intro pins s σ H R I h
 refine Call_ (vg I hg hm boot_range (PyProof.Rows.callWith_type1 (thn (ha pos pins s σ H _ I h) fun us s1 ⟨vs,H1,I1,r1,q1⟩=>?_) hs rfl))
 obtain ⟨j,e,q1,q2,q⟩:=q1
 subst e
 cases r1 with
 | cons r rr =>
  cases rr
  obtain ⟨t,rfl⟩:=r
  exact call_range_1 (YM I1 q1 q2 (by simpa using q))
end
section
variable {X:Cx} {pins:List (Addr × Obj)} {σ:L2.St} {H2:Hp} {s₂:Shared} {it:Addr} {fp:List Addr} {tn:Nat -> Heap -> Prop} {J:It} {scope:Scope} {cl:List (Str × Addr)} {N':List Str} {sub:List (Option Nat)} {e0:Addr}
theorem j8 {C D:Addr} {s₀:Shared} {tg:Expr} {pos:Pos} {elt iter:Expr} {ifs:List Expr} {g:TG} {tt:TT} {te:TE} {Q:VK} {RR:Value -> Addr -> Result -> Shared -> Prop} {W:Nat -> Nat -> List V -> L2.St -> Hp -> Prop}
  (I:Inv X pins σ H2 s₂) (hh:X.A.handled = some (.ref e0)) (T:TurnH e0 X.prog X.w X.K tg J fp it tn) (f2:∀ b ∈ fp,FpOk X pins H2 b) (hfp:∀ b ∈ fp,b < s₂.heap.objs.size)
  (hs₀:∀ b o,s₂.heap.get? b = some o -> s₀.heap.get? b = some o) (hos:s₀.os = s₂.os) (hD:s₂.heap.objs.size <= D) (hC:s₂.heap.objs.size <= C) (hDC:D ≠ C)
  (hcl1:∀ x c,cl.lookup x = some c -> X.env.cells.lookup x = some c)
  (hg:PG (cxC X N' scope cl C D fp s₀ H2) tg g) (ht:PIfs (cxC X N' scope cl C D fp s₀ H2) ifs tt) (he:PE (cxC X N' scope cl C D fp s₀ H2) elt te)
  (turn:∀ i m ys σ' H',W i m ys σ' H' →
   (J.stop i H' /\ ∀ l,H' l = none -> Q (.ref l) (upd H' l (.lst ys))) ∨
   (J.go i H' /\ ∃ Nn:List V -> L2.St -> Hp -> Prop,(∀ zs σ2 H2,Nn zs σ2 H2 -> ∃ m',m' < m /\ W (i + 1) m' zs σ2 H2) ∧
    ∀ x H2,J.yld i H' x H2 -> g x σ' H2 fun σ2 H3=>tt σ2 H3 fun b H4=>if b = true then te σ2 H4 fun y H5=>ys.length < sizeLine /\ Nn (ys ++ [y]) σ2 H5 else Nn ys σ2 H4))
  (hRR:∀ (D C:Addr) (oC:Obj) (m:Str -> Option Value) (s':Shared) (Hf:Hp),Inv X (pins ++ [(C,oC)]) σ Hf s' -> s'.heap.Ns C m -> FpOk X pins Hf C -> Q (.ref D) Hf -> RR (.ref D) C (.ok .next) s')
  (n:Nat) (s:Shared) (h:∃ i ys us k σ' H',Inv (cxC X N' scope cl C D fp s₀ H2) pins σ' H' s /\ tn i s.heap /\ (∀ b ∈ fp,H' b = none) /\ H' D = none ∧
   s.heap.get? D = some { cls:=.type "list",data:=.seq (us:List Value).toArray k } /\ Vals ys us /\ ys.length <= sizeLine /\ W i n ys σ' H') :
  codeAny (model X.prog X.w) X.A (.compLoop (.ListComp elt [⟨tg,iter,ifs,0⟩] scope pos) 0 (.ref it) (.ref D) (compEnvC scope cl C X.env)) (RR (.ref D) C) s:=by
 have frsz:∀ b ∈ frs X.stack,b < s₂.heap.objs.size:=fun b hb=>by
  rcases List.mem_cons.mp (I.stkSub b hb) with z | z
  ·rw [z]; exact I.lt
  ·exact Nat.lt_of_not_le fun q=>I.nofs q z
 have cells:∀ x c,cl.lookup x = some c -> c < s₂.heap.objs.size:=fun x c e=>let ⟨v,q⟩:=I.cell x c (hcl1 x c e); q.lt
 have pinsz:∀ p ∈ X.pn ++ pins,p.1 < s₂.heap.objs.size:=fun p hp=>Heap.lt_size (I.pin p hp).1
 refine sm (fun n s=>∃ i ys us k σ' H',Inv (cxC X N' scope cl C D fp s₀ H2) pins σ' H' s /\ tn i s.heap /\ (∀ b ∈ fp,H' b = none) /\ H' D = none ∧
   s.heap.get? D = some { cls:=.type "list",data:=.seq (us:List Value).toArray k } /\ Vals ys us /\ ys.length <= sizeLine /\ W i n ys σ' H') ?_ n h
 rintro n s ⟨i,ys,us,k,σ',H',I',st',fr,hn,hy,rv,hz,w'⟩
 have pD:Inv (cxC X N' scope cl C D fp s₀ H2) (pins ++ [(D,{ cls:=.type "list",data:=.seq us.toArray k })]) σ' H' s:=I'.pins_of fun p hp=>by
  rcases List.mem_append.mp hp with hp | hp
  ·exact I'.pin p (List.mem_append_right _ hp)
  ·rw [List.mem_singleton.mp hp]
   exact ⟨hy,hn,hDC,fun z=>absurd (Nat.lt_of_lt_of_le (frsz _ z) hD) (Nat.lt_irrefl _),fun v z=>by cases z⟩
 have fpok:∀ {H'':Hp},(∀ b ∈ fp,H'' b = none) -> ∀ b ∈ fp,FpOk (cxC X N' scope cl C D fp s₀ H2) (pins ++ [(D,{ cls:=.type "list",data:=.seq us.toArray k })]) H'' b:=fun hz b hb=>by
  refine ⟨hz b hb,Nat.ne_of_lt (Nat.lt_of_lt_of_le (hfp b hb) hC),fun z=>?_,.inl (List.mem_cons_of_mem _ hb),fun x c e=>(f2 b hb).2.2.2.2.1 x c (hcl1 x c e),fun p hp=>?_⟩
  ·rcases List.mem_cons.mp (I.stkSub b z) with z | z
   ·exact (f2 b hb).2.1 z
   ·exact (f2 b hb).2.2.1 z
  ·rcases List.mem_append.mp hp with hp | hp
   ·exact (f2 b hb).2.2.2.2.2 p (List.mem_append_left _ hp)
   ·rcases List.mem_append.mp hp with hp | hp
    ·exact (f2 b hb).2.2.2.2.2 p (List.mem_append_right _ hp)
    ·rw [List.mem_singleton.mp hp]
     exact Nat.ne_of_gt (Nat.lt_of_lt_of_le (hfp b hb) hD)
 rcases turn i n ys σ' H' w' with ⟨stop,q⟩ | ⟨go,Nn,hN,step⟩
 ·refine thn (T.done (cxC X N' scope cl C D fp s₀ H2) rfl rfl rfl hh i _ s σ' H' (fun _ _=>False) pD (fpok fr) st' stop) fun r s1 ⟨hr,I1⟩=>?_
  subst hr
  have hy1:=(I1.pin (D,{ cls:=.type "list",data:=.seq us.toArray k }) (by simp)).1
  obtain ⟨m,hm,_⟩:=I1.loc
  obtain ⟨oC,es,ep,hoC,hdC,_⟩:=id hm
  obtain ⟨IX,fpc⟩:=u9 I hs₀ hos hD hC hDC f2 I1.unpinned hn hy1 rv hz hoC (by intro v z; rw [hdC] at z; cases z)
  exact hRR D C oC m s1 _ IX hm fpc (q D hn)
 ·refine thn (T.item (cxC X N' scope cl C D fp s₀ H2) rfl rfl rfl hh i _ s σ' H' (fun _ _=>False) pD (fpok fr) st' go) fun r s1 ⟨u,hr,h4⟩=>?_
  subst hr
  refine thn h4 fun _ s2 ⟨x5,H5,I5,r5,y5,st5,fr5⟩=>?_
  have I5':=I5.pinned (fpok fr5) (T.obj _ _ st5)
  refine thn (hg _ s2 σ' H5 x5 u _ I5' r5 (step x5 H5 y5)) fun _ s3 ⟨σ6,H6,I6,q6⟩=>?_
  refine thn (ht _ s3 σ6 H6 _ I6 q6) fun ok s4 ⟨H7,I7,q7⟩=>?_
  have stay:∀ {σ7:L2.St} {H7:Hp} {s7:Shared},Inv (cxC X N' scope cl C D fp s₀ H2) (pins ++ [(D,{ cls:=.type "list",data:=.seq us.toArray k })] ++ x8 fp s2.heap) σ7 H7 s7 →
    (∀ b ∈ fp,∀ o,s2.heap.get? b = some o -> s7.heap.get? b = some o) /\ (∀ b ∈ fp,H7 b = none) /\ H7 D = none /\ s7.heap.get? D = some { cls:=.type "list",data:=.seq us.toArray k }:=fun {σ7 H7 s7} I7=>by
   have d:=I7.pin (D,{ cls:=.type "list",data:=.seq us.toArray k }) (by simp)
   refine ⟨fun b hb o e=>(I7.pin (b,o) (List.mem_append_right _ (List.mem_append_right _ (z9 hb e)))).1,fun b hb=>?_,d.2.1,d.1⟩
   obtain ⟨o,e,_⟩:=T.obj _ _ st5 b hb
   exact (I7.pin (b,o) (List.mem_append_right _ (List.mem_append_right _ (z9 hb e)))).2.1
  cases ok with
  | false =>
   rw [if_neg (by decide)] at q7 ⊢
   obtain ⟨k1,k2,k3,k4⟩:=stay I7
   obtain ⟨m',hm,w7⟩:=hN ys σ6 H7 q7
   exact ⟨m',hm,i + 1,ys,us,k,σ6,H7,I7.unpinned.unpinned,T.keep _ _ _ st5 k1,k2,k3,k4,rv,hz,w7⟩
  | true =>
   rw [if_pos rfl] at q7 ⊢
   refine thn (he _ s4 σ6 H7 _ I7 q7) fun v s5 ⟨y,H8,I8,r8,hl8,n8⟩=>?_
   obtain ⟨k1,k2,k3,k4⟩:=stay I8
   refine wpAny_list_append_plain (l:=D) ⟨k,k4⟩ (fun h' pl sb=>?_) (by rw [List.size_toArray,← rv.length]; exact hz)
   obtain ⟨k',e'⟩:=pl
   obtain ⟨m',hm,w8⟩:=hN _ σ6 H8 n8
   refine ⟨m',hm,i + 1,ys ++ [y],us ++ [v],k',σ6,H8,?_,T.keep _ _ _ (T.keep _ _ _ st5 k1) fun b hb o e=>sb.extBut b o (Nat.ne_of_lt (Nat.lt_of_lt_of_le (hfp b hb) hD)) e,k2,k3,?_,rv.append (.cons r8 .nil),?_,w8⟩
   ·exact (I8.unpinned.unpinned).turned (it:=D) (t':=s5.toks) (h':=h') (fun b o hb e=>sb.extBut b o hb e) k3 hDC (.inl (by simp)) (fun x c e=>Nat.ne_of_lt (Nat.lt_of_lt_of_le (cells x c e) hD)) (fun p hp=>Nat.ne_of_lt (Nat.lt_of_lt_of_le (pinsz p hp) hD))
   ·rw [e']; simp
   ·rw [List.length_append]; exact hl8
theorem rk {tg:Expr} {pos:Pos} {elt iter:Expr} {ifs:List Expr} {g:TG} {tt:TT} {te:TE} {E:VS7} {Q:VK} {RR:Value -> Addr -> Result -> Shared -> Prop}
  (I:Inv X pins σ H2 s₂) (hh:X.A.handled = some (.ref e0)) (T:TurnH e0 X.prog X.w X.K tg J fp it tn) (st:tn 0 s₂.heap) (f2:∀ b ∈ fp,FpOk X pins H2 b)
  (S:CSc X scope N' sub) (hcl1:∀ x c,cl.lookup x = some c -> X.env.cells.lookup x = some c) (hcl2:∀ y ∈ scope.names,y.2 = .free -> ∃ c,cl.lookup y.1 = some c)
  (hg:∀ C D fp s H,PG (cxC X N' scope cl C D fp s H) tg g) (ht:∀ C D fp s H,PIfs (cxC X N' scope cl C D fp s H) ifs tt) (he:∀ C D fp s H,PE (cxC X N' scope cl C D fp s H) elt te)
  (hW:vw J (capt sub σ) H2 g tt te Q)
  (hRR:∀ (D C:Addr) (oC:Obj) (m:Str -> Option Value) (s':Shared) (Hf:Hp),Inv X (pins ++ [(C,oC)]) σ Hf s' -> s'.heap.Ns C m -> FpOk X pins Hf C -> Q (.ref D) Hf -> RR (.ref D) C (.ok .next) s') :
  wpAny (model X.prog X.w) X.A (newList []) (fun acc s₃=>wpAny (model X.prog X.w) X.A (newFunctionEnv scope X.env.globals cl [] X.env.qual none .none (some X.env)) (fun cenv s₄ =>
   codeAny (model X.prog X.w) X.A (.compStart (.ListComp elt [⟨tg,iter,ifs,0⟩] scope pos) 0 (.ref it) acc { cenv with scope:=relabel scope X.env }) (RR acc cenv.locals) s₄) E s₃) E s₂:=by
 obtain ⟨W,⟨m0,w0⟩,turn⟩:=hW
 refine wpAny_newObj_type (wpAny_newFunctionEnv S.nocell (by intro y hy; simp at hy) (fun h₁ hns₁ hsb₁=>?_) S.kind)
 dsimp only at hns₁ hsb₁ ⊢
 have hC:(s₂.heap.push { cls:=.type "list",dict:=none,data:=.seq ([]:List Value).toArray }).objs.size = s₂.heap.objs.size + 1:=Heap.size_push ..
 rw [hC] at hns₁ hsb₁ ⊢
 have hk:∀ b o,(s₂.heap.push { cls:=.type "list",dict:=none,data:=.seq ([]:List Value).toArray }).get? b = some o -> h₁.get? b = some o:=fun b o e =>
  hsb₁.extBut b o (by have:=Heap.lt_size e; rw [hC] at this; exact Nat.ne_of_lt this) (Heap.get?_push_of_some _ e)
 have hfp:∀ b ∈ fp,b < s₂.heap.objs.size:=fun b hb=>by
  obtain ⟨o,e,_⟩:=T.obj _ _ st b hb
  exact Heap.lt_size e
 have I0:=wR (tk:=s₂.toks + ([]:List (Str × Value)).length) I S hcl1 hcl2 f2 hfp hns₁ hk
 have hD0:h₁.get? s₂.heap.objs.size = some { cls:=.type "list",data:=.seq ([]:List Value).toArray 0 }:=hk _ _ (Heap.get?_push_size _ rfl)
 have loop:codeAny (model X.prog X.w) X.A (.compLoop (.ListComp elt [⟨tg,iter,ifs,0⟩] scope pos) 0 (.ref it) (.ref s₂.heap.objs.size) (compEnvC scope cl (s₂.heap.objs.size + 1) X.env)) (RR (.ref s₂.heap.objs.size) (s₂.heap.objs.size + 1)) { s₂ with heap:=h₁,toks:=s₂.toks + ([]:List (Str × Value)).length } :=
  j8 (s₀:={ s₂ with heap:=s₂.heap.push { cls:=.type "list",dict:=none,data:=.seq ([]:List Value).toArray } }) (C:=s₂.heap.objs.size + 1) (D:=s₂.heap.objs.size) I hh T f2 hfp (fun b o e=>Heap.get?_push_of_some _ e) rfl (Nat.le_refl _) (Nat.le_succ _) (Nat.ne_of_lt (Nat.lt_succ_self _)) hcl1 (hg _ _ _ _ _) (ht _ _ _ _ _) (he _ _ _ _ _) turn hRR m0 _
   ⟨0,[],[],0,capt sub σ,H2,I0,T.keep _ _ _ st fun b hb o e=>hk b o (Heap.get?_push_of_some _ e),fun b hb=>(f2 b hb).1,I.hok.fresh (Nat.le_refl _),hD0,.nil,Nat.zero_le _,w0⟩
 exact codeAny_compStart_list loop (T.self _ _ _ _ _ (T.keep _ _ _ st fun b hb o e=>hk b o (Heap.get?_push_of_some _ e)) loop)
end
section
variable {X:Cx} {scope:Scope} {N':List Str} {sub:List (Option Nat)} {tg:Expr} {pos:Pos} {elt iter:Expr} {ifs:List Expr} {wi:TI} {g:TG} {tt:TT} {te:TE} {e0:Addr}
theorem YN (S:CSc X scope N' sub) (hh:X.A.handled = some (.ref e0)) (hi:PIH e0 X tg iter wi)
  (hg:∀ cl C D fp s H,PG (cxC X N' scope cl C D fp s H) tg g) (ht:∀ cl C D fp s H,PIfs (cxC X N' scope cl C D fp s H) ifs tt) (he:∀ cl C D fp s H,PE (cxC X N' scope cl C D fp s H) elt te)
  (hs:∀ x,foldedSetIterable iter X.env x = pure x:=by intro _; rfl):PE X (.ListComp elt [⟨tg,iter,ifs,0⟩] scope pos) (Zz wi sub g tt te):=by
 intro pins s σ H Q I h
 obtain ⟨cl,hclos,hcl1,hcl2⟩:=S.clos I
 rw [eval_ListComp]
 refine wpAny_comprehension_free (use:=none) rfl hs hclos S.kind S.names (thn (hi pins s σ H _ I h) fun v s1 h1=>thn h1 fun itv s2 h2=>?_)
 obtain ⟨it,fp,tn,J,H2,e,I2,T,st2,f2,hW⟩:=h2
 subst e
 refine rk (RR:=fun acc C=>compPost (model X.prog X.w) X.A X.xe none (EP X pins σ Q) acc C) I2 hh T st2 f2 S hcl1 hcl2 (hg cl) (ht cl) (he cl) hW ?_
 intro D C oC m s' Hf IX hm fpc q
 refine ⟨m,hm,fun h' sb=>⟨.ref D,Hf,?_,rfl,q⟩⟩
 exact (IX.unpinned).turned (it:=C) (t':=s'.toks) (h':=h') (fun b o hb e=>sb.extBut b o hb e) fpc.1 fpc.2.1 fpc.2.2.2.1 fpc.2.2.2.2.1 fpc.2.2.2.2.2
end
section
variable {X:Cx} {K:FG7}
theorem YO:OpR X (binaryOp .Mult) (fun x y H Q=>∃ (z:Str) (n:Nat),x = .str z /\ y = .int n /\ z.length = 1 /\ n <= 100 /\ ∀ z',Q (.str z') H):=by
 intro pins s σ H x y v u Q I rx ry h
 obtain ⟨z,n,rfl,rfl,hz,hn,q⟩:=h
 obtain ⟨t1,rfl⟩:=rx
 obtain ⟨t2,rfl⟩:=ry
 refine SB.mul ⟨?_,fun _ _=>?_,fun _ _=>?_⟩ fun t' k=>⟨.str _,H,I.kept (t':=k) fun b o e=>e,⟨t',rfl⟩,q _⟩
 ·have h1:¬ ((n:Int) < -(2 ^ 63:Int)):=by omega
  have h2:¬ ((n:Int) >= 2 ^ 63):=by omega
  rw [decide_eq_false h1,decide_eq_false h2]; rfl
 ·rw [hz]
  intro c
  have:(0:Int) < n:=by omega
  have h3:((2:Int) ^ 63 - 1) / n >= 1:=Int.le_ediv_of_mul_le this (by omega)
  omega
 ·rw [hz,Nat.one_mul,Int.toNat_natCast]
  have h4:100 < sizeLine:=by decide
  exact decide_eq_false (by omega)
end
theorem xq {d:PyData} (h:yh d = true):∃ i,d = .int i:=by cases d <;> first | exact ⟨_,rfl⟩ | cases h
theorem jx {d:PyData} (h:endD d = true):∃ o:Option Int,d = oD o:=by
 cases d <;> first | exact ⟨none,rfl⟩ | exact ⟨some _,rfl⟩ | cases h
theorem rl {d:PyData} (h:zN d = true):∃ e:Deed,d = vT e /\ e.Ok:=by
 obtain ⟨a,l,u,rfl,el,eu,h2⟩:=wU h
 obtain ⟨lo,rfl⟩:=jx el
 obtain ⟨hi,rfl⟩:=jx eu
 refine ⟨⟨a,lo,hi⟩,rfl,fun x y hx hy=>?_⟩
 have hx':lo = some x:=hx
 have hy':hi = some y:=hy
 subst hx' hy'
 have h2:(decide (x < y) || (decide (x = y) && decide (a = 0))) = true:=h2
 rw [Bool.or_eq_true,Bool.and_eq_true,decide_eq_true_eq,decide_eq_true_eq,decide_eq_true_eq] at h2
 exact h2
section
variable {K:FG7} {m:List Addr} {H:Hp}
theorem YQ {x:V}:∀ {o:Option Int},Od K m H x (oD o) -> x = ov o
 | none,h=>h.inv_non
 | some _,h=>h.inv_int
theorem XT {x:V} {d:Deed} (o:Od K m H x (vT d)):yv K H x d:=by
 obtain ⟨a,xs,rfl,hs,hds⟩:=o.inv_tup
 obtain ⟨x0,x1,x2,rfl,o0,o1,o2⟩:=hds.inv3
 obtain rfl:=o0.inv_int
 obtain rfl:=YQ o1
 obtain rfl:=YQ o2
 exact ⟨a,rfl,hs⟩
theorem xr {x:V} {d:PyData} (o:Od K m H x d) (h:zN d = true) (g:GdD 1 3 30000 d):∃ e:Deed,yv K H x e /\ e.Ok /\ e.Bd (10 ^ 30 + 1):=by
 obtain ⟨e,rfl,ok⟩:=rl h
 refine ⟨e,XT o,ok,?_⟩
 have z:=yy.mp (show leDs (10 ^ 30 + 1) [.int e.add,oD e.lo,oD e.hi] = true from g.le)
 obtain ⟨a,lo,hi⟩:=e
 have key:∀ i:Int,leD (10 ^ 30 + 1) (.int i) = true -> -(10 ^ 30 + 1) <= i /\ i <= 10 ^ 30 + 1:=fun i h=>by
  simpa only [leD,Bool.and_eq_true,decide_eq_true_eq] using h
 refine ⟨key a (z _ (by simp)),fun l e=>key l ?_,fun l e=>key l ?_⟩
 ·have e:lo = some l:=e
  subst e; exact z _ (by simp [oD])
 ·have e:hi = some l:=e
  subst e; exact z _ (by simp [oD])
end
def wb:PyData -> Bool
 | .int i=>decide (0 <= i)
 | _=>false
def yP (n:Nat) (d1 d2 d3 d4:PyData):Option Nat :=
 if ((n = 0 \/ n = 5) /\ yh d3 = false) \/ (n = 3 /\ wb d4 = false) then some 1
 else if (n < 7 /\ zN d1 = false) \/ ((n = 1 \/ n = 2) /\ zN d2 = false) then some 2
 else if n = 7 then some 14 else none
def cl17 (A1 A2 A14:Addr) (c:Nat):Addr:=if c = 1 then A1 else if c = 2 then A2 else A14
def YR (A1 A2 A14:Addr) (o:Option Nat) (H:Hp) (Q:V -> Hp -> Prop) (E:XK):Prop :=
 (o = none -> ∀ y H',Grow [] H H' -> Q y H') /\ ∀ c,o = some c -> ∀ e H',Grow [] H H' -> E (.ref e) (some (cl17 A1 A2 A14 c)) H'
structure Txt17 (d:PyData):Prop where
 d19:D19 d
 no:XR d = none
 gd:GdD 1 3 30000 d
structure Th17 (d1 d2 d3 d4 d5:PyData):Prop where
 g1:GdD 1 3 30000 d1
 g2:GdD 1 3 30000 d2
 g3:GdD 1 3 30000 d3
 g4:GdD 1 3 30000 d4
 t5:Txt17 d5
def xi (b c:Bool):Option Nat:=if b = false then some 1 else if c = false then some 2 else none
def rm (b c:Bool):Option Nat:=if b = false then some 2 else if c = false then some 2 else none
def tL (A:Addr) (K:FG7):Sp:=spX1 fun x H Q E=>∃ (d:PyData) (m:List Addr),Od K m H x d /\ if yh d = true then Q .non H else ∀ e,E (.ref e) (some A) H
def xt (A:Addr) (K:FG7):Sp:=spX1 fun x H Q E=>∃ (d:PyData) (m:List Addr),Od K m H x d /\ if zN d = true then Q .non H else ∀ e,E (.ref e) (some A) H
def w6 (A1 A2 A14:Addr) (K:FG7):Sp:=spX2 fun x y H Q E=>∃ (d dv:PyData) (m:List Addr),Od K m H x d /\ Od K m H y dv /\ GdD 1 3 30000 d /\ YR A1 A2 A14 (xi (yh dv) (zN d)) H Q E
def qu (A1 A2 A14:Addr) (K:FG7):Sp:=spX2 fun x y H Q E=>∃ (d dv:PyData) (m:List Addr),Od K m H x d /\ Od K m H y dv /\ GdD 1 3 30000 d /\ GdD 1 3 30000 dv /\ YR A1 A2 A14 (xi (wb dv) (zN d)) H Q E
def vc (A1 A2 A14:Addr) (K:FG7):Sp:=spX2 fun x y H Q E=>∃ (d e:PyData) (m:List Addr),Od K m H x d /\ Od K m H y e /\ GdD 1 3 30000 d /\ GdD 1 3 30000 e /\ YR A1 A2 A14 (rm (zN d) (zN e)) H Q E
def YS (A1 A2 A14:Addr) (K:FG7):Sp:=spX1 fun x H Q E=>∃ (d:PyData) (m:List Addr),Od K m H x d /\ GdD 1 3 30000 d /\ YR A1 A2 A14 (xi true (zN d)) H Q E
def vE (A2:Addr) (K:FG7):Sp:=spX1 fun x H Q E=>(∃ d:Deed,yv K H x d /\ d.Ok /\ d.Bd (10 ^ 61) /\ ∀ H',Grow [] H H' -> Q (.str (xA d)) H') \/ (∃ (d:PyData) (m:List Addr),Od K m H x d /\ zN d = false /\ ∀ e,E (.ref e) (some A2) H)
def ue (A1 A2 A14:Addr) (K:FG7):Sp:=spX2 fun x y H Q E=>∃ (n:Nat) (d1 d2 d3 d4 d5:PyData) (m:List Addr),x = .int n /\ n < 8 /\ Od K m H y (.tuple [d1,d2,d3,d4,d5]) /\ Th17 d1 d2 d3 d4 d5 /\ YR A1 A2 A14 (yP n d1 d2 d3 d4) H (fun _ H'=>Q .non H') E
def kd17:Option Nat -> List V
 | none=>[]
 | some c=>[.int c]
def xV (K:FG7):Sp:=sp2 fun x y H Q=>∃ (n:Nat) (d1 d2 d3 d4 d5:PyData) (m:List Addr),x = .int n /\ n < 8 /\ Od K m H y (.tuple [d1,d2,d3,d4,d5]) /\ Th17 d1 d2 d3 d4 d5 /\ ∀ l H',Grow [] H H' -> H' l = some (.lst (kd17 (yP n d1 d2 d3 d4))) -> Q (.ref l) H'
structure Kd17 (K:FG7) (cs:List Addr) (A:Addr):Prop where
 len:cs.length = 16
 kk:∀ C ∈ A :: cs,ExcK K C
 kq:∀ (i:Nat) (C:Addr),cs[i]? = some C -> ∀ (j:Nat) (D:Addr),cs[j]? = some D -> PySem.W.kitOne K (.ref C) (.ref D) = some (decide (i = j))
 ka:∀ D ∈ cs,PySem.W.kitOne K (.ref A) (.ref D) = some false
 kb:∀ C ∈ A :: cs,PySem.W.kitOne K (.ref C) (.ref A) = some true
 kv:∀ C ∈ A :: cs,PySem.W.kitOne K (.ref C) (.type "ValueError") = some true
 up:∀ C ∈ A :: cs,PySem.W.mroIn K C (.ref A) = some true
def Cl17 (cs:List Addr) (A C:Addr):Option Nat -> Prop
 | none=>C = A
 | some i=>cs[i]? = some C
theorem Cl17.mem {cs:List Addr} {A C:Addr}:∀ {o:Option Nat},Cl17 cs A C o -> C ∈ A :: cs
 | none,h=>by rw [show C = A from h]; simp
 | some _,h=>List.mem_cons_of_mem _ (List.mem_of_getElem? h)
def at17 (o:Option Nat) (j:Nat):Bool:=decide (o = some j)
theorem Kd17.at {K:FG7} {cs:List Addr} {A C:Addr} (k:Kd17 K cs A):∀ {o:Option Nat},Cl17 cs A C o -> ∀ (j:Nat) (D:Addr),cs[j]? = some D -> PySem.W.kitOne K (.ref C) (.ref D) = some (at17 o j)
 | none,h,j,D,hj=>by rw [show C = A from h]; exact k.ka D (List.mem_of_getElem? hj)
 | some i,h,j,D,hj=>by
  rw [k.kq i C h j D hj]
  show some (decide (i = j)) = some (decide (some i = some j))
  by_cases e:i = j
  ·rw [decide_eq_true e,decide_eq_true (congrArg some e)]
  ·rw [decide_eq_false e,decide_eq_false fun z=>e (Option.some.inj z)]
def vd (cs:List Addr) (A:Addr) (K:FG7):Sp:=sp1 fun x H Q=>∃ (a C:Addr) (o:Option Nat),x = .ref a /\ H a = some (ExO a C) /\ Cl17 cs A C o /\ (∀ i,o = some i -> i < 16) /\ ∀ l H',Grow [] H H' -> H' l = some (.lst (kd17 o)) -> Q (.ref l) H'
def wq (cs:List Addr) (A:Addr) (K:FG7) (e:Addr):Sp:=sp1 fun x H Q=>∃ (C:Addr) (o:Option Nat),x = .ref e /\ H e = some (ExO e C) /\ Cl17 cs A C o /\ (∀ i,o = some i -> i < 16) /\ ∀ l H',Grow [] H H' -> H' l = some (.lst (kd17 o)) -> Q (.ref l) H'
theorem T4:∀ o:Option Nat,(∀ i,o = some i -> i < 16) -> (((List.range 16).filter (at17 o)).map fun (j:Nat)=>V.int (j:Int)) = kd17 o
 | none,_=>by decide
 | some i,h=>by
  have:=h i rfl
  have key:∀ i:Fin 16,((List.range 16).filter (at17 (some i.1))) = [i.1]:=by decide
  rw [key ⟨i,this⟩]; rfl
theorem it17 {c:Bool} {a b:Prop} (h1:c = true -> a) (h2:c = false -> b):if c = true then a else b:=by
 cases c with
 | true=>rw [if_pos rfl]; exact h1 rfl
 | false=>rw [if_neg (by decide)]; exact h2 rfl
theorem ve {d:Deed} (ok:d.Ok):zN (vT d) = true:=by
 obtain ⟨a,lo,hi⟩:=d
 cases lo with
 | none=>cases hi <;> rfl
 | some l =>
  cases hi with
  | none=>rfl
  | some u =>
   show (true && true && (decide (l < u) || (decide (l = u) && decide (a = 0)))) = true
   have:=ok l u rfl rfl
   simpa using this
theorem qw {d e:Deed} (h:vT d = vT e):d = e:=by
 obtain ⟨a,lo,hi⟩:=d
 obtain ⟨b,lo',hi'⟩:=e
 have h:PyData.tuple [.int a,oD lo,oD hi] = .tuple [.int b,oD lo',oD hi']:=h
 have o:∀ {p q:Option Int},oD p = oD q -> p = q:=fun {p q} h=>by
  cases p <;> cases q <;> first | rfl | (cases h; rfl) | cases h
 injection h with h
 injection h with h1 h
 injection h with h2 h
 injection h with h3 h
 injection h1 with h1
 rw [h1,o h2,o h3]
theorem j9 {d:Deed} (h:¬ d.Ok):zN (vT d) = false:=by
 cases e:zN (vT d) with
 | false=>rfl
 | true =>
  obtain ⟨d',e',ok⟩:=rl e
  have:d = d':=qw e'
  exact absurd (this ▸ ok) h
def U9 (K:FG7) (cs:List Addr) (A:Addr):Bool :=
 (cs.length == 16) && ((List.range 16).all fun i=>(List.range 16).all fun j=>PySem.W.kitOne K (.ref (cs.getD i 0)) (.ref (cs.getD j 0)) == some (i == j)) && cs.all (fun D=>PySem.W.kitOne K (.ref A) (.ref D) == some false) &&
  (A :: cs).all fun C=>PySem.W.kitOne K (.ref C) (.ref A) == some true && PySem.W.kitOne K (.ref C) (.type "ValueError") == some true && PySem.W.mroIn K C (.ref A) == some true
theorem kd17_of {K:FG7} {cs:List Addr} {A:Addr} (h:U9 K cs A = true) (k:∀ C ∈ A :: cs,ExcK K C):Kd17 K cs A:=by
 unfold U9 at h
 simp only [Bool.and_eq_true,List.all_eq_true,beq_iff_eq,List.mem_range] at h
 obtain ⟨⟨⟨h1,h2⟩,h3⟩,h4⟩:=h
 refine ⟨h1,k,fun i C hi j D hj=>?_,h3,fun C hC=>(h4 C hC).1.1,fun C hC=>(h4 C hC).1.2,fun C hC=>(h4 C hC).2⟩
 have i16:i < 16:=by have:=(List.getElem?_eq_some_iff.mp hi).1; omega
 have j16:j < 16:=by have:=(List.getElem?_eq_some_iff.mp hj).1; omega
 have:=h2 i i16 j j16
 rw [List.getD_eq_getElem?_getD,List.getD_eq_getElem?_getD,hi,hj] at this
 rw [show PySem.W.kitOne K (.ref C) (.ref D) = some (i == j) from this]
 congr 1
def qz:List PyData:=[.none,.bool true,.bool false,.str "3",.str "",.tuple [.int 3],.list [.int 3],.dict [],.tuple [.int 0,.none,.none]]
theorem vF {d:PyData} (h:d ∈ qz):GdD 1 3 30000 d:=by
 have key:∀ d ∈ qz,leD 10 d = true /\ d.depth <= 3 /\ wtO d <= 30000:=by
  intro d hd
  simp only [qz,List.mem_cons,List.not_mem_nil,or_false] at hd
  rcases hd with rfl | rfl | rfl | rfl | rfl | rfl | rfl | rfl | rfl <;> exact ⟨by decide +kernel,by decide +kernel,by decide +kernel⟩
 obtain ⟨a,b,c⟩:=key d h
 exact ⟨leD_mono (by omega) a,b,c⟩
def uW (K:FG7):Sp:=sp1 fun x H Q=>∃ a,x = .ref a /\ Pot H a /\ ∀ y d H',d ∈ qz -> Grow [a] H H' -> Pot H' a -> Od K [a] H' y d -> Q y H'
def uX (K:FG7):Sp:=sp1 fun x H Q=>∃ a,x = .ref a /\ Pot H a /\ ∀ y d H',Grow [a] H H' -> Pot H' a -> Od K [a] H' y d -> GdD 1 3 30000 d -> Q y H'
def rn (K:FG7):Sp:=sp1 fun x H Q=>∃ a,x = .ref a /\ Pot H a /\ ∀ H',Grow [a] H H' -> Pot H' a -> Q (.bl true) H'
theorem YT (n:Int):(cl (zq n)).length ≠ 0:=by
 cases n with
 | ofNat m=>obtain ⟨c,r,e,_⟩:=wI m; rw [show cl (zq (Int.ofNat m)) = c :: r from e]; simp
 | negSucc m=>rw [wH]; simp
theorem qA (p:Str × Int):∃ r c,cl (yk p) = r ++ [c] /\ c ≠ 113:=by
 have e:cl (yk p) = cl (p.1 ++ S18 " ") ++ cl (zq p.2):=by unfold yk; rw [y9]
 have hn:cl (zq p.2) ≠ []:=fun z=>by
  exact YT p.2 (by rw [z]; rfl)
 refine ⟨cl (p.1 ++ S18 " ") ++ (cl (zq p.2)).dropLast,(cl (zq p.2)).getLast hn,?_,fun z=>?_⟩
 ·rw [e,List.append_assoc,List.dropLast_concat_getLast hn]
 ·have:=sX (List.getLast_mem hn)
  omega
theorem uf:∀ ps:List (Str × Int),ps ≠ [] -> ∃ r c,xf ((ps.map yk).map cl) = r ++ [c] /\ c ≠ 113
 | [],h=>absurd rfl h
 | [p],_=>qA p
 | p :: q :: r,_=>by
  obtain ⟨r',c,e,hc⟩:=uf (q :: r) (by simp)
  refine ⟨cl (yk p) ++ 32 :: r',c,?_,hc⟩
  show cl (yk p) ++ 32 :: xf (((q :: r).map yk).map cl) = _
  rw [e,List.append_assoc]; rfl
theorem Za (d:Deed):∃ r c,cl (xA d) = r ++ [c] /\ c ≠ 113:=by
 unfold xA
 split
 ·exact ⟨[108,111,111],107,by decide,by decide⟩
 ·rename_i h
  rw [wo]
  exact uf _ fun z=>h (by rw [z]; rfl)
theorem T5 {t:Str}:lr19 (t ++ S18 "q") = none:=by
 cases h:lr19 (t ++ S18 "q") with
 | none=>rfl
 | some d =>
  obtain ⟨_,e⟩:=tH h
  obtain ⟨r,c,e2,hc⟩:=Za d
  have e3:cl (t ++ S18 "q") = cl t ++ [113]:=by rw [y9]; rfl
  rw [← e,e2] at e3
  have:=(List.append_inj' e3 rfl).2
  exact absurd (List.cons.inj this).1 hc
theorem YU {w p:Str} (h:T19 60 w) (hp:p ∈ Txt.split w (S18 " ")):W19 p:=by
 have t:=YH h hp
 exact ⟨t.asc,by have:=t.len; omega,fun _=>Nat.le_trans (YI p) t.len⟩
theorem YV {K:FG7} {m:List Addr} {H:Hp} {xs:List V} {d1 d2 d3 d4 d5:PyData} (h:Ods K m H xs [d1,d2,d3,d4,d5]):∃ x1 x2 x3 x4 x5,xs = [x1,x2,x3,x4,x5] /\ Od K m H x1 d1 /\ Od K m H x2 d2 /\ Od K m H x3 d3 /\ Od K m H x4 d4 /\ Od K m H x5 d5:=by
 cases h with
 | cons o1 h =>
  cases h with
  | cons o2 h =>
   cases h with
   | cons o3 h =>
    cases h with
    | cons o4 h =>
     cases h with
     | cons o5 h =>
      cases h
      exact ⟨_,_,_,_,_,rfl,o1,o2,o3,o4,o5⟩
theorem Zb {n c:Nat} {d1 d2 d3 d4:PyData} (h:yP n d1 d2 d3 d4 = some c):c = 1 \/ c = 2 \/ c = 14:=by
 unfold yP at h
 split at h
 ·exact .inl (Option.some.inj h).symm
 ·split at h
  ·exact .inr (.inl (Option.some.inj h).symm)
  ·split at h
   ·exact .inr (.inr (Option.some.inj h).symm)
   ·cases h
theorem VF {d1 d2 d3 d4:PyData}:yP 0 d1 d2 d3 d4 = xi (yh d3) (zN d1):=by
 unfold yP xi
 cases yh d3 <;> cases zN d1 <;> simp
theorem VG {d1 d2 d3 d4:PyData}:yP 1 d1 d2 d3 d4 = rm (zN d1) (zN d2):=by
 unfold yP rm
 cases zN d2 <;> cases zN d1 <;> simp
theorem VH {d1 d2 d3 d4:PyData}:yP 2 d1 d2 d3 d4 = rm (zN d1) (zN d2):=by
 unfold yP rm
 cases zN d2 <;> cases zN d1 <;> simp
theorem VI {d1 d2 d3 d4:PyData}:yP 3 d1 d2 d3 d4 = xi (wb d4) (zN d1):=by
 unfold yP xi
 cases wb d4 <;> cases zN d1 <;> simp
theorem VJ {d1 d2 d3 d4:PyData}:yP 4 d1 d2 d3 d4 = xi true (zN d1):=by
 unfold yP xi
 cases zN d1 <;> simp
theorem VL {d1 d2 d3 d4:PyData}:yP 5 d1 d2 d3 d4 = xi (yh d3) (zN d1):=by
 unfold yP xi
 cases yh d3 <;> cases zN d1 <;> simp
theorem VM {d1 d2 d3 d4:PyData}:yP 6 d1 d2 d3 d4 = xi true (zN d1):=by
 unfold yP xi
 cases zN d1 <;> simp
theorem VN {d1 d2 d3 d4:PyData}:yP 7 d1 d2 d3 d4 = some 14:=by
 unfold yP
 simp
theorem ym {K:FG7} {cs:List Addr} {A C D a:Addr} {o:Option Nat} {σ:L2.St} {H:Hp} {Q:VK} {j:Nat} (k:Kd17 K cs A) (hc:Cl17 cs A C o) (ha:H a = some (ExO a C)) (hσ:σ[0]? = some (some (.ref a))) (hj:cs[j]? = some D) (q:Q (.bl (at17 o j)) H) :
  tCB (UD K) (t9 (tVar 0) (t9 (tC (V.ref D)) tNil)) σ H Q:=⟨_,hσ,a,C,_,_,_,rfl,ha,(fun u r=>r),k.kk C hc.mem,k.at hc j D hj,q⟩
def bl17 (o:Option Nat) (k:Nat):List V:=(List.range k).map fun j=>V.bl (at17 o j)
theorem XU (o:Option Nat) (k:Nat):(bl17 o k).length = k:=by unfold bl17; rw [List.length_map,List.length_range]
theorem le17 {o:Option Nat} {k:Nat} {zs:List V} (h:k + zs.length <= 1000):(bl17 o k).length + zs.length <= sizeLine:=by rw [XU]; exact Nat.le_of_lt (zn h)
theorem jy {o:Option Nat} {k i:Nat} (h:i < k):(bl17 o k)[i]? = some (V.bl (at17 o i)):=by
 unfold bl17
 rw [List.getElem?_map,List.getElem?_range h]; rfl
theorem WL {J:It} {σ0:L2.St} {H1:Hp} {g:TG} {tt:TT} {te:TE} {Q:VK} {l:Addr} (o:Option Nat) (h16:∀ i,o = some i -> i < 16) (hσ:σ0 = [none,some (.ref l)])
  (hstop:∀ i,16 <= i -> J.stop i H1) (hgo:∀ i,i < 16 -> J.go i H1) (hy:∀ i x H',J.yld i H1 x H' -> x = .int (0 + (i:Int)) /\ H' = H1)
  (hg:∀ (i:Nat) (e:Option V) (K:L2.St -> Hp -> Prop),K [some (.int (0 + (i:Int))),some (.ref l)] H1 -> g (.int (0 + (i:Int))) [e,some (.ref l)] H1 K)
  (ht:∀ (i:Nat) (K:Bool -> Hp -> Prop),i < 16 -> K (at17 o i) H1 -> tt [some (.int (0 + (i:Int))),some (.ref l)] H1 K)
  (he:∀ (i:Nat) (K:VK),K (.int (0 + (i:Int))) H1 -> te [some (.int (0 + (i:Int))),some (.ref l)] H1 K)
  (q:∀ p,H1 p = none -> Q (.ref p) (upd H1 p (.lst (kd17 o)))):vw J σ0 H1 g tt te Q:=by
 subst hσ
 refine ⟨fun i m ys σ' H'=>m + i = 16 /\ H' = H1 /\ (∃ e,σ' = [e,some (.ref l)]) /\ ys = ((List.range i).filter (at17 o)).map fun (j:Nat)=>V.int (j:Int),⟨16,rfl,rfl,⟨_,rfl⟩,rfl⟩,?_⟩
 rintro i m ys σ' H' ⟨hm,rfl,⟨e,rfl⟩,rfl⟩
 by_cases hi:16 <= i
 ·have:i = 16:=by omega
  subst this
  exact .inl ⟨hstop _ hi,fun p hp=>by rw [T4 o h16]; exact q p hp⟩
 refine .inr ⟨hgo i (by omega),fun zs σ2 H2=>H2 = H' /\ (∃ e,σ2 = [e,some (.ref l)]) /\ zs = ((List.range (i + 1)).filter (at17 o)).map fun (j:Nat)=>V.int (j:Int),fun zs σ2 H2 ⟨a,b,c⟩=>⟨m - 1,by omega,by omega,a,b,c⟩,fun x H2 hx=>?_⟩
 obtain ⟨rfl,rfl⟩:=hy i x H2 hx
 refine hg i e _ (ht i _ (by omega) ?_)
 have e1:(List.range (i + 1)).filter (at17 o) = (List.range i).filter (at17 o) ++ (if at17 o i = true then [i] else []):=by
  rw [List.range_succ,List.filter_append]
  congr 1
  by_cases z:at17 o i = true
  ·rw [if_pos z]; simp [z]
  ·rw [if_neg z]; simp [z]
 by_cases z:at17 o i = true
 ·rw [if_pos z]
  refine he i _ ⟨?_,rfl,⟨_,rfl⟩,?_⟩
  ·rw [List.length_map]
   exact zn (by have:=List.length_filter_le (at17 o) (List.range i); rw [List.length_range] at this; omega)
  ·rw [e1,if_pos z,List.map_append,Int.zero_add]; rfl
 ·rw [if_neg z]
  exact ⟨rfl,⟨_,rfl⟩,by rw [e1,if_neg z,List.append_nil]⟩
theorem XV (d:Deed):dPy d = vT d:=by
 obtain ⟨a,lo,hi⟩:=d
 cases lo <;> cases hi <;> rfl
def ug (H:Hp) (xs:List V) (cs:List Addr):Prop:=xs.length = cs.length /\ ∀ (i:Nat) (C:Addr),cs[i]? = some C -> ∃ e,xs[i]? = some (V.ref e) /\ H e = some (ExO e C)
theorem ug.grow {m:List Addr} {H H':Hp} {xs:List V} {cs:List Addr} (g:Grow m H H') (hm:∀ b ∈ m,∀ C,H b ≠ some (ExO b C)) (h:ug H xs cs):ug H' xs cs:=⟨h.1,fun i C hi=>by
 obtain ⟨e,h1,h2⟩:=h.2 i C hi
 exact ⟨e,h1,g.keep _ _ (fun z=>hm e z C h2) h2⟩⟩
theorem ug.app {H:Hp} {xs ys:List V} {cs ds:List Addr} (h:ug H xs cs) (k:ug H ys ds):ug H (xs ++ ys) (cs ++ ds):=⟨by rw [List.length_append,List.length_append,h.1,k.1],fun i C hi=>by
 by_cases hl:i < cs.length
 ·rw [List.getElem?_append_left hl] at hi
  rw [List.getElem?_append_left (by rw [h.1]; exact hl)]
  exact h.2 i C hi
 ·rw [List.getElem?_append_right (by omega)] at hi
  rw [List.getElem?_append_right (by rw [h.1]; omega),h.1]
  exact k.2 _ C hi⟩
def Ta:List Addr -> TA
 | []=>tNil
 | C :: cs=>t9 (WK C (tVar 1)) (Ta cs)
theorem XW {σ:L2.St} {z:Str} (hσ:σ[1]? = some (some (.str z))):∀ (cs:List Addr) (H:Hp) (Q:List V -> Hp -> Prop),(∀ xs H',Grow [] H H' -> ug H' xs cs -> Q xs H') -> Ta cs σ H Q
 | [],H,Q,q=>q [] H (Grow.refl _ _) ⟨rfl,fun i C h=>by simp at h⟩
 | C :: cs,H,Q,q=>⟨_,hσ,fun e he=>XW hσ cs _ _ fun xs H' g hx=>q (.ref e :: xs) H' ((Grow.new he _).trans g) ⟨congrArg (· + 1) hx.1,fun i D hi=>by
   cases i with
   | zero =>
    have hi:C = D:=Option.some.inj hi
    subst hi
    exact ⟨e,rfl,g.keep _ _ (by simp) zd⟩
   | succ i=>exact hx.2 i D hi⟩⟩
def uu (H:Hp) (ys:List V) (n:Nat):Prop:=ys.length = n /\ ∀ i,i < n -> ∃ l,ys[i]? = some (V.ref l) /\ H l = some (.lst [.int (i:Int)])
theorem uu.grow {H H':Hp} {ys:List V} {n:Nat} (g:Grow [] H H') (h:uu H ys n):uu H' ys n:=⟨h.1,fun i hi=>by
 obtain ⟨l,h1,h2⟩:=h.2 i hi
 exact ⟨l,h1,g.keep _ _ (by simp) h2⟩⟩
theorem uu.snoc {H:Hp} {ys:List V} {n:Nat} {l:Addr} (h:uu H ys n) (hl:H l = some (.lst [.int (n:Int)])):uu H (ys ++ [.ref l]) (n + 1):=⟨by rw [List.length_append,h.1]; rfl,fun i hi=>by
 by_cases e:i < n
 ·rw [List.getElem?_append_left (by rw [h.1]; exact e)]
  exact h.2 i e
 ·obtain rfl:i = n:=by omega
  exact ⟨l,by rw [← h.1]; exact List.getElem?_concat_length,hl⟩⟩
theorem YW {K:FG7} {H:Hp}:∀ (ys:List V) (ds:List PyData),ys.length = ds.length -> (∀ (i:Nat) (x:V) (d:PyData),ys[i]? = some x -> ds[i]? = some d -> Dq K H x d) -> DqAll K H ys ds
 | [],[],_,_=>.nil
 | y :: ys,d :: ds,hl,h=>.cons (h 0 y d rfl rfl) (YW ys ds (Nat.succ.inj hl) fun i x d hx hd=>h (i + 1) x d hx hd)
 | [],_ :: _,hl,_=>by cases hl
 | _ :: _,[],hl,_=>by cases hl
theorem uu.dq {K:FG7} {H:Hp} {ys:List V} {n:Nat} (h:uu H ys n):DqAll K H ys ((List.range n).map fun (j:Nat)=>PyData.list [.int (j:Int)]):=by
 refine YW _ _ (by rw [h.1,List.length_map,List.length_range]) fun i x d hx hd=>?_
 have hi:i < n:=by
  have:=(List.getElem?_eq_some_iff.mp hx).1
  rw [h.1] at this; exact this
 obtain ⟨l,h1,h2⟩:=h.2 i hi
 rw [h1] at hx
 rw [List.getElem?_map,List.getElem?_range hi] at hd
 obtain rfl:=Option.some.inj hx
 obtain rfl:=Option.some.inj hd
 exact .lst (SqL.of h2) (.cons (.int _) .nil)
theorem YX:(Str.ofString "abcdefghijklmnopqrstuvwxyz").cps.toList.length = 26:=by decide
def os17 (cs:List Nat):List Str:=cs.map fun c=>⟨#[c]⟩
theorem YY:∀ cs:List Nat,cl (Str.join (S18 "") (os17 cs)) = cs
 | []=>rfl
 | [c]=>rfl
 | c :: d :: r=>by
  show cl ((⟨#[c]⟩:Str) ++ S18 "" ++ Str.join (S18 "") (os17 (d :: r))) = c :: d :: r
  rw [y9,y9,YY (d :: r)]; rfl
theorem T6 {cs:List Nat} (h:cs.length <= 2000):JoinOk (S18 "") (os17 cs) = true:=by
 unfold JoinOk
 rw [StrLaws.joinFits (B:=1)]
 ·rfl
 ·intro y hy
  obtain ⟨c,_,rfl⟩:=List.mem_map.mp hy
  exact Nat.le_refl _
 ·have e:(S18 "").length = 0:=by decide
  have e2:(os17 cs).length = cs.length:=List.length_map ..
  rw [e,e2]
  omega
theorem XX {cs:List Nat} {n:Nat} (h:∀ c ∈ cs,c < 128) (hl:cs.length <= n):T19 n (Str.join (S18 "") (os17 cs)):=⟨fun c hc=>h c (by rw [YY] at hc; exact hc),by rw [yZ,YY]; exact hl⟩
theorem vG {i:Int} (h1:-(10 ^ 29) - 1 <= i) (h2:i <= 10 ^ 29 + 1):GdD 1 3 30000 (.int i):=(wa (i:=i) (n:=1) (by omega) (by omega)).mono (by decide) (by decide) (by decide)
theorem jz {w:Str} (T:T19 60 w):GdD 1 3 30000 (.str w):=⟨rfl,Nat.zero_le _,by
 have h:=StrLaws.reprText_len w fun c hc=>by have:=T.asc c hc; omega
 have:=T.len
 show (reprText w).length <= 30000
 omega⟩
theorem T7 {t:Str} (T:T19 41 t):Txt17 (.str (t ++ S18 "q")):=by
 have T2:T19 60 (t ++ S18 "q"):=⟨fun c hc=>by
  rw [y9] at hc
  rcases List.mem_append.mp hc with hc | hc
  ·exact T.asc c hc
  ·have:c = 113:=List.mem_singleton.mp hc
   omega,by
  have e:(S18 "q").length = 1:=by decide
  have:=T.len
  rw [Str.length_append,e]; omega⟩
 exact ⟨fun w e=>by cases e; exact ⟨⟨T2.asc,by have:=T2.len; omega⟩,fun p hp=>YU T2 hp⟩,T5,jz T2⟩
theorem xJ {d:PyData} (h:j4 d = false) (g:GdD 1 3 30000 d):Txt17 d:=⟨(fun w e=>by subst e; cases h),(by cases d <;> first | rfl | cases h),g⟩
theorem XY {t:Str} (T:T19 41 t):GdD 1 3 30000 (.tuple [.str t]):=by
 have g:=jz (w:=t) ⟨T.asc,by have:=T.len; omega⟩
 have T2:=T.len
 refine ⟨rfl,by show 0 + 1 <= 3; omega,?_⟩
 have h:=StrLaws.reprText_len t fun c hc=>by have:=T.asc c hc; omega
 show (reprText t).length + 2 + 0 + 3 <= 30000
 omega
theorem VO {d1 d2 d3 d4 d5:PyData} (h:Th17 d1 d2 d3 d4 d5):GdD 1 4 151000 (.tuple [d1,d2,d3,d4,d5]) :=
 (h.g1.one.append (h.g2.one.append (h.g3.one.append (h.g4.one.append h.t5.gd.one)))).tup.mono (Nat.le_refl _) (Nat.le_refl _) (by decide)
theorem T8:∀ c ∈ (Str.ofString "abcdefghij klmnopqrstuvwxyz0").cps.toList,c < 128:=by decide
theorem YZ:(Str.ofString "abcdefghij klmnopqrstuvwxyz0").cps.toList.length = 28:=by decide
theorem rp (o:Option Nat):(kd17 o).all xo = true:=by cases o <;> rfl
theorem VP (o:Option Nat):eqVs (kd17 o) (kd17 o) = true:=by cases o <;> simp [kd17,eqVs,eqV]
theorem Tb {w:Str} (h:w.length <= 41):w.length + (Str.ofString "q").length <= sizeLine:=by
 have e:(Str.ofString "q").length = 1:=by decide
 rw [e]; exact Nat.le_of_lt (zn (by omega))
end L3
namespace My
open PySem PySem.Spec PyProof.Rows L2 L3
def top (i:Nat):Stmt:=PySem.Challenge.pw_joinedasks_k17_deeds_refused.main.body.getD i (.Pass ⟨0,0,0,0⟩)
section
variable {P:Program} {w:World} {K:FG7} {mg:Str -> Option Value} {base:Heap} {n:Nat} {f:Addr} {fd:FuncData}
theorem zE:FnScope ["_law_error","_law_some"] ["_law_error"] (zl (top 54)):=⟨rfl,rfl,rfl,by decide +kernel,rfl,by decide +kernel,by decide +kernel⟩
theorem tM (F:Fun K "_law_kinds" "_law_kinds" (top 54) f fd) (B:Blt mg) {A_NoRow:Addr} {A_NoText:Addr} {A_NoToken:Addr} {A_NoOrder:Addr} {A_NoCalls:Addr} {A_TooMany:Addr} {A_NoTable:Addr} {A_NoSettings:Addr} {A_NoSide:Addr} {A_NoHand:Addr} {A_NoTree:Addr} {A_NoAsk:Addr} {A_NoBoard:Addr} {A_NoDeed:Addr} {A_NoNumber:Addr} {A_NoNet:Addr} {A_AskError:Addr} (v_NoRow:mg "NoRow" = some (.ref A_NoRow)) (v_NoText:mg "NoText" = some (.ref A_NoText)) (v_NoToken:mg "NoToken" = some (.ref A_NoToken)) (v_NoOrder:mg "NoOrder" = some (.ref A_NoOrder)) (v_NoCalls:mg "NoCalls" = some (.ref A_NoCalls)) (v_TooMany:mg "TooMany" = some (.ref A_TooMany)) (v_NoTable:mg "NoTable" = some (.ref A_NoTable)) (v_NoSettings:mg "NoSettings" = some (.ref A_NoSettings)) (v_NoSide:mg "NoSide" = some (.ref A_NoSide)) (v_NoHand:mg "NoHand" = some (.ref A_NoHand)) (v_NoTree:mg "NoTree" = some (.ref A_NoTree)) (v_NoAsk:mg "NoAsk" = some (.ref A_NoAsk)) (v_NoBoard:mg "NoBoard" = some (.ref A_NoBoard)) (v_NoDeed:mg "NoDeed" = some (.ref A_NoDeed)) (v_NoNumber:mg "NoNumber" = some (.ref A_NoNumber)) (v_NoNet:mg "NoNet" = some (.ref A_NoNet)) (kd:Kd17 K [A_NoNet,A_NoNumber,A_NoDeed,A_NoBoard,A_NoAsk,A_NoTree,A_NoHand,A_NoSide,A_NoSettings,A_NoTable,A_TooMany,A_NoCalls,A_NoOrder,A_NoToken,A_NoText,A_NoRow] A_AskError)   (g_ValueError:mg "ValueError" = none)   :
  FnOk P w K mg base CX0 (n + 1) f fd ["_law_error"] (vd [A_NoNet,A_NoNumber,A_NoDeed,A_NoBoard,A_NoAsk,A_NoTree,A_NoHand,A_NoSide,A_NoSettings,A_NoTable,A_TooMany,A_NoCalls,A_NoOrder,A_NoToken,A_NoText,A_NoRow] A_AskError K):=by
 refine F.ok zE yb (fun cdv A outer s H vs Q E hr h=>?_)
 obtain ⟨x,rfl,a,C,o,rfl,ha,hc,h16,q⟩:=h
 refine ⟨_,(zf (zv (i:=1) zE.nd rfl (Or.inr rfl) (zJ (zc (zk (zp (K:=K) rfl) rfl B.isinstance zi (zc (pv 0) (zc (zC rfl v_NoNet (show RelV (.ref A_NoNet) (.ref A_NoNet) from rfl)) ze))) (zc (zk (zp (K:=K) rfl) rfl B.isinstance zi (zc (pv 0) (zc (zC rfl v_NoNumber (show RelV (.ref A_NoNumber) (.ref A_NoNumber) from rfl)) ze))) (zc (zk (zp (K:=K) rfl) rfl B.isinstance zi (zc (pv 0) (zc (zC rfl v_NoDeed (show RelV (.ref A_NoDeed) (.ref A_NoDeed) from rfl)) ze))) ze))))) (zf (zv (i:=1) zE.nd rfl (Or.inr rfl) (zA yW (pv 1) (zJ (zc (zk (zp (K:=K) rfl) rfl B.isinstance zi (zc (pv 0) (zc (zC rfl v_NoBoard (show RelV (.ref A_NoBoard) (.ref A_NoBoard) from rfl)) ze))) (zc (zk (zp (K:=K) rfl) rfl B.isinstance zi (zc (pv 0) (zc (zC rfl v_NoAsk (show RelV (.ref A_NoAsk) (.ref A_NoAsk) from rfl)) ze))) (zc (zk (zp (K:=K) rfl) rfl B.isinstance zi (zc (pv 0) (zc (zC rfl v_NoTree (show RelV (.ref A_NoTree) (.ref A_NoTree) from rfl)) ze))) ze)))))) (zf (zv (i:=1) zE.nd rfl (Or.inr rfl) (zA yW (pv 1) (zJ (zc (zk (zp (K:=K) rfl) rfl B.isinstance zi (zc (pv 0) (zc (zC rfl v_NoHand (show RelV (.ref A_NoHand) (.ref A_NoHand) from rfl)) ze))) ze)))) (zf (zv (i:=1) zE.nd rfl (Or.inr rfl) (zA yW (pv 1) (zJ (zc (zk (zp (K:=K) rfl) rfl B.isinstance zi (zc (pv 0) (zc (zC rfl v_NoSide (show RelV (.ref A_NoSide) (.ref A_NoSide) from rfl)) ze))) (zc (zk (zp (K:=K) rfl) rfl B.isinstance zi (zc (pv 0) (zc (zC rfl v_NoSettings (show RelV (.ref A_NoSettings) (.ref A_NoSettings) from rfl)) ze))) (zc (zk (zp (K:=K) rfl) rfl B.isinstance zi (zc (pv 0) (zc (zC rfl v_NoTable (show RelV (.ref A_NoTable) (.ref A_NoTable) from rfl)) ze))) ze)))))) (zf (zv (i:=1) zE.nd rfl (Or.inr rfl) (zA yW (pv 1) (zJ (zc (zk (zp (K:=K) rfl) rfl B.isinstance zi (zc (pv 0) (zc (zC rfl v_TooMany (show RelV (.ref A_TooMany) (.ref A_TooMany) from rfl)) ze))) (zc (zk (zp (K:=K) rfl) rfl B.isinstance zi (zc (pv 0) (zc (zC rfl v_NoCalls (show RelV (.ref A_NoCalls) (.ref A_NoCalls) from rfl)) ze))) (zc (zk (zp (K:=K) rfl) rfl B.isinstance zi (zc (pv 0) (zc (zC rfl v_NoOrder (show RelV (.ref A_NoOrder) (.ref A_NoOrder) from rfl)) ze))) ze)))))) (zf (zv (i:=1) zE.nd rfl (Or.inr rfl) (zA yW (pv 1) (zJ (zc (zk (zp (K:=K) rfl) rfl B.isinstance zi (zc (pv 0) (zc (zC rfl v_NoToken (show RelV (.ref A_NoToken) (.ref A_NoToken) from rfl)) ze))) (zc (zk (zp (K:=K) rfl) rfl B.isinstance zi (zc (pv 0) (zc (zC rfl v_NoText (show RelV (.ref A_NoText) (.ref A_NoText) from rfl)) ze))) (zc (zk (zp (K:=K) rfl) rfl B.isinstance zi (zc (pv 0) (zc (zC rfl v_NoRow (show RelV (.ref A_NoRow) (.ref A_NoRow) from rfl)) ze))) ze)))))) (zh (zr (zA yW (xP (CSc.of (N':=["_law_k","_law_some"]) (sub:=[none,some 1]) (zl (top 54)) ["_law_error","_law_some"] rfl rfl (by decide +kernel) rfl) rfl (xC rfl B.range (zc zg ze)) (fun _ _ _ _ _ _=>zy (i:=0) (show (["_law_k","_law_some"]:List Str).Nodup by decide +kernel) rfl (Or.inl rfl)) (fun _ _ _ _ _ _=>(vz (yd (zQ (qR (K:=K) rfl) (pv 1) (pv 0) (fun _ _=>rfl))))) (fun _ _ _ _ _ _=>(pv 0))) (zA Wc (zJ (zc zM ze)) (yV wy rfl B.int rO (zc (qI (zk (zp (K:=K) rfl) rfl B.isinstance zi (zc (pv 0) (zc (wA rfl g_ValueError vk) ze)))) ze)))))))))))),?_⟩
 refine yo (fun v H'=>∃ l,v = .ref l /\ H' l = some (.lst (bl17 o 3)) /\ Grow [] H H') (fun Kk hk=>ym kd hc ha rfl (j:=0) rfl (ym kd hc ha rfl (j:=1) rfl (ym kd hc ha rfl (j:=2) rfl (⟨szl rfl,fun p hp=>hk _ _ ⟨p,rfl,zd,Grow.new hp _⟩⟩)))) ?_
 rintro _ H1 ⟨l1,rfl,hl1,g1⟩
 have ha1:=g1.keep _ _ (by simp) ha
 refine yo (fun v H'=>∃ l,v = .ref l /\ H' l = some (.lst (bl17 o 6)) /\ Grow [] H H') (fun Kk hk=>⟨_,rfl,ym kd hc ha1 rfl (j:=3) rfl (ym kd hc ha1 rfl (j:=4) rfl (ym kd hc ha1 rfl (j:=5) rfl (⟨szl rfl,fun p hp=>⟨l1,p,_,_,rfl,rfl,(Grow.new (m:=[]) hp _).keep _ _ (by simp) hl1,zd,le17 (Nat.le_of_ble_eq_true rfl),fun p3 hp3=>hk _ _ ⟨p3,rfl,zd,g1.trans ((Grow.new hp _).trans (Grow.new hp3 _))⟩⟩⟩)))⟩) ?_
 rintro _ H2 ⟨l2,rfl,hl2,g2⟩
 have ha2:=g2.keep _ _ (by simp) ha
 refine yo (fun v H'=>∃ l,v = .ref l /\ H' l = some (.lst (bl17 o 7)) /\ Grow [] H H') (fun Kk hk=>⟨_,rfl,ym kd hc ha2 rfl (j:=6) rfl (⟨szl rfl,fun p hp=>⟨l2,p,_,_,rfl,rfl,(Grow.new (m:=[]) hp _).keep _ _ (by simp) hl2,zd,le17 (Nat.le_of_ble_eq_true rfl),fun p3 hp3=>hk _ _ ⟨p3,rfl,zd,g2.trans ((Grow.new hp _).trans (Grow.new hp3 _))⟩⟩⟩)⟩) ?_
 rintro _ H3 ⟨l3,rfl,hl3,g3⟩
 have ha3:=g3.keep _ _ (by simp) ha
 refine yo (fun v H'=>∃ l,v = .ref l /\ H' l = some (.lst (bl17 o 10)) /\ Grow [] H H') (fun Kk hk=>⟨_,rfl,ym kd hc ha3 rfl (j:=7) rfl (ym kd hc ha3 rfl (j:=8) rfl (ym kd hc ha3 rfl (j:=9) rfl (⟨szl rfl,fun p hp=>⟨l3,p,_,_,rfl,rfl,(Grow.new (m:=[]) hp _).keep _ _ (by simp) hl3,zd,le17 (Nat.le_of_ble_eq_true rfl),fun p3 hp3=>hk _ _ ⟨p3,rfl,zd,g3.trans ((Grow.new hp _).trans (Grow.new hp3 _))⟩⟩⟩)))⟩) ?_
 rintro _ H4 ⟨l4,rfl,hl4,g4⟩
 have ha4:=g4.keep _ _ (by simp) ha
 refine yo (fun v H'=>∃ l,v = .ref l /\ H' l = some (.lst (bl17 o 13)) /\ Grow [] H H') (fun Kk hk=>⟨_,rfl,ym kd hc ha4 rfl (j:=10) rfl (ym kd hc ha4 rfl (j:=11) rfl (ym kd hc ha4 rfl (j:=12) rfl (⟨szl rfl,fun p hp=>⟨l4,p,_,_,rfl,rfl,(Grow.new (m:=[]) hp _).keep _ _ (by simp) hl4,zd,le17 (Nat.le_of_ble_eq_true rfl),fun p3 hp3=>hk _ _ ⟨p3,rfl,zd,g4.trans ((Grow.new hp _).trans (Grow.new hp3 _))⟩⟩⟩)))⟩) ?_
 rintro _ H5 ⟨l5,rfl,hl5,g5⟩
 have ha5:=g5.keep _ _ (by simp) ha
 refine yo (fun v H'=>∃ l,v = .ref l /\ H' l = some (.lst (bl17 o 16)) /\ Grow [] H H') (fun Kk hk=>⟨_,rfl,ym kd hc ha5 rfl (j:=13) rfl (ym kd hc ha5 rfl (j:=14) rfl (ym kd hc ha5 rfl (j:=15) rfl (⟨szl rfl,fun p hp=>⟨l5,p,_,_,rfl,rfl,(Grow.new (m:=[]) hp _).keep _ _ (by simp) hl5,zd,le17 (Nat.le_of_ble_eq_true rfl),fun p3 hp3=>hk _ _ ⟨p3,rfl,zd,g5.trans ((Grow.new hp _).trans (Grow.new hp3 _))⟩⟩⟩)))⟩) ?_
 rintro _ H6 ⟨l6,rfl,hl6,g6⟩
 have ha6:=g6.keep _ _ (by simp) ha
 refine ⟨16,rfl,by decide,by decide,WL (l:=l6) o h16 rfl (fun i hi=>hi) (fun i hi=>hi) (fun i x H' h=>⟨h.2,h.1⟩) (fun i e K k=>k) (fun i Kk hi k=>⟨_,rfl,_,rfl,l6,_,_,_,rfl,rfl,SqL.of hl6,(by rw [Int.zero_add]; exact ya (jy hi)),_,rfl,k⟩) (fun i K k=>⟨_,rfl,k⟩) (fun p hp=>?_)⟩
 have gp:=Grow.new (m:=[]) hp (.lst (kd17 o))
 have hap:=gp.keep _ _ (by simp) ha6
 have hpp:upd H6 p (.lst (kd17 o)) p = some (.lst (kd17 o)):=zd
 generalize upd H6 p _ = H7 at gp hap hpp ⊢
 refine ⟨szl rfl,fun p2 hp2=>?_⟩
 have g2:=Grow.new (m:=[]) hp2 (.lst [V.str (Str.ofString "other")])
 have hap2:=g2.keep _ _ (by simp) hap
 refine ⟨_,rfl,a,C,_,_,_,rfl,hap2,(fun u r=>r),kd.kk C hc.mem,kd.kv C hc.mem,_,rfl,?_⟩
 refine .inr ⟨_,rfl,p2,0,_,rfl,rfl,zd,by decide,by decide,by decide,fun p3 hp3=>?_⟩
 have g3:=Grow.new (m:=[]) hp3 (.lst (List.replicate (0:Int).toNat [V.str (Str.ofString "other")]).flatten)
 refine ⟨p,p3,_,_,rfl,rfl,(g2.trans g3).keep _ _ (by simp) hpp,zd,?_,fun p4 hp4=>?_⟩
 ·cases o <;> exact Nat.le_of_lt (zn (Nat.le_of_ble_eq_true rfl))
 refine q p4 _ (g6.trans (gp.trans (g2.trans (g3.trans (Grow.new hp4 _))))) ?_
 rw [zd]
 exact congrArg (fun z=>some (HO.lst z)) (List.append_nil _)
theorem uw (F:Fun K "_law_kinds" "_law_kinds" (top 54) f fd) (B:Blt mg) {A_NoRow:Addr} {A_NoText:Addr} {A_NoToken:Addr} {A_NoOrder:Addr} {A_NoCalls:Addr} {A_TooMany:Addr} {A_NoTable:Addr} {A_NoSettings:Addr} {A_NoSide:Addr} {A_NoHand:Addr} {A_NoTree:Addr} {A_NoAsk:Addr} {A_NoBoard:Addr} {A_NoDeed:Addr} {A_NoNumber:Addr} {A_NoNet:Addr} {A_AskError:Addr} (v_NoRow:mg "NoRow" = some (.ref A_NoRow)) (v_NoText:mg "NoText" = some (.ref A_NoText)) (v_NoToken:mg "NoToken" = some (.ref A_NoToken)) (v_NoOrder:mg "NoOrder" = some (.ref A_NoOrder)) (v_NoCalls:mg "NoCalls" = some (.ref A_NoCalls)) (v_TooMany:mg "TooMany" = some (.ref A_TooMany)) (v_NoTable:mg "NoTable" = some (.ref A_NoTable)) (v_NoSettings:mg "NoSettings" = some (.ref A_NoSettings)) (v_NoSide:mg "NoSide" = some (.ref A_NoSide)) (v_NoHand:mg "NoHand" = some (.ref A_NoHand)) (v_NoTree:mg "NoTree" = some (.ref A_NoTree)) (v_NoAsk:mg "NoAsk" = some (.ref A_NoAsk)) (v_NoBoard:mg "NoBoard" = some (.ref A_NoBoard)) (v_NoDeed:mg "NoDeed" = some (.ref A_NoDeed)) (v_NoNumber:mg "NoNumber" = some (.ref A_NoNumber)) (v_NoNet:mg "NoNet" = some (.ref A_NoNet)) (kd:Kd17 K [A_NoNet,A_NoNumber,A_NoDeed,A_NoBoard,A_NoAsk,A_NoTree,A_NoHand,A_NoSide,A_NoSettings,A_NoTable,A_TooMany,A_NoCalls,A_NoOrder,A_NoToken,A_NoText,A_NoRow] A_AskError)  (g_ValueError:mg "ValueError" = none) :
  FnOkH P w K mg base (n + 1) f fd ["_law_error"] (wq [A_NoNet,A_NoNumber,A_NoDeed,A_NoBoard,A_NoAsk,A_NoTree,A_NoHand,A_NoSide,A_NoSettings,A_NoTable,A_TooMany,A_NoCalls,A_NoOrder,A_NoToken,A_NoText,A_NoRow] A_AskError K):=by
 refine U7 F zE (fun _=>yb) (fun cdv A outer s H vs Q E e0 hh hr h=>?_)
 obtain ⟨x,rfl,C,o,rfl,ha,hc,h16,q⟩:=h
 refine ⟨_,(zf (zv (i:=1) zE.nd rfl (Or.inr rfl) (zJ (zc (zk (zp (K:=K) rfl) rfl B.isinstance zi (zc (pv 0) (zc (zC rfl v_NoNet (show RelV (.ref A_NoNet) (.ref A_NoNet) from rfl)) ze))) (zc (zk (zp (K:=K) rfl) rfl B.isinstance zi (zc (pv 0) (zc (zC rfl v_NoNumber (show RelV (.ref A_NoNumber) (.ref A_NoNumber) from rfl)) ze))) (zc (zk (zp (K:=K) rfl) rfl B.isinstance zi (zc (pv 0) (zc (zC rfl v_NoDeed (show RelV (.ref A_NoDeed) (.ref A_NoDeed) from rfl)) ze))) ze))))) (zf (zv (i:=1) zE.nd rfl (Or.inr rfl) (zA yW (pv 1) (zJ (zc (zk (zp (K:=K) rfl) rfl B.isinstance zi (zc (pv 0) (zc (zC rfl v_NoBoard (show RelV (.ref A_NoBoard) (.ref A_NoBoard) from rfl)) ze))) (zc (zk (zp (K:=K) rfl) rfl B.isinstance zi (zc (pv 0) (zc (zC rfl v_NoAsk (show RelV (.ref A_NoAsk) (.ref A_NoAsk) from rfl)) ze))) (zc (zk (zp (K:=K) rfl) rfl B.isinstance zi (zc (pv 0) (zc (zC rfl v_NoTree (show RelV (.ref A_NoTree) (.ref A_NoTree) from rfl)) ze))) ze)))))) (zf (zv (i:=1) zE.nd rfl (Or.inr rfl) (zA yW (pv 1) (zJ (zc (zk (zp (K:=K) rfl) rfl B.isinstance zi (zc (pv 0) (zc (zC rfl v_NoHand (show RelV (.ref A_NoHand) (.ref A_NoHand) from rfl)) ze))) ze)))) (zf (zv (i:=1) zE.nd rfl (Or.inr rfl) (zA yW (pv 1) (zJ (zc (zk (zp (K:=K) rfl) rfl B.isinstance zi (zc (pv 0) (zc (zC rfl v_NoSide (show RelV (.ref A_NoSide) (.ref A_NoSide) from rfl)) ze))) (zc (zk (zp (K:=K) rfl) rfl B.isinstance zi (zc (pv 0) (zc (zC rfl v_NoSettings (show RelV (.ref A_NoSettings) (.ref A_NoSettings) from rfl)) ze))) (zc (zk (zp (K:=K) rfl) rfl B.isinstance zi (zc (pv 0) (zc (zC rfl v_NoTable (show RelV (.ref A_NoTable) (.ref A_NoTable) from rfl)) ze))) ze)))))) (zf (zv (i:=1) zE.nd rfl (Or.inr rfl) (zA yW (pv 1) (zJ (zc (zk (zp (K:=K) rfl) rfl B.isinstance zi (zc (pv 0) (zc (zC rfl v_TooMany (show RelV (.ref A_TooMany) (.ref A_TooMany) from rfl)) ze))) (zc (zk (zp (K:=K) rfl) rfl B.isinstance zi (zc (pv 0) (zc (zC rfl v_NoCalls (show RelV (.ref A_NoCalls) (.ref A_NoCalls) from rfl)) ze))) (zc (zk (zp (K:=K) rfl) rfl B.isinstance zi (zc (pv 0) (zc (zC rfl v_NoOrder (show RelV (.ref A_NoOrder) (.ref A_NoOrder) from rfl)) ze))) ze)))))) (zf (zv (i:=1) zE.nd rfl (Or.inr rfl) (zA yW (pv 1) (zJ (zc (zk (zp (K:=K) rfl) rfl B.isinstance zi (zc (pv 0) (zc (zC rfl v_NoToken (show RelV (.ref A_NoToken) (.ref A_NoToken) from rfl)) ze))) (zc (zk (zp (K:=K) rfl) rfl B.isinstance zi (zc (pv 0) (zc (zC rfl v_NoText (show RelV (.ref A_NoText) (.ref A_NoText) from rfl)) ze))) (zc (zk (zp (K:=K) rfl) rfl B.isinstance zi (zc (pv 0) (zc (zC rfl v_NoRow (show RelV (.ref A_NoRow) (.ref A_NoRow) from rfl)) ze))) ze)))))) (zh (zr (zA yW (YN (CSc.of (N':=["_law_k","_law_some"]) (sub:=[none,some 1]) (zl (top 54)) ["_law_error","_law_some"] rfl rfl (by decide +kernel) rfl) hh (j7 rfl B.range (zc zg ze)) (fun _ _ _ _ _ _=>zy (i:=0) (show (["_law_k","_law_some"]:List Str).Nodup by decide +kernel) rfl (Or.inl rfl)) (fun _ _ _ _ _ _=>(vz (yd (zQ (qR (K:=K) rfl) (pv 1) (pv 0) (fun _ _=>rfl))))) (fun _ _ _ _ _ _=>(pv 0))) (zA Wc (zJ (zc zM ze)) (yV wy rfl B.int rO (zc (qI (zk (zp (K:=K) rfl) rfl B.isinstance zi (zc (pv 0) (zc (wA rfl g_ValueError vk) ze)))) ze)))))))))))),?_⟩
 refine yo (fun v H'=>∃ l,v = .ref l /\ H' l = some (.lst (bl17 o 3)) /\ Grow [] H H') (fun Kk hk=>ym kd hc ha rfl (j:=0) rfl (ym kd hc ha rfl (j:=1) rfl (ym kd hc ha rfl (j:=2) rfl (⟨szl rfl,fun p hp=>hk _ _ ⟨p,rfl,zd,Grow.new hp _⟩⟩)))) ?_
 rintro _ H1 ⟨l1,rfl,hl1,g1⟩
 have ha1:=g1.keep _ _ (by simp) ha
 refine yo (fun v H'=>∃ l,v = .ref l /\ H' l = some (.lst (bl17 o 6)) /\ Grow [] H H') (fun Kk hk=>⟨_,rfl,ym kd hc ha1 rfl (j:=3) rfl (ym kd hc ha1 rfl (j:=4) rfl (ym kd hc ha1 rfl (j:=5) rfl (⟨szl rfl,fun p hp=>⟨l1,p,_,_,rfl,rfl,(Grow.new (m:=[]) hp _).keep _ _ (by simp) hl1,zd,le17 (Nat.le_of_ble_eq_true rfl),fun p3 hp3=>hk _ _ ⟨p3,rfl,zd,g1.trans ((Grow.new hp _).trans (Grow.new hp3 _))⟩⟩⟩)))⟩) ?_
 rintro _ H2 ⟨l2,rfl,hl2,g2⟩
 have ha2:=g2.keep _ _ (by simp) ha
 refine yo (fun v H'=>∃ l,v = .ref l /\ H' l = some (.lst (bl17 o 7)) /\ Grow [] H H') (fun Kk hk=>⟨_,rfl,ym kd hc ha2 rfl (j:=6) rfl (⟨szl rfl,fun p hp=>⟨l2,p,_,_,rfl,rfl,(Grow.new (m:=[]) hp _).keep _ _ (by simp) hl2,zd,le17 (Nat.le_of_ble_eq_true rfl),fun p3 hp3=>hk _ _ ⟨p3,rfl,zd,g2.trans ((Grow.new hp _).trans (Grow.new hp3 _))⟩⟩⟩)⟩) ?_
 rintro _ H3 ⟨l3,rfl,hl3,g3⟩
 have ha3:=g3.keep _ _ (by simp) ha
 refine yo (fun v H'=>∃ l,v = .ref l /\ H' l = some (.lst (bl17 o 10)) /\ Grow [] H H') (fun Kk hk=>⟨_,rfl,ym kd hc ha3 rfl (j:=7) rfl (ym kd hc ha3 rfl (j:=8) rfl (ym kd hc ha3 rfl (j:=9) rfl (⟨szl rfl,fun p hp=>⟨l3,p,_,_,rfl,rfl,(Grow.new (m:=[]) hp _).keep _ _ (by simp) hl3,zd,le17 (Nat.le_of_ble_eq_true rfl),fun p3 hp3=>hk _ _ ⟨p3,rfl,zd,g3.trans ((Grow.new hp _).trans (Grow.new hp3 _))⟩⟩⟩)))⟩) ?_
 rintro _ H4 ⟨l4,rfl,hl4,g4⟩
 have ha4:=g4.keep _ _ (by simp) ha
 refine yo (fun v H'=>∃ l,v = .ref l /\ H' l = some (.lst (bl17 o 13)) /\ Grow [] H H') (fun Kk hk=>⟨_,rfl,ym kd hc ha4 rfl (j:=10) rfl (ym kd hc ha4 rfl (j:=11) rfl (ym kd hc ha4 rfl (j:=12) rfl (⟨szl rfl,fun p hp=>⟨l4,p,_,_,rfl,rfl,(Grow.new (m:=[]) hp _).keep _ _ (by simp) hl4,zd,le17 (Nat.le_of_ble_eq_true rfl),fun p3 hp3=>hk _ _ ⟨p3,rfl,zd,g4.trans ((Grow.new hp _).trans (Grow.new hp3 _))⟩⟩⟩)))⟩) ?_
 rintro _ H5 ⟨l5,rfl,hl5,g5⟩
 have ha5:=g5.keep _ _ (by simp) ha
 refine yo (fun v H'=>∃ l,v = .ref l /\ H' l = some (.lst (bl17 o 16)) /\ Grow [] H H') (fun Kk hk=>⟨_,rfl,ym kd hc ha5 rfl (j:=13) rfl (ym kd hc ha5 rfl (j:=14) rfl (ym kd hc ha5 rfl (j:=15) rfl (⟨szl rfl,fun p hp=>⟨l5,p,_,_,rfl,rfl,(Grow.new (m:=[]) hp _).keep _ _ (by simp) hl5,zd,le17 (Nat.le_of_ble_eq_true rfl),fun p3 hp3=>hk _ _ ⟨p3,rfl,zd,g5.trans ((Grow.new hp _).trans (Grow.new hp3 _))⟩⟩⟩)))⟩) ?_
 rintro _ H6 ⟨l6,rfl,hl6,g6⟩
 have ha6:=g6.keep _ _ (by simp) ha
 refine ⟨16,rfl,by decide,by decide,WL (l:=l6) o h16 rfl (fun i hi=>⟨hi,C,ha6⟩) (fun i hi=>hi) (fun i x H' h=>⟨h.2,h.1⟩) (fun i e K k=>k) (fun i Kk hi k=>⟨_,rfl,_,rfl,l6,_,_,_,rfl,rfl,SqL.of hl6,(by rw [Int.zero_add]; exact ya (jy hi)),_,rfl,k⟩) (fun i K k=>⟨_,rfl,k⟩) (fun p hp=>?_)⟩
 have gp:=Grow.new (m:=[]) hp (.lst (kd17 o))
 have hap:=gp.keep _ _ (by simp) ha6
 have hpp:upd H6 p (.lst (kd17 o)) p = some (.lst (kd17 o)):=zd
 generalize upd H6 p _ = H7 at gp hap hpp ⊢
 refine ⟨szl rfl,fun p2 hp2=>?_⟩
 have g2:=Grow.new (m:=[]) hp2 (.lst [V.str (Str.ofString "other")])
 have hap2:=g2.keep _ _ (by simp) hap
 refine ⟨_,rfl,e0,C,_,_,_,rfl,hap2,(fun u r=>r),kd.kk C hc.mem,kd.kv C hc.mem,_,rfl,?_⟩
 refine .inr ⟨_,rfl,p2,0,_,rfl,rfl,zd,by decide,by decide,by decide,fun p3 hp3=>?_⟩
 have g3:=Grow.new (m:=[]) hp3 (.lst (List.replicate (0:Int).toNat [V.str (Str.ofString "other")]).flatten)
 refine ⟨p,p3,_,_,rfl,rfl,(g2.trans g3).keep _ _ (by simp) hpp,zd,?_,fun p4 hp4=>?_⟩
 ·cases o <;> exact Nat.le_of_lt (zn (Nat.le_of_ble_eq_true rfl))
 refine q p4 _ (g6.trans (gp.trans (g2.trans (g3.trans (Grow.new hp4 _))))) ?_
 rw [zd]
 exact congrArg (fun z=>some (HO.lst z)) (List.append_nil _)
theorem vo:FnScope ["_law_pot_here","_law_many","_law_digit"] ["_law_pot_here","_law_many"] (zl (top 47)):=⟨rfl,rfl,rfl,by decide +kernel,rfl,by decide +kernel,by decide +kernel⟩
theorem rq (F:Fun K "_law_take" "_law_take" (top 47) f fd) (B:Blt mg)      :
  FnOk P w K mg base CX0 (n + 1) f fd ["_law_pot_here","_law_many"] (xp K):=by
 refine F.ok vo xF (fun cdv A outer s H vs Q E hr h=>?_)
 obtain ⟨x,y,rfl,a,m,rfl,rfl,⟨p0,p1,hp,h0⟩,hm,hm2,q⟩:=h
 refine ⟨_,(zf (zH (zm rK (zQ zY (pv 0) zg (fun _ _=>rfl)) zg (zu _)) (zf (xZ (zk sj rfl B.divmod Xc (zc (zQ zY (pv 0) zg (fun _ _=>rfl)) (zc (pv 1) ze))) (wv rfl (zD (X5 (pv 0) zg qL) (zD (zy (i:=2) vo.nd rfl (Or.inl rfl)) xl)))) (zh (zr (pv 2)))) zx) (zf (xZ (zA vH (zA y6 (zA yG (zQ zY (pv 0) zg (fun _ _=>rfl)) zg) zg) zg) (X5 (pv 0) zg qL)) (zh (zr (zA vH (zA qM (zA vH (zA yG (zQ zY (pv 0) zg (fun _ _=>rfl)) (zQ zY (pv 0) zg (fun _ _=>rfl))) zg) zg) (pv 1)))))),?_⟩
 refine ⟨_,rfl,a,_,_,_,rfl,rfl,SqL.of hp,rfl,_,_,rfl,rfl,_,rfl,?_⟩
 refine ite2 (fun c=>?_) (fun c=>?_)
 ·refine ⟨_,rfl,a,_,_,_,rfl,rfl,SqL.of hp,rfl,_,rfl,p0,m,rfl,⟨hm,hm2⟩,fun t ht=>?_⟩
  have hp':upd H t (.tup [.int (p0 / m),.int (p0 % m)]) a = some (.lst [.int p0,.int p1]):=by rw [zB (zt hp ht)]; exact hp
  refine ⟨t,_,rfl,SqT.of zd,rfl,_,_,rfl,_,rfl,a,_,0,0,rfl,rfl,hp',rfl,_,_,rfl,rfl,?_⟩
  exact ⟨_,rfl,q _ _ (Int.emod_nonneg _ (by omega)) (Int.emod_lt_of_pos _ hm) ((Grow.new ht _).trans (Grow.set hp' (by simp) _)) ⟨p0 / m,p1,zd,Int.ediv_nonneg h0 (by omega)⟩⟩
 ·refine ⟨_,rfl,a,_,_,_,rfl,rfl,SqL.of hp,rfl,p1,48271,rfl,rfl,xg ⟨by decide,by decide⟩,_,_,rfl,rfl,_,_,rfl,rfl,(by show (0:Int) < 2147483647; decide),_,rfl,a,_,1,1,rfl,rfl,hp,rfl,?_⟩
  have b0:0 <= (p1 * 48271 + 11) % 2147483647:=Int.emod_nonneg _ (by decide)
  have b1:(p1 * 48271 + 11) % 2147483647 < 2147483647:=Int.emod_lt_of_pos _ (by decide)
  refine ⟨_,rfl,a,_,_,_,rfl,rfl,SqL.of zd,rfl,_,rfl,a,_,_,_,rfl,rfl,SqL.of zd,rfl,(p1 * 48271 + 11) % 2147483647,(p1 * 48271 + 11) % 2147483647,rfl,rfl,xg ⟨by omega,by omega⟩,_,_,rfl,rfl,(by show (0:Int) < 2147483629; decide),_,_,rfl,rfl,⟨by decide,by decide⟩,_,rfl,_,_,rfl,rfl,hm,?_⟩
  exact q _ _ (Int.emod_nonneg _ (by omega)) (Int.emod_lt_of_pos _ hm) (Grow.set hp (by simp) _) ⟨p0,(p1 * 48271 + 11) % 2147483647,zd,h0⟩
theorem yM:FnScope ["_law_pot_here","_law_text","_law_some"] ["_law_pot_here"] (zl (top 60)):=⟨rfl,rfl,rfl,by decide +kernel,rfl,by decide +kernel,by decide +kernel⟩
theorem rA (F:Fun K "_law_made" "_law_made" (top 60) f fd) (B:Blt mg) {A_AskError:Addr} {A_NoRow:Addr} {A_NoText:Addr} {A_NoToken:Addr} {A_NoOrder:Addr} {A_NoCalls:Addr} {A_TooMany:Addr} {A_NoTable:Addr} {A_NoSettings:Addr} {A_NoSide:Addr} {A_NoHand:Addr} {A_NoTree:Addr} {A_NoAsk:Addr} {A_NoBoard:Addr} {A_NoDeed:Addr} {A_NoNumber:Addr} {A_NoNet:Addr} (x_AskError:ExcC K mg "AskError" A_AskError) (x_NoRow:ExcC K mg "NoRow" A_NoRow) (x_NoText:ExcC K mg "NoText" A_NoText) (x_NoToken:ExcC K mg "NoToken" A_NoToken) (x_NoOrder:ExcC K mg "NoOrder" A_NoOrder) (x_NoCalls:ExcC K mg "NoCalls" A_NoCalls) (x_TooMany:ExcC K mg "TooMany" A_TooMany) (x_NoTable:ExcC K mg "NoTable" A_NoTable) (x_NoSettings:ExcC K mg "NoSettings" A_NoSettings) (x_NoSide:ExcC K mg "NoSide" A_NoSide) (x_NoHand:ExcC K mg "NoHand" A_NoHand) (x_NoTree:ExcC K mg "NoTree" A_NoTree) (x_NoAsk:ExcC K mg "NoAsk" A_NoAsk) (x_NoBoard:ExcC K mg "NoBoard" A_NoBoard) (x_NoDeed:ExcC K mg "NoDeed" A_NoDeed) (x_NoNumber:ExcC K mg "NoNumber" A_NoNumber) (x_NoNet:ExcC K mg "NoNet" A_NoNet) (v_AskError:mg "AskError" = some (.ref A_AskError)) (kd:Kd17 K [A_NoNet,A_NoNumber,A_NoDeed,A_NoBoard,A_NoAsk,A_NoTree,A_NoHand,A_NoSide,A_NoSettings,A_NoTable,A_TooMany,A_NoCalls,A_NoOrder,A_NoToken,A_NoText,A_NoRow] A_AskError) (qc0:zo P w K mg base n "_law_kinds" ["_law_error"] (vd [A_NoNet,A_NoNumber,A_NoDeed,A_NoBoard,A_NoAsk,A_NoTree,A_NoHand,A_NoSide,A_NoSettings,A_NoTable,A_TooMany,A_NoCalls,A_NoOrder,A_NoToken,A_NoText,A_NoRow] A_AskError K)) (qc1:zo P w K mg base n "_law_take" ["_law_pot_here","_law_many"] (xp K))     :
  FnOk P w K mg base CX0 (n + 1) f fd ["_law_pot_here"] (rn K):=by
 refine F.ok yM yb (fun cdv A outer s H vs Q E hr h=>?_)
 obtain ⟨x,rfl,a,rfl,pp,q⟩:=h
 refine ⟨_,(zf (zv (i:=1) yM.nd rfl (Or.inl rfl) (zA YO (zQ qK zM (zj qc1 hr rfl (zc (pv 0) (zc zg ze))) (fun _ _=>rfl)) (zj qc1 hr rfl (zc (pv 0) (zc zg ze))))) (zf (zv (i:=2) yM.nd rfl (Or.inl rfl) (zJ (zc (zT rfl x_NoNet rfl (pv 1)) (zc (zT rfl x_NoNumber rfl (pv 1)) (zc (zT rfl x_NoDeed rfl (pv 1)) (zc (zT rfl x_NoBoard rfl (pv 1)) (zc (zT rfl x_NoAsk rfl (pv 1)) (zc (zT rfl x_NoTree rfl (pv 1)) (zc (zT rfl x_NoHand rfl (pv 1)) ze))))))))) (zf (zv (i:=2) yM.nd rfl (Or.inl rfl) (zA yW (pv 2) (zJ (zc (zT rfl x_NoSide rfl (pv 1)) (zc (zT rfl x_NoSettings rfl (pv 1)) (zc (zT rfl x_NoTable rfl (pv 1)) (zc (zT rfl x_TooMany rfl (pv 1)) (zc (zT rfl x_NoCalls rfl (pv 1)) (zc (zT rfl x_NoOrder rfl (pv 1)) ze))))))))) (zf (zv (i:=2) yM.nd rfl (Or.inl rfl) (zA yW (pv 2) (zJ (zc (zT rfl x_NoToken rfl (pv 1)) (zc (zT rfl x_NoText rfl (pv 1)) (zc (zT rfl x_NoRow rfl (pv 1)) ze)))))) (zf (zH (PW.pt (wP (yC (yd (zk (su rfl) rfl B.all Ua (zc (xP (CSc.of (N':=["_law_one"]) (sub:=[none]) (zl (top 60)) ["_law_pot_here","_law_text","_law_some"] rfl rfl (by decide +kernel) rfl) rfl (u3 (pv 2)) (fun _ _ _ _ _ _=>zy (i:=0) (show (["_law_one"]:List Str).Nodup by decide +kernel) rfl (Or.inl rfl)) (fun _ _ _ _ _ _=>xO) (fun _ _ _ _ _ _=>(zk (zp (K:=K) rfl) rfl B.isinstance zi (zc (pv 0) (zc (zC rfl v_AskError (show RelV (.ref A_AskError) (.ref A_AskError) from rfl)) ze))))) ze)))) (xv (zm (Xm (K:=K) rfl hr) (zj qc0 hr rfl (zc (zT rfl x_AskError rfl (pv 1)) ze)) (zJ ze) (zu _))))) (zh (zr vq)) zx) (zh (zr (xn (Ut (K:=K) rfl hr) (xP (CSc.of (N':=["_law_one"]) (sub:=[none]) (zl (top 60)) ["_law_pot_here","_law_text","_law_some"] rfl rfl (by decide +kernel) rfl) rfl (u3 (pv 2)) (fun _ _ _ _ _ _=>zy (i:=0) (show (["_law_one"]:List Str).Nodup by decide +kernel) rfl (Or.inl rfl)) (fun _ _ _ _ _ _=>xO) (fun _ _ _ _ _ _=>(zj qc0 hr rfl (zc (pv 0) ze)))) (xP (CSc.of (N':=["_law_k"]) (sub:=[none]) (zl (top 60)) ["_law_pot_here","_law_text","_law_some"] rfl rfl (by decide +kernel) rfl) rfl (xC rfl B.range (zc zg ze)) (fun _ _ _ _ _ _=>zy (i:=0) (show (["_law_k"]:List Str).Nodup by decide +kernel) rfl (Or.inl rfl)) (fun _ _ _ _ _ _=>xO) (fun _ _ _ _ _ _=>(zJ (zc (pv 0) ze)))) (zu _))))))))),?_⟩
 refine yo (fun v H'=>∃ z,v = .str z /\ Grow [a] H H' /\ Pot H' a) (fun Kk hk=>⟨_,rfl,_,_,rfl,a,26,rfl,rfl,pp,by decide,by decide,fun n1 H1 l1 u1 g1 pp1=>?_⟩) ?_
 ·obtain ⟨j,rfl⟩:∃ j:Nat,n1 = j:=⟨n1.toNat,by omega⟩
  have hj:j < 26:=by omega
  obtain ⟨c,hc⟩:∃ c,(Str.ofString "abcdefghijklmnopqrstuvwxyz").cps.toList[j]? = some c:=⟨_,List.getElem?_eq_getElem (by rw [YX]; exact hj)⟩
  refine ⟨_,j,c,rfl,rfl,by decide,ya hc,?_⟩
  refine ⟨_,rfl,_,_,rfl,a,8,rfl,rfl,pp1,by decide,by decide,fun n2 H2 l2 u2 g2 pp2=>?_⟩
  obtain ⟨k,rfl⟩:∃ k:Nat,n2 = k:=⟨n2.toNat,by omega⟩
  exact ⟨_,k,rfl,rfl,rfl,by omega,fun z'=>hk _ _ ⟨z',rfl,g1.trans g2,pp2⟩⟩
 rintro _ H0 ⟨z,rfl,g0,pp0⟩
 refine yo (fun v H'=>∃ l xs,v = .ref l /\ H' l = some (.lst xs) /\ ug H' xs [A_NoNet,A_NoNumber,A_NoDeed,A_NoBoard,A_NoAsk,A_NoTree,A_NoHand] /\ Grow [] H0 H') (fun Kk hk=>XW (z:=z) rfl [A_NoNet,A_NoNumber,A_NoDeed,A_NoBoard,A_NoAsk,A_NoTree,A_NoHand] H0 _ fun xs H' g hx=>⟨Nat.le_of_lt (zn (by rw [hx.1]; exact Nat.le_of_ble_eq_true rfl)),fun p hp=>hk _ _ ⟨p,xs,rfl,zd,hx.grow (Grow.new (m:=[]) hp _) (by simp),g.trans (Grow.new hp _)⟩⟩) ?_
 rintro _ H1 ⟨l1,xs1,rfl,hl1,hx1,g1⟩
 refine yo (fun v H'=>∃ l xs,v = .ref l /\ H' l = some (.lst xs) /\ ug H' xs ([A_NoNet,A_NoNumber,A_NoDeed,A_NoBoard,A_NoAsk,A_NoTree,A_NoHand] ++ [A_NoSide,A_NoSettings,A_NoTable,A_TooMany,A_NoCalls,A_NoOrder]) /\ Grow [] H0 H') (fun Kk hk=>⟨_,rfl,XW (z:=z) rfl [A_NoSide,A_NoSettings,A_NoTable,A_TooMany,A_NoCalls,A_NoOrder] H1 _ fun xs H' g hx=>⟨Nat.le_of_lt (zn (by rw [hx.1]; exact Nat.le_of_ble_eq_true rfl)),fun p hp=>⟨l1,p,xs1,xs,rfl,rfl,(g.trans (Grow.new hp _)).keep _ _ (by simp) hl1,zd,Nat.le_of_lt (zn (by rw [hx.1,hx1.1]; exact Nat.le_of_ble_eq_true rfl)),fun p3 hp3=>?_⟩⟩⟩) ?_
 ·have gg:Grow [] H1 (upd (upd H' p (.lst xs)) p3 (.lst (xs1 ++ xs))):=g.trans ((Grow.new hp _).trans (Grow.new hp3 _))
  exact hk _ _ ⟨p3,xs1 ++ xs,rfl,zd,(hx1.grow gg (by simp)).app (hx.grow ((Grow.new (m:=[]) hp _).trans (Grow.new hp3 _)) (by simp)),g1.trans gg⟩
 rintro _ H2 ⟨l2,xs2,rfl,hl2,hx2,g2⟩
 refine yo (fun v H'=>∃ l xs,v = .ref l /\ H' l = some (.lst xs) /\ ug H' xs [A_NoNet,A_NoNumber,A_NoDeed,A_NoBoard,A_NoAsk,A_NoTree,A_NoHand,A_NoSide,A_NoSettings,A_NoTable,A_TooMany,A_NoCalls,A_NoOrder,A_NoToken,A_NoText,A_NoRow] /\ Grow [] H0 H') (fun Kk hk=>⟨_,rfl,XW (z:=z) rfl [A_NoToken,A_NoText,A_NoRow] H2 _ fun xs H' g hx=>⟨Nat.le_of_lt (zn (by rw [hx.1]; exact Nat.le_of_ble_eq_true rfl)),fun p hp=>⟨l2,p,xs2,xs,rfl,rfl,(g.trans (Grow.new hp _)).keep _ _ (by simp) hl2,zd,Nat.le_of_lt (zn (by rw [hx.1,hx2.1]; exact Nat.le_of_ble_eq_true rfl)),fun p3 hp3=>?_⟩⟩⟩) ?_
 ·have gg:Grow [] H2 (upd (upd H' p (.lst xs)) p3 (.lst (xs2 ++ xs))):=g.trans ((Grow.new hp _).trans (Grow.new hp3 _))
  exact hk _ _ ⟨p3,xs2 ++ xs,rfl,zd,(hx2.grow gg (by simp)).app (hx.grow ((Grow.new (m:=[]) hp _).trans (Grow.new hp3 _)) (by simp)),g2.trans gg⟩
 rintro _ H3 ⟨l3,xs3,rfl,hl3,hx3,g3⟩
 clear hl1 hx1 g1 hl2 hx2 g2
 have h16:xs3.length = 16:=hx3.1
 have it3:∀ i,i < 16 -> ∃ e C,xs3[i]? = some (V.ref e) /\ H3 e = some (ExO e C) /\ Cl17 [A_NoNet,A_NoNumber,A_NoDeed,A_NoBoard,A_NoAsk,A_NoTree,A_NoHand,A_NoSide,A_NoSettings,A_NoTable,A_TooMany,A_NoCalls,A_NoOrder,A_NoToken,A_NoText,A_NoRow] A_AskError C (some i):=fun i hi=>by
  have hc:i < ([A_NoNet,A_NoNumber,A_NoDeed,A_NoBoard,A_NoAsk,A_NoTree,A_NoHand,A_NoSide,A_NoSettings,A_NoTable,A_TooMany,A_NoCalls,A_NoOrder,A_NoToken,A_NoText,A_NoRow]:List Addr).length:=hi
  obtain ⟨e,h1,h2⟩:=hx3.2 i _ (List.getElem?_eq_getElem hc)
  exact ⟨e,_,h1,h2,List.getElem?_eq_getElem hc⟩
 have tail:∀ H4,Grow [] H3 H4 -> tRet (tOp (Us K true) (Zz (V4 K (tVar 2)) [none] (wc 0) rQ (jE (vd [A_NoNet,A_NoNumber,A_NoDeed,A_NoBoard,A_NoAsk,A_NoTree,A_NoHand,A_NoSide,A_NoSettings,A_NoTable,A_TooMany,A_NoCalls,A_NoOrder,A_NoToken,A_NoText,A_NoRow] A_AskError K) [] E0 (t9 (tVar 0) tNil))) (Zz (V5 (t9 (tC (V.int 16)) tNil)) [none] (wc 0) rQ (tLst (t9 (tVar 0) tNil)))) { nx:=fun x H'=>Q V.non H',rt:=Q } [some (.ref a),some (.str z),some (.ref l3)] H4:=fun H4 g4=>by
  refine ⟨_,rfl,l3,rfl,⟨_,SqL.of (g4.keep _ _ (by simp) hl3)⟩,?_⟩
  refine uF (xs:=xs3) (fun i ys σ' H'=>Grow [] H4 H' /\ uu H' ys i /\ ∃ e,σ' = [e]) ⟨Grow.refl _ _,⟨rfl,fun i h=>absurd h (Nat.not_lt_zero _)⟩,_,rfl⟩ ?_ ?_ ?_
  ·rintro i ys σ' H' _ ⟨g5,_⟩
   exact SqL.of ((g4.trans g5).keep _ _ (by simp) hl3)
  ·rintro i x ys σ' H' hx ⟨g5,hr5,⟨e,rfl⟩⟩
   have hi:i < 16:=by have:=(List.getElem?_eq_some_iff.mp hx).1; omega
   obtain ⟨e1,C,h1,h2,h3⟩:=it3 i hi
   rw [h1] at hx
   obtain rfl:=Option.some.inj hx
   refine ⟨_,rfl,_,rfl,e1,C,some i,rfl,(g4.trans g5).keep _ _ (by simp) h2,h3,(fun j hj=>by cases hj; exact hi),fun l H6 g6 hl6=>⟨zn (by rw [hr5.1]; omega),g5.trans g6,(hr5.grow g6).snoc hl6,_,rfl⟩⟩
  rintro ys σ' H' ⟨g5,hr5,_⟩ l hl
  have hr6:=hr5.grow (Grow.new hl (.lst ys))
  have gl:=Grow.new (m:=[]) hl (.lst ys)
  have hll:upd H' l (.lst ys) l = some (.lst ys):=zd
  generalize upd H' l _ = H6 at hr6 gl hll ⊢
  refine ⟨16,rfl,by decide,by decide,?_⟩
  refine qT (fun i ys H'=>Grow [] H6 H' /\ uu H' ys i) ⟨Grow.refl _ _,⟨rfl,fun i h=>absurd h (Nat.not_lt_zero _)⟩⟩ ?_ ?_
  ·rintro i zs H7 hi ⟨g7,hr7⟩
   refine ⟨_,rfl,szl rfl,fun p hp=>⟨zn (by have:i < 16:=hi; rw [hr7.1]; omega),g7.trans (Grow.new hp _),(hr7.grow (Grow.new hp _)).snoc ?_⟩⟩
   rw [zd,Int.zero_add]
  rintro zs H7 ⟨g7,hr7⟩ k hk
  have hr8:=hr7.grow (Grow.new hk (.lst zs))
  have g8:=Grow.new (m:=[]) hk (.lst zs)
  have e16:xs3.length = 16:=h16
  rw [e16] at hr6
  refine ⟨.list ((List.range 16).map fun (j:Nat)=>PyData.list [.int (j:Int)]),.lst (SqL.of ((g7.trans g8).keep _ _ (by simp) hll)) (hr6.grow (g7.trans g8)).dq,.lst (SqL.of zd) hr8.dq,⟨_,rfl⟩,by decide,?_⟩
  have gg:=g3.trans (g4.trans (g5.trans (gl.trans (g7.trans g8))))
  exact q _ (g0.trans gg.wk) (pp0.grow gg)
 refine xz (fun b H'=>b = false /\ Grow [] H3 H') (fun Kk hk=>?_) ?_
 ·refine ⟨_,rfl,l3,rfl,⟨_,SqL.of hl3⟩,uF (xs:=xs3) (fun i ys σ' H'=>H' = H3 /\ ys = List.replicate i (V.bl true) /\ ∃ e,σ' = [e]) ⟨rfl,rfl,_,rfl⟩ ?_ ?_ ?_⟩
  ·rintro i ys σ' H' _ ⟨rfl,_⟩
   exact SqL.of hl3
  ·rintro i x ys σ' H' hx ⟨rfl,rfl,e,rfl⟩
   have hi:i < 16:=by have:=(List.getElem?_eq_some_iff.mp hx).1; omega
   obtain ⟨e1,C,h1,h2,h3⟩:=it3 i hi
   rw [h1] at hx
   obtain rfl:=Option.some.inj hx
   exact ⟨_,rfl,e1,C,_,_,_,rfl,h2,(fun u r=>r),kd.kk C h3.mem,kd.kb C h3.mem,zn (by rw [List.length_replicate]; omega),rfl,List.replicate_succ'.symm,_,rfl⟩
  rintro ys σ' H' ⟨rfl,rfl,_⟩ l hl
  have gl:=Grow.new (m:=[]) hl (.lst (List.replicate xs3.length (V.bl true)))
  have hb:(List.replicate xs3.length true).all id = true:=by rw [h16]; decide
  refine ⟨l,List.replicate xs3.length true,rfl,SqL.of (by rw [zd,List.map_replicate]),_,rfl,zz (by rw [hb]; rfl) ?_⟩
  generalize upd H' l _ = H5 at gl ⊢
  refine ⟨_,rfl,fun e he=>⟨_,rfl,e,A_AskError,none,rfl,zd,rfl,(fun i h=>by cases h),fun l2 H6 g6 hl6=>⟨szl rfl,fun l7 hl7=>⟨l2,l7,_,rfl,rfl,SqL.of ((Grow.new (m:=[]) hl7 _).keep _ _ (by simp) hl6),SqL.of zd,_,rfl,hk _ _ ⟨rfl,gl.trans ((Grow.new he _).trans (g6.trans (Grow.new hl7 _)))⟩⟩⟩⟩⟩
 rintro _ H4 ⟨rfl,g4⟩
 exact iteF (xy (tail H4 g4))
theorem wr:FnScope ["deed","value","add","low","high","result"] ["deed","value"] (zl (top 30)):=⟨rfl,rfl,rfl,by decide +kernel,rfl,by decide +kernel,by decide +kernel⟩
theorem VQ (F:Fun K "made" "made" (top 30) f fd) (B:Blt mg)      :
  FnOk P w K mg base CX0 (n + 1) f fd ["deed","value"] (vQ K):=by
 refine F.ok wr xF (fun cdv A outer s H vs Q E hr h=>?_)
 obtain ⟨x,y,rfl,d,v,⟨a,rfl,hs⟩,rfl,q⟩:=h
 refine ⟨_,(zf (xZ (pv 0) (wv rfl (zD (zy (i:=2) wr.nd rfl (Or.inl rfl)) (zD (zy (i:=3) wr.nd rfl (Or.inl rfl)) (zD (zy (i:=4) wr.nd rfl (Or.inl rfl)) xl))))) (zf (zv (i:=5) wr.nd rfl (Or.inl rfl) (zA y6 (pv 1) (pv 2))) (zf (zH (PW.pt (y4 (yB (xk (pv 3))) (yD (zm rK (pv 3) (pv 5) (zu _))))) (zh (zv (i:=5) wr.nd rfl (Or.inl rfl) (pv 3))) zx) (zf (zH (PW.pt (y4 (yB (xk (pv 4))) (yD (zm vI (pv 4) (pv 5) (zu _))))) (zh (zv (i:=5) wr.nd rfl (Or.inl rfl) (pv 4))) zx) (zh (zr (pv 5))))))),?_⟩
 obtain ⟨ad,lo,hi⟩:=d
 refine ⟨_,rfl,a,_,rfl,hs,rfl,_,_,rfl,_,_,rfl,_,_,rfl,rfl,?_⟩
 refine ⟨_,rfl,_,rfl,_,_,rfl,rfl,?_⟩
 cases lo with
 | none =>
  refine ⟨_,rfl,_,rfl,iteF (iteF ?_)⟩
  cases hi with
  | none=>exact ⟨_,rfl,_,rfl,iteF (iteF ⟨_,rfl,q⟩)⟩
  | some u =>
   refine ⟨_,rfl,_,rfl,iteT ⟨_,rfl,_,rfl,_,_,rfl,rfl,_,rfl,?_⟩⟩
   have q':Q (.int (if u < v + ad then u else v + ad)) H:=q
   refine ite2 (fun c=>?_) (fun c=>?_)
   ·have c':u < v + ad:=of_decide_eq_true c
    rw [if_pos c'] at q'
    exact ⟨_,rfl,_,rfl,q'⟩
   ·have c':¬ u < v + ad:=fun z=>c (decide_eq_true z)
    rw [if_neg c'] at q'
    exact ⟨_,rfl,q'⟩
 | some l =>
  refine ⟨_,rfl,_,rfl,iteT ⟨_,rfl,_,rfl,_,_,rfl,rfl,_,rfl,?_⟩⟩
  have q0:Q (.int (u8 hi (if l > v + ad then l else v + ad))) H:=q
  clear q
  refine ite2 (fun c=>?_) (fun c=>?_)
  ·have c':l > v + ad:=of_decide_eq_true c
   rw [if_pos c'] at q0
   have q:=q0
   refine ⟨_,rfl,?_⟩
   cases hi with
   | none=>exact ⟨_,rfl,_,rfl,iteF (iteF ⟨_,rfl,q⟩)⟩
   | some u =>
    refine ⟨_,rfl,_,rfl,iteT ⟨_,rfl,_,rfl,_,_,rfl,rfl,_,rfl,?_⟩⟩
    have q':Q (.int (if u < l then u else l)) H:=q
    refine ite2 (fun c=>?_) (fun c=>?_)
    ·have c':u < l:=of_decide_eq_true c
     rw [if_pos c'] at q'
     exact ⟨_,rfl,_,rfl,q'⟩
    ·have c':¬ u < l:=fun z=>c (decide_eq_true z)
     rw [if_neg c'] at q'
     exact ⟨_,rfl,q'⟩
  ·have c':¬ l > v + ad:=fun z=>c (decide_eq_true z)
   rw [if_neg c'] at q0
   have q:=q0
   cases hi with
   | none=>exact ⟨_,rfl,_,rfl,iteF (iteF ⟨_,rfl,q⟩)⟩
   | some u =>
    refine ⟨_,rfl,_,rfl,iteT ⟨_,rfl,_,rfl,_,_,rfl,rfl,_,rfl,?_⟩⟩
    have q':Q (.int (if u < v + ad then u else v + ad)) H:=q
    refine ite2 (fun c=>?_) (fun c=>?_)
    ·have c':u < v + ad:=of_decide_eq_true c
     rw [if_pos c'] at q'
     exact ⟨_,rfl,_,rfl,q'⟩
    ·have c':¬ u < v + ad:=fun z=>c (decide_eq_true z)
     rw [if_neg c'] at q'
     exact ⟨_,rfl,q'⟩
theorem qB:FnScope ["thing"] ["thing"] (zl (top 21)):=⟨rfl,rfl,rfl,by decide +kernel,rfl,by decide +kernel,by decide +kernel⟩
theorem qC (F:Fun K "is_whole" "is_whole" (top 21) f fd) (B:Blt mg)      :
  FnOk P w K mg base CX0 (n + 1) f fd ["thing"] (zS K):=by
 refine F.ok qB yb (fun cdv A outer s H vs Q E hr h=>?_)
 obtain ⟨x,rfl,d,m,hd,q⟩:=h
 refine ⟨_,(zh (zr (qH (zk (yX (K:=K) rfl) rfl B.isinstance zi (zc (pv 0) (zc (wA rfl B.int rO) ze))) (vh (qI (zk (yX (K:=K) rfl) rfl B.isinstance zi (zc (pv 0) (zc (wA rfl B.bool We) ze)))))))),?_⟩
 refine ⟨_,rfl,_,d,m,_,_,rfl,hd,Yo,_,rfl,?_⟩
 cases d with
 | int i=>exact iteT ⟨_,rfl,_,_,m,_,_,rfl,hd,vD,_,rfl,q⟩
 | bool b=>exact iteT ⟨_,rfl,_,_,m,_,_,rfl,hd,vD,_,rfl,q⟩
 | _=>exact iteF q
theorem Y0:FnScope ["thing"] ["thing"] (zl (top 26)):=⟨rfl,rfl,rfl,by decide +kernel,rfl,by decide +kernel,by decide +kernel⟩
theorem Y1 (F:Fun K "is_end" "is_end" (top 26) f fd) (B:Blt mg) (qc0:zo P w K mg base n "is_whole" ["thing"] (zS K))     :
  FnOk P w K mg base CX0 (n + 1) f fd ["thing"] (uO K):=by
 refine F.ok Y0 yb (fun cdv A outer s H vs Q E hr h=>?_)
 obtain ⟨x,rfl,d,m,hd,q⟩:=h
 refine ⟨_,(zh (zr (Y4 (X4 (xB (pv 0))) (vh (zj qc0 hr rfl (zc (pv 0) ze)))))),?_⟩
 refine ⟨x,rfl,_,rfl,?_⟩
 rcases Wu hd with ⟨rfl,rfl⟩ | ⟨h1,h2⟩
 ·exact iteT q
 ·refine zz (decide_eq_false h1) ⟨_,rfl,_,rfl,d,m,hd,?_⟩
  have e:endD d = yh d:=by cases d <;> first | rfl | exact absurd rfl h2
  rw [← e]; exact q
theorem xW:FnScope ["thing","add","low","high"] ["thing"] (zl (top 27)):=⟨rfl,rfl,rfl,by decide +kernel,rfl,by decide +kernel,by decide +kernel⟩
theorem Zc (F:Fun K "is_deed" "is_deed" (top 27) f fd) (B:Blt mg) (qc0:zo P w K mg base n "is_end" ["thing"] (uO K)) (qc1:zo P w K mg base n "is_whole" ["thing"] (zS K))     :
  FnOk P w K mg base CX0 (n + 1) f fd ["thing"] (wm K):=by
 refine F.ok xW yb (fun cdv A outer s H vs Q E hr h=>?_)
 obtain ⟨x,rfl,d,m,hd,q⟩:=h
 refine ⟨_,(zf (zH (PW.pt (wP (yC (yd (zk (yX (K:=K) rfl) rfl B.isinstance zi (zc (pv 0) (zc (wA rfl B.tuple Zv) ze))))) (xv (zm u5 (zk zW rfl B.len uo (zc (pv 0) ze)) zg (zu _))))) (zh (zr vq)) zx) (zf (xZ (pv 0) (wv rfl (zD (zy (i:=1) xW.nd rfl (Or.inl rfl)) (zD (zy (i:=2) xW.nd rfl (Or.inl rfl)) (zD (zy (i:=3) xW.nd rfl (Or.inl rfl)) xl))))) (zf (zH (yC (PW.pt (y4 (yd (zj qc1 hr rfl (zc (pv 1) ze))) (y4 (yd (zj qc0 hr rfl (zc (pv 2) ze))) (yD (yd (zj qc0 hr rfl (zc (pv 3) ze)))))))) (zh (zr vq)) zx) (zf (zH (PW.pt (wP (yB (xB (pv 2))) (xv (yB (xB (pv 3)))))) (zh (zr vq)) zx) (zh (zr (Y4 (xn vI (pv 2) (pv 3) (zu _)) (vh (qH (xn yg (pv 2) (pv 3) (zu _)) (vh (xn yg (pv 1) zg (zu _)))))))))))),?_⟩
 refine ⟨_,rfl,_,d,m,_,_,rfl,hd,Yp,_,rfl,?_⟩
 cases ht:tupD d with
 | false=>rw [Yr ht] at q; exact iteT (iteT q)
 | true =>
  refine iteF ?_
  cases d with
  | tuple ds =>
   obtain ⟨a,xs,rfl,hs,hds⟩:=hd.inv_tup
   refine ⟨_,rfl,a,xs,rfl,.inr hs,rfl,_,rfl,?_⟩
   by_cases hl:ds.length = 3
   ·refine zz (by rw [hds.length,hl]; rfl) ?_
    match ds,hl,hds,hd,q with
    | [d0,d1,d2],_,hds,hd,q =>
     obtain ⟨x0,x1,x2,rfl,o0,o1,o2⟩:=hds.inv3
     refine ⟨_,rfl,a,_,rfl,hs,rfl,_,_,rfl,_,_,rfl,_,_,rfl,rfl,?_⟩
     refine ⟨_,rfl,_,rfl,d0,m,o0,_,rfl,?_⟩
     cases h0:yh d0 with
     | false=>rw [jf h0] at q; exact iteF (iteT q)
     | true =>
      cases d0 with
      | int i =>
       refine iteT ⟨_,rfl,_,rfl,d1,m,o1,_,rfl,?_⟩
       rw [sQ] at q
       cases h1:endD d1 with
       | false=>rw [h1] at q; exact iteF (iteT q)
       | true =>
        refine iteT ⟨_,rfl,_,rfl,d2,m,o2,_,rfl,?_⟩
        cases h2:endD d2 with
        | false=>rw [h1,h2] at q; exact iteT q
        | true =>
         rw [h1,h2] at q
         refine iteF ?_
         cases d1 with
         | none=>obtain rfl:=o1.inv_non; exact ⟨_,rfl,_,rfl,iteT (iteT q)⟩
         | int l =>
          obtain rfl:=o1.inv_int
          cases d2 with
          | none=>obtain rfl:=o2.inv_non; exact ⟨_,rfl,_,rfl,iteF ⟨_,rfl,_,rfl,iteT q⟩⟩
          | int u =>
           obtain rfl:=o2.inv_int
           refine ⟨_,rfl,_,rfl,iteF ⟨_,rfl,_,rfl,iteF ?_⟩⟩
           refine ⟨_,rfl,_,rfl,_,_,rfl,rfl,_,rfl,?_⟩
           obtain rfl:=o0.inv_int
           have q':Q (.bl (decide (l < u) || (decide (l = u) && decide (i = 0)))) H:=q
           refine ite2 (fun c=>?_) (fun c=>?_)
           ·rw [c] at q'; exact q'
           ·rw [Bool.eq_false_iff.mpr c] at q'
            refine ⟨_,rfl,_,rfl,rfl,_,rfl,?_⟩
            refine ite2 (fun d=>?_) (fun d=>?_)
            ·have d':l = u:=V.int.inj (of_decide_eq_true d)
             refine ⟨_,rfl,rfl,?_⟩
             rw [decide_eq_true d'] at q'
             have e:decide (V.int i = V.int 0) = decide (i = 0):=by
              by_cases z:i = 0
              ·rw [z]; rfl
              ·rw [decide_eq_false z,decide_eq_false fun w=>z (V.int.inj w)]
             show Q (.bl (decide (V.int i = V.int 0))) H
             rw [e]; exact q'
            ·have d':¬ l = u:=fun z=>d (decide_eq_true (congrArg V.int z))
             rw [decide_eq_false d'] at q'
             exact q'
          | _=>cases h2
         | _=>cases h1
      | _=>cases h0
   ·rw [sP hl] at q
    refine zK ?_ q
    rw [decide_eq_false fun z=>hl (by have:=V.int.inj z; have:=hds.length; omega)]; rfl
  | _=>cases ht
theorem rB:FnScope ["thing"] ["thing"] (zl (top 29)):=⟨rfl,rfl,rfl,by decide +kernel,rfl,by decide +kernel,by decide +kernel⟩
theorem rC (F:Fun K "need_deed" "need_deed" (top 29) f fd) (B:Blt mg) {A_NoDeed:Addr} (x_NoDeed:ExcC K mg "NoDeed" A_NoDeed) (qc0:zo P w K mg base n "is_deed" ["thing"] (wm K))     :
  FnOk P w K mg base (CX1 P w) (n + 1) f fd ["thing"] (xt A_NoDeed K):=by
 refine Fun.okX F rB wM (fun cdv A outer s H vs Q E hr h=>?_)
 obtain ⟨x,rfl,d,m,hd,q⟩:=h
 refine ⟨_,(zh (zH (yC (yd (zj qc0 hr rfl (zc (pv 0) ze)))) (zh (wD rfl x_NoDeed rfl xG zM)) zx)),?_⟩
 refine ⟨_,rfl,_,rfl,d,m,hd,_,rfl,?_⟩
 cases hw:zN d with
 | true=>rw [if_pos hw] at q; exact iteF q
 | false=>rw [hw,if_neg (by decide)] at q; exact iteT q
theorem tN:FnScope ["thing"] ["thing"] (zl (top 28)):=⟨rfl,rfl,rfl,by decide +kernel,rfl,by decide +kernel,by decide +kernel⟩
theorem tP (F:Fun K "need_value" "need_value" (top 28) f fd) (B:Blt mg) {A_NoNumber:Addr} (x_NoNumber:ExcC K mg "NoNumber" A_NoNumber) (qc0:zo P w K mg base n "is_whole" ["thing"] (zS K))     :
  FnOk P w K mg base (CX1 P w) (n + 1) f fd ["thing"] (tL A_NoNumber K):=by
 refine Fun.okX F tN wM (fun cdv A outer s H vs Q E hr h=>?_)
 obtain ⟨x,rfl,d,m,hd,q⟩:=h
 refine ⟨_,(zh (zH (yC (yd (zj qc0 hr rfl (zc (pv 0) ze)))) (zh (wD rfl x_NoNumber rfl xG zM)) zx)),?_⟩
 refine ⟨_,rfl,_,rfl,d,m,hd,_,rfl,?_⟩
 cases hw:yh d with
 | true=>rw [if_pos hw] at q; exact iteF q
 | false=>rw [hw,if_neg (by decide)] at q; exact iteT q
theorem VR:FnScope ["deed","value"] ["deed","value"] (zl (top 31)):=⟨rfl,rfl,rfl,by decide +kernel,rfl,by decide +kernel,by decide +kernel⟩
theorem VS (F:Fun K "done" "done" (top 31) f fd) (B:Blt mg) (qc0:zo P w K mg base n "made" ["deed","value"] (vQ K)) (qc1:zF P w K mg base n "need_deed" ["thing"] (xt A_NoDeed K)) (qc2:zF P w K mg base n "need_value" ["thing"] (tL A_NoNumber K))     :
  FnOk P w K mg base (CX1 P w) (n + 1) f fd ["deed","value"] (w6 A_NoNumber A_NoDeed A_NoText K):=by
 refine Fun.okX F VR xU (fun cdv A outer s H vs Q E hr h=>?_)
 obtain ⟨x,y,rfl,D,dv,m,hd,hv,gd,q0,qe⟩:=h
 refine ⟨_,(zf (zP (zI qc2 (zV fun _ _ _ z=>z) hr rfl (zc (pv 1) ze))) (zf (zP (zI qc1 (zV fun _ _ _ z=>z) hr rfl (zc (pv 0) ze))) (zh (zr (zj qc0 hr rfl (zc (pv 0) (zc (pv 1) ze))))))),?_⟩
 refine ⟨_,rfl,_,rfl,dv,m,hv,it17 (fun hw=>?_) (fun hw e=>qe 1 (by rw [hw]; rfl) e _ (Grow.refl _ _))⟩
 refine ⟨_,rfl,_,rfl,D,m,hd,it17 (fun hp=>?_) (fun hp e=>qe 2 (by rw [hw,hp]; rfl) e _ (Grow.refl _ _))⟩
 have q1:=q0 (by rw [hw,hp]; rfl)
 obtain ⟨v,rfl⟩:=xq hw
 obtain rfl:=hv.inv_int
 obtain ⟨d,hD,ok,bd⟩:=xr hd hp gd
 clear q0 qe hd hp hw hv gd
 exact ⟨_,rfl,_,rfl,_,_,rfl,d,v,hD,rfl,q1 _ _ (Grow.refl _ _)⟩
theorem VT:FnScope ["add","low","high"] ["add","low","high"] (zl (top 32)):=⟨rfl,rfl,rfl,by decide +kernel,rfl,by decide +kernel,by decide +kernel⟩
theorem ZC (F:Fun K "tidy" "tidy" (top 32) f fd) (B:Blt mg)      :
  FnOk P w K mg base CX0 (n + 1) f fd ["add","low","high"] (rR K):=by
 refine F.ok VT WY (fun cdv A outer s H vs Q E hr h=>?_)
 obtain ⟨x,y,z,rfl,a,lo,hi,rfl,rfl,rfl,q⟩:=h
 refine ⟨_,(zf (zH (PW.pt (y4 (yB (xk (pv 1))) (yD (zm yg (pv 1) (pv 2) (zu _))))) (zh (zr (z7 (zc zg (zc (pv 1) (zc (pv 2) ze)))))) zx) (zh (zr (z7 (zc (pv 0) (zc (pv 1) (zc (pv 2) ze))))))),?_⟩
 cases lo with
 | none =>
  refine ⟨_,rfl,_,rfl,iteF (iteF ⟨_,rfl,_,rfl,_,rfl,szl rfl,fun t ht=>?_⟩)⟩
  have:=q t ht
  rw [Ug] at this; exact this
 | some l =>
  cases hi with
  | none =>
   refine ⟨_,rfl,_,rfl,iteT ⟨_,rfl,_,rfl,rfl,_,rfl,iteF ⟨_,rfl,_,rfl,_,rfl,szl rfl,fun t ht=>?_⟩⟩⟩
   have:=q t ht
   rw [Wl (by simp)] at this; exact this
  | some u =>
   refine ⟨_,rfl,_,rfl,iteT ⟨_,rfl,_,rfl,rfl,_,rfl,?_⟩⟩
   refine ite2 (fun c=>?_) (fun c=>?_)
   ·have c':l = u:=V.int.inj (of_decide_eq_true c)
    subst c'
    refine ⟨_,rfl,_,rfl,szl rfl,fun t ht=>?_⟩
    have:=q t ht
    rw [Uh] at this; exact this
   ·have c':l ≠ u:=fun z=>c (by rw [z]; simp)
    refine ⟨_,rfl,_,rfl,_,rfl,szl rfl,fun t ht=>?_⟩
    have:=q t ht
    rw [Wl (fun z=>c' (Option.some.inj z))] at this; exact this
theorem uh:FnScope ["one","other","low","high"] ["one","other"] (zl (top 33)):=⟨rfl,rfl,rfl,by decide +kernel,rfl,by decide +kernel,by decide +kernel⟩
theorem Y2 (F:Fun K "joined" "joined" (top 33) f fd) (B:Blt mg) (qc0:zo P w K mg base n "tidy" ["add","low","high"] (rR K)) (qc1:zo P w K mg base n "made" ["deed","value"] (vQ K))     :
  FnOk P w K mg base CX0 (n + 1) f fd ["one","other"] (sx K):=by
 refine F.ok uh xF (fun cdv A outer s H vs Q E hr h=>?_)
 obtain ⟨x,y,rfl,d,e,⟨a,rfl,hsa⟩,⟨b,rfl,hsb⟩,q⟩:=h
 refine ⟨_,(zf (zv (i:=2) uh.nd rfl (Or.inl rfl) (zX (yB (xB (zQ ye (pv 0) zg (fun _ _=>rfl)))) (zQ ye (pv 1) zg (fun _ _=>rfl)) (zj qc1 hr rfl (zc (pv 1) (zc (zQ ye (pv 0) zg (fun _ _=>rfl)) ze))))) (zf (zv (i:=3) uh.nd rfl (Or.inl rfl) (zX (yB (xB (zQ ye (pv 0) zg (fun _ _=>rfl)))) (zQ ye (pv 1) zg (fun _ _=>rfl)) (zj qc1 hr rfl (zc (pv 1) (zc (zQ ye (pv 0) zg (fun _ _=>rfl)) ze))))) (zh (zr (zj qc0 hr rfl (zc (zA y6 (zQ ye (pv 0) zg (fun _ _=>rfl)) (zQ ye (pv 1) zg (fun _ _=>rfl))) (zc (pv 2) (zc (pv 3) ze)))))))),?_⟩
 obtain ⟨da,lo,hi⟩:=d
 obtain ⟨ea,elo,ehi⟩:=e
 refine ⟨_,rfl,a,_,_,_,rfl,rfl,hsa,rfl,_,rfl,?_⟩
 cases lo with
 | none =>
  refine iteT ⟨_,rfl,b,_,_,_,rfl,rfl,hsb,rfl,?_⟩
  refine ⟨_,rfl,a,_,_,_,rfl,rfl,hsa,rfl,_,rfl,?_⟩
  cases hi with
  | none =>
   refine iteT ⟨_,rfl,b,_,_,_,rfl,rfl,hsb,rfl,?_⟩
   exact ⟨_,rfl,a,_,_,_,rfl,rfl,hsa,rfl,_,rfl,b,_,_,_,rfl,rfl,hsb,rfl,_,_,rfl,rfl,_,rfl,_,rfl,_,_,_,rfl,_,elo,ehi,rfl,rfl,rfl,q⟩
  | some u =>
   refine iteF ⟨_,rfl,_,rfl,a,_,_,_,rfl,rfl,hsa,rfl,_,_,rfl,⟨ea,elo,ehi⟩,u,⟨b,rfl,hsb⟩,rfl,?_⟩
   exact ⟨_,rfl,a,_,_,_,rfl,rfl,hsa,rfl,_,rfl,b,_,_,_,rfl,rfl,hsb,rfl,_,_,rfl,rfl,_,rfl,_,rfl,_,_,_,rfl,_,elo,some ((Deed.mk ea elo ehi).mk' u),rfl,rfl,rfl,q⟩
 | some l =>
  refine iteF ⟨_,rfl,_,rfl,a,_,_,_,rfl,rfl,hsa,rfl,_,_,rfl,⟨ea,elo,ehi⟩,l,⟨b,rfl,hsb⟩,rfl,?_⟩
  refine ⟨_,rfl,a,_,_,_,rfl,rfl,hsa,rfl,_,rfl,?_⟩
  cases hi with
  | none =>
   refine iteT ⟨_,rfl,b,_,_,_,rfl,rfl,hsb,rfl,?_⟩
   exact ⟨_,rfl,a,_,_,_,rfl,rfl,hsa,rfl,_,rfl,b,_,_,_,rfl,rfl,hsb,rfl,_,_,rfl,rfl,_,rfl,_,rfl,_,_,_,rfl,_,(some ((Deed.mk ea elo ehi).mk' l)),ehi,rfl,rfl,rfl,q⟩
  | some u =>
   refine iteF ⟨_,rfl,_,rfl,a,_,_,_,rfl,rfl,hsa,rfl,_,_,rfl,⟨ea,elo,ehi⟩,u,⟨b,rfl,hsb⟩,rfl,?_⟩
   exact ⟨_,rfl,a,_,_,_,rfl,rfl,hsa,rfl,_,rfl,b,_,_,_,rfl,rfl,hsb,rfl,_,_,rfl,rfl,_,rfl,_,rfl,_,_,_,rfl,_,(some ((Deed.mk ea elo ehi).mk' l)),some ((Deed.mk ea elo ehi).mk' u),rfl,rfl,rfl,q⟩
theorem VU:FnScope ["one","other"] ["one","other"] (zl (top 34)):=⟨rfl,rfl,rfl,by decide +kernel,rfl,by decide +kernel,by decide +kernel⟩
theorem VV (F:Fun K "then" "then" (top 34) f fd) (B:Blt mg) (qc0:zo P w K mg base n "joined" ["one","other"] (sx K)) (qc1:zF P w K mg base n "need_deed" ["thing"] (xt A_NoDeed K))     :
  FnOk P w K mg base (CX1 P w) (n + 1) f fd ["one","other"] (vc A_NoNumber A_NoDeed A_NoText K):=by
 refine Fun.okX F VU xU (fun cdv A outer s H vs Q E hr h=>?_)
 obtain ⟨x,y,rfl,D,D2,m,hD,hD2,gd,ge,q0,qe⟩:=h
 refine ⟨_,(zf (zP (zI qc1 (zV fun _ _ _ z=>z) hr rfl (zc (pv 0) ze))) (zf (zP (zI qc1 (zV fun _ _ _ z=>z) hr rfl (zc (pv 1) ze))) (zh (zr (zj qc0 hr rfl (zc (pv 0) (zc (pv 1) ze))))))),?_⟩
 refine ⟨_,rfl,_,rfl,D,m,hD,it17 (fun hp=>?_) (fun hp e=>qe 2 (by rw [hp]; rfl) e _ (Grow.refl _ _))⟩
 refine ⟨_,rfl,_,rfl,D2,m,hD2,it17 (fun hp2=>?_) (fun hp2 e=>qe 2 (by rw [hp,hp2]; rfl) e _ (Grow.refl _ _))⟩
 have q1:=q0 (by rw [hp,hp2]; rfl)
 obtain ⟨d,hd,od,bd⟩:=xr hD hp gd
 obtain ⟨e,he,oe,be⟩:=xr hD2 hp2 ge
 clear q0 qe hD hD2 hp hp2 gd ge
 exact ⟨_,rfl,_,rfl,_,_,rfl,d,e,hd,he,fun t ht=>q1 _ _ (Grow.new ht _)⟩
theorem jA:FnScope ["one","other","met"] ["one","other"] (zl (top 35)):=⟨rfl,rfl,rfl,by decide +kernel,rfl,by decide +kernel,by decide +kernel⟩
theorem XZ (F:Fun K "turns" "turns" (top 35) f fd) (B:Blt mg)      :
  FnOk P w K mg base CX0 (n + 1) f fd ["one","other"] (sD K):=by
 refine F.ok jA xF (fun cdv A outer s H vs Q E hr h=>?_)
 obtain ⟨x,y,rfl,d,e,hd,he,q⟩:=h
 refine ⟨_,(zf (Xj (i:=2) jA.nd rfl rfl (CSc.of (N':=["deed","end"]) (sub:=[none,none]) (zl (top 35)) ["one","other","met"] rfl rfl (by decide +kernel) rfl) rfl (Zh (z7 (zc (pv 0) (zc (pv 1) ze)))) (fun _ _ _ _ _ _=>zy (i:=0) (show (["deed","end"]:List Str).Nodup by decide +kernel) rfl (Or.inl rfl)) (fun _ _ _ _ _ _=>(Vc (K:=K) rfl (yR (Vb (K:=K) rfl) (pv 0) (yF zg) yu))) (fun _ _ _ _ _ _=>zy (i:=1) (show (["deed","end"]:List Str).Nodup by decide +kernel) rfl (Or.inl rfl)) (fun _ _ _ _ _ _=>(vz (yB (xk (pv 1))))) (fun _ _ _ _ _ _=>(zA ww (pv 1) (zQ (WZ (K:=K) rfl) (pv 0) zg (fun _ _=>rfl))))) (zf (zH (yC (Y8 (pv 2) (fun _=>rfl))) (zh (zr (zJ (zc zg ze)))) zx) (zh (zr (zA yW (pv 2) (zJ (zc (zA ww (zk (ZN rfl) rfl B.min WX (zc (pv 2) ze)) zg) (zc (zA y6 (zk (ZM rfl) rfl B.max WW (zc (pv 2) ze)) zg) ze)))))))),?_⟩
 refine ⟨_,rfl,_,rfl,szl rfl,fun t ht=>⟨t,rfl,⟨_,SqT.of zd⟩,ZQ (xs:=[x,y]) (fun i ys σ H'=>∃ o1 o2,σ = [o1,o2] /\ Grow [] (upd H t (.tup [x,y])) H' /\ ys = (metK d e i).map V.int) ⟨_,_,rfl,Grow.refl _ _,rfl⟩ ?_ ?_ ?_⟩⟩
 ·rintro i ys σ H1 _ ⟨o1,o2,rfl,g,_⟩
  exact g.sqT (SqT.of zd)
 ·rintro i v ys σ H1 hx ⟨o1,o2,rfl,g,rfl⟩
  have gt:=(Grow.new (m:=[]) ht (.tup [x,y])).trans g
  obtain ⟨z,⟨az,rfl,hz⟩,em⟩:=ZS (p:=fun x d=>yv K H1 x d) (gt.deed hd) (gt.deed he) hx
  refine ⟨_,rfl,_,rfl,az,_,rfl,hz,Tt,fun s hs=>⟨s,rfl,⟨_,SqT.of zd⟩,Va (xs:=[ov z.lo,ov z.hi]) (fun j ys σ H'=>∃ o2,σ = [some (.ref az),o2] /\ Grow [] (upd H1 s (.tup [ov z.lo,ov z.hi])) H' /\ ys = (metK d e i ++ endK z j).map V.int) ⟨_,rfl,Grow.refl _ _,by rw [show endK z 0 = [] from rfl,List.append_nil]⟩ ?_ ?_ ?_⟩⟩
  ·rintro j ys σ H2 _ ⟨o2,rfl,g2,_⟩
   exact g2.sqT (SqT.of zd)
  ·rintro j w ys σ H2 hw ⟨o2,rfl,g2,rfl⟩
   have l1:=Xl d e i
   have l2:=Xk z j
   obtain ⟨o,rfl,ee⟩:=ZR hw
   cases o with
   | none =>
    refine ⟨_,rfl,_,rfl,iteF ⟨_,rfl,g2,by rw [ee]; simp⟩⟩
   | some w =>
    refine ⟨_,rfl,_,rfl,iteT ⟨_,rfl,_,rfl,az,_,_,_,rfl,rfl,g2.sqT ((Grow.new (m:=[]) hs _).sqT hz),rfl,_,_,rfl,rfl,zn (by rw [List.length_map,List.length_append]; omega),_,rfl,g2,by simp [ee]⟩⟩
  ·rintro ys σ H2 ⟨o2,rfl,g2,rfl⟩
   exact ⟨_,_,rfl,g.trans ((Grow.new (m:=[]) hs _).trans g2),by rw [em]; rfl⟩
 ·rintro ys σ H1 ⟨o1,o2,rfl,g,rfl⟩ l hl
  have gl:=(Grow.new (m:=[]) ht (.tup [x,y])).trans (g.trans (Grow.new (m:=[]) hl (.lst ((metL d e).map V.int))))
  have lm:=qV d e
  refine ⟨_,rfl,_,.inl ⟨_,SqL.of zd,rfl⟩,?_⟩
  by_cases h0:metL d e = []
  ·refine zK (by show (!(!((metL d e).map V.int).isEmpty)) = true; rw [h0]; rfl) ⟨szl rfl,fun p hp=>q p [0] _ (gl.trans (Grow.new hp _)) zd (by decide) (.inl ⟨h0,rfl⟩)⟩
  ·have hp0:=List.length_pos_iff.mpr h0
   refine zz (by show (!(!((metL d e).map V.int).isEmpty)) = false; cases hm:metL d e with
    | nil=>exact absurd hm h0
    | cons a b=>rfl) ?_
   refine ⟨_,rfl,_,rfl,l,metL d e,rfl,SqL.of zd,hp0,fun m hm1 hm2=>⟨_,_,rfl,rfl,_,rfl,l,metL d e,rfl,SqL.of zd,hp0,fun M hM1 hM2=>⟨_,_,rfl,rfl,szl rfl,fun p hp=>?_⟩⟩⟩
   have gp:=Grow.new (m:=[]) hp (.lst [V.int (m - 1),V.int (M + 1)])
   refine ⟨l,p,_,_,rfl,rfl,gp.keep _ _ (by simp) zd,zd,?_,fun p3 hp3=>q p3 (metL d e ++ [m - 1,M + 1]) _ (gl.trans (gp.trans (Grow.new hp3 _))) (by rw [zd,List.map_append]; rfl) (by rw [List.length_append]; show _ + 2 <= 6; omega) (.inr ⟨m,M,hm1,hm2,hM2,rfl⟩)⟩
   show ((metL d e).map V.int).length + 2 <= sizeLine
   rw [List.length_map]; exact Nat.le_of_lt (zn (by omega))
theorem jB:FnScope ["one","other","unlike"] ["one","other"] (zl (top 36)):=⟨rfl,rfl,rfl,by decide +kernel,rfl,by decide +kernel,by decide +kernel⟩
theorem X0 (F:Fun K "apart" "apart" (top 36) f fd) (B:Blt mg) (qc0:zo P w K mg base n "turns" ["one","other"] (sD K)) (qc1:zo P w K mg base n "made" ["deed","value"] (vQ K)) (qc2:zF P w K mg base n "need_deed" ["thing"] (xt A_NoDeed K))     :
  FnOk P w K mg base (CX1 P w) (n + 1) f fd ["one","other"] (vc A_NoNumber A_NoDeed A_NoText K):=by
 refine Fun.okX F jB xU (fun cdv A outer s H vs Q E hr h=>?_)
 obtain ⟨x,y,rfl,D,D2,m,hD,hD2,gd,ge,q0,qe⟩:=h
 refine ⟨_,(zf (zP (zI qc2 (zV fun _ _ _ z=>z) hr rfl (zc (pv 0) ze))) (zf (zP (zI qc2 (zV fun _ _ _ z=>z) hr rfl (zc (pv 1) ze))) (zf (zH (zm (Wh hr) (pv 0) (pv 1) (zu _)) (zh (zr yt)) zx) (zf (qW (i:=2) jB.nd rfl rfl (CSc.of (N':=["value","one","other"]) (sub:=[none,some 0,some 1]) (zl (top 36)) ["one","other","unlike"] rfl rfl (by decide +kernel) rfl) rfl (u3 (zj qc0 hr rfl (zc (pv 0) (zc (pv 1) ze)))) (fun _ _ _ _ _ _=>zy (i:=0) (show (["value","one","other"]:List Str).Nodup by decide +kernel) rfl (Or.inl rfl)) (fun _ _ _ _ _ _=>(vz (zm u5 (zj qc1 hr rfl (zc (pv 1) (zc (pv 0) ze))) (zj qc1 hr rfl (zc (pv 2) (zc (pv 0) ze))) (zu _)))) (fun _ _ _ _ _ _=>(pv 0))) (zh (zr (zQ zY (pv 2) zg (fun _ _=>rfl)))))))),?_⟩
 refine ⟨_,rfl,_,rfl,D,m,hD,it17 (fun hp=>?_) (fun hp e=>qe 2 (by rw [hp]; rfl) e _ (Grow.refl _ _))⟩
 refine ⟨_,rfl,_,rfl,D2,m,hD2,it17 (fun hp2=>?_) (fun hp2 e=>qe 2 (by rw [hp,hp2]; rfl) e _ (Grow.refl _ _))⟩
 have q1:=q0 (by rw [hp,hp2]; rfl)
 obtain ⟨d,hd,od,bd⟩:=xr hD hp gd
 obtain ⟨e,he,oe,be⟩:=xr hD2 hp2 ge
 clear q0 qe hD hD2 hp hp2 gd ge
 have qn:d = e -> ∀ H',Grow [] H H' -> Q .non H':=fun _ H' g=>q1 _ H' g
 have qv:d ≠ e -> ∀ v H',Grow [] H H' -> d.mk' v ≠ e.mk' v -> Q (.int v) H':=fun _ v H' g _=>q1 _ H' g
 refine ⟨_,rfl,_,rfl,qS hd he ⟨_,rfl,?_⟩⟩
 by_cases hde:d = e
 ·exact zK (decide_eq_true hde) (qn hde _ (Grow.refl _ _))
 refine zz (decide_eq_false hde) ⟨_,rfl,_,rfl,_,_,rfl,d,e,hd,he,fun p ns H1 g hp hlen tok=>?_⟩
 obtain ⟨v,ms,ef,hv⟩:=rX od oe tok hde
 refine ⟨p,rfl,⟨_,SqL.of hp⟩,Vd (unl d e) (SqL.of hp) (by omega) ?_ ?_ ?_⟩
 ·intro i H2 R _ g2 k
  exact ⟨_,rfl,_,rfl,_,_,rfl,d,i,(g.trans g2).deed hd,rfl,_,rfl,_,rfl,_,_,rfl,e,i,(g.trans g2).deed he,rfl,rfl,_,rfl,k _ (Grow.refl _ _)⟩
 ·intro i H2 R _ g2 k
  exact ⟨_,rfl,k _ (Grow.refl _ _)⟩
 ·intro H2 l g2 hl
  rw [ef]
  exact ⟨_,rfl,l,_,_,_,rfl,rfl,SqL.of zd,getI (xs:=v :: ms) (by decide) (by show (0:Int) < ((ms.length + 1:Nat):Int); omega),qv hde v _ (g.trans (g2.trans (Grow.new hl _))) hv⟩
theorem xa:FnScope ["deed","many","add","low","high","ends","moved","least","greatest"] ["deed","many"] (zl (top 37)):=⟨rfl,rfl,rfl,by decide +kernel,rfl,by decide +kernel,by decide +kernel⟩
theorem X1 (F:Fun K "again" "again" (top 37) f fd) (B:Blt mg) {A_NoNumber:Addr} (x_NoNumber:ExcC K mg "NoNumber" A_NoNumber) (qc0:zo P w K mg base n "tidy" ["add","low","high"] (rR K)) (qc1:zo P w K mg base n "made" ["deed","value"] (vQ K)) (qc2:zF P w K mg base n "need_deed" ["thing"] (xt A_NoDeed K)) (qc3:zo P w K mg base n "is_whole" ["thing"] (zS K))    {a_LOOK:Addr} (g_LOOK:mg "LOOK" = some (.ref a_LOOK)) (s_LOOK:∀ H,SqT K H a_LOOK ([V.int 0,V.non,V.non])) :
  FnOk P w K mg base (CX1 P w) (n + 1) f fd ["deed","many"] (qu A_NoNumber A_NoDeed A_NoText K):=by
 refine Fun.okX F xa xU (fun cdv A outer s H vs Q E hr h=>?_)
 obtain ⟨x,y,rfl,D,dv,mm,hd,hv,gd,gv,q0,qe⟩:=h
 refine ⟨_,(zf (zH (PW.pt (wP (yC (yd (zj qc3 hr rfl (zc (pv 1) ze)))) (xv (zm vI (pv 1) zg (zu _))))) (zh (wD rfl x_NoNumber rfl xG zM)) zx) (zf (zP (zI qc2 (zV fun _ _ _ z=>z) hr rfl (zc (pv 0) ze))) (zf (zH (zm yg (pv 1) zg (zu _)) (zh (zr (zC rfl g_LOOK (show RelV (.ref a_LOOK) (.ref a_LOOK) from rfl)))) zx) (zf (xZ (pv 0) (wv rfl (zD (zy (i:=2) xa.nd rfl (Or.inl rfl)) (zD (zy (i:=3) xa.nd rfl (Or.inl rfl)) (zD (zy (i:=4) xa.nd rfl (Or.inl rfl)) xl))))) (zf (zv (i:=5) xa.nd rfl (Or.inl rfl) (z7 (zc zg (zc (pv 3) (zc (pv 4) ze))))) (zf (zv (i:=6) xa.nd rfl (Or.inl rfl) (zA yG (pv 2) (zA ww (pv 1) zg))) (zf (zv (i:=7) xa.nd rfl (Or.inl rfl) (zX (yB (xB (pv 3))) yt (zj qc1 hr rfl (zc (pv 5) (zc (zA y6 (pv 3) (pv 6)) ze))))) (zf (zv (i:=8) xa.nd rfl (Or.inl rfl) (zX (yB (xB (pv 4))) yt (zj qc1 hr rfl (zc (pv 5) (zc (zA y6 (pv 4) (pv 6)) ze))))) (zh (zr (zj qc0 hr rfl (zc (zA yG (pv 2) (pv 1)) (zc (pv 7) (zc (pv 8) ze)))))))))))))),?_⟩
 refine ⟨_,rfl,_,rfl,dv,mm,hv,_,rfl,?_⟩
 cases hw:yh dv with
 | false =>
  have hn:wb dv = false:=by cases dv <;> first | rfl | cases hw
  exact iteT (iteT fun e=>qe 1 (by rw [hn]; rfl) e _ (Grow.refl _ _))
 | true =>
 obtain ⟨m,rfl⟩:=xq hw
 obtain rfl:=hv.inv_int
 refine iteF ⟨_,rfl,_,_,rfl,rfl,_,rfl,?_⟩
 by_cases hm:m < 0
 ·have hn:wb (.int m) = false:=decide_eq_false (by omega)
  exact zK (decide_eq_true hm) fun e=>qe 1 (by rw [hn]; rfl) e _ (Grow.refl _ _)
 have hm0:0 <= m:=by omega
 have hn:wb (.int m) = true:=decide_eq_true hm0
 refine zz (decide_eq_false hm) ?_
 refine ⟨_,rfl,_,rfl,D,mm,hd,it17 (fun hp=>?_) (fun hp e=>qe 2 (by rw [hn,hp]; rfl) e _ (Grow.refl _ _))⟩
 have q1:=q0 (by rw [hn,hp]; rfl)
 obtain ⟨d,⟨a,rfl,hs⟩,ok,bd⟩:=xr hd hp gd
 have hm1:m < 2 ^ 200:=by
  have z:=gv.le
  simp only [leD,Bool.and_eq_true,decide_eq_true_eq] at z
  omega
 have hb:-(2 ^ 200) < d.add /\ d.add < 2 ^ 200:=by have:=bd.1; omega
 have q:∀ y H',Grow [] H H' -> yv K H' y (sy d m) -> Q y H':=fun y H' g _=>q1 y H' g
 clear q0 qe hd hp gd gv hv hw
 refine ⟨_,rfl,rfl,_,rfl,?_⟩
 by_cases hz:m = 0
 ·subst hz
  exact zK (decide_eq_true rfl) (q _ H (Grow.refl _ _) ⟨a_LOOK,rfl,s_LOOK H⟩)
 refine zz (decide_eq_false fun z=>hz (V.int.inj z)) ?_
 obtain ⟨ad,lo,hi⟩:=d
 have hb':-(2 ^ 200) < ad /\ ad < 2 ^ 200:=hb
 have hm2:-(2 ^ 200) < m /\ m < 2 ^ 200:=⟨by omega,hm1⟩
 refine ⟨_,rfl,a,_,rfl,hs,rfl,_,_,rfl,_,_,rfl,_,_,rfl,rfl,_,rfl,_,rfl,szl rfl,fun t ht=>?_⟩
 have g1:Grow [] H (upd H t (.tup (Deed.mk 0 lo hi).vs)):=Grow.new ht _
 refine ⟨_,rfl,_,rfl,_,_,rfl,rfl,_,_,rfl,rfl,jI hb ⟨by omega,by omega⟩,?_⟩
 cases lo with
 | none =>
  refine ⟨_,rfl,_,rfl,iteT ?_⟩
  cases hi with
  | none =>
   refine ⟨_,rfl,_,rfl,iteT ?_⟩
   refine ⟨_,rfl,_,rfl,_,_,rfl,rfl,jI hb hm2,_,rfl,_,rfl,_,_,_,rfl,_,none,none,rfl,rfl,rfl,fun t2 ht2=>?_⟩
   exact q _ _ (g1.trans (Grow.new ht2 _)) ⟨t2,rfl,SqT.of (by rw [zd,sy,if_neg hz]; rfl)⟩
  | some u =>
   refine ⟨_,rfl,_,rfl,iteF ⟨_,rfl,_,rfl,_,rfl,_,_,rfl,rfl,_,_,rfl,⟨0,none,some u⟩,_,⟨t,rfl,SqT.of zd⟩,rfl,?_⟩⟩
   refine ⟨_,rfl,_,rfl,_,_,rfl,rfl,jI hb hm2,_,rfl,_,rfl,_,_,_,rfl,_,none,(some ((Deed.mk 0 none (some u)).mk' (u + ad * (m - 1)))),rfl,rfl,rfl,fun t2 ht2=>?_⟩
   exact q _ _ (g1.trans (Grow.new ht2 _)) ⟨t2,rfl,SqT.of (by rw [zd,sy,if_neg hz]; rfl)⟩
 | some l =>
  refine ⟨_,rfl,_,rfl,iteF ⟨_,rfl,_,rfl,_,rfl,_,_,rfl,rfl,_,_,rfl,⟨0,some l,hi⟩,_,⟨t,rfl,SqT.of zd⟩,rfl,?_⟩⟩
  cases hi with
  | none =>
   refine ⟨_,rfl,_,rfl,iteT ?_⟩
   refine ⟨_,rfl,_,rfl,_,_,rfl,rfl,jI hb hm2,_,rfl,_,rfl,_,_,_,rfl,_,(some ((Deed.mk 0 (some l) none).mk' (l + ad * (m - 1)))),none,rfl,rfl,rfl,fun t2 ht2=>?_⟩
   exact q _ _ (g1.trans (Grow.new ht2 _)) ⟨t2,rfl,SqT.of (by rw [zd,sy,if_neg hz]; rfl)⟩
  | some u =>
   refine ⟨_,rfl,_,rfl,iteF ⟨_,rfl,_,rfl,_,rfl,_,_,rfl,rfl,_,_,rfl,⟨0,some l,some u⟩,_,⟨t,rfl,SqT.of zd⟩,rfl,?_⟩⟩
   refine ⟨_,rfl,_,rfl,_,_,rfl,rfl,jI hb hm2,_,rfl,_,rfl,_,_,_,rfl,_,(some ((Deed.mk 0 (some l) (some u)).mk' (l + ad * (m - 1)))),(some ((Deed.mk 0 (some l) (some u)).mk' (u + ad * (m - 1)))),rfl,rfl,rfl,fun t2 ht2=>?_⟩
   exact q _ _ (g1.trans (Grow.new ht2 _)) ⟨t2,rfl,SqT.of (by rw [zd,sy,if_neg hz]; rfl)⟩
theorem wN:FnScope ["deed","add","low","high","end"] ["deed"] (zl (top 43)):=⟨rfl,rfl,rfl,by decide +kernel,rfl,by decide +kernel,by decide +kernel⟩
theorem X2 (F:Fun K "stays" "stays" (top 43) f fd) (B:Blt mg) (qc0:zF P w K mg base n "need_deed" ["thing"] (xt A_NoDeed K))     :
  FnOk P w K mg base (CX1 P w) (n + 1) f fd ["deed"] (YS A_NoNumber A_NoDeed A_NoText K):=by
 refine Fun.okX F wN wM (fun cdv A outer s H vs Q E hr h=>?_)
 obtain ⟨x,rfl,D,m,hd,gd,q0,qe⟩:=h
 refine ⟨_,(zf (zP (zI qc0 (zV fun _ _ _ z=>z) hr rfl (zc (pv 0) ze))) (zf (xZ (pv 0) (wv rfl (zD (zy (i:=1) wN.nd rfl (Or.inl rfl)) (zD (zy (i:=2) wN.nd rfl (Or.inl rfl)) (zD (zy (i:=3) wN.nd rfl (Or.inl rfl)) xl))))) (zf (zH (zm yg (pv 1) zg (zu _)) (zh (zr (z7 (zc (pv 2) (zc (pv 3) ze))))) zx) (zf (zv (i:=4) wN.nd rfl (Or.inl rfl) (zX (zm rK (pv 1) zg (zu _)) (pv 3) (pv 2))) (zh (zr (zX (yB (xB (pv 4))) yt (z7 (zc (pv 4) (zc (pv 4) ze)))))))))),?_⟩
 refine ⟨_,rfl,_,rfl,D,m,hd,it17 (fun hp=>?_) (fun hp e=>qe 2 (by rw [hp]; rfl) e _ (Grow.refl _ _))⟩
 have q1:=q0 (by rw [hp]; rfl)
 obtain ⟨d,⟨a,rfl,hs⟩,ok,bd⟩:=xr hd hp gd
 clear q0 qe hd hp gd
 have q:∀ y H',Grow [] H H' -> Wn K H' y (uG d) -> Q y H':=fun y H' g _=>q1 y H' g
 obtain ⟨ad,lo,hi⟩:=d
 refine ⟨_,rfl,a,_,rfl,hs,rfl,_,_,rfl,_,_,rfl,_,_,rfl,rfl,_,rfl,rfl,_,rfl,?_⟩
 by_cases h0:ad = 0
 ·refine zK (decide_eq_true (congrArg V.int h0)) ⟨_,rfl,_,rfl,szl rfl,fun t ht=>q _ _ (Grow.new ht _) ?_⟩
  rw [uG,if_pos h0]; exact ⟨t,rfl,SqT.of zd⟩
 refine zz (decide_eq_false fun z=>h0 (V.int.inj z)) ⟨_,rfl,_,_,rfl,rfl,_,rfl,?_⟩
 by_cases h1:0 < ad
 ·refine zK (decide_eq_true h1) ⟨_,rfl,?_⟩
  obtain ⟨o,rfl⟩:∃ o,hi = o:=⟨_,rfl⟩
  have hE:uG ⟨ad,lo,hi⟩ = sC hi:=by rw [uG,if_neg h0]; exact congrArg sC (if_pos h1)
  cases hi with
  | none=>exact ⟨_,rfl,_,rfl,iteT (q _ _ (Grow.refl _ _) (by rw [hE]; exact rfl))⟩
  | some e=>exact ⟨_,rfl,_,rfl,iteF ⟨_,rfl,_,rfl,szl rfl,fun t ht=>q _ _ (Grow.new ht _) (by rw [hE]; exact ⟨t,rfl,SqT.of zd⟩)⟩⟩
 ·refine zz (decide_eq_false h1) ⟨_,rfl,?_⟩
  have hE:uG ⟨ad,lo,hi⟩ = sC lo:=by rw [uG,if_neg h0]; exact congrArg sC (if_neg h1)
  cases lo with
  | none=>exact ⟨_,rfl,_,rfl,iteT (q _ _ (Grow.refl _ _) (by rw [hE]; exact rfl))⟩
  | some e=>exact ⟨_,rfl,_,rfl,iteF ⟨_,rfl,_,rfl,szl rfl,fun t ht=>q _ _ (Grow.new ht _) (by rw [hE]; exact ⟨t,rfl,SqT.of zd⟩)⟩⟩
theorem xX:FnScope ["deed","value","add","low","high","least","greatest"] ["deed","value"] (zl (top 44)):=⟨rfl,rfl,rfl,by decide +kernel,rfl,by decide +kernel,by decide +kernel⟩
theorem X3 (F:Fun K "leads" "leads" (top 44) f fd) (B:Blt mg) (qc0:zF P w K mg base n "need_deed" ["thing"] (xt A_NoDeed K)) (qc1:zF P w K mg base n "need_value" ["thing"] (tL A_NoNumber K))     :
  FnOk P w K mg base (CX1 P w) (n + 1) f fd ["deed","value"] (w6 A_NoNumber A_NoDeed A_NoText K):=by
 refine Fun.okX F xX xU (fun cdv A outer s H vs Q E hr h=>?_)
 obtain ⟨x,y,rfl,D,dv,m,hd,hv,gd,q0,qe⟩:=h
 refine ⟨_,(zf (zP (zI qc1 (zV fun _ _ _ z=>z) hr rfl (zc (pv 1) ze))) (zf (zP (zI qc0 (zV fun _ _ _ z=>z) hr rfl (zc (pv 0) ze))) (zf (xZ (pv 0) (wv rfl (zD (zy (i:=2) xX.nd rfl (Or.inl rfl)) (zD (zy (i:=3) xX.nd rfl (Or.inl rfl)) (zD (zy (i:=4) xX.nd rfl (Or.inl rfl)) xl))))) (zf (zH (PW.pt (y4 (yB (xk (pv 3))) (yD (zm vI (pv 1) (pv 3) (zu _))))) (zh (zr yt)) zx) (zf (zH (PW.pt (y4 (yB (xk (pv 4))) (yD (zm rK (pv 1) (pv 4) (zu _))))) (zh (zr yt)) zx) (zf (zv (i:=5) xX.nd rfl (Or.inl rfl) (zX (zm yg (pv 1) (pv 3) (zu _)) yt (zA ww (pv 1) (pv 2)))) (zf (zv (i:=6) xX.nd rfl (Or.inl rfl) (zX (zm yg (pv 1) (pv 4) (zu _)) yt (zA ww (pv 1) (pv 2)))) (zh (zr (z7 (zc (pv 5) (zc (pv 6) ze)))))))))))),?_⟩
 refine ⟨_,rfl,_,rfl,dv,m,hv,it17 (fun hw=>?_) (fun hw e=>qe 1 (by rw [hw]; rfl) e _ (Grow.refl _ _))⟩
 refine ⟨_,rfl,_,rfl,D,m,hd,it17 (fun hp=>?_) (fun hp e=>qe 2 (by rw [hw,hp]; rfl) e _ (Grow.refl _ _))⟩
 have q1:=q0 (by rw [hw,hp]; rfl)
 obtain ⟨v,rfl⟩:=xq hw
 obtain rfl:=hv.inv_int
 obtain ⟨d,hD,ok,bd⟩:=xr hd hp gd
 clear q0 qe hd hp hw hv gd
 have q:∀ y H',Grow [] H H' -> Wn K H' y (y7 d v) -> Q y H':=fun y H' g _=>q1 y H' g
 obtain ⟨a,rfl,hs⟩:=hD
 obtain ⟨ad,lo,hi⟩:=d
 refine ⟨_,rfl,a,_,rfl,hs,rfl,_,_,rfl,_,_,rfl,_,_,rfl,rfl,?_⟩
 cases lo with
 | none =>
  have c1:¬ ltO v (Deed.mk ad none hi).lo = true:=fun z=>by cases z
  refine ⟨_,rfl,_,rfl,iteF (iteF ?_)⟩
  cases hi with
  | none =>
   have c2:¬ gtO v (Deed.mk ad (none) none).hi = true:=fun z=>by cases z
   refine ⟨_,rfl,_,rfl,iteF (iteF ?_)⟩
   refine ⟨_,rfl,_,rfl,rfl,_,rfl,iteF ⟨_,rfl,_,rfl,_,_,rfl,rfl,?_⟩⟩
   refine ⟨_,rfl,_,rfl,rfl,_,rfl,iteF ⟨_,rfl,_,rfl,_,_,rfl,rfl,?_⟩⟩
   have hE:y7 (Deed.mk ad (none) none) v = some (some (v - ad),some (v - ad)):=zZ c1 c2 (if_neg (show ¬ (none:Option Int) = some v from nofun)) (if_neg (show ¬ (none:Option Int) = some v from nofun))
   exact ⟨_,rfl,_,rfl,szl rfl,fun t ht=>q _ _ (Grow.new ht _) (by rw [hE]; exact ⟨t,rfl,SqT.of zd⟩)⟩
  | some u =>
   refine ⟨_,rfl,_,rfl,iteT ⟨_,rfl,_,rfl,_,_,rfl,rfl,_,rfl,?_⟩⟩
   by_cases ch:u < v
   ·exact zK (decide_eq_true ch) (q _ _ (Grow.refl _ _) (by rw [y7,if_neg c1,if_pos (show gtO v (Deed.mk ad (none) (some u)).hi = true from decide_eq_true ch)]; exact rfl))
   have c2:¬ gtO v (Deed.mk ad (none) (some u)).hi = true:=fun z=>ch (of_decide_eq_true z)
   refine zz (decide_eq_false ch) ?_
   refine ⟨_,rfl,_,rfl,rfl,_,rfl,iteF ⟨_,rfl,_,rfl,_,_,rfl,rfl,?_⟩⟩
   refine ⟨_,rfl,_,rfl,rfl,_,rfl,?_⟩
   by_cases e2:v = u
   ·refine zK (decide_eq_true (congrArg V.int e2)) ?_
    have hE:y7 (Deed.mk ad (none) (some u)) v = some (some (v - ad),none):=zZ c1 c2 (if_neg (show ¬ (none:Option Int) = some v from nofun)) (if_pos (show some u = some v by rw [e2]))
    exact ⟨_,rfl,_,rfl,szl rfl,fun t ht=>q _ _ (Grow.new ht _) (by rw [hE]; exact ⟨t,rfl,SqT.of zd⟩)⟩
   ·refine zz (decide_eq_false fun z=>e2 (V.int.inj z)) ⟨_,rfl,_,rfl,_,_,rfl,rfl,?_⟩
    have hE:y7 (Deed.mk ad (none) (some u)) v = some (some (v - ad),some (v - ad)):=zZ c1 c2 (if_neg (show ¬ (none:Option Int) = some v from nofun)) (if_neg (show ¬ some u = some v from fun z=>e2 (Option.some.inj z).symm))
    exact ⟨_,rfl,_,rfl,szl rfl,fun t ht=>q _ _ (Grow.new ht _) (by rw [hE]; exact ⟨t,rfl,SqT.of zd⟩)⟩
 | some l =>
  refine ⟨_,rfl,_,rfl,iteT ⟨_,rfl,_,rfl,_,_,rfl,rfl,_,rfl,?_⟩⟩
  by_cases cl:v < l
  ·exact zK (decide_eq_true cl) (q _ _ (Grow.refl _ _) (by rw [y7,if_pos (show ltO v (Deed.mk ad (some l) hi).lo = true from decide_eq_true cl)]; exact rfl))
  have c1:¬ ltO v (Deed.mk ad (some l) hi).lo = true:=fun z=>cl (of_decide_eq_true z)
  refine zz (decide_eq_false cl) ?_
  cases hi with
  | none =>
   have c2:¬ gtO v (Deed.mk ad (some l) none).hi = true:=fun z=>by cases z
   refine ⟨_,rfl,_,rfl,iteF (iteF ?_)⟩
   refine ⟨_,rfl,_,rfl,rfl,_,rfl,?_⟩
   by_cases e1:v = l
   ·refine zK (decide_eq_true (congrArg V.int e1)) ?_
    refine ⟨_,rfl,_,rfl,rfl,_,rfl,iteF ⟨_,rfl,_,rfl,_,_,rfl,rfl,?_⟩⟩
    have hE:y7 (Deed.mk ad (some l) none) v = some (none,some (v - ad)):=zZ c1 c2 (if_pos (show some l = some v by rw [e1])) (if_neg (show ¬ (none:Option Int) = some v from nofun))
    exact ⟨_,rfl,_,rfl,szl rfl,fun t ht=>q _ _ (Grow.new ht _) (by rw [hE]; exact ⟨t,rfl,SqT.of zd⟩)⟩
   ·refine zz (decide_eq_false fun z=>e1 (V.int.inj z)) ⟨_,rfl,_,rfl,_,_,rfl,rfl,?_⟩
    refine ⟨_,rfl,_,rfl,rfl,_,rfl,iteF ⟨_,rfl,_,rfl,_,_,rfl,rfl,?_⟩⟩
    have hE:y7 (Deed.mk ad (some l) none) v = some (some (v - ad),some (v - ad)):=zZ c1 c2 (if_neg (show ¬ some l = some v from fun z=>e1 (Option.some.inj z).symm)) (if_neg (show ¬ (none:Option Int) = some v from nofun))
    exact ⟨_,rfl,_,rfl,szl rfl,fun t ht=>q _ _ (Grow.new ht _) (by rw [hE]; exact ⟨t,rfl,SqT.of zd⟩)⟩
  | some u =>
   refine ⟨_,rfl,_,rfl,iteT ⟨_,rfl,_,rfl,_,_,rfl,rfl,_,rfl,?_⟩⟩
   by_cases ch:u < v
   ·exact zK (decide_eq_true ch) (q _ _ (Grow.refl _ _) (by rw [y7,if_neg c1,if_pos (show gtO v (Deed.mk ad (some l) (some u)).hi = true from decide_eq_true ch)]; exact rfl))
   have c2:¬ gtO v (Deed.mk ad (some l) (some u)).hi = true:=fun z=>ch (of_decide_eq_true z)
   refine zz (decide_eq_false ch) ?_
   refine ⟨_,rfl,_,rfl,rfl,_,rfl,?_⟩
   by_cases e1:v = l
   ·refine zK (decide_eq_true (congrArg V.int e1)) ?_
    refine ⟨_,rfl,_,rfl,rfl,_,rfl,?_⟩
    by_cases e2:v = u
    ·refine zK (decide_eq_true (congrArg V.int e2)) ?_
     have hE:y7 (Deed.mk ad (some l) (some u)) v = some (none,none):=zZ c1 c2 (if_pos (show some l = some v by rw [e1])) (if_pos (show some u = some v by rw [e2]))
     exact ⟨_,rfl,_,rfl,szl rfl,fun t ht=>q _ _ (Grow.new ht _) (by rw [hE]; exact ⟨t,rfl,SqT.of zd⟩)⟩
    ·refine zz (decide_eq_false fun z=>e2 (V.int.inj z)) ⟨_,rfl,_,rfl,_,_,rfl,rfl,?_⟩
     have hE:y7 (Deed.mk ad (some l) (some u)) v = some (none,some (v - ad)):=zZ c1 c2 (if_pos (show some l = some v by rw [e1])) (if_neg (show ¬ some u = some v from fun z=>e2 (Option.some.inj z).symm))
     exact ⟨_,rfl,_,rfl,szl rfl,fun t ht=>q _ _ (Grow.new ht _) (by rw [hE]; exact ⟨t,rfl,SqT.of zd⟩)⟩
   ·refine zz (decide_eq_false fun z=>e1 (V.int.inj z)) ⟨_,rfl,_,rfl,_,_,rfl,rfl,?_⟩
    refine ⟨_,rfl,_,rfl,rfl,_,rfl,?_⟩
    by_cases e2:v = u
    ·refine zK (decide_eq_true (congrArg V.int e2)) ?_
     have hE:y7 (Deed.mk ad (some l) (some u)) v = some (some (v - ad),none):=zZ c1 c2 (if_neg (show ¬ some l = some v from fun z=>e1 (Option.some.inj z).symm)) (if_pos (show some u = some v by rw [e2]))
     exact ⟨_,rfl,_,rfl,szl rfl,fun t ht=>q _ _ (Grow.new ht _) (by rw [hE]; exact ⟨t,rfl,SqT.of zd⟩)⟩
    ·refine zz (decide_eq_false fun z=>e2 (V.int.inj z)) ⟨_,rfl,_,rfl,_,_,rfl,rfl,?_⟩
     have hE:y7 (Deed.mk ad (some l) (some u)) v = some (some (v - ad),some (v - ad)):=zZ c1 c2 (if_neg (show ¬ some l = some v from fun z=>e1 (Option.some.inj z).symm)) (if_neg (show ¬ some u = some v from fun z=>e2 (Option.some.inj z).symm))
     exact ⟨_,rfl,_,rfl,szl rfl,fun t ht=>q _ _ (Grow.new ht _) (by rw [hE]; exact ⟨t,rfl,SqT.of zd⟩)⟩
theorem xY:FnScope ["number","rest","pieces","piece","sign"] ["number"] (zl (top 22)):=⟨rfl,rfl,rfl,by decide +kernel,rfl,by decide +kernel,by decide +kernel⟩
theorem Zd (F:Fun K "written" "written" (top 22) f fd) (B:Blt mg)    {t_PIECE:Tok} (g_PIECE:mg "PIECE" = some (.int 10000000000000000000000000000000000000000000000000000000000000000 t_PIECE))  :
  FnOk P w K mg base CX0 (n + 1) f fd ["number"] (uR K):=by
 refine F.ok xY yb (fun cdv A outer s H vs Q E hr h=>?_)
 obtain ⟨x,rfl,n,rfl,n0,n1,q⟩:=h
 refine ⟨_,(zf (zv (i:=1) xY.nd rfl (Or.inl rfl) (zk wx rfl B.abs Zu (zc (pv 0) ze))) (zf (zv (i:=2) xY.nd rfl (Or.inl rfl) (zJ ze)) (zf (Y5 PassesOwn.never (zm Ti (pv 1) (zC rfl g_PIECE (show RelV (.int 10000000000000000000000000000000000000000000000000000000000000000) (.int 10000000000000000000000000000000000000000000000000000000000000000 t_PIECE) from ⟨_,rfl⟩)) (zu _)) jg) (zf (zP (u7 PySem.F.plainAttrs_list PySem.F.slot_list_append PySem.F.type_list_append wz (pv 2) (zc (yV t4 rfl B.str Ub (zc (pv 1) ze)) ze))) (zf (zv (i:=4) xY.nd rfl (Or.inl rfl) (zX (zm vI (pv 0) zg (zu _)) zM zM)) (zh (zr (zA yE (pv 4) (u7 PySem.F.plainAttrs_str PySem.F.slot_str_join PySem.F.type_str_join qi zM (zc (Vf (K:=K) rfl (pv 2)) ze)))))))))),?_⟩
 obtain ⟨k,hk,hk1⟩:=Vr n0 n1
 refine ⟨_,rfl,n,rfl,?_⟩
 rw [hk]
 refine ⟨szl rfl,fun p hp=>?_⟩
 refine ⟨fun _ σ H'=>σ = [some (.int n),some (.int k),some (.ref p),none,none] /\ H' = upd H p (.lst []),⟨0,rfl,rfl⟩,?_⟩
 rintro _ σ H' ⟨rfl,rfl⟩
 refine ⟨_,rfl,_,_,rfl,rfl,_,rfl,zz (decide_eq_false (by omega)) ?_⟩
 dsimp only
 refine ⟨_,rfl,.inl ⟨rfl,_,SqL.of zd⟩,_,rfl,_,rfl,lg18 (by rw [Int.natAbs_natCast]; exact hk1),p,[],_,rfl,rfl,zd,by decide,?_⟩
 dsimp only
 refine yo (fun v H'=>v = .str (if n < 0 then Str.ofString "-" else Str.ofString "") /\ H' = upd (upd H p (.lst [])) p (.lst ([] ++ [V.str (zq k)]))) (fun Kk hk=>⟨_,rfl,_,_,rfl,rfl,_,rfl,?_⟩) ?_
 ·by_cases hn:n < 0
  ·exact zK (decide_eq_true hn) (hk _ _ ⟨by rw [if_pos hn],rfl⟩)
  ·exact zz (decide_eq_false hn) (hk _ _ ⟨by rw [if_neg hn],rfl⟩)
 rintro _ _ ⟨rfl,rfl⟩
 refine ⟨_,rfl,rfl,_,rfl,p,_,rfl,SqL.of zd,fun r hr'=>⟨_,r,[zq k],rfl,rfl,SqL.of zd,?_,_,_,rfl,rfl,?_,?_⟩⟩
 ·exact jm (by decide) (by intro y hy; rw [List.mem_singleton.mp hy]; have:=ua hk1; omega) (show (1:Nat) <= 10 by decide)
 ·have h1:(if n < 0 then Str.ofString "-" else Str.ofString "").length <= 1:=by split <;> decide
  have h2:=ua hk1
  have h3:(Str.join (Str.ofString "") [zq k]) = zq k:=rfl
  rw [h3]
  exact Nat.le_of_lt (zn (by omega))
 have h3:(Str.join (Str.ofString "") [zq k]) = zq k:=rfl
 have hnum:(if n < 0 then Str.ofString "-" else Str.ofString "") ++ zq k = zq n:=by rw [← hk]; exact jh n
 rw [h3,hnum]
 exact q _ (Grow.shrink hp ((Grow.new hp _).trans ((Grow.set zd (by simp) _).trans (Grow.new hr' _))))
theorem yN:FnScope ["deed","add","low","high","parts"] ["deed"] (zl (top 39)):=⟨rfl,rfl,rfl,by decide +kernel,rfl,by decide +kernel,by decide +kernel⟩
theorem rD (F:Fun K "deed_text" "deed_text" (top 39) f fd) (B:Blt mg) (qc0:zo P w K mg base n "written" ["number"] (uR K)) (qc1:zF P w K mg base n "need_deed" ["thing"] (xt A_NoDeed K))    {a_LOOK:Addr} (g_LOOK:mg "LOOK" = some (.ref a_LOOK)) (s_LOOK:∀ H,SqT K H a_LOOK ([V.int 0,V.non,V.non])) :
  FnOk P w K mg base (CX1 P w) (n + 1) f fd ["deed"] (vE A_NoDeed K):=by
 refine Fun.okX F yN wM (fun cdv A outer s H vs Q E hr h=>?_)
 obtain ⟨x,rfl,h⟩:=h
 refine ⟨_,(zf (zP (zI qc1 (zV fun _ _ _ z=>z) hr rfl (zc (pv 0) ze))) (zf (xZ (pv 0) (wv rfl (zD (zy (i:=1) yN.nd rfl (Or.inl rfl)) (zD (zy (i:=2) yN.nd rfl (Or.inl rfl)) (zD (zy (i:=3) yN.nd rfl (Or.inl rfl)) xl))))) (zf (zH (zm (Wh hr) (pv 0) (zC rfl g_LOOK (show RelV (.ref a_LOOK) (.ref a_LOOK) from rfl)) (zu _)) (zh (zr zM)) zx) (zf (zH (PW.pt (y4 (yB (xk (pv 2))) (yD (zm yg (pv 2) (pv 3) (zu _))))) (zh (zr (zA yE zM (zj qc0 hr rfl (zc (pv 2) ze))))) zx) (zf (zv (i:=4) yN.nd rfl (Or.inl rfl) (zJ ze)) (zf (zH (zm u5 (pv 1) zg (zu _)) (zh (zP (u7 PySem.F.plainAttrs_list PySem.F.slot_list_append PySem.F.type_list_append wz (pv 4) (zc (zA yE zM (zj qc0 hr rfl (zc (pv 1) ze))) ze)))) zx) (zf (zH (yB (xk (pv 2))) (zh (zP (u7 PySem.F.plainAttrs_list PySem.F.slot_list_append PySem.F.type_list_append wz (pv 4) (zc (zA yE zM (zj qc0 hr rfl (zc (pv 2) ze))) ze)))) zx) (zf (zH (yB (xk (pv 3))) (zh (zP (u7 PySem.F.plainAttrs_list PySem.F.slot_list_append PySem.F.type_list_append wz (pv 4) (zc (zA yE zM (zj qc0 hr rfl (zc (pv 3) ze))) ze)))) zx) (zh (zr (u7 PySem.F.plainAttrs_str PySem.F.slot_str_join PySem.F.type_str_join qi zM (zc (pv 4) ze)))))))))))),?_⟩
 rcases h with ⟨d,hd,od,bd,q⟩ | ⟨D,m,hD,hp,qe⟩
 rotate_left
 ·exact ⟨_,rfl,_,rfl,D,m,hD,it17 (fun h=>by rw [hp] at h; cases h) (fun _=>qe)⟩
 refine ⟨_,rfl,_,rfl,vT d,[],re hd,it17 (fun _=>?_) (fun h=>by rw [ve od] at h; cases h)⟩
 obtain ⟨a,rfl,hs⟩:=hd
 obtain ⟨ad,lo,hi⟩:=d
 refine ⟨_,rfl,a,_,rfl,hs,rfl,_,_,rfl,_,_,rfl,_,_,rfl,rfl,?_⟩
 try dsimp only
 refine xz (fun b H'=>b = decide ((⟨ad,lo,hi⟩:Deed) = ⟨0,none,none⟩) /\ H' = H) (fun Kk hk=>⟨_,rfl,?_⟩) ?_
 ·have z:=qS (K:=K) (Q:=fun v H'=>∃ k,v = V.bl k /\ Kk k H') (e:=⟨0,none,none⟩) ⟨a,rfl,hs⟩ ⟨a_LOOK,rfl,s_LOOK H⟩ ⟨_,rfl,hk _ _ ⟨rfl,rfl⟩⟩
  exact z
 rintro _ H ⟨rfl,rfl⟩
 by_cases hl:(⟨ad,lo,hi⟩:Deed) = ⟨0,none,none⟩
 ·refine zK (decide_eq_true hl) ?_
  have e:xA ⟨ad,lo,hi⟩ = S18 "look":=by rw [hl,XG]
  rw [e] at q
  exact q _ (Grow.refl _ _)
 refine zz (decide_eq_false hl) (xy ?_)
 refine xz (fun b H'=>b = decide (lo ≠ none /\ lo = hi) /\ H' = H) (fun Kk hk=>⟨_,rfl,_,rfl,?_⟩) ?_
 ·cases lo with
  | none=>exact iteF (hk _ _ ⟨by simp,rfl⟩)
  | some l =>
   refine iteT ⟨_,rfl,_,rfl,?_⟩
   cases hi with
   | none=>exact ⟨rfl,_,rfl,hk _ _ ⟨by simp [ov],rfl⟩⟩
   | some u=>exact ⟨rfl,_,rfl,hk _ _ ⟨by simp [ov],rfl⟩⟩
 rintro _ H ⟨rfl,rfl⟩
 by_cases hset:lo ≠ none /\ lo = hi
 ·refine zK (decide_eq_true hset) ?_
  have e:=Vt (d:=⟨ad,lo,hi⟩) hset
  rw [e] at q
  cases lo with
  | none=>exact absurd rfl hset.1
  | some l =>
   have b:=bd.2.1 l rfl
   exact ⟨_,rfl,_,rfl,l,rfl,b.1,b.2,fun H' g=>⟨_,_,rfl,rfl,wK (by decide) b.1 b.2,q _ g⟩⟩
 refine zz (decide_eq_false hset) (xy ?_)
 refine ⟨szl rfl,fun p hp=>?_⟩
 try dsimp only
 refine c_if (fun σ' H'=>σ' = [some (.ref a),some (.int ad),some (ov lo),some (ov hi),some (.ref p)] /\ H' p = some (.lst (((wW ⟨ad,lo,hi⟩).map yk).map V.str)) /\ Grow [p] H H') ?_ (fun hk=>?_)
 rotate_left
 ·refine ⟨_,rfl,rfl,_,rfl,?_⟩
  by_cases ha:ad = 0
  ·refine zz (by rw [ha]; rfl) (hk _ _ ⟨rfl,?_,Grow.new hp _⟩)
   rw [zd]; unfold wW; rw [if_pos ha]; rfl
  ·refine zK (by rw [decide_eq_false (fun z=>ha (V.int.inj z))]; rfl) ⟨_,rfl,.inl ⟨rfl,_,SqL.of zd⟩,_,rfl,_,rfl,ad,rfl,bd.1.1,bd.1.2,fun H1 g1=>⟨_,_,rfl,rfl,wK (by decide) bd.1.1 bd.1.2,p,[],_,rfl,rfl,g1.keep _ _ (by simp) zd,by decide,hk _ _ ⟨rfl,?_,?_⟩⟩⟩
   ·rw [zd]; unfold wW; rw [if_neg ha]; exact congrArg (fun z=>some (HO.lst [V.str z])) (XI ad)
   ·exact (Grow.new hp _).trans (g1.wk.trans (Grow.set (g1.keep _ _ (by simp) zd) (by simp) _))
 rintro _ H1 ⟨rfl,hp1,G1⟩
 refine c_if (fun σ' H'=>σ' = [some (.ref a),some (.int ad),some (ov lo),some (ov hi),some (.ref p)] /\ H' p = some (.lst (((wJ ⟨ad,lo,hi⟩).map yk).map V.str)) /\ Grow [p] H H') ?_ (fun hk=>?_)
 rotate_left
 ·refine ⟨_,rfl,_,rfl,?_⟩
  cases lo with
  | none=>exact iteF (hk _ _ ⟨rfl,by rw [hp1]; unfold wJ; rw [Option.toList_none,List.map_nil,List.append_nil],G1⟩)
  | some l =>
   have b:=bd.2.1 l rfl
   refine iteT ⟨_,rfl,.inl ⟨rfl,_,SqL.of hp1⟩,_,rfl,_,rfl,l,rfl,b.1,b.2,fun H2 g2=>⟨_,_,rfl,rfl,wK (by decide) b.1 b.2,p,_,_,rfl,rfl,g2.keep _ _ (by simp) hp1,?_,hk _ _ ⟨rfl,?_,G1.trans (g2.wk.trans (Grow.set (g2.keep _ _ (by simp) hp1) (by simp) _))⟩⟩⟩
   ·rw [List.length_map,List.length_map]; exact zn (by have:=jn ⟨ad,some l,hi⟩; unfold zL wJ at this; rw [List.length_append,List.length_append] at this; omega)
   ·rw [zd]; unfold wJ; rw [Option.toList_some,List.map_append,List.map_append]; exact congrArg (fun z=>some (HO.lst (_ ++ [V.str z]))) (XJ l)
 rintro _ H2 ⟨rfl,hp2,G2⟩
 refine c_if (fun σ' H'=>σ' = [some (.ref a),some (.int ad),some (ov lo),some (ov hi),some (.ref p)] /\ H' p = some (.lst (((zL ⟨ad,lo,hi⟩).map yk).map V.str)) /\ Grow [p] H H') ?_ (fun hk=>?_)
 rotate_left
 ·refine ⟨_,rfl,_,rfl,?_⟩
  cases hi with
  | none=>exact iteF (hk _ _ ⟨rfl,by rw [hp2]; unfold zL; rw [Option.toList_none,List.map_nil,List.append_nil],G2⟩)
  | some l =>
   have b:=bd.2.2 l rfl
   refine iteT ⟨_,rfl,.inl ⟨rfl,_,SqL.of hp2⟩,_,rfl,_,rfl,l,rfl,b.1,b.2,fun H3 g3=>⟨_,_,rfl,rfl,wK (by decide) b.1 b.2,p,_,_,rfl,rfl,g3.keep _ _ (by simp) hp2,?_,hk _ _ ⟨rfl,?_,G2.trans (g3.wk.trans (Grow.set (g3.keep _ _ (by simp) hp2) (by simp) _))⟩⟩⟩
   ·rw [List.length_map,List.length_map]; exact zn (by have:=jn ⟨ad,lo,some l⟩; unfold zL at this; rw [List.length_append] at this; omega)
   ·rw [zd]; unfold zL; rw [Option.toList_some,List.map_append,List.map_append]; exact congrArg (fun z=>some (HO.lst (_ ++ [V.str z]))) (Yx l)
 rintro _ H3 ⟨rfl,hp3,G3⟩
 have e:=Vu (d:=⟨ad,lo,hi⟩) hset hl
 rw [e] at q
 exact ⟨rfl,_,rfl,_,p,_,rfl,rfl,SqL.of hp3,Vv bd,q _ (Grow.shrink hp G3)⟩
theorem yz:FnScope ["word","figures","first","number","at"] ["word"] (zl (top 23)):=⟨rfl,rfl,rfl,by decide +kernel,rfl,by decide +kernel,by decide +kernel⟩
theorem tQ (F:Fun K "read_whole" "read_whole" (top 23) f fd) (B:Blt mg)    {t_AT_ONCE:Tok} (g_AT_ONCE:mg "AT_ONCE" = some (.int 64 t_AT_ONCE))  :
  FnOk P w K mg base CX0 (n + 1) f fd ["word"] (uT K):=by
 refine F.ok yz yb (fun cdv A outer s H vs Q E hr h=>?_)
 obtain ⟨x,rfl,w,rfl,W,q⟩:=h
 refine ⟨_,(zf (zv (i:=1) yz.nd rfl (Or.inl rfl) (u7 PySem.F.plainAttrs_str PySem.F.slot_str_removeprefix PySem.F.type_str_removeprefix v9 (pv 0) (zc zM ze))) (zf (zH (yC (PW.pt (y4 (yd (Wb PySem.F.plainAttrs_str PySem.F.slot_str_isascii PySem.F.type_str_isascii jT (pv 1))) (yD (yd (Wb PySem.F.plainAttrs_str PySem.F.slot_str_isdigit PySem.F.type_str_isdigit jS (pv 1))))))) (zh (zr yt)) zx) (zf (zH (PW.pt (y4 (zm yg (zQ qK (pv 1) zg (fun _ _=>rfl)) zM (zu _)) (yD (zm u5 (pv 0) zM (zu _))))) (zh (zr yt)) zx) (zf (zv (i:=2) yz.nd rfl (Or.inl rfl) (zA vH (zk vi rfl B.len uo (zc (pv 1) ze)) (zC rfl g_AT_ONCE (show RelV (.int 64) (.int 64 t_AT_ONCE) from ⟨_,rfl⟩)))) (zf (zv (i:=3) yz.nd rfl (Or.inl rfl) (yV Ys rfl B.int rO (zc (zA yE zM (yR UP (pv 1) yu (yF (pv 2)))) ze))) (zf (Zj PassesOwn.never rfl (Yt rfl B.range (zc (pv 2) (zc (zk vi rfl B.len uo (zc (pv 1) ze)) (zc (zC rfl g_AT_ONCE (show RelV (.int 64) (.int 64 t_AT_ONCE) from ⟨_,rfl⟩)) ze)))) (zy (i:=4) yz.nd rfl (Or.inl rfl)) jg) (zh (zr (zX (zm yg (zQ qK (pv 0) zg (fun _ _=>rfl)) zM (zu _)) (WP Zk (pv 3)) (pv 3)))))))))),?_⟩
 cases hrd:rd19 w with
 | none =>
  rw [hrd] at q
  have wl:=W.len
  have fl:=YI w
  refine yo (fun v H'=>v = .str (yO w) /\ H' = H) (fun Kk hk'=>⟨_,rfl,rfl,_,_,rfl,rfl,jr (by omega),hk' _ _ ⟨rfl,rfl⟩⟩) ?_
  rintro _ H ⟨rfl,rfl⟩
  refine xz (fun b H'=>b = (!(Txt.isascii (yO w) && Txt.isdigit (yO w))) /\ H' = H) (fun Kk hk'=>⟨_,rfl,rfl,_,rfl,rfl,_,rfl,?_⟩) ?_
  ·cases h1:Txt.isascii (yO w) with
   | false=>exact iteF (hk' _ _ ⟨by rw [h1]; rfl,rfl⟩)
   | true=>exact iteT ⟨_,rfl,rfl,_,rfl,rfl,_,rfl,hk' _ _ ⟨by rw [h1]; rfl,rfl⟩⟩
  rintro _ H ⟨rfl,rfl⟩
  cases h12:(Txt.isascii (yO w) && Txt.isdigit (yO w)) with
  | false=>exact iteT q
  | true =>
   refine iteF (xy ?_)
   obtain ⟨h48,hw0⟩:=UZ h12 hrd
   refine xz (fun b H'=>b = true /\ H' = H) (fun Kk hk'=>⟨_,rfl,_,0,48,rfl,rfl,jr (by omega),XQ h48,rfl,_,rfl,?_⟩) ?_
   ·refine zK (by rw [uc (b:=48) (by decide)]; rfl) ⟨_,rfl,rfl,_,rfl,hk' _ _ ⟨?_,rfl⟩⟩
    rw [decide_eq_false fun z=>hw0 (V.str.inj z)]; rfl
   rintro _ H ⟨rfl,rfl⟩
   exact iteT q
 | some n =>
  have ew:=qm hrd
  obtain ⟨n0,n1⟩:=UV W hrd
  rw [hrd] at q
  subst ew
  obtain ⟨k,hk,hk1⟩:=Vr n0 n1
  have l1:=ua hk1
  have l63:=Vs n0 n1
  have lz:(zq k).length <= sizeLine:=Nat.le_of_lt (zn (by omega))
  refine yo (fun v H'=>v = .str (zq k) /\ H' = H) (fun Kk hk'=>⟨_,rfl,rfl,_,_,rfl,rfl,Nat.le_of_lt (zn (by omega)),by rw [xH,hk]; exact hk' _ _ ⟨rfl,rfl⟩⟩) ?_
  rintro _ H ⟨rfl,rfl⟩
  have e1:=sY k
  have e2:=sZ k
  refine xz (fun b H'=>b = false /\ H' = H) (fun Kk hk'=>⟨_,rfl,rfl,_,rfl,rfl,_,rfl,zK e1 ⟨_,rfl,rfl,_,rfl,rfl,_,rfl,by rw [e2]; exact hk' _ _ ⟨rfl,rfl⟩⟩⟩) ?_
  rintro _ H ⟨rfl,rfl⟩
  refine iteF (xy ?_)
  obtain ⟨c,hc,c48⟩:=Yw k
  refine xz (fun b H'=>b = false /\ H' = H) (fun Kk hk'=>⟨_,rfl,_,0,c,rfl,rfl,lz,hc,rfl,_,rfl,?_⟩) ?_
  ·by_cases h48:c = 48
   ·have k0:=c48 h48
    have n00:n = 0:=by split at hk <;> omega
    refine zK (by rw [uc (b:=48) (by decide),h48]; rfl) ⟨_,rfl,rfl,_,rfl,hk' _ _ ⟨?_,rfl⟩⟩
    rw [n00]; decide
   ·exact zz (by rw [uc (b:=48) (by decide)]; exact decide_eq_false h48) (hk' _ _ ⟨rfl,rfl⟩)
  rintro _ H ⟨rfl,rfl⟩
  refine iteF (xy ?_)
  refine yo (fun v H'=>v = .int ((zq k).length:Int) /\ H' = H) (fun Kk hk'=>⟨_,rfl,_,rfl,lz,_,_,rfl,rfl,(show (0:Int) < 64 by decide),hk' _ _ ⟨congrArg V.int (by omega),rfl⟩⟩) ?_
  rintro _ H ⟨rfl,rfl⟩
  refine yo (fun v H'=>v = .int k /\ H' = H) (fun Kk hk'=>⟨_,rfl,_,rfl,_,rfl,_,rfl,lz,_,_,rfl,rfl,?_,_,k,rfl,?_,?_,hk' _ _ ⟨rfl,rfl⟩⟩) ?_
  ·rw [wp]; exact Nat.le_of_lt (zn (by rw [show (Str.ofString "0").length = 1 from by decide]; omega))
  ·rw [wp]; exact XD hk1
  ·rw [wp,Str.length_append]; have:(Str.ofString "0").length = 1:=by decide
   omega
  rintro _ H ⟨rfl,rfl⟩
  refine ⟨_,rfl,_,rfl,_,rfl,lz,(zq k).length,64,rfl,by omega,by decide,by decide,fun _ _ σ' H'=>σ' = [some (.str (zq n)),some (.str (zq k)),some (.int ((zq k).length:Int)),some (.int k),none] /\ H' = H,⟨0,rfl,rfl⟩,?_⟩
  rintro _ _ σ' H' ⟨rfl,rfl⟩
  refine .inl ⟨trivial,?_⟩
  obtain ⟨c,hc,c45⟩:=wV n
  refine ⟨_,rfl,_,0,c,rfl,rfl,Nat.le_of_lt (zn (by omega)),hc,rfl,_,rfl,?_⟩
  by_cases hn:n < 0
  ·refine zK (by rw [uc (b:=45) (by decide)]; exact decide_eq_true (c45.mpr hn)) ⟨_,rfl,_,rfl,?_⟩
   rw [if_pos hn] at hk
   show Q (V.int (-(k:Int))) _
   rw [← hk,Int.neg_neg]; exact q
  ·refine zz (by rw [uc (b:=45) (by decide)]; exact decide_eq_false (fun z=>hn (c45.mp z))) ⟨_,rfl,?_⟩
   rw [if_neg hn] at hk
   rw [← hk]; exact q
theorem yQ:FnScope ["words","numbers","parts"] ["words"] (zl (top 40)):=⟨rfl,rfl,rfl,by decide +kernel,rfl,by decide +kernel,by decide +kernel⟩
theorem vx (F:Fun K "deed_by_words" "deed_by_words" (top 40) f fd) (B:Blt mg) (qc0:zo P w K mg base n "read_whole" ["word"] (uT K))  (g_zip:mg "zip" = none)   :
  FnOk P w K mg base CX0 (n + 1) f fd ["words"] (ju K):=by
 refine F.ok yQ yb (fun cdv A outer s H vs Q E hr h=>?_)
 obtain ⟨x,rfl,ws,a,rfl,hs,h0,hl,hw,q⟩:=h
 refine ⟨_,(zf (qW (i:=1) yQ.nd rfl rfl (CSc.of (N':=["word"]) (sub:=[none]) (zl (top 40)) ["words","numbers","parts"] rfl rfl (by decide +kernel) rfl) rfl (u3 (UA (K:=K) rfl (pv 0))) (fun _ _ _ _ _ _=>zy (i:=0) (show (["word"]:List Str).Nodup by decide +kernel) rfl (Or.inl rfl)) (fun _ _ _ _ _ _=>xO) (fun _ _ _ _ _ _=>(zj qc0 hr rfl (zc (pv 0) ze)))) (zf (zH (PW.pt (wP (zm vM yt (pv 1) (by with_unfolding_all rfl)) (xv (zm u5 (zk zW rfl B.len uo (zc (pv 0) ze)) (zA yG zg (zk zW rfl B.len uo (zc (pv 1) ze))) (zu _))))) (zh (zr yt)) zx) (zf (zH (zm yg (zQ zY (pv 0) zg (fun _ _=>rfl)) zM (zu _)) (zh (zr (z7 (zc zg (zc (zQ zY (pv 1) zg (fun _ _=>rfl)) (zc (zQ zY (pv 1) zg (fun _ _=>rfl)) ze)))))) zx) (zf (zv (i:=2) yQ.nd rfl (Or.inl rfl) (jW (K:=K) rfl rfl hr.hd rfl B.dict rfl g_zip (zc (Uz (K:=K) rfl (pv 0)) (zc (pv 1) ze)))) (zh (zr (z7 (zc (Xu (Room.u118 hr) (pv 2) zM zg ⟨rfl,rfl,rfl,rfl⟩) (zc (ja (Room.u118 hr) (pv 2) zM ⟨rfl,rfl,rfl,rfl⟩) (zc (ja (Room.u118 hr) (pv 2) zM ⟨rfl,rfl,rfl,rfl⟩) ze)))))))))),?_⟩
 have ol:=U0 ws
 have el:=U1 ws
 refine yo (fun v H'=>∃ l,v = .ref l /\ H' l = some (.lst ((os19 ws).map fun w=>ov (rd19 w))) /\ Grow [] H H') (fun Kk hk=>?_) ?_
 ·refine ⟨_,rfl,a,_,rfl,hs,fun p1 hp1=>?_⟩
  rw [WC]
  refine ⟨p1,rfl,⟨_,SqL.of zd⟩,jK (xs:=(os19 ws).map V.str) (fun i ys H'=>ys = ((os19 ws).take i).map (fun w=>ov (rd19 w)) /\ H' = upd H p1 (.lst ((os19 ws).map V.str))) ⟨rfl,rfl⟩ (fun i ys H' z=>by rw [z.2]; exact SqL.of zd) ?_ ?_⟩
  ·rintro i x ys H' hx ⟨rfl,rfl⟩
   rw [List.getElem?_map] at hx
   obtain ⟨w,hww,rfl⟩:=Option.map_eq_some_iff.mp hx
   refine ⟨_,rfl,_,rfl,w,rfl,hw w (uV (List.mem_of_getElem? hww)),UY (by rw [List.length_map,List.length_take]; omega),?_,rfl⟩
   rw [List.take_succ,hww,List.map_append]; rfl
  ·rintro ys H' ⟨rfl,rfl⟩ l hl
   rw [List.length_map,List.take_length]
   exact hk _ _ ⟨l,rfl,zd,(Grow.new hp1 _).trans (Grow.new hl _)⟩
 rintro _ H1 ⟨l,rfl,hl',g1⟩
 have hs1:=g1.sqL hs
 refine xz (fun b H'=>b = qp ws /\ H' = H1) (fun Kk hk=>⟨_,rfl,l,_,rfl,.inl (SqL.of hl'),rfl,rj _,_,rfl,?_⟩) ?_
 ·cases hn:((os19 ws).any fun w=>(rd19 w).isNone) with
  | true=>exact zK (by rw [if_neg (by decide),tJ]; exact hn) (hk _ _ ⟨by unfold qp; rw [hn]; rfl,rfl⟩)
  | false =>
   refine zz (by rw [if_neg (by decide),tJ]; exact hn) ⟨_,rfl,a,_,rfl,.inl hs1,_,rfl,l,_,rfl,.inl (SqL.of hl'),_,_,rfl,rfl,Wo ⟨by decide,by decide⟩,rfl,_,rfl,hk _ _ ⟨?_,rfl⟩⟩
   unfold qp
   rw [hn,Bool.false_or,List.length_map,List.length_map]
   congr 1
   rw [decide_eq_decide]
   exact ⟨fun z=>by have:=V.int.inj z; omega,fun z=>congrArg V.int (by omega)⟩
 rintro _ H1 ⟨rfl,rfl⟩
 cases hbad:qp ws with
 | true =>
  refine iteT (q _ _ none g1 rfl (fun _ z=>nomatch z) fun d od he e=>?_)
  rw [e,VD (tF d)] at hbad
  cases hbad
 | false =>
  refine iteF (xy ?_)
  have hbad':=hbad
  unfold qp at hbad
  rw [Bool.or_eq_false_iff,Bool.not_eq_false',decide_eq_true_eq] at hbad
  rw [WG hbad.1] at hl'
  have hl2:H1 l = some (.lst ((ns19 ws).map V.int)):=hl'
  have nb:=TY hw
  have nl:(ns19 ws).length = (os19 ws).length:=List.length_map ..
  obtain ⟨w0,hw0⟩:∃ w0,ws[0]? = some w0:=by
   cases ws with
   | nil=>exact absurd rfl h0
   | cons w r=>exact ⟨w,rfl⟩
  obtain ⟨n0,hn0⟩:∃ n0,(ns19 ws)[0]? = some n0:=by
   have:=(List.getElem?_eq_some_iff.mp hw0).1
   exact ⟨_,List.getElem?_eq_getElem (by omega)⟩
  have an:atI ((ns19 ws).map V.int) 0 = some (V.int n0):=ya (j:=0) (by rw [List.getElem?_map,hn0]; rfl)
  refine ⟨_,rfl,a,_,0,V.str w0,rfl,rfl,hs1,ya (j:=0) (by rw [List.getElem?_map,hw0]; rfl),rfl,_,rfl,?_⟩
  by_cases hset:w0 = S18 "set"
  ·refine zK (decide_eq_true (congrArg V.str hset)) ⟨_,rfl,l,_,0,_,rfl,rfl,SqL.of hl2,an,_,rfl,l,_,0,_,rfl,rfl,SqL.of hl2,an,szl rfl,fun t ht=>q _ _ (some ⟨0,some n0,some n0⟩) (g1.trans (Grow.new ht _)) ⟨t,rfl,SqT.of zd⟩ ?_ ?_⟩
   ·rintro _ ⟨⟩
    have b:=nb n0 (List.mem_of_getElem? hn0)
    exact ⟨(show (-(10 ^ 61):Int) <= 0 /\ (0:Int) <= 10 ^ 61 by decide),(fun l z=>by cases z; exact b),fun l z=>by cases z; exact b⟩
   ·intro d od he e
    rw [e,hset] at hw0
    obtain ⟨z,rfl,ep⟩:=VE od he hw0
    rw [e,WF (tF _),ep] at hn0
    cases hn0
    rfl
  ·refine zz (decide_eq_false fun z=>hset (V.str.inj z)) (xy ?_)
   refine yo (fun v H'=>∃ r,v = .ref r /\ H' r = some (.dK (yi (es19 ws) ((ns19 ws).map V.int))) /\ Grow [] H H') (fun Kk hk=>⟨_,rfl,a,_,rfl,hs1,fun p2 hp2=>?_⟩) ?_
   ·rw [WD]
    refine ⟨_,rfl,p2,l,_,_,rfl,SqL.of zd,SqL.of ((Grow.new (m:=[]) hp2 _).keep _ _ (by simp) hl2),by rw [List.length_map]; omega,by omega,fun r H' g hr0 hr'=>hk _ _ ⟨r,rfl,hr',g1.trans ((Grow.new hp2 _).trans g)⟩⟩
   rintro _ H2 ⟨r,rfl,hr',g2⟩
   have isd:IsD H2 r:=.inl ⟨_,.inl hr'⟩
   refine ⟨_,rfl,r,rfl,isd,_,DGet.k (k:=Sum.inr (S18 "add")) hr',_,rfl,r,rfl,isd,_,DGet.k (k:=Sum.inr (S18 "low")) hr',_,rfl,r,rfl,isd,_,DGet.k (k:=Sum.inr (S18 "high")) hr',szl rfl,fun t ht=>?_⟩
   rw [WI,WJ,YK]
   refine q _ _ (some (dz19 (es19 ws) (ns19 ws))) (g2.trans (Grow.new ht _)) ⟨t,rfl,SqT.of zd⟩ ?_ ?_
   ·rintro _ ⟨⟩
    exact TZ nb
   ·intro d od he e
    rw [e] at hw0 ⊢
    have hp:=j3 (d:=d) fun z=>hset (Option.some.inj (hw0.symm.trans z))
    rw [U2 (tF d),WF (tF d),hp,U4]
theorem vp:FnScope ["text","deed"] ["text"] (zl (top 41)):=⟨rfl,rfl,rfl,by decide +kernel,rfl,by decide +kernel,by decide +kernel⟩
theorem rE (F:Fun K "read_deed" "read_deed" (top 41) f fd) (B:Blt mg) {A_NoText:Addr} (x_NoText:ExcC K mg "NoText" A_NoText) (qc0:zF P w K mg base n "deed_text" ["deed"] (vE A_NoDeed K)) (qc1:zo P w K mg base n "is_deed" ["thing"] (wm K)) (qc2:zo P w K mg base n "deed_by_words" ["words"] (ju K))    {a_LOOK:Addr} (g_LOOK:mg "LOOK" = some (.ref a_LOOK)) (s_LOOK:∀ H,SqT K H a_LOOK ([V.int 0,V.non,V.non])) :
  FnOk P w K mg base (CX1 P w) (n + 1) f fd ["text"] (wX A_NoText K):=by
 refine Fun.okX F vp wM (fun cdv A outer s H vs Q E hr h=>?_)
 obtain ⟨x,rfl,dd,m,hd,D,q1,q2⟩:=h
 refine ⟨_,(zf (zH (yC (yd (zk (yX (K:=K) rfl) rfl B.isinstance zi (zc (pv 0) (zc (wA rfl B.str Ub) ze))))) (zh (wD rfl x_NoText rfl xG zM)) zx) (zf (zv (i:=1) vp.nd rfl (Or.inl rfl) (zX (zm yg (pv 0) zM (zu _)) (zC rfl g_LOOK (show RelV (.ref a_LOOK) (.ref a_LOOK) from rfl)) (zj qc2 hr rfl (zc (u7 PySem.F.plainAttrs_str PySem.F.slot_str_split PySem.F.type_str_split XA (pv 0) (zc zM ze)) ze)))) (zf (zH (PW.pt (wP (yC (yd (zj qc1 hr rfl (zc (pv 1) ze)))) (xv (zm u5 (zI qc0 (zV fun _ _ _ z=>z) hr rfl (zc (pv 1) ze)) (pv 0) (zu _))))) (zh (wD rfl x_NoText rfl xG zM)) zx) (zh (zr (pv 1)))))),?_⟩
 refine xz (fun b H'=>b = (!j4 dd) /\ H' = H) (fun Kk hk=>⟨_,rfl,_,dd,m,_,_,rfl,hd,YL dd,_,rfl,hk _ _ ⟨rfl,rfl⟩⟩) ?_
 rintro _ H ⟨rfl,rfl⟩
 cases hi:j4 dd with
 | false=>exact iteT fun e=>q2 (T3 hi) e _ (Grow.refl _ _)
 | true =>
  refine iteF (xy ?_)
  obtain ⟨w,rfl,rfl⟩:=U5 hd hi
  obtain ⟨T,hw⟩:=D w rfl
  have tl:=T.len
  have sl:=qr T
  refine yo (fun v H'=>∃ o,OutD K H' v o /\ (∀ e,o = some e -> e.Bd (10 ^ 61)) /\ (∀ d,lr19 w = some d -> o = some d) /\ Grow [] H H') (fun Kk hk=>⟨_,rfl,rfl,_,rfl,?_⟩) ?_
  ·by_cases hlk:w = S18 "look"
   ·refine zK (decide_eq_true (congrArg V.str hlk)) (hk _ _ ⟨some ⟨0,none,none⟩,⟨a_LOOK,rfl,s_LOOK H⟩,?_,?_,Grow.refl _ _⟩)
    ·rintro _ ⟨⟩; exact W0.mono (by decide)
    ·intro d h
     rw [show lr19 w = some ⟨0,none,none⟩ from if_pos hlk] at h
     exact h
   ·refine zz (decide_eq_false fun z=>hlk (V.str.inj z)) ⟨_,rfl,rfl,_,_,rfl,rfl,by decide,jr (by omega),jr (Nat.le_trans sl (by omega)),fun p hp=>⟨_,rfl,_,p,rfl,SqL.of zd,qo w,Nat.le_trans sl (by omega),hw,fun y H' o g ho hb hf=>hk _ _ ⟨o,ho,hb,fun d h=>?_,(Grow.new hp _).trans g⟩⟩⟩
    obtain ⟨od,et⟩:=tH h
    have he:(yj d).isEmpty = false:=by
     cases he:(yj d).isEmpty with
     | false=>rfl
     | true=>rw [jo he] at et; exact absurd et.symm hlk
    exact hf d od he (by rw [← et,ub he])
  rintro y H1 ⟨o,ho,hb,hf,g1⟩
  refine xz (fun b H'=>b = (lr19 w).isNone /\ Grow [] H1 H') (fun Kk hk=>?_) ?_
  ·cases o with
   | none =>
    have hn:lr19 w = none:=by
     cases h:lr19 w with
     | none=>rfl
     | some d=>exact absurd (hf d h) (by simp)
    have hy:y = .non:=ho
    subst hy
    exact ⟨_,rfl,_,rfl,.none,[],.non,_,rfl,iteT (hk _ _ ⟨by rw [hn]; rfl,Grow.refl _ _⟩)⟩
   | some e =>
    obtain ⟨a,rfl,hs⟩:=id ho
    refine ⟨_,rfl,_,rfl,vT e,[],re ⟨a,rfl,hs⟩,_,rfl,?_⟩
    by_cases oe:e.Ok
    ·rw [ve oe]
     refine iteF ⟨_,rfl,_,rfl,.inl ⟨e,⟨a,rfl,hs⟩,oe,hb e rfl,fun H' g=>⟨_,rfl,rfl,_,rfl,hk _ _ ⟨?_,g⟩⟩⟩⟩
     by_cases et:xA e = w
     ·rw [decide_eq_true (congrArg V.str et),← et,UX oe]; rfl
     ·rw [decide_eq_false fun z=>et (V.str.inj z)]
      cases h:lr19 w with
      | none=>rfl
      | some d=>exact absurd ((Option.some.inj (hf d h)) ▸ (tH h).2) et
    ·rw [j9 oe]
     refine iteT (hk _ _ ⟨?_,Grow.refl _ _⟩)
     cases h:lr19 w with
     | none=>rfl
     | some d=>exact absurd ((Option.some.inj (hf d h)) ▸ (tH h).1) oe
  rintro _ H2 ⟨rfl,g2⟩
  cases hl:lr19 w with
  | none=>exact iteT fun e=>q2 hl e _ (g1.trans g2)
  | some d =>
   have:=hf d hl
   subst this
   exact iteF (xy ⟨_,rfl,q1 _ _ d hl (g1.trans g2) (g2.deed ho)⟩)
theorem yq:FnScope ["_law_number_here","_law_things","_law_one","_law_other","_law_value","_law_many","_law_text"] ["_law_number_here","_law_things"] (zl (top 56)):=⟨rfl,rfl,rfl,by decide +kernel,rfl,by decide +kernel,by decide +kernel⟩
theorem rF (F:Fun K "_law_call" "_law_call" (top 56) f fd) (B:Blt mg) (qc0:zF P w K mg base n "done" ["deed","value"] (w6 A_NoNumber A_NoDeed A_NoText K)) (qc1:zF P w K mg base n "then" ["one","other"] (vc A_NoNumber A_NoDeed A_NoText K)) (qc2:zF P w K mg base n "apart" ["one","other"] (vc A_NoNumber A_NoDeed A_NoText K)) (qc3:zF P w K mg base n "again" ["deed","many"] (qu A_NoNumber A_NoDeed A_NoText K)) (qc4:zF P w K mg base n "stays" ["deed"] (YS A_NoNumber A_NoDeed A_NoText K)) (qc5:zF P w K mg base n "leads" ["deed","value"] (w6 A_NoNumber A_NoDeed A_NoText K)) (qc6:zF P w K mg base n "deed_text" ["deed"] (vE A_NoDeed K)) (qc7:zF P w K mg base n "read_deed" ["text"] (wX A_NoText K))     :
  FnOk P w K mg base (CX1 P w) (n + 1) f fd ["_law_number_here","_law_things"] (ue A_NoNumber A_NoDeed A_NoText K):=by
 refine Fun.okX F yq xU (fun cdv A outer s H vs Q E hr h=>?_)
 obtain ⟨x,y,rfl,n,d1,d2,d3,d4,d5,m,rfl,n8,hd,th,q,qe⟩:=h
 refine ⟨_,(zf (xZ (pv 1) (wv rfl (zD (zy (i:=2) yq.nd rfl (Or.inl rfl)) (zD (zy (i:=3) yq.nd rfl (Or.inl rfl)) (zD (zy (i:=4) yq.nd rfl (Or.inl rfl)) (zD (zy (i:=5) yq.nd rfl (Or.inl rfl)) (zD (zy (i:=6) yq.nd rfl (Or.inl rfl)) xl))))))) (zh (zH (zm yg (pv 0) zg (zu _)) (zh (zP (zI qc0 (zV fun _ _ _ z=>z) hr rfl (zc (pv 2) (zc (pv 4) ze))))) (zh (zH (zm yg (pv 0) zg (zu _)) (zh (zP (zI qc1 (zV fun _ _ _ z=>z) hr rfl (zc (pv 2) (zc (pv 3) ze))))) (zh (zH (zm yg (pv 0) zg (zu _)) (zh (zP (zI qc2 (zV fun _ _ _ z=>z) hr rfl (zc (pv 2) (zc (pv 3) ze))))) (zh (zH (zm yg (pv 0) zg (zu _)) (zh (zP (zI qc3 (zV fun _ _ _ z=>z) hr rfl (zc (pv 2) (zc (pv 5) ze))))) (zh (zH (zm yg (pv 0) zg (zu _)) (zh (zP (zI qc4 (zV fun _ _ _ z=>z) hr rfl (zc (pv 2) ze)))) (zh (zH (zm yg (pv 0) zg (zu _)) (zh (zP (zI qc5 (zV fun _ _ _ z=>z) hr rfl (zc (pv 2) (zc (pv 4) ze))))) (zh (zH (zm yg (pv 0) zg (zu _)) (zh (zP (zI qc6 (zV fun _ _ _ z=>z) hr rfl (zc (pv 2) ze)))) (zh (zP (zI qc7 (zV fun _ _ _ z=>z) hr rfl (zc (pv 6) ze))))))))))))))))))),?_⟩
 obtain ⟨ra,xs,rfl,hs,hds⟩:=hd.inv_tup
 obtain ⟨x1,x2,x3,x4,x5,rfl,o1,o2,o3,o4,o5⟩:=YV hds
 refine ⟨_,rfl,ra,_,rfl,hs,rfl,_,_,rfl,_,_,rfl,_,_,rfl,_,_,rfl,_,_,rfl,rfl,?_⟩
 rcases (by omega:n = 0 \/ n = 1 \/ n = 2 \/ n = 3 \/ n = 4 \/ n = 5 \/ n = 6 \/ n = 7) with rfl | rfl | rfl | rfl | rfl | rfl | rfl | rfl
 ·rw [VF] at q qe
  exact ⟨_,rfl,rfl,_,rfl,zK (decide_eq_true rfl) ⟨_,rfl,_,rfl,_,_,rfl,d1,d3,m,o1,o3,th.g1,q,qe⟩⟩
 ·rw [VG] at q qe
  exact ⟨_,rfl,rfl,_,rfl,zz (decide_eq_false fun z=>by have:=V.int.inj z; omega) ⟨_,rfl,rfl,_,rfl,zK (decide_eq_true rfl) ⟨_,rfl,_,rfl,_,_,rfl,d1,d2,m,o1,o2,th.g1,th.g2,q,qe⟩⟩⟩
 ·rw [VH] at q qe
  exact ⟨_,rfl,rfl,_,rfl,zz (decide_eq_false fun z=>by have:=V.int.inj z; omega) ⟨_,rfl,rfl,_,rfl,zz (decide_eq_false fun z=>by have:=V.int.inj z; omega) ⟨_,rfl,rfl,_,rfl,zK (decide_eq_true rfl) ⟨_,rfl,_,rfl,_,_,rfl,d1,d2,m,o1,o2,th.g1,th.g2,q,qe⟩⟩⟩⟩
 ·rw [VI] at q qe
  exact ⟨_,rfl,rfl,_,rfl,zz (decide_eq_false fun z=>by have:=V.int.inj z; omega) ⟨_,rfl,rfl,_,rfl,zz (decide_eq_false fun z=>by have:=V.int.inj z; omega) ⟨_,rfl,rfl,_,rfl,zz (decide_eq_false fun z=>by have:=V.int.inj z; omega) ⟨_,rfl,rfl,_,rfl,zK (decide_eq_true rfl) ⟨_,rfl,_,rfl,_,_,rfl,d1,d4,m,o1,o4,th.g1,th.g4,q,qe⟩⟩⟩⟩⟩
 ·rw [VJ] at q qe
  exact ⟨_,rfl,rfl,_,rfl,zz (decide_eq_false fun z=>by have:=V.int.inj z; omega) ⟨_,rfl,rfl,_,rfl,zz (decide_eq_false fun z=>by have:=V.int.inj z; omega) ⟨_,rfl,rfl,_,rfl,zz (decide_eq_false fun z=>by have:=V.int.inj z; omega) ⟨_,rfl,rfl,_,rfl,zz (decide_eq_false fun z=>by have:=V.int.inj z; omega) ⟨_,rfl,rfl,_,rfl,zK (decide_eq_true rfl) ⟨_,rfl,_,rfl,d1,m,o1,th.g1,q,qe⟩⟩⟩⟩⟩⟩
 ·rw [VL] at q qe
  exact ⟨_,rfl,rfl,_,rfl,zz (decide_eq_false fun z=>by have:=V.int.inj z; omega) ⟨_,rfl,rfl,_,rfl,zz (decide_eq_false fun z=>by have:=V.int.inj z; omega) ⟨_,rfl,rfl,_,rfl,zz (decide_eq_false fun z=>by have:=V.int.inj z; omega) ⟨_,rfl,rfl,_,rfl,zz (decide_eq_false fun z=>by have:=V.int.inj z; omega) ⟨_,rfl,rfl,_,rfl,zz (decide_eq_false fun z=>by have:=V.int.inj z; omega) ⟨_,rfl,rfl,_,rfl,zK (decide_eq_true rfl) ⟨_,rfl,_,rfl,_,_,rfl,d1,d3,m,o1,o3,th.g1,q,qe⟩⟩⟩⟩⟩⟩⟩
 ·rw [VM] at q qe
  refine ⟨_,rfl,rfl,_,rfl,zz (decide_eq_false fun z=>by have:=V.int.inj z; omega) ⟨_,rfl,rfl,_,rfl,zz (decide_eq_false fun z=>by have:=V.int.inj z; omega) ⟨_,rfl,rfl,_,rfl,zz (decide_eq_false fun z=>by have:=V.int.inj z; omega) ⟨_,rfl,rfl,_,rfl,zz (decide_eq_false fun z=>by have:=V.int.inj z; omega) ⟨_,rfl,rfl,_,rfl,zz (decide_eq_false fun z=>by have:=V.int.inj z; omega) ⟨_,rfl,rfl,_,rfl,zz (decide_eq_false fun z=>by have:=V.int.inj z; omega) ⟨_,rfl,rfl,_,rfl,zK (decide_eq_true rfl) ⟨_,rfl,_,rfl,?_⟩⟩⟩⟩⟩⟩⟩⟩
  cases hp:zN d1 with
  | true =>
   obtain ⟨e,he,ok,bd⟩:=xr o1 hp th.g1
   exact .inl ⟨e,he,ok,bd.mono (by decide),fun H' g=>q (by rw [hp]; rfl) (.str (xA e)) _ g⟩
  | false=>exact .inr ⟨d1,m,o1,hp,fun e=>qe 2 (by rw [hp]; rfl) e _ (Grow.refl _ _)⟩
 ·rw [VN] at q qe
  exact ⟨_,rfl,rfl,_,rfl,zz (decide_eq_false fun z=>by have:=V.int.inj z; omega) ⟨_,rfl,rfl,_,rfl,zz (decide_eq_false fun z=>by have:=V.int.inj z; omega) ⟨_,rfl,rfl,_,rfl,zz (decide_eq_false fun z=>by have:=V.int.inj z; omega) ⟨_,rfl,rfl,_,rfl,zz (decide_eq_false fun z=>by have:=V.int.inj z; omega) ⟨_,rfl,rfl,_,rfl,zz (decide_eq_false fun z=>by have:=V.int.inj z; omega) ⟨_,rfl,rfl,_,rfl,zz (decide_eq_false fun z=>by have:=V.int.inj z; omega) ⟨_,rfl,rfl,_,rfl,zz (decide_eq_false fun z=>by have:=V.int.inj z; omega) ⟨_,rfl,_,rfl,d5,m,o5,th.t5.d19,(fun y H' d h=>by rw [th.t5.no] at h; cases h),fun _ e H' g=>qe 14 rfl e H' g⟩⟩⟩⟩⟩⟩⟩⟩
theorem yT:FnScope ["_law_number_here","_law_things","_law_told","_law_error"] ["_law_number_here","_law_things"] (zl (top 57)):=⟨rfl,rfl,rfl,by decide +kernel,rfl,by decide +kernel,by decide +kernel⟩
theorem tR (F:Fun K "_law_asked" "_law_asked" (top 57) f fd) (B:Blt mg) {A_AskError:Addr} {A_NoNet:Addr} {A_NoNumber:Addr} {A_NoDeed:Addr} {A_NoBoard:Addr} {A_NoAsk:Addr} {A_NoTree:Addr} {A_NoHand:Addr} {A_NoSide:Addr} {A_NoSettings:Addr} {A_NoTable:Addr} {A_TooMany:Addr} {A_NoCalls:Addr} {A_NoOrder:Addr} {A_NoToken:Addr} {A_NoText:Addr} {A_NoRow:Addr} (x_AskError:ExcC K mg "AskError" A_AskError) (kd:Kd17 K [A_NoNet,A_NoNumber,A_NoDeed,A_NoBoard,A_NoAsk,A_NoTree,A_NoHand,A_NoSide,A_NoSettings,A_NoTable,A_TooMany,A_NoCalls,A_NoOrder,A_NoToken,A_NoText,A_NoRow] A_AskError) (qc0:zF P w K mg base n "_law_call" ["_law_number_here","_law_things"] (ue A_NoNumber A_NoDeed A_NoText K)) (d__law_kinds:w4 P w K mg base n "_law_kinds" ["_law_error"] (wq [A_NoNet,A_NoNumber,A_NoDeed,A_NoBoard,A_NoAsk,A_NoTree,A_NoHand,A_NoSide,A_NoSettings,A_NoTable,A_TooMany,A_NoCalls,A_NoOrder,A_NoToken,A_NoText,A_NoRow] A_AskError K))    :
  FnOk P w K mg base CX0 (n + 1) f fd ["_law_number_here","_law_things"] (xV K):=by
 refine F.ok yT xF (fun cdv A outer s H vs Q E hr h=>?_)
 obtain ⟨x,y,rfl,n,d1,d2,d3,d4,d5,m,rfl,n8,hd,th,q⟩:=h
 refine ⟨_,(zf (zv (i:=2) yT.nd rfl (Or.inl rfl) (zJ ze)) (zf (Xs (K:=K) (i:=3) (E:=(fun _ c H'=>(∃ i,yP n d1 d2 d3 d4 = some i /\ c = some (cl17 A_NoNumber A_NoDeed A_NoText i)) /\ Grow [] H H')) rfl rfl rfl rfl x_AskError rfl yT.nd rfl rfl rfl (fun ps=>(zh (zP (zI qc0 (Xq rfl) hr rfl (zc (pv 0) (zc (pv 1) ze)))))) (fun e=>(zh (zv (i:=2) yT.nd rfl (Or.inl rfl) (XS d__law_kinds rfl (RoomH.of hr) rfl (zc (pv 3) ze)))))) (zh (zr (pv 2))))),?_⟩
 refine ⟨szl rfl,fun l0 hl0=>?_⟩
 have g0:Grow [] H (upd H l0 (.lst [])):=Grow.new hl0 _
 refine ⟨⟨_,rfl,_,rfl,_,_,rfl,n,d1,d2,d3,d4,d5,m,rfl,n8,hd.grow (g0.mono (by simp)),th,fun ho y H' g=>?_,fun c hc e H' g=>?_⟩,fun e C' σ' H' hl' hn hE=>?_⟩
 ·refine ⟨_,rfl,q l0 H' (g0.trans g) ?_⟩
  rw [ho]
  exact g.keep _ _ (by simp) zd
 ·exact ⟨⟨c,hc,rfl⟩,g0.trans g⟩
 obtain ⟨⟨c,hc,hC⟩,g⟩:=hE
 have hC:=Option.some.inj hC
 subst hC
 have cl:Cl17 [A_NoNet,A_NoNumber,A_NoDeed,A_NoBoard,A_NoAsk,A_NoTree,A_NoHand,A_NoSide,A_NoSettings,A_NoTable,A_TooMany,A_NoCalls,A_NoOrder,A_NoToken,A_NoText,A_NoRow] A_AskError (cl17 A_NoNumber A_NoDeed A_NoText c) (some c) /\ c < 16:=by
  rcases Zb hc with rfl | rfl | rfl <;> exact ⟨rfl,by decide⟩
 obtain ⟨s0,s1,s2,s3,rfl⟩:∃ a b c d,σ' = [a,b,c,d]:=by
  match σ',hl' with
  | [a,b,c,d],_=>exact ⟨a,b,c,d,rfl⟩
 refine ⟨kd.up _ cl.1.mem,_,rfl,_,rfl,_,some c,rfl,zd,cl.1,(fun i hi=>by cases hi; exact cl.2),fun l H2 g2 hl=>?_⟩
 refine ⟨_,rfl,q l H2 (g.trans ((Grow.new hn _).trans g2)) ?_⟩
 rw [hc]; exact hl
theorem tS:FnScope ["_law_thing_here"] ["_law_thing_here"] (zl (top 52)):=⟨rfl,rfl,rfl,by decide +kernel,rfl,by decide +kernel,by decide +kernel⟩
theorem tT (F:Fun K "_law_whole" "_law_whole" (top 52) f fd) (B:Blt mg)      :
  FnOk P w K mg base CX0 (n + 1) f fd ["_law_thing_here"] (zS K):=by
 refine F.ok tS yb (fun cdv A outer s H vs Q E hr h=>?_)
 obtain ⟨x,rfl,d,m,hd,q⟩:=h
 refine ⟨_,(zh (zr (qH (zk (yX (K:=K) rfl) rfl B.isinstance zi (zc (pv 0) (zc (wA rfl B.int rO) ze))) (vh (qI (zk (yX (K:=K) rfl) rfl B.isinstance zi (zc (pv 0) (zc (wA rfl B.bool We) ze)))))))),?_⟩
 refine ⟨_,rfl,_,d,m,_,_,rfl,hd,Yo,_,rfl,?_⟩
 cases d with
 | int i=>exact iteT ⟨_,rfl,_,_,m,_,_,rfl,hd,vD,_,rfl,q⟩
 | bool b=>exact iteT ⟨_,rfl,_,_,m,_,_,rfl,hd,vD,_,rfl,q⟩
 | _=>exact iteF q
theorem uk:FnScope ["_law_thing_here"] ["_law_thing_here"] (zl (top 53)):=⟨rfl,rfl,rfl,by decide +kernel,rfl,by decide +kernel,by decide +kernel⟩
theorem ul (F:Fun K "_law_is_deed" "_law_is_deed" (top 53) f fd) (B:Blt mg) (qc0:zo P w K mg base n "_law_whole" ["_law_thing_here"] (zS K))     :
  FnOk P w K mg base CX0 (n + 1) f fd ["_law_thing_here"] (vm K):=by
 refine F.ok uk yb (fun cdv A outer s H vs Q E hr h=>?_)
 obtain ⟨x,rfl,d,m,hd,q⟩:=h
 refine ⟨_,(zf (zH (PW.pt (wP (yC (yd (zk (yX (K:=K) rfl) rfl B.isinstance zi (zc (pv 0) (zc (wA rfl B.tuple Zv) ze))))) (wP (zm u5 (zk zW rfl B.len uo (zc (pv 0) ze)) zg (zu _)) (xv (yC (yd (zj qc0 hr rfl (zc (zQ ye (pv 0) zg (fun _ _=>rfl)) ze)))))))) (zh (zr vq)) zx) (zf (zH (yC (yd (zk (su rfl) rfl B.all Ua (zc (xP (CSc.of (N':=["_law_end"]) (sub:=[none]) (zl (top 53)) ["_law_thing_here"] rfl rfl (by decide +kernel) rfl) rfl (Zh (yR (wf (K:=K) rfl) (pv 0) (yF zg) yu)) (fun _ _ _ _ _ _=>zy (i:=0) (show (["_law_end"]:List Str).Nodup by decide +kernel) rfl (Or.inl rfl)) (fun _ _ _ _ _ _=>xO) (fun _ _ _ _ _ _=>(Y4 (X4 (xB (pv 0))) (vh (zj qc0 hr rfl (zc (pv 0) ze)))))) ze)))) (zh (zr vq)) zx) (zf (zH (PW.pt (wP (yB (xB (zQ ye (pv 0) zg (fun _ _=>rfl)))) (xv (yB (xB (zQ ye (pv 0) zg (fun _ _=>rfl))))))) (zh (zr vq)) zx) (zh (zr (Y4 (xn vI (zQ ye (pv 0) zg (fun _ _=>rfl)) (zQ ye (pv 0) zg (fun _ _=>rfl)) (zu _)) (vh (qH (xn yg (zQ ye (pv 0) zg (fun _ _=>rfl)) (zQ ye (pv 0) zg (fun _ _=>rfl)) (zu _)) (vh (xn yg (zQ ye (pv 0) zg (fun _ _=>rfl)) zg (zu _))))))))))),?_⟩
 refine ⟨_,rfl,_,d,m,_,_,rfl,hd,Yp,_,rfl,?_⟩
 cases ht:tupD d with
 | false=>rw [Yr ht] at q; exact iteT (iteT (q _ (Grow.refl _ _)))
 | true =>
  refine iteF ?_
  cases d with
  | tuple ds =>
   obtain ⟨a,xs,rfl,hs,hds⟩:=hd.inv_tup
   refine ⟨_,rfl,a,xs,rfl,.inr hs,rfl,_,rfl,?_⟩
   by_cases hl:ds.length = 3
   ·refine zz (by rw [hds.length,hl]; rfl) ?_
    match ds,hl,hds,hd,q with
    | [d0,d1,d2],_,hds,hd,q =>
     obtain ⟨x0,x1,x2,rfl,o0,o1,o2⟩:=hds.inv3
     refine ⟨_,rfl,a,_,_,_,rfl,rfl,hs,rfl,_,rfl,d0,m,o0,_,rfl,?_⟩
     cases h0:yh d0 with
     | false=>rw [jf h0] at q; exact iteT (q _ (Grow.refl _ _))
     | true =>
      cases d0 with
      | int i =>
       rw [sQ] at q
       refine iteF ⟨_,rfl,_,rfl,a,_,rfl,hs,fun t H1 g1 ht1=>?_⟩
       refine ⟨t,rfl,⟨_,ht1⟩,?_⟩
       have o1':=o1.grow (g1.mono (by simp))
       have o2':=o2.grow (g1.mono (by simp))
       refine ZF (xs:=[x1,x2]) (fun i ys σ' H'=>H' = H1 /\ (∃ e,σ' = [e]) /\ ys = (([endD d1,endD d2].take i).map V.bl)) ?_ ?_ ?_ ?_
       ·exact ⟨rfl,⟨_,rfl⟩,rfl⟩
       ·rintro i ys σ' H' _ ⟨rfl,_⟩
        exact ht1
       ·rintro i x ys σ' H' hx ⟨rfl,⟨e,rfl⟩,rfl⟩
        have key:∀ (d:PyData) (o:Od K m H' x d),(([endD d1,endD d2].take i).map V.bl) ++ [V.bl (endD d)] = (([endD d1,endD d2].take (i + 1)).map V.bl) -> tOrV (tIsN (tVar 0)) (jE (zS K) [] E0 (t9 (tVar 0) tNil)) [some x] H' (fun y H5=>((([endD d1,endD d2].take i).map V.bl)).length < sizeLine /\ (H5 = H' /\ (∃ e,[some x] = [e]) /\ ((([endD d1,endD d2].take i).map V.bl)) ++ [y] = (([endD d1,endD d2].take (i + 1)).map V.bl))):=by
         intro d o er
         have nx:((([endD d1,endD d2].take i).map V.bl)).length < sizeLine:=by
          rw [List.length_map,List.length_take]
          exact zn (by show min i 2 <= 1000; omega)
         refine ⟨_,rfl,_,rfl,?_⟩
         rcases Wu o with ⟨rfl,rfl⟩ | ⟨h1,h2⟩
         ·exact iteT ⟨nx,rfl,⟨_,rfl⟩,er⟩
         ·refine zz (decide_eq_false h1) ⟨_,rfl,_,rfl,d,m,o,nx,rfl,⟨_,rfl⟩,?_⟩
          have e:endD d = yh d:=by cases d <;> first | rfl | exact absurd rfl h2
          rw [← e]; exact er
        match i,hx with
        | 0,hx=>cases Option.some.inj hx; exact key d1 o1' rfl
        | 1,hx=>cases Option.some.inj hx; exact key d2 o2' rfl
       ·rintro ys σ' H' ⟨rfl,_,rfl⟩ l hl
        have G2:Grow [] H (upd H' l (.lst (([endD d1,endD d2].take 2).map V.bl))):=g1.trans (Grow.new hl _)
        have hs':=g1.sqT hs |> (Grow.new (m:=[]) hl (.lst (([endD d1,endD d2].take 2).map V.bl))).sqT
        have qq:=q _ G2
        refine ⟨l,[endD d1,endD d2],rfl,SqL.of zd,_,rfl,?_⟩
        cases h1:endD d1 with
        | false=>rw [h1] at qq; exact iteT qq
        | true =>
         cases h2:endD d2 with
         | false=>rw [h1,h2] at qq; exact iteT qq
         | true =>
          rw [h1,h2] at qq hs'
          refine iteF ?_
          cases d1 with
          | none=>obtain rfl:=o1.inv_non; exact ⟨_,rfl,a,_,_,_,rfl,rfl,hs',rfl,_,rfl,iteT (iteT qq)⟩
          | int l1 =>
           obtain rfl:=o1.inv_int
           cases d2 with
           | none=>obtain rfl:=o2.inv_non; exact ⟨_,rfl,a,_,_,_,rfl,rfl,hs',rfl,_,rfl,iteF ⟨_,rfl,a,_,_,_,rfl,rfl,hs',rfl,_,rfl,iteT qq⟩⟩
           | int u =>
            obtain rfl:=o2.inv_int
            obtain rfl:=o0.inv_int
            refine ⟨_,rfl,a,_,_,_,rfl,rfl,hs',rfl,_,rfl,iteF ⟨_,rfl,a,_,_,_,rfl,rfl,hs',rfl,_,rfl,iteF ?_⟩⟩
            refine ⟨_,rfl,a,_,_,_,rfl,rfl,hs',rfl,_,rfl,a,_,_,_,rfl,rfl,hs',rfl,_,_,rfl,rfl,_,rfl,?_⟩
            have q':Q (.bl (decide (l1 < u) || (decide (l1 = u) && decide (i = 0)))) _:=qq
            refine ite2 (fun c=>?_) (fun c=>?_)
            ·rw [c] at q'; exact q'
            ·rw [Bool.eq_false_iff.mpr c] at q'
             refine ⟨_,rfl,a,_,_,_,rfl,rfl,hs',rfl,_,rfl,a,_,_,_,rfl,rfl,hs',rfl,rfl,_,rfl,?_⟩
             refine ite2 (fun d=>?_) (fun d=>?_)
             ·have d':l1 = u:=V.int.inj (of_decide_eq_true d)
              refine ⟨_,rfl,a,_,_,_,rfl,rfl,hs',rfl,rfl,?_⟩
              rw [decide_eq_true d'] at q'
              have e:decide (V.int i = V.int 0) = decide (i = 0):=by
               by_cases z:i = 0
               ·rw [z]; rfl
               ·rw [decide_eq_false z,decide_eq_false fun w=>z (V.int.inj w)]
              show Q (.bl (decide (V.int i = V.int 0))) _
              rw [e]; exact q'
             ·have d':¬ l1 = u:=fun z=>d (decide_eq_true (congrArg V.int z))
              rw [decide_eq_false d'] at q'
              exact q'
           | _=>cases h2
          | _=>cases h1
      | _=>cases h0
   ·rw [sP hl] at q
    refine zK ?_ (iteT (q _ (Grow.refl _ _)))
    rw [decide_eq_false fun z=>hl (by have:=V.int.inj z; have:=hds.length; omega)]; rfl
  | _=>cases ht
theorem yJ:FnScope ["_law_number_here","_law_things","_law_one","_law_other","_law_value","_law_many","_law_text"] ["_law_number_here","_law_things"] (zl (top 58)):=⟨rfl,rfl,rfl,by decide +kernel,rfl,by decide +kernel,by decide +kernel⟩
theorem qD (F:Fun K "_law_due" "_law_due" (top 58) f fd) (B:Blt mg) (qc0:zo P w K mg base n "_law_is_deed" ["_law_thing_here"] (vm K)) (qc1:zo P w K mg base n "_law_whole" ["_law_thing_here"] (zS K))     :
  FnOk P w K mg base CX0 (n + 1) f fd ["_law_number_here","_law_things"] (xV K):=by
 refine F.ok yJ xF (fun cdv A outer s H vs Q E hr h=>?_)
 obtain ⟨x,y,rfl,n,d1,d2,d3,d4,d5,m,rfl,n8,hd,th,q⟩:=h
 refine ⟨_,(zf (xZ (pv 1) (wv rfl (zD (zy (i:=2) yJ.nd rfl (Or.inl rfl)) (zD (zy (i:=3) yJ.nd rfl (Or.inl rfl)) (zD (zy (i:=4) yJ.nd rfl (Or.inl rfl)) (zD (zy (i:=5) yJ.nd rfl (Or.inl rfl)) (zD (zy (i:=6) yJ.nd rfl (Or.inl rfl)) xl))))))) (zf (zH (PW.pt (wP (PW.pt (y4 (zm vM (pv 0) (z7 (zc zg (zc zg ze))) (by with_unfolding_all rfl)) (yD (yC (yd (zj qc1 hr rfl (zc (pv 4) ze))))))) (xv (PW.pt (y4 (zm yg (pv 0) zg (zu _)) (yD (PW.pt (wP (yC (yd (zj qc1 hr rfl (zc (pv 5) ze)))) (xv (zm vI (pv 5) zg (zu _))))))))))) (zh (zr (zJ (zc zg ze)))) zx) (zf (zH (PW.pt (wP (PW.pt (y4 (zm vI (pv 0) zg (zu _)) (yD (yC (yd (zj qc0 hr rfl (zc (pv 2) ze))))))) (xv (PW.pt (y4 (zm vM (pv 0) (z7 (zc zg (zc zg ze))) (by with_unfolding_all rfl)) (yD (yC (yd (zj qc0 hr rfl (zc (pv 3) ze)))))))))) (zh (zr (zJ (zc zg ze)))) zx) (zh (zr (zX (zm yg (pv 0) zg (zu _)) (zJ (zc zg ze)) (zJ ze))))))),?_⟩
 obtain ⟨ra,xs,rfl,hs,hds⟩:=hd.inv_tup
 obtain ⟨x1,x2,x3,x4,x5,rfl,o1,o2,o3,o4,o5⟩:=YV hds
 refine ⟨_,rfl,ra,_,rfl,hs,rfl,_,_,rfl,_,_,rfl,_,_,rfl,_,_,rfl,_,_,rfl,rfl,?_⟩
 have ng:∀ t,H t = none -> ∀ o,Grow m H (upd H t o):=fun t ht o=>Grow.new ht o
 have ng0:∀ t,H t = none -> ∀ o,Grow [] H (upd H t o):=fun t ht o=>Grow.new ht o
 try dsimp only
 refine xz (fun b H'=>b = decide (((n = 0 \/ n = 5) /\ yh d3 = false) \/ (n = 3 /\ wb d4 = false)) /\ Grow [] H H') (fun Kk hk=>?_) ?_
 ·rcases (by omega:n = 0 \/ n = 1 \/ n = 2 \/ n = 3 \/ n = 4 \/ n = 5 \/ n = 6 \/ n = 7) with rfl | rfl | rfl | rfl | rfl | rfl | rfl | rfl
  ·refine ⟨_,rfl,szl rfl,fun t ht=>⟨t,_,rfl,.inr (SqT.of zd),rfl,rfl,_,rfl,zK (by decide) ⟨_,rfl,_,rfl,d3,m,o3.grow (ng t ht _),_,rfl,?_⟩⟩⟩
   cases hw:yh d3 with
   | false=>exact iteT (hk _ _ ⟨by simp [hw],ng0 _ ht _⟩)
   | true=>exact iteF ⟨_,rfl,rfl,_,rfl,zz (decide_eq_false fun z=>by have:=V.int.inj z; omega) (hk _ _ ⟨by simp [hw],ng0 _ ht _⟩)⟩
  ·exact ⟨_,rfl,szl rfl,fun t ht=>⟨t,_,rfl,.inr (SqT.of zd),rfl,rfl,_,rfl,zz (by decide) (iteF ⟨_,rfl,rfl,_,rfl,zz (decide_eq_false fun z=>by have:=V.int.inj z; omega) (hk _ _ ⟨by simp,ng0 _ ht _⟩)⟩)⟩⟩
  ·exact ⟨_,rfl,szl rfl,fun t ht=>⟨t,_,rfl,.inr (SqT.of zd),rfl,rfl,_,rfl,zz (by decide) (iteF ⟨_,rfl,rfl,_,rfl,zz (decide_eq_false fun z=>by have:=V.int.inj z; omega) (hk _ _ ⟨by simp,ng0 _ ht _⟩)⟩)⟩⟩
  ·refine ⟨_,rfl,szl rfl,fun t ht=>⟨t,_,rfl,.inr (SqT.of zd),rfl,rfl,_,rfl,zz (by decide) (iteF ⟨_,rfl,rfl,_,rfl,zK (decide_eq_true rfl) ⟨_,rfl,_,rfl,d4,m,o4.grow (ng t ht _),_,rfl,?_⟩⟩)⟩⟩
   cases hw:yh d4 with
   | false =>
    have hn:wb d4 = false:=by cases d4 <;> first | rfl | cases hw
    exact iteT (hk _ _ ⟨by simp [hn],ng0 _ ht _⟩)
   | true =>
    obtain ⟨i,rfl⟩:=xq hw
    obtain rfl:=o4.inv_int
    refine iteF ⟨_,rfl,_,_,rfl,rfl,_,rfl,hk _ _ ⟨?_,ng0 _ ht _⟩⟩
    show decide (i < 0) = _
    by_cases hi:i < 0
    ·rw [decide_eq_true hi,decide_eq_true (.inr ⟨rfl,decide_eq_false (by omega)⟩)]
    ·rw [decide_eq_false hi,decide_eq_false]
     rintro (⟨h,_⟩ | ⟨_,h⟩)
     ·omega
     ·exact absurd (of_decide_eq_false h) (by omega)
  ·exact ⟨_,rfl,szl rfl,fun t ht=>⟨t,_,rfl,.inr (SqT.of zd),rfl,rfl,_,rfl,zz (by decide) (iteF ⟨_,rfl,rfl,_,rfl,zz (decide_eq_false fun z=>by have:=V.int.inj z; omega) (hk _ _ ⟨by simp,ng0 _ ht _⟩)⟩)⟩⟩
  ·refine ⟨_,rfl,szl rfl,fun t ht=>⟨t,_,rfl,.inr (SqT.of zd),rfl,rfl,_,rfl,zK (by decide) ⟨_,rfl,_,rfl,d3,m,o3.grow (ng t ht _),_,rfl,?_⟩⟩⟩
   cases hw:yh d3 with
   | false=>exact iteT (hk _ _ ⟨by simp [hw],ng0 _ ht _⟩)
   | true=>exact iteF ⟨_,rfl,rfl,_,rfl,zz (decide_eq_false fun z=>by have:=V.int.inj z; omega) (hk _ _ ⟨by simp [hw],ng0 _ ht _⟩)⟩
  ·exact ⟨_,rfl,szl rfl,fun t ht=>⟨t,_,rfl,.inr (SqT.of zd),rfl,rfl,_,rfl,zz (by decide) (iteF ⟨_,rfl,rfl,_,rfl,zz (decide_eq_false fun z=>by have:=V.int.inj z; omega) (hk _ _ ⟨by simp,ng0 _ ht _⟩)⟩)⟩⟩
  ·exact ⟨_,rfl,szl rfl,fun t ht=>⟨t,_,rfl,.inr (SqT.of zd),rfl,rfl,_,rfl,zz (by decide) (iteF ⟨_,rfl,rfl,_,rfl,zz (decide_eq_false fun z=>by have:=V.int.inj z; omega) (hk _ _ ⟨by simp,ng0 _ ht _⟩)⟩)⟩⟩
 rintro _ H1 ⟨rfl,g1⟩
 by_cases c1:((n = 0 \/ n = 5) /\ yh d3 = false) \/ (n = 3 /\ wb d4 = false)
 ·refine zK (decide_eq_true c1) ⟨szl rfl,fun l hl=>q l _ (g1.trans (Grow.new hl _)) ?_⟩
  rw [zd,yP,if_pos c1]; rfl
 refine zz (decide_eq_false c1) (xy ?_)
 have gm:Grow m H H1:=g1.mono (by simp)
 refine xz (fun b H'=>b = decide ((n < 7 /\ zN d1 = false) \/ ((n = 1 \/ n = 2) /\ zN d2 = false)) /\ Grow [] H1 H') (fun Kk hk=>?_) ?_
 ·by_cases n7:n < 7
  ·refine ⟨_,rfl,_,_,rfl,rfl,_,rfl,zK (decide_eq_true (by omega)) ⟨_,rfl,_,rfl,d1,m,o1.grow gm,fun H2 g2=>⟨_,rfl,?_⟩⟩⟩
   cases hp1:zN d1 with
   | false=>exact iteT (hk _ _ ⟨by simp [hp1,n7],g2⟩)
   | true =>
    refine iteF ⟨_,rfl,szl rfl,fun t ht=>⟨t,_,rfl,.inr (SqT.of zd),rfl,rfl,_,rfl,?_⟩⟩
    have g3:=Grow.new (m:=[]) ht (.tup [V.int 1,V.int 2])
    by_cases n12:n = 1 \/ n = 2
    ·refine zK (by rcases n12 with rfl | rfl <;> decide) ⟨_,rfl,_,rfl,d2,m,o2.grow (gm.trans ((g2.trans g3).mono (by simp))),fun H4 g4=>⟨_,rfl,hk _ _ ⟨?_,g2.trans (g3.trans g4)⟩⟩⟩
     cases hp2:zN d2 <;> simp [hp1,hp2,n12]
    ·refine zz (by rcases (by omega:n = 0 \/ n = 3 \/ n = 4 \/ n = 5 \/ n = 6) with rfl | rfl | rfl | rfl | rfl <;> decide) (hk _ _ ⟨by simp [hp1,n12],g2.trans g3⟩)
  ·obtain rfl:n = 7:=by omega
   exact ⟨_,rfl,_,_,rfl,rfl,_,rfl,zz (decide_eq_false (by omega)) (iteF ⟨_,rfl,szl rfl,fun t ht=>⟨t,_,rfl,.inr (SqT.of zd),rfl,rfl,_,rfl,zz (by decide) (hk _ _ ⟨by simp,Grow.new ht _⟩)⟩⟩)⟩
 rintro _ H2 ⟨rfl,g2⟩
 by_cases c2:(n < 7 /\ zN d1 = false) \/ ((n = 1 \/ n = 2) /\ zN d2 = false)
 ·refine zK (decide_eq_true c2) ⟨szl rfl,fun l hl=>q l _ (g1.trans (g2.trans (Grow.new hl _))) ?_⟩
  rw [zd,yP,if_neg c1,if_pos c2]; rfl
 refine zz (decide_eq_false c2) (xy ⟨_,rfl,rfl,_,rfl,?_⟩)
 by_cases n7:n = 7
 ·refine zK (decide_eq_true (by rw [n7]; rfl)) ⟨szl rfl,fun l hl=>q l _ (g1.trans (g2.trans (Grow.new hl _))) ?_⟩
  rw [zd,yP,if_neg c1,if_neg c2,if_pos n7]; rfl
 ·refine zz (decide_eq_false fun z=>n7 (by have:=V.int.inj z; omega)) ⟨szl rfl,fun l hl=>q l _ (g1.trans (g2.trans (Grow.new hl _))) ?_⟩
  rw [zd,yP,if_neg c1,if_neg c2,if_neg n7]; rfl
theorem yK:FnScope ["_law_pot_here","_law_road","_law_found"] ["_law_pot_here"] (zl (top 48)):=⟨rfl,rfl,rfl,by decide +kernel,rfl,by decide +kernel,by decide +kernel⟩
theorem ux (F:Fun K "_law_number" "_law_number" (top 48) f fd) (B:Blt mg) (qc0:zo P w K mg base n "_law_take" ["_law_pot_here","_law_many"] (xp K))     :
  FnOk P w K mg base CX0 (n + 1) f fd ["_law_pot_here"] (wB K):=by
 refine F.ok yK yb (fun cdv A outer s H vs Q E hr h=>?_)
 obtain ⟨x,rfl,a,rfl,hp,q⟩:=h
 refine ⟨_,(zf (zv (i:=1) yK.nd rfl (Or.inl rfl) (zj qc0 hr rfl (zc (pv 0) (zc zg ze)))) (zf (zv (i:=2) yK.nd rfl (Or.inl rfl) (zj qc0 hr rfl (zc (pv 0) (zc (zQ zY (zJ (zc zg (zc zg (zc zg (zc (zA uz zg zg) (zc (zA uz zg zg) (zc (zA uz zg zg) ze))))))) (pv 1) (fun _ _=>rfl)) ze)))) (zf (zH (zm rK (pv 1) zg (zu _)) (zh (zv (i:=2) yK.nd rfl (Or.inl rfl) (zA vH (zA yG (pv 2) (zA uz zg zg)) (zA uz zg zg)))) zx) (zh (zr (zA yG (pv 2) (zA ww zg (zA yG zg (zj qc0 hr rfl (zc (pv 0) (zc zg ze))))))))))),?_⟩
 refine ⟨_,rfl,_,_,rfl,a,6,rfl,rfl,hp,by decide,by decide,fun r H1 r0 r1 g1 hp1=>?_⟩
 refine ⟨_,rfl,_,_,rfl,rfl,⟨by decide,by decide,by decide⟩,_,_,rfl,rfl,⟨by decide,by decide,by decide⟩,_,_,rfl,rfl,⟨by decide,by decide,by decide⟩,by decide,fun l hl=>?_⟩
 obtain ⟨v,hat,v0,v1⟩:∃ v:Int,atI [V.int 4,.int 12,.int 1000,.int (10 ^ (9:Int).toNat),.int (10 ^ (29:Int).toNat),.int (10 ^ (29:Int).toNat)] r = some (.int v) /\ 0 < v /\ v <= 10 ^ 29:=by
  have:r = 0 \/ r = 1 \/ r = 2 \/ r = 3 \/ r = 4 \/ r = 5:=by omega
  rcases this with rfl | rfl | rfl | rfl | rfl | rfl
  ·exact ⟨_,rfl,by decide,by decide⟩
  ·exact ⟨_,rfl,by decide,by decide⟩
  ·exact ⟨_,rfl,by decide,by decide⟩
  ·exact ⟨_,rfl,by decide,by decide⟩
  ·exact ⟨_,rfl,by decide,by decide⟩
  ·exact ⟨_,rfl,by decide,by decide⟩
 have hp1':Pot (upd H1 l (.lst [V.int 4,.int 12,.int 1000,.int (10 ^ (9:Int).toNat),.int (10 ^ (29:Int).toNat),.int (10 ^ (29:Int).toNat)])) a:=by
  obtain ⟨u0,u1,hu,hn⟩:=hp1
  exact ⟨u0,u1,by rw [zB (zt hu hl)]; exact hu,hn⟩
 refine ⟨_,rfl,l,_,_,_,rfl,rfl,SqL.of zd,hat,_,_,rfl,a,v,rfl,rfl,hp1',v0,by omega,fun f H2 f0 f1 g2 hp2=>?_⟩
 have gr:Grow [a] H H2:=g1.trans ((Grow.new hl _).trans g2)
 refine ⟨_,rfl,_,_,rfl,rfl,_,rfl,?_⟩
 refine ite2 (fun c=>?_) (fun c=>?_)
 ·refine ⟨_,rfl,_,_,rfl,rfl,⟨by decide,by decide,by decide⟩,_,_,rfl,rfl,jI ⟨by omega,by omega⟩ ⟨by decide,by decide⟩,_,_,rfl,rfl,⟨by decide,by decide,by decide⟩,_,_,rfl,rfl,(by show (0:Int) < 10 ^ (29:Int).toNat; decide),?_⟩
  have z0:0 <= f * 982451653 ^ (4:Int).toNat % 10 ^ (29:Int).toNat:=Int.emod_nonneg _ (by decide)
  have z1:f * 982451653 ^ (4:Int).toNat % 10 ^ (29:Int).toNat < 10 ^ 29:=Int.emod_lt_of_pos _ (by decide)
  refine ⟨_,rfl,_,rfl,_,_,rfl,a,2,rfl,rfl,hp2,by decide,by decide,fun d H3 d0 d1 g3 hp3=>?_⟩
  refine ⟨_,_,rfl,rfl,xg ⟨by omega,by omega⟩,_,_,rfl,rfl,_,_,rfl,rfl,xg ⟨by omega,by omega⟩,?_⟩
  have:d = 0 \/ d = 1:=by omega
  rcases this with rfl | rfl
  ·exact q _ _ (by omega) (by omega) (gr.trans g3) hp3
  ·exact q _ _ (by omega) (by omega) (gr.trans g3) hp3
 ·refine ⟨_,rfl,_,rfl,_,_,rfl,a,2,rfl,rfl,hp2,by decide,by decide,fun d H3 d0 d1 g3 hp3=>?_⟩
  refine ⟨_,_,rfl,rfl,xg ⟨by omega,by omega⟩,_,_,rfl,rfl,_,_,rfl,rfl,xg ⟨by omega,by omega⟩,?_⟩
  have:d = 0 \/ d = 1:=by omega
  rcases this with rfl | rfl
  ·exact q _ _ (by omega) (by omega) (gr.trans g3) hp3
  ·exact q _ _ (by omega) (by omega) (gr.trans g3) hp3
theorem um:FnScope ["_law_pot_here","_law_some"] ["_law_pot_here"] (zl (top 50)):=⟨rfl,rfl,rfl,by decide +kernel,rfl,by decide +kernel,by decide +kernel⟩
theorem qE (F:Fun K "_law_odd" "_law_odd" (top 50) f fd) (B:Blt mg) (qc0:zo P w K mg base n "_law_take" ["_law_pot_here","_law_many"] (xp K))     :
  FnOk P w K mg base CX0 (n + 1) f fd ["_law_pot_here"] (je K):=by
 refine F.ok um yb (fun cdv A outer s H vs Q E hr h=>?_)
 obtain ⟨x,rfl,a,rfl,pp,q⟩:=h
 refine ⟨_,(@zf _ _ _ _ _ (@zv _ _ 1 _ _ _ _ um.nd rfl (Or.inl rfl) (@sK _ K _ _ _ _ (@zw _ _ _ _ _ _ _ jb (@zw _ _ _ _ _ _ _ Xw (@zw _ _ _ _ _ _ _ Xw (@zw _ _ _ _ _ _ _ v5 (@zw _ _ _ _ _ _ _ v5 (@zw _ _ _ _ _ _ _ v5 (@zw _ _ _ _ _ _ _ (@sJ _ _ _ _ _ _ _ xc (by first | rfl | decide | exact Or.inl rfl | exact Or.inr rfl | exact Or.inr (Or.inl rfl) | exact Or.inr (Or.inr rfl) | exact fun _=>rfl | exact Nat.le_of_ble_eq_true rfl)) (@zw _ _ _ _ _ _ _ (@sK _ _ _ _ _ _ xc (by first | rfl | decide | exact Or.inl rfl | exact Or.inr rfl | exact Or.inr (Or.inl rfl) | exact Or.inr (Or.inr rfl) | exact fun _=>rfl | exact Nat.le_of_ble_eq_true rfl)) (@zw _ _ _ _ _ _ _ Yn (@zw _ _ _ _ _ _ _ (@sJ _ _ _ _ _ _ _ (@zw _ _ _ _ _ _ _ v3 xc (by first | rfl | decide | exact Or.inl rfl | exact Or.inr rfl | exact Or.inr (Or.inl rfl) | exact Or.inr (Or.inr rfl) | exact fun _=>rfl | exact Nat.le_of_ble_eq_true rfl)) (by first | rfl | decide | exact Or.inl rfl | exact Or.inr rfl | exact Or.inr (Or.inl rfl) | exact Or.inr (Or.inr rfl) | exact fun _=>rfl | exact Nat.le_of_ble_eq_true rfl)) (@zw _ _ _ _ _ _ _ (@sK _ _ _ _ _ _ (@zw _ _ _ _ _ _ _ v3 xc (by first | rfl | decide | exact Or.inl rfl | exact Or.inr rfl | exact Or.inr (Or.inl rfl) | exact Or.inr (Or.inr rfl) | exact fun _=>rfl | exact Nat.le_of_ble_eq_true rfl)) (by first | rfl | decide | exact Or.inl rfl | exact Or.inr rfl | exact Or.inr (Or.inl rfl) | exact Or.inr (Or.inr rfl) | exact fun _=>rfl | exact Nat.le_of_ble_eq_true rfl)) (@zw _ _ _ _ _ _ _ (@UN _ _ _ _ _ _ (@Xz _ _ _ _ _ _ _ _ _ _ v3 Vl) (show ([some (.inl 3)]:List OKey).Nodup by decide) rfl rfl (fun z=>nomatch z) (by decide)) (@zw _ _ _ _ _ _ _ v5 (@zw _ _ _ _ _ _ _ (@sJ _ _ _ _ _ _ _ (@zw _ _ _ _ _ _ _ v5 (@zw _ _ _ _ _ _ _ v3 xc (by first | rfl | decide | exact Or.inl rfl | exact Or.inr rfl | exact Or.inr (Or.inl rfl) | exact Or.inr (Or.inr rfl) | exact fun _=>rfl | exact Nat.le_of_ble_eq_true rfl)) (by first | rfl | decide | exact Or.inl rfl | exact Or.inr rfl | exact Or.inr (Or.inl rfl) | exact Or.inr (Or.inr rfl) | exact fun _=>rfl | exact Nat.le_of_ble_eq_true rfl)) (by first | rfl | decide | exact Or.inl rfl | exact Or.inr rfl | exact Or.inr (Or.inl rfl) | exact Or.inr (Or.inr rfl) | exact fun _=>rfl | exact Nat.le_of_ble_eq_true rfl)) xc (by first | rfl | decide | exact Or.inl rfl | exact Or.inr rfl | exact Or.inr (Or.inl rfl) | exact Or.inr (Or.inr rfl) | exact fun _=>rfl | exact Nat.le_of_ble_eq_true rfl)) (by first | rfl | decide | exact Or.inl rfl | exact Or.inr rfl | exact Or.inr (Or.inl rfl) | exact Or.inr (Or.inr rfl) | exact fun _=>rfl | exact Nat.le_of_ble_eq_true rfl)) vZ) (by first | rfl | decide | exact Or.inl rfl | exact Or.inr rfl | exact Or.inr (Or.inl rfl) | exact Or.inr (Or.inr rfl) | exact fun _=>rfl | exact Nat.le_of_ble_eq_true rfl)) (by first | rfl | decide | exact Or.inl rfl | exact Or.inr rfl | exact Or.inr (Or.inl rfl) | exact Or.inr (Or.inr rfl) | exact fun _=>rfl | exact Nat.le_of_ble_eq_true rfl)) vZ) (by first | rfl | decide | exact Or.inl rfl | exact Or.inr rfl | exact Or.inr (Or.inl rfl) | exact Or.inr (Or.inr rfl) | exact fun _=>rfl | exact Nat.le_of_ble_eq_true rfl)) (by first | rfl | decide | exact Or.inl rfl | exact Or.inr rfl | exact Or.inr (Or.inl rfl) | exact Or.inr (Or.inr rfl) | exact fun _=>rfl | exact Nat.le_of_ble_eq_true rfl)) (by first | rfl | decide | exact Or.inl rfl | exact Or.inr rfl | exact Or.inr (Or.inl rfl) | exact Or.inr (Or.inr rfl) | exact fun _=>rfl | exact Nat.le_of_ble_eq_true rfl)) (by first | rfl | decide | exact Or.inl rfl | exact Or.inr rfl | exact Or.inr (Or.inl rfl) | exact Or.inr (Or.inr rfl) | exact fun _=>rfl | exact Nat.le_of_ble_eq_true rfl)) (by first | rfl | decide | exact Or.inl rfl | exact Or.inr rfl | exact Or.inr (Or.inl rfl) | exact Or.inr (Or.inr rfl) | exact fun _=>rfl | exact Nat.le_of_ble_eq_true rfl)) (by first | rfl | decide | exact Or.inl rfl | exact Or.inr rfl | exact Or.inr (Or.inl rfl) | exact Or.inr (Or.inr rfl) | exact fun _=>rfl | exact Nat.le_of_ble_eq_true rfl)) (by first | rfl | decide | exact Or.inl rfl | exact Or.inr rfl | exact Or.inr (Or.inl rfl) | exact Or.inr (Or.inr rfl) | exact fun _=>rfl | exact Nat.le_of_ble_eq_true rfl)) (by first | rfl | decide | exact Or.inl rfl | exact Or.inr rfl | exact Or.inr (Or.inl rfl) | exact Or.inr (Or.inr rfl) | exact fun _=>rfl | exact Nat.le_of_ble_eq_true rfl)) (by first | rfl | decide | exact Or.inl rfl | exact Or.inr rfl | exact Or.inr (Or.inl rfl) | exact Or.inr (Or.inr rfl) | exact fun _=>rfl | exact Nat.le_of_ble_eq_true rfl)) (by first | rfl | decide | exact Or.inl rfl | exact Or.inr rfl | exact Or.inr (Or.inl rfl) | exact Or.inr (Or.inr rfl) | exact fun _=>rfl | exact Nat.le_of_ble_eq_true rfl) (by first | rfl | decide | exact Or.inl rfl | exact Or.inr rfl | exact Or.inr (Or.inl rfl) | exact Or.inr (Or.inr rfl) | exact fun _=>rfl | exact Nat.le_of_ble_eq_true rfl)) (@zh _ _ _ (@zr _ _ _ _ (@zQ _ _ _ _ _ _ _ zY (pv 1) (@zj _ _ _ _ _ _ _ _ _ _ qc0 hr rfl (@zc _ _ _ _ _ (pv 0) (@zc _ _ _ _ _ (@zk _ _ _ _ _ _ _ _ _ zW rfl B.len uo (@zc _ _ _ _ _ (pv 1) ze (by first | rfl | decide | exact Or.inl rfl | exact Or.inr rfl | exact Or.inr (Or.inl rfl) | exact Or.inr (Or.inr rfl) | exact fun _=>rfl | exact Nat.le_of_ble_eq_true rfl)) (by first | rfl | decide | exact Or.inl rfl | exact Or.inr rfl | exact Or.inr (Or.inl rfl) | exact Or.inr (Or.inr rfl) | exact fun _=>rfl | exact Nat.le_of_ble_eq_true rfl) (by first | rfl | decide | exact Or.inl rfl | exact Or.inr rfl | exact Or.inr (Or.inl rfl) | exact Or.inr (Or.inr rfl) | exact fun _=>rfl | exact Nat.le_of_ble_eq_true rfl) (by first | rfl | decide | exact Or.inl rfl | exact Or.inr rfl | exact Or.inr (Or.inl rfl) | exact Or.inr (Or.inr rfl) | exact fun _=>rfl | exact Nat.le_of_ble_eq_true rfl) (by first | rfl | decide | exact Or.inl rfl | exact Or.inr rfl | exact Or.inr (Or.inl rfl) | exact Or.inr (Or.inr rfl) | exact fun _=>rfl | exact Nat.le_of_ble_eq_true rfl)) ze (by first | rfl | decide | exact Or.inl rfl | exact Or.inr rfl | exact Or.inr (Or.inl rfl) | exact Or.inr (Or.inr rfl) | exact fun _=>rfl | exact Nat.le_of_ble_eq_true rfl)) (by first | rfl | decide | exact Or.inl rfl | exact Or.inr rfl | exact Or.inr (Or.inl rfl) | exact Or.inr (Or.inr rfl) | exact fun _=>rfl | exact Nat.le_of_ble_eq_true rfl)) (by first | rfl | decide | exact Or.inl rfl | exact Or.inr rfl | exact Or.inr (Or.inl rfl) | exact Or.inr (Or.inr rfl) | exact fun _=>rfl | exact Nat.le_of_ble_eq_true rfl) (by first | rfl | decide | exact Or.inl rfl | exact Or.inr rfl | exact Or.inr (Or.inl rfl) | exact Or.inr (Or.inr rfl) | exact fun _=>rfl | exact Nat.le_of_ble_eq_true rfl) (by first | rfl | decide | exact Or.inl rfl | exact Or.inr rfl | exact Or.inr (Or.inl rfl) | exact Or.inr (Or.inr rfl) | exact fun _=>rfl | exact Nat.le_of_ble_eq_true rfl)) (fun _ _=>rfl))))),?_⟩
 refine ⟨[a],trivial,wG pp,fun x1 H1 g1 o1=>?_⟩
 obtain ⟨l1,xs1,rfl,hl1,n1,s1,t1⟩:=o1.inv_lst
 have pp1:=pp.grow g1
 have e1:=t1.length
 refine ⟨_,rfl,_,rfl,_,rfl,l1,_,rfl,.inl (SqL.of hl1),_,_,rfl,a,_,rfl,rfl,pp1,by rw [e1]; decide,by rw [e1]; decide,fun n4 H4 u4 v4 g4 pp4=>?_⟩
 obtain ⟨j,rfl⟩:∃ j:Nat,n4 = j:=⟨n4.toNat,by omega⟩
 obtain ⟨x4,hx4⟩:∃ x,xs1[j]? = some x:=⟨_,List.getElem?_eq_getElem (by omega)⟩
 obtain ⟨d4,hd4,o4⟩:=t1.get hx4
 refine ⟨l1,_,j,x4,rfl,rfl,SqL.of (g4.keep _ _ n1 hl1),ya hx4,q _ d4 H4 (List.mem_of_mem_take (i:=14) (l:=oddL) (List.mem_of_getElem? hd4)) ((g1.mono (by simp)).trans g4) pp4 (o4.grow g4)⟩
theorem yn:FnScope ["_law_pot_here","_law_deed_here","_law_road","_law_odd_here","_law_at","_law_end"] ["_law_pot_here","_law_deed_here"] (zl (top 51)):=⟨rfl,rfl,rfl,by decide +kernel,rfl,by decide +kernel,by decide +kernel⟩
theorem uy (F:Fun K "_law_spoilt" "_law_spoilt" (top 51) f fd) (B:Blt mg) (qc0:zo P w K mg base n "_law_number" ["_law_pot_here"] (wB K)) (qc1:zo P w K mg base n "_law_take" ["_law_pot_here","_law_many"] (xp K)) (qc2:zo P w K mg base n "_law_odd" ["_law_pot_here"] (je K))     :
  FnOk P w K mg base CX0 (n + 1) f fd ["_law_pot_here","_law_deed_here"] (v8 K):=by
 refine F.ok yn xF (fun cdv A outer s H vs Q E hr h=>?_)
 obtain ⟨x,y,rfl,a,d,n,k,w,rfl,pp,hd,dd,gd,n100,q⟩:=h
 refine ⟨_,(@zf _ _ _ _ _ (@zv _ _ 2 _ _ _ _ yn.nd rfl (Or.inl rfl) (@zj _ _ _ _ _ _ _ _ _ _ qc1 hr rfl (@zc _ _ _ _ _ (pv 0) (@zc _ _ _ _ _ zg ze (by first | rfl | decide | exact Or.inl rfl | exact Or.inr rfl | exact Or.inr (Or.inl rfl) | exact Or.inr (Or.inr rfl) | exact fun _=>rfl | exact Nat.le_of_ble_eq_true rfl)) (by first | rfl | decide | exact Or.inl rfl | exact Or.inr rfl | exact Or.inr (Or.inl rfl) | exact Or.inr (Or.inr rfl) | exact fun _=>rfl | exact Nat.le_of_ble_eq_true rfl)) (by first | rfl | decide | exact Or.inl rfl | exact Or.inr rfl | exact Or.inr (Or.inl rfl) | exact Or.inr (Or.inr rfl) | exact fun _=>rfl | exact Nat.le_of_ble_eq_true rfl) (by first | rfl | decide | exact Or.inl rfl | exact Or.inr rfl | exact Or.inr (Or.inl rfl) | exact Or.inr (Or.inr rfl) | exact fun _=>rfl | exact Nat.le_of_ble_eq_true rfl) (by first | rfl | decide | exact Or.inl rfl | exact Or.inr rfl | exact Or.inr (Or.inl rfl) | exact Or.inr (Or.inr rfl) | exact fun _=>rfl | exact Nat.le_of_ble_eq_true rfl)) (by first | rfl | decide | exact Or.inl rfl | exact Or.inr rfl | exact Or.inr (Or.inl rfl) | exact Or.inr (Or.inr rfl) | exact fun _=>rfl | exact Nat.le_of_ble_eq_true rfl) (by first | rfl | decide | exact Or.inl rfl | exact Or.inr rfl | exact Or.inr (Or.inl rfl) | exact Or.inr (Or.inr rfl) | exact fun _=>rfl | exact Nat.le_of_ble_eq_true rfl)) (@zf _ _ _ _ _ (@zv _ _ 3 _ _ _ _ yn.nd rfl (Or.inl rfl) (@zj _ _ _ _ _ _ _ _ _ _ qc2 hr rfl (@zc _ _ _ _ _ (pv 0) ze (by first | rfl | decide | exact Or.inl rfl | exact Or.inr rfl | exact Or.inr (Or.inl rfl) | exact Or.inr (Or.inr rfl) | exact fun _=>rfl | exact Nat.le_of_ble_eq_true rfl)) (by first | rfl | decide | exact Or.inl rfl | exact Or.inr rfl | exact Or.inr (Or.inl rfl) | exact Or.inr (Or.inr rfl) | exact fun _=>rfl | exact Nat.le_of_ble_eq_true rfl) (by first | rfl | decide | exact Or.inl rfl | exact Or.inr rfl | exact Or.inr (Or.inl rfl) | exact Or.inr (Or.inr rfl) | exact fun _=>rfl | exact Nat.le_of_ble_eq_true rfl) (by first | rfl | decide | exact Or.inl rfl | exact Or.inr rfl | exact Or.inr (Or.inl rfl) | exact Or.inr (Or.inr rfl) | exact fun _=>rfl | exact Nat.le_of_ble_eq_true rfl)) (by first | rfl | decide | exact Or.inl rfl | exact Or.inr rfl | exact Or.inr (Or.inl rfl) | exact Or.inr (Or.inr rfl) | exact fun _=>rfl | exact Nat.le_of_ble_eq_true rfl) (by first | rfl | decide | exact Or.inl rfl | exact Or.inr rfl | exact Or.inr (Or.inl rfl) | exact Or.inr (Or.inr rfl) | exact fun _=>rfl | exact Nat.le_of_ble_eq_true rfl)) (@zf _ _ _ _ _ (@zv _ _ 4 _ _ _ _ yn.nd rfl (Or.inl rfl) (@zj _ _ _ _ _ _ _ _ _ _ qc1 hr rfl (@zc _ _ _ _ _ (pv 0) (@zc _ _ _ _ _ zg ze (by first | rfl | decide | exact Or.inl rfl | exact Or.inr rfl | exact Or.inr (Or.inl rfl) | exact Or.inr (Or.inr rfl) | exact fun _=>rfl | exact Nat.le_of_ble_eq_true rfl)) (by first | rfl | decide | exact Or.inl rfl | exact Or.inr rfl | exact Or.inr (Or.inl rfl) | exact Or.inr (Or.inr rfl) | exact fun _=>rfl | exact Nat.le_of_ble_eq_true rfl)) (by first | rfl | decide | exact Or.inl rfl | exact Or.inr rfl | exact Or.inr (Or.inl rfl) | exact Or.inr (Or.inr rfl) | exact fun _=>rfl | exact Nat.le_of_ble_eq_true rfl) (by first | rfl | decide | exact Or.inl rfl | exact Or.inr rfl | exact Or.inr (Or.inl rfl) | exact Or.inr (Or.inr rfl) | exact fun _=>rfl | exact Nat.le_of_ble_eq_true rfl) (by first | rfl | decide | exact Or.inl rfl | exact Or.inr rfl | exact Or.inr (Or.inl rfl) | exact Or.inr (Or.inr rfl) | exact fun _=>rfl | exact Nat.le_of_ble_eq_true rfl)) (by first | rfl | decide | exact Or.inl rfl | exact Or.inr rfl | exact Or.inr (Or.inl rfl) | exact Or.inr (Or.inr rfl) | exact fun _=>rfl | exact Nat.le_of_ble_eq_true rfl) (by first | rfl | decide | exact Or.inl rfl | exact Or.inr rfl | exact Or.inr (Or.inl rfl) | exact Or.inr (Or.inr rfl) | exact fun _=>rfl | exact Nat.le_of_ble_eq_true rfl)) (@zf _ _ _ _ _ (@zH _ _ _ _ _ _ _ _ (@zm _ _ _ _ _ _ _ _ vI (pv 2) zg (zu _)) (@zh _ _ _ (@zr _ _ _ _ (@zA _ _ _ _ _ _ _ _ (wg (K:=K) rfl) (@zA _ _ _ _ _ _ _ _ (wg (K:=K) rfl) (@yR _ _ _ _ _ _ _ _ _ _ (wf (K:=K) rfl) (pv 1) yu (@yF _ _ _ (pv 4))) (@z7 _ _ _ _ _ (@zc _ _ _ _ _ (pv 3) ze (by first | rfl | decide | exact Or.inl rfl | exact Or.inr rfl | exact Or.inr (Or.inl rfl) | exact Or.inr (Or.inr rfl) | exact fun _=>rfl | exact Nat.le_of_ble_eq_true rfl)))) (@yR _ _ _ _ _ _ _ _ _ _ (wf (K:=K) rfl) (pv 1) (@yF _ _ _ (@zA _ _ _ _ _ _ _ _ y6 (pv 4) zg)) yu)))) zx) (@zf _ _ _ _ _ (@zH _ _ _ _ _ _ _ _ (@zm _ _ _ _ _ _ _ _ yg (pv 2) zg (zu _)) (@zh _ _ _ (@zr _ _ _ _ (@zA _ _ _ _ _ _ _ _ (wg (K:=K) rfl) (@zA _ _ _ _ _ _ _ _ (wg (K:=K) rfl) (@yR _ _ _ _ _ _ _ _ _ _ (wf (K:=K) rfl) (pv 1) yu (@yF _ _ _ (pv 4))) (@z7 _ _ _ _ _ (@zc _ _ _ _ _ (@zj _ _ _ _ _ _ _ _ _ _ qc0 hr rfl (@zc _ _ _ _ _ (pv 0) ze (by first | rfl | decide | exact Or.inl rfl | exact Or.inr rfl | exact Or.inr (Or.inl rfl) | exact Or.inr (Or.inr rfl) | exact fun _=>rfl | exact Nat.le_of_ble_eq_true rfl)) (by first | rfl | decide | exact Or.inl rfl | exact Or.inr rfl | exact Or.inr (Or.inl rfl) | exact Or.inr (Or.inr rfl) | exact fun _=>rfl | exact Nat.le_of_ble_eq_true rfl) (by first | rfl | decide | exact Or.inl rfl | exact Or.inr rfl | exact Or.inr (Or.inl rfl) | exact Or.inr (Or.inr rfl) | exact fun _=>rfl | exact Nat.le_of_ble_eq_true rfl) (by first | rfl | decide | exact Or.inl rfl | exact Or.inr rfl | exact Or.inr (Or.inl rfl) | exact Or.inr (Or.inr rfl) | exact fun _=>rfl | exact Nat.le_of_ble_eq_true rfl)) ze (by first | rfl | decide | exact Or.inl rfl | exact Or.inr rfl | exact Or.inr (Or.inl rfl) | exact Or.inr (Or.inr rfl) | exact fun _=>rfl | exact Nat.le_of_ble_eq_true rfl)))) (@yR _ _ _ _ _ _ _ _ _ _ (wf (K:=K) rfl) (pv 1) (@yF _ _ _ (@zA _ _ _ _ _ _ _ _ y6 (pv 4) zg)) yu)))) zx) (@zf _ _ _ _ _ (@zH _ _ _ _ _ _ _ _ (@zm _ _ _ _ _ _ _ _ yg (pv 2) zg (zu _)) (@zh _ _ _ (@zr _ _ _ _ (@z7 _ _ _ _ _ (@zc _ _ _ _ _ (@zQ _ _ _ _ _ _ _ ye (pv 1) zg (fun _ _=>rfl)) (@zc _ _ _ _ _ (@zQ _ _ _ _ _ _ _ ye (pv 1) zg (fun _ _=>rfl)) (@zc _ _ _ _ _ (@zQ _ _ _ _ _ _ _ ye (pv 1) zg (fun _ _=>rfl)) ze (by first | rfl | decide | exact Or.inl rfl | exact Or.inr rfl | exact Or.inr (Or.inl rfl) | exact Or.inr (Or.inr rfl) | exact fun _=>rfl | exact Nat.le_of_ble_eq_true rfl)) (by first | rfl | decide | exact Or.inl rfl | exact Or.inr rfl | exact Or.inr (Or.inl rfl) | exact Or.inr (Or.inr rfl) | exact fun _=>rfl | exact Nat.le_of_ble_eq_true rfl)) (by first | rfl | decide | exact Or.inl rfl | exact Or.inr rfl | exact Or.inr (Or.inl rfl) | exact Or.inr (Or.inr rfl) | exact fun _=>rfl | exact Nat.le_of_ble_eq_true rfl))))) zx) (@zf _ _ _ _ _ (@zH _ _ _ _ _ _ _ _ (@zm _ _ _ _ _ _ _ _ yg (pv 2) zg (zu _)) (@zf _ _ _ _ _ (@zv _ _ 5 _ _ _ _ yn.nd rfl (Or.inl rfl) (@zj _ _ _ _ _ _ _ _ _ _ qc0 hr rfl (@zc _ _ _ _ _ (pv 0) ze (by first | rfl | decide | exact Or.inl rfl | exact Or.inr rfl | exact Or.inr (Or.inl rfl) | exact Or.inr (Or.inr rfl) | exact fun _=>rfl | exact Nat.le_of_ble_eq_true rfl)) (by first | rfl | decide | exact Or.inl rfl | exact Or.inr rfl | exact Or.inr (Or.inl rfl) | exact Or.inr (Or.inr rfl) | exact fun _=>rfl | exact Nat.le_of_ble_eq_true rfl) (by first | rfl | decide | exact Or.inl rfl | exact Or.inr rfl | exact Or.inr (Or.inl rfl) | exact Or.inr (Or.inr rfl) | exact fun _=>rfl | exact Nat.le_of_ble_eq_true rfl) (by first | rfl | decide | exact Or.inl rfl | exact Or.inr rfl | exact Or.inr (Or.inl rfl) | exact Or.inr (Or.inr rfl) | exact fun _=>rfl | exact Nat.le_of_ble_eq_true rfl)) (by first | rfl | decide | exact Or.inl rfl | exact Or.inr rfl | exact Or.inr (Or.inl rfl) | exact Or.inr (Or.inr rfl) | exact fun _=>rfl | exact Nat.le_of_ble_eq_true rfl) (by first | rfl | decide | exact Or.inl rfl | exact Or.inr rfl | exact Or.inr (Or.inl rfl) | exact Or.inr (Or.inr rfl) | exact fun _=>rfl | exact Nat.le_of_ble_eq_true rfl)) (@zh _ _ _ (@zr _ _ _ _ (@z7 _ _ _ _ _ (@zc _ _ _ _ _ (@zA _ _ _ _ _ _ _ _ yG (@zj _ _ _ _ _ _ _ _ _ _ qc1 hr rfl (@zc _ _ _ _ _ (pv 0) (@zc _ _ _ _ _ zg ze (by first | rfl | decide | exact Or.inl rfl | exact Or.inr rfl | exact Or.inr (Or.inl rfl) | exact Or.inr (Or.inr rfl) | exact fun _=>rfl | exact Nat.le_of_ble_eq_true rfl)) (by first | rfl | decide | exact Or.inl rfl | exact Or.inr rfl | exact Or.inr (Or.inl rfl) | exact Or.inr (Or.inr rfl) | exact fun _=>rfl | exact Nat.le_of_ble_eq_true rfl)) (by first | rfl | decide | exact Or.inl rfl | exact Or.inr rfl | exact Or.inr (Or.inl rfl) | exact Or.inr (Or.inr rfl) | exact fun _=>rfl | exact Nat.le_of_ble_eq_true rfl) (by first | rfl | decide | exact Or.inl rfl | exact Or.inr rfl | exact Or.inr (Or.inl rfl) | exact Or.inr (Or.inr rfl) | exact fun _=>rfl | exact Nat.le_of_ble_eq_true rfl) (by first | rfl | decide | exact Or.inl rfl | exact Or.inr rfl | exact Or.inr (Or.inl rfl) | exact Or.inr (Or.inr rfl) | exact fun _=>rfl | exact Nat.le_of_ble_eq_true rfl)) (@zA _ _ _ _ _ _ _ _ y6 zg (@zk _ _ _ _ _ _ _ _ _ wx rfl B.abs Zu (@zc _ _ _ _ _ (@zQ _ _ _ _ _ _ _ ye (pv 1) zg (fun _ _=>rfl)) ze (by first | rfl | decide | exact Or.inl rfl | exact Or.inr rfl | exact Or.inr (Or.inl rfl) | exact Or.inr (Or.inr rfl) | exact fun _=>rfl | exact Nat.le_of_ble_eq_true rfl)) (by first | rfl | decide | exact Or.inl rfl | exact Or.inr rfl | exact Or.inr (Or.inl rfl) | exact Or.inr (Or.inr rfl) | exact fun _=>rfl | exact Nat.le_of_ble_eq_true rfl) (by first | rfl | decide | exact Or.inl rfl | exact Or.inr rfl | exact Or.inr (Or.inl rfl) | exact Or.inr (Or.inr rfl) | exact fun _=>rfl | exact Nat.le_of_ble_eq_true rfl) (by first | rfl | decide | exact Or.inl rfl | exact Or.inr rfl | exact Or.inr (Or.inl rfl) | exact Or.inr (Or.inr rfl) | exact fun _=>rfl | exact Nat.le_of_ble_eq_true rfl) (by first | rfl | decide | exact Or.inl rfl | exact Or.inr rfl | exact Or.inr (Or.inl rfl) | exact Or.inr (Or.inr rfl) | exact fun _=>rfl | exact Nat.le_of_ble_eq_true rfl)))) (@zc _ _ _ _ _ (pv 5) (@zc _ _ _ _ _ (pv 5) ze (by first | rfl | decide | exact Or.inl rfl | exact Or.inr rfl | exact Or.inr (Or.inl rfl) | exact Or.inr (Or.inr rfl) | exact fun _=>rfl | exact Nat.le_of_ble_eq_true rfl)) (by first | rfl | decide | exact Or.inl rfl | exact Or.inr rfl | exact Or.inr (Or.inl rfl) | exact Or.inr (Or.inr rfl) | exact fun _=>rfl | exact Nat.le_of_ble_eq_true rfl)) (by first | rfl | decide | exact Or.inl rfl | exact Or.inr rfl | exact Or.inr (Or.inl rfl) | exact Or.inr (Or.inr rfl) | exact fun _=>rfl | exact Nat.le_of_ble_eq_true rfl)))))) zx) (@zf _ _ _ _ _ (@zH _ _ _ _ _ _ _ _ (@zm _ _ _ _ _ _ _ _ yg (pv 2) zg (zu _)) (@zh _ _ _ (@zr _ _ _ _ (@zA _ _ _ _ _ _ _ _ (wg (K:=K) rfl) (@yR _ _ _ _ _ _ _ _ _ _ (wf (K:=K) rfl) (pv 1) yu (@yF _ _ _ (pv 4))) (@yR _ _ _ _ _ _ _ _ _ _ (wf (K:=K) rfl) (pv 1) (@yF _ _ _ (@zA _ _ _ _ _ _ _ _ y6 (pv 4) zg)) yu)))) zx) (@zf _ _ _ _ _ (@zH _ _ _ _ _ _ _ _ (@zm _ _ _ _ _ _ _ _ yg (pv 2) zg (zu _)) (@zh _ _ _ (@zr _ _ _ _ (@zQ _ _ _ _ _ _ _ zY (@zJ _ _ _ _ (@zc _ _ _ _ _ (@yV _ _ _ _ _ _ _ _ _ (jR (K:=K) rfl) rfl B.list Uc (@zc _ _ _ _ _ (pv 1) ze (by first | rfl | decide | exact Or.inl rfl | exact Or.inr rfl | exact Or.inr (Or.inl rfl) | exact Or.inr (Or.inr rfl) | exact fun _=>rfl | exact Nat.le_of_ble_eq_true rfl)) (by first | rfl | decide | exact Or.inl rfl | exact Or.inr rfl | exact Or.inr (Or.inl rfl) | exact Or.inr (Or.inr rfl) | exact fun _=>rfl | exact Nat.le_of_ble_eq_true rfl) (by first | rfl | decide | exact Or.inl rfl | exact Or.inr rfl | exact Or.inr (Or.inl rfl) | exact Or.inr (Or.inr rfl) | exact fun _=>rfl | exact Nat.le_of_ble_eq_true rfl) (by first | rfl | decide | exact Or.inl rfl | exact Or.inr rfl | exact Or.inr (Or.inl rfl) | exact Or.inr (Or.inr rfl) | exact fun _=>rfl | exact Nat.le_of_ble_eq_true rfl) (by first | rfl | decide | exact Or.inl rfl | exact Or.inr rfl | exact Or.inr (Or.inl rfl) | exact Or.inr (Or.inr rfl) | exact fun _=>rfl | exact Nat.le_of_ble_eq_true rfl)) (@zc _ _ _ _ _ (@z7 _ _ _ _ _ (@zc _ _ _ _ _ (pv 1) ze (by first | rfl | decide | exact Or.inl rfl | exact Or.inr rfl | exact Or.inr (Or.inl rfl) | exact Or.inr (Or.inr rfl) | exact fun _=>rfl | exact Nat.le_of_ble_eq_true rfl))) (@zc _ _ _ _ _ (@qg _ _ _ _ (@zc _ _ _ _ _ (pv 1) ze (by first | rfl | decide | exact Or.inl rfl | exact Or.inr rfl | exact Or.inr (Or.inl rfl) | exact Or.inr (Or.inr rfl) | exact fun _=>rfl | exact Nat.le_of_ble_eq_true rfl))) (@zc _ _ _ _ _ (@zA _ _ _ _ _ _ _ _ (wg (K:=K) rfl) (pv 1) (@z7 _ _ _ _ _ (@zc _ _ _ _ _ yt ze (by first | rfl | decide | exact Or.inl rfl | exact Or.inr rfl | exact Or.inr (Or.inl rfl) | exact Or.inr (Or.inr rfl) | exact fun _=>rfl | exact Nat.le_of_ble_eq_true rfl)))) (@zc _ _ _ _ _ (@zA _ _ _ _ _ _ _ _ (wg (K:=K) rfl) (pv 1) (pv 1)) ze (by first | rfl | decide | exact Or.inl rfl | exact Or.inr rfl | exact Or.inr (Or.inl rfl) | exact Or.inr (Or.inr rfl) | exact fun _=>rfl | exact Nat.le_of_ble_eq_true rfl)) (by first | rfl | decide | exact Or.inl rfl | exact Or.inr rfl | exact Or.inr (Or.inl rfl) | exact Or.inr (Or.inr rfl) | exact fun _=>rfl | exact Nat.le_of_ble_eq_true rfl)) (by first | rfl | decide | exact Or.inl rfl | exact Or.inr rfl | exact Or.inr (Or.inl rfl) | exact Or.inr (Or.inr rfl) | exact fun _=>rfl | exact Nat.le_of_ble_eq_true rfl)) (by first | rfl | decide | exact Or.inl rfl | exact Or.inr rfl | exact Or.inr (Or.inl rfl) | exact Or.inr (Or.inr rfl) | exact fun _=>rfl | exact Nat.le_of_ble_eq_true rfl)) (by first | rfl | decide | exact Or.inl rfl | exact Or.inr rfl | exact Or.inr (Or.inl rfl) | exact Or.inr (Or.inr rfl) | exact fun _=>rfl | exact Nat.le_of_ble_eq_true rfl))) (@zj _ _ _ _ _ _ _ _ _ _ qc1 hr rfl (@zc _ _ _ _ _ (pv 0) (@zc _ _ _ _ _ zg ze (by first | rfl | decide | exact Or.inl rfl | exact Or.inr rfl | exact Or.inr (Or.inl rfl) | exact Or.inr (Or.inr rfl) | exact fun _=>rfl | exact Nat.le_of_ble_eq_true rfl)) (by first | rfl | decide | exact Or.inl rfl | exact Or.inr rfl | exact Or.inr (Or.inl rfl) | exact Or.inr (Or.inr rfl) | exact fun _=>rfl | exact Nat.le_of_ble_eq_true rfl)) (by first | rfl | decide | exact Or.inl rfl | exact Or.inr rfl | exact Or.inr (Or.inl rfl) | exact Or.inr (Or.inr rfl) | exact fun _=>rfl | exact Nat.le_of_ble_eq_true rfl) (by first | rfl | decide | exact Or.inl rfl | exact Or.inr rfl | exact Or.inr (Or.inl rfl) | exact Or.inr (Or.inr rfl) | exact fun _=>rfl | exact Nat.le_of_ble_eq_true rfl) (by first | rfl | decide | exact Or.inl rfl | exact Or.inr rfl | exact Or.inr (Or.inl rfl) | exact Or.inr (Or.inr rfl) | exact fun _=>rfl | exact Nat.le_of_ble_eq_true rfl)) (fun _ _=>rfl)))) zx) (@zh _ _ _ (@zr _ _ _ _ (@zX _ _ _ _ _ _ _ _ (@zm _ _ _ _ _ _ _ _ yg (pv 2) zg (zu _)) (pv 3) (@z7 _ _ _ _ _ (@zc _ _ _ _ _ (@zQ _ _ _ _ _ _ _ ye (pv 1) zg (fun _ _=>rfl)) (@zc _ _ _ _ _ (@zj _ _ _ _ _ _ _ _ _ _ qc0 hr rfl (@zc _ _ _ _ _ (pv 0) ze (by first | rfl | decide | exact Or.inl rfl | exact Or.inr rfl | exact Or.inr (Or.inl rfl) | exact Or.inr (Or.inr rfl) | exact fun _=>rfl | exact Nat.le_of_ble_eq_true rfl)) (by first | rfl | decide | exact Or.inl rfl | exact Or.inr rfl | exact Or.inr (Or.inl rfl) | exact Or.inr (Or.inr rfl) | exact fun _=>rfl | exact Nat.le_of_ble_eq_true rfl) (by first | rfl | decide | exact Or.inl rfl | exact Or.inr rfl | exact Or.inr (Or.inl rfl) | exact Or.inr (Or.inr rfl) | exact fun _=>rfl | exact Nat.le_of_ble_eq_true rfl) (by first | rfl | decide | exact Or.inl rfl | exact Or.inr rfl | exact Or.inr (Or.inl rfl) | exact Or.inr (Or.inr rfl) | exact fun _=>rfl | exact Nat.le_of_ble_eq_true rfl)) (@zc _ _ _ _ _ (@zj _ _ _ _ _ _ _ _ _ _ qc0 hr rfl (@zc _ _ _ _ _ (pv 0) ze (by first | rfl | decide | exact Or.inl rfl | exact Or.inr rfl | exact Or.inr (Or.inl rfl) | exact Or.inr (Or.inr rfl) | exact fun _=>rfl | exact Nat.le_of_ble_eq_true rfl)) (by first | rfl | decide | exact Or.inl rfl | exact Or.inr rfl | exact Or.inr (Or.inl rfl) | exact Or.inr (Or.inr rfl) | exact fun _=>rfl | exact Nat.le_of_ble_eq_true rfl) (by first | rfl | decide | exact Or.inl rfl | exact Or.inr rfl | exact Or.inr (Or.inl rfl) | exact Or.inr (Or.inr rfl) | exact fun _=>rfl | exact Nat.le_of_ble_eq_true rfl) (by first | rfl | decide | exact Or.inl rfl | exact Or.inr rfl | exact Or.inr (Or.inl rfl) | exact Or.inr (Or.inr rfl) | exact fun _=>rfl | exact Nat.le_of_ble_eq_true rfl)) ze (by first | rfl | decide | exact Or.inl rfl | exact Or.inr rfl | exact Or.inr (Or.inl rfl) | exact Or.inr (Or.inr rfl) | exact fun _=>rfl | exact Nat.le_of_ble_eq_true rfl)) (by first | rfl | decide | exact Or.inl rfl | exact Or.inr rfl | exact Or.inr (Or.inl rfl) | exact Or.inr (Or.inr rfl) | exact fun _=>rfl | exact Nat.le_of_ble_eq_true rfl)) (by first | rfl | decide | exact Or.inl rfl | exact Or.inr rfl | exact Or.inr (Or.inl rfl) | exact Or.inr (Or.inr rfl) | exact fun _=>rfl | exact Nat.le_of_ble_eq_true rfl))))))))))))))),?_⟩
 obtain ⟨ai,l,u,rfl,el,eu,_⟩:=wU dd
 have gds0:=Yq gd el eu
 have gai:-(10 ^ 30) - (n:Int) <= ai /\ ai <= 10 ^ 30 + n:=by
  have z:=yy.mp gds0.le (.int ai) (by simp)
  simp only [leD,Bool.and_eq_true,decide_eq_true_eq] at z
  omega
 have gds:=gds0.mono (Nat.le_succ n) (show 0 <= 2 by decide) (Nat.le_refl _)
 clear gds0
 obtain ⟨b,xs,rfl,hs0,hds0⟩:=hd.inv_tup
 refine ⟨_,rfl,_,_,rfl,a,9,rfl,rfl,pp,by decide,by decide,fun rd H1 l1 u1 g1 pp1=>?_⟩
 refine ⟨_,rfl,_,rfl,a,rfl,pp1,fun y3 d3 H2 m3 g2 pp2 o2=>?_⟩
 refine ⟨_,rfl,_,_,rfl,a,4,rfl,rfl,pp2,by decide,by decide,fun at4 H4 l4 u4 g4 pp4=>?_⟩
 have G4:=g1.trans (g2.trans g4)
 have o4:=o2.grow g4
 have hs4:=G4.sqT hs0
 have hds4:=hds0.grow G4
 have god:=(Vn m3 (n + 1))
 have hxl:xs.length = 3:=hds0.length
 have cl:∀ lo hi,(cutV xs lo hi).length <= 3:=fun lo hi=>by have:=vL xs lo hi; omega
 clear g1 g2 g4 pp1 pp2 o2 hs0 hds0 hd pp gd dd
 generalize hHe:H4 = He at G4 pp4 o4 hs4 hds4 ⊢
 clear hHe
 refine ⟨_,rfl,_,_,rfl,rfl,_,rfl,?_⟩
 by_cases r2:rd < 2
 ·refine zK (decide_eq_true r2) ⟨_,rfl,_,rfl,_,rfl,b,xs,rfl,hs4,fun p5 H5 g5 s5=>⟨_,rfl,szl rfl,fun t6 h6=>?_⟩⟩
  have d6:=Grow.new (m:=[]) h6 (.tup [y3])
  refine ⟨p5,t6,_,_,rfl,rfl,d6.sqT s5,SqT.of zd,Nat.le_of_lt (zn (by have:=cl none (some at4); show _ + 1 <= 1000; omega)),fun p7 H7 g7 s7=>?_⟩
  refine ⟨_,rfl,_,rfl,_,_,rfl,rfl,_,rfl,b,xs,rfl,(g5.trans (d6.trans g7)).sqT hs4,fun p8 H8 g8 s8=>?_⟩
  refine ⟨p7,p8,_,_,rfl,rfl,g8.sqT s7,s8,Nat.le_of_lt (zn (by have:=cl none (some at4); have:=cl (some (at4 + 1)) none; rw [List.length_append]; show _ + 1 + _ <= 1000; omega)),fun p9 H9 g9 s9=>?_⟩
  have G9:Grow [a] He H9:=((g5.trans (d6.trans (g7.trans (g8.trans g9)))).mono (by simp))
  exact q _ _ H9 (G4.trans G9) (pp4.grow (g5.trans (d6.trans (g7.trans (g8.trans g9))))) (.tup s9 (((hds4.grow G9).cut.append (.cons (o4.grow G9) .nil)).append (hds4.grow G9).cut)) (((gds.cut.append god.one).append gds.cut).tup.mono (Nat.le_refl _) (by decide) (by decide))
 refine zz (decide_eq_false r2) ⟨_,rfl,rfl,_,rfl,?_⟩
 by_cases r3:rd = 2
 ·refine zK (decide_eq_true (congrArg V.int r3)) ⟨_,rfl,_,rfl,_,rfl,b,xs,rfl,hs4,fun p5 H5 g5 s5=>⟨_,rfl,_,rfl,a,rfl,pp4.grow g5,fun nn H5b lnn unn g5b pp5b=>⟨szl rfl,fun t6 h6=>?_⟩⟩⟩
  have d6:=Grow.new (m:=[]) h6 (.tup [V.int nn])
  refine ⟨p5,t6,_,_,rfl,rfl,d6.sqT (g5b.sqT s5),SqT.of zd,Nat.le_of_lt (zn (by have:=cl none (some at4); show _ + 1 <= 1000; omega)),fun p7 H7 g7 s7=>?_⟩
  have G7:Grow [a] He H7:=(g5.mono (by simp)).trans (g5b.trans ((d6.trans g7).mono (by simp)))
  refine ⟨_,rfl,_,rfl,_,_,rfl,rfl,_,rfl,b,xs,rfl,G7.sqT hs4,fun p8 H8 g8 s8=>?_⟩
  refine ⟨p7,p8,_,_,rfl,rfl,g8.sqT s7,s8,Nat.le_of_lt (zn (by have:=cl none (some at4); have:=cl (some (at4 + 1)) none; rw [List.length_append]; show _ + 1 + _ <= 1000; omega)),fun p9 H9 g9 s9=>?_⟩
  have G9:Grow [a] He H9:=G7.trans ((g8.trans g9).mono (by simp))
  exact q _ _ H9 (G4.trans G9) (pp5b.grow (d6.trans (g7.trans (g8.trans g9)))) (.tup s9 (((hds4.grow G9).cut.append (.cons (.int nn) .nil)).append (hds4.grow G9).cut)) (((gds.cut.append ((wa (n:=n + 1) (i:=nn) (by omega) (by omega)).mono (Nat.le_refl _) (show 0 <= 2 by decide) (Nat.le_refl _)).one).append gds.cut).tup.mono (Nat.le_refl _) (by decide) (by decide))
 refine zz (decide_eq_false fun z=>r3 (V.int.inj z)) ⟨_,rfl,rfl,_,rfl,?_⟩
 obtain ⟨x0,x1,x2,rfl,o0,ol,ou⟩:=hds4.inv3
 have gl:GdD (n + 1) 2 1921 l:=(sO (k:=0) (w:=0) el (yy.mp gds.le l (by simp))).mono (Nat.le_refl _) (by decide) (Nat.le_refl _)
 have gu:GdD (n + 1) 2 1921 u:=(sO (k:=0) (w:=0) eu (yy.mp gds.le u (by simp))).mono (Nat.le_refl _) (by decide) (Nat.le_refl _)
 have ga:GdD (n + 1) 2 1921 (.int ai):=(wa (n:=n + 1) (by omega) (by omega)).mono (Nat.le_refl _) (by decide) (Nat.le_refl _)
 obtain rfl:=o0.inv_int
 by_cases r4:rd = 3
 ·refine zK (decide_eq_true (congrArg V.int r4)) ⟨_,rfl,b,_,_,_,rfl,rfl,hs4,rfl,_,rfl,b,_,_,_,rfl,rfl,hs4,rfl,_,rfl,b,_,_,_,rfl,rfl,hs4,rfl,szl rfl,fun t5 h5=>?_⟩
  have d5:=Grow.new (m:=[]) h5 (.tup [V.int ai,x2,x1])
  have G5:Grow [a] He _:=d5.mono (by simp)
  exact q _ _ _ (G4.trans G5) (pp4.grow d5) (.tup (SqT.of zd) (.cons (.int ai) (.cons (ou.grow G5) (.cons (ol.grow G5) .nil)))) ((ga.one.append (gu.one.append gl.one)).tup.mono (Nat.le_refl _) (by decide) (by decide))
 refine zz (decide_eq_false fun z=>r4 (V.int.inj z)) ⟨_,rfl,rfl,_,rfl,?_⟩
 by_cases r5:rd = 4
 ·refine zK (decide_eq_true (congrArg V.int r5)) ⟨_,rfl,_,rfl,a,rfl,pp4,fun en H5 len uen g5 pp5=>?_⟩
  refine ⟨_,rfl,_,_,rfl,a,2,rfl,rfl,pp5,by decide,by decide,fun tw H6 ltw utw g6 pp6=>?_⟩
  have G6:Grow [a] He H6:=g5.trans g6
  refine ⟨_,rfl,b,_,_,_,rfl,rfl,G6.sqT hs4,rfl,ai,rfl,_,_,rfl,rfl,_,_,rfl,rfl,Wo ⟨by omega,by omega⟩,_,rfl,_,rfl,szl rfl,fun t7 h7=>?_⟩
  have d7:=Grow.new (m:=[]) h7 (.tup [V.int (tw * (1 + if ai < 0 then -ai else ai)),V.int en,V.int en])
  have G7:Grow [a] He _:=G6.trans (d7.mono (by simp))
  have gm:GdD (n + 1) 0 1921 (.int (tw * (1 + if ai < 0 then -ai else ai))):=by
   have hX:0 <= (if ai < 0 then -ai else ai) /\ (if ai < 0 then -ai else ai) <= 10 ^ 30 + n:=by split <;> omega
   generalize (if ai < 0 then -ai else ai) = X at hX ⊢
   rcases (show tw = 0 \/ tw = 1 by omega) with rfl | rfl
   ·exact wa (by omega) (by omega)
   ·exact wa (by omega) (by omega)
  have ge:GdD (n + 1) 0 1921 (.int en):=wa (by omega) (by omega)
  exact q _ _ _ (G4.trans G7) (pp6.grow d7) (.tup (SqT.of zd) (.cons (.int _) (.cons (.int en) (.cons (.int en) .nil)))) ((gm.one.append (ge.one.append ge.one)).tup.mono (Nat.le_refl _) (by decide) (by decide))
 refine zz (decide_eq_false fun z=>r5 (V.int.inj z)) ⟨_,rfl,rfl,_,rfl,?_⟩
 by_cases r6:rd = 5
 ·refine zK (decide_eq_true (congrArg V.int r6)) ⟨_,rfl,_,rfl,_,rfl,b,_,rfl,hs4,fun p5 H5 g5 s5=>?_⟩
  refine ⟨_,rfl,_,rfl,_,_,rfl,rfl,_,rfl,b,_,rfl,g5.sqT hs4,fun p8 H8 g8 s8=>?_⟩
  refine ⟨p5,p8,_,_,rfl,rfl,g8.sqT s5,s8,Nat.le_of_lt (zn (by have:=cl none (some at4); have:=cl (some (at4 + 1)) none; omega)),fun p9 H9 g9 s9=>?_⟩
  have G9:Grow [a] He H9:=((g5.trans (g8.trans g9)).mono (by simp))
  exact q _ _ H9 (G4.trans G9) (pp4.grow (g5.trans (g8.trans g9))) (.tup s9 ((hds4.grow G9).cut.append (hds4.grow G9).cut)) ((gds.cut.append gds.cut).tup.mono (Nat.le_refl _) (by decide) (by decide))
 refine zz (decide_eq_false fun z=>r6 (V.int.inj z)) ⟨_,rfl,rfl,_,rfl,?_⟩
 by_cases r7:rd = 6
 ·refine zK (decide_eq_true (congrArg V.int r7)) ⟨_,rfl,b,_,rfl,.inr hs4,fun l5 h5 s5=>⟨_,rfl,szl rfl,fun t6 h6=>⟨_,rfl,szl rfl,fun l7 h7 s7=>?_⟩⟩⟩
  have d5:=Grow.new (m:=[]) h5 (.lst [V.int ai,x1,x2])
  have d6:=Grow.new (m:=[]) h6 (.tup [V.ref b])
  have d7:=Grow.new (m:=[]) h7 (.lst [V.ref b])
  have n5:l5 ∉ [a]:=fun z=>wG pp4 l5 z h5
  have pp6:=pp4.grow (d5.trans d6)
  have n7:l7 ∉ [a]:=fun z=>wG pp6 l7 z h7
  have e5:=(d6.trans d7).keep _ _ (by simp) (show upd He l5 (.lst [V.int ai,x1,x2]) l5 = _ from zd)
  have e6:=d7.sqT (K:=K) (SqT.of (show upd (upd He l5 (.lst [V.int ai,x1,x2])) t6 (.tup [V.ref b]) t6 = _ from zd))
  have e7:upd (upd (upd He l5 (.lst [V.int ai,x1,x2])) t6 (.tup [V.ref b])) l7 (.lst [V.ref b]) l7 = some (.lst [V.ref b]):=zd
  have G7:=d5.trans (d6.trans d7)
  generalize upd (upd (upd He l5 (.lst [V.int ai,x1,x2])) t6 (.tup [V.ref b])) l7 (.lst [V.ref b]) = H7 at e5 e6 e7 G7 ⊢
  clear d5 d6 d7 pp6
  refine ⟨_,rfl,szl rfl,fun t8 h8=>?_⟩
  have d8:=Grow.new (m:=[]) h8 (.tup [V.non])
  refine ⟨b,t8,_,_,rfl,rfl,(G7.trans d8).sqT hs4,SqT.of zd,szl rfl,fun p9 H9 g9 s9=>?_⟩
  have G9:=G7.trans (d8.trans g9)
  refine ⟨_,rfl,_,rfl,b,b,_,_,rfl,rfl,G9.sqT hs4,G9.sqT hs4,szl rfl,fun p10 H10 g10 s10=>⟨szl rfl,fun l11 h11=>?_⟩⟩
  have d11:=Grow.new (m:=[]) h11 (.lst [V.ref l5,V.ref t6,V.ref l7,V.ref p9,V.ref p10])
  have G11:=G9.trans (g10.trans d11)
  have f5:=(d8.trans (g9.trans (g10.trans d11))).keep _ _ (by simp) e5
  have f6:=(d8.trans (g9.trans (g10.trans d11))).sqT e6
  have f7:=(d8.trans (g9.trans (g10.trans d11))).keep _ _ (by simp) e7
  have f9:=(g10.trans d11).sqT s9
  have f10:=d11.sqT s10
  have f11:upd H10 l11 (.lst [V.ref l5,V.ref t6,V.ref l7,V.ref p9,V.ref p10]) l11 = some (.lst [V.ref l5,V.ref t6,V.ref l7,V.ref p9,V.ref p10]):=zd
  have n11:l11 ∉ [a]:=fun z=>wG (pp4.grow (G9.trans g10)) l11 z h11
  generalize upd H10 l11 (.lst [V.ref l5,V.ref t6,V.ref l7,V.ref p9,V.ref p10]) = H11 at G11 f5 f6 f7 f9 f10 f11 ⊢
  refine ⟨_,rfl,_,_,rfl,a,5,rfl,rfl,pp4.grow G11,by decide,by decide,fun j0 H12 l12 u12 g12 pp12=>?_⟩
  have G12:Grow [a] He H12:=(G11.mono (by simp)).trans g12
  obtain ⟨j,rfl⟩:∃ j:Nat,j0 = j:=⟨j0.toNat,by omega⟩
  have f11':=g12.keep _ _ n11 f11
  have t0:=hds4.grow G12
  have hb:=G12.sqT hs4
  have ob:Od K [a] H12 (.ref b) (.tuple [.int ai,l,u]):=.tup hb t0
  have gt:GdD (n + 1) 3 5772 (.tuple [.int ai,l,u]):=gds.tup
  have gdt:GdD (n + 1) 1 5772 (.tuple [.int ai,l,u]):=((Yq (k:=3) (w:=5772) gt el eu).tup)
  rcases (show j = 0 \/ j = 1 \/ j = 2 \/ j = 3 \/ j = 4 by omega) with rfl | rfl | rfl | rfl | rfl
  ·exact ⟨l11,_,_,_,rfl,rfl,SqL.of f11',ya (j:=0) rfl,q _ _ H12 (G4.trans G12) pp12 (.lst (g12.keep _ _ n5 f5) n5 s5 t0) (gds.lst.mono (Nat.le_refl _) (by decide) (by decide))⟩
  ·exact ⟨l11,_,_,_,rfl,rfl,SqL.of f11',ya (j:=1) rfl,q _ _ H12 (G4.trans G12) pp12 (.tup (g12.sqT f6) (.cons ob .nil)) (gdt.one.tup.mono (Nat.le_refl _) (by decide) (by decide))⟩
  ·exact ⟨l11,_,_,_,rfl,rfl,SqL.of f11',ya (j:=2) rfl,q _ _ H12 (G4.trans G12) pp12 (.lst (g12.keep _ _ n7 f7) n7 s7 (.cons ob .nil)) (gdt.one.lst.mono (Nat.le_refl _) (by decide) (by decide))⟩
  ·exact ⟨l11,_,_,_,rfl,rfl,SqL.of f11',ya (j:=3) rfl,q _ _ H12 (G4.trans G12) pp12 (.tup (g12.sqT f9) (t0.append (.cons .non .nil))) ((gds.append (show GdS (n + 1) 2 7 [.none] from ⟨rfl,by decide,by decide⟩)).tup.mono (Nat.le_refl _) (by decide) (by decide))⟩
  ·exact ⟨l11,_,_,_,rfl,rfl,SqL.of f11',ya (j:=4) rfl,q _ _ H12 (G4.trans G12) pp12 (.tup (g12.sqT f10) (t0.append t0)) ((gds.append gds).tup.mono (Nat.le_refl _) (by decide) (by decide))⟩
 refine zz (decide_eq_false fun z=>r7 (V.int.inj z)) ⟨_,rfl,rfl,_,rfl,?_⟩
 by_cases r8:rd = 7
 ·exact zK (decide_eq_true (congrArg V.int r8)) ⟨_,rfl,q _ _ _ G4 pp4 o4 (god.mono (Nat.le_refl _) (by decide) (by decide))⟩
 refine zz (decide_eq_false fun z=>r8 (V.int.inj z)) ⟨_,rfl,b,_,_,_,rfl,rfl,hs4,rfl,_,rfl,_,rfl,a,rfl,pp4,fun n1 H5 ln1 un1 g5 pp5=>⟨_,rfl,_,rfl,a,rfl,pp5,fun n2 H6 ln2 un2 g6 pp6=>⟨szl rfl,fun t7 h7=>?_⟩⟩⟩
 have d7:=Grow.new (m:=[]) h7 (.tup [V.int ai,V.int n1,V.int n2])
 have G7:Grow [a] He _:=g5.trans (g6.trans (d7.mono (by simp)))
 exact q _ _ _ (G4.trans G7) (pp6.grow d7) (.tup (SqT.of zd) (.cons (.int ai) (.cons (.int n1) (.cons (.int n2) .nil)))) ((ga.one.append (((wa (n:=n + 1) (i:=n1) (by omega) (by omega)).mono (Nat.le_refl _) (show 0 <= 2 by decide) (Nat.le_refl _)).one.append ((wa (n:=n + 1) (i:=n2) (by omega) (by omega)).mono (Nat.le_refl _) (show 0 <= 2 by decide) (Nat.le_refl _)).one)).tup.mono (Nat.le_refl _) (by decide) (by decide))
theorem yr:FnScope ["_law_pot_here","_law_road","_law_add","_law_one","_law_other"] ["_law_pot_here"] (zl (top 49)):=⟨rfl,rfl,rfl,by decide +kernel,rfl,by decide +kernel,by decide +kernel⟩
theorem rG (F:Fun K "_law_deed" "_law_deed" (top 49) f fd) (B:Blt mg) (qc0:zo P w K mg base n "_law_number" ["_law_pot_here"] (wB K)) (qc1:zo P w K mg base n "_law_take" ["_law_pot_here","_law_many"] (xp K))     :
  FnOk P w K mg base CX0 (n + 1) f fd ["_law_pot_here"] (Zw K):=by
 refine F.ok yr yb (fun cdv A outer s H vs Q E hr h=>?_)
 obtain ⟨x,rfl,a,rfl,hp,q⟩:=h
 refine ⟨_,(zf (zv (i:=1) yr.nd rfl (Or.inl rfl) (zj qc1 hr rfl (zc (pv 0) (zc zg ze)))) (zf (zv (i:=2) yr.nd rfl (Or.inl rfl) (zA yG (zj qc0 hr rfl (zc (pv 0) ze)) (yV wy rfl B.int rO (zc (xn rK (zj qc1 hr rfl (zc (pv 0) (zc zg ze))) zg (zu _)) ze)))) (zf (zv (i:=3) yr.nd rfl (Or.inl rfl) (zj qc0 hr rfl (zc (pv 0) ze))) (zf (zH (zm yg (pv 1) zg (zu _)) (zh (zr (z7 (zc (pv 2) (zc yt (zc yt ze)))))) zx) (zf (zH (zm vI (pv 1) zg (zu _)) (zh (zr (zQ zY (zJ (zc (z7 (zc (pv 2) (zc (pv 3) (zc yt ze)))) (zc (z7 (zc (pv 2) (zc yt (zc (pv 3) ze)))) ze))) (zA ww (pv 1) zg) (fun _ _=>rfl)))) zx) (zf (zv (i:=4) yr.nd rfl (Or.inl rfl) (zA y6 (pv 3) (zj qc1 hr rfl (zc (pv 0) (zc zg ze))))) (zf (zH (zm rK (pv 1) zg (zu _)) (zh (zv (i:=4) yr.nd rfl (Or.inl rfl) (zj qc0 hr rfl (zc (pv 0) ze)))) zx) (zh (zr (z7 (zc (zA yG (pv 2) (yV wy rfl B.int rO (zc (xn u5 (pv 3) (pv 4) (zu _)) ze))) (zc (zk (tZ rfl) rfl B.min WX (zc (pv 3) (zc (pv 4) ze))) (zc (zk (tY rfl) rfl B.max WW (zc (pv 3) (zc (pv 4) ze))) ze))))))))))))),?_⟩
 refine ⟨_,rfl,_,_,rfl,a,7,rfl,rfl,hp,by decide,by decide,fun r H1 r0 r1 g1 hp1=>?_⟩
 refine ⟨_,rfl,_,rfl,a,rfl,hp1,fun n1 H2 n10 n11 g2 hp2=>⟨_,rfl,_,_,rfl,a,4,rfl,rfl,hp2,by decide,by decide,fun k H3 k0 k1 g3 hp3=>?_⟩⟩
 have h01:=qN (decide (0 < k))
 refine ⟨_,_,rfl,rfl,.inr ⟨_,rfl,_,_,rfl,rfl,xg (by rcases h01 with e | e <;> rw [e] <;> exact ⟨by decide,by decide⟩),?_⟩⟩
 have sA:Sm (n1 * (if decide (0 < k) = true then 1 else 0)):=by
  rcases h01 with e | e <;> rw [e]
  ·rw [Int.mul_zero]; exact ⟨by decide,by decide⟩
  ·rw [Int.mul_one]; exact ⟨by omega,by omega⟩
 refine ⟨_,rfl,_,rfl,a,rfl,hp3,fun n2 H4 n20 n21 g4 hp4=>?_⟩
 have gr:Grow [a] H H4:=g1.trans (g2.trans (g3.trans g4))
 have s2:Sm n2:=⟨by omega,by omega⟩
 refine ⟨_,rfl,rfl,_,rfl,?_⟩
 refine ite2 (fun c=>?_) (fun c=>?_)
 ·refine ⟨_,rfl,szl rfl,fun t ht=>?_⟩
  exact q ⟨_,none,none⟩ _ _ ok_n (To sA) (gr.trans (Grow.new ht _)) (hp4.new ht _) ⟨t,rfl,SqT.of zd⟩
 refine ⟨_,rfl,_,_,rfl,rfl,_,rfl,?_⟩
 refine ite2 (fun c2=>?_) (fun c2=>?_)
 ·have c2':r < 3:=of_decide_eq_true c2
  have c':r ≠ 0:=fun z=>c (by rw [z]; rfl)
  refine ⟨_,rfl,_,rfl,szl rfl,fun t1 h1=>⟨_,rfl,_,rfl,szl rfl,fun t2 h2=>⟨szl rfl,fun l hl=>?_⟩⟩⟩
  have gA:=fun o=>gr.trans ((Grow.new h1 _).trans ((Grow.new h2 _).trans (Grow.new hl o)))
  have pA:=fun o=>((hp4.new h1 _).new h2 _).new hl o
  have:r = 1 \/ r = 2:=by omega
  rcases this with rfl | rfl
  ·refine ⟨_,rfl,_,_,rfl,rfl,l,_,_,_,rfl,rfl,SqL.of zd,rfl,?_⟩
   exact q ⟨_,some n2,none⟩ _ _ Ts (Tp sA s2) (gA _) (pA _) ⟨t1,rfl,((Grow.new (m:=[]) h2 _).trans (Grow.new hl _)).sqT (SqT.of zd)⟩
  ·refine ⟨_,rfl,_,_,rfl,rfl,l,_,_,_,rfl,rfl,SqL.of zd,rfl,?_⟩
   exact q ⟨_,none,some n2⟩ _ _ ok_n (Tq sA s2) (gA _) (pA _) ⟨t2,rfl,(Grow.new (m:=[]) hl _).sqT (SqT.of zd)⟩
 refine ⟨_,rfl,_,rfl,_,_,rfl,a,3,rfl,rfl,hp4,by decide,by decide,fun e3 H5 e0 e1 g5 hp5=>?_⟩
 refine ⟨_,_,rfl,rfl,?_⟩
 refine ⟨_,rfl,_,_,rfl,rfl,_,rfl,?_⟩
 refine ite2 (fun c3=>?_) (fun c3=>?_)
 ·refine ⟨_,rfl,_,rfl,a,rfl,hp5,fun n3 H6 n30 n31 g6 hp6=>?_⟩
  refine ⟨_,rfl,_,rfl,_,rfl,rfl,.inr ⟨_,rfl,_,_,rfl,rfl,xg ?_,_,rfl,_,rfl,_,_,rfl,_,rfl,_,rfl,_,_,rfl,szl rfl,fun t ht=>?_⟩⟩
  ·rcases qN (!decide (V.int n2 = V.int (n3))) with e | e <;> rw [e] <;> exact ⟨by decide,by decide⟩
  ·exact q ⟨_,_,_⟩ _ _ (Zx (n1 * (if decide (0 < k) = true then 1 else 0)) n2 (n3)) (sk sA ⟨by omega,by omega⟩ ⟨by omega,by omega⟩) ((gr.trans (g5.trans g6)).trans (Grow.new ht _)) (hp6.new ht _) ⟨t,rfl,SqT.of zd⟩
 ·refine ⟨_,rfl,_,rfl,_,rfl,rfl,.inr ⟨_,rfl,_,_,rfl,rfl,xg ?_,_,rfl,_,rfl,_,_,rfl,_,rfl,_,rfl,_,_,rfl,szl rfl,fun t ht=>?_⟩⟩
  ·rcases qN (!decide (V.int n2 = V.int (n2 + e3))) with e | e <;> rw [e] <;> exact ⟨by decide,by decide⟩
  ·exact q ⟨_,_,_⟩ _ _ (Zx (n1 * (if decide (0 < k) = true then 1 else 0)) n2 (n2 + e3)) (sk sA ⟨by omega,by omega⟩ ⟨by omega,by omega⟩) ((gr.trans g5).trans (Grow.new ht _)) (hp5.new ht _) ⟨t,rfl,SqT.of zd⟩
theorem xu:FnScope ["_law_pot_here","_law_found"] ["_law_pot_here"] (zl (top 59)):=⟨rfl,rfl,rfl,by decide +kernel,rfl,by decide +kernel,by decide +kernel⟩
theorem tU (F:Fun K "_law_thing" "_law_thing" (top 59) f fd) (B:Blt mg) (qc0:zo P w K mg base n "_law_take" ["_law_pot_here","_law_many"] (xp K)) (qc1:zo P w K mg base n "_law_spoilt" ["_law_pot_here","_law_deed_here"] (v8 K)) (qc2:zo P w K mg base n "_law_deed" ["_law_pot_here"] (Zw K))     :
  FnOk P w K mg base CX0 (n + 1) f fd ["_law_pot_here"] (uX K):=by
 refine F.ok xu yb (fun cdv A outer s H vs Q E hr h=>?_)
 obtain ⟨x,rfl,a,rfl,pp,q⟩:=h
 refine ⟨_,(zf (zv (i:=1) xu.nd rfl (Or.inl rfl) (zj qc2 hr rfl (zc (pv 0) ze))) (zf (zH (zm yg (zj qc0 hr rfl (zc (pv 0) (zc zg ze))) zg (zu _)) (zh (zv (i:=1) xu.nd rfl (Or.inl rfl) (zj qc1 hr rfl (zc (pv 0) (zc (pv 1) ze))))) zx) (zh (zr (pv 1))))),?_⟩
 refine ⟨_,rfl,_,rfl,a,rfl,pp,fun d0 y1 H1 ok0 sm0 g1 pp1 at1=>?_⟩
 refine ⟨_,rfl,_,_,rfl,a,2,rfl,rfl,pp1,by decide,by decide,fun t2 H2 l2 u2 g2 pp2=>?_⟩
 have o2:Od K [a] H2 y1 (dPy d0):=(Vo at1).grow g2
 refine ⟨rfl,_,rfl,?_⟩
 by_cases ht:t2 = 1
 ·exact zK (decide_eq_true (congrArg V.int ht)) ⟨_,rfl,_,rfl,_,_,rfl,a,dPy d0,0,1,5772,rfl,pp2,o2,(by rw [XV]; exact ve ok0),Ww sm0,by decide,fun z d' H3 g3 pp3 o3 gd3=>⟨_,rfl,q _ d' H3 (g1.trans (g2.trans g3)) pp3 o3 gd3⟩⟩
 ·exact zz (decide_eq_false fun z=>ht (V.int.inj z)) ⟨_,rfl,q _ _ H2 (g1.trans g2) pp2 o2 ((Ww sm0).mono (by decide) (by decide) (by decide))⟩
theorem xj:FnScope ["_law_pot_here","_law_some"] ["_law_pot_here"] (zl (top 55)):=⟨rfl,rfl,rfl,by decide +kernel,rfl,by decide +kernel,by decide +kernel⟩
theorem vf (F:Fun K "_law_no_number" "_law_no_number" (top 55) f fd) (B:Blt mg) (qc0:zo P w K mg base n "_law_take" ["_law_pot_here","_law_many"] (xp K))     :
  FnOk P w K mg base CX0 (n + 1) f fd ["_law_pot_here"] (uW K):=by
 refine F.ok xj yb (fun cdv A outer s H vs Q E hr h=>?_)
 obtain ⟨x,rfl,a,rfl,pp,q⟩:=h
 refine ⟨_,(@zf _ _ _ _ _ (@zv _ _ 1 _ _ _ _ xj.nd rfl (Or.inl rfl) (@sK _ K _ _ _ _ (@zw _ _ _ _ _ _ _ jb (@zw _ _ _ _ _ _ _ Xw (@zw _ _ _ _ _ _ _ Xw (@zw _ _ _ _ _ _ _ v5 (@zw _ _ _ _ _ _ _ v5 (@zw _ _ _ _ _ _ _ (@sJ _ _ _ _ _ _ _ (@zw _ _ _ _ _ _ _ v3 xc (by first | rfl | decide | exact Or.inl rfl | exact Or.inr rfl | exact Or.inr (Or.inl rfl) | exact Or.inr (Or.inr rfl) | exact fun _=>rfl | exact Nat.le_of_ble_eq_true rfl)) (by first | rfl | decide | exact Or.inl rfl | exact Or.inr rfl | exact Or.inr (Or.inl rfl) | exact Or.inr (Or.inr rfl) | exact fun _=>rfl | exact Nat.le_of_ble_eq_true rfl)) (@zw _ _ _ _ _ _ _ (@sK _ _ _ _ _ _ (@zw _ _ _ _ _ _ _ v3 xc (by first | rfl | decide | exact Or.inl rfl | exact Or.inr rfl | exact Or.inr (Or.inl rfl) | exact Or.inr (Or.inr rfl) | exact fun _=>rfl | exact Nat.le_of_ble_eq_true rfl)) (by first | rfl | decide | exact Or.inl rfl | exact Or.inr rfl | exact Or.inr (Or.inl rfl) | exact Or.inr (Or.inr rfl) | exact fun _=>rfl | exact Nat.le_of_ble_eq_true rfl)) (@zw _ _ _ _ _ _ _ Yn (@zw _ _ _ _ _ _ _ (@sJ _ _ _ _ _ _ _ (@zw _ _ _ _ _ _ _ v3 (@zw _ _ _ _ _ _ _ jb (@zw _ _ _ _ _ _ _ jb xc (by first | rfl | decide | exact Or.inl rfl | exact Or.inr rfl | exact Or.inr (Or.inl rfl) | exact Or.inr (Or.inr rfl) | exact fun _=>rfl | exact Nat.le_of_ble_eq_true rfl)) (by first | rfl | decide | exact Or.inl rfl | exact Or.inr rfl | exact Or.inr (Or.inl rfl) | exact Or.inr (Or.inr rfl) | exact fun _=>rfl | exact Nat.le_of_ble_eq_true rfl)) (by first | rfl | decide | exact Or.inl rfl | exact Or.inr rfl | exact Or.inr (Or.inl rfl) | exact Or.inr (Or.inr rfl) | exact fun _=>rfl | exact Nat.le_of_ble_eq_true rfl)) (by first | rfl | decide | exact Or.inl rfl | exact Or.inr rfl | exact Or.inr (Or.inl rfl) | exact Or.inr (Or.inr rfl) | exact fun _=>rfl | exact Nat.le_of_ble_eq_true rfl)) xc (by first | rfl | decide | exact Or.inl rfl | exact Or.inr rfl | exact Or.inr (Or.inl rfl) | exact Or.inr (Or.inr rfl) | exact fun _=>rfl | exact Nat.le_of_ble_eq_true rfl)) vZ) (by first | rfl | decide | exact Or.inl rfl | exact Or.inr rfl | exact Or.inr (Or.inl rfl) | exact Or.inr (Or.inr rfl) | exact fun _=>rfl | exact Nat.le_of_ble_eq_true rfl)) (by first | rfl | decide | exact Or.inl rfl | exact Or.inr rfl | exact Or.inr (Or.inl rfl) | exact Or.inr (Or.inr rfl) | exact fun _=>rfl | exact Nat.le_of_ble_eq_true rfl)) (by first | rfl | decide | exact Or.inl rfl | exact Or.inr rfl | exact Or.inr (Or.inl rfl) | exact Or.inr (Or.inr rfl) | exact fun _=>rfl | exact Nat.le_of_ble_eq_true rfl)) (by first | rfl | decide | exact Or.inl rfl | exact Or.inr rfl | exact Or.inr (Or.inl rfl) | exact Or.inr (Or.inr rfl) | exact fun _=>rfl | exact Nat.le_of_ble_eq_true rfl)) (by first | rfl | decide | exact Or.inl rfl | exact Or.inr rfl | exact Or.inr (Or.inl rfl) | exact Or.inr (Or.inr rfl) | exact fun _=>rfl | exact Nat.le_of_ble_eq_true rfl)) (by first | rfl | decide | exact Or.inl rfl | exact Or.inr rfl | exact Or.inr (Or.inl rfl) | exact Or.inr (Or.inr rfl) | exact fun _=>rfl | exact Nat.le_of_ble_eq_true rfl)) (by first | rfl | decide | exact Or.inl rfl | exact Or.inr rfl | exact Or.inr (Or.inl rfl) | exact Or.inr (Or.inr rfl) | exact fun _=>rfl | exact Nat.le_of_ble_eq_true rfl)) (by first | rfl | decide | exact Or.inl rfl | exact Or.inr rfl | exact Or.inr (Or.inl rfl) | exact Or.inr (Or.inr rfl) | exact fun _=>rfl | exact Nat.le_of_ble_eq_true rfl)) (by first | rfl | decide | exact Or.inl rfl | exact Or.inr rfl | exact Or.inr (Or.inl rfl) | exact Or.inr (Or.inr rfl) | exact fun _=>rfl | exact Nat.le_of_ble_eq_true rfl) (by first | rfl | decide | exact Or.inl rfl | exact Or.inr rfl | exact Or.inr (Or.inl rfl) | exact Or.inr (Or.inr rfl) | exact fun _=>rfl | exact Nat.le_of_ble_eq_true rfl)) (@zh _ _ _ (@zr _ _ _ _ (@zQ _ _ _ _ _ _ _ zY (pv 1) (@zj _ _ _ _ _ _ _ _ _ _ qc0 hr rfl (@zc _ _ _ _ _ (pv 0) (@zc _ _ _ _ _ (@zk _ _ _ _ _ _ _ _ _ zW rfl B.len uo (@zc _ _ _ _ _ (pv 1) ze (by first | rfl | decide | exact Or.inl rfl | exact Or.inr rfl | exact Or.inr (Or.inl rfl) | exact Or.inr (Or.inr rfl) | exact fun _=>rfl | exact Nat.le_of_ble_eq_true rfl)) (by first | rfl | decide | exact Or.inl rfl | exact Or.inr rfl | exact Or.inr (Or.inl rfl) | exact Or.inr (Or.inr rfl) | exact fun _=>rfl | exact Nat.le_of_ble_eq_true rfl) (by first | rfl | decide | exact Or.inl rfl | exact Or.inr rfl | exact Or.inr (Or.inl rfl) | exact Or.inr (Or.inr rfl) | exact fun _=>rfl | exact Nat.le_of_ble_eq_true rfl) (by first | rfl | decide | exact Or.inl rfl | exact Or.inr rfl | exact Or.inr (Or.inl rfl) | exact Or.inr (Or.inr rfl) | exact fun _=>rfl | exact Nat.le_of_ble_eq_true rfl) (by first | rfl | decide | exact Or.inl rfl | exact Or.inr rfl | exact Or.inr (Or.inl rfl) | exact Or.inr (Or.inr rfl) | exact fun _=>rfl | exact Nat.le_of_ble_eq_true rfl)) ze (by first | rfl | decide | exact Or.inl rfl | exact Or.inr rfl | exact Or.inr (Or.inl rfl) | exact Or.inr (Or.inr rfl) | exact fun _=>rfl | exact Nat.le_of_ble_eq_true rfl)) (by first | rfl | decide | exact Or.inl rfl | exact Or.inr rfl | exact Or.inr (Or.inl rfl) | exact Or.inr (Or.inr rfl) | exact fun _=>rfl | exact Nat.le_of_ble_eq_true rfl)) (by first | rfl | decide | exact Or.inl rfl | exact Or.inr rfl | exact Or.inr (Or.inl rfl) | exact Or.inr (Or.inr rfl) | exact fun _=>rfl | exact Nat.le_of_ble_eq_true rfl) (by first | rfl | decide | exact Or.inl rfl | exact Or.inr rfl | exact Or.inr (Or.inl rfl) | exact Or.inr (Or.inr rfl) | exact fun _=>rfl | exact Nat.le_of_ble_eq_true rfl) (by first | rfl | decide | exact Or.inl rfl | exact Or.inr rfl | exact Or.inr (Or.inl rfl) | exact Or.inr (Or.inr rfl) | exact fun _=>rfl | exact Nat.le_of_ble_eq_true rfl)) (fun _ _=>rfl))))),?_⟩
 refine ⟨[a],trivial,wG pp,fun x1 H1 g1 o1=>?_⟩
 obtain ⟨l1,xs1,rfl,hl1,n1,s1,t1⟩:=o1.inv_lst
 have pp1:=pp.grow g1
 have e1:=t1.length
 refine ⟨_,rfl,_,rfl,_,rfl,l1,_,rfl,.inl (SqL.of hl1),_,_,rfl,a,_,rfl,rfl,pp1,by rw [e1]; decide,by rw [e1]; decide,fun n4 H4 u4 v4 g4 pp4=>?_⟩
 obtain ⟨j,rfl⟩:∃ j:Nat,n4 = j:=⟨n4.toNat,by omega⟩
 obtain ⟨x4,hx4⟩:∃ x,xs1[j]? = some x:=⟨_,List.getElem?_eq_getElem (by omega)⟩
 obtain ⟨d4,hd4,o4⟩:=t1.get hx4
 refine ⟨l1,_,j,x4,rfl,rfl,SqL.of (g4.keep _ _ n1 hl1),ya hx4,q _ d4 H4 (List.mem_of_getElem? (l:=qz) hd4) ((g1.mono (by simp)).trans g4) pp4 (o4.grow g4)⟩
theorem wu:FnScope ["_law_script","_law_k","_law_cell","_law_seed"] ["_law_script","_law_k"] (zl (top 46)):=⟨rfl,rfl,rfl,by decide +kernel,rfl,by decide +kernel,by decide +kernel⟩
theorem qF (F:Fun K "_law_pot" "_law_pot" (top 46) f fd) (B:Blt mg)      :
  FnOk P w K mg base CX0 (n + 1) f fd ["_law_script","_law_k"] (Wf K):=by
 refine F.ok wu xF (fun cdv A outer s H vs Q E hr h=>?_)
 obtain ⟨x,y,rfl,a,ns,k,rfl,rfl,hs,k0,k1,q⟩:=h
 refine ⟨_,(zf (zv (i:=2) wu.nd rfl (Or.inl rfl) (zX (zm vI (pv 1) (zk zW rfl B.len uo (zc (pv 0) ze)) (zu _)) (zQ zY (pv 0) (pv 1) (fun _ _=>rfl)) zg)) (zf (zv (i:=3) wu.nd rfl (Or.inl rfl) (zA y6 (zA y6 (zA yG (zA vH (zk wx rfl B.abs Zu (zc (pv 2) ze)) zg) (zQ zY (zJ (zc zg (zc zg (zc zg (zc zg (zc zg (zc zg (zc zg ze)))))))) (zA vH (pv 1) zg) (fun _ _=>rfl))) (zA yG zg (pv 1))) zg)) (zh (zr (zJ (zc (zk (tY rfl) rfl B.max WW (zc zg (zc (zA ww (zk wx rfl B.abs Zu (zc (pv 2) ze)) (zA uz zg zg)) ze))) (zc (pv 3) ze))))))),?_⟩
 obtain ⟨v7,hat7,v0,v1⟩:∃ v:Int,atI [V.int 3,.int 5,.int 11,.int 17,.int 29,.int 37,.int 41] (k % 7) = some (.int v) /\ 0 < v /\ v < 100:=by
  have:k % 7 = 0 \/ k % 7 = 1 \/ k % 7 = 2 \/ k % 7 = 3 \/ k % 7 = 4 \/ k % 7 = 5 \/ k % 7 = 6:=by omega
  rcases this with e | e | e | e | e | e | e <;> rw [e] <;> exact ⟨_,rfl,by decide,by decide⟩
 refine ⟨_,rfl,_,rfl,a,_,rfl,.inl hs.sq,_,_,rfl,rfl,_,rfl,?_⟩
 refine ite2 (fun c=>?_) (fun c=>?_)
 ·have c':k < ((ns.map V.int).length:Int):=of_decide_eq_true c
  rw [List.length_map] at c'
  have hk:k.toNat < ns.length:=by omega
  have ek:k = ((k.toNat:Nat):Int):=by omega
  have hat:atI (ns.map V.int) k = some (.int ns[k.toNat]):=by
   have z:atI (ns.map V.int) ((k.toNat:Nat):Int) = some (.int ns[k.toNat]):=ya (by rw [List.getElem?_map,List.getElem?_eq_getElem hk]; rfl)
   rw [← ek] at z; exact z
  refine ⟨_,rfl,_,rfl,a,_,_,_,rfl,rfl,hs.sq,hat,?_⟩
  refine ⟨_,rfl,_,rfl,_,_,rfl,rfl,(by show (0:Int) < 2147483629; decide),by decide,fun l hl=>?_⟩
  refine ⟨_,rfl,_,_,rfl,rfl,(by show (0:Int) < 7; decide),l,_,_,_,rfl,rfl,SqL.of zd,hat7,?_⟩
  refine ⟨_,_,rfl,rfl,xg ⟨by omega,by omega⟩,_,rfl,_,_,rfl,rfl,xg ⟨by omega,by omega⟩,_,_,rfl,rfl,_,_,rfl,rfl,?_⟩
  refine ⟨_,rfl,_,rfl,_,_,rfl,rfl,⟨by decide,by decide,by decide⟩,_,_,rfl,rfl,_,_,rfl,_,rfl,szl rfl,fun p hp=>?_⟩
  refine q p _ ((Grow.new (m:=[]) hl _).free (by simp) hp) ((Grow.new hl _).trans (Grow.new hp _)) ⟨_,_,zd,?_⟩
  split <;> omega
 ·refine ⟨_,rfl,_,rfl,_,_,rfl,rfl,(by show (0:Int) < 2147483629; decide),by decide,fun l hl=>?_⟩
  refine ⟨_,rfl,_,_,rfl,rfl,(by show (0:Int) < 7; decide),l,_,_,_,rfl,rfl,SqL.of zd,hat7,?_⟩
  refine ⟨_,_,rfl,rfl,xg ⟨by omega,by omega⟩,_,rfl,_,_,rfl,rfl,xg ⟨by omega,by omega⟩,_,_,rfl,rfl,_,_,rfl,rfl,?_⟩
  refine ⟨_,rfl,_,rfl,_,_,rfl,rfl,⟨by decide,by decide,by decide⟩,_,_,rfl,rfl,_,_,rfl,_,rfl,szl rfl,fun p hp=>?_⟩
  refine q p _ ((Grow.new (m:=[]) hl _).free (by simp) hp) ((Grow.new hl _).trans (Grow.new hp _)) ⟨_,_,zd,?_⟩
  split <;> omega
theorem xK:FnScope ["_law_script","_law_k","_law_pot_here","_law_value","_law_many","_law_text","_law_things","_law_kept","_law_number_here"] ["_law_script"] (zl (top 61)):=⟨rfl,rfl,rfl,by decide +kernel,rfl,by decide +kernel,by decide +kernel⟩
theorem Tc (F:Fun K "law" "law" (top 61) f fd) (B:Blt mg) (qc0:zo P w K mg base n "_law_made" ["_law_pot_here"] (rn K)) (qc1:zo P w K mg base n "_law_asked" ["_law_number_here","_law_things"] (xV K)) (qc2:zo P w K mg base n "_law_due" ["_law_number_here","_law_things"] (xV K)) (qc3:zo P w K mg base n "_law_thing" ["_law_pot_here"] (uX K)) (qc4:zo P w K mg base n "_law_take" ["_law_pot_here","_law_many"] (xp K)) (qc5:zo P w K mg base n "_law_no_number" ["_law_pot_here"] (uW K)) (qc6:zo P w K mg base n "_law_number" ["_law_pot_here"] (wB K)) (qc7:zo P w K mg base n "_law_pot" ["_law_script","_law_k"] (Wf K))     :
  FnOk P w K mg base CX0 (n + 1) f fd ["_law_script"] (qO K):=by
 refine F.ok xK yb (fun cdv A outer s H vs Q E hr h=>?_)
 obtain ⟨x,rfl,a,ns,rfl,hs,h63,q⟩:=h
 refine ⟨_,(zf (Zj PassesOwn.never rfl (xC rfl B.range (zc (zA y6 (zk (tZ rfl) rfl B.min WX (zc (zk zW rfl B.len uo (zc (pv 0) ze)) (zc zg ze))) zg) ze)) (zy (i:=1) xK.nd rfl (Or.inl rfl)) (zf (zv (i:=2) xK.nd rfl (Or.inr rfl) (zj qc7 hr rfl (zc (pv 0) (zc (pv 1) ze)))) (zf (zv (i:=3) xK.nd rfl (Or.inl rfl) (zX (zm yg (zj qc4 hr rfl (zc (pv 2) (zc zg ze))) zg (zu _)) (zj qc5 hr rfl (zc (pv 2) ze)) (zj qc6 hr rfl (zc (pv 2) ze)))) (zf (zv (i:=4) xK.nd rfl (Or.inl rfl) (zk wx rfl B.abs Zu (zc (zj qc6 hr rfl (zc (pv 2) ze)) ze))) (zf (zH (zm yg (zj qc4 hr rfl (zc (pv 2) (zc zg ze))) zg (zu _)) (zh (zv (i:=4) xK.nd rfl (Or.inl rfl) (zQ zY (zJ (zc (zj qc5 hr rfl (zc (pv 2) ze)) (zc (zA ww (WP Zk zg) (pv 4)) ze))) (zj qc4 hr rfl (zc (pv 2) (zc zg ze))) (fun _ _=>rfl)))) zx) (zf (zv (i:=5) xK.nd rfl (Or.inl rfl) (u7 PySem.F.plainAttrs_str PySem.F.slot_str_join PySem.F.type_str_join qi zM (zc (xP (CSc.of (N':=["_law_j","_law_pot_here"]) (sub:=[none,some 2]) (zl (top 61)) ["_law_script","_law_k","_law_pot_here","_law_value","_law_many","_law_text","_law_things","_law_kept","_law_number_here"] rfl rfl (by decide +kernel) rfl) rfl (xC rfl B.range (zc (zj qc4 hr rfl (zc (pv 2) (zc zg ze))) ze)) (fun _ _ _ _ _ _=>zy (i:=0) (show (["_law_j","_law_pot_here"]:List Str).Nodup by decide +kernel) rfl (Or.inl rfl)) (fun _ _ _ _ _ _=>xO) (fun _ _ _ _ _ _=>(zQ qK zM (zj qc4 hr rfl (zc (pv 1) (zc zg ze))) (fun _ _=>rfl)))) ze))) (zf (zv (i:=5) xK.nd rfl (Or.inl rfl) (zQ zY (zJ (zc (zA yE (pv 5) zM) (zc yt (zc zg (zc (z7 (zc (pv 5) ze)) (zc (qg (zc zM ze)) (zc vq ze))))))) (zA qM (zj qc4 hr rfl (zc (pv 2) (zc zg ze))) zg) (fun _ _=>rfl))) (zf (zv (i:=6) xK.nd rfl (Or.inl rfl) (z7 (zc (zj qc3 hr rfl (zc (pv 2) ze)) (zc (zj qc3 hr rfl (zc (pv 2) ze)) (zc (pv 3) (zc (pv 4) (zc (pv 5) ze))))))) (zf (zv (i:=7) xK.nd rfl (Or.inl rfl) (zk (uM (K:=K) rfl hr) rfl B.repr Wd (zc (pv 6) ze))) (zf (Zj PassesOwn.never rfl (xC rfl B.range (zc zg ze)) (zy (i:=8) xK.nd rfl (Or.inl rfl)) (zh (zH (zm (Ui hr) (zj qc1 hr rfl (zc (pv 8) (zc (pv 6) ze))) (zj qc2 hr rfl (zc (pv 8) (zc (pv 6) ze))) (zu _)) (zh (zr vq)) zx))) (zh (zH (PW.pt (wP (zm u5 (zk (uM (K:=K) rfl hr) rfl B.repr Wd (zc (pv 6) ze)) (pv 7) (zu _)) (xv (yC (yd (zj qc0 hr rfl (zc (pv 2) ze))))))) (zh (zr vq)) zx)))))))))))) (zh (zr vq))),?_⟩
 have hl:(ns.map V.int).length = ns.length:=List.length_map ..
 refine ⟨_,rfl,a,_,rfl,.inl hs.sq,_,_,rfl,_,_,rfl,rfl,_,rfl,?_,?_,?_⟩
 ·split <;> omega
 ·rw [hl]; split <;> omega
 refine tX (fun i σ H'=>∃ (e1 e2 e3 e4 e5 e6 e7 e8:Option V),σ = [some (.ref a),e1,e2,e3,e4,e5,e6,e7,e8] /\ Grow [] H H') ⟨_,_,_,_,_,_,_,_,rfl,Grow.refl _ _⟩ ?_ ?_
 rotate_left
 ·rintro σ H1 ⟨e1,e2,e3,e4,e5,e6,e7,e8,rfl,g⟩
  exact q _
 rintro i σ H1 hi ⟨e1,e2,e3,e4,e5,e6,e7,e8,rfl,g⟩
 have i63:i < 1000:=by
  have hi':=hi
  revert hi'
  split <;> omega
 try dsimp only
 refine yo (fun v H'=>∃ p,v = .ref p /\ H1 p = none /\ Grow [] H1 H' /\ Pot H' p) (fun Kk hk=>⟨_,rfl,_,rfl,_,_,rfl,a,ns,_,rfl,rfl,g.scr hs,by omega,by omega,fun p H2 hp g2 pp=>hk _ _ ⟨p,rfl,hp,g2,pp⟩⟩) ?_
 rintro _ H2 ⟨p,rfl,np,g2,pp2⟩
 refine yo (fun v H'=>∃ d,Od K [p] H' v d /\ GdD 1 3 30000 d /\ Grow [p] H2 H' /\ Pot H' p) (fun Kk hk=>⟨_,rfl,_,_,rfl,p,3,rfl,rfl,pp2,by decide,by decide,fun n H' n0 n1 g pp'=>⟨rfl,_,rfl,?_⟩⟩) ?_
 ·by_cases n2:n = 2
  ·exact zK (decide_eq_true (congrArg V.int n2)) ⟨_,rfl,_,rfl,p,rfl,pp',fun y d H3 hd g3 pp3 o3=>hk _ _ ⟨d,o3,vF hd,g.trans g3,pp3⟩⟩
  ·exact zz (decide_eq_false fun z=>n2 (V.int.inj z)) ⟨_,rfl,_,rfl,p,rfl,pp',fun k H3 k0 k1 g3 pp3=>hk _ _ ⟨.int k,.int _,vG (by omega) (by omega),g.trans g3,pp3⟩⟩
 rintro x3 H3 ⟨d3,o3,gd3,g3,pp3⟩
 refine yo (fun v H'=>∃ k:Int,v = .int k /\ 0 <= k /\ k < 10 ^ 29 /\ Grow [p] H3 H' /\ Pot H' p) (fun Kk hk=>⟨_,rfl,_,rfl,p,rfl,pp3,fun k H' k0 k1 g pp'=>⟨_,rfl,hk _ _ ⟨_,rfl,by split <;> omega,by split <;> omega,g,pp'⟩⟩⟩) ?_
 rintro _ H4 ⟨k,rfl,k0,k1,g4,pp4⟩
 refine c_if (fun σ' H'=>∃ v d,σ' = [some (.ref a),some (.int (0 + (i:Int))),some (.ref p),some x3,some v,e5,e6,e7,e8] /\ Od K [p] H' v d /\ GdD 1 3 30000 d /\ Grow [p] H4 H' /\ Pot H' p) ?_ (fun hk=>?_)
 rotate_left
 ·refine ⟨_,rfl,_,_,rfl,p,3,rfl,rfl,pp4,by decide,by decide,fun n H' n0 n1 g pp'=>⟨rfl,_,rfl,?_⟩⟩
  by_cases n2:n = 2
  ·refine zK (decide_eq_true (congrArg V.int n2)) ?_
   refine ⟨_,rfl,_,rfl,p,rfl,pp',fun y d H5 hd g5 pp5 o5=>?_⟩
   refine ⟨1,rfl,_,rfl,_,_,rfl,rfl,szl rfl,fun l hl5=>?_⟩
   have gl:=Grow.new (m:=[]) hl5 (.lst [y,V.int (-1 - k)])
   have hll:upd H5 l (.lst [y,V.int (-1 - k)]) l = some (.lst [y,V.int (-1 - k)]):=zd
   have hlp:l ∉ [p]:=fun z=>wG pp5 l z hl5
   generalize upd H5 l _ = H6 at gl hll ⊢
   refine ⟨_,rfl,_,_,rfl,p,2,rfl,rfl,pp5.grow gl,by decide,by decide,fun j H7 j0 j1 g7 pp7=>?_⟩
   have gg:=g.trans (g5.trans (gl.wk.trans g7))
   rcases (by omega:j = 0 \/ j = 1) with rfl | rfl
   ·exact ⟨l,_,0,y,rfl,rfl,SqL.of (g7.keep _ _ hlp hll),rfl,hk _ _ ⟨y,d,rfl,(o5.grow gl.wk).grow g7,vF hd,gg,pp7⟩⟩
   ·exact ⟨l,_,1,_,rfl,rfl,SqL.of (g7.keep _ _ hlp hll),rfl,hk _ _ ⟨_,.int (-1 - k),rfl,.int _,vG (by omega) (by omega),gg,pp7⟩⟩
  ·exact zz (decide_eq_false fun z=>n2 (V.int.inj z)) (hk _ _ ⟨_,.int k,rfl,.int _,vG (by omega) (by omega),g,pp'⟩)
 rintro _ H5 ⟨x4,d4,rfl,o4,gd4,g5,pp5⟩
 refine yo (fun v H'=>∃ w,v = .str w /\ T19 41 w /\ Grow [p] H5 H' /\ Pot H' p) (fun Kk hk=>⟨rfl,_,rfl,_,_,rfl,p,41,rfl,rfl,pp5,by decide,by decide,fun t H6 t0 t1 g6 pp6=>⟨t,rfl,by omega,by omega,qT (fun i ys H'=>Grow [p] H6 H' /\ Pot H' p /\ ∃ cs:List Nat,ys = (os17 cs).map V.str /\ cs.length = i /\ ∀ c ∈ cs,c < 128) ⟨Grow.refl _ _,pp6,[],rfl,rfl,(fun c h=>by cases h)⟩ ?_ ?_⟩⟩) ?_
 ·rintro j ys H7 hj ⟨g7,pp7,cs,rfl,hcl,hc⟩
  refine ⟨_,rfl,_,_,rfl,p,28,rfl,rfl,pp7,by decide,by decide,fun m H8 m0 m1 g8 pp8=>?_⟩
  obtain ⟨m,rfl⟩:∃ m':Nat,m = m':=⟨m.toNat,by omega⟩
  obtain ⟨c,hcc⟩:∃ c,(Str.ofString "abcdefghij klmnopqrstuvwxyz0").cps.toList[m]? = some c:=⟨_,List.getElem?_eq_getElem (by rw [YZ]; omega)⟩
  refine ⟨_,m,c,rfl,rfl,by decide,ya hcc,zn (by rw [List.length_map,os17,List.length_map,hcl]; omega),g7.trans g8,pp8,cs ++ [c],?_,by rw [List.length_append,hcl]; rfl,fun c' h=>?_⟩
  ·rw [os17,os17,List.map_append,List.map_append]; rfl
  ·rcases List.mem_append.mp h with h | h
   ·exact hc c' h
   ·rw [List.mem_singleton.mp h]; exact T8 c (List.mem_of_getElem? hcc)
 ·rintro ys H7 ⟨g7,pp7,cs,rfl,hcl,hc⟩ l hl7
  exact ⟨_,l,os17 cs,rfl,rfl,SqL.of zd,T6 (by omega),hk _ _ ⟨_,rfl,XX hc (by omega),g6.trans (g7.trans (Grow.new hl7 _)),pp7.grow (Grow.new hl7 _)⟩⟩
 rintro _ H6 ⟨w,rfl,Tw,g6,pp6⟩
 have wl:=Tw.len
 refine yo (fun v H'=>∃ d,Od K [p] H' v d /\ Txt17 d /\ Grow [p] H6 H' /\ Pot H' p) (fun Kk hk=>⟨_,rfl,_,_,rfl,rfl,Tb wl,_,rfl,szl rfl,fun t1 ht1=>⟨szl rfl,fun l2 hl2 ns2=>⟨szl rfl,fun l3 hl3=>?_⟩⟩⟩) ?_
 ·have ga:=Grow.new (m:=[]) ht1 (.tup [V.str w])
  have h1:upd H6 t1 (.tup [V.str w]) t1 = some (.tup [V.str w]):=zd
  have gb:=Grow.new (m:=[]) hl2 (.lst [V.str (Str.ofString "look")])
  have h2:upd (upd H6 t1 (.tup [V.str w])) l2 (.lst [V.str (Str.ofString "look")]) l2 = some (.lst [V.str (Str.ofString "look")]):=zd
  have gc:=Grow.new (m:=[]) hl3 (.lst [V.str (w ++ Str.ofString "q"),.non,.int 7,.ref t1,.ref l2,.bl true])
  have h3:upd (upd (upd H6 t1 (.tup [V.str w])) l2 (.lst [V.str (Str.ofString "look")])) l3 (.lst [V.str (w ++ Str.ofString "q"),.non,.int 7,.ref t1,.ref l2,.bl true]) l3 = some (.lst [V.str (w ++ Str.ofString "q"),.non,.int 7,.ref t1,.ref l2,.bl true]):=zd
  have n2:l2 ∉ [p]:=fun z=>wG (pp6.grow ga) l2 z hl2
  have n3:l3 ∉ [p]:=fun z=>wG (pp6.grow (ga.trans gb)) l3 z hl3
  have h1':=(gb.trans gc).keep _ _ (by simp) h1
  have h2':=gc.keep _ _ (by simp) h2
  have gg:=ga.trans (gb.trans gc)
  have n1:t1 ∉ [p]:=fun z=>wG pp6 t1 z ht1
  clear h1 h2
  generalize upd (upd (upd H6 t1 _) l2 _) l3 _ = H7 at h3 h1' h2' gg ⊢
  refine ⟨_,rfl,_,_,rfl,p,12,rfl,rfl,pp6.grow gg,by decide,by decide,fun j H9 j0 j1 g9 pp9=>⟨_,_,rfl,rfl,⟨by decide,by decide⟩,?_⟩⟩
  have sq:=SqL.of (K:=K) (g9.keep _ _ n3 h3)
  have G:=gg.wk.trans g9
  have gdl:GdD 1 3 30000 (.list [.str (Str.ofString "look")]):=⟨by decide +kernel,by decide +kernel,by decide +kernel⟩
  rcases (by omega:j / 2 = 0 \/ j / 2 = 1 \/ j / 2 = 2 \/ j / 2 = 3 \/ j / 2 = 4 \/ j / 2 = 5) with e | e | e | e | e | e
  ·exact ⟨l3,_,0,_,rfl,congrArg V.int e,sq,rfl,hk _ _ ⟨_,.str _,T7 Tw,G,pp9⟩⟩
  ·exact ⟨l3,_,1,_,rfl,congrArg V.int e,sq,rfl,hk _ _ ⟨_,.non,xJ rfl (vF (by simp [qz])),G,pp9⟩⟩
  ·exact ⟨l3,_,2,_,rfl,congrArg V.int e,sq,rfl,hk _ _ ⟨_,.int _,xJ rfl (vG (by decide) (by decide)),G,pp9⟩⟩
  ·exact ⟨l3,_,3,_,rfl,congrArg V.int e,sq,rfl,hk _ _ ⟨_,.tup (SqT.of (g9.keep _ _ n1 h1')) (.cons (.str _) .nil),xJ rfl (XY Tw),G,pp9⟩⟩
  ·exact ⟨l3,_,4,_,rfl,congrArg V.int e,sq,rfl,hk _ _ ⟨_,.lst (g9.keep _ _ n2 h2') n2 ns2 (.cons (.str _) .nil),xJ rfl gdl,G,pp9⟩⟩
  ·exact ⟨l3,_,5,_,rfl,congrArg V.int e,sq,rfl,hk _ _ ⟨_,.bl _,xJ rfl (vF (by simp [qz])),G,pp9⟩⟩
 rintro x5 H7 ⟨d5,o5,tx5,g7,pp7⟩
 have o3':=o3.grow (g4.trans (g5.trans (g6.trans g7)))
 have o4':=o4.grow (g6.trans g7)
 have G7:Grow [p] H1 H7:=g2.wk.trans (g3.trans (g4.trans (g5.trans (g6.trans g7))))
 clear g2 g3 g4 g5 g6 g7 o3 o4 pp2 pp3 pp4 pp5 pp6
 refine yo (fun v H'=>∃ d1 d2,Od K [p] H' v (.tuple [d1,d2,d3,d4,d5]) /\ Th17 d1 d2 d3 d4 d5 /\ Grow [p] H7 H' /\ Pot H' p) (fun Kk hk=>⟨_,rfl,_,rfl,p,rfl,pp7,fun y1 d1 Ha ga ppa oa gda=>⟨_,rfl,_,rfl,p,rfl,ppa,fun y2 d2 Hb gb ppb ob gdb=>⟨_,rfl,_,rfl,_,rfl,szl rfl,fun t ht=>?_⟩⟩⟩) ?_
 ·have gt:=Grow.new (m:=[p]) ht (.tup [y1,y2,x3,x4,x5])
  have gab:=ga.trans (gb.trans gt)
  exact hk _ _ ⟨d1,d2,.tup (SqT.of zd) (.cons (oa.grow (gb.trans gt)) (.cons (ob.grow gt) (.cons (o3'.grow gab) (.cons (o4'.grow gab) (.cons (o5.grow gab) .nil))))),⟨gda,gdb,gd3,gd4,tx5⟩,gab,ppb.grow (Grow.new (m:=[]) ht _)⟩
 rintro x6 H8 ⟨d1,d2,o6,th,g8,pp8⟩
 obtain ⟨sh1,sh2,sh3⟩:=(VO th).shows (by decide) (by decide) (by decide)
 refine yo (fun v H'=>v = .str (PyData.tuple [d1,d2,d3,d4,d5]).shown /\ H' = H8) (fun Kk hk=>⟨_,rfl,_,_,[p],rfl,o6,sh1,sh2,sh3,hk _ _ ⟨rfl,rfl⟩⟩) ?_
 rintro _ H8 ⟨rfl,rfl⟩
 refine ⟨8,rfl,by decide,by decide,?_⟩
 refine tX (fun n σ H'=>∃ e8:Option V,σ = [some (.ref a),some (.int (0 + (i:Int))),some (.ref p),some x3,some x4,some x5,some x6,some (.str (PyData.tuple [d1,d2,d3,d4,d5]).shown),e8] /\ Grow [] H8 H') ⟨_,rfl,Grow.refl _ _⟩ ?_ ?_
 ·rintro n σ H9 hn ⟨e9,rfl,g9⟩
  have n8:n < 8:=hn
  have o9:=o6.grow (g9.wk (m:=[p]))
  refine ⟨_,rfl,_,rfl,_,_,rfl,n,d1,d2,d3,d4,d5,[p],congrArg V.int (Int.zero_add _),n8,o9,th,fun la Ha ga hla=>?_⟩
  refine ⟨_,rfl,_,rfl,_,_,rfl,n,d1,d2,d3,d4,d5,[p],congrArg V.int (Int.zero_add _),n8,o9.grow (ga.wk (m:=[p])),th,fun lb Hb gb hlb=>?_⟩
  exact ⟨la,lb,_,_,rfl,rfl,SqL.of (gb.keep _ _ (by simp) hla),SqL.of hlb,rp _,rp _,_,rfl,zz (by rw [if_pos rfl,VP]; rfl) ⟨_,rfl,g9.trans (ga.trans gb)⟩⟩
 rintro σ H9 ⟨e9,rfl,g9⟩
 have o9:=o6.grow (g9.wk (m:=[p]))
 have pp9:=pp8.grow g9
 refine ⟨_,rfl,_,_,[p],rfl,o9,sh1,sh2,sh3,_,rfl,rfl,_,rfl,zz (by rw [decide_eq_true rfl]; rfl) ⟨_,rfl,_,rfl,p,rfl,pp9,fun H10 g10 pp10=>⟨_,rfl,iteF ⟨_,_,_,_,_,_,_,_,rfl,?_⟩⟩⟩⟩
 exact g.trans ((G7.trans (g8.trans (g9.wk.trans g10))).shrink np)
end
theorem zU:∀ {us:List Value},us.length = 1 -> ∃ x0,us = [x0]
 | [x0],_=>⟨x0,rfl⟩
theorem yA:∀ {us:List Value},us.length = 2 -> ∃ x0,∃ x1,us = [x0,x1]
 | [x0,x1],_=>⟨x0,x1,rfl⟩
theorem VW:∀ {us:List Value},us.length = 3 -> ∃ x0,∃ x1,∃ x2,us = [x0,x1,x2]
 | [x0,x1,x2],_=>⟨x0,x1,x2,rfl⟩
def FA (K:FG7) (x:Str) (t:Stmt) (f:Addr) (d:FuncData):Prop:=PySem.W.nsIn K mainGlobals x = some (some (.ref f)) /\ Fun K x x t f d
theorem FA.cl {P:Program} {w:World} {K:FG7} {h base:Heap} {mg:Str -> Option Value} {x:Str} {t:Stmt} {f:Addr} {d:FuncData} {k:Nat} {ps:List Str} {sp:Sp} (a:FA K x t f d) (X:K.In h) (G:h.Ns mainGlobals mg) (F:FnOk P w K mg base CX0 k f d ps sp) (b:wQ K d ps []):zo P w K mg base k x ps sp:=⟨_,_,F,b,a.2.kp,PySem.W.mg_of X G a.1⟩
theorem all_mk {l:PySem.W.OpenLaw} {w:World} {K:FG7} {h:Heap} {mg:Str -> Option Value} {fa f1 f2 f3 f4 f5 f6 f7 f8 f9 f10 f11 f12 f13 f14 f15 f16 f17 f18 f19 f20 f21 f22 f23 f24 f25 f26 f27 f28 f29 f30 f31 f32 f33 f34 f35 f36:Addr} (X:K.In h) (G:h.Ns mainGlobals mg) (hfa:mg "law" = some (.ref fa))
    {d1 d2 d3 d4 d5 d6 d7 d8 d9 d10 d11 d12 d13 d14 d15 d16 d17 d18 d19 d20 d21 d22 d23 d24 d25 d26 d27 d28 d29 d30 d31 d32 d33 d34 d35 d36:FuncData}
    {A_AskError:Addr} (ax_AskError:PySem.W.nsIn K mainGlobals "AskError" = some (some (.ref A_AskError)))
    {A_NoAsk:Addr} (ax_NoAsk:PySem.W.nsIn K mainGlobals "NoAsk" = some (some (.ref A_NoAsk)))
    {A_NoBoard:Addr} (ax_NoBoard:PySem.W.nsIn K mainGlobals "NoBoard" = some (some (.ref A_NoBoard)))
    {A_NoCalls:Addr} (ax_NoCalls:PySem.W.nsIn K mainGlobals "NoCalls" = some (some (.ref A_NoCalls)))
    {A_NoDeed:Addr} (ax_NoDeed:PySem.W.nsIn K mainGlobals "NoDeed" = some (some (.ref A_NoDeed)))
    {A_NoHand:Addr} (ax_NoHand:PySem.W.nsIn K mainGlobals "NoHand" = some (some (.ref A_NoHand)))
    {A_NoNet:Addr} (ax_NoNet:PySem.W.nsIn K mainGlobals "NoNet" = some (some (.ref A_NoNet)))
    {A_NoNumber:Addr} (ax_NoNumber:PySem.W.nsIn K mainGlobals "NoNumber" = some (some (.ref A_NoNumber)))
    {A_NoOrder:Addr} (ax_NoOrder:PySem.W.nsIn K mainGlobals "NoOrder" = some (some (.ref A_NoOrder)))
    {A_NoRow:Addr} (ax_NoRow:PySem.W.nsIn K mainGlobals "NoRow" = some (some (.ref A_NoRow)))
    {A_NoSettings:Addr} (ax_NoSettings:PySem.W.nsIn K mainGlobals "NoSettings" = some (some (.ref A_NoSettings)))
    {A_NoSide:Addr} (ax_NoSide:PySem.W.nsIn K mainGlobals "NoSide" = some (some (.ref A_NoSide)))
    {A_NoTable:Addr} (ax_NoTable:PySem.W.nsIn K mainGlobals "NoTable" = some (some (.ref A_NoTable)))
    {A_NoText:Addr} (ax_NoText:PySem.W.nsIn K mainGlobals "NoText" = some (some (.ref A_NoText)))
    {A_NoToken:Addr} (ax_NoToken:PySem.W.nsIn K mainGlobals "NoToken" = some (some (.ref A_NoToken)))
    {A_NoTree:Addr} (ax_NoTree:PySem.W.nsIn K mainGlobals "NoTree" = some (some (.ref A_NoTree)))
    {A_TooMany:Addr} (ax_TooMany:PySem.W.nsIn K mainGlobals "TooMany" = some (some (.ref A_TooMany)))
    (ex_AskError:PySem.W.excIn K A_AskError veM "ValueError.__new__" = true)
    (ex_NoAsk:PySem.W.excIn K A_NoAsk veM "ValueError.__new__" = true)
    (ex_NoBoard:PySem.W.excIn K A_NoBoard veM "ValueError.__new__" = true)
    (ex_NoCalls:PySem.W.excIn K A_NoCalls veM "ValueError.__new__" = true)
    (ex_NoDeed:PySem.W.excIn K A_NoDeed veM "ValueError.__new__" = true)
    (ex_NoHand:PySem.W.excIn K A_NoHand veM "ValueError.__new__" = true)
    (ex_NoNet:PySem.W.excIn K A_NoNet veM "ValueError.__new__" = true)
    (ex_NoNumber:PySem.W.excIn K A_NoNumber veM "ValueError.__new__" = true)
    (ex_NoOrder:PySem.W.excIn K A_NoOrder veM "ValueError.__new__" = true)
    (ex_NoRow:PySem.W.excIn K A_NoRow veM "ValueError.__new__" = true)
    (ex_NoSettings:PySem.W.excIn K A_NoSettings veM "ValueError.__new__" = true)
    (ex_NoSide:PySem.W.excIn K A_NoSide veM "ValueError.__new__" = true)
    (ex_NoTable:PySem.W.excIn K A_NoTable veM "ValueError.__new__" = true)
    (ex_NoText:PySem.W.excIn K A_NoText veM "ValueError.__new__" = true)
    (ex_NoToken:PySem.W.excIn K A_NoToken veM "ValueError.__new__" = true)
    (ex_NoTree:PySem.W.excIn K A_NoTree veM "ValueError.__new__" = true)
    (ex_TooMany:PySem.W.excIn K A_TooMany veM "ValueError.__new__" = true)
    (kd:Kd17 K [A_NoNet,A_NoNumber,A_NoDeed,A_NoBoard,A_NoAsk,A_NoTree,A_NoHand,A_NoSide,A_NoSettings,A_NoTable,A_TooMany,A_NoCalls,A_NoOrder,A_NoToken,A_NoText,A_NoRow] A_AskError)
 (h1:FA K "_law_kinds" ((top 54)) f1 d1)
 (h2:FA K "_law_take" ((top 47)) f2 d2)
 (h3:FA K "_law_made" ((top 60)) f3 d3)
 (h4:FA K "made" ((top 30)) f4 d4)
 (h5:FA K "is_whole" ((top 21)) f5 d5)
 (h6:FA K "is_end" ((top 26)) f6 d6)
 (h7:FA K "is_deed" ((top 27)) f7 d7)
 (h8:FA K "need_deed" ((top 29)) f8 d8)
 (h9:FA K "need_value" ((top 28)) f9 d9)
 (h10:FA K "done" ((top 31)) f10 d10)
 (h11:FA K "tidy" ((top 32)) f11 d11)
 (h12:FA K "joined" ((top 33)) f12 d12)
 (h13:FA K "then" ((top 34)) f13 d13)
 (h14:FA K "turns" ((top 35)) f14 d14)
 (h15:FA K "apart" ((top 36)) f15 d15)
 (h16:FA K "again" ((top 37)) f16 d16)
 (h17:FA K "stays" ((top 43)) f17 d17)
 (h18:FA K "leads" ((top 44)) f18 d18)
 (h19:FA K "written" ((top 22)) f19 d19)
 (h20:FA K "deed_text" ((top 39)) f20 d20)
 (h21:FA K "read_whole" ((top 23)) f21 d21)
 (h22:FA K "deed_by_words" ((top 40)) f22 d22)
 (h23:FA K "read_deed" ((top 41)) f23 d23)
 (h24:FA K "_law_call" ((top 56)) f24 d24)
 (h25:FA K "_law_asked" ((top 57)) f25 d25)
 (h26:FA K "_law_whole" ((top 52)) f26 d26)
 (h27:FA K "_law_is_deed" ((top 53)) f27 d27)
 (h28:FA K "_law_due" ((top 58)) f28 d28)
 (h29:FA K "_law_number" ((top 48)) f29 d29)
 (h30:FA K "_law_odd" ((top 50)) f30 d30)
 (h31:FA K "_law_spoilt" ((top 51)) f31 d31)
 (h32:FA K "_law_deed" ((top 49)) f32 d32)
 (h33:FA K "_law_thing" ((top 59)) f33 d33)
 (h34:FA K "_law_no_number" ((top 55)) f34 d34)
 (h35:FA K "_law_pot" ((top 46)) f35 d35)
 (h36:FA K "law" ((top 61)) f36 d36)
    {t_AT_ONCE:Tok} (ga_AT_ONCE:PySem.W.nsIn K mainGlobals "AT_ONCE" = some (some (.int 64 t_AT_ONCE)))
    {t_LOOK:Tok}
    {a_LOOK:Addr} {v_LOOK:Array (Option Value)} {n_LOOK:Nat} {o_LOOK:Option Addr} (ga_LOOK:PySem.W.nsIn K mainGlobals "LOOK" = some (some (.ref a_LOOK))) (gl_LOOK:K.lookup a_LOOK = some ⟨.type "tuple",o_LOOK,.seq #[.int 0 t_LOOK,.none,.none] n_LOOK,v_LOOK⟩)
    {t_PIECE:Tok} (ga_PIECE:PySem.W.nsIn K mainGlobals "PIECE" = some (some (.int 10000000000000000000000000000000000000000000000000000000000000000 t_PIECE)))
    (ga_ValueError:PySem.W.nsIn K mainGlobals "ValueError" = some none)
    (ga_zip:PySem.W.nsIn K mainGlobals "zip" = some none)
    (z_abs:PySem.W.nsIn K mainGlobals "abs" = some none)
    (z_len:PySem.W.nsIn K mainGlobals "len" = some none)
    (z_max:PySem.W.nsIn K mainGlobals "max" = some none)
    (z_min:PySem.W.nsIn K mainGlobals "min" = some none)
    (z_divmod:PySem.W.nsIn K mainGlobals "divmod" = some none)
    (z_repr:PySem.W.nsIn K mainGlobals "repr" = some none)
    (z_isinstance:PySem.W.nsIn K mainGlobals "isinstance" = some none)
    (z_all:PySem.W.nsIn K mainGlobals "all" = some none)
    (z_range:PySem.W.nsIn K mainGlobals "range" = some none)
    (z_int:PySem.W.nsIn K mainGlobals "int" = some none)
    (z_bool:PySem.W.nsIn K mainGlobals "bool" = some none)
    (z_str:PySem.W.nsIn K mainGlobals "str" = some none)
    (z_tuple:PySem.W.nsIn K mainGlobals "tuple" = some none)
    (z_list:PySem.W.nsIn K mainGlobals "list" = some none)
    (z_dict:PySem.W.nsIn K mainGlobals "dict" = some none)
    :
    ∃ fd:FuncData,(∀ (s:Shared) (v:Value),BindsTo s fd ⟨[v],[]⟩ [("_law_script",v)]) /\ ∀ base:Heap,K.In base -> base.Ns mainGlobals mg -> FnOk l.prog w K mg base CX0 9 fa fd ["_law_script"] (qO K):=by
  have e:=hfa.symm.trans (PySem.W.mg_of X G h36.1)
  cases e
  have b1:=h1.2.binds (ps:=["_law_error"]) fun _ _ _ _ _ _ us hl=>by obtain ⟨_,rfl⟩:=zU hl; rfl
  have b8:=h8.2.binds (ps:=["thing"]) fun _ _ _ _ _ _ us hl=>by obtain ⟨_,rfl⟩:=zU hl; rfl
  have b9:=h9.2.binds (ps:=["thing"]) fun _ _ _ _ _ _ us hl=>by obtain ⟨_,rfl⟩:=zU hl; rfl
  have b10:=h10.2.binds (ps:=["deed","value"]) fun _ _ _ _ _ _ us hl=>by obtain ⟨_,_,rfl⟩:=yA hl; rfl
  have b13:=h13.2.binds (ps:=["one","other"]) fun _ _ _ _ _ _ us hl=>by obtain ⟨_,_,rfl⟩:=yA hl; rfl
  have b15:=h15.2.binds (ps:=["one","other"]) fun _ _ _ _ _ _ us hl=>by obtain ⟨_,_,rfl⟩:=yA hl; rfl
  have b16:=h16.2.binds (ps:=["deed","many"]) fun _ _ _ _ _ _ us hl=>by obtain ⟨_,_,rfl⟩:=yA hl; rfl
  have b17:=h17.2.binds (ps:=["deed"]) fun _ _ _ _ _ _ us hl=>by obtain ⟨_,rfl⟩:=zU hl; rfl
  have b18:=h18.2.binds (ps:=["deed","value"]) fun _ _ _ _ _ _ us hl=>by obtain ⟨_,_,rfl⟩:=yA hl; rfl
  have b20:=h20.2.binds (ps:=["deed"]) fun _ _ _ _ _ _ us hl=>by obtain ⟨_,rfl⟩:=zU hl; rfl
  have b23:=h23.2.binds (ps:=["text"]) fun _ _ _ _ _ _ us hl=>by obtain ⟨_,rfl⟩:=zU hl; rfl
  have b24:=h24.2.binds (ps:=["_law_number_here","_law_things"]) fun _ _ _ _ _ _ us hl=>by obtain ⟨_,_,rfl⟩:=yA hl; rfl
  have x_AskError:ExcC K mg "AskError" A_AskError:=excC_of (PySem.W.mg_of X G ax_AskError) ex_AskError
  have x_NoAsk:ExcC K mg "NoAsk" A_NoAsk:=excC_of (PySem.W.mg_of X G ax_NoAsk) ex_NoAsk
  have x_NoBoard:ExcC K mg "NoBoard" A_NoBoard:=excC_of (PySem.W.mg_of X G ax_NoBoard) ex_NoBoard
  have x_NoCalls:ExcC K mg "NoCalls" A_NoCalls:=excC_of (PySem.W.mg_of X G ax_NoCalls) ex_NoCalls
  have x_NoDeed:ExcC K mg "NoDeed" A_NoDeed:=excC_of (PySem.W.mg_of X G ax_NoDeed) ex_NoDeed
  have x_NoHand:ExcC K mg "NoHand" A_NoHand:=excC_of (PySem.W.mg_of X G ax_NoHand) ex_NoHand
  have x_NoNet:ExcC K mg "NoNet" A_NoNet:=excC_of (PySem.W.mg_of X G ax_NoNet) ex_NoNet
  have x_NoNumber:ExcC K mg "NoNumber" A_NoNumber:=excC_of (PySem.W.mg_of X G ax_NoNumber) ex_NoNumber
  have x_NoOrder:ExcC K mg "NoOrder" A_NoOrder:=excC_of (PySem.W.mg_of X G ax_NoOrder) ex_NoOrder
  have x_NoRow:ExcC K mg "NoRow" A_NoRow:=excC_of (PySem.W.mg_of X G ax_NoRow) ex_NoRow
  have x_NoSettings:ExcC K mg "NoSettings" A_NoSettings:=excC_of (PySem.W.mg_of X G ax_NoSettings) ex_NoSettings
  have x_NoSide:ExcC K mg "NoSide" A_NoSide:=excC_of (PySem.W.mg_of X G ax_NoSide) ex_NoSide
  have x_NoTable:ExcC K mg "NoTable" A_NoTable:=excC_of (PySem.W.mg_of X G ax_NoTable) ex_NoTable
  have x_NoText:ExcC K mg "NoText" A_NoText:=excC_of (PySem.W.mg_of X G ax_NoText) ex_NoText
  have x_NoToken:ExcC K mg "NoToken" A_NoToken:=excC_of (PySem.W.mg_of X G ax_NoToken) ex_NoToken
  have x_NoTree:ExcC K mg "NoTree" A_NoTree:=excC_of (PySem.W.mg_of X G ax_NoTree) ex_NoTree
  have x_TooMany:ExcC K mg "TooMany" A_TooMany:=excC_of (PySem.W.mg_of X G ax_TooMany) ex_TooMany
  have v_AskError:mg "AskError" = some (.ref A_AskError):=PySem.W.mg_of X G ax_AskError
  have v_NoAsk:mg "NoAsk" = some (.ref A_NoAsk):=PySem.W.mg_of X G ax_NoAsk
  have v_NoBoard:mg "NoBoard" = some (.ref A_NoBoard):=PySem.W.mg_of X G ax_NoBoard
  have v_NoCalls:mg "NoCalls" = some (.ref A_NoCalls):=PySem.W.mg_of X G ax_NoCalls
  have v_NoDeed:mg "NoDeed" = some (.ref A_NoDeed):=PySem.W.mg_of X G ax_NoDeed
  have v_NoHand:mg "NoHand" = some (.ref A_NoHand):=PySem.W.mg_of X G ax_NoHand
  have v_NoNet:mg "NoNet" = some (.ref A_NoNet):=PySem.W.mg_of X G ax_NoNet
  have v_NoNumber:mg "NoNumber" = some (.ref A_NoNumber):=PySem.W.mg_of X G ax_NoNumber
  have v_NoOrder:mg "NoOrder" = some (.ref A_NoOrder):=PySem.W.mg_of X G ax_NoOrder
  have v_NoRow:mg "NoRow" = some (.ref A_NoRow):=PySem.W.mg_of X G ax_NoRow
  have v_NoSettings:mg "NoSettings" = some (.ref A_NoSettings):=PySem.W.mg_of X G ax_NoSettings
  have v_NoSide:mg "NoSide" = some (.ref A_NoSide):=PySem.W.mg_of X G ax_NoSide
  have v_NoTable:mg "NoTable" = some (.ref A_NoTable):=PySem.W.mg_of X G ax_NoTable
  have v_NoText:mg "NoText" = some (.ref A_NoText):=PySem.W.mg_of X G ax_NoText
  have v_NoToken:mg "NoToken" = some (.ref A_NoToken):=PySem.W.mg_of X G ax_NoToken
  have v_NoTree:mg "NoTree" = some (.ref A_NoTree):=PySem.W.mg_of X G ax_NoTree
  have v_TooMany:mg "TooMany" = some (.ref A_TooMany):=PySem.W.mg_of X G ax_TooMany
  have B:Blt mg:=⟨PySem.W.mg_none_of X G z_abs,PySem.W.mg_none_of X G z_len,PySem.W.mg_none_of X G z_max,PySem.W.mg_none_of X G z_min,PySem.W.mg_none_of X G z_divmod,PySem.W.mg_none_of X G z_repr,PySem.W.mg_none_of X G z_isinstance,PySem.W.mg_none_of X G z_all,PySem.W.mg_none_of X G z_range,PySem.W.mg_none_of X G z_int,PySem.W.mg_none_of X G z_bool,PySem.W.mg_none_of X G z_str,PySem.W.mg_none_of X G z_tuple,PySem.W.mg_none_of X G z_list,PySem.W.mg_none_of X G z_dict⟩
  obtain ⟨oc,od,kV,dc,pm,an,cd,ct,sl,rfl,lk,hc⟩:=h36.2.ex
  refine ⟨PySem.W.fnOf "law" "law" (vP (top 61)) (xE (top 61)) (zl (top 61)) .none kV dc pm an cd ct,fun s v=>.of_eq rfl,fun base _ _=>?_⟩
  have D1:w4 l.prog w K mg base 1 "_law_kinds" ["_law_error"] (wq [A_NoNet,A_NoNumber,A_NoDeed,A_NoBoard,A_NoAsk,A_NoTree,A_NoHand,A_NoSide,A_NoSettings,A_NoTable,A_TooMany,A_NoCalls,A_NoOrder,A_NoToken,A_NoText,A_NoRow] A_AskError K):=⟨_,_,uw (P:=l.prog) (w:=w) (base:=base) (n:=0) h1.2 B  v_NoRow v_NoText v_NoToken v_NoOrder v_NoCalls v_TooMany v_NoTable v_NoSettings v_NoSide v_NoHand v_NoTree v_NoAsk v_NoBoard v_NoDeed v_NoNumber v_NoNet kd  (PySem.W.mg_none_of X G ga_ValueError)  ,b1,h1.2.kp,PySem.W.mg_of X G h1.1⟩
  have C1:zo l.prog w K mg base 1 _ _ _:=h1.cl X G (tM h1.2 B  v_NoRow v_NoText v_NoToken v_NoOrder v_NoCalls v_TooMany v_NoTable v_NoSettings v_NoSide v_NoHand v_NoTree v_NoAsk v_NoBoard v_NoDeed v_NoNumber v_NoNet kd  (PySem.W.mg_none_of X G ga_ValueError)  ) (h1.2.binds fun _ _ _ _ _ _ us hl=>by obtain ⟨_,rfl⟩:=zU hl; rfl)
  have C2:zo l.prog w K mg base 1 _ _ _:=h2.cl X G (rq h2.2 B       ) (h2.2.binds fun _ _ _ _ _ _ us hl=>by obtain ⟨_,_,rfl⟩:=yA hl; rfl)
  have C3:zo l.prog w K mg base 2 _ _ _:=h3.cl X G (rA h3.2 B x_AskError x_NoRow x_NoText x_NoToken x_NoOrder x_NoCalls x_TooMany x_NoTable x_NoSettings x_NoSide x_NoHand x_NoTree x_NoAsk x_NoBoard x_NoDeed x_NoNumber x_NoNet v_AskError kd (C1.mono (by decide)) (C2.mono (by decide))   ) (h3.2.binds fun _ _ _ _ _ _ us hl=>by obtain ⟨_,rfl⟩:=zU hl; rfl)
  have C4:zo l.prog w K mg base 1 _ _ _:=h4.cl X G (VQ h4.2 B       ) (h4.2.binds fun _ _ _ _ _ _ us hl=>by obtain ⟨_,_,rfl⟩:=yA hl; rfl)
  have C5:zo l.prog w K mg base 1 _ _ _:=h5.cl X G (qC h5.2 B       ) (h5.2.binds fun _ _ _ _ _ _ us hl=>by obtain ⟨_,rfl⟩:=zU hl; rfl)
  have C6:zo l.prog w K mg base 2 _ _ _:=h6.cl X G (Y1 h6.2 B    (C5.mono (by decide))   ) (h6.2.binds fun _ _ _ _ _ _ us hl=>by obtain ⟨_,rfl⟩:=zU hl; rfl)
  have C7:zo l.prog w K mg base 3 _ _ _:=h7.cl X G (Zc h7.2 B    (C6.mono (by decide)) (C5.mono (by decide))   ) (h7.2.binds fun _ _ _ _ _ _ us hl=>by obtain ⟨_,rfl⟩:=zU hl; rfl)
  have C8:zF l.prog w K mg base 4 "need_deed" ["thing"] (xt A_NoDeed K):=⟨_,_,rC (P:=l.prog) (w:=w) (base:=base) (n:=3) h8.2 B x_NoDeed   (C7.mono (by decide))   ,b8,h8.2.kp,PySem.W.mg_of X G h8.1⟩
  have C9:zF l.prog w K mg base 2 "need_value" ["thing"] (tL A_NoNumber K):=⟨_,_,tP (P:=l.prog) (w:=w) (base:=base) (n:=1) h9.2 B x_NoNumber   (C5.mono (by decide))   ,b9,h9.2.kp,PySem.W.mg_of X G h9.1⟩
  have C10:zF l.prog w K mg base 5 "done" ["deed","value"] (w6 A_NoNumber A_NoDeed A_NoText K):=⟨_,_,VS (P:=l.prog) (w:=w) (base:=base) (n:=4) h10.2 B    (C4.mono (by decide)) (C8.mono (by decide)) (C9.mono (by decide))   ,b10,h10.2.kp,PySem.W.mg_of X G h10.1⟩
  have C11:zo l.prog w K mg base 1 _ _ _:=h11.cl X G (ZC h11.2 B       ) (h11.2.binds fun _ _ _ _ _ _ us hl=>by obtain ⟨_,_,_,rfl⟩:=VW hl; rfl)
  have C12:zo l.prog w K mg base 2 _ _ _:=h12.cl X G (Y2 h12.2 B    (C11.mono (by decide)) (C4.mono (by decide))   ) (h12.2.binds fun _ _ _ _ _ _ us hl=>by obtain ⟨_,_,rfl⟩:=yA hl; rfl)
  have C13:zF l.prog w K mg base 5 "then" ["one","other"] (vc A_NoNumber A_NoDeed A_NoText K):=⟨_,_,VV (P:=l.prog) (w:=w) (base:=base) (n:=4) h13.2 B    (C12.mono (by decide)) (C8.mono (by decide))   ,b13,h13.2.kp,PySem.W.mg_of X G h13.1⟩
  have C14:zo l.prog w K mg base 1 _ _ _:=h14.cl X G (XZ h14.2 B       ) (h14.2.binds fun _ _ _ _ _ _ us hl=>by obtain ⟨_,_,rfl⟩:=yA hl; rfl)
  have C15:zF l.prog w K mg base 5 "apart" ["one","other"] (vc A_NoNumber A_NoDeed A_NoText K):=⟨_,_,X0 (P:=l.prog) (w:=w) (base:=base) (n:=4) h15.2 B    (C14.mono (by decide)) (C4.mono (by decide)) (C8.mono (by decide))   ,b15,h15.2.kp,PySem.W.mg_of X G h15.1⟩
  have C16:zF l.prog w K mg base 5 "again" ["deed","many"] (qu A_NoNumber A_NoDeed A_NoText K):=⟨_,_,X1 (P:=l.prog) (w:=w) (base:=base) (n:=4) h16.2 B x_NoNumber   (C11.mono (by decide)) (C4.mono (by decide)) (C8.mono (by decide)) (C5.mono (by decide))   (PySem.W.mg_of X G ga_LOOK) (fun H=>.inr ⟨_,_,_,gl_LOOK,rfl,rfl,szl rfl,.cons ⟨_,rfl⟩ (.cons rfl (.cons rfl .nil))⟩),b16,h16.2.kp,PySem.W.mg_of X G h16.1⟩
  have C17:zF l.prog w K mg base 5 "stays" ["deed"] (YS A_NoNumber A_NoDeed A_NoText K):=⟨_,_,X2 (P:=l.prog) (w:=w) (base:=base) (n:=4) h17.2 B    (C8.mono (by decide))   ,b17,h17.2.kp,PySem.W.mg_of X G h17.1⟩
  have C18:zF l.prog w K mg base 5 "leads" ["deed","value"] (w6 A_NoNumber A_NoDeed A_NoText K):=⟨_,_,X3 (P:=l.prog) (w:=w) (base:=base) (n:=4) h18.2 B    (C8.mono (by decide)) (C9.mono (by decide))   ,b18,h18.2.kp,PySem.W.mg_of X G h18.1⟩
  have C19:zo l.prog w K mg base 1 _ _ _:=h19.cl X G (Zd h19.2 B      (PySem.W.mg_of X G ga_PIECE) ) (h19.2.binds fun _ _ _ _ _ _ us hl=>by obtain ⟨_,rfl⟩:=zU hl; rfl)
  have C20:zF l.prog w K mg base 5 "deed_text" ["deed"] (vE A_NoDeed K):=⟨_,_,rD (P:=l.prog) (w:=w) (base:=base) (n:=4) h20.2 B    (C19.mono (by decide)) (C8.mono (by decide))   (PySem.W.mg_of X G ga_LOOK) (fun H=>.inr ⟨_,_,_,gl_LOOK,rfl,rfl,szl rfl,.cons ⟨_,rfl⟩ (.cons rfl (.cons rfl .nil))⟩),b20,h20.2.kp,PySem.W.mg_of X G h20.1⟩
  have C21:zo l.prog w K mg base 1 _ _ _:=h21.cl X G (tQ h21.2 B      (PySem.W.mg_of X G ga_AT_ONCE) ) (h21.2.binds fun _ _ _ _ _ _ us hl=>by obtain ⟨_,rfl⟩:=zU hl; rfl)
  have C22:zo l.prog w K mg base 2 _ _ _:=h22.cl X G (vx h22.2 B    (C21.mono (by decide)) (PySem.W.mg_none_of X G ga_zip)  ) (h22.2.binds fun _ _ _ _ _ _ us hl=>by obtain ⟨_,rfl⟩:=zU hl; rfl)
  have C23:zF l.prog w K mg base 6 "read_deed" ["text"] (wX A_NoText K):=⟨_,_,rE (P:=l.prog) (w:=w) (base:=base) (n:=5) h23.2 B x_NoText   (C20.mono (by decide)) (C7.mono (by decide)) (C22.mono (by decide))   (PySem.W.mg_of X G ga_LOOK) (fun H=>.inr ⟨_,_,_,gl_LOOK,rfl,rfl,szl rfl,.cons ⟨_,rfl⟩ (.cons rfl (.cons rfl .nil))⟩),b23,h23.2.kp,PySem.W.mg_of X G h23.1⟩
  have C24:zF l.prog w K mg base 7 "_law_call" ["_law_number_here","_law_things"] (ue A_NoNumber A_NoDeed A_NoText K):=⟨_,_,rF (P:=l.prog) (w:=w) (base:=base) (n:=6) h24.2 B    (C10.mono (by decide)) (C13.mono (by decide)) (C15.mono (by decide)) (C16.mono (by decide)) (C17.mono (by decide)) (C18.mono (by decide)) (C20.mono (by decide)) (C23.mono (by decide))   ,b24,h24.2.kp,PySem.W.mg_of X G h24.1⟩
  have C25:zo l.prog w K mg base 8 _ _ _:=h25.cl X G (tR h25.2 B x_AskError  kd (C24.mono (by decide)) (D1.mono (by decide))   ) (h25.2.binds fun _ _ _ _ _ _ us hl=>by obtain ⟨_,_,rfl⟩:=yA hl; rfl)
  have C26:zo l.prog w K mg base 1 _ _ _:=h26.cl X G (tT h26.2 B       ) (h26.2.binds fun _ _ _ _ _ _ us hl=>by obtain ⟨_,rfl⟩:=zU hl; rfl)
  have C27:zo l.prog w K mg base 2 _ _ _:=h27.cl X G (ul h27.2 B    (C26.mono (by decide))   ) (h27.2.binds fun _ _ _ _ _ _ us hl=>by obtain ⟨_,rfl⟩:=zU hl; rfl)
  have C28:zo l.prog w K mg base 3 _ _ _:=h28.cl X G (qD h28.2 B    (C27.mono (by decide)) (C26.mono (by decide))   ) (h28.2.binds fun _ _ _ _ _ _ us hl=>by obtain ⟨_,_,rfl⟩:=yA hl; rfl)
  have C29:zo l.prog w K mg base 2 _ _ _:=h29.cl X G (ux h29.2 B    (C2.mono (by decide))   ) (h29.2.binds fun _ _ _ _ _ _ us hl=>by obtain ⟨_,rfl⟩:=zU hl; rfl)
  have C30:zo l.prog w K mg base 2 _ _ _:=h30.cl X G (qE h30.2 B    (C2.mono (by decide))   ) (h30.2.binds fun _ _ _ _ _ _ us hl=>by obtain ⟨_,rfl⟩:=zU hl; rfl)
  have C31:zo l.prog w K mg base 3 _ _ _:=h31.cl X G (uy h31.2 B    (C29.mono (by decide)) (C2.mono (by decide)) (C30.mono (by decide))   ) (h31.2.binds fun _ _ _ _ _ _ us hl=>by obtain ⟨_,_,rfl⟩:=yA hl; rfl)
  have C32:zo l.prog w K mg base 3 _ _ _:=h32.cl X G (rG h32.2 B    (C29.mono (by decide)) (C2.mono (by decide))   ) (h32.2.binds fun _ _ _ _ _ _ us hl=>by obtain ⟨_,rfl⟩:=zU hl; rfl)
  have C33:zo l.prog w K mg base 4 _ _ _:=h33.cl X G (tU h33.2 B    (C2.mono (by decide)) (C31.mono (by decide)) (C32.mono (by decide))   ) (h33.2.binds fun _ _ _ _ _ _ us hl=>by obtain ⟨_,rfl⟩:=zU hl; rfl)
  have C34:zo l.prog w K mg base 2 _ _ _:=h34.cl X G (vf h34.2 B    (C2.mono (by decide))   ) (h34.2.binds fun _ _ _ _ _ _ us hl=>by obtain ⟨_,rfl⟩:=zU hl; rfl)
  have C35:zo l.prog w K mg base 1 _ _ _:=h35.cl X G (qF h35.2 B       ) (h35.2.binds fun _ _ _ _ _ _ us hl=>by obtain ⟨_,_,rfl⟩:=yA hl; rfl)
  exact Tc (P:=l.prog) (w:=w) (base:=base) (n:=8) h36.2 B    (C3.mono (by decide)) (C25.mono (by decide)) (C28.mono (by decide)) (C33.mono (by decide)) (C2.mono (by decide)) (C34.mono (by decide)) (C29.mono (by decide)) (C35.mono (by decide))
theorem walk {l:PySem.W.OpenLaw} {q:Program} {loose:List Str} {XP:(Str -> Option Value) -> Heap -> Prop} {YP:World -> Heap -> Prop} {d:DefRec} {K:Params -> FG7} (hn:l.most = some 63) (hdf:d.params.defaults = [])
  (hY:∀ (w:World) (h:Heap),YP w h -> (K w.params).In h)
  (F:∀ (w:World) (mg:Str -> Option Value) (fa:Addr) (h:Heap),(K w.params).In h -> h.Ns mainGlobals mg -> mg d.name = some (.ref fa) →
   ∃ fd:FuncData,(∀ (s:Shared) (u:Value),BindsTo s fd ⟨[u],[]⟩ [("_law_script",u)]) /\ ∀ base:Heap,(K w.params).In base -> base.Ns mainGlobals mg -> FnOk l.prog w (K w.params) mg base CX0 9 fa fd ["_law_script"] (qO (K w.params))) :
  PySem.W.WalkO q loose XP YP l.row.toRowW d [] (fun f vs=>PySem.call f vs) :=
 L2.walk_of (n:=63) (k:=9) (x:="_law_script") (CX:=fun _=>CX0) (sp:=fun w=>qO (K w.params)) hn (by decide) hdf ⟨rfl,by decide,by decide,rfl⟩ hY F (fun _ _ a ns hl hO hS=>⟨_,rfl,a,ns,rfl,Scr.of hO hS,hl,fun _=>rfl⟩) fun _ _ _ _ _ z=>z
theorem walkX {q:Program} {loose:List Str} {XP:(Str -> Option Value) -> Heap -> Prop} {K:Params -> FG7} {as:List Addr} {n t:Nat} {r:PySem.W.RowW} {d:DefRec} {kwd:List (Str × Expr)} {run:Value -> List Value -> Sem Value}
  (e:∀ P,as = (K P).map (·.1)) (W:PySem.W.WalkO q loose XP (PySem.W.InK K) r d kwd run):PySem.W.WalkX q loose XP (PySem.W.X.obsZ as) (PySem.W.X.valZ K n t) r d kwd run :=
 fun w s₀ s₁ mg mb G Y a o pm cd doc dV kV h2 h3 h4 h5 h6 h7 args vals as' L hpre hlay hrd hwl hlo =>
  W w s₀ s₁ mg mb G (PySem.W.InK.keeps w s₀.heap s₁.heap (PySem.W.X.z_facts e Y).2.1 L.keeps) a o pm cd doc dV kV h2 h3 h4 h5 h6 h7 args vals as' hpre hlay hrd hwl hlo
end My
open PySem PySem.W PyProof.Rows
def PySem.W.Fast.tw1778223973283857656:Unit:=()
def PySem.W.Fast.tw1066921630445621799:Unit:=()
def PySem.W.Fast.tw12824100148734286114:Unit:=()
def PySem.W.Fast.tw11805385194668169842:Unit:=()
def PySem.W.Fast.tw9796383259068475371:Unit:=()
def PySem.W.Fast.tw17814299165126749369:Unit:=()
def PySem.W.Fast.tw6904804125839539998:Unit:=()
def PySem.W.Fast.tw2659196322852998391:Unit:=()
def PySem.W.Fast.tw17027223809892081563:Unit:=()
def PySem.W.Fast.tw5131110272012335721:Unit:=()
def PySem.W.Fast.tw16078303010335687745:Unit:=()
def PySem.W.Fast.tw1121625974124332618:Unit:=()
def PySem.W.Fast.tw10121420169878385861:Unit:=()
def PySem.W.Fast.tw3174543552675050324:Unit:=()
def PySem.W.Fast.tw6837755670223149840:Unit:=()
def PySem.W.Fast.tw11640264010357285571:Unit:=()
def PySem.W.Fast.tw10778768043970248291:Unit:=()
def PySem.W.Fast.tw5792999614473399305:Unit:=()
def PySem.W.Fast.tw10411486271595341845:Unit:=()
def PySem.W.Fast.tw10419442560052985753:Unit:=()
def PySem.W.Fast.tw15746798792251210958:Unit:=()
def PySem.W.Fast.tw15191909559881984914:Unit:=()
def PySem.W.Fast.tw12522277296351225952:Unit:=()
def PySem.W.Fast.tw11860724716588592222:Unit:=()
def PySem.W.Fast.tw563341972644661152:Unit:=()
def PySem.W.Fast.tw933871737225229632:Unit:=()
def PySem.W.Fast.tw6214915790565812032:Unit:=()
def PySem.W.Fast.tw13935691938639163260:Unit:=()
def PySem.W.Fast.tw3171913430596518574:Unit:=()
def PySem.W.Fast.tw3583482681744798071:Unit:=()
def PySem.W.Fast.tw11237740817029415865:Unit:=()
def PySem.W.Fast.tw3313465170159269671:Unit:=()
def PySem.W.Fast.tw716045160460353638:Unit:=()
def PySem.W.Fast.tw2163802240659537771:Unit:=()
def PySem.W.Fast.tw5368412249342930910:Unit:=()
def PySem.W.Fast.tw17331184223221318411:Unit:=()
def PySem.W.Fast.tw4689996913507120840:Unit:=()
def PySem.W.Fast.tw3689122926216584878:Unit:=()
def PySem.W.Fast.tw1945436230246651420:Unit:=()
def PySem.W.Fast.tw13403420592537272634:Unit:=()
def PySem.W.Fast.tw17433580495657153056:Unit:=()
def PySem.W.Fast.tw69419197249375341:Unit:=()
def PySem.W.Fast.tw211041307988823649:Unit:=()
def PySem.W.Fast.tw17600370443603287131:Unit:=()
def PySem.W.Fast.tw11791291285434708059:Unit:=()
def PySem.W.Fast.tw9484309725012435463:Unit:=()
def PySem.W.Fast.tw15348422595406523464:Unit:=()
def PySem.W.Fast.tw16743691082466726239:Unit:=()
def PySem.W.Fast.tw12082805622088183786:Unit:=()
def PySem.W.Fast.tw3614174176315185561:Unit:=()
def PySem.W.Fast.tw15745386923056837382:Unit:=()
def PySem.W.Fast.tw6246045432008229257:Unit:=()
def PySem.W.Fast.tw11060859313333874015:Unit:=()
def PySem.W.Fast.tw18110887528148991955:Unit:=()
def PySem.W.Fast.tw6981230399240332322:Unit:=()
def PySem.W.Fast.tw7944431419318849169:Unit:=()
def PySem.W.Fast.tw13688473185221559874:Unit:=()
def PySem.W.Fast.tw3491625864338090659:Unit:=()
def PySem.W.Fast.tw6370036829130376963:Unit:=()
def PySem.W.Fast.tw17691588591390456251:Unit:=()
def PySem.W.Fast.tw13524454874720399947:Unit:=()
def PySem.W.Fast.tw6343277093252680057:Unit:=()
def PySem.W.Fast.tw17050660426615476986:Unit:=()
def PySem.W.Fast.tw8929770254469132960:Unit:=()
def PySem.W.Fast.tw13410835112813711400:Unit:=()
def PySem.W.Fast.tw11495742995768130737:Unit:=()
def PySem.W.Fast.tw12957170075292810492:Unit:=()
def PySem.W.Fast.tw3233070297607570838:Unit:=()
def PySem.W.Fast.tw9122957266872408181:Unit:=()
def PySem.W.Fast.tw13796552339907844587:Unit:=()
def PySem.W.Fast.tw13617517207147188573:Unit:=()
def PySem.W.Fast.tw3659358340945661103:Unit:=()
def PySem.W.Fast.tw4047284846080002892:Unit:=()
def PySem.W.Fast.tw16466630845301006191:Unit:=()
def PySem.W.Fast.tw3498181404699783575:Unit:=()
def PySem.W.Fast.tw16422958870404979089:Unit:=()
def PySem.W.Fast.tw12426469146259001519:Unit:=()
def PySem.W.Fast.tw9917867138547138204:Unit:=()
def PySem.W.Fast.tw4387432077081743312:Unit:=()
def PySem.W.Fast.tw8708295184480311587:Unit:=()
def PySem.W.Fast.tw8388416744810372026:Unit:=()
def PySem.W.Fast.tw13223362683826946838:Unit:=()
def PySem.W.Fast.tw11594848788196559326:Unit:=()
def PySem.W.Fast.tw5939629443311144727:Unit:=()
def PySem.W.Fast.tw1515216932071948794:Unit:=()
def PySem.W.Fast.tw2920268751068421166:Unit:=()
def PySem.W.Fast.tw17285218068312968219:Unit:=()
def PySem.W.Fast.tw1765476598503582183:Unit:=()
def PySem.W.Fast.tw1203549496816316081:Unit:=()
def PySem.W.Fast.tw9529204652621319672:Unit:=()
def PySem.W.Fast.tw9698193119410628632:Unit:=()
def PySem.W.Fast.tw10340540276121749853:Unit:=()
def PySem.W.Fast.tw11349504537694949357:Unit:=()
def PySem.W.Fast.tw12781765303257588569:Unit:=()
def PySem.W.Fast.tw9752553679246274854:Unit:=()
def PySem.W.Fast.tw3480767990830280284:Unit:=()
def PySem.W.Fast.tw15486450768833190551:Unit:=()
def PySem.W.Fast.tw1261158195301429362:Unit:=()
def PySem.W.Fast.tw17146964633846487196:Unit:=()
def PySem.W.Fast.tw4149656695990956752:Unit:=()
def PySem.W.Fast.tw10115252267904752296:Unit:=()
def PySem.W.Fast.tw11867512305567547574:Unit:=()
def PySem.W.Fast.tw10050509205802204786:Unit:=()
def PySem.W.Fast.tw15154763506010864787:Unit:=()
def PySem.W.Fast.tw3600545233817408300:Unit:=()
def PySem.W.Fast.tw7557477495283904885:Unit:=()
def PySem.W.Fast.tw1181951060401151572:Unit:=()
def PySem.W.Fast.tw13697555996093377104:Unit:=()
def PySem.W.Fast.tw17160588693598334157:Unit:=()
def PySem.W.Fast.tw4423785658784264936:Unit:=()
def PySem.W.Fast.tw2714025086734605145:Unit:=()
def PySem.W.Fast.tw3792885131361126403:Unit:=()
def PySem.W.Fast.tw2634026227318231671:Unit:=()
def PySem.W.Fast.tw3353742446518825493:Unit:=()
def PySem.W.Fast.tw2217788683394627382:Unit:=()
def PySem.W.Fast.tw12705826700521281352:Unit:=()
def PySem.W.Fast.tw11999920437832134661:Unit:=()
def PySem.W.Fast.tw14551910689289929412:Unit:=()
def PySem.W.Fast.tw2959779196951942223:Unit:=()
def PySem.W.Fast.tw1481402870749751875:Unit:=()
def PySem.W.Fast.tw5922395696247640575:Unit:=()
def PySem.W.Fast.tw12379830941358168809:Unit:=()
def PySem.W.Fast.tw5879400965408613233:Unit:=()
def PySem.W.Fast.tw11937659497859677172:Unit:=()
def PySem.W.Fast.tw11852374921299247387:Unit:=()
def PySem.W.Fast.tw3074426665507535194:Unit:=()
def PySem.W.Fast.tw4648832395340882839:Unit:=()
def PySem.W.Fast.tw17766308467524785969:Unit:=()
def PySem.W.Fast.tw12814979614580614111:Unit:=()
def PySem.W.Fast.tw10172189394803240769:Unit:=()
def PySem.W.Fast.tw3707412957102884625:Unit:=()
def PySem.W.Fast.tw7610937703114074746:Unit:=()
def PySem.W.Fast.tw8783287792565746920:Unit:=()
def PySem.W.Fast.tw17076479941586124491:Unit:=()
def PySem.W.Fast.tw17240866512630355407:Unit:=()
def PySem.W.Fast.tw7003009011992557741:Unit:=()
def PySem.W.Fast.tw9372325608550694580:Unit:=()
def PySem.W.Fast.tw1167642428612533894:Unit:=()
def PySem.W.Fast.tw18191546477366240230:Unit:=()
def PySem.W.Fast.tw15985774804126526896:Unit:=()
def PySem.W.Fast.tw5034430009155702963:Unit:=()
def PySem.W.Fast.tw4305533147148054222:Unit:=()
def PySem.W.Fast.tw17073936939827610255:Unit:=()
def PySem.W.Fast.tw7406400317331122400:Unit:=()
def PySem.W.Fast.tw407974345442494695:Unit:=()
def PySem.W.Fast.tw5304643350333457855:Unit:=()
def PySem.W.Fast.tw10285167897594231814:Unit:=()
def PySem.W.Fast.tw6780533615765634942:Unit:=()
def PySem.W.Fast.tw17899357572157487082:Unit:=()
def PySem.W.Fast.tw10275979539681006879:Unit:=()
def PySem.W.Fast.tw6266607209247080128:Unit:=()
def PySem.W.Fast.tw18135455670028033492:Unit:=()
def PySem.W.Fast.tw15380641125078519684:Unit:=()
def PySem.W.Fast.tw12866533196623732556:Unit:=()
def PySem.W.Fast.tw3717918137674725296:Unit:=()
def PySem.W.Fast.tw15544832386771652558:Unit:=()
def PySem.W.Fast.tw14358500032218711419:Unit:=()
def PySem.W.Fast.tw6409963281992333290:Unit:=()
def PySem.W.Fast.tw9141206482148577208:Unit:=()
def PySem.W.Fast.tw1708380192571147881:Unit:=()
def PySem.W.Fast.tw7545314900190788394:Unit:=()
def PySem.W.Fast.tw2642997241179422322:Unit:=()
def PySem.W.Fast.tw8708391415862216200:Unit:=()
def PySem.W.Fast.tw8676825376122536058:Unit:=()
def PySem.W.Fast.tw4073172369342029634:Unit:=()
def PySem.W.Fast.tw16206702415665342281:Unit:=()
def PySem.W.Fast.tw12412988046792403323:Unit:=()
def PySem.W.Fast.tw12334341241238502166:Unit:=()
def PySem.W.Fast.tw2103585307392821593:Unit:=()
def PySem.W.Fast.tw16637149392635028281:Unit:=()
def PySem.W.Fast.tw1900149434169231933:Unit:=()
def PySem.W.Fast.tw3621972885224911302:Unit:=()
def PySem.W.Fast.tw15671980222914443243:Unit:=()
def PySem.W.Fast.tw702568166848950620:Unit:=()
def PySem.W.Fast.tw5337295091312996755:Unit:=()
def PySem.W.Fast.tw16426161699726418471:Unit:=()
def PySem.W.Fast.tw3289490931852319643:Unit:=()
def PySem.W.Fast.tw14197186992799925258:Unit:=()
def PySem.W.Fast.tw17194430723395496877:Unit:=()
def PySem.W.Fast.tw6293800484324229104:Unit:=()
def PySem.W.Fast.tw16361621635688434041:Unit:=()
def PySem.W.Fast.tw10201119243891312453:Unit:=()
def PySem.W.Fast.tw15811730368399030602:Unit:=()
def PySem.W.Fast.tw3048119615222454640:Unit:=()
def PySem.W.Fast.tw9182201889696747390:Unit:=()
def PySem.W.Fast.tw3215934731599976637:Unit:=()
def PySem.W.Fast.tw1550151056223425771:Unit:=()
def PySem.W.Fast.tw7603390943368067491:Unit:=()
def PySem.W.Fast.tw13643506673723693045:Unit:=()
def PySem.W.Fast.tw4019682290135749312:Unit:=()
def PySem.W.Fast.tw1438243521291356311:Unit:=()
def PySem.W.Fast.tw18256584495268762854:Unit:=()
def PySem.W.Fast.tw6504533564323205030:Unit:=()
def PySem.W.Fast.tw15709771397608649195:Unit:=()
def PySem.W.Fast.tw4478652353552070342:Unit:=()
def PySem.W.Fast.tw9088380414802794739:Unit:=()
def PySem.W.Fast.tw2921001200273490580:Unit:=()
def PySem.W.Fast.tw6818632012355758103:Unit:=()
def PySem.W.Fast.tw2490096449686478962:Unit:=()
def PySem.W.Fast.tw6978514874526567642:Unit:=()
def PySem.W.Fast.tw14812138462862177535:Unit:=()
def PySem.W.Fast.tw17589373113353853261:Unit:=()
def PySem.W.Fast.tw8539110024141939602:Unit:=()
def PySem.W.Fast.tw13712510699515577728:Unit:=()
def PySem.W.Fast.tw7970456111655320460:Unit:=()
def PySem.W.Fast.tw1756613212803384591:Unit:=()
def PySem.W.Fast.tw7468212890669800045:Unit:=()
def PySem.W.Fast.tw5015048947082885711:Unit:=()
def PySem.W.Fast.tw3481560025173150677:Unit:=()
def PySem.W.Fast.tw14671065155722013336:Unit:=()
def PySem.W.Fast.tw15870910281690233353:Unit:=()
def PySem.W.Fast.tw3498388077928762867:Unit:=()
def PySem.W.Fast.tw12052953940592830668:Unit:=()
def PySem.W.Fast.tw11727487118871666384:Unit:=()
def PySem.W.Fast.tw2289723436968483070:Unit:=()
def PySem.W.Fast.tw16943812154180820916:Unit:=()
def PySem.W.Fast.tw4485885774162776599:Unit:=()
def PySem.W.Fast.tw18357473245100069111:Unit:=()
def PySem.W.Fast.tw10167683994409726922:Unit:=()
def PySem.W.Fast.tw3360056436885974468:Unit:=()
def PySem.W.Fast.tw18240413524040410826:Unit:=()
set_option maxRecDepth 100000 in
theorem PySem.Challenge.cw_joinedasks_k17_deeds_refused_holds : PySem.Challenge.rw_joinedasks_k17_deeds_refused.Holds := by
 w_on; o_law; z_head; (case hw=>w_witness2)
 refine My.walkX (fun _=>by kernel_rfl) (My.walk (l:=PySem.Challenge.rw_joinedasks_k17_deeds_refused) rfl rfl (fun w h Y=>Y) ?F)
 case F =>
  intro w mg fa h KX G hmg
  refine' My.all_mk KX G hmg  ?ax_AskError ?ax_NoAsk ?ax_NoBoard ?ax_NoCalls ?ax_NoDeed ?ax_NoHand ?ax_NoNet ?ax_NoNumber ?ax_NoOrder ?ax_NoRow ?ax_NoSettings ?ax_NoSide ?ax_NoTable ?ax_NoText ?ax_NoToken ?ax_NoTree ?ax_TooMany ?ex_AskError ?ex_NoAsk ?ex_NoBoard ?ex_NoCalls ?ex_NoDeed ?ex_NoHand ?ex_NoNet ?ex_NoNumber ?ex_NoOrder ?ex_NoRow ?ex_NoSettings ?ex_NoSide ?ex_NoTable ?ex_NoText ?ex_NoToken ?ex_NoTree ?ex_TooMany   ?kd  ?h1 ?h2 ?h3 ?h4 ?h5 ?h6 ?h7 ?h8 ?h9 ?h10 ?h11 ?h12 ?h13 ?h14 ?h15 ?h16 ?h17 ?h18 ?h19 ?h20 ?h21 ?h22 ?h23 ?h24 ?h25 ?h26 ?h27 ?h28 ?h29 ?h30 ?h31 ?h32 ?h33 ?h34 ?h35 ?h36 ?ga_AT_ONCE ?ga_LOOK ?gl_LOOK ?ga_PIECE ?ga_ValueError ?ga_zip ?z_abs ?z_len ?z_max ?z_min ?z_divmod ?z_repr ?z_isinstance ?z_all ?z_range ?z_int ?z_bool ?z_str ?z_tuple ?z_list ?z_dict
  (case ax_AskError=>k_is)
  (case ax_NoAsk=>k_is)
  (case ax_NoBoard=>k_is)
  (case ax_NoCalls=>k_is)
  (case ax_NoDeed=>k_is)
  (case ax_NoHand=>k_is)
  (case ax_NoNet=>k_is)
  (case ax_NoNumber=>k_is)
  (case ax_NoOrder=>k_is)
  (case ax_NoRow=>k_is)
  (case ax_NoSettings=>k_is)
  (case ax_NoSide=>k_is)
  (case ax_NoTable=>k_is)
  (case ax_NoText=>k_is)
  (case ax_NoToken=>k_is)
  (case ax_NoTree=>k_is)
  (case ax_TooMany=>k_is)
  (case ex_AskError=>kernel_rfl)
  (case ex_NoAsk=>kernel_rfl)
  (case ex_NoBoard=>kernel_rfl)
  (case ex_NoCalls=>kernel_rfl)
  (case ex_NoDeed=>kernel_rfl)
  (case ex_NoHand=>kernel_rfl)
  (case ex_NoNet=>kernel_rfl)
  (case ex_NoNumber=>kernel_rfl)
  (case ex_NoOrder=>kernel_rfl)
  (case ex_NoRow=>kernel_rfl)
  (case ex_NoSettings=>kernel_rfl)
  (case ex_NoSide=>kernel_rfl)
  (case ex_NoTable=>kernel_rfl)
  (case ex_NoText=>kernel_rfl)
  (case ex_NoToken=>kernel_rfl)
  (case ex_NoTree=>kernel_rfl)
  (case ex_TooMany=>kernel_rfl)
  (case kd=>exact L3.kd17_of (by kernel_rfl) (fun C h=>by simp only [List.mem_cons,List.not_mem_nil,or_false] at h; rcases h with rfl | rfl | rfl | rfl | rfl | rfl | rfl | rfl | rfl | rfl | rfl | rfl | rfl | rfl | rfl | rfl | rfl <;> exact ⟨by kernel_rfl,by kernel_rfl,by kernel_rfl,by kernel_rfl,by kernel_rfl⟩))
  (case h1=>exact ⟨by k_is,L2.fun_mk (by k_is) (by k_is) (by k_is)⟩)
  (case h2=>exact ⟨by k_is,L2.fun_mk (by k_is) (by k_is) (by k_is)⟩)
  (case h3=>exact ⟨by k_is,L2.fun_mk (by k_is) (by k_is) (by k_is)⟩)
  (case h4=>exact ⟨by k_is,L2.fun_mk (by k_is) (by k_is) (by k_is)⟩)
  (case h5=>exact ⟨by k_is,L2.fun_mk (by k_is) (by k_is) (by k_is)⟩)
  (case h6=>exact ⟨by k_is,L2.fun_mk (by k_is) (by k_is) (by k_is)⟩)
  (case h7=>exact ⟨by k_is,L2.fun_mk (by k_is) (by k_is) (by k_is)⟩)
  (case h8=>exact ⟨by k_is,L2.fun_mk (by k_is) (by k_is) (by k_is)⟩)
  (case h9=>exact ⟨by k_is,L2.fun_mk (by k_is) (by k_is) (by k_is)⟩)
  (case h10=>exact ⟨by k_is,L2.fun_mk (by k_is) (by k_is) (by k_is)⟩)
  (case h11=>exact ⟨by k_is,L2.fun_mk (by k_is) (by k_is) (by k_is)⟩)
  (case h12=>exact ⟨by k_is,L2.fun_mk (by k_is) (by k_is) (by k_is)⟩)
  (case h13=>exact ⟨by k_is,L2.fun_mk (by k_is) (by k_is) (by k_is)⟩)
  (case h14=>exact ⟨by k_is,L2.fun_mk (by k_is) (by k_is) (by k_is)⟩)
  (case h15=>exact ⟨by k_is,L2.fun_mk (by k_is) (by k_is) (by k_is)⟩)
  (case h16=>exact ⟨by k_is,L2.fun_mk (by k_is) (by k_is) (by k_is)⟩)
  (case h17=>exact ⟨by k_is,L2.fun_mk (by k_is) (by k_is) (by k_is)⟩)
  (case h18=>exact ⟨by k_is,L2.fun_mk (by k_is) (by k_is) (by k_is)⟩)
  (case h19=>exact ⟨by k_is,L2.fun_mk (by k_is) (by k_is) (by k_is)⟩)
  (case h20=>exact ⟨by k_is,L2.fun_mk (by k_is) (by k_is) (by k_is)⟩)
  (case h21=>exact ⟨by k_is,L2.fun_mk (by k_is) (by k_is) (by k_is)⟩)
  (case h22=>exact ⟨by k_is,L2.fun_mk (by k_is) (by k_is) (by k_is)⟩)
  (case h23=>exact ⟨by k_is,L2.fun_mk (by k_is) (by k_is) (by k_is)⟩)
  (case h24=>exact ⟨by k_is,L2.fun_mk (by k_is) (by k_is) (by k_is)⟩)
  (case h25=>exact ⟨by k_is,L2.fun_mk (by k_is) (by k_is) (by k_is)⟩)
  (case h26=>exact ⟨by k_is,L2.fun_mk (by k_is) (by k_is) (by k_is)⟩)
  (case h27=>exact ⟨by k_is,L2.fun_mk (by k_is) (by k_is) (by k_is)⟩)
  (case h28=>exact ⟨by k_is,L2.fun_mk (by k_is) (by k_is) (by k_is)⟩)
  (case h29=>exact ⟨by k_is,L2.fun_mk (by k_is) (by k_is) (by k_is)⟩)
  (case h30=>exact ⟨by k_is,L2.fun_mk (by k_is) (by k_is) (by k_is)⟩)
  (case h31=>exact ⟨by k_is,L2.fun_mk (by k_is) (by k_is) (by k_is)⟩)
  (case h32=>exact ⟨by k_is,L2.fun_mk (by k_is) (by k_is) (by k_is)⟩)
  (case h33=>exact ⟨by k_is,L2.fun_mk (by k_is) (by k_is) (by k_is)⟩)
  (case h34=>exact ⟨by k_is,L2.fun_mk (by k_is) (by k_is) (by k_is)⟩)
  (case h35=>exact ⟨by k_is,L2.fun_mk (by k_is) (by k_is) (by k_is)⟩)
  (case h36=>exact ⟨by k_is,L2.fun_mk (by k_is) (by k_is) (by k_is)⟩)
  (case ga_AT_ONCE=>k_is)
  (case ga_LOOK=>k_is); (case gl_LOOK=>k_is)
  (case ga_PIECE=>k_is)
  (case ga_ValueError=>k_is)
  (case ga_zip=>k_is)
  (case z_abs=>k_is); (case z_len=>k_is); (case z_max=>k_is); (case z_min=>k_is); (case z_divmod=>k_is); (case z_repr=>k_is); (case z_isinstance=>k_is); (case z_all=>k_is); (case z_range=>k_is); (case z_int=>k_is); (case z_bool=>k_is); (case z_str=>k_is); (case z_tuple=>k_is); (case z_list=>k_is); (case z_dict=>k_is)
