import PyProof.Rows.All
import Wide.All
import OpenK.AllK
import Wide.FinOn
import Lean
import PyProof.EqAt
import PyProof.EqKinds
import PyProof.TupleCall
import PyProof.NeKinds
import PyProof.Rows.All
import Wide.All
import OpenK.AllK
import Wide.FinOn
import PyProof.EqAt
import PyProof.EqKinds
import PyProof.TupleCall
import PyProof.NeKinds
import PyProof.ReprRoads
import PyProof.ReprLen
import PyProof.Rows.RegStrFacts
import PyProof.Draws
import PyProof.EnumStmt
import PyProof.ZipIter
import PyProof.ListNew
import PyProof.TupleOfGen
import PyProof.ListRange
import PyProof.Rows.Range3
import PyProof.SumWalkG
import PyProof.AutoSeq1
import PyProof.Cells
import PyProof.AutoListH
import PyProof.ExcBaseAll.ValueError
import PyProof.ExcAttrAll.ValueError
import PyProof.RulesAs
import PyProof.NsDelKeeps
import KE.KDictList
import PyProof.DictCompW
import PyProof.DictItems
import PyProof.Rows.SetFrom
import PyProof.SetRoads
import PyProof.IsiH_list
import PyProof.AttrMiss
import KE.KDictOf
import KE.KSortTup
import PyProof.DictUpdate
import PyProof.LongRange
import PySem.Challenge.RW_joinedasks_k52_whole_as_one_after_anothe
open PySem renaming wpAny_bind→aA,wpAny_pure→aF,mainGlobals→bI,starEach→bP,wpAny_newObj_type→bS,wpAny_holding→bT,wpAny_mono→cB,bootBuiltins→cF,wpAny_call_entry→cK,wpAny_callSpecial?_slot→cT,wpAny_truthy_bool→cW,codeAny_builtin→dA,mem_of_lookup→dI,foldedSetIterable→dZ,wpAny_standAt→eF,sizeLine_eq→eQ,compareOp→eY,wpAny_pyIter_list→fe,assignEach→fh,letOwnedTupleGo→fo,binaryOp→fw,wpAny_askSetting→fF,wpAny_typeOf→fK,wpAny_setState_of→fM,behindInMarks→fN,wpAny_rule→fO,wpAny_setEntries_of→fU,backTo→fW,codeAny_mono→gc,wpAny_Call_Name_kw→ge,tupleKind_room_in1→gk,tupleKind→gF,builtinLookup_eq_fast→gH,wpAny_setField→gR,firstArgMember→gS,assignInOrder→ie,attributeBase→ig,wpAny_comprehension_free→im,wpAny_newList→io,plainId_quiet→ip,wpAny_passesOwn→iq,keywordEach→ix,wpAny_field→iA,sliceBounds→iB,bindName→iF,wpAny_bindName→iG,call_meetsIn→iP,pickOrder→iX,assign→i5,typeLookup_type→i8,getItem→kg,scanBound→ki,wpAny_pyIter_tuple→km,wpAny_runValue→kA,wpAny_of_eq→kM,fits_of_scanBound→kQ,wpAny_attempt→kT,getMethod→kU,backToKw→kW,noFill_tuple_add→kX,wpAny_isInstance→lm,IsPart→lu,call_meets→lv,intKind_is→lD,wpAny_execs_nil→lE,wpAny_specialOf→lO,codeAny_of_tree→lQ,isTrue→lR,wpAny_seqItems→lU,relayAll→lZ,isSubtype_type→l5,callerA→ma,wpAny_load→me,Within→mh
open List renaming mem_singleton→aB,length_map→aG,getElem?_eq_getElem→aH,length_append→aI,getD_eq_getElem?_getD→aJ,mem_cons_of_mem→aK,mem_append_right→aM,size_toArray→aO,mem_append→aP,range→aR,mem_cons→aS,mem_cons_self→aU,mem_range→aV,mem_map→aW,getElem?_eq_some_iff→aZ,append_nil→bB,map_append→bC,append_assoc→bD,mem_of_getElem?→bF,replicate→bL,getElem?_map→bN,mem_append_left→bR,map_map→bZ,length_range→cD,nodup_cons→cJ,getElem?_eq_none→cO,take_length→cU,map_cons→cX,length_take→dB,lookup_cons→dD,map_congr_left→dM,take_succ_eq_append_getElem→dO,range_succ→dU,length_cons→dW,getElem_mem→dX,not_mem_nil→dY,nodup_append→eD,filter_append→eG,all_eq_true→eI,foldl_append→eM,pairwise_map→eN,replicate_succ→eO,foldl_cons→eR,find?_cons→eS,getElem?_append_left→eV,take_append_drop→eX,mem_flatMap→fE,drop_eq_getElem_cons→fJ,flatMap_append→fT,filter_cons→fZ,eq_nil_of_length_eq_zero→f',toArray→gn,length_set→gA,length_nil→gB,length_replicate→gG,flatten_cons→gI,count_append→gK,idxOf_lt_length_of_mem→gM,getElem?_concat_length→gN,lookup→gP,getElem?_append_right→gQ,mem_iff_getElem→gW,length_drop→gZ,mem_nil_iff→hV,mem_or_eq_of_mem_set→ia,length→iy,length_eq_zero_iff→iC,map_nil→iL,nodup_nil→iO,ext_getElem?→iQ,lookup_cons_self→iS,getElem_inj→iV,any_eq_true→iW,filterMap_cons→kb,getElem?_range→kf,count_pos_iff→kC,getElem_drop→kO,set_comm→kR,any_cons→kS,cons_append→lc,map_flatMap→li,of_mem_zip→lH,nil_append→lJ
open PySem.Heap renaming get?_push_of_some→aD,get?_push_size→aL,lt_size→aQ,get?_update_self→cN,size_push→dQ,get?_update_other→eK,SameBut→fA,ExtBut→kL
open Nat renaming le_refl→aE,lt_of_lt_of_le→aN,ne_of_lt→aT,zero_le→aX,le_trans→bM,le_of_lt→cG,not_lt_zero→cR,lt_succ_self→cS,lt_irrefl→cV,two_pow_pos→dS,le_succ→eB,lt_succ_of_lt→eC,ne_of_gt→eZ,pow_le_pow_right→fc,mod_lt→ft,lt_trans→gj,le_succ_of_le→gJ,mul_le_mul_right→gV,succ_le_succ→hG,lt_of_le_of_lt→kz,lt_or_eq_of_le→kE,lt_trichotomy→kN,le_of_not_lt→kY,lt_of_not_le→kZ,div_eq_of_lt→lj,zero_add→lA,succ_pos→lC,add_comm→mm,zero_mul→mo,sub_self→mq
open Or renaming inl→aY,inr→lx
open PySem.W renaming findIn→bA,mg_none_of→bG,keepIn→bQ,fnOf→bU,nsIn→bV,codeIn→cC,isFn→cP,kia_one→cQ,emptyDict→ez,instObj→fg,mg_of→fD,plainGet→gY,hasDictIn→iH,plainGet_of→ke,lookIn→kq,kitOne→kr,callWith_K→ku,methodObj→kF,plainOver→kJ,kitx_list→kK,takerIn→lF,makesIn→lG,OpenLaw→lK,WalkO→md
open Bool renaming false_ne_true→bE,and_eq_true→cE,false_eq_true→cY,eq_iff_iff→eP,eq_false_iff→iR,false_and→lS,and_false→lT
open Option.some renaming inj→bH
open Array renaming length_toList→bJ,getElem?_eq_getElem→bO,getElem?_toList→eE,getD_eq_getD_getElem?→eJ,getElem?_eq_none→gy,getD→lB
open PySem.Value renaming ref→bK,none→cA,type→cI,int→fV,bool→kj,str→l9,float→mr
open Int renaming toNat_natCast→bW,natCast_nonneg→cH,toNat_of_nonneg→fz,max_eq_right→fY,le_of_lt→gi,zero_add→gu,ofNat_le→gx,lt_of_le_of_lt→gz,max_eq_left→gC,min_eq_left→gD,fdiv_eq_ediv_of_nonneg→gO,min_eq_right→hJ,le_trans→hU,emod_lt_of_pos→iw,ofNat→iE,le_max_left→i6,emod_nonneg→i9,mul_nonneg→kD,le_total→ly,min_le_left→lL,ediv_nonneg→lP,ediv_one→mj
open PySem.Builtin renaming bitXor→bX,bitAnd→cZ,bitOr→fP,sorted→lV
open PySem.F renaming plainAttrs_list→bY,slot_list_append→dG,type_list_append→dH,slot_dict_get→eW,entry_dict_get→gm,args_tuple_add_2→ii,entry_tuple_add→iz,plainAttrs_dict→iD,slot_tuple_add→iK,slot_list_pop→iT,type_list_pop→iU
open PySem.Obj renaming mapSeq→cL
open PyProof.Rows renaming callWith_type1→cM,slot_tuple_getitem→eU,assignInOrder_cons→fG,IntsAre→fL,step_dedup→gU,listUpdate_at→iY,listItems_at→kh,AllBare→kG,assignInOrder_nil→kH,envOfC→lq,get?_update_seq→lM,entry_list_sort→lN,slot_list_sort→lW,args_list_sort→lY,boot_range→mf
open PySem.Heap.SameBut renaming update→dJ
open PySem.Builtin.List renaming listExtendWith→dN,listLengthHint→fC,listTooLong→fS
open PySem.SetTable renaming below→dR,grown→gX
open PySem.PyData renaming shownAll→fq,showableAll→ir,hasDictAll→iN
open Option renaming map_eq_some_iff→fB,isSome_iff_exists→fQ,map_some→gE,getD_some→k9
open PySem.Builtin.Slice renaming slicePlaces→fH,sliceAdjust→hX
open PySem.Builtin.SmallTypes renaming nextOf→fI
open PySem.Builtin.Tuple renaming tupleExact→fR
open PySem.Builtin.Range renaming rangeSize→fX
open PySem.Calls renaming spliced_cons→ga,call_function_entry→hZ,spliced_nil→iJ,callWith_builtin→iM,evalArgs_plain→iZ
open PySem.Str renaming ofString→gh
open PySem.SetTable.below renaming go→gL
open Classical renaming byContradiction→ib
open Prod renaming ext→ky
open PySem.Code renaming quiet_builtin→kB,isFrame→mi
open PySem.SetTable.probe renaming go→kP
set_option Elab.async false
set_option linter.all false
set_option maxRecDepth 100000
set_option maxHeartbeats 0
abbrev FG7:=PySem.W.Frag
abbrev VS7:=PySem.Value->PySem.Shared->Prop
namespace L2
open PySem PySem.Spec PyProof.Rows
abbrev Key:=Sum Int Str
noncomputable def XA:Key->Value->Bool
 |.inl k,v=>Value.isInt k v
 |.inr x,v=>Value.isStrOf x v
noncomputable def zaM(w:World):Key->Int
 |.inl k=>hashInt k
 |.inr x=>hashStr w x
theorem yj:∀{k:Key} {v:Value},XA k v=true->(∃i t,k=Sum.inl i/\v=fV i t)\/(∃x t,k=Sum.inr x/\v=l9 x t)
 |.inl i,v,h=>by
  obtain⟨t,e⟩:=Value.isInt_shape (k:=i) (v:=v) h;exact .inl ⟨i,t,rfl,e⟩
 |.inr x,v,h=>by
  obtain⟨t,e⟩:=Value.isStrOf_shape (x:=x) (v:=v) h;exact .inr ⟨x,t,rfl,e⟩
theorem WH(i:Int)(t:Tok):XA (.inl i) (.int i t)=true:=by simp[XA,Value.isInt]
theorem WI(x:Str)(t:Tok):XA (.inr x) (.str x t)=true:=by simp[XA,Value.isStrOf]
theorem Qh(a b:Int):decide ((Sum.inl a:Key)=Sum.inl b)=(a == b):=by
 by_cases e:a=b
 ·subst e;simp
 ·have h:¬(Sum.inl a:Key)=Sum.inl b:=fun q=>e (Sum.inl.inj q);rw[decide_eq_false h];exact(beq_eq_false_iff_ne.mpr e).symm
theorem Qi(a b:Str):decide ((Sum.inr a:Key)=Sum.inr b)=decide (a=b):=by
 by_cases e:a=b
 ·subst e;simp
 ·have h:¬(Sum.inr a:Key)=Sum.inr b:=fun q=>e (Sum.inr.inj q);rw[decide_eq_false h,decide_eq_false e]
theorem Qj(a:Int)(b:Str):decide ((Sum.inl a:Key)=Sum.inr b)=false:=decide_eq_false (fun q=>nomatch q)
theorem Qk(a:Str)(b:Int):decide ((Sum.inr a:Key)=Sum.inl b)=false:=decide_eq_false (fun q=>nomatch q)
noncomputable def zO(prog:Program)(w:World):PySem.KeyKind prog w Key where
 is:=XA
 hash:=zaM w
 inj:=fun v a b ha hb=>by
  rcases yj ha with ⟨i,t,rfl,rfl⟩|⟨x,t,rfl,rfl⟩
  ·rcases yj hb with ⟨j,u,rfl,e⟩|⟨y,u,rfl,e⟩
   ·injection e with e1 _;rw[e1]
   ·exact nomatch e
  ·rcases yj hb with ⟨j,u,rfl,e⟩|⟨y,u,rfl,e⟩
   ·exact nomatch e
   ·injection e with e1 _;rw[e1]
 byValue:=fun k v h=>by
  rcases yj h with ⟨i,t,rfl,rfl⟩|⟨x,t,rfl,rfl⟩ <;> rfl
 pyHash:=fun hv h=>by
  rcases yj hv with ⟨i,t,rfl,rfl⟩|⟨x,t,rfl,rfl⟩
  ·exact wpAny_pyHash_int h
  ·exact wpAny_pyHash_str h
 eqBool:=fun hu hv h=>by
  rcases yj hu with ⟨i,t,rfl,rfl⟩|⟨x,t,rfl,rfl⟩
  ·rcases yj hv with ⟨j,u,rfl,rfl⟩|⟨y,u,rfl,rfl⟩
   ·rw[Qh] at h;exact wpAny_eqBool_int h
   ·rw[Qj] at h;exact SeqAt.EqAt.int_str i t y u _ _ _ _ h
  ·rcases yj hv with ⟨j,u,rfl,rfl⟩|⟨y,u,rfl,rfl⟩
   ·rw[Qk] at h;exact SeqAt.EqAt.str_int x t j u _ _ _ _ h
   ·rw[Qi] at h;exact wpAny_eqBool_str h
 «strs»:=fun k x t v h=>by
  rcases yj h with ⟨i,u,rfl,e⟩|⟨y,u,rfl,e⟩
  ·exact nomatch e
  ·injection e with e1 _
   subst e1;cases v <;> rfl
theorem ZZ(prog:Program)(w:World)(i:Int)(t:Tok):(zO prog w).is (.inl i) (.int i t)=true:=WH i t
theorem Z0(prog:Program)(w:World)(x:Str)(t:Tok):(zO prog w).is (.inr x) (.str x t)=true:=WI x t
end L2
namespace L2
open PySem PySem.Spec PyProof.Rows
inductive V where
 |non|bl (b:Bool)|int (i:Int)|str (x:Str)|byt (b:Array UInt8)|flt (b:UInt64)|ref (a:Addr)|ty (n:String)
 deriving DecidableEq
def z8:V->Value->Prop
 |.non,u=>u=cA
 |.bl b,u=>u=kj b
 |.int i,u=>∃t,u=fV i t
 |.str x,u=>∃t,u=l9 x t
 |.byt b,u=>∃t,u=Value.bytes b t
 |.flt b,u=>∃t,u=mr b t
 |.ref a,u=>u=bK a
 |.ty n,u=>u=cI n
abbrev zZ:List V->List Value->Prop:=Paired z8
theorem zZ.length{xs:List V}{us:List Value}(r:zZ xs us):xs.length=us.length:=Paired.length r
theorem zZ.get:∀{xs:List V} {us:List Value} {i:Nat} {x:V},zZ xs us->xs[i]?=some x->∃u,us[i]?=some u/\z8 x u
 |_,_,_,_,.nil,e=>by simp at e
 |_,_,0,_,.cons r _,e=>by simp at e;subst e;exact⟨_,rfl,r⟩
 |_,_,i+1,x,.cons _ t,e=>by
  obtain⟨u,h1,h2⟩:=zZ.get (i:=i) (x:=x) t (by simpa using e);exact⟨u,by simpa using h1,h2⟩
theorem zZ.set{x:V}{u:Value}(r:z8 x u):∀{xs:List V} {us:List Value} (i:Nat),zZ xs us->zZ (xs.set i x) (us.set i u)
 |_,_,_,.nil=>.nil
 |_,_,0,.cons _ t=>.cons r t
 |_,_,i+1,.cons q t=>.cons q (zZ.set r i t)
theorem zZ.append:∀{xs ys:List V} {us ws:List Value},zZ xs us->zZ ys ws->zZ (xs++ys) (us++ws)
 |_,_,_,_,.nil,s=>s
 |_,_,_,_,.cons r t,s=>.cons r (zZ.append t s)
theorem zZ.take:∀{xs:List V} {us:List Value} (n:Nat),zZ xs us->zZ (xs.take n) (us.take n)
 |_,_,0,_=>.nil
 |_,_,_+1,.nil=>.nil
 |_,_,n+1,.cons r t=>.cons r (zZ.take n t)
theorem zZ.drop:∀{xs:List V} {us:List Value} (n:Nat),zZ xs us->zZ (xs.drop n) (us.drop n)
 |_,_,0,r=>r
 |_,_,_+1,.nil=>.nil
 |_,_,n+1,.cons _ t=>zZ.drop n t
def jp:Option V->Option Value->Prop
 |some v,some u=>z8 v u
 |none,none=>True
 |_,_=>False
def KV{κ:Type}:List (κ×V)->List (κ×Value)->Prop:=Paired fun(p:κ×V) (q:κ×Value)=>p.1=q.1/\z8 p.2 q.2
noncomputable def kV:Key->V
 |.inl i=>.int i
 |.inr x=>.str x
inductive HO where
 /-- a list -/
 |lst (xs:List V)
 /-- a tuple (never changes) -/
 |tup (xs:List V)
 /-- a dict whose keys are ints and texts;one whose keys are tuples of ints and texts (the empty one is both) -/
 |dK (kvs:List (Key×V))|dT (kvs:List (List Key×V))
 /-- a set of ints: its members,its size -/
 |set (S:Int->Bool) (n:Nat)
 /-- an instance of the class at C,its dict at dx,its attributes -/
 |ins (C dx:Addr) (fs:List (Str×V))
 /-- the dict of the instance at x -/
 |own (x:Addr)
 /-- the dict of an exception -/
 |xd (fs:List (Str×V))
 /-- a bound method,f of x -/
 |met (f x:Addr)
 /-- a range object lo,lo+1,.. below hi -/
 |rng (lo hi:Int)
 /-- a thing that is known to the object (the script;a dict while a loop walks it): read,never written while it is so -/
 |frz (o:Obj) (u:HO)
 /-- a code object's table -/
 |tbl (ps:Array Value)
 /-- any other thing,by what is true of its one object (a def of one's own: SetO a S n:=HO.ext fun h=>..) -/
 |ext (φ:Heap->Prop)
abbrev Hp:=Addr->Option HO
noncomputable def upd(H:Hp)(a:Addr)(o:HO):Hp:=fun b=>if b=a then some o else H b
theorem zd{H:Hp}{a:Addr}{o:HO}:upd H a o a=some o:=by unfold upd;rw[if_pos rfl]
theorem zB{H:Hp}{a b:Addr}{o:HO}(h:b≠a):upd H a o b=H b:=by unfold upd;rw[if_neg h]
theorem JE{H:Hp}{a b:Addr}{o u:HO}(h:H a=some o)(h':H b=some u)(d:o≠u):a≠b:=by
 intro e;subst e;rw[h] at h';exact d (bH h')
theorem zF{H:Hp}{a b:Addr}{o:HO}(h:H a=some o)(h':H b=none):a≠b:=by
 intro e;subst e;rw[h] at h';cases h'
section
variable(P:Program)(w:World)
noncomputable def yf(H:Hp)(h:Heap)(a:Addr):HO->Prop
 |.lst xs=>xs.length<=sizeLine/\∃(its:List Value) (n:Nat),zZ xs its/\h.get? a=some { cls:=.type "list",data:=.seq its.toArray n }
 |.tup xs=>xs.length<=sizeLine/\∃its:List Value,zZ xs its/\IsTup h a its.toArray
 |.dK kvs=>kvs.length<=sizeLine/\(a == sysModules)=false/\∃vs,KV kvs vs/\h.DictOf (zO P w) a vs
 |.dT kvs=>kvs.length<=sizeLine/\(a == sysModules)=false/\∃xs:List (List Key×Addr×Value),
   Paired (fun(p:List Key×V) (q:List Key×Addr×Value)=>p.1=q.1/\H q.2.1=some (.tup (p.1.map kV))/\z8 p.2 q.2.2) kvs xs∧
   ∃o es ep,h.get? a=some o/\o.ExactDict/\o.data=.dict es ep/\es.toList=xs.map (entryOfKey (gF (zO P w)))/\(xs.map (·.1)).Nodup
 |.set S n=>h.SetOf (intKind P w) a S n
 |.ins C dx fs=>H dx=some (.own a)/\fs.length<=1000/\dx≠a/\h.get? a=some (fg C dx)∧
   ∃mA,h.Ns1 dx mA/\(∀f,jp (fs.lookup f) (mA f))/\mh mA (fs.map (·.1))
 |.own _=>∃o,h.get? a=some o
 |.xd fs=>∃mA,h.Ns1 a mA/\∀f,jp (fs.lookup f) (mA f)
 |.rng lo hi=>∃t u v,h.get? a=some { cls:=.type "range",data:=.fields #[.int lo t,.int hi u,.int 1 v] }
 |.frz o u=>h.get? a=some o/\yf H h a u
 |.tbl ps=>h.get? a=some { cls:=.none,data:=.fields ps }
 |.met f x=>h.get? a=some (kF (.ref f) (.ref x))
 |.ext φ=>φ h/\(∃o,h.get? a=some o)/\∀h1 h2:Heap,φ h1->(∀o,h1.get? a=some o->h2.get? a=some o)->φ h2
def HOk(H:Hp)(h:Heap):Prop:=∀a o,H a=some o->yf P w H h a o
end
section
variable{P:Program}{w:World}{H H':Hp}{h h':Heap}{a:Addr}{o:HO}
theorem yf.lt(x:yf P w H h a o):a<h.objs.size:=by
 cases o with
 |lst xs=>obtain⟨_,_,_,_,e⟩:=x;exact aQ e
 |tup xs=>obtain⟨_,_,_,p⟩:=x;exact p.lt
 |dK kvs=>obtain⟨_,_,_,_,o,_,_,e,_⟩:=x;exact aQ e
 |dT kvs=>obtain⟨_,_,_,_,o,_,_,e,_⟩:=x;exact aQ e
 |set S n=>obtain⟨o,_,_,_,e,_⟩:=x;exact aQ e
 |ins C dx fs=>obtain⟨_,_,_,e,_⟩:=x;exact aQ e
 |own y=>obtain⟨_,e⟩:=x;exact aQ e
 |xd fs=>obtain⟨_,⟨_,_,_,e,_⟩,_⟩:=x;exact aQ e
 |rng lo hi=>obtain⟨_,_,_,e⟩:=x;exact aQ e
 |frz ob u=>obtain⟨e,_⟩:=x;exact aQ e
 |tbl ps=>exact aQ (show h.get? a=some _ from x)
 |met f y=>exact aQ (show h.get? a=some _ from x)
 |ext φ=>obtain⟨_,⟨_,e⟩,_⟩:=x;exact aQ e
theorem Paired.mapP{α β:Type}{F G:α->β->Prop}:∀{l₁:List α} {l₂:List β},Paired F l₁ l₂->(∀a b,F a b->G a b)->Paired G l₁ l₂
 |_,_,.nil,_=>.nil
 |_,_,.cons r t,f=>.cons (f _ _ r) (Paired.mapP t f)
theorem yf.stay(x:yf P w H h a o)(k:∀b u,(b=a\/H b=some (.own a))->h.get? b=some u->h'.get? b=some u)
  (ho:∀b,H b=some (.own a)->H' b=some (.own a)) (ht:∀b xs,H b=some (.tup xs)->H' b=some (.tup xs)):yf P w H' h' a o:=by
 induction o with
 |lst xs=>obtain⟨z,its,n,r,e⟩:=x;exact⟨z,its,n,r,k _ _ (.inl rfl) e⟩
 |tup xs=>obtain⟨z,its,r,ob,e,c⟩:=x;exact⟨z,its,r,ob,k _ _ (.inl rfl) e,c⟩
 |dK kvs=>obtain⟨z,y,vs,r,ob,es,ep,e,c⟩:=x;exact⟨z,y,vs,r,ob,es,ep,k _ _ (.inl rfl) e,c⟩
 |dT kvs =>
  obtain⟨z,y,xs,r,ob,es,ep,e,c⟩:=x;exact⟨z,y,xs,Paired.mapP r fun p q z=>⟨z.1,ht _ _ z.2.1,z.2.2⟩,ob,es,ep,k _ _ (.inl rfl) e,c⟩
 |set S n=>obtain⟨ob,es,ep,t,e,c⟩:=x;exact⟨ob,es,ep,t,k _ _ (.inl rfl) e,c⟩
 |ins C dx fs =>
  obtain⟨d,z,ne,e,mA,⟨od,es,ep,e2,c⟩,r⟩:=x;exact⟨ho _ d,z,ne,k _ _ (.inl rfl) e,mA,⟨od,es,ep,k _ _ (.inr d) e2,c⟩,r⟩
 |own y=>obtain⟨ob,e⟩:=x;exact⟨ob,k _ _ (.inl rfl) e⟩
 |xd fs=>obtain⟨mA,⟨od,es,ep,e,c⟩,r⟩:=x;exact⟨mA,⟨od,es,ep,k _ _ (.inl rfl) e,c⟩,r⟩
 |rng lo hi=>obtain⟨t,u,v,e⟩:=x;exact⟨t,u,v,k _ _ (.inl rfl) e⟩
 |frz ob u ih=>obtain⟨e,q⟩:=x;exact⟨k _ _ (.inl rfl) e,ih q⟩
 |tbl ps =>
  have e:h.get? a=some { cls:=.none,data:=.fields ps }:=x;show h'.get? a=some { cls:=.none,data:=.fields ps };exact k a _ (.inl rfl) e
 |met f y =>
  have e:h.get? a=some (kF (.ref f) (.ref y)):=x;show h'.get? a=some (kF (.ref f) (.ref y));exact k a _ (.inl rfl) e
 |ext φ=>obtain⟨p,⟨o,e⟩,st⟩:=x;exact⟨st _ _ p fun o q=>k _ _ (.inl rfl) q,⟨o,k _ _ (.inl rfl) e⟩,st⟩
theorem HOk.lt(x:HOk P w H h)(e:H a=some o):a<h.objs.size:=(x a o e).lt
theorem HOk.fresh(x:HOk P w H h)(e:h.objs.size<=a):H a=none:=by
 cases q:H a with
 |none=>rfl
 |some u=>exact absurd (aN (x.lt q) e) (cV _)
theorem HOk.kept(x:HOk P w H h)(k:∀b u,h.get? b=some u->h'.get? b=some u):HOk P w H h':=fun a o e =>
 (x a o e).stay (fun b u _ q=>k b u q) (fun _ q=>q) fun _ _ q=>q
theorem HOk.laid(x:HOk P w H h)(k:∀b u,h.get? b=some u->h'.get? b=some u)(hp:h.objs.size<=a)(new:yf P w (upd H a o) h' a o):HOk P w (upd H a o) h':=fun b u e=>by
 have hn:=x.fresh hp;by_cases hb:b=a
 ·subst hb;rw[zd] at e;cases e;exact new
 ·rw[zB hb] at e;exact(x b u e).stay (fun c v _ q=>k c v q) (fun c q=>by rw[zB (zF q hn)];exact q) fun c xs q=>by rw[zB (zF q hn)];exact q
end
def Rd(H:Hp)(a:Addr)(u:HO):Prop:=H a=some u\/∃o,H a=some (.frz o u)
theorem Rd.ok{P:Program}{w:World}{H:Hp}{h:Heap}{a:Addr}{u:HO}(r:Rd H a u)(x:HOk P w H h):yf P w H h a u:=by
 rcases r with r|⟨o,r⟩
 ·exact x a u r
 ·obtain⟨_,q⟩:=x a _ r;exact q
def Mut:Option HO->Prop
 |some (.lst _)=>True
 |some (.dK _)=>True
 |some (.dT _)=>True
 |some (.set _ _)=>True
 |some (.ins _ _ _)=>True
 |some (.ext _)=>True
 |_=>False
section
variable{P:Program}{w:World}{H:Hp}{h h':Heap}{x e:Addr}{o':HO}
theorem HOk.write(ok:HOk P w H h)(mu:Mut (H x))(he:e=x\/H e=some (.own x))(k:∀b u,b≠e->h.get? b=some u->h'.get? b=some u)(CH:∃u,h'.get? e=some u)
  (new:yf P w (upd H x o') h' x o'):HOk P w (upd H x o') h':=fun b u q=>by
 have CW:∀c y,H c=some (.own y)->c≠x:=fun c y r z=>by subst z;rw[r] at mu;exact mu
 have Fu:∀c xs,H c=some (.tup xs)->c≠x:=fun c xs r z=>by subst z;rw[r] at mu;exact mu
 by_cases hb:b=x
 ·subst hb;rw[zd] at q;cases q;exact new
 ·rw[zB hb] at q;by_cases hbe:b=e
  ·have q':H b=some (.own x):=by
    rcases he with z|z
    ·exact absurd (hbe.trans z) hb
    ·rw[hbe];exact z
   rw[q] at q';cases q';obtain⟨v,hv⟩:=CH;exact⟨v,by rw[hbe];exact hv⟩
  ·refine(ok b u q).stay (fun c v hc r=>k c v ?_ r) (fun c r=>by rw[zB (CW c b r)];exact r) fun c xs r=>by rw[zB (Fu c xs r)];exact r
   rcases hc with rfl|hc
   ·exact hbe
   ·rintro rfl;rcases he with z|z
    ·exact CW c b hc z
    ·rw[hc] at z;cases z;exact hb rfl
end
structure Un(fs ex:List Addr)(H H':Hp)(h h':Heap):Prop where
 keep:∀b o,h.get? b=some o->H b=none->b∉fs->b∉ex->h'.get? b=some o
 slot:∀b o,h.get? b=some o->H b=none->b∈fs->b∉ex->∃sl,h'.get? b=some { o with slots:=sl }
 free:∀b o,h.get? b=some o->H b=none->b∉ex->H' b=none
 there:∀b o,h.get? b=some o->b∉ex->∃o',h'.get? b=some o'
 tups:∀b xs,H b=some (.tup xs)->H' b=some (.tup xs)
 frzs:∀b o u,H b=some (.frz o u)->H' b=some (.frz o u)
 tbls:∀b ps,H b=some (.tbl ps)->∃more,H' b=some (.tbl (ps++more))
section
variable{fs fs' ex ex':List Addr}{H H1 H2:Hp}{h h1 h2 h':Heap}{a x e:Addr}{o:HO}
theorem Un.any(u:Un fs ex H H1 h h1){b:Addr}{ob:Obj}(q:h.get? b=some ob)(n:H b=none)(hx:b∉ex):∃sl,h1.get? b=some { ob with slots:=sl }:=by
 by_cases hb:b∈fs
 ·exact u.slot b ob q n hb hx
 ·exact⟨ob.slots,u.keep b ob q n hb hx⟩
theorem Un.kept(k:∀b u,h.get? b=some u->h'.get? b=some u):Un fs ex H H h h' :=
 ⟨fun b ob q _ _ _=>k b ob q,fun b ob q _ _ _=>⟨ob.slots,k b ob q⟩,fun _ _ _ n _=>n,fun b ob q _=>⟨ob,k b ob q⟩,fun _ _ q=>q,fun _ _ _ q=>q,fun _ ps q=>⟨#[],by rw[q];simp⟩⟩
theorem Un.refl:Un fs ex H H h h:=Un.kept fun _ _ q=>q
theorem Un.laid(k:∀b u,h.get? b=some u->h'.get? b=some u)(hp:h.objs.size<=a)(hn:H a=none):Un fs ex H (upd H a o) h h' where
 keep:=fun b u q _ _ _=>k b u q
 slot:=fun b u q _ _ _=>⟨u.slots,k b u q⟩
 free:=fun b u q n _=>by rw[zB (aT (aN (aQ q) hp))];exact n
 there:=fun b u q _=>⟨u,k b u q⟩
 tups:=fun b xs q=>by rw[zB (zF q hn)];exact q
 frzs:=fun b u xs q=>by rw[zB (zF q hn)];exact q
 tbls:=fun b ps q=>⟨#[],by rw[zB (zF q hn),q];simp⟩
theorem Un.write(mu:Mut (H x))(he:e=x\/H e=some (.own x))(k:∀b u,b≠e->h.get? b=some u->h'.get? b=some u)(CH:∃u,h'.get? e=some u):Un fs ex H (upd H x o) h h':=by
 have hx:∀b,H b=none->b≠x:=fun b n z=>by subst z;rw[n] at mu;exact mu
 have hb:∀b,H b=none->b≠e:=fun b n z=>by
  subst z;rcases he with r|r
  ·exact hx b n r
  ·rw[n] at r;cases r
 have hm:∀b u,H b=some u->¬Mut (some u)->b≠x:=fun b u q nm z=>by subst z;rw[q] at mu;exact nm mu
 refine⟨fun b u q n _ _=>k b u (hb b n) q,fun b u q n _ _=>⟨u.slots,k b u (hb b n) q⟩,fun b u q n _=>by rw[zB (hx b n)];exact n,fun b u q _=>?_,
  fun b xs q=>by rw[zB (hm b _ q fun z=>z)];exact q,fun b u xs q=>by rw[zB (hm b _ q fun z=>z)];exact q,fun b ps q=>⟨#[],by rw[zB (hm b _ q fun z=>z),q];simp⟩⟩
 by_cases hbe:b=e
 ·subst hbe;exact CH
 ·exact⟨u,k b u hbe q⟩
end
noncomputable def trk(h:Heap)(H:Hp):List Addr:=(aR h.objs.size).filter fun a=>(H a).isSome
noncomputable def UJ(h:Heap)(H:Hp):Heap:=PySem.W.hideAll h (trk h H)
theorem WJ(h:Heap)(H:Hp):(UJ h H).objs.size=h.objs.size:=PySem.W.hideAll_size _ _
theorem UK{h:Heap}{H:Hp}{b:Addr}{o:Obj}(e:h.get? b=some o)(n:H b=none):(UJ h H).get? b=some o :=
 PySem.W.hideAll_get _ e fun hm=>by
  have q:(H b).isSome=true:=(List.mem_filter.mp hm).2;rw[n] at q;simp at q
theorem SR{h:Heap}{H:Hp}{b:Addr}{o:Obj}(e:(UJ h H).get? b=some o):h.get? b=some o/\H b=none:=by
 have e':h.get? b=some o:=PySem.W.of_hideAll (trk h H) e;refine⟨e',?_⟩;cases q:H b with
 |none=>rfl
 |some x =>
  have hm:b∈trk h H:=List.mem_filter.mpr ⟨aV.mpr (aQ e'),by simp[q]⟩;have z:(UJ h H).get? b=none:=PySem.W.hideAll_none (trk h H) hm;rw[z] at e;cases e
end L2
namespace L2
open PySem PySem.Spec PyProof.Rows
structure Mod(K:FG7)(mg:Str->Option Value)(base:Heap):Prop where
 kin:K.In base
 glob:base.Ns bI mg
 blt:∃mb,base.Ns builtinsNs mb/\∀x:Str,x≠"__name__" -> mb x=cF x
 nolimit:base.NoLimit
structure Cx where
 prog:Program
 w:World
 K:FG7
 mg:Str->Option Value
 base:Heap
 A:Around
 N:List Str
 s₀:Shared
 H₀:Hp
 env:Env
 outer:List Env
 stack:List Env
 ex:List Addr
 fn:Str->Bool
 calm:Bool
 pn:List (Addr×Obj)
 xe:VS7
noncomputable def frs(l:List Env):List Addr:=l.filterMap (·.frame)
noncomputable abbrev Cx.fs(X:Cx):List Addr:=frs X.outer
def Vis(sc:Scope)(x:Str):Prop:=sc.names.lookup x=some .local\/sc.names.lookup x=some .cell\/sc.names.lookup x=some .free
def Loc(sc:Scope)(x:Str):Prop:=sc.names.lookup x=some .local\/sc.names.lookup x=some .cell
def zaN(env:Env)(h:Heap)(m:Str->Option Value)(x:Str)(u:Value):Prop :=
 (env.kindOf x=some .local/\m x=some u)\/((env.kindOf x=some .cell\/env.kindOf x=some .free)/\∃c,env.cells.lookup x=some c/\h.IsCell c (some u))
structure Cx.Ok(X:Cx):Prop where
 mod:Mod X.K X.mg X.base
 kind:X.env.scope.kind=.function
 glob:X.env.globals=bI
 blt:X.env.builtins=builtinsNs
 above:X.s₀.heap.objs.size<=X.env.locals
 inj:∀x y c,X.env.cells.lookup x=some c->X.env.cells.lookup y=some c->x=y
 has:∀x,(X.env.kindOf x=some .cell\/X.env.kindOf x=some .free)->∃c,X.env.cells.lookup x=some c
 cab:∀x c,X.fn x=true->X.env.cells.lookup x=some c->X.s₀.heap.objs.size<=c
 hd:X.calm=true->X.A.handled=none
 frames:X.A.frames=some X.stack
 stk:X.stack=X.outer\/(X.stack=X.env::X.outer/\X.env.frame=some X.env.locals)
 exf:∀b∈X.ex,b≠X.env.locals/\∀x c,X.env.cells.lookup x=some c->c≠b
 bs:∀b o,X.base.get? b=some o->X.s₀.heap.get? b=some o/\X.H₀ b=none
 bsz:X.base.objs.size<=X.s₀.heap.objs.size
 noex:∀b o,X.base.get? b=some o->b∉X.ex
 exfs:∀b∈X.ex,b∉X.fs
 funs:X.s₀.heap.FunFrames X.base X.outer
 frf:∀b∈X.fs,X.H₀ b=none
structure Inv(X:Cx)(mw:List (Addr×Obj))(σ:List (Option V))(H:Hp)(s:Shared):Prop where
 ok:X.Ok
 os:s.os=X.s₀.os
 bare:kG s.gens
 base:Un X.fs X.ex X.H₀ H X.s₀.heap s.heap
 loc:∃m,s.heap.Ns X.env.locals m/\∀(i:Nat) (x:Str) (v:V),X.N[i]?=some x->σ[i]?=some (some v)->Vis X.env.scope x->∃u,z8 v u/\zaN X.env s.heap m x u
 cell:∀x c,X.env.cells.lookup x=some c->∃v,s.heap.IsCell c v
 free:H X.env.locals=none
 freeC:∀x c,X.env.cells.lookup x=some c->H c=none
 pin:∀p∈X.pn++mw,s.heap.get? p.1=some p.2/\H p.1=none/\p.1≠X.env.locals/\p.1∉X.fs/\∀v,p.2.data≠.cell v
 hok:HOk X.prog X.w H s.heap
 len:σ.length=X.N.length
section
variable{X:Cx}{mw:List (Addr×Obj)}{σ:List (Option V)}{H H':Hp}{s:Shared}{h':Heap}
theorem Cx.Ok.nofr(ok:X.Ok){b:Addr}{o:Obj}(e:X.base.get? b=some o):b∉X.fs:=fun hb=>by
 have:=(ok.funs.mem hb).1;rw[e] at this;cases this
theorem Inv.bs(I:Inv X mw σ H s):∀b o,X.base.get? b=some o->s.heap.get? b=some o/\H b=none:=fun b o e =>
 ⟨I.base.keep b o (I.ok.bs b o e).1 (I.ok.bs b o e).2 (I.ok.nofr e) (I.ok.noex b o e),I.base.free b o (I.ok.bs b o e).1 (I.ok.bs b o e).2 (I.ok.noex b o e)⟩
theorem Inv.bk(I:Inv X mw σ H s):∀b o,X.base.get? b=some o->s.heap.get? b=some o:=fun b o e=>(I.bs b o e).1
theorem Inv.mod(I:Inv X mw σ H s):Mod X.K X.mg X.base:=I.ok.mod
theorem Inv.kIn(I:Inv X mw σ H s):X.K.In s.heap:=I.ok.mod.kin.keeps I.bk
theorem Inv.lt(I:Inv X mw σ H s):X.env.locals<s.heap.objs.size:=let ⟨_,hn,_⟩:=I.loc;hn.lt
theorem Inv.sz(I:Inv X mw σ H s):X.s₀.heap.objs.size<=s.heap.objs.size:=bM I.ok.above (cG I.lt)
theorem Inv.nofs(I:Inv X mw σ H s){a:Addr}(h:s.heap.objs.size<=a):a∉X.fs:=fun hb=>by
 obtain⟨_,o,ho,_⟩:=I.ok.funs.mem hb;exact absurd (aN (aQ ho) (bM I.sz h)) (cV _)
theorem Inv.cne(I:Inv X mw σ H s):∀x c,X.env.cells.lookup x=some c->c≠X.env.locals:=fun x c e z=>by
 obtain⟨v,o,ho,hd⟩:=I.cell x c e;obtain⟨m,⟨o',es,ep,Ao,Fv,_⟩,_⟩:=I.loc;rw[z,Ao] at ho;cases ho;rw[Fv] at hd;cases hd
theorem Inv.funs(I:Inv X mw σ H s):s.heap.FunFrames X.base X.outer:=by
 have all:∀(l:List Env),(∀b∈frs l,b∈X.fs)->X.s₀.heap.FunFrames X.base l->s.heap.FunFrames X.base l:=by
  intro l;induction l with
  |nil=>intro _ _;trivial
  |cons env r ih =>
   intro hs hl;obtain⟨hk,⟨L,o,hf,hn,ho,hd⟩,hr⟩:=hl;have hL:L∈X.fs:=hs L (by unfold frs;rw[kb,hf];exact aU);obtain⟨sl,e⟩:=I.base.slot L o ho (I.ok.frf L hL) hL fun z=>I.ok.exfs L z hL;exact⟨hk,⟨L,_,hf,hn,e,hd⟩,ih (fun b hb=>hs b (by unfold frs;rw[kb,hf];exact aK _ hb)) hr⟩
 exact all X.outer (fun _ hb=>hb) I.ok.funs
theorem Inv.stack(I:Inv X mw σ H s):s.heap.FunFrames X.base X.stack:=by
 rcases I.ok.stk with e|⟨e,hf⟩
 ·rw[e];exact I.funs
 ·rw[e];obtain⟨m,hn,_⟩:=I.loc;refine .cons (by rw[I.ok.kind];decide) hf hn ?_ I.funs;exact Heap.get?_none_of_le (bM I.ok.bsz I.ok.above)
theorem Inv.stkSub(I:Inv X mw σ H s):∀b∈frs X.stack,b∈X.env.locals::X.fs:=fun b hb=>by
 rcases I.ok.stk with e|⟨e,hf⟩
 ·rw[e] at hb;exact aK _ hb
 ·rw[e] at hb;unfold frs at hb;rw[kb,hf] at hb;exact hb
theorem Inv.stkFree(I:Inv X mw σ H s):∀b∈frs X.stack,H b=none:=fun b hb=>by
 rcases aS.mp (I.stkSub b hb) with e|hb
 ·rw[e];exact I.free
 ·obtain⟨_,o,ho,_⟩:=I.ok.funs.mem hb;exact I.base.free b o ho (I.ok.frf b hb) fun z=>I.ok.exfs b z hb
theorem Inv.step{g':Array GenState}{t':Nat}{d':Drawn}{ch:List Addr}(I:Inv X mw σ H s)
  (AW:∀b∈ch,(b∈X.ex\/X.s₀.heap.objs.size<=b)/\b≠X.env.locals/\(∀x c,X.env.cells.lookup x=some c->c≠b)/\∀p∈X.pn++mw,p.1≠b)
  (keep:∀b o,b≠X.env.locals->b∉X.fs->b∉ch->s.heap.get? b=some o->H b=none->h'.get? b=some o)
  (slot:∀b o,b≠X.env.locals->b∈X.fs->b∉ch->s.heap.get? b=some o->H b=none->∃sl,h'.get? b=some { o with slots:=sl }) (free:∀b o,b∉ch->s.heap.get? b=some o->H b=none->H' b=none)
  (there:∀b o,b∉ch->s.heap.get? b=some o->∃o',h'.get? b=some o')
  (tups:∀b xs,H b=some (.tup xs)->H' b=some (.tup xs)) (frzs:∀b o u,H b=some (.frz o u)->H' b=some (.frz o u)) (tbls:∀b ps,H b=some (.tbl ps)->∃more,H' b=some (.tbl (ps++more)))
  (ns:∀m,s.heap.Ns X.env.locals m->h'.Ns X.env.locals m) (hok:HOk X.prog X.w H' h') (hg:kG g') :
  Inv X mw σ H' { s with heap:=h',gens:=g',drawn:=d',toks:=t' }:=by
 have CY:∀b o,X.s₀.heap.get? b=some o->b≠X.env.locals:=fun b o e=>aT (aN (aQ e) I.ok.above);have EL:∀b o,X.s₀.heap.get? b=some o->b∉X.ex->b∉ch:=fun b o e hx hb=>by
  rcases(AW b hb).1 with z|z
  ·exact hx z
  ·exact absurd (aN (aQ e) z) (cV _)
 have oM:∀x c,X.env.cells.lookup x=some c->∀v,s.heap.IsCell c v->h'.IsCell c v:=fun x c e v ⟨o,ho,hd⟩=>by
  have CZ:c∉ch:=fun z=>(AW c z).2.2.1 x c e rfl;by_cases hc:c∈X.fs
  ·obtain⟨sl,q⟩:=slot c o (I.cne x c e) hc CZ ho (I.freeC x c e);exact⟨_,q,hd⟩
  ·exact⟨o,keep c o (I.cne x c e) hc CZ ho (I.freeC x c e),hd⟩
 refine⟨I.ok,I.os,hg,⟨fun b o e n hb hx=>?_,fun b o e n hb hx=>?_,fun b o e n hx=>?_,fun b o e hx=>?_,fun b xs e=>tups b xs (I.base.tups b xs e),fun b o xs e=>frzs b o xs (I.base.frzs b o xs e),fun b ps e=>?_⟩,?_,fun x c e=>?_,?_,fun x c e=>?_,fun p hp=>?_,hok,I.len⟩
 ·exact keep b o (CY b o e) hb (EL b o e hx) (I.base.keep b o e n hb hx) (I.base.free b o e n hx)
 ·obtain⟨sl,e1⟩:=I.base.slot b o e n hb hx;obtain⟨Fw,e2⟩:=slot b _ (CY b o e) hb (EL b o e hx) e1 (I.base.free b o e n hx);exact⟨Fw,e2⟩
 ·obtain⟨o',e1⟩:=I.base.there b o e hx;exact free b o' (EL b o e hx) e1 (I.base.free b o e n hx)
 ·obtain⟨o',e1⟩:=I.base.there b o e hx;exact there b o' (EL b o e hx) e1
 ·obtain⟨m1,e1⟩:=I.base.tbls b ps e;obtain⟨m2,e2⟩:=tbls b _ e1;exact⟨m1++m2,by rw[e2,Array.append_assoc]⟩
 ·obtain⟨m,hn,hl⟩:=I.loc;refine⟨m,ns m hn,fun i x v e1 e2 e3=>?_⟩;obtain⟨u,r,l⟩:=hl i x v e1 e2 e3;refine⟨u,r,?_⟩;rcases l with l|⟨k,c,e,z⟩
  ·exact .inl l
  ·exact .inr ⟨k,c,e,oM x c e _ z⟩
 ·obtain⟨v,z⟩:=I.cell x c e;exact⟨v,oM x c e v z⟩
 ·obtain⟨m,⟨o,_,_,ho,_⟩,_⟩:=I.loc;exact free _ o (fun z=>(AW _ z).2.1 rfl) ho I.free
 ·obtain⟨v,o,ho,hd⟩:=I.cell x c e;exact free c o (fun z=>(AW c z).2.2.1 x c e rfl) ho (I.freeC x c e)
 ·obtain⟨e,n,ne,nf,d⟩:=I.pin p hp;have CZ:p.1∉ch:=fun z=>(AW p.1 z).2.2.2 p hp rfl;exact⟨keep p.1 p.2 ne nf CZ e n,free p.1 p.2 CZ e n,ne,nf,d⟩
theorem Inv.un{t':Nat}(I:Inv X mw σ H s)(u:Un X.fs [] H H' s.heap h')(hok:HOk X.prog X.w H' h'):Inv X mw σ H' { s with heap:=h',toks:=t' }:=by
 obtain⟨m,⟨o,es,ep,ho,r⟩,_⟩:=id I.loc;obtain⟨sl,hL⟩:=u.any ho I.free (by simp);exact I.step (g':=s.gens) (d':=s.drawn) (ch:=[]) (fun _ z=>nomatch z) (fun b o _ hb _ e n=>u.keep b o e n hb (by simp)) (fun b o _ hb _ e n=>u.slot b o e n hb (by simp)) (fun b o _ e n=>u.free b o e n (by simp)) (fun b o _ e=>u.there b o e (by simp)) u.tups u.frzs u.tbls (fun m' hm=>by
  obtain⟨o',C0,C',Ao,r'⟩:=hm;rw[ho] at Ao;cases Ao;exact⟨_,C0,C',hL,r'⟩) hok I.bare
theorem Inv.call{g':Array GenState}{t':Nat}{d':Drawn}{ch:List Addr}(I:Inv X mw σ H s)(u:Un (frs X.stack) ch H H' s.heap h')(hok:HOk X.prog X.w H' h')(hg:kG g')
  (AW:∀b∈ch,(b∈X.ex\/X.s₀.heap.objs.size<=b)/\b≠X.env.locals/\(∀x c,X.env.cells.lookup x=some c->c≠b)/\∀p∈X.pn++mw,p.1≠b) :
  Inv X mw σ H' { s with heap:=h',gens:=g',drawn:=d',toks:=t' }:=by
 obtain⟨m,⟨o,es,ep,ho,r⟩,_⟩:=id I.loc;obtain⟨sl,hL⟩:=u.any ho I.free fun z=>(AW _ z).2.1 rfl;exact I.step (ch:=ch) AW (fun b o hL hb hc e n=>u.keep b o e n (fun z=>(aS.mp (I.stkSub b z)).elim hL hb) hc) (fun b o _ _ hc e n=>u.any e n hc) (fun b o hc e n=>u.free b o e n hc) (fun b o hc e=>u.there b o e hc) u.tups u.frzs u.tbls (fun m' hm=>by
  obtain⟨o',C0,C',Ao,r'⟩:=hm;rw[ho] at Ao;cases Ao;exact⟨_,C0,C',hL,r'⟩) hok hg
theorem Inv.turned{t':Nat}{it:Addr}(I:Inv X mw σ H s)(k:∀b o,b≠it->s.heap.get? b=some o->h'.get? b=some o)(hn:H it=none)(hL:it≠X.env.locals)
  (h1:it∈X.ex\/X.s₀.heap.objs.size<=it) (h2:∀x c,X.env.cells.lookup x=some c->c≠it) (h3:∀p∈X.pn++mw,p.1≠it):Inv X mw σ H { s with heap:=h',toks:=t' }:=by
 have Dc:∀b u,H b=some u->b≠it:=fun b u e z=>by rw[z,hn] at e;cases e
 refine I.step (g':=s.gens) (d':=s.drawn) (ch:=[it]) (fun b hb=>?_) (fun b o _ _ hc e _=>k b o (fun z=>hc (by simp[z])) e) (fun b o _ _ hc e _=>⟨o.slots,k b o (fun z=>hc (by simp[z])) e⟩) (fun _ _ _ _ n=>n)
  (fun b o hc e=>⟨o,k b o (fun z=>hc (by simp[z])) e⟩) (fun _ _ e=>e) (fun _ _ _ e=>e) (fun b ps e=>⟨#[],by rw[e];simp⟩) (fun m hm=>?_) (fun b u e=>?_) I.bare
 ·have e:b=it:=by simpa using hb
  subst e;exact⟨h1,hL,h2,h3⟩
 ·obtain⟨o,es,ep,ho,r⟩:=hm;exact⟨o,es,ep,k _ o (Ne.symm hL) ho,r⟩
 ·refine(I.hok b u e).stay (fun c v hc q=>k c v ?_ q) (fun _ q=>q) fun _ _ q=>q;rcases hc with z|z
  ·rw[z];exact Dc b u e
  ·exact Dc c _ z
theorem Inv.tok(I:Inv X mw σ H s)(t:Nat):Inv X mw σ H { s with toks:=t }:=I.un (h':=s.heap) (t':=t) Un.refl I.hok
theorem Inv.kept{t':Nat}(I:Inv X mw σ H s)(k:∀b u,s.heap.get? b=some u->h'.get? b=some u):Inv X mw σ H { s with heap:=h',toks:=t' }:=I.un (Un.kept k) (I.hok.kept k)
theorem Inv.laid{a:Addr}{o:HO}{t':Nat}(I:Inv X mw σ H s)(k:∀b u,s.heap.get? b=some u->h'.get? b=some u)(hp:s.heap.objs.size<=a)(new:yf X.prog X.w (upd H a o) h' a o) :
  Inv X mw σ (upd H a o) { s with heap:=h',toks:=t' }:=I.un (Un.laid k hp (I.hok.fresh hp)) (I.hok.laid k hp new)
theorem Inv.write{x e:Addr}{o:HO}{t':Nat}(I:Inv X mw σ H s)(mu:Mut (H x))(he:e=x\/H e=some (.own x))(k:∀b u,b≠e->s.heap.get? b=some u->h'.get? b=some u)(CH:∃u,h'.get? e=some u)
  (new:yf X.prog X.w (upd H x o) h' x o):Inv X mw σ (upd H x o) { s with heap:=h',toks:=t' }:=I.un (Un.write mu he k CH) (I.hok.write mu he k CH new)
theorem Inv.pins_of{BC:List (Addr×Obj)}(I:Inv X mw σ H s)(h:∀p∈BC,s.heap.get? p.1=some p.2/\H p.1=none/\p.1≠X.env.locals/\p.1∉X.fs/\∀v,p.2.data≠.cell v):Inv X BC σ H s :=
 ⟨I.ok,I.os,I.bare,I.base,I.loc,I.cell,I.free,I.freeC,fun p hp=>(aP.mp hp).elim (fun z=>I.pin p (bR _ z)) (h p),I.hok,I.len⟩
theorem YR{N:List Str}(hN:N.Nodup){i j:Nat}{x:Str}(a:N[i]?=some x)(b:N[j]?=some x):i=j:=by
 obtain⟨h1,e1⟩:=aZ.mp a;obtain⟨h2,e2⟩:=aZ.mp b;exact(iV hN).mp (e1.trans e2.symm)
theorem WK{M:Model}{A:Around}{E:VS7}{i:Nat}{x:Str}{v:V}{u:Value}{Q:Unit->Shared->Prop}(I:Inv X mw σ H s)(hN:X.N.Nodup)(hi:X.N[i]?=some x)(hx:Loc X.env.scope x)(r:z8 v u)
  (h:∀s',Inv X mw (σ.set i (some v)) H s'->(∃a,fA a s.heap s'.heap/\(a=X.env.locals\/X.env.cells.lookup x=some a))->Q () s') (hf:X.fn x=true\/X.env.scope.names.lookup x=some .local :=by first|exact .inl rfl|exact .inr rfl|assumption):wpAny M A (storeName X.env x u) Q E s:=by
 obtain⟨m,hn,hl⟩:=id I.loc;have Fx:(X.env.scope.kind == .class || (X.env.scope.kind == .module && X.env.locals != X.env.globals))=false:=by rw[I.ok.kind];rfl
 have De:i<σ.length:=by rw[I.len];exact(aZ.mp hi).1
 have cne:=I.cne;have og:∀{a:Addr} {h':Heap},(∃o,s.heap.get? a=some o/\H a=none)->fA a s.heap h'->HOk X.prog X.w H h':=fun{a h'} ha hs b ob e=>by
  obtain⟨_,_,pI⟩:=ha;refine(I.hok b ob e).stay (fun c w' hc q=>(hs.2 c ?_).trans q) (fun _ q=>q) fun _ _ q=>q;rintro rfl;rcases hc with rfl|hc
  ·rw[pI] at e;cases e
  ·rw[pI] at hc;cases hc
 rcases hx with hk|hk
 ·refine wpAny_storeName_local hk hn (fun h' nD hs=>?_) Fx;obtain⟨oL,_,_,hoL,_⟩:=id hn;refine h _ ⟨I.ok,I.os,I.bare,⟨fun b o e n hb hx=>?_,fun b o e n hb hx=>?_,I.base.free,fun b o e hx=>?_,I.base.tups,I.base.frzs,I.base.tbls⟩,⟨_,nD,fun j y v' e1 e2 e3=>?_⟩,fun y c e=>?_,I.free,I.freeC,fun p hp=>?_,og ⟨oL,hoL,I.free⟩ hs,by simpa using I.len⟩ ⟨_,hs,.inl rfl⟩
  ·exact(hs.2 b (aT (aN (aQ e) I.ok.above))).trans (I.base.keep b o e n hb hx)
  ·obtain⟨sl,e1⟩:=I.base.slot b o e n hb hx;exact⟨sl,(hs.2 b (aT (aN (aQ e) I.ok.above))).trans e1⟩
  ·obtain⟨o',e1⟩:=I.base.there b o e hx;exact⟨o',(hs.2 b (aT (aN (aQ e) I.ok.above))).trans e1⟩
  ·by_cases hj:j=i
   ·subst hj;rw[hi] at e1;cases e1;rw[List.getElem?_set_self De] at e2;cases e2;exact⟨u,r,.inl ⟨hk,by simp⟩⟩
   ·rw[List.getElem?_set_ne (Ne.symm hj)] at e2;obtain⟨u',r',q⟩:=hl j y v' e1 e2 e3;refine⟨u',r',?_⟩;rcases q with ⟨k,e⟩|⟨k,c,e,z⟩
    ·refine .inl ⟨k,?_⟩;have:y≠x:=fun e=>hj (YR hN e1 (e▸hi));simp[this,e]
    ·exact .inr ⟨k,c,e,z.sameBut hs (cne y c e)⟩
  ·obtain⟨w',z⟩:=I.cell y c e;exact⟨w',z.sameBut hs (cne y c e)⟩
  ·obtain⟨e,n,ne,nf,d⟩:=I.pin p hp;exact⟨(hs.2 p.1 ne).trans e,n,ne,nf,d⟩
 ·have Fy:X.fn x=true:=by
   rcases hf with z|z
   ·exact z
   ·rw[z] at hk;cases hk
  obtain⟨c,hc⟩:=I.ok.has x (.inl hk);obtain⟨w',z⟩:=I.cell x c hc;refine wpAny_storeName_cell I.ok.kind hk hc z (fun h' Df hs=>?_);obtain⟨oc,hoc,Fz⟩:=id z;refine h { s with heap:=h' } ⟨I.ok,I.os,I.bare,⟨fun b o e n hb hx=>?_,fun b o e n hb hx=>?_,I.base.free,fun b o e hx=>?_,I.base.tups,I.base.frzs,I.base.tbls⟩,⟨m,hn.sameBut hs (Ne.symm (cne x c hc)),fun j y v' e1 e2 e3=>?_⟩,fun y c' e=>?_,I.free,I.freeC,fun p hp=>?_,og ⟨oc,hoc,I.freeC x c hc⟩ hs,by simpa using I.len⟩ ⟨c,hs,.inr hc⟩
  ·exact(hs.2 b (aT (aN (aQ e) (I.ok.cab x c Fy hc)))).trans (I.base.keep b o e n hb hx)
  ·obtain⟨sl,e1⟩:=I.base.slot b o e n hb hx;exact⟨sl,(hs.2 b (aT (aN (aQ e) (I.ok.cab x c Fy hc)))).trans e1⟩
  ·obtain⟨o',e1⟩:=I.base.there b o e hx;exact⟨o',(hs.2 b (aT (aN (aQ e) (I.ok.cab x c Fy hc)))).trans e1⟩
  ·by_cases hj:j=i
   ·subst hj;rw[hi] at e1;cases e1;rw[List.getElem?_set_self De] at e2;cases e2;exact⟨u,r,.inr ⟨.inl hk,c,hc,Df⟩⟩
   ·rw[List.getElem?_set_ne (Ne.symm hj)] at e2;obtain⟨u',r',q⟩:=hl j y v' e1 e2 e3;refine⟨u',r',?_⟩;rcases q with q|⟨k,c',e,z'⟩
    ·exact .inl q
    ·refine .inr ⟨k,c',e,z'.sameBut hs ?_⟩;rintro rfl;exact hj (YR hN e1 (I.ok.inj _ _ _ e hc▸hi))
  ·by_cases hcc:c'=c
   ·subst hcc;exact⟨_,Df⟩
   ·obtain⟨w2,z2⟩:=I.cell y c' e;exact⟨w2,z2.sameBut hs hcc⟩
  ·obtain⟨e,n,ne,nf,d⟩:=I.pin p hp;refine⟨(hs.2 p.1 ?_).trans e,n,ne,nf,d⟩;intro q;rw[q,hoc] at e;have q':oc=p.2:=bH e;exact d w' (by rw[←q'];exact Fz)
theorem wn{M:Model}{A:Around}{E:VS7}{i:Nat}{x:Str}{v:V}{u:Value}{Q:Unit->Shared->Prop}(I:Inv X mw σ H s)(hN:X.N.Nodup)(hi:X.N[i]?=some x)(hx:Loc X.env.scope x)(r:z8 v u)
  (h:∀s',Inv X mw (σ.set i (some v)) H s'->Q () s') (hf:X.fn x=true\/X.env.scope.names.lookup x=some .local :=by first|exact .inl rfl|exact .inr rfl|assumption):wpAny M A (storeName X.env x u) Q E s :=
 WK I hN hi hx r (fun s' I' _=>h s' I') hf
theorem Inv.call'{s':Shared}{ch:List Addr}(I:Inv X mw σ H s)(ho:s'.os=s.os)(u:Un (frs X.stack) ch H H' s.heap s'.heap)(hok:HOk X.prog X.w H' s'.heap)(hg:kG s'.gens)
  (AW:∀b∈ch,(b∈X.ex\/X.s₀.heap.objs.size<=b)/\b≠X.env.locals/\(∀x c,X.env.cells.lookup x=some c->c≠b)/\∀p∈X.pn++mw,p.1≠b):Inv X mw σ H' s':=by
 obtain⟨h',g',d',t',o'⟩:=s';have e:o'=s.os:=ho;subst e;exact I.call (g':=g') (t':=t') (d':=d') u hok hg AW
end
abbrev XK:=Value->Option Addr->Hp->Prop
abbrev St:=List (Option V)
abbrev VK:=V->Hp->Prop
abbrev TE:=St->Hp->VK->Prop
abbrev TT:=St->Hp->(Bool->Hp->Prop)->Prop
abbrev TA:=St->Hp->(List V->Hp->Prop)->Prop
structure Ends where
 nx:St->Hp->Prop
 rt:VK
 bk:St->Hp->Prop:=fun _ _=>False
 ct:St->Hp->Prop:=fun _ _=>False
abbrev TS:=Ends->St->Hp->Prop
def EP(X:Cx)(mw:List (Addr×Obj))(σ:St)(Q:VK)(u:Value)(s':Shared):Prop:=∃v H',Inv X mw σ H' s'/\z8 v u/\Q v H'
def TP(X:Cx)(mw:List (Addr×Obj))(σ:St)(Q:Bool->Hp->Prop)(b:Bool)(s':Shared):Prop:=∃H',Inv X mw σ H' s'/\Q b H'
def AP(X:Cx)(mw:List (Addr×Obj))(σ:St)(Q:List V->Hp->Prop)(us:List Value)(s':Shared):Prop:=∃vs H',Inv X mw σ H' s'/\zZ vs us/\Q vs H'
def SP(X:Cx)(mw:List (Addr×Obj))(D:Ends)(f:Flow)(s':Shared):Prop :=
 match f with
 |.next=>∃σ' H',Inv X mw σ' H' s'/\D.nx σ' H'
 |.brk=>∃σ' H',Inv X mw σ' H' s'/\D.bk σ' H'
 |.cont=>∃σ' H',Inv X mw σ' H' s'/\D.ct σ' H'
 |.ret u=>∃v σ' H',Inv X mw σ' H' s'/\z8 v u/\D.rt v H'
def PE(X:Cx)(e:Expr)(t:TE):Prop :=
 ∀(mw:List (Addr×Obj)) (s:Shared) (σ:St) (H:Hp) (Q:VK),Inv X mw σ H s->t σ H Q->wpAny (model X.prog X.w) X.A (eval e X.env) (EP X mw σ Q) X.xe s
def PT(X:Cx)(e:Expr)(t:TT):Prop :=
 ∀(mw:List (Addr×Obj)) (s:Shared) (σ:St) (H:Hp) (Q:Bool->Hp->Prop),Inv X mw σ H s->t σ H Q->wpAny (model X.prog X.w) X.A (lR e X.env (eval e X.env)) (TP X mw σ Q) X.xe s
def PW(X:Cx)(e:Expr)(t:TT):Prop :=
 ∀(nJ:Sem Value) (mw:List (Addr×Obj)) (s:Shared) (σ:St) (H:Hp) (Q:Bool->Hp->Prop),Inv X mw σ H s->t σ H Q->wpAny (model X.prog X.w) X.A (lR e X.env nJ) (TP X mw σ Q) X.xe s
theorem PW.pt{X:Cx}{e:Expr}{t:TT}(h:PW X e t):PT X e t:=h _
def PA(X:Cx)(es:List Expr)(t:TA):Prop :=
 ∀(pos:Pos) (mw:List (Addr×Obj)) (s:Shared) (σ:St) (H:Hp) (Q:List V->Hp->Prop),Inv X mw σ H s->t σ H Q->wpAny (model X.prog X.w) X.A (spliced (fW pos (bP es X.env))) (AP X mw σ Q) X.xe s
def PS(X:Cx)(st:Stmt)(t:TS):Prop :=
 ∀(mw:List (Addr×Obj)) (s:Shared) (σ:St) (H:Hp) (D:Ends),Inv X mw σ H s->t D σ H->wpAny (model X.prog X.w) X.A (exec st X.env) (SP X mw D) X.xe s
def PSs(X:Cx)(st:List Stmt)(t:TS):Prop :=
 ∀(mw:List (Addr×Obj)) (s:Shared) (σ:St) (H:Hp) (D:Ends),Inv X mw σ H s->t D σ H->wpAny (model X.prog X.w) X.A (execs st X.env) (SP X mw D) X.xe s
theorem thn{α:Type}{t:Sem α}{Q Q':α->Shared->Prop}{M:Model}{A:Around}{E:VS7}{s:Shared}(h:wpAny M A t Q E s)(hQ:∀a s,Q a s->Q' a s):wpAny M A t Q' E s:=cB h hQ fun _ _ x=>x
end L2
namespace L2
open PySem PySem.Spec PyProof.Rows
section
variable{X:Cx}
def zav(i:Nat):TE:=fun σ H Q=>∃v,σ[i]?=some (some v)/\Q v H
def tC(v:V):TE:=fun _ H Q=>Q v H
theorem Ql{i:Nat}{x:Str}{pos:Pos}(hN:X.N[i]?=some x)(hv:Vis X.env.scope x)(hd:(x == ("__debug__":Str))=false:=by decide)(pP:(x == ("__classdict__":Str))=false:=by decide):PE X (.Name x pos) (zav i):=by
 intro mw s σ H Q I h;obtain⟨v,e,h⟩:=h;obtain⟨m,hn,hl⟩:=I.loc;obtain⟨u,r,l⟩:=hl i x v hN e hv;have fin:EP X mw σ Q u s:=⟨v,H,I,r,h⟩
 rcases l with ⟨hk,hm⟩|⟨hk,c,hc,oN⟩
 ·exact wpAny_Name (wpAny_loadName_local I.ok.kind hk hn hm fin) hd
 ·rcases hk with hk|hk
  ·exact wpAny_Name (wpAny_loadName_cell I.ok.kind hk hc oN fin) hd
  ·exact wpAny_Name (wpAny_loadName_free I.ok.kind hk hc oN fin pP) hd
theorem ze{i j pos}:PE X (.Constant (.int i) j pos) (tC (.int i)):=fun _ _ _ H _ I h=>wpAny_Constant_int ⟨.int i,H,I.tok _,⟨_,rfl⟩,h⟩
theorem xT{b j pos}:PE X (.Constant (.bool b) j pos) (tC (.bl b)):=fun _ _ _ H _ I h=>Constant_bool ⟨.bl b,H,I,rfl,h⟩
theorem rh{j pos}:PE X (.Constant .none j pos) (tC .non):=fun _ _ _ H _ I h=>Constant_none ⟨.non,H,I,rfl,h⟩
def Gl(X:Cx)(x:Str):Prop:=X.env.kindOf x=some .globalImplicit
theorem Z1{E:VS7}{mw:List (Addr×Obj)}{s:Shared}{σ:St}{H:Hp}{x:Str}{u:Value}{pos:Pos}{Q:VS7}(I:Inv X mw σ H s)(hg:Gl X x)(hm:X.mg x=some u)(h:Q u s)
  (hd:(x == ("__debug__":Str))=false:=by decide):wpAny (model X.prog X.w) X.A (eval (.Name x pos) X.env) Q E s :=
 Calls.Name_function_global I.ok.kind hg (Calls.loadGlobal_global (by rw[I.ok.glob];exact I.mod.glob.keeps I.bk) hm h) hd
theorem vB{E:VS7}{mw:List (Addr×Obj)}{s:Shared}{σ:St}{H:Hp}{x:Str}{u:Value}{pos:Pos}{Q:VS7}(I:Inv X mw σ H s)(hg:Gl X x)(hm:X.mg x=none)(hv:cF x=some u)(h:Q u s)
  (hn:x≠"__name__":=by decide) (hd:(x == ("__debug__":Str))=false:=by decide):wpAny (model X.prog X.w) X.A (eval (.Name x pos) X.env) Q E s:=by
 obtain⟨mb,h1,h2⟩:=I.mod.blt;exact Calls.Name_function_global I.ok.kind hg (Calls.loadGlobal_builtin (by rw[I.ok.glob];exact I.mod.glob.keeps I.bk) hm (by rw[I.ok.blt];exact h1.keeps I.bk) ((h2 x hn).trans hv) h) hd
theorem ui{x:Str}{v:V}{u:Value}{pos:Pos}(hg:Gl X x)(hm:X.mg x=some u)(r:z8 v u)(hd:(x == ("__debug__":Str))=false:=by decide):PE X (.Name x pos) (tC v) :=
 fun _ _ _ H _ I h=>Z1 I hg hm ⟨v,H,I,r,h⟩ hd
theorem SS{x:Str}{v:V}{u:Value}{pos:Pos}(hg:Gl X x)(hm:X.mg x=none)(hv:cF x=some u)(r:z8 v u)(hn:x≠"__name__":=by decide)(hd:(x == ("__debug__":Str))=false:=by decide):PE X (.Name x pos) (tC v) :=
 fun _ _ _ H _ I h=>vB I hg hm hv ⟨v,H,I,r,h⟩ hn hd
variable{a b:Expr}{ta tb:TE}{pos:Pos}
noncomputable def PC(X:Cx)(op:CmpOp)(a b:Expr)(t:TE):Prop :=
 ∀(mw:List (Addr×Obj)) (s:Shared) (σ:St) (H:Hp) (Q:VK),Inv X mw σ H s->t σ H Q→
  wpAny (model X.prog X.w) X.A (eval a X.env) (fun v s₁=>wpAny (model X.prog X.w) X.A (eval b X.env) (fun u s₂=>wpAny (model X.prog X.w) X.A (eY op v u) (EP X mw σ Q) X.xe s₂) X.xe s₁) X.xe s
theorem YS(b:Expr){op:CmpOp}(h:op≠.In)(h2:op≠.NotIn):fN op b=false:=by
 have e1:(op == CmpOp.In)=false:=by cases op <;> first|rfl|exact absurd rfl h
 have e2:(op == CmpOp.NotIn)=false:=by cases op <;> first|rfl|exact absurd rfl h2
 cases b <;> simp[fN,e1,e2]
def zaO(ta:TE):TE:=fun σ H Q=>ta σ H fun x H1=>Q (.bl (decide (x=.non))) H1
def JF(ta:TE):TE:=fun σ H Q=>ta σ H fun x H1=>Q (.bl (!decide (x=.non))) H1
theorem z8.none_iff{x:V}{v:Value}(r:z8 x v):(v == cA)=decide (x=.non):=by
 cases x with
 |non=>cases r;rfl
 |bl _=>cases r;rfl
 |int _=>obtain⟨t,rfl⟩:=r;rfl
 |str _=>obtain⟨t,rfl⟩:=r;rfl
 |byt _=>obtain⟨t,rfl⟩:=r;rfl
 |flt _=>obtain⟨t,rfl⟩:=r;rfl
 |ref _=>cases r;rfl
 |ty _=>cases r;rfl
theorem rp{j nF}(ha:PE X a ta):PC X .Is a (.Constant .none j nF) (zaO ta):=by
 intro mw s σ H Q I h;refine thn (ha mw s σ H _ I h) fun v s1 ⟨x,H1,I1,r1,q1⟩=>?_;exact Constant_none (is_none_gen ⟨.bl _,H1,I1,by rw[r1.none_iff];rfl,q1⟩)
theorem tE{j nF}(ha:PE X a ta):PC X .IsNot a (.Constant .none j nF) (JF ta):=by
 intro mw s σ H Q I h;refine thn (ha mw s σ H _ I h) fun v s1 ⟨x,H1,I1,r1,q1⟩=>?_;exact Constant_none (isnot_none_gen ⟨.bl _,H1,I1,by rw[r1.none_iff];rfl,q1⟩)
def tB(t:TE):TT:=fun σ H Q=>t σ H fun x H1=>∃c,x=.bl c/\Q c H1
theorem Qm{op:CmpOp}{t:TE}(h:PC X op a b t)(h1:fN op b=false:=by first|exact YS _ (by decide) (by decide)|rfl):PE X (.Compare a [op] [b] pos) t:=fun mw s σ H Q I hw=>wpAny_Compare1 (h mw s σ H Q I hw) h1
theorem wu{op:CmpOp}{t:TE}(h:PC X op a b t)(h1:fN op b=false:=by first|exact YS _ (by decide) (by decide)|rfl):PT X (.Compare a [op] [b] pos) (tB t):=by
 intro mw s σ H Q I hw;refine wpAny_isTrue_Compare1 (thn (h mw s σ H _ I hw) fun v s1 h1=>thn h1 fun u s2 h2=>thn h2 fun c s3 ⟨x,H1,I1,r1,q1⟩=>?_) h1;obtain⟨d,rfl,q⟩:=q1;cases r1;exact cW ⟨H1,I1,q⟩
theorem yG{e:Expr}{t:TE}(h:PE X e t)(he:∀nJ,lR e X.env nJ=(do let v←nJ;standAt e.pos;holding [v] (truthy v)):=by intro _;rfl):PT X e (tB t):=by
 intro mw s σ H Q I hw;refine isTrue_plain (thn (h mw s σ H _ I hw) fun v s1 ⟨x,H1,I1,r1,q1⟩=>?_) (he _);obtain⟨d,rfl,q⟩:=q1;cases r1;exact cW ⟨H1,I1,q⟩
variable{tA EM:TT}{rest:List Expr}
def zaP(t u:TT):TT:=fun σ H Q=>t σ H fun c H1=>if c=true then u σ H1 Q else Q false H1
def tOr(t u:TT):TT:=fun σ H Q=>t σ H fun c H1=>if c=true then Q true H1 else u σ H1 Q
def zaQ(t:TT):TT:=fun σ H Q=>t σ H fun c H1=>Q (!c) H1
theorem xU(ha:PT X a tA):PW X (.BoolOp .And [a] pos) tA:=by
 intro wh mw s σ H Q I h;refine isTrue_and (thn (ha mw s σ H Q I h) fun c s1 e=>?_);cases c with
 |true=>exact isTrue_and_nil e
 |false=>exact e
theorem wv(ha:PT X a tA):PW X (.BoolOp .Or [a] pos) tA:=by
 intro wh mw s σ H Q I h;refine isTrue_or (thn (ha mw s σ H Q I h) fun c s1 e=>?_);cases c with
 |false=>exact isTrue_or_nil e
 |true=>exact e
theorem ww(ha:PT X a tA)(hb:PW X (.BoolOp .And (b::rest) pos) EM):PW X (.BoolOp .And (a::b::rest) pos) (zaP tA EM):=by
 intro wh mw s σ H Q I h;refine isTrue_and (thn (ha mw s σ H _ I h) fun c s1 ⟨H1,I1,q1⟩=>?_);cases c with
 |true=>exact hb wh mw s1 σ H1 Q I1 q1
 |false=>exact⟨H1,I1,q1⟩
theorem uj(ha:PT X a tA)(hb:PW X (.BoolOp .Or (b::rest) pos) EM):PW X (.BoolOp .Or (a::b::rest) pos) (tOr tA EM):=by
 intro wh mw s σ H Q I h;refine isTrue_or (thn (ha mw s σ H _ I h) fun c s1 ⟨H1,I1,q1⟩=>?_);cases c with
 |true=>exact⟨H1,I1,q1⟩
 |false=>exact hb wh mw s1 σ H1 Q I1 q1
theorem yz(ha:PT X a tA):PT X (.UnaryOp .Not a pos) (zaQ tA):=by
 intro mw s σ H Q I h;exact isTrue_not (ha mw s σ H (fun c H1=>Q (!c) H1) I h)
def JG(ta tb:TE):TE:=fun σ H Q=>ta σ H fun x H1=>∃c,x=.bl c/\if c=true then tb σ H1 Q else Q (.bl false) H1
def zaR(ta tb:TE):TE:=fun σ H Q=>ta σ H fun x H1=>∃c,x=.bl c/\if c=true then Q (.bl true) H1 else tb σ H1 Q
def JH(ta:TE):TE:=fun σ H Q=>ta σ H fun x H1=>∃c,x=.bl c/\Q (.bl (!c)) H1
theorem wB{op}{t:TE}(h:PE X a t):PE X (.BoolOp op [a] pos) t:=fun mw s σ H Q I hw=>BoolOp_one (h mw s σ H Q I hw)
theorem vC(ha:PE X a ta)(hb:PE X (.BoolOp .And (b::rest) pos) tb):PE X (.BoolOp .And (a::b::rest) pos) (JG ta tb):=by
 intro mw s σ H Q I h;refine BoolOp_and (thn (ha mw s σ H _ I h) fun v s1 ⟨x,H1,I1,r1,q1⟩=>?_);obtain⟨c,rfl,q1⟩:=q1;cases r1;refine cW ?_;cases c with
 |true=>exact hb mw s1 σ H1 Q I1 q1
 |false=>exact⟨.bl false,H1,I1,rfl,q1⟩
theorem SU(ha:PE X a ta)(hb:PE X (.BoolOp .Or (b::rest) pos) tb):PE X (.BoolOp .Or (a::b::rest) pos) (zaR ta tb):=by
 intro mw s σ H Q I h;refine BoolOp_or (thn (ha mw s σ H _ I h) fun v s1 ⟨x,H1,I1,r1,q1⟩=>?_);obtain⟨c,rfl,q1⟩:=q1;cases r1;refine cW ?_;cases c with
 |false=>exact hb mw s1 σ H1 Q I1 q1
 |true=>exact⟨.bl true,H1,I1,rfl,q1⟩
theorem Qn(ha:PE X a ta):PE X (.UnaryOp .Not a pos) (JH ta):=by
 intro mw s σ H Q I h;refine UnaryOp_ (thn (ha mw s σ H _ I h) fun v s1 ⟨x,H1,I1,r1,q1⟩=>?_);obtain⟨c,rfl,q1⟩:=q1;cases r1;exact not_of (cW ⟨.bl (!c),H1,I1,rfl,q1⟩)
def tIf(t:TT)(ta tb:TE):TE:=fun σ H Q=>t σ H fun c H1=>if c=true then ta σ H1 Q else tb σ H1 Q
theorem qp{c:Expr}(hc:PT X c tA)(ha:PE X a ta)(hb:PE X b tb):PE X (.IfExp c a b pos) (tIf tA ta tb):=by
 intro mw s σ H Q I h;refine wpAny_IfExp (thn (hc mw s σ H _ I h) fun d s1 ⟨H1,I1,q1⟩=>?_);cases d with
 |true=>exact ha mw s1 σ H1 Q I1 q1
 |false=>exact hb mw s1 σ H1 Q I1 q1
end
end L2
namespace L2
open PySem PySem.Spec PyProof.Rows
def SqL(K:FG7)(H:Hp)(a:Addr)(xs:List V):Prop :=
 Rd H a (.lst xs)∨
  ∃(o:Obj) (its:Array Value) (n:Nat),K.lookup a=some o/\o.cls=.type "list" /\o.dict=none/\o.data=.seq its n/\its.size<=sizeLine/\zZ xs its.toList
def SqT(K:FG7)(H:Hp)(a:Addr)(xs:List V):Prop :=
 Rd H a (.tup xs)∨
  ∃(o:Obj) (its:Array Value) (n:Nat),K.lookup a=some o/\o.cls=.type "tuple" /\o.data=.seq its n/\its.size<=sizeLine/\zZ xs its.toList
noncomputable def zaS:Value->Option V
 |.none=>some .non
 |.bool b=>some (.bl b)
 |.int i _=>some (.int i)
 |.str x _=>some (.str x)
 |.bytes b _=>some (.byt b)
 |.float b _=>some (.flt b)
 |.ref a=>some (.ref a)
 |.type n=>some (.ty n)
 |_=>none
theorem z8.abs{x:V}{u:Value}(r:z8 x u):zaS u=some x:=by
 cases x with
 |non=>cases r;rfl
 |bl _=>cases r;rfl
 |int _=>obtain⟨t,rfl⟩:=r;rfl
 |str _=>obtain⟨t,rfl⟩:=r;rfl
 |byt _=>obtain⟨t,rfl⟩:=r;rfl
 |flt _=>obtain⟨t,rfl⟩:=r;rfl
 |ref _=>cases r;rfl
 |ty _=>cases r;rfl
theorem z8.inj{x y:V}{u:Value}(r:z8 x u)(q:z8 y u):x=y:=bH (r.abs.symm.trans q.abs)
theorem zZ.inj:∀{xs ys:List V} {us:List Value},zZ xs us->zZ ys us->xs=ys
 |_,_,_,.nil,.nil=>rfl
 |_,_,_,.cons r t,.cons r' t'=>by rw[r.inj r',zZ.inj t t']
section
variable{X:Cx}{mw:List (Addr×Obj)}{σ:St}{H:Hp}{s:Shared}{a:Addr}{xs ys:List V}
theorem SqL.of{K:FG7}(h:H a=some (.lst xs)):SqL K H a xs:=.inl (.inl h)
theorem SqT.of{K:FG7}(h:H a=some (.tup xs)):SqT K H a xs:=.inl (.inl h)
theorem Inv.list(I:Inv X mw σ H s)(h:SqL X.K H a xs):∃its:List Value,zZ xs its/\PlainL s.heap a its.toArray/\xs.length<=sizeLine:=by
 rcases h with h|⟨o,its,n,hk,hc,hd,hs,hz,r⟩
 ·obtain⟨z,its,n,r,e⟩:=h.ok I.hok;exact⟨its,r,⟨_,n,e,rfl,rfl,rfl⟩,z⟩
 ·refine⟨its.toList,r,⟨o,n,I.kIn a o hk,hc,hd,by simpa using hs⟩,?_⟩;have e:=r.length;simp only[bJ] at e;omega
theorem Inv.tuple(I:Inv X mw σ H s)(h:SqT X.K H a xs):∃its:List Value,zZ xs its/\IsTup s.heap a its.toArray/\xs.length<=sizeLine:=by
 rcases h with h|⟨o,its,n,hk,hc,hs,hz,r⟩
 ·obtain⟨z,its,r,p⟩:=h.ok I.hok;exact⟨its,r,p,z⟩
 ·refine⟨its.toList,r,⟨o,I.kIn a o hk,hc,n,by simpa using hs⟩,?_⟩;have e:=r.length;simp only[bJ] at e;omega
theorem Inv.list_inj(I:Inv X mw σ H s)(h:SqL X.K H a xs)(h':SqL X.K H a ys):xs=ys:=by
 obtain⟨its,r,⟨o,n,e,_,_,d⟩,_⟩:=I.list h;obtain⟨its',r',⟨o',n',e',_,_,d'⟩,_⟩:=I.list h';rw[e] at e';cases e';rw[d] at d';injection d' with d1 _
 have:its=its':=by simpa using congrArg Array.toList d1
 subst this;exact r.inj r'
theorem Inv.tuple_inj(I:Inv X mw σ H s)(h:SqT X.K H a xs)(h':SqT X.K H a ys):xs=ys:=by
 obtain⟨its,r,⟨o,e,_,n,d⟩,_⟩:=I.tuple h;obtain⟨its',r',⟨o',e',_,n',d'⟩,_⟩:=I.tuple h';rw[e] at e';cases e';rw[d] at d';injection d' with d1 _
 have:its=its':=by simpa using congrArg Array.toList d1
 subst this;exact r.inj r'
end
noncomputable abbrev Cx.wish(X:Cx)(E:VS7):Cx:={ X with xe:=E }
noncomputable abbrev Cx.nox(X:Cx):Cx:=X.wish fun _ _=>False
theorem Cx.Ok.wish{X:Cx}(ok:X.Ok)(E:VS7):(X.wish E).Ok :=
 ⟨ok.mod,ok.kind,ok.glob,ok.blt,ok.above,ok.inj,ok.has,ok.cab,ok.hd,ok.frames,ok.stk,ok.exf,ok.bs,ok.bsz,ok.noex,ok.exfs,ok.funs,ok.frf⟩
theorem Cx.Ok.unwish{X:Cx}{E:VS7}(ok:(X.wish E).Ok):X.Ok :=
 ⟨ok.mod,ok.kind,ok.glob,ok.blt,ok.above,ok.inj,ok.has,ok.cab,ok.hd,ok.frames,ok.stk,ok.exf,ok.bs,ok.bsz,ok.noex,ok.exfs,ok.funs,ok.frf⟩
section
variable{X:Cx}{mw:List (Addr×Obj)}{σ:St}{H:Hp}{s:Shared}{E:VS7}
theorem Inv.wish(I:Inv X mw σ H s)(E:VS7):Inv (X.wish E) mw σ H s:=⟨I.ok.wish E,I.os,I.bare,I.base,I.loc,I.cell,I.free,I.freeC,I.pin,I.hok,I.len⟩
theorem Inv.unwish(I:Inv (X.wish E) mw σ H s):Inv X mw σ H s:=⟨I.ok.unwish,I.os,I.bare,I.base,I.loc,I.cell,I.free,I.freeC,I.pin,I.hok,I.len⟩
theorem SP.unwish{D:Ends}{f:Flow}{s':Shared}(h:SP (X.wish E) mw D f s'):SP X mw D f s':=by
 cases f with
 |next=>obtain⟨σ',H',I,q⟩:=h;exact⟨σ',H',I.unwish,q⟩
 |brk=>obtain⟨σ',H',I,q⟩:=h;exact⟨σ',H',I.unwish,q⟩
 |cont=>obtain⟨σ',H',I,q⟩:=h;exact⟨σ',H',I.unwish,q⟩
 |ret u=>obtain⟨v,σ',H',I,r,q⟩:=h;exact⟨v,σ',H',I.unwish,r,q⟩
theorem PSs.nox{st:List Stmt}{t:TS}(h:PSs X.nox st t):PSs X st t:=fun mw s σ H D I hw =>
 cB (h mw s σ H D (I.wish _) hw) (fun _ _ q=>q.unwish) fun _ _ z=>False.elim z
end
section
variable{X:Cx}{st:Stmt}{rest:List Stmt}{t u:TS}{e:Expr}{te:TE}{pos:Pos}
def Qo:TS:=fun D σ H=>D.nx σ H
def UL(t u:TS):TS:=fun D σ H=>t { D with nx:=u D } σ H
theorem zx:PSs X [] Qo:=fun _ _ σ H _ I h=>lE ⟨σ,H,I,h⟩
theorem zc(h1:PS X st t)(h2:PSs X rest u):PSs X (st::rest) (UL t u):=by
 intro mw s σ H D I h;refine wpAny_execs_cons (thn (h1 mw s σ H { D with nx:=u D } I h) fun f s1 q=>?_);cases f with
 |next =>
  obtain⟨σ',H',I',q⟩:=q;exact h2 mw s1 σ' H' D I' q
 |ret v=>exact q
 |brk=>exact q
 |cont=>exact q
theorem zf(h1:PS X st t):PSs X [st] t:=by
 intro mw s σ H D I h;refine wpAny_execs_cons (thn (h1 mw s σ H D I h) fun f s1 q=>?_);cases f with
 |next=>exact lE q
 |ret v=>exact q
 |brk=>exact q
 |cont=>exact q
theorem Inv.quiet{mw:List (Addr×Obj)}{σ:St}{H:Hp}{s:Shared}(I:Inv X mw σ H s):interactive X.env=false:=by simp[interactive,I.ok.kind]
def JI(te:TE):TS:=fun D σ H=>te σ H fun _ H1=>D.nx σ H1
theorem yd(he:PE X e te)(hs:swapsWith e none pos.line X.env=pure false:=by rfl):PS X (.Expr e pos) (JI te):=by
 intro mw s σ H D I h;exact wpAny_Expr_any (thn (he mw s σ H _ I h) fun v s1 ⟨x,H1,I1,r1,q1⟩=>⟨σ,H1,I1,q1⟩) I.quiet hs
def zaT(te:TE):TS:=fun D σ H=>te σ H D.rt
theorem zy(he:PE X e te):PS X (.Return (some e) pos) (zaT te):=by
 intro mw s σ H D I h;exact wpAny_Return_some (thn (he mw s σ H _ I h) fun v s1 ⟨x,H1,I1,r1,q1⟩=>⟨x,σ,H1,I1,r1,q1⟩)
def JJ:TS:=fun D _ H=>D.rt .non H
theorem SV:PS X (.Return none pos) JJ:=fun _ _ σ H _ I h=>wpAny_Return_none ⟨.non,σ,H,I,rfl,h⟩
def Qp(c:TT)(t u:TS):TS:=fun D σ H=>c σ H fun b H1=>if b=true then t D σ H1 else u D σ H1
theorem zT{c:Expr}{a b:List Stmt}{tc:TT}(hc:PT X c tc)(ha:PSs X a t)(hb:PSs X b u):PS X (.If c a b pos) (Qp tc t u):=by
 intro mw s σ H D I h;refine wpAny_If (thn (hc mw s σ H _ I h) fun d s1 ⟨H1,I1,q1⟩=>?_);cases d with
 |true=>exact ha mw s1 σ H1 D I1 q1
 |false=>exact hb mw s1 σ H1 D I1 q1
def Qq:TS:=fun _ _ _=>False
theorem xP:PS X st Qq:=fun _ _ _ _ _ _ h=>h.elim
end
abbrev TG:=V->St->Hp->(St->Hp->Prop)->Prop
abbrev TGs:=List V->St->Hp->(St->Hp->Prop)->Prop
def PG(X:Cx)(ny:Expr)(t:TG):Prop :=
 ∀(mw:List (Addr×Obj)) (s:Shared) (σ:St) (H:Hp) (v:V) (u:Value) (Q:St->Hp->Prop),Inv X mw σ H s->z8 v u->t v σ H Q→
  wpAny (model X.prog X.w) X.A (i5 ny X.env u) (fun _ s'=>∃σ' H',Inv X mw σ' H' s'/\Q σ' H') X.xe s
def PGs(X:Cx)(ts:List Expr)(t:TGs):Prop :=
 ∀(mw:List (Addr×Obj)) (s:Shared) (σ:St) (H:Hp) (vs:List V) (us:List Value) (Q:St->Hp->Prop),Inv X mw σ H s->zZ vs us->t vs σ H Q→
  wpAny (model X.prog X.w) X.A (ie ((fh ts X.env).map (·.2)) us) (fun _ s'=>∃σ' H',Inv X mw σ' H' s'/\Q σ' H') X.xe s
abbrev JK:=V->V->V->Hp->(Hp->Prop)->Prop
def zaw(X:Cx)(t:JK):Prop :=
 ∀(mw:List (Addr×Obj)) (s:Shared) (σ:St) (H:Hp) (o i v:V) (ov iv u:Value) (Q:Hp->Prop),Inv X mw σ H s->z8 o ov->z8 i iv->z8 v u->t o i v H Q→
  wpAny (model X.prog X.w) X.A (setItem ov iv u) (fun _ s'=>∃H',Inv X mw σ H' s'/\Q H') X.xe s
abbrev TIp:=V->V->Hp->VK->Prop
def PIp(X:Cx)(op:Operator)(t:TIp):Prop :=
 ∀(mw:List (Addr×Obj)) (s:Shared) (σ:St) (H:Hp) (x y:V) (v u:Value) (Q:VK),Inv X mw σ H s->z8 x v->z8 y u->t x y H Q→
  wpAny (model X.prog X.w) X.A (inplaceOp op v u) (EP X mw σ Q) X.xe s
section
variable{X:Cx}{pos:Pos}
def uk(i:Nat):TG:=fun v σ H Q=>Q (σ.set i (some v)) H
theorem zm{i:Nat}{x:Str}(hN:X.N.Nodup)(hi:X.N[i]?=some x)(hx:Loc X.env.scope x)(hf:X.fn x=true\/X.env.scope.names.lookup x=some .local :=by first|exact .inl rfl|exact .inr rfl|assumption):PG X (.Name x pos) (uk i):=by
 intro mw s σ H v u Q I r h;exact wpAny_assign_Name (wn I hN hi hx r (fun s' I'=>⟨_,H,I',h⟩) hf)
def zaU:TGs:=fun vs σ H Q=>vs=[]/\Q σ H
def JL(t:TG)(u:TGs):TGs:=fun vs σ H Q=>∃v r,vs=v::r/\t v σ H fun σ' H'=>u r σ' H' Q
theorem yA:PGs X [] zaU:=by
 intro mw s σ H vs us Q I r h;obtain⟨e,h⟩:=h;subst e;cases r;exact kH ⟨σ,H,I,h⟩
theorem zq{e:Expr}{es:List Expr}{t:TG}{u:TGs}(h1:PG X e t)(h2:PGs X es u)
  (hs:(fh (e::es) X.env).map (·.2)=i5 e X.env::(fh es X.env).map (·.2):=by rfl):PGs X (e::es) (JL t u):=by
 intro mw s σ H vs us Q I r h;obtain⟨v,vr,e1,h⟩:=h;subst e1;cases r with
 |cons r rr =>
  rw[hs];refine fG (thn (h1 mw s σ H _ _ _ I r h) fun _ s1 ⟨σ1,H1,I1,q1⟩=>?_);exact h2 mw s1 σ1 H1 _ _ Q I1 rr q1
def zax(K:FG7)(n:Nat)(t:TGs):TG:=fun v σ H Q=>∃a xs,v=.ref a/\SqT K H a xs/\xs.length=n/\t xs σ H Q
theorem xA{es:List Expr}{k:Nat}{t:TGs}{n:Nat}(hc:X.calm=true)(h:PGs X es t)
  (hn:(fh es X.env).length=n:=by rfl) (oh:(fh es X.env).findIdx? (·.1)=none:=by rfl):PG X (.Tuple es k pos) (zax X.K n t):=by
 intro mw s σ H v u Q I r hw;obtain⟨a,xs,e1,hq,hl,hw⟩:=hw;subst e1;cases r;obtain⟨its,rv,ht,hz⟩:=I.tuple hq;refine assign_Tuple_tuple (I.ok.hd hc) ht (by simp[hn,←hl,rv.length]) oh fun h' hx=>?_;have I1:Inv X mw σ H { s with heap:=h' }:=I.kept (t':=s.toks) fun b o e=>hx b o (aT (aQ e)) e;exact h mw _ σ H xs _ Q I1 (by simpa using rv) hw
def zaV(to ti:TE)(t:JK):TG:=fun v σ H Q=>to σ H fun o H1=>ti σ H1 fun i H2=>t o i v H2 fun H3=>Q σ H3
theorem ju{o i:Expr}{to ti:TE}{t:JK}(ho:PE X o to)(hi:PE X i ti)(hs:zaw X t)
  (ha:∀v,i5 (.Subscript o i pos) X.env v=(do
   let ov←holding [v] (eval o X.env)
   let iv←holding [v,ov] (eval i X.env)
   standAt pos
   holding [v,ov,iv] (setItem ov iv v)
   release [v,ov,iv] []):=by intro _;rfl):PG X (.Subscript o i pos) (zaV to ti t):=by
 intro mw s σ H v u Q I r h;rw[ha];refine aA (bT (thn (ho mw s σ H _ I h) fun ov s1 ⟨x,H1,I1,r1,q1⟩=>?_));refine aA (bT (thn (hi mw s1 σ H1 _ I1 q1) fun iv s2 ⟨y,H2,I2,r2,q2⟩=>?_));refine aA (eF (aA (bT (thn (hs mw s2 σ H2 x y v ov iv u _ I2 r1 r2 r q2) fun _ s3 ⟨H3,I3,q3⟩=>?_))));exact wpAny_release ⟨σ,H3,I3,q3⟩
def Jx(te:TE)(g:TG):TS:=fun D σ H=>te σ H fun x H1=>g x σ H1 D.nx
theorem xB{tg e:Expr}{te:TE}{g:TG}(he:PE X e te)(hg:PG X tg g)(hs:swapsWithSole [tg] e pos.line X.env=pure false:=by rfl)(hw:swappedStores [tg] e X.env=pure none:=by rfl)
  (h1:(fh [tg] X.env).map (·.2)=[i5 tg X.env]:=by rfl):PS X (.Assign [tg] e pos) (Jx te g):=by
 intro mw s σ H D I h;refine wpAny_Assign_stores (thn (he mw s σ H _ I h) fun v s1 ⟨x,H1,I1,r1,q1⟩=>?_) hs hw;rw[h1];exact thn (hg mw s1 σ H1 x v _ I1 r1 q1) fun _ s2 q=>q
theorem zJ{i:Nat}{x:Str}{e:Expr}{te:TE}{nF:Pos}(hN:X.N.Nodup)(hi:X.N[i]?=some x)(hx:Loc X.env.scope x)(he:PE X e te)(hs:swapsWith e (some (.Name x nF)) pos.line X.env=pure false:=by rfl)(hf:X.fn x=true\/X.env.scope.names.lookup x=some .local :=by first|exact .inl rfl|exact .inr rfl|assumption) :
  PS X (.Assign [.Name x nF] e pos) (Jx te (uk i)):=by
 intro mw s σ H D I h;refine wpAny_Assign_Name (thn (he mw s σ H _ I h) fun v s1 ⟨y,H1,I1,r1,q1⟩=>?_) hs;exact wn I1 hN hi hx r1 (fun s2 I2=>⟨_,H1,I2,q1⟩) hf
def zaW(i j:Nat)(ta:TA):TS:=fun D σ H=>ta σ H fun vs H1=>∃v w,vs=[v,w]/\D.nx ((σ.set i (some v)).set j (some w)) H1
theorem Qr{i j:Nat}{x y:Str}{a b:Expr}{ta:TA}{px py pt:Pos}{kt k2 pt2}(hc:X.calm=true)(hN:X.N.Nodup)(hi:X.N[i]?=some x)(hj:X.N[j]?=some y)(nO:i≠j)
  (hx:X.env.scope.names.lookup x=some .local) (hy:X.env.scope.names.lookup y=some .local) (ha:PA X [a,b] ta)
  (hw:swappedStores [.Tuple [.Name x px,.Name y py] kt pt] (.Tuple [a,b] k2 pt2) X.env=pure (some [x,y]))
  (hs:swapsWithSole [.Tuple [.Name x px,.Name y py] kt pt] (.Tuple [a,b] k2 pt2) pos.line X.env=pure false:=by rfl) :
  PS X (.Assign [.Tuple [.Name x px,.Name y py] kt pt] (.Tuple [a,b] k2 pt2) pos) (zaW i j ta):=by
 intro mw s σ H D I h;rw[exec_Assign_arm];refine aA (eF ?_);rw[hs];refine aA (aF ?_);rw[if_neg (by decide)];refine aA (Tuple_ (thn (ha _ mw s σ H _ I h) fun us s1 ⟨vs,H1,I1,r1,q1⟩=>?_));obtain⟨v,w,e1,q1⟩:=q1;subst e1;obtain⟨u1,u2,rfl,rv,nQ⟩:∃u1 u2,us=[u1,u2]/\z8 v u1/\z8 w u2:=by
  cases r1 with
  |cons p q =>
   cases q with
   |cons p' q' =>
    cases q';exact⟨_,_,rfl,p,p'⟩
 refine bS ?_ (by show 2<=sizeLine;decide);have I2:Inv X mw σ H1 { s1 with heap:=s1.heap.push { cls:=.type "tuple",data:=.seq [u1,u2].toArray } }:=I1.kept (t':=s1.toks) fun b o e=>aD _ e;rw[hw];refine aA (aF ?_);show wpAny (model X.prog X.w) X.A (do rule "assign.swapped-stores";let items←unpackItems (.ref s1.heap.objs.size) 2 none;ie [fun v=>iF X.env y v,fun v=>iF X.env x v] items.reverse;pure Flow.next) _ _ _;refine aA (fO (aA (unpackItems_tuple (items:=#[u1,u2]) (I.ok.hd hc) (IsTup.new s1.heap _) fun h' pe=>?_)));have I3:=I2.kept (h':=h') (t':=s1.toks) fun b o e=>pe b o (aT (aQ e)) e;show wpAny _ _ (ie [fun v=>iF X.env y v,fun v=>iF X.env x v] [u2,u1] >>= fun _=>pure Flow.next) _ _ _;refine aA (fG (iG (wn I3 hN hj (.inl hy) nQ (fun s2 I4=>?_) (.inr hy))));refine fG (iG (wn I4 hN hi (.inl hx) rv (fun s3 I5=>kH (aF ?_)) (.inr hx)));rw[kR _ _ (Ne.symm nO)] at I5;exact⟨_,H1,I5,q1⟩
def ipI(f:Int->Int->Int):TIp:=fun x y H Q=>∃i j,x=.int i/\y=.int j/\Q (.int (f i j)) H
theorem Sb:PIp X .Add (ipI fun i j=>i+j):=by
 intro mw s σ H x y v u Q I r1 r2 h;obtain⟨i,j,e1,e2,q⟩:=h;subst e1;subst e2;obtain⟨t,rfl⟩:=r1;obtain⟨t',rfl⟩:=r2;exact iadd_int ⟨.int _,H,I.tok _,⟨_,rfl⟩,q⟩
theorem Qs:PIp X .Sub (ipI fun i j=>i-j):=by
 intro mw s σ H x y v u Q I r1 r2 h;obtain⟨i,j,e1,e2,q⟩:=h;subst e1;subst e2;obtain⟨t,rfl⟩:=r1;obtain⟨t',rfl⟩:=r2;exact isub_int ⟨.int _,H,I.tok _,⟨_,rfl⟩,q⟩
end
structure It where
 go:Nat->Hp->Prop
 yld:Nat->Hp->V->Hp->Prop
 stop:Nat->Hp->Prop
def vz(X:Cx)(mw:List (Addr×Obj))(H:Hp)(b:Addr):Prop :=
 H b=none/\b≠X.env.locals/\b∉X.fs/\(b∈X.ex\/X.s₀.heap.objs.size<=b)/\(∀x c,X.env.cells.lookup x=some c->c≠b)/\∀p∈X.pn++mw,p.1≠b
theorem Inv.fpOk{X:Cx}{mw:List (Addr×Obj)}{σ:St}{H H':Hp}{s:Shared}{b:Addr}(I:Inv X mw σ H s)(hb:s.heap.objs.size<=b)(hn:H' b=none):vz X mw H' b:=by
 refine⟨hn,eZ (aN I.lt hb),I.nofs hb,.inr (bM I.sz hb),fun x c e z=>?_,fun p hp z=>?_⟩
 ·obtain⟨v,q⟩:=I.cell x c e;exact absurd (aN q.lt (by rw[z];exact hb)) (cV _)
 ·exact absurd (aN (aQ (I.pin p hp).1) (by rw[z];exact hb)) (cV _)
structure Turn(P:Program)(w:World)(K:FG7)(tg:Expr)(J:It)(fp:List Addr)(it:Addr)(tn:Nat->Heap->Prop):Prop where
 mem:it∈fp
 obj:∀i h,tn i h->∀b∈fp,∃o,h.get? b=some o/\∀v,o.data≠.cell v
 keep:∀i h h',tn i h->(∀b∈fp,∀o,h.get? b=some o->h'.get? b=some o)->tn i h'
 item:∀(X:Cx),X.prog=P->X.w=w->X.K=K->X.calm=true->∀(i:Nat) (mw:List (Addr×Obj)) (s:Shared) (σ:St) (H:Hp) (E:VS7),Inv X mw σ H s->(∀b∈fp,vz X mw H b)->tn i s.heap->J.go i H→
  wpAny (model P w) X.A (pyNext (.ref it)) (fun r s1=>∃u,r=some u∧
   wpAny (model P w) X.A (fo tg (.ref it) u) (fun _ s2=>∃x H',Inv X mw σ H' s2/\z8 x u/\J.yld i H x H'/\tn (i+1) s2.heap/\∀b∈fp,H' b=none) E s1) E s
 done:∀(X:Cx),X.prog=P->X.w=w->X.K=K->X.calm=true->∀(i:Nat) (mw:List (Addr×Obj)) (s:Shared) (σ:St) (H:Hp) (E:VS7),Inv X mw σ H s->(∀b∈fp,vz X mw H b)->tn i s.heap->J.stop i H→
  wpAny (model P w) X.A (pyNext (.ref it)) (fun r s1=>r=none/\Inv X mw σ H s1) E s
 self:∀(A:Around) (i:Nat) (s:Shared) (Q:VS7) (E:VS7),tn i s.heap->Q (.ref it) s->wpAny (model P w) A (pyIter (.ref it)) Q E s
abbrev TI:=St->Hp->(It->Hp->Prop)->Prop
def PIE(X:Cx)(mw:List (Addr×Obj))(σ:St)(tg:Expr)(R:It->Hp->Prop)(CI:Value)(s2:Shared):Prop :=
 ∃(it:Addr) (fp:List Addr) (tn:Nat->Heap->Prop) (J:It) (H':Hp),CI=.ref it/\Inv X mw σ H' s2/\Turn X.prog X.w X.K tg J fp it tn/\tn 0 s2.heap/\(∀b∈fp,vz X mw H' b)/\R J H'
def PI(X:Cx)(tg iter:Expr)(wi:TI):Prop :=
 ∀(mw:List (Addr×Obj)) (s:Shared) (σ:St) (H:Hp) (R:It->Hp->Prop),Inv X mw σ H s->wi σ H R→
  wpAny (model X.prog X.w) X.A (eval iter X.env) (fun v s1=>wpAny (model X.prog X.w) X.A (pyIter v) (PIE X mw σ tg R) X.xe s1) X.xe s
theorem UM{M:Model}{A:Around}{E:VS7}{s:Shared}{tg:Expr}{it:Addr}{u:Value}{o:Obj}{n:String}{vs:Array Value}{Q:Unit->Shared->Prop}(ho:s.heap.get? it=some o)(hc:o.cls=.type n)(hd:o.data=.fields vs)
    (hn:["enumerate","zip","dict_itemiterator","dict_reverseitemiterator","odict_iterator","itertools.zip_longest","itertools.pairwise"].contains n=false) (hQ:Q () s):wpAny M A (fo tg (.ref it) u) Q E s:=by
  unfold fo;cases tg <;> first
    |exact aF hQ
    | (cases u <;> first
        |exact aF hQ
        | (refine aA (me ho ?_)
           rw[hc,hd];show wpAny M A (if(["enumerate","zip","dict_itemiterator","dict_reverseitemiterator","odict_iterator","itertools.zip_longest","itertools.pairwise"].contains n && vs[0]? == some (rawInt _))=true then _ else _) Q E s;rw[if_neg (by intro h;rw[hn,lS] at h;cases h)];exact aF hQ))
noncomputable def Itl(K:FG7)(a:Addr):It :=
 ⟨fun i H=>∃xs x,SqL K H a xs/\xs[i]?=some x,fun i H x H'=>H'=H/\∀xs,SqL K H a xs->xs[i]?=some x,fun i H=>∃xs,SqL K H a xs/\xs.length<=i⟩
noncomputable def Itt(K:FG7)(a:Addr):It :=
 ⟨fun i H=>∃xs x,SqT K H a xs/\xs[i]?=some x,fun i H x H'=>H'=H/\∀xs,SqT K H a xs->xs[i]?=some x,fun i H=>∃xs,SqT K H a xs/\xs.length<=i⟩
noncomputable def Itr(lo:Int)(n:Nat):It:=⟨fun i _=>i<n,fun i H x H'=>H'=H/\x=.int (lo+i),fun i _=>n<=i⟩
theorem jv{P:Program}{w:World}{K:FG7}{tg:Expr}(a it:Addr):Turn P w K tg (Itl K a) [it] it (fun i h=>h.IsListIter it a i) where
 mem:=by simp
 obj:=fun i h st b hb=>by
  have e:b=it:=by simpa using hb
  subst e;obtain⟨o,e,c,d⟩:=st;exact⟨o,e,fun v z=>by rw[d] at z;cases z⟩
 keep:=fun i h h' st k=>st.at fun o e=>k it (by simp) o e
 item:=by
  intro X hP hw hK hc i mw s σ H E I hf st hg;subst hP hw hK;obtain⟨xs,x,hq,hx⟩:=hg;obtain⟨its,rv,p,hz⟩:=I.list hq;obtain⟨u,hu,ru⟩:=rv.get hx;obtain⟨f0,f1,f2,f3,f4,f5⟩:=hf it (by simp);refine wpAny_pyNext_list_item st p.isList (x:=u) (by simpa using hu) fun h' nz sb=>?_;have I1:Inv X mw σ H { s with heap:=h' }:=I.turned (t':=s.toks) (fun b o hb e=>(sb.2 b hb).trans e) f0 f1 f3 f4 f5;obtain⟨o,e,c,d⟩:=id nz;exact⟨u,rfl,UM (s:={ s with heap:=h' }) e c d (by decide) ⟨x,H,I1,ru,⟨rfl,fun ys hy=>by rw[I.list_inj hy hq];exact hx⟩,nz,fun b hb=>(hf b hb).1⟩⟩
 done:=by
  intro X hP hw hK hc i mw s σ H E I hf st hg;subst hP hw hK;obtain⟨xs,hq,hx⟩:=hg;obtain⟨its,rv,p,hz⟩:=I.list hq;obtain⟨f0,f1,f2,f3,f4,f5⟩:=hf it (by simp);have hl:=rv.length;exact wpAny_pyNext_list_end (I.ok.hd hc) st p.isList (by simp;omega) fun h' eb=>⟨rfl,I.turned (t':=s.toks) (fun b o hb e=>eb b o hb e) f0 f1 f3 f4 f5⟩
 self:=fun _ _ _ _ _ st h=>wpAny_pyIter_listiter st h
theorem rq{P:Program}{w:World}{K:FG7}{tg:Expr}(a it:Addr):Turn P w K tg (Itt K a) [it] it (fun i h=>h.IsTupleIter it a i) where
 mem:=by simp
 obj:=fun i h st b hb=>by
  have e:b=it:=by simpa using hb
  subst e;obtain⟨o,e,c,d⟩:=st;exact⟨o,e,fun v z=>by rw[d] at z;cases z⟩
 keep:=fun i h h' st k=>st.at fun o e=>k it (by simp) o e
 item:=by
  intro X hP hw hK hc i mw s σ H E I hf st hg;subst hP hw hK;obtain⟨xs,x,hq,hx⟩:=hg;obtain⟨its,rv,p,hz⟩:=I.tuple hq;obtain⟨u,hu,ru⟩:=rv.get hx;obtain⟨f0,f1,f2,f3,f4,f5⟩:=hf it (by simp);refine wpAny_pyNext_tuple_item st (show s.heap.IsTuple a its.toArray from p) (x:=u) (by simpa using hu) fun h' nz sb=>?_;have I1:Inv X mw σ H { s with heap:=h' }:=I.turned (t':=s.toks) (fun b o hb e=>(sb.2 b hb).trans e) f0 f1 f3 f4 f5;obtain⟨o,e,c,d⟩:=id nz;exact⟨u,rfl,UM (s:={ s with heap:=h' }) e c d (by decide) ⟨x,H,I1,ru,⟨rfl,fun ys hy=>by rw[I.tuple_inj hy hq];exact hx⟩,nz,fun b hb=>(hf b hb).1⟩⟩
 done:=by
  intro X hP hw hK hc i mw s σ H E I hf st hg;subst hP hw hK;obtain⟨xs,hq,hx⟩:=hg;obtain⟨its,rv,p,hz⟩:=I.tuple hq;obtain⟨f0,f1,f2,f3,f4,f5⟩:=hf it (by simp);have hl:=rv.length;exact wpAny_pyNext_tuple_end (I.ok.hd hc) st (show s.heap.IsTuple a its.toArray from p) (by simp;omega) fun h' eb=>⟨rfl,I.turned (t':=s.toks) (fun b o hb e=>eb b o hb e) f0 f1 f3 f4 f5⟩
 self:=fun _ _ _ _ _ st h=>wpAny_pyIter_tupleiter st h
theorem XB{P:Program}{w:World}{K:FG7}{tg:Expr}(it:Addr)(lo:Int)(n:Nat):Turn P w K tg (Itr lo n) [it] it (fun i h=>IsRangeIter h it (lo+(i:Nat)*1) ((n:Int)-(i:Nat)) 1) where
 mem:=by simp
 obj:=fun i h st b hb=>by
  have e:b=it:=by simpa using hb
  subst e;exact⟨_,st,fun v z=>by
   have z':Data.fields _=Data.cell v:=z;cases z'⟩
 keep:=fun i h h' st k=>k it (by simp) _ st
 item:=by
  intro X hP hw hK hc i mw s σ H E I hf st hg;subst hP hw hK;obtain⟨f0,f1,f2,f3,f4,f5⟩:=hf it (by simp);have W:=Walks.range (prog:=X.prog) (w:=X.w) (I.ok.hd hc) it lo 1 n;refine W.item i s _ _ hg st fun v h' tk hv nz kk=>?_;obtain⟨t,rfl⟩:=hv;have I1:Inv X mw σ H { s with heap:=h',toks:=tk }:=I.turned (fun b o hb e=>kk b o (by simpa using hb) e) f0 f1 f3 f4 f5;refine⟨_,rfl,UM (s:={ s with heap:=h',toks:=tk }) (n:="range_iterator") nz rfl rfl (by decide) ⟨.int (lo+i),H,I1,⟨t,?_⟩,⟨rfl,rfl⟩,nz,fun b hb=>(hf b hb).1⟩⟩;rw[Int.mul_one]
 done:=by
  intro X hP hw hK hc i mw s σ H E I hf st hg;subst hP hw hK;obtain⟨f0,f1,f2,f3,f4,f5⟩:=hf it (by simp);exact wpAny_pyNext_range_end (I.ok.hd hc) st (by have:n<=i:=hg;omega) fun h' eb=>⟨rfl,I.turned (t':=s.toks) (fun b o hb e=>eb b o hb e) f0 f1 f3 f4 f5⟩
 self:=fun _ _ _ _ _ st h=>wpAny_pyIter_rangeiter st h
end L2
namespace L2
open PySem PySem.Spec PyProof.Rows
section
variable{X:Cx}{tg:Expr}
def JM(K:FG7)(tl:TE):TI:=fun σ H R=>tl σ H fun x H1=>∃a,x=.ref a/\(∃xs,SqL K H1 a xs)/\R (Itl K a) H1
def zaX(K:FG7)(tl:TE):TI:=fun σ H R=>tl σ H fun x H1=>∃a,x=.ref a/\(∃xs,SqT K H1 a xs)/\R (Itt K a) H1
theorem WL{l:Expr}{tl:TE}(hl:PE X l tl):PI X tg l (JM X.K tl):=by
 intro mw s σ H R I h;refine thn (hl mw s σ H _ I h) fun v s1 ⟨x,H1,I1,r1,q1⟩=>?_;obtain⟨a,e,⟨xs,hq⟩,q⟩:=q1;subst e;cases r1;obtain⟨its,rv,p,hz⟩:=I1.list hq;refine fe p.isList ?_;refine⟨s1.heap.objs.size,[s1.heap.objs.size],_,_,H1,rfl,I1.kept (t':=s1.toks) fun b o e=>aD _ e,jv a _,⟨_,aL _ rfl,rfl,rfl⟩,fun b hb=>?_,q⟩;have e:b=s1.heap.objs.size:=by simpa using hb
 subst e;exact I1.fpOk (aE _) (I1.hok.fresh (aE _))
theorem vD{l:Expr}{tl:TE}(hl:PE X l tl):PI X tg l (zaX X.K tl):=by
 intro mw s σ H R I h;refine thn (hl mw s σ H _ I h) fun v s1 ⟨x,H1,I1,r1,q1⟩=>?_;obtain⟨a,e,⟨xs,hq⟩,q⟩:=q1;subst e;cases r1;obtain⟨its,rv,p,hz⟩:=I1.tuple hq;refine km (show s1.heap.IsTuple a its.toArray from p) ?_;refine⟨s1.heap.objs.size,[s1.heap.objs.size],_,_,H1,rfl,I1.kept (t':=s1.toks) fun b o e=>aD _ e,rq a _,⟨_,aL _ rfl,rfl,rfl⟩,fun b hb=>?_,q⟩;have e:b=s1.heap.objs.size:=by simpa using hb
 subst e;exact I1.fpOk (aE _) (I1.hok.fresh (aE _))
theorem YT{mw:List (Addr×Obj)}{σ:St}{H:Hp}{s:Shared}{R:It->Hp->Prop}{E:VS7}{lo hi:Int}{t u v:Tok}{tk:Nat}(I:Inv X mw σ H s)(h1:-(2 ^ 62)<=lo)(h2:lo<2 ^ 62)(h3:-(2 ^ 62)<=hi)(h4:hi<2 ^ 62)
  (q:R (Itr lo (hi-lo).toNat) H):wpAny (model X.prog X.w) X.A (pyIter (.ref s.heap.objs.size)) (PIE X mw σ tg R) E { s with heap:=s.heap.push { cls:=.type "range",data:=.fields #[.int lo t,.int hi u,.int 1 v] },toks:=tk }:=by
 refine wpAny_pyIter_range (IsRange.new ..) (small_one h1 h2 h3 h4) ?_;have I1:Inv X mw σ H { s with heap:=s.heap.push { cls:=.type "range",data:=.fields #[.int lo t,.int hi u,.int 1 v] },toks:=tk }:=I.kept fun b o e=>aD _ e;refine⟨(s.heap.push { cls:=.type "range",data:=.fields #[.int lo t,.int hi u,.int 1 v] }).objs.size,[(s.heap.push { cls:=.type "range",data:=.fields #[.int lo t,.int hi u,.int 1 v] }).objs.size],_,_,H,rfl,
  I1.kept (t':=tk) fun b o e=>aD _ e,XB _ lo (hi-lo).toNat,?_,fun b hb=>?_,q⟩
 ·have e1:lo+((0:Nat):Int)*1=lo:=by simp
  have e2:(((hi-lo).toNat:Nat):Int)-((0:Nat):Int)=fX lo hi 1:=by rw[rangeSize_one];split <;> omega
  show IsRangeIter _ _ (lo+((0:Nat):Int)*1) ((((hi-lo).toNat:Nat):Int)-((0:Nat):Int)) 1;rw[e1,e2];exact aL _ rfl
 ·have e:b=(s.heap.push { cls:=.type "range",data:=.fields #[.int lo t,.int hi u,.int 1 v] }).objs.size:=by simpa using hb
  subst e;exact I1.fpOk (aE _) (I1.hok.fresh (aE _))
def SW(ta:TA):TI:=fun σ H R=>ta σ H fun vs H1=>∃j:Int,vs=[.int j]/\-(2 ^ 62)<=j/\j<2 ^ 62/\R (Itr 0 j.toNat) H1
def JN(ta:TA):TI:=fun σ H R=>ta σ H fun vs H1=>∃i j:Int,vs=[.int i,.int j]/\(-(2 ^ 62)<=i/\i<2 ^ 62/\-(2 ^ 62)<=j/\j<2 ^ 62)/\R (Itr i (j-i).toNat) H1
theorem ya{a:Expr}{ta:TA}{p pos:Pos}(hg:Gl X "range")(hm:X.mg "range" = none)(ha:PA X [a] ta)(hs:bP [a] X.env=[(false,eval a X.env)]:=by rfl):PI X tg (.Call (.Name "range" p) [a] [] pos) (SW ta):=by
 intro mw s σ H R I h;refine Call_ (vB I hg hm mf (cM (thn (ha pos mw s σ H _ I h) fun us s1 ⟨vs,H1,I1,r1,q1⟩=>?_) hs rfl));obtain⟨j,e,q1,q2,q⟩:=q1;subst e;cases r1 with
 |cons r rr =>
  cases rr;obtain⟨t,rfl⟩:=r;exact call_range_1 (YT I1 (by omega) (by omega) q1 q2 (by simpa using q))
theorem jw{a b:Expr}{ta:TA}{p pos:Pos}(hg:Gl X "range")(hm:X.mg "range" = none)(ha:PA X [a,b] ta)(hs:bP [a,b] X.env=[(false,eval a X.env),(false,eval b X.env)]:=by rfl)(oJ:bP [b] X.env=[(false,eval b X.env)]:=by rfl) :
  PI X tg (.Call (.Name "range" p) [a,b] [] pos) (JN ta):=by
 intro mw s σ H R I h;refine Call_ (vB I hg hm mf (cM (thn (ha pos mw s σ H _ I h) fun us s1 ⟨vs,H1,I1,r1,q1⟩=>?_) (by rw[hs,oJ]) (by rw[oJ];rfl)));obtain⟨i,j,e,⟨q1,q2,q3,q4⟩,q⟩:=q1;subst e;cases r1 with
 |cons r rr =>
  cases rr with
  |cons r' rr =>
   cases rr;obtain⟨t,rfl⟩:=r;obtain⟨t',rfl⟩:=r';exact call_range_2 (YT I1 q1 q2 q3 q4 q)
noncomputable def Qt(wi:TI)(g:TG)(tb:TS):TS:=fun D σ H=>wi σ H fun J H1=>∃W:Nat->Nat->St->Hp->Prop,(∃m,W 0 m σ H1)/\∀i m σ H,W i m σ H→
 (J.stop i H/\D.nx σ H)\/(J.go i H/\∃N:St->Hp->Prop,(∀σ' H',N σ' H'->∃m',m'<m/\W (i+1) m' σ' H')/\∀x H',J.yld i H x H'->g x σ H' fun σ2 H2=>tb { D with nx:=N,ct:=N,bk:=D.nx } σ2 H2)
noncomputable def vE(fp:List Addr)(h:Heap):List (Addr×Obj):=fp.filterMap fun b=>(h.get? b).map fun o=>(b,o)
theorem yM{fp:List Addr}{h:Heap}{b:Addr}{o:Obj}(hb:b∈fp)(e:h.get? b=some o):(b,o)∈vE fp h:=List.mem_filterMap.mpr ⟨b,hb,by rw[e];rfl⟩
theorem WM{fp:List Addr}{h:Heap}{p:Addr×Obj}(hp:p∈vE fp h):p.1∈fp/\h.get? p.1=some p.2:=by
 obtain⟨b,hb,e⟩:=List.mem_filterMap.mp hp;cases q:h.get? b with
 |none=>rw[q] at e;cases e
 |some o =>
  rw[q] at e;have e':(b,o)=p:=bH e;subst e';exact⟨hb,q⟩
theorem Inv.pinned{mw:List (Addr×Obj)}{σ:St}{H:Hp}{s:Shared}{fp:List Addr}(I:Inv X mw σ H s)(hf:∀b∈fp,vz X mw H b)(ho:∀b∈fp,∃o,s.heap.get? b=some o/\∀v,o.data≠.cell v):Inv X (mw++vE fp s.heap) σ H s :=
 I.pins_of fun p hp=>(aP.mp hp).elim (fun z=>I.pin p (aM _ z)) fun z=>by
  obtain⟨hb,e⟩:=WM z;obtain⟨f0,f1,f2,_⟩:=hf p.1 hb;obtain⟨o,e',d⟩:=ho p.1 hb;rw[e] at e';cases e';exact⟨e,f0,f1,f2,d⟩
theorem Inv.unpinned{mw pl:List (Addr×Obj)}{σ:St}{H:Hp}{s:Shared}(I:Inv X (mw++pl) σ H s):Inv X mw σ H s:=I.pins_of fun p hp=>I.pin p (aM _ (bR _ hp))
theorem yQ{iter:Expr}{body:List Stmt}{wi:TI}{g:TG}{tb:TS}{pos:Pos}(hp:PassesOwn (model X.prog X.w) X.A X.env X.xe)(hc:X.calm=true)(hi:PI X tg iter wi)(hg:PG X tg g)(hb:PSs X body tb)
  (hs:∀x,dZ iter X.env x=pure x:=by intro _;rfl):PS X (.For tg iter body [] pos) (Qt wi g tb):=by
 intro mw s σ H D I h;refine wpAny_For (thn (hi mw s σ H _ I h) fun v s1 h1=>thn h1 fun CI s2 h2=>?_) hs;obtain⟨it,fp,tn,J,H2,e,I2,T,BQ,f2,W,⟨m0,w0⟩,m4⟩:=h2;subst e
 -- what stays true of the iterator's objects through the loop
 have BR:∀{H':Hp},(∀b∈fp,H' b=none)->∀b∈fp,vz X mw H' b:=fun hn b hb=>⟨hn b hb,(f2 b hb).2⟩
 refine codeAny_forLoop_any (fun n s'=>∃i σ' H',Inv X mw σ' H' s'/\tn i s'.heap/\(∀b∈fp,H' b=none)/\W i n σ' H') ?_ m0 ⟨0,σ,H2,I2,BQ,fun b hb=>(f2 b hb).1,w0⟩;rintro n s3 ⟨i,σ3,H3,I3,st3,fr3,w3⟩;rcases m4 i n σ3 H3 w3 with ⟨stop,qn⟩|⟨go,N,hN,step⟩
 ·refine iq hp (thn (T.done X rfl rfl rfl hc i mw s3 σ3 H3 X.xe I3 (BR fr3) st3 stop) fun r s4 ⟨hr,I4⟩=>?_);subst hr;exact lE ⟨σ3,H3,I4,qn⟩
 ·refine iq hp (thn (T.item X rfl rfl rfl hc i mw s3 σ3 H3 X.xe I3 (BR fr3) st3 go) fun r s4 ⟨u,hr,h4⟩=>?_);subst hr;refine iq hp (thn h4 fun _ s5 ⟨x,H5,I5,r5,y5,st5,fr5⟩=>?_);have I5':=I5.pinned (BR fr5) (T.obj _ _ st5);refine iq hp (thn (hg _ s5 σ3 H5 x u _ I5' r5 (step x H5 y5)) fun _ s6 ⟨σ6,H6,I6,q6⟩=>?_);refine iq hp (thn (hb _ s6 σ6 H6 _ I6 q6) fun f s7 q7=>?_);have again:∀{σ7:St} {H7:Hp},Inv X (mw++vE fp s5.heap) σ7 H7 s7->N σ7 H7->∃m,m<n/\∃i σ' H',Inv X mw σ' H' s7/\tn i s7.heap/\(∀b∈fp,H' b=none)/\W i m σ' H':=fun{σ7 H7} I7 n7=>by
   obtain⟨m',hm,w7⟩:=hN σ7 H7 n7;refine⟨m',hm,i+1,σ7,H7,I7.unpinned,T.keep _ _ _ st5 fun b hb o e=>(I7.pin (b,o) (aM _ (aM _ (yM hb e)))).1,fun b hb=>?_,w7⟩;obtain⟨o,e,d⟩:=T.obj _ _ st5 b hb;exact(I7.pin (b,o) (aM _ (aM _ (yM hb e)))).2.1
  cases f with
  |next=>obtain⟨σ7,H7,I7,n7⟩:=q7;exact again I7 n7
  |cont=>obtain⟨σ7,H7,I7,n7⟩:=q7;exact again I7 n7
  |brk=>obtain⟨σ7,H7,I7,q7⟩:=q7;exact⟨σ7,H7,I7.unpinned,q7⟩
  |ret v=>obtain⟨x7,σ7,H7,I7,r7,q7⟩:=q7;exact⟨x7,σ7,H7,I7.unpinned,r7,q7⟩
end
theorem uZ{K:FG7}{a:Addr}{xs:List V}{g:TG}{tb:TS}{D:Ends}{σ:St}{H:Hp}(Pv:Nat->St->Hp->Prop)(h0:Pv 0 σ H)(hl:∀i σ H,i<=xs.length->Pv i σ H->SqL K H a xs)
  (hs:∀i x σ H,xs[i]?=some x->Pv i σ H->g x σ H fun σ2 H2=>tb { D with nx:=Pv (i+1),ct:=Pv (i+1),bk:=D.nx } σ2 H2) (hd:∀σ H,Pv xs.length σ H->D.nx σ H) :
  ∃W:Nat->Nat->St->Hp->Prop,(∃m,W 0 m σ H)/\∀i m σ H,W i m σ H→
   ((Itl K a).stop i H/\D.nx σ H)\/((Itl K a).go i H/\∃N:St->Hp->Prop,(∀σ' H',N σ' H'->∃m',m'<m/\W (i+1) m' σ' H')/\∀x H',(Itl K a).yld i H x H'->g x σ H' fun σ2 H2=>tb { D with nx:=N,ct:=N,bk:=D.nx } σ2 H2):=by
 refine⟨fun i m σ H=>m=xs.length-i/\i<=xs.length/\Pv i σ H,⟨xs.length,by simp,aX _,h0⟩,?_⟩;rintro i m σ H ⟨rfl,hi,p⟩;have q:=hl i σ H hi p;by_cases mE:i<xs.length
 ·refine .inr ⟨⟨xs,xs[i],q,by simp[mE]⟩,Pv (i+1),fun σ' H' p'=>⟨xs.length-(i+1),by omega,rfl,mE,p'⟩,fun x H' y=>?_⟩;obtain⟨e,y⟩:=y;subst e;exact hs i x σ _ (y xs q) p
 ·have e:i=xs.length:=by omega
  subst e;exact .inl ⟨⟨xs,q,aE _⟩,hd σ H p⟩
theorem um{K:FG7}{a:Addr}{xs:List V}{g:TG}{tb:TS}{D:Ends}{σ:St}{H:Hp}(Pv:Nat->St->Hp->Prop)(h0:Pv 0 σ H)(hl:∀i σ H,i<=xs.length->Pv i σ H->SqT K H a xs)
  (hs:∀i x σ H,xs[i]?=some x->Pv i σ H->g x σ H fun σ2 H2=>tb { D with nx:=Pv (i+1),ct:=Pv (i+1),bk:=D.nx } σ2 H2) (hd:∀σ H,Pv xs.length σ H->D.nx σ H) :
  ∃W:Nat->Nat->St->Hp->Prop,(∃m,W 0 m σ H)/\∀i m σ H,W i m σ H→
   ((Itt K a).stop i H/\D.nx σ H)\/((Itt K a).go i H/\∃N:St->Hp->Prop,(∀σ' H',N σ' H'->∃m',m'<m/\W (i+1) m' σ' H')/\∀x H',(Itt K a).yld i H x H'->g x σ H' fun σ2 H2=>tb { D with nx:=N,ct:=N,bk:=D.nx } σ2 H2):=by
 refine⟨fun i m σ H=>m=xs.length-i/\i<=xs.length/\Pv i σ H,⟨xs.length,by simp,aX _,h0⟩,?_⟩;rintro i m σ H ⟨rfl,hi,p⟩;have q:=hl i σ H hi p;by_cases mE:i<xs.length
 ·refine .inr ⟨⟨xs,xs[i],q,by simp[mE]⟩,Pv (i+1),fun σ' H' p'=>⟨xs.length-(i+1),by omega,rfl,mE,p'⟩,fun x H' y=>?_⟩;obtain⟨e,y⟩:=y;subst e;exact hs i x σ _ (y xs q) p
 ·have e:i=xs.length:=by omega
  subst e;exact .inl ⟨⟨xs,q,aE _⟩,hd σ H p⟩
theorem yK{lo:Int}{n:Nat}{g:TG}{tb:TS}{D:Ends}{σ:St}{H:Hp}(Pv:Nat->St->Hp->Prop)(h0:Pv 0 σ H)
  (hs:∀i σ H,i<n->Pv i σ H->g (.int (lo+i)) σ H fun σ2 H2=>tb { D with nx:=Pv (i+1),ct:=Pv (i+1),bk:=D.nx } σ2 H2) (hd:∀σ H,Pv n σ H->D.nx σ H) :
  ∃W:Nat->Nat->St->Hp->Prop,(∃m,W 0 m σ H)/\∀i m σ H,W i m σ H→
   ((Itr lo n).stop i H/\D.nx σ H)\/((Itr lo n).go i H/\∃N:St->Hp->Prop,(∀σ' H',N σ' H'->∃m',m'<m/\W (i+1) m' σ' H')/\∀x H',(Itr lo n).yld i H x H'->g x σ H' fun σ2 H2=>tb { D with nx:=N,ct:=N,bk:=D.nx } σ2 H2):=by
 refine⟨fun i m σ H=>m=n-i/\i<=n/\Pv i σ H,⟨n,by simp,aX _,h0⟩,?_⟩;rintro i m σ H ⟨rfl,hi,p⟩;by_cases mE:i<n
 ·refine .inr ⟨mE,Pv (i+1),fun σ' H' p'=>⟨n-(i+1),by omega,rfl,mE,p'⟩,fun x H' y=>?_⟩;obtain⟨e,y⟩:=y;subst e y;exact hs i σ _ mE p
 ·have e:i=n:=by omega
  subst e;exact .inl ⟨aE _,hd σ H p⟩
end L2
namespace L2
open PySem PySem.Spec PyProof.Rows
abbrev R2:=V->V->Hp->VK->Prop
def OpR(X:Cx)(f:Value->Value->Sem Value)(r:R2):Prop :=
 ∀(mw:List (Addr×Obj)) (s:Shared) (σ:St) (H:Hp) (x y:V) (v u:Value) (Q:VK),Inv X mw σ H s->z8 x v->z8 y u->r x y H Q→
  wpAny (model X.prog X.w) X.A (f v u) (EP X mw σ Q) X.xe s
def UnR(X:Cx)(f:Value->Sem Value)(r:V->Hp->VK->Prop):Prop :=
 ∀(mw:List (Addr×Obj)) (s:Shared) (σ:St) (H:Hp) (x:V) (v:Value) (Q:VK),Inv X mw σ H s->z8 x v->r x H Q→
  wpAny (model X.prog X.w) X.A (f v) (EP X mw σ Q) X.xe s
def xV(X:Cx)(f:Value)(r:List V->Hp->VK->Prop):Prop :=
 ∀(mw:List (Addr×Obj)) (s:Shared) (σ:St) (H:Hp) (xs:List V) (us:List Value) (Q:VK),Inv X mw σ H s->zZ xs us->r xs H Q→
  wpAny (model X.prog X.w) X.A (call f us) (EP X mw σ Q) X.xe s
def zaY(X:Cx)(r:V->Hp->(Bool->Hp->Prop)->Prop):Prop :=
 ∀(mw:List (Addr×Obj)) (s:Shared) (σ:St) (H:Hp) (x:V) (v:Value) (Q:Bool->Hp->Prop),Inv X mw σ H s->z8 x v->r x H Q→
  wpAny (model X.prog X.w) X.A (truthy v) (TP X mw σ Q) X.xe s
def tOp(r:R2)(ta tb:TE):TE:=fun σ H Q=>ta σ H fun x H1=>tb σ H1 fun y H2=>r x y H2 Q
def tUn(r:V->Hp->VK->Prop)(ta:TE):TE:=fun σ H Q=>ta σ H fun x H1=>r x H1 Q
def rI(C:Int->Int->Prop)(g:Int->Int->V):R2:=fun x y H Q=>∃i j,x=.int i/\y=.int j/\C i j/\Q (g i j) H
def rI0(g:Int->Int->V):R2:=fun x y H Q=>∃i j,x=.int i/\y=.int j/\Q (g i j) H
def rU(g:Int->V):V->Hp->VK->Prop:=fun x H Q=>∃i,x=.int i/\Q (g i) H
section
variable{X:Cx}{a b c:Expr}{ta tb tc:TE}{pos:Pos}
theorem JO(ha:PE X a ta)(hb:PE X b tb){mw:List (Addr×Obj)}{s:Shared}{σ:St}{H:Hp}{R:V->V->Hp->Prop}(I:Inv X mw σ H s)
  (h:ta σ H fun x H1=>tb σ H1 fun y H2=>R x y H2) {Q:VS7} {f:Value->Value->Sem Value}
  (hf:∀v u s2 x y H2,Inv X mw σ H2 s2->z8 x v->z8 y u->R x y H2->wpAny (model X.prog X.w) X.A (f v u) Q X.xe s2) :
  wpAny (model X.prog X.w) X.A (eval a X.env) (fun v s₁=>wpAny (model X.prog X.w) X.A (eval b X.env) (fun u s₂=>wpAny (model X.prog X.w) X.A (f v u) Q X.xe s₂) X.xe s₁) X.xe s:=by
 refine thn (ha mw s σ H _ I h) fun v s1 ⟨x,H1,I1,r1,q1⟩=>?_;refine thn (hb mw s1 σ H1 _ I1 q1) fun u s2 ⟨y,H2,I2,r2,q2⟩=>?_;exact hf v u s2 x y H2 I2 r1 r2 q2
theorem zw{op:Operator}{r:R2}(ho:OpR X (fw op) r)(ha:PE X a ta)(hb:PE X b tb):PE X (.BinOp a op b pos) (tOp r ta tb):=by
 intro mw s σ H Q I h;exact wpAny_BinOp (JO ha hb I h fun v u s2 x y H2 I2 rx ry q=>ho mw s2 σ H2 x y v u Q I2 rx ry q)
theorem WN{op:UnaryOp}{r:V->Hp->VK->Prop}(ho:UnR X (unaryOp op) r)(ha:PE X a ta):PE X (.UnaryOp op a pos) (tUn r ta):=by
 intro mw s σ H Q I h;exact UnaryOp_ (thn (ha mw s σ H _ I h) fun v s1 ⟨x,H1,I1,r1,q1⟩=>ho mw s1 σ H1 x v Q I1 r1 q1)
theorem opI{f:Value->Value->Sem Value}{C:Int->Int->Prop}{g:Int->Int->Int}
  (rule:∀(i j:Int) (t u:Tok) (s:Shared) (Q:VS7) (E:VS7),C i j->Q (.int (g i j) s.toks) { s with toks:=s.toks+1 }->wpAny (model X.prog X.w) X.A (f (.int i t) (.int j u)) Q E s) :
  OpR X f (rI C fun i j=>.int (g i j)):=by
 intro mw s σ H x y v u Q I rx ry h;obtain⟨i,j,rfl,rfl,hc,q⟩:=h;obtain⟨t,rfl⟩:=rx;obtain⟨t',rfl⟩:=ry;exact rule i j t t' s _ _ hc ⟨.int (g i j),H,I.tok _,⟨_,rfl⟩,q⟩
theorem Qu{f:Value->Value->Sem Value}{g:Int->Int->Int}
  (rule:∀(i j:Int) (t u:Tok) (s:Shared) (Q:VS7) (E:VS7),Q (.int (g i j) s.toks) { s with toks:=s.toks+1 }->wpAny (model X.prog X.w) X.A (f (.int i t) (.int j u)) Q E s) :
  OpR X f (rI0 fun i j=>.int (g i j)):=by
 intro mw s σ H x y v u Q I rx ry h;obtain⟨i,j,rfl,rfl,q⟩:=h;obtain⟨t,rfl⟩:=rx;obtain⟨t',rfl⟩:=ry;exact rule i j t t' s _ _ ⟨.int (g i j),H,I.tok _,⟨_,rfl⟩,q⟩
theorem JP{f:Value->Value->Sem Value}{g:Int->Int->Bool}
  (rule:∀(i j:Int) (t u:Tok) (s:Shared) (Q:VS7) (E:VS7),Q (.bool (g i j)) s->wpAny (model X.prog X.w) X.A (f (.int i t) (.int j u)) Q E s) :
  OpR X f (rI0 fun i j=>.bl (g i j)):=by
 intro mw s σ H x y v u Q I rx ry h;obtain⟨i,j,rfl,rfl,q⟩:=h;obtain⟨t,rfl⟩:=rx;obtain⟨t',rfl⟩:=ry;exact rule i j t t' s _ _ ⟨.bl (g i j),H,I,rfl,q⟩
def Qe(i j:Int):Prop:=0<=j/\j<=1000000/\i.natAbs<2 ^ 64
theorem XC(k:Nat):(0:Int)<=2 ^ k:=by
 rw[two_pow_cast];exact cH _
theorem yo:OpR X (fw .Add) (rI0 fun i j=>.int (i+j)):=Qu fun _ _ _ _ _ _ _ q=>add_int q
theorem yp:OpR X (fw .Sub) (rI0 fun i j=>.int (i-j)):=Qu fun _ _ _ _ _ _ _ q=>sub_int q
theorem jx:OpR X (fw .Mod) (rI (fun _ j=>0<j) fun i j=>.int (i % j)):=opI fun i j _ _ _ _ _ hc q=>by
 have h1:(0:Int)<j:=hc;exact mod_int' (by omega) (by rw[Int.fmod_eq_emod_of_nonneg i (by omega)];exact q)
theorem WO:OpR X (fw .Pow) (rI Qe fun i j=>.int (i ^ j.toNat)):=opI fun _ _ _ _ _ _ _ hc q=>pow_int_small hc.1 hc.2.1 hc.2.2 q
theorem xC:OpR X (fw .LShift) (rI Qe fun i j=>.int (i*2 ^ j.toNat)):=opI fun _ _ _ _ _ _ _ hc q=>lshift_int_small hc.1 hc.2.1 hc.2.2 q
theorem WP:OpR X (fw .RShift) (rI (fun _ j=>0<=j) fun i j=>.int (i / 2 ^ j.toNat)):=opI fun i j _ _ _ _ _ hc q =>
 rshift_int hc (by rw[gO i (XC _)];exact q)
theorem jy:OpR X (fw .BitAnd) (rI0 fun i j=>.int (cZ i j)):=Qu fun _ _ _ _ _ _ _ q=>and_int q
theorem SX:OpR X (fw .BitOr) (rI0 fun i j=>.int (fP i j)):=Qu fun _ _ _ _ _ _ _ q=>or_int q
theorem Sc:OpR X (fw .BitXor) (rI0 fun i j=>.int (bX i j)):=Qu fun _ _ _ _ _ _ _ q=>xor_int q
theorem unI{f:Value->Sem Value}{g:Int->Int}
  (rule:∀(i:Int) (t:Tok) (s:Shared) (Q:VS7) (E:VS7),Q (.int (g i) s.toks) { s with toks:=s.toks+1 }->wpAny (model X.prog X.w) X.A (f (.int i t)) Q E s) :
  UnR X f (rU fun i=>.int (g i)):=by
 intro mw s σ H x v Q I rx h;obtain⟨i,rfl,q⟩:=h;obtain⟨t,rfl⟩:=rx;exact rule i t s _ _ ⟨.int (g i),H,I.tok _,⟨_,rfl⟩,q⟩
theorem jz:UnR X (unaryOp .USub) (rU fun i=>.int (-i)):=unI fun _ _ _ _ _ q=>neg_int q
end
noncomputable def zay:V->V->Bool
 |.non,.non=>true|.non,.int _=>true|.int _,.non=>true|.non,.bl _=>true|.bl _,.non=>true|.non,.str _=>true|.str _,.non=>true
 |.int _,.int _=>true|.bl _,.bl _=>true|.str _,.str _=>true|.byt _,.byt _=>true
 |.int _,.str _=>true|.str _,.int _=>true|.bl _,.str _=>true|.str _,.bl _=>true
 |_,_=>false
noncomputable def rEq:R2:=fun x y H Q=>zay x y=true/\Q (.bl (decide (x=y))) H
noncomputable def rNe:R2:=fun x y H Q=>zay x y=true/\Q (.bl (!decide (x=y))) H
theorem WQ{i j:Int}:decide (V.int i=V.int j)=(i == j):=by
 rw[eP];simp
theorem Sd{i j:Bool}:decide (V.bl i=V.bl j)=(i == j):=by
 rw[eP];simp
theorem WR{i j:Str}:decide (V.str i=V.str j)=(i == j):=by
 rw[eP];simp
theorem WT{i j:Array UInt8}:decide (V.byt i=V.byt j)=(i.toList == j.toList):=by
 rw[eP];cases i;cases j;simp
section
variable{X:Cx}{a b c:Expr}{ta tb tc:TE}{pos:Pos}
theorem z6{mw:List (Addr×Obj)}{σ:St}{H:Hp}{s:Shared}{Q:VK}{k k':Bool}(I:Inv X mw σ H s)(q:Q (.bl k) H)(e:k=k'):EP X mw σ Q (.bool k') s:=by
 subst e;exact⟨.bl k,H,I,rfl,q⟩
theorem vF:OpR X (eY .Eq) rEq:=by
 intro mw s σ H x y v u Q I rx ry h;obtain⟨hs,q⟩:=h;cases x with
 |non =>
  cases rx;cases y with
  |non=>cases ry;exact PySem.EqNone.eq_none_none (z6 I q (by simp))
  |bl j=>cases ry;exact PySem.EqNone.eq_none_bool (z6 I q (by simp))
  |int j=>obtain⟨t',rfl⟩:=ry;exact PySem.EqNone.eq_none_int (z6 I q (by simp))
  |str j=>obtain⟨t',rfl⟩:=ry;exact PySem.EqNone.eq_none_str (z6 I q (by simp))
  |_=>exact absurd (show false=true from hs) bE
 |bl i =>
  cases rx;cases y with
  |non=>cases ry;exact PySem.EqNone.eq_bool_none (z6 I q (by simp))
  |bl j=>cases ry;exact eq_bool (z6 I q Sd)
  |str j=>obtain⟨t',rfl⟩:=ry;exact PySem.EqMixed.eq_bool_str (z6 I q (by simp))
  |_=>exact absurd (show false=true from hs) bE
 |int i =>
  obtain⟨t,rfl⟩:=rx;cases y with
  |non=>cases ry;exact PySem.EqNone.eq_int_none (z6 I q (by simp))
  |int j=>obtain⟨t',rfl⟩:=ry;exact eq_int (z6 I q WQ)
  |str j=>obtain⟨t',rfl⟩:=ry;exact PySem.EqMixed.eq_int_str (z6 I q (by simp))
  |_=>exact absurd (show false=true from hs) bE
 |str i =>
  obtain⟨t,rfl⟩:=rx;cases y with
  |non=>cases ry;exact PySem.EqNone.eq_str_none (z6 I q (by simp))
  |bl j=>cases ry;exact PySem.EqMixed.eq_str_bool (z6 I q (by simp))
  |int j=>obtain⟨t',rfl⟩:=ry;exact PySem.EqMixed.eq_str_int (z6 I q (by simp))
  |str j=>obtain⟨t',rfl⟩:=ry;exact eq_str (z6 I q WR)
  |_=>exact absurd (show false=true from hs) bE
 |byt i =>
  obtain⟨t,rfl⟩:=rx;cases y with
  |byt j=>obtain⟨t',rfl⟩:=ry;exact PySem.W.eq_bytes (z6 I q WT)
  |_=>exact absurd (show false=true from hs) bE
 |_=>cases y <;> exact absurd (show false=true from hs) bE
theorem jA:OpR X (eY .NotEq) rNe:=by
 intro mw s σ H x y v u Q I rx ry h;obtain⟨hs,q⟩:=h;cases x with
 |non =>
  cases rx;cases y with
  |non=>cases ry;exact PySem.EqNone.ne_none_none (z6 I q (by simp))
  |bl j=>cases ry;exact PySem.EqNone.ne_none_bool (z6 I q (by simp))
  |int j=>obtain⟨t',rfl⟩:=ry;exact PySem.EqNone.ne_none_int (z6 I q (by simp))
  |str j=>obtain⟨t',rfl⟩:=ry;exact PySem.EqNone.ne_none_str (z6 I q (by simp))
  |_=>exact absurd (show false=true from hs) bE
 |bl i =>
  cases rx;cases y with
  |non=>cases ry;exact PySem.EqNone.ne_bool_none (z6 I q (by simp))
  |bl j=>cases ry;exact ne_bool (z6 I q (congrArg not Sd))
  |str j=>obtain⟨t',rfl⟩:=ry;exact PySem.EqMixed.ne_bool_str (z6 I q (by simp))
  |_=>exact absurd (show false=true from hs) bE
 |int i =>
  obtain⟨t,rfl⟩:=rx;cases y with
  |non=>cases ry;exact PySem.EqNone.ne_int_none (z6 I q (by simp))
  |int j=>obtain⟨t',rfl⟩:=ry;exact ne_int (z6 I q (congrArg not WQ))
  |str j=>obtain⟨t',rfl⟩:=ry;exact PySem.EqMixed.ne_int_str (z6 I q (by simp))
  |_=>exact absurd (show false=true from hs) bE
 |str i =>
  obtain⟨t,rfl⟩:=rx;cases y with
  |non=>cases ry;exact PySem.EqNone.ne_str_none (z6 I q (by simp))
  |bl j=>cases ry;exact PySem.EqMixed.ne_str_bool (z6 I q (by simp))
  |int j=>obtain⟨t',rfl⟩:=ry;exact PySem.EqMixed.ne_str_int (z6 I q (by simp))
  |str j=>obtain⟨t',rfl⟩:=ry;exact ne_str (z6 I q (congrArg not WR))
  |_=>exact absurd (show false=true from hs) bE
 |byt i =>
  obtain⟨t,rfl⟩:=rx;cases y with
  |byt j=>obtain⟨t',rfl⟩:=ry;exact PySem.W.ne_bytes (z6 I q (congrArg not WT))
  |_=>exact absurd (show false=true from hs) bE
 |_=>cases y <;> exact absurd (show false=true from hs) bE
theorem vg:OpR X (eY .Lt) (rI0 fun i j=>.bl (decide (i<j))):=JP fun _ _ _ _ _ _ _ q=>lt_int q
theorem XD:OpR X (eY .LtE) (rI0 fun i j=>.bl (decide (i<=j))):=JP fun _ _ _ _ _ _ _ q=>le_int q
theorem Z2:OpR X (eY .Gt) (rI0 fun i j=>.bl (decide (j<i))):=JP fun _ _ _ _ _ _ _ q=>gt_int q
theorem zG(b:Expr){op:CmpOp}(h:op≠.In:=by decide)(h2:op≠.NotIn:=by decide):fN op b=false:=by
 have e1:(op == CmpOp.In)=false:=by cases op <;> first|rfl|exact absurd rfl h
 have e2:(op == CmpOp.NotIn)=false:=by cases op <;> first|rfl|exact absurd rfl h2
 cases b <;> simp[fN,e1,e2]
theorem xW{op:CmpOp}{r:R2}(ho:OpR X (eY op) r)(ha:PE X a ta)(hb:PE X b tb)(hm:fN op b=false):PE X (.Compare a [op] [b] pos) (tOp r ta tb):=by
 intro mw s σ H Q I h;exact wpAny_Compare1 (JO ha hb I h fun v u s2 x y H2 I2 rx ry q=>ho mw s2 σ H2 x y v u Q I2 rx ry q) hm
def Qv(t:TE):TT:=fun σ H Q=>t σ H fun x H'=>∃k,x=.bl k/\Q k H'
theorem zE{op:CmpOp}{r:R2}(ho:OpR X (eY op) r)(ha:PE X a ta)(hb:PE X b tb)(hm:fN op b=false):PT X (.Compare a [op] [b] pos) (Qv (tOp r ta tb)):=by
 intro mw s σ H Q I h;refine wpAny_isTrue_Compare1 (thn (ha mw s σ H _ I h) fun v s1 ⟨x,H1,I1,r1,q1⟩=>thn (hb mw s1 σ H1 _ I1 q1) fun u s2 ⟨y,H2,I2,r2,q2⟩ =>
  thn (ho mw s2 σ H2 x y v u _ I2 r1 r2 q2) fun c s3 ⟨z,H3,I3,r3,k,e,q3⟩=>?_) hm
 subst e;cases r3;exact cW ⟨H3,I3,q3⟩
def Se(r r':R2)(ta tb tc:TE):TE:=fun σ H Q=>ta σ H fun x H1=>tb σ H1 fun y H2=>r x y H2 fun z H3=>∃k,z=.bl k∧
 (if k=true then tc σ H3 fun w' H4=>r' y w' H4 Q else Q (.bl false) H3)
theorem UN{op BS:CmpOp}{r r':R2}(ho:OpR X (eY op) r)(Ao:OpR X (eY BS) r')(ha:PE X a ta)(hb:PE X b tb)(hc:PE X c tc)
  (hm:lastMarks [op,BS] [b,c]=false:=by with_unfolding_all rfl):PE X (.Compare a [op,BS] [b,c] pos) (Se r r' ta tb tc):=by
 intro mw s σ H Q I h;refine Compare_chain (thn (ha mw s σ H _ I h) fun v s1 ⟨x,H1,I1,r1,q1⟩=>chain_link (thn (hb mw s1 σ H1 _ I1 q1) fun u s2 ⟨y,H2,I2,r2,q2⟩ =>
  thn (ho mw s2 σ H2 x y v u _ I2 r1 r2 q2) fun d s3 ⟨z,H3,I3,r3,k,e,q3⟩=>?_)) hm
 subst e;cases r3;refine cW ?_;cases k with
 |false=>exact ite_ff ⟨.bl false,H3,I3,rfl,q3⟩
 |true=>exact ite_tt (chain_last (thn (hc mw s3 σ H3 _ I3 q3) fun w' s4 ⟨z',H4,I4,r4,q4⟩=>Ao mw s4 σ H4 y z' u w' Q I4 r2 r4 q4))
theorem YU{op BS:CmpOp}{r r':R2}(ho:OpR X (eY op) r)(Ao:OpR X (eY BS) r')(ha:PE X a ta)(hb:PE X b tb)(hc:PE X c tc)
  (hm:lastMarks [op,BS] [b,c]=false:=by with_unfolding_all rfl):PT X (.Compare a [op,BS] [b,c] pos) (Qv (Se r r' ta tb tc)):=by
 intro mw s σ H Q I h;refine isTrue_chain (thn (ha mw s σ H _ I h) fun v s1 ⟨x,H1,I1,r1,q1⟩=>test_link (thn (hb mw s1 σ H1 _ I1 q1) fun u s2 ⟨y,H2,I2,r2,q2⟩ =>
  thn (ho mw s2 σ H2 x y v u _ I2 r1 r2 q2) fun d s3 ⟨z,H3,I3,r3,k,e,q3⟩=>?_)) hm
 subst e;cases r3;refine cW ?_;cases k with
 |false =>
  obtain⟨k',e',q'⟩:=q3;cases e';exact ite_ff ⟨H3,I3,q'⟩
 |true =>
  refine ite_tt (test_last (thn (hc mw s3 σ H3 _ I3 q3) fun w' s4 ⟨z',H4,I4,r4,q4⟩=>thn (Ao mw s4 σ H4 y z' u w' _ I4 r2 r4 q4) fun d' s5 ⟨z2,H5,I5,r5,k2,e2,q5⟩=>?_));subst e2;cases r5;exact cW ⟨H5,I5,q5⟩
noncomputable def zaz(K:FG7)(x:V)(H:Hp)(k:Bool):Prop :=
 match x with
 |.non=>k=false
 |.bl b=>k=b
 |.int i=>k=(i != 0)
 |.str y=>y.length<=sizeLine/\k=((y.length:Int) != 0)
 |.byt y=>y.size<=sizeLine/\k=((y.size:Int) != 0)
 |.ref p=>(∃xs,SqL K H p xs/\k=!xs.isEmpty)\/(∃xs,SqT K H p xs/\k=!xs.isEmpty)\/∃kvs,H p=some (.dK kvs)/\k=!kvs.isEmpty
 |_=>False
theorem XE{κ:Type}{kvs:List (κ×V)}{vs:List (κ×Value)}(r:KV kvs vs):(!vs.isEmpty)=!kvs.isEmpty:=by
 cases r <;> rfl
theorem rA{xs:List V}{its:List Value}(r:zZ xs its):(!its.toArray.isEmpty)=!xs.isEmpty:=by
 cases r <;> simp
theorem jB:(sizeLine:Nat)<2 ^ 63:=by rw[eQ];decide
theorem Qw:zaY X (fun x H Q=>∃k,zaz X.K x H k/\Q k H):=by
 intro mw s σ H x v Q I rx h;obtain⟨k,e,q⟩:=h;have hl:=jB;have hs:sizeLine=16777216:=eQ;cases x with
 |non =>
  cases rx;have e':k=false:=e;subst e';exact truthy_none ⟨H,I,q⟩
 |bl b =>
  cases rx;have e':k=b:=e;subst e';exact cW ⟨H,I,q⟩
 |int i =>
  obtain⟨t,rfl⟩:=rx;have e':k=(i != 0):=e;subst e';exact PySem.P.truthy_int ⟨H,I,q⟩
 |str y =>
  obtain⟨t,rfl⟩:=rx;obtain⟨hy,e'⟩:y.length<=sizeLine/\k=((y.length:Int) != 0):=e;subst e';exact PySem.P.truthy_str (by omega) ⟨H,I.tok _,q⟩
 |byt y =>
  obtain⟨t,rfl⟩:=rx;obtain⟨hy,e'⟩:y.size<=sizeLine/\k=((y.size:Int) != 0):=e;subst e';exact PySem.W.truthy_bytes (by omega) ⟨H,I.tok _,q⟩
 |ref p =>
  cases rx;have e':(∃xs,SqL X.K H p xs/\k=!xs.isEmpty)\/(∃xs,SqT X.K H p xs/\k=!xs.isEmpty)\/∃kvs,H p=some (.dK kvs)/\k=!kvs.isEmpty:=e;rcases e' with ⟨xs,hx,e'⟩|⟨xs,hx,e'⟩|⟨kvs,hx,e'⟩
  ·subst e';obtain⟨its,r,pl,hz⟩:=I.list hx;have my:=r.length;exact wpAny_truthy_list pl.isList (by simp only[aO];omega) ⟨H,I.tok _,by rw[rA r];exact q⟩
  ·subst e';obtain⟨its,r,pl,hz⟩:=I.tuple hx;have my:=r.length;exact truthy_tuple pl (by simp only[aO];omega) ⟨H,I.tok _,by rw[rA r];exact q⟩
  ·subst e';obtain⟨hz,hS,vs,r,m⟩:kvs.length<=sizeLine/\(p == sysModules)=false/\∃vs,KV kvs vs/\s.heap.DictOf (zO X.prog X.w) p vs:=I.hok p _ hx;have my:kvs.length=vs.length:=Paired.length r;exact wpAny_truthy_dict hS m (by omega) ⟨H,I.tok _,by rw[XE r];exact q⟩
 |_=>exact(show False from e).elim
theorem qr(ha:PE X a ta)(he:∀nJ,lR a X.env nJ=(do let v←nJ;standAt a.pos;holding [v] (truthy v))) :
  PT X a (fun σ H Q=>ta σ H fun x H'=>∃k,zaz X.K x H' k/\Q k H'):=by
 intro mw s σ H Q I h;exact isTrue_plain (thn (ha mw s σ H _ I h) fun v s1 ⟨x,H1,I1,r1,q1⟩=>Qw mw s1 σ H1 x v Q I1 r1 q1) (he _)
theorem wC{x:V}{us:List Value}(r:zZ [x] us):∃u,us=[u]/\z8 x u:=by
 cases r with
 |cons r1 r2=>cases r2;exact⟨_,rfl,r1⟩
theorem WU{x y:V}{us:List Value}(r:zZ [x,y] us):∃u w',us=[u,w']/\z8 x u/\z8 y w':=by
 cases r with
 |cons r1 r2 =>
  cases r2 with
  |cons r3 r4=>cases r4;exact⟨_,_,rfl,r1,r3⟩
theorem tF(hc:X.calm=true):xV X (.builtin "max") (fun xs H Q=>∃i j,xs=[.int i,.int j]/\Q (.int (if j>i then j else i)) H):=by
 intro mw s σ H xs us Q I r h;obtain⟨i,j,rfl,q⟩:=h;obtain⟨u,w',rfl,⟨t,rfl⟩,⟨t',rfl⟩⟩:=WU r;refine max_two_ints (I.ok.hd hc) fun h' tk k=>⟨_,H,I.kept k,?_,q⟩
 by_cases hj:j>i
 ·rw[if_pos hj,if_pos hj];exact⟨_,rfl⟩
 ·rw[if_neg hj,if_neg hj];exact⟨_,rfl⟩
theorem WV(hc:X.calm=true):xV X (.builtin "min") (fun xs H Q=>∃i j,xs=[.int i,.int j]/\Q (.int (if j<i then j else i)) H):=by
 intro mw s σ H xs us Q I r h;obtain⟨i,j,rfl,q⟩:=h;obtain⟨u,w',rfl,⟨t,rfl⟩,⟨t',rfl⟩⟩:=WU r;refine min_two_ints (I.ok.hd hc) fun h' tk k=>⟨_,H,I.kept k,?_,q⟩
 by_cases hj:j<i
 ·rw[if_pos hj,if_pos hj];exact⟨_,rfl⟩
 ·rw[if_neg hj,if_neg hj];exact⟨_,rfl⟩
theorem vG:xV X (.type "int") (fun xs H Q=>(∃i,xs=[.int i]/\Q (.int i) H)\/∃k,xs=[.bl k]/\Q (.int (if k then 1 else 0)) H):=by
 intro mw s σ H xs us Q I r h;rcases h with ⟨i,rfl,q⟩|⟨k,rfl,q⟩
 ·obtain⟨u,rfl,t,rfl⟩:=wC r;exact call_int_int ⟨.int i,H,I,⟨_,rfl⟩,q⟩
 ·obtain⟨u,rfl,r1⟩:=wC r;cases r1;exact call_int_bool ⟨.int (if k then 1 else 0),H,I.tok _,⟨_,rfl⟩,q⟩
end
end L2
namespace L2
open PySem PySem.Spec PyProof.Rows
structure ObjM(h:Heap)(x dx C:Addr)(mA:Str->Option Value):Prop where
 obj:h.get? x=some (fg C dx)
 ns:h.Ns1 dx mA
 ne:dx≠x
theorem WW{h:Heap}{dx:Addr}{mA:Str->Option Value}(n:h.Ns1 dx mA):∃od,h.get? dx=some od/\∀name,kq name od=some (mA name):=by
 obtain⟨o,es,ep,ho,hd,hk,_,hm⟩:=n;refine⟨o,ho,fun name=>?_⟩;have e:=hm name;unfold nsFind findBy at e;rw[←Array.find?_toList] at e;unfold kq;rw[hd];dsimp only
 split
 ·rename_i y q;rw[q] at e;exact congrArg some e
 ·rename_i q;rw[q] at e;have a:es.toList.any (·.refKey)=false:=by
   rw[List.any_eq_false];intro y hy;obtain⟨z,t,FB⟩:=hk y (Array.mem_toList_iff.mp hy);simp[DictEntry.refKey,FB]
  have a':¬es.toList.any (·.refKey)=true:=by rw[a];exact bE
  rw[if_neg a'];exact congrArg some e
theorem ObjM.look{h:Heap}{x dx C:Addr}{mA:Str->Option Value}(I:ObjM h x dx C mA):∃od,PySem.W.InstAt h x (fg C dx) C (some od)/\∀name,kq name od=some (mA name) :=
 let ⟨od,ho,hl⟩:=WW I.ns
 ⟨od,⟨I.obj,rfl,rfl,ho⟩,hl⟩
section
variable{prog:Program}{w:World}{A:Around}{E:VS7}{s:Shared}{K:FG7}{x dx C f:Addr}{mA:Str->Option Value}{name:Str}{v:Value}
theorem SY{FC:Bool}{Q:VS7}(X:K.In s.heap)(I:ObjM s.heap x dx C mA)(hg:gY K C name=true)(hh:iH K C=true)
  (ha:bA K (.ref C) name=some none) (hv:mA name=some v) (Dh:PySem.W.handedIn v=true) (h:Q v { s with toks:=s.toks+1 }) :
  wpAny (model prog w) A (getAttr (.ref x) name FC) Q E s:=by
 obtain⟨od,J,hl⟩:=I.look;exact PySem.W.get_value X J (ke hg).1 (PySem.W.findObj_own hh ha rfl (by rw[hl,hv])) Dh h
theorem UO{pl:Sem Bool}{Q:Value×List Value->Shared->Prop}(X:K.In s.heap)(I:ObjM s.heap x dx C mA)(hg:gY K C name=true)
  (hf:bA K (.ref C) name=some (some (.ref f))) (ht:cP K (.ref f)=true) (hv:mA name=none) (h:Q (.ref f,[.ref x]) s) :
  wpAny (model prog w) A (kU (.ref x) name pl) Q E s:=by
 obtain⟨od,J,hl⟩:=I.look;exact PySem.W.method_fn X J (ke hg).1 (ke hg).2 hf (beq_iff_eq.mp ht) (by show(kq name od).map (·.isSome)=some false;rw[hl,hv];rfl) h
theorem SZ{ns:List Str}{Q:Unit->Shared->Prop}(X:K.In s.heap)(I:ObjM s.heap x dx C mA)
  (hs:bA K (.ref C) "__setattr__" = some (some (.builtin "object.__setattr__"))) (hp:kJ K C=true) (ht:lF K C name=some none) (hh:iH K C=true)
  (hw:mh mA ns) (hsz:ns.length<=sizeLine)
  (h:∀h',ObjM h' x dx C (fun y=>if y=name then some v else mA y)->fA dx s.heap h'->Q () { s with heap:=h',toks:=s.toks+2 }) :
  wpAny (model prog w) A (setAttr (.ref x) name v) Q E s:=by
 obtain⟨od,J,hl⟩:=I.look;refine PySem.W.set_plain X J hs (PySem.W.osa_open (s:={ s with toks:=s.toks+1 }) (r:=none) X J hp ht fun b=>?_);obtain⟨cd,hc,Fv⟩:=PySem.W.any_some hh;have hx:s.heap.get? x=some ⟨.ref C,some dx,.plain,#[]⟩:=I.obj;refine aA (aF (aA (aA (wpAny_loadPart hx (aA (PySem.W.Looks.here (s:={ s with toks:=s.toks+1 }) (PySem.W.looks_clsIn X hc) ?_))))));rw[Fv];refine aF (a:=some dx) (aA (aF (aA ?_)));refine wpAny_nsSet1 (s:={ s with toks:=s.toks+1 }) I.ns fun h' mF oJ=>?_;obtain⟨oD,esD,epD,hoD,hdD,hcD⟩:=mF.count (PySem.Within.cons name v hw);refine aA (wpAny_lookBehind hoD (by rw[hdD];exact pastItsLine_dict (bM hcD (by rw[dW];omega))) ?_);exact aF (h _ ⟨(oJ.2 _ (Ne.symm I.ne)).trans I.obj,mF,I.ne⟩ oJ)
theorem UP{R:Result->Shared->Prop}{vs:List Value}{kw:List (Str×Value)}(X:K.In s.heap)(hm:lG K C=true)
  (hi:bA K (.ref C) "__init__" = some (some (.ref f))) (hf:PySem.W.typeIn K (.ref f)=some (.type "function"))
  (h:codeAny (model prog w) (A.under (.builtin "type.__call__" ⟨.ref C::vs,kw⟩)) (.call (.ref f) ⟨.ref (s.heap.objs.size+1)::vs,kw⟩) (PySem.W.InitBack (s.heap.objs.size+1) R)
   { s with heap:=(s.heap.push ez).push (fg C s.heap.objs.size) }) :
  codeAny (model prog w) A (.call (.ref C) ⟨vs,kw⟩) R s:=by
 obtain⟨hh,g,d,t,os⟩:=s;exact PySem.W.make_core (PySem.W.makes_of X hm) (PySem.W.looks_findIn X hi) (fun self=>PySem.W.bind_fn X self hf) (.inl rfl) h
end
noncomputable def xL(f:Str)(v:V):List (Str×V)->List (Str×V)
 |[]=>[(f,v)]
 | (g,x)::r=>if g=f then(g,v)::r else(g,x)::xL f v r
theorem tG(f g:Str)(v:V):∀fs:List (Str×V),(xL f v fs).lookup g=if g=f then some v else fs.lookup g
 |[]=>by
  show gP g [(f,v)]=_;by_cases h:g=f
  ·have hb:(g == f)=true:=beq_iff_eq.mpr h;simp only[gP,hb,if_pos h]
  ·have hb:(g == f)=false:=beq_eq_false_iff_ne.mpr h;simp only[gP,hb,if_neg h]
 | (k,x)::r=>by
  have ih:=tG f g v r;rw[show xL f v ((k,x)::r)=(if k=f then(k,v)::r else(k,x)::xL f v r) from rfl];by_cases hk:k=f
  ·rw[if_pos hk];by_cases h:g=k
   ·have hb:(g == k)=true:=beq_iff_eq.mpr h;simp only[gP,hb,if_pos (h.trans hk)]
   ·have hb:(g == k)=false:=beq_eq_false_iff_ne.mpr h;simp only[gP,hb,if_neg (fun e:g=f=>h (e.trans hk.symm))]
  ·rw[if_neg hk];by_cases h:g=k
   ·have hb:(g == k)=true:=beq_iff_eq.mpr h;simp only[gP,hb,if_neg (fun e:g=f=>hk (h.symm.trans e))]
   ·have hb:(g == k)=false:=beq_eq_false_iff_ne.mpr h;simp only[gP,hb]
    exact ih
theorem tH(f:Str)(v:V):∀fs:List (Str×V),f∈(xL f v fs).map (·.1)/\∀g,g∈fs.map (·.1)->g∈(xL f v fs).map (·.1)
 |[]=>⟨by simp[xL],fun g h=>by simp at h⟩
 | (k,x)::r=>by
  obtain⟨i1,i2⟩:=tH f v r;rw[show xL f v ((k,x)::r)=(if k=f then(k,v)::r else(k,x)::xL f v r) from rfl];by_cases hk:k=f
  ·rw[if_pos hk];subst hk;exact⟨by simp,fun g h=>by simpa using h⟩
  ·rw[if_neg hk];refine⟨?_,fun g h=>?_⟩
   ·rw[cX];exact aK _ i1
   ·rw[cX] at h ⊢;rcases aS.mp h with e|e
    ·exact aS.mpr (.inl e)
    ·exact aK _ (i2 g e)
theorem tJ(f:Str)(v:V):∀fs:List (Str×V),(xL f v fs).length<=fs.length+1
 |[]=>by simp[xL]
 | (k,x)::r=>by
  have ih:=tJ f v r;rw[show xL f v ((k,x)::r)=(if k=f then(k,v)::r else(k,x)::xL f v r) from rfl];by_cases hk:k=f
  ·rw[if_pos hk,dW,dW];omega
  ·rw[if_neg hk,dW,dW];omega
theorem jp.some_of{v:V}{o:Option Value}(r:jp (some v) o):∃u,o=some u/\z8 v u:=by
 cases o with
 |none=>exact(show False from r).elim
 |some u=>exact⟨u,rfl,r⟩
theorem jp.none_of{o:Option Value}(r:jp none o):o=none:=by
 cases o with
 |none=>rfl
 |some u=>exact(show False from r).elim
theorem WX{v:V}{u:Value}(r:z8 v u):PySem.W.handedIn u=true:=by
 cases v with
 |non=>cases(show u=cA from r);rfl
 |bl b=>cases(show u=kj b from r);rfl
 |int i=>obtain⟨t,e⟩:=(show ∃t,u=fV i t from r);cases e;rfl
 |str x=>obtain⟨t,e⟩:=(show ∃t,u=l9 x t from r);cases e;rfl
 |byt b=>obtain⟨t,e⟩:=(show ∃t,u=Value.bytes b t from r);cases e;rfl
 |flt b=>obtain⟨t,e⟩:=(show ∃t,u=mr b t from r);cases e;rfl
 |ref a=>cases(show u=bK a from r);rfl
 |ty n=>cases(show u=cI n from r);rfl
section
variable{P:Program}{w:World}{H H':Hp}{h h':Heap}{a C dx:Addr}{fs fs':List (Str×V)}
theorem qt(hok:HOk P w H h)(e:H a=some (.ins C dx fs)):∃mA,ObjM h a dx C mA/\(∀f,jp (fs.lookup f) (mA f))/\mh mA (fs.map (·.1))/\fs.length<=1000/\H dx=some (.own a):=by
 obtain⟨d,z,ne,ob,mA,n,r,q⟩:=(show yf P w H h a (.ins C dx fs) from hok a _ e)
 exact⟨mA,⟨ob,n,ne⟩,r,q,z,d⟩
end
structure Cls(K:FG7)(C:Addr):Prop where
 pg:gY K C Str.empty=true
 hd:iH K C=true
 po:kJ K C=true
 sa:bA K (.ref C) "__setattr__" = some (some (.builtin "object.__setattr__"))
theorem Cls.get{K:FG7}{C:Addr}(c:Cls K C)(f:Str):gY K C f=true:=c.pg
def yR(K:FG7)(C:Addr)(f:Str):Prop:=bA K (.ref C) f=some none
theorem yR.taker{K:FG7}{C:Addr}{f:Str}(n:yR K C f):lF K C f=some none:=by
 unfold lF;rw[show bA K (.ref C) f=some none from n];rfl
structure Meth(K:FG7)(C:Addr)(m:Str)(f:Addr):Prop where
 at_:bA K (.ref C) m=some (some (.ref f))
 fn:cP K (.ref f)=true
 kp:bQ K (.ref f)=true
section
variable{X:Cx}{mw:List (Addr×Obj)}{σ:St}{H:Hp}{s:Shared}{a C dx:Addr}{fs:List (Str×V)}{f:Str}{v:V}{A:Around}{E:VS7}
theorem rB{b:Bool}{Q:VS7}(I:Inv X mw σ H s)(e:H a=some (.ins C dx fs))(c:Cls X.K C)(n:yR X.K C f)(l:fs.lookup f=some v)
  (h:∀u s',Inv X mw σ H s'->z8 v u->Q u s'):wpAny (model X.prog X.w) A (getAttr (.ref a) f b) Q E s:=by
 obtain⟨mA,O,r,_,_,_⟩:=qt I.hok e;obtain⟨u,hu,ru⟩:=jp.some_of (v:=v) (o:=mA f) (by rw[←l];exact r f);exact SY I.kIn O (c.get f) c.hd n hu (WX ru) (h u _ (I.tok _) ru)
theorem rC{m:Str}{g:Addr}{pl:Sem Bool}{Q:Value×List Value->Shared->Prop}(I:Inv X mw σ H s)(e:H a=some (.ins C dx fs))(c:Cls X.K C)(k:Meth X.K C m g)(l:fs.lookup m=none)
  (h:Q (.ref g,[.ref a]) s):wpAny (model X.prog X.w) A (kU (.ref a) m pl) Q E s:=by
 obtain⟨mA,O,r,_,_,_⟩:=qt I.hok e;have hn:mA m=none:=jp.none_of (by rw[←l];exact r m);exact UO I.kIn O (c.get m) k.at_ k.fn hn h
theorem rD{y:V}{u:Value}{Q:Unit->Shared->Prop}(I:Inv X mw σ H s)(e:H a=some (.ins C dx fs))(c:Cls X.K C)(n:yR X.K C f)(hl:fs.length<1000)(ry:z8 y u)
  (h:∀s',Inv X mw σ (upd H a (.ins C dx (xL f y fs))) s'->Q () s'):wpAny (model X.prog X.w) A (setAttr (.ref a) f u) Q E s:=by
 obtain⟨mA,O,r,wi,_,ho⟩:=qt I.hok e;have hz:(fs.map (·.1)).length<=sizeLine:=by rw[aG,eQ];omega
 refine SZ I.kIn O c.sa c.po n.taker c.hd wi hz fun h' O' sb=>h _ ?_;have hd:∃o,h'.get? dx=some o:=let ⟨o,_,_,e',_⟩:=O'.ns;⟨o,e'⟩
 refine I.write (x:=a) (e:=dx) (by rw[e];exact True.intro) (.inr ho) (fun b q hb z=>(sb.2 b hb).trans z) hd ?_;refine⟨by rw[zB O.ne];exact ho,?_,O.ne,O'.obj,_,O'.ns,fun g=>?_,fun g hg=>?_⟩
 ·have:=tJ f y fs;omega
 ·show jp ((xL f y fs).lookup g) (if g=f then some u else mA g);rw[tG];by_cases q:g=f
  ·rw[if_pos q,if_pos q];exact ry
  ·rw[if_neg q,if_neg q];exact r g
 ·by_cases q:g=f
  ·rw[q];exact(tH f y fs).1
  ·refine(tH f y fs).2 g (wi g fun z=>hg ?_);show(if g=f then some u else mA g)=none;rw[if_neg q];exact z
theorem Inv.made(I:Inv X mw σ H s):Inv X mw σ (upd (upd H s.heap.objs.size (.own (s.heap.objs.size+1))) (s.heap.objs.size+1) (.ins C s.heap.objs.size []))
  { s with heap:=(s.heap.push ez).push (fg C s.heap.objs.size) }:=by
 have e1:(s.heap.push ez).get? s.heap.objs.size=some ez:=aL s.heap rfl;have e2:((s.heap.push ez).push (fg C s.heap.objs.size)).get? (s.heap.objs.size+1)=some (fg C s.heap.objs.size):=by
  have:=aL (s.heap.push ez) (o:=fg C s.heap.objs.size) rfl;rwa[dQ] at this
 have e3:(s.heap.push ez).Ns s.heap.objs.size (fun _=>none):=⟨ez,#[],_,e1,rfl,(fun e he=>absurd he (by simp)),fun _=>rfl⟩
 have I1:=I.laid (a:=s.heap.objs.size) (o:=.own (s.heap.objs.size+1)) (h':=s.heap.push ez) (t':=s.toks) (fun b u q=>aD _ q) (aE _) ⟨_,e1⟩;refine I1.laid (a:=s.heap.objs.size+1) (o:=.ins C s.heap.objs.size []) (t':=s.toks) (fun b u q=>aD _ q) (Nat.le_of_eq (dQ _ _)) ?_;have ne:s.heap.objs.size≠s.heap.objs.size+1:=aT (cS _);refine⟨by rw[zB ne,zd],aX _,ne,e2,fun _=>none,(Heap.Ns1.of_empty e3).at fun o q=>aD _ q,fun _=>True.intro,fun y hy=>absurd rfl hy⟩
theorem S0{prog:Program}{w:World}{env:Env}{e:Expr}{f:Str}{pos:Pos}{s:Shared}{Q:VS7}(hb:ig e f env (eval e env)=eval e env)
  (h:wpAny (model prog w) A (eval e env) (fun o s₁=>wpAny (model prog w) A (getAttr o f true) Q E s₁) E s):wpAny (model prog w) A (eval (.Attribute e f pos) env) Q E s :=
 Attribute_any_ h (by rw[arm_eval_Attribute,hb])
end
def zaA(K:FG7)(ta:TE)(f:Str):TE:=fun σ H Q=>ta σ H fun x H1=>∃a C dx fs v,x=.ref a/\H1 a=some (.ins C dx fs)/\Cls K C/\yR K C f/\fs.lookup f=some v/\Q v H1
def zaZ(K:FG7)(ta tv:TE)(f:Str):TS:=fun D σ H=>tv σ H fun y H1=>ta σ H1 fun x H2=>∃a C dx fs,x=.ref a/\H2 a=some (.ins C dx fs)/\Cls K C/\yR K C f/\fs.length<1000∧
 D.nx σ (upd H2 a (.ins C dx (xL f y fs)))
def zaB(X:Cx)(op:Operator)(rd:V->V->Hp->VK->Prop):Prop :=
 ∀(mw:List (Addr×Obj)) (s:Shared) (σ:St) (H:Hp) (x y:V) (u v:Value) (Q:VK),Inv X mw σ H s->z8 x u->z8 y v->rd x y H Q->wpAny (model X.prog X.w) X.A (inplaceOp op u v) (EP X mw σ Q) X.xe s
def S3(K:FG7)(ta tv:TE)(rd:V->V->Hp->VK->Prop)(f:Str):TS:=fun D σ H=>ta σ H fun x H1=>∃a C dx fs v,x=.ref a/\H1 a=some (.ins C dx fs)/\Cls K C/\yR K C f/\fs.lookup f=some v∧
 tv σ H1 fun y H2=>rd v y H2 fun z H3=>∃FD fs',H3 a=some (.ins C FD fs')/\fs'.length<1000/\D.nx σ (upd H3 a (.ins C FD (xL f z fs')))
section
variable{X:Cx}{o e value:Expr}{f:Str}{pos nF BU:Pos}{ta tv:TE}
theorem zI(he:PE X e ta)(hb:ig e f X.env (eval e X.env)=eval e X.env):PE X (.Attribute e f pos) (zaA X.K ta f):=by
 intro mw s σ H Q I h;refine S0 hb (thn (he mw s σ H _ I h) fun u s1 ⟨x,H1,I1,rx,a,C,dx,fs,v,ex,ea,c,n,l,q⟩=>?_);subst ex;obtain rfl:u=bK a:=rx;exact rB I1 ea c n l fun u' s2 I2 ru=>⟨v,H1,I2,ru,q⟩
theorem wx(ha:PE X o ta)(hv:PE X value tv)(hs:swapsWith value (some (.Attribute o f nF)) pos.line X.env=pure false):PS X (.Assign [.Attribute o f nF] value pos) (zaZ X.K ta tv f):=by
 intro mw s σ H D I h;refine plainObj_wpAny_Assign_Attribute (thn (hv mw s σ H _ I h) fun u s1 ⟨y,H1,I1,ry,q⟩=>thn (ha mw s1 σ H1 _ I1 q) fun ov s2 ⟨x,H2,I2,rx,a,C,dx,fs,ex,ea,c,n,l,q2⟩=>?_) hs;subst ex;obtain rfl:ov=bK a:=rx;exact rD I2 ea c n l ry fun s3 I3=>⟨σ,_,I3,q2⟩
theorem WY{op:Operator}{rd:V->V->Hp->VK->Prop}(ha:PE X o ta)(hv:PE X value tv)(FE:zaB X op rd):PS X (.AugAssign (.Attribute o f BU) op value pos) (S3 X.K ta tv rd f):=by
 intro mw s σ H D I h;refine wpAny_AugAssign_AttributeAny (thn (ha mw s σ H _ I h) fun ov s1 ⟨x,H1,I1,rx,a,C,dx,fs,v,ex,ea,c,n,l,q⟩=>?_);subst ex;obtain rfl:ov=bK a:=rx;refine rB I1 ea c n l fun u s2 I2 ru=>thn (hv mw s2 σ H1 _ I2 q) fun w3 s3 ⟨y,H2,I3,ry,q3⟩=>thn (FE mw s3 σ H2 v y u w3 _ I3 ru ry q3) fun w4 s4 ⟨z,H3,I4,rz,FD,fs',ea',l',q4⟩=>?_;exact rD I4 ea' c n l' rz fun s5 I5=>⟨σ,_,I5,q4⟩
end
section
variable{X:Cx}{mw:List (Addr×Obj)}{σ:St}{H:Hp}{s:Shared}{A:Around}{E:VS7}{Q:VS7}{c:Value}{b:Bool}
inductive TyOf(K:FG7)(H:Hp):V->Value->Prop where
 |non:TyOf K H .non (.type "NoneType")
 |bl (x:Bool):TyOf K H (.bl x) (.type "bool")
 |int (i:Int):TyOf K H (.int i) (.type "int")
 |str (x:Str):TyOf K H (.str x) (.type "str")
 |flt (x:UInt64):TyOf K H (.flt x) (.type "float")
 |lst {a:Addr} {xs:List V} (e:H a=some (.lst xs)):TyOf K H (.ref a) (.type "list")
 |frz {a:Addr} {o:Obj} {xs:List V} (e:H a=some (.frz o (.lst xs))):TyOf K H (.ref a) (.type "list")
 |tup {a:Addr} {xs:List V} (e:H a=some (.tup xs)):TyOf K H (.ref a) (.type "tuple")
 |dK {a:Addr} {kvs:List (Key×V)} (e:H a=some (.dK kvs)):TyOf K H (.ref a) (.type "dict")
 |dT {a:Addr} {kvs:List (List Key×V)} (e:H a=some (.dT kvs)):TyOf K H (.ref a) (.type "dict")
 |ins {a C dx:Addr} {fs:List (Str×V)} (e:H a=some (.ins C dx fs)) (cl:Cls K C) (ha:bA K (.ref C) "__class__" = some (some (.builtin "object.__class__")))
   (hn:PySem.W.specialIn K (.builtin "object.__class__") "__get__" = some (some (.builtin "getset_descriptor.__get__"))) (Di:PySem.W.takesIn K (.builtin "object.__class__")=some true)
   (hm:PySem.W.mroIn K C (.type "object")=some true):TyOf K H (.ref a) (.ref C)
theorem wD{x:V}{u t:Value}(I:Inv X mw σ H s)(rx:z8 x u)(ty:TyOf X.K H x t)(e:kr X.K t c=some b)(h:∀tk,Q (.bool b) { s with toks:=tk }) :
  wpAny (model X.prog X.w) A (call (.builtin "isinstance") [u,c]) Q E s:=by
 cases ty with
 |non=>cases(show u=cA from rx);exact cQ PySem.W.kitx_none I.kIn True.intro e (fun z=>nomatch z) h
 |bl y=>cases(show u=kj y from rx);exact cQ PySem.W.kitx_bool I.kIn True.intro e (fun z=>nomatch z) h
 |int i=>obtain⟨t,q⟩:=(show ∃t,u=fV i t from rx);cases q;exact cQ PySem.W.kitx_int I.kIn True.intro e (fun z=>nomatch z) h
 |str y=>obtain⟨t,q⟩:=(show ∃t,u=l9 y t from rx);cases q;exact cQ PySem.W.kitx_str I.kIn True.intro e (fun z=>nomatch z) h
 |flt y=>obtain⟨t,q⟩:=(show ∃t,u=mr y t from rx);cases q;exact cQ PySem.W.kitx_float I.kIn True.intro e (fun z=>nomatch z) h
 |@lst a xs ea =>
  cases(show u=bK a from rx);obtain⟨_,_,n,_,h1⟩:=(show yf X.prog X.w H s.heap a (.lst xs) from I.hok a _ ea)
  exact cQ kK I.kIn ⟨_,h1,rfl⟩ e (fun z=>nomatch z) h
 |@frz a ob xs ea =>
  cases(show u=bK a from rx);obtain⟨_,_,_,n,_,h1⟩:=(show yf X.prog X.w H s.heap a (.frz ob (.lst xs)) from I.hok a _ ea)
  exact cQ kK I.kIn ⟨_,h1,rfl⟩ e (fun z=>nomatch z) h
 |@tup a xs ea =>
  cases(show u=bK a from rx);obtain⟨_,_,_,p⟩:=(show yf X.prog X.w H s.heap a (.tup xs) from I.hok a _ ea)
  obtain⟨o,h1,h2,_⟩:=p;exact cQ PySem.W.kitx_tuple I.kIn ⟨o,h1,h2⟩ e (fun z=>nomatch z) h
 |@dK a kvs ea =>
  cases(show u=bK a from rx);obtain⟨_,_,vs,_,p⟩:=(show yf X.prog X.w H s.heap a (.dK kvs) from I.hok a _ ea)
  obtain⟨o,es,ep,h1,h2,_⟩:=p;exact cQ PySem.W.kitx_dict I.kIn ⟨o,h1,h2.1⟩ e (fun z=>nomatch z) h
 |@dT a kvs ea =>
  cases(show u=bK a from rx);obtain⟨_,_,xs,_,o,es,ep,h1,h2,_⟩:=(show yf X.prog X.w H s.heap a (.dT kvs) from I.hok a _ ea)
  exact cQ PySem.W.kitx_dict I.kIn ⟨o,h1,h2.1⟩ e (fun z=>nomatch z) h
 |@ins a C dx fs ea cl ha hn Di hm =>
  cases(show u=bK a from rx);obtain⟨mA,O,_⟩:=qt I.hok ea;obtain⟨od,J,_⟩:=O.look;exact cQ (PySem.W.kitx_own (cl.get _) cl.hd ha hn Di hm) I.kIn J e (fun z=>nomatch z) h
end
end L2
namespace L2
open PySem PySem.Spec PyProof.Rows
structure Room(k:Nat)(A:Around):Prop where
 hd:A.handled=none
 dp:A.depth+3*k+5<recursionLimit
 un:A.units+16*k+200<cLine
 gd:A.guards=some []
theorem Room.mono{j k:Nat}{A:Around}(r:Room k A)(h:j<=k):Room j A:=⟨r.hd,by have:=r.dp;omega,by have:=r.un;omega,r.gd⟩
theorem Room.deeper{k:Nat}{A:Around}(r:Room (k+1) A)(env:Env):Room k (A.deeper env) :=
 ⟨r.hd,by have:=r.dp;show A.depth+1+3*k+5<_;omega,by have:=r.un;show A.units+3+16*k+200<_;omega,r.gd⟩
theorem XF{A:Around}{C:Addr}{us:List Value}{kw:List (Str×Value)}:(A.under (.builtin "type.__call__" ⟨.ref C::us,kw⟩)).depth=A.depth+1:=by
 first|rfl|simp[Around.under,Code.weight,Code.isCreation,Code.isGuard,Code.isCaller,Code.frames,mi,guardIds]
theorem XG{A:Around}{C:Addr}{us:List Value}{kw:List (Str×Value)}:(A.under (.builtin "type.__call__" ⟨.ref C::us,kw⟩)).units=A.units+1:=by
 first|rfl|simp[Around.under,Code.cUnits,Code.frames,mi]
theorem Room.make{k:Nat}{A:Around}(r:Room (k+1) A)(C:Addr)(us:List Value)(kw:List (Str×Value)):Room k (A.under (.builtin "type.__call__" ⟨.ref C::us,kw⟩)) :=
 ⟨r.hd,by have:=r.dp;rw[XF];omega,by have:=r.un;rw[XG];omega,r.gd⟩
theorem Room.depth{k:Nat}{A:Around}(r:Room k A):A.depth<recursionLimit:=by have:=r.dp;omega
theorem Room.units0{k:Nat}{A:Around}(r:Room k A):A.units<cLine:=by have:=r.un;omega
def Qx:TA:=fun _ H Q=>Q [] H
def S4(ta:TE)(tr:TA):TA:=fun σ H Q=>ta σ H fun x H1=>tr σ H1 fun xs H2=>Q (x::xs) H2
section
variable{X:Cx}{e:Expr}{es:List Expr}{te:TE}{t:TA}{pos:Pos}
theorem zb:PA X [] Qx:=fun _ _ _ _ H Q I h=>iJ ⟨[],H,I,.nil,h⟩
theorem za(ha:PE X e te)(hr:PA X es t)(hs:bP (e::es) X.env=(false,eval e X.env)::bP es X.env:=by rfl):PA X (e::es) (S4 te t):=by
 intro pos mw s σ H Q I h;rw[hs];show wpAny _ _ (spliced ((false,eval e X.env)::fW pos (bP es X.env))) _ _ s;refine ga (thn (ha mw s σ H _ I h) fun u s1 ⟨x,H1,I1,r1,q1⟩=>?_);exact thn (hr pos mw s1 σ H1 _ I1 q1) fun us s2 ⟨xs,H2,I2,r2,q2⟩=>⟨x::xs,H2,I2,.cons r1 r2,q2⟩
def zba(t:TA):TE:=fun σ H Q=>t σ H fun xs H1=>xs.length<=sizeLine/\∀p,H1 p=none->Q (.ref p) (upd H1 p (.tup xs))
def zbb(t:TA):TE:=fun σ H Q=>t σ H fun xs H1=>xs.length<=sizeLine/\∀p,H1 p=none->Q (.ref p) (upd H1 p (.lst xs))
theorem z7{x1}(h:PA X es t):PE X (.Tuple es x1 pos) (zba t):=by
 intro mw s σ H Q I hq;refine wpAny_Tuple_spliced (thn (h pos mw s σ H _ I hq) fun us s1 ⟨xs,H1,I1,r,z,q⟩=>⟨by rw[←r.length];exact z,?_⟩);have hf:H1 s1.heap.objs.size=none:=I1.hok.fresh (aE _);refine⟨.ref s1.heap.objs.size,upd H1 s1.heap.objs.size (.tup xs),I1.laid (t':=s1.toks) (fun b u e=>aD _ e) (aE _) ?_,rfl,q _ hf⟩;exact⟨z,us,r,⟨_,aL _ rfl,rfl,_,rfl⟩⟩
theorem xQ(h:PA X es t):PE X (.List es pos) (zbb t):=by
 intro mw s σ H Q I hq;refine wpAny_List_spliced (thn (h pos mw s σ H _ I hq) fun us s1 ⟨xs,H1,I1,r,z,q⟩=>⟨by rw[←r.length];exact z,?_⟩);have hf:H1 s1.heap.objs.size=none:=I1.hok.fresh (aE _);refine⟨.ref s1.heap.objs.size,upd H1 s1.heap.objs.size (.lst xs),I1.laid (t':=s1.toks) (fun b u e=>aD _ e) (aE _) ?_,rfl,q _ hf⟩;exact⟨z,us,0,r,aL _ rfl⟩
end
abbrev Sp:=List V->Hp->VK->XK->Prop
abbrev CXT:=List Env->Hp->Shared->XK->Value->Shared->Prop
structure Env0(P:Program)(w:World)(K:FG7)(mg:Str->Option Value)(base:Heap)(A:Around)(outer:List Env)(s:Shared)(H:Hp):Prop where
 frames:A.frames=some outer
 mod:Mod K mg base
 bs:∀b o,base.get? b=some o->s.heap.get? b=some o/\H b=none
 bsz:base.objs.size<=s.heap.objs.size
 funs:s.heap.FunFrames base outer
 frf:∀b∈frs outer,H b=none
 hok:HOk P w H s.heap
 bare:kG s.gens
def CE(outer:List Env)(P:Program)(w:World)(H:Hp)(s:Shared)(Q:VK)(u:Value)(s':Shared):Prop :=
 ∃v H',s'.os=s.os/\kG s'.gens/\Un (frs outer) [] H H' s.heap s'.heap/\HOk P w H' s'.heap/\z8 v u/\Q v H'
def CR(CX:CXT)(outer:List Env)(P:Program)(w:World)(H:Hp)(s:Shared)(Q:VK)(E:XK)(r:Result)(s':Shared):Prop :=
 match r with
 |.ok (.ret u)=>CE outer P w H s Q u s'
 |.ok _=>False
 |.error e=>CX outer H s E e s'
structure FnOk(P:Program)(w:World)(K:FG7)(mg:Str->Option Value)(base:Heap)(CX:CXT)(k:Nat)(f:Addr)(fd:FuncData)(ps:List Str)(sp:Sp):Prop where
 len:∀vs H Q E,sp vs H Q E->vs.length=ps.length
 run:∀(A:Around) (outer:List Env) (s:Shared) (H:Hp) (args:Args) (us:List Value) (vs:List V) (Q:VK) (E:XK),Room k A->Env0 P w K mg base A outer s H->BindsTo s fd args (ps.zip us)->zZ vs us->sp vs H Q E→
  codeAny (model P w) A (.call (.ref f) args) (CR CX outer P w H s Q E) s
theorem FnOk.mono{P:Program}{w:World}{K:FG7}{mg:Str->Option Value}{base:Heap}{CX:CXT}{j k:Nat}{f:Addr}{fd:FuncData}{ps:List Str}{sp:Sp}(F:FnOk P w K mg base CX j f fd ps sp)(h:j<=k) :
  FnOk P w K mg base CX k f fd ps sp:=⟨F.len,fun A outer s H args us vs Q E hr=>F.run A outer s H args us vs Q E (hr.mono h)⟩
theorem Env0.make{P:Program}{w:World}{K:FG7}{mg:Str->Option Value}{base:Heap}{A:Around}{outer:List Env}{s:Shared}{H:Hp}(e:Env0 P w K mg base A outer s H)(C:Addr)(us:List Value)(kw:List (Str×Value)) :
  Env0 P w K mg base (A.under (.builtin "type.__call__" ⟨.ref C::us,kw⟩)) outer s H:=⟨by first|exact e.frames|(simpa[Around.under,Code.envs,mi,pushEnvs] using e.frames),e.mod,e.bs,e.bsz,e.funs,e.frf,e.hok,e.bare⟩
section
variable{X:Cx}{mw:List (Addr×Obj)}{σ:St}{H:Hp}{s s':Shared}
theorem Inv.env0(I:Inv X mw σ H s):Env0 X.prog X.w X.K X.mg X.base X.A X.stack s H :=
 ⟨I.ok.frames,I.ok.mod,I.bs,bM I.ok.bsz I.sz,I.stack,I.stkFree,I.hok,I.bare⟩
theorem Inv.after{Q:VK}{u:Value}(I:Inv X mw σ H s)(h:CE X.stack X.prog X.w H s Q u s'):EP X mw σ Q u s':=by
 obtain⟨v,H',os,bare,un,hok,r,q⟩:=h;obtain⟨hh,g,d,t,FF⟩:=s';obtain rfl:FF=s.os:=os;exact⟨v,H',I.call (h':=hh) (g':=g) (d':=d) (t':=t) (ch:=[]) un hok bare (fun b z=>absurd z (by simp)),r,q⟩
end
def Qy(sp:Sp)(nR:List V)(E:XK)(t:TA):TE:=fun σ H Q=>t σ H fun vs H1=>sp (vs++nR) H1 Q E
def UQ(C:Addr)(m:Str)(sp:Sp)(nR:List V)(E:XK)(ta:TE)(t:TA):TE:=fun σ H Q=>ta σ H fun x H1=>∃a dx fs,x=.ref a/\H1 a=some (.ins C dx fs)/\fs.lookup m=none∧
 t σ H1 fun vs H2=>sp (x::(vs++nR)) H2 Q E
def Qz(C:Addr)(sp:Sp)(nR:List V)(E:XK)(t:TA):TE:=fun σ H Q=>t σ H fun vs H1=>∀x dx,H1 x=none->H1 dx=none->dx≠x→
 sp (.ref x::(vs++nR)) (upd (upd H1 dx (.own x)) x (.ins C dx [])) (fun v H2=>v=.non/\Q (.ref x) H2) E
def wE(K:FG7)(fd:FuncData)(ps:List Str)(ds:List Value):Prop :=
 ∀(s:Shared) (us:List Value),K.In s.heap->(us++ds).length=ps.length->BindsTo s fd ⟨us,[]⟩ (ps.zip (us++ds))
theorem wE.all{K:FG7}{fd:FuncData}{ps:List Str}(h:∀us:List Value,us.length=ps.length->bindArgs fd ⟨us,[]⟩=pure (ps.zip us)):wE K fd ps []:=fun s us _ hl=>by
 rw[bB] at hl ⊢;exact .of_eq (h us hl)
def tK(CX:CXT)(X:Cx)(E:XK):Prop:=∀(mw:List (Addr×Obj)) (σ:St) (H:Hp) (s:Shared) (e:Value) (s':Shared),Inv X mw σ H s->CX X.stack H s E e s'->X.xe e s'
section
variable{X:Cx}{CX:CXT}{k:Nat}{f C:Addr}{fd:FuncData}{ps:List Str}{sp:Sp}{nR:List V}{ds:List Value}{E:XK}{x m:Str}{p pos mK:Pos}{e o:Expr}{es:List Expr}{ta:TE}{t:TA}
theorem WZ{mw:List (Addr×Obj)}{σ:St}{H:Hp}{s:Shared}{Q:VK}{us:List Value}{vs:List V}(F:FnOk X.prog X.w X.K X.mg X.base CX k f fd ps sp)(hr:Room k X.A)(hb:wE X.K fd ps ds)(hd:zZ nR ds)(hx:tK CX X E)
  (I:Inv X mw σ H s) (r:zZ vs us) (h:sp (vs++nR) H Q E):wpAny (model X.prog X.w) X.A (call (.ref f) us) (EP X mw σ Q) X.xe s:=by
 have r2:zZ (vs++nR) (us++ds):=r.append hd;have hl:(us++ds).length=ps.length:=by rw[←r2.length];exact F.len _ _ _ _ h
 refine wpAny_call (gc (F.run X.A X.stack s H ⟨us,[]⟩ (us++ds) (vs++nR) Q E hr I.env0 (hb s us I.kIn hl) r2 h) fun r s' hq=>?_);cases r with
 |error e=>exact hx mw σ H s e s' I hq
 |ok fl =>
  cases fl with
  |ret u=>exact I.after hq
  |next=>exact False.elim hq
  |brk=>exact False.elim hq
  |cont=>exact False.elim hq
theorem S5(F:FnOk X.prog X.w X.K X.mg X.base CX k f fd ps sp)(hr:Room k X.A)(hg:Gl X x)(hm:X.mg x=some (.ref f))(hk:bQ X.K (.ref f)=true)(hb:wE X.K fd ps ds)(hd:zZ nR ds)(hx:tK CX X E)
  (ha:PA X (e::es) t) (Ap:(x == ("__debug__":Str))=false:=by decide) (he:bP (e::es) X.env=(false,eval e X.env)::bP es X.env:=by rfl) (oK:(fW pos (bP es X.env)).any (·.1)=false:=by rfl) :
  PE X (.Call (.Name x p) (e::es) [] pos) (Qy sp nR E t):=by
 intro mw s σ H Q I h;refine ge (Z1 I hg hm ?_ Ap);refine ku (h₀:=X.base) I.ok.mod.kin hk (thn (ha pos mw s σ H _ I h) fun us s1 ⟨vs,H1,I1,r,q⟩=>⟨I1.kIn,?_⟩) he oK;exact WZ F hr hb hd hx I1 r q
theorem S6{pl:Sem Bool}(he:PE X o ta)(c:Cls X.K C)(hm:Meth X.K C m f)(F:FnOk X.prog X.w X.K X.mg X.base CX k f fd ps sp)(hr:Room k X.A)(hb:wE X.K fd ps ds)(hd:zZ nR ds)(hx:tK CX X E)(ha:PA X (e::es) t)
  (oh:bP (e::es) X.env=(false,eval e X.env)::bP es X.env:=by rfl) (oK:(fW pos (bP es X.env)).any (·.1)=false:=by rfl)
  (ht:eval (.Call (.Attribute o m mK) (e::es) [] pos) X.env=(do
   let ov←eval o X.env
   standAt mK.atName
   let (f,first)←holding [ov] (kU ov m pl)
   callWith pos f first (fW pos (bP (e::es) X.env)) (kW pos (ix [] X.env))):=by rfl) :
  PE X (.Call (.Attribute o m mK) (e::es) [] pos) (UQ C m sp nR E ta t):=by
 intro mw s σ H Q I h;refine PySem.W.methodCall_KW (pl:=pl) (thn (he mw s σ H _ I h) fun u s1 ⟨x,H1,I1,rx,a,dx,fs,ex,ea,l,q⟩=>?_) ht;subst ex;obtain rfl:u=bK a:=rx;refine rC I1 ea c hm l ?_;refine ku (first:=[.ref a]) (h₀:=X.base) I.ok.mod.kin hm.kp (thn (ha pos mw s1 σ H1 _ I1 q) fun us s2 ⟨vs,H2,I2,r,q2⟩=>⟨I2.kIn,?_⟩) oh oK;exact WZ (us:=.ref a::us) (vs:=.ref a::vs) F hr hb hd hx I2 (.cons rfl r) q2
theorem UR{pl:Sem Bool}(he:PE X o ta)(c:Cls X.K C)(hm:Meth X.K C m f)(F:FnOk X.prog X.w X.K X.mg X.base CX k f fd ps sp)(hr:Room k X.A)(hb:wE X.K fd ps ds)(hd:zZ nR ds)(hx:tK CX X E)
  (ht:eval (.Call (.Attribute o m mK) [] [] pos) X.env=(do
   let ov←eval o X.env
   standAt mK.atName
   let (f,first)←holding [ov] (kU ov m pl)
   callWith pos f first (fW pos (bP [] X.env)) (kW pos (ix [] X.env))):=by rfl) :
  PE X (.Call (.Attribute o m mK) [] [] pos) (UQ C m sp nR E ta Qx):=by
 intro mw s σ H Q I h;refine PySem.W.methodCall_KW (pl:=pl) (thn (he mw s σ H _ I h) fun u s1 ⟨x,H1,I1,rx,a,dx,fs,ex,ea,l,q⟩=>?_) ht;subst ex;obtain rfl:u=bK a:=rx;refine rC I1 ea c hm l ?_;exact PySem.W.callWith_K0 (first:=[.ref a]) I1.kIn hm.kp (WZ (us:=[.ref a]) (vs:=[.ref a]) F hr hb hd hx I1 (.cons rfl .nil) q)
structure Mk(K:FG7)(C f:Addr):Prop where
 makes:lG K C=true
 init:bA K (.ref C) "__init__" = some (some (.ref f))
 fn:cP K (.ref f)=true
 kp:bQ K (.ref C)=true
theorem US{mw:List (Addr×Obj)}{σ:St}{H:Hp}{s:Shared}{Q:VK}{us:List Value}{vs:List V}(M:Mk X.K C f)(F:FnOk X.prog X.w X.K X.mg X.base CX k f fd ps sp)(hr:Room (k+1) X.A)(hb:wE X.K fd ps ds)(hd:zZ nR ds)
  (hx:tK CX X E) (I:Inv X mw σ H s) (r:zZ vs us)
  (h:∀x dx,H x=none->H dx=none->dx≠x->sp (.ref x::(vs++nR)) (upd (upd H dx (.own x)) x (.ins C dx [])) (fun v H2=>v=.non/\Q (.ref x) H2) E) :
  wpAny (model X.prog X.w) X.A (call (.ref C) us) (EP X mw σ Q) X.xe s:=by
 have hq:=h (s.heap.objs.size+1) s.heap.objs.size (I.hok.fresh (eB _)) (I.hok.fresh (aE _)) (aT (cS _));have I2:=Inv.made (C:=C) I;have r2:zZ (V.ref (s.heap.objs.size+1)::(vs++nR)) (bK (s.heap.objs.size+1)::(us++ds)):=.cons rfl (r.append hd);have hl:(bK (s.heap.objs.size+1)::us++ds).length=ps.length:=by
  have e:=r2.length;rw[F.len _ _ _ _ hq] at e;exact e.symm
 refine wpAny_call (UP (f:=f) I.kIn M.makes M.init (beq_iff_eq.mp M.fn) (gc (F.run _ X.stack _ _ ⟨bK (s.heap.objs.size+1)::us,[]⟩ (bK (s.heap.objs.size+1)::(us++ds)) _ _ E (hr.make C us [])
  (I2.env0.make C us []) (hb _ (bK (s.heap.objs.size+1)::us) I2.kIn hl) r2 hq) fun r s' Ba=>?_))
 cases r with
 |error e=>exact hx mw σ _ _ e s' I2 Ba
 |ok fl =>
  cases fl with
  |ret u =>
   obtain⟨v,H',I3,rv,ev,q3⟩:=I2.after Ba;subst ev;exact⟨rv,⟨V.ref (s.heap.objs.size+1),H',I3,rfl,q3⟩⟩
  |next=>exact False.elim Ba
  |brk=>exact False.elim Ba
  |cont=>exact False.elim Ba
theorem S7(M:Mk X.K C f)(F:FnOk X.prog X.w X.K X.mg X.base CX k f fd ps sp)(hr:Room (k+1) X.A)(hg:Gl X x)(hm:X.mg x=some (.ref C))(hb:wE X.K fd ps ds)(hd:zZ nR ds)(hx:tK CX X E)
  (ha:PA X (e::es) t) (Ap:(x == ("__debug__":Str))=false:=by decide) (he:bP (e::es) X.env=(false,eval e X.env)::bP es X.env:=by rfl) (oK:(fW pos (bP es X.env)).any (·.1)=false:=by rfl) :
  PE X (.Call (.Name x p) (e::es) [] pos) (Qz C sp nR E t):=by
 intro mw s σ H Q I h;refine ge (Z1 I hg hm ?_ Ap);refine ku (h₀:=X.base) I.ok.mod.kin M.kp (thn (ha pos mw s σ H _ I h) fun us s1 ⟨vs,H1,I1,r,q⟩=>⟨I1.kIn,?_⟩) he oK;exact US M F hr hb hd hx I1 r q
end
structure FnScope(N P:List Str)(sc:Scope):Prop where
 kind:sc.kind=.function
 co:sc.isCoroutine=false
 gen:sc.isGenerator=false
 nd:N.Nodup
 pre:N.take P.length=P
 par:∀x∈P,sc.names.lookup x=some .local\/sc.names.lookup x=some .cell
 nofree:∀y∈sc.names,y.2≠.free
theorem jC{kindOf:Str->Option NameKind}{x:Str}:∀{binds:List (Str×Value)} {m:Str->Option Value},(∀v,(x,v)∉binds)->bindL kindOf binds m x=m x
 |[],_,_=>rfl
 | (n,v)::r,m,h=>by
  unfold bindL;rw[jC fun w hw=>h w (aK _ hw)];split
  ·have:x≠n:=by rintro rfl;exact h v aU
   simp[this]
  ·rfl
theorem jD{kindOf:Str->Option NameKind}{x:Str}:∀{binds:List (Str×Value)} {m:Str->Option Value},(∀v,(x,v)∉binds)->bindC kindOf binds m x=m x
 |[],_,_=>rfl
 | (n,v)::r,m,h=>by
  unfold bindC;rw[jD fun w hw=>h w (aK _ hw)];split
  ·rfl
  ·have:x≠n:=by rintro rfl;exact h v aU
   simp[this]
theorem jE{kindOf:Str->Option NameKind}{x:Str}{v:Value}:∀{P:List Str} {vs:List Value} {i:Nat} {m:Str->Option Value},P.Nodup->P[i]?=some x->vs[i]?=some v->kindOf x=some .local→
  bindL kindOf (P.zip vs) m x=some v
 |[],_,_,_,_,h,_,_=>by simp at h
 |_::_,[],_,_,_,_,h,_=>by simp at h
 |p::P,w::vs,0,m,nd,h1,h2,hk=>by
  simp at h1 h2;subst h1;subst h2;show bindL kindOf ((p,w)::P.zip vs) m p=_;unfold bindL;rw[jC fun v hv=>(cJ.mp nd).1 (lH hv).1,if_pos hk];simp
 |p::P,w::vs,i+1,m,nd,h1,h2,hk=>by
  show bindL kindOf ((p,w)::P.zip vs) m x=_;unfold bindL;exact jE (i:=i) (cJ.mp nd).2 (by simpa using h1) (by simpa using h2) hk
theorem jF{kindOf:Str->Option NameKind}{x:Str}{v:Value}:∀{P:List Str} {vs:List Value} {i:Nat} {m:Str->Option Value},P.Nodup->P[i]?=some x->vs[i]?=some v->kindOf x≠some .local→
  bindC kindOf (P.zip vs) m x=some v
 |[],_,_,_,_,h,_,_=>by simp at h
 |_::_,[],_,_,_,_,h,_=>by simp at h
 |p::P,w::vs,0,m,nd,h1,h2,hk=>by
  simp at h1 h2;subst h1;subst h2;show bindC kindOf ((p,w)::P.zip vs) m p=_;unfold bindC;rw[jD fun v hv=>(cJ.mp nd).1 (lH hv).1,if_neg hk];simp
 |p::P,w::vs,i+1,m,nd,h1,h2,hk=>by
  show bindC kindOf ((p,w)::P.zip vs) m x=_;unfold bindC;exact jF (i:=i) (cJ.mp nd).2 (by simpa using h1) (by simpa using h2) hk
noncomputable def qu(N:List Str)(vs:List V):St:=vs.map some++bL (N.length-vs.length) none
noncomputable def S8(CX:CXT)(P:Program)(w:World)(K:FG7)(mg:Str->Option Value)(base:Heap)(N:List Str)(qual:Str)(scope:Scope)(f:Addr)(cd:Value)(A:Around)(outer:List Env)(s:Shared)(H:Hp)(E:XK):Cx where
 prog:=P
 w:=w
 K:=K
 mg:=mg
 base:=base
 A:=A.deeper (lq qual scope s.heap.objs.size f cd)
 N:=N
 s₀:=s
 H₀:=H
 env:=lq qual scope s.heap.objs.size f cd
 outer:=outer
 stack:=lq qual scope s.heap.objs.size f cd::outer
 ex:=[]
 calm:=true
 fn:=fun _=>true
 pn:=[]
 xe:=fun e s'=>wpAny (model P w) (A.deeper (lq qual scope s.heap.objs.size f cd)) (leaving (lq qual scope s.heap.objs.size f cd) e) (fun _ Bb=>CX outer H s E e Bb) (fun e' Bb=>CX outer H s E e' Bb) s'
theorem YV{sc:Scope}{n:Nat}{x:Str}(h:sc.names.lookup x=some .cell):∃c,(cellsFrom n sc.names []).lookup x=some c:=by
 have q:=PySem.W.cellsFrom_some sc.names n [] (.inl h);exact fQ.mp q
theorem W0{CX:CXT}{P:Program}{w:World}{K:FG7}{mg:Str->Option Value}{base:Heap}{N ps:List Str}{qual:Str}{scope:Scope}{f:Addr}{cd:Value}{A:Around}{outer:List Env}{s s1:Shared}{H:Hp}{E:XK}{us:List Value}{vs:List V}
  (S:FnScope N ps scope) (hd:A.handled=none) (e0:Env0 P w K mg base A outer s H) (hl:vs.length=ps.length) (r:zZ vs us)
  (x:InCallC s s.heap.objs.size (bindL (lq qual scope s.heap.objs.size f cd).kindOf (ps.zip us) fun _=>none) (cellsFrom (s.heap.objs.size+1) scope.names []) (bindC (lq qual scope s.heap.objs.size f cd).kindOf (ps.zip us) fun _=>none) s1) :
  Inv (S8 CX P w K mg base N qual scope f cd A outer s H E) [] (qu N vs) H s1:=by
 have oK:ps.length<=N.length:=by have:=congrArg iy S.pre;rw[dB] at this;omega
 obtain⟨h1,tk,rfl,hk⟩:=x.done;have Dj:∀b:Addr,b∉(S8 CX P w K mg base N qual scope f cd A outer s H E).ex:=fun b z=>absurd (show b∈([]:List Addr) from z) (by simp);refine⟨⟨e0.mod,S.kind,rfl,rfl,aE _,fun y z c h1 h2=>?_,fun y hy=>?_,fun y c _ h=>?_,fun _=>hd,Around.frames_deeper e0.frames,.inr ⟨rfl,rfl⟩,fun b z=>absurd z (Dj b),e0.bs,e0.bsz,fun b _ _=>Dj b,fun b z=>absurd z (Dj b),e0.funs,e0.frf⟩,
  rfl,e0.bare,Un.kept hk,⟨_,x.toInCall.ns,fun i y v h1 h2 h3=>?_⟩,fun y c h=>⟨_,x.cell y c h⟩,e0.hok.fresh (aE _),fun y c h=>?_,fun p hp=>absurd (show p∈([]:List (Addr×Obj)) from hp) (by simp),e0.hok.kept hk,?_⟩
 ·exact name_of_addr x.apart (dI h1) (dI h2)
 ·have hy:scope.names.lookup y=some .cell\/scope.names.lookup y=some .free:=hy;rcases hy with hy|hy
  ·exact YV hy
  ·exact absurd rfl (S.nofree _ (dI hy))
 ·exact cG (x.above y c (dI h))
 ·have hi:i<vs.length:=by
   unfold qu at h2;by_cases hi:i<vs.length
   ·exact hi
   ·rw[gQ (by simpa using hi)] at h2;rw[List.getElem?_replicate] at h2;split at h2 <;> cases h2
  have ha:vs[i]?=some v:=by
   unfold qu at h2;rw[eV (by simpa using hi),bN] at h2;cases e:vs[i]? with
   |none=>rw[e] at h2;cases h2
   |some a=>rw[e] at h2;cases h2;rfl
  obtain⟨u,hu,rv⟩:=r.get ha;have hp:ps[i]?=some y:=by
   rw[←S.pre,List.getElem?_take_of_lt (by omega)];exact h1
  have ndP:ps.Nodup:=by rw[←S.pre];exact S.nd.sublist (List.take_sublist _ _)
  refine⟨u,rv,?_⟩;rcases S.par y (bF hp) with k|k
  ·exact .inl ⟨k,jE ndP hp hu k⟩
  ·obtain⟨c,e⟩:=YV (n:=s.heap.objs.size+1) k;refine .inr ⟨.inl k,c,e,?_⟩;have q:=x.cell y c e;rw[jF ndP hp hu (by show scope.names.lookup y≠_;rw[k];decide)] at q;exact q
 ·exact e0.hok.fresh (cG (x.above y c (dI h)))
 ·unfold qu;show _=N.length;rw[aI,aG,gG];omega
theorem QA{CX:CXT}{P:Program}{w:World}{K:FG7}{mg:Str->Option Value}{base:Heap}{k:Nat}{f:Addr}{name qual:Str}{params:Arguments}{body:List Stmt}{scope:Scope}{dV kV nA pm mz ct oc:Value}{an od:Option Addr}
  {pJ:Array (Option Value)} {N ps:List Str} {sp:Sp} (lk:K.lookup f=some ⟨oc,od,.func (bU name qual params body scope dV kV nA pm an mz ct),pJ⟩) (pP:cC K mz qual=true) (S:FnScope N ps scope)
  (len:∀vs H Q E,sp vs H Q E->vs.length=ps.length)
  (oO:∀(A:Around) (outer:List Env) (s:Shared) (H:Hp) (vs:List V) (Q:VK) (E:XK),Room k (A.deeper (lq qual scope s.heap.objs.size f mz))->sp vs H Q E→
   ∃t,PSs (S8 CX P w K mg base N qual scope f mz A outer s H E) body t/\t { nx:=fun _ H'=>Q .non H',rt:=Q } (qu N vs) H) :
  FnOk P w K mg base CX (k+1) f (bU name qual params body scope dV kV nA pm an mz ct) ps sp:=by
 refine⟨len,fun A outer s H args us vs Q E hr e0 hb r AX=>?_⟩;have hl:=len _ _ _ _ AX;have KX:K.In s.heap:=e0.mod.kin.keeps fun b o e=>(e0.bs b o e).1;have lim:s.heap.NoLimit:=e0.mod.nolimit.keeps fun b o e=>(e0.bs b o e).1;have Dm:∀y∈ps.zip us,scope.names.lookup y.1=some .local\/(scope.names.lookup y.1=some .cell/\((cellsFrom (s.heap.objs.size+1) scope.names []).lookup y.1).isSome=true):=fun⟨n,v⟩ hy=>by
  rcases S.par n (lH hy).1 with q|q
  ·exact .inl q
  ·exact .inr ⟨q,PySem.W.cellsFrom_some _ _ _ (.inl q)⟩
 refine codeAny_call_function hr.depth (KX _ _ lk) rfl S.co S.gen rfl (PySem.W.codeRec_of KX pP) (hb _ _ _ _ ?_);refine wpAny_newFunctionEnv_cells S.kind Dm fun env he s1 x=>?_;subst he;refine⟨lim.keeps x.toInCall.keep,codeAny_func ?_⟩;obtain⟨t,ht,hq⟩:=oO A outer s H vs Q E (hr.deeper _) AX;have I:Inv (S8 CX P w K mg base N qual scope f mz A outer s H E) [] (qu N vs) H s1:=W0 S hr.hd e0 hl r x;refine cB (ht [] s1 (qu N vs) H _ I hq) (fun fl s' hs=>?_) fun e s' hs=>hs;have fin:∀{σ':St} {H':Hp} {v:V} {u:Value},Inv (S8 CX P w K mg base N qual scope f mz A outer s H E) [] σ' H' s'->z8 v u->Q v H'->CE outer P w H s Q u s' :=
  fun{σ' H' v u} J rv q=>⟨v,H',J.os,J.bare,J.base,J.hok,rv,q⟩
 cases fl with
 |ret u =>
  obtain⟨v,σ',H',J,rv,q⟩:=hs;exact fin J rv q
 |next =>
  obtain⟨σ',H',J,q⟩:=hs;exact fin (v:=V.non) (u:=cA) J rfl q
 |brk =>
  obtain⟨_,_,_,q⟩:=hs;exact False.elim q
 |cont =>
  obtain⟨_,_,_,q⟩:=hs;exact False.elim q
end L2
namespace L2
open PySem PySem.Spec PyProof.Rows
section
variable{X:Cx}{x:Str}{p pos:Pos}{e:Expr}{es:List Expr}{t:TA}{id T:String}{r:List V->Hp->VK->Prop}
def tCB(r:List V->Hp->VK->Prop)(t:TA):TE:=fun σ H Q=>t σ H fun vs H1=>r vs H1 Q
theorem zp(hc:xV X (.builtin id) r)(hg:Gl X x)(hm:X.mg x=none)(hv:cF x=some (.builtin id))(ha:PA X (e::es) t)(hn:x≠"__name__":=by decide)(Ap:(x == ("__debug__":Str))=false:=by decide)
  (he:bP (e::es) X.env=(false,eval e X.env)::bP es X.env:=by rfl) (oK:(fW pos (bP es X.env)).any (·.1)=false:=by rfl):PE X (.Call (.Name x p) (e::es) [] pos) (tCB r t):=by
 intro mw s σ H Q I h;refine ge (vB I hg hm hv ?_ hn Ap);exact PyProof.Rows.callWith_builtin1 (thn (ha pos mw s σ H _ I h) fun us s1 ⟨vs,H1,I1,r1,q1⟩=>hc mw s1 σ H1 vs us Q I1 r1 q1) he oK
theorem zY(hc:xV X (.type T) r)(hg:Gl X x)(hm:X.mg x=none)(hv:cF x=some (.type T))(ha:PA X (e::es) t)(hn:x≠"__name__":=by decide)(Ap:(x == ("__debug__":Str))=false:=by decide)
  (he:bP (e::es) X.env=(false,eval e X.env)::bP es X.env:=by rfl) (oK:(fW pos (bP es X.env)).any (·.1)=false:=by rfl):PE X (.Call (.Name x p) (e::es) [] pos) (tCB r t):=by
 intro mw s σ H Q I h;refine ge (vB I hg hm hv ?_ hn Ap);exact cM (thn (ha pos mw s σ H _ I h) fun us s1 ⟨vs,H1,I1,r1,q1⟩=>hc mw s1 σ H1 vs us Q I1 r1 q1) he oK
end
end L2
namespace HT
open PySem PyProof.Rows
section
variable{prog:Program}{w:World}{A:Around}{E:VS7}{s:Shared}
theorem cat_tup{t b:Addr}{vs ws:List Value}{Q:VS7}(ht:IsTup s.heap t vs.toArray)(hb:IsTup s.heap b ws.toArray)(hv:vs≠[])
  (h1:ws=[]->Q (.ref t) s) (h2:ws≠[]->Q (.ref s.heap.objs.size) { s with heap:=s.heap.push { cls:=.type "tuple",data:=.seq (vs++ws).toArray } })
  (hsz:vs.length+ws.length<=sizeLine):wpAny (model prog w) A (fw .Add (.ref t) (.ref b)) Q E s:=by
 obtain⟨⟨cls,dd,data,sl⟩,ho,hc,n,hd⟩:=id ht;obtain⟨⟨cls2,CJ,data2,sl2⟩,ho2,Aq,n2,CK⟩:=id hb;simp only at hc hd Aq CK;subst hc hd Aq CK;have e:vs.toArray++ws.toArray=(vs++ws).toArray:=by simp
 by_cases hw:ws=[]
 ·exact concat_meets ⟨_,ho,rfl⟩ ⟨_,ho2,rfl⟩ kX seq_tuple_add iK iz (ii _ _)
   (tuple_addW1 t b vs.toArray ws.toArray n n2 dd CJ sl sl2 (by simpa using hv) (by simp[hw])) ⟨ho,ho2,h1 hw⟩
 ·refine concat_meets ⟨_,ho,rfl⟩ ⟨_,ho2,rfl⟩ kX seq_tuple_add iK iz (ii _ _)
   (tuple_addW2 t b vs.toArray ws.toArray n n2 dd CJ sl sl2 (by simpa using hv) (by simpa using hw) (by rw[aO,aO];exact hsz)) ⟨ho,ho2,?_⟩
  rw[e];exact h2 hw
def sIx(n d:Nat):Option Int->Nat
 |none=>d
 |some v=>if v<0 then(v+(n:Int)).toNat else min v.toNat n
theorem QB(n d:Nat)(hd:d<=n)(o:Option Int):sIx n d o<=n:=by
 cases o with
 |none=>exact hd
 |some v =>
  show(if v<0 then(v+(n:Int)).toNat else min v.toNat n)<=n;by_cases hv:v<0
  ·rw[if_pos hv];omega
  ·rw[if_neg hv];exact Nat.min_le_right _ _
theorem W1(v:Int)(n d:Nat):(if v<0 then max (v+(n:Int)) 0 else min v (n:Int))=((sIx n d (some v):Nat):Int):=by
 show(if v<0 then max (v+(n:Int)) 0 else min v (n:Int))=(((if v<0 then(v+(n:Int)).toNat else min v.toNat n):Nat):Int)
 by_cases hv:v<0
 ·simp only[if_pos hv];omega
 ·simp only[if_neg hv];omega
theorem XH(lo hi:Option Int)(n:Nat):hX lo hi 1 (n:Int)=(((sIx n 0 lo:Nat):Int),((sIx n n hi:Nat):Int)):=by
 have h1:¬((1:Int)<0):=by omega
 unfold hX;simp only[h1,if_false]
 refine ky ?_ ?_
 ·cases lo with
  |none=>rfl
  |some v=>exact W1 v n 0
 ·cases hi with
  |none=>rfl
  |some v=>exact W1 v n n
theorem XI(i j:Nat):fH (i:Int) (j:Int) 1=j-i:=by
 unfold fH;have h1:(1:Int)>0:=by omega
 simp only[h1,if_true,mj]
 split <;> omega
theorem rE{v:Value}{o:Option Int}{Q:Option Int->Shared->Prop}(p:lu v o)(h:Q o s):wpAny (model prog w) A (Builtin.Slice.slicePartIndex v) Q E s:=by
 cases p with
 |none=>exact slicePart_none h
 |int i t=>exact slicePart_int h
theorem wy{sl:Addr}{vl vu:Value}{lo hi:Option Int}{n:Nat}{Q:Int×Int×Nat->Shared->Prop}(hs:s.heap.IsSliceOf sl vl vu .none)(pl:lu vl lo)(pu:lu vu hi)
  (h:Q (((sIx n 0 lo:Nat):Int),1,sIx n n hi-sIx n 0 lo) s):wpAny (model prog w) A (Builtin.Slice.sliceApplied (.ref sl) (pure (n:Int))) Q E s:=by
 obtain⟨os,pf,EN,Dn⟩:=id hs;unfold Builtin.Slice.sliceApplied Builtin.Slice.sliceFields;refine aA (aA (iA pf Dn (x:=vl) rfl (aA (iA pf Dn (x:=vu) rfl (aA (iA pf Dn (x:=.none) rfl (aF ?_)))))));refine aA (slicePart_none ?_);show wpAny _ _ (if((1:Int) == 0)=true then _ else _) _ _ s;rw[if_neg (by decide)];refine aA (rE pl (aA (rE pu (aA (aF ?_)))));show wpAny _ _ (match hX lo hi 1 (n:Int) with|(lo,hi)=>pure (lo,(1:Int),fH lo hi 1)) _ _ s;rw[XH lo hi n];show wpAny _ _ (pure (((sIx n 0 lo:Nat):Int),(1:Int),fH ((sIx n 0 lo:Nat):Int) ((sIx n n hi:Nat):Int) 1)) _ _ s;rw[XI];exact aF h
theorem UT(xs:Array Value)(i k:Nat):((aR k).filterMap fun(m:Nat)=>xs[((i:Int)+(m:Int)*1).toNat]?).toArray=((xs.toList.drop i).take k).toArray:=by
 have e:(fun(m:Nat)=>xs[((i:Int)+(m:Int)*1).toNat]?)=fun m=>xs[i+m]?:=by
  funext m
  have:((i:Int)+(m:Int)*1).toNat=i+m:=by omega
  rw[this]
 rw[e];have:=pick_run xs i k;rw[List.filterMap_map] at this;have e2:((fun x=>xs[x]?)∘fun x=>i+x)=fun m=>xs[i+m]?:=rfl;rw[e2] at this;rw[this]
theorem getItem_tuple_cut{t sl:Addr}{items:Array Value}{vl vu:Value}{lo hi:Option Int}{Q:VS7}(ht:IsTup s.heap t items)(hs:s.heap.IsSliceOf sl vl vu .none)(pl:lu vl lo)(pu:lu vu hi)
  (hw:¬(sIx items.size 0 lo=0/\sIx items.size items.size hi=items.size))
  (h:Q (.ref s.heap.objs.size) { s with heap:=s.heap.push { cls:=.type "tuple",data:=.seq ((items.toList.drop (sIx items.size 0 lo)).take (sIx items.size items.size hi-sIx items.size 0 lo)).toArray } })
  (hsz:items.size<=sizeLine):wpAny (model prog w) A (kg (.ref t) (.ref sl)) Q E s:=by
 have pK:sizeOk (.seq ((items.toList.drop (sIx items.size 0 lo)).take (sIx items.size items.size hi-sIx items.size 0 lo)).toArray):=by
  show((items.toList.drop (sIx items.size 0 lo)).take (sIx items.size items.size hi-sIx items.size 0 lo)).toArray.size<=sizeLine;rw[aO,dB,gZ,bJ];omega
 have hj:sIx items.size items.size hi<=items.size:=QB _ _ (aE _) hi;obtain⟨os,pf,EN,Dn⟩:=id hs;have FG:s.TypeIs (.ref sl) "slice":=⟨os,pf,EN⟩
 unfold kg;try with_reducible refine bT ?_
 first|refine aA (aF ?_)|skip
 refine aA (wpAny_sequenceKey ht.typeIs (by decide) ?_);refine aA (cT (name:=gh "__getitem__") ht.typeIs eU
  (cK eU ht.typeIs entry_tuple_getitem ?_ (args_tuple_getitem _ _)))
 show wpAny _ _ (Builtin.Tuple.tupleItemsOf (.ref t) >>= _) _ _ s;refine aA (tupleItemsOf_ ht ?_);refine aA (fK FG ?_);rw[if_pos (by decide)];refine aA (wy hs pl pu ?_);have Do:¬((((sIx items.size 0 lo:Nat):Int) == 0 && (1:Int) == 1 && (sIx items.size items.size hi-sIx items.size 0 lo) == items.size)=true):=by
  intro q;rw[cE,cE] at q;have q1:((sIx items.size 0 lo:Nat):Int)=0:=eq_of_beq q.1.1;have q2:sIx items.size items.size hi-sIx items.size 0 lo=items.size:=eq_of_beq q.2;exact hw ⟨by omega,by omega⟩
 show wpAny _ _ (if(((sIx items.size 0 lo:Nat):Int) == 0 && (1:Int) == 1 && (sIx items.size items.size hi-sIx items.size 0 lo) == items.size)=true then _ else _) _ _ s;rw[if_neg Do,UT];first
  |exact aA (m:=fR _) (bS (aF ⟨_,rfl,aF h⟩) pK)
  |exact aA (m:=fR _) (bS (aA (aF (aF ⟨_,rfl,aF h⟩))) pK)
  |exact aA (aA (m:=fR _) (bS (aF (aF ⟨_,rfl,aF h⟩)) pK))
  |exact aA (aA (m:=fR _) (bS (aF ⟨_,rfl,aF h⟩) pK))
end
end HT
namespace L2
open PySem PySem.Spec PyProof.Rows
abbrev TO:=St->Hp->(Option Int->Hp->Prop)->Prop
def PO(X:Cx)(e:Option Expr)(t:TO):Prop :=
 ∀(mw:List (Addr×Obj)) (s:Shared) (σ:St) (H:Hp) (Q:Option Int->Hp->Prop),Inv X mw σ H s->t σ H Q→
  wpAny (model X.prog X.w) X.A (evalPart e X.env) (fun u s'=>∃o H',Inv X mw σ H' s'/\lu u o/\Q o H') X.xe s
def S9:TO:=fun _ H Q=>Q none H
def JQ(t:TE):TO:=fun σ H Q=>t σ H fun x H1=>∃i,x=.int i/\Q (some i) H1
theorem rF{ns:List Int}:∀{us:List Value},zZ (ns.map V.int) us->fL us ns:=by
 induction ns with
 |nil=>intro us r;rw[iL] at r;cases r;exact .nil
 |cons n ns ih =>
  intro us r;rw[cX] at r;cases r with
  |cons r1 r2 =>
   obtain⟨t,e⟩:=r1;subst e;exact .cons n t (ih r2)
section
variable{X:Cx}{e:Expr}{te:TE}{lo hi:Option Expr}{tl th:TO}{pos p2:Pos}
theorem Z3:PO X none S9:=by
 intro mw s σ H Q I h;rw[evalPart_none];exact aF ⟨none,H,I,.none,h⟩
theorem Z4(h:PE X e te):PO X (some e) (JQ te):=by
 intro mw s σ H Q I hw;rw[evalPart_some];refine thn (h mw s σ H _ I hw) fun u s1 ⟨x,H1,I1,r1,q1⟩=>?_;obtain⟨i,rfl,q⟩:=q1;obtain⟨t,rfl⟩:=r1;exact⟨some i,H1,I1,.int i t,q⟩
noncomputable def SlR(X:Cx)(r:V->Option Int->Option Int->Hp->VK->Prop):Prop :=
 ∀(mw:List (Addr×Obj)) (s:Shared) (σ:St) (H:Hp) (x:V) (v vl vu:Value) (lo hi:Option Int) (sl:Addr) (Q:VK),Inv X mw σ H s->z8 x v->s.heap.IsSliceOf sl vl vu .none->lu vl lo->lu vu hi->r x lo hi H Q→
  ∃T id,typeLookup (.type T) "__getitem__" = pure (some (.builtin id))/\s.TypeIs v T/\wpAny (model X.prog X.w) X.A (kg v (.ref sl)) (EP X mw σ Q) X.xe s
def tSl(r:V->Option Int->Option Int->Hp->VK->Prop)(te:TE)(tl th:TO):TE:=fun σ H Q=>te σ H fun x H1=>tl σ H1 fun l H2=>th σ H2 fun u H3=>r x l u H3 Q
theorem qv{r:V->Option Int->Option Int->Hp->VK->Prop}(hr:SlR X r)(he:PE X e te)(hl:PO X lo tl)(hu:PO X hi th):PE X (.Subscript e (.Slice lo hi none p2) pos) (tSl r te tl th):=by
 intro mw s σ H Q I h;refine Subscript_ (thn (he mw s σ H _ I h) fun v s1 ⟨x,H1,I1,r1,q1⟩=>?_);refine wpAny_Slice (thn (hl mw s1 σ H1 _ I1 q1) fun vl s2 ⟨l,H2,I2,pl,q2⟩=>thn (hu mw s2 σ H2 _ I2 q2) fun vu s3 ⟨u,H3,I3,pu,q3⟩=>?_);rw[evalPart_none];refine aF ?_;have I4:Inv X mw σ H3 { s3 with heap:=s3.heap.push { cls:=.type "slice",data:=.fields #[vl,vu,.none] } }:=I3.kept (t':=s3.toks) fun b ob q=>aD _ q;obtain⟨T,id,hT,ht,hg⟩:=hr mw { s3 with heap:=s3.heap.push { cls:=.type "slice",data:=.fields #[vl,vu,.none] } } σ H3 x v vl vu l u s3.heap.objs.size Q I4 r1 (Heap.IsSliceOf.new ..) pl pu q3;show wpAny (model X.prog X.w) X.A (subscriptTail e (.Slice lo hi none p2) v (.ref s3.heap.objs.size)) (EP X mw σ Q) X.xe { s3 with heap:=s3.heap.push { cls:=.type "slice",data:=.fields #[vl,vu,.none] } };exact tail_any (ops:=[.ref s3.heap.objs.size,v]) ht hT hg (by with_unfolding_all rfl)
noncomputable def Z5(xs:List V)(lo hi:Option Int):List V:=(xs.drop (HT.sIx xs.length 0 lo)).take (HT.sIx xs.length xs.length hi-HT.sIx xs.length 0 lo)
theorem tL(xs:List V)(lo hi:Option Int):(Z5 xs lo hi).length<=xs.length:=by
 unfold Z5;rw[dB,gZ];omega
def zbc(K:FG7):V->Option Int->Option Int->Hp->VK->Prop:=fun x lo hi H Q=>∃a xs,x=.ref a/\SqT K H a xs∧
 ¬(HT.sIx xs.length 0 lo=0/\HT.sIx xs.length xs.length hi=xs.length)/\∀p,H p=none->Q (.ref p) (upd H p (.tup (Z5 xs lo hi)))
theorem QC:SlR X (zbc X.K):=by
 intro mw s σ H x v vl vu lo hi sl Q I rx hs pl pu h;obtain⟨a,xs,rfl,hx,hw,q⟩:=h;cases rx;obtain⟨its,r,ht,hz⟩:=I.tuple hx;have my:its.toArray.size=xs.length:=by rw[aO];exact r.length.symm
 refine⟨"tuple",_,PyProof.Rows.slot_tuple_getitem.lookup,ht.typeIs,?_⟩;refine HT.getItem_tuple_cut ht hs pl pu (by rw[my];exact hw) ?_ (by rw[my];exact hz);rw[my];refine⟨.ref s.heap.objs.size,_,I.laid (t':=s.toks) (o:=.tup (Z5 xs lo hi)) (fun b ob q=>aD _ q) (aE _) ?_,rfl,q _ (I.hok.fresh (aE _))⟩;exact⟨bM (tL xs lo hi) hz,_,(r.drop (HT.sIx xs.length 0 lo)).take (HT.sIx xs.length xs.length hi-HT.sIx xs.length 0 lo),IsTup.new _ _⟩
noncomputable def JR(K:FG7):R2:=fun x y H Q=>∃a b xs ys,x=.ref a/\y=.ref b/\SqT K H a xs/\SqT K H b ys/\xs≠[]/\xs.length+ys.length<=sizeLine∧
 (ys=[]->Q (.ref a) H)/\(ys≠[]->∀p,H p=none->Q (.ref p) (upd H p (.tup (xs++ys))))
theorem zZ.nil_iff{xs:List V}{us:List Value}(r:zZ xs us):us=[] ↔ xs=[]:=by
 cases r with
 |nil=>simp
 |cons _ _=>simp
theorem Ra:OpR X (fw .Add) (JR X.K):=by
 intro mw s σ H x y v u Q I rx ry h;obtain⟨a,b,xs,ys,rfl,rfl,ha,hb,hx,hz,q1,q2⟩:=h;cases rx;cases ry;obtain⟨its,r1,p1,_⟩:=I.tuple ha;obtain⟨pQ,r2,p2,_⟩:=I.tuple hb;refine HT.cat_tup p1 p2 (fun z=>hx (r1.nil_iff.mp z)) (fun z=>⟨.ref a,H,I,rfl,q1 (r2.nil_iff.mp z)⟩) (fun z=>?_) (by rw[←r1.length,←r2.length];exact hz);refine⟨.ref s.heap.objs.size,_,I.laid (t':=s.toks) (o:=.tup (xs++ys)) (fun b ob q=>aD _ q) (aE _) ?_,rfl,q2 (fun w=>z (r2.nil_iff.mpr w)) _ (I.hok.fresh (aE _))⟩;exact⟨by rw[aI];exact hz,_,r1.append r2,IsTup.new _ _⟩
end
end L2
namespace L2
open PySem PySem.Spec PyProof.Rows
noncomputable def ixN(n:Nat)(i:Int):Option Nat:=if 0<=i then(if i<n then some i.toNat else none) else if -(n:Int)<=i then some (i+n).toNat else none
noncomputable def atI{α:Type}(xs:List α)(i:Int):Option α:=(ixN xs.length i).bind fun j=>xs[j]?
theorem Z6{n:Nat}{i:Int}{j:Nat}(h:ixN n i=some j):seqIndex? i n=some j/\j<n/\-(n:Int)<=i/\i<n:=by
 unfold ixN at h;by_cases h0:0<=i
 ·rw[if_pos h0] at h;by_cases h1:i<n
  ·rw[if_pos h1] at h;have e:i.toNat=j:=bH h;exact⟨by rw[seqIndex_of h0 h1,e],by omega,by omega,h1⟩
  ·rw[if_neg h1] at h;cases h
 ·rw[if_neg h0] at h;by_cases h1:-(n:Int)<=i
  ·rw[if_pos h1] at h;have e:(i+n).toNat=j:=bH h;exact⟨by rw[seqIndex_neg (by omega) h1,e],by omega,h1,by omega⟩
  ·rw[if_neg h1] at h;cases h
theorem W3{α:Type}{xs:List α}{i:Int}{v:α}(h:atI xs i=some v):∃j,seqIndex? i xs.length=some j/\xs[j]?=some v/\j<xs.length/\-(xs.length:Int)<=i/\i<xs.length:=by
 unfold atI at h;cases e:ixN xs.length i with
 |none=>rw[e] at h;cases h
 |some j =>
  rw[e] at h;obtain⟨h1,h2,h3,h4⟩:=Z6 e;exact⟨j,h1,h,h2,h3,h4⟩
theorem zN{α:Type}{xs:List α}{j:Nat}{v:α}(h:xs[j]?=some v):atI xs (j:Int)=some v:=by
 have hj:j<xs.length:=(aZ.mp h).1;have e:ixN xs.length (j:Int)=some j:=by
  unfold ixN;rw[if_pos (by omega),if_pos (by omega)];simp
 unfold atI;rw[e];exact h
def Rb(b:Expr):Prop:=∀o i,subscripted b false o i=operate [o,i] (kg o i)
def IxR(X:Cx)(r:R2):Prop :=
 ∀(value ni:Expr) (mw:List (Addr×Obj)) (s:Shared) (σ:St) (H:Hp) (x y:V) (v u:Value) (Q:VK),Inv X mw σ H s->z8 x v->z8 y u->r x y H Q→
  subscripted ni false v u=operate [v,u] (kg v u)->wpAny (model X.prog X.w) X.A (subscriptTail value ni v u) (EP X mw σ Q) X.xe s
def MtR(X:Cx)(id:String)(r:V->List V->Hp->VK->Prop):Prop :=
 ∀(mw:List (Addr×Obj)) (s:Shared) (σ:St) (H:Hp) (x:V) (xs:List V) (v:Value) (us:List Value) (Q:VK),Inv X mw σ H s->z8 x v->zZ xs us->r x xs H Q→
  wpAny (model X.prog X.w) X.A (call (.builtin id) (v::us)) (EP X mw σ Q) X.xe s
section
variable{X:Cx}{a b:Expr}{ta tb:TE}{pos:Pos}
theorem ye{r:R2}(hr:IxR X r)(ha:PE X a ta)(hb:PE X b tb)(hs:Rb b):PE X (.Subscript a b pos) (tOp r ta tb):=by
 intro mw s σ H Q I h;exact Subscript_ (JO ha hb I h fun v u s2 x y H2 I2 rx ry q=>hr a b mw s2 σ H2 x y v u Q I2 rx ry q (hs _ _))
noncomputable def zbd(K:FG7):R2:=fun x y H Q=>∃p xs i v,x=.ref p/\y=.int i/\SqL K H p xs/\atI xs i=some v/\Q v H
noncomputable def zaC(K:FG7):R2:=fun x y H Q=>∃p xs i v,x=.ref p/\y=.int i/\SqT K H p xs/\atI xs i=some v/\Q v H
theorem zU:IxR X (zbd X.K):=by
 intro value ni mw s σ H x y v u Q I rx ry h hs;obtain⟨p,xs,i,z,rfl,rfl,hq,he,q⟩:=h;cases rx;obtain⟨t,rfl⟩:=ry;obtain⟨its,r,pl,hz⟩:=I.list hq;obtain⟨j,h1,h2,h3,h4,h5⟩:=W3 he;obtain⟨w,ew,nQ⟩:=r.get h2;have hl:=r.length;have hn:=jB;have fin:EP X mw σ Q w s:=⟨z,H,I,nQ,q⟩
 by_cases h0:0<=i
 ·have hj:i.toNat=j:=by
   rw[seqIndex_of h0 h5] at h1;exact bH h1
  exact item_listR pl.isList h0 (by omega) (by rw[hj];simpa using ew) fin hs
 ·have hj:(i+(its.toArray.size:Int)).toNat=j:=by
   rw[seqIndex_neg (by omega) h4] at h1;rw[aO,←hl];exact bH h1
  exact subscriptTail_builtinR (x:=w) pl.isList.typeIs slot_list_getitem.lookup
   (wpAny_getItem_list_neg (Q:=fun r s'=>r=w/\EP X mw σ Q r s') pl.isList (by omega) (by rw[aO] <;> omega) (by omega) (by rw[hj];simpa using ew) ⟨rfl,fin⟩) hs
theorem yX:IxR X (zaC X.K):=by
 intro value ni mw s σ H x y v u Q I rx ry h hs;obtain⟨p,xs,i,z,rfl,rfl,hq,he,q⟩:=h;cases rx;obtain⟨t,rfl⟩:=ry;obtain⟨its,r,pl,hz⟩:=I.tuple hq;obtain⟨j,h1,h2,h3,h4,h5⟩:=W3 he;obtain⟨w,ew,nQ⟩:=r.get h2;have hl:=r.length;have hn:=jB;have fin:EP X mw σ Q w s:=⟨z,H,I,nQ,q⟩
 exact subscriptTail_builtinR (x:=w) pl.typeIs slot_tuple_getitem.lookup
  (getItem_tuple (j:=j) (Q:=fun r s'=>r=w/\EP X mw σ Q r s') pl (by omega) (by omega) (by rw[aO,←hl];exact h1) (by simpa using ew) ⟨rfl,fin⟩) hs
theorem XJ(its:List Value)(n j:Nat)(u:Value):cL (·.setIfInBounds j u) { cls:=.type "list",data:=.seq its.toArray n }={ cls:=.type "list",data:=.seq (its.set j u).toArray n }:=by
 simp[cL]
theorem Inv.lst{mw:List (Addr×Obj)}{σ:St}{H:Hp}{s:Shared}{p:Addr}{xs:List V}(I:Inv X mw σ H s)(h:H p=some (.lst xs)) :
  ∃(its:List Value) (n:Nat),zZ xs its/\s.heap.get? p=some { cls:=.type "list",data:=.seq its.toArray n }/\xs.length<=sizeLine:=by
 obtain⟨z,its,n,r,e⟩:=I.hok p _ h;exact⟨its,n,r,e,z⟩
theorem Inv.lstUpd{mw:List (Addr×Obj)}{σ:St}{H:Hp}{s:Shared}{p:Addr}{xs ys:List V}{its its':List Value}{n n':Nat}{f:Obj->Obj}(I:Inv X mw σ H s)(h:H p=some (.lst xs))
  (ho:s.heap.get? p=some { cls:=.type "list",data:=.seq its.toArray n }) (hf:f { cls:=.type "list",data:=.seq its.toArray n }={ cls:=.type "list",data:=.seq its'.toArray n' }) (r:zZ ys its') (hz:ys.length<=sizeLine) (t:Nat) :
  Inv X mw σ (upd H p (.lst ys)) { s with heap:=s.heap.update p f,toks:=t }:=by
 have e:(s.heap.update p f).get? p=some { cls:=.type "list",data:=.seq its'.toArray n' }:=by
  rw[cN f ho (by rw[hf] <;> rfl),hf]
 refine I.write (x:=p) (e:=p) (by rw[h];trivial) (.inl rfl) (fun b u hb q=>(eK _ _ (Ne.symm hb)).trans q) ⟨_,e⟩ ?_;exact⟨hz,its',n',r,e⟩
def JS:V->V->V->Hp->(Hp->Prop)->Prop:=fun o i v H Q=>∃p xs k j,o=.ref p/\i=.int k/\H p=some (.lst xs)/\ixN xs.length k=some j/\Q (upd H p (.lst (xs.set j v)))
theorem vH:zaw X JS:=by
 intro mw s σ H o i v ov iv u Q I ro ri rv h;obtain⟨p,xs,k,j,rfl,rfl,hp,hj,q⟩:=h;cases ro;obtain⟨t,rfl⟩:=ri;obtain⟨its,n,r,ho,hz⟩:=I.lst hp;obtain⟨h1,h2,h3,h4⟩:=Z6 hj;have hl:=r.length;have hn:=jB;have I':Inv X mw σ (upd H p (.lst (xs.set j v))) { s with heap:=s.heap.update p (cL (·.setIfInBounds j u)) } :=
  I.lstUpd hp ho (XJ its n j u) (r.set rv j) (by rw[gA];exact hz) s.toks
 by_cases h0:0<=k
 ·have hk:k.toNat=j:=by
   rw[seqIndex_of h0 h4] at h1;exact bH h1
  exact PySem.W.ki_setAt ho h0 (by omega) (by rw[aO,←hl];exact h4) (by rw[hk];exact⟨_,I',q⟩)
 ·have hk:(k+(its.toArray.size:Int)).toNat=j:=by
   rw[seqIndex_neg (by omega) h3] at h1;rw[aO,←hl];exact bH h1
  exact PySem.W.ki_setBack ho (by omega) (by rw[aO,←hl];exact h3) (by omega) (by rw[hk];exact⟨_,I',q⟩)
theorem jG(lo hi:Option Int)(n:Nat):(iB lo hi none n).1=((HT.sIx n 0 lo:Nat):Int)/\(iB lo hi none n).2.1=((HT.sIx n n hi:Nat):Int)/\(iB lo hi none n).2.2=1:=by
 refine⟨?_,?_,rfl⟩
 ·cases lo with
  |none=>simp[iB,HT.sIx]
  |some i =>
   simp only[iB,HT.sIx,Option.getD_none,show(1:Int)>0 by decide,if_true]
   by_cases h:i<0
   ·simp only[h,if_true] <;> omega
   ·simp only[h,if_false] <;> omega
 ·cases hi with
  |none=>simp[iB,HT.sIx]
  |some i =>
   simp only[iB,HT.sIx,Option.getD_none,show(1:Int)>0 by decide,if_true]
   by_cases h:i<0
   ·simp only[h,if_true] <;> omega
   ·simp only[h,if_false] <;> omega
theorem qw(its:List Value)(lo hi:Option Int):slicePick its.toArray lo hi none=((its.drop (HT.sIx its.length 0 lo)).take (HT.sIx its.length its.length hi-HT.sIx its.length 0 lo)).toArray:=by
 obtain⟨h1,h2,h3⟩:=jG lo hi its.toArray.size;unfold slicePick;rw[h1,h2,h3];simp only[sliceRange_one,pick_run,aO] <;> rfl
def zbe(K:FG7):V->Option Int->Option Int->Hp->VK->Prop:=fun x lo hi H Q=>∃a xs,x=.ref a/\SqL K H a xs/\∀p,H p=none->Q (.ref p) (upd H p (.lst (Z5 xs lo hi)))
theorem Rc:SlR X (zbe X.K):=by
 intro mw s σ H x v vl vu lo hi sl Q I rx hs pl pu h;obtain⟨a,xs,rfl,hx,q⟩:=h;cases rx;obtain⟨its,r,ht,hz⟩:=I.list hx;have my:=r.length;refine⟨"list",_,slot_list_getitem.lookup,ht.isList.typeIs,?_⟩;refine wpAny_getItem_list_slice ht.isList hs pl pu .none (by simp) ?_ (by rw[aO] <;> omega);rw[qw,←my];refine⟨.ref s.heap.objs.size,_,I.laid (t':=s.toks) (o:=.lst (Z5 xs lo hi)) (fun b ob q=>aD _ q) (aE _) ?_,rfl,q _ (I.hok.fresh (aE _))⟩;exact⟨bM (tL xs lo hi) hz,_,0,(r.drop (HT.sIx xs.length 0 lo)).take (HT.sIx xs.length xs.length hi-HT.sIx xs.length 0 lo),aL _ rfl⟩
noncomputable def uR:V->Bool
 |.non=>true
 |.bl _=>true
 |.int _=>true
 |.str _=>true
 |_=>false
noncomputable def eqV:V->V->Bool
 |.non,.non=>true
 |.bl a,.bl b=>a == b
 |.bl a,.int b=>(if a then 1 else 0) == b
 |.int a,.bl b=>a == (if b then 1 else 0)
 |.int a,.int b=>a == b
 |.str a,.str b=>a == b
 |_,_=>false
theorem QD{A:Around}{s:Shared}{y x:V}{u v:Value}(ry:z8 y u)(rx:z8 x v)(fy:uR y=true)(fx:uR x=true):SeqAt.EqAt A s u v (eqV y x):=by
 cases y with
 |non =>
  cases ry;cases x with
  |non=>cases rx;exact SeqAt.EqAt.same _
  |bl b=>cases rx;exact SeqAt.EqAt.none_bool b
  |int b=>obtain⟨t,rfl⟩:=rx;exact SeqAt.EqAt.none_int b t
  |str b=>obtain⟨t,rfl⟩:=rx;exact SeqAt.EqAt.none_str b t
  |_=>exact absurd (show false=true from fx) bE
 |bl a =>
  cases ry;cases x with
  |non=>cases rx;exact SeqAt.EqAt.bool_none a
  |bl b=>cases rx;exact SeqAt.EqAt.bool_bool a b
  |int b=>obtain⟨t,rfl⟩:=rx;exact SeqAt.EqAt.bool_int a b t
  |str b=>obtain⟨t,rfl⟩:=rx;exact SeqAt.EqAt.bool_str a b t
  |_=>exact absurd (show false=true from fx) bE
 |int a =>
  obtain⟨t',rfl⟩:=ry;cases x with
  |non=>cases rx;exact SeqAt.EqAt.int_none a t'
  |bl b=>cases rx;exact SeqAt.EqAt.int_bool a t' b
  |int b=>obtain⟨t,rfl⟩:=rx;exact SeqAt.EqAt.int_int a t' b t
  |str b=>obtain⟨t,rfl⟩:=rx;exact SeqAt.EqAt.int_str a t' b t
  |_=>exact absurd (show false=true from fx) bE
 |str a =>
  obtain⟨t',rfl⟩:=ry;cases x with
  |non=>cases rx;exact SeqAt.EqAt.str_none a t'
  |bl b=>cases rx;exact SeqAt.EqAt.str_bool a t' b
  |int b=>obtain⟨t,rfl⟩:=rx;exact SeqAt.EqAt.str_int a t' b t
  |str b=>obtain⟨t,rfl⟩:=rx;exact SeqAt.EqAt.str_str a t' b t
  |_=>exact absurd (show false=true from fx) bE
 |_=>exact absurd (show false=true from fy) bE
theorem zv:xV X (.builtin "len") (fun xs H Q=>∃p ys,xs=[.ref p]/\(SqL X.K H p ys\/SqT X.K H p ys)/\Q (.int ys.length) H):=by
 intro mw s σ H xs us Q I r h;obtain⟨p,ys,rfl,hq,q⟩:=h;obtain⟨u,rfl,rx⟩:=wC r;cases rx;have hn:=jB;rcases hq with hq|hq
 ·obtain⟨its,r',pl,hz⟩:=I.list hq;have my:=r'.length;exact Calls.call_len_list pl.isList (by simp only[aO] <;> omega) ⟨.int ys.length,H,I.tok _,⟨s.toks+1,by rw[aO,my]⟩,q⟩
 ·obtain⟨its,r',pl,hz⟩:=I.tuple hq;have my:=r'.length;exact len_tuple pl (by simp only[aO] <;> omega) ⟨.int ys.length,H,I.tok _,⟨s.toks+1,by rw[aO,my]⟩,q⟩
theorem uK:xV X (.type "list") (fun xs H Q=>∃p ys,xs=[.ref p]/\(SqL X.K H p ys\/SqT X.K H p ys)/\∀l,H l=none->Q (.ref l) (upd H l (.lst ys))):=by
 intro mw s σ H xs us Q I r h;obtain⟨p,ys,rfl,hq,q⟩:=h;obtain⟨u,rfl,rx⟩:=wC r;cases rx;have fin:∀(its:List Value),zZ ys its->ys.length<=sizeLine->∀(h':Heap) (c':Nat),(∀b o',s.heap.get? b=some o'->h'.get? b=some o')→
   h'.get? s.heap.objs.size=some { cls:=.type "list",dict:=none,data:=.seq its.toArray c',slots:=#[] }->EP X mw σ Q (.ref s.heap.objs.size) { s with heap:=h' }:=fun its r' hz h' c' kp e =>
  ⟨.ref s.heap.objs.size,_,I.laid (t':=s.toks) kp (aE _) (show yf X.prog X.w _ h' _ (.lst ys) from⟨hz,its,c',r',e⟩),rfl,q _ (I.hok.fresh (aE _))⟩
 rcases hq with hq|hq
 ·obtain⟨its,r',pl,hz⟩:=I.list hq;have my:=r'.length;obtain⟨o,ho,hc,n,hd⟩:=pl.isList;exact call_list_seq p (.inl rfl) ho hc hd (fun h' c' kp e=>fin its r' hz h' c' kp e) (by simp only[aO] <;> omega)
 ·obtain⟨its,r',pl,hz⟩:=I.tuple hq;have my:=r'.length;obtain⟨o,ho,hc,n,hd⟩:=pl;exact call_list_seq p (.inr rfl) ho hc hd (fun h' c' kp e=>fin its r' hz h' c' kp e) (by simp only[aO] <;> omega)
theorem yE:xV X (.type "tuple") (fun xs H Q=>∃p ys,xs=[.ref p]/\((SqL X.K H p ys/\∀l,H l=none->Q (.ref l) (upd H l (.tup ys)))\/(SqT X.K H p ys/\Q (.ref p) H))):=by
 intro mw s σ H xs us Q I r h;obtain⟨p,ys,rfl,h⟩:=h;obtain⟨u,rfl,rx⟩:=wC r;cases rx;rcases h with ⟨hq,q⟩|⟨hq,q⟩
 ·obtain⟨its,r',pl,hz⟩:=I.list hq;have my:=r'.length;refine call_tuple_list pl.isList (fun h' kp=>?_) (by simp only[aO] <;> omega);have I1:Inv X mw σ H { s with heap:=h' }:=I.kept (t':=s.toks) kp;have I2:Inv X mw σ (upd H h'.objs.size (.tup ys)) { s with heap:=h'.push { cls:=.type "tuple",data:=.seq its.toArray } } :=
   I1.laid (t':=s.toks) (fun b o e=>aD _ e) (aE _) (show yf X.prog X.w _ _ _ (.tup ys) from⟨hz,its,r',IsTup.new _ _⟩)
  exact⟨.ref h'.objs.size,_,I2,rfl,q _ (I1.hok.fresh (aE _))⟩
 ·obtain⟨its,r',pl,hz⟩:=I.tuple hq;exact call_tuple_same pl ⟨.ref p,H,I,rfl,q⟩
noncomputable def tyV(K:FG7)(T:String)(x:V)(H:Hp):Prop:=match x with
 |.str _=>T = "str"
 |.int _=>T = "int"
 |.ref p=>(T = "list" /\∃xs,SqL K H p xs)\/(T = "tuple" /\∃o,K.lookup p=some o/\o.cls=.type "tuple" /\o.dict=none)∨
   (T = "dict" /\((∃kvs,H p=some (.dK kvs))\/∃kvs,H p=some (.dT kvs)))\/(T = "set" /\∃S n,H p=some (.set S n))
 |_=>False
theorem QE{mw:List (Addr×Obj)}{σ:St}{H:Hp}{s:Shared}{T:String}{x:V}{v:Value}(I:Inv X mw σ H s)(r:z8 x v)(ty:tyV X.K T x H) :
  s.TypeIs v T/\∀a,v=.ref a->∃ob,s.heap.get? a=some ob/\ob.dict=none:=by
 cases x with
 |str z =>
  obtain⟨t,rfl⟩:=r;cases(show T = "str" from ty);exact⟨typeIs_str s z t,fun _ e=>nomatch e⟩
 |int i =>
  obtain⟨t,rfl⟩:=r;cases(show T = "int" from ty);exact⟨typeIs_int s i t,fun _ e=>nomatch e⟩
 |ref p =>
  cases r;rcases ty with ⟨rfl,xs,hq⟩|⟨rfl,o,hk,hc,hd⟩|⟨rfl,hk⟩|⟨rfl,S,n,hk⟩
  ·obtain⟨its,_,pl,_⟩:=I.list hq;refine⟨pl.isList.typeIs,fun a e=>?_⟩;cases e;obtain⟨o,n,e,c,hd,_⟩:=pl;exact⟨o,e,hd⟩
  ·refine⟨⟨o,I.kIn p o hk,hc⟩,fun a e=>?_⟩;cases e;exact⟨o,I.kIn _ o hk,hd⟩
  ·have z:∃o,s.heap.get? p=some o/\o.ExactDict:=by
    rcases hk with ⟨kvs,hk⟩|⟨kvs,hk⟩
    ·obtain⟨_,_,_,_,o,_,_,e,ex,_⟩:=I.hok p _ hk;exact⟨o,e,ex⟩
    ·obtain⟨_,_,_,_,o,_,_,e,ex,_⟩:=I.hok p _ hk;exact⟨o,e,ex⟩
   obtain⟨o,e,ex⟩:=z;refine⟨⟨o,e,ex.1⟩,fun a e2=>?_⟩;cases e2;exact⟨o,e,ex.2.1⟩
  ·obtain⟨o,_,_,_,e,ex,_⟩:=I.hok p _ hk;refine⟨⟨o,e,ex.1⟩,fun a e2=>?_⟩;cases e2;exact⟨o,e,ex.2.1⟩
 |_=>exact False.elim ty
def tBM(K:FG7)(T:String)(r:V->List V->Hp->VK->Prop)(to:TE)(t:TA):TE:=fun σ H Q=>to σ H fun x H1=>tyV K T x H1/\t σ H1 fun xs H2=>r x xs H2 Q
variable{o e:Expr}{es:List Expr}{to:TE}{t:TA}{name:Str}{mK mQ:Pos}{T id:String}{r:V->List V->Hp->VK->Prop}
theorem uo(pa:PlainAttrs T)(slot:Slot T name id)(hty:typeOf (.builtin id)=pure (.type "method_descriptor"))(hm:MtR X id r)(ho:PE X o to)(ha:PA X (e::es) t)
  (Dp:ig o name X.env (eval o X.env)=eval o X.env:=by rfl)
  (FH:((fW mQ (bP (e::es) X.env)).all (fun x=>!x.1) && (kW mQ (ix [] X.env)).all (fun x=>x.1.isSome)
   && decide ((e::es).length+([]:List Keyword).length+(if([]:List Keyword).isEmpty then 0 else 1)<30))=true:=by rfl)
  (Dt:(mK.endLine == mQ.line)=true:=by rfl) (hs:bP (e::es) X.env=(false,eval e X.env)::bP es X.env:=by rfl) (BV:(fW mQ (bP es X.env)).any (·.1)=false:=by rfl) :
  PE X (.Call (.Attribute o name mK) (e::es) [] mQ) (tBM X.K T r to t):=by
 intro mw s σ H Q I h;refine wpAny_Call_method_late Dp FH Dt rfl (thn (ho mw s σ H _ I h) fun v s1 ⟨x,H1,I1,r1,ty,q1⟩=>?_);obtain⟨h1,h2⟩:=QE I1 r1 ty;refine⟨T,id,pa,slot,hty,h1,h2,?_⟩;have hA:=ha mQ mw s1 σ H1 _ I1 q1;rw[hs] at hA ⊢;refine iM (by show(false || (fW mQ (bP es X.env)).any (·.1))=false;rw[BV] <;> rfl) (iZ ?_);exact thn hA fun us s2 ⟨vs,H2,I2,r2,q2⟩=>hm mw s2 σ H2 x vs v us Q I2 r1 r2 q2
end
end L2
namespace L2
open PySem PySem.Spec PyProof.Rows
def MtM(X:Cx)(id:String)(r:V->List V->Hp->VK->Prop):Prop :=
 ∀(mw:List (Addr×Obj)) (s:Shared) (σ:St) (H:Hp) (x:V) (xs:List V) (v:Value) (us:List Value) (Q:VK),Inv X mw σ H s->z8 x v->zZ xs us->r x xs H Q→
  wpAny (model X.prog X.w) X.A (call (.builtin id) (v::us)) (EP X mw σ Q) X.xe s
theorem zZ.one:∀{x:V} {us:List Value},zZ [x] us->∃u,us=[u]/\z8 x u
 |_,_,.cons r .nil=>⟨_,rfl,r⟩
theorem zZ.eraseIdx:∀{xs:List V} {us:List Value} (i:Nat),zZ xs us->zZ (xs.eraseIdx i) (us.eraseIdx i)
 |_,_,_,.nil=>.nil
 |_,_,0,.cons _ t=>t
 |_,_,i+1,.cons r t=>.cons r (zZ.eraseIdx i t)
theorem zZ.rep{xs:List V}{us:List Value}(h:zZ xs us):∀k:Nat,zZ (bL k xs).flatten (bL k us).flatten
 |0=>.nil
 |k+1=>by
  rw[eO,eO,gI,gI];exact zZ.append h (zZ.rep h k)
theorem jH{α:Type}:∀(l:List α) (i:Nat),(l.eraseIdx i).length<=l.length
 |[],_=>aE _
 |_::_,0=>eB _
 |_::r,i+1=>hG (jH r i)
theorem jI(its:List Value):∀(k:Nat) (mG:List Value),
  List.foldl (fun x1 x2=>x1++x2) mG.toArray (bL k its.toArray)=(mG++(bL k its).flatten).toArray
 |0,mG=>by simp
 |k+1,mG=>by
  have e:mG.toArray++its.toArray=(mG++its).toArray:=by simp
  have e2:(mG++its)++(bL k its).flatten=mG++(bL (k+1) its).flatten:=by
   rw[eO,gI,bD]
  rw[←e2,←jI its k (mG++its),←e,eO,eR]
section
variable{X:Cx}{mw:List (Addr×Obj)}{σ:St}{H:Hp}{s:Shared}{l b:Addr}{xs ys zs:List V}
theorem Inv.lset{its its':List Value}{n:Nat}{f:Array Value->Array Value}{t':Nat}(I:Inv X mw σ H s)(hH:H l=some (.lst xs))
  (e:s.heap.get? l=some { cls:=.type "list",data:=.seq its.toArray n }) (hf:f its.toArray=its'.toArray) (hv:zZ ys its') (hz:ys.length<=sizeLine) :
  Inv X mw σ (upd H l (.lst ys)) { s with heap:=s.heap.update l (cL f),toks:=t' }:=by
 have q:=PySem.IsL.update e f;rw[hf] at q;refine I.write (x:=l) (e:=l) (by rw[hH];exact trivial) (.inl rfl) (fun b' u hb hu=>(eK s.heap (cL f) (Ne.symm hb)).trans hu) ⟨_,q⟩ ?_;exact⟨hz,its',_,hv,q⟩
theorem Inv.lnew{its:List Value}{t':Nat}(I:Inv X mw σ H s)(hv:zZ ys its)(hz:ys.length<=sizeLine) :
  Inv X mw σ (upd H s.heap.objs.size (.lst ys)) { s with heap:=s.heap.push { cls:=.type "list",data:=.seq its.toArray },toks:=t' } :=
 I.laid (fun _ _ q=>aD _ q) (aE _) ⟨hz,its,0,hv,aL _ rfl⟩
theorem Inv.fresh(I:Inv X mw σ H s):H s.heap.objs.size=none:=I.hok.fresh (aE _)
theorem Inv.lstM(I:Inv X mw σ H s)(hH:H l=some (.lst xs)):xs.length<=sizeLine/\∃(its:List Value) (n:Nat),zZ xs its/\xs.length=its.length/\s.heap.get? l=some { cls:=.type "list",data:=.seq its.toArray n }:=by
 obtain⟨z,its,n,r,e⟩:=I.hok l _ hH;exact⟨z,its,n,r,r.length,e⟩
theorem YW{n:Nat}(h:n<=sizeLine):fS n=false:=by
 unfold fS;exact decide_eq_false (by omega)
end
section
variable{X:Cx}
def Re:V->List V->Hp->VK->Prop:=fun x vs H Q=>∃l xs y,x=.ref l/\vs=[y]/\H l=some (.lst xs)/\xs.length<sizeLine/\Q .non (upd H l (.lst (xs++[y])))
theorem xD:MtM X "list.append" Re:=by
 intro mw s σ H x vs v us Q I rx rv h;obtain⟨l,xs,y,rfl,rfl,hH,hz,q⟩:=h;cases rx;obtain⟨u,rfl,ru⟩:=rv.one;obtain⟨z,its,n,r,hl,e⟩:=I.lstM hH;refine lv F.slot_list_append ⟨_,e,rfl⟩ F.entry_list_append (F.args_list_append_2 _ _) (PySem.list_append l its.toArray n u (by rw[aO];omega)) ⟨e,?_⟩;refine⟨.non,_,I.lset (its':=its++[u]) hH e (by simp) (r.append (.cons ru .nil)) ?_,rfl,q⟩;rw[aI,List.length_singleton];omega
def Rf:V->List V->Hp->VK->Prop:=fun x vs H Q=>∃l b xs zs,x=.ref l/\vs=[.ref b]/\H l=some (.lst xs)/\H b=some (.lst zs)/\xs.length+zs.length<=sizeLine/\Q .non (upd H l (.lst (xs++zs)))
theorem jJ:MtM X "list.extend" Rf:=by
 intro mw s σ H x vs v us Q I rx rv h;obtain⟨l,b,xs,zs,rfl,rfl,hH,hB,hz,q⟩:=h;cases rx;obtain⟨u,rfl,ru⟩:=rv.one;cases ru;obtain⟨z,its,n,r,hl,e⟩:=I.lstM hH;obtain⟨z2,pQ,n2,r2,Du,e2⟩:=I.lstM hB;have hsz:its.toArray.size+pQ.toArray.size<=sizeLine:=by rw[aO,aO];omega
 have Ar:¬(!its.toArray.isEmpty && fS (its.toArray.size+pQ.toArray.size))=true:=by
  rw[YW hsz,lT];exact bE
 refine lv F.slot_list_extend ⟨_,e,rfl⟩ F.entry_list_extend (F.args_list_extend_2 _ _)
  (AutoSeq1.list_extend_list_list_0 l its.toArray n b pQ.toArray n2 Ar (by rw[aO];omega) (by omega)) ⟨e,e2,?_⟩
 refine⟨.non,_,I.lset (its':=its++pQ) hH e (by simp) (r.append r2) ?_,rfl,q⟩;rw[aI];omega
def QF:V->List V->Hp->VK->Prop:=fun x vs H Q=>∃l xs i k y,x=.ref l/\vs=[.int i]/\H l=some (.lst xs)/\-(2 ^ 63)<=i/\i<2 ^ 63/\seqIndex? i xs.length=some k/\xs[k]?=some y/\Q y (upd H l (.lst (xs.eraseIdx k)))
theorem qz:MtM X "list.pop" QF:=by
 intro mw s σ H x vs v us Q I rx rv h;obtain⟨l,xs,i,k,y,rfl,rfl,hH,h1,h2,hk,hy,q⟩:=h;cases rx;obtain⟨u,rfl,ru⟩:=rv.one;obtain⟨t,rfl⟩:=ru;obtain⟨z,its,n,r,hl,e⟩:=I.lstM hH;obtain⟨w,hw,nQ⟩:=r.get hy;refine lv F.slot_list_pop ⟨_,e,rfl⟩ F.entry_list_pop (F.args_list_pop_2 _ _)
  (MeetsSeq.list_pop_at l its.toArray n i t k w (fitsIndex_both h1 h2) (by rw[aO,←hl];exact hk) (by rw[←eE];exact hw) (by rw[aO];omega)) ⟨e,?_⟩
 refine⟨y,_,I.lset (its':=its.eraseIdx k) hH e ?_ (r.eraseIdx k) ?_,nQ,q⟩
 ·show its.toArray.eraseIdxIfInBounds k=(its.eraseIdx k).toArray;rw[List.eraseIdxIfInBounds_toArray]
 ·have:=jH xs k;omega
noncomputable def zbf:R2:=fun x y H Q=>∃l k xs,x=.ref l/\y=.int k/\H l=some (.lst xs)/\-(2 ^ 63)<=k/\k<2 ^ 63/\xs.length*k.toNat<=sizeLine∧
 ∀p,H p=none->Q (.ref p) (upd H p (.lst (bL k.toNat xs).flatten))
theorem Rg{α:Type}(xs:List α)(k:Nat):(bL k xs).flatten.length=k*xs.length:=by
 induction k with
 |zero=>simp
 |succ k ih=>rw[eO,gI,aI,ih,Nat.succ_mul,mm]
theorem QG:OpR X (fw .Mult) zbf:=by
 intro mw s σ H x y v u Q I rx ry h;obtain⟨l,k,xs,rfl,rfl,hH,h1,h2,hz,q⟩:=h;cases rx;obtain⟨t,rfl⟩:=ry;obtain⟨z,its,n,r,hl,e⟩:=I.lstM hH;have my:its.toArray.size*k.toNat<=sizeLine:=by rw[aO,←hl];exact hz
 have FI:¬its.toArray.size*k.toNat>(2 ^ 63-1) / 8:=by
  have:(sizeLine:Nat)<=(2 ^ 63-1) / 8:=by decide
  omega
 have FJ:¬(!Builtin.List.listFitsIndex k)=true:=by
  rw[fitsIndex_both h1 h2];exact bE
 have Ar:¬fS (its.toArray.size*k.toNat)=true:=by
  rw[YW my];exact bE
 have FK:List.foldl (fun x1 x2=>x1++x2) #[] (bL (if its.toArray.isEmpty=true then 0 else k.toNat) its.toArray)=(bL k.toNat its).flatten.toArray:=by
  have f0:∀m:Nat,List.foldl (fun x1 x2=>x1++x2) #[] (bL m its.toArray)=(bL m its).flatten.toArray:=fun m=>by
   have:=jI its m [];rw[lJ] at this;exact this
  rw[f0];cases its with
  |nil=>simp
  |cons a r'=>rw[if_neg (by simp)]
 refine wpAny_binaryOp_repeat_ref (T:="list") (U:="int") (by decide) ⟨_,e,rfl⟩ (fun s'=>typeIs_int s' k t) noFill_list_mul F.fills_int_mul F.slot_int_rmul repeat_list F.slot_int_index.lookup
  (lv F.slot_int_rmul (typeIs_int s k t) F.entry_int_rmul (F.args_int_rmul_2 _ _) (int___rmul___int_list k t l its.toArray n)
   ⟨e,rfl,⟨_,e,rfl⟩,lv F.slot_list_mul ⟨_,e,rfl⟩ F.entry_list_mul (F.args_list_mul_2 _ _) (AutoListH.list___mul___list_int_3 l its.toArray n k t FJ FI Ar) ⟨e,?_⟩⟩)
 rw[FK];exact⟨.ref _,_,I.lnew (t':=s.toks) (r.rep k.toNat) (by rw[Rg,Nat.mul_comm];exact hz),rfl,q _ I.fresh⟩
end
end L2
namespace Att
open PySem PySem.W PySem.Calls PyProof.Rows
theorem tM{P:Params}{h:Heap}:∀(ns:List Int) (vs:List Value),WellAll P h vs (ns.map WData.int)->fL vs ns:=by
 intro ns;induction ns with
 |nil =>
  intro vs w;rw[iL] at w;cases w;exact .nil
 |cons n ns ih =>
  intro vs w;rw[cX] at w;cases w with
  |cons a b =>
   cases a;exact .cons _ _ (ih _ b)
theorem W4{l:OpenLaw}{n:Nat}(hn:l.most=some n){P:Params}{h:Heap}{args:List WData}{As:List Value}
  (pR:l.row.toRowW.claim.pre args=true) (BD:WellAll P h As args) :
  ∃a vs ns,As=[bK a]/\args=[WData.list (ns.map WData.int)]/\h.get? a=some { cls:=.type "list",data:=.seq vs.toArray }/\fL vs ns/\ns.length<=n:=by
 have hsh:WShape.hasAll [] args [.list .int]=true:=(pre_splitW pR).1;have hc:l.pre.holds [] { args:=args }=true:=(pre_splitW pR).2;obtain⟨d,r,rfl,h1,h2⟩:=hasAllW_cons hsh;obtain rfl:=hasAllW_nil h2;obtain⟨xs,rfl,h3⟩:=hasW_list h1;obtain⟨ns,rfl⟩:=items_int h3;have my:ns.length<=n:=by
  unfold OpenLaw.pre at hc;have h4:(WTm.not (.lt (.lit (.int (n:Int))) (.len (.arg 0)))).holds [] { args:=[.list (ns.map .int)] }=true:=by
   have h4:=(holds_andW hc).1;rw[hn] at h4;exact h4
  have h5:=condW_of h4 (w_not (w_lt w_lit (w_len_list (w_arg rfl))));rw[aG] at h5;refine kY fun q=>?_;have q':(n:Int)<((ns.length:Nat):Int):=by omega
  first
   | (rw[decide_eq_true q'] at h5;exact absurd h5 (by decide))
   | (simp at h5;omega)
 cases BD with
 |cons w1 w2 =>
  cases w2;cases w1 with
  |list ho oi=>exact⟨_,_,ns,rfl,rfl,ho,tM ns _ oi,my⟩
theorem W5(l:OpenLaw)(args:List WData):l.row.toRowW.claim.post args (.bool true) args=true :=
 postW_of (r:=l.row.toRowW) (X:=(true == true))
  (show WShape.has [] (.bool true) .bool=true by first|rfl|decide|simp[WShape.has,WShape.arms,WShape.armsAll])
  (show(WTm.eq .res (.lit (.bool true))).value [] { args:=args,res:=some (.bool true),after:=args }=some (.bool (true == true)) from w_eq_bool (w_res rfl) w_lit) rfl
theorem attach_call{l:OpenLaw}{n:Nat}{q:Program}{nj:List Str}{XP:(Str->Option Value)->Heap->Prop}{YP:World->Heap->Prop}{d:DefRec}
  (hn:l.most=some n) (BE:d.params.defaults=[])
  (call:∀(w:World) (s₀ s₁:Shared) (mg mb:Str->Option Value) (fa:Addr) (o:Obj) (pm cd nA:Value) (a:Addr) (vs:List Value) (ns:List Int),
   Ground q nj [] XP w s₀ mg mb s₁.heap->YP w s₁.heap→
   s₁.heap.get? fa=some o->o.data=.func (docDef d.name d.params d.body d.scope pm cd nA)->s₁.heap.CodeRec cd d.name->mg d.name=some (.ref fa)→
   s₁.heap.get? a=some { cls:=.type "list",data:=.seq vs.toArray }->fL vs ns->ns.length<=n->s₁.gens=#[]→
   codeAny (model l.prog w) ma (.call (.ref fa) ⟨[.ref a],[]⟩) (fun r s'=>r=.ok (.ret (.bool true))/\OldK s₁.heap s'.heap/\s'.os=s₁.os/\kG s'.gens) s₁) :
  WalkO q nj XP YP l.row.toRowW d [] (fun f vs=>PySem.call f vs):=by
 intro w s₀ s₁ mg mb G Y fa o pm cd nA dV kV ho hd pP hD hmg hg args As as pR Dv EO BD CL;obtain rfl:dV=.none:=Dflts.none hD BE;obtain rfl:kV=.none:=Dflts.noKw hD;obtain⟨a,vs,ns,rfl,rfl,BW,At,my⟩:=W4 hn pR BD;refine enter_call (gc (call w s₀ s₁ mg mb fa o pm cd nA a vs ns G Y ho (fd_plain hd) pP hmg BW At my hg) fun r s' hq=>?_);obtain⟨rfl,h2,h3,h4⟩:=hq;exact⟨.inl ⟨.bool true,.bool true,[],rfl,fun _=>rfl,.bool true,W5 l _,fun _=>⟨List.Pairwise.nil,fun _ hm=>(nomatch hm)⟩⟩,h2,h3,h4⟩
end Att
namespace L2
open PySem PySem.Spec PyProof.Rows
theorem wb:∀{vs:List Value} {ns:List Int},fL vs ns->zZ (ns.map V.int) vs
 |_,_,.nil=>.nil
 |_,_,.cons n t h=>.cons ⟨t,rfl⟩ (wb h)
def Jy(H:Hp):Prop:=∀b,H b=none\/∃o xs,H b=some (.frz o (.lst xs))
theorem UU{P:Program}{w:World}{K:FG7}{mg mb:Str->Option Value}{CX:CXT}{k:Nat}{fa a:Addr}{fd:FuncData}{x:Str}{sp:Sp}{s₁:Shared}{vs:List Value}{ns:List Int}
  (KX:K.In s₁.heap) (BF:s₁.heap.Ns bI mg) (hb:s₁.heap.Ns builtinsNs mb) (hbb:∀x:Str,x≠"__name__" -> mb x=cF x) (FL:s₁.heap.NoLimit) (hg:s₁.gens=#[])
  (ha:s₁.heap.get? a=some { cls:=.type "list",data:=.seq vs.toArray }) (hi:fL vs ns) (hl:ns.length<=sizeLine) (hr:Room k ma)
  (F:∀base:Heap,K.In base->base.Ns bI mg->FnOk P w K mg base CX k fa fd [x] sp) (Dw:∀(s:Shared) (u:Value),BindsTo s fd ⟨[u],[]⟩ [(x,u)])
  (AX:∀H:Hp,Jy H->SqL K H a (ns.map V.int)->sp [.ref a] H (fun v _=>v=.bl true) fun _ _ _=>False)
  (FM:∀H e s',CX [] H s₁ (fun _ _ _=>False) e s'->False) :
  codeAny (model P w) ma (.call (.ref fa) ⟨[.ref a],[]⟩) (fun r s'=>r=.ok (.ret (.bool true))/\OldK s₁.heap s'.heap/\s'.os=s₁.os/\kG s'.gens) s₁:=by
 have rv:=wb hi;have FN:=hi.length
 -- from an abstract heap in which nothing but the script may be og
 have Dx:∀H:Hp,Jy H->SqL K H a (ns.map V.int)->HOk P w H s₁.heap->(∀b,H b≠none->b=a)->(H a≠none->K.lookup a=none)→
   codeAny (model P w) ma (.call (.ref fa) ⟨[.ref a],[]⟩) (fun r s'=>r=.ok (.ret (.bool true))/\OldK s₁.heap s'.heap/\s'.os=s₁.os/\kG s'.gens) s₁:=by
  intro H hO hS hok hA hK;have pL:∀{b:Addr} {o:Obj},s₁.heap.get? b=some o->H b=none->(UJ s₁.heap H).get? b=some o:=fun e n=>UK e n;have Dj:∀{b:Addr} {o:Obj} {es:Array DictEntry} {ep:Nat},s₁.heap.get? b=some o->o.data=.dict es ep->H b=none:=fun{b o es ep} e d=>by
   cases q:H b with
   |none=>rfl
   |some u =>
    have e':b=a:=hA b (by rw[q];simp);subst e';rw[ha] at e;cases e;have d':Data.seq vs.toArray _=Data.dict es ep:=d;cases d'
  have EQ:∀{b:Addr} {m:Str->Option Value},s₁.heap.Ns b m->(UJ s₁.heap H).Ns b m:=fun{b m} ⟨o,es,ep,e,d,r⟩=>⟨o,es,ep,pL e (Dj e d),d,r⟩
  have hKb:K.In (UJ s₁.heap H):=fun b o e=>pL (KX b o e) (by
   cases q:H b with
   |none=>rfl
   |some u =>
    have e':b=a:=hA b (by rw[q];simp);subst e';rw[hK (by rw[q];simp)] at e;cases e)
  have hM:Mod K mg (UJ s₁.heap H):=⟨hKb,EQ BF,⟨mb,EQ hb,hbb⟩,let ⟨mc,h1,h2⟩:=FL;⟨mc,EQ h1,h2⟩⟩
  have e0:Env0 P w K mg (UJ s₁.heap H) ma [] s₁ H:=⟨rfl,hM,fun b o e=>SR e,Nat.le_of_eq (WJ _ _),trivial,fun b hb=>absurd (show b∈([]:List Addr) from hb) (by simp),hok,.of_eq hg⟩
  refine gc ((F _ hKb (EQ BF)).run ma [] s₁ H ⟨[.ref a],[]⟩ [.ref a] [.ref a] _ _ hr e0 (Dw s₁ (.ref a)) (.cons rfl .nil) (AX H hO hS)) fun r s' h=>?_;cases r with
  |error e=>exact(FM H e s' h).elim
  |ok fl =>
   cases fl with
   |next=>exact False.elim h
   |brk=>exact False.elim h
   |cont=>exact False.elim h
   |ret u =>
    obtain⟨v,H',os,bare,un,FO,r',q⟩:=h;have q':v=.bl true:=q;subst q';obtain rfl:u=kj true:=r';refine⟨rfl,OldK.of_keep fun b o e=>?_,os,bare⟩;cases q:H b with
    |none=>exact un.keep b o e q (by intro z;exact absurd (show b∈([]:List Addr) from z) (by simp)) (by simp)
    |some u =>
     rcases hO b with z|⟨ob,xs,z⟩
     ·rw[q] at z;cases z
     ·have z2:=un.frzs b ob _ z;obtain⟨e1,_⟩:=hok b _ z;obtain⟨e2,_⟩:=FO b _ z2;rw[e] at e1;cases e1;exact e2
 cases hk:K.lookup a with
 |some o =>
  -- the script is one of the module's own objects
  have e:=KX a o hk;rw[ha] at e;cases e;refine Dx (fun _=>none) (fun _=>.inl rfl) (.inr ⟨_,vs.toArray,_,hk,rfl,rfl,rfl,by rw[aO,FN];exact hl,by simpa using rv⟩) (fun b u z=>by have z':(none:Option HO)=some u:=z;cases z') (fun b z=>absurd rfl z) fun z=>absurd rfl z
 |none =>
  refine Dx (fun b=>if b=a then some (.frz { cls:=.type "list",data:=.seq vs.toArray } (.lst (ns.map V.int))) else none) (fun b=>?_) (.inl (.inr ⟨{ cls:=.type "list",data:=.seq vs.toArray },if_pos rfl⟩)) (fun b u z=>?_) (fun b z=>?_) fun _=>hk
  ·by_cases hb:b=a
   ·exact .inr ⟨_,_,if_pos hb⟩
   ·exact .inl (if_neg hb)
  ·by_cases hb:b=a
   ·have z':=(if_pos hb).symm.trans z;cases z';subst hb;exact⟨ha,by rw[aG];exact hl,vs,_,rv,ha⟩
   ·have z':=(if_neg hb).symm.trans z;cases z'
  ·by_cases hb:b=a
   ·exact hb
   ·exact absurd (if_neg hb) z
end L2
namespace L2
open PySem PySem.Spec PyProof.Rows
theorem walk_of{l:lK}{n k:Nat}{q:Program}{nj:List Str}{XP:(Str->Option Value)->Heap->Prop}{YP:World->Heap->Prop}{d:DefRec}{K:Params->FG7}{CX:World->CXT}{sp:World->Sp}{x:Str}
  (hn:l.most=some n) (mF:n<=sizeLine) (BE:d.params.defaults=[]) (hr:Room k ma)
  (hY:∀(w:World) (h:Heap),YP w h->(K w.params).In h)
  (F:∀(w:World) (mg:Str->Option Value) (fa:Addr) (h:Heap),(K w.params).In h->h.Ns bI mg->mg d.name=some (.ref fa)→
   ∃fd:FuncData,(∀(s:Shared) (u:Value),BindsTo s fd ⟨[u],[]⟩ [(x,u)])∧
    ∀base:Heap,(K w.params).In base->base.Ns bI mg->FnOk l.prog w (K w.params) mg base (CX w) k fa fd [x] (sp w))
  (AX:∀(w:World) (H:Hp) (a:Addr) (ns:List Int),ns.length<=n->Jy H->SqL (K w.params) H a (ns.map V.int)->sp w [.ref a] H (fun v _=>v=.bl true) fun _ _ _=>False)
  (FM:∀(w:World) (H:Hp) (s:Shared) (e:Value) (s':Shared),CX w [] H s (fun _ _ _=>False) e s'->False) :
  md q nj XP YP l.row.toRowW d [] (fun f vs=>PySem.call f vs):=by
 refine Att.attach_call hn BE fun w s₀ s₁ mg mb fa o pm cd nA a vs ns G Y ho hd pP hmg BW At my hg=>?_;have KX:=hY w _ Y;obtain⟨fd,hb,hF⟩:=F w mg fa _ KX G.T.g hmg;exact UU KX G.T.g G.T.b G.T.builtins G.T.nolimit hg BW At (bM my mF) hr hF hb (fun H hO hS=>AX w H a ns my hO hS) fun H e s'=>FM w H s₁ e s'
end L2
namespace L2
open PySem PySem.Spec PyProof.Rows
noncomputable def zk(s:Stmt)(j:Nat):Stmt:=match s with
 |.ClassDef _ _ _ body _ _ _ _ _ _ _=>body.getD j (.Pass ⟨0,0,0,0⟩)
 |_=>.Pass ⟨0,0,0,0⟩
noncomputable def zV(s:Stmt):Arguments:=match s with
 |.FunctionDef _ a _ _ _ _ _ _ _ _=>a
 |_=>{ posonlyargs:=[],args:=[],vararg:=none,kwonlyargs:=[],kw_defaults:=[],kwarg:=none,defaults:=[] }
noncomputable def zP(s:Stmt):List Stmt:=match s with
 |.FunctionDef _ _ b _ _ _ _ _ _ _=>b
 |_=>[]
noncomputable def zh(s:Stmt):Scope:=match s with
 |.FunctionDef _ _ _ _ _ _ sc _ _ _=>sc
 |_=>{ kind:=.function,names:=[],isGenerator:=false,isCoroutine:=false }
abbrev CX0:CXT:=fun _ _ _ _ _ _=>False
abbrev E0:XK:=fun _ _ _=>False
theorem UV{X:Cx}:tK CX0 X E0:=fun _ _ _ _ _ _ _ h=>h.elim
structure Fun(K:FG7)(x qual:Str)(st:Stmt)(f:Addr)(fd:FuncData):Prop where
 ex:∃(oc:Value) (od:Option Addr) (kV nA pm:Value) (an:Option Addr) (mz ct:Value) (pJ:Array (Option Value)),
  fd=bU x qual (zV st) (zP st) (zh st) .none kV nA pm an mz ct/\K.lookup f=some ⟨oc,od,.func fd,pJ⟩/\cC K mz qual=true
 kp:bQ K (.ref f)=true
section
variable{P:Program}{w:World}{K:FG7}{mg:Str->Option Value}{base:Heap}
theorem Fun.ok{x qual:Str}{st:Stmt}{f:Addr}{fd:FuncData}{N ps:List Str}{k:Nat}{sp:Sp}(F:Fun K x qual st f fd)(S:FnScope N ps (zh st))(len:∀vs H Q E,sp vs H Q E->vs.length=ps.length)
  (oO:∀(mz:Value) (A:Around) (outer:List Env) (s:Shared) (H:Hp) (vs:List V) (Q:VK) (E:XK),Room k (A.deeper (lq qual (zh st) s.heap.objs.size f mz))->sp vs H Q E→
   ∃t,PSs (S8 CX0 P w K mg base N qual (zh st) f mz A outer s H E).nox (zP st) t/\t { nx:=fun _ H'=>Q .non H',rt:=Q } (qu N vs) H):FnOk P w K mg base CX0 (k+1) f fd ps sp:=by
 obtain⟨oc,od,kV,nA,pm,an,mz,ct,pJ,rfl,lk,pP⟩:=F.ex;refine QA lk pP S len fun A outer s H vs Q E hr AX=>?_;obtain⟨t,h,q⟩:=oO mz A outer s H vs Q E hr AX;exact⟨t,h.nox,q⟩
theorem Fun.binds{x qual:Str}{st:Stmt}{f:Addr}{fd:FuncData}{ps:List Str}(F:Fun K x qual st f fd)
  (h:∀(kV nA pm:Value) (an:Option Addr) (mz ct:Value) (us:List Value),us.length=ps.length->bindArgs (bU x qual (zV st) (zP st) (zh st) .none kV nA pm an mz ct) ⟨us,[]⟩=pure (ps.zip us)):wE K fd ps []:=by
 obtain⟨oc,od,kV,nA,pm,an,mz,ct,pJ,rfl,lk,pP⟩:=F.ex;exact .all (h kV nA pm an mz ct)
theorem fun_mk{x qual:Str}{st:Stmt}{f:Addr}{oc:Value}{od an:Option Addr}{pJ:Array (Option Value)}{kV nA pm mz ct:Value}(l:K.lookup f=some ⟨oc,od,.func (bU x qual (zV st) (zP st) (zh st) .none kV nA pm an mz ct),pJ⟩)
  (c:cC K mz qual=true) (k:bQ K (.ref f)=true):Fun K x qual st f (bU x qual (zV st) (zP st) (zh st) .none kV nA pm an mz ct):=⟨⟨oc,od,kV,nA,pm,an,mz,ct,pJ,rfl,l,c⟩,k⟩
end
theorem zC{n:Nat}(h:n<=1000):n<sizeLine:=kz h (by decide)
section
variable{X:Cx}
theorem pv(i:Nat){x:Str}{pos:Pos}(hN:X.N[i]?=some x:=by rfl)(hv:Vis X.env.scope x:=by first|exact aY rfl|exact lx (aY rfl)|exact lx (lx rfl))(hd:(x == ("__debug__":Str))=false:=by decide)
  (pP:(x == ("__classdict__":Str))=false:=by decide):PE X (.Name x pos) (zav i):=Ql hN hv hd pP
end
theorem xM{A B:Prop}(h:B):if false=true then A else B:=by
 rw[if_neg bE];exact h
theorem vJ{A B:Prop}(h:A):if true=true then A else B:=by
 rw[if_pos rfl];exact h
theorem UF{c A B:Prop}[Decidable c](h1:c->A)(h2:¬c->B):if c then A else B:=by
 by_cases h:c
 ·rw[if_pos h];exact h1 h
 ·rw[if_neg h];exact h2 h
end L2
namespace L3
open PySem PySem.Spec PyProof.Rows L2
theorem xh:cF "len" = some (.builtin "len"):=by decide +kernel
theorem Rh:cF "max" = some (.builtin "max"):=by decide +kernel
theorem JT:cF "min" = some (.builtin "min"):=by decide +kernel
theorem UW:cF "divmod" = some (.builtin "divmod"):=by decide +kernel
theorem rG:cF "repr" = some (.builtin "repr"):=by decide +kernel
theorem zX:cF "isinstance" = some (.builtin "isinstance"):=by decide +kernel
theorem Ri:cF "all" = some (.builtin "all"):=by decide +kernel
theorem u4:cF "sorted" = some (.builtin "sorted"):=by decide +kernel
theorem W6:cF "int" = some (.type "int"):=by decide +kernel
theorem QH:cF "bool" = some (.type "bool"):=by decide +kernel
theorem yS:cF "tuple" = some (.type "tuple"):=by decide +kernel
theorem W7:cF "list" = some (.type "list"):=by decide +kernel
theorem Sf:cF "dict" = some (.type "dict"):=by decide +kernel
def TyV(K:FG7)(H:Hp)(x:V)(T:String):Prop:=match x with
 |.non=>T = "NoneType"
 |.bl _=>T = "bool"
 |.int _=>T = "int"
 |.str _=>T = "str"
 |.ref a=>(T = "tuple" /\∃xs,SqT K H a xs)\/(T = "list" /\∃xs,SqL K H a xs)\/(T = "dict" /\∃kvs,H a=some (.dK kvs))
 |_=>False
section
variable{X:Cx}{a b c:Expr}{ta tb tc:TE}{pos:Pos}
def zaD(K:FG7):List V->Hp->VK->Prop:=fun xs H Q=>∃x T t k,xs=[x,.ty T]/\TyV K H x t/\kr K (.type t) (.type T)=some k/\Q (.bl k) H
theorem xb:xV X (.builtin "isinstance") (zaD X.K):=by
 intro mw s σ H xs us Q I r h;obtain⟨x,T,t,k,rfl,ty,e,q⟩:=h;obtain⟨u,w',rfl,rx,rt⟩:=WU r;cases(show w'=cI T from rt);have fin:∀tk,EP X mw σ Q (.bool k) { s with toks:=tk }:=fun tk=>⟨.bl k,H,I.tok _,rfl,q⟩
 cases x with
 |non=>cases(show t = "NoneType" from ty);exact wD I rx .non e fin
 |bl y=>cases(show t = "bool" from ty);exact wD I rx (.bl y) e fin
 |int i=>cases(show t = "int" from ty);exact wD I rx (.int i) e fin
 |str y=>cases(show t = "str" from ty);exact wD I rx (.str y) e fin
 |byt y=>exact ty.elim
 |flt y=>exact ty.elim
 |ty y=>exact ty.elim
 |ref a =>
  cases(show u=bK a from rx);rcases ty with ⟨rfl,xs,hq⟩|⟨rfl,xs,hq⟩|⟨rfl,kvs,hq⟩
  ·obtain⟨its,_,⟨o,h1,h2,_⟩,_⟩:=I.tuple hq;exact cQ PySem.W.kitx_tuple I.kIn ⟨o,h1,h2⟩ e (fun z=>nomatch z) fin
  ·obtain⟨its,_,pl,_⟩:=I.list hq;obtain⟨o,h1,h2,_⟩:=pl.isList;exact cQ kK I.kIn ⟨o,h1,h2⟩ e (fun z=>nomatch z) fin
  ·exact wD (x:=V.ref a) I (show z8 (.ref a) (.ref a) from rfl) (.dK hq) e fin
theorem wZ{x:Str}{T:String}{pos:Pos}(hg:Gl X x)(hm:X.mg x=none)(hv:cF x=some (.type T))(hn:x≠"__name__":=by decide)(hd:(x == ("__debug__":Str))=false:=by decide):PE X (.Name x pos) (tC (.ty T)) :=
 SS hg hm hv (show z8 (.ty T) (cI T) from rfl) hn hd
theorem xX:OpR X (fw .Mult) (rI IntMulOk fun i j=>.int (i*j)):=opI fun _ _ _ _ _ _ _ hc q=>mul_int q hc
def UX(i j:Int):Prop:=0<j/\j<2 ^ 200
theorem UX.py{i j:Int}(h:UX i j):Builtin.divisionGoesByPylong i j=false:=by
 refine PyProof.noPylong_of_log2 ?_;obtain⟨h1,h2⟩:=h;have h0:j.natAbs≠0:=by omega
 have h3:j.natAbs<2 ^ 200:=by
  have:(j.natAbs:Int)=j:=by omega
  have h4:((j.natAbs:Nat):Int)<((2 ^ 200:Nat):Int):=by rw[this];exact h2
  exact Int.ofNat_lt.mp h4
 exact aN ((Nat.log2_lt h0).mpr h3) (by decide)
theorem YX:OpR X (fw .FloorDiv) (rI UX fun i j=>.int (i / j)):=opI fun i j _ _ _ _ _ hc q=>by
 have:=hc.1;refine floordiv_int (by omega) ?_ (.inl hc.py);rw[gO i (by omega)];exact q
theorem jK:xV X (.builtin "divmod") (fun xs H Q=>∃i j,xs=[.int i,.int j]/\UX i j/\∀p,H p=none->Q (.ref p) (upd H p (.tup [.int (i / j),.int (i % j)]))):=by
 intro mw s σ H xs us Q I r h;obtain⟨i,j,rfl,hc,q⟩:=h;have h1:=hc.1;obtain⟨u,w',rfl,⟨t,rfl⟩,⟨t',rfl⟩⟩:=WU r;refine divmod_int (by omega) ?_ (.inl hc.py);rw[gO i (by omega),Int.fmod_eq_emod_of_nonneg i (by omega)];have hn:H s.heap.objs.size=none:=I.hok.fresh (aE _);refine⟨.ref s.heap.objs.size,_,?_,rfl,q _ hn⟩;refine I.laid (fun b o e=>aD _ e) (aE _) ⟨by simp only[dW,gB];rw[eQ];decide,[.int (i / j) s.toks,.int (i % j) (s.toks+1)],.cons ⟨_,rfl⟩ (.cons ⟨_,rfl⟩ .nil),?_⟩;exact⟨_,aL s.heap rfl,rfl,0,rfl⟩
def zbg(i:Int):Prop:=i.natAbs.log2<1920
end
def zo(P:Program)(w:World)(K:FG7)(mg:Str->Option Value)(base:Heap)(k:Nat)(x:Str)(ps:List Str)(sp:Sp):Prop :=
 ∃(f:Addr) (fd:FuncData),FnOk P w K mg base CX0 k f fd ps sp/\wE K fd ps []/\bQ K (.ref f)=true/\mg x=some (.ref f)
theorem zo.mono{P:Program}{w:World}{K:FG7}{mg:Str->Option Value}{base:Heap}{j k:Nat}{x:Str}{ps:List Str}{sp:Sp}(C:zo P w K mg base j x ps sp)(h:j<=k):zo P w K mg base k x ps sp:=by
 obtain⟨f,fd,F,b,kp,m⟩:=C;exact⟨f,fd,F.mono h,b,kp,m⟩
section
variable{X:Cx}{k:Nat}{ps:List Str}{sp:Sp}{x:Str}{p pos:Pos}{e:Expr}{es:List Expr}{t:TA}
theorem zi(C:zo X.prog X.w X.K X.mg X.base k x ps sp)(hr:Room k X.A)(hg:Gl X x)
  (ha:PA X (e::es) t) (Ap:(x == ("__debug__":Str))=false:=by decide) (he:bP (e::es) X.env=(false,eval e X.env)::bP es X.env:=by rfl) (oK:(fW pos (bP es X.env)).any (·.1)=false:=by rfl) :
  PE X (.Call (.Name x p) (e::es) [] pos) (Qy sp [] E0 t):=by
 obtain⟨f,fd,F,b,kp,m⟩:=C;exact S5 F hr hg m kp b .nil UV ha Ap he oK
end
structure Grow(m:List Addr)(H H':Hp):Prop where
 keep:∀b o,b∉m->H b=some o->H' b=some o
 tup:∀b xs,H b=some (.tup xs)->H' b=some (.tup xs)
 frz:∀b o u,H b=some (.frz o u)->H' b=some (.frz o u)
theorem Grow.refl(m:List Addr)(H:Hp):Grow m H H:=⟨fun _ _ _ h=>h,fun _ _ h=>h,fun _ _ _ h=>h⟩
theorem Grow.trans{m:List Addr}{H H1 H2:Hp}(a:Grow m H H1)(b:Grow m H1 H2):Grow m H H2 :=
 ⟨fun c o n h=>b.keep c o n (a.keep c o n h),fun c xs h=>b.tup c xs (a.tup c xs h),fun c o u h=>b.frz c o u (a.frz c o u h)⟩
theorem Grow.new{m:List Addr}{H:Hp}{p:Addr}(h:H p=none)(o:HO):Grow m H (upd H p o) :=
 ⟨fun b u _ q=>by rw[zB (zF q h)];exact q,fun b xs q=>by rw[zB (zF q h)];exact q,fun b u v q=>by rw[zB (zF q h)];exact q⟩
theorem Grow.set{m:List Addr}{H:Hp}{p:Addr}{xs:List V}(h:H p=some (.lst xs))(hm:p∈m)(ys:List V):Grow m H (upd H p (.lst ys)) :=
 ⟨fun b u hb q=>by rw[zB (show b≠p from fun z=>hb (by rw[z];exact hm))];exact q,fun b zs q=>by rw[zB (fun z=>by subst z;rw[h] at q;cases q)];exact q,fun b u v q=>by rw[zB (fun z=>by subst z;rw[h] at q;cases q)];exact q⟩
theorem Grow.mono{m m':List Addr}{H H':Hp}(a:Grow m H H')(h:∀b∈m,b∈m'):Grow m' H H':=⟨fun b o n q=>a.keep b o (fun z=>n (h b z)) q,a.tup,a.frz⟩
theorem Grow.sqT{m:List Addr}{H H':Hp}(g:Grow m H H'){K:FG7}{a:Addr}{xs:List V}(h:SqT K H a xs):SqT K H' a xs:=by
 rcases h with (h|⟨o,h⟩)|h
 ·exact .inl (.inl (g.tup _ _ h))
 ·exact .inl (.inr ⟨o,g.frz _ _ _ h⟩)
 ·exact .inr h
theorem Grow.free{H H':Hp}{m:List Addr}(g:Grow m H H'){l:Addr}(hm:l∉m)(h:H' l=none):H l=none:=by
 cases q:H l with
 |none=>rfl
 |some o=>rw[g.keep l o hm q] at h;cases h
def Scr(K:FG7)(H:Hp)(a:Addr)(ns:List Int):Prop :=
 (∃o,H a=some (.frz o (.lst (ns.map V.int))))∨
  ∃(o:Obj) (its:Array Value) (n:Nat),K.lookup a=some o/\o.cls=.type "list" /\o.dict=none/\o.data=.seq its n/\its.size<=sizeLine/\zZ (ns.map V.int) its.toList
theorem Scr.sq{K:FG7}{H:Hp}{a:Addr}{ns:List Int}(h:Scr K H a ns):SqL K H a (ns.map V.int):=by
 rcases h with ⟨o,h⟩|h
 ·exact .inl (.inr ⟨o,h⟩)
 ·exact .inr h
theorem Scr.of{K:FG7}{H:Hp}{a:Addr}{ns:List Int}(hO:Jy H)(h:SqL K H a (ns.map V.int)):Scr K H a ns:=by
 rcases h with (h|⟨o,h⟩)|h
 ·rcases hO a with z|⟨o,xs,z⟩
  ·rw[h] at z;cases z
  ·rw[h] at z;cases z
 ·exact .inl ⟨o,h⟩
 ·exact .inr h
theorem Grow.scr{m:List Addr}{H H':Hp}(g:Grow m H H'){K:FG7}{a:Addr}{ns:List Int}(h:Scr K H a ns):Scr K H' a ns:=by
 rcases h with ⟨o,h⟩|h
 ·exact .inl ⟨o,g.frz _ _ _ h⟩
 ·exact .inr h
section
variable{prog:Program}{w:World}{A:Around}{R:Result->Shared->Prop}{s:Shared}
theorem W8{om ny iter:Expr}{mI:List Expr}{scope:Scope}{pos:Pos}{it mG:Value}{env:Env}(I:Nat->Shared->Prop)
  (m4:∀n s,I n s->wpAny (model prog w) A (pyNext it) (fun r s₁=>match r with
   |none=>R (.ok .next) s₁
   |some v=>wpAny (model prog w) A (fo ny it v) (fun _ s₂=>wpAny (model prog w) A (i5 ny env v) (fun _ s₃ =>
     wpAny (model prog w) A (forIn mI true fun c r=>if r=true then do let ok←lR c env (eval c env);pure (ForInStep.yield ok) else pure (ForInStep.yield r)) (fun ok s₄ =>
      if ok=true then wpAny (model prog w) A (eval om env) (fun x s₅ =>
       wpAny (model prog w) A (call (.builtin "list.append") [mG,x]) (fun _ s₆=>∃m,m<n/\I m s₆) (fun _ _=>False) s₅) (fun _ _=>False) s₄
      else ∃m,m<n/\I m s₄) (fun _ _=>False) s₃) (fun _ _=>False) s₂) (fun _ _=>False) s₁) (fun _ _=>False) s)
  (n:Nat) (h:I n s) :
  codeAny (model prog w) A (.compLoop (.ListComp om [⟨ny,iter,mI,0⟩] scope pos) 0 it mG env) R s:=by
 refine codeAny_loop rfl I (fun n s hI=>?_) n h;show wpAny _ A ((compTurn (.ListComp om [⟨ny,iter,mI,0⟩] scope pos) 0 it mG env).onRaise (fun x=>do noteFrame x env;theTreesLotGoes x)) _ _ s;refine wpAny_noted ?_;rw[compTurn_list];have no:∀(E:VS7) (e:Value) (s:Shared),(fun(_:Value) (_:Shared)=>False) e s->E e s:=fun _ _ _ f=>f.elim;refine aA (eF (aA (cB (m4 n s hI) (fun r s₁ h₁=>?_) (no _))));cases r with
 |none=>exact aF h₁
 |some v =>
  refine aA (cB h₁ (fun _ s₂ h₂=>?_) (no _));refine aA (cB h₂ (fun _ s₃ h₃=>aA (cB h₃ (fun ok s₄ h₄=>?_) (no _))) (no _));cases ok with
  |true =>
   simp only[if_true] at h₄ ⊢;exact aA (aA (cB h₄ (fun x s₅ h₅=>aA (cB h₅ (fun _ s₆ h₆=>aF (aF ⟨rfl,h₆⟩)) (no _))) (no _)))
  |false =>
   simp only[cY,if_false] at h₄ ⊢;first
    |exact aA (aF (aF ⟨rfl,h₄⟩))
    |exact aF ⟨rfl,h₄⟩
end
theorem XM{scope:Scope}{env:Env}(pI:∀y∈scope.names,y.2=.free->∃c,env.cells.lookup y.1=some c) :
  ∃cl,closureFor scope env=pure cl/\(∀x c,cl.lookup x=some c->env.cells.lookup x=some c)/\∀y∈scope.names,y.2=.free->∃c,cl.lookup y.1=some c:=by
 have mL:∀(l:List (Str×NameKind)) (cs:List (Str×Addr)),(∀y∈l,y.2=.free->∃c,env.cells.lookup y.1=some c)->(∀x c,cs.lookup x=some c->env.cells.lookup x=some c)→
   ∃cl,(forIn l cs (fun(x:Str×NameKind) r=>do if x.2 == .free then do let c←cellOf env x.1;pure (ForInStep.yield ((x.1,c)::r)) else pure (ForInStep.yield r)):Sem (List (Str×Addr)))=pure cl∧
    (∀x c,cl.lookup x=some c->env.cells.lookup x=some c)/\(∀y∈l,y.2=.free->∃c,cl.lookup y.1=some c)/\∀x c,cs.lookup x=some c->∃c',cl.lookup x=some c':=by
  intro l;induction l with
  |nil=>intro cs _ h2;exact⟨cs,rfl,h2,fun y hy=>absurd hy (by simp),fun x c h=>⟨c,h⟩⟩
  |cons y r ih =>
   intro cs h1 h2;obtain⟨n,k⟩:=y;by_cases hk:k=.free
   ·subst hk;obtain⟨c,hc⟩:=h1 (n,.free) (by simp) rfl;have Df:env.cells.lookup n=some c:=hc;have e0:cellOf env n=pure c:=by unfold cellOf;rw[Df]
    obtain⟨cl,e,p1,p2,p3⟩:=ih ((n,c)::cs) (fun z hz=>h1 z (aK _ hz)) (fun x d h=>by
     by_cases hx:x=n
     ·subst hx;rw[iS] at h;cases h;exact Df
     ·rw[dD,beq_eq_false_iff_ne.mpr hx] at h;exact h2 x d h)
    refine⟨cl,?_,p1,fun z hz=>?_,fun x d h=>?_⟩
    ·rw[List.forIn_cons];simp only[beq_self_eq_true,if_true,e0,pure_bind]
     exact e
    ·rcases aS.mp hz with rfl|hz
     ·intro _;exact p3 n c iS
     ·exact p2 z hz
    ·by_cases hx:x=n
     ·subst hx;exact p3 x c iS
     ·exact p3 x d (by rw[dD,beq_eq_false_iff_ne.mpr hx];exact h)
   ·have hb:(k == NameKind.free)=false:=beq_eq_false_iff_ne.mpr hk;obtain⟨cl,e,p1,p2,p3⟩:=ih cs (fun z hz=>h1 z (aK _ hz)) h2;refine⟨cl,?_,p1,fun z hz=>?_,p3⟩
    ·rw[List.forIn_cons];simp only[hb,cY,if_false,pure_bind]
     exact e
    ·rcases aS.mp hz with rfl|hz
     ·intro h;exact absurd h hk
     ·exact p2 z hz
 obtain⟨cl,e,p1,p2,_⟩:=mL scope.names [] pI (fun x c h=>by cases h);refine⟨cl,?_,p1,p2⟩;unfold closureFor;first
  | (rw[show(forIn scope.names [] _:Sem (List (Str×Addr)))=pure cl from e];rfl)
  | (simp only[bind_pure];exact e)
  |exact e
noncomputable def UG(X:Cx)(mI:List Expr)(t:TT):Prop :=
 ∀(mw:List (Addr×Obj)) (s:Shared) (σ:L2.St) (H:Hp) (Q:Bool->Hp->Prop),Inv X mw σ H s->t σ H Q→
  wpAny (model X.prog X.w) X.A (forIn mI true fun c r=>if r=true then do let ok←lR c X.env (eval c X.env);pure (ForInStep.yield ok) else pure (ForInStep.yield r)) (TP X mw σ Q) X.xe s
def W9:TT:=fun _ H Q=>Q true H
theorem xc{X:Cx}:UG X [] W9:=fun mw s σ H Q I h=>aF ⟨H,I,h⟩
theorem UY{X:Cx}{c:Expr}{t:TT}(hc:PT X c t):UG X [c] t:=fun mw s σ H Q I h=>wpAny_tests_one (hc mw s σ H Q I h)
noncomputable abbrev cxC(X:Cx)(N':List Str)(scope:Scope)(cl:List (Str×Addr))(C D:Addr)(fp:List Addr)(s:Shared)(H:Hp):Cx :=
 { X with N:=N',s₀:=s,H₀:=H,env:=compEnvC scope cl C X.env,outer:=X.stack,ex:=D::fp,fn:=fun _=>false,xe:=fun _ _=>False }
noncomputable def UH(sub:List (Option Nat))(σ:L2.St):L2.St:=sub.map fun o=>match o with
 |none=>none
 |some i=>(match σ[i]? with|some v=>v|none=>none)
noncomputable def jL(J:It)(σ0:L2.St)(H1:Hp)(g:TG)(tt:TT)(te:TE)(Q:VK):Prop :=
 ∃W:Nat->Nat->List V->L2.St->Hp->Prop,(∃m,W 0 m [] σ0 H1)/\∀i m ys σ' H',W i m ys σ' H'→
  (J.stop i H'/\∀l,H' l=none->Q (.ref l) (upd H' l (.lst ys)))∨
  (J.go i H'/\∃Nn:List V->L2.St->Hp->Prop,(∀zs σ2 H2,Nn zs σ2 H2->∃m',m'<m/\W (i+1) m' zs σ2 H2)∧
   ∀x H2,J.yld i H' x H2->g x σ' H2 fun σ2 H3=>tt σ2 H3 fun b H4=>if b=true then te σ2 H4 fun y H5=>ys.length<sizeLine/\Nn (ys++[y]) σ2 H5 else Nn ys σ2 H4)
def QI(wi:TI)(sub:List (Option Nat))(g:TG)(tt:TT)(te:TE):TE:=fun σ H Q=>wi σ H fun J H1=>jL J (UH sub σ) H1 g tt te Q
structure CSc(X:Cx)(scope:Scope)(N':List Str)(sub:List (Option Nat)):Prop where
 free:∀y∈scope.names,y.2=.free->X.env.kindOf y.1=some .cell
 nocell:∀y∈scope.names,y.2≠.cell
 kind:scope.kind=.function
 names:∀y∈scope.names,y.2=.local->scope.names.lookup y.1=some .local
 len:sub.length=N'.length
 cap:∀(j:Nat) (y:Str) (i:Nat),N'[j]?=some y->sub[j]?=some (some i)->X.N[i]?=some y/\X.env.scope.names.lookup y=some .cell/\scope.names.lookup y=some .free
theorem HOk.track{P:Program}{w:World}{H:Hp}{h:Heap}{a:Addr}{o:HO}(x:HOk P w H h)(hn:H a=none)(new:yf P w (upd H a o) h a o):HOk P w (upd H a o) h:=fun b u e=>by
 by_cases hb:b=a
 ·subst hb;rw[zd] at e;cases e;exact new
 ·rw[zB hb] at e;exact(x b u e).stay (fun c v _ q=>q) (fun c q=>by rw[zB (zF q hn)];exact q) fun c xs q=>by rw[zB (zF q hn)];exact q
theorem va{scope:Scope}{env:Env}{y:Str}{k:NameKind}(h:(relabel scope env).names.lookup y=some k) :
  ∃k',scope.names.lookup y=some k'/\(k=k'\/(k=.cell/\k'=.free)):=by
 have mL:∀l:List (Str×NameKind),(l.map fun(n,k)=>if(k == NameKind.free && env.scope.kind == .function && env.kindOf n == some .cell) then(n,NameKind.cell) else(n,k)).lookup y=some k→
   ∃k',l.lookup y=some k'/\(k=k'\/(k=.cell/\k'=.free)):=by
  intro l;induction l with
  |nil=>intro h;cases h
  |cons p r ih =>
   obtain⟨n,k0⟩:=p;intro h;rw[cX] at h;by_cases hc:(k0 == NameKind.free && env.scope.kind == .function && env.kindOf n == some .cell)=true
   ·have hf:k0=.free:=by
     simp only[cE,beq_iff_eq] at hc;exact hc.1.1
    dsimp only at h;rw[if_pos hc,dD] at h;rw[dD];cases hx:y == n with
    |true=>rw[hx] at h;cases h;exact⟨k0,rfl,.inr ⟨rfl,hf⟩⟩
    |false=>rw[hx] at h;exact ih h
   ·dsimp only at h;rw[if_neg hc,dD] at h;rw[dD];cases hx:y == n with
    |true=>rw[hx] at h;cases h;exact⟨_,rfl,.inl rfl⟩
    |false=>rw[hx] at h;exact ih h
 exact mL scope.names h
theorem jM{scope:Scope}{env:Env}{y:Str}(hk:env.scope.kind=.function)(hc:env.kindOf y=some .cell)(h:scope.names.lookup y=some .free):(relabel scope env).names.lookup y=some .cell:=by
 have mL:∀l:List (Str×NameKind),l.lookup y=some .free->(l.map fun(n,k)=>if(k == NameKind.free && env.scope.kind == .function && env.kindOf n == some .cell) then(n,NameKind.cell) else(n,k)).lookup y=some .cell:=by
  intro l;induction l with
  |nil=>intro h;cases h
  |cons p r ih =>
   obtain⟨n,k0⟩:=p;intro h;rw[cX];rw[dD] at h;dsimp only
   cases hx:y == n with
   |true =>
    rw[hx] at h;cases h;have e:y=n:=by simpa using hx
    subst e;rw[if_pos (by simp[hk,hc]),dD,hx]
   |false =>
    rw[hx] at h;by_cases Aq:(k0 == NameKind.free && env.scope.kind == .function && env.kindOf n == some .cell)=true
    ·rw[if_pos Aq,dD,hx];exact ih h
    ·rw[if_neg Aq,dD,hx];exact ih h
 exact mL scope.names h
section
variable{X:Cx}{mw:List (Addr×Obj)}{σ:L2.St}{H2:Hp}{s₂:Shared}{it:Addr}{fp:List Addr}{tn:Nat->Heap->Prop}{J:It}{scope:Scope}{cl:List (Str×Addr)}{N':List Str}{sub:List (Option Nat)}
theorem rH{h₁:Heap}{tk:Nat}(I:Inv X mw σ H2 s₂)(S:CSc X scope N' sub)(mM:∀x c,cl.lookup x=some c->X.env.cells.lookup x=some c)(nB:∀y∈scope.names,y.2=.free->∃c,cl.lookup y.1=some c)
    (f2:∀b∈fp,vz X mw H2 b) (ph:∀b∈fp,b<s₂.heap.objs.size) {m:Str->Option Value} {ob:Obj}
    (BF:h₁.Ns (s₂.heap.objs.size+1) m) (hk:∀b o,(s₂.heap.push ob).get? b=some o->h₁.get? b=some o) :
    Inv (cxC X N' scope cl (s₂.heap.objs.size+1) s₂.heap.objs.size fp { s₂ with heap:=s₂.heap.push ob } H2) mw (UH sub σ) H2 { s₂ with heap:=h₁,toks:=tk }:=by
  have old:∀b o,s₂.heap.get? b=some o->(s₂.heap.push ob).get? b=some o:=fun b o e=>aD _ e;have Bc:∀b o,s₂.heap.get? b=some o->h₁.get? b=some o:=fun b o e=>hk b o (old b o e);have sz:(s₂.heap.push ob).objs.size=s₂.heap.objs.size+1:=dQ ..;have cells:∀x c,cl.lookup x=some c->c<s₂.heap.objs.size:=fun x c e=>let ⟨v,q⟩:=I.cell x c (mM x c e);q.lt
  have has:∀x,((relabel scope X.env).names.lookup x=some .cell\/(relabel scope X.env).names.lookup x=some .free)->∃c,cl.lookup x=some c:=fun x hx=>by
    rcases hx with hx|hx
    · obtain⟨k',e,z⟩:=va hx
      rcases z with z|⟨_,z⟩
      · subst z;exact absurd rfl (S.nocell _ (dI e))
      · subst z;exact nB _ (dI e) rfl
    · obtain⟨k',e,z⟩:=va hx
      rcases z with z|⟨z,_⟩
      · subst z;exact nB _ (dI e) rfl
      · cases z
  have pS:∀b∈frs X.stack,b<s₂.heap.objs.size:=fun b hb=>by
    rcases aS.mp (I.stkSub b hb) with z|z
    · rw[z];exact I.lt
    · exact kZ fun q=>I.nofs q z
  refine
    { ok :=
      { mod:=I.ok.mod,kind:=S.kind,glob:=I.ok.glob,blt:=I.ok.blt
        above:=by show(s₂.heap.push ob).objs.size<=s₂.heap.objs.size+1;rw[sz];exact aE _
        inj:=fun x y c h1 h2=>I.ok.inj x y c (mM x c h1) (mM y c h2)
        has:=has
        cab:=fun x c z=>by cases z
        hd:=I.ok.hd,frames:=I.ok.frames,stk:=.inl rfl
        exf:=fun b hb=>?exf
        bs:=fun b o e=>⟨old b o (I.bk b o e),(I.bs b o e).2⟩
        bsz:=by show X.base.objs.size<=(s₂.heap.push ob).objs.size;rw[sz];exact gJ (bM I.ok.bsz I.sz)
        noex:=fun b o e hb=>?noex
        exfs:=fun b hb=>?exfs
        funs:=?funs
        frf:=I.stkFree }
      os:=rfl,bare:=I.bare,base:=Un.kept fun b u e=>hk b u e
      loc:=⟨m,BF,?loc⟩
      cell:=fun x c e=>?cell
      free:=I.hok.fresh (eB _)
      freeC:=fun x c e=>I.freeC x c (mM x c e)
      pin:=fun p hp=>?pin
      hok:=I.hok.kept Bc
      len:=?len }
  case exf =>
    rcases aS.mp hb with rfl|hb
    · exact⟨aT (cS _),fun x c e=>aT (cells x c e)⟩
    · exact⟨aT (eC (ph b hb)),fun x c e=>(f2 b hb).2.2.2.2.1 x c (mM x c e)⟩
  case noex =>
    have hl:b<X.s₀.heap.objs.size:=aN (aQ e) I.ok.bsz;rcases aS.mp hb with rfl|hb
    · exact absurd (aN hl I.sz) (cV _)
    · rcases(f2 b hb).2.2.2.1 with z|z
      · exact I.ok.noex b o e z
      · exact absurd (aN hl z) (cV _)
  case exfs =>
    intro hs;rcases aS.mp hb with rfl|hb
    · exact absurd (pS _ hs) (cV _)
    · rcases aS.mp (I.stkSub b hs) with z|z
      · exact(f2 b hb).2.1 z
      · exact(f2 b hb).2.2.1 z
  case funs=>exact Heap.FunFrames.of_keeps (fun b o e _=>⟨o,old b o e,rfl⟩) I.stack
  case loc =>
    intro j y v hj hv hvis;obtain⟨mX,_,lX⟩:=I.loc;unfold UH at hv;rw[bN] at hv;cases hs:sub[j]? with
    |none=>rw[hs] at hv;cases hv
    |some o =>
      rw[hs] at hv;cases o with
      |none=>cases hv
      |some i =>
        obtain⟨hN,hc,hf⟩:=S.cap j y i hj hs;have Dh:σ[i]?=some (some v):=by
          have z:(match σ[i]? with|some v=>v|none=>none)=some v:=bH hv;cases q:σ[i]? with
          |none=>rw[q] at z;cases z
          |some w=>rw[q] at z;rw[show w=some v from z]
        obtain⟨u,ru,hl⟩:=lX i y v hN Dh (.inr (.inl hc));refine⟨u,ru,?_⟩;have kc:(relabel scope X.env).names.lookup y=some .cell:=jM I.ok.kind hc hf;rcases hl with ⟨z,_⟩|⟨_,c,e,ic⟩
        · have z':X.env.scope.names.lookup y=some .local :=z
          rw[hc] at z';cases z'
        · obtain⟨c',e'⟩:=nB _ (dI hf) rfl
          have:=mM _ _ e';rw[e] at this;cases this;refine .inr ⟨.inl kc,c,e',?_⟩;obtain⟨oc,h1,h2⟩:=ic;exact⟨oc,Bc _ _ h1,h2⟩
  case cell =>
    obtain⟨v,oc,h1,h2⟩:=I.cell x c (mM x c e);exact⟨v,oc,Bc _ _ h1,h2⟩
  case pin =>
    obtain⟨p1,p2,p3,p4,p5⟩:=I.pin p hp;refine⟨Bc _ _ p1,p2,aT (eC (aQ p1)),fun hs=>?_,p5⟩;rcases aS.mp (I.stkSub _ hs) with z|z
    · exact p3 z
    · exact p4 z
  case len =>
    show(UH sub σ).length=N'.length;unfold UH;rw[aG];exact S.len
theorem UZ{C D:Addr}{s₀:Shared}{s':Shared}{σ':L2.St}{H':Hp}{ys:List V}{us:List Value}{k:Nat}{oC:Obj}(I:Inv X mw σ H2 s₂)
    (mY:∀b o,s₂.heap.get? b=some o->s₀.heap.get? b=some o) (pf:s₀.os=s₂.os) (hD:s₂.heap.objs.size<=D) (hC:s₂.heap.objs.size<=C) (Au:D≠C) (f2:∀b∈fp,vz X mw H2 b)
    (I':Inv (cxC X N' scope cl C D fp s₀ H2) mw σ' H' s') (hn:H' D=none) (hy:s'.heap.get? D=some { cls:=.type "list",data:=.seq us.toArray k }) (rv:zZ ys us) (hz:ys.length<=sizeLine)
    (ho:s'.heap.get? C=some oC) (hd:∀v,oC.data≠.cell v):Inv X (mw++[(C,oC)]) σ (upd H' D (.lst ys)) s'/\vz X mw (upd H' D (.lst ys)) C:=by
  have Dy:∀b o,s₂.heap.get? b=some o->b≠D:=fun b o e=>aT (aN (aQ e) hD);have nm:∀b o,s₂.heap.get? b=some o->b∉fp->b∉D::fp:=fun b o e h z=>(aS.mp z).elim (Dy b o e) h;have U:=I'.base;have HC:upd H' D (.lst ys) C=none:=by rw[zB (Ne.symm Au)];exact I'.free
  have nv:vz X mw (upd H' D (.lst ys)) C:=I.fpOk hC HC;have un:Un (frs X.stack) fp H2 (upd H' D (.lst ys)) s₂.heap s'.heap :=
    { keep:=fun b o e n h1 h2=>U.keep b o (mY b o e) n h1 (nm b o e h2)
      slot:=fun b o e n h1 h2=>U.slot b o (mY b o e) n h1 (nm b o e h2)
      free:=fun b o e n h2=>by rw[zB (Dy b o e)];exact U.free b o (mY b o e) n (nm b o e h2)
      there:=fun b o e h2=>U.there b o (mY b o e) (nm b o e h2)
      tups:=fun b xs e=>by have z:=U.tups b xs e;rw[zB (zF z hn)];exact z
      frzs:=fun b o u e=>by have z:=U.frzs b o u e;rw[zB (zF z hn)];exact z
      tbls:=fun b ps e=>by obtain⟨more,z⟩:=U.tbls b ps e;exact⟨more,by rw[zB (zF z hn)];exact z⟩ }
  have hok:HOk X.prog X.w (upd H' D (.lst ys)) s'.heap:=HOk.track I'.hok hn ⟨hz,us,k,rv,hy⟩;have IX:Inv X mw σ (upd H' D (.lst ys)) s':=I.call' (I'.os.trans pf) un hok I'.bare fun b hb=>⟨(f2 b hb).2.2.2.1,(f2 b hb).2.1,(f2 b hb).2.2.2.2.1,(f2 b hb).2.2.2.2.2⟩
  refine⟨IX.pins_of fun p hp=>?_,nv⟩;rcases aP.mp hp with hp|hp
  · exact IX.pin p (aM _ hp)
  · rw[aB.mp hp]
    exact⟨ho,HC,nv.2.1,nv.2.2.1,hd⟩
end
section
variable{X:Cx}{scope:Scope}{N':List Str}{sub:List (Option Nat)}{x:Str}{px pos:Pos}{om iter:Expr}{mI:List Expr}{wi:TI}{g:TG}{tt:TT}{te:TE}
theorem CSc.clos{mw:List (Addr×Obj)}{σ:L2.St}{H:Hp}{s:Shared}(S:CSc X scope N' sub)(I:Inv X mw σ H s):∃cl,closureFor scope X.env=pure cl/\(∀x c,cl.lookup x=some c->X.env.cells.lookup x=some c)/\∀y∈scope.names,y.2=.free->∃c,cl.lookup y.1=some c :=
 XM fun y hy hf=>I.ok.has y.1 (.inl (S.free y hy hf))
end
structure Blt(mg:Str->Option Value):Prop where
 abs:mg "abs" = none
 len:mg "len" = none
 max:mg "max" = none
 min:mg "min" = none
 divmod:mg "divmod" = none
 repr:mg "repr" = none
 isinstance:mg "isinstance" = none
 all:mg "all" = none
 range:mg "range" = none
 int:mg "int" = none
 bool:mg "bool" = none
 str:mg "str" = none
 tuple:mg "tuple" = none
 list:mg "list" = none
 dict:mg "dict" = none
def sp1(b:V->Hp->VK->Prop):Sp:=fun vs H Q _=>∃x,vs=[x]/\b x H Q
def sp2(b:V->V->Hp->VK->Prop):Sp:=fun vs H Q _=>∃x y,vs=[x,y]/\b x y H Q
def sp3(b:V->V->V->Hp->VK->Prop):Sp:=fun vs H Q _=>∃x y z,vs=[x,y,z]/\b x y z H Q
theorem yT{b:V->Hp->VK->Prop}{p:Str}:∀vs H Q E,sp1 b vs H Q E->vs.length=[p].length:=fun vs H Q E h=>by
 obtain⟨x,rfl,_⟩:=h;rfl
theorem yw{b:V->V->Hp->VK->Prop}{p q:Str}:∀vs H Q E,sp2 b vs H Q E->vs.length=[p,q].length:=fun vs H Q E h=>by
 obtain⟨x,y,rfl,_⟩:=h;rfl
theorem xY{b:V->V->V->Hp->VK->Prop}{p q r:Str}:∀vs H Q E,sp3 b vs H Q E->vs.length=[p,q,r].length:=fun vs H Q E h=>by
 obtain⟨x,y,z,rfl,_⟩:=h;rfl
noncomputable def jN:V->Bool
 |.int _=>true
 |_=>false
noncomputable def XN:V->Bool
 |.non=>true
 |.int _=>true
 |_=>false
def Kn(K:FG7)(H:Hp)(x:V):Prop:=∃T,TyV K H x T
structure Deed where
 add:Int
 lo:Option Int
 hi:Option Int
 deriving DecidableEq
noncomputable def ov:Option Int->V
 |none=>.non
 |some i=>.int i
noncomputable def Deed.vs(d:Deed):List V:=[.int d.add,ov d.lo,ov d.hi]
def Deed.Ok(d:Deed):Prop:=∀l h,d.lo=some l->d.hi=some h->l<h\/(l=h/\d.add=0)
noncomputable def z9(lo:Option Int)(r:Int):Int:=match lo with
 |none=>r
 |some l=>if l>r then l else r
noncomputable def yg(hi:Option Int)(r:Int):Int:=match hi with
 |none=>r
 |some h=>if h<r then h else r
noncomputable def Deed.mk'(d:Deed)(v:Int):Int:=yg d.hi (z9 d.lo (v+d.add))
noncomputable def zbh:V->V->V->Bool
 |.int a,.int l,.int h=>decide (l<h) || (decide (l=h) && decide (a=0))
 |_,_,_=>true
noncomputable def uq:List V->Bool
 |[x,y,z]=>jN x && (XN y && (XN z && zbh x y z))
 |_=>false
theorem XO{d:Deed}(h:d.Ok):uq d.vs=true:=by
 obtain⟨a,lo,hi⟩:=d;cases lo with
 |none=>cases hi <;> rfl
 |some l =>
  cases hi with
  |none=>rfl
  |some u =>
   have:=h l u rfl rfl;show(decide (l<u) || (decide (l=u) && decide (a=0)))=true;rcases this with q|⟨q,q2⟩
   ·simp[q]
   ·have q2':a=0:=q2;simp[q,q2']
theorem Va{x:V}(h:jN x=true):∃i,x=.int i:=by
 cases x <;> first|exact⟨_,rfl⟩|cases h
theorem Sg{x:V}(h:XN x=true):∃o,x=ov o:=by
 cases x <;> first|exact⟨none,rfl⟩|exact⟨some _,rfl⟩|cases h
theorem zbi{xs:List V}(h:xs.length=3):∃x y z,xs=[x,y,z]:=by
 match xs,h with
 |[x,y,z],_=>exact⟨x,y,z,rfl⟩
theorem Z7{xs:List V}(h:xs.length≠3):uq xs=false:=by
 match xs,h with
 |[],_=>rfl
 |[_],_=>rfl
 |[_,_],_=>rfl
 |[_,_,_],h=>exact absurd rfl h
 |_::_::_::_::_,_=>rfl
def YY(K:FG7)(H:Hp)(x:V)(d:Deed):Prop:=∃a,x=.ref a/\SqT K H a d.vs
theorem YZ{K:FG7}{H:Hp}{i:Int}:Kn K H (.int i):=⟨"int",rfl⟩
theorem QJ{K:FG7}{H:Hp}:Kn K H .non:=⟨"NoneType",rfl⟩
theorem QK{K:FG7}{H:Hp}(o:Option Int):Kn K H (ov o):=by cases o;exact QJ;exact YZ
def xE(K:FG7):Sp:=sp1 fun x H Q=>Kn K H x/\Q (.bl (jN x)) H
def jO(K:FG7):Sp:=sp1 fun x H Q=>Kn K H x/\Q (.bl (XN x)) H
def rJ(K:FG7):Sp:=sp1 fun x H Q=>(∃T,T≠"tuple" /\TyV K H x T/\Q (.bl false) H)\/∃a xs,x=.ref a/\SqT K H a xs/\(∀y∈xs,Kn K H y)/\Q (.bl (uq xs)) H
def tN(K:FG7):Sp:=sp2 fun x y H Q=>∃d v,YY K H x d/\y=.int v/\Q (.int (d.mk' v)) H
def Pot(H:Hp)(a:Addr):Prop:=∃p0 p1:Int,H a=some (.lst [.int p0,.int p1])/\0<=p0
def Sm(n:Int):Prop:=-(10 ^ 30)<n/\n<10 ^ 30
def Si(K:FG7):Sp:=sp2 fun x y H Q=>∃a ns k,x=.ref a/\y=.int k/\Scr K H a ns/\0<=k/\k<1000/\∀p H',H p=none->Grow [] H H'->Pot H' p->Q (.ref p) H'
def ur(_:FG7):Sp:=sp2 fun x y H Q=>∃a m,x=.ref a/\y=.int m/\Pot H a/\0<m/\m<2 ^ 200/\∀n H',0<=n->n<m->Grow [a] H H'->Pot H' a->Q (.int n) H'
def Y0(K:FG7):Sp:=sp1 fun x H Q=>∃a ns,x=.ref a/\Scr K H a ns/\ns.length<=63/\∀H',Q (.bl true) H'
theorem szl{n:Nat}(h:Nat.ble n 1000=true):n<=sizeLine:=cG (zC (Nat.le_of_ble_eq_true h))
theorem Grow.shrink{H H':Hp}{l:Addr}(h:H l=none)(g:Grow [l] H H'):Grow [] H H' :=
 ⟨fun b o _ q=>g.keep b o (fun z=>by rw[aB.mp z] at q;rw[h] at q;cases q) q,g.tup,g.frz⟩
theorem Grow.wk{m:List Addr}{H H':Hp}(g:Grow [] H H'):Grow m H H':=g.mono (by simp)
theorem Pot.grow{H H':Hp}{a:Addr}(p:Pot H a)(g:Grow [] H H'):Pot H' a:=by
 obtain⟨u0,u1,hu,hn⟩:=p;exact⟨u0,u1,g.keep _ _ (by simp) hu,hn⟩
theorem vK{i j:Int}(h2:-(2 ^ 60)<j/\j<2 ^ 60):IntMulOk i j:=PySem.IntMulOk.of_right (bM ((PySem.intBits_le_iff (m:=60)).mpr (by obtain⟨a,b⟩:=h2;omega)) (by decide))
noncomputable def sP:List V->List V->Bool
 |[],[]=>true
 |x::xs,y::ys=>eqV x y && sP xs ys
 |_,_=>false
theorem Y1:∀{xs ys:List V},sP xs ys=true->xs.length=ys.length
 |[],[],_=>rfl
 |x::xs,y::ys,h=>by
  have h':(eqV x y && sP xs ys)=true:=h;rw[cE] at h';simp[Y1 h'.2]
 |[],_::_,h=>by cases h
 |_::_,[],h=>by cases h
theorem Y2:∀{xs ys:List V},sP xs ys=true ↔ xs.length=ys.length/\∀(j:Nat) (x y:V),xs[j]?=some x->ys[j]?=some y->eqV x y=true
 |[],[]=>by simp[sP]
 |x::xs,y::ys=>by
  show(eqV x y && sP xs ys)=true ↔ _;rw[cE,Y2];constructor
  ·rintro⟨h1,h2,h3⟩;refine⟨by simp[h2],fun j a b ha hb=>?_⟩;cases j with
   |zero=>simp at ha hb;subst ha hb;exact h1
   |succ j=>exact h3 j a b (by simpa using ha) (by simpa using hb)
  ·rintro⟨h1,h2⟩;exact⟨h2 0 x y rfl rfl,by simpa using h1,fun j a b ha hb=>h2 (j+1) a b (by simpa using ha) (by simpa using hb)⟩
 |[],_::_=>by simp[sP]
 |_::_,[]=>by simp[sP]
theorem ut{xs ys:List V}:((aR (min xs.length ys.length)).all (fun j=>match xs[j]?,ys[j]? with|some x,some y=>eqV x y|_,_=>true) && xs.length == ys.length)=sP xs ys:=by
 rw[eP,cE,eI,beq_iff_eq,Y2];constructor
 ·rintro⟨h1,h2⟩;refine⟨h2,fun j x y hx hy=>?_⟩;have hj:j<xs.length:=(aZ.mp hx).1;have:=h1 j (aV.mpr (by rw[←h2];simpa using hj));rw[hx,hy] at this;exact this
 ·rintro⟨h1,h2⟩;refine⟨fun j hj=>?_,h1⟩;have pT:=aV.mp hj;have a:j<xs.length:=by omega
  have b:j<ys.length:=by omega
  rw[aH a,aH b];exact h2 j _ _ (aH a) (aH b)
theorem Vb{xs:List V}{us:List Value}(r:zZ xs us)(j:Nat)(h:j<us.length):∃x,xs[j]?=some x/\z8 x us[j]:=by
 have hl:=r.length;have hx:xs[j]?=some xs[j]:=aH (by omega);obtain⟨u,e,q⟩:=r.get hx;rw[aH h] at e;cases e;exact⟨_,hx,q⟩
theorem Vc{A:Around}{s:Shared}{xs ys:List V}{us ws:List Value}(r1:zZ xs us)(r2:zZ ys ws)(f1:xs.all uR=true)(f2:ys.all uR=true) :
  ∀j (h1:j<us.toArray.size) (h2:j<ws.toArray.size),SeqAt.EqAt A s us.toArray[j] ws.toArray[j] ((fun j=>match xs[j]?,ys[j]? with|some x,some y=>eqV x y|_,_=>true) j):=by
 intro j h1 h2;obtain⟨x,ex,qx⟩:=Vb r1 j (by simpa using h1);obtain⟨y,ey,qy⟩:=Vb r2 j (by simpa using h2);have fx:uR x=true:=eI.mp f1 x (bF ex);have fy:uR y=true:=eI.mp f2 y (bF ey);show SeqAt.EqAt A s _ _ (match xs[j]?,ys[j]? with|some x,some y=>eqV x y|_,_=>true);rw[ex,ey];simpa using QD qx qy fx fy
section
variable{X:Cx}
noncomputable def zbj(K:FG7)(Dz:Bool):R2:=fun x y H Q=>∃a b xs ys,x=.ref a/\y=.ref b/\SqT K H a xs/\SqT K H b ys/\xs.all uR=true/\ys.all uR=true/\Q (.bl (if Dz then !sP xs ys else sP xs ys)) H
theorem wN{h:Heap}{a:Addr}{its:Array Value}(t:IsTup h a its):h.IsTuple a its:=t
theorem QL{k:Nat}(hr:Room k X.A):OpR X (eY .Eq) (zbj X.K false):=by
 intro mw s σ H x y v u Q I rx ry h;obtain⟨a,b,xs,ys,rfl,rfl,ha,hb,f1,f2,q⟩:=h;cases rx;cases ry;obtain⟨us,r1,t1,_⟩:=I.tuple ha;obtain⟨ws,r2,t2,_⟩:=I.tuple hb;refine SeqAt.eq_tupleAt (wN t1) (wN t2) hr.units0 (Vc r1 r2 f1 f2) ?_;rw[aO,aO,←r1.length,←r2.length,ut];exact⟨.bl _,H,I,rfl,q⟩
end
section
variable{X:Cx}{pos:Pos}
def JU(i j k:Nat)(ta:TA):TS:=fun D σ H=>ta σ H fun vs H1=>∃v w z,vs=[v,w,z]/\D.nx (((σ.set i (some v)).set j (some w)).set k (some z)) H1
theorem Rj{i j k:Nat}{x y z:Str}{a b c:Expr}{ta:TA}{px py pz pt:Pos}{kt k2 pt2}(hc:X.calm=true)(hN:X.N.Nodup)(hi:X.N[i]?=some x)(hj:X.N[j]?=some y)(hk:X.N[k]?=some z)(nO:i≠j)(DA:i≠k)(hjk:j≠k)
  (hx:X.env.scope.names.lookup x=some .local) (hy:X.env.scope.names.lookup y=some .local) (hz:X.env.scope.names.lookup z=some .local) (ha:PA X [a,b,c] ta)
  (hw:swappedStores [.Tuple [.Name x px,.Name y py,.Name z pz] kt pt] (.Tuple [a,b,c] k2 pt2) X.env=pure (some [x,y,z]))
  (hs:swapsWithSole [.Tuple [.Name x px,.Name y py,.Name z pz] kt pt] (.Tuple [a,b,c] k2 pt2) pos.line X.env=pure false:=by rfl) :
  PS X (.Assign [.Tuple [.Name x px,.Name y py,.Name z pz] kt pt] (.Tuple [a,b,c] k2 pt2) pos) (JU i j k ta):=by
 intro mw s σ H D I h;rw[exec_Assign_arm];refine aA (eF ?_);rw[hs];refine aA (aF ?_);rw[if_neg (by decide)];refine aA (Tuple_ (thn (ha _ mw s σ H _ I h) fun us s1 ⟨vs,H1,I1,r1,q1⟩=>?_));obtain⟨v,w,z',e1,q1⟩:=q1;subst e1;obtain⟨u1,u2,u3,rfl,rv,nQ,rz⟩:∃u1 u2 u3,us=[u1,u2,u3]/\z8 v u1/\z8 w u2/\z8 z' u3:=by
  cases r1 with
  |cons p q =>
   cases q with
   |cons p' q' =>
    cases q' with
    |cons p2 q2 =>
     cases q2;exact⟨_,_,_,rfl,p,p',p2⟩
 refine bS ?_ (by show 3<=sizeLine;decide);have I2:Inv X mw σ H1 { s1 with heap:=s1.heap.push { cls:=.type "tuple",data:=.seq [u1,u2,u3].toArray } }:=I1.kept (t':=s1.toks) fun b o e=>aD _ e;rw[hw];refine aA (aF ?_);show wpAny (model X.prog X.w) X.A (do rule "assign.swapped-stores";let items←unpackItems (.ref s1.heap.objs.size) 3 none;ie [fun v=>iF X.env z v,fun v=>iF X.env y v,fun v=>iF X.env x v] items.reverse;pure Flow.next) _ _ _;refine aA (fO (aA (unpackItems_tuple (items:=#[u1,u2,u3]) (I.ok.hd hc) (IsTup.new s1.heap _) fun h' pe=>?_)));have I3:=I2.kept (h':=h') (t':=s1.toks) fun b o e=>pe b o (aT (aQ e)) e;show wpAny _ _ (ie [fun v=>iF X.env z v,fun v=>iF X.env y v,fun v=>iF X.env x v] [u3,u2,u1] >>= fun _=>pure Flow.next) _ _ _;refine aA (fG (iG (wn I3 hN hk (.inl hz) rz (fun s2 I4=>?_) (.inr hz))));refine fG (iG (wn I4 hN hj (.inl hy) nQ (fun s3 I5=>?_) (.inr hy)));refine fG (iG (wn I5 hN hi (.inl hx) rv (fun s4 I6=>kH (aF ?_)) (.inr hx)));have e:(((σ.set k (some z')).set j (some w)).set i (some v))=(((σ.set i (some v)).set j (some w)).set k (some z')):=by
  rw[kR _ _ (Ne.symm hjk),kR _ _ (Ne.symm DA),kR _ _ (Ne.symm nO)]
 rw[e] at I6;exact⟨_,H1,I6,q1⟩
theorem jP:∀{bs:List Bool} {us:List Value},zZ (bs.map V.bl) us->LSm.BoolsAre us bs
 |[],_,.nil=>.nil
 |b::bs,_,.cons r t=>by
  cases r;exact .cons b (jP t)
theorem tO(mC:X.calm=true):xV X (.builtin "all") (fun xs H Q=>∃(l:Addr) (bs:List Bool),xs=[.ref l]/\SqL X.K H l (bs.map V.bl)/\Q (.bl (bs.all id)) H):=by
 intro mw s σ H xs us Q I r h;obtain⟨l,bs,rfl,hl,q⟩:=h;obtain⟨u,rfl,rx⟩:=wC r;cases(show u=bK l from rx);obtain⟨vs,rv,pl,_⟩:=I.list hl;have pM:s.heap.IsList l vs.toArray:=pl.isList;have hb:LSm.BoolsAre vs bs:=jP rv;have mE:l<s.heap.objs.size:=by obtain⟨_,e,_⟩:=pM;exact aQ e
 refine call_all_walk (fe pM ?_);refine⟨s.heap.objs.size,[s.heap.objs.size,l],[s.heap.objs.size],vs.toArray.size,_,_,fun i=>(bs[i]?).getD true,rfl,Walks.list (A:=X.A.in1) (I.ok.hd mC) _ l (aT mE) vs.toArray,
  ⟨⟨_,aL _ rfl,rfl,rfl⟩,pM.push _⟩,fun i v s' Q' E' hP hQ=>?_,fun h' tk hk=>?_⟩
 ·obtain⟨b,e,rfl⟩:=hb.get i v (by simpa using hP);simp only[e,k9] at hQ;exact cW hQ
 ·have e:((aR vs.toArray.size).all fun i=>(bs[i]?).getD true)=bs.all id:=by
   have my:bs.length=vs.length:=by rw[←rv.length,aG]
   rw[aO,←my,eP,eI,eI];constructor
   ·intro z b BX;obtain⟨i,hi,rfl⟩:=List.getElem_of_mem BX;have:=z i (aV.mpr hi);simpa[aH hi] using this
   ·intro z i hi;have mJ:=aV.mp hi;simpa[aH mJ] using z _ (dX mJ)
  rw[e];exact⟨.bl (bs.all id),H,I.kept (t':=tk) (h':=h') (LSm.kept_iter hk),rfl,q⟩
end
theorem CSc.of{X:Cx}{scope:Scope}{N':List Str}{sub:List (Option Nat)}(sc:Scope)(NN:List Str)(e:X.env.scope=sc)(en:X.N=NN)
  (h:((scope.names.all fun y=>(y.2 != .free ||sc.names.lookup y.1 == some .cell) && (y.2 != .cell) && (y.2 != .local ||scope.names.lookup y.1 == some .local)) && (sub.length == N'.length) &&
   ((N'.zip sub).all fun p=>match p.2 with|none=>true|some i=>NN[i]? == some p.1 && sc.names.lookup p.1 == some .cell && scope.names.lookup p.1 == some .free))=true)
  (hk:scope.kind=.function):CSc X scope N' sub:=by
 rw[cE,cE] at h;obtain⟨⟨h1,h2⟩,h3⟩:=h;have k1:=fun y hy=>eI.mp h1 y hy;refine⟨fun y hy hf=>?_,fun y hy hc=>?_,hk,fun y hy hl=>?_,by simpa using h2,fun j y i hj hs=>?_⟩
 ·have:=k1 y hy;simp only[hf,cE] at this;have z:=this.1.1;show X.env.scope.names.lookup y.1=_;rw[e];simpa using z
 ·have:=k1 y hy;simp only[hc,cE] at this;simp at this
 ·have:=k1 y hy;simp only[hl,cE] at this;simpa using this.2
 ·have hm:(y,some i)∈N'.zip sub:=by
   have:(N'.zip sub)[j]?=some (y,some i):=by
    rw[List.getElem?_zip_eq_some];exact⟨hj,hs⟩
   exact bF this
  have:=eI.mp h3 _ hm;simp only[cE,beq_iff_eq] at this;rw[e,en];exact⟨this.1.1,this.1.2,this.2⟩
noncomputable def uu(a:Int)(lo hi:Option Int):Deed:=if lo≠none/\lo=hi then⟨0,lo,hi⟩ else⟨a,lo,hi⟩
noncomputable def Jz(e:Deed)(o:Option Int)(d:Option Int):Option Int:=match o with
 |none=>d
 |some l=>some (e.mk' l)
noncomputable def uS(d e:Deed):Deed:=uu (d.add+e.add) (Jz e d.lo e.lo) (Jz e d.hi e.hi)
def Deed.Bd(B:Int)(d:Deed):Prop:=(-B<=d.add/\d.add<=B)/\(∀l,d.lo=some l->-B<=l/\l<=B)/\∀h,d.hi=some h->-B<=h/\h<=B
theorem JV(a v:Int):(Deed.mk a none none).mk' v=v+a:=rfl
theorem QM(a l v:Int):(Deed.mk a (some l) none).mk' v=if l>v+a then l else v+a:=rfl
theorem QN(a h v:Int):(Deed.mk a none (some h)).mk' v=if h<v+a then h else v+a:=rfl
theorem Vd(a l h v:Int):(Deed.mk a (some l) (some h)).mk' v=if h<(if l>v+a then l else v+a) then h else(if l>v+a then l else v+a):=rfl
theorem Ve{a l h:Int}(o:Deed.Ok ⟨a,some l,some h⟩):l<h\/(l=h/\a=0):=o l h rfl rfl
theorem Z8{a:Int}{lo hi:Option Int}(h:∀l u,lo=some l->hi=some u->l<=u):(uu a lo hi).Ok:=by
 unfold uu;split
 ·rename_i c;intro l u e1 e2;have Av:lo=some l:=e1;have Aj:hi=some u:=e2;right;refine⟨?_,rfl⟩;have:=c.2;rw[Av,Aj] at this;exact bH this
 ·rename_i c;intro l u e1 e2;have Av:lo=some l:=e1;have Aj:hi=some u:=e2;left;have:=h l u Av Aj;have ne:l≠u:=fun z=>c ⟨by rw[Av];simp,by rw[Av,Aj,z]⟩;omega
theorem Rk{a:Int}{lo hi:Option Int}(v:Int):(uu a lo hi).mk' v=(Deed.mk a lo hi).mk' v:=by
 unfold uu;split
 ·rename_i c;obtain⟨c1,c2⟩:=c;subst c2;cases lo with
  |none=>exact absurd rfl c1
  |some l =>
   rw[Vd,Vd];split <;> split <;> split <;> (try split) <;> omega
 ·rfl
theorem sQ(l r:Int):z9 (some l) r=max l r:=by
 show(if l>r then l else r)=_;split <;> omega
theorem uw(h r:Int):yg (some h) r=min h r:=by
 show(if h<r then h else r)=_;split <;> omega
theorem Sj(r:Int):z9 none r=r:=rfl
theorem Sk(r:Int):yg none r=r:=rfl
theorem Y3{l x y:Int}(h:x<=y):max l x<=max l y:=by omega
theorem Y4{l x y:Int}(h:x<=y):min l x<=min l y:=by omega
theorem tP{d:Deed}{v w:Int}(h:v<=w):d.mk' v<=d.mk' w:=by
 obtain⟨a,lo,hi⟩:=d;have h':v+a<=w+a:=Int.add_le_add_right h a;cases lo with
 |none =>
  cases hi with
  |none=>exact h'
  |some u=>simp only[Deed.mk',uw,Sj];exact Y4 h'
 |some l =>
  cases hi with
  |none=>simp only[Deed.mk',sQ,Sk];exact Y3 h'
  |some u=>simp only[Deed.mk',sQ,uw];exact Y4 (Y3 h')
theorem U0{d e:Deed}(od:d.Ok)(oe:e.Ok):(uS d e).Ok:=by
 refine Z8 fun l u e1 e2=>?_;obtain⟨a,lo,hi⟩:=d;obtain⟨a',nG,mJ⟩:=e;cases lo with
 |none =>
  have Av:nG=some l:=e1;subst Av;cases hi with
  |none =>
   have Aj:mJ=some u:=e2;subst Aj;have:=Ve oe;omega
  |some h =>
   have Aj:(Deed.mk a' (some l) mJ).mk' h=u:=bH e2;subst Aj;cases mJ with
   |none=>rw[QM];split <;> omega
   |some h' =>
    have:=Ve oe;rw[Vd];(repeat' split) <;> omega
 |some l0 =>
  have Av:(Deed.mk a' nG mJ).mk' l0=l:=bH e1;subst Av;cases hi with
  |none =>
   have Aj:mJ=some u:=e2;subst Aj;cases nG with
   |none=>rw[QN];split <;> omega
   |some l' =>
    have:=Ve oe;rw[Vd];(repeat' split) <;> omega
  |some h =>
   have Aj:(Deed.mk a' nG mJ).mk' h=u:=bH e2;subst Aj;have:=Ve od;exact tP (by omega)
theorem Sl{d:Deed}(x y:Int):d.mk' (max x y)=max (d.mk' x) (d.mk' y):=by
 rcases ly x y with h|h
 ·rw[fY h,fY (tP h)]
 ·rw[gC h,gC (tP h)]
theorem Sn{d:Deed}(x y:Int):d.mk' (min x y)=min (d.mk' x) (d.mk' y):=by
 rcases ly x y with h|h
 ·rw[gD h,gD (tP h)]
 ·rw[hJ h,hJ (tP h)]
theorem JW{F m W:Int}(h:m<=F):max F W=max F (max m W):=by omega
theorem JX{F u L:Int}(h:F<=u):min F L=min F (min u L):=by omega
theorem zbk{F u W:Int}(h:F<=u):min u (max F W)=max F (min u W):=by omega
theorem JY{F G C W:Int}(h:C=W\/(W<C/\C<=F)\/(C<W/\F<=C/\G<=C)):min G (max F W)=min G (max F C):=by
 rcases h with rfl|⟨h1,h2⟩|⟨h1,h2,h3⟩
 ·rfl
 ·rw[gC h2,gC (hU (gi h1) h2)]
 ·rw[fY h2,fY (hU h2 (gi h1)),gD h3,gD (hU h3 (gi h1))]
theorem QO{a:Int}{lo hi:Option Int}(o:∀l h,lo=some l->hi=some h->l<=h)(W:Int) :
  yg hi (z9 lo W)=W\/(W<yg hi (z9 lo W)/\∀x,yg hi (z9 lo W)<=(Deed.mk a lo hi).mk' x)\/(yg hi (z9 lo W)<W/\∀x,(Deed.mk a lo hi).mk' x<=yg hi (z9 lo W)):=by
 cases lo with
 |none =>
  cases hi with
  |none=>exact .inl rfl
  |some h =>
   simp only[Deed.mk',uw,Sj]
   rcases ly W h with c|c
   ·exact .inl (hJ c)
   ·rw[gD c];rcases Int.lt_or_eq_of_le c with d|d
    ·exact .inr (.inr ⟨d,fun x=>lL _ _⟩)
    ·exact .inl d
 |some l =>
  cases hi with
  |none =>
   simp only[Deed.mk',sQ,Sk]
   rcases ly l W with c|c
   ·exact .inl (fY c)
   ·rw[gC c];rcases Int.lt_or_eq_of_le c with d|d
    ·exact .inr (.inl ⟨d,fun x=>i6 _ _⟩)
    ·exact .inl d.symm
  |some h =>
   have lh:=o l h rfl rfl;simp only[Deed.mk',sQ,uw]
   rcases Int.lt_or_le W l with c|c
   ·rw[gC (gi c),hJ lh];exact .inr (.inl ⟨c,fun x=>Int.le_min.mpr ⟨lh,i6 _ _⟩⟩)
   ·rw[fY c];rcases Int.lt_or_le h W with d|d
    ·rw[gD (gi d)];exact .inr (.inr ⟨d,fun x=>lL _ _⟩)
    ·exact .inl (hJ d)
theorem U3{d e:Deed}(od:d.Ok)(oe:e.Ok)(v:Int):(uS d e).mk' v=e.mk' (d.mk' v):=by
 unfold uS;rw[Rk];obtain⟨a,lo,hi⟩:=d;obtain⟨a',nG,mJ⟩:=e;have q2:∀l h,nG=some l->mJ=some h->l<=h:=fun l h e1 e2=>by
  subst e1 e2;rcases Ve oe with z|z
  ·exact gi z
  ·exact Int.le_of_eq z.1
 have ew:v+(a+a')=v+a+a':=(Int.add_assoc v a a').symm;have ef:∀w,(Deed.mk a' nG mJ).mk' w=yg mJ (z9 nG (w+a')):=fun _=>rfl;have fu:∀u,mJ=some u->∀w,(Deed.mk a' nG mJ).mk' w<=u:=fun u e w=>by
  rw[ef,e,uw];exact lL _ _
 have fm:∀m,nG=some m->∀w,m<=(Deed.mk a' nG mJ).mk' w:=fun m e w=>by
  rw[ef,e,sQ];cases mJ with
  |none=>exact i6 _ _
  |some h=>rw[uw];exact Int.le_min.mpr ⟨q2 m h e rfl,i6 _ _⟩
 cases lo with
 |none =>
  cases hi with
  |none =>
   show yg mJ (z9 nG (v+(a+a')))=yg mJ (z9 nG (v+a+a'));rw[ew]
  |some h =>
   show yg (some ((Deed.mk a' nG mJ).mk' h)) (z9 nG (v+(a+a')))=(Deed.mk a' nG mJ).mk' (yg (some h) (v+a));rw[uw,uw,Sn,ew,ef (v+a)];cases mJ with
   |none=>rfl
   |some u=>rw[uw u];exact JX (fu u rfl h)
 |some l =>
  cases hi with
  |none =>
   show yg mJ (z9 (some ((Deed.mk a' nG mJ).mk' l)) (v+(a+a')))=(Deed.mk a' nG mJ).mk' (z9 (some l) (v+a));rw[sQ,sQ,Sl,ew,ef (v+a)];have g:max ((Deed.mk a' nG mJ).mk' l) (v+a+a')=max ((Deed.mk a' nG mJ).mk' l) (z9 nG (v+a+a')):=by
    cases nG with
    |none=>rfl
    |some m=>rw[sQ];exact JW (fm m rfl l)
   rw[g];cases mJ with
   |none=>rfl
   |some u=>rw[uw,uw];exact zbk (fu u rfl l)
  |some h =>
   show yg (some ((Deed.mk a' nG mJ).mk' h)) (z9 (some ((Deed.mk a' nG mJ).mk' l)) (v+(a+a')))=(Deed.mk a' nG mJ).mk' (yg (some h) (z9 (some l) (v+a)));rw[uw,sQ,uw,sQ,Sn,Sl,ew,ef (v+a)];refine JY ?_;rcases QO (a:=a') q2 (v+a+a') with z|z|z
   ·exact .inl z
   ·exact .inr (.inl ⟨z.1,z.2 l⟩)
   ·exact .inr (.inr ⟨z.1,z.2 l,z.2 h⟩)
theorem Rl{e:Deed}{B C:Int}(b:e.Bd B)(hB:0<=B){v:Int}(h1:-C<=v)(h2:v<=C)(hC:0<=C):-(B+C)<=e.mk' v/\e.mk' v<=B+C:=by
 obtain⟨a,lo,hi⟩:=e;obtain⟨⟨b1,b2⟩,b3,b4⟩:=b;have b1':-B<=a:=b1;have b2':a<=B:=b2;cases lo with
 |none =>
  cases hi with
  |none=>rw[JV];omega
  |some h=>have:=b4 h rfl;rw[QN];split <;> omega
 |some l =>
  have:=b3 l rfl;cases hi with
  |none=>rw[QM];split <;> omega
  |some h=>have:=b4 h rfl;rw[Vd];(repeat' split) <;> omega
theorem U4{d e:Deed}{B C:Int}(b:d.Bd B)(c:e.Bd C)(hB:0<=B)(hC:0<=C):(uS d e).Bd (B+C):=by
 have mL:Deed.Bd (B+C) ⟨d.add+e.add,Jz e d.lo e.lo,Jz e d.hi e.hi⟩:=by
  obtain⟨a,lo,hi⟩:=d;obtain⟨⟨b1,b2⟩,b3,b4⟩:=b;obtain⟨⟨c1,c2⟩,c3,c4⟩:=id c;have b1':-B<=a:=b1;have b2':a<=B:=b2;refine⟨⟨by show -(B+C)<=a+e.add;omega,by show a+e.add<=B+C;omega⟩,fun l h=>?_,fun l h=>?_⟩
  ·cases lo with
   |none=>have:=c3 l h;omega
   |some x =>
    have h':e.mk' x=l:=bH h;have:=b3 x rfl;have:=Rl (C:=B) (v:=x) c hC (by omega) (by omega) hB;rw[h'] at this;omega
  ·cases hi with
   |none=>have:=c4 l h;omega
   |some x =>
    have h':e.mk' x=l:=bH h;have:=b4 x rfl;have:=Rl (C:=B) (v:=x) c hC (by omega) (by omega) hB;rw[h'] at this;omega
 unfold uS uu;split
 ·exact⟨⟨by show -(B+C)<=0;omega,by show 0<=B+C;omega⟩,mL.2.1,mL.2.2⟩
 ·exact mL
theorem zR{c:Bool}{A B:Prop}(e:c=false)(h:B):if c=true then A else B:=by rw[e];exact xM h
theorem yI{c:Bool}{A B:Prop}(e:c=true)(h:A):if c=true then A else B:=by rw[e];exact vJ h
theorem u5{K:FG7}{a:Addr}{xs:List V}{g:TG}{tt:TT}{te:TE}{Q:VK}{σ:L2.St}{H:Hp}(Pv:Nat->List V->L2.St->Hp->Prop)(h0:Pv 0 [] σ H)(hl:∀i ys σ H,i<=xs.length->Pv i ys σ H->SqT K H a xs)
  (hs:∀i x ys σ H,xs[i]?=some x->Pv i ys σ H->g x σ H fun σ2 H3=>tt σ2 H3 fun b H4=>if b=true then te σ2 H4 fun y H5=>ys.length<sizeLine/\Pv (i+1) (ys++[y]) σ2 H5 else Pv (i+1) ys σ2 H4)
  (hd:∀ys σ H,Pv xs.length ys σ H->∀l,H l=none->Q (.ref l) (upd H l (.lst ys))) :
  jL (Itt K a) σ H g tt te Q:=by
 refine⟨fun i m ys σ H=>m=xs.length-i/\i<=xs.length/\Pv i ys σ H,⟨xs.length,by simp,aX _,h0⟩,?_⟩;rintro i m ys σ H ⟨rfl,hi,p⟩;have q:=hl i ys σ H hi p;by_cases mE:i<xs.length
 ·refine .inr ⟨⟨xs,xs[i],q,by simp[mE]⟩,Pv (i+1),fun zs σ' H' p'=>⟨xs.length-(i+1),by omega,rfl,mE,p'⟩,fun x H' y=>?_⟩;obtain⟨e,y⟩:=y;subst e;exact hs i x ys σ _ (y xs q) p
 ·have e:i=xs.length:=by omega
  subst e;exact .inl ⟨⟨xs,q,aE _⟩,hd ys σ H p⟩
theorem Vf{K:FG7}{a:Addr}{xs:List V}{n:Nat}{te:TE}{Q:VK}{σ:L2.St}{H:Hp}(Pv:Nat->List V->L2.St->Hp->Prop)(h0:Pv 0 [] σ H)(hl:∀i ys σ H,i<=xs.length->Pv i ys σ H->SqT K H a xs)
  (hs:∀i x ys σ H,xs[i]?=some x->Pv i ys σ H->te (σ.set n (some x)) H fun y H5=>ys.length<sizeLine/\Pv (i+1) (ys++[y]) (σ.set n (some x)) H5)
  (hd:∀ys σ H,Pv xs.length ys σ H->∀l,H l=none->Q (.ref l) (upd H l (.lst ys))):jL (Itt K a) σ H (uk n) W9 te Q :=
 u5 Pv h0 hl (fun i x ys σ H hx p=>by
  show if true=true then te (σ.set n (some x)) H (fun y H5=>ys.length<sizeLine/\Pv (i+1) (ys++[y]) (σ.set n (some x)) H5) else Pv (i+1) ys (σ.set n (some x)) H
  rw[if_pos rfl];exact hs i x ys σ H hx p) hd
theorem Vg{X:Cx}{K:FG7}(h:X.K=K):IxR X (zaC K):=by subst h;exact yX
theorem QP{a:Int}{hi:Option Int}:uu a none hi=⟨a,none,hi⟩:=by simp[uu]
theorem QQ{a l:Int}:uu a (some l) (some l)=⟨0,some l,some l⟩:=by simp[uu]
theorem So{a l:Int}{hi:Option Int}(h:some l≠hi):uu a (some l) hi=⟨a,some l,hi⟩:=by simp[uu,h]
def Vh(_:FG7):Sp:=sp3 fun x y z H Q=>∃a lo hi,x=.int a/\y=ov lo/\z=ov hi/\∀t,H t=none->Q (.ref t) (upd H t (.tup (uu a lo hi).vs))
def jQ(K:FG7):Sp:=sp2 fun x y H Q=>∃d e,YY K H x d/\YY K H y e/\∀t,H t=none->Q (.ref t) (upd H t (.tup (uS d e).vs))
section
variable{X:Cx}
noncomputable def zbl(K:FG7)(Dz:Bool):R2:=fun x y H Q=>∃a b xs ys,x=.ref a/\y=.ref b/\SqL K H a xs/\SqL K H b ys/\xs.all uR=true/\ys.all uR=true/\Q (.bl (if Dz then !sP xs ys else sP xs ys)) H
theorem Sq{k:Nat}(hr:Room k X.A):OpR X (eY .NotEq) (zbl X.K true):=by
 intro mw s σ H x y v u Q I rx ry h;obtain⟨a,b,xs,ys,rfl,rfl,ha,hb,f1,f2,q⟩:=h;cases rx;cases ry;obtain⟨us,r1,t1,_⟩:=I.list ha;obtain⟨ws,r2,t2,_⟩:=I.list hb;by_cases hl:us.length=ws.length
 ·refine SeqAt.RcNeAt.lists t1.isList t2.isList (by simpa using hl) hr.units0 (Vc r1 r2 f1 f2) _ _ _ _ ?_;have e:=ut (xs:=xs) (ys:=ys);have e2:(xs.length == ys.length)=true:=by rw[beq_iff_eq,r1.length,r2.length];exact hl
  rw[e2,Bool.and_true,show min xs.length ys.length=xs.length by rw[r1.length,r2.length];omega] at e;rw[aO,←r1.length,e];exact⟨.bl _,H,I,rfl,q⟩
 ·refine SeqAt.RcNeAt.lists_lengths t1.isList t2.isList (by simpa using hl) hr.units0 _ _ _ _ ?_;have e:sP xs ys=false:=by
   cases z:sP xs ys with
   |false=>rfl
   |true=>exact absurd (by rw[←r1.length,←r2.length];exact Y1 z) hl
  rw[e] at q;exact⟨.bl _,H,I,rfl,q⟩
end
theorem Rm{i j:Int}:eqV (.int i) (.int j)=decide (i=j):=by rw[eP];simp[eqV]
theorem wF:∀{xs ys:List Int},sP (xs.map V.int) (ys.map V.int)=decide (xs=ys)
 |[],[]=>rfl
 |x::xs,y::ys=>by
  show(eqV (.int x) (.int y) && sP (xs.map V.int) (ys.map V.int))=_;rw[Rm,wF,eP];simp
 |[],_::_=>by simp[sP]
 |_::_,[]=>by simp[sP]
theorem vL{xs:List Int}:(xs.map V.int).all uR=true:=by
 rw[eI];intro x hx;obtain⟨i,_,rfl⟩:=aW.mp hx;rfl
section
variable{K:FG7}{a:Addr}{xs:List V}{n:Nat}{tt:TT}{te:TE}{Q:VK}{σ:L2.St}{H:Hp}
theorem jR{p:V->Bool}{f:V->V}{i:Nat}{x:V}(hx:xs[i]?=some x):((xs.take (i+1)).filter p).map f=((xs.take i).filter p).map f++(if p x=true then[f x] else[]):=by
 rw[List.take_add_one,hx,eG,bC]
 congr 1
 show((([x]:List V)).filter p).map f=_;by_cases c:p x=true
 ·rw[if_pos c,List.filter_cons_of_pos c];rfl
 ·rw[if_neg c,List.filter_cons_of_neg c];rfl
theorem U5{p:V->Bool}{f:V->V}{i:Nat}(h:xs.length<=1000):(((xs.take i).filter p).map f).length<sizeLine:=by
 rw[aG];refine zC ?_;have:=List.length_filter_le p (xs.take i);have:=List.length_take_le i xs;have:(xs.take i).length<=xs.length:=by rw[dB];omega
 omega
theorem U6{p:V->Bool}{f:V->V}:((xs.take xs.length).filter p).map f=(xs.filter p).map f:=by rw[cU]
theorem XQ(p:V->Bool)(f:V->V)(hl:SqT K H a xs)(my:xs.length<=1000)
  (ht:∀x H' (R:Bool->Hp->Prop),x∈xs->Grow [] H H'->(∀H2,Grow [] H' H2->R (p x) H2)->tt (σ.set n (some x)) H' R)
  (hs:∀x H' (R:VK),x∈xs->p x=true->Grow [] H H'->(∀H2,Grow [] H' H2->R (f x) H2)->te (σ.set n (some x)) H' R)
  (hd:∀H' l,Grow [] H H'->H' l=none->Q (.ref l) (upd H' l (.lst ((xs.filter p).map f)))):jL (Itt K a) σ H (uk n) tt te Q:=by
 refine u5 (xs:=xs) (fun i ys σ' H'=>Grow [] H H'/\(σ'=σ\/∃e,σ'=σ.set n e)/\ys=((xs.take i).filter p).map f) ⟨Grow.refl _ _,.inl rfl,rfl⟩ ?_ ?_ ?_
 ·rintro i ys σ' H' _ ⟨g,_⟩;exact g.sqT hl
 ·rintro i x ys σ' H' hx ⟨g,hσ,rfl⟩;have e:σ'.set n (some x)=σ.set n (some x):=by
   rcases hσ with rfl|⟨e,rfl⟩
   ·rfl
   ·rw[List.set_set]
  show tt (σ'.set n (some x)) H' _;rw[e];refine ht x H' _ (bF hx) g fun H2 g2=>?_;by_cases c:p x=true
  ·rw[if_pos c];refine hs x H2 _ (bF hx) c (g.trans g2) fun H3 g3=>⟨U5 my,(g.trans g2).trans g3,.inr ⟨_,rfl⟩,?_⟩
   rw[jR hx,if_pos c]
  ·rw[if_neg c];refine⟨g.trans g2,.inr ⟨_,rfl⟩,?_⟩;rw[jR hx,if_neg c,bB]
 ·rintro ys σ' H' ⟨g,_,rfl⟩ l hl;rw[U6];exact hd H' l g hl
theorem U7{p:V->Bool}(h:∀x,p x=true):xs.filter p=xs:=List.filter_eq_self.mpr fun x _=>h x
theorem jS(f:V->V)(hl:SqT K H a xs)(my:xs.length<=1000)
  (hs:∀x H' (R:VK),x∈xs->Grow [] H H'->(∀H2,Grow [] H' H2->R (f x) H2)->te (σ.set n (some x)) H' R)
  (hd:∀H' l,Grow [] H H'->H' l=none->Q (.ref l) (upd H' l (.lst (xs.map f)))):jL (Itt K a) σ H (uk n) W9 te Q :=
 XQ (fun _=>true) f hl my (fun x H' R _ _ k=>k H' (Grow.refl _ _)) (fun x H' R hx _ g k=>hs x H' R hx g k) (fun H' l g hl=>by rw[U7 fun _=>rfl];exact hd H' l g hl)
end
mutual
inductive Dat(K:FG7)(H:Hp):V->PyData->Prop
 |non:Dat K H .non .none
 |bl (b:Bool):Dat K H (.bl b) (.bool b)
 |int (i:Int):Dat K H (.int i) (.int i)
 |tup {a:Addr} {xs:List V} {ds:List PyData}:SqT K H a xs->DatAll K H xs ds->Dat K H (.ref a) (.tuple ds)
 |lst {a:Addr} {xs:List V} {ds:List PyData}:SqL K H a xs->DatAll K H xs ds->Dat K H (.ref a) (.list ds)
inductive DatAll(K:FG7)(H:Hp):List V->List PyData->Prop
 |nil:DatAll K H [] []
 |cons {x:V} {xs:List V} {d:PyData} {ds:List PyData}:Dat K H x d->DatAll K H xs ds->DatAll K H (x::xs) (d::ds)
end
section
variable{X:Cx}{mw:List (Addr×Obj)}{σ:L2.St}{H:Hp}{s:Shared}
mutual
theorem Dat.reads(I:Inv X mw σ H s):∀{x:V} {d:PyData} {u:Value},Dat X.K H x d->z8 x u->∃as,Reads s.heap u d as
 |_,_,u,.non,r=>by
  cases(show u=cA from r);exact⟨_,.none⟩
 |_,_,u,.bl b,r=>by
  cases(show u=kj b from r);exact⟨_,.bool b⟩
 |_,_,u,.int i,r=>by
  obtain⟨t,rfl⟩:=r;exact⟨_,.int i t⟩
 |_,_,u,.tup (a:=a) hs hd,r=>by
  cases(show u=bK a from r);obtain⟨its,r1,⟨o,e1,e2,n,e3⟩,_⟩:=I.tuple hs;obtain⟨as,q⟩:=DatAll.reads I hd r1;exact⟨_,.tuple e1 e2 e3 q⟩
 |_,_,u,.lst (a:=a) hs hd,r=>by
  cases(show u=bK a from r);obtain⟨its,r1,⟨o,n,e1,e2,_,e3⟩,_⟩:=I.list hs;obtain⟨as,q⟩:=DatAll.reads I hd r1;exact⟨_,.list e1 e2 e3 q⟩
theorem DatAll.reads(I:Inv X mw σ H s):∀{xs:List V} {ds:List PyData} {us:List Value},DatAll X.K H xs ds->zZ xs us->∃as,ReadsAll s.heap us ds as
 |_,_,_,.nil,.nil=>⟨_,.nil⟩
 |_,_,_,.cons h t,.cons r rs=>by
  obtain⟨as,q⟩:=Dat.reads I h r;obtain⟨bs,q2⟩:=DatAll.reads I t rs;exact⟨_,.cons q q2⟩
end
def JZ(K:FG7):List V->Hp->VK->Prop:=fun xs H Q=>∃x d,xs=[x]/\Dat K H x d/\d.showable=true/\d.hasDict=false/\d.depth<=60/\d.shown.length<=sizeLine/\Q (.str d.shown) H
theorem xz{k:Nat}(hr:Room k X.A):xV X (.builtin "repr") (JZ X.K):=by
 intro mw s σ H xs us Q I r h;obtain⟨x,d,rfl,hd,h1,h2,h3,h4,q⟩:=h;obtain⟨u,rfl,rx⟩:=wC r;cases hd with
 |non =>
  cases(show u=cA from rx);exact PySem.P.repr_of_none ⟨.str _,H,I.tok _,⟨_,rfl⟩,q⟩
 |bl b =>
  cases(show u=kj b from rx);exact PySem.P.repr_of_bool ⟨.str _,H,I.tok _,⟨_,rfl⟩,q⟩
 |int i =>
  obtain⟨t,rfl⟩:=rx;exact PySem.P.repr_of_int (of_decide_eq_true h1) ⟨.str _,H,I.tok _,⟨_,rfl⟩,q⟩
 |tup hs ha =>
  rename_i a ys ds;cases(show u=bK a from rx);obtain⟨as,rd⟩:=Dat.reads I (.tup hs ha) rx;refine repr_of_reads' rd h1 (fun z=>by rw[h2] at z;cases z) hr.gd (by have:=hr.un;omega) (fun _ _ e=>e) (fun h' t tk hk=>?_) h4;exact⟨.str _,H,I.kept hk,⟨_,rfl⟩,q⟩
 |lst hs ha =>
  rename_i a ys ds;cases(show u=bK a from rx);obtain⟨as,rd⟩:=Dat.reads I (.lst hs ha) rx;refine repr_of_reads' rd h1 (fun z=>by rw[h2] at z;cases z) hr.gd (by have:=hr.un;omega) (fun _ _ e=>e) (fun h' t tk hk=>?_) h4;exact⟨.str _,H,I.kept hk,⟨_,rfl⟩,q⟩
end
mutual
/-- a bound of the text's length -/
noncomputable def wtD:PyData->Nat
 |.list xs|.tuple xs=>wtAll xs+3
 |.int _=>1921
 |.none|.bool _=>5
 |_=>20000000
noncomputable def wtAll:List PyData->Nat
 |[]=>0
 |x::xs=>wtD x+2+wtAll xs
end
mutual
theorem shown_wt:∀{d:PyData},d.showable=true->d.hasDict=false->wtD d<=16777216->d.shown.length<=wtD d
 |.none,_,_,_=>by decide
 |.bool b,_,_,_=>by cases b <;> decide
 |.int i,h,_,_=>int_text_len_1921 (of_decide_eq_true h)
 |.str _,_,_,z=>absurd (show 20000000<=16777216 from z) (by decide)
 |.list xs,h,h2,z=>by
  have z':wtAll xs+3<=16777216:=z;have q:=shown_wtAll (xs:=xs) h h2 (by omega);have l:=listText_len_le (fq xs);show(listText (fq xs)).length<=wtAll xs+3;omega
 |.tuple xs,h,h2,z=>by
  have z':wtAll xs+3<=16777216:=z;have q:=shown_wtAll (xs:=xs) h h2 (by omega);have l:=tupleText_len_le (fq xs);show(tupleText (fq xs)).length<=wtAll xs+3;omega
 |.dict _,_,h,_=>by cases h
theorem shown_wtAll:∀{xs:List PyData},ir xs=true->iN xs=false->wtAll xs<=16777216->((fq xs).map (·.length)).sum+2*(fq xs).length<=wtAll xs
 |[],_,_,_=>by decide
 |x::xs,h,h2,z=>by
  have h':(x.showable && ir xs)=true:=h;have AY:(x.hasDict ||iN xs)=false:=h2;rw[cE] at h';rw[Bool.or_eq_false_iff] at AY;have z':wtD x+2+wtAll xs<=16777216:=z;have q1:=shown_wt (d:=x) h'.1 AY.1 (by omega);have q2:=shown_wtAll (xs:=xs) h'.2 AY.2 (by omega);show(x.shown.length::(fq xs).map (·.length)).sum+2*((fq xs).length+1)<=wtD x+2+wtAll xs;rw[List.sum_cons];omega
end
theorem XR{d:PyData}(h1:d.showable=true)(h2:d.hasDict=false)(h3:wtD d<=16777216):d.shown.length<=sizeLine:=by
 rw[eQ];exact bM (shown_wt h1 h2 h3) h3
abbrev zbt:=Option (Option Int×Option Int)
def Sr(i:Int):Prop:=-(2 ^ 300)<i/\i<2 ^ 300
theorem J1{i:Int}(h:Sr i):zbg i:=by
 show i.natAbs.log2<1920;by_cases h0:i.natAbs=0
 ·rw[h0];decide
 ·exact aN ((Nat.log2_lt h0).mpr (show i.natAbs<2 ^ 300 by obtain⟨a,b⟩:=h;omega)) (by decide)
noncomputable def oD:Option Int->PyData
 |none=>.none
 |some i=>.int i
theorem jT{α:Type}(xs:List α):(xs.map (fun _=>true)).all id=true:=by rw[eI];intro x hx;obtain⟨_,_,rfl⟩:=aW.mp hx;rfl
theorem U8(gs:List Int):(gs.map V.int).map (fun _=>V.bl true)=(gs.map (fun _=>true)).map V.bl:=by rw[bZ,bZ];rfl
section
variable{K:FG7}{a:Addr}{xs:List V}{lo:Int}{n k:Nat}{te:TE}{Q:VK}{σ:L2.St}{H:Hp}
theorem Y5(Pv:Nat->List V->Hp->Prop)(h0:Pv 0 [] H)
  (hs:∀i ys H',i<n->Pv i ys H'->te (σ.set k (some (.int (lo+i)))) H' fun y H5=>ys.length<sizeLine/\Pv (i+1) (ys++[y]) H5)
  (hd:∀ys H',Pv n ys H'->∀l,H' l=none->Q (.ref l) (upd H' l (.lst ys))):jL (Itr lo n) σ H (uk k) W9 te Q:=by
 refine⟨fun i m ys σ' H'=>m=n-i/\i<=n/\(σ'=σ\/∃e,σ'=σ.set k e)/\Pv i ys H',⟨n,by simp,aX _,.inl rfl,h0⟩,?_⟩;rintro i m ys σ' H' ⟨rfl,hi,hσ,p⟩;by_cases mE:i<n
 ·refine .inr ⟨mE,fun zs σ2 H2=>(σ2=σ\/∃e,σ2=σ.set k e)/\Pv (i+1) zs H2,fun zs σ2 H2 p'=>⟨n-(i+1),by omega,rfl,mE,p'.1,p'.2⟩,fun x H2 y=>?_⟩;obtain⟨e,y⟩:=y;subst e y;have e:σ'.set k (some (V.int (lo+i)))=σ.set k (some (V.int (lo+i))):=by
   rcases hσ with rfl|⟨e,rfl⟩
   ·rfl
   ·rw[List.set_set]
  show if true=true then te (σ'.set k (some (V.int (lo+i)))) H2 (fun y H5=>ys.length<sizeLine/\((σ'.set k (some (V.int (lo+i)))=σ\/∃e,σ'.set k (some (V.int (lo+i)))=σ.set k e)/\Pv (i+1) (ys++[y]) H5)) else((σ'.set k (some (V.int (lo+i)))=σ\/∃e,σ'.set k (some (V.int (lo+i)))=σ.set k e)/\Pv (i+1) ys H2)
  rw[if_pos rfl,e];have e2:(fun(y:V) (H5:Hp)=>ys.length<sizeLine/\((σ.set k (some (V.int (lo+i)))=σ\/∃e,σ.set k (some (V.int (lo+i)))=σ.set k e)/\Pv (i+1) (ys++[y]) H5))=fun y H5=>ys.length<sizeLine/\Pv (i+1) (ys++[y]) H5:=by
   funext y H5
   exact propext ⟨fun z=>⟨z.1,z.2.2⟩,fun z=>⟨z.1,.inr ⟨_,rfl⟩,z.2⟩⟩
  rw[e2];exact hs i ys H2 mE p
 ·have e:i=n:=by omega
  subst e;exact .inl ⟨aE _,hd ys H' p⟩
end
theorem Grow.less{m m':List Addr}{H H':Hp}(g:Grow m H H')(h:∀b∈m,b∈m'\/H b=none):Grow m' H H' :=
 ⟨fun b o n q=>g.keep b o (fun z=>by
  rcases h b z with w|w
  ·exact n w
  ·rw[w] at q;cases q) q,g.tup,g.frz⟩
theorem Z9{n:Nat}{i:Int}(h0:0<=i)(h:i.toNat<n):ixN n i=some i.toNat:=by
 unfold ixN;rw[if_pos h0,if_pos (by omega)]
theorem Rn{xs:List V}{i:Int}{j:Nat}{v:V}(h:ixN xs.length i=some j)(hv:xs[j]?=some v):atI xs i=some v:=by
 unfold atI;rw[h];exact hv
structure Ask where
 hand:Int
 box:Int
 deed:Deed
def vM(K:FG7)(H:Hp)(x:V)(k:Ask):Prop:=∃r rd,x=.ref r/\SqT K H r [.int k.hand,.int k.box,.ref rd]/\SqT K H rd k.deed.vs
def xq(K:FG7)(H:Hp)(x:V)(b:List Int):Prop:=∃r,x=.ref r/\SqT K H r (b.map V.int)
def U9(m:Nat)(k:Ask):Prop:=0<=k.hand/\k.hand<=15/\0<=k.box/\k.box<m/\k.deed.Ok
theorem Grow.ask{m:List Addr}{H H':Hp}(g:Grow m H H'){K:FG7}{x:V}{k:Ask}(h:vM K H x k):vM K H' x k:=by
 obtain⟨r,rd,e,h1,h2⟩:=h;exact⟨r,rd,e,g.sqT h1,g.sqT h2⟩
theorem Grow.board{m:List Addr}{H H':Hp}(g:Grow m H H'){K:FG7}{x:V}{b:List Int}(h:xq K H x b):xq K H' x b:=by
 obtain⟨r,e,h1⟩:=h;exact⟨r,e,g.sqT h1⟩
theorem Ro{xs:List Int}{i:Nat}(h:i<xs.length):xs[i]?=some (xs.getD i 0):=by
 rw[aJ,aH h];rfl
noncomputable def Rp(xs:List Int):PyData:=.tuple (xs.map PyData.int)
theorem Y6{K:FG7}{H:Hp}:∀xs:List Int,DatAll K H (xs.map V.int) (xs.map PyData.int)
 |[]=>.nil
 |x::xs=>.cons (.int x) (Y6 xs)
def Sh(d:PyData)(w n:Nat):Prop:=d.showable=true/\d.hasDict=false/\wtD d<=w/\d.depth<=n
theorem Sh.mono{d:PyData}{w w' n n':Nat}(h:Sh d w n)(h1:w<=w')(h2:n<=n'):Sh d w' n':=⟨h.1,h.2.1,bM h.2.2.1 h1,bM h.2.2.2 h2⟩
def ShA(ds:List PyData)(w n:Nat):Prop:=ir ds=true/\iN ds=false/\wtAll ds<=w/\PyData.depthAll ds<=n
theorem Rq{n:Nat}:ShA [] 0 n:=⟨rfl,rfl,aE _,aX _⟩
theorem Ta{d:PyData}{ds:List PyData}{w v n:Nat}(h:Sh d w n)(t:ShA ds v n):ShA (d::ds) (w+2+v) n:=by
 obtain⟨a1,a2,a3,a4⟩:=h;obtain⟨b1,b2,b3,b4⟩:=t;refine⟨?_,?_,?_,?_⟩
 ·show(d.showable && ir ds)=true;rw[a1,b1];rfl
 ·show(d.hasDict ||iN ds)=false;rw[a2,b2];rfl
 ·show wtD d+2+wtAll ds<=_;omega
 ·show max d.depth (PyData.depthAll ds)<=n;omega
theorem QR{ds:List PyData}{w n:Nat}(h:ShA ds w n):Sh (.tuple ds) (w+3) (n+1):=⟨h.1,h.2.1,Nat.add_le_add_right h.2.2.1 3,Nat.add_le_add_right h.2.2.2 1⟩
theorem Vi{i:Int}{n:Nat}(h:Sr i):Sh (.int i) 1921 n:=⟨decide_eq_true (J1 h),rfl,aE _,aX _⟩
theorem J3{o:Option Int}{n:Nat}(h:∀i,o=some i->Sr i):Sh (oD o) 1921 n:=by
 cases o with
 |none=>exact⟨rfl,rfl,(by show(5:Nat)<=1921;decide),aX _⟩
 |some i=>exact Vi (h i rfl)
theorem Vj{α:Type}{f:α->PyData}{w n:Nat}:∀{xs:List α},(∀x∈xs,Sh (f x) w n)->ShA (xs.map f) (xs.length*(w+2)) n
 |[],_=>by rw[show([]:List α).length*(w+2)=0 from mo _];exact Rq
 |x::xs,h=>by
  have z:=Ta (h x (by simp)) (Vj (xs:=xs) fun y hy=>h y (aK _ hy));rw[show(x::xs).length*(w+2)=w+2+xs.length*(w+2) by rw[dW,Nat.add_mul,Nat.one_mul,mm]];exact z
theorem Sh.fits{d:PyData}{w n:Nat}(h:Sh d w n)(hw:w<=16777216):d.shown.length<=sizeLine:=XR h.1 h.2.1 (bM h.2.2.1 hw)
def yi(K:FG7):Sp:=sp3 fun x y z H Q=>∃i l u,x=.int i/\y=.int l/\z=.int u/\Q (.bl (decide (l<=i) && decide (i<=u))) H
def tQ(K:FG7):Sp:=sp1 fun x H Q=>∃b,xq K H x b/\1<=b.length/\b.length<=16/\∀H',Grow [] H H'->Q (.bl true) H'
def vN(K:FG7):Sp:=sp1 fun x H Q=>∃b,xq K H x b/\1<=b.length/\b.length<=16/\∀H',Grow [] H H'->Q .non H'
def sp4(b:V->V->V->V->Hp->VK->Prop):Sp:=fun vs H Q _=>∃x y z u,vs=[x,y,z,u]/\b x y z u H Q
theorem vh{b:V->V->V->V->Hp->VK->Prop}{p q r s:Str}:∀vs H Q E,sp4 b vs H Q E->vs.length=[p,q,r,s].length:=fun vs H Q E h=>by
 obtain⟨x,y,z,u,rfl,_⟩:=h;rfl
def yJ{α:Type}(R:V->α->Prop):List V->List α->Prop
 |[],[]=>True
 |x::xs,k::ks=>R x k/\yJ R xs ks
 |_,_=>False
section
variable{α:Type}{R S:V->α->Prop}
theorem yJ.imp(h:∀x k,R x k->S x k):∀{xs:List V} {ks:List α},yJ R xs ks->yJ S xs ks
 |[],[],_=>trivial
 |_::_,_::_,⟨a,t⟩=>⟨h _ _ a,yJ.imp h t⟩
 |[],_::_,z=>z.elim
 |_::_,[],z=>z.elim
theorem yJ.len:∀{xs:List V} {ks:List α},yJ R xs ks->xs.length=ks.length
 |[],[],_=>rfl
 |_::xs,_::ks,⟨_,t⟩=>congrArg (·+1) (yJ.len t)
 |[],_::_,h=>h.elim
 |_::_,[],h=>h.elim
theorem yJ.get:∀{xs:List V} {ks:List α} {i:Nat} {x:V},yJ R xs ks->xs[i]?=some x->∃k,ks[i]?=some k/\R x k
 |_::_,k::_,0,x,⟨h,_⟩,e=>by
  obtain rfl:=bH e;exact⟨k,rfl,h⟩
 |_::_,_::_,i+1,x,⟨_,t⟩,e=>yJ.get (i:=i) t e
 |[],[],i,x,_,e=>by cases e
 |[],_::_,_,_,h,_=>h.elim
 |_::_,[],_,_,h,_=>h.elim
theorem yJ.getR:∀{xs:List V} {ks:List α} {i:Nat} {k:α},yJ R xs ks->ks[i]?=some k->∃x,xs[i]?=some x/\R x k
 |x::_,_::_,0,k,⟨h,_⟩,e=>by
  obtain rfl:=bH e;exact⟨x,rfl,h⟩
 |_::_,_::_,i+1,k,⟨_,t⟩,e=>yJ.getR (i:=i) t e
 |[],[],i,k,_,e=>by cases e
 |[],_::_,_,_,h,_=>h.elim
 |_::_,[],_,_,h,_=>h.elim
theorem yJ.app:∀{xs ys:List V} {ks js:List α},yJ R xs ks->yJ R ys js->yJ R (xs++ys) (ks++js)
 |[],_,[],_,_,h=>h
 |_::_,_,_::_,_,⟨h,t⟩,q=>⟨h,yJ.app t q⟩
 |[],_,_::_,_,h,_=>h.elim
 |_::_,_,[],_,h,_=>h.elim
theorem yJ.one{x:V}{k:α}(h:R x k):yJ R [x] [k]:=⟨h,trivial⟩
end
theorem Vk{X:Cx}{K:FG7}(h:X.K=K):xV X (.builtin "len") (fun xs H Q=>∃p ys,xs=[.ref p]/\(SqL K H p ys\/SqT K H p ys)/\Q (.int ys.length) H):=by subst h;exact zv
def sp5(b:V->V->V->V->V->Hp->VK->Prop):Sp:=fun vs H Q _=>∃x y z u w,vs=[x,y,z,u,w]/\b x y z u w H Q
theorem Rr{b:V->V->V->V->V->Hp->VK->Prop}{p q r s t:Str}:∀vs H Q E,sp5 b vs H Q E->vs.length=[p,q,r,s,t].length:=fun vs H Q E h=>by
 obtain⟨x,y,z,u,w,rfl,_⟩:=h;rfl
theorem zbm{xs:List Int}{i:Int}(h0:0<=i)(h:i<xs.length):atI (xs.map V.int) i=some (V.int (xs.getD i.toNat 0)):=by
 have hj:i.toNat<xs.length:=by omega
 exact Rn (Z9 h0 (by rw[aG];exact hj)) (by rw[bN,Ro hj];rfl)
section
variable{prog:Program}{w:World}{A:Around}{E:VS7}{s:Shared}
theorem Ya{jt t:Addr}{i:Nat}{vs:Array Value}{v:Value}{Q:VS7}(mW:s.heap.IsTupleIter jt t i)(ht:s.heap.IsTuple t vs)(hv:vs[i]?=some v)
  (hQ:∀h',h'.IsTupleIter jt t (i+1)->fA jt s.heap h'->Q v { s with heap:=h' }):wpAny (model prog w) A (fI (.ref jt)) Q E s:=by
 obtain⟨oj,AZ,cj,dj⟩:=id mW;obtain⟨ot,Be,_,nt,dt⟩:=ht;unfold fI;refine aA (cT (name:=gh "__next__") mW.typeIs F.slot_tuple_iterator_next (cK F.slot_tuple_iterator_next mW.typeIs F.entry_tuple_iterator_next ?_ (F.args_tuple_iterator_next_1 _)));show wpAny _ _ (field (.ref jt) 0 >>= _) _ _ s;refine aA (iA AZ dj (x:=.ref t) rfl ?_);show wpAny _ _ (if(bK t == cA)=true then _ else _) _ _ s;rw[if_neg (show ¬((bK t == cA)=true) by exact bE)];show wpAny _ _ (field (.ref jt) 1 >>= _) _ _ s;refine aA (iA AZ dj (x:=.int i 0) rfl ?_);show wpAny _ _ (seqItems? (.ref t) >>= _) _ _ s;refine aA (lU Be dt ?_);simp only[bW,hv]
 refine aA (gR AZ dj (by simp) (aF ⟨v,rfl,aF (hQ _ ⟨_,cN _ AZ (Obj.isFreed_of_fields (Obj.data_mapFields dj _)),(Obj.cls_mapFields ..).trans cj,by rw[Obj.data_mapFields dj];simp[rawInt]⟩ (dJ ..))⟩))
theorem rK{jt t:Addr}{i:Nat}{vs:Array Value}{Q:VS7}(hh:A.handled=none)(mW:s.heap.IsTupleIter jt t i)(ht:s.heap.IsTuple t vs)(hv:vs[i]?=none)
  (hE:∀h' e,kL jt s.heap h'->(∃o,h'.get? e=some o/\o.cls=.type "StopIteration")->E (.ref e) { s with heap:=h' }):wpAny (model prog w) A (fI (.ref jt)) Q E s:=by
 obtain⟨oj,AZ,cj,dj⟩:=id mW;obtain⟨ot,Be,_,nt,dt⟩:=ht;unfold fI;refine aA (cT (name:=gh "__next__") mW.typeIs F.slot_tuple_iterator_next (cK F.slot_tuple_iterator_next mW.typeIs F.entry_tuple_iterator_next ?_ (F.args_tuple_iterator_next_1 _)));show wpAny _ _ (field (.ref jt) 0 >>= _) _ _ s;refine aA (iA AZ dj (x:=.ref t) rfl ?_);show wpAny _ _ (if(bK t == cA)=true then _ else _) _ _ s;rw[if_neg (show ¬((bK t == cA)=true) by exact bE)];show wpAny _ _ (field (.ref jt) 1 >>= _) _ _ s;refine aA (iA AZ dj (x:=.int i 0) rfl ?_);show wpAny _ _ (seqItems? (.ref t) >>= _) _ _ s;refine aA (lU Be dt ?_);simp only[bW,hv]
 refine aA (fO (aA (gR AZ dj (by simp) ?_)));show wpAny _ _ (newExc (.type "StopIteration") [] >>= _) _ _ _;refine aA ?_;simp only[newExc,newTuple]
 refine aA (bS ?_ (by size_fits));refine aA (m:=gS _ _) (kM (a:=cA) (by first|rfl|(simp only[gS];rfl)) ?_);refine bS ?_ (by size_fits);simp only[raiseNew]
 refine aA (wpAny_handled ?_);(first|rw[show A.in1.handled=none from hh]|rw[hh]);exact aA (aF (wpAny_throw (hE _ _ (((dJ ..).extBut.push _).push _) ⟨_,aL _ rfl,rfl⟩)))
end
theorem Vl{prog:Program}{w:World}{A:Around}(hh:A.handled=none)(jt t:Addr)(oP:t≠jt)(vs:Array Value) :
  Draws prog w A jt [jt,t] vs.size (fun i v=>vs[i]?=some v) (fun i h=>h.IsTupleIter jt t i/\h.IsTuple t vs) where
 live:=fun _ _ st=>let ⟨o,ho,_⟩:=st.1;⟨o,ho⟩
 frame:=fun _ _ _ st hk=>⟨st.1.at (hk jt (by simp)),st.2.at (hk t (by simp))⟩
 item:=fun i s Q E hi st hQ=>Ya st.1 st.2 (v:=vs[i]) (by simp[hi]) fun h' nC hs'=>hQ _ h' s.toks (by simp[hi]) ⟨nC,st.2.extBut hs'.extBut oP⟩ hs'
 done:=fun s Q E st hE=>rK hh st.1 st.2 (by simp) hE
theorem Vm{prog:Program}{w:World}{A:Around}(hh:A.handled=none)(jt t:Addr)(vs:Array Value){i:Nat}(hv:vs[i]?=none) :
  Draws prog w A jt [jt,t] i (fun _ _=>True) (fun j h=>j=i/\h.IsTupleIter jt t i/\h.IsTuple t vs) where
 live:=fun _ _ st=>let ⟨o,ho,_⟩:=st.2.1;⟨o,ho⟩
 frame:=fun _ _ _ st hk=>⟨st.1,st.2.1.at (hk jt (by simp)),st.2.2.at (hk t (by simp))⟩
 item:=fun j s Q E hj st hQ=>absurd st.1 (aT hj)
 done:=fun s Q E st hE=>rK hh st.2.1 st.2.2 hv hE
section
variable{X:Cx}{mw:List (Addr×Obj)}{σ:L2.St}{H:Hp}{s:Shared}{h':Heap}
theorem Vn{fp:List Addr}{t':Nat}(I:Inv X mw σ H s)(k:∀b o,b∉fp->s.heap.get? b=some o->h'.get? b=some o)(ff:∀b∈fp,vz X mw H b):Inv X mw σ H { s with heap:=h',toks:=t' }:=by
 have Dc:∀b u,H b=some u->b∉fp:=fun b u e z=>by rw[(ff b z).1] at e;cases e
 refine I.step (g':=s.gens) (d':=s.drawn) (ch:=fp) (fun b hb=>?_) (fun b o _ _ hc e _=>k b o hc e) (fun b o _ _ hc e _=>⟨o.slots,k b o hc e⟩) (fun _ _ _ _ n=>n) (fun b o hc e=>⟨o,k b o hc e⟩) (fun _ _ e=>e) (fun _ _ _ e=>e) (fun b ps e=>⟨#[],by rw[e];simp⟩) (fun m hm=>?_) (fun b u e=>?_) I.bare
 ·obtain⟨_,f1,_,f3,f4,f5⟩:=ff b hb;exact⟨f3,f1,f4,f5⟩
 ·obtain⟨o,es,ep,ho,r⟩:=hm;exact⟨o,es,ep,k _ o (fun z=>(ff _ z).2.1 rfl) ho,r⟩
 ·refine(I.hok b u e).stay (fun c v hc q=>k c v ?_ q) (fun _ q=>q) fun _ _ q=>q;rcases hc with z|z
  ·rw[z];exact Dc b u e
  ·exact Dc c _ z
theorem Tb{fp:List Addr}{T:Addr}{o:HO}{t':Nat}(I:Inv X mw σ H s)(k:∀b o,b∉fp->s.heap.get? b=some o->h'.get? b=some o)(ff:∀b∈fp,vz X mw H b)(hT:s.heap.objs.size<=T)
  (new:yf X.prog X.w (upd H T o) h' T o):Inv X mw σ (upd H T o) { s with heap:=h',toks:=t' }:=by
 have hn:H T=none:=I.hok.fresh hT;have I1:Inv X mw σ H { s with heap:=h',toks:=t' }:=Vn I k ff;have hok:HOk X.prog X.w (upd H T o) h':=HOk.track I1.hok hn new;refine I.step (g':=s.gens) (d':=s.drawn) (ch:=fp) (fun b hb=>?_) (fun b o _ _ hc e _=>k b o hc e) (fun b o _ _ hc e _=>⟨o.slots,k b o hc e⟩) (fun b u _ e n=>by rw[zB (aT (aN (aQ e) hT))];exact n) (fun b o hc e=>⟨o,k b o hc e⟩)
  (fun b xs e=>by rw[zB (zF e hn)];exact e) (fun b u xs e=>by rw[zB (zF e hn)];exact e) (fun b ps e=>⟨#[],by rw[zB (zF e hn),e];simp⟩) (fun m hm=>?_) hok I.bare
 ·obtain⟨_,f1,_,f3,f4,f5⟩:=ff b hb;exact⟨f3,f1,f4,f5⟩
 ·obtain⟨o,es,ep,ho,r⟩:=hm;exact⟨o,es,ep,k _ o (fun z=>(ff _ z).2.1 rfl) ho,r⟩
end
section
variable{X:Cx}{oo:List Expr}{kt:Nat}{pt:Pos}
theorem QS:cF "enumerate" = some (.type "enumerate"):=by decide +kernel
end
theorem yJ.set{α:Type}{R:V->α->Prop}{x:V}{k:α}(h:R x k):∀{xs:List V} {ks:List α} {n:Nat},yJ R xs ks->yJ R (xs.set n x) (ks.set n k)
 |[],[],n,_=>by cases n <;> trivial
 |_::_,_::_,0,⟨_,t⟩=>⟨h,t⟩
 |_::_,_::_,n+1,⟨a,t⟩=>⟨a,yJ.set h t⟩
 |[],_::_,_,z=>z.elim
 |_::_,[],_,z=>z.elim
noncomputable def xO(k st l:Int):Int:=cZ (l / 2 ^ (k-st).toNat) 1
noncomputable def wfI(k st l w:Int):Int:=bX l (bX (xO k st l) w*2 ^ (k-st).toNat)
noncomputable def swI(k st l:Int):Int:=fP (l / 2 ^ (k-st+1).toNat*2 ^ (k-st).toNat) (cZ l (1*2 ^ (k-st).toNat-1))
noncomputable def QT(k n:Int):List Int:=(aR k.toNat).map fun i:Nat=>cZ (n / 2 ^ (k-1-(0+(i:Int))).toNat) 1
noncomputable def zbn(xs:List Int):Int:=xs.foldl (fun f o=>2*f+o) 0
noncomputable def Vo(k l:Int)(st:Nat):Int:=zbn ((QT k l).take (st-1)++(QT k l).drop st)
theorem Vp:∀k:Fin 5,∀st:Fin 5,st.val<=k.val->∀l:Fin 16,(xO k.val st.val l.val=0\/xO k.val st.val l.val=1)/\∀w:Fin 2,(bX (xO k.val st.val l.val) w.val).natAbs<2:=by
 decide +kernel
section
variable{X:Cx}
theorem Vq{K:FG7}(h:X.K=K):xV X (.builtin "isinstance") (zaD K):=by subst h;exact xb
end
theorem Vr{i j:Int}(h:-(2 ^ 60)<i/\i<2 ^ 60):IntMulOk i j:=PySem.IntMulOk.of_left (bM ((PySem.intBits_le_iff (m:=60)).mpr (by obtain⟨a,b⟩:=h;omega)) (by decide))
theorem uL{k:Nat}(h:k<=4):Qe 1 (k:Int):=⟨by omega,by omega,by decide⟩
theorem tR{k:Nat}(h:k<=4):(2:Nat) ^ k<=16:=bM (fc (by decide) h) (by decide)
theorem qA{k:Nat}:(1:Int)*2 ^ ((k:Int)).toNat=((2 ^ k:Nat):Int):=by rw[bW,Int.one_mul,Int.natCast_pow];rfl
theorem zaE{k st:Nat}{l:Int}(k4:k<=4)(hs:st<=k)(l0:0<=l)(l1:l<16):(xO k st l=0\/xO k st l=1)/\∀w:Int,w=0\/w=1->(bX (xO k st l) w).natAbs<2 ^ 64:=by
 obtain⟨n,rfl⟩:∃n:Nat,l=n:=⟨l.toNat,by omega⟩
 have z:=Vp ⟨k,by omega⟩ ⟨st,by omega⟩ hs ⟨n,by omega⟩;refine⟨z.1,fun w hw=>?_⟩;rcases hw with rfl|rfl
 ·exact gj (z.2 0) (by decide)
 ·exact gj (z.2 1) (by decide)
theorem J4{ys:List Int}{v:Int}:atI ((ys++[v]).map V.int) (-1)=some (V.int v):=by
 refine Rn (j:=ys.length) ?_ ?_
 ·unfold ixN;rw[aG,aI,if_neg (by decide),if_pos (by show -((ys.length+1:Nat):Int)<=-1;omega)];exact congrArg some (by show(-1+((ys.length+1:Nat):Int)).toNat=ys.length;omega)
 ·rw[bN];simp
def ux(_:FG7):Sp:=sp2 fun x y H Q=>∃k l:Nat,x=.int k/\y=.int l/\k<=4/\l<2 ^ k/\Q (.bl true) H
def tS(_:FG7):Sp:=sp1 fun x H Q=>∃k:Nat,x=.int k/\k<=4/\Q .non H
def uM(_:FG7):Sp:=sp2 fun x y H Q=>∃k l:Nat,x=.int k/\y=.int l/\k<=4/\l<2 ^ k/\Q .non H
def tT(_:FG7):Sp:=sp3 fun x y z H Q=>∃(k st:Nat) (l:Int),x=.int k/\y=.int st/\z=.int l/\st<=k/\Q (.int (xO k st l)) H
def vc(_:FG7):Sp:=sp4 fun x y z u H Q=>∃(k st:Nat) (l w:Int),x=.int k/\y=.int st/\z=.int l/\u=.int w/\k<=4/\st<=k/\0<=l/\l<16/\(w=0\/w=1)/\Q (.int (wfI k st l w)) H
def jU(_:FG7):Sp:=sp4 fun x y z u H Q=>∃(k st:Nat) (l s:Int),x=.int k/\y=.int st/\z=.int l/\u=.int s/\k<=4/\st<=k/\0<=l/\l<16/\0<=s/\s<16/\Q (.int (wfI k st l (xO k st s))) H
def uN(_:FG7):Sp:=sp3 fun x y z H Q=>∃(k st:Nat) (l:Int),x=.int k/\y=.int st/\z=.int l/\k<=4/\st<=k/\0<=l/\l<16/\Q (.int (swI k st l)) H
section
variable{prog:Program}{w:World}{A:Around}{R:Result->Shared->Prop}{s:Shared}
variable{om t0 i0 t1 i1:Expr}{mI:List Expr}{scope:Scope}{pos:Pos}{it mG:Value}{env:Env}
def noX:VS7:=fun _ _=>False
end
section
variable{X:Cx}{mw:List (Addr×Obj)}{σ:L2.St}{H2:Hp}{s₂:Shared}{it:Addr}{fp:List Addr}{tn:Nat->Heap->Prop}{J:It}{scope:Scope}{cl:List (Str×Addr)}{N':List Str}{sub:List (Option Nat)}
theorem Vs{C D:Addr}{s₀:Shared}{tg:Expr}{pos:Pos}{om iter:Expr}{mI:List Expr}{g:TG}{tt:TT}{te:TE}{Q:VK}{RR:Value->Addr->Result->Shared->Prop}{W:Nat->Nat->List V->L2.St->Hp->Prop}
  (I:Inv X mw σ H2 s₂) (mC:X.calm=true) (T:Turn X.prog X.w X.K tg J fp it tn) (f2:∀b∈fp,vz X mw H2 b) (ph:∀b∈fp,b<s₂.heap.objs.size)
  (mY:∀b o,s₂.heap.get? b=some o->s₀.heap.get? b=some o) (pf:s₀.os=s₂.os) (hD:s₂.heap.objs.size<=D) (hC:s₂.heap.objs.size<=C) (Au:D≠C)
  (mM:∀x c,cl.lookup x=some c->X.env.cells.lookup x=some c)
  (hg:PG (cxC X N' scope cl C D fp s₀ H2) tg g) (ht:UG (cxC X N' scope cl C D fp s₀ H2) mI tt) (he:PE (cxC X N' scope cl C D fp s₀ H2) om te)
  (m4:∀i m ys σ' H',W i m ys σ' H'→
   (J.stop i H'/\∀l,H' l=none->Q (.ref l) (upd H' l (.lst ys)))∨
   (J.go i H'/\∃Nn:List V->L2.St->Hp->Prop,(∀zs σ2 H2,Nn zs σ2 H2->∃m',m'<m/\W (i+1) m' zs σ2 H2)∧
    ∀x H2,J.yld i H' x H2->g x σ' H2 fun σ2 H3=>tt σ2 H3 fun b H4=>if b=true then te σ2 H4 fun y H5=>ys.length<sizeLine/\Nn (ys++[y]) σ2 H5 else Nn ys σ2 H4))
  (BY:∀(D C:Addr) (oC:Obj) (m:Str->Option Value) (s':Shared) (Hf:Hp),Inv X (mw++[(C,oC)]) σ Hf s'->s'.heap.Ns C m->vz X mw Hf C->Q (.ref D) Hf->RR (.ref D) C (.ok .next) s')
  (n:Nat) (s:Shared) (h:∃i ys us k σ' H',Inv (cxC X N' scope cl C D fp s₀ H2) mw σ' H' s/\tn i s.heap/\(∀b∈fp,H' b=none)/\H' D=none∧
   s.heap.get? D=some { cls:=.type "list",data:=.seq (us:List Value).toArray k }/\zZ ys us/\ys.length<=sizeLine/\W i n ys σ' H') :
  codeAny (model X.prog X.w) X.A (.compLoop (.ListComp om [⟨tg,iter,mI,0⟩] scope pos) 0 (.ref it) (.ref D) (compEnvC scope cl C X.env)) (RR (.ref D) C) s:=by
 have pS:∀b∈frs X.stack,b<s₂.heap.objs.size:=fun b hb=>by
  rcases aS.mp (I.stkSub b hb) with z|z
  ·rw[z];exact I.lt
  ·exact kZ fun q=>I.nofs q z
 have cells:∀x c,cl.lookup x=some c->c<s₂.heap.objs.size:=fun x c e=>let ⟨v,q⟩:=I.cell x c (mM x c e);q.lt
 have pN:∀p∈X.pn++mw,p.1<s₂.heap.objs.size:=fun p hp=>aQ (I.pin p hp).1;refine W8 (fun n s=>∃i ys us k σ' H',Inv (cxC X N' scope cl C D fp s₀ H2) mw σ' H' s/\tn i s.heap/\(∀b∈fp,H' b=none)/\H' D=none∧
   s.heap.get? D=some { cls:=.type "list",data:=.seq (us:List Value).toArray k }/\zZ ys us/\ys.length<=sizeLine/\W i n ys σ' H') ?_ n h
 rintro n s ⟨i,ys,us,k,σ',H',I',nz,fr,hn,hy,rv,hz,w'⟩;have pD:Inv (cxC X N' scope cl C D fp s₀ H2) (mw++[(D,{ cls:=.type "list",data:=.seq us.toArray k })]) σ' H' s:=I'.pins_of fun p hp=>by
  rcases aP.mp hp with hp|hp
  ·exact I'.pin p (aM _ hp)
  ·rw[aB.mp hp];exact⟨hy,hn,Au,fun z=>absurd (aN (pS _ z) hD) (cV _),fun v z=>by cases z⟩
 have nK:∀{H'':Hp},(∀b∈fp,H'' b=none)->∀b∈fp,vz (cxC X N' scope cl C D fp s₀ H2) (mw++[(D,{ cls:=.type "list",data:=.seq us.toArray k })]) H'' b:=fun hz b hb=>by
  refine⟨hz b hb,aT (aN (ph b hb) hC),fun z=>?_,.inl (aK _ hb),fun x c e=>(f2 b hb).2.2.2.2.1 x c (mM x c e),fun p hp=>?_⟩
  ·rcases aS.mp (I.stkSub b z) with z|z
   ·exact(f2 b hb).2.1 z
   ·exact(f2 b hb).2.2.1 z
  ·rcases aP.mp hp with hp|hp
   ·exact(f2 b hb).2.2.2.2.2 p (bR _ hp)
   ·rcases aP.mp hp with hp|hp
    ·exact(f2 b hb).2.2.2.2.2 p (aM _ hp)
    ·rw[aB.mp hp];exact eZ (aN (ph b hb) hD)
 rcases m4 i n ys σ' H' w' with ⟨stop,q⟩|⟨go,Nn,hN,step⟩
 ·refine thn (T.done (cxC X N' scope cl C D fp s₀ H2) rfl rfl rfl mC i _ s σ' H' (fun _ _=>False) pD (nK fr) nz stop) fun r s1 ⟨hr,I1⟩=>?_;subst hr;have FP:=(I1.pin (D,{ cls:=.type "list",data:=.seq us.toArray k }) (by simp)).1;obtain⟨m,hm,_⟩:=I1.loc;obtain⟨oC,es,ep,FQ,FR,_⟩:=id hm;obtain⟨IX,nv⟩:=UZ I mY pf hD hC Au f2 I1.unpinned hn FP rv hz FQ (by intro v z;rw[FR] at z;cases z);exact BY D C oC m s1 _ IX hm nv (q D hn)
 ·refine thn (T.item (cxC X N' scope cl C D fp s₀ H2) rfl rfl rfl mC i _ s σ' H' (fun _ _=>False) pD (nK fr) nz go) fun r s1 ⟨u,hr,h4⟩=>?_;subst hr;refine thn h4 fun _ s2 ⟨x5,H5,I5,r5,y5,st5,fr5⟩=>?_;have I5':=I5.pinned (nK fr5) (T.obj _ _ st5);refine thn (hg _ s2 σ' H5 x5 u _ I5' r5 (step x5 H5 y5)) fun _ s3 ⟨σ6,H6,I6,q6⟩=>?_;refine thn (ht _ s3 σ6 H6 _ I6 q6) fun ok s4 ⟨H7,I7,q7⟩=>?_;have stay:∀{σ7:L2.St} {H7:Hp} {s7:Shared},Inv (cxC X N' scope cl C D fp s₀ H2) (mw++[(D,{ cls:=.type "list",data:=.seq us.toArray k })]++vE fp s2.heap) σ7 H7 s7→
    (∀b∈fp,∀o,s2.heap.get? b=some o->s7.heap.get? b=some o)/\(∀b∈fp,H7 b=none)/\H7 D=none/\s7.heap.get? D=some { cls:=.type "list",data:=.seq us.toArray k }:=fun{σ7 H7 s7} I7=>by
   have d:=I7.pin (D,{ cls:=.type "list",data:=.seq us.toArray k }) (by simp);refine⟨fun b hb o e=>(I7.pin (b,o) (aM _ (aM _ (yM hb e)))).1,fun b hb=>?_,d.2.1,d.1⟩;obtain⟨o,e,_⟩:=T.obj _ _ st5 b hb;exact(I7.pin (b,o) (aM _ (aM _ (yM hb e)))).2.1
  cases ok with
  |false =>
   rw[if_neg (by decide)] at q7 ⊢;obtain⟨k1,k2,k3,k4⟩:=stay I7;obtain⟨m',hm,w7⟩:=hN ys σ6 H7 q7;exact⟨m',hm,i+1,ys,us,k,σ6,H7,I7.unpinned.unpinned,T.keep _ _ _ st5 k1,k2,k3,k4,rv,hz,w7⟩
  |true =>
   rw[if_pos rfl] at q7 ⊢;refine thn (he _ s4 σ6 H7 _ I7 q7) fun v s5 ⟨y,H8,I8,r8,hl8,n8⟩=>?_;obtain⟨k1,k2,k3,k4⟩:=stay I8;refine wpAny_list_append_plain (l:=D) ⟨k,k4⟩ (fun h' pl sb=>?_) (by rw[aO,←rv.length];exact hz);obtain⟨k',e'⟩:=pl;obtain⟨m',hm,w8⟩:=hN _ σ6 H8 n8;refine⟨m',hm,i+1,ys++[y],us++[v],k',σ6,H8,?_,T.keep _ _ _ (T.keep _ _ _ st5 k1) fun b hb o e=>sb.extBut b o (aT (aN (ph b hb) hD)) e,k2,k3,?_,rv.append (.cons r8 .nil),?_,w8⟩
   ·exact(I8.unpinned.unpinned).turned (it:=D) (t':=s5.toks) (h':=h') (fun b o hb e=>sb.extBut b o hb e) k3 Au (.inl (by simp)) (fun x c e=>aT (aN (cells x c e) hD)) (fun p hp=>aT (aN (pN p hp) hD))
   ·rw[e'];simp
   ·rw[aI];exact hl8
theorem tU{tg:Expr}{pos:Pos}{om iter:Expr}{mI:List Expr}{g:TG}{tt:TT}{te:TE}{E:VS7}{Q:VK}{RR:Value->Addr->Result->Shared->Prop}
  (I:Inv X mw σ H2 s₂) (mC:X.calm=true) (T:Turn X.prog X.w X.K tg J fp it tn) (st:tn 0 s₂.heap) (f2:∀b∈fp,vz X mw H2 b)
  (S:CSc X scope N' sub) (mM:∀x c,cl.lookup x=some c->X.env.cells.lookup x=some c) (nB:∀y∈scope.names,y.2=.free->∃c,cl.lookup y.1=some c)
  (hg:∀C D fp s H,PG (cxC X N' scope cl C D fp s H) tg g) (ht:∀C D fp s H,UG (cxC X N' scope cl C D fp s H) mI tt) (he:∀C D fp s H,PE (cxC X N' scope cl C D fp s H) om te)
  (hW:jL J (UH sub σ) H2 g tt te Q)
  (BY:∀(D C:Addr) (oC:Obj) (m:Str->Option Value) (s':Shared) (Hf:Hp),Inv X (mw++[(C,oC)]) σ Hf s'->s'.heap.Ns C m->vz X mw Hf C->Q (.ref D) Hf->RR (.ref D) C (.ok .next) s') :
  wpAny (model X.prog X.w) X.A (newList []) (fun mG s₃=>wpAny (model X.prog X.w) X.A (newFunctionEnv scope X.env.globals cl [] X.env.qual none .none (some X.env)) (fun Aw s₄ =>
   codeAny (model X.prog X.w) X.A (.compStart (.ListComp om [⟨tg,iter,mI,0⟩] scope pos) 0 (.ref it) mG { Aw with scope:=relabel scope X.env }) (RR mG Aw.locals) s₄) E s₃) E s₂:=by
 obtain⟨W,⟨m0,w0⟩,m4⟩:=hW;refine bS (wpAny_newFunctionEnv S.nocell (by intro y hy;simp at hy) (fun h₁ ng nh=>?_) S.kind);dsimp only at ng nh ⊢;have hC:(s₂.heap.push { cls:=.type "list",dict:=none,data:=.seq ([]:List Value).toArray }).objs.size=s₂.heap.objs.size+1:=dQ ..;rw[hC] at ng nh ⊢;have hk:∀b o,(s₂.heap.push { cls:=.type "list",dict:=none,data:=.seq ([]:List Value).toArray }).get? b=some o->h₁.get? b=some o:=fun b o e =>
  nh.extBut b o (by have:=aQ e;rw[hC] at this;exact aT this) (aD _ e)
 have ph:∀b∈fp,b<s₂.heap.objs.size:=fun b hb=>by
  obtain⟨o,e,_⟩:=T.obj _ _ st b hb;exact aQ e
 have I0:=rH (tk:=s₂.toks+([]:List (Str×Value)).length) I S mM nB f2 ph ng hk;have FS:h₁.get? s₂.heap.objs.size=some { cls:=.type "list",data:=.seq ([]:List Value).toArray 0 }:=hk _ _ (aL _ rfl);have loop:codeAny (model X.prog X.w) X.A (.compLoop (.ListComp om [⟨tg,iter,mI,0⟩] scope pos) 0 (.ref it) (.ref s₂.heap.objs.size) (compEnvC scope cl (s₂.heap.objs.size+1) X.env)) (RR (.ref s₂.heap.objs.size) (s₂.heap.objs.size+1)) { s₂ with heap:=h₁,toks:=s₂.toks+([]:List (Str×Value)).length } :=
  Vs (s₀:={ s₂ with heap:=s₂.heap.push { cls:=.type "list",dict:=none,data:=.seq ([]:List Value).toArray } }) (C:=s₂.heap.objs.size+1) (D:=s₂.heap.objs.size) I mC T f2 ph (fun b o e=>aD _ e) rfl (aE _) (eB _) (aT (cS _)) mM (hg _ _ _ _ _) (ht _ _ _ _ _) (he _ _ _ _ _) m4 BY m0 _
   ⟨0,[],[],0,UH sub σ,H2,I0,T.keep _ _ _ st fun b hb o e=>hk b o (aD _ e),fun b hb=>(f2 b hb).1,I.hok.fresh (aE _),FS,.nil,aX _,w0⟩
 exact codeAny_compStart_list loop (T.self _ _ _ _ _ (T.keep _ _ _ st fun b hb o e=>hk b o (aD _ e)) loop)
end
section
variable{X:Cx}{scope:Scope}{N':List Str}{sub:List (Option Nat)}{tg:Expr}{pos:Pos}{om iter:Expr}{mI:List Expr}{wi:TI}{g:TG}{tt:TT}{te:TE}
theorem wO(S:CSc X scope N' sub)(mC:X.calm=true)(hi:PI X tg iter wi)
  (hg:∀cl C D fp s H,PG (cxC X N' scope cl C D fp s H) tg g) (ht:∀cl C D fp s H,UG (cxC X N' scope cl C D fp s H) mI tt) (he:∀cl C D fp s H,PE (cxC X N' scope cl C D fp s H) om te)
  (hs:∀x,dZ iter X.env x=pure x:=by intro _;rfl):PE X (.ListComp om [⟨tg,iter,mI,0⟩] scope pos) (QI wi sub g tt te):=by
 intro mw s σ H Q I h;obtain⟨cl,oQ,mM,nB⟩:=S.clos I;rw[eval_ListComp];refine im (use:=none) rfl hs oQ S.kind S.names (thn (hi mw s σ H _ I h) fun v s1 h1=>thn h1 fun CI s2 h2=>?_);obtain⟨it,fp,tn,J,H2,e,I2,T,BQ,f2,hW⟩:=h2;subst e;refine tU (RR:=fun mG C=>compPost (model X.prog X.w) X.A X.xe none (EP X mw σ Q) mG C) I2 mC T BQ f2 S mM nB (hg cl) (ht cl) (he cl) hW ?_;intro D C oC m s' Hf IX hm nv q;refine⟨m,hm,fun h' sb=>⟨.ref D,Hf,?_,rfl,q⟩⟩;exact(IX.unpinned).turned (it:=C) (t':=s'.toks) (h':=h') (fun b o hb e=>sb.extBut b o hb e) nv.1 nv.2.1 nv.2.2.2.1 nv.2.2.2.2.1 nv.2.2.2.2.2
theorem qB{i:Nat}{y:Str}{py DC:Pos}(hN:X.N.Nodup)(hiN:X.N[i]?=some y)(hy:X.env.scope.names.lookup y=some .local)(S:CSc X scope N' sub)(mC:X.calm=true)(hi:PI X tg iter wi)
  (hg:∀cl C D fp s H,PG (cxC X N' scope cl C D fp s H) tg g) (ht:∀cl C D fp s H,UG (cxC X N' scope cl C D fp s H) mI tt) (he:∀cl C D fp s H,PE (cxC X N' scope cl C D fp s H) om te)
  (ER:swapsWith (.ListComp om [⟨tg,iter,mI,0⟩] scope pos) (some (.Name y py)) DC.line X.env=pure true:=by rfl)
  (hs:∀x,dZ iter X.env x=pure x:=by intro _;rfl):PS X (.Assign [.Name y py] (.ListComp om [⟨tg,iter,mI,0⟩] scope pos) DC) (Jx (QI wi sub g tt te) (uk i)):=by
 intro mw s σ H D I h;obtain⟨cl,oQ,mM,nB⟩:=S.clos I;rw[exec_Assign_Name_used _ _ _ _ ER];refine aA (eF (aA ?_));show wpAny _ X.A (do let _←comprehension (.ListComp om [⟨tg,iter,mI,0⟩] scope pos) scope X.env _ (newList []) false (eval iter X.env) (some (i5 (.Name y py) X.env))) _ _ s;refine aA (cB (im (use:=some (i5 (.Name y py) X.env)) (Q:=fun _ s'=>SP X mw D .next s') rfl hs oQ S.kind S.names
  (thn (hi mw s σ H _ I h) fun v s1 h1=>thn h1 fun CI s2 h2=>?_)) (fun _ s' hq=>aF (aF hq)) fun _ _ e=>e)
 obtain⟨it,fp,tn,J,H2,e,I2,T,BQ,f2,hW⟩:=h2;subst e;refine tU (Q:=fun x H1=>uk i x σ H1 D.nx) (RR:=fun mG C=>compPost (model X.prog X.w) X.A X.xe (some (i5 (.Name y py) X.env)) (fun _ s'=>SP X mw D .next s') mG C) I2 mC T BQ f2 S mM nB (hg cl) (ht cl) (he cl) hW ?_;intro L C oC m s' Hf IX hm nv q;have st:=zm (X:=X) (pos:=py) hN hiN (.inl hy) (.inr hy) _ s' σ Hf (.ref L) (.ref L) D.nx IX rfl q;refine thn st fun _ Bb ⟨σ2,H2,I2',q2⟩=>?_;have p:=I2'.pin (C,oC) (by simp);have Bf:Bb.heap.Ns C m:=by
  obtain⟨o,es,ep,e1,r⟩:=hm;have z:=(IX.pin (C,oC) (by simp)).1;rw[e1] at z;cases z;exact⟨_,es,ep,p.1,r⟩
 refine⟨m,Bf,fun h' sb=>⟨σ2,H2,?_,q2⟩⟩;exact(I2'.unpinned).turned (it:=C) (t':=Bb.toks) (h':=h') (fun b o hb e=>sb.extBut b o hb e) p.2.1 nv.2.1 nv.2.2.2.1 nv.2.2.2.2.1 nv.2.2.2.2.2
end
section
variable{prog:Program}{w:World}{A:Around}{E:VS7}{s:Shared}
def XS(h:Heap)(a:Addr)(cn:String)(vs:Array Value):Prop:=(cn = "tuple_iterator" /\h.IsTuple a vs)\/(cn = "list_iterator" /\h.IsList a vs)
theorem XS.iter{a:Addr}{cn:String}{vs:Array Value}{Q:VS7}(h:XS s.heap a cn vs)
  (q:Q (.ref s.heap.objs.size) { s with heap:=s.heap.push { cls:=.type cn,data:=.fields #[.ref a,.int 0 0] } }):wpAny (model prog w) A (pyIter (.ref a)) Q E s:=by
 rcases h with ⟨rfl,h⟩|⟨rfl,h⟩
 ·exact km h q
 ·exact fe h q
noncomputable def zpO(c:String)(a:Addr):Obj:={ cls:=.type c,data:=.fields #[.ref a,.int 0 0] }
end
def SqC(c:Bool)(K:FG7)(H:Hp)(a:Addr)(xs:List V):Prop:=match c with
 |true=>SqT K H a xs
 |false=>SqL K H a xs
def tV(c:Bool)(h:Heap)(j a:Addr)(i:Nat):Prop:=match c with
 |true=>h.IsTupleIter j a i
 |false=>h.IsListIter j a i
def Tc(c:Bool)(h:Heap)(a:Addr)(vs:Array Value):Prop:=match c with
 |true=>h.IsTuple a vs
 |false=>h.IsList a vs
noncomputable def cnC(c:Bool):String:=match c with
 |true=>"tuple_iterator"
 |false=>"list_iterator"
theorem tV.at{c:Bool}{h h':Heap}{j a:Addr}{i:Nat}(x:tV c h j a i)(k:∀o,h.get? j=some o->h'.get? j=some o):tV c h' j a i:=by
 cases c
 ·exact Heap.IsListIter.at x k
 ·exact Heap.IsTupleIter.at x k
theorem tV.obj{c:Bool}{h:Heap}{j a:Addr}{i:Nat}(x:tV c h j a i):∃o,h.get? j=some o/\∀v,o.data≠.cell v:=by
 cases c
 ·obtain⟨o,e,_,d⟩:=x;exact⟨o,e,fun v z=>by rw[d] at z;cases z⟩
 ·obtain⟨o,e,_,d⟩:=x;exact⟨o,e,fun v z=>by rw[d] at z;cases z⟩
theorem tV.mk{c:Bool}{h:Heap}{j a:Addr}(e:h.get? j=some (zpO (cnC c) a)):tV c h j a 0:=by
 cases c
 ·exact⟨_,e,rfl,rfl⟩
 ·exact⟨_,e,rfl,rfl⟩
theorem Tc.src{c:Bool}{h:Heap}{a:Addr}{vs:Array Value}(x:Tc c h a vs):XS h a (cnC c) vs:=by
 cases c
 ·exact .inr ⟨rfl,x⟩
 ·exact .inl ⟨rfl,x⟩
theorem Tc.lt{c:Bool}{h:Heap}{a:Addr}{vs:Array Value}(x:Tc c h a vs):a<h.objs.size:=by
 cases c
 ·obtain⟨_,e,_⟩:=(show h.IsList a vs from x);exact aQ e
 ·obtain⟨_,e,_⟩:=(show h.IsTuple a vs from x);exact aQ e
theorem QU{prog:Program}{w:World}{A:Around}(hh:A.handled=none)(c:Bool)(j t:Addr)(oP:t≠j)(vs:Array Value) :
  Draws prog w A j [j,t] vs.size (fun i v=>vs[i]?=some v) (fun i h=>tV c h j t i/\Tc c h t vs):=by
 cases c
 ·exact Draws.list hh j t oP vs
 ·exact Vl hh j t oP vs
theorem XT{prog:Program}{w:World}{A:Around}(hh:A.handled=none)(jt t:Addr)(vs:Array Value){i:Nat}(hv:vs[i]?=none) :
  Draws prog w A jt [jt,t] i (fun _ _=>True) (fun j h=>j=i/\h.IsListIter jt t i/\h.IsList t vs) where
 live:=fun _ _ st=>let ⟨o,ho,_⟩:=st.2.1;⟨o,ho⟩
 frame:=fun _ _ _ st hk=>⟨st.1,st.2.1.at (hk jt (by simp)),st.2.2.at (hk t (by simp))⟩
 item:=fun j s Q E hj st hQ=>absurd st.1 (aT hj)
 done:=fun s Q E st hE=>wpAny_nextOf_list_end hh st.2.1 st.2.2 hv hE
theorem XU{prog:Program}{w:World}{A:Around}(hh:A.handled=none)(c:Bool)(j t:Addr)(vs:Array Value){i:Nat}(hv:vs[i]?=none) :
  Draws prog w A j [j,t] i (fun _ _=>True) (fun k h=>k=i/\tV c h j t i/\Tc c h t vs):=by
 cases c
 ·exact XT hh j t vs hv
 ·exact Vm hh j t vs hv
theorem qC{X:Cx}{mw:List (Addr×Obj)}{σ:L2.St}{H:Hp}{s:Shared}{c:Bool}{a:Addr}{xs:List V}(I:Inv X mw σ H s)(h:SqC c X.K H a xs):∃its:List Value,zZ xs its/\Tc c s.heap a its.toArray:=by
 cases c
 ·obtain⟨its,r,p,_⟩:=I.list h;exact⟨its,r,p.isList⟩
 ·obtain⟨its,r,p,_⟩:=I.tuple h;exact⟨its,r,p⟩
theorem jV{X:Cx}{mw:List (Addr×Obj)}{σ:L2.St}{H:Hp}{s:Shared}{c:Bool}{a:Addr}{xs ys:List V}(I:Inv X mw σ H s)(h:SqC c X.K H a xs)(h':SqC c X.K H a ys):xs=ys:=by
 cases c
 ·exact I.list_inj h h'
 ·exact I.tuple_inj h h'
section
variable{prog:Program}{w:World}{A:Around}{E:VS7}{s:Shared}
open PySem.AutoSeq1 (wpAny_loadPart')
theorem Vt(t:Addr)(c:Bool)(vs:Array Value) :
  Meets (Builtin.«enumerate.__new__» ⟨[.type "enumerate",.ref t],[]⟩) (fun _ R s=>Tc c s.heap t vs∧
   R (.ok (.ret (.ref (s.heap.push (zpO (cnC c) t)).objs.size)))
    { s with heap:=(s.heap.push (zpO (cnC c) t)).push { cls:=.type "enumerate",data:=.fields #[.none,.bool false,.ref s.heap.objs.size,rawInt 0,.none,.none] } }) :=
 .of_wp fun prog w A R s h=>by
  obtain⟨hp,g,d,tk,os⟩:=s;obtain⟨hT,h⟩:=h;have hT':XS (Shared.heap ⟨hp,g,d,tk,os⟩) t (cnC c) vs:=hT.src;obtain⟨ot,Be⟩:∃o,hp.get? t=some o:=by
   cases c
   ·obtain⟨o,e,_⟩:=(show hp.IsList t vs from hT);exact⟨o,e⟩
   ·obtain⟨o,e,_⟩:=(show hp.IsTuple t vs from hT);exact⟨o,e⟩
  have Ax:=sub_enumerate
  wp_walk using wpAny_loadPart' Be
  refine wpAny_stack_any fun st=>aF ?_;split
  ·rename_i c' _ _ _ _ _;cases(c' == cI "enumerate") <;> (wp_walk using wpAny_loadPart' Be,XS.iter hT') <;> exact⟨_,rfl,h⟩
  ·wp_walk using wpAny_loadPart' Be,XS.iter hT'
   exact⟨_,rfl,h⟩
theorem XV{t:Addr}{c:Bool}{vs:Array Value}{Q:VS7}(ht:Tc c s.heap t vs)
  (h:∀h',IsEnum h' (s.heap.objs.size+1) s.heap.objs.size 0 .none->tV c h' s.heap.objs.size t 0->h'.objs.size=s.heap.objs.size+2->(∀b o,s.heap.get? b=some o->h'.get? b=some o)->Q (.ref (s.heap.objs.size+1)) { s with heap:=h' }) :
  wpAny (model prog w) A (call (.type "enumerate") [.ref t]) Q E s:=by
 refine callType_new F.called_enumerate (by decide) (F.typeCall_enumerate_1 _) (F.newCall_enumerate_1 _) (fun obj=>F.args_object_init_2 obj _) F.entry_enumerate_new (Vt t c vs) ⟨ht,?_⟩;have hz:(s.heap.push (zpO (cnC c) t)).objs.size=s.heap.objs.size+1:=dQ ..;show _/\_;rw[hz];have he:IsEnum ((s.heap.push (zpO (cnC c) t)).push { cls:=.type "enumerate",data:=.fields #[.none,.bool false,.ref s.heap.objs.size,rawInt 0,.none,.none] }) (s.heap.objs.size+1) s.heap.objs.size 0 .none:=by
  have:=aL (s.heap.push (zpO (cnC c) t)) (o:={ cls:=.type "enumerate",data:=.fields #[.none,.bool false,.ref s.heap.objs.size,rawInt 0,.none,.none] }) rfl;rw[hz] at this;exact this
 exact⟨⟨_,he,rfl⟩,h _ he (.mk (aD _ (aL _ rfl))) (by rw[dQ,dQ]) fun b o x=>aD _ (aD _ x)⟩
end
noncomputable def J5(c:Bool)(K:FG7)(a:Addr):It :=
 ⟨fun i H=>∃xs x,SqC c K H a xs/\xs[i]?=some x,fun i H x H'=>∃T v,H T=none/\x=.ref T/\H'=upd H T (.tup [.int i,v])/\∀xs,SqC c K H a xs->xs[i]?=some v,fun i H=>∃xs,SqC c K H a xs/\xs.length<=i⟩
theorem XW{P:Program}{w:World}{K:FG7}{oo:List Expr}{kt:Nat}{pt:Pos}(c:Bool)(a e jt:Addr)(FT:e≠jt)(hae:a≠e)(FU:a≠jt) :
  Turn P w K (.Tuple oo kt pt) (J5 c K a) [e,jt] e (fun i h=>(∃old,IsEnum h e jt i old)/\tV c h jt a i) where
 mem:=by simp
 obj:=fun i h st b hb=>by
  obtain⟨⟨old,he⟩,st⟩:=st;simp only[aS,hV,or_false] at hb;rcases hb with rfl|rfl
  ·exact⟨_,he,fun v z=>by cases z⟩
  ·exact st.obj
 keep:=fun i h h' st k=>by
  obtain⟨⟨old,he⟩,st⟩:=st;exact⟨⟨old,k e (by simp) _ he⟩,st.at fun o q=>k jt (by simp) o q⟩
 item:=by
  intro X hP hw hK hc i mw s σ H E I hf st hg;subst hP hw hK;obtain⟨⟨old,he⟩,mW⟩:=st;obtain⟨xs,x,hq,hx⟩:=hg;obtain⟨its,rv,p⟩:=qC I hq;obtain⟨u,hu,ru⟩:=rv.get hx;have mE:i<its.toArray.size:=by have:=(aZ.mp hu).1;simpa using this
  refine wpAny_pyNext_enum_itemD (QU (A:=X.A.in1) (I.ok.hd hc) c jt a FU its.toArray) he ⟨mW,p⟩ mE FT (by simp[FT,Ne.symm hae]) fun v h1 tk hv FV BZ hT hsz hk=>?_;have hvu:v=u:=by
   have e1:its.toArray[i]?=some v:=hv;have e2:its.toArray[i]?=some u:=by simpa using hu
   rw[e1] at e2;exact bH e2
  subst hvu;refine⟨_,rfl,wpAny_letOwnedTupleGo_enum (s:={ s with heap:=h1,toks:=tk+1 }) FV fun h2 he2 oJ=>?_⟩;have hk2:∀b o,b∉[e,jt]->s.heap.get? b=some o->h2.get? b=some o:=fun b o hb q=>by
   have n1:b≠e:=fun z=>hb (by simp[z]);have n2:b≠jt:=fun z=>hb (by simp[z]);exact(oJ.2 b n1).trans (hk b o n1 n2 q)
  have eT:s.heap.objs.size≠e:=eZ (aQ he);have hT2:h2.get? s.heap.objs.size=some { cls:=.type "tuple",data:=.seq #[.int i tk,v] }:=(oJ.2 _ eT).trans hT;have hn:H s.heap.objs.size=none:=I.hok.fresh (aE _);have I2:Inv X mw σ (upd H s.heap.objs.size (.tup [.int i,x])) { s with heap:=h2,toks:=tk+1 }:=Tb (s:=s) I hk2 hf (aE _) ⟨by show 2<=sizeLine;decide,[.int i tk,v],.cons ⟨_,rfl⟩ (.cons ru .nil),_,hT2,rfl,0,rfl⟩;refine⟨.ref s.heap.objs.size,upd H s.heap.objs.size (.tup [.int i,x]),I2,rfl,⟨_,x,hn,rfl,rfl,fun ys hy=>by rw[jV I hy hq];exact hx⟩,⟨⟨v,by simpa using he2⟩,?_⟩,fun b hb=>?_⟩
  ·exact BZ.1.at fun o q=>(oJ.2 jt (Ne.symm FT)).trans q
  ·have nb:b≠s.heap.objs.size:=by
    obtain⟨oj,AZ,_⟩:=mW.obj;simp only[aS,hV,or_false] at hb;rcases hb with rfl|rfl
    ·exact Ne.symm eT
    ·exact aT (aQ AZ)
   rw[zB nb];exact(hf b hb).1
 done:=by
  intro X hP hw hK hc i mw s σ H E I hf st hg;subst hP hw hK;obtain⟨⟨old,he⟩,mW⟩:=st;obtain⟨xs,hq,hx⟩:=hg;obtain⟨its,rv,p⟩:=qC I hq;have hl:=rv.length;refine wpAny_pyNext_enum_endD (XU (A:=X.A.in1) (I.ok.hd hc) c jt a its.toArray (i:=i) (by simp;omega)) he ⟨rfl,mW,p⟩ fun h' eb=>⟨rfl,?_⟩
  exact Vn (fp:=[e,jt]) (t':=s.toks) I (fun b o hb q=>eb b o (fun z=>hb (by simp[z])) q) hf
 self:=fun _ _ _ _ _ st h=>by
  obtain⟨⟨old,he⟩,_⟩:=st;exact wpAny_pyIter_enum he h
section
variable{X:Cx}{oo:List Expr}{kt:Nat}{pt:Pos}{K:FG7}
def QV(c:Bool)(K:FG7)(ta:TA):TI:=fun σ H R=>ta σ H fun vs H1=>∃a xs,vs=[.ref a]/\SqC c K H1 a xs/\R (J5 c K a) H1
theorem Y7{a:Expr}{ta:TA}{p pos:Pos}(c:Bool)(hK:X.K=K)(hg:Gl X "enumerate")(hm:X.mg "enumerate" = none)(ha:PA X [a] ta)(hs:bP [a] X.env=[(false,eval a X.env)]:=by rfl) :
  PI X (.Tuple oo kt pt) (.Call (.Name "enumerate" p) [a] [] pos) (QV c K ta):=by
 subst hK;intro mw s σ H R I h;refine Call_ (vB I hg hm QS (cM (thn (ha pos mw s σ H _ I h) fun us s1 ⟨vs,H1,I1,r1,q1⟩=>?_) hs rfl));obtain⟨t,xs,e,hq,q⟩:=q1;subst e;obtain⟨u,rfl,e1⟩:=wC r1;cases(show u=bK t from e1);obtain⟨its,rv,p⟩:=qC I1 hq;refine XV p fun h' he mW _ hk=>?_;refine wpAny_pyIter_enum he ?_;have lt:t<s1.heap.objs.size:=p.lt;have I2:Inv X mw σ H1 { s1 with heap:=h' }:=I1.kept (t':=s1.toks) hk;refine⟨s1.heap.objs.size+1,[s1.heap.objs.size+1,s1.heap.objs.size],_,_,H1,rfl,I2,XW c t (s1.heap.objs.size+1) s1.heap.objs.size (Nat.succ_ne_self _) (aT (eC lt)) (aT lt),⟨⟨_,he⟩,mW⟩,fun b hb=>?_,q⟩;simp only[aS,hV,or_false] at hb;rcases hb with rfl|rfl
 ·exact I1.fpOk (eB _) (I1.hok.fresh (eB _))
 ·exact I1.fpOk (aE _) (I1.hok.fresh (aE _))
end
section
variable{K:FG7}{a:Addr}{c:Bool}{xs:List V}{g:TG}{tt:TT}{te:TE}{tb:TS}{D:Ends}{Q:VK}{σ:L2.St}{H:Hp}
theorem rL(Pv:Nat->List V->L2.St->Hp->Prop)(h0:Pv 0 [] σ H)(hl:∀i zs σ H,Pv i zs σ H->SqC c K H a xs)
  (hs:∀i x zs σ H T,xs[i]?=some x->Pv i zs σ H->H T=none->g (.ref T) σ (upd H T (.tup [.int i,x])) fun σ2 H3=>tt σ2 H3 fun b H4=>if b=true then te σ2 H4 fun y H5=>zs.length<sizeLine/\Pv (i+1) (zs++[y]) σ2 H5 else Pv (i+1) zs σ2 H4)
  (hd:∀zs σ H,Pv xs.length zs σ H->∀l,H l=none->Q (.ref l) (upd H l (.lst zs))) :
  jL (J5 c K a) σ H g tt te Q:=by
 refine⟨fun i m zs σ H=>m=xs.length-i/\i<=xs.length/\Pv i zs σ H,⟨xs.length,by simp,aX _,h0⟩,?_⟩;rintro i m zs σ H ⟨rfl,hi,p⟩;have q:=hl i zs σ H p;by_cases mE:i<xs.length
 ·refine .inr ⟨⟨xs,xs[i],q,by simp[mE]⟩,Pv (i+1),fun ws σ' H' p'=>⟨xs.length-(i+1),by omega,rfl,mE,p'⟩,fun x H' y=>?_⟩;obtain⟨T,v,hT,rfl,rfl,y1⟩:=y;exact hs i v zs σ H T (y1 xs q) p hT
 ·have e:i=xs.length:=by omega
  subst e;exact .inl ⟨⟨xs,q,aE _⟩,hd zs σ H p⟩
end
section
variable{X:Cx}
variable{K:FG7}
theorem Vu{es:List Expr}{k:Nat}{pos:Pos}{t:TGs}(n:Nat)(h0:X.K=K)(hc:X.calm=true)(h:PGs X es t)
  (hn:(fh es X.env).length=n) (oh:(fh es X.env).findIdx? (·.1)=none):PG X (.Tuple es k pos) (zax K n t):=by subst h0;exact xA hc h hn oh
end
def InC(C:Int)(xs:List Int):Prop:=∀v∈xs,-C<=v/\v<=C
theorem wb:∀{ns:List Int} {us:List Value},fL us ns->zZ (ns.map V.int) us:=by
 intro ns us h;induction h with
 |nil=>exact .nil
 |cons n t _ ih=>exact .cons ⟨t,rfl⟩ ih
section
variable{X:Cx}{K:FG7}
theorem jW(hK:X.K=K):xV X (.builtin "sorted") (fun xs H Q=>∃(l:Addr) (ns:List Int),xs=[.ref l]/\SqL K H l (ns.map V.int)/\ns.length<64/\∀(p:Addr) (ms:List Int),H p=none->ms.Perm ns->ms.Pairwise (·<=·)->Q (.ref p) (upd H p (.lst (ms.map V.int)))):=by
 subst hK;intro mw s σ H xs us Q I r h;obtain⟨l,ns,rfl,hl,h64,q⟩:=h;obtain⟨u,rfl,rx⟩:=wC r;cases(show u=bK l from rx);obtain⟨vs,rv,pl,hz⟩:=I.list hl;have my:=rv.length;rw[aG] at my hz;refine sorted_ints pl.isList (rF rv) (by omega) fun out ms i1 i2 i3=>?_;obtain⟨e,he⟩:=sortedAll_at s.heap vs out;have hn:H (s.heap.objs.size+1)=none:=I.hok.fresh (eB _);have rl:=wb i1;refine⟨.ref (s.heap.objs.size+1),_,?_,rfl,q _ ms hn i2 i3⟩;refine I.laid (t':=s.toks) (fun b o q=>sortedAll_old q) (eB _) (show yf X.prog X.w _ _ _ (.lst (ms.map V.int)) from⟨by rw[aG,i2.length_eq];exact hz,out.toList,e,rl,he⟩)
end
noncomputable def xN(k st a:Nat):Nat:=a ^^^ 2 ^ (k-st)
noncomputable def nN(k st a:Nat):Nat:=(Vo k a st).toNat
theorem Vv:∀k:Fin 5,∀st:Fin 5,1<=st.val->st.val<=k.val->∀a:Fin 16,a.val<2 ^ k.val→
  (swI k.val st.val a.val=Vo k.val a.val st.val/\Vo k.val a.val st.val=(nN k.val st.val a.val:Int)/\nN k.val st.val a.val<2 ^ (k.val-1)/\nN k.val st.val (xN k.val st.val a.val)=nN k.val st.val a.val)∧
  (xN k.val st.val (xN k.val st.val a.val)=a.val/\xN k.val st.val a.val≠a.val/\xN k.val st.val a.val<2 ^ k.val)∧
  (wfI k.val st.val a.val (bX (xO k.val st.val a.val) 0)=(a.val:Int)/\wfI k.val st.val a.val (bX (xO k.val st.val a.val) 1)=(xN k.val st.val a.val:Int))∧
  (bX (xO k.val st.val a.val) (xO k.val st.val (xN k.val st.val a.val))=1/\bX (xO k.val st.val a.val) (xO k.val st.val a.val)=0)∧
  ((bX (xO k.val st.val a.val) 0=0\/bX (xO k.val st.val a.val) 0=1)/\(bX (xO k.val st.val a.val) 1=0\/bX (xO k.val st.val a.val) 1=1)):=by
 decide +kernel
structure OneF(k st a:Nat):Prop where
 sw:swI k st a=Vo k a st
 num:Vo k a st=(nN k st a:Int)
 lt:nN k st a<2 ^ (k-1)
 nx:nN k st (xN k st a)=nN k st a
 xx:xN k st (xN k st a)=a
 xne:xN k st a≠a
 xlt:xN k st a<2 ^ k
 w0:wfI k st a (bX (xO k st a) 0)=(a:Int)
 w1:wfI k st a (bX (xO k st a) 1)=(xN k st a:Int)
 c1:bX (xO k st a) (xO k st (xN k st a))=1
 c0:bX (xO k st a) (xO k st a)=0
 b0:bX (xO k st a) 0=0\/bX (xO k st a) 0=1
 b1:bX (xO k st a) 1=0\/bX (xO k st a) 1=1
theorem zaF{k st a:Nat}(k4:k<=4)(s1:1<=st)(s2:st<=k)(ha:a<2 ^ k):OneF k st a:=by
 have p:=tR k4;obtain⟨⟨a1,a2,a3,a4⟩,⟨b1,b2,b3⟩,⟨c1,c2⟩,⟨d1,d2⟩,e1,e2⟩:=Vv ⟨k,by omega⟩ ⟨st,by omega⟩ s1 s2 ⟨a,by omega⟩ ha;exact⟨a1,a2,a3,a4,b1,b2,b3,c1,c2,d1,d2,e1,e2⟩
section
variable{X:Cx}{a:Expr}{ta:TA}{p p2 pos Ay:Pos}
def J6(ta:TA):TE:=fun σ H Q=>ta σ H fun vs H1=>∃n:Nat,vs=[.int n]/\n<=1000/\∀l,H1 l=none->Q (.ref l) (upd H1 l (.lst ((aR n).map fun i:Nat=>V.int i)))
theorem jX(hc:X.calm=true)(FX:Gl X "list")(hml:X.mg "list" = none)(hgr:Gl X "range")(hmr:X.mg "range" = none)(ha:PA X [a] ta)
  (hs:bP [a] X.env=[(false,eval a X.env)]:=by rfl) (oJ:bP [(.Call (.Name "range" p2) [a] [] Ay:Expr)] X.env=[(false,eval (.Call (.Name "range" p2) [a] [] Ay) X.env)]:=by rfl) :
  PE X (.Call (.Name "list" p) [.Call (.Name "range" p2) [a] [] Ay] [] pos) (J6 ta):=by
 intro mw s σ H Q I h;refine ge (vB I FX hml W7 (cM ?_ oJ rfl));rw[oJ];show wpAny _ _ (spliced [(false,eval (.Call (.Name "range" p2) [a] [] Ay) X.env)]) _ _ s;refine ga ?_;refine Call_ (vB I hgr hmr mf (cM (thn (ha Ay mw s σ H _ I h) fun us s1 ⟨vs,H1,I1,r1,q1⟩=>?_) hs rfl));obtain⟨n,e,hn,q⟩:=q1;subst e;obtain⟨u,rfl,e1⟩:=wC r1;obtain⟨t,rfl⟩:=e1;refine call_range_1 (iJ ?_);have I2:Inv X mw σ H1 { s1 with heap:=s1.heap.push { cls:=.type "range",data:=.fields #[.int 0 s1.toks,.int n t,.int 1 (s1.toks+1)] },toks:=s1.toks+1+1 }:=I1.kept fun b o e=>aD _ e;refine call_list_range (n:=n) (I.ok.hd hc) (IsRange.new ..) (small_one (by omega) (by omega) (by omega) (by omega)) (by rw[rangeSize_one];split <;> omega) (by omega) fun h' tk mG c' hk hS oR=>?_;have hvr:zZ ((aR n).map fun i:Nat=>V.int i) mG.toList:=by
  have my:mG.toList.length=n:=by rw[bJ];exact oR.1
  have mL:∀(m:Nat) (l:List Value) (j:Nat),l.length=m->(∀i v,l[i]?=some v->∃t,v=fV ((j+i:Nat):Int) t)->zZ ((List.range' j m).map fun i:Nat=>V.int i) l:=by
   intro m;induction m with
   |zero =>
    intro l j hl _;rw[iC.mp hl];exact .nil
   |succ m ih =>
    intro l j hl hv;match l,hl,hv with
    |x::l,hl,hv =>
     refine .cons ?_ (ih l (j+1) (by simpa using hl) fun i v h=>?_)
     ·obtain⟨t,e⟩:=hv 0 x rfl;exact⟨t,e⟩
     ·obtain⟨t,e⟩:=hv (i+1) v (by simpa using h);exact⟨t,by rw[e,show j+(i+1)=j+1+i by omega]⟩
  rw[List.range_eq_range'];refine mL n mG.toList 0 my fun i v h=>?_;obtain⟨t,e⟩:=oR.2 i v (by rw[←h];exact(eE).symm);exact⟨t,by rw[e];congr 1;omega⟩
 refine⟨.ref (s1.heap.push { cls:=.type "range",data:=.fields #[.int 0 s1.toks,.int n t,.int 1 (s1.toks+1)] }).objs.size,_,I2.laid (t':=tk) hk (aE _) (show yf X.prog X.w _ h' _ (.lst ((aR n).map fun i:Nat=>V.int i)) from⟨by rw[aG,cD];exact cG (zC hn),mG.toList,c',hvr,by simpa using hS⟩),rfl,q _ (I2.hok.fresh (aE _))⟩
end
noncomputable def zL(gs:List Nat):List V:=gs.map fun g:Nat=>V.int g
theorem rM{gs:List Nat}:zL gs=(gs.map fun g:Nat=>(g:Int)).map V.int:=by unfold zL;rw[bZ];rfl
theorem tW{gs:List Nat}{i:Nat}{x:V}(h:(zL gs)[i]?=some x):i<gs.length/\x=.int (gs.getD i 0:Nat):=by
 unfold zL at h;rw[bN] at h;cases e:gs[i]? with
 |none=>rw[e] at h;cases h
 |some g =>
  rw[e] at h;refine⟨(aZ.mp e).1,?_⟩;rw[aJ,e];exact(bH h).symm
section
variable{prog:Program}{w:World}{A:Around}{E:VS7}{s:Shared}
theorem Td{l:Addr}{us:List Value}{Q:List Value->Shared->Prop}(tu:s.heap.IsTuple l us.toArray)(hu:us.length<=sizeLine)
  (q:Q us { s with heap:=(s.heap.push (seqObj "list" #[] 0)).update s.heap.objs.size (cL (·++us.toArray)) }):wpAny (model prog w) A (collect (.ref l)) Q E s:=by
 obtain⟨ob,eo,ec,m,ed⟩:=id tu;have DD:(s.heap.push (seqObj "list" #[] 0)).get? l=some ob:=aD _ eo;unfold collect;refine aA (kA (dA entry_proto_collect' (show wpAny _ _ (do again (.builtin "list.__iadd__" ⟨[←newList [],.ref l],[]⟩)) _ _ s from ?_)));refine aA (io (aF ⟨kB _ (by decide +kernel),dA entry_list_iadd' (show wpAny _ _ (dN (.ref s.heap.objs.size) (.ref l) (.ref s.heap.objs.size)) _ _ { s with heap:=s.heap.push (seqObj "list" #[] 0) } from ?_)⟩));unfold dN;refine aA (fK (T:="tuple") ⟨ob,DD,ec⟩ ?_);have k1:(cI "tuple" == cI "tuple")=true:=rfl;rw[if_pos (by simp[k1])];refine aA (kh DD ed (aA (kh (xs:=#[]) (n:=0) (aL _ rfl) rfl ?_)));rw[if_neg (by simp)];refine aA (iY (xs:=#[]) (n:=0) (aL _ rfl) rfl (aF ?_) (aX _) (by show(#[]++us.toArray).size<=sizeLine+1;simp only[Array.size_append,aO,gB];omega));refine aA (me (lM (aL _ rfl) _) ?_);show wpAny _ _ (pure ((#[]:Array Value)++us.toArray).toList) Q E _;rw[show((#[]:Array Value)++us.toArray).toList=us by simp];exact aF q
theorem XX{l:Addr}{us:List Value}{ns:List Int}{Q:VS7}(tu:s.heap.IsTuple l us.toArray)(iu:fL us ns)(u64:us.length<64)
  (q:∀(out:Array Value) (ms:List Int),fL out.toList ms->ms.Perm ns->ms.Pairwise (·<=·)->Q (.ref (s.heap.objs.size+1)) { s with heap:=sortedAll s.heap us out }) :
  wpAny (model prog w) A (call (.builtin "sorted") [.ref l]) Q E s:=by
 refine hZ kind_sorted plain_sorted entry_sorted (args_sorted1 _) ?_;unfold Builtin.«sorted»;refine aA (m:=checkCount "sorted" 1 1 _) (aF (aA (Td tu (by rw[eQ];omega) (aA (io ?_)))));have e1:((s.heap.push (seqObj "list" #[] 0)).update s.heap.objs.size (cL (·++us.toArray))).objs.size=s.heap.objs.size+1:=by rw[Heap.size_update,size_push']
 have e2:(((s.heap.push (seqObj "list" #[] 0)).update s.heap.objs.size (cL (·++us.toArray))).push (seqObj "list" us.toArray 0)).get? (s.heap.objs.size+1)=some (seqObj "list" us.toArray 0):=by
  rw[←e1];exact aL _ rfl
 show wpAny _ _ _ _ _ { s with heap:=((s.heap.push (seqObj "list" #[] 0)).update s.heap.objs.size (cL (·++us.toArray))).push (seqObj "list" us.toArray 0) };rw[e1];refine aA (bT (cK lW ⟨_,e2,rfl⟩ lN (list_sort_tree e2 iu u64 fun out ms b1 b2 b3=>⟨_,rfl,aF ⟨_,rfl,q out ms b1 b2 b3⟩⟩) (lY _)))
end
section
variable{X:Cx}{K:FG7}
theorem jY(hK:X.K=K):xV X (.builtin "sorted") (fun xs H Q=>∃(l:Addr) (ns:List Int),xs=[.ref l]/\SqT K H l (ns.map V.int)/\ns.length<64/\∀(p:Addr) (ms:List Int),H p=none->ms.Perm ns->ms.Pairwise (·<=·)->Q (.ref p) (upd H p (.lst (ms.map V.int)))):=by
 subst hK;intro mw s σ H xs us Q I r h;obtain⟨l,ns,rfl,hl,h64,q⟩:=h;obtain⟨u,rfl,rx⟩:=wC r;cases(show u=bK l from rx);obtain⟨vs,rv,pl,hz⟩:=I.tuple hl;have my:=rv.length;rw[aG] at my hz;refine XX pl (rF rv) (by omega) fun out ms i1 i2 i3=>?_;obtain⟨e,he⟩:=sortedAll_at s.heap vs out;have hn:H (s.heap.objs.size+1)=none:=I.hok.fresh (eB _);have rl:=wb i1;refine⟨.ref (s.heap.objs.size+1),_,?_,rfl,q _ ms hn i2 i3⟩;refine I.laid (t':=s.toks) (fun b o q=>sortedAll_old q) (eB _) (show yf X.prog X.w _ _ _ (.lst (ms.map V.int)) from⟨by rw[aG,i2.length_eq];exact hz,out.toList,e,rl,he⟩)
noncomputable def QW(lo:Int)(n:Nat):It:=⟨fun i _=>i<n,fun i H x H'=>H'=H/\x=.int (lo-i),fun i _=>n<=i⟩
theorem Yb{P:Program}{w:World}{K:FG7}{tg:Expr}(it:Addr)(lo:Int)(n:Nat):Turn P w K tg (QW lo n) [it] it (fun i h=>IsRangeIter h it (lo+(i:Nat)*(-1)) ((n:Int)-(i:Nat)) (-1)) where
 mem:=by simp
 obj:=fun i h st b hb=>by
  obtain rfl:b=it:=by simpa using hb
  refine⟨_,st,fun v z=>?_⟩;have z':Data.fields _=Data.cell v:=z;cases z'
 keep:=fun i h h' st k=>k it (by simp) _ st
 item:=by
  intro X hP hw hK hc i mw s σ H E I hf st hg;subst hP hw hK;obtain⟨f0,f1,f2,f3,f4,f5⟩:=hf it (by simp);have W:=Walks.range (prog:=X.prog) (w:=X.w) (I.ok.hd hc) it lo (-1) n;refine W.item i s _ _ hg st fun v h' tk hv nz kk=>?_;obtain⟨t,rfl⟩:=hv;have J:Inv X mw σ H { s with heap:=h',toks:=tk }:=I.turned (fun b o hb e=>kk b o (by simpa using hb) e) f0 f1 f3 f4 f5;refine⟨_,rfl,UM (s:={ s with heap:=h',toks:=tk }) (n:="range_iterator") nz rfl rfl (by decide) ⟨.int (lo-i),H,J,⟨t,?_⟩,⟨rfl,rfl⟩,nz,fun b hb=>(hf b hb).1⟩⟩;rw[show lo+(i:Int)*(-1)=lo-i by omega]
 done:=by
  intro X hP hw hK hc i mw s σ H E I hf st hg;subst hP hw hK;obtain⟨f0,f1,f2,f3,f4,f5⟩:=hf it (by simp);exact wpAny_pyNext_range_end (I.ok.hd hc) st (by have:n<=i:=hg;omega) fun h' eb=>⟨rfl,I.turned (t':=s.toks) (fun b o hb e=>eb b o hb e) f0 f1 f3 f4 f5⟩
 self:=fun _ _ _ _ _ st h=>wpAny_pyIter_rangeiter st h
theorem QX(a b:Int):fX a b (-1)=((a-b).toNat:Int):=by
 unfold fX;simp only[show ¬((-1:Int)>0) by decide,if_false,show(- -1:Int)=1 from rfl,mj]
 split <;> omega
theorem QY{a b:Int}(h1:-1000<=a)(h2:a<=1000)(h3:-1000<=b)(h4:b<=1000):Builtin.Range.small a b (-1)=true:=by
 unfold Builtin.Range.small;rw[QX];simp only[Builtin.Range.rangeFitsLong,cE,Bool.or_eq_true,decide_eq_true_eq,beq_iff_eq,show ¬((-1:Int)>0) by decide,if_false]
 omega
def J7(ta:TA):TI:=fun σ H R=>ta σ H fun vs H1=>∃i j:Int,vs=[.int i,.int j,.int (-1)]/\-1000<=i/\i<=1000/\-1000<=j/\j<=1000/\R (QW i (i-j).toNat) H1
theorem Vw{tg a b c:Expr}{ta:TA}{p pos:Pos}(hg:Gl X "range")(hm:X.mg "range" = none)(ha:PA X [a,b,c] ta)
  (hs:bP [a,b,c] X.env=[(false,eval a X.env),(false,eval b X.env),(false,eval c X.env)]:=by rfl) (oJ:bP [b,c] X.env=[(false,eval b X.env),(false,eval c X.env)]:=by rfl) :
  PI X tg (.Call (.Name "range" p) [a,b,c] [] pos) (J7 ta):=by
 intro mw s σ H R I h;refine Call_ (vB I hg hm mf (cM (thn (ha pos mw s σ H _ I h) fun us s1 ⟨vs,H1,I1,r1,q1⟩=>?_) (by rw[hs,oJ]) (by rw[oJ];rfl)));obtain⟨i,j,e,b1,b2,b3,b4,q⟩:=q1;subst e;cases r1 with
 |cons r rr =>
  cases rr with
  |cons r' rr =>
   cases rr with
   |cons r'' rr =>
    cases rr;obtain⟨t,rfl⟩:=r;obtain⟨t',rfl⟩:=r';obtain⟨ES,rfl⟩:=r'';refine call_range_3 (by decide) ?_ (aY (PyProof.noPylong_small (by omega)));refine wpAny_pyIter_range (IsRange.new ..) (QY b1 b2 b3 b4) ?_;have I2:Inv X mw σ H1 { s1 with heap:=s1.heap.push { cls:=.type "range",data:=.fields #[.int i t,.int j t',.int (-1) ES] },toks:=s1.toks }:=I1.kept fun b o e=>aD _ e;refine⟨(s1.heap.push { cls:=.type "range",data:=.fields #[.int i t,.int j t',.int (-1) ES] }).objs.size,[(s1.heap.push { cls:=.type "range",data:=.fields #[.int i t,.int j t',.int (-1) ES] }).objs.size],_,_,H1,rfl,
     I2.kept (t':=s1.toks) fun b o e=>aD _ e,Yb _ i (i-j).toNat,?_,fun b hb=>?_,q⟩
    ·show IsRangeIter _ _ (i+((0:Nat):Int)*(-1)) ((((i-j).toNat:Nat):Int)-((0:Nat):Int)) (-1);rw[show i+((0:Nat):Int)*(-1)=i by simp,show(((i-j).toNat:Nat):Int)-((0:Nat):Int)=fX i j (-1) by rw[QX];simp];exact aL _ rfl
    ·obtain rfl:b=(s1.heap.push { cls:=.type "range",data:=.fields #[.int i t,.int j t',.int (-1) ES] }).objs.size:=by simpa using hb
     exact I2.fpOk (aE _) (I2.hok.fresh (aE _))
theorem XY{lo:Int}{n:Nat}{g:TG}{tb:TS}{D:Ends}{σ:L2.St}{H:Hp}(Pv:Nat->L2.St->Hp->Prop)(h0:Pv 0 σ H)
  (hs:∀i σ H,i<n->Pv i σ H->g (.int (lo-i)) σ H fun σ2 H2=>tb { D with nx:=Pv (i+1),ct:=Pv (i+1),bk:=D.nx } σ2 H2) (hd:∀σ H,Pv n σ H->D.nx σ H) :
  ∃W:Nat->Nat->L2.St->Hp->Prop,(∃m,W 0 m σ H)/\∀i m σ H,W i m σ H→
   ((QW lo n).stop i H/\D.nx σ H)\/((QW lo n).go i H/\∃N:L2.St->Hp->Prop,(∀σ' H',N σ' H'->∃m',m'<m/\W (i+1) m' σ' H')/\∀x H',(QW lo n).yld i H x H'->g x σ H' fun σ2 H2=>tb { D with nx:=N,ct:=N,bk:=D.nx } σ2 H2):=by
 refine⟨fun i m σ H=>m=n-i/\i<=n/\Pv i σ H,⟨n,by simp,aX _,h0⟩,?_⟩;rintro i m σ H ⟨rfl,hi,p⟩;by_cases c:i<n
 ·refine .inr ⟨c,Pv (i+1),fun σ' H' p'=>⟨n-(i+1),by omega,rfl,c,p'⟩,?_⟩;rintro x H' ⟨rfl,rfl⟩;exact hs i σ _ c p
 ·obtain rfl:i=n:=by omega
  exact .inl ⟨aE _,hd σ H p⟩
end
noncomputable def wfN(k s l:Nat)(w:Int):Nat:=(wfI k s l w).toNat
theorem Vx:∀k:Fin 5,∀s:Fin 5,1<=s.val->s.val<=k.val->∀l:Fin 16,l.val<2 ^ k.val->∀w:Fin 2,
  (wfI k.val s.val l.val w.val=(wfN k.val s.val l.val w.val:Int)/\wfN k.val s.val l.val w.val<2 ^ k.val/\xO k.val s.val (wfN k.val s.val l.val w.val)=w.val)/\∀t:Fin 5,t.val<=k.val->t.val≠s.val->xO k.val t.val (wfN k.val s.val l.val w.val)=xO k.val t.val l.val:=by
 decide +kernel
theorem XZ:∀k:Fin 5,∀l:Fin 16,l.val<2 ^ k.val->(∀t:Fin 5,xO k.val t.val l.val=0\/xO k.val t.val l.val=1)/\∀m:Fin 16,m.val<2 ^ k.val->(∀t:Fin 5,1<=t.val->t.val<=k.val->xO k.val t.val l.val=xO k.val t.val m.val)->l=m:=by
 decide +kernel
structure WfF(k s l:Nat)(w:Int):Prop where
 eq:wfI k s l w=(wfN k s l w:Int)
 lt:wfN k s l w<2 ^ k
 at_:xO k s (wfN k s l w)=w
 off:∀t:Nat,t<=k->t≠s->xO k t (wfN k s l w)=xO k t l
theorem wfF{k s l:Nat}{w:Int}(k4:k<=4)(s1:1<=s)(s2:s<=k)(hl:l<2 ^ k)(hw:w=0\/w=1):WfF k s l w:=by
 have p:=tR k4;have z:=Vx ⟨k,by omega⟩ ⟨s,by omega⟩ s1 s2 ⟨l,by omega⟩ hl;rcases hw with rfl|rfl
 ·exact⟨(z 0).1.1,(z 0).1.2.1,(z 0).1.2.2,fun t ht hn=>(z 0).2 ⟨t,by omega⟩ ht hn⟩
 ·exact⟨(z 1).1.1,(z 1).1.2.1,(z 1).1.2.2,fun t ht hn=>(z 1).2 ⟨t,by omega⟩ ht hn⟩
theorem J8{k t l:Nat}(k4:k<=4)(ht:t<=k)(hl:l<2 ^ k):xO k t l=0\/xO k t l=1:=by
 have p:=tR k4;exact(XZ ⟨k,by omega⟩ ⟨l,by omega⟩ hl).1 ⟨t,by omega⟩
theorem Rs{a b:Nat}:cZ (a:Int) (b:Int)=((a &&& b:Nat):Int):=by
 unfold cZ;rw[decide_eq_true (cH a),decide_eq_true (cH b)];rfl
theorem Te{α:Type}{n:Nat}{x:α}:(bL n [x]).flatten=bL n x:=by
 induction n with
 |zero=>rfl
 |succ n ih=>rw[eO,gI,ih,eO];rfl
theorem vO{gs:List Nat}:(zL gs).length=gs.length:=by unfold zL;rw[aG]
theorem jZ{a b:List Nat}:zL (a++b)=zL a++zL b:=by unfold zL;exact bC
theorem tW?{gs:List Nat}{i g:Nat}(h:gs[i]?=some g):(zL gs)[i]?=some (.int g):=by unfold zL;rw[bN,h];rfl
open PySem PySem.Spec PyProof.Rows L2 HT
section
variable{prog:Program}{w:World}{A:Around}{E:VS7}{s:Shared}
theorem Tf(l b:Addr)(us ws:Array Value)(n m:Nat)(d1 d2:Option Addr)(e1 e2:Array (Option Value))(h0:us.isEmpty=true) :
  Meets (Builtin.«tuple.__add__» ⟨[.ref l,.ref b],[]⟩) (fun _ R s=>s.heap.get? l=some ⟨.type "tuple",d1,.seq us n,e1⟩/\s.heap.get? b=some ⟨.type "tuple",d2,.seq ws m,e2⟩/\R (.ok (.ret (.ref b))) s) :=
 .of_wp fun P w A R s h=>by
  obtain⟨hh,gg,dd,tk,os⟩:=s;obtain⟨eL,eT,q⟩:=h;have k1:=PySem.AutoSeq1.sub_tuple_tuple
  wp_walk using PySem.AutoSeq1.wpAny_loadPart' eL,PySem.AutoSeq1.wpAny_loadPart' eT
  exact⟨_,rfl,q⟩
theorem Tg{t b:Addr}{vs ws:List Value}{Q:VS7}(ht:IsTup s.heap t vs.toArray)(hb:IsTup s.heap b ws.toArray)(hv:vs=[])(h1:Q (.ref b) s):wpAny (model prog w) A (fw .Add (.ref t) (.ref b)) Q E s:=by
 obtain⟨⟨c1,d1,x1,l1⟩,ho,hc,n,hd⟩:=id ht;obtain⟨⟨c2,d2,x2,l2⟩,ho2,Aq,m,CK⟩:=id hb;cases hc;cases hd;cases Aq;cases CK;exact concat_meets ⟨_,ho,rfl⟩ ⟨_,ho2,rfl⟩ kX seq_tuple_add iK iz (ii _ _) (Tf t b vs.toArray ws.toArray n m d1 d2 l1 l2 (by simp[hv])) ⟨ho,ho2,h1⟩
theorem qD{t sl:Addr}{us:Array Value}{vl vu:Value}{lo hi:Option Int}{Q:VS7}(ht:IsTup s.heap t us)(hs:s.heap.IsSliceOf sl vl vu .none)(pl:lu vl lo)(pu:lu vu hi)
  (hw:sIx us.size 0 lo=0/\sIx us.size us.size hi=us.size) (h:Q (.ref t) s):wpAny (model prog w) A (kg (.ref t) (.ref sl)) Q E s:=by
 obtain⟨os,pf,EN,Dn⟩:=id hs;have FG:s.TypeIs (.ref sl) "slice":=⟨os,pf,EN⟩
 unfold kg;try with_reducible refine bT ?_
 first|refine aA (aF ?_)|skip
 refine aA (wpAny_sequenceKey ht.typeIs (by decide) ?_);refine aA (cT (name:=gh "__getitem__") ht.typeIs eU
  (cK eU ht.typeIs entry_tuple_getitem ?_ (args_tuple_getitem _ _)))
 show wpAny _ _ (Builtin.Tuple.tupleItemsOf (.ref t) >>= _) _ _ s;refine aA (tupleItemsOf_ ht ?_);refine aA (fK FG ?_);rw[if_pos (by decide)];refine aA (wy hs pl pu ?_);have yes:(((sIx us.size 0 lo:Nat):Int) == 0 && (1:Int) == 1 && (sIx us.size us.size hi-sIx us.size 0 lo) == us.size)=true:=by
  rw[hw.1,hw.2];simp
 show wpAny _ _ (if(((sIx us.size 0 lo:Nat):Int) == 0 && (1:Int) == 1 && (sIx us.size us.size hi-sIx us.size 0 lo) == us.size)=true then _ else _) _ _ s;rw[if_pos yes];refine aA ?_;unfold Builtin.Tuple.tupleIsExact;refine aA (fK ht.typeIs (aF ?_));show wpAny _ _ (rule _ >>= _) _ _ s;exact aA (fO (aA (aF (aF ⟨_,rfl,aF h⟩))))
end
section
variable{X:Cx}{K:FG7}
def zbo(K:FG7):V->Option Int->Option Int->Hp->VK->Prop:=fun x lo hi H Q=>∃a xs,x=.ref a/\SqT K H a xs/\∀p H',Grow [] H H'->SqT K H' p (Z5 xs lo hi)->Q (.ref p) H'
theorem Vy{xs:List V}{lo hi:Option Int}(h:HT.sIx xs.length 0 lo=0/\HT.sIx xs.length xs.length hi=xs.length):Z5 xs lo hi=xs:=by
 unfold Z5;rw[h.1,h.2,List.drop_zero,Nat.sub_zero,cU]
theorem Vz(hK:X.K=K):SlR X (zbo K):=by
 subst hK;intro mw s σ H x v vl vu lo hi sl Q I rx hs pl pu h;obtain⟨a,xs,rfl,hx,q⟩:=h;by_cases hw:HT.sIx xs.length 0 lo=0/\HT.sIx xs.length xs.length hi=xs.length
 ·cases rx;obtain⟨its,r,ht,hz⟩:=I.tuple hx;have my:its.toArray.size=xs.length:=by rw[aO];exact r.length.symm
  refine⟨"tuple",_,PyProof.Rows.slot_tuple_getitem.lookup,ht.typeIs,?_⟩;exact qD ht hs pl pu (by rw[my];exact hw) ⟨.ref a,H,I,rfl,q a H (Grow.refl _ _) (by rw[Vy hw];exact hx)⟩
 ·exact QC mw s σ H _ v vl vu lo hi sl Q I rx hs pl pu ⟨a,xs,rfl,hx,hw,fun p hp=>q p _ (Grow.new hp _) (SqT.of zd)⟩
def J9(K:FG7):R2:=fun x y H Q=>∃a b xs ys,x=.ref a/\y=.ref b/\SqT K H a xs/\SqT K H b ys/\xs.length+ys.length<=sizeLine/\∀p H',Grow [] H H'->SqT K H' p (xs++ys)->Q (.ref p) H'
theorem Yc(hK:X.K=K):OpR X (fw .Add) (J9 K):=by
 subst hK;intro mw s σ H x y v u Q I rx ry h;obtain⟨a,b,xs,ys,rfl,rfl,ha,hb,hz,q⟩:=h;by_cases hx:xs=[]
 ·cases rx;cases ry;obtain⟨its,r1,p1,_⟩:=I.tuple ha;obtain⟨pQ,r2,p2,_⟩:=I.tuple hb;exact Tg p1 p2 (r1.nil_iff.mpr hx) ⟨.ref b,H,I,rfl,q b H (Grow.refl _ _) (by rw[hx];exact hb)⟩
 ·exact Ra mw s σ H _ _ v u Q I rx ry ⟨a,b,xs,ys,rfl,rfl,ha,hb,hx,hz,fun e=>q a H (Grow.refl _ _) (by rw[e,bB];exact ha),fun _ p hp=>q p _ (Grow.new hp _) (SqT.of zd)⟩
end
def zH(P:Program)(w:World)(K:FG7)(mg:Str->Option Value)(base:Heap)(C:Addr)(k:Nat)(m:Str)(ps:List Str)(sp:Sp):Prop :=
 ∃(f:Addr) (fd:FuncData),FnOk P w K mg base CX0 k f fd ps sp/\wE K fd ps []/\Meth K C m f
def wo(P:Program)(w:World)(K:FG7)(mg:Str->Option Value)(base:Heap)(C:Addr)(k:Nat)(ps:List Str)(sp:Sp):Prop :=
 ∃(j:Nat) (f:Addr) (fd:FuncData),j+1=k/\FnOk P w K mg base CX0 j f fd ps sp/\wE K fd ps []/\Mk K C f
section
variable{P:Program}{w:World}{K:FG7}{mg:Str->Option Value}{base:Heap}{C:Addr}{j k:Nat}{m:Str}{ps:List Str}{sp:Sp}
theorem zH.mono(c:zH P w K mg base C j m ps sp)(h:j<=k):zH P w K mg base C k m ps sp:=by
 obtain⟨f,fd,F,b,mt⟩:=c;exact⟨f,fd,F.mono h,b,mt⟩
theorem wo.mono(c:wo P w K mg base C j ps sp)(h:j<=k):wo P w K mg base C k ps sp:=by
 obtain⟨i,f,fd,e,F,b,mt⟩:=c;exact⟨k-1,f,fd,by omega,F.mono (by omega),b,mt⟩
theorem zH.make{f0:Addr}(c:zH P w K mg base C k "__init__" ps sp)(mt:Mk K C f0):wo P w K mg base C (k+1) ps sp:=by
 obtain⟨f,fd,F,b,m⟩:=c;have e:=m.at_;rw[mt.init] at e;cases e;exact⟨k,f0,fd,rfl,F,b,mt⟩
end
section
variable{X:Cx}{K:FG7}{C:Addr}{k:Nat}{m x:Str}{ps:List Str}{sp:Sp}{o e:Expr}{es:List Expr}{ta:TE}{t:TA}{mK pos p:Pos}{f:Str}
theorem xf{pl:Sem Bool}(c:zH X.prog X.w X.K X.mg X.base C k m ps sp)(cl:Cls X.K C)(hr:Room k X.A)(he:PE X o ta)(ha:PA X (e::es) t)
  (oh:bP (e::es) X.env=(false,eval e X.env)::bP es X.env:=by rfl) (oK:(fW pos (bP es X.env)).any (·.1)=false:=by rfl)
  (ht:eval (.Call (.Attribute o m mK) (e::es) [] pos) X.env=(do
   let ov←eval o X.env
   standAt mK.atName
   let (f,first)←holding [ov] (kU ov m pl)
   callWith pos f first (fW pos (bP (e::es) X.env)) (kW pos (ix [] X.env))):=by rfl) :
  PE X (.Call (.Attribute o m mK) (e::es) [] pos) (UQ C m sp [] E0 ta t):=by
 obtain⟨f,fd,F,b,mt⟩:=c;exact S6 he cl mt F hr b .nil UV ha oh oK ht
theorem wG{pl:Sem Bool}(c:zH X.prog X.w X.K X.mg X.base C k m ps sp)(cl:Cls X.K C)(hr:Room k X.A)(he:PE X o ta)
  (ht:eval (.Call (.Attribute o m mK) [] [] pos) X.env=(do
   let ov←eval o X.env
   standAt mK.atName
   let (f,first)←holding [ov] (kU ov m pl)
   callWith pos f first (fW pos (bP [] X.env)) (kW pos (ix [] X.env))):=by rfl) :
  PE X (.Call (.Attribute o m mK) [] [] pos) (UQ C m sp [] E0 ta Qx):=by
 obtain⟨f,fd,F,b,mt⟩:=c;exact UR he cl mt F hr b .nil UV ht
theorem Th(c:wo X.prog X.w X.K X.mg X.base C k ps sp)(hr:Room k X.A)(hg:Gl X x)(hm:X.mg x=some (.ref C))
  (ha:PA X (e::es) t) (Ap:(x == ("__debug__":Str))=false:=by decide) (he:bP (e::es) X.env=(false,eval e X.env)::bP es X.env:=by rfl) (oK:(fW pos (bP es X.env)).any (·.1)=false:=by rfl) :
  PE X (.Call (.Name x p) (e::es) [] pos) (Qz C sp [] E0 t):=by
 obtain⟨j,f,fd,rfl,F,b,mt⟩:=c;exact S7 mt F hr hg hm b .nil UV ha Ap he oK
theorem Rt(hK:X.K=K)(he:PE X e ta)(hb:ig e f X.env (eval e X.env)=eval e X.env):PE X (.Attribute e f pos) (zaA K ta f):=by
 subst hK;exact zI he hb
end
theorem Grow.setI{m:List Addr}{H:Hp}{p C dx:Addr}{fs:List (Str×V)}(h:H p=some (.ins C dx fs))(hm:p∈m)(o:HO):Grow m H (upd H p o) :=
 ⟨fun b u hb q=>by rw[zB (show b≠p from fun z=>hb (by rw[z];exact hm))];exact q,fun b zs q=>by rw[zB (fun z=>by subst z;rw[h] at q;cases q)];exact q,fun b u v q=>by rw[zB (fun z=>by subst z;rw[h] at q;cases q)];exact q⟩
section
variable{P:Program}{w:World}{K:FG7}{mg:Str->Option Value}{base:Heap}{N:List Str}{qual:Str}{scope:Scope}{f:Addr}{cd:Value}{A:Around}{outer:List Env}{s0:Shared}{H0:Hp}{E:XK}
 {mw:List (Addr×Obj)} {σ:L2.St} {H:Hp} {s:Shared}
end
noncomputable abbrev veM:List Value:=[.type "ValueError",.type "Exception",.type "BaseException",.type "object"]
structure ApX(X:Cx)(mw:List (Addr×Obj))(H:Hp)(a T:Addr):Prop where
 s0:∀b o,X.s₀.heap.get? b=some o->b≠a/\b≠T
 loc:X.env.locals≠a/\X.env.locals≠T
 cel:∀x c,X.env.cells.lookup x=some c->c≠a/\c≠T
 pin:∀p∈X.pn++mw,p.1≠a/\p.1≠T
 ha:H a=none
 hT:H T=none
theorem Inv.leftK{X:Cx}{mw:List (Addr×Obj)}{σ:L2.St}{H:Hp}{s:Shared}{a T0:Addr}{h2:Heap}(I:Inv X mw σ H s)(hx:X.ex=[])(ap:ApX X mw H a T0)
  (lk:∀b o,b∉frs X.stack->b≠a->b≠T0->s.heap.get? b=some o->h2.get? b=some o) (ls:∀b o,b∈frs X.stack->b≠a->b≠T0->s.heap.get? b=some o->∃sl,h2.get? b=some { o with slots:=sl }):Inv X mw σ H { s with heap:=h2 }:=by
 have stk:∀b,b∈frs X.stack->b=X.env.locals\/b∈X.fs:=fun b hb=>aS.mp (I.stkSub b hb);have any:∀b o,b≠a->b≠T0->s.heap.get? b=some o->∃sl,h2.get? b=some { o with slots:=sl }:=fun b o n1 n2 ho=>by
  by_cases z:b∈frs X.stack
  ·exact ls b o z n1 n2 ho
  ·exact⟨o.slots,lk b o z n1 n2 ho⟩
 have oM:∀x c,X.env.cells.lookup x=some c->∀v,s.heap.IsCell c v->h2.IsCell c v:=fun x c e v ⟨o,ho,hd⟩=>by
  obtain⟨n1,n2⟩:=ap.cel x c e;obtain⟨sl,h1⟩:=any c o n1 n2 ho;exact⟨_,h1,hd⟩
 refine⟨I.ok,I.os,I.bare,⟨fun b o hb hn hf pe=>?_,fun b o hb hn hf pe=>?_,I.base.free,fun b o hb pe=>?_,I.base.tups,I.base.frzs,I.base.tbls⟩,?_,fun x c hc=>?_,I.free,I.freeC,fun p hp=>?_,fun b u q=>?_,I.len⟩
 ·obtain⟨n1,n2⟩:=ap.s0 b o hb;refine lk b o (fun z=>?_) n1 n2 (I.base.keep b o hb hn hf pe);rcases stk b z with z|z
  ·exact absurd (aN (aQ hb) I.ok.above) (by rw[z];exact cV _)
  ·exact hf z
 ·obtain⟨n1,n2⟩:=ap.s0 b o hb;obtain⟨sl,h1⟩:=I.base.slot b o hb hn hf pe;obtain⟨Fw,h3⟩:=any b _ n1 n2 h1;exact⟨Fw,h3⟩
 ·obtain⟨n1,n2⟩:=ap.s0 b o hb;obtain⟨o',h1⟩:=I.base.there b o hb pe;obtain⟨sl,h3⟩:=any b o' n1 n2 h1;exact⟨_,h3⟩
 ·obtain⟨m,⟨o,es,ep,ho,r⟩,hl⟩:=I.loc;obtain⟨sl,h1⟩:=any _ o ap.loc.1 ap.loc.2 ho;refine⟨m,⟨_,es,ep,h1,r⟩,fun i x v e1 e2 e3=>?_⟩;obtain⟨u,ru,lk⟩:=hl i x v e1 e2 e3;refine⟨u,ru,?_⟩;rcases lk with lk|⟨k1,c,k2,k3⟩
  ·exact .inl lk
  ·exact .inr ⟨k1,c,k2,oM x c k2 _ k3⟩
 ·obtain⟨v,hv⟩:=I.cell x c hc;exact⟨v,oM x c hc v hv⟩
 ·obtain⟨p1,p2,p3,p4,p5⟩:=I.pin p hp;obtain⟨n1,n2⟩:=ap.pin p hp;refine⟨lk _ _ (fun z=>?_) n1 n2 p1,p2,p3,p4,p5⟩;rcases stk _ z with z|z
  ·exact p3 z
  ·exact p4 z
 ·refine(I.hok b u q).stay (fun c v hc r=>?_) (fun _ r=>r) fun _ _ r=>r;have hn:H c≠none:=by
   rcases hc with rfl|hc
   ·rw[q];exact fun z=>nomatch z
   ·rw[hc];exact fun z=>nomatch z
  exact lk c v (fun z=>hn (I.stkFree c z)) (fun z=>hn (by rw[z];exact ap.ha)) (fun z=>hn (by rw[z];exact ap.hT)) r
open PySem PySem.Spec PyProof.Rows L2 PySem.W
end L3
namespace L2
open PySem PySem.Spec PyProof.Rows
end L2
namespace L2
open PySem PySem.Spec PyProof.Rows
end L2
namespace L2
open PySem PySem.Spec PyProof.Rows
end L2
namespace L2
open PySem PySem.Spec PyProof.Rows
end L2
namespace L2
open PySem PySem.Spec PyProof.Rows
end L2
namespace L2
open PySem PySem.Spec PyProof.Rows
end L2
namespace L2
open PySem PySem.Spec PyProof.Rows
section
variable{κ:Type}[DecidableEq κ]
noncomputable def wa(kvs:List (κ×V))(k:κ):Option V:=(kvs.find? fun kv=>decide (kv.1=k)).map (·.2)
noncomputable def xt(kvs:List (κ×V))(k:κ)(v:V):List (κ×V) :=
 if(kvs.any fun kv=>decide (kv.1=k))=true then kvs.map (fun kv=>if kv.1=k then(kv.1,v) else kv) else kvs++[(k,v)]
theorem ym{p:κ×V}{r:List (κ×V)}{k:κ}(e:p.1=k):wa (p::r) k=some p.2:=by simp[wa,eS,e]
theorem z5{p:κ×V}{r:List (κ×V)}{k:κ}(e:¬p.1=k):wa (p::r) k=wa r k:=by simp[wa,eS,e]
theorem wP(k:κ):∀kvs:List (κ×V),(kvs.any fun kv=>decide (kv.1=k))=(wa kvs k).isSome
 |[]=>rfl
 |p::r=>by
  rw[kS];by_cases e:p.1=k
  ·simp only[ym e,decide_eq_true e,Bool.true_or,Option.isSome_some]
  ·rw[z5 e,decide_eq_false e,Bool.false_or];exact wP k r
theorem Y8(k j:κ)(y:V):∀kvs:List (κ×V),wa (kvs.map fun kv=>if kv.1=k then(kv.1,y) else kv) j=(wa kvs j).map fun x=>if j=k then y else x
 |[]=>rfl
 |p::r=>by
  have ih:=Y8 k j y r;rw[cX];by_cases h:p.1=k
  ·rw[if_pos h];by_cases e:p.1=j
   ·rw[ym (p:=(p.1,y)) e,ym e,gE,if_pos (e.symm.trans h)]
   ·rw[z5 (p:=(p.1,y)) e,z5 e,ih]
  ·rw[if_neg h];by_cases e:p.1=j
   ·rw[ym (p:=p) e,ym e,gE,if_neg (fun z=>h (e.trans z))]
   ·rw[z5 (p:=p) e,z5 e,ih]
theorem j0(k j:κ)(y:V):∀kvs:List (κ×V),wa kvs k=none->wa (kvs++[(k,y)]) j=if j=k then some y else wa kvs j
 |[],_=>by
  by_cases e:k=j
  ·rw[if_pos e.symm];exact ym (p:=(k,y)) e
  ·rw[if_neg (fun z=>e z.symm)];exact z5 (p:=(k,y)) e
 |p::r,hn=>by
  rw[lc];have hk:¬p.1=k:=fun z=>by rw[ym z] at hn;cases hn
  rw[z5 hk] at hn;have ih:=j0 k j y r hn;by_cases e:p.1=j
  ·rw[ym e,ym e,if_neg (fun z=>hk (e.trans z))]
  ·rw[z5 e,z5 e,ih]
theorem Ti(kvs:List (κ×V))(k j:κ)(y:V):wa (xt kvs k y) j=if j=k then some y else wa kvs j:=by
 unfold xt;by_cases a:(kvs.any fun kv=>decide (kv.1=k))=true
 ·rw[if_pos a,Y8];rw[wP] at a;by_cases e:j=k
  ·obtain⟨x,hx⟩:=fQ.mp a;rw[if_pos e,e,hx,gE,if_pos rfl]
  ·rw[if_neg e];cases wa kvs j with
   |none=>rfl
   |some x=>rw[gE,if_neg e]
 ·rw[if_neg a];refine j0 k j y kvs ?_;rw[wP] at a;cases q:wa kvs k with
  |none=>rfl
  |some x=>rw[q] at a;exact(a rfl).elim
theorem xF(kvs:List (κ×V))(k:κ)(v:V):(xt kvs k v).length<=kvs.length+1:=by
 unfold xt;split
 ·rw[aG];omega
 ·rw[aI,dW,gB];omega
theorem u7{kvs:List (κ×V)}{k:κ}(v:V)(h:wa kvs k=none):xt kvs k v=kvs++[(k,v)]:=by
 unfold xt;rw[wP,h];exact if_neg (by decide)
theorem jp.isSome_eq{o:Option V}{u:Option Value}(r:jp o u):o.isSome=u.isSome:=by
 cases o with
 |none=>cases u with
  |none=>rfl
  |some _=>exact(show False from r).elim
 |some _=>cases u with
  |none=>exact(show False from r).elim
  |some _=>rfl
theorem jp.getD{o:Option V}{u:Option Value}{d:V}{d':Value}(r:jp o u)(rd:z8 d d'):z8 (o.getD d) (u.getD d'):=by
 cases o with
 |none=>cases u with
  |none=>exact rd
  |some _=>exact(show False from r).elim
 |some _=>cases u with
  |none=>exact(show False from r).elim
  |some _=>exact r
theorem KV.val{kvs:List (κ×V)}{vs:List (κ×Value)}(r:KV kvs vs)(k:κ):jp (wa kvs k) (valueAt vs k):=by
 unfold KV at r;induction r with
 |nil=>exact True.intro
 |@cons p q ps qs h t ih =>
  obtain⟨h1,h2⟩:=h;by_cases e:p.1=k
  ·have e':q.1=k:=h1.symm.trans e;have b:valueAt (q::qs) k=some q.2:=by simp[valueAt,eS,e']
   rw[ym e,b];exact h2
  ·have e':¬q.1=k:=fun z=>e (h1.trans z);have b:valueAt (q::qs) k=valueAt qs k:=by simp[valueAt,eS,e']
   rw[z5 e,b];exact ih
theorem KV.any{kvs:List (κ×V)}{vs:List (κ×Value)}(r:KV kvs vs)(k:κ):(kvs.any fun kv=>decide (kv.1=k))=vs.any fun kv=>decide (kv.1=k):=by
 unfold KV at r;induction r with
 |nil=>rfl
 |cons h t ih=>rw[kS,kS,ih,h.1]
theorem KV.repl{kvs:List (κ×V)}{vs:List (κ×Value)}(r:KV kvs vs)(k:κ){y:V}{u:Value}(ry:z8 y u) :
  KV (kvs.map fun kv=>if kv.1=k then(kv.1,y) else kv) (vs.map fun kv=>if kv.1=k then(kv.1,u) else kv):=by
 unfold KV at r ⊢;induction r with
 |nil=>exact .nil
 |@cons p q ps qs h t ih =>
  rw[cX,cX];refine .cons ?_ ih;obtain⟨h1,h2⟩:=h;by_cases e:p.1=k
  ·rw[if_pos e,if_pos (h1.symm.trans e)];exact⟨h1,ry⟩
  ·rw[if_neg e,if_neg (fun z=>e (h1.trans z))];exact⟨h1,h2⟩
theorem KV.put{kvs:List (κ×V)}{vs:List (κ×Value)}(r:KV kvs vs)(k:κ){y:V}{u:Value}(ry:z8 y u):KV (xt kvs k y) (stored vs k u):=by
 unfold xt stored;rw[r.any k];by_cases e:(vs.any fun kv=>decide (kv.1=k))=true
 ·rw[if_pos e,if_pos e];exact r.repl k ry
 ·rw[if_neg e,if_neg e];exact Paired.snoc r ⟨rfl,ry⟩
theorem KV.length{kvs:List (κ×V)}{vs:List (κ×Value)}(r:KV kvs vs):kvs.length=vs.length:=Paired.length r
end
theorem Yd{P:Program}{w:World}{k:Key}{u:Value}(r:z8 (kV k) u):(zO P w).is k u=true:=by
 cases k with
 |inl i=>obtain⟨t,e⟩:=(show ∃t,u=fV i t from r);subst e;exact ZZ P w i t
 |inr x=>obtain⟨t,e⟩:=(show ∃t,u=l9 x t from r);subst e;exact Z0 P w x t
theorem j3{P:Program}{w:World}:∀{ks:List Key} {us:List Value},zZ (ks.map kV) us->ItemsAre (zO P w) ks us
 |[],_,r=>by rw[iL] at r;cases r;exact .nil
 |k::ks,_,r=>by
  rw[cX] at r;cases r with
  |cons h t=>exact .cons (Yd h) (j3 t)
abbrev KT(H:Hp):List (List Key×V)->List (List Key×Addr×Value)->Prop:=Paired fun p q=>p.1=q.1/\H q.2.1=some (.tup (p.1.map kV))/\z8 p.2 q.2.2
theorem KT.val{H:Hp}{kvs:List (List Key×V)}{xs:List (List Key×Addr×Value)}(r:KT H kvs xs)(k:List Key):jp (wa kvs k) ((atKey xs k).map (·.2)):=by
 induction r with
 |nil=>exact True.intro
 |@cons p q ps qs h t ih =>
  obtain⟨h1,_,h2⟩:=h;by_cases e:p.1=k
  ·have e':q.1=k:=h1.symm.trans e;have b:atKey (q::qs) k=some q.2:=by simp[atKey,eS,e']
   rw[ym e,b];exact h2
  ·have e':¬q.1=k:=fun z=>e (h1.trans z);have b:atKey (q::qs) k=atKey qs k:=by simp[atKey,eS,e']
   rw[z5 e,b];exact ih
theorem KT.repl{H:Hp}{kvs:List (List Key×V)}{xs:List (List Key×Addr×Value)}(r:KT H kvs xs)(k:List Key){y:V}{u:Value}(ry:z8 y u) :
  KT H (kvs.map fun kv=>if kv.1=k then(kv.1,y) else kv) (xs.map (putAt k u)):=by
 induction r with
 |nil=>exact .nil
 |@cons p q ps qs h t ih =>
  rw[cX,cX];refine .cons ?_ ih;obtain⟨h1,h2,h3⟩:=h;unfold putAt;by_cases e:p.1=k
  ·rw[if_pos e,if_pos (h1.symm.trans e)];exact⟨h1,h2,ry⟩
  ·rw[if_neg e,if_neg (fun z=>e (h1.trans z))];exact⟨h1,h2,h3⟩
theorem KT.put{H:Hp}{kvs:List (List Key×V)}{xs:List (List Key×Addr×Value)}(r:KT H kvs xs)(k:List Key){b:Addr}{y:V}{u:Value}(hb:H b=some (.tup (k.map kV)))(ry:z8 y u) :
  KT H (xt kvs k y) (storedH xs k b u):=by
 have e:(kvs.any fun kv=>decide (kv.1=k))=(atKey xs k).isSome:=by
  rw[wP,(r.val k).isSome_eq,Option.isSome_map]
 unfold xt storedH;rw[e];by_cases q:(atKey xs k).isSome=true
 ·rw[if_pos q,if_pos q];exact r.repl k ry
 ·rw[if_neg q,if_neg q];exact Paired.snoc r ⟨rfl,hb,ry⟩
theorem KT.keeps{H H':Hp}{kvs:List (List Key×V)}{xs:List (List Key×Addr×Value)}(r:KT H kvs xs)(ht:∀b ys,H b=some (.tup ys)->H' b=some (.tup ys)):KT H' kvs xs :=
 Paired.mapP r fun _ _ z=>⟨z.1,ht _ _ z.2.1,z.2.2⟩
section
variable{P:Program}{w:World}{H:Hp}{h:Heap}{a:Addr}
theorem QZ{u:HO}(ok:HOk P w H h)(e:Rd H a u):yf P w H h a u:=e.ok ok
theorem j4{kvs:List (Key×V)}(ok:HOk P w H h)(e:Rd H a (.dK kvs)):kvs.length<=sizeLine/\(a == sysModules)=false/\∃vs,KV kvs vs/\h.DictOf (zO P w) a vs :=
 show yf P w H h a (.dK kvs) from QZ ok e
theorem Ru{kvs:List (Key×V)}(ok:HOk P w H h)(e:H a=some (.dK kvs)):kvs.length<=sizeLine/\(a == sysModules)=false/\∃vs,KV kvs vs/\h.DictOf (zO P w) a vs:=j4 ok (.inl e)
theorem uO{ks:List Key}(ok:HOk P w H h)(e:H a=some (.tup (ks.map kV))):(gF (zO P w)).is h ks a:=by
 obtain⟨_,its,r,o,h1,h2,n,h3⟩:=(show yf P w H h a (.tup (ks.map kV)) from ok a _ e)
 exact⟨o,its.toArray,n,h1,h2,h3,by simpa using j3 r⟩
theorem Ye{kvs:List (List Key×V)}(ok:HOk P w H h)(e:Rd H a (.dT kvs)):kvs.length<=sizeLine/\(a == sysModules)=false∧
  ∃xs,KT H kvs xs/\h.DictOfH (gF (zO P w)) a xs:=by
 obtain⟨z,y,xs,r,o,es,ep,h1,h2,h3,h4,h5⟩:=(show yf P w H h a (.dT kvs) from QZ ok e)
 refine⟨z,y,xs,r,o,es,ep,h1,h2,h3,h4,fun x hx=>?_,h5⟩;have all:∀{l:List (List Key×V)} {m:List (List Key×Addr×Value)},KT H l m->∀x∈m,(gF (zO P w)).is h x.1 x.2.1:=by
  intro l m q;induction q with
  |nil=>intro x hx;exact nomatch hx
  |@cons p q ps qs hq t ih =>
   intro x hx;rcases aS.mp hx with e|hx
   ·subst e;exact uO ok (by rw[←hq.1];exact hq.2.1)
   ·exact ih x hx
 exact all r x hx
theorem zaa{kvs:List (List Key×V)}(ok:HOk P w H h)(e:H a=some (.dT kvs)):kvs.length<=sizeLine/\(a == sysModules)=false∧
  ∃xs,KT H kvs xs/\h.DictOfH (gF (zO P w)) a xs:=Ye ok (.inl e)
end
def vj(H:Hp)(a:Addr)(y:V)(r:Option V):Prop :=
 (∃kvs k,Rd H a (.dK kvs)/\y=kV k/\r=wa kvs k)\/∃kvs k b,Rd H a (.dT kvs)/\y=.ref b/\H b=some (.tup (k.map kV))/\r=wa kvs k
def UI(H:Hp)(a:Addr)(y v:V)(H':Hp):Prop :=
 (∃kvs k,H a=some (.dK kvs)/\y=kV k/\kvs.length<sizeLine/\H'=upd H a (.dK (xt kvs k v)))∨
 ∃kvs k b,H a=some (.dT kvs)/\y=.ref b/\H b=some (.tup (k.map kV))/\kvs.length<sizeLine/\H'=upd H a (.dT (xt kvs k v))
theorem vj.k{H:Hp}{a:Addr}{kvs:List (Key×V)}{k:Key}(e:H a=some (.dK kvs)):vj H a (kV k) (wa kvs k):=.inl ⟨kvs,k,.inl e,rfl,rfl⟩
theorem vj.t{H:Hp}{a b:Addr}{kvs:List (List Key×V)}{k:List Key}(e:H a=some (.dT kvs))(eb:H b=some (.tup (k.map kV))):vj H a (.ref b) (wa kvs k):=.inr ⟨kvs,k,b,.inl e,rfl,eb,rfl⟩
theorem UI.k{H:Hp}{a:Addr}{kvs:List (Key×V)}{k:Key}{v:V}(e:H a=some (.dK kvs))(hl:kvs.length<sizeLine):UI H a (kV k) v (upd H a (.dK (xt kvs k v))):=.inl ⟨kvs,k,e,rfl,hl,rfl⟩
theorem UI.t{H:Hp}{a b:Addr}{kvs:List (List Key×V)}{k:List Key}{v:V}(e:H a=some (.dT kvs))(eb:H b=some (.tup (k.map kV)))(hl:kvs.length<sizeLine) :
  UI H a (.ref b) v (upd H a (.dT (xt kvs k v))):=.inr ⟨kvs,k,b,e,rfl,eb,hl,rfl⟩
section
variable{X:Cx}{mw:List (Addr×Obj)}{σ:St}{H:Hp}{s:Shared}{a:Addr}{y v:V}{u r:Value}{o:Option V}{A:Around}{E:VS7}
theorem Inv.big(I:Inv X mw σ H s):sysModules<s.heap.objs.size:=by
 have h:bI<s.heap.objs.size:=(I.mod.glob.keeps I.bk).lt;exact gj (by decide) h
theorem j5{Q:VS7}(hu:A.units+1<cLine)(I:Inv X mw σ H s)(g:vj H a y (some v))(ry:z8 y u)(h:∀w' s',Inv X mw σ H s'->z8 v w'->Q w' s') :
  wpAny (model X.prog X.w) A (kg (.ref a) u) Q E s:=by
 rcases g with ⟨kvs,k,e,ey,l⟩|⟨kvs,k,b,e,ey,eb,l⟩
 ·subst ey;obtain⟨z,hd,vs,nc,dd⟩:=j4 I.hok e;obtain⟨w',hw,nQ⟩:=jp.some_of (v:=v) (o:=valueAt vs k) (by rw[l];exact nc.val k);exact wpAny_getItem_of (Yd ry) dd.mapOf hw (h w' _ (I.tok _) nQ)
 ·subst ey;cases(show u=bK b from ry);obtain⟨z,hd,xs,nc,dd⟩:=Ye I.hok e;obtain⟨w',hw,nQ⟩:=jp.some_of (v:=v) (o:=(atKey xs k).map (·.2)) (by rw[l];exact nc.val k);obtain⟨p,hp,ET⟩:=fB.mp hw;refine wpAny_getItem_heap (gk hu) (uO I.hok eb) dd hp ?_;rw[ET];exact h w' _ (I.tok _) nQ
theorem zbp{Q:VS7}(hu:A.units+1<cLine)(I:Inv X mw σ H s)(g:vj H a y o)(ry:z8 y u)(h:∀s',Inv X mw σ H s'->Q (.bool o.isSome) s') :
  wpAny (model X.prog X.w) A (eY .In u (.ref a)) Q E s:=by
 rcases g with ⟨kvs,k,e,ey,l⟩|⟨kvs,k,b,e,ey,eb,l⟩
 ·subst ey;obtain⟨z,hd,vs,nc,dd⟩:=j4 I.hok e;refine wpAny_in_of (Yd ry) hd dd.mapOf ?_;rw[←(nc.val k).isSome_eq,←l];exact h _ (I.tok _)
 ·subst ey;cases(show u=bK b from ry);obtain⟨z,hd,xs,nc,dd⟩:=Ye I.hok e;refine wpAny_in_heap (gk hu) (uO I.hok eb) hd dd ?_;have q:=(nc.val k).isSome_eq;rw[Option.isSome_map] at q;rw[←q,←l];exact h _ (I.tok _)
theorem Yf{h':Heap}{t':Nat}{ob:HO}(I:Inv X mw σ H s)(mu:Mut (H a))(hs:fA a s.heap h')(he:∃q,h'.get? a=some q)(new:yf X.prog X.w (upd H a ob) h' a ob) :
  Inv X mw σ (upd H a ob) { s with heap:=h',toks:=t' } :=
 I.write (x:=a) (e:=a) mu (.inl rfl) (fun b q hb z=>(hs.2 b hb).trans z) he new
theorem Ss{P:Program}{w:World}{H':Hp}{h':Heap}{kvs:List (Key×V)}{vs:List (Key×Value)}(z:kvs.length<=sizeLine)(hd:(a == sysModules)=false)(nc:KV kvs vs)(dd:h'.DictOf (zO P w) a vs) :
  yf P w H' h' a (.dK kvs):=⟨z,hd,vs,nc,dd⟩
theorem j6{H':Hp}{Q:Unit->Shared->Prop}(hu:A.units+1<cLine)(I:Inv X mw σ H s)(g:UI H a y v H')(ry:z8 y u)(rv:z8 v r)(h:∀s',Inv X mw σ H' s'->Q () s') :
  wpAny (model X.prog X.w) A (setItem (.ref a) u r) Q E s:=by
 rcases g with ⟨kvs,k,e,ey,l,eH⟩|⟨kvs,k,b,e,ey,eb,l,eH⟩
 ·subst ey eH;obtain⟨z,hd,vs,nc,dd⟩:=Ru I.hok e;have hz:vs.length<=sizeLine:=by rw[←nc.length];exact z
  have hl:(xt kvs k v).length<=sizeLine:=by have:=xF kvs k v;omega
  refine wpAny_setItem_pairs (hsz:=hz) (Yd ry) dd fun h' Bg hs=>h _ ?_;have he:∃q,h'.get? a=some q:=let ⟨q,_,_,hq,_⟩:=Bg;⟨q,hq⟩
  exact Yf I (by rw[e];exact True.intro) hs he (Ss hl hd (nc.put k rv) Bg)
 ·subst ey eH;cases(show u=bK b from ry);obtain⟨z,hd,xs,nc,dd⟩:=zaa I.hok e;have hz:xs.length<=sizeLine:=by rw[←Paired.length nc];exact z
  have hl:(xt kvs k v).length<=sizeLine:=by have:=xF kvs k v;omega
  refine wpAny_setItem_heap (hsz:=hz) (gk hu) (uO I.hok eb) dd fun h' Bg hs=>h _ ?_;obtain⟨q,es,ep,hq,h2,h3,h4,_,h5⟩:=Bg;refine Yf I (by rw[e];exact True.intro) hs ⟨q,hq⟩ ⟨hl,hd,_,(nc.put k eb rv).keeps fun c ys ec=>?_,q,es,ep,hq,h2,h3,h4,h5⟩;rw[zB (JE ec e (fun z=>nomatch z))];exact ec
end
section
variable{X:Cx}{mw:List (Addr×Obj)}{σ:St}{H:Hp}{s:Shared}{a:Addr}{kvs:List (Key×V)}{k:Key}{u:Value}{A:Around}{E:VS7}
theorem zab{Q:VS7}(I:Inv X mw σ H s)(e:Rd H a (.dK kvs))(h:∀t s',Inv X mw σ H s'->Q (.int kvs.length t) s'):wpAny (model X.prog X.w) A (call (.builtin "len") [.ref a]) Q E s:=by
 obtain⟨z,hd,vs,nc,dd⟩:=j4 I.hok e;refine call_len_dict hd dd (by rw[←nc.length];rw[eQ] at z;omega) ?_;rw[←nc.length];exact h _ _ (I.tok _)
end
def zaG(i:Expr):Prop:=∀ov iv,subscripted i false ov iv=operate [ov,iv] (kg ov iv)
theorem Rv{prog:Program}{w:World}{A:Around}{E:VS7}{s:Shared}{env:Env}{value ni:Expr}{pos:Pos}{T id:String}{Q:VS7}
  (hl:typeLookup (.type T) "__getitem__" = pure (some (.builtin id))) (hs:zaG ni)
  (h:wpAny (model prog w) A (eval value env) (fun o s₁=>wpAny (model prog w) A (eval ni env) (fun i s₂=>s₂.TypeIs o T/\wpAny (model prog w) A (kg o i) Q E s₂) E s₁) E s) :
  wpAny (model prog w) A (eval (.Subscript value ni pos) env) Q E s:=by
 refine Subscript_ (cB h (fun o s₁ h₁=>cB h₁ (fun i s₂ h₂=>?_) fun _ _ x=>x) fun _ _ x=>x);obtain⟨hT,h₂⟩:=h₂;unfold subscriptTail;refine aA ?_;rw[getitemInPython_of_ne hT.not_modules];refine aA (lO hT hl ?_);have fin:wpAny (model prog w) A (subscripted ni false o i) (fun r s₃=>wpAny (model prog w) A (letTemporaryGo value o r >>= fun _=>pure r) Q E s₃) E s₂:=by
  rw[hs o i];exact wpAny_operating (cB h₂ (fun r s₃ h₃=>aA (wpAny_letTemporaryGo (aF h₃))) fun _ _ x=>x)
 first
  |exact aF (aA fin)
  |exact aA (aF (aA fin))
  |exact aA fin
theorem Yg{X:Cx}{mw:List (Addr×Obj)}{σ:St}{H:Hp}{s:Shared}{a:Addr}{y:V}{o:Option V}(I:Inv X mw σ H s)(g:vj H a y o):s.TypeIs (.ref a) "dict":=by
 rcases g with ⟨kvs,k,e,_,_⟩|⟨kvs,k,b,e,_,_,_⟩
 ·obtain⟨_,_,vs,_,dd⟩:=j4 I.hok e;exact dd.typeIs
 ·obtain⟨_,_,xs,_,dd⟩:=Ye I.hok e;exact dd.typeIs
def zac(td ty:TE):TE:=fun σ H Q=>td σ H fun x H1=>ty σ H1 fun y H2=>∃a v,x=.ref a/\vj H2 a y (some v)/\Q v H2
def zbq(ty td:TE):TE:=fun σ H Q=>ty σ H fun y H1=>td σ H1 fun x H2=>∃a o,x=.ref a/\vj H2 a y o/\Q (.bl o.isSome) H2
def zad(td ty tv:TE):TS:=fun D σ H=>tv σ H fun v H1=>td σ H1 fun x H2=>ty σ H2 fun y H3=>∃a H4,x=.ref a/\UI H3 a y v H4/\D.nx σ H4
def zae(td ty tv:TE)(rd:V->V->Hp->VK->Prop):TS:=fun D σ H=>td σ H fun x H1=>ty σ H1 fun y H2=>∃a v,x=.ref a/\vj H2 a y (some v)∧
 tv σ H2 fun y2 H3=>rd v y2 H3 fun z H4=>∃H5,UI H4 a y z H5/\D.nx σ H5
section
variable{X:Cx}{o i e value:Expr}{pos nF BU:Pos}{td ty tv:TE}
theorem yZ(hu:X.A.units+1<cLine)(ho:PE X o td)(hi:PE X i ty)(hs:zaG i):PE X (.Subscript o i pos) (zac td ty):=by
 intro mw s σ H Q I h;refine Rv PySem.F.slot_dict_getitem.lookup hs (thn (ho mw s σ H _ I h) fun u s1 ⟨x,H1,I1,rx,q1⟩=>thn (hi mw s1 σ H1 _ I1 q1) fun iv s2 ⟨y,H2,I2,ry,a,v,ex,g,q2⟩=>?_);subst ex;obtain rfl:u=bK a:=rx;exact⟨Yg I2 g,j5 hu I2 g ry fun w' s3 I3 nQ=>⟨v,H2,I3,nQ,q2⟩⟩
theorem Su(hu:X.A.units+1<cLine)(hi:PE X i ty)(ho:PE X o td):PC X .In i o (zbq ty td):=by
 intro mw s σ H Q I h;refine thn (hi mw s σ H _ I h) fun iv s1 ⟨y,H1,I1,ry,q1⟩=>thn (ho mw s1 σ H1 _ I1 q1) fun u s2 ⟨x,H2,I2,rx,a,ov,ex,g,q2⟩=>?_;subst ex;obtain rfl:u=bK a:=rx;exact zbp hu I2 g ry fun s3 I3=>⟨.bl ov.isSome,H2,I3,rfl,q2⟩
theorem Yh(hu:X.A.units+1<cLine)(ho:PE X o td)(hi:PE X i ty)(hv:PE X value tv)(hs:swapsWith value (some (.Subscript o i nF)) pos.line X.env=pure false) :
  PS X (.Assign [.Subscript o i nF] value pos) (zad td ty tv):=by
 intro mw s σ H D I h;refine wpAny_Assign_Subscript (thn (hv mw s σ H _ I h) fun r s1 ⟨v,H1,I1,rv,q1⟩=>thn (ho mw s1 σ H1 _ I1 q1) fun u s2 ⟨x,H2,I2,rx,q2⟩=>thn (hi mw s2 σ H2 _ I2 q2) fun iv s3 ⟨y,H3,I3,ry,a,H4,ex,g,q3⟩=>?_) hs;subst ex;obtain rfl:u=bK a:=rx;exact j6 hu I3 g ry rv fun s4 I4=>⟨σ,H4,I4,q3⟩
theorem VA{op:Operator}{rd:V->V->Hp->VK->Prop}(hu:X.A.units+1<cLine)(ho:PE X o td)(hi:PE X i ty)(hv:PE X value tv)(FE:zaB X op rd)
  (ha:∀ov iv new,augStore i ov iv new=(do holding [new,ov,iv] (setItem ov iv new);release [new,ov,iv] [];pure .next)):PS X (.AugAssign (.Subscript o i BU) op value pos) (zae td ty tv rd):=by
 intro mw s σ H D I h;refine wpAny_AugAssign_SubscriptAny (thn (ho mw s σ H _ I h) fun u s1 ⟨x,H1,I1,rx,q1⟩=>thn (hi mw s1 σ H1 _ I1 q1) fun iv s2 ⟨y,H2,I2,ry,a,v,ex,g,q2⟩=>?_) ha;subst ex;obtain rfl:u=bK a:=rx;refine j5 hu I2 g ry fun w' s3 I3 nQ=>thn (hv mw s3 σ H2 _ I3 q2) fun w2 s4 ⟨y2,H3,I4,ry2,q3⟩=>thn (FE mw s4 σ H3 v y2 w' w2 _ I4 nQ ry2 q3) fun w3 s5 ⟨z,H4,I5,rz,H5,g5,q4⟩=>?_;exact j6 hu I5 g5 ry rz fun s6 I6=>⟨σ,H5,I6,q4⟩
end
theorem Tj{P:Program}{w:World}{H:Hp}(h:Heap)(hb:sysModules<h.objs.size):yf P w H (h.push { cls:=.type "dict",data:=.dict #[] }) h.objs.size (.dK []) :=
 ⟨aX _,beq_eq_false_iff_ne.mpr (Ne.symm (aT hb)),[],.nil,Heap.DictOf.new h⟩
theorem Tk{P:Program}{w:World}{H:Hp}(h:Heap)(hb:sysModules<h.objs.size):yf P w H (h.push { cls:=.type "dict",data:=.dict #[] }) h.objs.size (.dT []) :=
 ⟨aX _,beq_eq_false_iff_ne.mpr (Ne.symm (aT hb)),[],.nil,_,#[],0,aL _ rfl,⟨rfl,rfl,rfl⟩,rfl,rfl,iO⟩
def Q0:TE:=fun _ H Q=>∀p,H p=none->Q (.ref p) (upd H p (.dK []))
section
variable{X:Cx}{pos:Pos}
theorem u9:PE X (.Dict [] [] pos) Q0:=fun mw s σ H Q I h =>
 wpAny_Dict_empty ⟨.ref s.heap.objs.size,_,I.laid (a:=s.heap.objs.size) (o:=.dK []) (t':=s.toks) (fun _ _ q=>aD _ q) (aE _) (Tj s.heap I.big),rfl,h _ (I.hok.fresh (aE _))⟩
end
structure M1(X:Cx)(o:Expr)(m:Str)(mK:Pos)(e:Expr)(mQ:Pos):Prop where
 base:ig o m X.env (eval o X.env)=eval o X.env
 few:((fW mQ (bP [e] X.env)).all (fun x=>!x.1) && (kW mQ (ix [] X.env)).all (fun x=>x.1.isSome)
  && decide (([e]:List Expr).length+([]:List Keyword).length+(if([]:List Keyword).isEmpty then 0 else 1)<30))=true
 line:(mK.endLine == mQ.line)=true
 trees:fW mQ (bP [e] X.env)=[(false,eval e X.env)]
structure M2(X:Cx)(o:Expr)(m:Str)(mK:Pos)(e f:Expr)(mQ:Pos):Prop where
 base:ig o m X.env (eval o X.env)=eval o X.env
 few:((fW mQ (bP [e,f] X.env)).all (fun x=>!x.1) && (kW mQ (ix [] X.env)).all (fun x=>x.1.isSome)
  && decide (([e,f]:List Expr).length+([]:List Keyword).length+(if([]:List Keyword).isEmpty then 0 else 1)<30))=true
 line:(mK.endLine == mQ.line)=true
 trees:fW mQ (bP [e,f] X.env)=[(false,eval e X.env),(false,eval f X.env)]
def IsD(H:Hp)(a:Addr):Prop:=(∃kvs,Rd H a (.dK kvs))\/∃kvs,Rd H a (.dT kvs)
theorem Sv{X:Cx}{mw:List (Addr×Obj)}{σ:St}{H:Hp}{s:Shared}{a:Addr}(I:Inv X mw σ H s)(d:IsD H a) :
  s.TypeIs (.ref a) "dict" /\(∀b,bK a=.ref b->∃ob,s.heap.get? b=some ob/\ob.dict=none)/\(a == sysModules)=false:=by
 rcases d with ⟨kvs,e⟩|⟨kvs,e⟩
 ·obtain⟨_,hd,vs,_,dd⟩:=j4 I.hok e;refine⟨dd.typeIs,fun b q=>?_,hd⟩;cases q;obtain⟨ob,_,_,h1,h2,_⟩:=dd;exact⟨ob,h1,h2.2.1⟩
 ·obtain⟨_,hd,xs,_,dd⟩:=Ye I.hok e;refine⟨dd.typeIs,fun b q=>?_,hd⟩;cases q;obtain⟨ob,_,_,h1,h2,_⟩:=dd;exact⟨ob,h1,h2.2.1⟩
section
variable{X:Cx}{mw:List (Addr×Obj)}{σ:St}{H:Hp}{s:Shared}{a:Addr}{y d:V}{u r:Value}{o:Option V}{A:Around}{E:VS7}
theorem Q1{Q:VS7}(hu:A.units+1<cLine)(I:Inv X mw σ H s)(g:vj H a y o)(ry:z8 y u)(h:∀w' s',Inv X mw σ H s'->z8 (o.getD .non) w'->Q w' s') :
  wpAny (model X.prog X.w) A (call (.builtin "dict.get") [.ref a,u]) Q E s:=by
 rcases g with ⟨kvs,k,e,ey,l⟩|⟨kvs,k,b,e,ey,eb,l⟩
 ·subst ey;obtain⟨z,hd,vs,nc,dd⟩:=j4 I.hok e;refine iP eW dd.typeIs gm (PySem.F.args_dict_get_2 _ _) (meets_dict_get (zO X.prog X.w) a (Yd ry) hd) ⟨_,dd.mapOf,h _ _ (I.tok _) ?_⟩;rw[l];exact(nc.val k).getD rfl
 ·subst ey;cases(show u=bK b from ry);obtain⟨z,hd,xs,nc,dd⟩:=Ye I.hok e;refine iP eW dd.typeIs gm (PySem.F.args_dict_get_2 _ _) (meetsH_dict_get (gF (zO X.prog X.w)) a b hd) ⟨gk hu,k,xs,uO I.hok eb,dd,h _ _ (I.tok _) ?_⟩;rw[l];exact(nc.val k).getD rfl
theorem Q2{Q:VS7}(hu:A.units+1<cLine)(I:Inv X mw σ H s)(g:vj H a y o)(ry:z8 y u)(rd:z8 d r)(h:∀w' s',Inv X mw σ H s'->z8 (o.getD d) w'->Q w' s') :
  wpAny (model X.prog X.w) A (call (.builtin "dict.get") [.ref a,u,r]) Q E s:=by
 rcases g with ⟨kvs,k,e,ey,l⟩|⟨kvs,k,b,e,ey,eb,l⟩
 ·subst ey;obtain⟨z,hd,vs,nc,dd⟩:=j4 I.hok e;refine iP eW dd.typeIs gm (PySem.F.args_dict_get_3 _ _ _) (meets_dict_get_default (zO X.prog X.w) a (Yd ry) hd r) ⟨_,dd.mapOf,h _ _ (I.tok _) ?_⟩;rw[l];exact(nc.val k).getD rd
 ·subst ey;cases(show u=bK b from ry);obtain⟨z,hd,xs,nc,dd⟩:=Ye I.hok e;refine iP eW dd.typeIs gm (PySem.F.args_dict_get_3 _ _ _) (meetsH_dict_get_default (gF (zO X.prog X.w)) a b hd r) ⟨gk hu,k,xs,uO I.hok eb,dd,h _ _ (I.tok _) ?_⟩;rw[l];exact(nc.val k).getD rd
end
def Q3(td ty:TE):TE:=fun σ H Q=>td σ H fun x H1=>∃a,x=.ref a/\IsD H1 a/\ty σ H1 fun y H2=>∃o,vj H2 a y o/\Q (o.getD .non) H2
def Q4(td ty tx:TE):TE:=fun σ H Q=>td σ H fun x H1=>∃a,x=.ref a/\IsD H1 a/\ty σ H1 fun y H2=>tx σ H2 fun z H3=>∃o,vj H3 a y o/\Q (o.getD z) H3
section
variable{X:Cx}{o e f:Expr}{mK mQ:Pos}{td ty tx:TE}
theorem Tl(hu:X.A.units+1<cLine)(ho:PE X o td)(he:PE X e ty)(m:M1 X o "get" mK e mQ):PE X (.Call (.Attribute o "get" mK) [e] [] mQ) (Q3 td ty):=by
 intro mw s σ H Q I h;refine wpAny_Call_method m.base m.few m.line iD eW PySem.F.type_dict_get (thn (ho mw s σ H _ I h) fun u s1 ⟨x,H1,I1,rx,a,ex,d,q1⟩=>?_);subst ex;obtain rfl:u=bK a:=rx;obtain⟨t1,t2,_⟩:=Sv I1 d;refine⟨t1,t2,?_⟩;rw[m.trees];refine iM rfl (iZ (ga (thn (he mw s1 σ H1 _ I1 q1) fun iv s2 ⟨y,H2,I2,ry,ov,g,q2⟩=>iJ ?_)));exact Q1 hu I2 g ry fun w' s3 I3 nQ=>⟨_,H2,I3,nQ,q2⟩
theorem Tn(hu:X.A.units+1<cLine)(ho:PE X o td)(he:PE X e ty)(hf:PE X f tx)(m:M2 X o "get" mK e f mQ):PE X (.Call (.Attribute o "get" mK) [e,f] [] mQ) (Q4 td ty tx):=by
 intro mw s σ H Q I h;refine wpAny_Call_method m.base m.few m.line iD eW PySem.F.type_dict_get (thn (ho mw s σ H _ I h) fun u s1 ⟨x,H1,I1,rx,a,ex,d,q1⟩=>?_);subst ex;obtain rfl:u=bK a:=rx;obtain⟨t1,t2,_⟩:=Sv I1 d;refine⟨t1,t2,?_⟩;rw[m.trees];refine iM rfl (iZ (ga (thn (he mw s1 σ H1 _ I1 q1) fun iv s2 ⟨y,H2,I2,ry,q2⟩ =>
  ga (thn (hf mw s2 σ H2 _ I2 q2) fun fv s3 ⟨z,H3,I3,rz,ov,g,q3⟩=>iJ ?_))))
 exact Q2 hu I3 g ry rz fun w' s4 I4 nQ=>⟨_,H3,I4,nQ,q3⟩
end
end L2
namespace Att
open PySem PySem.W PySem.Calls PyProof.Rows
end Att
namespace L2
open PySem PySem.Spec PyProof.Rows
section
variable{X:Cx}
theorem vP:xV X (.builtin "len") (fun xs H Q=>∃a kvs,xs=[V.ref a]/\H a=some (.dK kvs)/\Q (.int kvs.length) H):=by
 intro mw s σ H xs us Q I r h;obtain⟨a,kvs,rfl,ha,q⟩:=h;obtain⟨u,rfl,ru⟩:=wC r;cases ru;exact zab I (.inl ha) fun t s' I'=>⟨.int kvs.length,H,I',⟨t,rfl⟩,q⟩
end
end L2
namespace L3
open PySem PySem.Spec PyProof.Rows L2
open PySem PySem.Spec PyProof.Rows L2 PySem.W
theorem VB:∀d:List Int,(d.map (Sum.inl:Int->Key)).map kV=d.map V.int
 |[]=>rfl
 |x::d=>by rw[cX,cX,cX,VB d];rfl
open PySem PySem.Spec PyProof.Rows L2 HT
abbrev FW:=List (List Int×List Int)
theorem qE:∀{l l':List (List Int)},l.Nodup->(∀x∈l,x∈l')->l.length<=l'.length
 |[],_,_,_=>aX _
 |a::l,l',hn,h=>by
  have ha:a∈l':=h a (aS.mpr (.inl rfl));obtain⟨h1,h2⟩:=cJ.mp hn;have:=qE (l:=l) (l':=l'.erase a) h2 fun x hx=>(List.mem_erase_of_ne (fun e=>h1 (by rw[←e];exact hx))).mpr (h x (aS.mpr (.inr hx)));rw[List.length_erase_of_mem ha] at this;have:0<l'.length:=List.length_pos_of_mem ha;rw[dW];omega
noncomputable def kI(d:List Int):List Key:=d.map Sum.inl
theorem zaf(d:List Int):(kI d).map kV=d.map V.int:=VB d
theorem Grow.setDT{m:List Addr}{H:Hp}{p:Addr}{xs:List (List Key×V)}(h:H p=some (.dT xs))(hm:p∈m)(ys:List (List Key×V)):Grow m H (upd H p (.dT ys)) :=
 ⟨fun b u hb q=>by rw[zB (show b≠p from fun z=>hb (by rw[z];exact hm))];exact q,fun b zs q=>by rw[zB (fun z=>by subst z;rw[h] at q;cases q)];exact q,fun b u v q=>by rw[zB (fun z=>by subst z;rw[h] at q;cases q)];exact q⟩
theorem Room.u1F{k:Nat}{A:Around}(r:Room k A):A.units+1<cLine:=by have:=r.un;omega
def Y9(prog:Program)(w:World)(Hb:Hp)(h:Heap)(D:Addr)(o:Obj)(kvs:List (List Key×V)):Prop :=
 kvs.length<=sizeLine/\(D == sysModules)=false/\∃xs:List (List Key×Addr×Value),KT Hb kvs xs/\∃es ep,h.get? D=some o/\o.ExactDict/\o.data=.dict es ep/\es.toList=xs.map (entryOfKey (gF (zO prog w)))/\(xs.map (·.1)).Nodup
theorem Y9.at{prog:Program}{w:World}{Hb:Hp}{h h':Heap}{D:Addr}{o:Obj}{kvs:List (List Key×V)}(r:Y9 prog w Hb h D o kvs)(e:h'.get? D=some o):Y9 prog w Hb h' D o kvs :=
 let ⟨z,y,xs,k,es,ep,_,h2,h3,h4,h5⟩:=r;⟨z,y,xs,k,es,ep,e,h2,h3,h4,h5⟩
theorem Y9.obj{prog:Program}{w:World}{Hb H':Hp}{h:Heap}{D:Addr}{o:Obj}{kvs:List (List Key×V)}(r:Y9 prog w Hb h D o kvs)(hk:∀b xs,Hb b=some (.tup xs)->H' b=some (.tup xs)):yf prog w H' h D (.dT kvs) :=
 let ⟨z,y,xs,k,es,ep,h1,h2,h3,h4,h5⟩:=r;⟨z,y,xs,k.keeps hk,o,es,ep,h1,h2,h3,h4,h5⟩
theorem Y9.nocell{prog:Program}{w:World}{Hb:Hp}{h:Heap}{D:Addr}{o:Obj}{kvs:List (List Key×V)}(r:Y9 prog w Hb h D o kvs)(v:Option Value):o.data≠.cell v:=by
 obtain⟨_,_,_,_,es,ep,_,_,h3,_⟩:=r;rw[h3];intro z;cases z
noncomputable def zS(k s l b:Nat):Nat:=wfN k s l (xO k s ((b % 2 ^ k:Nat):Int))
section
variable{k:Nat}{rows:List (List Int)}
theorem Rw{b:Nat}:b % 2 ^ k<2 ^ k:=ft _ (dS k)
theorem zaH{s l b:Nat}(k4:k<=4)(s1:1<=s)(sk:s<=k)(hl:l<2 ^ k):WfF k s l (xO k s ((b % 2 ^ k:Nat):Int)):=wfF k4 s1 sk hl (J8 k4 sk Rw)
end
noncomputable def Rx(ns:List Int):List Int:=ns.foldl gU []
theorem VC{ns:List Int}:firstMet (fun i=>ns.getD i 0) ns.length=Rx ns:=by
 unfold firstMet Rx
 congr 1
 refine iQ fun i=>?_;by_cases h:i<ns.length
 ·rw[bN,kf h,gE,aJ,aH h];rfl
 ·rw[bN,cO (by rw[cD];omega),cO (by omega)];rfl
theorem Xa:∀{ns:List Int} {us:List Value},zZ (ns.map V.int) us->fL us ns
 |[],_,.nil=>.nil
 |n::ns,_,.cons r t=>by
  obtain⟨tk,rfl⟩:=r;exact .cons n tk (Xa t)
section
variable{X:Cx}{mw:List (Addr×Obj)}{σ:L2.St}{H2:Hp}{s₂:Shared}{it:Addr}{fp:List Addr}{tn:Nat->Heap->Prop}{J:It}{scope:Scope}{cl:List (Str×Addr)}{N':List Str}{sub:List (Option Nat)}
theorem VD{C D:Addr}{s₀:Shared}{s':Shared}{σ':L2.St}{H' Hb:Hp}{kvs:List (List Key×V)}{o oC:Obj}(I:Inv X mw σ H2 s₂)
    (mY:∀b o,s₂.heap.get? b=some o->s₀.heap.get? b=some o) (pf:s₀.os=s₂.os) (hD:s₂.heap.objs.size<=D) (hC:s₂.heap.objs.size<=C) (Au:D≠C) (f2:∀b∈fp,vz X mw H2 b)
    (I':Inv (cxC X N' scope cl C D fp s₀ H2) mw σ' H' s') (hn:H' D=none) (hb:∀b xs,Hb b=some (.tup xs)->H' b=some (.tup xs)) (rv:Y9 X.prog X.w Hb s'.heap D o kvs)
    (ho:s'.heap.get? C=some oC) (hd:∀v,oC.data≠.cell v):Inv X (mw++[(C,oC)]) σ (upd H' D (.dT kvs)) s'/\vz X mw (upd H' D (.dT kvs)) C:=by
  have Dy:∀b o,s₂.heap.get? b=some o->b≠D:=fun b o e=>aT (aN (aQ e) hD);have nm:∀b o,s₂.heap.get? b=some o->b∉fp->b∉D::fp:=fun b o e h z=>(aS.mp z).elim (Dy b o e) h;have U:=I'.base;have HC:upd H' D (.dT kvs) C=none:=by rw[zB (Ne.symm Au)];exact I'.free
  have nv:vz X mw (upd H' D (.dT kvs)) C:=I.fpOk hC HC;have tp:∀b xs,H2 b=some (.tup xs)->upd H' D (.dT kvs) b=some (.tup xs):=fun b xs e=>by have z:=U.tups b xs e;rw[zB (zF z hn)];exact z
  have un:Un (frs X.stack) fp H2 (upd H' D (.dT kvs)) s₂.heap s'.heap :=
    { keep:=fun b o e n h1 h2=>U.keep b o (mY b o e) n h1 (nm b o e h2)
      slot:=fun b o e n h1 h2=>U.slot b o (mY b o e) n h1 (nm b o e h2)
      free:=fun b o e n h2=>by rw[zB (Dy b o e)];exact U.free b o (mY b o e) n (nm b o e h2)
      there:=fun b o e h2=>U.there b o (mY b o e) (nm b o e h2)
      tups:=tp
      frzs:=fun b o u e=>by have z:=U.frzs b o u e;rw[zB (zF z hn)];exact z
      tbls:=fun b ps e=>by obtain⟨more,z⟩:=U.tbls b ps e;exact⟨more,by rw[zB (zF z hn)];exact z⟩ }
  have hok:HOk X.prog X.w (upd H' D (.dT kvs)) s'.heap:=HOk.track I'.hok hn (rv.obj fun b xs e=>by have z:=hb b xs e;rw[zB (zF z hn)];exact z);have IX:Inv X mw σ (upd H' D (.dT kvs)) s':=I.call' (I'.os.trans pf) un hok I'.bare fun b hb=>⟨(f2 b hb).2.2.2.1,(f2 b hb).2.1,(f2 b hb).2.2.2.2.1,(f2 b hb).2.2.2.2.2⟩
  refine⟨IX.pins_of fun p hp=>?_,nv⟩;rcases aP.mp hp with hp|hp
  · exact IX.pin p (aM _ hp)
  · rw[aB.mp hp]
    exact⟨ho,HC,nv.2.1,nv.2.2.1,hd⟩
end
section
variable{c:TT}{e:TE}{i:Nat}{v v':V}{t u r:TS}{D:Ends}{σ:L2.St}{H:Hp}{rt:VK}{bk ct:L2.St->Hp->Prop}
theorem xG(h:t D (σ.set i (some v)) H):uk i v σ H ({ nx:=t D,rt:=rt,bk:=bk,ct:=ct }:Ends).nx:=h
theorem VE(e:v=v')(h:t D (σ.set i (some v')) H):uk i v σ H ({ nx:=t D,rt:=rt,bk:=bk,ct:=ct }:Ends).nx:=by subst e;exact h
theorem Q5(Good:L2.St->Hp->Prop)(hr:∀σ' H',Good σ' H'->r D σ' H')(hc:(∀σ' H',Good σ' H'->r D σ' H')->Qp c t u { D with nx:=r D } σ H):UL (Qp c t u) r D σ H:=hc hr
theorem tX(Good:V->Hp->Prop)(hc:∀K:VK,(∀v H',Good v H'->K v H')->e σ H K)(hr:∀v H',Good v H'->t D (σ.set i (some v)) H'):UL (Jx e (uk i)) t D σ H:=hc _ fun v H' g=>hr v H' g
theorem xH(h:t D σ H):Qo ({ nx:=t D,rt:=rt,bk:=bk,ct:=ct }:Ends) σ H:=h
theorem JA(h:t D σ H):({ nx:=t D,rt:=rt,bk:=bk,ct:=ct }:Ends).nx σ H:=h
theorem tY(Good:Bool->Hp->Prop)(hc:∀K:Bool->Hp->Prop,(∀b H',Good b H'->K b H')->c σ H K)(hr:∀b H',Good b H'->if b=true then t { D with nx:=r D } σ H' else u { D with nx:=r D } σ H'):UL (Qp c t u) r D σ H:=hc _ hr
end
theorem X0:∀k:Fin 5,∀b:Fin 16,cZ (b.val:Int) (1*2 ^ ((k.val:Int)).toNat-1)=((b.val % 2 ^ k.val:Nat):Int):=by decide +kernel
theorem To{k b:Nat}(k4:k<=4)(hb:b<16):cZ (b:Int) (1*2 ^ ((k:Int)).toNat-1)=((b % 2 ^ k:Nat):Int):=X0 ⟨k,by omega⟩ ⟨b,hb⟩
def j7(_:FG7):Sp:=sp2 fun x y H Q=>∃(k b:Nat),x=.int k/\y=.int b/\k<=4/\b<16/\Q (.int ((b % 2 ^ k:Nat):Int)) H
theorem j8:typeLookup (.type "list") "keys" = pure none:=by rw[i8,gH];kernel_rfl
theorem wY:typeLookup (.type "list") "__getattr__" = pure none:=by rw[i8,gH];kernel_rfl
section
variable{prog:Program}{w:World}{A:Around}{E:VS7}
theorem X1(a:Addr)(u:Tok):MeetsIn prog w (Builtin.«object.__getattribute__» ⟨[.ref a,.str "keys" u],[]⟩)
  (fun A R s=>A.handled=none/\(∃its n,s.heap.get? a=some { cls:=.type "list",data:=.seq its n })/\∀h' tk e,Heap.NewAttrErr s.heap h' e (.ref a) "keys" -> R (.error (.ref e)) { s with heap:=h',toks:=tk }) :=
 .of_wp fun A R s ⟨hh,⟨its,n,hx⟩,hR⟩=>by
  obtain⟨h,g,d,t,os⟩:=s;have hT:(⟨h,g,d,t,os⟩:Shared).TypeIs (.ref a) "list":=⟨_,hx,rfl⟩
  have f4:=j8;unfold Builtin.«object.__getattribute__»;repeat (any_goals (first|assumption|wp_step))
  exact wpAny_raiseAttrError hh hR (attrMsg_fits (by decide +kernel) (by size_fits))
theorem sR{s:Shared}{a:Addr}{its:Array Value}{n:Nat}{Q:Option Value->Shared->Prop}(hx:s.heap.get? a=some { cls:=.type "list",data:=.seq its n })(hA:A.handled=none)
  (hq:∀h' tk,(∀b o,s.heap.get? b=some o->h'.get? b=some o)->Q none { s with heap:=h',toks:=tk }) :
  wpAny (model prog w) A (getAttr? (.ref a) "keys") Q E s:=by
 obtain⟨h,g,d,t,os⟩:=s;have hT:∀t',(⟨h,g,d,t',os⟩:Shared).TypeIs (.ref a) "list":=fun _=>⟨_,hx,rfl⟩
 have f1:=sub_AttributeError;have f3:=F.slot_list_getattribute.lookup;have f4:=F.slot_list_getattribute.bind (.ref a);have f5:=wY;unfold getAttr? getAttrBy? getAttrBy;repeat (any_goals (first|assumption|exact hT _|((with_reducible show wpAny _ _ (call (Value.builtin "list.__getattribute__") _ _) _ _ _);refine iP F.slot_list_getattribute (hT _) F.entry_list_ga (F.args_list_getattribute_2 _ _) (X1 a _) ⟨hA,⟨_,_,hx⟩,fun h' tk' e hxx=>?_⟩)|wp_step))
 obtain⟨t',u',he⟩:=hxx.there;show wpAny _ _ (getattributeRaised _ _ _ _ _ _ _) _ _ _;unfold getattributeRaised;have hE:∀t2,(⟨h',g,d,t2,os⟩:Shared).TypeIs (.ref e) "AttributeError":=fun _=>⟨_,he,rfl⟩
 repeat (any_goals (first|assumption|exact hE _|wp_step))
 exact hq _ _ hxx.keeps
end
noncomputable def uT(ps:List (Key×V)):List (Key×V):=ps.foldl (fun d p=>xt d p.1 p.2) []
theorem j9(ps:List (Key×V)):(uT ps).length<=ps.length:=by
 have go:∀(ps d:List (Key×V)),(ps.foldl (fun d p=>xt d p.1 p.2) d).length<=d.length+ps.length:=by
  intro ps;induction ps with
  |nil=>intro d;exact aE _
  |cons p ps ih =>
   intro d;have h1:=ih (xt d p.1 p.2);have h2:=xF d p.1 p.2;rw[eR,dW];omega
 have:=go ps [];rw[gB,lA] at this;exact this
theorem X2{ps:List (Key×V)}{i:Nat}{p:Key×V}(h:ps[i]?=some p):uT (ps.take (i+1))=xt (uT (ps.take i)) p.1 p.2:=by
 unfold uT;rw[List.take_succ,h,Option.toList_some,eM];rfl
theorem rN:entryFor table "dict.update.loop" = some Builtin.«dict.update.loop»:=entryFor_of_tree (by kernel_rfl)
theorem wQ:plainId "dict.update.loop" = true:=by decide +kernel
theorem Za:∀{zs:List V} {us:List Value} {i:Nat} {u:Value},zZ zs us->us[i]?=some u->∃z,zs[i]?=some z/\z8 z u
 |_,_,_,_,.nil,h=>by cases h
 |_,_,0,_,.cons r _,h=>by cases h;exact⟨_,rfl,r⟩
 |_,_,i+1,_,.cons _ t,h=>Za (i:=i) t h
def qF(H:Hp)(ys:List V)(ps:List (Key×V)):Prop:=ys.length=ps.length/\∀(i:Nat) (p:Key×V),ps[i]?=some p->∃t,ys[i]?=some (V.ref t)/\H t=some (.tup [kV p.1,p.2])
section
variable{prog:Program}{w:World}{A:Around}{E:VS7}{R:Result->Shared->Prop}{I D:Addr}{fp wr:List Addr}{n:Nat}{P:Nat->Value->Prop}{St:Nat->Heap->Prop}{H:Hp}{s₀:Shared}
theorem X3{zs:List V}{ps:List (Key×V)}(ok:HOk prog w H s₀.heap)(W:Walks prog w A.in1 I fp wr n P St)(DE:D∉fp)(hD:s₀.heap.objs.size<=D)(hwr:∀b∈wr,s₀.heap.objs.size<=b)
  (hn:n<=sizeLine) (oK:ps.length=n) (ha:qF H zs ps) (hP:∀i v,P i v->∃z,zs[i]?=some z/\z8 z v) :
  ∀(k i:Nat) (s:Shared),n-i=k->i<=n->St i s.heap->(∀b o,b≠D->b∉wr->s₀.heap.get? b=some o->s.heap.get? b=some o)->(∃us,KV (uT (ps.take i)) us/\s.heap.DictOf (zO prog w) D us)→
   (∀h' tk,(∀b o,b≠D->b∉wr->s₀.heap.get? b=some o->h'.get? b=some o)->(∃us,KV (uT ps) us/\h'.DictOf (zO prog w) D us)->R (.ok (.ret .none)) { s with heap:=h',toks:=tk })→
   codeAny (model prog w) A (.builtin "dict.update.loop" ⟨[.ref D,.ref I,rawInt i,.none],[]⟩) R s:=by
 have hDw:D∉wr:=fun h=>DE (W.sub _ h);have old:∀b o,s₀.heap.get? b=some o->b≠D/\b∉wr:=fun b o e=>⟨aT (aN (aQ e) hD),fun z=>absurd (aQ e) (Nat.not_lt.mpr (hwr b z))⟩
 intro k;induction k with
 |zero =>
  intro i s hk hi oh kp hS hR;have hin:i=n:=by omega
  subst hin;refine dA rN ?_;rw[Around.under_plainId wQ _];show wpAny _ A.in1 (pyNext (.ref I) >>= _) _ _ s;refine aA (W.done s _ _ oh fun h' tk hm=>?_);show wpAny _ A.in1 (Builtin.Dict.addKeywords D [] >>= fun _=>ret cA) _ _ _;unfold Builtin.Dict.addKeywords;refine aA (aF (aF (hR h' tk (fun b o h1 h2 e=>hm b o h2 (kp b o h1 h2 e)) ?_)));obtain⟨us,v1,o,es,ep,ho,r⟩:=hS;rw[←oK,cU] at v1;exact⟨us,v1,o,es,ep,hm D o hDw ho,r⟩
 |succ k ih =>
  intro i s hk hi oh kp hS hR;have mE:i<n:=by omega
  refine dA rN ?_;rw[Around.under_plainId wQ _];show wpAny _ A.in1 (pyNext (.ref I) >>= _) _ _ s;refine aA (W.item i s _ _ mE oh fun v h1 tk1 hPv BZ B0=>?_);obtain⟨z,hz,rz⟩:=hP i v hPv;obtain⟨x,hx⟩:∃x,ps[i]?=some x:=⟨_,aH (by omega)⟩
  obtain⟨t,hzt,ht⟩:=ha.2 i x hx;rw[hz] at hzt;obtain rfl:=bH hzt;cases(show v=bK t from rz);have kp1:∀b o,b≠D->b∉wr->s₀.heap.get? b=some o->h1.get? b=some o:=fun b o h1 h2 e=>B0 b o h2 (kp b o h1 h2 e);have kps:∀b o,s₀.heap.get? b=some o->h1.get? b=some o:=fun b o e=>kp1 b o (old b o e).1 (old b o e).2 e;obtain⟨_,its,Bh,mW⟩:=(show yf prog w H s₀.heap t (.tup [kV x.1,x.2]) from ok t _ ht)
  obtain⟨u1,uv,rfl,r1,rv⟩:∃u1 uv,its=[u1,uv]/\z8 (kV x.1) u1/\z8 x.2 uv:=by
   cases Bh with
   |cons a c=>cases c with|cons b d=>cases d;exact⟨_,_,rfl,a,b⟩
  obtain⟨ot,Be,hct,m,hdt⟩:=mW;have DF:=kps t ot Be;obtain⟨us,v1,o,es,ep,ho,r⟩:=hS;have ul:us.length<=i:=by have:=v1.length;have h2:=j9 (ps.take i);rw[dB] at h2;omega
  have dd:h1.DictOf (zO prog w) D us:=⟨o,es,ep,B0 D o hDw ho,r⟩
  refine aA (bT ?_);show wpAny _ A.in1 ((Builtin.Dict.pairItems (.ref t)).tryCatch _ >>= _) _ _ _;refine aA (wpAny_tryCatch ?_);unfold Builtin.Dict.pairItems;refine aA (fK (T:="tuple") ⟨ot,DF,hct⟩ ?_);show wpAny _ _ (if(cI "tuple" == cI "list" ||cI "tuple" == cI "tuple")=true then _ else _) _ _ _;rw[if_pos (by decide)];refine aA (lU DF hdt (aF ?_));show wpAny _ _ (holding [u1,uv] (dictSet D u1 uv)) _ _ _;refine bT ?_;refine wpAny_dictSet_pairs (knd:=zO prog w) (k:=x.1) (hsz:=by omega) (Yd r1) dd fun h2 CJ sb=>?_;refine aF ⟨ip wQ _,?_⟩;have e1:((i:Int)+1)=((i+1:Nat):Int):=by omega
  have kp2:∀b o,b≠D->b∉wr->s₀.heap.get? b=some o->h2.get? b=some o:=fun b o hb hw e=>sb.extBut b o hb (kp1 b o hb hw e);show codeAny (model prog w) A (.builtin "dict.update.loop" ⟨[.ref D,.ref I,rawInt ((i:Int)+1),.none],[]⟩) R _;rw[e1];refine ih (i+1) _ (by omega) mE (W.frame _ _ _ BZ fun b hb o e=>sb.extBut b o (fun h=>DE (h▸hb)) e) kp2 ⟨_,?_,CJ⟩ fun h' tk k' d'=>hR h' tk k' d';rw[X2 hx];exact v1.put _ rv
end
section
variable{X:Cx}
theorem rO{k:Nat}(hr:Room k X.A):xV X (.type "dict") (fun xs H Q=>∃a zs ps,xs=[V.ref a]/\H a=some (.lst zs)/\qF H zs ps/\∀l,H l=none->Q (.ref l) (upd H l (.dK (uT ps)))):=by
 intro mw s σ H xs us Q I r h;obtain⟨a,zs,ps,rfl,ha,oi,q⟩:=h;obtain⟨u,rfl,ru⟩:=wC r;cases ru;obtain⟨z,its,m,Bh,ea⟩:=(show yf X.prog X.w H s.heap a (.lst zs) from I.hok a _ ha)
 have zl:=oi.1;have il:=Bh.length;refine callType_codes (Q₁:=fun obj s₁=>obj=.ref s.heap.objs.size/\s₁={ s with heap:=s.heap.push { cls:=.type "dict",data:=.dict #[] } }) F.kt_called_dict (F.kt_typeCall_dict_1 _) F.entry_dict_init (kt_code_dict_new _ ⟨rfl,rfl⟩) ?_;rintro obj s₁ ⟨rfl,rfl⟩;have hT:(s.heap.push { cls:=.type "dict",data:=.dict #[] }).get? s.heap.objs.size=some { cls:=.type "dict",data:=.dict #[] }:=aL _ rfl;refine⟨⟨_,hT,rfl⟩,F.args_dict_init_2 _ _,?_⟩;unfold Builtin.«dict.__init__»;refine aA ?_;unfold Builtin.Dict.selfAndRest;refine aA (wpAny_notOrdered_dict ⟨_,hT,rfl⟩ (show wpAny _ _ (pure (s.heap.objs.size,[bK a])) _ _ _ from aF ?_));show wpAny _ _ (Builtin.Dict.updateFrom "dict.__init__" s.heap.objs.size (.ref a) [] .none) _ _ _;unfold Builtin.Dict.updateFrom;have FY:(s.heap.push { cls:=.type "dict",data:=.dict #[] }).get? a=some { cls:=.type "list",data:=.seq its.toArray m }:=aD _ ea;refine aA (fK (T:="list") ⟨_,FY,rfl⟩ ?_);rw[if_pos (by decide)];refine aA (sR FY hr.hd fun h1 tk1 k1=>?_);rw[if_pos (by rfl)];refine aA (fO ?_);have eah:h1.get? a=some { cls:=.type "list",data:=.seq its.toArray m }:=k1 _ _ FY;have m8:h1.IsList a its.toArray:=⟨_,eah,rfl,_,rfl⟩
 have hsz:s.heap.objs.size<h1.objs.size:=aQ (k1 _ _ hT);have ks:∀b o,s.heap.get? b=some o->h1.get? b=some o:=fun b o e=>k1 b o (aD _ e);have B1:a<h1.objs.size:=aQ eah;refine aA (fe (l:=a) (items:=its.toArray) m8 ?_);refine aF ⟨ip wQ _,?_⟩;refine X3 (A:=X.A.in1) (H:=H) (s₀:=s) (D:=s.heap.objs.size) (I:=h1.objs.size) I.hok (Walks.list (A:=X.A.in1.in1) hr.hd h1.objs.size a (aT B1) its.toArray) ?_ (aE _) ?_ (by rw[aO,←il];exact z) (by rw[aO,←il,zl]) oi ?_ _ 0 _ rfl (aX _) ⟨⟨_,aL _ rfl,rfl,rfl⟩,m8.push _⟩ (fun b o _ _ e=>aD _ (ks b o e)) ⟨[],.nil,_,#[],0,aD _ (k1 _ _ hT),⟨rfl,rfl,rfl⟩,rfl,fun e he=>by simp at he,.nil,iO⟩ ?_
 ·intro hm;simp only[aS,hV,or_false] at hm;rcases hm with e|e
  ·exact absurd e (aT hsz)
  ·rw[←e] at ea;exact absurd (aQ ea) (cV _)
 ·intro b hb;rw[aB.mp hb];exact cG hsz
 ·intro i v hv;exact Za Bh (show its[i]?=some v by simpa using hv)
 ·rintro h' tk kp' ⟨us,nc,dd⟩;have hf:H s.heap.objs.size=none:=I.hok.fresh (aE _);have hsM:(s.heap.objs.size == sysModules)=false:=beq_false_of_ne (eZ I.big);have hzz:(uT ps).length<=sizeLine:=bM (j9 ps) (by rw[←zl];exact z);refine⟨rfl,.ref s.heap.objs.size,_,I.laid (t':=tk) (o:=.dK (uT ps)) (fun b ob e=>kp' b ob (aT (aQ e)) (fun w=>?_) e) (aE _) ⟨hzz,hsM,us,nc,dd⟩,rfl,q _ hf⟩;have:=aQ e;rw[aB.mp w] at this;exact absurd hsz (Nat.not_lt.mpr (cG this))
end
structure OrdB(n:Nat)(lt:Nat->Nat->Bool):Prop where
 tr:∀{i j k:Nat},lt i j=true->lt j k=true->lt i k=true
 as:∀{i j:Nat},lt i j=true->lt j i=false
 to:∀{i j:Nat},i<n->j<n->i≠j->lt i j=false->lt j i=true
structure PmA(n:Nat)(p:Array Nat):Prop where
 sz:p.size=n
 pm:p.toList.Perm (aR n)
theorem PmA.lt{n:Nat}{p:Array Nat}(h:PmA n p){i:Nat}(hi:i<n):p.getD i 0<n:=by
 have mJ:i<p.toList.length:=by rw[bJ,h.sz];exact hi
 have e:p.getD i 0=p.toList[i]:=by simp[lB,h.sz,hi]
 rw[e];exact aV.mp (h.pm.mem_iff.mp (dX mJ))
theorem PmA.inj{n:Nat}{p:Array Nat}(h:PmA n p){i j:Nat}(hi:i<n)(hj:j<n)(oP:i≠j):p.getD i 0≠p.getD j 0:=by
 have mJ:i<p.toList.length:=by rw[bJ,h.sz];exact hi
 have pT:j<p.toList.length:=by rw[bJ,h.sz];exact hj
 have e:p.getD i 0=p.toList[i]:=by simp[lB,h.sz,hi]
 have e':p.getD j 0=p.toList[j]:=by simp[lB,h.sz,hj]
 rw[e,e'];intro z;exact oP ((iV (h.pm.nodup_iff.mpr List.nodup_range)).mp z)
theorem PmA.of_perm{n:Nat}{p q:Array Nat}(h:PmA n p)(hq:q.Perm p):PmA n q :=
 ⟨hq.size_eq.trans h.sz,(Array.perm_iff_toList_perm.mp hq).trans h.pm⟩
def Ups(lt:Nat->Nat->Bool)(p:Array Nat)(k:Nat):Prop:=∀i j,i<j->j<k->lt (p.getD i 0) (p.getD j 0)=true
def Yi(lt:Nat->Nat->Bool)(p:Array Nat)(k:Nat):Prop:=∀i j,i<j->j<k->lt (p.getD j 0) (p.getD i 0)=true
theorem Xb{p q:Array Nat}{i j:Nat}(h:p[i]?=q[j]?):p.getD i 0=q.getD j 0:=by
 rw[eJ,eJ,h]
section
variable{n:Nat}{lt:Nat->Nat->Bool}{oq:Nat->Nat->(Bool->Shared->Prop)->Shared->Prop}{s:Shared}
def Tp(n:Nat)(lt:Nat->Nat->Bool)(oq:Nat->Nat->(Bool->Shared->Prop)->Shared->Prop)(s:Shared):Prop:=∀i j (C:Bool->Shared->Prop),i<n->j<n->C (lt i j) s->oq i j C s
theorem Ups.snoc{p:Array Nat}{m:Nat}(o:OrdB n lt)(h1:1<=m)(u:Ups lt p m)(e:lt (p.getD (m-1) 0) (p.getD m 0)=true):Ups lt p (m+1):=by
 intro i j nO hj;by_cases hjm:j<m
 ·exact u i j nO hjm
 ·obtain rfl:j=m:=by omega
  by_cases hi:i=j-1
  ·subst hi;exact e
  ·exact o.tr (u i (j-1) (by omega) (by omega)) e
theorem qG(o:OrdB n lt)(hc:Tp n lt oq s){p:Array Nat}(hp:PmA n p):∀(f m:Nat) {Q:Nat->Shared->Prop},1<=m->m+f=n->Ups lt p m→
  (∀k,m<=k->k<=n->Ups lt p k->(k=n\/lt (p.getD k 0) (p.getD (k-1) 0)=true)->Q k s)->(kas_asc p f m).kasWp oq Q s
 |0,m,Q,h1,e,u,q=>q m (aE _) (by omega) u (.inl (by omega))
 |f+1,m,Q,h1,e,u,q=>by
  refine hc _ _ _ (hp.lt (by omega)) (hp.lt (by omega)) ?_;cases c:lt (p.getD m 0) (p.getD (m-1) 0) with
  |true =>
   dsimp only
   rw[if_pos rfl];exact q m (aE _) (by omega) u (.inr c)
  |false =>
   dsimp only
   rw[if_neg (by decide)];exact qG o hc hp f (m+1) (by omega) (by omega) (u.snoc o h1 (o.to (hp.lt (by omega)) (hp.lt (by omega)) (hp.inj (by omega) (by omega) (by omega)) c)) fun k hk=>q k (by omega)
theorem Yi.snoc{p:Array Nat}{m:Nat}(o:OrdB n lt)(h1:1<=m)(u:Yi lt p m)(e:lt (p.getD m 0) (p.getD (m-1) 0)=true):Yi lt p (m+1):=by
 intro i j nO hj;by_cases hjm:j<m
 ·exact u i j nO hjm
 ·obtain rfl:j=m:=by omega
  by_cases hi:i=j-1
  ·subst hi;exact e
  ·exact o.tr e (u i (j-1) (by omega) (by omega))
theorem Zb(o:OrdB n lt)(hc:Tp n lt oq s){p:Array Nat}(hp:PmA n p):∀(f m:Nat) {Q:Array Nat×Nat×Nat->Shared->Prop},1<=m->m+f=n->Yi lt p m→
  (∀k,m<=k->k<=n->Yi lt p k->Q (p,k,0) s)->(kas_desc f p m 0).kasWp oq Q s
 |0,m,Q,h1,e,u,q=>q m (aE _) (by omega) u
 |f+1,m,Q,h1,e,u,q=>by
  refine hc _ _ _ (hp.lt (by omega)) (hp.lt (by omega)) ?_;cases c:lt (p.getD m 0) (p.getD (m-1) 0) with
  |true =>
   dsimp only
   rw[if_pos rfl,if_neg (by decide)];exact Zb o hc hp f (m+1) (by omega) (by omega) (u.snoc o h1 c) fun k hk=>q k (by omega)
  |false =>
   dsimp only
   rw[if_neg (by decide)];refine hc _ _ _ (hp.lt (by omega)) (hp.lt (by omega)) ?_;rw[o.to (hp.lt (by omega)) (hp.lt (by omega)) (hp.inj (by omega) (by omega) (by omega)) c];dsimp only
   rw[if_pos rfl];exact q m (aE _) (by omega) u
theorem Ry{p:Array Nat}{k:Nat}(hp:PmA n p)(hk:k<=n)(d:Yi lt p k):Ups lt (kas_rev p 0 k) k:=by
 intro i j nO hj;have g:∀x,x<k->(kas_rev p 0 k).getD x 0=p.getD (k-1-x) 0:=fun x hx=>by
  refine Xb ?_;unfold kas_rev;rw[getElem?_mirror_all (by rw[hp.sz];exact hk),if_pos (by omega)]
  congr 1;omega
 rw[g i (by omega),g j hj];exact d _ _ (by omega) (by omega)
theorem VF(o:OrdB n lt)(hc:Tp n lt oq s){p:Array Nat}(hp:PmA n p){k:Nat}(h1:1<=k)(hk:k<=n)(d:Yi lt p k){Q:Nat×Array Nat->Shared->Prop}
  (q:∀m p',PmA n p'->1<=m->m<=n->Ups lt p' m->Q (m,p') s):(kas_tail3 k n p).kasWp oq Q s:=by
 unfold kas_tail3;rw[KasT.kasWp_bind];have Bi:PmA n (kas_rev p 0 k):=hp.of_perm (mirror_perm _ _ _ _);exact qG o hc Bi (n-k) k h1 (by omega) (Ry hp hk d) fun m hm Bf u _=>q m _ Bi (by omega) Bf u
theorem VG(o:OrdB n lt)(hc:Tp n lt oq s){p:Array Nat}(hp:PmA n p)(h2:2<=n)(c:lt (p.getD 1 0) (p.getD 0 0)=true){Q:Nat×Array Nat->Shared->Prop}
  (q:∀m p',PmA n p'->1<=m->m<=n->Ups lt p' m->Q (m,p') s):(kas_descPart 1 n p).kasWp oq Q s:=by
 unfold kas_descPart;rw[KasT.kasWp_bind];refine Zb o hc hp (n-2) 2 (by decide) (by omega) (fun i j nO hj=>?_) fun k hk FZ d=>?_
 ·obtain rfl:i=0:=by omega
  obtain rfl:j=1:=by omega
  exact c
 ·dsimp only
  rw[if_neg (by omega)];exact VF o hc hp (by omega) FZ d q
theorem X4(o:OrdB n lt)(hc:Tp n lt oq s){p:Array Nat}(hp:PmA n p)(h2:2<=n){Q:Nat×Array Nat->Shared->Prop}
  (q:∀m p',PmA n p'->1<=m->m<=n->Ups lt p' m->Q (m,p') s):(kas_count n p).kasWp oq Q s:=by
 unfold kas_count;rw[KasT.kasWp_bind];refine qG o hc hp (n-1) 1 (aE _) (by omega) (fun i j nO hj=>by omega) fun k h1 hk u e=>?_;by_cases hkn:k=n
 ·rw[if_pos (by simpa using hkn)];exact q k p hp h1 hk u
 rw[if_neg (by simpa using hkn)];have e:=e.resolve_left hkn;by_cases hg:k>1
 ·rw[if_pos hg];refine hc _ _ _ (hp.lt (by omega)) (hp.lt (by omega)) ?_;rw[u 0 (k-1) (by omega) (by omega)];dsimp only
  rw[if_pos rfl];exact q k p hp h1 hk u
 ·rw[if_neg hg];obtain rfl:k=1:=by omega
  exact VG o hc hp h2 e q
theorem uy(o:OrdB n lt)(hc:Tp n lt oq s){p:Array Nat}(hp:PmA n p){k:Nat}(hk:k<n)(u:Ups lt p k):∀(f l r:Nat) {Q:Nat->Shared->Prop},l<=r->r<=k->r-l<=f→
  (∀i,i<l->lt (p.getD i 0) (p.getD k 0)=true)->(∀i,r<=i->i<k->lt (p.getD k 0) (p.getD i 0)=true)→
  (∀x,x<=k->(∀i,i<x->lt (p.getD i 0) (p.getD k 0)=true)->(∀i,x<=i->i<k->lt (p.getD k 0) (p.getD i 0)=true)->Q x s)->(kas_place p k f l r).kasWp oq Q s
 |0,l,r,Q,h1,h2,h3,a,b,q=>q l (by omega) a fun i hi=>b i (by omega)
 |f+1,l,r,Q,h1,h2,h3,a,b,q=>by
  unfold kas_place;by_cases EU:l>=r
  ·rw[if_pos EU];exact q l (by omega) a fun i hi=>b i (by omega)
  rw[if_neg EU];refine hc _ _ _ (hp.lt hk) (hp.lt (by omega)) ?_;cases c:lt (p.getD k 0) (p.getD ((l+r) / 2) 0) with
  |true =>
   dsimp only
   rw[if_pos rfl];refine uy o hc hp hk u f l ((l+r) / 2) (by omega) (by omega) (by omega) a (fun i hi DA=>?_) q;by_cases e:i=(l+r) / 2
   ·rw[e];exact c
   ·exact o.tr c (u _ i (by omega) DA)
  |false =>
   dsimp only
   rw[if_neg (by decide)];have c':=o.to (hp.lt hk) (hp.lt (by omega)) (hp.inj hk (by omega) (by omega)) c;refine uy o hc hp hk u f ((l+r) / 2+1) r (by omega) h2 (by omega) (fun i hi=>?_) b q;by_cases e:i=(l+r) / 2
   ·rw[e];exact c'
   ·exact o.tr (u i _ (by omega) (by omega)) c'
theorem Rz{p:Array Nat}{k x:Nat}(o:OrdB n lt)(hp:PmA n p)(hk:k<n)(u:Ups lt p k)(hx:x<=k)(a:∀i,i<x->lt (p.getD i 0) (p.getD k 0)=true)(b:∀i,x<=i->i<k->lt (p.getD k 0) (p.getD i 0)=true):Ups lt (bubble p k (k-x)) (k+1):=by
 have g:=fun i=>getElem?_bubble (xs:=p) (src:=k) (by rw[hp.sz];exact hk) (k-x) (by omega) i;have e:k-(k-x)=x:=by omega
 rw[e] at g;have g1:∀i,i<x->(bubble p k (k-x)).getD i 0=p.getD i 0:=fun i hi=>Xb (by rw[g,if_neg (by omega),if_neg (by omega)]);have g2:(bubble p k (k-x)).getD x 0=p.getD k 0:=Xb (by rw[g,if_pos rfl]);have g3:∀i,x<i->i<=k->(bubble p k (k-x)).getD i 0=p.getD (i-1) 0:=fun i hi DA=>Xb (by rw[g,if_neg (by omega),if_pos ⟨hi,DA⟩]);intro i j nO hj;rcases kN j x with h|h|h
 ·rw[g1 i (by omega),g1 j h];exact u i j nO (by omega)
 ·subst h;rw[g1 i nO,g2];exact a i nO
 ·rw[g3 j h (by omega)];rcases kN i x with h'|h'|h'
  ·rw[g1 i h'];exact u i _ (by omega) (by omega)
  ·subst h';rw[g2];exact b _ (by omega) (by omega)
  ·rw[g3 i h' (by omega)];exact u _ _ (by omega) (by omega)
theorem Xc(o:OrdB n lt)(hc:Tp n lt oq s):∀(f:Nat) (p:Array Nat) (k:Nat) {Q:Array Nat->Shared->Prop},PmA n p->k+f=n->Ups lt p k->(∀p',PmA n p'->Ups lt p' n->Q p' s)->(kas_bin f p k).kasWp oq Q s
 |0,p,k,Q,hp,e,u,q=>q p hp (by rw[←show k=n by omega];exact u)
 |f+1,p,k,Q,hp,e,u,q=>by
  unfold kas_bin;rw[KasT.kasWp_bind];refine uy o hc hp (by omega) u k 0 k (aX _) (aE _) (by omega) (fun i hi=>by omega) (fun i h1 h2=>by omega) fun x hx a b=>?_;exact Xc o hc f _ (k+1) (hp.of_perm (bubble_perm _ _ _)) (by omega) (Rz o hp (by omega) u hx a b) q
theorem VH(o:OrdB n lt)(hc:Tp n lt oq s)(h2:2<=n){Q:Array Nat->Shared->Prop}(q:∀p,PmA n p->Ups lt p n->Q p s):(kas_sort n).kasWp oq Q s:=by
 unfold kas_sort;rw[KasT.kasWp_bind];have h0:PmA n (gn (aR n)):=⟨by simp,by simp⟩
 refine X4 o hc h0 h2 fun m p hp h1 hm u=>?_;by_cases hmn:m<n
 ·rw[if_pos hmn];have e:max m 1=m:=by omega
  show(kas_bin (n-max m 1) p (max m 1)).kasWp oq Q s;rw[e];exact Xc o hc (n-m) p m hp (by omega) u q
 ·rw[if_neg hmn];obtain rfl:m=n:=by omega
  exact q p hp u
end
section
variable{prog:Program}{w:World}{A:Around}{E:VS7}{s:Shared}
noncomputable def zag(prog:Program)(w:World)(A:Around)(s:Shared)(a:Addr)(vs:List Value)(lt:Nat->Nat->Bool):Prop:=∃κ,∀h':Heap,(∀b ob,b≠a->s.heap.get? b=some ob->h'.get? b=some ob)→
 (∀(Q:SortKind->Shared->Prop) (E':VS7),Q κ { s with heap:=h' }->wpAny (model prog w) A (keyKind' vs.toArray) Q E' { s with heap:=h' })/\Tp vs.length lt (kas_ask prog w A κ vs) { s with heap:=h' }
theorem VI(vs:List Value):((aR vs.length).map fun i=>vs.getD i cA)=vs:=by
 refine iQ fun i=>?_;rw[bN];by_cases h:i<vs.length
 ·rw[kf h];show some (vs.getD i cA)=_;rw[aJ,aH h];rfl
 ·rw[cO (by rw[cD];omega),cO (by omega)];rfl
theorem VJ{a:Addr}{vs:List Value}{n:Nat}{P:PySem.Fin->Shared->Prop}{lt:Nat->Nat->Bool}(here:s.heap.get? a=some (seqObj "list" vs.toArray n))(few:vs.length<64)(o:OrdB vs.length lt)(asks:2<=vs.length->zag prog w A s a vs lt)
  (fin:∀p,PmA vs.length p->Ups lt p vs.length->P (.done (.ret .none)) { s with heap:=sortedHeap s.heap a vs (gn (p.toList.map fun i=>vs.getD i cA)) }) :
  wpAny (model prog w) A (Builtin.«list.sort» ⟨[.ref a],[]⟩) P E s:=by
 have low:a<s.heap.objs.size:=aQ here;obtain⟨ep,emp⟩:∃ep,(s.heap.update a (cL fun _=>(#[]:Array Value))).get? a=some (seqObj "list" #[] ep):=⟨_,lM here fun _=>#[]⟩
 have big:sizeLine=sizeLine:=rfl;have fits:vs.length<=sizeLine:=by have:=eQ;omega
 have empty:(((s.heap.update a (cL fun _=>(#[]:Array Value))).push (seqObj "tuple" vs.toArray 0)).push (seqObj "list" #[] 0)).get? a=some (seqObj "list" #[] ep):=aD _ (aD _ emp);have old:∀b ob,b≠a->s.heap.get? b=some ob->(((s.heap.update a (cL fun _=>(#[]:Array Value))).push (seqObj "tuple" vs.toArray 0)).push (seqObj "list" #[] 0)).get? b=some ob:=fun b ob ne e =>
  aD _ (aD _ (by rw[Heap.get?_update_ne _ _ _ _ ne];exact e))
 rw[list_sort_plain];refine aA (kh here rfl (aA (iY here rfl ?_ (by rw[aO];exact fits) (aX _))));refine aA (seqEpoch_at emp rfl (aA (wpAny_newTuple ?_ (by show vs.length<=_;exact fits))));refine aA (io (bT ?_) (aX _));show wpAny (model prog w) A _ P E { s with heap:=((s.heap.update a (cL fun _=>(#[]:Array Value))).push (seqObj "tuple" vs.toArray 0)).push (seqObj "list" #[] 0),toks:=s.toks };have sz:vs.toArray.size=vs.length:=by simp
 by_cases h2:vs.toArray.size<2
 ·rw[if_pos h2,if_pos h2];refine aA (aF ?_);dsimp only
  rw[StateT.run_pure];refine aA (aF (aA (seqEpoch_at empty rfl (aA (iY empty rfl ?_ (aX _) ?_)))))
  ·have f:=fin (gn (aR vs.length)) ⟨by simp,by simp⟩ (fun i j nO hj=>by omega);have e:(gn ((gn (aR vs.length)).toList.map fun i=>vs.getD i cA))=(vs.toArray.zip vs.toArray).map (·.2):=by
    apply Array.toList_inj.mp;rw[Array.toList_map];show(aR vs.length).map (fun i=>vs.getD i cA)=_;rw[VI,Array.toList_zip];show vs=(vs.zip vs).map Prod.snd;rw[List.map_snd_zip (aE _)]
   rw[e] at f;have ne:(ep != ep)=false:=by simp
   show wpAny _ _ _ P E _;simp only[ne,cY,if_false]
   exact aF f
  ·show((vs.toArray.zip vs.toArray).map (·.2)).size<=_;rw[Array.size_map,Array.size_zip,sz];omega
 have AY:2<=vs.length:=by omega
 obtain⟨κ,ok⟩:=asks AY;obtain⟨kd,F2⟩:=ok _ old;rw[if_neg h2,if_neg h2];refine aA (kd _ _ ?_);refine aA (cB (kat_run (ks:=vs) (Q:=fun nz s'=>s'={ s with heap:=((s.heap.update a (cL fun _=>(#[]:Array Value))).push (seqObj "tuple" vs.toArray 0)).push (seqObj "list" #[] 0) }/\failedOf nz=none/\∃p,PmA vs.length p/\Ups lt p vs.length/\(arrOf nz).map (·.2)=gn (p.toList.map fun i=>vs.getD i cA)) (G:=fun p s'=>s'={ s with heap:=((s.heap.update a (cL fun _=>(#[]:Array Value))).push (seqObj "tuple" vs.toArray 0)).push (seqObj "list" #[] 0) }/\PmA vs.length p/\Ups lt p vs.length) rfl AY few
  (fun p nz s' _ har hf g=>⟨g.1,hf,p,g.2.1,g.2.2,kat_snds rfl har⟩) (VH o F2 AY fun p hp u=>⟨rfl,hp,u⟩)) ?_ fun _ _ e=>e)
 rintro⟨⟨⟩,nz⟩ s' ⟨rfl,hf,p,hp,u,out⟩;refine aA (seqEpoch_at empty rfl (aA (iY empty rfl ?_ (aX _) ?_)))
 ·have f:=fin p hp u;rw[←out] at f;show wpAny _ _ _ P E _;have ne:(ep != ep)=false:=by simp
  have hf':failedOf nz=none:=hf;dsimp only
  rw[hf'];simp only[ne,cY,if_false]
  exact aF f
 ·show((arrOf nz).map (·.2)).size<=_;rw[out,aO,aG,bJ,hp.sz];omega
end
noncomputable def ltL:List Int->List Int->Bool
 |[],[]=>false
 |[],_::_=>true
 |_::_,[]=>false
 |a::as,b::bs=>if a=b then ltL as bs else decide (a<b)
theorem Sw:∀{a b c:List Int},ltL a b=true->ltL b c=true->ltL a c=true
 |[],[],_,h,_=>nomatch h
 |[],_::_,[],_,h=>nomatch h
 |[],_::_,_::_,_,_=>rfl
 |_::_,[],_,h,_=>nomatch h
 |_::_,_::_,[],_,h=>nomatch h
 |a::as,b::bs,c::cs,h,k=>by
  unfold ltL at h k ⊢;by_cases e:a=b
  ·subst e;rw[if_pos rfl] at h;by_cases e':a=c
   ·rw[if_pos e'] at k ⊢;exact Sw h k
   ·rw[if_neg e'] at k ⊢;exact k
  ·rw[if_neg e] at h;have h:=of_decide_eq_true h;by_cases e':b=c
   ·subst e';rw[if_neg e];exact decide_eq_true h
   ·rw[if_neg e'] at k;have k:=of_decide_eq_true k;rw[if_neg (by omega)];exact decide_eq_true (by omega)
theorem VL:∀{a b:List Int},ltL a b=true->ltL b a=false
 |[],[],h=>nomatch h
 |[],_::_,_=>rfl
 |_::_,[],h=>nomatch h
 |a::as,b::bs,h=>by
  unfold ltL at h ⊢;by_cases e:a=b
  ·subst e;rw[if_pos rfl] at h ⊢;exact VL h
  ·rw[if_neg e] at h;rw[if_neg (Ne.symm e)];have h:=of_decide_eq_true h;exact decide_eq_false (by omega)
theorem Sx:∀{a b:List Int},a≠b->ltL a b=false->ltL b a=true
 |[],[],h,_=>absurd rfl h
 |[],_::_,_,h=>nomatch h
 |_::_,[],_,_=>rfl
 |a::as,b::bs,n,h=>by
  unfold ltL at h ⊢;by_cases e:a=b
  ·subst e;rw[if_pos rfl] at h ⊢;exact Sx (fun z=>n (by rw[z])) h
  ·rw[if_neg e] at h;rw[if_neg (Ne.symm e)];have h:=of_decide_eq_false h;exact decide_eq_true (by omega)
theorem RA{a:List Int}:ltL a a=false:=by
 cases h:ltL a a with
 |false=>rfl
 |true=>have:=VL h;rw[h] at this;cases this
section
variable{prog:Program}{w:World}{A:Around}{E:VS7}{s:Shared}{b fin:Bool}{Q:Bool->Shared->Prop}
theorem Tq{rows:List (List Int)}(nd:rows.Nodup):OrdB rows.length (fun i j=>ltL (rows.getD i []) (rows.getD j [])) where
 tr:=Sw
 as:=VL
 to:=fun{i j} hi hj oP h=>by
  refine Sx (fun z=>oP ?_) h;have e:∀{i:Nat} (h:i<rows.length),rows.getD i []=rows[i]:=fun h=>by rw[aJ,aH h];rfl
  rw[e hi,e hj] at z;exact(iV nd).mp z
end
section
variable{X:Cx}{K:FG7}
theorem VM{α:Type}{l:List α}{d:α}{is:List Nat}(h:is.Perm (aR l.length)):(is.map fun i=>l.getD i d).Perm l:=by
 refine(h.map _).trans ?_;have e:(aR l.length).map (fun i=>l.getD i d)=l:=by
  refine iQ fun i=>?_;rw[bN];by_cases h:i<l.length
  ·rw[kf h];show some (l.getD i d)=_;rw[aJ,aH h];rfl
  ·rw[cO (by rw[cD];omega),cO (by omega)];rfl
 rw[e]
end
section
variable{prog:Program}{w:World}{A:Around}{E:VS7}{s:Shared}
theorem X5{l:Addr}{us:List Value}{Q:List Value->Shared->Prop}(tu:s.heap.IsList l us.toArray)(hu:us.length<=sizeLine)
  (q:Q us { s with heap:=(s.heap.push (seqObj "list" #[] 0)).update s.heap.objs.size (cL (·++us.toArray)) }):wpAny (model prog w) A (collect (.ref l)) Q E s:=by
 obtain⟨ob,eo,ec,m,ed⟩:=id tu;have DD:(s.heap.push (seqObj "list" #[] 0)).get? l=some ob:=aD _ eo;unfold collect;refine aA (kA (dA entry_proto_collect' (show wpAny _ _ (do again (.builtin "list.__iadd__" ⟨[←newList [],.ref l],[]⟩)) _ _ s from ?_)));refine aA (io (aF ⟨kB _ (by decide +kernel),dA entry_list_iadd' (show wpAny _ _ (dN (.ref s.heap.objs.size) (.ref l) (.ref s.heap.objs.size)) _ _ { s with heap:=s.heap.push (seqObj "list" #[] 0) } from ?_)⟩));unfold dN;refine aA (fK (T:="list") ⟨ob,DD,ec⟩ ?_);have k1:(cI "list" == cI "list")=true:=rfl;rw[if_pos (by simp[k1])];refine aA (kh DD ed (aA (kh (xs:=#[]) (n:=0) (aL _ rfl) rfl ?_)));rw[if_neg (by simp)];refine aA (iY (xs:=#[]) (n:=0) (aL _ rfl) rfl (aF ?_) (aX _) (by show(#[]++us.toArray).size<=sizeLine+1;simp only[Array.size_append,aO,gB];omega));refine aA (me (lM (aL _ rfl) _) ?_);show wpAny _ _ (pure ((#[]:Array Value)++us.toArray).toList) Q E _;rw[show((#[]:Array Value)++us.toArray).toList=us by simp];exact aF q
theorem qH{l:Addr}{vs:List Value}{Q:VS7}{lt:Nat->Nat->Bool}(tu:s.heap.IsList l vs.toArray)(few:vs.length<64)(o:OrdB vs.length lt)
  (asks:2<=vs.length->∀s':Shared,(∀b ob,s.heap.get? b=some ob->s'.heap.get? b=some ob/\b≠s.heap.objs.size+1)->zag prog w A.in1.in1 s' (s.heap.objs.size+1) vs lt)
  (fin:∀p,PmA vs.length p->Ups lt p vs.length->Q (.ref (s.heap.objs.size+1)) { s with heap:=sortedAll s.heap vs (gn (p.toList.map fun i=>vs.getD i cA)) }) :
  wpAny (model prog w) A (call (.builtin "sorted") [.ref l]) Q E s:=by
 refine hZ kind_sorted plain_sorted entry_sorted (args_sorted1 _) ?_;unfold Builtin.«sorted»;refine aA (m:=checkCount "sorted" 1 1 _) (aF (aA (X5 tu (by rw[eQ];omega) (aA (io ?_ (by rw[eQ];omega))))));have e1:((s.heap.push (seqObj "list" #[] 0)).update s.heap.objs.size (cL (·++vs.toArray))).objs.size=s.heap.objs.size+1:=by rw[Heap.size_update,size_push']
 have e2:(((s.heap.push (seqObj "list" #[] 0)).update s.heap.objs.size (cL (·++vs.toArray))).push (seqObj "list" vs.toArray 0)).get? (s.heap.objs.size+1)=some (seqObj "list" vs.toArray 0):=by
  rw[←e1];exact aL _ rfl
 show wpAny _ _ _ _ _ { s with heap:=((s.heap.push (seqObj "list" #[] 0)).update s.heap.objs.size (cL (·++vs.toArray))).push (seqObj "list" vs.toArray 0) };rw[e1];refine aA (bT (cK lW ⟨_,e2,rfl⟩ lN (VJ (s:={ s with heap:=((s.heap.push (seqObj "list" #[] 0)).update s.heap.objs.size (cL (·++vs.toArray))).push (seqObj "list" vs.toArray 0) }) e2 few o (fun h2=>asks h2 _ fun b ob e=>⟨?_,?_⟩) fun p hp u=>⟨_,rfl,aF ⟨_,rfl,fin p hp u⟩⟩) (lY _)))
 ·have lo:b<s.heap.objs.size:=aQ e;refine aD _ ?_;rw[Heap.get?_update_ne _ _ _ _ (aT lo)];exact aD _ e
 ·exact aT (eC (aQ e))
end
section
variable{prog:Program}{w:World}{A:Around}{E:VS7}{s:Shared}{b fin:Bool}{Q:Bool->Shared->Prop}
theorem VN{v:Value}{Q:Bool->Shared->Prop}(h:Q true s):wpAny (model prog w) A (eqBool v v) Q E s:=by
 unfold eqBool;refine bT ?_;rw[if_pos (beq_self_eq_true v)];exact aA (fO (aF h))
theorem rP:∀{us:List Value} (i:Nat),Q fin s->KatLex prog w A b fin Q (us.zip us) i s
 |[],_,q=>kat_nil q
 |u::us,i,q=>by
  rw[List.zip_cons_cons];exact kat_cons (VN (kat_yes (rP (i+1) q)))
theorem Zc:∀{us vs rs ts:List Value} {as bs:List Int} (i:Nat),fL us as->fL vs bs->as.length=bs.length->as≠bs->Q (ltL as bs) s->KatLex prog w A b fin Q ((us++rs).zip (vs++ts)) i s
 |_,_,_,_,_,_,i,.nil,.nil,_,ne,_=>absurd rfl ne
 |_,_,_,_,_,_,i,.nil,.cons _ _ _,l,_,_=>absurd l (by simp)
 |_,_,_,_,_,_,i,.cons _ _ _,.nil,l,_,_=>absurd l (by simp)
 |_,_,rs,ts,_,_,i,.cons x t hx,.cons y u hy,l,ne,q=>by
  rename_i us as vs bs;rw[lc,lc,List.zip_cons_cons];refine kat_cons (wpAny_eqBool_int (kat_go (fun h=>?_) fun h=>?_))
  ·have h:=eq_of_beq h;subst h;refine kat_yes (Zc (i+1) hx hy (by simpa using l) (fun z=>ne (by rw[z])) ?_);unfold ltL at q;rw[if_pos rfl] at q;exact q
  ·have h:=ne_of_beq_false h;unfold ltL at q;rw[if_neg h] at q;refine kat_no ?_;cases(b && i == 0) with
   |true=>exact oneLt_int q
   |false=>exact kat_one _ _ (PyProof.Rows.lt_int (show PySem.W.BoolBack Q (.bool (decide (x<y))) s from q))
structure RowAtP(h:Heap)(v:Value)(row:List Int)(x:Addr)(ob:Obj)(its:Array Value)(n:Nat)(us rest:List Value):Prop where
 e:v=.ref x
 g:h.get? x=some ob
 c:ob.cls=.type "tuple"
 d:ob.data=.seq its n
 t:its.toList=us++rest
 i:fL us row
def Q6(h:Heap)(v:Value)(row:List Int):Prop:=∃x ob its n us rest,RowAtP h v row x ob its n us rest
inductive RowsP(h:Heap):List Value->List (List Int)->Prop
 |nil:RowsP h [] []
 |cons {v vs row rows}:Q6 h v row->RowsP h vs rows->RowsP h (v::vs) (row::rows)
theorem RowsP.len{h:Heap}:∀{vs rows},RowsP h vs rows->vs.length=rows.length
 |_,_,.nil=>rfl
 |_,_,.cons _ t=>congrArg (·+1) t.len
theorem RowsP.get{h:Heap}:∀{vs rows} {i:Nat},RowsP h vs rows->i<vs.length->Q6 h (vs.getD i cA) (rows.getD i [])
 |_,_,_,.nil,hi=>absurd hi (by simp)
 |_,_,0,.cons r _,_=>r
 |_,_,i+1,.cons _ t,hi=>by
  have:=t.get (i:=i) (by simpa using hi);exact this
theorem RowsP.old{h h':Heap}(k:∀x ob,h.get? x=some ob->h'.get? x=some ob):∀{vs rows},RowsP h vs rows->RowsP h' vs rows
 |_,_,.nil=>.nil
 |_,_,.cons ⟨x,ob,its,n,us,rest,r⟩ t=>.cons ⟨x,ob,its,n,us,rest,r.e,k _ _ r.g,r.c,r.d,r.t,r.i⟩ (t.old k)
theorem RowsP.tups{h:Heap}:∀{vs rows},RowsP h vs rows->(∀r∈rows,r≠[])->∃fs,KatTups h vs fs/\fs.length=vs.length/\∀f∈fs,∃n t,f=fV n t
 |_,_,.nil,_=>⟨[],.nil,rfl,fun f hf=>absurd hf (by simp)⟩
 |_,_,.cons ⟨x,ob,its,n,us,rest,r⟩ t,ne=>by
  rename_i v vs row rows;obtain⟨fs,k,l,a⟩:=t.tups fun r hr=>ne r (aK _ hr);have oP:=ne row aU;obtain⟨f,hf,n',t',rfl⟩:∃f,its[0]?=some f/\∃n t,f=fV n t:=by
   have hi:=r.i;rw[←eE,r.t];revert hi;generalize us=us';intro hi;cases hi with
   |nil=>exact absurd rfl oP
   |cons n t _=>exact⟨_,rfl,n,t,rfl⟩
  obtain rfl:=r.e;exact⟨fV n' t'::fs,.cons r.g r.c r.d hf k,congrArg (·+1) l,fun f hf=>by
   rcases aS.mp hf with rfl|hf
   ·exact⟨n',t',rfl⟩
   ·exact a f hf⟩
theorem X6{vs:List Value}{rows:List (List Int)}{a:Addr}{m:Nat}(r:RowsP s.heap vs rows)(nd:rows.Nodup)(m1:1<=m)(hm:∀r∈rows,r.length=m)(ha:∀x ob,s.heap.get? x=some ob->(∃v∈vs,v=.ref x)->x≠a)(h2:2<=vs.length):zag prog w A s a vs (fun i j=>ltL (rows.getD i []) (rows.getD j [])):=by
 refine⟨tuples' (cI "int" != cI "tuple"),fun h' k=>?_⟩;have ne:∀r∈rows,r≠[]:=fun r hr z=>by have:=hm r hr;rw[z] at this;have:0=m:=this;omega
 have r':RowsP h' vs rows:=by
  have go:∀{EV Az},RowsP s.heap EV Az->(∀v∈EV,v∈vs)->RowsP h' EV Az:=by
   intro EV Az q;induction q with
   |nil=>intro _;exact .nil
   |cons q t ih =>
    intro sub;obtain⟨x,ob,its,n,us,rest,q⟩:=q;exact .cons ⟨x,ob,its,n,us,rest,q.e,k x ob (ha x ob q.g ⟨_,sub _ aU,q.e⟩) q.g,q.c,q.d,q.t,q.i⟩ (ih fun v hv=>sub v (aK _ hv))
  exact go r fun v hv=>hv
 have rl:=r'.len;have get:∀{i:Nat} (h:i<rows.length),rows.getD i []=rows[i]:=fun h=>by rw[aJ,aH h];rfl
 obtain⟨fs,kt,fl,fi⟩:=r'.tups ne;refine⟨fun Q E' q=>kat_kind (s:={ s with heap:=h' }) (T:=.type "int") kt (by omega) (fun v hv=>?_) (by simp) q,fun i j C hi hj c=>?_⟩
 ·obtain⟨n,t,rfl⟩:=fi v hv;exact Looks.of_pure rfl
 ·obtain⟨x,ox,xs,n,us,rest,p⟩:=r'.get hi;obtain⟨y,oy,ys,m',us',rest',q⟩:=r'.get hj;unfold kas_ask;by_cases nO:i=j
  ·subst nO;rw[p.e];refine kat_lt (s:={ s with heap:=h' }) p.g p.d p.g p.d (rP 0 ?_);dsimp only at c;rw[RA] at c;rw[decide_eq_false (cV _)];exact c
  ·rw[p.e,q.e];refine kat_lt (s:={ s with heap:=h' }) p.g p.d q.g q.d ?_;rw[p.t,q.t];have mJ:i<rows.length:=by omega
   have pT:j<rows.length:=by omega
   refine Zc 0 p.i q.i ?_ (fun z=>nO ?_) c
   ·rw[get mJ,get pT,hm _ (dX mJ),hm _ (dX pT)]
   ·rw[get mJ,get pT] at z;exact(iV nd).mp z
end
section
variable{X:Cx}{K:FG7}
def X7(K:FG7)(H:Hp)(z:V)(p:List Int×List V):Prop:=∃r,z=.ref r/\SqT K H r (p.1.map V.int++p.2)
noncomputable def Q7(K:FG7):List V->Hp->VK->Prop:=fun xs H Q=>∃(l:Addr) (zs:List V) (items:List (List Int×List V)) (m:Nat),xs=[.ref l]/\SqL K H l zs/\yJ (X7 K H) zs items/\(items.map (·.1)).Nodup/\1<=m/\(∀p∈items,p.1.length=m)/\items.length<64∧
 ∀(p:Addr) (zs':List V) (items':List (List Int×List V)),H p=none->items'.Perm items->items'.Pairwise (fun x y=>ltL x.1 y.1=true)->yJ (X7 K H) zs' items'->Q (.ref p) (upd H p (.lst zs'))
theorem rQ:∀{ns:List Int} {rest:List V} {us:List Value},zZ (ns.map V.int++rest) us->∃a b,us=a++b/\fL a ns
 |[],_,us,_=>⟨[],us,rfl,.nil⟩
 |n::ns,rest,_,.cons r t=>by
  obtain⟨a,b,rfl,h⟩:=rQ (ns:=ns) (rest:=rest) t;obtain⟨tk,rfl⟩:=r;exact⟨_::a,b,rfl,.cons n tk h⟩
theorem Xd{mw:List (Addr×Obj)}{σ:L2.St}{H:Hp}{s:Shared}(I:Inv X mw σ H s):∀{zs:List V} {items:List (List Int×List V)} {vs:List Value},yJ (X7 X.K H) zs items->zZ zs vs->RowsP s.heap vs (items.map (·.1))
 |[],[],_,_,.nil=>.nil
 |z::zs,it::items,_,⟨h,t⟩,.cons r rs=>by
  obtain⟨b,rfl,hb⟩:=h;obtain⟨its,rv,⟨ob,eo,ec,m,ed⟩,_⟩:=I.tuple hb;obtain⟨a,c,e,hi⟩:=rQ rv;exact .cons ⟨b,ob,its.toArray,m,a,c,r,eo,ec,ed,e,hi⟩ (Xd I t rs)
 |[],_::_,_,h,_=>h.elim
 |_::_,[],_,h,_=>h.elim
theorem X8(hK:X.K=K):xV X (.builtin "sorted") (Q7 K):=by
 subst hK;intro mw s σ H xs us Q I r h;obtain⟨l,zs,items,m,rfl,hl,hr,nd,m1,hm,few,q⟩:=h;obtain⟨rows,hrows⟩:∃rows,rows=items.map (·.1):=⟨_,rfl⟩
 have F5:rows.length=items.length:=by rw[hrows,aG]
 rw[←hrows] at nd;have Bf:∀r∈rows,r.length=m:=fun r hr=>by rw[hrows] at hr;obtain⟨p,hp,rfl⟩:=aW.mp hr;exact hm p hp
 obtain⟨u,rfl,rx⟩:=wC r;cases(show u=bK l from rx);obtain⟨vs,rv,pl,hz⟩:=I.list hl;have e1:=rv.length;have e2:=hr.len;have R:=Xd I hr rv;rw[←hrows] at R;have e3:=R.len;have o:=Tq nd;rw[←e3] at o;refine qH pl.isList (by omega) o (fun h2 s' k=>X6 (R.old fun x ob e=>(k x ob e).1) nd m1 Bf (fun x ob e ⟨v,hv,ev⟩=>?_) h2) fun p hp u=>?_
 ·subst ev;obtain⟨i,hi,ei⟩:=List.getElem_of_mem hv;obtain⟨x',ob',its,n,us,rest,p⟩:=R.get hi;have ex:vs.getD i cA=.ref x:=by rw[aJ,aH hi,ei];rfl
  rw[ex] at p;cases p.e;exact(k _ _ p.g).2
 ·obtain⟨e,he⟩:=sortedAll_at s.heap vs (gn (p.toList.map fun i=>vs.getD i cA));have hn:H (s.heap.objs.size+1)=none:=I.hok.fresh (eB _);have mem:∀i∈p.toList,i<vs.length:=fun i hi=>aV.mp (hp.pm.mem_iff.mp hi);have rl:∀is:List Nat,(∀i∈is,i<vs.length)->zZ (is.map fun i=>zs.getD i .non) (is.map fun i=>vs.getD i cA):=by
   intro is;induction is with
   |nil=>intro _;exact .nil
   |cons i is ih =>
    intro hm;have hi:=hm i aU;refine .cons ?_ (ih fun j hj=>hm j (aK _ hj));obtain⟨u,hu,ru⟩:=rv.get (aH (show i<zs.length by omega));dsimp only
    rw[aJ,aJ,hu,aH (show i<zs.length by omega)];exact ru
  have al:∀is:List Nat,(∀i∈is,i<vs.length)->yJ (X7 X.K H) (is.map fun i=>zs.getD i .non) (is.map fun i=>items.getD i ([],[])):=by
   intro is;induction is with
   |nil=>intro _;trivial
   |cons i is ih =>
    intro hm;have hi:=hm i aU;refine⟨?_,ih fun j hj=>hm j (aK _ hj)⟩;obtain⟨row,F6,br⟩:=hr.get (aH (show i<zs.length by omega));dsimp only
    rw[aJ,aJ,F6,aH (show i<zs.length by omega)];exact br
  have hpm:p.toList.Perm (aR items.length):=by rw[←F5,←e3];exact hp.pm
  have pw:(p.toList.map fun i=>items.getD i ([],[])).Pairwise (fun x y=>ltL x.1 y.1=true):=by
   rw[eN,List.pairwise_iff_getElem];intro i j hi hj nO;have g:∀{i:Nat} (h:i<p.toList.length),p.getD i 0=p.toList[i]:=fun{i} h=>by
    have h':i<p.size:=by simpa using h
    simp[lB,h']
   have:=u i j nO (by rw[←hp.sz,←bJ];exact hj);rw[g hi,g hj] at this;have gg:∀n:Nat,rows.getD n []=(items.getD n ([],[])).1:=fun n=>by
    rw[hrows,aJ,aJ,bN];cases items[n]? <;> rfl
   dsimp only at this;rw[gg,gg] at this;exact this
  refine⟨.ref (s.heap.objs.size+1),_,?_,rfl,q _ (p.toList.map fun i=>zs.getD i .non) _ hn (VM hpm) pw (al _ mem)⟩;refine I.laid (t':=s.toks) (fun b o q=>sortedAll_old q) (eB _) (show yf X.prog X.w _ _ _ (.lst (p.toList.map fun i=>zs.getD i .non)) from⟨by rw[aG,bJ,hp.sz];have:=eQ;omega,_,e,rl _ mem,he⟩)
end
theorem zah:cF "set" = some (.type "set"):=by decide +kernel
structure Wt where
 box:Nat
 deed:Deed
 nums:List Nat
 met:List (Nat×Nat)
instance:Inhabited Wt:=⟨⟨0,⟨0,none,none⟩,[],[]⟩⟩
instance:Inhabited Ask:=⟨⟨0,0,⟨0,none,none⟩⟩⟩
structure NS where
 k:Nat
 room:Nat
 kept:Nat
 boxes:List Int
 asks:List Ask
 now:Nat
 lines:Nat->Nat->List Wt
 keep:Nat->Nat->Int
 /-- how mH beats are in the table of what was done -/
 nd:Nat
 done:Nat->List Wt
 log:List Nat
 fnd:List (Nat×Int)
 ans:List (Nat×Int)
noncomputable def zQ{α:Type}(f:Nat->Nat->α)(l j:Nat)(v:α):Nat->Nat->α:=fun a b=>if a=l/\b=j then v else f a b
theorem zr{α:Type}{f:Nat->Nat->α}{l j:Nat}{v:α}:zQ f l j v l j=v:=if_pos ⟨rfl,rfl⟩
theorem zt{α:Type}{f:Nat->Nat->α}{l j a b:Nat}{v:α}(h:¬(a=l/\b=j)):zQ f l j v a b=f a b:=if_neg h
noncomputable def wR(f:List (Nat×Int))(n:Nat)(v:Int):List (Nat×Int):=if(f.any fun p=>decide (p.1=n))=true then f.map fun p=>if p.1=n then(n,v) else p else f++[(n,v)]
noncomputable def xu(f:List (Nat×Int))(n:Nat):Option Int:=(f.find? fun p=>decide (p.1=n)).map (·.2)
noncomputable def tZ(out:List Wt)(b:Nat):Option Nat:=((aR out.length).filter fun i=>decide ((out.getD i default).box=b)).getLast?
noncomputable def wc(sw:Nat×Nat)(w c:Wt):Wt:=⟨w.box,uS w.deed c.deed,w.nums++c.nums,w.met++c.met++[sw]⟩
noncomputable def VO(ns:NS)(s l:Nat)(c:Wt)(r:List Wt):NS :=
 if(ns.lines s (zS ns.k s l c.box)).length<ns.room then{ ns with lines:=zQ (zQ ns.lines (s-1) l r) s (zS ns.k s l c.box) (ns.lines s (zS ns.k s l c.box)++[c]) } else ns
noncomputable def yO(ns:NS)(s l:Nat):NS :=
  match ns.lines (s-1) l with
  |[]=>ns
  |c::r =>
    match tZ (ns.lines s (zS ns.k s l c.box)) c.box with
    |none=>VO ns s l c r
    |some i =>
      if ns.keep s (nN ns.k s l)<ns.kept then
        { ns with
          lines:=zQ (zQ ns.lines (s-1) l r) s (zS ns.k s l c.box) ((ns.lines s (zS ns.k s l c.box)).set i (wc (s,nN ns.k s l) ((ns.lines s (zS ns.k s l c.box)).getD i default) c))
          keep:=zQ ns.keep s (nN ns.k s l) (ns.keep s (nN ns.k s l)+1) }
      else VO ns s l c r
noncomputable def sN(k s n m:Nat):Nat:=(n / 2 ^ (k-s)*2+m)*2 ^ (k-s)+n % 2 ^ (k-s)
noncomputable def yY(gone:List (Nat×Nat))(s:Nat)(ns:NS)(n:Nat):NS :=
 if(s,n)∈gone then ns else yO (yO ns s (sN ns.k s n (ns.now % 2))) s (sN ns.k s n (1-ns.now % 2))
noncomputable def passS(gone:List (Nat×Nat))(ns:NS)(s:Nat)(i:Nat):NS:=(aR i).foldl (yY gone s) ns
noncomputable def passA(gone:List (Nat×Nat))(ns:NS)(i:Nat):NS:=(aR i).foldl (fun ns i=>passS gone ns (ns.k-i) (2 ^ (ns.k-1))) ns
noncomputable def Zd(gone:List (Nat×Nat))(k:Nat)(st:List Wt×(Nat->Nat->List Wt))(B2:Nat):List Wt×(Nat->Nat->List Wt) :=
 match st.2 k B2 with
 |[]=>st
 |w::r=>if(0,B2)∈gone then st else(st.1++[w],zQ st.2 k B2 r)
noncomputable def zD(gone:List (Nat×Nat))(ns:NS)(i:Nat):List Wt×(Nat->Nat->List Wt):=(aR i).foldl (Zd gone ns.k) ([],ns.lines)
noncomputable def doN(b:Nat)(ns:NS)(n:Nat):NS :=
 { ns with boxes:=ns.boxes.set b ((ns.asks.getD n default).deed.mk' (ns.boxes.getD b 0)),fnd:=wR ns.fnd n (ns.boxes.getD b 0),log:=ns.log++[n] }
noncomputable def doW(ns:NS)(w:Wt):NS:=w.nums.foldl (doN w.box) ns
noncomputable def sO(f:Nat->List Wt)(t:Nat)(v:List Wt):Nat->List Wt:=fun a=>if a=t then v else f a
noncomputable def WG(gone:List (Nat×Nat))(ns:NS):NS :=
 { ns with lines:=(zD gone ns (2 ^ ns.k)).2,nd:=ns.nd+1,done:=sO ns.done ns.now (zD gone ns (2 ^ ns.k)).1 }
noncomputable def zW(gone:List (Nat×Nat))(ns:NS):NS:=(zD gone ns (2 ^ ns.k)).1.foldl doW (WG gone ns)
noncomputable def uU(ns:NS)(mH:Nat):List Wt:=if mH<ns.now/\ns.now-mH<=ns.nd then ns.done (ns.now-mH) else[]
noncomputable def fgM(s:Nat)(kp:Nat->Nat->Int)(sw:Nat×Nat):Nat->Nat->Int:=if sw.1=s then zQ kp sw.1 sw.2 (kp sw.1 sw.2-1) else kp
noncomputable def fgW(s:Nat)(kp:Nat->Nat->Int)(w:Wt):Nat->Nat->Int:=w.met.foldl (fgM s) kp
noncomputable def fgS(ns:NS)(kp:Nat->Nat->Int)(s:Nat):Nat->Nat->Int:=(uU ns (ns.k-s+1)).foldl (fgW s) kp
noncomputable def zj(ns:NS):NS:={ ns with keep:=(aR ns.k).foldl (fun kp i=>fgS ns kp (i+1)) ns.keep }
noncomputable def uV(ns:NS)(w:Wt):List (Nat×Int):=w.nums.map fun n=>(n,(xu ns.fnd n).getD 0)
noncomputable def yq(ns:NS):List (Nat×Int):=(uU ns ns.k).flatMap (uV ns)
noncomputable def uW(l:List (Nat×Int)):List (Nat×Int):=l.foldl (fun f p=>wR f p.1 p.2) []
noncomputable def VP(ns:NS):NS:={ ns with ans:=(uW (yq ns)).foldl (fun f p=>wR f p.1 p.2) ns.ans }
noncomputable def zu(ns:NS):NS:={ ns with now:=ns.now+1 }
noncomputable def zA(gone:List (Nat×Nat))(ns:NS):NS:=passA gone (zW gone (zj (zu ns))) ns.k
noncomputable def beatS(gone:List (Nat×Nat))(ns:NS):NS:=VP (zA gone ns)
noncomputable def jq(ns:NS)(a:Ask):NS :=
 { ns with asks:=ns.asks++[a],lines:=zQ ns.lines 0 a.hand.toNat (ns.lines 0 a.hand.toNat++[⟨a.box.toNat,a.deed,[ns.asks.length],[]⟩]) }
noncomputable def t4(k:Nat)(b:List Int)(room kept:Nat):NS:=⟨k,room,kept,b,[],0,fun _ _=>[],fun _ _=>0,0,fun _=>[],[],[],[]⟩
noncomputable def sS(n:Nat)(F:Nat->Nat):Nat:=((aR n).map F).sum
theorem yL{n:Nat}{F:Nat->Nat}:sS (n+1) F=sS n F+F n:=by
 unfold sS;rw[dU,bC,List.sum_append];show _+(F n+0)=_;omega
theorem wS:∀{n:Nat} {F G:Nat->Nat},(∀i<n,F i=G i)->sS n F=sS n G
 |0,_,_,_=>rfl
 |n+1,F,G,h=>by rw[yL,yL,wS fun i hi=>h i (by omega),h n (by omega)]
theorem qI:∀{n:Nat} {F G:Nat->Nat} {i:Nat},i<n->(∀j<n,j≠i->G j=F j)->sS n G+F i=sS n F+G i
 |0,_,_,_,h,_=>absurd h (cR _)
 |n+1,F,G,i,h,e=>by
  rw[yL,yL];by_cases c:i=n
  ·subst c;rw[wS (F:=G) (G:=F) fun j hj=>e j (by omega) (by omega)];omega
  ·have:=qI (n:=n) (F:=F) (G:=G) (i:=i) (by omega) fun j hj=>e j (by omega);rw[e n (by omega) (fun z=>c z.symm)];omega
theorem Yj:∀{n:Nat} {F:Nat->Nat} {i:Nat},i<n->F i<=sS n F
 |0,_,_,h=>absurd h (cR _)
 |n+1,F,i,h=>by
  rw[yL];by_cases c:i=n
  ·subst c;omega
  ·have:=Yj (n:=n) (F:=F) (i:=i) (by omega);omega
theorem vQ:∀{n:Nat} {F:Nat->Nat},(∀i<n,F i=0)->sS n F=0
 |0,_,_=>rfl
 |n+1,F,h=>by rw[yL,vQ fun i hi=>h i (by omega),h n (by omega)]
noncomputable def yt(g:Wt->Nat)(ws:List Wt):Nat:=(ws.map g).sum
theorem wT{g:Wt->Nat}:yt g []=0:=rfl
theorem yb{g:Wt->Nat}{w:Wt}{ws:List Wt}:yt g (w::ws)=g w+yt g ws:=rfl
theorem wU{g:Wt->Nat}{a b:List Wt}:yt g (a++b)=yt g a+yt g b:=by unfold yt;rw[bC,List.sum_append]
theorem qJ{g:Wt->Nat}:∀{ws:List Wt} {i:Nat} {v:Wt},i<ws.length->yt g (ws.set i v)+g (ws.getD i default)=yt g ws+g v
 |[],_,_,h=>absurd h (cR _)
 |w::ws,0,v,_=>by
  show g v+yt g ws+g w=g w+yt g ws+g v;omega
 |w::ws,i+1,v,h=>by
  have:=qJ (g:=g) (ws:=ws) (i:=i) (v:=v) (by simpa using h);show g w+yt g (ws.set i v)+g (ws.getD i default)=g w+yt g ws+g v;omega
theorem qK{g:Wt->Nat}:∀{ws:List Wt} {w:Wt},w∈ws->g w<=yt g ws
 |a::ws,w,h=>by
  rw[yb];rcases aS.mp h with rfl|h
  ·omega
  ·have:=qK (g:=g) h;omega
theorem tf{g:Wt->Nat}:∀{ws:List Wt},(∀w∈ws,1<=g w)->ws.length<=yt g ws
 |[],_=>aX _
 |a::ws,h=>by
  rw[yb];have h1:=h a (aU ..);have:=tf (g:=g) (ws:=ws) fun w hw=>h w (aK _ hw);show ws.length+1<=_;omega
noncomputable def wsN(k:Nat)(f:Nat->Nat->List Wt)(g:Wt->Nat):Nat:=sS (k+1) fun l=>sS (2 ^ k) fun j=>yt g (f l j)
theorem xI{k l j:Nat}{f:Nat->Nat->List Wt}{v:List Wt}{g:Wt->Nat}(hl:l<=k)(hj:j<2 ^ k):wsN k (zQ f l j v) g+yt g (f l j)=wsN k f g+yt g v:=by
 have h1:=qI (n:=k+1) (i:=l) (F:=fun l=>sS (2 ^ k) fun j=>yt g (f l j)) (G:=fun a=>sS (2 ^ k) fun b=>yt g (zQ f l j v a b)) (by omega) fun a _ ha=>wS fun b _=>by rw[zt fun z=>ha z.1]
 have h2:=qI (n:=2 ^ k) (i:=j) (F:=fun j=>yt g (f l j)) (G:=fun b=>yt g (zQ f l j v l b)) hj fun b _ hb=>by
  show yt g (zQ f l j v l b)=yt g (f l b);rw[zt fun z=>hb z.2]
 have e:yt g (zQ f l j v l j)=yt g v:=by rw[zr]
 have EW:wsN k (zQ f l j v) g+sS (2 ^ k) (fun j=>yt g (f l j))=wsN k f g+sS (2 ^ k) (fun b=>yt g (zQ f l j v l b)):=h1;have AY:sS (2 ^ k) (fun b=>yt g (zQ f l j v l b))+yt g (f l j)=sS (2 ^ k) (fun j=>yt g (f l j))+yt g v:=by rw[←e];exact h2
 omega
theorem VQ{k l j:Nat}{f:Nat->Nat->List Wt}{g:Wt->Nat}(hl:l<=k)(hj:j<2 ^ k):yt g (f l j)<=wsN k f g :=
 bM (Yj (n:=2 ^ k) (F:=fun j=>yt g (f l j)) hj) (Yj (n:=k+1) (F:=fun l=>sS (2 ^ k) fun j=>yt g (f l j)) (by omega))
theorem RB{k l j l' j':Nat}{f:Nat->Nat->List Wt}{g:Wt->Nat}(hl:l<=k)(hj:j<2 ^ k)(pM:l'<=k)(pT:j'<2 ^ k)(ne:¬(l'=l/\j'=j)):yt g (f l j)+yt g (f l' j')<=wsN k f g:=by
 have h1:=xI (f:=f) (v:=[]) (g:=g) hl hj;have h2:=VQ (f:=zQ f l j []) (g:=g) pM pT;rw[zt ne] at h2;rw[wT] at h1;omega
inductive Ad where
 |p|lb|la|dl|dk|dd|lg|df|da
 |ln (l j:Nat)
 |dn (t:Nat)
deriving DecidableEq
def okA(ns:NS):Ad->Prop
 |.ln l j=>l<=ns.k/\j<2 ^ ns.k
 |.dn t=>1<=t/\t<=ns.nd
 |_=>True
def Q8(H:Hp)(x:V)(q:Nat×Nat):Prop:=∃r,x=.ref r/\H r=some (.tup [.int q.1,.int q.2])
def Ze(K:FG7)(H:Hp)(x:V)(w:Wt):Prop:=∃r rd rn rm ms,x=.ref r/\SqT K H r [.int w.box,.ref rd,.ref rn,.ref rm]/\SqT K H rd w.deed.vs/\SqT K H rn (zL w.nums)/\SqT K H rm ms/\yJ (Q8 H) ms w.met
theorem Q8.grow{m:List Addr}{H H':Hp}{x:V}{q:Nat×Nat}(h:Q8 H x q)(g:Grow m H H'):Q8 H' x q:=by
 obtain⟨r,e,h⟩:=h;exact⟨r,e,g.tup _ _ h⟩
theorem Ze.grow{K:FG7}{m:List Addr}{H H':Hp}{x:V}{w:Wt}(h:Ze K H x w)(g:Grow m H H'):Ze K H' x w:=by
 obtain⟨r,rd,rn,rm,ms,e,h1,h2,h3,h4,h5⟩:=h;exact⟨r,rd,rn,rm,ms,e,g.sqT h1,g.sqT h2,g.sqT h3,g.sqT h4,h5.imp fun _ _ z=>z.grow g⟩
noncomputable def zK(A:Ad->Addr)(ns:NS):List (Str×V) :=
 [("depth",.int ns.k),("room",.int ns.room),("most_kept",.int ns.kept),("boxes",.ref (A .lb)),("asks",.ref (A .la)),("now",.int ns.now),("lines",.ref (A .dl)),("keeping",.ref (A .dk)),("done_in",.ref (A .dd)),("logged",.ref (A .lg)),("found",.ref (A .df)),("answers",.ref (A .da))]
noncomputable def we(A:Ad->Addr)(k:Nat):List (List Key×V):=(aR (k+1)).flatMap fun(l:Nat)=>(aR (2 ^ k)).map fun(j:Nat)=>(kI [(l:Int),(j:Int)],.ref (A (.ln l j)))
noncomputable def yh(k:Nat)(kp:Nat->Nat->Int):List (List Key×V):=(aR k).flatMap fun(s:Nat)=>(aR (2 ^ (k-1))).map fun(n:Nat)=>(kI [((s+1:Nat):Int),(n:Int)],.int (kp (s+1) n))
noncomputable def xJ(A:Ad->Addr)(nd:Nat):List (Key×V):=(aR nd).map fun t=>(.inl ((t+1:Nat):Int),.ref (A (.dn (t+1))))
noncomputable def nKv(f:List (Nat×Int)):List (Key×V):=f.map fun p=>(.inl (p.1:Int),.int p.2)
noncomputable def VR(K:FG7)(C:Addr)(H:Hp)(A:Ad->Addr)(ns:NS):Ad->HO->Prop
 |.p,o=>∃dx,o=.ins C dx (zK A ns)
 |.lb,o=>o=.lst (ns.boxes.map V.int)
 |.la,o=>∃xs,o=.lst xs/\yJ (vM K H) xs ns.asks
 |.dl,o=>o=.dT (we A ns.k)
 |.dk,o=>o=.dT (yh ns.k ns.keep)
 |.dd,o=>o=.dK (xJ A ns.nd)
 |.lg,o=>o=.lst (zL ns.log)
 |.df,o=>o=.dK (nKv ns.fnd)
 |.da,o=>o=.dK (nKv ns.ans)
 |.ln l j,o=>∃ys,o=.lst ys/\yJ (Ze K H) ys (ns.lines l j)
 |.dn t,o=>∃ys,o=.lst ys/\yJ (Ze K H) ys (ns.done t)
structure NetAt(K:FG7)(C:Addr)(H:Hp)(A:Ad->Addr)(ns:NS):Prop where
 at_:∀a,okA ns a->∃o,H (A a)=some o/\VR K C H A ns a o
 inj:∀a b,okA ns a->okA ns b->A a=A b->a=b
theorem VR.grow{K:FG7}{C:Addr}{m:List Addr}{H H':Hp}{A:Ad->Addr}{ns:NS}(g:Grow m H H'):∀{a:Ad} {o:HO},VR K C H A ns a o->VR K C H' A ns a o
 |.p,_,h=>h
 |.lb,_,h=>h
 |.la,_,⟨xs,e,h⟩=>⟨xs,e,h.imp fun _ _ z=>g.ask z⟩
 |.dl,_,h=>h
 |.dk,_,h=>h
 |.dd,_,h=>h
 |.lg,_,h=>h
 |.df,_,h=>h
 |.da,_,h=>h
 |.ln _ _,_,⟨xs,e,h⟩=>⟨xs,e,h.imp fun _ _ z=>z.grow g⟩
 |.dn _,_,⟨xs,e,h⟩=>⟨xs,e,h.imp fun _ _ z=>z.grow g⟩
section
variable{K:FG7}{C:Addr}{m:List Addr}{H H':Hp}{A:Ad->Addr}{ns AA:NS}
theorem NetAt.grow(h:NetAt K C H A ns)(g:Grow m H H')(hm:∀a,okA ns a->A a∉m):NetAt K C H' A ns :=
 ⟨fun a ha=>by
  obtain⟨o,h1,h2⟩:=h.at_ a ha;exact⟨o,g.keep _ _ (hm a ha) h1,h2.grow g⟩,h.inj⟩
theorem NetAt.grow0(h:NetAt K C H A ns)(g:Grow [] H H'):NetAt K C H' A ns:=h.grow g fun _ _=>by simp
theorem NetAt.put{c:Ad}{o:HO}(h:NetAt K C H A ns)(hc:okA ns c)(g:Grow [A c] H (upd H (A c) o))(ho:VR K C (upd H (A c) o) A AA c o)(hk:∀a,okA AA a->okA ns a)
  (hs:∀a,a≠c->okA ns a->∀o H,VR K C H A ns a o->VR K C H A AA a o):NetAt K C (upd H (A c) o) A AA :=
 ⟨fun a ha=>by
  by_cases e:a=c
  ·subst e;exact⟨o,zd,ho⟩
  ·obtain⟨o',h1,h2⟩:=h.at_ a (hk a ha);exact⟨o',by rw[zB fun z=>e (h.inj _ _ (hk a ha) hc z)];exact h1,hs a e (hk a ha) _ _ (h2.grow g)⟩,fun a b ha hb=>h.inj a b (hk a ha) (hk b hb)⟩
theorem NetAt.ob(h:NetAt K C H A ns):∃dx,H (A .p)=some (.ins C dx (zK A ns)):=by
 obtain⟨o,h1,dx,rfl⟩:=h.at_ .p trivial;exact⟨dx,h1⟩
theorem NetAt.lb(h:NetAt K C H A ns):H (A .lb)=some (.lst (ns.boxes.map V.int)):=by
 obtain⟨o,h1,h2⟩:=h.at_ .lb trivial;rw[h1];exact congrArg some h2
theorem NetAt.la(h:NetAt K C H A ns):∃xs,H (A .la)=some (.lst xs)/\yJ (vM K H) xs ns.asks:=by
 obtain⟨o,h1,xs,rfl,h2⟩:=h.at_ .la trivial;exact⟨xs,h1,h2⟩
theorem NetAt.dl(h:NetAt K C H A ns):H (A .dl)=some (.dT (we A ns.k)):=by
 obtain⟨o,h1,h2⟩:=h.at_ .dl trivial;rw[h1];exact congrArg some h2
theorem NetAt.dk(h:NetAt K C H A ns):H (A .dk)=some (.dT (yh ns.k ns.keep)):=by
 obtain⟨o,h1,h2⟩:=h.at_ .dk trivial;rw[h1];exact congrArg some h2
theorem NetAt.dd(h:NetAt K C H A ns):H (A .dd)=some (.dK (xJ A ns.nd)):=by
 obtain⟨o,h1,h2⟩:=h.at_ .dd trivial;rw[h1];exact congrArg some h2
theorem NetAt.lg(h:NetAt K C H A ns):H (A .lg)=some (.lst (zL ns.log)):=by
 obtain⟨o,h1,h2⟩:=h.at_ .lg trivial;rw[h1];exact congrArg some h2
theorem NetAt.df(h:NetAt K C H A ns):H (A .df)=some (.dK (nKv ns.fnd)):=by
 obtain⟨o,h1,h2⟩:=h.at_ .df trivial;rw[h1];exact congrArg some h2
theorem NetAt.da(h:NetAt K C H A ns):H (A .da)=some (.dK (nKv ns.ans)):=by
 obtain⟨o,h1,h2⟩:=h.at_ .da trivial;rw[h1];exact congrArg some h2
theorem NetAt.ln(h:NetAt K C H A ns){l j:Nat}(hl:l<=ns.k)(hj:j<2 ^ ns.k):∃ys,H (A (.ln l j))=some (.lst ys)/\yJ (Ze K H) ys (ns.lines l j):=by
 obtain⟨o,h1,xs,rfl,h2⟩:=h.at_ (.ln l j) ⟨hl,hj⟩;exact⟨xs,h1,h2⟩
theorem NetAt.dn(h:NetAt K C H A ns){t:Nat}(h1:1<=t)(h2:t<=ns.nd):∃ys,H (A (.dn t))=some (.lst ys)/\yJ (Ze K H) ys (ns.done t):=by
 obtain⟨o,h1,xs,rfl,h2⟩:=h.at_ (.dn t) ⟨h1,h2⟩;exact⟨xs,h1,h2⟩
theorem Grow.setK5{m:List Addr}{H:Hp}{p:Addr}{xs:List (Key×V)}(h:H p=some (.dK xs))(hm:p∈m)(ys:List (Key×V)):Grow m H (upd H p (.dK ys)) :=
 ⟨fun b u hb q=>by rw[zB (show b≠p from fun z=>hb (by rw[z];exact hm))];exact q,fun b zs q=>by rw[zB (fun z=>by subst z;rw[h] at q;cases q)];exact q,fun b u v q=>by rw[zB (fun z=>by subst z;rw[h] at q;cases q)];exact q⟩
theorem NetAt.setB(h:NetAt K C H A ns)(bs:List Int):NetAt K C (upd H (A .lb) (.lst (bs.map V.int))) A { ns with boxes:=bs }/\Grow [A .lb] H (upd H (A .lb) (.lst (bs.map V.int))) :=
 have g:=Grow.set (m:=[A .lb]) h.lb (by simp) (bs.map V.int)
 ⟨h.put (c:=.lb) trivial g rfl (fun a h=>by cases a <;> exact h) fun a n _ o H z=>by cases a <;> first|exact z|exact absurd rfl n,g⟩
theorem NetAt.setG(h:NetAt K C H A ns)(l:List Nat):NetAt K C (upd H (A .lg) (.lst (zL l))) A { ns with log:=l }/\Grow [A .lg] H (upd H (A .lg) (.lst (zL l))) :=
 have g:=Grow.set (m:=[A .lg]) h.lg (by simp) (zL l)
 ⟨h.put (c:=.lg) trivial g rfl (fun a h=>by cases a <;> exact h) fun a n _ o H z=>by cases a <;> first|exact z|exact absurd rfl n,g⟩
theorem NetAt.setF(h:NetAt K C H A ns)(f:List (Nat×Int)):NetAt K C (upd H (A .df) (.dK (nKv f))) A { ns with fnd:=f }/\Grow [A .df] H (upd H (A .df) (.dK (nKv f))) :=
 have g:=Grow.setK5 (m:=[A .df]) h.df (by simp) (nKv f)
 ⟨h.put (c:=.df) trivial g rfl (fun a h=>by cases a <;> exact h) fun a n _ o H z=>by cases a <;> first|exact z|exact absurd rfl n,g⟩
theorem NetAt.setS(h:NetAt K C H A ns)(f:List (Nat×Int)):NetAt K C (upd H (A .da) (.dK (nKv f))) A { ns with ans:=f }/\Grow [A .da] H (upd H (A .da) (.dK (nKv f))) :=
 have g:=Grow.setK5 (m:=[A .da]) h.da (by simp) (nKv f)
 ⟨h.put (c:=.da) trivial g rfl (fun a h=>by cases a <;> exact h) fun a n _ o H z=>by cases a <;> first|exact z|exact absurd rfl n,g⟩
theorem NetAt.setK(h:NetAt K C H A ns)(kp:Nat->Nat->Int):NetAt K C (upd H (A .dk) (.dT (yh ns.k kp))) A { ns with keep:=kp }/\Grow [A .dk] H (upd H (A .dk) (.dT (yh ns.k kp))) :=
 have g:=Grow.setDT (m:=[A .dk]) h.dk (by simp) (yh ns.k kp)
 ⟨h.put (c:=.dk) trivial g rfl (fun a h=>by cases a <;> exact h) fun a n _ o H z=>by cases a <;> first|exact z|exact absurd rfl n,g⟩
theorem NetAt.setA(h:NetAt K C H A ns){xs:List V}{as:List Ask}(hx:yJ (vM K H) xs as):NetAt K C (upd H (A .la) (.lst xs)) A { ns with asks:=as }/\Grow [A .la] H (upd H (A .la) (.lst xs)) :=
 have ⟨_,e,_⟩:=h.la;have g:=Grow.set (m:=[A .la]) e (by simp) xs
 ⟨h.put (c:=.la) trivial g ⟨xs,rfl,hx.imp fun _ _ z=>g.ask z⟩ (fun a h=>by cases a <;> exact h) fun a n _ o H z=>by cases a <;> first|exact z|exact absurd rfl n,g⟩
theorem NetAt.setLn(h:NetAt K C H A ns){l j:Nat}(hl:l<=ns.k)(hj:j<2 ^ ns.k){xs:List V}{ws:List Wt}(hx:yJ (Ze K H) xs ws) :
  NetAt K C (upd H (A (.ln l j)) (.lst xs)) A { ns with lines:=zQ ns.lines l j ws }/\Grow [A (.ln l j)] H (upd H (A (.ln l j)) (.lst xs)) :=
 have ⟨_,e,_⟩:=h.ln hl hj;have g:=Grow.set (m:=[A (.ln l j)]) e (by simp) xs
 ⟨h.put (c:=.ln l j) ⟨hl,hj⟩ g ⟨xs,rfl,by
  show yJ _ xs (zQ ns.lines l j ws l j);rw[zr];exact hx.imp fun _ _ z=>z.grow g⟩ (fun a h=>by cases a <;> exact h) fun a n _ o H z=>by
   cases a with
   |ln l' j' =>
    obtain⟨ys,e,z⟩:=z;refine⟨ys,e,?_⟩;show yJ _ ys (zQ ns.lines l j ws l' j');rw[zt fun w=>n (by rw[w.1,w.2])];exact z
   |_=>exact z,g⟩
theorem Q9{n:Nat}:xL "now" (.int (n:Int)) (zK A ns)=zK A { ns with now:=n }:=by
 unfold zK;simp only[xL]
 rw[if_neg (by decide +kernel),if_neg (by decide +kernel),if_neg (by decide +kernel),if_neg (by decide +kernel),if_neg (by decide +kernel),if_pos trivial]
theorem NetAt.setNow(h:NetAt K C H A ns){dx:Addr}(hp:H (A .p)=some (.ins C dx (zK A ns)))(n:Nat):NetAt K C (upd H (A .p) (.ins C dx (xL "now" (.int (n:Int)) (zK A ns)))) A { ns with now:=n }/\Grow [A .p] H (upd H (A .p) (.ins C dx (xL "now" (.int (n:Int)) (zK A ns)))) :=
 have g:=Grow.setI (m:=[A .p]) hp (by simp) (.ins C dx (xL "now" (.int (n:Int)) (zK A ns)))
 ⟨h.put (c:=.p) trivial g ⟨dx,by rw[Q9]⟩ (fun a h=>by cases a <;> exact h) fun a n _ o H z=>by cases a <;> first|exact z|exact absurd rfl n,g⟩
end
section
variable{κ:Type}[DecidableEq κ]
theorem vR{k:κ}{v:V}:∀{kvs:List (κ×V)},(k,v)∈kvs->(∀v',(k,v')∈kvs->v'=v)->wa kvs k=some v
 |[],h,_=>by cases h
 |p::r,h,u=>by
  by_cases e:p.1=k
  ·rw[ym e,u p.2 (by rw[←e];exact aU ..)]
  ·rw[z5 e];rcases aS.mp h with z|z
   ·exact absurd (by rw[←z]) e
   ·exact vR z fun v' h'=>u v' (aK _ h')
theorem t6{k:κ}:∀{kvs:List (κ×V)},(∀v,(k,v)∉kvs)->wa kvs k=none
 |[],_=>rfl
 |p::r,u=>by
  by_cases e:p.1=k
  ·exact absurd (by rw[←e];exact aU ..) (u p.2)
  ·rw[z5 e];exact t6 fun v h=>u v (aK _ h)
theorem VS{kvs:List (κ×V)}{k:κ}{v w:V}(h:wa kvs k=some w):xt kvs k v=kvs.map fun kv=>if kv.1=k then(kv.1,v) else kv:=by
 unfold xt;rw[wP,h];exact if_pos rfl
end
theorem uz{a b c d:Int}:kI [a,b]=kI [c,d] ↔ a=c/\b=d:=by
 constructor
 ·intro h;have h:([Sum.inl a,Sum.inl b]:List Key)=[Sum.inl c,Sum.inl d]:=h;injection h with h1 h
  injection h with h2 _
  exact⟨Sum.inl.inj h1,Sum.inl.inj h2⟩
 ·rintro⟨rfl,rfl⟩;rfl
theorem rR{A:Ad->Addr}{k:Nat}{q:List Key}{v:V}:(q,v)∈we A k ↔ ∃l j:Nat,l<=k/\j<2 ^ k/\q=kI [(l:Int),(j:Int)]/\v=.ref (A (.ln l j)):=by
 unfold we;rw[fE];constructor
 ·rintro⟨l,hl,h⟩;obtain⟨j,hj,e⟩:=aW.mp h;cases e;exact⟨l,j,by have:=aV.mp hl;omega,aV.mp hj,rfl,rfl⟩
 ·rintro⟨l,j,hl,hj,rfl,rfl⟩;exact⟨l,aV.mpr (by omega),aW.mpr ⟨j,aV.mpr hj,rfl⟩⟩
theorem tj{A:Ad->Addr}{k l j:Nat}(hl:l<=k)(hj:j<2 ^ k):wa (we A k) (kI [(l:Int),(j:Int)])=some (.ref (A (.ln l j))):=by
 refine vR (rR.mpr ⟨l,j,hl,hj,rfl,rfl⟩) fun v h=>?_;obtain⟨l',j',_,_,e,rfl⟩:=rR.mp h;obtain⟨e1,e2⟩:=uz.mp e;rw[show l=l' by omega,show j=j' by omega]
theorem rS{k:Nat}{kp:Nat->Nat->Int}{q:List Key}{v:V}:(q,v)∈yh k kp ↔ ∃s n:Nat,1<=s/\s<=k/\n<2 ^ (k-1)/\q=kI [(s:Int),(n:Int)]/\v=.int (kp s n):=by
 unfold yh;rw[fE];constructor
 ·rintro⟨l,hl,h⟩;obtain⟨j,hj,e⟩:=aW.mp h;cases e;exact⟨l+1,j,by omega,by have:=aV.mp hl;omega,aV.mp hj,rfl,rfl⟩
 ·rintro⟨s,n,h1,h2,h3,rfl,rfl⟩;refine⟨s-1,aV.mpr (by omega),aW.mpr ⟨n,aV.mpr h3,?_⟩⟩;show(kI [((s-1+1:Nat):Int),(n:Int)],V.int (kp (s-1+1) n))=_;rw[show s-1+1=s by omega]
theorem tm{k s n:Nat}{kp:Nat->Nat->Int}(h1:1<=s)(h2:s<=k)(h3:n<2 ^ (k-1)):wa (yh k kp) (kI [(s:Int),(n:Int)])=some (.int (kp s n)):=by
 refine vR (rS.mpr ⟨s,n,h1,h2,h3,rfl,rfl⟩) fun v h=>?_;obtain⟨s',n',_,_,_,e,rfl⟩:=rS.mp h;obtain⟨e1,e2⟩:=uz.mp e;rw[show s=s' by omega,show n=n' by omega]
theorem Xe{k s n:Nat}{kp:Nat->Nat->Int}{v:Int}(h1:1<=s)(h2:s<=k)(h3:n<2 ^ (k-1)):xt (yh k kp) (kI [(s:Int),(n:Int)]) (.int v)=yh k (zQ kp s n v):=by
 rw[VS (tm h1 h2 h3)];unfold yh;rw[li];refine congrArg (fun f=>(aR k).flatMap f) (funext fun a=>?_);rw[bZ];refine dM fun b _=>?_;show(if kI [((a+1:Nat):Int),(b:Int)]=kI [(s:Int),(n:Int)] then(kI [((a+1:Nat):Int),(b:Int)],V.int v) else(kI [((a+1:Nat):Int),(b:Int)],V.int (kp (a+1) b)))=(kI [((a+1:Nat):Int),(b:Int)],V.int (zQ kp s n v (a+1) b))
 by_cases c:a+1=s/\b=n
 ·rw[if_pos (uz.mpr ⟨by omega,by omega⟩),c.1,c.2,zr]
 ·rw[if_neg fun z=>c ⟨by have:=(uz.mp z).1;omega,by have:=(uz.mp z).2;omega⟩,zt c]
theorem Xf{k:Nat}{kp:Nat->Nat->Int}(k4:k<=4):(yh k kp).length<1000:=by
 have e:(yh k kp).length=(yh k fun _ _=>0).length:=by
  unfold yh;rw[List.length_flatMap,List.length_flatMap]
  congr 1
  refine dM fun a _=>?_;rw[aG,aG]
 rw[e];rcases(by omega:k=0\/k=1\/k=2\/k=3\/k=4) with rfl|rfl|rfl|rfl|rfl <;> decide +kernel
theorem uA{A:Ad->Addr}{nd:Nat}{q:Key}{v:V}:(q,v)∈xJ A nd ↔ ∃t:Nat,1<=t/\t<=nd/\q=.inl (t:Int)/\v=.ref (A (.dn t)):=by
 unfold xJ;rw[aW];constructor
 ·rintro⟨t,ht,e⟩;cases e;exact⟨t+1,by omega,by have:=aV.mp ht;omega,rfl,rfl⟩
 ·rintro⟨t,h1,h2,rfl,rfl⟩;refine⟨t-1,aV.mpr (by omega),?_⟩;show(Sum.inl ((t-1+1:Nat):Int),V.ref (A (.dn (t-1+1))))=_;rw[show t-1+1=t by omega]
theorem Tr{A:Ad->Addr}{nd t:Nat}(h1:1<=t)(h2:t<=nd):wa (xJ A nd) (.inl (t:Int))=some (.ref (A (.dn t))):=by
 refine vR (uA.mpr ⟨t,h1,h2,rfl,rfl⟩) fun v h=>?_;obtain⟨t',_,_,e,rfl⟩:=uA.mp h;rw[show t=t' by have:=Sum.inl.inj e;omega]
theorem Zf{A:Ad->Addr}{nd:Nat}{t:Int}(h:¬(1<=t/\t<=nd)):wa (xJ A nd) (.inl t)=none:=by
 refine t6 fun v hv=>?_;obtain⟨t',h1,h2,e,_⟩:=uA.mp hv;have:=Sum.inl.inj e;exact h ⟨by omega,by omega⟩
theorem Ts{A A':Ad->Addr}{nd:Nat}{q:Addr}(hA:∀t,1<=t->t<=nd->A' (.dn t)=A (.dn t))(hq:A' (.dn (nd+1))=q):xt (xJ A nd) (.inl ((nd+1:Nat):Int)) (.ref q)=xJ A' (nd+1):=by
 rw[u7 _ (Zf (by omega))];unfold xJ;rw[dU,bC]
 congr 1
 ·refine dM fun t ht=>?_;rw[hA (t+1) (by omega) (by have:=aV.mp ht;omega)]
 ·show[(Sum.inl ((nd+1:Nat):Int),V.ref q)]=[(Sum.inl ((nd+1:Nat):Int),V.ref (A' (.dn (nd+1))))]
  rw[hq]
theorem t7{n:Nat}:∀{f:List (Nat×Int)},wa (nKv f) (.inl (n:Int))=(xu f n).map V.int
 |[]=>rfl
 |p::r=>by
  show wa ((Sum.inl (p.1:Int),V.int p.2)::nKv r) _=_;unfold xu;rw[eS];by_cases e:p.1=n
  ·rw[ym (by show Sum.inl (p.1:Int)=_;rw[e]),decide_eq_true e];rfl
  ·rw[z5 (fun z=>e (by have:=Sum.inl.inj z;omega)),decide_eq_false e,t7];rfl
theorem Yk{f:List (Nat×Int)}{n:Nat}{v:Int}:xt (nKv f) (.inl (n:Int)) (.int v)=nKv (wR f n v):=by
 unfold xt wR;have e:((nKv f).any fun kv=>decide (kv.1=Sum.inl (n:Int)))=(f.any fun p=>decide (p.1=n)):=by
  unfold nKv;rw[List.any_map];refine congrArg (fun g=>f.any g) (funext fun p=>?_);show decide (Sum.inl (p.1:Int)=(Sum.inl (n:Int):Key))=decide (p.1=n);by_cases c:p.1=n
  ·rw[decide_eq_true c,decide_eq_true (by rw[c])]
  ·rw[decide_eq_false c,decide_eq_false fun z=>c (by have:=Sum.inl.inj z;omega)]
 rw[e];split
 ·unfold nKv;rw[bZ,bZ];refine dM fun p _=>?_;show(if Sum.inl (p.1:Int)=(Sum.inl (n:Int):Key) then(Sum.inl (p.1:Int),V.int v) else(Sum.inl (p.1:Int),V.int p.2))=(Sum.inl ((if p.1=n then(n,v) else p).1:Int),V.int (if p.1=n then(n,v) else p).2)
  by_cases c:p.1=n
  ·rw[if_pos (by rw[c]),if_pos c,c]
  ·rw[if_neg fun z=>c (by have:=Sum.inl.inj z;omega),if_neg c]
 ·unfold nKv;rw[bC];rfl
theorem Xg{f:List (Nat×Int)}{n:Nat}{v:Int}:(wR f n v).length<=f.length+1:=by
 unfold wR;split
 ·rw[aG];omega
 ·rw[aI];exact aE _
theorem Tt{n m:Nat}{v:Int}{f:List (Nat×Int)}:xu (wR f n v) m=if m=n then some v else xu f m:=by
 have h:=Ti (nKv f) (.inl (n:Int)) (.inl (m:Int)) (.int v);rw[Yk,t7,t7] at h;by_cases c:m=n
 ·rw[if_pos c];rw[if_pos (by rw[c])] at h;cases e:xu (wR f n v) m with
  |none=>rw[e] at h;cases h
  |some x=>rw[e] at h;cases h;rfl
 ·rw[if_neg c];rw[if_neg fun z=>c (by have:=Sum.inl.inj z;omega)] at h;cases e:xu (wR f n v) m with
  |none=>rw[e] at h;cases e2:xu f m with
   |none=>rfl
   |some y=>rw[e2] at h;cases h
  |some x=>rw[e] at h;cases e2:xu f m with
   |none=>rw[e2] at h;cases h
   |some y=>rw[e2] at h;cases h;rfl
section
variable{A:Ad->Addr}{ns:NS}
theorem uX{f:Str}{v:V}{r:List (Str×V)}:gP f ((f,v)::r)=some v:=by rw[dD,beq_self_eq_true]
theorem yy:(zK A ns).lookup ("depth":Str)=some (.int ns.k):=by unfold zK;repeat first|exact uX|exact rfl|rw[lkF5 (by decide +kernel)]
theorem RD:(zK A ns).lookup ("room":Str)=some (.int ns.room):=by unfold zK;repeat first|exact uX|exact rfl|rw[lkF5 (by decide +kernel)]
theorem Zg:(zK A ns).lookup ("most_kept":Str)=some (.int ns.kept):=by unfold zK;repeat first|exact uX|exact rfl|rw[lkF5 (by decide +kernel)]
theorem vS:(zK A ns).lookup ("boxes":Str)=some (.ref (A .lb)):=by unfold zK;repeat first|exact uX|exact rfl|rw[lkF5 (by decide +kernel)]
theorem t9:(zK A ns).lookup ("asks":Str)=some (.ref (A .la)):=by unfold zK;repeat first|exact uX|exact rfl|rw[lkF5 (by decide +kernel)]
theorem Xh:(zK A ns).lookup ("now":Str)=some (.int ns.now):=by unfold zK;repeat first|exact uX|exact rfl|rw[lkF5 (by decide +kernel)]
theorem tq:(zK A ns).lookup ("lines":Str)=some (.ref (A .dl)):=by unfold zK;repeat first|exact uX|exact rfl|rw[lkF5 (by decide +kernel)]
theorem uB:(zK A ns).lookup ("keeping":Str)=some (.ref (A .dk)):=by unfold zK;repeat first|exact uX|exact rfl|rw[lkF5 (by decide +kernel)]
theorem rT:(zK A ns).lookup ("done_in":Str)=some (.ref (A .dd)):=by unfold zK;repeat first|exact uX|exact rfl|rw[lkF5 (by decide +kernel)]
theorem Zh:(zK A ns).lookup ("logged":Str)=some (.ref (A .lg)):=by unfold zK;repeat first|exact uX|exact rfl|rw[lkF5 (by decide +kernel)]
theorem Xi:(zK A ns).lookup ("found":Str)=some (.ref (A .df)):=by unfold zK;repeat first|exact uX|exact rfl|rw[lkF5 (by decide +kernel)]
theorem uC:(zK A ns).lookup ("answers":Str)=some (.ref (A .da)):=by unfold zK;repeat first|exact uX|exact rfl|rw[lkF5 (by decide +kernel)]
theorem Ja:(zK A ns).lookup ("put":Str)=none:=by unfold zK;repeat first|exact uX|exact rfl|rw[lkF5 (by decide +kernel)]
theorem RE:(zK A ns).lookup ("beat":Str)=none:=by unfold zK;repeat first|exact uX|exact rfl|rw[lkF5 (by decide +kernel)]
theorem se:(zK A ns).lookup ("done_ago":Str)=none:=by unfold zK;repeat first|exact uX|exact rfl|rw[lkF5 (by decide +kernel)]
theorem VT:(zK A ns).lookup ("forget":Str)=none:=by unfold zK;repeat first|exact uX|exact rfl|rw[lkF5 (by decide +kernel)]
theorem RF:(zK A ns).lookup ("take":Str)=none:=by unfold zK;repeat first|exact uX|exact rfl|rw[lkF5 (by decide +kernel)]
theorem X9:(zK A ns).lookup ("do_asks":Str)=none:=by unfold zK;repeat first|exact uX|exact rfl|rw[lkF5 (by decide +kernel)]
theorem Wa:(zK A ns).lookup ("pass_on":Str)=none:=by unfold zK;repeat first|exact uX|exact rfl|rw[lkF5 (by decide +kernel)]
theorem rV:(zK A ns).lookup ("hand_on":Str)=none:=by unfold zK;repeat first|exact uX|exact rfl|rw[lkF5 (by decide +kernel)]
theorem RG:(zK A ns).lookup ("tell":Str)=none:=by unfold zK;repeat first|exact uX|exact rfl|rw[lkF5 (by decide +kernel)]
theorem Tu:(zK A ns).lookup ("board":Str)=none:=by unfold zK;repeat first|exact uX|exact rfl|rw[lkF5 (by decide +kernel)]
theorem Jb:(zK A ns).lookup ("log":Str)=none:=by unfold zK;repeat first|exact uX|exact rfl|rw[lkF5 (by decide +kernel)]
theorem RH:(zK A ns).lookup ("todo":Str)=none:=by unfold zK;repeat first|exact uX|exact rfl|rw[lkF5 (by decide +kernel)]
theorem VU:(zK A ns).lookup ("answer":Str)=none:=by unfold zK;repeat first|exact uX|exact rfl|rw[lkF5 (by decide +kernel)]
end
structure NTxt(K:FG7)(mg:Str->Option Value)(C:Addr):Prop where
 cl:Cls K C
 n_depth:yR K C "depth"
 n_room:yR K C "room"
 n_most_kept:yR K C "most_kept"
 n_boxes:yR K C "boxes"
 n_asks:yR K C "asks"
 n_now:yR K C "now"
 n_lines:yR K C "lines"
 n_keeping:yR K C "keeping"
 n_done_in:yR K C "done_in"
 n_logged:yR K C "logged"
 n_found:yR K C "found"
 n_answers:yR K C "answers"
 mgC:mg "Net" = some (.ref C)
structure WtOk(k b a:Nat)(w:Wt):Prop where
 bx:w.box<b
 ne:w.nums≠[]
 nm:∀n∈w.nums,n<a
 mt:∀q∈w.met,1<=q.1/\q.1<=k/\q.2<2 ^ (k-1)
 ln:w.met.length+1=w.nums.length
noncomputable def wH(w:Wt):Nat:=w.nums.length
structure NR(ns:NS):Prop where
 k4:ns.k<=4
 b16:ns.boxes.length<=16
 a40:ns.asks.length<=40
 lw:∀l j,l<=ns.k->j<2 ^ ns.k->∀w∈ns.lines l j,WtOk ns.k ns.boxes.length ns.asks.length w
 dw:∀t,1<=t->t<=ns.nd->∀w∈ns.done t,WtOk ns.k ns.boxes.length ns.asks.length w
 tot:wsN ns.k ns.lines wH+ns.log.length=ns.asks.length
 nw:ns.now<=10000
 nd:ns.nd<=ns.now
 fl:ns.fnd.length<=ns.log.length
def Wb(K:FG7)(H:Hp)(x:V)(q:Nat×Nat):Prop:=∃r,x=.ref r/\SqT K H r [.int q.1,.int q.2]
def wI(K:FG7)(H:Hp)(y:V)(gone:List (Nat×Nat)):Prop:=∃r ys,y=.ref r/\SqT K H r ys/\yJ (Wb K H) ys gone/\ys.length<=1000
theorem wI.grow{K:FG7}{m:List Addr}{H H':Hp}{y:V}{gone:List (Nat×Nat)}(h:wI K H y gone)(g:Grow m H H'):wI K H' y gone:=by
 obtain⟨r,ys,e,h1,h2,h3⟩:=h;exact⟨r,ys,e,g.sqT h1,h2.imp fun _ _ ⟨r,e,z⟩=>⟨r,e,g.sqT z⟩,h3⟩
def vT(k:Nat)(q:Nat×Nat):Prop:=(1<=q.1/\q.1<=k/\q.2<2 ^ (k-1))\/(q.1=0/\q.2<2 ^ k)
def zai(K:FG7)(H:Hp)(A:Ad->Addr)(ns:NS)(z:V)(ws:List Wt):Prop:=(∃t,1<=t/\t<=ns.nd/\z=.ref (A (.dn t))/\ws=ns.done t)\/∃a,z=.ref a/\SqT K H a []/\ws=[]
def qL(C:Addr)(K:FG7):Sp:=sp2 fun x y H Q=>∃(A:Ad->Addr) (ns:NS) (mH:Nat),x=.ref (A .p)/\y=.int mH/\NetAt K C H A ns/\∀z H',Grow [] H H'->zai K H' A ns z (uU ns mH)->Q z H'
def uD(C:Addr)(K:FG7):Sp:=sp1 fun x H Q=>∃(A:Ad->Addr) (ns:NS),x=.ref (A .p)/\NetAt K C H A ns/\NR ns/\∀H',Grow [A .dk] H H'->NetAt K C H' A (zj ns)->Q .non H'
noncomputable def uE(C:Addr)(K:FG7):Sp:=sp3 fun x y z H Q=>∃(A:Ad->Addr) (ns:NS) (b:Nat) (nums:List Nat) (r:Addr),x=.ref (A .p)/\y=.int b/\z=.ref r/\SqT K H r (zL nums)/\NetAt K C H A ns/\b<ns.boxes.length/\(∀n∈nums,n<ns.asks.length)/\ns.log.length+nums.length<=40/\ns.fnd.length+nums.length<=40∧
 ∀H',Grow [A .lb,A .df,A .lg] H H'->NetAt K C H' A (nums.foldl (doN b) ns)->Q .non H'
def JB(H:Hp)(A A':Ad->Addr)(ns:NS):Prop:=(∀a,okA ns a->A' a=A a)/\H (A' (.dn (ns.nd+1)))=none
def qM(C:Addr)(K:FG7):Sp:=sp2 fun x y H Q=>∃(A:Ad->Addr) (ns:NS) (gone:List (Nat×Nat)) (ms:List Addr),x=.ref (A .p)/\wI K H y gone/\NetAt K C H A ns/\NR ns/\ns.nd+1=ns.now/\(∀a,okA ns a->A a∈ms)∧
 ∀A' H',Grow ms H H'->JB H A A' ns->NetAt K C H' A' (zW gone ns)->Q .non H'
def qN(C:Addr)(K:FG7):Sp:=sp3 fun x y z H Q=>∃(A:Ad->Addr) (ns:NS) (s l:Nat) (ms:List Addr),x=.ref (A .p)/\y=.int s/\z=.int l/\1<=s/\s<=ns.k/\l<2 ^ ns.k/\NetAt K C H A ns/\NR ns/\(∀a,okA ns a->A a∈ms)∧
 ∀H',Grow ms H H'->NetAt K C H' A (yO ns s l)->Q .non H'
def qO(C:Addr)(K:FG7):Sp:=sp3 fun x y z H Q=>∃(A:Ad->Addr) (ns:NS) (s:Nat) (gone:List (Nat×Nat)) (ms:List Addr),x=.ref (A .p)/\y=.int s/\wI K H z gone/\1<=s/\s<=ns.k/\NetAt K C H A ns/\NR ns/\(∀a,okA ns a->A a∈ms)∧
 ∀H',Grow ms H H'->NetAt K C H' A (passS gone ns s (2 ^ (ns.k-1)))->Q .non H'
structure NT(ns:NS):Prop where
 nd:((yq ns).map (·.1)).Nodup
 fk:∀w∈uU ns ns.k,∀n∈w.nums,(xu ns.fnd n).isSome=true
 l40:(yq ns).length<=40
 al:ns.ans.length<=400000
def RI(K:FG7)(H:Hp)(z:V)(l:List (Nat×Int)):Prop:=∃r ys,z=.ref r/\SqT K H r ys/\yJ (fun x (p:Nat×Int)=>xq K H x [(p.1:Int),p.2]) ys l
def qP(C:Addr)(K:FG7):Sp:=sp1 fun x H Q=>∃(A:Ad->Addr) (ns:NS) (ms:List Addr),x=.ref (A .p)/\NetAt K C H A ns/\NR ns/\NT ns/\(∀a,okA ns a->A a∈ms)∧
 ∀z l H',Grow ms H H'->NetAt K C H' A (VP ns)->RI K H' z l->l.Perm (yq ns)->l.Pairwise (fun a b=>a.1<b.1)->Q z H'
section
variable{X:Cx}{K:FG7}{tg:Expr}
def zaj(K:FG7)(tl:TE):TI:=fun σ H R=>tl σ H fun x H1=>∃a,x=.ref a/\(((∃xs,SqL K H1 a xs)/\R (Itl K a) H1)\/((∃xs,SqT K H1 a xs)/\R (Itt K a) H1))
theorem VV(hK:X.K=K){l:Expr}{tl:TE}(hl:PE X l tl):PI X tg l (zaj K tl):=by
 subst hK;intro mw s σ H R I h;refine thn (hl mw s σ H _ I h) fun v s1 ⟨x,H1,I1,r1,q1⟩=>?_;obtain⟨a,e,q⟩:=q1;subst e;cases r1;rcases q with ⟨⟨xs,hq⟩,q⟩|⟨⟨xs,hq⟩,q⟩
 ·obtain⟨its,rv,p,hz⟩:=I1.list hq;refine fe p.isList ?_;refine⟨s1.heap.objs.size,[s1.heap.objs.size],_,_,H1,rfl,I1.kept (t':=s1.toks) fun b o e=>aD _ e,jv a _,⟨_,aL _ rfl,rfl,rfl⟩,fun b hb=>?_,q⟩;have e:b=s1.heap.objs.size:=by simpa using hb
  subst e;exact I1.fpOk (aE _) (I1.hok.fresh (aE _))
 ·obtain⟨its,rv,p,hz⟩:=I1.tuple hq;refine km (show s1.heap.IsTuple a its.toArray from p) ?_;refine⟨s1.heap.objs.size,[s1.heap.objs.size],_,_,H1,rfl,I1.kept (t':=s1.toks) fun b o e=>aD _ e,rq a _,⟨_,aL _ rfl,rfl,rfl⟩,fun b hb=>?_,q⟩;have e:b=s1.heap.objs.size:=by simpa using hb
  subst e;exact I1.fpOk (aE _) (I1.hok.fresh (aE _))
noncomputable def Sy(q:Nat×Nat)(h:Heap):Value->Bool
 |.ref a=>match h.get? a with
  |some o=>match o.data with
   |.seq its _=>match its.toList with
    |[.int i _,.int j _]=>decide (i=q.1) && decide (j=q.2)
    |_=>false
   |_=>false
  |none=>false
 |_=>false
theorem Sz{p q:Nat×Nat}:(decide ((p.1:Int)=q.1) && decide ((p.2:Int)=q.2))=decide (p=q):=by
 rw[eP,cE,decide_eq_true_eq,decide_eq_true_eq,decide_eq_true_eq];constructor
 ·rintro⟨a,b⟩;exact ky (by omega) (by omega)
 ·rintro rfl;exact⟨rfl,rfl⟩
theorem VW{q p:Nat×Nat}{h:Heap}{a:Addr}{us:List Value}(t:IsTup h a us.toArray)(r:zZ [.int p.1,.int p.2] us):Sy q h (.ref a)=decide (p=q):=by
 obtain⟨o,e1,_,n,e2⟩:=t;obtain⟨u1,u2,rfl,⟨t1,rfl⟩,⟨t2,rfl⟩⟩:=WU r;show(match h.get? a with|some o=>_|none=>_)=_;rw[e1];show(match o.data with|.seq its _=>_|_=>_)=_;rw[e2];exact Sz
theorem Tv{a b c d:Int}:sP [.int a,.int b] [.int c,.int d]=(decide (a=c) && decide (b=d)):=by
 rw[show[V.int a,V.int b]=[a,b].map V.int from rfl,show[V.int c,V.int d]=[c,d].map V.int from rfl,wF];by_cases h1:a=c
 ·by_cases h2:b=d
  ·rw[decide_eq_true h1,decide_eq_true h2,decide_eq_true (by rw[h1,h2])];rfl
  ·rw[decide_eq_false h2,lT,decide_eq_false fun z=>h2 (by injection z with _ z;injection z)]
 ·rw[decide_eq_false h1,lS,decide_eq_false fun z=>h1 (by injection z)]
theorem SA{mw:List (Addr×Obj)}{σ:L2.St}{H:Hp}{s:Shared}(I:Inv X mw σ H s){r:Addr}{q:Nat×Nat}(hr:A.units<cLine)(hx:SqT X.K H r [.int q.1,.int q.2]):∀{ys:List V} {us:List Value} {l:List (Nat×Nat)},zZ ys us->yJ (Wb X.K H) ys l→
  (∀w∈us,SeqAt.EqAt A s w (.ref r) (Sy q s.heap w))/\us.any (Sy q s.heap)=decide (q∈l)
 |[],_,[],.nil,_=>⟨(fun w h=>by cases h),rfl⟩
 |y::ys,_,p::l,.cons ry rr,⟨⟨a,e,hs⟩,t⟩=>by
  obtain⟨h1,h2⟩:=SA I hr hx rr t;subst e;cases ry;obtain⟨ws,r1,t1,_⟩:=I.tuple hs;obtain⟨vs,r2,t2,_⟩:=I.tuple hx;have mL:Sy q s.heap (.ref a)=decide (p=q):=VW t1 r1;refine⟨fun w hw=>?_,?_⟩
  ·rcases aS.mp hw with rfl|hw
   ·rw[mL];by_cases c:a=r
    ·subst c;have k2:Sy q s.heap (.ref a)=decide (q=q):=VW t2 r2;rw[←mL,k2,decide_eq_true rfl];exact SeqAt.EqAt.same _
    ·refine SeqAt.EqAt.of_refs c ?_;have z:=SeqAt.RcAt.tuples (A:=A) (wN t1) (wN t2) hr (Vc r1 r2 rfl rfl);rw[aO,aO,←r1.length,←r2.length,ut,Tv] at z;rw[Sz] at z;exact z
   ·exact h1 w hw
  ·rw[kS,h2,mL];by_cases c:p=q
   ·subst c;rw[decide_eq_true rfl,decide_eq_true (aU ..)];rfl
   ·rw[decide_eq_false c,Bool.false_or];by_cases d:q∈l
    ·rw[decide_eq_true d,decide_eq_true (aK _ d)]
    ·rw[decide_eq_false d,decide_eq_false fun z=>(aS.mp z).elim (fun w=>c w.symm) d]
def zak(K:FG7)(Dz:Bool):R2:=fun x y H Q=>∃(r p:Addr) (ys:List V) (q:Nat×Nat) (l:List (Nat×Nat)),x=.ref r/\y=.ref p/\SqT K H r [.int q.1,.int q.2]/\SqT K H p ys/\yJ (Wb K H) ys l/\Q (.bl (if Dz then !decide (q∈l) else decide (q∈l))) H
theorem rW{k:Nat}(hK:X.K=K)(hr:Room k X.A):OpR X (eY .NotIn) (zak K true):=by
 subst hK;intro mw s σ H x y v u Q I rx ry h;obtain⟨r,p,ys,q,l,rfl,rfl,hx,hq,ha,qq⟩:=h;cases rx;cases ry;obtain⟨its,rv,pl,hz⟩:=I.tuple hq;have mL:=fun(A:Around) (h:A.units<cLine)=>SA (A:=A) I h hx rv ha;refine SeqAt.notIn_tupleAt (Sy q s.heap) pl (fun w hw=>(mL _ ?_).1 w (by simpa using hw)) ⟨.bl _,H,I,rfl,?_⟩
 ·have:=hr.un;show _<_;simp;omega
 ·rw[show its.toArray.any (Sy q s.heap)=its.any (Sy q s.heap) by simp,(mL X.A (by have:=hr.un;omega)).2];exact qq
end
theorem KV.merge5:∀{kws:List (Key×V)} {ws:List (Key×Value)},KV kws ws->∀{kvs:List (Key×V)} {vs:List (Key×Value)},KV kvs vs->KV (kws.foldl (fun f p=>xt f p.1 p.2) kvs) (merged vs ws)
 |[],_,r,_,_,r0=>by
  cases r;exact r0
 |p::kws,_,r,kvs,vs,r0=>by
  cases r with
  |cons h t =>
   rename_i q ws;obtain⟨e,rv⟩:=h;show KV (kws.foldl _ (xt kvs p.1 p.2)) (merged (stored vs q.1 q.2) ws);rw[←e];exact KV.merge5 t (r0.put p.1 rv)
theorem rX:∀{kws kvs:List (Key×V)},(kws.foldl (fun f p=>xt f p.1 p.2) kvs).length<=kvs.length+kws.length
 |[],_=>aE _
 |p::kws,kvs=>by
  have h1:=rX (kws:=kws) (kvs:=xt kvs p.1 p.2);have h2:=xF kvs p.1 p.2;show(kws.foldl _ (xt kvs p.1 p.2)).length<=kvs.length+(kws.length+1)
  omega
theorem Wc{X:Cx}{K:FG7}(hK:X.K=K):MtR X "dict.update" (fun x vs H Q=>∃(d o:Addr) (kvs kws:List (Key×V)),x=.ref d/\vs=[.ref o]/\H d=some (.dK kvs)/\H o=some (.dK kws)/\d≠o/\kvs.length+kws.length<=sizeLine/\Q .non (upd H d (.dK (kws.foldl (fun f p=>xt f p.1 p.2) kvs)))):=by
 subst hK;intro mw s σ H x vs v us Q I rx rv h;obtain⟨d,o,kvs,kws,rfl,rfl,hd,ho,ne,hl,q⟩:=h;cases rx;obtain⟨u,rfl,ru⟩:=wC rv;cases ru;obtain⟨z1,EX,vs1,r1,dd1⟩:=Ru I.hok hd;obtain⟨z2,CK,vs2,r2,CJ⟩:=Ru I.hok ho;refine iP PySem.F.slot_dict_update dd1.typeIs PySem.F.entry_dict_update (PySem.F.args_dict_update_2 _ _) (meets_dict_update (zO X.prog X.w) d o ne CK) ⟨vs1,vs2,dd1,CJ,by rw[←r1.length,←r2.length];exact hl,fun h' Bg _ hs=>?_⟩;have he:∃q,h'.get? d=some q:=let ⟨q,_,_,hq,_⟩:=Bg;⟨q,hq⟩
 exact⟨.non,_,Yf I (by rw[hd];exact True.intro) hs he (Ss (bM rX hl) EX (KV.merge5 r2 r1) Bg),rfl,q⟩
theorem uF:∀{g f:List (Nat×Int)},(nKv g).foldl (fun f p=>xt f p.1 p.2) (nKv f)=nKv (g.foldl (fun f p=>wR f p.1 p.2) f)
 |[],_=>rfl
 |p::g,f=>by
  show(nKv g).foldl _ (xt (nKv f) (.inl (p.1:Int)) (.int p.2))=_;rw[Yk];exact uF
def VX(_:FG7):Sp:=sp4 fun x y z u H Q=>∃(k s n m:Nat),x=.int k/\y=.int s/\z=.int n/\u=.int m/\k<=4/\1<=s/\s<=k/\n<2 ^ (k-1)/\m<2/\Q (.int (sN k s n m:Nat)) H
def VY(K:FG7):Sp:=sp3 fun x y z H Q=>∃(sw:Nat×Nat) (w c:Wt),Q8 H x sw/\Ze K H y w/\Ze K H z c/\w.nums.length+c.nums.length<=40/\w.met.length+c.met.length<=40/\∀r H',Grow [] H H'->Ze K H' r (wc sw w c)->Q r H'
theorem wJ{k s n m:Nat}(k4:k<=4)(s1:1<=s)(sk:s<=k)(hn:n<2 ^ (k-1))(hm:m<2):sN k s n m<2 ^ k:=by
 have mL:∀k:Fin 5,∀s:Fin 5,1<=s.val->s.val<=k.val->∀n:Fin 8,n.val<2 ^ (k.val-1)->∀m:Fin 2,sN k.val s.val n.val m.val<2 ^ k.val:=by decide +kernel
 have n8:n<8:=aN hn (bM (fc (by decide) (show k-1<=3 by omega)) (by decide));exact mL ⟨k,by omega⟩ ⟨s,by omega⟩ s1 sk ⟨n,n8⟩ hn ⟨m,hm⟩
theorem wp{α β:Type}{f:β->α->β}{a:β}{l:List α}{j:Nat}{w:α}(h:l[j]?=some w):(l.take (j+1)).foldl f a=f ((l.take j).foldl f a) w:=by
 obtain⟨hj,e⟩:=aZ.mp h;rw[dO hj,e,eM];rfl
theorem zM{β:Type}{f:β->Nat->β}{a:β}{j:Nat}:(aR (j+1)).foldl f a=f ((aR j).foldl f a) j:=by
 rw[dU,eM];rfl
theorem Jc{K:FG7}{H:Hp}{r:Addr}{q:Nat×Nat}(h:H r=some (.tup [.int q.1,.int q.2])):SqT K H r [.int q.1,.int q.2]:=SqT.of h
theorem xZ{H:Hp}{r:Addr}{a b:Int}(h:H r=some (.tup [.int a,.int b])):H r=some (.tup ((kI [a,b]).map kV)):=by rw[zaf];exact h
theorem nd5{a b:Ad}{K:FG7}{C:Addr}{H:Hp}{A:Ad->Addr}{ns:NS}(h:NetAt K C H A ns)(ha:okA ns a)(hb:okA ns b)(n:a≠b):A a≠A b:=fun z=>n (h.inj _ _ ha hb z)
theorem wf{b:Nat}:∀{l:List Nat} {ns:NS},(l.foldl (doN b) ns).boxes.length=ns.boxes.length/\(l.foldl (doN b) ns).asks=ns.asks/\(l.foldl (doN b) ns).log=ns.log++l/\(l.foldl (doN b) ns).fnd.length<=ns.fnd.length+l.length
 |[],ns=>⟨rfl,rfl,(bB _).symm,aE _⟩
 |n::l,ns=>by
  obtain⟨h1,h2,h3,h4⟩:=wf (b:=b) (l:=l) (ns:=doN b ns n);refine⟨h1.trans (gA ..),h2,?_,bM h4 ?_⟩
  ·show(l.foldl (doN b) (doN b ns n)).log=_;rw[h3];show(ns.log++[n])++l=_;rw[bD];rfl
  ·have:=Xg (f:=ns.fnd) (n:=n) (v:=ns.boxes.getD b 0);show(wR ns.fnd n (ns.boxes.getD b 0)).length+l.length<=ns.fnd.length+(l.length+1)
   omega
theorem qQ{n i:Nat}(h:i<n):ixN n (i:Int)=some i:=by
 have:=Z9 (n:=n) (i:=(i:Int)) (by omega) (by omega);rw[this,bW]
theorem Wd{k s n m:Nat}(k4:k<=4)(s1:1<=s)(sk:s<=k)(hn:n<2 ^ (k-1))(hm:m<2):n<8/\Qe ((n:Int) / 2 ^ ((k:Int)-s).toNat) ((k:Int)-s+1)/\Qe (m:Int) ((k:Int)-s)/\Qe 1 ((k:Int)-s)/\True∧
  fP (fP ((n:Int) / 2 ^ ((k:Int)-s).toNat*2 ^ ((k:Int)-s+1).toNat) ((m:Int)*2 ^ ((k:Int)-s).toNat)) (cZ (n:Int) (1*2 ^ ((k:Int)-s).toNat-1))=(sN k s n m:Nat):=by
 have n8:n<8:=aN hn (bM (fc (by decide) (show k-1<=3 by omega)) (by decide));have e2:(n:Int) / 2 ^ ((k:Int)-s).toNat<=n:=Int.ediv_le_self _ (by omega);have e1:(0:Int)<=(n:Int) / 2 ^ ((k:Int)-s).toNat:=lP (by omega) (gi (Int.pow_pos (by decide)));refine⟨n8,⟨by omega,by omega,by omega⟩,⟨by omega,by omega,by omega⟩,⟨by omega,by omega,by decide⟩,trivial,?_⟩;have mL:∀k:Fin 5,∀s:Fin 5,1<=s.val->s.val<=k.val->∀n:Fin 8,n.val<2 ^ (k.val-1)->∀m:Fin 2,fP (fP ((n.val:Int) / 2 ^ ((k.val:Int)-s.val).toNat*2 ^ ((k.val:Int)-s.val+1).toNat) ((m.val:Int)*2 ^ ((k.val:Int)-s.val).toNat)) (cZ (n.val:Int) (1*2 ^ ((k.val:Int)-s.val).toNat-1))=(sN k.val s.val n.val m.val:Nat):=by decide +kernel
 exact mL ⟨k,by omega⟩ ⟨s,by omega⟩ s1 sk ⟨n,n8⟩ hn ⟨m,hm⟩
theorem Yl{c:TT}{t u:TS}{D:Ends}{σ:L2.St}{H:Hp}(Good:Bool->Hp->Prop)(hc:∀K:Bool->Hp->Prop,(∀b H',Good b H'->K b H')->c σ H K)(hr:∀b H',Good b H'->if b=true then t D σ H' else u D σ H'):Qp c t u D σ H:=hc _ hr
theorem Jd{is:List Nat}{i:Nat}:atI (zL (is++[i])) (-1)=some (V.int i):=by
 have:=J4 (ys:=is.map fun n:Nat=>(n:Int)) (v:=(i:Int));unfold zL;rw[bC,bZ] at this;rw[bC];exact this
theorem qR{out:List Wt}{b i:Nat}(h:tZ out b=some i):i<out.length/\(out.getD i default).box=b:=by
 have hm:=List.mem_of_getLast? h;rw[List.mem_filter] at hm;exact⟨aV.mp hm.1,of_decide_eq_true hm.2⟩
theorem Zi{ns:NS}(nr:NR ns){l j:Nat}(hl:l<=ns.k)(hj:j<2 ^ ns.k):(ns.lines l j).length<=40/\yt wH (ns.lines l j)<=40:=by
 have h1:=VQ (f:=ns.lines) (g:=wH) hl hj;have h2:=nr.tot;have h3:=nr.a40;have h4:=tf (g:=wH) (ws:=ns.lines l j) fun w hw=>by
  have:=(nr.lw l j hl hj w hw).ne;cases e:w.nums with
  |nil=>exact absurd e this
  |cons a r=>show 1<=w.nums.length;rw[e];exact hG (aX _)
 omega
theorem RJ{v:V}{r:List V}:seqIndex? 0 (v::r).length=some 0:=(Z6 (qQ (n:=(v::r).length) (i:=0) (lC _))).1
inductive HandC(ns:NS)(s l:Nat):NS->Prop
 |stay:HandC ns s l ns
 |add (c:Wt) (r:List Wt):ns.lines (s-1) l=c::r->(ns.lines s (zS ns.k s l c.box)).length<ns.room→
   HandC ns s l { ns with lines:=zQ (zQ ns.lines (s-1) l r) s (zS ns.k s l c.box) (ns.lines s (zS ns.k s l c.box)++[c]) }
 |join (c:Wt) (r:List Wt) (i:Nat):ns.lines (s-1) l=c::r->i<(ns.lines s (zS ns.k s l c.box)).length->((ns.lines s (zS ns.k s l c.box)).getD i default).box=c.box->ns.keep s (nN ns.k s l)<ns.kept→
   HandC ns s l { ns with lines:=zQ (zQ ns.lines (s-1) l r) s (zS ns.k s l c.box) ((ns.lines s (zS ns.k s l c.box)).set i (wc (s,nN ns.k s l) ((ns.lines s (zS ns.k s l c.box)).getD i default) c)),keep:=zQ ns.keep s (nN ns.k s l) (ns.keep s (nN ns.k s l)+1) }
theorem zaI{ns:NS}{s l:Nat}{c:Wt}{r:List Wt}(h:ns.lines (s-1) l=c::r):HandC ns s l (VO ns s l c r):=by
 unfold VO;split
 ·exact .add c r h (by assumption)
 ·exact .stay
theorem Zj(ns:NS)(s l:Nat):HandC ns s l (yO ns s l):=by
 unfold yO;split
 ·exact .stay
 ·rename_i c r h;split
  ·exact zaI h
  ·rename_i i hi;split
   ·rename_i hk;exact .join c r i h (qR hi).1 (qR hi).2 hk
   ·exact zaI h
structure Same5(a b:NS):Prop where
 k:a.k=b.k
 room:a.room=b.room
 kept:a.kept=b.kept
 boxes:a.boxes=b.boxes
 asks:a.asks=b.asks
 now:a.now=b.now
 nd:a.nd=b.nd
 done:a.done=b.done
 log:a.log=b.log
 fnd:a.fnd=b.fnd
 ans:a.ans=b.ans
theorem Same5.refl(a:NS):Same5 a a:=⟨rfl,rfl,rfl,rfl,rfl,rfl,rfl,rfl,rfl,rfl,rfl⟩
theorem Same5.trans{a b c:NS}(h:Same5 a b)(g:Same5 b c):Same5 a c :=
 ⟨h.k.trans g.k,h.room.trans g.room,h.kept.trans g.kept,h.boxes.trans g.boxes,h.asks.trans g.asks,h.now.trans g.now,h.nd.trans g.nd,h.done.trans g.done,h.log.trans g.log,h.fnd.trans g.fnd,h.ans.trans g.ans⟩
theorem HandC.same{ns n':NS}{s l:Nat}(h:HandC ns s l n'):Same5 n' ns:=by
 cases h <;> exact⟨rfl,rfl,rfl,rfl,rfl,rfl,rfl,rfl,rfl,rfl,rfl⟩
theorem xj(ns:NS)(s l:Nat):Same5 (yO ns s l) ns:=(Zj ns s l).same
def Je(g:Wt->Nat):Prop:=∀sw w c,g (wc sw w c)=g w+g c
theorem y4{k s l b:Nat}(k4:k<=4)(s1:1<=s)(sk:s<=k)(hl:l<2 ^ k):zS k s l b<2 ^ k:=(zaH (b:=b) k4 s1 sk hl).lt
section
variable{ns n':NS}{s l:Nat}
theorem HandC.ws(h:HandC ns s l n'){g:Wt->Nat}(hg:Je g)(k4:ns.k<=4)(s1:1<=s)(sk:s<=ns.k)(hl:l<2 ^ ns.k):wsN ns.k n'.lines g=wsN ns.k ns.lines g:=by
 cases h with
 |stay=>rfl
 |add c r hc hr =>
  have o:=y4 (b:=c.box) k4 s1 sk hl;have h1:=xI (f:=ns.lines) (v:=r) (g:=g) (show s-1<=ns.k by omega) hl;have h2:=xI (f:=zQ ns.lines (s-1) l r) (v:=ns.lines s (zS ns.k s l c.box)++[c]) (g:=g) sk o;rw[zt (fun z=>by have:=z.1;omega)] at h2;rw[hc,yb] at h1;rw[wU,yb,wT] at h2;show wsN ns.k (zQ (zQ ns.lines (s-1) l r) s (zS ns.k s l c.box) (ns.lines s (zS ns.k s l c.box)++[c])) g=_;omega
 |join c r i hc hi hb hk =>
  have o:=y4 (b:=c.box) k4 s1 sk hl;have h1:=xI (f:=ns.lines) (v:=r) (g:=g) (show s-1<=ns.k by omega) hl;have h2:=xI (f:=zQ ns.lines (s-1) l r) (v:=(ns.lines s (zS ns.k s l c.box)).set i (wc (s,nN ns.k s l) ((ns.lines s (zS ns.k s l c.box)).getD i default) c)) (g:=g) sk o;rw[zt (fun z=>by have:=z.1;omega)] at h2;have h3:=qJ (g:=g) (v:=wc (s,nN ns.k s l) ((ns.lines s (zS ns.k s l c.box)).getD i default) c) hi;rw[hg] at h3;rw[hc,yb] at h1;show wsN ns.k (zQ (zQ ns.lines (s-1) l r) s (zS ns.k s l c.box) ((ns.lines s (zS ns.k s l c.box)).set i (wc (s,nN ns.k s l) ((ns.lines s (zS ns.k s l c.box)).getD i default) c))) g=_;omega
theorem HandC.all(h:HandC ns s l n'){P:Wt->Prop}(k4:ns.k<=4)(s1:1<=s)(sk:s<=ns.k)(hl:l<2 ^ ns.k)(hp:∀a b,a<=ns.k->b<2 ^ ns.k->∀w∈ns.lines a b,P w)
  (hj:∀w c,P w->P c->w.box=c.box->P (wc (s,nN ns.k s l) w c)):∀a b,a<=ns.k->b<2 ^ ns.k->∀w∈n'.lines a b,P w:=by
 have h1:s-1<=ns.k:=by omega
 cases h with
 |stay=>exact hp
 |add c r hc hr =>
  intro a b ha hb w hw;have hw:w∈zQ (zQ ns.lines (s-1) l r) s (zS ns.k s l c.box) (ns.lines s (zS ns.k s l c.box)++[c]) a b:=hw;by_cases e:a=s/\b=zS ns.k s l c.box
  ·rw[e.1,e.2,zr] at hw;rcases aP.mp hw with z|z
   ·exact hp s _ sk (y4 k4 s1 sk hl) w z
   ·rw[aB.mp z];exact hp (s-1) l h1 hl c (by rw[hc];exact aU ..)
  ·rw[zt e] at hw;by_cases e2:a=s-1/\b=l
   ·rw[e2.1,e2.2,zr] at hw;exact hp (s-1) l h1 hl w (by rw[hc];exact aK _ hw)
   ·rw[zt e2] at hw;exact hp a b ha hb w hw
 |join c r i hc hi BX hk =>
  intro a b ha hb w hw;have hw:w∈zQ (zQ ns.lines (s-1) l r) s (zS ns.k s l c.box) ((ns.lines s (zS ns.k s l c.box)).set i (wc (s,nN ns.k s l) ((ns.lines s (zS ns.k s l c.box)).getD i default) c)) a b:=hw;have o:=y4 (b:=c.box) k4 s1 sk hl;have pc:P c:=hp (s-1) l h1 hl c (by rw[hc];exact aU ..);by_cases e:a=s/\b=zS ns.k s l c.box
  ·rw[e.1,e.2,zr] at hw;rcases ia hw with z|z
   ·exact hp s _ sk o w z
   ·rw[z];refine hj _ _ (hp s _ sk o _ ?_) pc BX;rw[aJ,aH hi];exact dX hi
  ·rw[zt e] at hw;by_cases e2:a=s-1/\b=l
   ·rw[e2.1,e2.2,zr] at hw;exact hp (s-1) l h1 hl w (by rw[hc];exact aK _ hw)
   ·rw[zt e2] at hw;exact hp a b ha hb w hw
theorem Tw:Je wH:=fun _ w c=>aI ..
theorem Jf{k b a:Nat}{w c:Wt}{sw:Nat×Nat}(hw:WtOk k b a w)(hc:WtOk k b a c)(hs:1<=sw.1/\sw.1<=k/\sw.2<2 ^ (k-1)):WtOk k b a (wc sw w c) where
 bx:=hw.bx
 ne:=fun z=>hw.ne (List.append_eq_nil_iff.mp z).1
 nm:=fun n hn=>(aP.mp hn).elim (hw.nm n) (hc.nm n)
 mt:=fun q hq=>by
  rcases aP.mp hq with z|z
  ·exact(aP.mp z).elim (hw.mt q) (hc.mt q)
  ·rw[aB.mp z];exact hs
 ln:=by
  have h1:=hw.ln;have h2:=hc.ln;show(w.met++c.met++[sw]).length+1=(w.nums++c.nums).length;rw[aI,aI,aI];show w.met.length+c.met.length+1+1=_;omega
theorem NR.hand(nr:NR ns)(s1:1<=s)(sk:s<=ns.k)(hl:l<2 ^ ns.k):NR (yO ns s l):=by
 have hc:=Zj ns s l;have sm:=hc.same;have F1:=zaF nr.k4 s1 sk hl;have ws:=hc.ws Tw nr.k4 s1 sk hl;have al:=hc.all (P:=WtOk ns.k ns.boxes.length ns.asks.length) nr.k4 s1 sk hl nr.lw fun w c hw hc _=>Jf hw hc ⟨s1,sk,F1.lt⟩;refine⟨by rw[sm.k];exact nr.k4,by rw[sm.boxes];exact nr.b16,by rw[sm.asks];exact nr.a40,?_,?_,?_,by rw[sm.now];exact nr.nw,by rw[sm.nd,sm.now];exact nr.nd,by rw[sm.fnd,sm.log];exact nr.fl⟩
 ·rw[sm.k,sm.boxes,sm.asks];exact al
 ·rw[sm.k,sm.boxes,sm.asks,sm.nd,sm.done];exact nr.dw
 ·rw[sm.k,sm.log,sm.asks,ws];exact nr.tot
end
theorem We(gone:List (Nat×Nat))(s:Nat)(ns:NS)(n:Nat):Same5 (yY gone s ns n) ns:=by
 unfold yY;split
 ·exact Same5.refl _
 ·exact(xj _ _ _).trans (xj _ _ _)
theorem NR.pass1{ns:NS}(nr:NR ns){gone:List (Nat×Nat)}{s n:Nat}(s1:1<=s)(sk:s<=ns.k)(hn:n<2 ^ (ns.k-1)):NR (yY gone s ns n):=by
 unfold yY;split
 ·exact nr
 ·have h1:=nr.hand s1 sk (l:=sN ns.k s n (ns.now % 2)) (wJ nr.k4 s1 sk hn (ft _ (by decide)));have sm:=xj ns s (sN ns.k s n (ns.now % 2));exact h1.hand s1 (by rw[sm.k];exact sk) (by rw[sm.k];exact wJ nr.k4 s1 sk hn (by omega))
theorem wg(gone:List (Nat×Nat))(ns:NS)(s:Nat):∀i,Same5 (passS gone ns s i) ns
 |0=>Same5.refl _
 |i+1=>by
  unfold passS;rw[zM];exact(We _ _ _ _).trans (wg gone ns s i)
theorem NR.passS{ns:NS}(nr:NR ns){gone:List (Nat×Nat)}{s:Nat}(s1:1<=s)(sk:s<=ns.k):∀{i},i<=2 ^ (ns.k-1)->NR (passS gone ns s i)
 |0,_=>nr
 |i+1,h=>by
  unfold L3.passS;rw[zM];have sm:=wg gone ns s i;exact(NR.passS nr s1 sk (gone:=gone) (i:=i) (by omega)).pass1 s1 (by rw[sm.k];exact sk) (by rw[sm.k];omega)
theorem y6(gone:List (Nat×Nat))(ns:NS):∀i,Same5 (passA gone ns i) ns
 |0=>Same5.refl _
 |i+1=>by
  unfold passA;rw[zM];exact(wg _ _ _ _).trans (y6 gone ns i)
theorem NR.passA{ns:NS}(nr:NR ns){gone:List (Nat×Nat)}:∀{i},i<=ns.k->NR (passA gone ns i)
 |0,_=>nr
 |i+1,h=>by
  unfold L3.passA;rw[zM];have sm:=y6 gone ns i;refine NR.passS (NR.passA nr (gone:=gone) (i:=i) (by omega)) ?_ ?_ ?_
  ·show 1<=(L3.passA gone ns i).k-i;rw[sm.k];omega
  ·show(L3.passA gone ns i).k-i<=(L3.passA gone ns i).k;omega
  ·exact aE _
theorem yF{gone:List (Nat×Nat)}{ns:NS}{i:Nat}:zD gone ns (i+1)=Zd gone ns.k (zD gone ns i) i:=by unfold zD;rw[zM]
theorem xk{gone:List (Nat×Nat)}{k i:Nat}{st:List Wt×(Nat->Nat->List Wt)}(h:st.2 k i=[]):Zd gone k st i=st:=by unfold Zd;rw[h]
theorem yN{gone:List (Nat×Nat)}{k i:Nat}{st:List Wt×(Nat->Nat->List Wt)}(hg:(0,i)∈gone):Zd gone k st i=st:=by
 unfold Zd;split
 ·rfl
 ·rw[if_pos hg]
theorem xv{gone:List (Nat×Nat)}{k i:Nat}{st:List Wt×(Nat->Nat->List Wt)}{w:Wt}{r:List Wt}(h:st.2 k i=w::r)(hg:(0,i)∉gone):Zd gone k st i=(st.1++[w],zQ st.2 k i r):=by
 unfold Zd;rw[h];exact if_neg hg
structure TakeF(ns:NS)(st:List Wt×(Nat->Nat->List Wt)):Prop where
 tk:∀w∈st.1,∃j,j<2 ^ ns.k/\w∈ns.lines ns.k j
 ln:∀l j,∀w∈st.2 l j,w∈ns.lines l j
 lo:∀l j,l≠ns.k->st.2 l j=ns.lines l j
 ws:∀g:Wt->Nat,yt g st.1+wsN ns.k st.2 g=wsN ns.k ns.lines g
theorem Zk{gone:List (Nat×Nat)}{ns:NS}:∀{i},i<=2 ^ ns.k->TakeF ns (zD gone ns i)
 |0,_=>⟨(fun _ h=>by cases h),fun _ _ _ h=>h,fun _ _ _=>rfl,fun g=>by show 0+wsN ns.k ns.lines g=_;omega⟩
 |i+1,h=>by
  have ih:=Zk (gone:=gone) (ns:=ns) (i:=i) (by omega);rw[yF];cases hc:(zD gone ns i).2 ns.k i with
  |nil=>rw[xk hc];exact ih
  |cons w r =>
   by_cases hg:(0,i)∈gone
   ·rw[yN hg];exact ih
   ·rw[xv hc hg];refine⟨fun x hx=>?_,fun l j x hx=>?_,fun l j hl=>?_,fun g=>?_⟩
    ·rcases aP.mp hx with z|z
     ·exact ih.tk x z
     ·rw[aB.mp z];exact⟨i,by omega,ih.ln _ _ w (by rw[hc];exact aU ..)⟩
    ·have hx:x∈zQ (zD gone ns i).2 ns.k i r l j:=hx;by_cases e:l=ns.k/\j=i
     ·rw[e.1,e.2,zr] at hx;rw[e.1,e.2];exact ih.ln _ _ x (by rw[hc];exact aK _ hx)
     ·rw[zt e] at hx;exact ih.ln l j x hx
    ·show zQ (zD gone ns i).2 ns.k i r l j=_;rw[zt fun z=>hl z.1];exact ih.lo l j hl
    ·have h1:=ih.ws g;have h2:=xI (f:=(zD gone ns i).2) (v:=r) (g:=g) (aE ns.k) (show i<2 ^ ns.k by omega);rw[hc,yb] at h2;show yt g ((zD gone ns i).1++[w])+wsN ns.k (zQ (zD gone ns i).2 ns.k i r) g=_;rw[wU,yb,wT];omega
noncomputable def yc(l:List Wt):List Nat:=l.flatMap (·.nums)
theorem sf:∀{l:List Wt},(yc l).length=yt wH l
 |[]=>rfl
 |w::l=>by
  show(w.nums++yc l).length=w.nums.length+yt wH l;rw[aI,sf]
theorem sg{n:Nat}:∀{l:List Wt},(yc l).count n=yt (fun w=>w.nums.count n) l
 |[]=>rfl
 |w::l=>by
  show(w.nums++yc l).count n=w.nums.count n+yt (fun w=>w.nums.count n) l;rw[gK,sg]
structure DoF(ns n':NS)(l:List Wt):Prop where
 k:n'.k=ns.k
 room:n'.room=ns.room
 kept:n'.kept=ns.kept
 bl:n'.boxes.length=ns.boxes.length
 asks:n'.asks=ns.asks
 now:n'.now=ns.now
 lines:n'.lines=ns.lines
 keep:n'.keep=ns.keep
 nd:n'.nd=ns.nd
 done:n'.done=ns.done
 log:n'.log=ns.log++yc l
 fl:n'.fnd.length<=ns.fnd.length+(yc l).length
 ans:n'.ans=ns.ans
theorem zaJ{b:Nat}:∀{l:List Nat} {ns:NS},(l.foldl (doN b) ns).k=ns.k/\(l.foldl (doN b) ns).room=ns.room/\(l.foldl (doN b) ns).kept=ns.kept/\(l.foldl (doN b) ns).now=ns.now/\(l.foldl (doN b) ns).lines=ns.lines/\(l.foldl (doN b) ns).keep=ns.keep/\(l.foldl (doN b) ns).nd=ns.nd/\(l.foldl (doN b) ns).done=ns.done/\(l.foldl (doN b) ns).ans=ns.ans
 |[],ns=>⟨rfl,rfl,rfl,rfl,rfl,rfl,rfl,rfl,rfl⟩
 |n::l,ns=>zaJ (b:=b) (l:=l) (ns:=doN b ns n)
theorem doF:∀{l:List Wt} {ns:NS},DoF ns (l.foldl doW ns) l
 |[],ns=>⟨rfl,rfl,rfl,rfl,rfl,rfl,rfl,rfl,rfl,rfl,(bB _).symm,aE _,rfl⟩
 |w::l,ns=>by
  have ih:=doF (l:=l) (ns:=doW ns w);obtain⟨a1,a2,a3,a4,a5,a6,a7,a8,a9⟩:=zaJ (b:=w.box) (l:=w.nums) (ns:=ns);obtain⟨b1,b2,b3,b4⟩:=wf (b:=w.box) (l:=w.nums) (ns:=ns);refine⟨ih.k.trans a1,ih.room.trans a2,ih.kept.trans a3,ih.bl.trans b1,ih.asks.trans b2,ih.now.trans a4,ih.lines.trans a5,ih.keep.trans a6,ih.nd.trans a7,ih.done.trans a8,?_,?_,ih.ans.trans a9⟩
  ·show(l.foldl doW (doW ns w)).log=ns.log++(w.nums++yc l)
   rw[ih.log,show(doW ns w).log=ns.log++w.nums from b3,bD]
  ·have h1:=ih.fl;have b4:(doW ns w).fnd.length<=ns.fnd.length+w.nums.length:=b4;show(l.foldl doW (doW ns w)).fnd.length<=ns.fnd.length+(w.nums++yc l).length;rw[aI];omega
theorem zaK{n:Nat}(h:n<=1000000):n<sizeLine:=kz h (by decide)
noncomputable def VZ(A:Ad->Addr)(nd:Nat)(q:Addr):Ad->Addr:=fun a=>if a=.dn (nd+1) then q else A a
theorem vU{A:Ad->Addr}{nd:Nat}{q:Addr}:VZ A nd q (.dn (nd+1))=q:=if_pos rfl
theorem wq{A:Ad->Addr}{ns:NS}{q:Addr}{a:Ad}(h:okA ns a):VZ A ns.nd q a=A a:=if_neg fun z=>by
 subst z;have h:1<=ns.nd+1/\ns.nd+1<=ns.nd:=h;omega
section
variable{K:FG7}{C:Addr}{H:Hp}{A:Ad->Addr}{ns:NS}
theorem NetAt.setDone(h:NetAt K C H A ns){q:Addr}{tv:List V}{ws:List Wt}(hq:H q=some (.lst tv))(hw:yJ (Ze K H) tv ws)(nq:∀a,okA ns a->A a≠q) :
  NetAt K C (upd H (A .dd) (.dK (xt (xJ A ns.nd) (.inl ((ns.nd+1:Nat):Int)) (.ref q)))) (VZ A ns.nd q) { ns with nd:=ns.nd+1,done:=sO ns.done (ns.nd+1) ws }/\Grow [A .dd] H (upd H (A .dd) (.dK (xt (xJ A ns.nd) (.inl ((ns.nd+1:Nat):Int)) (.ref q)))):=by
 have g:=Grow.setK5 (m:=[A .dd]) h.dd (by simp) (xt (xJ A ns.nd) (.inl ((ns.nd+1:Nat):Int)) (.ref q));refine⟨⟨fun a ha=>?_,fun a b ha hb e=>?_⟩,g⟩
 ·by_cases e:a=.dn (ns.nd+1)
  ·subst e;rw[vU];refine⟨_,by rw[zB (fun z=>nq .dd trivial z.symm)];exact hq,tv,rfl,?_⟩;show yJ _ tv (sO ns.done (ns.nd+1) ws (ns.nd+1));rw[show sO ns.done (ns.nd+1) ws (ns.nd+1)=ws from if_pos rfl];exact hw.imp fun _ _ z=>z.grow g
  ·have ok:okA ns a:=by
    cases a with
    |dn t =>
     have ha:1<=t/\t<=ns.nd+1:=ha;have:t≠ns.nd+1:=fun z=>e (by rw[z]);exact⟨ha.1,by omega⟩
    |_=>exact ha
   rw[wq ok];by_cases ed:a=.dd
   ·subst ed;refine⟨_,zd,?_⟩;show HO.dK _=.dK (xJ (VZ A ns.nd q) (ns.nd+1));rw[Ts (A':=VZ A ns.nd q) (fun t h1 h2=>wq (ns:=ns) (a:=.dn t) ⟨h1,h2⟩) vU]
   ·obtain⟨o,h1,h2⟩:=h.at_ a ok;refine⟨o,by rw[zB fun z=>ed (h.inj _ _ ok trivial z)];exact h1,?_⟩;have h3:=h2.grow g;have ef:zK (VZ A ns.nd q) { ns with nd:=ns.nd+1,done:=sO ns.done (ns.nd+1) ws }=zK A ns:=rfl;have el:we (VZ A ns.nd q) ns.k=we A ns.k:=by
     unfold we;refine congrArg (fun f=>(aR (ns.k+1)).flatMap f) (funext fun l=>dM fun j _=>?_);rfl
    cases a with
    |p=>obtain⟨dx,e⟩:=h3;exact⟨dx,e⟩
    |dl=>exact h3
    |dd=>exact absurd rfl ed
    |dn t =>
     obtain⟨ys,e1,e2⟩:=h3;refine⟨ys,e1,?_⟩;show yJ _ ys (sO ns.done (ns.nd+1) ws t);rw[show sO ns.done (ns.nd+1) ws t=ns.done t from if_neg fun z=>e (by rw[z])];exact e2
    |_=>exact h3
 ·have mL:∀a,okA ({ ns with nd:=ns.nd+1,done:=sO ns.done (ns.nd+1) ws }:NS) a->a=.dn (ns.nd+1)\/okA ns a:=fun a ha=>by
   cases a with
   |dn t =>
    have ha:1<=t/\t<=ns.nd+1:=ha;by_cases z:t=ns.nd+1
    ·exact .inl (by rw[z])
    ·exact .inr ⟨ha.1,by omega⟩
   |_=>exact .inr ha
  rcases mL a ha with ea|oa
  ·rcases mL b hb with eb|ob
   ·rw[ea,eb]
   ·rw[ea,vU,wq ob] at e;exact absurd e.symm (nq b ob)
  ·rcases mL b hb with eb|ob
   ·rw[eb,vU,wq oa] at e;exact absurd e (nq a oa)
   ·rw[wq oa,wq ob] at e;exact h.inj a b oa ob e
end
def SB(H:Hp)(x:V)(p:Nat×Int):Prop:=∃r,x=.ref r/\H r=some (.tup [.int p.1,.int p.2])
theorem SB.grow{m:List Addr}{H H':Hp}{x:V}{p:Nat×Int}(h:SB H x p)(g:Grow m H H'):SB H' x p:=by
 obtain⟨r,e,h⟩:=h;exact⟨r,e,g.tup _ _ h⟩
theorem Tx{H:Hp}{zs:List V}{tl:List (Nat×Int)}(h:yJ (SB H) zs tl):qF H zs (nKv tl):=by
 refine⟨by unfold nKv;rw[aG];exact h.len,fun i p hp=>?_⟩;unfold nKv at hp;rw[bN] at hp;obtain⟨q,hq,rfl⟩:=fB.mp hp;obtain⟨x,hx,r,rfl,hr⟩:=h.getR hq;exact⟨r,hx,hr⟩
theorem Tz{tl:List (Nat×Int)}:uT (nKv tl)=nKv (uW tl):=uF (g:=tl) (f:=[])
noncomputable def itF(p:Nat×Int):List Int×List V:=([(p.1:Int)],[.int p.2])
noncomputable def itB(p:List Int×List V):Nat×Int:=((p.1.getD 0 0).toNat,match p.2 with|[.int v]=>v|_=>0)
theorem zal(p:Nat×Int):itB (itF p)=p:=rfl
theorem SC{K:FG7}{H:Hp}:∀{zs:List V} {tl:List (Nat×Int)},yJ (SB H) zs tl->yJ (X7 K H) zs (tl.map itF)
 |[],[],_=>trivial
 |_::_,p::_,⟨⟨r,e,h⟩,t⟩=>⟨⟨r,e,SqT.of h⟩,SC t⟩
 |[],_::_,h=>h.elim
 |_::_,[],h=>h.elim
theorem V0{K:FG7}{H:Hp}:∀{zs:List V} {its:List (List Int×List V)},(∀q∈its,∃p,q=itF p)->yJ (X7 K H) zs its->yJ (fun x (p:Nat×Int)=>xq K H x [(p.1:Int),p.2]) zs (its.map itB)
 |[],[],_,_=>trivial
 |_::_,q::its,hq,⟨⟨r,e,h⟩,t⟩=>by
  obtain⟨p,rfl⟩:=hq q (aU ..);exact⟨⟨r,e,h⟩,V0 (fun q' h'=>hq q' (aK _ h')) t⟩
 |[],_::_,_,h=>h.elim
 |_::_,[],_,h=>h.elim
theorem RK{its:List (List Int×List V)}{tl:List (Nat×Int)}(h:its.Perm (tl.map itF)):(its.map itB).Perm tl/\∀q∈its,∃p,q=itF p:=by
 refine⟨?_,fun q hq=>?_⟩
 ·have:=h.map itB;rw[bZ,show itB∘itF=id from funext zal,List.map_id] at this;exact this
 ·obtain⟨p,_,e⟩:=aW.mp (h.mem_iff.mp hq);exact⟨p,e.symm⟩
theorem zam{its:List (List Int×List V)}(hq:∀q∈its,∃p,q=itF p)(h:its.Pairwise fun x y=>ltL x.1 y.1=true):(its.map itB).Pairwise fun a b=>a.1<b.1:=by
 rw[eN];refine h.imp_of_mem fun{x y} hx hy mE=>?_;obtain⟨p,rfl⟩:=hq x hx;obtain⟨r,rfl⟩:=hq y hy;rw[zal,zal];have e:ltL [(p.1:Int)] [(r.1:Int)]=true:=mE;unfold ltL at e;split at e
 ·rename_i c;simp[ltL] at e
 ·have:=of_decide_eq_true e;omega
theorem Xj{ns:NS}{l:List Wt}:(l.flatMap (uV ns)).length=yt wH l:=by
 induction l with
 |nil=>rfl
 |cons w l ih =>
  show(uV ns w++l.flatMap (uV ns)).length=w.nums.length+yt wH l;rw[aI,ih];show(w.nums.map _).length+_=_;rw[aG]
theorem RL{tl:List (Nat×Int)}(h:(tl.map (·.1)).Nodup):((tl.map itF).map (·.1)).Nodup:=by
 rw[bZ];have e:((fun x:List Int×List V=>x.1)∘itF)=(fun n:Nat=>[(n:Int)])∘(fun p:Nat×Int=>p.1):=rfl;rw[e,←bZ];exact List.Nodup.map_on5 h
where
 List.Nodup.map_on5:∀{l:List Nat},l.Nodup->(l.map fun n:Nat=>[(n:Int)]).Nodup
 |[],_=>iO
 |n::l,h=>by
  obtain⟨h1,h2⟩:=cJ.mp h;refine cJ.mpr ⟨fun z=>?_,List.Nodup.map_on5 h2⟩;obtain⟨m,hm,e⟩:=aW.mp z;have:(m:Int)=n:=by injection e
  exact h1 (by rw[←Int.ofNat_inj.mp this];exact hm)
theorem rY:∀{g f:List (Nat×Int)},(g.foldl (fun f p=>wR f p.1 p.2) f).length<=f.length+g.length
 |[],_=>aE _
 |p::g,f=>by
  have h1:=rY (g:=g) (f:=wR f p.1 p.2);have h2:=Xg (f:=f) (n:=p.1) (v:=p.2);show(g.foldl _ (wR f p.1 p.2)).length<=f.length+(g.length+1)
  omega
theorem V1{tl:List (Nat×Int)}:(uW tl).length<=tl.length:=by
 have:=rY (g:=tl) (f:=[]);show(tl.foldl _ []).length<=_;simpa using this
theorem V2{it:TI}{g:TG}{tb r:TS}{D:Ends}{σ:L2.St}{H:Hp}(Good:L2.St->Hp->Prop)(hc:∀D':Ends,(∀σ' H',Good σ' H'->D'.nx σ' H')->Qt it g tb D' σ H)(hr:∀σ' H',Good σ' H'->r D σ' H'):UL (Qt it g tb) r D σ H:=hc _ hr
noncomputable abbrev dc2(kx vx t0 i0 t1 i1:Expr)(mI:List Expr)(scope:Scope)(pos:Pos):Expr:=.DictComp kx vx [⟨t0,i0,[],0⟩,⟨t1,i1,mI,0⟩] scope pos
section
variable{prog:Program}{w:World}{A:Around}{R:Result->Shared->Prop}{s:Shared}
variable{kx vx t0 i0 t1 i1:Expr}{mI:List Expr}{scope:Scope}{pos:Pos}{it mG:Value}{env:Env}{D:Addr}
theorem RM:compTurn (dc2 kx vx t0 i0 t1 i1 mI scope pos) 0 it mG env=(do
      standAt i0.pos
      match←pyNext it with
      |none=>pure (.done .next)
      |some u =>
        fo t0 it u
        i5 t0 env u
        let mut ko:=true
        for d in ([]:List Expr) do
          if ko then ko←lR d env (eval d env)
        if ko then
          let y←eval i1 env
          standAt i1.pos
          let y←dZ i1 env y
          let _←runOwn (.compStart (dc2 kx vx t0 i0 t1 i1 mI scope pos) 1 (←holding [y] (pyIter y)) mG env) env
        again (.compLoop (dc2 kx vx t0 i0 t1 i1 mI scope pos) 0 it mG env)):=by rfl
theorem RN:compTurn (dc2 kx vx t0 i0 t1 i1 mI scope pos) 1 it (.ref D) env=(do
      standAt i1.pos
      match←pyNext it with
      |none=>pure (.done .next)
      |some u =>
        fo t1 it u
        i5 t1 env u
        let mut ko:=true
        for d in mI do
          if ko then ko←lR d env (eval d env)
        if ko then
          (do
            let kv←eval kx env
            let vv←holding [kv] (eval vx env)
            standAt { kx.pos with endLine:=vx.pos.endLine,endCol:=vx.pos.endCol }
            holding [kv,vv] (dictSet D kv vv))
        again (.compLoop (dc2 kx vx t0 i0 t1 i1 mI scope pos) 1 it (.ref D) env)):=by rfl
theorem RO(I:Nat->Shared->Prop)
  (m4:∀n s,I n s->wpAny (model prog w) A (pyNext it) (fun r s₁=>match r with
   |none=>R (.ok .next) s₁
   |some v=>wpAny (model prog w) A (fo t1 it v) (fun _ s₂=>wpAny (model prog w) A (i5 t1 env v) (fun _ s₃ =>
     wpAny (model prog w) A (forIn mI true fun c r=>if r=true then do let ok←lR c env (eval c env);pure (ForInStep.yield ok) else pure (ForInStep.yield r)) (fun ok s₄ =>
      if ok=true then wpAny (model prog w) A (eval kx env) (fun kv s₅=>wpAny (model prog w) A (eval vx env) (fun vv s₆ =>
       wpAny (model prog w) A (dictSet D kv vv) (fun _ s₇=>∃m,m<n/\I m s₇) noX s₆) noX s₅) noX s₄
      else ∃m,m<n/\I m s₄) noX s₃) noX s₂) noX s₁) noX s)
  (n:Nat) (h:I n s):codeAny (model prog w) A (.compLoop (dc2 kx vx t0 i0 t1 i1 mI scope pos) 1 it (.ref D) env) R s:=by
 refine codeAny_loop rfl I (fun n s hI=>?_) n h;show wpAny _ A ((compTurn (dc2 kx vx t0 i0 t1 i1 mI scope pos) 1 it (.ref D) env).onRaise (fun x=>do noteFrame x env;theTreesLotGoes x)) _ _ s;refine wpAny_noted ?_;rw[RN];have no:∀(E:VS7) (e:Value) (s:Shared),noX e s->E e s:=fun _ _ _ f=>f.elim;refine aA (eF (aA (cB (m4 n s hI) (fun r s₁ h₁=>?_) (no _))));cases r with
 |none=>exact aF h₁
 |some v =>
  refine aA (cB h₁ (fun _ s₂ h₂=>?_) (no _));refine aA (cB h₂ (fun _ s₃ h₃=>aA (cB h₃ (fun ok s₄ h₄=>?_) (no _))) (no _));cases ok with
  |false=>exact aF ⟨rfl,h₄⟩
  |true =>
   exact aA (aA (cB h₄ (fun kv s₅ h₅=>aA (bT (cB h₅ (fun vv s₆ h₆=>aA (eF (bT (cB h₆ (fun _ s₇ h₇=>aF ⟨rfl,h₇⟩) (no _))))) (no _)))) (no _)))
theorem RP(I:Nat->Shared->Prop)(hs:∀x,dZ i1 env x=pure x)
  (m4:∀n s,I n s->wpAny (model prog w) A (pyNext it) (fun r s₁=>match r with
   |none=>R (.ok .next) s₁
   |some v=>wpAny (model prog w) A (fo t0 it v) (fun _ s₂=>wpAny (model prog w) A (i5 t0 env v) (fun _ s₃ =>
     wpAny (model prog w) A (eval i1 env) (fun y s₄=>wpAny (model prog w) A (pyIter y) (fun j s₅ =>
      codeAny (model prog w) A (.compStart (dc2 kx vx t0 i0 t1 i1 mI scope pos) 1 j mG env) (fun r s'=>match r with|.ok _=>∃m,m<n/\I m s'|.error _=>False) s₅) noX s₄) noX s₃) noX s₂) noX s₁) noX s)
  (n:Nat) (h:I n s):codeAny (model prog w) A (.compLoop (dc2 kx vx t0 i0 t1 i1 mI scope pos) 0 it mG env) R s:=by
 refine codeAny_loop rfl I (fun n s hI=>?_) n h;show wpAny _ A ((compTurn (dc2 kx vx t0 i0 t1 i1 mI scope pos) 0 it mG env).onRaise (fun x=>do noteFrame x env;theTreesLotGoes x)) _ _ s;refine wpAny_noted ?_;rw[RM];have no:∀(E:VS7) (e:Value) (s:Shared),noX e s->E e s:=fun _ _ _ f=>f.elim;refine aA (eF (aA (cB (m4 n s hI) (fun r s₁ h₁=>?_) (no _))));cases r with
 |none=>exact aF h₁
 |some v =>
  refine aA (cB h₁ (fun _ s₂ h₂=>?_) (no _));refine aA (cB h₂ (fun _ s₃ h₃=>aA (aF ?_)) (no _));simp only[if_true]
  refine aA (cB h₃ (fun y s₄ h₄=>aA (eF (aA (kM (hs y) (aA (bT (cB h₄ (fun j s₅ h₅=>?_) (no _)))))))) (no _));refine aA (wpAny_runOwn (gc h₅ fun r s' hr=>?_));cases r with
  |ok f=>first
    |exact aF ⟨rfl,hr⟩
    |exact aF (aF ⟨rfl,hr⟩)
  |error e=>exact hr.elim
theorem TB(h0:codeAny (model prog w) A (.compLoop (dc2 kx vx t0 i0 t1 i1 mI scope pos) 1 it mG env) R s)
  (h:wpAny (model prog w) A (pyIter it) (fun it' s'=>codeAny (model prog w) A (.compLoop (dc2 kx vx t0 i0 t1 i1 mI scope pos) 1 it' mG env) R s') noX s) :
  codeAny (model prog w) A (.compStart (dc2 kx vx t0 i0 t1 i1 mI scope pos) 1 it mG env) R s:=by
 refine lQ ?_;show wpAny _ _ ((compStart (dc2 kx vx t0 i0 t1 i1 mI scope pos) 1 it mG env).onRaise (fun x=>do noteFrame x env;standAt theWindowsPlace)) _ _ s;refine wpAny_notedAt ?_;unfold compStart;show wpAny _ _ (ask >>= _) _ _ s;have no:∀(E:VS7) (e:Value) (s:Shared),noX e s->E e s:=fun _ _ _ f=>f.elim;refine aA (fF (wpAny_ite ?_));split
 ·first
   |exact aA (aF (aF ⟨rfl,h0⟩))
   |exact aF ⟨rfl,h0⟩
 ·first
   |exact aA (fO (aA (eF (aA (cB h (fun jt s' q=>aF ⟨rfl,q⟩) (no _))))))
   | (refine aA (fO ?_);show wpAny _ _ (standAt i1.pos >>= _) _ _ s;exact aA (eF (aA (cB h (fun jt s' q=>aF ⟨rfl,q⟩) (no _)))))
end
noncomputable def zaL(J:It)(F8:List (List Key×V))(Hb0:Hp)(σ0:L2.St)(H1:Hp)(g:TG)(tt:TT)(tk tv:TE)(Out:List (List Key×V)->Hp->L2.St->Hp->Prop):Prop :=
 ∃W:Nat->Nat->List (List Key×V)->Hp->L2.St->Hp->Prop,(∃m,W 0 m F8 Hb0 σ0 H1)/\∀i m kvs Hb σ' H',W i m kvs Hb σ' H'→
  (J.stop i H'/\Out kvs Hb σ' H')∨
  (J.go i H'/\∃Nn:List (List Key×V)->Hp->L2.St->Hp->Prop,(∀zs Hc σ2 H2,Nn zs Hc σ2 H2->∃m',m'<m/\W (i+1) m' zs Hc σ2 H2)∧
   ∀x H2,J.yld i H' x H2->g x σ' H2 fun σ2 H3=>tt σ2 H3 fun b H4=>if b=true then tk σ2 H4 fun y H5=>tv σ2 H5 fun v H6=>kvs.length<sizeLine/\∃b ks,y=.ref b/\H6 b=some (.tup (ks.map kV))/\(∀c xs,Hb c=some (.tup xs)->H6 c=some (.tup xs))/\Nn (xt kvs ks v) H6 σ2 H6 else Nn kvs Hb σ2 H4)
noncomputable def V3(J:It)(σ0:L2.St)(H1:Hp)(g0:TG)(o7:TI)(g1:TG)(tt:TT)(tk tv:TE)(Q:VK):Prop :=
 ∃W:Nat->Nat->List (List Key×V)->Hp->L2.St->Hp->Prop,(∃m,W 0 m [] H1 σ0 H1)/\∀i m kvs Hb σ' H',W i m kvs Hb σ' H'→
  (J.stop i H'/\(∀b xs,Hb b=some (.tup xs)->H' b=some (.tup xs))/\∀l,H' l=none->Q (.ref l) (upd H' l (.dT kvs)))∨
  (J.go i H'/\∃Nn:List (List Key×V)->Hp->L2.St->Hp->Prop,(∀zs Hc σ2 H2,Nn zs Hc σ2 H2->∃m',m'<m/\W (i+1) m' zs Hc σ2 H2)∧
   ∀x H2,J.yld i H' x H2->g0 x σ' H2 fun σ2 H3=>o7 σ2 H3 fun J2 H4=>zaL J2 kvs Hb σ2 H4 g1 tt tk tv Nn)
def Jg(wi:TI)(sub:List (Option Nat))(g0:TG)(o7:TI)(g1:TG)(tt:TT)(tk tv:TE):TE:=fun σ H Q=>wi σ H fun J H1=>V3 J (UH sub σ) H1 g0 o7 g1 tt tk tv Q
section
variable{Y:Cx}{mw:List (Addr×Obj)}{D B3:Addr}{pU:List Addr}{EY:Nat->Heap->Prop}{J2:It}{y:Str}{py pos:Pos}{kx vx t0 i0 i1:Expr}{mI:List Expr}{scope:Scope}{g1:TG}{tt:TT}{tk tv:TE}{Out:List (List Key×V)->Hp->L2.St->Hp->Prop}{W:Nat->Nat->List (List Key×V)->Hp->L2.St->Hp->Prop}{R:Result->Shared->Prop}
theorem Jh(hu:Y.A.units+1<cLine)(EZ:Y.xe=noX)(mC:Y.calm=true)(T:Turn Y.prog Y.w Y.K (.Name y py) J2 pU B3 EY)(hD:∀H':Hp,H' D=none->vz Y mw H' D)(f2:∀b∈pU,∀H':Hp,H' b=none->vz Y mw H' b)(DE:D∉pU)
  (hg:PG Y (.Name y py) g1) (ht:UG Y mI tt) (hk:PE Y kx tk) (he:PE Y vx tv)
  (m4:∀i m kvs Hb σ' H',W i m kvs Hb σ' H'->(J2.stop i H'/\Out kvs Hb σ' H')∨
   (J2.go i H'/\∃Nn:List (List Key×V)->Hp->L2.St->Hp->Prop,(∀zs Hc σ2 H2,Nn zs Hc σ2 H2->∃m',m'<m/\W (i+1) m' zs Hc σ2 H2)∧
    ∀x H2,J2.yld i H' x H2->g1 x σ' H2 fun σ2 H3=>tt σ2 H3 fun b H4=>if b=true then tk σ2 H4 fun y H5=>tv σ2 H5 fun v H6=>kvs.length<sizeLine/\∃b ks,y=.ref b/\H6 b=some (.tup (ks.map kV))/\(∀c xs,Hb c=some (.tup xs)->H6 c=some (.tup xs))/\Nn (xt kvs ks v) H6 σ2 H6 else Nn kvs Hb σ2 H4))
  (hR:∀(kvs:List (List Key×V)) (Hb:Hp) (o:Obj) (σ':L2.St) (H':Hp) (s':Shared),Inv Y mw σ' H' s'->H' D=none->Y9 Y.prog Y.w Hb s'.heap D o kvs->Out kvs Hb σ' H'->R (.ok .next) s')
  (n:Nat) (s:Shared) (h:∃i kvs Hb o σ' H',Inv Y mw σ' H' s/\EY i s.heap/\(∀b∈pU,H' b=none)/\H' D=none/\Y9 Y.prog Y.w Hb s.heap D o kvs/\W i n kvs Hb σ' H') :
  codeAny (model Y.prog Y.w) Y.A (.compLoop (dc2 kx vx t0 i0 (.Name y py) i1 mI scope pos) 1 (.ref B3) (.ref D) Y.env) R s:=by
 refine RO (fun n s=>∃i kvs Hb o σ' H',Inv Y mw σ' H' s/\EY i s.heap/\(∀b∈pU,H' b=none)/\H' D=none/\Y9 Y.prog Y.w Hb s.heap D o kvs/\W i n kvs Hb σ' H') ?_ n h;rintro n s ⟨i,kvs,Hb,o,σ',H',I',nz,fr,hn,rv,w'⟩;have hy:s.heap.get? D=some o:=let ⟨_,_,_,_,_,_,e,_⟩:=rv;e
 obtain⟨_,dL,dF,dE,dC,dP⟩:=hD H' hn;have pD:Inv Y (mw++[(D,o)]) σ' H' s:=I'.pins_of fun p hp=>by
  rcases aP.mp hp with hp|hp
  ·exact I'.pin p (aM _ hp)
  ·rw[aB.mp hp];exact⟨hy,hn,dL,dF,rv.nocell⟩
 have nK:∀{H'':Hp},(∀b∈pU,H'' b=none)->∀b∈pU,vz Y (mw++[(D,o)]) H'' b:=fun hz b hb=>by
  obtain⟨q0,q1,q2,q3,q4,q5⟩:=f2 b hb _ (hz b hb);refine⟨q0,q1,q2,q3,q4,fun p hp=>?_⟩;rcases aP.mp hp with hp|hp
  ·exact q5 p (bR _ hp)
  ·rcases aP.mp hp with hp|hp
   ·exact q5 p (aM _ hp)
   ·rw[aB.mp hp];exact fun z=>DE (by rw[show D=b from z];exact hb)
 rcases m4 i n kvs Hb σ' H' w' with ⟨stop,q⟩|⟨go,Nn,hN,step⟩
 ·refine thn (T.done Y rfl rfl rfl mC i _ s σ' H' noX pD (nK fr) nz stop) fun r s1 ⟨hr,I1⟩=>?_;subst hr;exact hR kvs Hb o σ' H' s1 I1.unpinned hn (rv.at (I1.pin (D,o) (by simp)).1) q
 ·refine thn (T.item Y rfl rfl rfl mC i _ s σ' H' noX pD (nK fr) nz go) fun r s1 ⟨u,hr,h4⟩=>?_;subst hr;refine thn h4 fun _ s2 ⟨x5,H5,I5,r5,y5,st5,fr5⟩=>?_;have I5':=I5.pinned (nK fr5) (T.obj _ _ st5);have E1:=hg _ s2 σ' H5 x5 u _ I5' r5 (step x5 H5 y5);rw[EZ] at E1;refine thn E1 fun _ s3 ⟨σ6,H6,I6,q6⟩=>?_;have ht6:=ht _ s3 σ6 H6 _ I6 q6;rw[EZ] at ht6;refine thn ht6 fun ok s4 ⟨H7,I7,q7⟩=>?_;have stay:∀{σ7:L2.St} {H7:Hp} {s7:Shared},Inv Y (mw++[(D,o)]++vE pU s2.heap) σ7 H7 s7→
    (∀b∈pU,∀o,s2.heap.get? b=some o->s7.heap.get? b=some o)/\(∀b∈pU,H7 b=none)/\H7 D=none/\s7.heap.get? D=some o:=fun{σ7 H7 s7} I7=>by
   have d:=I7.pin (D,o) (by simp);refine⟨fun b hb o e=>(I7.pin (b,o) (aM _ (aM _ (yM hb e)))).1,fun b hb=>?_,d.2.1,d.1⟩;obtain⟨o,e,_⟩:=T.obj _ _ st5 b hb;exact(I7.pin (b,o) (aM _ (aM _ (yM hb e)))).2.1
  cases ok with
  |false =>
   rw[if_neg (by decide)] at q7 ⊢;obtain⟨k1,k2,k3,k4⟩:=stay I7;obtain⟨m',hm,w7⟩:=hN kvs Hb σ6 H7 q7;exact⟨m',hm,i+1,kvs,Hb,o,σ6,H7,I7.unpinned.unpinned,T.keep _ _ _ st5 k1,k2,k3,rv.at k4,w7⟩
  |true =>
   rw[if_pos rfl] at q7 ⊢;have hk7:=hk _ s4 σ6 H7 _ I7 q7;rw[EZ] at hk7;refine thn hk7 fun kv s5 ⟨y,H8,I8,ry,q8⟩=>?_;have he8:=he _ s5 σ6 H8 _ I8 q8;rw[EZ] at he8;refine thn he8 fun vv s6 ⟨v,H9,I9,r9,hl9,b,ks,ey,eb,tp,n9⟩=>?_;subst ey;cases(show kv=bK b from ry);obtain⟨k1,k2,k3,k4⟩:=stay I9;obtain⟨z,hd,xs,nc,es,ep,h1,h2,h3,DG,h5⟩:=rv.at k4;have dd:s6.heap.DictOfH (gF (zO Y.prog Y.w)) D xs:=by
    refine⟨o,es,ep,h1,h2,h3,DG,fun x hx=>?_,h5⟩;have all:∀{l:List (List Key×V)} {m:List (List Key×Addr×Value)},KT Hb l m->∀x∈m,(gF (zO Y.prog Y.w)).is s6.heap x.1 x.2.1:=by
     intro l m q;induction q with
     |nil=>intro x hx;exact nomatch hx
     |@cons p q ps qs hq t ih =>
      intro x hx;rcases aS.mp hx with e|hx
      ·subst e;exact uO I9.hok (by rw[←hq.1];exact tp _ _ hq.2.1)
      ·exact ih x hx
    exact all nc x hx
   have xl:xs.length<=sizeLine:=by rw[←Paired.length nc];exact z
   refine wpAny_dictSet_heap (hsz:=xl) (show(gF (zO Y.prog Y.w)).room Y.A from Nat.lt_of_succ_lt hu) (uO I9.hok eb) dd fun h' Bg sb=>?_;obtain⟨o',C0,C',hq1,hq2,hq3,hq4,_,hq5⟩:=Bg;obtain⟨m',hm,w9⟩:=hN _ _ σ6 H9 n9;have pl:=xF kvs ks v;refine⟨m',hm,i+1,xt kvs ks v,H9,o',σ6,H9,?_,T.keep _ _ _ (T.keep _ _ _ st5 k1) fun b hb o e=>sb.extBut b o (fun z=>DE (by rw[←z];exact hb)) e,k2,k3,⟨by omega,hd,_,(KT.keeps nc tp).put ks eb r9,C0,C',hq1,hq2,hq3,hq4,hq5⟩,w9⟩;exact(I9.unpinned.unpinned).turned (it:=D) (t':=_) (h':=h') (fun b o hb e=>sb.extBut b o hb e) k3 dL dE dC dP
end
section
variable{X:Cx}{mw:List (Addr×Obj)}{σ:L2.St}{H2:Hp}{s₂:Shared}{it:Addr}{fp:List Addr}{tn:Nat->Heap->Prop}{J:It}{scope:Scope}{cl:List (Str×Addr)}{N':List Str}{sub:List (Option Nat)}
theorem zbr{C D:Addr}{s₀:Shared}{x y:Str}{px py pos:Pos}{kx vx i0 i1:Expr}{mI:List Expr}{g0 g1:TG}{o7:TI}{tt:TT}{tk tv:TE}{Q:VK}{RR:Value->Addr->Result->Shared->Prop}{W:Nat->Nat->List (List Key×V)->Hp->L2.St->Hp->Prop}
  (hu:X.A.units+1<cLine) (I:Inv X mw σ H2 s₂) (mC:X.calm=true) (T:Turn X.prog X.w X.K (.Name x px) J fp it tn) (f2:∀b∈fp,vz X mw H2 b) (ph:∀b∈fp,b<s₂.heap.objs.size)
  (mY:∀b o,s₂.heap.get? b=some o->s₀.heap.get? b=some o) (pf:s₀.os=s₂.os) (hD:s₂.heap.objs.size<=D) (hC:s₂.heap.objs.size<=C) (Au:D≠C)
  (mM:∀x c,cl.lookup x=some c->X.env.cells.lookup x=some c)
  (BG:PG (cxC X N' scope cl C D fp s₀ H2) (.Name x px) g0) (AB:PI (cxC X N' scope cl C D fp s₀ H2) (.Name y py) i1 o7) (BH:PG (cxC X N' scope cl C D fp s₀ H2) (.Name y py) g1) (ht:UG (cxC X N' scope cl C D fp s₀ H2) mI tt) (hk:PE (cxC X N' scope cl C D fp s₀ H2) kx tk) (he:PE (cxC X N' scope cl C D fp s₀ H2) vx tv)
  (DH:∀v,dZ i1 (compEnvC scope cl C X.env) v=pure v)
  (m4:∀i m kvs Hb σ' H',W i m kvs Hb σ' H'→
   (J.stop i H'/\(∀b xs,Hb b=some (.tup xs)->H' b=some (.tup xs))/\∀l,H' l=none->Q (.ref l) (upd H' l (.dT kvs)))∨
   (J.go i H'/\∃Nn:List (List Key×V)->Hp->L2.St->Hp->Prop,(∀zs Hc σ2 H2,Nn zs Hc σ2 H2->∃m',m'<m/\W (i+1) m' zs Hc σ2 H2)∧
    ∀x H2,J.yld i H' x H2->g0 x σ' H2 fun σ2 H3=>o7 σ2 H3 fun J2 H4=>zaL J2 kvs Hb σ2 H4 g1 tt tk tv Nn))
  (BY:∀(D C:Addr) (oC:Obj) (m:Str->Option Value) (s':Shared) (Hf:Hp),Inv X (mw++[(C,oC)]) σ Hf s'->s'.heap.Ns C m->vz X mw Hf C->Q (.ref D) Hf->RR (.ref D) C (.ok .next) s')
  (n:Nat) (s:Shared) (h:∃i kvs Hb o σ' H',Inv (cxC X N' scope cl C D fp s₀ H2) mw σ' H' s/\tn i s.heap/\(∀b∈fp,H' b=none)/\H' D=none∧
   Y9 X.prog X.w Hb s.heap D o kvs/\W i n kvs Hb σ' H') :
  codeAny (model X.prog X.w) X.A (.compLoop (dc2 kx vx (.Name x px) i0 (.Name y py) i1 mI scope pos) 0 (.ref it) (.ref D) (compEnvC scope cl C X.env)) (RR (.ref D) C) s:=by
 have pS:∀b∈frs X.stack,b<s₂.heap.objs.size:=fun b hb=>by
  rcases aS.mp (I.stkSub b hb) with z|z
  ·rw[z];exact I.lt
  ·exact kZ fun q=>I.nofs q z
 have cells:∀x c,cl.lookup x=some c->c<s₂.heap.objs.size:=fun x c e=>let ⟨v,q⟩:=I.cell x c (mM x c e);q.lt
 have pN:∀p∈X.pn++mw,p.1<s₂.heap.objs.size:=fun p hp=>aQ (I.pin p hp).1;refine RP (fun n s=>∃i kvs Hb o σ' H',Inv (cxC X N' scope cl C D fp s₀ H2) mw σ' H' s/\tn i s.heap/\(∀b∈fp,H' b=none)/\H' D=none∧
   Y9 X.prog X.w Hb s.heap D o kvs/\W i n kvs Hb σ' H') DH ?_ n h
 rintro n s ⟨i,kvs,Hb,o,σ',H',I',nz,fr,hn,rv,w'⟩;have hy:s.heap.get? D=some o:=let ⟨_,_,_,_,_,_,e,_⟩:=rv;e
 have pD:Inv (cxC X N' scope cl C D fp s₀ H2) (mw++[(D,o)]) σ' H' s:=I'.pins_of fun p hp=>by
  rcases aP.mp hp with hp|hp
  ·exact I'.pin p (aM _ hp)
  ·rw[aB.mp hp];exact⟨hy,hn,Au,fun z=>absurd (aN (pS _ z) hD) (cV _),rv.nocell⟩
 have nK:∀{H'':Hp},(∀b∈fp,H'' b=none)->∀b∈fp,vz (cxC X N' scope cl C D fp s₀ H2) (mw++[(D,o)]) H'' b:=fun hz b hb=>by
  refine⟨hz b hb,aT (aN (ph b hb) hC),fun z=>?_,.inl (aK _ hb),fun x c e=>(f2 b hb).2.2.2.2.1 x c (mM x c e),fun p hp=>?_⟩
  ·rcases aS.mp (I.stkSub b z) with z|z
   ·exact(f2 b hb).2.1 z
   ·exact(f2 b hb).2.2.1 z
  ·rcases aP.mp hp with hp|hp
   ·exact(f2 b hb).2.2.2.2.2 p (bR _ hp)
   ·rcases aP.mp hp with hp|hp
    ·exact(f2 b hb).2.2.2.2.2 p (aM _ hp)
    ·rw[aB.mp hp];exact eZ (aN (ph b hb) hD)
 rcases m4 i n kvs Hb σ' H' w' with ⟨stop,E2,q⟩|⟨go,Nn,hN,step⟩
 ·refine thn (T.done (cxC X N' scope cl C D fp s₀ H2) rfl rfl rfl mC i _ s σ' H' noX pD (nK fr) nz stop) fun r s1 ⟨hr,I1⟩=>?_;subst hr;have FP:=(I1.pin (D,o) (by simp)).1;obtain⟨m,hm,_⟩:=I1.loc;obtain⟨oC,es,ep,FQ,FR,_⟩:=id hm;obtain⟨IX,nv⟩:=VD I mY pf hD hC Au f2 I1.unpinned hn E2 (rv.at FP) FQ (by intro v z;rw[FR] at z;cases z);exact BY D C oC m s1 _ IX hm nv (q D hn)
 ·refine thn (T.item (cxC X N' scope cl C D fp s₀ H2) rfl rfl rfl mC i _ s σ' H' noX pD (nK fr) nz go) fun r s1 ⟨u,hr,h4⟩=>?_;subst hr;refine thn h4 fun _ s2 ⟨x5,H5,I5,r5,y5,st5,fr5⟩=>?_;have I5':=I5.pinned (nK fr5) (T.obj _ _ st5);refine thn (BG _ s2 σ' H5 x5 u _ I5' r5 (step x5 H5 y5)) fun _ s3 ⟨σ6,H6,I6,q6⟩=>?_;refine thn (AB _ s3 σ6 H6 _ I6 q6) fun v s4 DG=>?_;refine thn DG fun CI s5 ⟨B3,pU,EY,J2,H7,e2,I7,T2,st7,f7,W2,⟨m2,w2⟩,turn2⟩=>?_;subst e2;have DI:=I7.pin (D,o) (by simp);have I8:Inv (cxC X N' scope cl C D fp s₀ H2) (mw++vE fp s2.heap) σ6 H7 s5:=I7.pins_of fun p hp=>I7.pin p (by
   rcases aP.mp hp with hp|hp
   ·exact aM _ (bR _ (bR _ hp))
   ·exact aM _ (aM _ hp))
  have DJ:D∉pU:=fun z=>(f7 D z).2.2.2.2.2 (D,o) (by simp) rfl;have F9:∀H':Hp,H' D=none->vz (cxC X N' scope cl C D fp s₀ H2) (mw++vE fp s2.heap) H' D:=fun H' nD=>by
   refine⟨nD,Au,fun z=>absurd (aN (pS _ z) hD) (cV _),.inl (by simp),fun x c e=>aT (aN (cells x c e) hD),fun p hp=>?_⟩;rcases aP.mp hp with hp|hp
   ·exact aT (aN (pN p (bR _ hp)) hD)
   ·rcases aP.mp hp with hp|hp
    ·exact aT (aN (pN p (aM _ hp)) hD)
    ·obtain⟨b,hb,e⟩:=List.mem_filterMap.mp hp;have:p.1=b:=by
      cases q:s2.heap.get? b with
      |none=>rw[q] at e;cases e
      |some o=>rw[q] at e;cases e;rfl
     rw[this];exact aT (aN (ph b hb) hD)
  have f8:∀b∈pU,∀H':Hp,H' b=none->vz (cxC X N' scope cl C D fp s₀ H2) (mw++vE fp s2.heap) H' b:=fun b hb H' nD=>by
   obtain⟨_,q1,q2,q3,q4,q5⟩:=f7 b hb;refine⟨nD,q1,q2,q3,q4,fun p hp=>q5 p ?_⟩;rcases aP.mp hp with hp|hp
   ·exact bR _ hp
   ·rcases aP.mp hp with hp|hp
    ·exact aM _ (bR _ (bR _ hp))
    ·exact aM _ (aM _ hp)
  have loop:codeAny (model X.prog X.w) X.A (.compLoop (dc2 kx vx (.Name x px) i0 (.Name y py) i1 mI scope pos) 1 (.ref B3) (.ref D) (compEnvC scope cl C X.env)) (fun r s'=>match r with
    |.ok _=>∃m,m<n/\∃i kvs Hb o σ' H',Inv (cxC X N' scope cl C D fp s₀ H2) mw σ' H' s'/\tn i s'.heap/\(∀b∈fp,H' b=none)/\H' D=none∧
      Y9 X.prog X.w Hb s'.heap D o kvs/\W i m kvs Hb σ' H'
    |.error _=>False) s5:=by
   refine Jh (Y:=cxC X N' scope cl C D fp s₀ H2) hu rfl mC T2 F9 f8 DJ BH ht hk he turn2 ?_ m2 s5 ⟨0,kvs,Hb,o,σ6,H7,I8,st7,fun b hb=>(f7 b hb).1,DI.2.1,rv.at DI.1,w2⟩;intro DK Hb9 o9 σ9 H9 s9 I9 Ga rv9 q9;obtain⟨m',hm,w9⟩:=hN DK Hb9 σ9 H9 q9;refine⟨m',hm,i+1,DK,Hb9,o9,σ9,H9,I9.unpinned,T.keep _ _ _ st5 fun b hb o e=>(I9.pin (b,o) (aM _ (aM _ (yM hb e)))).1,fun b hb=>?_,Ga,rv9,w9⟩;obtain⟨o,e,_⟩:=T.obj _ _ st5 b hb;exact(I9.pin (b,o) (aM _ (aM _ (yM hb e)))).2.1
  exact TB loop (T2.self _ _ _ _ _ st7 loop)
theorem Ym{x y:Str}{px py pos:Pos}{kx vx i0 i1:Expr}{mI:List Expr}{g0 g1:TG}{o7:TI}{tt:TT}{tk tv:TE}{E:VS7}{Q:VK}{RR:Value->Addr->Result->Shared->Prop}
  (hu:X.A.units+1<cLine) (I:Inv X mw σ H2 s₂) (mC:X.calm=true) (T:Turn X.prog X.w X.K (.Name x px) J fp it tn) (st:tn 0 s₂.heap) (f2:∀b∈fp,vz X mw H2 b)
  (S:CSc X scope N' sub) (mM:∀x c,cl.lookup x=some c->X.env.cells.lookup x=some c) (nB:∀y∈scope.names,y.2=.free->∃c,cl.lookup y.1=some c)
  (BG:∀C D fp s H,PG (cxC X N' scope cl C D fp s H) (.Name x px) g0) (AB:∀C D fp s H,PI (cxC X N' scope cl C D fp s H) (.Name y py) i1 o7) (BH:∀C D fp s H,PG (cxC X N' scope cl C D fp s H) (.Name y py) g1) (ht:∀C D fp s H,UG (cxC X N' scope cl C D fp s H) mI tt) (hk:∀C D fp s H,PE (cxC X N' scope cl C D fp s H) kx tk) (he:∀C D fp s H,PE (cxC X N' scope cl C D fp s H) vx tv)
  (DH:∀C v,dZ i1 (compEnvC scope cl C X.env) v=pure v)
  (hW:V3 J (UH sub σ) H2 g0 o7 g1 tt tk tv Q)
  (BY:∀(D C:Addr) (oC:Obj) (m:Str->Option Value) (s':Shared) (Hf:Hp),Inv X (mw++[(C,oC)]) σ Hf s'->s'.heap.Ns C m->vz X mw Hf C->Q (.ref D) Hf->RR (.ref D) C (.ok .next) s') :
  wpAny (model X.prog X.w) X.A newDict (fun mG s₃=>wpAny (model X.prog X.w) X.A (newFunctionEnv scope X.env.globals cl [] X.env.qual none .none (some X.env)) (fun Aw s₄ =>
   codeAny (model X.prog X.w) X.A (.compStart (dc2 kx vx (.Name x px) i0 (.Name y py) i1 mI scope pos) 0 (.ref it) mG { Aw with scope:=relabel scope X.env }) (RR mG Aw.locals) s₄) E s₃) E s₂:=by
 obtain⟨W,⟨m0,w0⟩,m4⟩:=hW;refine bS (wpAny_newFunctionEnv S.nocell (by intro y hy;simp at hy) (fun h₁ ng nh=>?_) S.kind);dsimp only at ng nh ⊢;have hC:(s₂.heap.push { cls:=.type "dict",dict:=none,data:=.dict #[] }).objs.size=s₂.heap.objs.size+1:=dQ ..;rw[hC] at ng nh ⊢;have B0:∀b o,(s₂.heap.push { cls:=.type "dict",dict:=none,data:=.dict #[] }).get? b=some o->h₁.get? b=some o:=fun b o e =>
  nh.extBut b o (by have:=aQ e;rw[hC] at this;exact aT this) (aD _ e)
 have ph:∀b∈fp,b<s₂.heap.objs.size:=fun b hb=>by
  obtain⟨o,e,_⟩:=T.obj _ _ st b hb;exact aQ e
 have I0:=rH (tk:=s₂.toks+([]:List (Str×Value)).length) I S mM nB f2 ph ng B0;have FS:h₁.get? s₂.heap.objs.size=some { cls:=.type "dict",data:=.dict #[] }:=B0 _ _ (aL _ rfl);obtain⟨_,hd0,xs0,Gb,o0,es0,ep0,q1,q2,q3,q4,q5⟩:=(Tk (P:=X.prog) (w:=X.w) (H:=H2) s₂.heap I.big)
 rw[aL _ rfl] at q1;cases q1;have loop:codeAny (model X.prog X.w) X.A (.compLoop (dc2 kx vx (.Name x px) i0 (.Name y py) i1 mI scope pos) 0 (.ref it) (.ref s₂.heap.objs.size) (compEnvC scope cl (s₂.heap.objs.size+1) X.env)) (RR (.ref s₂.heap.objs.size) (s₂.heap.objs.size+1)) { s₂ with heap:=h₁,toks:=s₂.toks+([]:List (Str×Value)).length } :=
  zbr (s₀:={ s₂ with heap:=s₂.heap.push { cls:=.type "dict",dict:=none,data:=.dict #[] } }) (C:=s₂.heap.objs.size+1) (D:=s₂.heap.objs.size) hu I mC T f2 ph (fun b o e=>aD _ e) rfl (aE _) (eB _) (aT (cS _)) mM (BG _ _ _ _ _) (AB _ _ _ _ _) (BH _ _ _ _ _) (ht _ _ _ _ _) (hk _ _ _ _ _) (he _ _ _ _ _) (DH _) m4 BY m0 _
   ⟨0,[],H2,_,UH sub σ,H2,I0,T.keep _ _ _ st fun b hb o e=>B0 b o (aD _ e),fun b hb=>(f2 b hb).1,I.hok.fresh (aE _),⟨aX _,hd0,[],.nil,es0,ep0,FS,q2,q3,by cases Gb;exact q4,iO⟩,w0⟩
 exact codeAny_compStart_dict loop (T.self _ _ _ _ _ (T.keep _ _ _ st fun b hb o e=>B0 b o (aD _ e)) loop)
end
section
variable{X:Cx}{scope:Scope}{N':List Str}{sub:List (Option Nat)}{x y:Str}{px py pos:Pos}{kx vx i0 i1:Expr}{mI:List Expr}{wi o7:TI}{g0 g1:TG}{tt:TT}{tk tv:TE}
theorem Xk(hu:X.A.units+1<cLine)(S:CSc X scope N' sub)(mC:X.calm=true)(hi:PI X (.Name x px) i0 wi)
  (BG:∀cl C D fp s H,PG (cxC X N' scope cl C D fp s H) (.Name x px) g0) (AB:∀cl C D fp s H,PI (cxC X N' scope cl C D fp s H) (.Name y py) i1 o7) (BH:∀cl C D fp s H,PG (cxC X N' scope cl C D fp s H) (.Name y py) g1) (ht:∀cl C D fp s H,UG (cxC X N' scope cl C D fp s H) mI tt) (hk:∀cl C D fp s H,PE (cxC X N' scope cl C D fp s H) kx tk) (he:∀cl C D fp s H,PE (cxC X N' scope cl C D fp s H) vx tv)
  (hs:∀x,dZ i0 X.env x=pure x:=by intro _;rfl) (DH:∀cl C v,dZ i1 (compEnvC scope cl C X.env) v=pure v:=by intro _ _ _;rfl):PE X (dc2 kx vx (.Name x px) i0 (.Name y py) i1 mI scope pos) (Jg wi sub g0 o7 g1 tt tk tv):=by
 intro mw s σ H Q I h;obtain⟨cl,oQ,mM,nB⟩:=S.clos I;rw[arm_eval_DictComp];refine im (use:=none) rfl hs oQ S.kind S.names (thn (hi mw s σ H _ I h) fun v s1 h1=>thn h1 fun CI s2 h2=>?_);obtain⟨it,fp,tn,J,H2,e,I2,T,BQ,f2,hW⟩:=h2;subst e;refine Ym (RR:=fun mG C=>compPost (model X.prog X.w) X.A X.xe none (EP X mw σ Q) mG C) hu I2 mC T BQ f2 S mM nB (BG cl) (AB cl) (BH cl) (ht cl) (hk cl) (he cl) (DH cl) hW ?_;intro D C oC m s' Hf IX hm nv q;refine⟨m,hm,fun h' sb=>⟨.ref D,Hf,?_,rfl,q⟩⟩;exact(IX.unpinned).turned (it:=C) (t':=s'.toks) (h':=h') (fun b o hb e=>sb.extBut b o hb e) nv.1 nv.2.1 nv.2.2.2.1 nv.2.2.2.2.1 nv.2.2.2.2.2
end
section
variable{v0 v1 v2 v3 v4 v5 v6 v7 v8 v9 E3 v11:V}
theorem V4:xL "depth" v0 ([]:List (Str×V))=([("depth",v0)]:List (Str×V)):=by
 simp only[xL]
theorem TC:xL "room" v1 ([("depth",v0)]:List (Str×V))=([("depth",v0),("room",v1)]:List (Str×V)):=by
 simp only[xL]
 repeat rw[if_neg (by decide +kernel)]
theorem qS:xL "most_kept" v2 ([("depth",v0),("room",v1)]:List (Str×V))=([("depth",v0),("room",v1),("most_kept",v2)]:List (Str×V)):=by
 simp only[xL]
 repeat rw[if_neg (by decide +kernel)]
theorem V5:xL "boxes" v3 ([("depth",v0),("room",v1),("most_kept",v2)]:List (Str×V))=([("depth",v0),("room",v1),("most_kept",v2),("boxes",v3)]:List (Str×V)):=by
 simp only[xL]
 repeat rw[if_neg (by decide +kernel)]
theorem TF:xL "asks" v4 ([("depth",v0),("room",v1),("most_kept",v2),("boxes",v3)]:List (Str×V))=([("depth",v0),("room",v1),("most_kept",v2),("boxes",v3),("asks",v4)]:List (Str×V)):=by
 simp only[xL]
 repeat rw[if_neg (by decide +kernel)]
theorem RQ:xL "now" v5 ([("depth",v0),("room",v1),("most_kept",v2),("boxes",v3),("asks",v4)]:List (Str×V))=([("depth",v0),("room",v1),("most_kept",v2),("boxes",v3),("asks",v4),("now",v5)]:List (Str×V)):=by
 simp only[xL]
 repeat rw[if_neg (by decide +kernel)]
theorem V6:xL "lines" v6 ([("depth",v0),("room",v1),("most_kept",v2),("boxes",v3),("asks",v4),("now",v5)]:List (Str×V))=([("depth",v0),("room",v1),("most_kept",v2),("boxes",v3),("asks",v4),("now",v5),("lines",v6)]:List (Str×V)):=by
 simp only[xL]
 repeat rw[if_neg (by decide +kernel)]
theorem Yn:xL "keeping" v7 ([("depth",v0),("room",v1),("most_kept",v2),("boxes",v3),("asks",v4),("now",v5),("lines",v6)]:List (Str×V))=([("depth",v0),("room",v1),("most_kept",v2),("boxes",v3),("asks",v4),("now",v5),("lines",v6),("keeping",v7)]:List (Str×V)):=by
 simp only[xL]
 repeat rw[if_neg (by decide +kernel)]
theorem Yo:xL "done_in" v8 ([("depth",v0),("room",v1),("most_kept",v2),("boxes",v3),("asks",v4),("now",v5),("lines",v6),("keeping",v7)]:List (Str×V))=([("depth",v0),("room",v1),("most_kept",v2),("boxes",v3),("asks",v4),("now",v5),("lines",v6),("keeping",v7),("done_in",v8)]:List (Str×V)):=by
 simp only[xL]
 repeat rw[if_neg (by decide +kernel)]
theorem Wf:xL "logged" v9 ([("depth",v0),("room",v1),("most_kept",v2),("boxes",v3),("asks",v4),("now",v5),("lines",v6),("keeping",v7),("done_in",v8)]:List (Str×V))=([("depth",v0),("room",v1),("most_kept",v2),("boxes",v3),("asks",v4),("now",v5),("lines",v6),("keeping",v7),("done_in",v8),("logged",v9)]:List (Str×V)):=by
 simp only[xL]
 repeat rw[if_neg (by decide +kernel)]
theorem V7:xL "found" E3 ([("depth",v0),("room",v1),("most_kept",v2),("boxes",v3),("asks",v4),("now",v5),("lines",v6),("keeping",v7),("done_in",v8),("logged",v9)]:List (Str×V))=([("depth",v0),("room",v1),("most_kept",v2),("boxes",v3),("asks",v4),("now",v5),("lines",v6),("keeping",v7),("done_in",v8),("logged",v9),("found",E3)]:List (Str×V)):=by
 simp only[xL]
 repeat rw[if_neg (by decide +kernel)]
theorem Yp:xL "answers" v11 ([("depth",v0),("room",v1),("most_kept",v2),("boxes",v3),("asks",v4),("now",v5),("lines",v6),("keeping",v7),("done_in",v8),("logged",v9),("found",E3)]:List (Str×V))=([("depth",v0),("room",v1),("most_kept",v2),("boxes",v3),("asks",v4),("now",v5),("lines",v6),("keeping",v7),("done_in",v8),("logged",v9),("found",E3),("answers",v11)]:List (Str×V)):=by
 simp only[xL]
 repeat rw[if_neg (by decide +kernel)]
end
noncomputable def vV(a m i j:Nat):List (Nat×Nat):=((aR i).flatMap fun l=>(aR m).map fun y=>(a+l,y))++(aR j).map fun y=>(a+i,y)
theorem vW{a m i j:Nat}{q:Nat×Nat}:q∈vV a m i j ↔ (a<=q.1/\q.1<a+i/\q.2<m)\/(q.1=a+i/\q.2<j):=by
 unfold vV;rw[aP,fE,aW];constructor
 ·rintro(⟨l,hl,h⟩|⟨y,hy,rfl⟩)
  ·obtain⟨y,hy,rfl⟩:=aW.mp h;have:=aV.mp hl;exact .inl ⟨Nat.le_add_right _ _,by show a+l<a+i;omega,aV.mp hy⟩
  ·exact .inr ⟨rfl,aV.mp hy⟩
 ·rintro(⟨h1,h2,h3⟩|⟨h1,h2⟩)
  ·refine .inl ⟨q.1-a,aV.mpr (by omega),aW.mpr ⟨q.2,aV.mpr h3,ky (by show a+(q.1-a)=q.1;omega) rfl⟩⟩
  ·exact .inr ⟨q.2,aV.mpr h2,ky h1.symm rfl⟩
theorem Xl{a m i j:Nat}:vV a m i (j+1)=vV a m i j++[(a+i,j)]:=by
 unfold vV;rw[dU,bC,bD];rfl
theorem Xm{a m i:Nat}:vV a m i m=vV a m (i+1) 0:=by
 unfold vV;rw[dU,fT];simp
noncomputable def sT(F:Nat->Nat->V)(P:List (Nat×Nat)):List (List Key×V):=P.map fun q=>(kI [(q.1:Int),(q.2:Int)],F q.1 q.2)
theorem TH{F:Nat->Nat->V}{P:List (Nat×Nat)}{a b:Nat}{v:V}(h:(a,b)∉P):xt (sT F P) (kI [(a:Int),(b:Int)]) v=sT (zQ F a b v) (P++[(a,b)]):=by
 rw[u7 _ (t6 fun w hw=>?_)]
 ·unfold sT;rw[bC]
  congr 1
  ·refine dM fun q hq=>?_;rw[zt fun z=>h (by rw[←z.1,←z.2];exact hq)]
  ·show _=[(kI [(a:Int),(b:Int)],zQ F a b v a b)]
   rw[zr]
 ·unfold sT at hw;obtain⟨q,hq,e⟩:=aW.mp hw;have e1:=congrArg Prod.fst e;obtain⟨h1,h2⟩:=uz.mp e1;exact h (by rw[show(a,b)=q from ky (by show a=q.1;omega) (by show b=q.2;omega)];exact hq)
theorem TJ{F:Nat->Nat->V}{P:List (Nat×Nat)}:(sT F P).length=P.length:=aG ..
theorem TK{a m i j:Nat}(hm:m<=16)(hi:i<=5)(hj:j<=16):(vV a m i j).length<1000:=by
 have h1:∀i:Nat,((aR i).flatMap fun l=>(aR m).map fun y=>(a+l,y)).length=i*m:=by
  intro i;induction i with
  |zero=>rw[mo];rfl
  |succ i ih=>rw[dU,fT,aI,ih,Nat.succ_mul];simp
 unfold vV;rw[aI,h1,aG,cD];have:=Nat.mul_le_mul hi hm;omega
theorem Wg{A:Ad->Addr}{k:Nat}:we A k=sT (fun l j=>.ref (A (.ln l j))) (vV 0 (2 ^ k) (k+1) 0):=by
 unfold we sT vV;rw[List.range_zero,iL,bB,li];refine congrArg (fun f=>(aR (k+1)).flatMap f) (funext fun l=>?_);rw[bZ];refine dM fun j _=>?_;show _=(kI [((0+l:Nat):Int),(j:Int)],V.ref (A (.ln (0+l) j)))
 rw[lA]
theorem Wh{k:Nat}{kp:Nat->Nat->Int}:yh k kp=sT (fun s n=>.int (kp s n)) (vV 1 (2 ^ (k-1)) k 0):=by
 unfold yh sT vV;rw[List.range_zero,iL,bB,li];refine congrArg (fun f=>(aR k).flatMap f) (funext fun l=>?_);rw[bZ];refine dM fun j _=>?_;show _=(kI [((1+l:Nat):Int),(j:Int)],V.int (kp (1+l) j))
 rw[mm 1 l]
theorem si{lo:Int}{n a m:Nat}{σ:L2.St}{H1:Hp}{o7:TI}{tk tv:TE}{Q:VK}{e2:List (Option V)}(Pv:Nat->Nat->(Nat->Nat->V)->Hp->Prop)(CL:lo=(a:Int))(o8:n<=5)(Gc:m<=16)
  (hσ:∃e0 e1,σ=e0::e1::e2) (F0:Nat->Nat->V) (h0:Pv 0 0 F0 H1)
  (hr:∀i e1 F H' (R:It->Hp->Prop),i<n->Pv i 0 F H'->R (Itr 0 m) H'->o7 (some (.int ((a+i:Nat):Int))::e1::e2) H' R)
  (hs:∀i j F H' (KK:V->V->Hp->Prop),i<n->j<m->Pv i j F H'->(∀b v H6,H6 b=some (.tup [.int ((a+i:Nat):Int),.int (j:Int)])->(∀c xs,H' c=some (.tup xs)->H6 c=some (.tup xs))->Pv i (j+1) (zQ F (a+i) j v) H6->KK (.ref b) v H6)→
   tk (some (.int ((a+i:Nat):Int))::some (.int (j:Int))::e2) H' fun y H5=>tv (some (.int ((a+i:Nat):Int))::some (.int (j:Int))::e2) H5 fun v H6=>KK y v H6)
  (hi:∀i F H',i<n->Pv i m F H'->Pv (i+1) 0 F H')
  (hd:∀F H',Pv n 0 F H'->∀l,H' l=none->Q (.ref l) (upd H' l (.dT (sT F (vV a m n 0))))) :
  V3 (Itr lo n) σ H1 (uk 0) o7 (uk 1) W9 tk tv Q:=by
 obtain⟨e0,e1,rfl⟩:=hσ;refine⟨fun i x kvs Hb σ' H'=>x=n-i/\i<=n/\(∃e0 e1,σ'=e0::e1::e2)/\(∀c xs,Hb c=some (.tup xs)->H' c=some (.tup xs))/\∃F,kvs=sT F (vV a m i 0)/\Pv i 0 F H',⟨n,by simp,aX _,⟨_,_,rfl⟩,fun _ _ h=>h,F0,rfl,h0⟩,?_⟩;rintro i x kvs Hb σ' H' ⟨rfl,hin,⟨e0,e1,rfl⟩,hb,F,rfl,pv⟩;by_cases mE:i<n;rotate_left
 ·have:i=n:=by omega
  subst this;exact .inl ⟨by show i<=i;exact aE _,hb,hd F H' pv⟩
 refine .inr ⟨mE,fun kvs Hc σ2 H2=>(∃e0 e1,σ2=e0::e1::e2)/\(∀c xs,Hc c=some (.tup xs)->H2 c=some (.tup xs))/\∃F,kvs=sT F (vV a m (i+1) 0)/\Pv (i+1) 0 F H2,fun zs Hc σ2 H2 ⟨p1,p2,p3⟩=>⟨n-(i+1),by omega,rfl,by omega,p1,p2,p3⟩,fun x H2 hx=>?_⟩;obtain⟨rfl,rfl⟩:=hx;have ev:lo+(i:Int)=((a+i:Nat):Int):=by omega
 show o7 (some (.int (lo+(i:Int)))::e1::e2) H2 _;rw[ev];refine hr i e1 F H2 _ mE pv ?_;refine⟨fun j x kvs Hb σ' H'=>x=m-j/\j<=m/\(∃e1,σ'=some (.int ((a+i:Nat):Int))::e1::e2)/\(∀c xs,Hb c=some (.tup xs)->H' c=some (.tup xs))/\∃F,kvs=sT F (vV a m i j)/\Pv i j F H',⟨m,by simp,aX _,⟨_,rfl⟩,hb,F,rfl,pv⟩,?_⟩;rintro j x kvs Hb σ' H' ⟨rfl,hjm,⟨e1,rfl⟩,hb,F,rfl,pv⟩;by_cases hjl:j<m;rotate_left
 ·have:j=m:=by omega
  subst this;refine .inl ⟨by show j<=j;exact aE _,⟨_,_,rfl⟩,hb,F,by rw[Xm],hi i F H' mE pv⟩
 refine .inr ⟨hjl,fun kvs Hc σ2 H2=>(∃e1,σ2=some (.int ((a+i:Nat):Int))::e1::e2)/\(∀c xs,Hc c=some (.tup xs)->H2 c=some (.tup xs))/\∃F,kvs=sT F (vV a m i (j+1))/\Pv i (j+1) F H2,fun zs Hc σ2 H2 ⟨p1,p2,p3⟩=>⟨m-(j+1),by omega,rfl,by omega,p1,p2,p3⟩,fun x H2 hx=>?_⟩;obtain⟨rfl,rfl⟩:=hx;have ej:(0:Int)+(j:Int)=(j:Int):=gu _;rw[ej];refine hs i j F H2 (fun y v H6=>(sT F (vV a m i j)).length<sizeLine/\∃b ks,y=V.ref b/\H6 b=some (HO.tup (List.map kV ks))/\(∀c xs,Hb c=some (HO.tup xs)->H6 c=some (HO.tup xs))/\(∃Av,some (V.int ((a+i:Nat):Int))::some (V.int (j:Int))::e2=some (V.int ((a+i:Nat):Int))::Av::e2)/\(∀c xs,H6 c=some (HO.tup xs)->H6 c=some (HO.tup xs))/\∃F',xt (sT F (vV a m i j)) ks v=sT F' (vV a m i (j+1))/\Pv i (j+1) F' H6) mE hjl pv fun b v H6 h1 h2 p6=>?_;refine⟨?_,b,kI [((a+i:Nat):Int),(j:Int)],rfl,xZ h1,fun c xs hc=>h2 c xs (hb c xs hc),⟨_,rfl⟩,fun c xs h=>h,zQ F (a+i) j v,?_,p6⟩
 ·rw[TJ];exact zC (cG (TK Gc (by omega) (by omega)))
 ·rw[TH (fun z=>by rcases vW.mp z with ⟨_,h,_⟩|⟨_,h⟩;exact absurd h (by show ¬(a+i<a+i);omega);exact absurd h (by show ¬(j<j);omega)),Xl]
def Zl(K:FG7):Sp:=sp2 fun x y H Q=>∃(room kept:Nat),x=.int room/\y=.int kept/\1<=room/\room<=6/\kept<=6/\Q .non H
def SD(K:FG7):Sp:=sp3 fun x y z H Q=>∃(k s n:Nat),x=.int k/\y=.int s/\z=.int n/\k<=4/\Q (.bl (decide (1<=s/\s<=k/\n<2 ^ (k-1)))) H
def Xn(K:FG7):Sp:=sp2 fun x y H Q=>∃(k:Nat) (q:Nat×Nat),x=.int k/\Wb K H y q/\k<=4/\vT k q/\Q (.bl true) H
def Zm(K:FG7):Sp:=sp2 fun x y H Q=>∃(k:Nat) (gone:List (Nat×Nat)),x=.int k/\wI K H y gone/\k<=4/\(∀q∈gone,vT k q)/\∀H',Grow [] H H'->Q .non H'
def Zn(K:FG7):Sp:=sp2 fun x y H Q=>∃(l:Addr) (xs:List V) (k:Ask),x=.ref l/\SqL K H l xs/\vM K H y k/\U9 xs.length k/\Q (.bl true) H
noncomputable def qT(C:Addr)(K:FG7):Sp:=sp5 fun x y z u w H Q=>∃(p dx:Addr) (k room kept:Nat) (b:List Int),x=.ref p/\y=.int k/\xq K H z b/\u=.int room/\w=.int kept/\k<=4/\1<=b.length/\b.length<=16/\1<=room/\room<=6/\kept<=6/\H p=some (.ins C dx [])∧
 ∀A H',Grow [p] H H'->A .p=p->(∀a,okA (t4 k b room kept) a->a≠.p->H (A a)=none)->NetAt K C H' A (t4 k b room kept)->Q .non H'
def Ji(K:FG7)(H:Hp)(y:V)(gone:List (Nat×Nat)):Prop:=(y=.non/\gone=[])\/wI K H y gone
def Yq(C:Addr)(K:FG7):Sp:=sp2 fun x y H Q=>∃(A:Ad->Addr) (ns:NS) (a:Ask) (ms:List Addr),x=.ref (A .p)/\vM K H y a/\NetAt K C H A ns/\NR ns/\U9 ns.boxes.length a/\a.hand<(2 ^ ns.k:Nat)/\ns.asks.length<40/\(∀a,okA ns a->A a∈ms)∧
 ∀H',Grow ms H H'->NetAt K C H' A (jq ns a)->Q (.int ns.asks.length) H'
noncomputable def tw(C:Addr)(K:FG7):Sp:=sp2 fun x y H Q=>∃(A:Ad->Addr) (ns:NS) (gone:List (Nat×Nat)) (ms:List Addr),x=.ref (A .p)/\Ji K H y gone/\(∀q∈gone,vT ns.k q)/\NetAt K C H A ns/\NR ns/\ns.nd=ns.now/\ns.now<10000/\NT (zA gone ns)/\(∀a,okA ns a->A a∈ms)∧
 ∀A' z l H',Grow ms H H'->JB H A A' ns->NetAt K C H' A' (beatS gone ns)->RI K H' z l->l.Perm (yq (zA gone ns))->l.Pairwise (fun a b=>a.1<b.1)->Q z H'
def sj(C:Addr)(K:FG7):Sp:=sp1 fun x H Q=>∃(A:Ad->Addr) (ns:NS),x=.ref (A .p)/\NetAt K C H A ns/\ns.boxes.length<=16/\∀z H',Grow [] H H'->xq K H' z ns.boxes->Q z H'
def Yr(C:Addr)(K:FG7):Sp:=sp1 fun x H Q=>∃(A:Ad->Addr) (ns:NS),x=.ref (A .p)/\NetAt K C H A ns/\ns.log.length<=1000/\∀z H',Grow [] H H'->xq K H' z (ns.log.map iE)->Q z H'
def qU(C:Addr)(K:FG7):Sp:=sp1 fun x H Q=>∃(A:Ad->Addr) (ns:NS),x=.ref (A .p)/\NetAt K C H A ns/\Q (.int ((ns.asks.length:Int)-ns.ans.length)) H
noncomputable def oN5:Option Int->V
 |none=>.non
 |some i=>.int i
def uG(C:Addr)(K:FG7):Sp:=sp2 fun x y H Q=>∃(A:Ad->Addr) (ns:NS) (n:Nat),x=.ref (A .p)/\y=.int n/\n<ns.asks.length/\NetAt K C H A ns/\Q (oN5 (xu ns.ans n)) H
structure Part(K:FG7)(C p:Addr)(H0 H:Hp)(A:Ad->Addr)(ns:NS)(D:Ad->Prop):Prop where
 at_:∀a,D a->∃o,H (A a)=some o/\VR K C H A ns a o
 inj:∀a b,D a->D b->A a=A b->a=b
 fr:∀a,D a->H0 (A a)=none
 hp0:∃o,H0 p=some o
 hp:∃o,H p=some o
 g:Grow [p] H0 H
section
variable{K:FG7}{C p l:Addr}{H0 H H':Hp}{A:Ad->Addr}{ns:NS}{D:Ad->Prop}{c:Ad}{o:HO}
noncomputable def V8(A:Ad->Addr)(c:Ad)(l:Addr):Ad->Addr:=fun a=>if a=c then l else A a
theorem yU:V8 A c l c=l:=if_pos rfl
theorem yV{a:Ad}(h:a≠c):V8 A c l a=A a:=if_neg h
theorem Part.nil{ns:NS}(h:H0 p=some o):Part K C p H0 H0 A ns fun _=>False:=⟨fun _ h=>h.elim,fun _ _ h=>h.elim,fun _ h=>h.elim,⟨_,h⟩,⟨_,h⟩,Grow.refl _ _⟩
theorem Part.np(h:Part K C p H0 H A ns D){a:Ad}(ha:D a):A a≠p:=fun e=>by
 have h1:=h.fr a ha;obtain⟨o,h2⟩:=h.hp0;rw[e,h2] at h1;cases h1
theorem Part.grow(h:Part K C p H0 H A ns D)(g:Grow [p] H H')(hp:∃o,H' p=some o):Part K C p H0 H' A ns D :=
 ⟨fun a ha=>by
  obtain⟨o,h1,h2⟩:=h.at_ a ha;exact⟨o,g.keep _ _ (by simpa using h.np ha) h1,h2.grow g⟩,h.inj,h.fr,h.hp0,hp,h.g.trans g⟩
theorem Part.grow0(h:Part K C p H0 H A ns D)(g:Grow [] H H'):Part K C p H0 H' A ns D :=
 h.grow g.wk (by obtain⟨o,e⟩:=h.hp;exact⟨o,g.keep _ _ (by simp) e⟩)
theorem Part.setP{dx:Addr}{fs fs':List (Str×V)}(h:Part K C p H0 H A ns D)(e:H p=some (.ins C dx fs)):Part K C p H0 (upd H p (.ins C dx fs')) A ns D :=
 h.grow (Grow.setI e (by simp) _) ⟨_,zd⟩
theorem Part.add(h:Part K C p H0 H A ns D)(hl:H l=none)(hc:¬D c)(ho:VR K C (upd H l o) (V8 A c l) ns c o)(hi:∀a,D a->∀o H,VR K C H A ns a o->VR K C H (V8 A c l) ns a o) :
  Part K C p H0 (upd H l o) (V8 A c l) ns fun a=>D a\/a=c:=by
 have g:=Grow.new (m:=[]) hl o;have nl:∀a,D a->A a≠l:=fun a ha e=>by
  obtain⟨o,h1,_⟩:=h.at_ a ha;rw[e,hl] at h1;cases h1
 have lp:l≠p:=fun e=>by
  obtain⟨o,h1⟩:=h.hp;rw[←e,hl] at h1;cases h1
 have ne:∀a,D a->a≠c:=fun a ha e=>hc (e▸ha);refine⟨fun a ha=>?_,fun a b ha hb e=>?_,fun a ha=>?_,h.hp0,?_,h.g.trans g.wk⟩
 ·rcases ha with ha|rfl
  ·rw[yV (ne a ha)];obtain⟨o',h1,h2⟩:=h.at_ a ha;exact⟨o',g.keep _ _ (by simp) h1,hi a ha _ _ (h2.grow g)⟩
  ·rw[yU];exact⟨o,zd,ho⟩
 ·rcases ha with ha|rfl <;> rcases hb with hb|rfl
  ·rw[yV (ne a ha),yV (ne b hb)] at e;exact h.inj a b ha hb e
  ·rw[yV (ne a ha),yU] at e;exact absurd e (nl a ha)
  ·rw[yV (ne b hb),yU] at e;exact absurd e.symm (nl b hb)
  ·rfl
 ·rcases ha with ha|rfl
  ·rw[yV (ne a ha)];exact h.fr a ha
  ·rw[yU];exact h.g.free (by simpa using lp) hl
 ·obtain⟨o,e⟩:=h.hp;exact⟨o,g.keep _ _ (by simp) e⟩
theorem Part.sub{D':Ad->Prop}(h:Part K C p H0 H A ns D)(hd:∀a,D' a->D a):Part K C p H0 H A ns D':=⟨fun a ha=>h.at_ a (hd a ha),fun a b ha hb=>h.inj a b (hd a ha) (hd b hb),fun a ha=>h.fr a (hd a ha),h.hp0,h.hp,h.g⟩
theorem Part.net{dx:Addr}(h:Part K C p H0 H A ns D)(hd:∀a,okA ns a->a≠.p->D a)(hpd:¬D .p)(e:H p=some (.ins C dx (zK A ns))):NetAt K C H (V8 A .p p) ns:=by
 refine⟨fun a ha=>?_,fun a b ha hb e=>?_⟩
 ·by_cases c:a=.p
  ·subst c;rw[yU];exact⟨_,e,dx,rfl⟩
  ·rw[yV c];obtain⟨o,h1,h2⟩:=h.at_ a (hd a ha c);refine⟨o,h1,?_⟩;cases a <;> first|exact absurd rfl c|exact h2
 ·by_cases c1:a=.p <;> by_cases c2:b=.p
  ·rw[c1,c2]
  ·subst c1;rw[yU,yV c2] at e;exact absurd e.symm (h.np (hd b hb c2))
  ·subst c2;rw[yU,yV c1] at e;exact absurd e (h.np (hd a ha c1))
  ·rw[yV c1,yV c2] at e;exact h.inj a b (hd a ha c1) (hd b hb c2) e
end
noncomputable def DL(m i j:Nat)(D:Ad->Prop):Ad->Prop
 |.ln l y=>(l,y)∈vV 0 m i j
 |a=>D a
structure LnP(K:FG7)(C p dx:Addr)(fs:List (Str×V))(H0:Hp)(ns:NS)(D:Ad->Prop)(A0:Ad->Addr)(m i j:Nat)(F:Nat->Nat->V)(H':Hp):Prop where
 ex:∃A,Part K C p H0 H' A ns (DL m i j D)/\(∀q∈vV 0 m i j,F q.1 q.2=.ref (A (.ln q.1 q.2)))/\(∀a,D a->(∀l y,a≠.ln l y)->A a=A0 a)
 e:H' p=some (.ins C dx fs)
section
variable{K:FG7}{C p dx l:Addr}{fs:List (Str×V)}{H0 H H':Hp}{A0:Ad->Addr}{ns:NS}{D:Ad->Prop}{m i j:Nat}{F:Nat->Nat->V}
theorem LnP.grow(h:LnP K C p dx fs H0 ns D A0 m i j F H)(g:Grow [] H H'):LnP K C p dx fs H0 ns D A0 m i j F H':=by
 obtain⟨A,h1,h2⟩:=h.ex;exact⟨⟨A,h1.grow0 g,h2⟩,g.keep _ _ (by simp) h.e⟩
theorem LnP.row(h:LnP K C p dx fs H0 ns D A0 m i m F H):LnP K C p dx fs H0 ns D A0 m (i+1) 0 F H:=by
 obtain⟨A,h1,h2,h3⟩:=h.ex;exact⟨⟨A,h1.sub fun a ha=>by
  cases a <;> first|exact ha|(show _∈_;rw[Xm];exact ha),by rw[←Xm];exact h2,h3⟩,h.e⟩
theorem LnP.step(hD:∀l y,¬D (.ln l y))(hdp:¬D .p/\¬D .dl)(BF:∀l j,ns.lines l j=[])(h:LnP K C p dx fs H0 ns D A0 m i j F H)(hl:H l=none):LnP K C p dx fs H0 ns D A0 m i (j+1) (zQ F (0+i) j (.ref l)) (upd H l (.lst [])):=by
 obtain⟨A,h1,h2,h3⟩:=h.ex;have nm:(0+i,j)∉vV 0 m i j:=fun z=>by
  rcases vW.mp z with ⟨_,h,_⟩|⟨_,h⟩
  ·exact absurd h (by show ¬(0+i<0+i);omega)
  ·exact absurd h (by show ¬(j<j);omega)
 have z:=h1.add (c:=.ln (0+i) j) (o:=.lst []) hl nm ⟨[],rfl,by rw[BF];trivial⟩ fun a ha o H h=>by
  cases a <;> first|exact h|exact absurd ha hdp.1|exact absurd ha hdp.2
 ·refine⟨⟨V8 A (.ln (0+i) j) l,z.sub fun a ha=>?_,fun q hq=>?_,fun a ha hn=>?_⟩,?_⟩
  ·cases a with
   |ln x y =>
    have ha:(x,y)∈vV 0 m i (j+1):=ha;rw[Xl,aP] at ha;rcases ha with ha|ha
    ·exact .inl ha
    ·have:=aB.mp ha;right;rw[show x=0+i from congrArg Prod.fst this,show y=j from congrArg Prod.snd this]
   |_=>exact .inl ha
  ·rw[Xl,aP] at hq;rcases hq with hq|hq
   ·have ne:¬(q.1=0+i/\q.2=j):=fun e=>nm (by rw[show((0+i,j):Nat×Nat)=q from ky e.1.symm e.2.symm];exact hq);rw[zt ne,yV (fun e=>ne (by injection e with a b;exact⟨a,b⟩))];exact h2 q hq
   ·rw[aB.mp hq];show zQ F (0+i) j (.ref l) (0+i) j=_;rw[zr,yU]
  ·rw[yV (hn _ _)];exact h3 a ha hn
  ·exact(Grow.new (m:=[]) hl _).keep _ _ (by simp) h.e
end
theorem rZ{F G:Nat->Nat->V}{P:List (Nat×Nat)}(h:∀q∈P,F q.1 q.2=G q.1 q.2):sT F P=sT G P:=dM fun q hq=>by rw[h q hq]
theorem V9{k:Nat}:(1:Int)*2 ^ ((k:Int)).toNat=((2 ^ k:Nat):Int):=qA
theorem NR.tick{ns:NS}(nr:NR ns)(h:ns.now<10000):NR (zu ns):=⟨nr.k4,nr.b16,nr.a40,nr.lw,nr.dw,nr.tot,h,gJ nr.nd,nr.fl⟩
theorem NR.forget{ns:NS}(nr:NR ns):NR (zj ns):=⟨nr.k4,nr.b16,nr.a40,nr.lw,nr.dw,nr.tot,nr.nw,nr.nd,nr.fl⟩
structure TakeD(gone:List (Nat×Nat))(ns n':NS):Prop where
 k:n'.k=ns.k
 room:n'.room=ns.room
 kept:n'.kept=ns.kept
 bl:n'.boxes.length=ns.boxes.length
 asks:n'.asks=ns.asks
 now:n'.now=ns.now
 lines:n'.lines=(zD gone ns (2 ^ ns.k)).2
 keep:n'.keep=ns.keep
 nd:n'.nd=ns.nd+1
 done:n'.done=sO ns.done ns.now (zD gone ns (2 ^ ns.k)).1
 log:n'.log=ns.log++yc (zD gone ns (2 ^ ns.k)).1
 fl:n'.fnd.length<=ns.fnd.length+(yc (zD gone ns (2 ^ ns.k)).1).length
 ans:n'.ans=ns.ans
theorem Ys(gone:List (Nat×Nat))(ns:NS):TakeD gone ns (zW gone ns) :=
 have D:=doF (l:=(zD gone ns (2 ^ ns.k)).1) (ns:=WG gone ns)
 ⟨D.k,D.room,D.kept,D.bl,D.asks,D.now,D.lines,D.keep,D.nd,D.done,D.log,D.fl,D.ans⟩
theorem NR.take{ns:NS}(nr:NR ns){gone:List (Nat×Nat)}(AC:ns.nd+1=ns.now):NR (zW gone ns):=by
 have D:=Ys gone ns;have F:=Zk (gone:=gone) (ns:=ns) (aE _);generalize zW gone ns=n' at D ⊢;refine⟨by rw[D.k];exact nr.k4,by rw[D.bl];exact nr.b16,by rw[D.asks];exact nr.a40,?_,?_,?_,by rw[D.now];exact nr.nw,by rw[D.nd,D.now];omega,?_⟩
 ·intro l j hl hj w hw;rw[D.k] at hl hj;rw[D.lines] at hw;rw[D.k,D.bl,D.asks];exact nr.lw l j hl hj w (F.ln l j w hw)
 ·intro t t1 t2 w hw;rw[D.nd] at t2;rw[D.done] at hw;rw[D.k,D.bl,D.asks];unfold sO at hw;by_cases c:t=ns.now
  ·rw[if_pos c] at hw;obtain⟨j,hj,hw⟩:=F.tk w hw;exact nr.lw ns.k j (aE _) hj w hw
  ·rw[if_neg c] at hw;exact nr.dw t t1 (by omega) w hw
 ·rw[D.k,D.lines,D.log,D.asks,aI,sf];have h1:=F.ws wH;have h2:=nr.tot;omega
 ·have h1:=D.fl;have h2:=nr.fl;rw[D.log,aI];omega
theorem uH{gone:List (Nat×Nat)}{ns:NS}{i:Nat}:passA gone ns (i+1)=passS gone (passA gone ns i) ((passA gone ns i).k-i) (2 ^ ((passA gone ns i).k-1)):=by unfold passA;rw[zM]
theorem Xo{a b:NS}(h:Same5 a b){c:Ad}(hc:okA a c):okA b c:=by
 cases c <;> first|exact trivial|exact⟨by rw[←h.k];exact hc.1,by rw[←h.k];exact hc.2⟩|exact⟨hc.1,by rw[←h.nd];exact hc.2⟩
theorem Yt{ns:NS}{a:Ask}{g:Wt->Nat}(hh:a.hand.toNat<2 ^ ns.k):wsN ns.k (jq ns a).lines g=wsN ns.k ns.lines g+g ⟨a.box.toNat,a.deed,[ns.asks.length],[]⟩:=by
 have h:=xI (k:=ns.k) (l:=0) (j:=a.hand.toNat) (f:=ns.lines) (g:=g) (v:=ns.lines 0 a.hand.toNat++[⟨a.box.toNat,a.deed,[ns.asks.length],[]⟩]) (aX _) hh;rw[wU] at h;have e:yt g [⟨a.box.toNat,a.deed,[ns.asks.length],[]⟩]=g ⟨a.box.toNat,a.deed,[ns.asks.length],[]⟩:=by rw[yb,wT];rfl
 rw[e] at h;show wsN ns.k (zQ ns.lines 0 a.hand.toNat _) g=_;omega
theorem WtOk.more{k b a:Nat}{w:Wt}(h:WtOk k b a w):WtOk k b (a+1) w:=⟨h.bx,h.ne,fun n hn=>eC (h.nm n hn),h.mt,h.ln⟩
theorem NR.put{ns:NS}(nr:NR ns){a:Ask}(hh:a.hand.toNat<2 ^ ns.k)(hb:a.box.toNat<ns.boxes.length)(Bj:ns.asks.length<40):NR (jq ns a):=by
 have el:(jq ns a).asks.length=ns.asks.length+1:=by show(ns.asks++[a]).length=_;rw[aI];rfl
 refine⟨nr.k4,nr.b16,by rw[el];exact Bj,?_,?_,?_,nr.nw,nr.nd,nr.fl⟩
 ·intro l j hl hj w hw;rw[el];have hw:w∈zQ ns.lines 0 a.hand.toNat (ns.lines 0 a.hand.toNat++[⟨a.box.toNat,a.deed,[ns.asks.length],[]⟩]) l j:=hw;by_cases c:l=0/\j=a.hand.toNat
  ·rw[c.1,c.2,zr,aP] at hw;rcases hw with hw|hw
   ·exact(nr.lw 0 _ (aX _) hh w hw).more
   ·rw[aB.mp hw];exact⟨hb,by simp,fun n hn=>by rw[aB.mp hn];exact cS _,fun q hq=>by simp at hq,rfl⟩
  ·rw[zt c] at hw;exact(nr.lw l j hl hj w hw).more
 ·intro t t1 t2 w hw;rw[el];exact(nr.dw t t1 t2 w hw).more
 ·rw[el];have h:=Yt (ns:=ns) (a:=a) (g:=wH) hh;have h2:=nr.tot;have e:wH ⟨a.box.toNat,a.deed,[ns.asks.length],[]⟩=1:=rfl;show wsN ns.k (jq ns a).lines wH+ns.log.length=_;omega
section
variable{P:NS->Prop}{gone:List (Nat×Nat)}(k4:∀n,P n->n.k<=4)(hP:∀n s l,P n->1<=s->s<=n.k->l<2 ^ n.k->P (yO n s l))
include k4 hP
theorem Zo{n:NS}{s i:Nat}(h:P n)(s1:1<=s)(sk:s<=n.k)(hi:i<2 ^ (n.k-1)):P (yY gone s n i):=by
 unfold yY;split
 ·exact h
 ·have m2:n.now % 2<2:=ft _ (by decide);have l1:=wJ (k4 n h) s1 sk hi m2;have l2:=wJ (k4 n h) s1 sk hi (show 1-n.now % 2<2 by omega);have e:=(xj n s (sN n.k s i (n.now % 2))).k;exact hP _ _ _ (hP _ _ _ h s1 sk l1) s1 (by rw[e];exact sk) (by rw[e];exact l2)
theorem sn{n:NS}{s:Nat}(h:P n)(s1:1<=s)(sk:s<=n.k):∀{i},i<=2 ^ (n.k-1)->P (passS gone n s i)
 |0,_=>h
 |i+1,hi=>by
  have ih:=sn h s1 sk (i:=i) (by omega);have e:=(wg gone n s i).k;have es:passS gone n s (i+1)=yY gone s (passS gone n s i) i:=by unfold passS;rw[zM]
  rw[es];exact Zo k4 hP ih s1 (by rw[e];exact sk) (by rw[e];omega)
theorem wK{n:NS}(h:P n):∀{i},i<=n.k->P (passA gone n i)
 |0,_=>h
 |i+1,hi=>by
  have ih:=wK h (i:=i) (by omega);have e:=(y6 gone n i).k;rw[uH];exact sn k4 hP ih (by rw[e];omega) (by omega) (aE _)
end
noncomputable def gq(q:Nat×Nat)(w:Wt):Nat:=w.met.count q
theorem RS{q sw:Nat×Nat}{w c:Wt}:gq q (wc sw w c)=gq q w+gq q c+if sw=q then 1 else 0:=by
 show(w.met++c.met++[sw]).count q=_;rw[gK,gK,List.count_singleton];by_cases h:sw=q
 ·rw[if_pos h,if_pos (by rw[h];exact beq_self_eq_true _)];rfl
 ·rw[if_neg h,if_neg (fun z=>h (beq_iff_eq.mp z))];rfl
theorem RT{n:Nat}:Je (fun w=>w.nums.count n):=fun _ w c=>gK ..
theorem HandC.kp{ns n':NS}{s l:Nat}(h:HandC ns s l n'){q:Nat×Nat}(k4:ns.k<=4)(s1:1<=s)(sk:s<=ns.k)(hl:l<2 ^ ns.k) :
  (wsN ns.k n'.lines (gq q):Int)-n'.keep q.1 q.2=wsN ns.k ns.lines (gq q)-ns.keep q.1 q.2:=by
 cases h with
 |stay=>rfl
 |add c r hc hr =>
  have o:=y4 (b:=c.box) k4 s1 sk hl;have h1:=xI (f:=ns.lines) (v:=r) (g:=gq q) (show s-1<=ns.k by omega) hl;have h2:=xI (f:=zQ ns.lines (s-1) l r) (v:=ns.lines s (zS ns.k s l c.box)++[c]) (g:=gq q) sk o;rw[zt (fun z=>by have:=z.1;omega)] at h2;rw[hc,yb] at h1;rw[wU,yb,wT] at h2;show(wsN ns.k (zQ (zQ ns.lines (s-1) l r) s (zS ns.k s l c.box) (ns.lines s (zS ns.k s l c.box)++[c])) (gq q):Int)-ns.keep q.1 q.2=_;omega
 |join c r i hc hi hb hk =>
  have o:=y4 (b:=c.box) k4 s1 sk hl;have h1:=xI (f:=ns.lines) (v:=r) (g:=gq q) (show s-1<=ns.k by omega) hl;have h2:=xI (f:=zQ ns.lines (s-1) l r) (v:=(ns.lines s (zS ns.k s l c.box)).set i (wc (s,nN ns.k s l) ((ns.lines s (zS ns.k s l c.box)).getD i default) c)) (g:=gq q) sk o;rw[zt (fun z=>by have:=z.1;omega)] at h2;have h3:=qJ (g:=gq q) (v:=wc (s,nN ns.k s l) ((ns.lines s (zS ns.k s l c.box)).getD i default) c) hi;rw[RS] at h3;rw[hc,yb] at h1;show(wsN ns.k (zQ (zQ ns.lines (s-1) l r) s (zS ns.k s l c.box) ((ns.lines s (zS ns.k s l c.box)).set i (wc (s,nN ns.k s l) ((ns.lines s (zS ns.k s l c.box)).getD i default) c))) (gq q):Int)-zQ ns.keep s (nN ns.k s l) (ns.keep s (nN ns.k s l)+1) q.1 q.2=_;by_cases e:(s,nN ns.k s l)=q
  ·rw[if_pos e] at h3;subst e;have z:zQ ns.keep s (nN ns.k s l) (ns.keep s (nN ns.k s l)+1) (s,nN ns.k s l).1 (s,nN ns.k s l).2=ns.keep s (nN ns.k s l)+1:=zr;rw[z];show _=_-ns.keep s (nN ns.k s l);omega
  ·rw[if_neg e] at h3;rw[zt fun z=>e (ky z.1.symm z.2.symm)];omega
structure PassI(n0 n:NS):Prop where
 same:Same5 n n0
 k4:n0.k<=4
 cnt:∀g,Je g->wsN n0.k n.lines g=wsN n0.k n0.lines g
 kp:∀q:Nat×Nat,(wsN n0.k n.lines (gq q):Int)-n.keep q.1 q.2=wsN n0.k n0.lines (gq q)-n0.keep q.1 q.2
theorem zan{n0:NS}{gone:List (Nat×Nat)}(k4:n0.k<=4){i:Nat}(hi:i<=n0.k):PassI n0 (passA gone n0 i):=by
 refine wK (P:=fun n=>PassI n0 n) (fun n h=>by rw[h.same.k];exact k4) (fun n s l h s1 sk hl=>?_) ⟨Same5.refl _,k4,fun _ _=>rfl,fun _=>rfl⟩ hi;have C:=Zj n s l;have B4:n.k<=4:=by rw[h.same.k];exact k4
 refine⟨C.same.trans h.same,k4,fun g hg=>?_,fun q=>?_⟩
 ·rw[←h.cnt g hg,←h.same.k];exact C.ws hg B4 s1 sk hl
 ·rw[←h.kp q,←h.same.k];exact C.kp B4 s1 sk hl
def NeL(k:Nat)(f:Nat->Nat->List Wt)(h:Nat):Prop:=∃l j,h<=l/\l<=k/\j<2 ^ k/\f l j≠[]
theorem sr{ns:NS}{s l h:Nat}(k4:ns.k<=4)(s1:1<=s)(sk:s<=ns.k)(hl:l<2 ^ ns.k)(e:NeL ns.k ns.lines h):NeL ns.k (yO ns s l).lines h:=by
 obtain⟨a,b,ha,DM,hb,hn⟩:=e;have C:=Zj ns s l;generalize yO ns s l=n' at C ⊢;cases C with
 |stay=>exact⟨a,b,ha,DM,hb,hn⟩
 |add c r hc hr =>
  have o:=y4 (b:=c.box) k4 s1 sk hl;by_cases c2:a=s-1/\b=l
  ·refine⟨s,_,by omega,sk,o,?_⟩;show zQ _ s _ _ s _≠[];rw[zr];simp
  ·by_cases c3:a=s/\b=zS ns.k s l c.box
   ·refine⟨s,_,by omega,sk,o,?_⟩;show zQ _ s _ _ s _≠[];rw[zr];simp
   ·refine⟨a,b,ha,DM,hb,?_⟩;show zQ _ s _ _ a b≠[];rw[zt c3,zt c2];exact hn
 |join c r i hc hi hbx hk =>
  have o:=y4 (b:=c.box) k4 s1 sk hl;have ne:∀v,(ns.lines s (zS ns.k s l c.box)).set i v≠[]:=fun v z=>by
   have:=congrArg iy z;rw[gA] at this;rw[this] at hi;exact absurd hi (cR _)
  by_cases c2:a=s-1/\b=l
  ·refine⟨s,_,by omega,sk,o,?_⟩;show zQ _ s _ _ s _≠[];rw[zr];exact ne _
  ·by_cases c3:a=s/\b=zS ns.k s l c.box
   ·refine⟨s,_,by omega,sk,o,?_⟩;show zQ _ s _ _ s _≠[];rw[zr];exact ne _
   ·refine⟨a,b,ha,DM,hb,?_⟩;show zQ _ s _ _ a b≠[];rw[zt c3,zt c2];exact hn
theorem SF{ns:NS}{s l:Nat}{c:Wt}{r:List Wt}(k4:ns.k<=4)(s1:1<=s)(sk:s<=ns.k)(hl:l<2 ^ ns.k)(r1:1<=ns.room):NeL ns.k (VO ns s l c r).lines s:=by
 have o:=y4 (b:=c.box) k4 s1 sk hl;refine⟨s,zS ns.k s l c.box,aE _,sk,o,?_⟩;unfold VO;split
 ·show zQ _ s _ _ s _≠[];rw[zr];simp
 ·rename_i h;intro z;rw[z] at h;exact h (by show 0<ns.room;omega)
theorem RU{ns:NS}{s l:Nat}(k4:ns.k<=4)(s1:1<=s)(sk:s<=ns.k)(hl:l<2 ^ ns.k)(r1:1<=ns.room)(e:ns.lines (s-1) l≠[]):NeL ns.k (yO ns s l).lines s:=by
 unfold yO;split
 ·rename_i h;exact absurd h e
 ·rename_i c r h;have o:=y4 (b:=c.box) k4 s1 sk hl;split
  ·exact SF k4 s1 sk hl r1
  ·rename_i i hi;split
   ·refine⟨s,zS ns.k s l c.box,aE _,sk,o,?_⟩;show zQ _ s _ _ s _≠[];rw[zr];intro z;have:=congrArg iy z;rw[gA] at this;have:=(qR hi).1
    simp_all
   ·exact SF k4 s1 sk hl r1
theorem qV{ns:NS}{s l a b:Nat}(h:¬(a=s-1/\b=l))(h2:a≠s):(yO ns s l).lines a b=ns.lines a b:=by
 have C:=Zj ns s l;generalize yO ns s l=n' at C ⊢;cases C with
 |stay=>rfl
 |add c r hc hr =>
  show zQ _ s _ _ a b=_;rw[zt (fun z=>h2 z.1),zt h]
 |join c r i hc hi hbx hk =>
  show zQ _ s _ _ a b=_;rw[zt (fun z=>h2 z.1),zt h]
theorem zao{k s j:Nat}(k4:k<=4)(s1:1<=s)(sk:s<=k)(hj:j<2 ^ k):∃n m,n<2 ^ (k-1)/\m<2/\sN k s n m=j:=by
 have mL:∀k:Fin 5,∀s:Fin 5,1<=s.val->s.val<=k.val->∀j:Fin 16,j.val<2 ^ k.val->∃n:Fin 8,∃m:Fin 2,n.val<2 ^ (k.val-1)/\sN k.val s.val n.val m.val=j.val:=by decide +kernel
 obtain⟨n,m,h1,h2⟩:=mL ⟨k,by omega⟩ ⟨s,by omega⟩ s1 sk ⟨j,aN hj (tR k4)⟩ hj;exact⟨n.val,m.val,h1,m.isLt,h2⟩
structure UpI(k0 DN s j:Nat)(n:NS):Prop where
 k:n.k=k0
 room:n.room=DN
 or:n.lines (s-1) j≠[]\/NeL k0 n.lines s
theorem Ua{k room s j l:Nat}{n:NS}(k4:k<=4)(s1:1<=s)(sk:s<=k)(hl:l<2 ^ k)(r1:1<=room)(U:UpI k room s j n):UpI k room s j (yO n s l)/\(l=j->NeL k (yO n s l).lines s):=by
 obtain⟨rfl,rfl,U⟩:=U;have sm:=xj n s l;have mL:l=j->NeL n.k (yO n s l).lines s:=fun e=>by
  rcases U with U|U
  ·rw[←e] at U;exact RU k4 s1 sk hl r1 U
  ·exact sr k4 s1 sk hl U
 refine⟨⟨sm.k,sm.room,?_⟩,mL⟩;by_cases c:l=j
 ·exact .inr (mL c)
 ·rcases U with U|U
  ·left;rw[qV (fun z=>c z.2.symm) (by omega)];exact U
  ·exact .inr (sr k4 s1 sk hl U)
theorem TL{k room s j i:Nat}{n:NS}(k4:k<=4)(s1:1<=s)(sk:s<=k)(hi:i<2 ^ (k-1))(r1:1<=room)(U:UpI k room s j n):UpI k room s j (yY [] s n i)/\((∃m,m<2/\sN k s i m=j)->NeL k (yY [] s n i).lines s):=by
 have ek:=U.k;have e:yY [] s n i=yO (yO n s (sN k s i (n.now % 2))) s (sN k s i (1-n.now % 2)):=by
  unfold yY;rw[if_neg (by simp),ek]
 have m2:n.now % 2<2:=ft _ (by decide);have l1:=wJ k4 s1 sk hi m2;have l2:=wJ k4 s1 sk hi (show 1-n.now % 2<2 by omega);obtain⟨U1,h1⟩:=Ua k4 s1 sk l1 r1 U;obtain⟨U2,h2⟩:=Ua k4 s1 sk l2 r1 U1;rw[e];refine⟨U2,fun⟨m,hm,em⟩=>?_⟩;by_cases c:m=n.now % 2
 ·have:=h1 (by rw[←c];exact em);have k1:=U1.k;have z:=sr (ns:=yO n s (sN k s i (n.now % 2))) (s:=s) (l:=sN k s i (1-n.now % 2)) (h:=s) (by rw[k1];exact k4) s1 (by rw[k1];exact sk) (by rw[k1];exact l2) (by rw[k1];exact this);rw[k1] at z;exact z
 ·exact h2 (by rw[show 1-n.now % 2=m by omega];exact em)
theorem Xp{k room s j:Nat}{n:NS}(k4:k<=4)(s1:1<=s)(sk:s<=k)(r1:1<=room)(U:UpI k room s j n):∀{i},i<=2 ^ (k-1)->UpI k room s j (passS [] n s i)/\((∃i' m,i'<i/\m<2/\sN k s i' m=j)->NeL k (passS [] n s i).lines s)
 |0,_=>⟨U,fun⟨_,_,h,_⟩=>absurd h (cR _)⟩
 |i+1,hi=>by
  obtain⟨U1,h1⟩:=Xp k4 s1 sk r1 U (i:=i) (by omega);have es:passS [] n s (i+1)=yY [] s (passS [] n s i) i:=by unfold passS;rw[zM]
  rw[es];obtain⟨U2,h2⟩:=TL k4 s1 sk (show i<2 ^ (k-1) by omega) r1 U1;refine⟨U2,fun⟨i',m,h3,hm,em⟩=>?_⟩;by_cases c:i'=i
  ·exact h2 ⟨m,hm,by rw[←c];exact em⟩
  ·have z:=h1 ⟨i',m,by omega,hm,em⟩;have k1:=U1.k;exact(Zo (P:=fun n=>n.k=k/\NeL k n.lines s) (gone:=[]) (fun n h=>by rw[h.1];exact k4) (fun n s' l h s1 sk hl=>⟨(xj n s' l).k.trans h.1,by
    have:=sr (by rw[h.1];exact k4) s1 sk hl (by rw[h.1];exact h.2);rw[h.1] at this;exact this⟩) ⟨k1,z⟩ s1 (by rw[k1];exact sk) (by rw[k1];omega)).2
theorem Zp{s a b:Nat}{gone:List (Nat×Nat)}{n:NS}(h:a+1<s):∀{i},(passS gone n s i).lines a b=n.lines a b
 |0=>rfl
 |i+1=>by
  have es:passS gone n s (i+1)=yY gone s (passS gone n s i) i:=by unfold passS;rw[zM]
  have ih:=Zp (gone:=gone) (n:=n) (b:=b) h (i:=i);rw[es];unfold yY;split
  ·exact ih
  ·rw[qV (s:=s) (a:=a) (fun z=>by have:=z.1;omega) (by omega),qV (s:=s) (a:=a) (fun z=>by have:=z.1;omega) (by omega)];exact ih
theorem Xq{k:Nat}{n:NS}{l j:Nat}(ek:n.k=k)(k4:k<=4)(r1:1<=n.room)(hl:l<k)(hj:j<2 ^ k)(hn:n.lines l j≠[]):∀{i},i<=k->((i<=k-(l+1)->(passA [] n i).lines l j=n.lines l j)/\(k-(l+1)<i->NeL k (passA [] n i).lines (l+1)))
 |0,_=>⟨fun _=>rfl,fun h=>absurd h (cR _)⟩
 |i+1,hi=>by
  obtain⟨ih1,ih2⟩:=Xq ek k4 r1 hl hj hn (i:=i) (by omega);have sm:=y6 [] n i;have e1:(passA [] n i).k=k:=sm.k.trans ek;rw[uH,e1];refine⟨fun h=>?_,fun h=>?_⟩
  ·rw[Zp (by omega)];exact ih1 (by omega)
  ·by_cases c:i=k-(l+1)
   ·have es:k-i=l+1:=by omega
    rw[es];have w:(passA [] n i).lines l j≠[]:=by rw[ih1 (by omega)];exact hn
    obtain⟨n',m,h1,h2,h3⟩:=zao (s:=l+1) k4 (by omega) (by omega) hj;exact(Xp (k:=k) (room:=n.room) (s:=l+1) (j:=j) k4 (by omega) (by omega) r1 ⟨e1,sm.room,.inl w⟩ (aE _)).2 ⟨n',m,h1,h2,h3⟩
   ·have z:=ih2 (by omega);exact(sn (P:=fun n=>n.k=k/\NeL k n.lines (l+1)) (gone:=[]) (fun n h=>by rw[h.1];exact k4) (fun n s' l' h s1 sk hl=>⟨(xj n s' l').k.trans h.1,by
     have:=sr (by rw[h.1];exact k4) s1 sk hl (by rw[h.1];exact h.2);rw[h.1] at this;exact this⟩) ⟨e1,z⟩ (show 1<=k-i by omega) (by rw[e1];omega) (by rw[e1];exact aE _)).2
noncomputable def ug(d:Nat->List Wt)(m:Nat):List Nat:=(aR m).flatMap fun t=>yc (d (t+1))
theorem xK{d:Nat->List Wt}{m:Nat}:ug d (m+1)=ug d m++yc (d (m+1)):=by
 unfold ug;rw[dU,fT];simp
theorem wV{d d':Nat->List Wt}:∀{m:Nat},(∀t,1<=t->t<=m->d t=d' t)->ug d m=ug d' m
 |0,_=>rfl
 |m+1,h=>by rw[xK,xK,wV fun t h1 h2=>h t h1 (by omega),h (m+1) (by omega) (aE _)]
theorem vX{d:Nat->List Wt}{m:Nat}:∀{n:Nat},m<=n->∃r,ug d n=ug d m++r
 |0,h=>⟨[],by rw[bB,Nat.le_zero.mp h]⟩
 |n+1,h=>by
  by_cases c:m=n+1
  ·exact⟨[],by rw[bB,c]⟩
  ·obtain⟨r,e⟩:=vX (d:=d) (m:=m) (n:=n) (by omega);exact⟨r++yc (d (n+1)),by rw[xK,e,bD]⟩
theorem ss{l:List Nat}(h:∀n,l.count n<=1):l.Nodup:=by
 induction l with
 |nil=>exact iO
 |cons a l ih =>
  refine cJ.mpr ⟨fun z=>?_,ih fun n=>bM (List.count_le_count_cons ..) (h n)⟩;have h1:=h a;rw[List.count_cons_self] at h1;have:=kC.mpr z;omega
noncomputable def Ub(now w:Nat)(F:Nat->Nat):Nat:=sS w fun i=>if i<now then F (now-i) else 0
theorem qa{F:Nat->Nat}:∀{w:Nat},sS (w+1) F=F 0+sS w fun i=>F (i+1)
 |0=>by rw[yL];show 0+F 0=F 0+0;omega
 |w+1=>by rw[yL,qa,yL];omega
structure NW(ns:NS):Prop where
 nr:NR ns
 nd:ns.nd=ns.now
 r1:1<=ns.room
 cnt:∀n,wsN ns.k ns.lines (fun w=>w.nums.count n)+ns.log.count n=if n<ns.asks.length then 1 else 0
 lg:ns.log=ug ns.done ns.now
 fk:∀n∈ns.log,(xu ns.fnd n).isSome=true
 an:ns.ans.map (·.1)=ug ns.done (ns.now-ns.k)
 kp:∀s n,1<=s->s<=ns.k->n<2 ^ (ns.k-1)->ns.keep s n=((wsN ns.k ns.lines (gq (s,n))+Ub ns.now (ns.k-s+1) fun t=>yt (gq (s,n)) (ns.done t):Nat):Int)
theorem Yu{k:Nat}{f:Nat->Nat->List Wt}{g:Wt->Nat}(h:∀l j,l<=k->j<2 ^ k->f l j=[]):wsN k f g=0 :=
 vQ fun l hl=>vQ fun j hj=>by rw[h l j (by omega) hj];rfl
theorem NW.new{k room kept:Nat}{b:List Int}(k4:k<=4)(b16:b.length<=16)(r1:1<=room):NW (t4 k b room kept):=by
 have z:∀g,wsN k (t4 k b room kept).lines g=0:=fun g=>Yu fun _ _ _ _=>rfl;refine⟨⟨k4,b16,aX _,fun l j _ _ w hw=>(by cases hw),fun t h1 h2=>?_,?_,aX _,aE _,aE _⟩,rfl,r1,fun n=>?_,rfl,fun n hn=>(by cases hn),?_,fun s n _ _ _=>?_⟩
 ·have:t<=0:=h2;omega
 ·show wsN k _ wH+0=0;rw[z]
 ·show wsN k _ _+0=if n<0 then 1 else 0
  rw[z,if_neg (cR _)]
 ·show[]=ug _ (0-k);rw[Nat.zero_sub];rfl
 ·show(0:Int)=_;have:Ub 0 (k-s+1) (fun t=>yt (gq (s,n)) [])=0:=vQ fun i _=>if_neg (cR _);show(0:Int)=((wsN k _ _+Ub 0 (k-s+1) (fun t=>yt (gq (s,n)) []):Nat):Int)
  rw[z,this];rfl
theorem NW.put{ns:NS}(h:NW ns){a:Ask}(hh:a.hand.toNat<2 ^ ns.k)(hb:a.box.toNat<ns.boxes.length)(Bj:ns.asks.length<40):NW (jq ns a):=by
 have el:(jq ns a).asks.length=ns.asks.length+1:=by show(ns.asks++[a]).length=_;rw[aI];rfl
 refine⟨h.nr.put hh hb Bj,h.nd,h.r1,fun n=>?_,h.lg,h.fk,h.an,fun s n s1 sk hn=>?_⟩
 ·rw[el];have h1:=Yt (ns:=ns) (a:=a) (g:=fun w=>w.nums.count n) hh;have h2:=h.cnt n;show wsN ns.k (jq ns a).lines _+ns.log.count n=_;have e:([ns.asks.length]:List Nat).count n=if n=ns.asks.length then 1 else 0:=by
   rw[List.count_singleton];by_cases c:n=ns.asks.length
   ·rw[if_pos c,if_pos (by rw[c];exact beq_self_eq_true _)]
   ·rw[if_neg c,if_neg (fun z=>c (beq_iff_eq.mp z).symm)]
  have h1:wsN ns.k (jq ns a).lines (fun w=>w.nums.count n)=wsN ns.k ns.lines (fun w=>w.nums.count n)+([ns.asks.length]:List Nat).count n:=h1;rw[e] at h1;split at h1 <;> split at h2 <;> split <;> omega
 ·have h1:=Yt (ns:=ns) (a:=a) (g:=gq (s,n)) hh;have e:gq (s,n) ⟨a.box.toNat,a.deed,[ns.asks.length],[]⟩=0:=rfl;rw[e] at h1;show ns.keep s n=((wsN ns.k (jq ns a).lines _+_:Nat):Int)
  rw[h1];exact h.kp s n s1 sk hn
theorem Jj{s a b:Nat}{kp:Nat->Nat->Int}{sw:Nat×Nat}:fgM s kp sw a b=kp a b-if a=s/\sw=(a,b) then 1 else 0:=by
 unfold fgM;by_cases c:sw.1=s
 ·rw[if_pos c];by_cases d:a=sw.1/\b=sw.2
  ·rw[if_pos ⟨by rw[d.1,c],ky d.1.symm d.2.symm⟩,d.1,d.2,zr]
  ·rw[zt d,if_neg fun z=>d ⟨by rw[z.2],by rw[z.2]⟩];simp
 ·rw[if_neg c,if_neg fun z=>c (by rw[z.2];exact z.1)];simp
theorem SG{s a b:Nat}:∀{ms:List (Nat×Nat)} {kp:Nat->Nat->Int},ms.foldl (fgM s) kp a b=kp a b-if a=s then(ms.count (a,b):Int) else 0
 |[],kp=>by show kp a b=_;split <;> simp
 |m::ms,kp=>by
  show ms.foldl (fgM s) (fgM s kp m) a b=_;rw[SG,Jj,List.count_cons];by_cases c:a=s
  ·rw[if_pos c,if_pos c];by_cases d:m=(a,b)
   ·rw[if_pos ⟨c,d⟩,if_pos (by rw[d];exact beq_self_eq_true _)];push_cast;omega
   ·rw[if_neg fun z=>d z.2,if_neg (fun z=>d (beq_iff_eq.mp z))];push_cast;omega
  ·rw[if_neg c,if_neg c,if_neg fun z=>c z.1];omega
theorem SH{s a b:Nat}:∀{ws:List Wt} {kp:Nat->Nat->Int},ws.foldl (fgW s) kp a b=kp a b-if a=s then(yt (gq (a,b)) ws:Int) else 0
 |[],kp=>by show kp a b=_;split <;> simp[wT]
 |w::ws,kp=>by
  show ws.foldl (fgW s) (fgW s kp w) a b=_;rw[SH,yb];have:fgW s kp w a b=kp a b-if a=s then(gq (a,b) w:Int) else 0:=SG
  rw[this];by_cases c:a=s
  ·rw[if_pos c,if_pos c,if_pos c];push_cast;omega
  ·rw[if_neg c,if_neg c,if_neg c];omega
theorem Uc{ns:NS}{a b:Nat}{kp:Nat->Nat->Int}:∀{i:Nat},(aR i).foldl (fun kp i=>fgS ns kp (i+1)) kp a b=kp a b-if 1<=a/\a<=i then(yt (gq (a,b)) (uU ns (ns.k-a+1)):Int) else 0
 |0=>by rw[if_neg (by omega)];show kp a b=_;omega
 |i+1=>by
  rw[zM];have:∀kp,fgS ns kp (i+1) a b=kp a b-if a=i+1 then(yt (gq (a,b)) (uU ns (ns.k-(i+1)+1)):Int) else 0:=fun kp=>SH
  rw[this,Uc (i:=i)];by_cases c:a=i+1
  ·rw[if_neg (show ¬(1<=a/\a<=i) by omega),if_pos c,if_pos (show 1<=a/\a<=i+1 by omega),←c];omega
  ·rw[if_neg c];by_cases d:1<=a/\a<=i
   ·rw[if_pos d,if_pos (show 1<=a/\a<=i+1 by omega)];omega
   ·rw[if_neg d,if_neg (show ¬(1<=a/\a<=i+1) by omega)];omega
theorem Ud{b:Nat}:∀{l:List Nat} {ns:NS} {n:Nat},(n∈l\/(xu ns.fnd n).isSome=true)->(xu (l.foldl (doN b) ns).fnd n).isSome=true
 |[],ns,n,h=>by
  rcases h with h|h
  ·cases h
  ·exact h
 |a::l,ns,n,h=>by
  refine Ud (l:=l) (ns:=doN b ns a) ?_;have e:(xu (doN b ns a).fnd n)=if n=a then some (ns.boxes.getD b 0) else xu ns.fnd n:=Tt
  rw[e];by_cases c:n=a
  ·rw[if_pos c];exact .inr rfl
  ·rw[if_neg c];rcases h with h|h
   ·exact .inl ((aS.mp h).resolve_left c)
   ·exact .inr h
theorem SI:∀{l:List Wt} {ns:NS} {n:Nat},(n∈yc l\/(xu ns.fnd n).isSome=true)->(xu (l.foldl doW ns).fnd n).isSome=true
 |[],ns,n,h=>by
  rcases h with h|h
  ·cases h
  ·exact h
 |w::l,ns,n,h=>by
  refine SI (l:=l) (ns:=doW ns w) ?_;rcases h with h|h
  ·have h:n∈w.nums++yc l:=h;rcases aP.mp h with h|h
   ·exact .inr (Ud (.inl h))
   ·exact .inl h
  ·exact .inr (Ud (.inr h))
theorem wL:∀{l f:List (Nat×Int)},(l.map (·.1)).Nodup->(∀p∈l,p.1∉f.map (·.1))->l.foldl (fun f p=>wR f p.1 p.2) f=f++l
 |[],f,_,_=>(bB _).symm
 |p::l,f,hn,hf=>by
  have e:wR f p.1 p.2=f++[p]:=by
   unfold wR;rw[if_neg];intro z;obtain⟨q,hq,e⟩:=iW.mp z;exact hf p (aU ..) (aW.mpr ⟨q,hq,of_decide_eq_true e⟩)
  show l.foldl _ (wR f p.1 p.2)=_;have hn:(p.1::l.map (·.1)).Nodup:=hn;obtain⟨h1,h2⟩:=cJ.mp hn;rw[e,wL h2 fun q hq z=>?_,bD];rfl;rw[bC,aP] at z;rcases z with z|z
  ·exact hf q (aK _ hq) z
  ·have z:q.1=p.1:=aB.mp z;exact h1 (by rw[←z];exact aW.mpr ⟨q,hq,rfl⟩)
theorem qW{ns:NS}:∀{l:List Wt},(l.flatMap (uV ns)).map (·.1)=yc l
 |[]=>rfl
 |w::l=>by
  rw[List.flatMap_cons,bC,qW];show _=w.nums++yc l
  congr 1
  unfold uV;rw[bZ];exact List.map_id _
theorem NW.l40{ns:NS}(h:NW ns):ns.log.length<=40:=by
 have h1:=h.nr.tot;have h2:=h.nr.a40;omega
theorem NW.lnd{ns:NS}(h:NW ns):ns.log.Nodup:=ss fun n=>by
 have:=h.cnt n;split at this <;> omega
structure GoneI(gone:List (Nat×Nat))(ns n4:NS):Prop where
 nr:NR n4
 k:n4.k=ns.k
 room:n4.room=ns.room
 kept:n4.kept=ns.kept
 bl:n4.boxes.length=ns.boxes.length
 asks:n4.asks=ns.asks
 now:n4.now=ns.now+1
 nd:n4.nd=ns.now+1
 done:n4.done=sO ns.done (ns.now+1) (zD gone (zj (zu ns)) (2 ^ ns.k)).1
 log:n4.log=ns.log++yc (zD gone (zj (zu ns)) (2 ^ ns.k)).1
 ans:n4.ans=ns.ans
 cnt:∀n,wsN ns.k n4.lines (fun w=>w.nums.count n)+n4.log.count n=if n<ns.asks.length then 1 else 0
 fk:∀n∈n4.log,(xu n4.fnd n).isSome=true
 kp:∀s n,1<=s->s<=ns.k->n<2 ^ (ns.k-1)->n4.keep s n=((wsN ns.k n4.lines (gq (s,n))+Ub (ns.now+1) (ns.k-s+1) fun t=>yt (gq (s,n)) (n4.done t):Nat):Int)
theorem su{ns:NS}(h:NW ns)(nw:ns.now<10000)(gone:List (Nat×Nat)):GoneI gone ns (zA gone ns):=by
 have k4:=h.nr.k4;have AC:(zj (zu ns)).nd+1=(zj (zu ns)).now:=by show ns.nd+1=ns.now+1;rw[h.nd]
 have nr2:=(h.nr.tick nw).forget;have CM:=nr2.take (gone:=gone) AC;have D:=Ys gone (zj (zu ns));have F:=Zk (gone:=gone) (ns:=zj (zu ns)) (aE _);have ek:(zW gone (zj (zu ns))).k=ns.k:=D.k;have fk3:∀n,(n∈yc (zD gone (zj (zu ns)) (2 ^ ns.k)).1\/(xu ns.fnd n).isSome=true)->(xu (zW gone (zj (zu ns))).fnd n).isSome=true:=fun n hn=>SI (ns:=WG gone (zj (zu ns))) hn;have I:=zan (n0:=zW gone (zj (zu ns))) (gone:=gone) (by rw[ek];exact k4) (i:=ns.k) (by rw[ek];exact aE _);have E4:=CM.passA (gone:=gone) (i:=ns.k) (by rw[ek];exact aE _);have eg:zA gone ns=passA gone (zW gone (zj (zu ns))) ns.k:=rfl;have Ak:∀g,yt g (zD gone (zj (zu ns)) (2 ^ ns.k)).1+wsN ns.k (zD gone (zj (zu ns)) (2 ^ ns.k)).2 g=wsN ns.k ns.lines g:=F.ws;have e2:∀a b,(zj (zu ns)).keep a b=ns.keep a b-if 1<=a/\a<=ns.k then(yt (gq (a,b)) (uU (zu ns) (ns.k-a+1)):Int) else 0:=fun a b=>Uc (ns:=zu ns) (i:=ns.k)
 rw[eg];have Dl:(zW gone (zj (zu ns))).lines=(zD gone (zj (zu ns)) (2 ^ ns.k)).2:=D.lines;have Dg:(zW gone (zj (zu ns))).log=ns.log++yc (zD gone (zj (zu ns)) (2 ^ ns.k)).1:=D.log;have Dd:(zW gone (zj (zu ns))).done=sO ns.done (ns.now+1) (zD gone (zj (zu ns)) (2 ^ ns.k)).1:=D.done;have Dk:=D.keep;have Dnd:(zW gone (zj (zu ns))).nd=ns.now+1:=by rw[D.nd];show ns.nd+1=_;rw[h.nd]
 have Dnow:(zW gone (zj (zu ns))).now=ns.now+1:=D.now;have Da:(zW gone (zj (zu ns))).asks=ns.asks:=D.asks;have Dr:(zW gone (zj (zu ns))).room=ns.room:=D.room;have Dq:(zW gone (zj (zu ns))).kept=ns.kept:=D.kept;have Db:(zW gone (zj (zu ns))).boxes.length=ns.boxes.length:=D.bl;have Ds:(zW gone (zj (zu ns))).ans=ns.ans:=D.ans;clear D F eg;generalize (zD gone (zj (zu ns)) (2 ^ ns.k)).2=L2' at *
 generalize Di:(zD gone (zj (zu ns)) (2 ^ ns.k)).1=tk at *
 generalize zW gone (zj (zu ns))=n3 at *
 generalize passA gone n3 ns.k=n4 at *
 have sm:=I.same;have Gd:∀g,Je g->wsN ns.k n4.lines g=wsN ns.k n3.lines g:=fun g hg=>by have:=I.cnt g hg;rw[ek] at this;exact this
 refine⟨E4,sm.k.trans ek,sm.room.trans Dr,sm.kept.trans Dq,by rw[sm.boxes];exact Db,sm.asks.trans Da,sm.now.trans Dnow,sm.nd.trans Dnd,(by rw[Di];exact sm.done.trans Dd),(by rw[Di];exact sm.log.trans Dg),sm.ans.trans Ds,fun n=>?_,fun n hn=>?_,fun s n s1 sk hn=>?_⟩
 ·rw[Gd _ RT,Dl,sm.log,Dg,gK,sg];have h1:=h.cnt n;have h2:=Ak (fun w=>w.nums.count n);rw[←h1];omega
 ·rw[sm.fnd];rw[sm.log,Dg] at hn;rcases aP.mp hn with hn|hn
  ·exact fk3 n (.inr (h.fk n hn))
  ·exact fk3 n (.inl hn)
 ·have h1:=h.kp s n s1 sk hn;have h2:=I.kp (s,n);rw[ek,Dl,Dk,e2 s n,if_pos ⟨s1,sk⟩] at h2;have h3:=Ak (gq (s,n));have h4:Ub ns.now (ns.k-s+1) (fun t=>yt (gq (s,n)) (ns.done t))=Ub ns.now (ns.k-s) (fun t=>yt (gq (s,n)) (ns.done t))+yt (gq (s,n)) (uU (zu ns) (ns.k-s+1)):=by
   unfold Ub;rw[yL]
   congr 1
   unfold uU;show(if ns.k-s<ns.now then yt (gq (s,n)) (ns.done (ns.now-(ns.k-s))) else 0)=yt (gq (s,n)) (if ns.k-s+1<ns.now+1/\ns.now+1-(ns.k-s+1)<=ns.nd then ns.done (ns.now+1-(ns.k-s+1)) else[]);by_cases c:ns.k-s<ns.now
   ·rw[if_pos c,if_pos ⟨by omega,by rw[h.nd];omega⟩,show ns.now+1-(ns.k-s+1)=ns.now-(ns.k-s) by omega]
   ·rw[if_neg c,if_neg (by omega)];rfl
  have h5:Ub (ns.now+1) (ns.k-s+1) (fun t=>yt (gq (s,n)) (n4.done t))=yt (gq (s,n)) tk+Ub ns.now (ns.k-s) (fun t=>yt (gq (s,n)) (ns.done t)):=by
   unfold Ub;rw[qa,sm.done,Dd]
   congr 1
   ·rw[if_pos (lC _)];show yt _ (sO ns.done (ns.now+1) tk (ns.now+1))=_;unfold sO;rw[if_pos rfl]
   ·refine wS fun i _=>?_;by_cases c:i<ns.now
    ·rw[if_pos c,if_pos (by omega)];show yt _ (sO ns.done (ns.now+1) tk (ns.now+1-(i+1)))=_;unfold sO;rw[if_neg (by omega),show ns.now+1-(i+1)=ns.now-i by omega]
    ·rw[if_neg c,if_neg (by omega)]
  rw[h5];rw[h4] at h1;have h2:(wsN ns.k n4.lines (gq (s,n)):Int)-n4.keep s n=wsN ns.k L2' (gq (s,n))-(ns.keep s n-yt (gq (s,n)) (uU (zu ns) (ns.k-s+1))):=h2
  push_cast at h1 ⊢
  omega
theorem NW.beat{ns:NS}(h:NW ns)(nw:ns.now<10000)(gone:List (Nat×Nat)):NT (zA gone ns)/\NW (beatS gone ns):=by
 have G:=su h nw gone;have eb:beatS gone ns=VP (zA gone ns):=rfl;rw[eb];generalize zA gone ns=n4 at G ⊢;have BI:n4.log=ug n4.done (ns.now+1):=by
  rw[xK,G.log,G.done];have e:sO ns.done (ns.now+1) (zD gone (zj (zu ns)) (2 ^ ns.k)).1 (ns.now+1)=(zD gone (zj (zu ns)) (2 ^ ns.k)).1:=if_pos rfl;rw[e,h.lg]
  congr 1
  exact wV fun t t1 t2=>by unfold sO;rw[if_neg (by omega)]
 have AC:n4.log.Nodup:=ss fun n=>by
  have:=G.cnt n;split at this <;> omega
 have l40:n4.log.length<=40:=by
  have h1:=G.nr.tot;have h2:=G.nr.a40;omega
 have oS:n4.ans.map (·.1)=ug n4.done (ns.now-ns.k):=by
  rw[G.ans,h.an,G.done];exact wV fun t t1 t2=>by unfold sO;rw[if_neg (by omega)]
 have pV:ug n4.done (ns.now+1-ns.k)=ug n4.done (ns.now-ns.k)++yc (uU n4 n4.k):=by
  unfold uU;rw[G.k,G.now,G.nd];by_cases c:ns.k<ns.now+1
  ·rw[if_pos ⟨c,by omega⟩,show ns.now+1-ns.k=(ns.now-ns.k)+1 by omega,xK]
  ·rw[if_neg (by omega),show ns.now+1-ns.k=0 by omega,show ns.now-ns.k=0 by omega];rfl
 have nE:(yq n4).map (·.1)=yc (uU n4 n4.k):=qW;obtain⟨r,hr⟩:=vX (d:=n4.done) (m:=ns.now+1-ns.k) (n:=ns.now+1) (by omega);rw[←BI] at hr;have Ge:(ug n4.done (ns.now-ns.k)++yc (uU n4 n4.k)).Nodup:=by
  rw[←pV];rw[hr] at AC;exact(eD.mp AC).1
 obtain⟨mD,mF,mV⟩:=eD.mp Ge;have my:(ug n4.done (ns.now-ns.k)).length+(yc (uU n4 n4.k)).length<=40:=by
  have:=congrArg iy hr;rw[pV,aI,aI] at this;omega
 have Gf:∀n∈yc (uU n4 n4.k),n∈n4.log:=fun n hn=>by
  rw[hr,pV];exact bR _ (aM _ hn)
 have nt:NT n4:=by
  refine⟨by rw[nE];exact mF,fun w hw n hn=>G.fk n (Gf n (List.mem_flatMap.mpr ⟨w,hw,hn⟩)),?_,?_⟩
  ·have:=congrArg iy nE;rw[aG] at this;omega
  ·have:=congrArg iy oS;rw[aG] at this;omega
 have DO:(VP n4).ans=n4.ans++yq n4:=by
  show(uW (yq n4)).foldl (fun f p=>wR f p.1 p.2) n4.ans=_;have e1:uW (yq n4)=yq n4:=by
   have:=wL (l:=yq n4) (f:=[]) (by rw[nE];exact mF) (fun p _ z=>by cases z);exact this
  rw[e1];refine wL (by rw[nE];exact mF) fun p hp z=>?_;rw[oS] at z;exact mV _ z _ (by rw[←nE];exact aW.mpr ⟨p,hp,rfl⟩) rfl
 refine⟨nt,⟨⟨G.nr.k4,G.nr.b16,G.nr.a40,G.nr.lw,G.nr.dw,G.nr.tot,G.nr.nw,G.nr.nd,G.nr.fl⟩,?_,?_,fun n=>?_,?_,G.fk,?_,fun s n s1 sk hn=>?_⟩⟩
 ·show n4.nd=n4.now;rw[G.nd,G.now]
 ·show 1<=n4.room;rw[G.room];exact h.r1
 ·show wsN n4.k n4.lines _+n4.log.count n=if n<n4.asks.length then 1 else 0
  rw[G.k,G.asks];exact G.cnt n
 ·show n4.log=ug n4.done n4.now;rw[G.now];exact BI
 ·rw[DO,bC,oS,nE,←pV];show ug n4.done (ns.now+1-ns.k)=ug n4.done (n4.now-n4.k);rw[G.now,G.k]
 ·have sk':s<=ns.k:=by rw[←G.k];exact sk
  have nD:n<2 ^ (ns.k-1):=by rw[←G.k];exact hn
  show n4.keep s n=((wsN n4.k n4.lines _+Ub n4.now (n4.k-s+1) fun t=>yt _ (n4.done t):Nat):Int)
  rw[G.k,G.now];exact G.kp s n s1 sk' nD
theorem vk{gone:List (Nat×Nat)}{ns:NS}{j:Nat}:∀{i:Nat},i<=j->(zD gone ns i).2 ns.k j=ns.lines ns.k j
 |0,_=>rfl
 |i+1,h=>by
  have ih:=vk (gone:=gone) (ns:=ns) (j:=j) (i:=i) (by omega);rw[yF];cases hc:(zD gone ns i).2 ns.k i with
  |nil=>rw[xk hc];exact ih
  |cons w r =>
   by_cases hg:(0,i)∈gone
   ·rw[yN hg];exact ih
   ·rw[xv hc hg];show zQ _ ns.k i r ns.k j=_;rw[zt (fun z=>by have:=z.2;omega)];exact ih
theorem qb{gone:List (Nat×Nat)}{ns:NS}{i:Nat}(h:(zD gone ns i).1≠[]):∀d,(zD gone ns (i+d)).1≠[]
 |0=>h
 |d+1=>by
  have ih:=qb h d;rw[←Nat.add_assoc,yF];cases hc:(zD gone ns (i+d)).2 ns.k (i+d) with
  |nil=>rw[xk hc];exact ih
  |cons w r =>
   by_cases hg:(0,i+d)∈gone
   ·rw[yN hg];exact ih
   ·rw[xv hc hg];simp
theorem Wi{ns:NS}{j:Nat}(hj:j<2 ^ ns.k)(h:ns.lines ns.k j≠[]):(zD [] ns (2 ^ ns.k)).1≠[]:=by
 have e:2 ^ ns.k=(j+1)+(2 ^ ns.k-(j+1)):=by omega
 rw[e];refine qb ?_ _;rw[yF];have z:=vk (gone:=[]) (ns:=ns) (j:=j) (i:=j) (aE _);cases hc:ns.lines ns.k j with
 |nil=>exact absurd hc h
 |cons w r=>rw[hc] at z;rw[xv z (by simp)];simp
theorem sv{gone:List (Nat×Nat)}{ns:NS}:∀{i:Nat},(zD gone ns i).1=[]->(zD gone ns i).2=ns.lines
 |0,_=>rfl
 |i+1,h=>by
  rw[yF] at h ⊢;cases hc:(zD gone ns i).2 ns.k i with
  |nil=>rw[xk hc] at h ⊢;exact sv h
  |cons w r =>
   by_cases hg:(0,i)∈gone
   ·rw[yN hg] at h ⊢;exact sv h
   ·rw[xv hc hg] at h;simp at h
def RV(ns:NS)(m:Nat):Prop:=ns.log.length=ns.asks.length\/∃h,h<=ns.k/\NeL ns.k ns.lines h/\(ns.asks.length-ns.log.length)*(ns.k+1)<=m+h
theorem Jk{k:Nat}{f:Nat->Nat->List Wt}{g:Wt->Nat}(h:0<wsN k f g):NeL k f 0:=by
 apply ib;intro c;have:wsN k f g=0:=Yu fun l j hl hj=>ib fun z=>c ⟨l,j,aX _,hl,hj,z⟩;omega
theorem Ue{ns:NS}(nr:NR ns){m:Nat}(h:(ns.asks.length-ns.log.length)*(ns.k+1)<=m):RV ns m:=by
 have h1:=nr.tot;by_cases c:ns.log.length=ns.asks.length
 ·exact .inl c
 ·exact .inr ⟨0,aX _,Jk (g:=wH) (by omega),h⟩
theorem RW{ns:NS}(nr:NR ns)(h:RV ns 0):ns.log.length=ns.asks.length:=by
 rcases h with h|⟨h,hk,_,hm⟩
 ·exact h
 ·have h1:=nr.tot;by_cases c:ns.log.length=ns.asks.length
  ·exact c
  ·have:1*(ns.k+1)<=(ns.asks.length-ns.log.length)*(ns.k+1):=gV _ (by omega);omega
theorem Uf{l:List Wt}(h:l≠[])(hn:∀w∈l,w.nums≠[]):1<=(yc l).length:=by
 cases l with
 |nil=>exact absurd rfl h
 |cons w r =>
  have:=hn w (aU ..);show 1<=(w.nums++yc r).length;rw[aI];cases e:w.nums with
  |nil=>exact absurd e this
  |cons a b=>show 1<=b.length+1+_;omega
section
variable{ns:NS}{gone:List (Nat×Nat)}{m:Nat}
theorem RX(h:NW ns):∀w∈(zD gone (zj (zu ns)) (2 ^ ns.k)).1,w.nums≠[]:=fun w hw=>by
 have F:=Zk (gone:=gone) (ns:=zj (zu ns)) (aE _);obtain⟨j,hj,hw⟩:=F.tk w hw;exact(h.nr.lw ns.k j (aE _) hj w hw).ne
theorem TM(h:NW ns)(nw:ns.now<10000)(hp:RV ns (m+1))(ht:(zD gone (zj (zu ns)) (2 ^ ns.k)).1≠[]):RV (beatS gone ns) m:=by
 have G:=su h nw gone;have B:=(h.beat nw gone).2;refine Ue B.nr ?_;show((zA gone ns).asks.length-(zA gone ns).log.length)*((zA gone ns).k+1)<=m;rw[G.asks,G.log,G.k,aI];have h1:=Uf ht (RX h);have h2:=h.nr.tot;have h3:=B.nr.tot;have h3:wsN _ _ wH+(zA gone ns).log.length=(zA gone ns).asks.length:=h3;rw[G.log,G.asks,aI] at h3;rcases hp with hp|⟨x,hk,_,hm⟩
 ·omega
 ·generalize (yc (zD gone (zj (zu ns)) (2 ^ ns.k)).1).length=t at *
  have e:(ns.asks.length-ns.log.length)*(ns.k+1)=(ns.asks.length-(ns.log.length+t))*(ns.k+1)+t*(ns.k+1):=by rw[←Nat.add_mul];congr 1;omega
  have:1*(ns.k+1)<=t*(ns.k+1):=gV _ h1;omega
theorem Ug(h:NW ns)(nw:ns.now<10000)(hp:RV ns (m+1)):RV (beatS [] ns) m:=by
 by_cases ht:(zD [] (zj (zu ns)) (2 ^ ns.k)).1=[]
 ·have G:=su h nw [];have el:(zA [] ns).log=ns.log:=by rw[G.log,ht];exact bB _
  rcases hp with hp|⟨x,hk,⟨l,j,hl,hlk,hj,hn⟩,hm⟩
  ·left;show(zA [] ns).log.length=(zA [] ns).asks.length;rw[el,G.asks];exact hp
  ·have lk:l<ns.k:=by
    apply ib;intro c;have:l=ns.k:=by omega
    subst this;exact Wi (ns:=zj (zu ns)) hj hn ht
   right;refine⟨x+1,by show x+1<=(zA [] ns).k;rw[G.k];omega,?_,?_⟩
   ·have D:=Ys [] (zj (zu ns));have ek:(zW [] (zj (zu ns))).k=ns.k:=D.k;have er:(zW [] (zj (zu ns))).room=ns.room:=D.room;have Gg:(zW [] (zj (zu ns))).lines=ns.lines:=D.lines.trans (sv ht);obtain⟨a,b,h1,h2,h3,h4⟩:=(Xq (n:=zW [] (zj (zu ns))) ek h.nr.k4 (by rw[er];exact h.r1) lk hj (by rw[Gg];exact hn) (i:=ns.k) (aE _)).2 (by omega);show NeL (zA [] ns).k (zA [] ns).lines (x+1);rw[G.k];exact⟨a,b,by omega,h2,h3,h4⟩
   ·show((zA [] ns).asks.length-(zA [] ns).log.length)*((zA [] ns).k+1)<=m+(x+1)
    rw[el,G.asks,G.k];omega
 ·exact TM h nw hp ht
structure Idle(ns:NS)(i:Nat):Prop where
 nw:NW ns
 full:ns.log.length=ns.asks.length
 nil:∀j,j<i->j<ns.now->ns.done (ns.now-j)=[]
theorem vY(nr:NR ns)(h:ns.log.length=ns.asks.length){l j:Nat}(hl:l<=ns.k)(hj:j<2 ^ ns.k):ns.lines l j=[]:=by
 have h1:=nr.tot;have h2:=VQ (f:=ns.lines) (g:=wH) hl hj;have h3:=tf (g:=wH) (ws:=ns.lines l j) fun w hw=>by
  have:=(nr.lw l j hl hj w hw).ne;show 1<=w.nums.length;cases e:w.nums with
  |nil=>exact absurd e this
  |cons a r=>exact hG (aX _)
 exact f' (by omega)
theorem Idle.beat{i:Nat}(h:Idle ns i)(nw:ns.now<10000):Idle (beatS gone ns) (i+1):=by
 have G:=su h.nw nw gone;have ht:(zD gone (zj (zu ns)) (2 ^ ns.k)).1=[]:=by
  have F:=Zk (gone:=gone) (ns:=zj (zu ns)) (aE _);cases e:(zD gone (zj (zu ns)) (2 ^ ns.k)).1 with
  |nil=>rfl
  |cons w r =>
   obtain⟨j,hj,hw⟩:=F.tk w (show w∈(zD gone (zj (zu ns)) (2 ^ ns.k)).1 by rw[e];exact aU ..);have hw:w∈ns.lines ns.k j:=hw;rw[vY h.nw.nr h.full (aE _) hj] at hw;cases hw
 refine⟨(h.nw.beat nw gone).2,?_,fun j hj Gh=>?_⟩
 ·show(zA gone ns).log.length=(zA gone ns).asks.length;rw[G.log,ht,G.asks];show(ns.log++[]).length=_;rw[bB];exact h.full
 ·have Gh:j<(zA gone ns).now:=Gh;show(zA gone ns).done ((zA gone ns).now-j)=[]
  rw[G.now] at Gh ⊢;rw[G.done,ht];unfold sO;by_cases c:j=0
  ·rw[if_pos (by omega)]
  ·rw[if_neg (by omega),show ns.now+1-j=ns.now-(j-1) by omega];exact h.nil (j-1) (by omega) (by omega)
theorem Zq{d:Nat->List Wt}{m:Nat}:∀{r:Nat},(∀t,m<t->t<=m+r->d t=[])->ug d (m+r)=ug d m
 |0,_=>rfl
 |r+1,h=>by
  rw[←Nat.add_assoc,xK,h (m+r+1) (by omega) (by omega),Zq fun t h1 h2=>h t h1 (by omega)];exact bB _
theorem Idle.end(h:Idle ns ns.k):ns.ans.map (·.1)=ns.log:=by
 rw[h.nw.an,h.nw.lg];have e:ns.now=(ns.now-ns.k)+(ns.now-(ns.now-ns.k)):=by omega
 have:=Zq (d:=ns.done) (m:=ns.now-ns.k) (r:=ns.now-(ns.now-ns.k)) fun t h1 h2=>by
  have:=h.nil (ns.now-t) (by omega) (by omega);rw[show ns.now-(ns.now-t)=t by omega] at this;exact this
 rw[←e] at this;exact this.symm
theorem vZ(h:NW ns){n:Nat}(hn:n∈ns.log):n<ns.asks.length:=by
 have h1:=h.cnt n;have:=kC.mpr hn;by_cases c:n<ns.asks.length
 ·exact c
 ·rw[if_neg c] at h1;omega
end
section
variable{prog:Program}{w:World}{A:Around}{E:VS7}{s:Shared}
theorem sx{it t:Addr}{items:Array Value}(oP:t≠it):∀(n i:Nat) (s:Shared) (Q:List Value->Shared->Prop),s.heap.IsListIter it t i->s.heap.IsList t items->i+n<=items.size→
  (∀h',h'.IsListIter it t (i+n)->fA it s.heap h'->Q ((items.toList.drop i).take n) { s with heap:=h' })->wpAny (model prog w) A (draw (.ref it) n) Q E s
 |0,i,s,Q,mW,_,_,hQ=>by
  show wpAny _ _ (pure []) Q E s;exact aF (by simpa using hQ s.heap mW (Heap.SameBut.refl ..))
 |n+1,i,s,Q,mW,ht,BJ,hQ=>by
  have mE:i<items.size:=by omega
  show wpAny _ _ (pyNext (.ref it) >>= _) Q E s;refine aA (wpAny_pyNext_list_item mW ht (x:=items[i]) (by simp[mE]) fun h₁ pi oT=>?_);refine aA (bT (sx oP n (i+1) _ _ pi (ht.extBut oT.extBut oP) (by omega) fun h₂ B5 DP=>aF ?_));have hd:items.toList.drop i=items[i]::items.toList.drop (i+1):=by simp[fJ,mE]
  have:=hQ h₂ (by rw[show i+(n+1)=i+1+n by omega];exact B5) (oT.trans DP);rw[hd,List.take_succ_cons] at this;exact this
theorem ua{t:Addr}{items:Array Value}{Q:List Value->Shared->Prop}(hh:A.handled=none)(ht:s.heap.IsList t items)
  (hQ:∀h',kL s.heap.objs.size s.heap h'->Q items.toList { s with heap:=h' }):wpAny (model prog w) A (unpackItems (.ref t) items.size none) Q E s:=by
 have mE:t≠s.heap.objs.size:=by obtain⟨o,ho,_⟩:=ht;exact aT (aQ ho)
 unfold unpackItems;refine aA ?_
 ·unfold notIterableAtAll;refine aA (lO ht.typeIs F.slot_list_iter.lookup ?_);refine aF ?_;simp only[cY,if_false]
  refine aA (bT (fe ht ?_));refine aA (bT (sx mE items.size 0 _ _ ⟨_,aL _ rfl,rfl,rfl⟩ (ht.push _) (by omega) fun h₁ pi oT=>?_));have oi:List.take items.size (List.drop 0 items.toList)=items.toList:=by
   rw[List.drop_zero];exact List.take_of_length_le (by simp)
  rw[oi];rw[if_neg (by simp)];have DQ:h₁.IsList t items:=(ht.push _).extBut oT.extBut mE;refine aA (bT (wpAny_pyNext_list_end hh pi DQ (by simp) fun h₂ DR=>?_));simp only[Option.isSome_none,cY,if_false]
  refine aF (hQ h₂ fun b o hb e=>DR b o hb (oT.extBut b o hb (aD _ e)))
theorem vm{env:Env}{oo:List Expr}{x1}{pos:Pos}{t:Addr}{items:Array Value}{Q:Unit->Shared->Prop}(hh:A.handled=none)(ht:s.heap.IsList t items)
  (hn:(fh oo env).length=items.size) (DS:(fh oo env).findIdx? (·.1)=none)
  (h:∀h',kL s.heap.objs.size s.heap h'->wpAny (model prog w) A (ie ((fh oo env).map (·.2)) items.toList) Q E { s with heap:=h' }) :
  wpAny (model prog w) A (i5 (.Tuple oo x1 pos) env (.ref t)) Q E s:=by
 rw[assign_Tuple];refine aA (eF ?_);unfold unpack;rw[hn,DS];exact aA (bT (ua hh ht h))
end
section
variable{X:Cx}{pos:Pos}
def Jl(K:FG7)(n:Nat)(t:TGs):TG:=fun v σ H Q=>∃a xs,v=.ref a/\SqL K H a xs/\xs.length=n/\t xs σ H Q
theorem TN{es:List Expr}{k:Nat}{t:TGs}{n:Nat}(hc:X.calm=true)(h:PGs X es t)
  (hn:(fh es X.env).length=n:=by rfl) (oh:(fh es X.env).findIdx? (·.1)=none:=by rfl):PG X (.Tuple es k pos) (Jl X.K n t):=by
 intro mw s σ H v u Q I r hw;obtain⟨a,xs,e1,hq,hl,hw⟩:=hw;subst e1;cases r;obtain⟨its,rv,ht,hz⟩:=I.list hq;refine vm (I.ok.hd hc) ht.isList (by simp[hn,←hl,rv.length]) oh fun h' hx=>?_;have I1:Inv X mw σ H { s with heap:=h' }:=I.kept (t':=s.toks) fun b o e=>hx b o (aT (aQ e)) e;exact h mw _ σ H xs _ Q I1 (by simpa using rv) hw
end
def Yv(_:FG7):Sp:=sp1 fun x H Q=>∃a,x=.ref a/\Pot H a/\∀n H',-(10 ^ 29)<=n->n<=10 ^ 29->Grow [a] H H'->Pot H' a->Q (.int n) H'
structure FunD(K:FG7)(x qual:Str)(st:Stmt)(f:Addr)(fd:FuncData):Prop where
 ex:∃(oc:Value) (od:Option Addr) (dV kV nA pm:Value) (an:Option Addr) (mz ct:Value) (pJ:Array (Option Value)),
  fd=bU x qual (zV st) (zP st) (zh st) dV kV nA pm an mz ct/\K.lookup f=some ⟨oc,od,.func fd,pJ⟩/\cC K mz qual=true
 kp:bQ K (.ref f)=true
def TQ(P:Program)(w:World)(K:FG7)(mg:Str->Option Value)(base:Heap)(C:Addr)(k:Nat)(m:Str)(ps:List Str)(ds:List Value)(sp:Sp):Prop :=
 ∃(f:Addr) (fd:FuncData),FnOk P w K mg base CX0 k f fd ps sp/\wE K fd ps ds/\Meth K C m f
section
variable{P:Program}{w:World}{K:FG7}{mg:Str->Option Value}{base:Heap}
theorem FunD.ok{x qual:Str}{st:Stmt}{f:Addr}{fd:FuncData}{N ps:List Str}{k:Nat}{sp:Sp}(F:FunD K x qual st f fd)(S:FnScope N ps (zh st))(len:∀vs H Q E,sp vs H Q E->vs.length=ps.length)
  (oO:∀(mz:Value) (A:Around) (outer:List Env) (s:Shared) (H:Hp) (vs:List V) (Q:VK) (E:XK),Room k (A.deeper (lq qual (zh st) s.heap.objs.size f mz))->sp vs H Q E→
   ∃t,PSs (S8 CX0 P w K mg base N qual (zh st) f mz A outer s H E).nox (zP st) t/\t { nx:=fun _ H'=>Q .non H',rt:=Q } (qu N vs) H):FnOk P w K mg base CX0 (k+1) f fd ps sp:=by
 obtain⟨oc,od,dV,kV,nA,pm,an,mz,ct,pJ,rfl,lk,pP⟩:=F.ex;refine QA lk pP S len fun A outer s H vs Q E hr AX=>?_;obtain⟨t,h,q⟩:=oO mz A outer s H vs Q E hr AX;exact⟨t,h.nox,q⟩
theorem RY{x qual:Str}{st:Stmt}{f:Addr}{oc:Value}{od an:Option Addr}{pJ:Array (Option Value)}{dV kV nA pm mz ct:Value}(l:K.lookup f=some ⟨oc,od,.func (bU x qual (zV st) (zP st) (zh st) dV kV nA pm an mz ct),pJ⟩)
  (c:cC K mz qual=true) (k:bQ K (.ref f)=true):FunD K x qual st f (bU x qual (zV st) (zP st) (zh st) dV kV nA pm an mz ct):=⟨⟨oc,od,dV,kV,nA,pm,an,mz,ct,pJ,rfl,l,c⟩,k⟩
theorem qc{fd:FuncData}{ps:List Str}{T:Addr}{o:Obj}{items:Array Value}{n:Nat}{ds:List Value}(hd:fd.defaults=.ref T)(hT:K.lookup T=some o)(hs:o.data=.seq items n)
  (h:∀us:List Value,(us++ds).length=ps.length->∃k,bindArgs fd ⟨us,[]⟩=seqItems? fd.defaults >>= k/\k (some items)=pure (ps.zip (us++ds))):wE K fd ps ds:=fun s us X hl=>by
 obtain⟨k,h1,h2⟩:=h us hl;exact BindsTo.of_defaults hd (X _ _ hT) hs h1 h2
end
theorem Uh{xs:List V}{lo hi:Option Int}{v:V}(h:v∈Z5 xs lo hi):v∈xs:=by
 unfold Z5 at h;first
 |exact List.mem_of_mem_take (List.mem_of_mem_drop h)
 |exact List.mem_of_mem_drop (List.mem_of_mem_take h)
theorem Zr{β:Type}{R:V->β->Prop}{x:V}{y:β}(h:R x y):∀{n:Nat},yJ R (bL n x) (bL n y)
 |0=>trivial
 |_+1=>⟨h,Zr h⟩
noncomputable def adL(ns:NS):List Ad:=[.p,.lb,.la,.dl,.dk,.dd,.lg,.df,.da]++((aR (ns.k+1)).flatMap fun l=>(aR (2 ^ ns.k)).map fun j=>Ad.ln l j)++(aR ns.nd).map fun t=>Ad.dn (t+1)
theorem qX{ns:NS}{a:Ad}:a∈adL ns ↔ okA ns a:=by
 unfold adL;rw[aP,aP,fE,aW];constructor
 ·rintro((h|⟨l,hl,h⟩)|⟨t,ht,rfl⟩)
  ·simp only[aS,dY,or_false] at h;rcases h with rfl|rfl|rfl|rfl|rfl|rfl|rfl|rfl|rfl <;> trivial
  ·obtain⟨j,hj,rfl⟩:=aW.mp h;exact⟨Nat.le_of_lt_succ (aV.mp hl),aV.mp hj⟩
  ·exact⟨hG (aX _),aV.mp ht⟩
 ·intro h;cases a with
  |ln l j=>exact .inl (.inr ⟨l,aV.mpr (Nat.lt_succ_of_le h.1),aW.mpr ⟨j,aV.mpr h.2,rfl⟩⟩)
  |dn t=>exact .inr ⟨t-1,aV.mpr (by have h1:1<=t:=h.1;have h2:t<=ns.nd:=h.2;omega),by have h1:1<=t:=h.1;rw[Nat.sub_add_cancel h1]⟩
  |_=>exact .inl (.inl (by simp))
section
variable{K:FG7}{C p l:Addr}{H H':Hp}{A A':Ad->Addr}{ns:NS}{k mH:Nat}{sm:List Int}
noncomputable def msA(A:Ad->Addr)(ns:NS):List Addr:=(adL ns).map A
theorem qY{a:Ad}(h:okA ns a):A a∈msA A ns:=aW.mpr ⟨a,qX.mpr h,rfl⟩
theorem ub{gone:List (Nat×Nat)}(h:NW ns)(nw:ns.now<10000):(beatS gone ns).k=ns.k/\(beatS gone ns).boxes.length=ns.boxes.length/\(beatS gone ns).asks=ns.asks/\(beatS gone ns).now=ns.now+1/\(beatS gone ns).nd=ns.nd+1:=by
 have G:=su h nw gone;exact⟨G.k,G.bl,G.asks,G.now,by show(zA gone ns).nd=_;rw[G.nd,h.nd]⟩
theorem Wj(h:NW ns)(hf:ns.log.length=ns.asks.length){ms:List Int}(pm:ms.Perm (ns.log.map iE))(pw:ms.Pairwise (·<=·)):ms.map V.int=(aR ns.asks.length).map fun i:Nat=>V.int i:=by
 have e:ns.log.Perm (aR ns.asks.length):=by
  rw[List.perm_iff_count];intro n;have h1:=h.cnt n;rw[Yu fun l j hl hj=>vY h.nr hf hl hj,lA] at h1;rw[h1];by_cases c:n<ns.asks.length
  ·rw[if_pos c];have:=List.nodup_range (n:=ns.asks.length);have h2:=kC.mpr (aV.mpr c);have h3:(aR ns.asks.length).count n<=1:=List.nodup_iff_count.mp this n;omega
  ·rw[if_neg c];exact(List.count_eq_zero.mpr fun z=>c (aV.mp z)).symm
 have e2:ms=(aR ns.asks.length).map iE:=by
  refine List.Perm.eq_of_pairwise (le:=(·<=·)) (fun _ _ _ _ h1 h2=>Int.le_antisymm h1 h2) pw ?_ (pm.trans (e.map _));exact eN.mpr ((List.pairwise_lt_range (n:=ns.asks.length)).imp fun h=>gx.mpr (cG h))
 rw[e2,bZ];rfl
end
section
variable{ns n':NS}{s l:Nat}
theorem HandC.allP(h:HandC ns s l n'){P:Nat->Nat->Wt->Prop}(k4:ns.k<=4)(s1:1<=s)(sk:s<=ns.k)(hl:l<2 ^ ns.k)(hp:∀a b,a<=ns.k->b<2 ^ ns.k->∀w∈ns.lines a b,P a b w)
  (hm:∀c,P (s-1) l c->P s (zS ns.k s l c.box) c) (hj:∀o w c,P s o w->P s o c->w.box=c.box->P s o (wc (s,nN ns.k s l) w c)):∀a b,a<=ns.k->b<2 ^ ns.k->∀w∈n'.lines a b,P a b w:=by
 have h1:s-1<=ns.k:=by omega
 cases h with
 |stay=>exact hp
 |add c r hc hr =>
  intro a b ha hb w hw;have hw:w∈zQ (zQ ns.lines (s-1) l r) s (zS ns.k s l c.box) (ns.lines s (zS ns.k s l c.box)++[c]) a b:=hw;by_cases e:a=s/\b=zS ns.k s l c.box
  ·rw[e.1,e.2,zr] at hw;rw[e.1,e.2];rcases aP.mp hw with z|z
   ·exact hp s _ sk (y4 k4 s1 sk hl) w z
   ·rw[aB.mp z];exact hm c (hp (s-1) l h1 hl c (by rw[hc];exact aU ..))
  ·rw[zt e] at hw;by_cases e2:a=s-1/\b=l
   ·rw[e2.1,e2.2,zr] at hw;rw[e2.1,e2.2];exact hp (s-1) l h1 hl w (by rw[hc];exact aK _ hw)
   ·rw[zt e2] at hw;exact hp a b ha hb w hw
 |join c r i hc hi BX hk =>
  intro a b ha hb w hw;have hw:w∈zQ (zQ ns.lines (s-1) l r) s (zS ns.k s l c.box) ((ns.lines s (zS ns.k s l c.box)).set i (wc (s,nN ns.k s l) ((ns.lines s (zS ns.k s l c.box)).getD i default) c)) a b:=hw;have o:=y4 (b:=c.box) k4 s1 sk hl;have pc:P s (zS ns.k s l c.box) c:=hm c (hp (s-1) l h1 hl c (by rw[hc];exact aU ..));by_cases e:a=s/\b=zS ns.k s l c.box
  ·rw[e.1,e.2,zr] at hw;rw[e.1,e.2];rcases ia hw with z|z
   ·exact hp s _ sk o w z
   ·rw[z];refine hj _ _ _ (hp s _ sk o _ ?_) pc BX;rw[aJ,aH hi];exact dX hi
  ·rw[zt e] at hw;by_cases e2:a=s-1/\b=l
   ·rw[e2.1,e2.2,zr] at hw;rw[e2.1,e2.2];exact hp (s-1) l h1 hl w (by rw[hc];exact aK _ hw)
   ·rw[zt e2] at hw;exact hp a b ha hb w hw
theorem HandC.len(h:HandC ns s l n')(s1:1<=s)(hr:∀a b,1<=a->(ns.lines a b).length<=ns.room):∀a b,1<=a->(n'.lines a b).length<=ns.room:=by
 cases h with
 |stay=>exact hr
 |add c r hc hl =>
  intro a b ha;show(zQ _ s _ _ a b:List Wt).length<=_;by_cases e:a=s/\b=zS ns.k s l c.box
  ·rw[e.1,e.2,zr,aI];exact hl
  ·rw[zt e];by_cases e2:a=s-1/\b=l
   ·rw[e2.1,e2.2,zr];have:=hr (s-1) l (by omega);rw[hc] at this;exact Nat.le_of_succ_le this
   ·rw[zt e2];exact hr a b ha
 |join c r i hc hi hb hk =>
  intro a b ha;show(zQ _ s _ _ a b:List Wt).length<=_;by_cases e:a=s/\b=zS ns.k s l c.box
  ·rw[e.1,e.2,zr,gA];exact hr s _ s1
  ·rw[zt e];by_cases e2:a=s-1/\b=l
   ·rw[e2.1,e2.2,zr];have:=hr (s-1) l (by omega);rw[hc] at this;exact Nat.le_of_succ_le this
   ·rw[zt e2];exact hr a b ha
theorem HandC.kl(h:HandC ns s l n')(hk:∀a b,ns.keep a b<=ns.kept):∀a b,n'.keep a b<=ns.kept:=by
 cases h with
 |stay=>exact hk
 |add c r hc hl=>exact hk
 |join c r i hc hi hb mE =>
  intro a b;show zQ ns.keep s (nN ns.k s l) (ns.keep s (nN ns.k s l)+1) a b<=_;by_cases e:a=s/\b=nN ns.k s l
  ·rw[e.1,e.2,zr];omega
  ·rw[zt e];exact hk a b
def Jm(f:Nat->Nat->List Wt):Prop:=∀j,(∀w∈f 0 j,w.nums.length=1)/\(f 0 j).Pairwise fun v w=>v.nums.headD 0<w.nums.headD 0
theorem HandC.low(h:HandC ns s l n')(s1:1<=s)(hl:Jm ns.lines):Jm n'.lines:=by
 have mL:∀c r (v:List Wt) o,ns.lines (s-1) l=c::r->Jm (zQ (zQ ns.lines (s-1) l r) s o v):=fun c r v o hc j=>by
  rw[zt (fun z=>by have:=z.1;omega)];by_cases e:0=s-1/\j=l
  ·obtain⟨h1,h2⟩:=hl l;rw[e.1] at h1 h2;rw[hc] at h1 h2;rw[e.1,e.2,zr];exact⟨fun w hw=>h1 w (aK _ hw),(List.pairwise_cons.mp h2).2⟩
  ·rw[zt e];exact hl j
 cases h with
 |stay=>exact hl
 |add c r hc hr=>exact mL c r _ _ hc
 |join c r i hc hi hb hk=>exact mL c r _ _ hc
end
structure Ent(k:Nat)(asks:List Ask)(l j:Nat)(w:Wt):Prop where
 ok:w.deed.Ok
 dd:∀v,w.deed.mk' v=w.nums.foldl (fun v n=>(asks.getD n default).deed.mk' v) v
 bx:∀n∈w.nums,(asks.getD n default).box=w.box
 hd:∀n∈w.nums,(asks.getD n default).hand.toNat % 2 ^ (k-l)=j % 2 ^ (k-l)
 sd:j / 2 ^ (k-l)=w.box % 2 ^ k / 2 ^ (k-l)
theorem RZ{k s l b:Nat}(k4:k<=4)(s1:1<=s)(sk:s<=k)(hl:l<2 ^ k):zS k s l b % 2 ^ (k-s)=l % 2 ^ (k-s)/\(l / 2 ^ (k-(s-1))=b % 2 ^ k / 2 ^ (k-(s-1))->zS k s l b / 2 ^ (k-s)=b % 2 ^ k / 2 ^ (k-s)):=by
 have mL:∀k:Fin 5,∀s:Fin 5,1<=s.val->s.val<=k.val->∀l:Fin 16,l.val<2 ^ k.val->∀b:Fin 16,b.val<2 ^ k.val->zS k.val s.val l.val b.val % 2 ^ (k.val-s.val)=l.val % 2 ^ (k.val-s.val)/\(l.val / 2 ^ (k.val-(s.val-1))=b.val / 2 ^ (k.val-(s.val-1))->zS k.val s.val l.val b.val / 2 ^ (k.val-s.val)=b.val / 2 ^ (k.val-s.val)):=by decide +kernel
 have pW:=tR k4;have hb:b % 2 ^ k<2 ^ k:=ft _ (dS k);have e:zS k s l (b % 2 ^ k)=zS k s l b:=by unfold zS;rw[Nat.mod_mod]
 have:=mL ⟨k,by omega⟩ ⟨s,by omega⟩ s1 sk ⟨l,by omega⟩ hl ⟨b % 2 ^ k,by omega⟩ hb;rw[e] at this;exact this
theorem TR{a b x y:Nat}(h:x % 2 ^ (a+b)=y % 2 ^ (a+b)):x % 2 ^ a=y % 2 ^ a:=by
 have e:∀z,z % 2 ^ (a+b) % 2 ^ a=z % 2 ^ a:=fun z=>Nat.mod_mod_of_dvd _ ⟨2 ^ b,by rw[Nat.pow_add]⟩;rw[←e x,←e y,h]
theorem Ent.up{k:Nat}{asks:List Ask}{s l:Nat}{w:Wt}(k4:k<=4)(s1:1<=s)(sk:s<=k)(hl:l<2 ^ k)(h:Ent k asks (s-1) l w):Ent k asks s (zS k s l w.box) w:=by
 obtain⟨m1,m2⟩:=RZ (b:=w.box) k4 s1 sk hl;refine⟨h.ok,h.dd,h.bx,fun n hn=>?_,m2 h.sd⟩;rw[m1];have:=h.hd n hn;rw[show k-(s-1)=(k-s)+1 by omega] at this;exact TR this
theorem Ent.join{k:Nat}{asks:List Ask}{l j:Nat}{w c:Wt}{sw:Nat×Nat}(hw:Ent k asks l j w)(hc:Ent k asks l j c)(e:w.box=c.box):Ent k asks l j (wc sw w c):=by
 refine⟨U0 hw.ok hc.ok,fun v=>?_,fun n hn=>?_,fun n hn=>?_,hw.sd⟩
 ·show(uS w.deed c.deed).mk' v=(w.nums++c.nums).foldl _ v;rw[U3 hw.ok hc.ok,eM,←hw.dd,←hc.dd]
 ·rcases aP.mp hn with hn|hn
  ·exact hw.bx n hn
  ·rw[hc.bx n hn];show(c.box:Int)=w.box;rw[e]
 ·rcases aP.mp hn with hn|hn
  ·exact hw.hd n hn
  ·exact hc.hd n hn
structure NX(ns:NS):Prop where
 nw:NW ns
 en:∀l j,l<=ns.k->j<2 ^ ns.k->∀w∈ns.lines l j,Ent ns.k ns.asks l j w
 rm:∀a b,1<=a->(ns.lines a b).length<=ns.room
 kl:∀a b,ns.keep a b<=ns.kept
 lo:Jm ns.lines
theorem NX.new{k room kept:Nat}{b:List Int}(k4:k<=4)(b16:b.length<=16)(r1:1<=room):NX (t4 k b room kept) :=
 ⟨NW.new k4 b16 r1,fun _ _ _ _ w hw=>(by cases hw),fun _ _ _=>aX _,fun _ _=>cH _,fun _=>⟨fun w hw=>(by cases hw),.nil⟩⟩
theorem wW{as:List Ask}{a:Ask}{n:Nat}(h:n<as.length):(as++[a]).getD n default=as.getD n default:=by
 rw[aJ,aJ,eV h]
theorem tz{as:List Ask}{a:Ask}:(as++[a]).getD as.length default=a:=by
 rw[aJ,gQ (aE _),mq];rfl
theorem sy{α β:Type}{f g:β->α->β}:∀{l:List α} {b:β},(∀a∈l,∀b,f b a=g b a)->l.foldl f b=l.foldl g b
 |[],_,_=>rfl
 |a::l,b,h=>by
  show l.foldl f (f b a)=l.foldl g (g b a);rw[h a (aU ..)];exact sy fun x hx=>h x (aK _ hx)
theorem Ent.more{k l j:Nat}{asks:List Ask}{a:Ask}{w:Wt}(h:Ent k asks l j w)(hn:∀n∈w.nums,n<asks.length):Ent k (asks++[a]) l j w :=
 ⟨h.ok,fun v=>by rw[h.dd];exact sy fun n hm b=>by rw[wW (hn n hm)],fun n hm=>by rw[wW (hn n hm)];exact h.bx n hm,fun n hm=>by rw[wW (hn n hm)];exact h.hd n hm,h.sd⟩
theorem NX.put{ns:NS}(h:NX ns){a:Ask}(ok:a.deed.Ok)(DT:0<=a.box)(hh:a.hand.toNat<2 ^ ns.k)(hb:a.box.toNat<ns.boxes.length)(Bj:ns.asks.length<40):NX (jq ns a):=by
 have nr:=h.nw.nr;refine⟨h.nw.put hh hb Bj,fun l j hl hj w hw=>?_,fun x y hx=>?_,h.kl,fun j=>?_⟩
 ·have hw:w∈zQ ns.lines 0 a.hand.toNat (ns.lines 0 a.hand.toNat++[⟨a.box.toNat,a.deed,[ns.asks.length],[]⟩]) l j:=hw;show Ent ns.k (ns.asks++[a]) l j w;by_cases c:l=0/\j=a.hand.toNat
  ·rw[c.1,c.2,zr,aP] at hw;rw[c.1,c.2];rcases hw with hw|hw
   ·exact(h.en 0 _ (aX _) hh w hw).more (nr.lw 0 _ (aX _) hh w hw).nm
   ·rw[aB.mp hw];refine⟨ok,fun v=>?_,fun n hn=>?_,fun n hn=>?_,?_⟩
    ·show a.deed.mk' v=((ns.asks++[a]).getD ns.asks.length default).deed.mk' v;rw[tz]
    ·rw[aB.mp hn,tz];show a.box=((a.box.toNat:Nat):Int);omega
    ·rw[aB.mp hn,tz]
    ·show a.hand.toNat / 2 ^ ns.k=a.box.toNat % 2 ^ ns.k / 2 ^ ns.k;rw[lj hh,lj (ft _ (dS _))]
  ·rw[zt c] at hw;exact(h.en l j hl hj w hw).more (nr.lw l j hl hj w hw).nm
 ·show(zQ ns.lines 0 _ _ x y:List Wt).length<=_;rw[zt (fun z=>by have:=z.1;omega)];exact h.rm x y hx
 ·show(∀w∈zQ ns.lines 0 a.hand.toNat (ns.lines 0 a.hand.toNat++[⟨a.box.toNat,a.deed,[ns.asks.length],[]⟩]) 0 j,_)/\(zQ ns.lines 0 a.hand.toNat (ns.lines 0 a.hand.toNat++[⟨a.box.toNat,a.deed,[ns.asks.length],[]⟩]) 0 j).Pairwise _;by_cases c:0=0/\j=a.hand.toNat
  ·rw[c.2,zr];obtain⟨h1,h2⟩:=h.lo a.hand.toNat
   refine⟨fun w hw=>?_,List.pairwise_append.mpr ⟨h2,List.pairwise_singleton _ _,fun v hv w hw=>?_⟩⟩
   ·rcases aP.mp hw with hw|hw
    ·exact h1 w hw
    ·rw[aB.mp hw];rfl
   ·rw[aB.mp hw];show v.nums.headD 0<ns.asks.length;have W:=nr.lw 0 _ (aX _) hh v hv;cases e:v.nums with
    |nil=>exact absurd e W.ne
    |cons x r=>exact W.nm x (by rw[e];exact aU ..)
  ·rw[zt c];exact h.lo j
theorem tD{gone:List (Nat×Nat)}{ns:NS}{l j:Nat}:∀{i},((zD gone ns i).2 l j).Sublist (ns.lines l j)
 |0=>List.Sublist.refl _
 |i+1=>by
  have ih:=tD (gone:=gone) (ns:=ns) (l:=l) (j:=j) (i:=i);rw[yF];cases hc:(zD gone ns i).2 ns.k i with
  |nil=>rw[xk hc];exact ih
  |cons w r =>
   by_cases hg:(0,i)∈gone
   ·rw[yN hg];exact ih
   ·rw[xv hc hg];show(zQ (zD gone ns i).2 ns.k i r l j).Sublist _;by_cases e:l=ns.k/\j=i
    ·rw[e.1,e.2,zr];rw[e.1,e.2,hc] at ih;exact(List.sublist_cons_self w r).trans ih
    ·rw[zt e];exact ih
structure PassX(n0 n:NS):Prop where
 same:Same5 n n0
 en:∀l j,l<=n0.k->j<2 ^ n0.k->∀w∈n.lines l j,Ent n0.k n0.asks l j w
 rm:∀a b,1<=a->(n.lines a b).length<=n0.room
 kl:∀a b,n.keep a b<=n0.kept
 lo:Jm n.lines
theorem zap{n0:NS}{gone:List (Nat×Nat)}(k4:n0.k<=4)(h:PassX n0 n0){i:Nat}(hi:i<=n0.k):PassX n0 (passA gone n0 i):=by
 refine wK (P:=fun n=>PassX n0 n) (fun n h=>by rw[h.same.k];exact k4) (fun n s l h s1 sk hl=>?_) h hi;have C:=Zj n s l;have ek:=h.same.k;have B4:n.k<=4:=by rw[ek];exact k4
 refine⟨C.same.trans h.same,?_,?_,?_,C.low s1 h.lo⟩
 ·have:=C.allP (P:=fun a b w=>Ent n0.k n0.asks a b w) B4 s1 sk hl (by rw[ek];exact h.en) (fun c hc=>by rw[ek] at sk hl ⊢;exact hc.up k4 s1 sk hl) fun o w c hw hc e=>hw.join hc e;rw[ek] at this;exact this
 ·have:=C.len s1 (by rw[h.same.room];exact h.rm);rw[h.same.room] at this;exact this
 ·have:=C.kl (by rw[h.same.kept];exact h.kl);rw[h.same.kept] at this;exact this
theorem NX.beat{ns:NS}(h:NX ns)(nw:ns.now<10000)(gone:List (Nat×Nat)):NX (beatS gone ns):=by
 have B:=(h.nw.beat nw gone).2;have G:=su h.nw nw gone;have D:=Ys gone (zj (zu ns));have ek:(zW gone (zj (zu ns))).k=ns.k:=D.k;have ea:(zW gone (zj (zu ns))).asks=ns.asks:=D.asks;have er:(zW gone (zj (zu ns))).room=ns.room:=D.room;have eq:(zW gone (zj (zu ns))).kept=ns.kept:=D.kept;have sub:∀l j,((zW gone (zj (zu ns))).lines l j).Sublist (ns.lines l j):=fun l j=>by rw[D.lines];exact tD (ns:=zj (zu ns))
 have X:=zap (n0:=zW gone (zj (zu ns))) (gone:=gone) (by rw[ek];exact h.nw.nr.k4) (i:=ns.k) ⟨Same5.refl _,fun l j hl hj w hw=>by
  rw[ek] at hl hj ⊢;rw[ea];exact h.en l j hl hj w ((sub l j).mem hw),fun a b ha=>by
  rw[er];exact bM (sub a b).length_le (h.rm a b ha),fun a b=>by
  rw[eq,D.keep];have e:(zj (zu ns)).keep a b=ns.keep a b-if 1<=a/\a<=ns.k then(yt (gq (a,b)) (uU (zu ns) (ns.k-a+1)):Int) else 0:=Uc (ns:=zu ns) (i:=ns.k)
  have:=h.kl a b;rw[e];split <;> omega,fun j=>by
  obtain⟨h1,h2⟩:=h.lo j;exact⟨fun w hw=>h1 w ((sub 0 j).mem hw),h2.sublist (sub 0 j)⟩⟩ (by rw[ek];exact aE _)
 have eg:zA gone ns=passA gone (zW gone (zj (zu ns))) ns.k:=rfl;rw[←eg] at X;refine⟨B,?_,?_,?_,X.lo⟩
 ·show ∀l j,l<=(zA gone ns).k->j<2 ^ (zA gone ns).k->∀w∈(zA gone ns).lines l j,Ent (zA gone ns).k (zA gone ns).asks l j w;have:=X.en;rw[ek,ea] at this;rw[G.k,G.asks];exact this
 ·show ∀a b,1<=a->((zA gone ns).lines a b).length<=(zA gone ns).room;rw[G.room,←er];exact X.rm
 ·show ∀a b,(zA gone ns).keep a b<=(zA gone ns).kept;rw[G.kept,←eq];exact X.kl
theorem Jn{xs:List V}{y:V}:atI (xs++[y]) (-1)=some y:=by
 refine Rn (j:=xs.length) ?_ ?_
 ·unfold ixN;rw[aI,if_neg (by decide),if_pos (by show -((xs.length+1:Nat):Int)<=-1;omega)];exact congrArg some (by show(-1+((xs.length+1:Nat):Int)).toNat=xs.length;omega)
 ·rw[gQ (aE _),mq];rfl
noncomputable def yP(F:Nat->List Nat):Nat->List Nat
 |0=>F 0
 |l+1=>F (l+1)++yP F l
theorem vn{F F':Nat->List Nat}:∀{k:Nat},(∀l,l<=k->F' l=F l)->yP F' k=yP F k
 |0,h=>h 0 (aE _)
 |k+1,h=>by
  show F' (k+1)++yP F' k=F (k+1)++yP F k;rw[h (k+1) (aE _),vn fun l hl=>h l (by omega)]
theorem qd{F F':Nat->List Nat}{t:Nat}{x:List Nat}(h1:F' (t+1)=F (t+1)++x)(h2:F t=x++F' t):∀{k:Nat},t+1<=k->(∀l,l<=k->l≠t->l≠t+1->F' l=F l)->yP F' k=yP F k
 |0,hk,_=>absurd hk (by omega)
 |k+1,hk,h=>by
  show F' (k+1)++yP F' k=F (k+1)++yP F k;by_cases e:k=t
  ·subst e;have:x++yP F' k=yP F k:=by
    cases k with
    |zero=>show x++F' 0=F 0;rw[h2]
    |succ u =>
     show x++(F' (u+1)++yP F' u)=F (u+1)++yP F u;rw[h2,vn (F:=F) fun l hl=>h l (by omega) (by omega) (by omega),bD]
   rw[h1,bD,this]
  ·rw[h (k+1) (aE _) (by omega) (by omega),qd h1 h2 (by omega) fun l hl=>h l (by omega)]
theorem Zs{F F':Nat->List Nat}{y:List Nat}(h0:F' 0=F 0++y):∀{k:Nat},(∀l,l<=k->l≠0->F' l=F l)->yP F' k=yP F k++y
 |0,_=>h0
 |k+1,h=>by
  show F' (k+1)++yP F' k=(F (k+1)++yP F k)++y;rw[h (k+1) (aE _) (by omega),Zs h0 fun l hl=>h l (by omega),bD]
theorem Ui{F F':Nat->List Nat}{k:Nat}{x:List Nat}(h1:F k=x++F' k)(h:∀l,l<k->F' l=F l):x++yP F' k=yP F k:=by
 cases k with
 |zero=>exact h1.symm
 |succ u =>
  show x++(F' (u+1)++yP F' u)=F (u+1)++yP F u;rw[h1,vn (F:=F) fun l hl=>h l (by omega),bD]
noncomputable def uh(asks:List Ask)(h b n:Nat):Bool:=decide ((asks.getD n default).hand.toNat=h/\(asks.getD n default).box=(b:Int))
noncomputable def vA(k h b l:Nat):Nat:=b % 2 ^ k / 2 ^ (k-l)*2 ^ (k-l)+h % 2 ^ (k-l)
theorem Wk{k l j h b n:Nat}{asks:List Ask}{w:Wt}(e:Ent k asks l j w)(hn:n∈w.nums)(c:uh asks h b n=true):j=vA k h b l/\w.box=b:=by
 obtain⟨c1,c2⟩:=of_decide_eq_true c;have hb:w.box=b:=by have:=e.bx n hn;rw[c2] at this;omega
 have h1:=e.hd n hn;rw[c1] at h1;have h2:=e.sd;rw[hb] at h2;refine⟨?_,hb⟩;unfold vA;rw[←h2,h1,Nat.mul_comm];exact(Nat.div_add_mod j _).symm
noncomputable def wz(asks:List Ask)(h b:Nat)(ws:List Wt):List Nat:=(yc ws).filter (uh asks h b)
theorem uc{asks:List Ask}{h b:Nat}{x y:List Wt}:wz asks h b (x++y)=wz asks h b x++wz asks h b y:=by
 unfold wz yc;rw[fT,eG]
theorem wj{asks:List Ask}{h b:Nat}{c:Wt}{r:List Wt}:wz asks h b (c::r)=c.nums.filter (uh asks h b)++wz asks h b r:=by
 unfold wz yc;rw[List.flatMap_cons,eG]
theorem qZ{asks:List Ask}{h b:Nat}{c:Wt}:wz asks h b [c]=c.nums.filter (uh asks h b):=by
 rw[wj];exact bB _
theorem wM{k l j h b:Nat}{asks:List Ask}{w:Wt}(e:Ent k asks l j w)(c:¬(j=vA k h b l/\w.box=b)):w.nums.filter (uh asks h b)=[]:=by
 refine List.filter_eq_nil_iff.mpr fun n hn z=>c (Wk e hn z)
theorem Zt{asks:List Ask}{h b:Nat}:∀{ws:List Wt},(∀w∈ws,w.nums.filter (uh asks h b)=[])->wz asks h b ws=[]
 |[],_=>rfl
 |w::ws,hw=>by
  rw[wj,hw w aU,Zt fun v hv=>hw v (aK _ hv)];rfl
noncomputable def G52(asks:List Ask)(k h b:Nat)(f:Nat->Nat->List Wt)(l:Nat):List Nat:=wz asks h b (f l (vA k h b l))
noncomputable def Q52(ns:NS)(h b:Nat):List Nat:=ns.log.filter (uh ns.asks h b)++yP (G52 ns.asks ns.k h b ns.lines) ns.k
theorem ja{out:List Wt}{b i:Nat}(h:tZ out b=some i):i<out.length/\(out.getD i default).box=b/\∀j,i<j->j<out.length->(out.getD j default).box≠b:=by
 unfold tZ at h;have mL:∀(n i:Nat),((aR n).filter fun i=>decide ((out.getD i default).box=b)).getLast?=some i->i<n/\(out.getD i default).box=b/\∀j,i<j->j<n->(out.getD j default).box≠b:=by
  intro n;induction n with
  |zero=>intro i h;cases h
  |succ n ih =>
   intro i h;rw[dU,eG] at h;by_cases c:(out.getD n default).box=b
   ·rw[show[n].filter (fun i=>decide ((out.getD i default).box=b))=[n] from by rw[fZ,if_pos (decide_eq_true c)];rfl,List.getLast?_concat] at h;cases h;exact⟨cS _,c,fun j h1 h2=>by omega⟩
   ·rw[show[n].filter (fun i=>decide ((out.getD i default).box=b))=[] from by rw[fZ,if_neg (by rw[decide_eq_false c];decide)];rfl,bB] at h;obtain⟨h1,h2,h3⟩:=ih i h;refine⟨by omega,h2,fun j j1 j2=>?_⟩;by_cases e:j=n
    ·rw[e];exact c
    ·exact h3 j j1 (by omega)
 exact mL _ _ h
theorem Jo{ns:NS}{s l h b:Nat}(k4:ns.k<=4)(s1:1<=s)(sk:s<=ns.k)(hl:l<2 ^ ns.k)(en:∀l j,l<=ns.k->j<2 ^ ns.k->∀w∈ns.lines l j,Ent ns.k ns.asks l j w):Q52 (yO ns s l) h b=Q52 ns h b:=by
 obtain⟨t,rfl⟩:∃t,s=t+1:=⟨s-1,by omega⟩
 -- the head of the line goes to the end,or into the last one alike
 have mL:∀(c:Wt) (r:List Wt) (o':List Wt),ns.lines t l=c::r->(wz ns.asks h b o'=wz ns.asks h b (ns.lines (t+1) (zS ns.k (t+1) l c.box))++c.nums.filter (uh ns.asks h b))→
   yP (G52 ns.asks ns.k h b (zQ (zQ ns.lines t l r) (t+1) (zS ns.k (t+1) l c.box) o')) ns.k=yP (G52 ns.asks ns.k h b ns.lines) ns.k:=by
  intro c r o' hc ho;have ec:=en t l (by omega) hl c (by rw[hc];exact aU);have eu:=ec.up (s:=t+1) k4 s1 sk hl;have hx:c.nums.filter (uh ns.asks h b)=[]\/(l=vA ns.k h b t/\zS ns.k (t+1) l c.box=vA ns.k h b (t+1)):=by
   by_cases z:l=vA ns.k h b t/\c.box=b
   ·by_cases z2:zS ns.k (t+1) l c.box=vA ns.k h b (t+1)/\c.box=b
    ·exact .inr ⟨z.1,z2.1⟩
    ·exact .inl (wM eu z2)
   ·exact .inl (wM ec z)
  refine qd (t:=t) (x:=c.nums.filter (uh ns.asks h b)) ?_ ?_ sk ?_
  ·show wz _ _ _ (zQ _ _ _ _ (t+1) (vA ns.k h b (t+1)))=wz _ _ _ (ns.lines (t+1) _)++_;by_cases e:vA ns.k h b (t+1)=zS ns.k (t+1) l c.box
   ·rw[e,zr,ho]
   ·rw[zt (fun z=>e z.2),zt (fun z=>by omega)];rcases hx with hx|hx
    ·rw[hx,bB]
    ·exact absurd hx.2.symm e
  ·show wz _ _ _ (ns.lines t (vA ns.k h b t))=_++wz _ _ _ (zQ _ _ _ _ t (vA ns.k h b t));rw[zt (fun z=>by omega)];by_cases e:vA ns.k h b t=l
   ·rw[e,zr,hc,wj]
   ·rw[zt (fun z=>e z.2)];rcases hx with hx|hx
    ·rw[hx];rfl
    ·exact absurd hx.1.symm e
  ·intro m _ m1 m2;show wz _ _ _ (zQ _ _ _ _ m _)=wz _ _ _ (ns.lines m _);rw[zt (fun z=>m2 z.1),zt (fun z=>m1 z.1)]
 have add:∀(c:Wt) (r:List Wt),ns.lines t l=c::r->Q52 (VO ns (t+1) l c r) h b=Q52 ns h b:=by
  intro c r hc;unfold VO;split
  ·show ns.log.filter _++yP (G52 ns.asks ns.k h b (zQ (zQ ns.lines (t+1-1) l r) _ _ _)) ns.k=_;rw[Nat.add_sub_cancel,mL c r _ hc (by rw[uc,qZ])];rfl
  ·rfl
 unfold yO;rw[Nat.add_sub_cancel];split
 ·rfl
 ·rename_i c r hc;split
  ·exact add c r hc
  ·rename_i i hi;split
   ·obtain⟨i1,i2,i3⟩:=ja hi;show ns.log.filter _++yP (G52 ns.asks ns.k h b (zQ (zQ ns.lines t l r) _ _ _)) ns.k=_;rw[mL c r _ hc ?_]
    ·rfl
    have o16:zS ns.k (t+1) l c.box<2 ^ ns.k:=y4 k4 s1 sk hl;have eo:=en (t+1) _ sk o16;revert i1 i2 i3 eo;generalize ns.lines (t+1) (zS ns.k (t+1) l c.box)=out;intro i1 i2 i3 eo;have ei:out.getD i default=out[i]:=by rw[aJ,aH i1];rfl
    have e1:out=out.take i++(out[i]::out.drop (i+1)):=by rw[List.getElem_cons_drop,eX]
    rw[ei,List.set_eq_take_append_cons_drop,if_pos i1,uc,wj]
    conv=>rhs;rw[e1,uc,wj]
    have ej:(wc (t+1,nN ns.k (t+1) l) out[i] c).nums.filter (uh ns.asks h b)=out[i].nums.filter (uh ns.asks h b)++c.nums.filter (uh ns.asks h b):=eG _ _;rw[ej];by_cases z:c.nums.filter (uh ns.asks h b)=[]
    ·rw[z,bB,bB]
    ·have ec:=en t l (by omega) hl c (by rw[hc];exact aU);have hcb:c.box=b:=by
      by_cases y:l=vA ns.k h b t/\c.box=b
      ·exact y.2
      ·exact absurd (wM ec y) z
     have rest:wz ns.asks h b (out.drop (i+1))=[]:=Zt fun w hw=>by
      obtain⟨m,hm,rfl⟩:=gW.mp hw;rw[kO];rw[gZ] at hm;have Bf:i+1+m<out.length:=by omega
      have:=i3 (i+1+m) (by omega) Bf;rw[aJ,aH Bf] at this;exact wM (eo _ (dX Bf)) fun y=>this (by show out[i+1+m].box=c.box;rw[y.2,hcb])
     rw[rest,bB,bB,bD]
   ·exact add c r hc
theorem qe{gone:List (Nat×Nat)}{ns:NS}{l j:Nat}(hl:l≠ns.k):∀{i:Nat},(zD gone ns i).2 l j=ns.lines l j
 |0=>rfl
 |i+1=>by
  have ih:=qe (gone:=gone) (ns:=ns) (j:=j) hl (i:=i);rw[yF];cases hc:(zD gone ns i).2 ns.k i with
  |nil=>rw[xk hc];exact ih
  |cons w r =>
   by_cases hg:(0,i)∈gone
   ·rw[yN hg];exact ih
   ·rw[xv hc hg];show zQ (zD gone ns i).2 ns.k i r l j=_;rw[zt (fun z=>hl z.1)];exact ih
theorem SJ{gone:List (Nat×Nat)}{ns:NS}{h b:Nat}(en:∀j,j<2 ^ ns.k->∀w∈ns.lines ns.k j,Ent ns.k ns.asks ns.k j w):∀{i:Nat},i<=2 ^ ns.k→
  wz ns.asks h b (zD gone ns i).1++wz ns.asks h b ((zD gone ns i).2 ns.k (vA ns.k h b ns.k))=wz ns.asks h b (ns.lines ns.k (vA ns.k h b ns.k))
 |0,_=>rfl
 |i+1,hi=>by
  have ih:=SJ (gone:=gone) (h:=h) (b:=b) en (i:=i) (by omega);have ho:=vk (gone:=gone) (ns:=ns) (j:=i) (aE i);rw[yF];cases hc:(zD gone ns i).2 ns.k i with
  |nil=>rw[xk hc];exact ih
  |cons w r =>
   by_cases hg:(0,i)∈gone
   ·rw[yN hg];exact ih
   ·rw[xv hc hg];show wz ns.asks h b ((zD gone ns i).1++[w])++wz ns.asks h b (zQ (zD gone ns i).2 ns.k i r ns.k (vA ns.k h b ns.k))=_;rw[←ih,uc,qZ,bD]
    congr 1
    by_cases e:vA ns.k h b ns.k=i
    ·rw[e,zr,hc,wj]
    ·rw[zt (fun z=>e z.2)];have hw:w∈ns.lines ns.k i:=by rw[←ho,hc];exact aU
     rw[wM (en i (by omega) w hw) fun z=>e z.1.symm];rfl
def uY(ns:NS):Prop:=∀h b,Q52 ns h b=(aR ns.asks.length).filter (uh ns.asks h b)
theorem uY.new{k room kept:Nat}{bs:List Int}:uY (t4 k bs room kept):=fun h b=>by
 show[]++yP (G52 [] k h b fun _ _=>[]) k=[]
 have:∀k',yP (G52 [] k h b fun _ _=>[]) k'=[]:=by
  intro k';induction k' with
  |zero=>rfl
  |succ n ih=>show[]++_=[];rw[ih];rfl
 rw[this];rfl
theorem Uj{asks:List Ask}{a:Ask}{h b n:Nat}(hn:n<asks.length):uh (asks++[a]) h b n=uh asks h b n:=by
 unfold uh;rw[wW hn]
theorem wt{asks:List Ask}{a:Ask}{h b:Nat}{l:List Nat}(hl:∀n∈l,n<asks.length):l.filter (uh (asks++[a]) h b)=l.filter (uh asks h b) :=
 List.filter_congr fun n hn=>Uj (hl n hn)
theorem sA{asks:List Ask}{a:Ask}{h b:Nat}{ws:List Wt}(hw:∀w∈ws,∀n∈w.nums,n<asks.length):wz (asks++[a]) h b ws=wz asks h b ws:=by
 unfold wz;refine wt fun n hn=>?_;unfold yc at hn;obtain⟨w,h1,h2⟩:=fE.mp hn;exact hw w h1 n h2
theorem Yw{k h b l:Nat}(hl:l<=k):vA k h b l<2 ^ k:=by
 unfold vA;have h1:b % 2 ^ k / 2 ^ (k-l)<2 ^ l:=by
  rw[Nat.div_lt_iff_lt_mul (dS _),←Nat.pow_add,show l+(k-l)=k by omega];exact ft _ (dS k)
 have h2:h % 2 ^ (k-l)<2 ^ (k-l):=ft _ (dS _)
 calc b % 2 ^ k / 2 ^ (k-l)*2 ^ (k-l)+h % 2 ^ (k-l)<b % 2 ^ k / 2 ^ (k-l)*2 ^ (k-l)+2 ^ (k-l):=by omega
  _=(b % 2 ^ k / 2 ^ (k-l)+1)*2 ^ (k-l):=by rw[Nat.add_mul,Nat.one_mul]
  _<=2 ^ l*2 ^ (k-l):=gV _ h1
  _=2 ^ k:=by rw[←Nat.pow_add,show l+(k-l)=k by omega]
theorem uY.put{ns:NS}(o:uY ns)(hx:NX ns){a:Ask}(DT:0<=a.box)(hh:a.hand.toNat<2 ^ ns.k):uY (jq ns a):=fun h b=>by
 have nr:=hx.nw.nr;have lg:∀n∈ns.log,n<ns.asks.length:=fun n hn=>vZ hx.nw hn;have ln:∀l,l<=ns.k->∀w∈ns.lines l (vA ns.k h b l),∀n∈w.nums,n<ns.asks.length:=fun l hl w hw=>(nr.lw l _ hl (Yw hl) w hw).nm;have hN:uh (ns.asks++[a]) h b ns.asks.length=decide (a.hand.toNat=h/\a.box=(b:Int)):=by unfold uh;rw[tz]
 show ns.log.filter (uh (ns.asks++[a]) h b)++yP (G52 (ns.asks++[a]) ns.k h b (zQ ns.lines 0 a.hand.toNat (ns.lines 0 a.hand.toNat++[⟨a.box.toNat,a.deed,[ns.asks.length],[]⟩]))) ns.k=(aR (ns.asks++[a]).length).filter (uh (ns.asks++[a]) h b);rw[wt lg,aI,show[a].length=1 from rfl,dU,eG,wt (fun n hn=>aV.mp hn),←o h b];unfold Q52;rw[bD]
 congr 1
 refine Zs (y:=[ns.asks.length].filter (uh (ns.asks++[a]) h b)) ?_ ?_
 ·show wz _ _ _ (zQ _ _ _ _ 0 (vA ns.k h b 0))=wz _ _ _ (ns.lines 0 (vA ns.k h b 0))++_;have ep:vA ns.k h b 0=h % 2 ^ ns.k:=by
   unfold vA;rw[Nat.sub_zero,lj (ft _ (dS _)),mo,lA]
  by_cases e:vA ns.k h b 0=a.hand.toNat
  ·rw[e,zr,uc,qZ,sA (by rw[←e];exact ln 0 (aX _))]
  ·rw[zt (fun z=>e z.2),sA (ln 0 (aX _))];have:uh (ns.asks++[a]) h b ns.asks.length=false:=by
    rw[hN];refine decide_eq_false fun z=>e ?_;rw[ep,←z.1,Nat.mod_eq_of_lt hh]
   rw[fZ,this];exact(bB _).symm
 ·intro l hl l0;show wz _ _ _ (zQ _ _ _ _ l _)=wz _ _ _ (ns.lines l _);rw[zt (fun z=>l0 z.1),sA (ln l hl)]
theorem Jp{n0:NS}{gone:List (Nat×Nat)}{h b:Nat}(k4:n0.k<=4)(en:∀l j,l<=n0.k->j<2 ^ n0.k->∀w∈n0.lines l j,Ent n0.k n0.asks l j w){i:Nat}(hi:i<=n0.k):Q52 (passA gone n0 i) h b=Q52 n0 h b:=by
 have X:=wK (gone:=gone) (P:=fun n=>(Same5 n n0/\∀l j,l<=n0.k->j<2 ^ n0.k->∀w∈n.lines l j,Ent n0.k n0.asks l j w)/\Q52 n h b=Q52 n0 h b) (fun n h=>by rw[h.1.1.k];exact k4) (fun n s l hn s1 sk hl=>?_) ⟨⟨Same5.refl _,en⟩,rfl⟩ hi
 ·exact X.2
 ·obtain⟨⟨sm,e⟩,q⟩:=hn;have C:=Zj n s l;have ek:=sm.k;have B4:n.k<=4:=by rw[ek];exact k4
  refine⟨⟨C.same.trans sm,?_⟩,?_⟩
  ·have:=C.allP (P:=fun a b w=>Ent n0.k n0.asks a b w) B4 s1 sk hl (by rw[ek];exact e) (fun c hc=>by rw[ek] at sk hl ⊢;exact hc.up k4 s1 sk hl) fun o w c hw hc e=>hw.join hc e;rw[ek] at this;exact this
  ·rw[Jo B4 s1 sk hl (by rw[ek,sm.asks];exact e)];exact q
theorem uY.beat{ns:NS}(o:uY ns)(hx:NX ns)(nw:ns.now<10000)(gone:List (Nat×Nat)):uY (beatS gone ns):=fun h b=>by
 have D:=Ys gone (zj (zu ns));have G:=su hx.nw nw gone;have ek:(zW gone (zj (zu ns))).k=ns.k:=D.k;have ea:(zW gone (zj (zu ns))).asks=ns.asks:=D.asks;have sub:∀l j,((zW gone (zj (zu ns))).lines l j).Sublist (ns.lines l j):=fun l j=>by rw[D.lines];exact tD (ns:=zj (zu ns))
 have e1:Q52 (beatS gone ns) h b=Q52 (zW gone (zj (zu ns))) h b:=by
  show Q52 (passA gone (zW gone (zj (zu ns))) ns.k) h b=_;refine Jp (by rw[ek];exact hx.nw.nr.k4) (fun l j hl hj w hw=>?_) (by rw[ek];exact aE _);rw[ek] at hl hj ⊢;rw[ea];exact hx.en l j hl hj w ((sub l j).mem hw)
 have e2:(beatS gone ns).asks=ns.asks:=G.asks;rw[e1,e2,←o h b];unfold Q52;rw[ek,ea,D.log,eG,bD];show ns.log.filter _++_=ns.log.filter _++_
 congr 1
 have tk:=SJ (gone:=gone) (ns:=zj (zu ns)) (h:=h) (b:=b) (fun j hj w hw=>hx.en ns.k j (aE _) hj w hw) (i:=2 ^ ns.k) (aE _);refine Ui (k:=ns.k) ?_ ?_
 ·show wz ns.asks h b (ns.lines ns.k (vA ns.k h b ns.k))=wz ns.asks h b (zD gone (zj (zu ns)) (2 ^ ns.k)).1++wz ns.asks h b ((zW gone (zj (zu ns))).lines ns.k (vA ns.k h b ns.k));rw[D.lines];exact tk.symm
 ·intro l hl;show wz ns.asks h b ((zW gone (zj (zu ns))).lines l (vA ns.k h b l))=wz ns.asks h b (ns.lines l (vA ns.k h b l));rw[D.lines]
  congr 1
  exact qe (ns:=zj (zu ns)) (show l≠ns.k by omega)
theorem uY.log{ns:NS}(o:uY ns)(hx:NX ns)(hf:ns.log.length=ns.asks.length)(h b:Nat):ns.log.filter (uh ns.asks h b)=(aR ns.asks.length).filter (uh ns.asks h b):=by
 rw[←o h b];unfold Q52;have:∀k',k'<=ns.k->yP (G52 ns.asks ns.k h b ns.lines) k'=[]:=by
  intro k';induction k' with
  |zero=>intro hk;show wz _ _ _ (ns.lines 0 _)=[];rw[vY hx.nw.nr hf (aX _) (Yw (aX _))];rfl
  |succ n ih=>intro hk;show wz _ _ _ (ns.lines (n+1) _)++_=[];rw[vY hx.nw.nr hf hk (Yw hk),ih (by omega)];rfl
 rw[this ns.k (aE _),bB]
noncomputable def Zu(asks:List Ask)(n:Nat):Nat:=(asks.getD n default).box.toNat
noncomputable def Zv(asks:List Ask)(p:List Int×List (Nat×Int))(n:Nat):List Int×List (Nat×Int) :=
 (p.1.set (Zu asks n) ((asks.getD n default).deed.mk' (p.1.getD (Zu asks n) 0)),p.2++[(n,p.1.getD (Zu asks n) 0)])
noncomputable def yB(asks:List Ask)(v:List Int)(l:List Nat):List Int×List (Nat×Int):=l.foldl (Zv asks) (v,[])
theorem uI{asks:List Ask}:∀{l:List Nat} {p:List Int×List (Nat×Int)},((l.foldl (Zv asks) p).2.map (·.1))=p.2.map (·.1)++l
 |[],p=>by rw[bB];rfl
 |n::l,p=>by
  rw[eR,uI];show(p.2++[((n:Nat),p.1.getD (Zu asks n) 0)]).map (·.1)++l=_;rw[bC,bD];rfl
theorem Wl{f:List (Nat×Int)}{n:Nat}{v:Int}(h:n∉f.map (·.1)):wR f n v=f++[(n,v)]:=by
 unfold wR;rw[if_neg];intro z;obtain⟨p,hp,e⟩:=iW.mp z;exact h (aW.mpr ⟨p,hp,of_decide_eq_true e⟩)
structure Pl52(v:List Int)(ns:NS):Prop where
 bx:ns.boxes=(yB ns.asks v ns.log).1
 fd:ns.fnd=(yB ns.asks v ns.log).2
theorem TU{v:List Int}{ns:NS}{b n:Nat}(p:Pl52 v ns)(hb:Zu ns.asks n=b)(hn:n∉ns.log):Pl52 v (doN b ns n):=by
 have ek:ns.fnd.map (·.1)=ns.log:=by
  rw[p.fd];exact uI.trans (lJ _)
 have er:yB ns.asks v (ns.log++[n])=Zv ns.asks (yB ns.asks v ns.log) n:=by unfold yB;rw[eM];rfl
 subst hb;constructor
 ·show ns.boxes.set _ _=(yB ns.asks v (ns.log++[n])).1;rw[er];show _=(yB ns.asks v ns.log).1.set _ _;rw[←p.bx]
 ·show wR ns.fnd n _=(yB ns.asks v (ns.log++[n])).2;rw[er,Wl (by rw[ek];exact hn)];show _=(yB ns.asks v ns.log).2++[_]
  rw[←p.fd,←p.bx]
theorem Xr{v:List Int}{b:Nat}:∀{l:List Nat} {ns:NS},Pl52 v ns->(∀n∈l,Zu ns.asks n=b)->(ns.log++l).Nodup->Pl52 v (l.foldl (doN b) ns)/\(l.foldl (doN b) ns).asks=ns.asks/\(l.foldl (doN b) ns).log=ns.log++l
 |[],ns,p,_,_=>⟨p,rfl,(bB _).symm⟩
 |n::l,ns,p,hb,nd=>by
  have hn:n∉ns.log:=fun z=>(eD.mp nd).2.2 n z n aU rfl;have p1:=TU p (hb n aU) hn;obtain⟨a,b2,c⟩:=Xr (b:=b) (l:=l) (ns:=doN b ns n) p1 (fun m hm=>hb m (aK _ hm)) (by show((ns.log++[n])++l).Nodup;rw[bD];exact nd);refine⟨a,b2,c.trans ?_⟩;show(ns.log++[n])++l=_;rw[bD];rfl
theorem Zw{v:List Int}:∀{l:List Wt} {ns:NS},Pl52 v ns->(∀w∈l,∀n∈w.nums,Zu ns.asks n=w.box)->(ns.log++yc l).Nodup->Pl52 v (l.foldl doW ns)/\(l.foldl doW ns).asks=ns.asks/\(l.foldl doW ns).log=ns.log++yc l
 |[],ns,p,_,_=>⟨p,rfl,(bB _).symm⟩
 |w::l,ns,p,hb,nd=>by
  have e:yc (w::l)=w.nums++yc l:=rfl;rw[e,←bD] at nd;obtain⟨a1,a2,a3⟩:=Xr (b:=w.box) (l:=w.nums) p (hb w aU) (eD.mp nd).1;obtain⟨b1,b2,b3⟩:=Zw (l:=l) (ns:=doW ns w) a1 (fun u hu n hn=>by
   show Zu (w.nums.foldl (doN w.box) ns).asks n=_;rw[a2];exact hb u (aK _ hu) n hn) (by show((w.nums.foldl (doN w.box) ns).log++yc l).Nodup;rw[a3];exact nd)
  exact⟨b1,b2.trans a2,b3.trans (by show(w.nums.foldl (doN w.box) ns).log++yc l=_;rw[a3,e,bD])⟩
theorem Pl52.new{k room kept:Nat}{v:List Int}:Pl52 v (t4 k v room kept):=⟨rfl,rfl⟩
theorem qf{asks:List Ask}{a:Ask}:∀{l:List Nat} {p:List Int×List (Nat×Int)},(∀n∈l,n<asks.length)->l.foldl (Zv (asks++[a])) p=l.foldl (Zv asks) p
 |[],_,_=>rfl
 |n::l,p,h=>by
  have hn:=h n aU;rw[eR,eR,show Zv (asks++[a]) p n=Zv asks p n by unfold Zv Zu;rw[wW hn]];exact qf fun m hm=>h m (aK _ hm)
theorem Pl52.put{v:List Int}{ns:NS}(p:Pl52 v ns)(hw:NW ns){a:Ask}:Pl52 v (jq ns a):=by
 have e:yB (ns.asks++[a]) v ns.log=yB ns.asks v ns.log:=qf fun n hn=>vZ hw hn;exact⟨p.bx.trans (by show _=(yB (ns.asks++[a]) v ns.log).1;rw[e]),p.fd.trans (by show _=(yB (ns.asks++[a]) v ns.log).2;rw[e])⟩
theorem Yx{gone:List (Nat×Nat)}{v:List Int}{n0:NS}{i:Nat}(p:Pl52 v n0):Pl52 v (passA gone n0 i):=by
 have s:=y6 gone n0 i;exact⟨by rw[s.boxes,s.asks,s.log];exact p.bx,by rw[s.fnd,s.asks,s.log];exact p.fd⟩
theorem Pl52.beat{v:List Int}{ns:NS}(p:Pl52 v ns)(hx:NX ns)(nw:ns.now<10000)(gone:List (Nat×Nat)):Pl52 v (beatS gone ns):=by
 have G:=su hx.nw nw gone;have B:=(hx.nw.beat nw gone).2;have nd:(ns.log++yc (zD gone (zj (zu ns)) (2 ^ ns.k)).1).Nodup:=by
  have:=B.lnd;rw[show(beatS gone ns).log=(zA gone ns).log from rfl,G.log] at this;exact this
 have F:Pl52 v (WG gone (zj (zu ns))):=⟨p.bx,p.fd⟩
 have hk:∀w∈(zD gone (zj (zu ns)) (2 ^ ns.k)).1,∀n∈w.nums,Zu ns.asks n=w.box:=fun w hw n hn=>by
  obtain⟨j,hj,hm⟩:=(Zk (gone:=gone) (ns:=zj (zu ns)) (aE _)).tk w hw;have:=(hx.en ns.k j (aE _) hj w hm).bx n hn;unfold Zu;rw[this];exact bW _
 have T:=Zw (l:=(zD gone (zj (zu ns)) (2 ^ ns.k)).1) F hk nd;have:Pl52 v (zA gone ns):=Yx T.1;exact⟨this.bx,this.fd⟩
theorem qg{f r:List (Nat×Int)}{n:Nat}{v:Int}(h:xu f n=some v):xu (f++r) n=some v:=by
 unfold xu at h ⊢;rw[List.find?_append];cases e:f.find? fun p=>decide (p.1=n) with
 |none=>rw[e] at h;cases h
 |some p=>rw[e] at h;exact h
theorem sB{n:Nat}{v:Int}:∀{f:List (Nat×Int)},(f.map (·.1)).Nodup->(n,v)∈f->xu f n=some v
 |[],_,h=>by cases h
 |p::f,nd,h=>by
  obtain⟨n1,n2⟩:=cJ.mp nd;rcases aS.mp h with rfl|h
  ·unfold xu;rw[eS,decide_eq_true rfl];rfl
  ·have ne:p.1≠n:=fun z=>n1 (by show p.1∈_;rw[z];exact aW.mpr ⟨_,h,rfl⟩);have:=sB n2 h;unfold xu at this ⊢;rw[eS,decide_eq_false ne];exact this
theorem sC{asks:List Ask}:∀{l:List Nat} {p:List Int×List (Nat×Int)},∃r,(l.foldl (Zv asks) p).2=p.2++r
 |[],p=>⟨[],(bB _).symm⟩
 |n::l,p=>by
  obtain⟨r,hr⟩:=sC (asks:=asks) (l:=l) (p:=Zv asks p n);refine⟨[(n,p.1.getD (Zu asks n) 0)]++r,?_⟩;rw[eR,hr,←bD];rfl
structure Bt52(gone:List (Nat×Nat))(ns:NS):Prop where
 ans:(beatS gone ns).ans=ns.ans++yq (zA gone ns)
 nd:((beatS gone ns).ans.map (·.1)).Nodup
 lg:∀n∈(beatS gone ns).ans.map (·.1),n∈(beatS gone ns).log
 vs:∀p∈yq (zA gone ns),xu (beatS gone ns).fnd p.1=some p.2
theorem Jq{ns:NS}(h:NW ns)(nw:ns.now<10000)(gone:List (Nat×Nat)):Bt52 gone ns:=by
 have G:=su h nw gone;have B:=(h.beat nw gone).2;have BI:=B.lg;have AC:=B.lnd;have oS:=B.an;have sub:∀n∈(beatS gone ns).ans.map (·.1),n∈(beatS gone ns).log:=fun n hn=>by
  rw[oS] at hn;obtain⟨r,hr⟩:=vX (d:=(beatS gone ns).done) (m:=(beatS gone ns).now-(beatS gone ns).k) (n:=(beatS gone ns).now) (by omega);rw[BI,hr];exact bR _ hn
 have nd:((beatS gone ns).ans.map (·.1)).Nodup:=by
  obtain⟨r,hr⟩:=vX (d:=(beatS gone ns).done) (m:=(beatS gone ns).now-(beatS gone ns).k) (n:=(beatS gone ns).now) (by omega);rw[BI,hr] at AC;rw[oS];exact(eD.mp AC).1
 have nE:(yq (zA gone ns)).map (·.1)=yc (uU (zA gone ns) (zA gone ns).k):=qW;have nt:=(h.beat nw gone).1;have t1:((yq (zA gone ns)).map (·.1)).Nodup:=nt.nd;have e1:uW (yq (zA gone ns))=yq (zA gone ns):=wL (l:=yq (zA gone ns)) (f:=[]) t1 (fun p _ z=>by cases z);have et:(beatS gone ns).ans=(yq (zA gone ns)).foldl (fun f p=>wR f p.1 p.2) (zA gone ns).ans:=by
  show(uW (yq (zA gone ns))).foldl (fun f p=>wR f p.1 p.2) (zA gone ns).ans=_;rw[e1]
 have ea:(beatS gone ns).ans=ns.ans++yq (zA gone ns):=by
  rw[et,←G.ans];refine wL t1 fun p hp z=>?_
  -- the keys told are new
  have k1:p.1∈yc (uU (zA gone ns) (zA gone ns).k):=by rw[←nE];exact aW.mpr ⟨p,hp,rfl⟩
  rw[G.ans,h.an] at z;have pV:ug (zA gone ns).done (ns.now+1-ns.k)=ug (zA gone ns).done (ns.now-ns.k)++yc (uU (zA gone ns) (zA gone ns).k):=by
   unfold uU;rw[G.k,G.now,G.nd];by_cases c:ns.k<ns.now+1
   ·rw[if_pos ⟨c,by omega⟩,show ns.now+1-ns.k=(ns.now-ns.k)+1 by omega,xK]
   ·rw[if_neg (by omega),show ns.now+1-ns.k=0 by omega,show ns.now-ns.k=0 by omega];rfl
  have Gi:ug ns.done (ns.now-ns.k)=ug (zA gone ns).done (ns.now-ns.k):=by
   rw[G.done];exact wV fun t t1 t2=>by unfold sO;rw[if_neg (by omega)]
  rw[Gi] at z;have e2:ug (beatS gone ns).done ((beatS gone ns).now-(beatS gone ns).k)=ug (zA gone ns).done (ns.now+1-ns.k):=by
   show ug (zA gone ns).done ((zA gone ns).now-(zA gone ns).k)=_;rw[G.now,G.k]
  rw[oS,e2,pV] at nd;exact(eD.mp nd).2.2 _ z _ k1 rfl
 refine⟨ea,nd,sub,fun p hp=>?_⟩;unfold yq at hp;obtain⟨w,hw,hp⟩:=fE.mp hp;unfold uV at hp;obtain⟨n,hn,rfl⟩:=aW.mp hp;show xu (zA gone ns).fnd n=some ((xu (zA gone ns).fnd n).getD 0);obtain⟨v,hv⟩:=fQ.mp (nt.fk w hw n hn);rw[hv];rfl
def Wm(log:List Nat)(x y:Nat):Prop:=∃u v,log=u++v/\x∈u/\y∉u
theorem Wm.more{log z:List Nat}{x y:Nat}(h:Wm log x y):Wm (log++z) x y:=by
 obtain⟨u,v,e,h1,h2⟩:=h;exact⟨u,v++z,by rw[e,bD],h1,h2⟩
structure An52(ns:NS)(bg:List Nat)(an:List (Nat×Nat×Int)):Prop where
 bl:bg.length=ns.asks.length
 pm:(an.map (·.1)).Perm (ns.ans.map (·.1))
 vl:∀q∈an,xu ns.ans q.1=some q.2.2
 fv:∀q∈an,xu ns.fnd q.1=some q.2.2
 bt:∀q∈an,q.2.1<=ns.now
 bn:∀g∈bg,g<=ns.now
 pr:∀q∈an,∀y g,bg[y]?=some g->q.2.1<=g->Wm ns.log q.1 y
theorem An52.new{k room kept:Nat}{v:List Int}:An52 (t4 k v room kept) [] [] :=
 ⟨rfl,.refl _,(fun q h=>by cases h),(fun q h=>by cases h),(fun q h=>by cases h),(fun g h=>by cases h),(fun q h=>by cases h)⟩
theorem An52.put{ns:NS}{bg:List Nat}{an:List (Nat×Nat×Int)}(h:An52 ns bg an)(hw:NW ns)(sub:∀n∈ns.ans.map (·.1),n∈ns.log){a:Ask}:An52 (jq ns a) (bg++[ns.now]) an:=by
 refine⟨by rw[aI,h.bl];show _=(ns.asks++[a]).length;rw[aI];rfl,h.pm,h.vl,h.fv,h.bt,fun g hg=>?_,fun q hq y g hy BJ=>?_⟩
 ·rcases aP.mp hg with hg|hg
  ·exact h.bn g hg
  ·rw[aB.mp hg];exact aE _
 ·by_cases c:y<bg.length
  ·rw[eV c] at hy;exact h.pr q hq y g hy BJ
  ·have hy':y=bg.length:=by
    have:=(aZ.mp hy).1;rw[aI] at this;have:y<bg.length+1:=this;omega
   have Ba:q.1∈ns.log:=sub _ (h.pm.mem_iff.mp (aW.mpr ⟨q,hq,rfl⟩));refine⟨ns.log,[],(bB _).symm,Ba,fun z=>?_⟩;have:=vZ hw z;rw[hy',h.bl] at this;exact cV _ this
theorem An52.beat{v:List Int}{ns:NS}{bg:List Nat}{an:List (Nat×Nat×Int)}(h:An52 ns bg an)(hx:NX ns)(p:Pl52 v ns)(nw:ns.now<10000)(gone:List (Nat×Nat)){td:List (Nat×Int)}(ht:td.Perm (yq (zA gone ns))) :
  An52 (beatS gone ns) bg (an++td.map fun q=>(q.1,ns.now+1,q.2)):=by
 have G:=su hx.nw nw gone;have B:=Jq hx.nw nw gone;have P':=p.beat hx nw gone;have el:(beatS gone ns).log=ns.log++yc (zD gone (zj (zu ns)) (2 ^ ns.k)).1:=G.log;have ea:(beatS gone ns).asks=ns.asks:=G.asks;have en:(beatS gone ns).now=ns.now+1:=G.now;have ef:∃r,(beatS gone ns).fnd=ns.fnd++r:=by
  have:=P'.fd;rw[ea,el] at this;unfold yB at this;rw[eM] at this;obtain⟨r,hr⟩:=sC (asks:=ns.asks) (l:=yc (zD gone (zj (zu ns)) (2 ^ ns.k)).1) (p:=ns.log.foldl (Zv ns.asks) (v,[]));exact⟨r,this.trans (hr.trans (by rw[show(ns.log.foldl (Zv ns.asks) (v,[])).2=ns.fnd from p.fd.symm]))⟩
 obtain⟨r,hr⟩:=ef;have ou:∀{q:Nat×Nat×Int},q∈an++td.map (fun q=>(q.1,ns.now+1,q.2))->q∈an\/∃t∈yq (zA gone ns),q=(t.1,ns.now+1,t.2):=fun hq=>by
  rcases aP.mp hq with hq|hq
  ·exact .inl hq
  ·obtain⟨t,B6,rfl⟩:=aW.mp hq;exact .inr ⟨t,ht.mem_iff.mp B6,rfl⟩
 refine⟨by rw[ea];exact h.bl,?_,fun q hq=>?_,fun q hq=>?_,fun q hq=>?_,fun g hg=>?_,fun q hq y g hy BJ=>?_⟩
 ·rw[B.ans,bC,bC,bZ];exact h.pm.append (ht.map _)
 ·rcases ou hq with hq|⟨t,B6,rfl⟩
  ·rw[B.ans];exact qg (h.vl q hq)
  ·exact sB B.nd (by rw[B.ans];exact aM _ B6)
 ·rcases ou hq with hq|⟨t,B6,rfl⟩
  ·rw[hr];exact qg (h.fv q hq)
  ·exact B.vs t B6
 ·rw[en];rcases ou hq with hq|⟨t,B6,rfl⟩
  ·exact gJ (h.bt q hq)
  ·exact aE _
 ·rw[en];exact gJ (h.bn g hg)
 ·rcases ou hq with hq|⟨t,B6,rfl⟩
  ·rw[el];exact(h.pr q hq y g hy BJ).more
  ·have:=h.bn g (bF hy);have BJ:ns.now+1<=g:=BJ;omega
structure NB(B:Int)(ns:NS):Prop where
 b0:0<=B
 ab:∀a∈ns.asks,a.deed.Bd B
 lb:∀l j,l<=ns.k->j<2 ^ ns.k->∀w∈ns.lines l j,w.deed.Bd ((w.nums.length:Int)*B)
 bb:InC (((ns.log.length+1:Nat):Int)*B) ns.boxes
 fb:∀p∈ns.fnd,-(((ns.log.length+1:Nat):Int)*B)<=p.2/\p.2<=((ns.log.length+1:Nat):Int)*B
 sb:∀p∈ns.ans,-(((ns.log.length+1:Nat):Int)*B)<=p.2/\p.2<=((ns.log.length+1:Nat):Int)*B
theorem SK{B:Int}(h:0<=B){m n:Nat}(e:m<=n):(m:Int)*B<=(n:Int)*B:=Int.mul_le_mul_of_nonneg_right (gx.mpr e) h
theorem NB.new{B:Int}(h:0<=B){k room kept:Nat}{b:List Int}(hb:InC B b):NB B (t4 k b room kept) :=
 ⟨h,fun a ha=>(by cases ha),fun _ _ _ _ w hw=>(by cases hw),fun v hv=>(by show -(((0+1:Nat):Int)*B)<=v/\v<=((0+1:Nat):Int)*B;have:=hb v hv;omega),fun p hp=>(by cases hp),fun p hp=>(by cases hp)⟩
theorem NB.put{B:Int}{ns:NS}(h:NB B ns){a:Ask}(ha:a.deed.Bd B):NB B (jq ns a):=by
 refine⟨h.b0,fun x hx=>?_,fun l j hl hj w hw=>?_,h.bb,h.fb,h.sb⟩
 ·rcases aP.mp hx with z|z
  ·exact h.ab x z
  ·rw[aB.mp z];exact ha
 ·have hw:w∈zQ ns.lines 0 a.hand.toNat (ns.lines 0 a.hand.toNat++[⟨a.box.toNat,a.deed,[ns.asks.length],[]⟩]) l j:=hw;by_cases c:l=0/\j=a.hand.toNat
  ·have pM:l<=ns.k:=hl;have pT:j<2 ^ ns.k:=hj;rw[c.1,c.2,zr,aP] at hw;rcases hw with hw|hw
   ·exact h.lb 0 _ (aX _) (by rw[←c.2];exact pT) w hw
   ·rw[aB.mp hw];show a.deed.Bd (((1:Nat):Int)*B);rw[show((1:Nat):Int)*B=B by omega];exact ha
  ·rw[zt c] at hw;exact h.lb l j hl hj w hw
theorem Xs{f:List (Nat×Int)}{n:Nat}{v:Int}{p:Nat×Int}(h:p∈wR f n v):p∈f\/p=(n,v):=by
 unfold wR at h;split at h
 ·obtain⟨q,hq,e⟩:=aW.mp h;split at e
  ·exact .inr e.symm
  ·exact .inl (e▸hq)
 ·rcases aP.mp h with h|h
  ·exact .inl h
  ·exact .inr (aB.mp h)
structure DB(B:Int)(ns:NS):Prop where
 b0:0<=B
 ab:∀a∈ns.asks,a.deed.Bd B
 bb:InC (((ns.log.length+1:Nat):Int)*B) ns.boxes
 fb:∀p∈ns.fnd,-(((ns.log.length+1:Nat):Int)*B)<=p.2/\p.2<=((ns.log.length+1:Nat):Int)*B
theorem zbs{B:Int}(h:0<=B):(default:Ask).deed.Bd B:=⟨⟨by show -B<=0;omega,h⟩,fun _ z=>(by cases z),fun _ z=>(by cases z)⟩
theorem DB.one{B:Int}{ns:NS}(h:DB B ns)(b n:Nat):DB B (doN b ns n):=by
 have el:(doN b ns n).log.length=ns.log.length+1:=by show(ns.log++[n]).length=_;rw[aI];rfl
 have up:=SK h.b0 (show ns.log.length+1<=ns.log.length+1+1 by omega);have e2:((ns.log.length+1+1:Nat):Int)*B=B+((ns.log.length+1:Nat):Int)*B:=by rw[show((ns.log.length+1+1:Nat):Int)=1+((ns.log.length+1:Nat):Int) by omega,Int.add_mul,Int.one_mul]
 have hz:0<=((ns.log.length+1:Nat):Int)*B:=kD (cH _) h.b0;have hv:-(((ns.log.length+1:Nat):Int)*B)<=ns.boxes.getD b 0/\ns.boxes.getD b 0<=((ns.log.length+1:Nat):Int)*B:=by
  rw[aJ];cases e:ns.boxes[b]? with
  |none=>exact⟨by show _<=(0:Int);omega,hz⟩
  |some v=>exact h.bb v (bF e)
 have hd:(ns.asks.getD n default).deed.Bd B:=by
  rw[aJ];cases e:ns.asks[n]? with
  |none=>exact zbs h.b0
  |some a=>exact h.ab a (bF e)
 refine⟨h.b0,h.ab,fun v Dh=>?_,fun p hp=>?_⟩
 ·rw[el,e2];rcases ia Dh with z|z
  ·have:=h.bb v z;have:=h.b0;omega
  ·rw[z];exact Rl hd h.b0 hv.1 hv.2 hz
 ·rw[el];have hp:p∈wR ns.fnd n (ns.boxes.getD b 0):=hp;rcases Xs hp with z|z
  ·have:=h.fb p z;omega
  ·rw[z];show _<=ns.boxes.getD b 0/\ns.boxes.getD b 0<=_;omega
theorem DB.nums{B:Int}{b:Nat}:∀{l:List Nat} {ns:NS},DB B ns->DB B (l.foldl (doN b) ns)
 |[],_,h=>h
 |n::l,ns,h=>DB.nums (l:=l) (ns:=doN b ns n) (h.one b n)
theorem DB.all{B:Int}:∀{l:List Wt} {ns:NS},DB B ns->DB B (l.foldl doW ns)
 |[],_,h=>h
 |w::l,ns,h=>DB.all (l:=l) (ns:=doW ns w) h.nums
theorem jb{f:List (Nat×Int)}{n:Nat}{v:Int}(h:xu f n=some v):(n,v)∈f:=by
 unfold xu at h;cases e:f.find? (fun p=>decide (p.1=n)) with
 |none=>rw[e] at h;cases h
 |some p =>
  rw[e] at h;have h1:=List.mem_of_find?_eq_some e;have h2:p.1=n:=of_decide_eq_true (p:=p.1=n) (List.find?_some (p:=fun p:Nat×Int=>decide (p.1=n)) e);have h3:p.2=v:=bH h;rw[←h2,←h3];exact h1
theorem jc:∀{l f:List (Nat×Int)} {p:Nat×Int},p∈l.foldl (fun f p=>wR f p.1 p.2) f->p∈f\/p∈l
 |[],f,p,h=>.inl h
 |q::l,f,p,h=>by
  rcases jc (l:=l) (f:=wR f q.1 q.2) h with z|z
  ·rcases Xs z with z|z
   ·exact .inl z
   ·exact .inr (by rw[z];exact aU ..)
  ·exact .inr (aK _ z)
theorem NB.beat{B:Int}{ns:NS}(h:NB B ns)(nw:NW ns)(now:ns.now<10000)(gone:List (Nat×Nat)):NB B (beatS gone ns):=by
 have G:=su nw now gone;have D:=Ys gone (zj (zu ns));have ek:(zW gone (zj (zu ns))).k=ns.k:=D.k;have k4:=nw.nr.k4;have sub:∀l j,((zW gone (zj (zu ns))).lines l j).Sublist (ns.lines l j):=fun l j=>by rw[D.lines];exact tD (ns:=zj (zu ns))
 have T:DB B (zW gone (zj (zu ns))):=DB.all (l:=(zD gone (zj (zu ns)) (2 ^ (zj (zu ns)).k)).1) (ns:=WG gone (zj (zu ns))) ⟨h.b0,h.ab,h.bb,h.fb⟩;have X:=wK (P:=fun n=>Same5 n (zW gone (zj (zu ns)))/\∀l j,l<=ns.k->j<2 ^ ns.k->∀w∈n.lines l j,w.deed.Bd ((w.nums.length:Int)*B)) (gone:=gone) (n:=zW gone (zj (zu ns))) (fun n h=>by rw[h.1.k,ek];exact k4) (fun n s l hh s1 sk hl=>by
  have C:=Zj n s l;have en:n.k=ns.k:=hh.1.k.trans ek;refine⟨C.same.trans hh.1,?_⟩;have:=C.allP (P:=fun a b w=>w.deed.Bd ((w.nums.length:Int)*B)) (by rw[en];exact k4) s1 sk hl (by rw[en];exact hh.2) (fun c hc=>hc) fun o w c hw hc e=>by
   show(uS w.deed c.deed).Bd (((w.nums++c.nums).length:Int)*B);rw[aI,show(((w.nums.length+c.nums.length:Nat)):Int)=(w.nums.length:Int)+c.nums.length by omega,Int.add_mul];exact U4 hw hc (kD (cH _) h.b0) (kD (cH _) h.b0)
  rw[en] at this;exact this) (i:=ns.k) ⟨Same5.refl _,fun l j hl hj w hw=>h.lb l j hl hj w ((sub l j).mem hw)⟩ (by rw[ek];exact aE _)
 have eg:zA gone ns=passA gone (zW gone (zj (zu ns))) ns.k:=rfl;rw[←eg] at X;have S:=X.1;have lle:ns.log.length<=(zA gone ns).log.length:=by rw[G.log,aI];omega
 have up:=SK h.b0 (show ns.log.length+1<=(zA gone ns).log.length+1 by omega);have fb:∀p∈(zA gone ns).fnd,-((((zA gone ns).log.length+1:Nat):Int)*B)<=p.2/\p.2<=(((zA gone ns).log.length+1:Nat):Int)*B:=by rw[S.fnd,S.log];exact T.fb
 refine⟨h.b0,by show ∀a∈(zA gone ns).asks,_;rw[G.asks];exact h.ab,?_,?_,fb,fun p hp=>?_⟩
 ·show ∀l j,l<=(zA gone ns).k->j<2 ^ (zA gone ns).k->∀w∈(zA gone ns).lines l j,_;rw[G.k];exact X.2
 ·show InC ((((zA gone ns).log.length+1:Nat):Int)*B) (zA gone ns).boxes;rw[S.boxes,S.log];exact T.bb
 ·show -((((zA gone ns).log.length+1:Nat):Int)*B)<=p.2/\p.2<=(((zA gone ns).log.length+1:Nat):Int)*B;have hp:p∈(uW (yq (zA gone ns))).foldl (fun f p=>wR f p.1 p.2) (zA gone ns).ans:=hp;rcases jc hp with z|z
  ·rw[G.ans] at z;have:=h.sb p z;omega
  ·unfold uW at z;rcases jc z with z|z
   ·cases z
   ·unfold yq at z;obtain⟨w,hw,z⟩:=fE.mp z;unfold uV at z;obtain⟨n,hn,rfl⟩:=aW.mp z;show _<=(xu (zA gone ns).fnd n).getD 0/\(xu (zA gone ns).fnd n).getD 0<=_;cases e:xu (zA gone ns).fnd n with
    |none =>
     have hz:0<=(((zA gone ns).log.length+1:Nat):Int)*B:=kD (cH _) h.b0;exact⟨by show _<=(0:Int);omega,hz⟩
    |some v=>exact fb (n,v) (jb e)
def JC(K:FG7)(H:Hp)(x:V)(d:PyData):Prop:=∀m H',Grow m H H'->Dat K H' x d
section
variable{K:FG7}{H H':Hp}{m:List Addr}
theorem JC.dat{x:V}{d:PyData}(h:JC K H x d):Dat K H x d:=h [] H (Grow.refl _ _)
theorem Uk{a:Addr}{b:List Int}(h:SqT K H a (b.map V.int)):JC K H (.ref a) (Rp b):=fun m H' g=>.tup (g.sqT h) (Y6 _)
theorem qh{x:V}{b:List Int}(h:xq K H x b):JC K H x (Rp b):=by
 obtain⟨r,rfl,h⟩:=h;exact Uk h
end
structure Reg(H:Hp)(r:Nat->List Addr):Prop where
 dj:∀i j x,i≠j->x∈r i->x∉r j
 al:∀i x,x∈r i->H x≠none
noncomputable def SL(r:Nat->List Addr)(i:Nat)(R:List Addr):Nat->List Addr:=fun j=>if j=i then R else r j
theorem ud{r:Nat->List Addr}{i:Nat}{R:List Addr}:SL r i R i=R:=if_pos rfl
theorem sD{r:Nat->List Addr}{i j:Nat}{R:List Addr}(h:j≠i):SL r i R j=r j:=if_neg h
section
variable{K:FG7}{C:Addr}{H H':Hp}{m:List Addr}{r:Nat->List Addr}
theorem Grow.some5(g:Grow m H H'){x:Addr}(hm:x∉m)(h:H x≠none):H' x≠none:=by
 cases e:H x with
 |none=>exact absurd e h
 |some o=>rw[g.keep x o hm e];exact fun z=>nomatch z
theorem Reg.grow(h:Reg H r)(i:Nat){R:List Addr}(g:Grow m H H')(hm:∀x∈m,x∈r i)(hR:∀x∈R,(x∈r i\/H x=none)/\H' x≠none):Reg H' (SL r i R):=by
 refine⟨fun a b x ab ha hb=>?_,fun a x ha=>?_⟩
 ·by_cases c:a=i
  ·rw[c,ud] at ha;by_cases d:b=i
   ·exact ab (c.trans d.symm)
   ·rw[sD d] at hb;rcases(hR x ha).1 with z|z
    ·exact h.dj i b x (fun e=>d e.symm) z hb
    ·exact h.al b x hb z
  ·rw[sD c] at ha;by_cases d:b=i
   ·rw[d,ud] at hb;rcases(hR x hb).1 with z|z
    ·exact h.dj a i x c ha z
    ·exact h.al a x ha z
   ·rw[sD d] at hb;exact h.dj a b x ab ha hb
 ·by_cases c:a=i
  ·rw[c,ud] at ha;exact(hR x ha).2
  ·rw[sD c] at ha;exact g.some5 (fun z=>h.dj a i x c ha (hm x z)) (h.al a x ha)
theorem Reg.grow0(h:Reg H r)(g:Grow [] H H'):Reg H' r:=⟨h.dj,fun i x hx=>g.some5 (by simp) (h.al i x hx)⟩
theorem Reg.same(h:Reg H r)(i:Nat)(g:Grow m H H')(hm:∀x∈m,x∈r i)(hR:∀x∈r i,H' x≠none):Reg H' r:=by
 have:=h.grow i (R:=r i) g hm fun x hx=>⟨.inl hx,hR x hx⟩
 have e:SL r i (r i)=r:=by
  funext j
  by_cases c:j=i
  ·rw[c,ud]
  ·rw[sD c]
 rw[e] at this;exact this
theorem Reg.keep(h:Reg H r){i j:Nat}(g:Grow m H H')(hm:∀x∈m,x∈r i)(ij:i≠j){x:Addr}{o:HO}(hx:x∈r j)(e:H x=some o):H' x=some o:=g.keep x o (fun z=>h.dj i j x ij (hm x z) hx) e
theorem Reg.net(h:Reg H r){i j:Nat}(g:Grow m H H')(hm:∀x∈m,x∈r i)(ij:i≠j){A:Ad->Addr}{ns:NS}(hx:msA A ns=r j)(hn:NetAt K C H A ns):NetAt K C H' A ns :=
 hn.grow g fun a ha z=>h.dj i j _ ij (hm _ z) (by rw[←hx];exact qY ha)
theorem Reg.pot(h:Reg H r){i j:Nat}(g:Grow m H H')(hm:∀x∈m,x∈r i)(ij:i≠j){p:Addr}(hx:[p]=r j)(hp:Pot H p):Pot H' p:=by
 obtain⟨p0,p1,z,z0⟩:=hp;exact⟨p0,p1,h.keep g hm ij (by rw[←hx];exact aB.mpr rfl) z,z0⟩
theorem NetAt.al{A:Ad->Addr}{ns:NS}(hn:NetAt K C H A ns):∀x∈msA A ns,H x≠none:=fun x hx=>by
 obtain⟨a,ha,rfl⟩:=aW.mp hx;obtain⟨o,h1,_⟩:=hn.at_ a (qX.mp ha);rw[h1];exact fun z=>nomatch z
theorem TV{A A':Ad->Addr}{ns:NS}{gone:List (Nat×Nat)}(nw:NW ns)(now:ns.now<10000)(ex:JB H A A' ns):∀x∈msA A' (beatS gone ns),x∈msA A ns\/H x=none:=fun x hx=>by
 obtain⟨s1,s2,s3,s4,s5⟩:=ub (gone:=gone) nw now;obtain⟨a,ha,rfl⟩:=aW.mp hx;have ha:=qX.mp ha;by_cases c:a=.dn (ns.nd+1)
 ·rw[c];exact .inr ex.2
 ·have ho:okA ns a:=by
   cases a with
   |ln x y=>exact⟨by rw[←s1];exact ha.1,by rw[←s1];exact ha.2⟩
   |dn t =>
    have h2:t<=(L3.beatS gone ns).nd:=ha.2;rw[s5] at h2;have:t≠ns.nd+1:=fun e=>c (by rw[e]);exact⟨ha.1,by omega⟩
   |_=>trivial
  rw[ex.1 a ho];exact .inl (qY ho)
end
def Zx(K:FG7):Sp:=sp1 fun x H Q=>∃a,x=.ref a/\Pot H a/\∀d y H',d.Ok->d.Bd (10 ^ 29)->Grow [a] H H'->Pot H' a->YY K H' y d->Q y H'
noncomputable def Xt(K:FG7):Sp:=sp4 fun x y z u H Q=>∃(p l:Addr) (k mH:Nat) (sm:List Int),x=.ref p/\y=.int k/\z=.int mH/\u=.ref l/\Pot H p/\k<=4/\1<=mH/\mH<=16/\H l=some (.lst (sm.map V.int))/\p≠l/\1<=sm.length/\sm.length<=1000/\(∀b∈sm,0<=b/\b<mH)∧
 ∀a y H',U9 mH a->a.hand<(2 ^ k:Nat)->a.deed.Bd (10 ^ 29)->Grow [p] H H'->Pot H' p->vM K H' y a->Q y H'
def Zy(K:FG7):Sp:=sp2 fun x y H Q=>∃(p:Addr) (k:Nat),x=.ref p/\y=.int k/\Pot H p/\k<=4/\∀gone z H',(∀q∈gone,vT k q)->gone.length<=20->Grow [p] H H'->Pot H' p->wI K H' z gone->Q z H'
noncomputable def qi(P R1 R2 R3 L D R:List Addr):Nat->List Addr
 |0=>P
 |1=>R1
 |2=>R2
 |3=>R3
 |4=>L
 |5=>D
 |6=>R
 |_=>[]
section
variable{P R1 R2 R3 L D R S:List Addr}
theorem SM:SL (qi P R1 R2 R3 L D R) 1 S=qi P S R2 R3 L D R:=by funext i;match i with|0=>rfl|1=>rfl|2=>rfl|3=>rfl|4=>rfl|5=>rfl|6=>rfl|n+7=>rfl
theorem Jr:SL (qi P R1 R2 R3 L D R) 2 S=qi P R1 S R3 L D R:=by funext i;match i with|0=>rfl|1=>rfl|2=>rfl|3=>rfl|4=>rfl|5=>rfl|6=>rfl|n+7=>rfl
theorem Js:SL (qi P R1 R2 R3 L D R) 3 S=qi P R1 R2 S L D R:=by funext i;match i with|0=>rfl|1=>rfl|2=>rfl|3=>rfl|4=>rfl|5=>rfl|6=>rfl|n+7=>rfl
theorem Jt:SL (qi P R1 R2 R3 L D R) 5 S=qi P R1 R2 R3 L S R:=by funext i;match i with|0=>rfl|1=>rfl|2=>rfl|3=>rfl|4=>rfl|5=>rfl|6=>rfl|n+7=>rfl
end
theorem SO{H:Hp}{p:Addr}(h:Pot H p):∀x∈[p],H x≠none:=fun x hx=>by
 obtain⟨_,_,z,_⟩:=h;rw[aB.mp hx,z];exact fun z=>nomatch z
theorem Ul{H:Hp}{l:Addr}{o:HO}(h:H l=some o):∀x∈[l],H x≠none:=fun x hx=>by
 rw[aB.mp hx,h];exact fun z=>nomatch z
section
variable{K:FG7}{C p l ld lk:Addr}{H H':Hp}{A1 A2 A3 A':Ad->Addr}{n1 n2 n3 n':NS}{sm:List Int}{xs:List V}{hs:List Op7}{rows:List V}
theorem zaq{xo dx:Addr}{A:Ad->Addr}{ns:NS}(hx:H xo=none)(hdx:H dx=none)(ndx:dx≠xo)(g:Grow [xo] (upd (upd H dx (.own xo)) xo (.ins C dx [])) H')(eA:A .p=xo)(fr:∀a,okA ns a->a≠.p->upd (upd H dx (.own xo)) xo (.ins C dx []) (A a)=none):Grow [] H H'/\∀x∈msA A ns,H x=none:=by
 have Gj:=Grow.new (m:=[]) hdx (.own xo);have Gk:upd H dx (.own xo) xo=none:=by rw[zB ndx.symm];exact hx
 have go:=Gj.trans (Grow.new (m:=[]) Gk (.ins C dx []));refine⟨((go.wk (m:=[xo])).trans g).less fun b hb=>.inr (by rw[aB.mp hb];exact hx),fun x pe=>?_⟩;obtain⟨a,ha,rfl⟩:=aW.mp pe;by_cases c:a=.p
 ·rw[c,eA];exact hx
 ·exact go.free (by simp) (fr a (qX.mp ha) c)
end
theorem R0{d:PyData}{w n:Nat}(h:Sh d w n)(hw:w<=16777216)(hn:n<=60):d.showable=true/\d.hasDict=false/\d.depth<=60/\d.shown.length<=sizeLine:=⟨h.1,h.2.1,bM h.2.2.2 hn,h.fits hw⟩
theorem Xu{st r:TS}{D:Ends}{σ:L2.St}{H:Hp}(Good:L2.St->Hp->Prop)(hc:∀D':Ends,(∀σ' H',Good σ' H'->D'.nx σ' H')->st D' σ H)(hr:∀σ' H',Good σ' H'->r D σ' H'):UL st r D σ H:=hc _ hr
theorem zar{p l x:Addr}:∀{i:Nat},x∈qi [p] [] [] [] [l] [] [] i->(i=0/\x=p)\/(i=4/\x=l)
 |0,h=>.inl ⟨rfl,aB.mp h⟩
 |1,h=>by cases h
 |2,h=>by cases h
 |3,h=>by cases h
 |4,h=>.inr ⟨rfl,aB.mp h⟩
 |5,h=>by cases h
 |6,h=>by cases h
 |_+7,h=>by cases h
theorem R4{H:Hp}{p l:Addr}{o:HO}(npl:p≠l)(pp:Pot H p)(hl:H l=some o):Reg H (qi [p] [] [] [] [l] [] []):=by
 refine⟨fun i j x ij h1 h2=>?_,fun i x h1=>?_⟩
 ·rcases zar h1 with ⟨a,e⟩|⟨a,e⟩ <;> rcases zar h2 with ⟨c,d⟩|⟨c,d⟩
  ·exact ij (a.trans c.symm)
  ·exact npl (e.symm.trans d)
  ·exact npl (d.symm.trans e)
  ·exact ij (a.trans c.symm)
 ·rcases zar h1 with ⟨a,e⟩|⟨a,e⟩
  ·exact SO pp x (aB.mpr e)
  ·exact Ul hl x (aB.mpr e)
noncomputable abbrev fd5(k room kept:Nat)(lb la:Addr):List (Str×V):=[("depth",V.int k),("room",V.int room),("most_kept",V.int kept),("boxes",V.ref lb),("asks",V.ref la)]
noncomputable abbrev fd6(k room kept:Nat)(lb la:Addr):List (Str×V):=[("depth",V.int k),("room",V.int room),("most_kept",V.int kept),("boxes",V.ref lb),("asks",V.ref la),("now",V.int 0)]
noncomputable abbrev fd7(k room kept:Nat)(lb la dl:Addr):List (Str×V):=[("depth",V.int k),("room",V.int room),("most_kept",V.int kept),("boxes",V.ref lb),("asks",V.ref la),("now",V.int 0),("lines",V.ref dl)]
noncomputable abbrev fd8(k room kept:Nat)(lb la dl dk:Addr):List (Str×V):=[("depth",V.int k),("room",V.int room),("most_kept",V.int kept),("boxes",V.ref lb),("asks",V.ref la),("now",V.int 0),("lines",V.ref dl),("keeping",V.ref dk)]
noncomputable abbrev fd9(k room kept:Nat)(lb la dl dk dd:Addr):List (Str×V):=[("depth",V.int k),("room",V.int room),("most_kept",V.int kept),("boxes",V.ref lb),("asks",V.ref la),("now",V.int 0),("lines",V.ref dl),("keeping",V.ref dk),("done_in",V.ref dd)]
noncomputable abbrev zas(k room kept:Nat)(lb la dl dk dd lg:Addr):List (Str×V):=[("depth",V.int k),("room",V.int room),("most_kept",V.int kept),("boxes",V.ref lb),("asks",V.ref la),("now",V.int 0),("lines",V.ref dl),("keeping",V.ref dk),("done_in",V.ref dd),("logged",V.ref lg)]
noncomputable abbrev zat(k room kept:Nat)(lb la dl dk dd lg df:Addr):List (Str×V):=[("depth",V.int k),("room",V.int room),("most_kept",V.int kept),("boxes",V.ref lb),("asks",V.ref la),("now",V.int 0),("lines",V.ref dl),("keeping",V.ref dk),("done_in",V.ref dd),("logged",V.ref lg),("found",V.ref df)]
noncomputable abbrev JD(k room kept:Nat)(lb la dl dk dd lg df da:Addr):List (Str×V):=[("depth",V.int k),("room",V.int room),("most_kept",V.int kept),("boxes",V.ref lb),("asks",V.ref la),("now",V.int 0),("lines",V.ref dl),("keeping",V.ref dk),("done_in",V.ref dd),("logged",V.ref lg),("found",V.ref df),("answers",V.ref da)]
def ue(xs:Array Nat):Prop:=∀i j (h:j<xs.size) (ij:i<j),xs[i]<xs[j]
theorem jd{xs:Array Nat}{j:Nat}(hr:ue xs):∀(fuel lo hi:Nat),hi-lo<=fuel->lo<=hi->hi<=xs.size->(∀i (h:i<xs.size),i<lo->xs[i]<j)->(∀i (h:i<xs.size),hi<=i->j<=xs[i])→
  gL xs j fuel lo hi<=xs.size/\(∀i (h:i<xs.size),i<gL xs j fuel lo hi->xs[i]<j)/\(∀i (h:i<xs.size),gL xs j fuel lo hi<=i->j<=xs[i])
 |0,lo,hi,hf,hl,hs,h1,h2=>by
  unfold gL;exact⟨by omega,h1,fun i h mJ=>h2 i h (by omega)⟩
 |fuel+1,lo,hi,hf,hl,hs,h1,h2=>by
  unfold gL;split
  ·rename_i mE;have hm:(lo+hi) / 2<xs.size:=by omega
   simp only[lB,hm,dite_true]
   split
   ·rename_i hv;refine jd hr fuel _ _ (by omega) (by omega) hs (fun i h mJ=>?_) h2;rcases kE (Nat.lt_succ_iff.mp mJ) with z|z
    ·exact gj (hr i _ hm z) hv
    ·subst z;exact hv
   ·rename_i hv;refine jd hr fuel _ _ (by omega) (by omega) (by omega) h1 (fun i h mJ=>?_);rcases kE mJ with z|z
    ·exact bM (kY hv) (cG (hr _ i h z))
    ·subst z;exact kY hv
  ·exact⟨by omega,h1,fun i h mJ=>h2 i h (by omega)⟩
theorem Um{xs:Array Nat}(hr:ue xs)(j:Nat):dR xs j<=xs.size/\(∀i (h:i<xs.size),i<dR xs j->xs[i]<j)/\(∀i (h:i<xs.size),dR xs j<=i->j<=xs[i]) :=
 jd hr _ _ _ (by omega) (by omega) (aE _) (fun i _ z=>absurd z (by omega)) (fun i h z=>absurd z (by omega))
theorem sE{xs:Array Nat}:ue xs ↔ xs.toList.Pairwise (·<·):=by
 rw[List.pairwise_iff_getElem];constructor
 ·intro h i j hi hj ij;simpa using h i j (by simpa using hj) ij
 ·intro h i j hj ij;have hj2:j<xs.toList.length:=by rw[bJ];exact hj
  exact h i j (gj ij hj2) hj2 ij
def Yy(t:SetTable)(j:Nat):Prop:=t.place[dR t.place j]?≠some j
theorem Wn{t:SetTable}{j:Nat}(h:t.slot j=.empty):Yy t j:=fun z=>by
 unfold SetTable.slot at h;simp[z] at h
theorem Wo{t:SetTable}{j:Nat}(h:t.slot j=.dummy):Yy t j:=fun z=>by
 unfold SetTable.slot at h;simp[z] at h
theorem uJ{t:SetTable}{ha:Nat->Int}{h:Int}:∀(fuel:Nat) (p:SetTable.Probe) (j:Nat) (d:Option Nat),(∀x,p.dummy=some x->Yy t x)->kP t ha h fuel p=some (.empty j d)->Yy t j/\∀x,d=some x->Yy t x
 |0,p,j,d,_,e=>by unfold kP at e;cases e
 |fuel+1,p,j,d,hd,e=>by
  unfold kP at e;have adv:∀q:SetTable.Probe,(t.advance q).dummy=q.dummy:=fun q=>by unfold SetTable.advance;split <;> rfl
  split at e
  ·rename_i hs;cases e;exact⟨Wn hs,hd⟩
  ·rename_i hs;exact uJ fuel _ j d (fun x hx=>by rw[adv] at hx;cases hx;exact Wo hs) e
  ·split at e
   ·cases e
   ·exact uJ fuel _ j d (fun x hx=>by rw[adv] at hx;exact hd x hx) e
theorem Uo{t:SetTable}{h:Int}{j:Nat}{b:Bool}(e:t.freeSlot h=some (j,b)):Yy t j:=by
 unfold SetTable.freeSlot at e;split at e
 ·rename_i j' d hp;obtain⟨h1,h2⟩:=uJ _ _ _ _ (fun x hx=>by simp[SetTable.probeStart] at hx) hp;cases e;cases d with
  |none=>exact h1
  |some x=>exact h2 x rfl
 ·cases e
theorem TW{t:SetTable}{j:Nat}(hr:ue t.place)(hf:Yy t j):ue (t.put j).1.place:=by
 obtain⟨b1,b2,b3⟩:=Um hr j;rw[sE];show(SetTable.insertAt t.place (dR t.place j) j).toList.Pairwise (·<·);rw[SetTable.toList_insertAt,List.pairwise_append];have pw:=sE.mp hr;refine⟨pw.sublist (List.take_sublist _ _),?_,?_⟩
 ·rw[List.pairwise_cons];refine⟨fun a ha=>?_,pw.sublist (List.drop_sublist _ _)⟩;obtain⟨i,hi,e⟩:=gW.mp ha;rw[kO] at e;rw[gZ] at hi;have DU:dR t.place j+i<t.place.size:=by rw[bJ] at hi;omega
  have e2:t.place[dR t.place j+i]=a:=by simpa using e
  have h0:dR t.place j<t.place.size:=by omega
  have p0:j<t.place[dR t.place j]:=by
   have:=b3 _ h0 (aE _);rcases kE this with z|z
   ·exact z
   ·exact absurd (by rw[bO h0,←z]) hf
  rcases Nat.eq_zero_or_pos i with z|z
  ·subst z;rw[←e2];exact p0
  ·rw[←e2];exact gj p0 (hr _ _ DU (by omega))
 ·intro a ha b hb;obtain⟨i,hi,e⟩:=gW.mp ha;rw[List.getElem_take] at e;rw[dB,bJ] at hi;have a1:a<j:=by rw[←e];simpa using b2 i (by omega) (by omega)
  rcases aS.mp hb with z|z
  ·rw[z];exact a1
  ·obtain⟨i2,DU,e2⟩:=gW.mp z;rw[kO] at e2;rw[gZ,bJ] at DU;have:=b3 (dR t.place j+i2) (by omega) (by omega);rw[←e2];exact aN a1 (by simpa using this)
theorem je{t:SetTable}{n:Nat}:ue (t.standIn n).place:=by
 intro i j h ij;simp[SetTable.standIn] at h ⊢;exact ij
theorem R5{t:SetTable}{n:Nat}(h:ue t.place):ue (t.orStandIn n).place:=by
 unfold SetTable.orStandIn;split;exact h;exact je
theorem Ju{t:SetTable}{n:Nat}:(t.orStandIn n).led=t.led:=by
 unfold SetTable.orStandIn;split <;> rfl
theorem TX(t:SetTable)(es:Array (Int×Value))(h:Int)(x:Value)(hr:ue t.place):ue (layNew t es h x).2.1.place/\(layNew t es h x).2.1.led=t.led:=by
 unfold layNew;split
 ·rename_i sl wd e;exact⟨R5 (TW hr (Uo e)),Ju⟩
 ·exact⟨je,rfl⟩
theorem Up(n:Nat)(f:Nat->Option Nat):((aR n).filterMap fun j=>(f j).map (j,·)).Pairwise fun a b=>a.1<b.1:=by
 rw[List.pairwise_filterMap];refine List.pairwise_lt_range.imp fun{a b} ab x hx y hy=>?_;cases ha:f a with
 |none=>rw[ha] at hx;cases hx
 |some u =>
  cases hb:f b with
  |none=>rw[hb] at hy;cases hy
  |some v=>rw[ha] at hx;rw[hb] at hy;cases hx;cases hy;exact ab
theorem TY{t t':SetTable}{hs:Array Int}{n:Nat}{o:Array Nat}(e:t.relaid hs n=some (t',o)):ue t'.place/\t'.led=t.led:=by
 unfold SetTable.relaid SetTable.laid at e;obtain⟨ow,_,e2⟩:=Option.bind_eq_some_iff.mp e;cases e2;refine⟨?_,rfl⟩;rw[sE];simp only[eN]
 exact Up _ _
theorem Wp(t:SetTable)(es:Array (Int×Value))(n:Nat):ue (lZ t es n).2.1.place/\(lZ t es n).2.1.led=t.led:=by
 unfold lZ;split
 ·rename_i t' o e;dsimp only
  split
  ·exact TY e
  ·exact⟨je,rfl⟩
 ·exact⟨je,rfl⟩
noncomputable def vI:Value->Int
 |.int i _=>i
 |_=>0
def ElI(prog:Program)(w:World)(l:List (Int×Value)):Prop:=∀e∈l,∃i t,e=((intKind prog w).hash i,fV i t)
theorem ElI.of{prog:Program}{w:World}{l:List (Int×Value)}(h:ElI prog w l):ElemsOf (intKind prog w) l:=fun e he=>by
 obtain⟨i,t,rfl⟩:=h e he;exact⟨⟨i,lD _ _ _ _,rfl⟩,rfl⟩
structure SetS(prog:Program)(w:World)(h:Heap)(a:Addr)(ds:List Int)(es:Array (Int×Value))(ep:Nat)(t:SetTable):Prop where
 at_:h.get? a=some { cls:=.type "set",dict:=none,data:=.set es ep t,slots:=#[] }
 el:ElI prog w es.toList
 pm:(es.toList.map fun e=>vI e.2).Perm ds
 few:es.size<ki
 fit:t.fits es.size=true
 rise:ue t.place
 led:t.led=!w.params.followText "set-order"
def jr(prog:Program)(w:World)(h:Heap)(a:Addr)(ds:List Int):Prop:=∃es ep t,SetS prog w h a ds es ep t
section
variable{prog:Program}{w:World}{A:Around}{E:VS7}{s:Shared}{a:Addr}{ds:List Int}
theorem SetS.len{h:Heap}{es ep t}(S:SetS prog w h a ds es ep t):ds.length=es.size:=by
 have:=S.pm.length_eq;rw[aG,bJ] at this;exact this.symm
theorem SetS.put{es ep t}(S:SetS prog w s.heap a ds es ep t){nH:Array (Int×Value)}{t1:SetTable}{ds1:List Int}{Q:Unit->Shared->Prop}(el:ElI prog w nH.toList)
  (pm:(nH.toList.map fun e=>vI e.2).Perm ds1) (few:nH.size<ki) (fit:t1.fits nH.size=true) (rise:ue t1.place) (led:t1.led=t.led)
  (h:∀h',fA a s.heap h'->SetS prog w h' a ds1 nH (ep+1) t1->Q () { s with heap:=h' }):wpAny (model prog w) A (storeSet a nH t1) Q E s:=by
 refine wpAny_storeSet_of S.at_ rfl ?_ (kQ few);refine h _ (dJ s.heap a (Obj.putSet nH t1)) ⟨?_,el,pm,few,fit,rise,led.trans S.led⟩;exact cN (Obj.putSet nH t1) S.at_ rfl
theorem jr.add{n:Int}{tk:Tok}{Q:Bool->Shared->Prop}(S:jr prog w s.heap a ds)(room:ds.length+1<ki)
  (h:∀b h',fA a s.heap h'->jr prog w h' a (gU ds n)->Q b { s with heap:=h' }) :
  wpAny (model prog w) A (setAddHashed a (.int n tk) ((intKind prog w).hash n)) Q E s:=by
 obtain⟨es,ep,t,S⟩:=S;have lz:=S.len;have mL:=S.el.of;unfold setAddHashed setAddHashedIn;refine bT (aA (fM S.at_ rfl S.fit ?_));dsimp only
 rw[byScan_of rfl S.few mL];simp only[↓reduceIte]
 unfold setAddByScan;refine aA (aA (fO (aA (wpAny_setScan_of (lD _ _ n tk) S.at_ rfl S.fit mL ?_))));cases hr:List.findIdx? (fun e=>(intKind prog w).is n e.2) es.toList with
 |some j =>
  dsimp only
  obtain⟨hj,hp,_⟩:=List.findIdx?_eq_some_iff_getElem.mp hr;have hm:=dX hj;obtain⟨i,t',ei⟩:=S.el _ hm;rw[ei] at hp;have e1:i=n:=(intKind prog w).inj _ _ _ (lD _ _ i t') hp;have e2:n∈ds:=S.pm.mem_iff.mp (aW.mpr ⟨_,hm,by rw[ei];exact e1⟩);have e3:gU ds n=ds:=by unfold gU;rw[if_pos (List.any_eq_true.mpr ⟨n,e2,by simp⟩)]
  refine aF (aF ?_);have:=h false s.heap (Heap.SameBut.refl a s.heap) (by rw[e3];exact⟨es,ep,t,S⟩);exact this
 |none =>
  dsimp only
  have e2:n∉ds:=fun z=>by
   obtain⟨e,he,ev⟩:=aW.mp (S.pm.mem_iff.mpr z);obtain⟨i,t',rfl⟩:=S.el _ he;have ev2:i=n:=ev;have:=List.findIdx?_eq_none_iff.mp hr _ he;rw[ev2] at this;exact absurd (lD _ _ n t') (by rw[this];decide)
  have e3:gU ds n=ds++[n]:=by
   unfold gU;rw[if_neg fun z=>?_];obtain⟨y,hy,ey⟩:=iW.mp z;rw[beq_iff_eq] at ey;exact e2 (ey▸hy)
  rw[e3] at h;have gw:∀(b:Bool) {s₁:Shared} {Q':Unit->Shared->Prop},Q' () s₁->wpAny (model prog w) A (match b with|true=>rule "set.scan.the-table-gave-way" |false=>pure ()) Q' E s₁ :=
   fun b s₁ Q' hq=>by cases b <;> first|exact aF hq|exact fO hq
  have p1:=layNew_perm t es ((intKind prog w).hash n) (.int n tk);have f1:=layNew_fits t es ((intKind prog w).hash n) (.int n tk);obtain⟨r1,l1⟩:=TX t es ((intKind prog w).hash n) (.int n tk) S.rise;generalize layNew t es ((intKind prog w).hash n) (.int n tk)=L at p1 f1 r1 l1 ⊢;obtain⟨nH,t1,wd,gv⟩:=L;dsimp only at p1 f1 r1 l1 ⊢;rw[Array.toList_push] at p1;have el1:ElI prog w nH.toList:=fun e he=>by
   rcases aP.mp (p1.mem_iff.mp he) with z|z
   ·exact S.el e z
   ·rw[aB.mp z];exact⟨n,tk,rfl⟩
  have Gm:(nH.toList.map fun e=>vI e.2).Perm (ds++[n]):=(p1.map _).trans (by rw[bC];exact S.pm.append_right _);have z1:nH.size=ds.length+1:=by have:=Gm.length_eq;rw[aG,bJ,aI] at this;simpa using this
  refine aA (gw _ ?_);have fin:∀{g:Bool->Sem Unit},(∀(b:Bool) (s₁:Shared) (Q':Unit->Shared->Prop),Q' () s₁->wpAny (model prog w) A (g b) Q' E s₁)->wpAny (model prog w) A (do
    storeSet a nH t1
    if(!wd && t1.tooFull)=true then do
      g (lZ t1 nH (gX nH.size)).2.2
      storeSet a (lZ t1 nH (gX nH.size)).1 (lZ t1 nH (gX nH.size)).2.1
      pure (some true)
     else pure (some true)) (fun r s'=>wpAny (model prog w) A (match r with|some added=>pure added|none=>setAddHashedIn a (.int n tk) ((intKind prog w).hash n) 99999) Q E s') E s:=by
   intro g hg;refine aA (S.put el1 Gm (by omega) f1 r1 l1 fun h1 sb1 S1=>?_);split
   ·have p2:=relayAll_perm t1 nH (gX nH.size);have f2:=relayAll_fits t1 nH (gX nH.size);obtain⟨r2,l2⟩:=Wp t1 nH (gX nH.size);refine aA (hg _ _ _ ?_);have z2:=p2.length_eq;rw[bJ,bJ] at z2;refine aA (S1.put (fun e he=>el1 e (p2.mem_iff.mp he)) ((p2.map _).trans Gm) (by omega) f2 r2 l2 fun h2 sb2 S2=>?_);exact aF (aF (h _ _ (sb1.trans sb2) ⟨_,_,_,S2⟩))
   ·exact aF (aF (h _ _ sb1 ⟨_,_,_,S1⟩))
  split
  ·refine aA ?_;rw[hashByValue_scannable 8 rfl];refine aF ?_;simp only[plainKind,↓reduceIte]
   exact fin gw
  ·refine aA (aF ?_);simp only[↓reduceIte]
   exact fin gw
end
theorem jr.keep{prog:Program}{w:World}{h h':Heap}{a:Addr}{ds:List Int}(S:jr prog w h a ds)(k:∀o,h.get? a=some o->h'.get? a=some o):jr prog w h' a ds:=by
 obtain⟨es,ep,t,S⟩:=S;exact⟨es,ep,t,{ S with at_:=k _ S.at_ }⟩
section
variable{prog:Program}{w:World}{A:Around}{E:VS7}{s:Shared}
theorem TZ{R:Result->Shared->Prop}{I:Addr}{fp wr:List Addr}{n:Nat}{P:Nat->Value->Prop}{St:Nat->Heap->Prop}(W:Walks prog w A.in1 I fp wr n P St)(S:Addr)(hSf:S∉fp)
  (val:Nat->Int) (nS:∀i v,P i v->∃t,v=.int (val i) t) (hb:n+1<ki) :
  ∀(k i:Nat) (s:Shared),n-i=k->i<=n->St i s.heap->jr prog w s.heap S (firstMet val i)→
   (∀s',Moved (S::wr) (fun a b=>b=a) s s'->jr prog w s'.heap S (firstMet val n)->R (.ok (.ret .none)) s')→
   codeAny (model prog w) A (.builtin "set.update.loop" ⟨[.ref S,.ref I],[]⟩) R s:=by
 have WS:=W.toS;have hSw:S∉wr:=fun h=>hSf (W.sub _ h);have Ax:∀b∈wr,b∈S::wr:=fun b hb=>aK _ hb;intro k;induction k with
 |zero =>
  intro i s hk hi oh hS hR;have e:i=n:=by omega
  subst e;refine dA F.entry_set_update_loop ?_;rw[Around.under_plainId F.plain_set_update_loop _];show wpAny _ A.in1 (pyNext (.ref I) >>= _) _ _ s;refine aA (WS.done s _ _ oh fun s' hm=>?_);show wpAny _ A.in1 (ret cA) _ _ s';exact aF (hR s' (hm.mono Ax) (hS.keep fun o e=>hm.heap S o hSw e))
 |succ k ih =>
  intro i s hk hi oh hS hR;have mE:i<n:=by omega
  refine dA F.entry_set_update_loop ?_;rw[Around.under_plainId F.plain_set_update_loop _];show wpAny _ A.in1 (pyNext (.ref I) >>= _) _ _ s;refine aA (WS.item i s _ _ mE oh fun v s' hP Gn hm=>?_);obtain⟨t,rfl⟩:=nS i v hP;show wpAny _ A.in1 (holding [fV (val i) t] (setAdd S (.int (val i) t)) >>= _) _ _ s';refine aA (bT ?_);unfold setAdd;refine bT (aA ((intKind prog w).pyHash (k:=val i) (lD _ _ _ _) ?_));have room:(firstMet val i).length+1<ki:=by have:=firstMet_length_le val i;omega
  refine jr.add (s:={ s' with toks:=s'.toks+1 }) (hS.keep fun o e=>hm.heap S o hSw e) room fun bb h' pX h2=>?_;rw[←firstMet_succ] at h2;refine aF ⟨ip F.plain_set_update_loop _,ih (i+1) _ (by omega) mE (WS.frame _ s' _ _ Gn (eB _) fun b hb o e=>?_) h2 fun Bb Go h3=>?_⟩
  ·rw[pX.2 b (fun h:b=S=>hSf (by rw[←h];exact hb))];exact e
  ·refine hR Bb (Moved.trans WS.gtrans ((hm.mono Ax).then_heap (eB _) fun b o hb e=>?_) Go) h3;rw[pX.2 b (fun h:b=S=>hb (by rw[h];exact aU))];exact e
theorem R6(a:Value){Q₁:VS7}
  (h:Q₁ (.ref s.heap.objs.size) { s with heap:=s.heap.push { cls:=.type "set",dict:=none,data:=.set #[] 0 (.fresh 0 0 (!w.params.followText "set-order")) } }) :
  codeAny (model prog w) A (.call (.builtin "set.__new__") ⟨[.type "set",a],[]⟩) (wants Q₁ E) s:=by
 refine lQ ?_;show wpAny _ A.in1 (do checkBuiltinCall "set.__new__" ⟨[.type "set",a],[]⟩;again (.builtin "set.__new__" ⟨[.type "set",a],[]⟩)) _ _ s;refine aA (kM (PySem.F.newCall_set_1 a) (aF ⟨ip PySem.F.plain_set_new _,dA PySem.F.entry_set_new ?_⟩));rw[Around.under_plainId PySem.F.plain_set_new _];unfold Builtin.«set.__new__» Builtin.Frozenset.newClass;have Ax:=sub_set_self;obtain⟨hp,g,d,tk,os⟩:=s;dsimp only
 wp_walk
 refine fF (aF ?_);dsimp only
 simp only[newObj]
 exact aA (wpAny_alloc (aF (aF h)))
theorem Uq{led:Bool}{h:Heap}{a:Addr}(hg:h.get? a=some { cls:=.type "set",dict:=none,data:=.set #[] 0 (.fresh 0 0 led) })(e:led=!w.params.followText "set-order"):jr prog w h a [] :=
 ⟨#[],0,_,hg,fun e he=>(by simp at he),.nil,by decide,rfl,fun i j hj _=>absurd hj (by simp[SetTable.fresh]),e⟩
set_option maxHeartbeats 3200000 in
theorem Ur{l:Addr}{items:Array Value}{ns:List Int}{Q:VS7}
  (hh:A.handled=none) (hl:s.heap.IsList l items) (hi:fL items.toList ns) (hb:items.size+1<ki)
  (h:∀(h':Heap) (tk:Nat),jr prog w h' s.heap.objs.size (Rx ns)->(∀b o,b<s.heap.objs.size->s.heap.get? b=some o->h'.get? b=some o)->Q (.ref s.heap.objs.size) { s with heap:=h',toks:=tk }) :
  wpAny (model prog w) A (call (.type "set") [.ref l]) Q E s:=by
 obtain⟨c,tl,hmro⟩:=PySem.F.called_set.mro;have hmade:=PySem.F.called_set.made;have Ax:=PySem.F.called_set.sub;refine wpAny_call (lQ ?_);show wpAny _ _ (callAny (.type "set") _) _ _ _;refine aF ⟨kB _ (by decide +kernel),dA PySem.F.entry_type_call ?_⟩;rw[Around.under_plain (weight_type_call_type "set" [.ref l] []) rfl];have h1:=PySem.F.called_set.notType;have h2:=PySem.F.called_set.canCreate;have hct:=PySem.F.typeCall_set_1 (.ref l);repeat (any_goals (first|assumption|wp_step))
 generalize hled:(!w.params.followText "set-order")=led;refine gc (R6 (.ref l) (E:=E) (Q₁:=fun obj s₁=>obj=.ref s.heap.objs.size/\s₁={ s with heap:=s.heap.push { cls:=.type "set",dict:=none,data:=.set #[] 0 (.fresh 0 0 led) } }) ⟨rfl,by rw[hled]⟩) fun r s₁ hr=>?_;cases r with
 |error e=>exact hr
 |ok fl =>
  cases fl with
  |ret obj =>
   obtain⟨rfl,rfl⟩:=hr;have hS:(s.heap.push { cls:=.type "set",dict:=none,data:=.set #[] 0 (.fresh 0 0 led) }).get? s.heap.objs.size=some { cls:=.type "set",dict:=none,data:=.set #[] 0 (.fresh 0 0 led) }:=aL _ rfl;have hT:Shared.TypeIs { s with heap:=s.heap.push { cls:=.type "set",dict:=none,data:=.set #[] 0 (.fresh 0 0 led) } } (.ref s.heap.objs.size) "set":=⟨_,hS,rfl⟩
   have hli:=PySem.F.called_set.init.lookup;have hbi:=PySem.F.called_set.init.bind (.ref s.heap.objs.size);repeat (any_goals (first|assumption|wp_step))
   refine gc (codeAny_call_builtin (R:=wants (fun r s₂=>r=.none/\∃h' tk,s₂={ s with heap:=h',toks:=tk }/\jr prog w h' s.heap.objs.size (Rx ns)∧
     (∀b o,b<s.heap.objs.size->s.heap.get? b=some o->h'.get? b=some o)) E) PySem.F.called_set.init.plain PySem.F.entry_set_init (check_set_init_1 hT ?_)) fun r₂ s₂ AD=>?_
   ·obtain⟨ol,hol,hcl,nl,DV⟩:=hl;obtain⟨ocls,DW,odata,B7⟩:=ol;simp only at hcl DV;subst hcl;subst DV;have Gp:(s.heap.push { cls:=.type "set",dict:=none,data:=.set #[] 0 (.fresh 0 0 led) }).get? l=some { cls:=.type "list",dict:=DW,data:=.seq items nl,slots:=B7 }:=aD _ hol;have hsls:=PySem.F.sub_list_set;have hslf:=PySem.F.sub_list_frozenset;have oP:(cI "list" == cI "dict")=false:=by decide
    have B8:(s.heap.push { cls:=.type "set",dict:=none,data:=.set #[] 0 (.fresh 0 0 led) }).IsList l items:=⟨_,Gp,rfl,nl,rfl⟩
    unfold Builtin.«set.__init__» noKeywords Builtin.Frozenset.updateFrom;generalize hPI:pyIter=PI
    wp_walk
    subst hPI;refine fe B8 (aA (kA ?_));have hlS:l<s.heap.objs.size:=aQ hol;have hz:(s.heap.push { cls:=.type "set",dict:=none,data:=.set #[] 0 (.fresh 0 0 led) }).objs.size=s.heap.objs.size+1:=dQ ..;have nI:l≠(s.heap.push { cls:=.type "set",dict:=none,data:=.set #[] 0 (.fresh 0 0 led) }).objs.size:=by rw[hz];exact aT (eC hlS)
    refine TZ (Walks.list (by simp[hh]) _ l nI items) s.heap.objs.size (by rw[hz];simp only[aS,aB,dY,or_false,not_or];exact⟨aT (cS _),eZ hlS⟩) (fun i=>ns.getD i 0) (fun i v hv=>IntsAre.int_at hi i v (by rw[eE];exact hv)) hb (items.size-0) 0 _ (by omega) (aX _)
     ⟨⟨_,aL _ rfl,rfl,rfl⟩,(B8.push _)⟩ (Uq (aD _ hS) hled.symm) fun s' hm E5=>?_
    obtain⟨h',g',d',tk',FF⟩:=s';have eg:g'=s.gens:=hm.gens;have ed:d'=s.drawn:=hm.drawn;have eo:FF=s.os:=hm.os;subst eg;subst ed;subst eo;have my:items.size=ns.length:=by have:=IntsAre.length hi;rwa[bJ] at this
    rw[my,VC] at E5;refine aF ?_;show wpAny _ _ (ret cA) _ _ _;refine aF ⟨rfl,h',tk',rfl,E5,fun b o hb e=>?_⟩;exact hm.heap b o (by rw[hz];simp only[aS,aB,dY,or_false,not_or];exact⟨aT hb,aT (eC hb)⟩) (aD _ (aD _ e))
   ·cases r₂ with
    |error e=>exact AD
    |ok fl₂ =>
     cases fl₂ with
     |ret r =>
      obtain⟨rfl,h',tk,rfl,E5,FZ⟩:=AD;repeat (any_goals (first|assumption|wp_step))
      exact h _ _ E5 FZ
     |_=>exact AD.elim
  |_=>exact hr.elim
end
namespace Z
theorem Xv:Manifest.owners.lookup (String.ofList ['r','o','t','a','r','e','t','i','_','t','e','s'].reverse)=some Manifest.sig_set_iterator:=by kernel_rfl
theorem slot_next:Slot "set_iterator" "__next__" "set_iterator.__next__" :=
 .of (owner:="set_iterator") (n:="__next__") (by rw[i8,gH];kernel_rfl) (by decide +kernel) (by decide +kernel) (by decide +kernel)
  (by first|exact .inl (by decide +kernel)|exact .inr (by decide +kernel)) (by rw[l5];kernel_rfl)
theorem slot_iter:Slot "set_iterator" "__iter__" "set_iterator.__iter__" :=
 .of (owner:="set_iterator") (n:="__iter__") (by rw[i8,gH];kernel_rfl) (by decide +kernel) (by decide +kernel) (by decide +kernel)
  (by first|exact .inl (by decide +kernel)|exact .inr (by decide +kernel)) (by rw[l5];kernel_rfl)
theorem entry_next:entryFor table "set_iterator.__next__" = some Builtin.«set_iterator.__next__»:=entryFor_of_tree (by kernel_rfl)
theorem entry_iter:entryFor table "set_iterator.__iter__" = some Builtin.«dict_keyiterator.__iter__» :=
 entryFor_alias (id':="dict_keyiterator.__iter__") (by kernel_rfl) (by first|rfl|decide +kernel|(unfold String.splitOn;simp +decide [String.splitOnAux])) (by decide +kernel) (by kernel_rfl)
theorem args_next(a:Value):argsOk "set_iterator.__next__" ⟨[a],[]⟩:=by
 unfold argsOk;rw[signature?_of (id:="set_iterator.__next__") (n:=['_','_','t','x','e','n','_','_']) (o:=['r','o','t','a','r','e','t','i','_','t','e','s']) (by kernel_rfl) Xv];kernel_rfl
theorem args_iter(a:Value):argsOk "set_iterator.__iter__" ⟨[a],[]⟩:=by
 unfold argsOk;rw[signature?_of (id:="set_iterator.__iter__") (n:=['_','_','r','e','t','i','_','_']) (o:=['r','o','t','a','r','e','t','i','_','t','e','s']) (by kernel_rfl) Xv];kernel_rfl
theorem entry_set_iter:entryFor table "set.__iter__" = some Builtin.«frozenset.__iter__» :=
 entryFor_alias (id':="frozenset.__iter__") (by kernel_rfl) rfl (by decide +kernel) (by kernel_rfl)
end Z
def SIt(h:Heap)(I a:Addr)(n ep:Nat)(first:Value)(i:Nat):Prop:=h.get? I=some { cls:=.type "set_iterator",dict:=none,data:=.fields #[first,rawInt i,.ref a,rawInt n,rawInt ep],slots:=#[] }
section
variable{prog:Program}{w:World}{A:Around}{E:VS7}{s:Shared}{I a:Addr}{ds:List Int}{es:Array (Int×Value)}{ep:Nat}{t:SetTable}
theorem Wq{M:Model}{src:Source}{n:Nat}{Q:Nat->Shared->Prop}(hn:n≠0)(h:∀i d,i<n->Q i { s with drawn:=d }):wpAny M A (choose src n) Q E s :=
 fun _ _ _=>⟨hn,h _ _ (ft _ (Nat.pos_of_ne_zero hn))⟩
theorem vd{α:Type}{l:List α}{i:Nat}(h:i<l.length):(l[i]::l.eraseIdx i).Perm l:=by
 rw[List.eraseIdx_eq_take_drop_succ];exact List.perm_middle.symm.trans (by rw[List.getElem_cons_drop,eX])
theorem Zz{M:Model}{α:Type}:∀(n:Nat) (xs:List α) (s:Shared) (Q:List α->Shared->Prop),n=xs.length->(∀ys d,ys.Perm xs->Q ys { s with drawn:=d })->wpAny M A (drawOrder n xs) Q E s
 |0,xs,s,Q,e,h=>by
  have:xs=[]:=iC.mp e.symm;subst this;exact aF (h [] s.drawn .nil)
 |n+1,[],s,Q,e,h=>by cases e
 |n+1,x::xs,s,Q,e,h=>by
  unfold drawOrder;refine aA (Wq (by simp) fun i d hi=>?_);rw[aH hi];dsimp only
  refine aA (Zz n _ _ _ (by rw[List.length_eraseIdx_of_lt hi];simp at e ⊢;exact e) fun ys d2 hp=>aF ?_);exact h _ _ ((hp.cons _).trans (vd hi))
theorem jf{n i:Nat}{first:Value}{Q:VS7}(mW:SIt s.heap I a n ep first i)(h:Q (.ref I) s):wpAny (model prog w) A (pyIter (.ref I)) Q E s:=by
 have hT:s.TypeIs (.ref I) "set_iterator":=⟨_,mW,rfl⟩
 refine wpAny_pyIter_slot hT Z.slot_iter (cK Z.slot_iter hT Z.entry_iter ?_ (Z.args_iter _));show wpAny _ _ (ret (.ref I)) _ _ s;exact aF ⟨_,rfl,"set_iterator",_,hT,Z.slot_next.lookup,h⟩
theorem Xw{i sl nx:Nat}{x:Value}{Q:Option Value->Shared->Prop}(S:SetS prog w s.heap a ds es ep t)(mW:SIt s.heap I a es.size ep (rawInt sl) i)
  (hn:∀(A:Around) (E:VS7) (Q:Option (Value×Nat)->Shared->Prop),Q (some (x,nx)) s->wpAny (model prog w) A (setNext a sl i ep) Q E s)
  (hQ:∀h',SIt h' I a es.size ep (rawInt nx) (i+1)->fA I s.heap h'->Q (some x) { s with heap:=h' }):wpAny (model prog w) A (pyNext (.ref I)) Q E s:=by
 have hT:s.TypeIs (.ref I) "set_iterator":=⟨_,mW,rfl⟩
 unfold pyNext;refine aA (kT (cT (name:=gh "__next__") hT Z.slot_next (cK Z.slot_next hT Z.entry_next ?_ (Z.args_next _))));unfold Builtin.«set_iterator.__next__»;generalize h1:setEntries=SE;generalize h2:setNext=SN at hn ⊢
 wp_walk
 subst h1;refine fU S.at_ rfl S.fit ?_
 wp_walk
 subst h2;simp only[bW]
 refine hn _ _ _ ?_;have nC:=mW;unfold SIt at nC
 wp_walk
 exact⟨_,rfl,aF (hQ _ (cN _ (cN _ mW rfl) rfl) ((dJ ..).trans (dJ ..)))⟩
theorem Xx{i sl:Nat}{Q:Option Value->Shared->Prop}(hh:A.handled=none)(S:SetS prog w s.heap a ds es ep t)(mW:SIt s.heap I a es.size ep (rawInt sl) i)
  (hn:∀(A:Around) (E:VS7) (Q:Option (Value×Nat)->Shared->Prop),Q none s->wpAny (model prog w) A (setNext a sl i ep) Q E s)
  (hQ:∀h',kL I s.heap h'->Q none { s with heap:=h' }):wpAny (model prog w) A (pyNext (.ref I)) Q E s:=by
 have hT:s.TypeIs (.ref I) "set_iterator":=⟨_,mW,rfl⟩
 unfold pyNext;refine aA (kT (cT (name:=gh "__next__") hT Z.slot_next (cK Z.slot_next hT Z.entry_next ?_ (Z.args_next _))));unfold Builtin.«set_iterator.__next__»;generalize h1:setEntries=SE;generalize h2:setNext=SN at hn ⊢
 wp_walk
 subst h1;refine fU S.at_ rfl S.fit ?_
 wp_walk
 subst h2;simp only[bW]
 refine hn _ _ _ ?_;dsimp only
 have nC:=mW;unfold SIt at nC;refine aA (gR nC rfl (by simp) ?_);refine aA ?_;simp only[newExc,newTuple]
 refine aA (bS ?_ (by size_fits));refine aA (m:=gS _ _) (kM (a:=cA) (by first|rfl|(simp only[gS];rfl)) ?_);refine bS ?_ (by size_fits);simp only[raiseNew]
 refine aA (aA (wpAny_handled ?_));first|rw[show A.in1.handled=none from hh]|rw[hh]
 refine aF (wpAny_throw ?_);refine aA (lm (T:="StopIteration") (b:=true) ⟨_,aL _ rfl,rfl⟩ isSubtype_stop ?_);exact aF (hQ _ ((((dJ ..).extBut).push _).push _))
theorem ZA{i sl:Nat}{Q:Option (Value×Nat)->Shared->Prop}(S:SetS prog w s.heap a ds es ep t)(ht:w.params.followText "set-order" = true)
  (h:Q (((iX (w.params.setOrder a ep) es)[i]?).map fun e=>(e.2,sl)) s):wpAny (model prog w) A (setNext a sl i ep) Q E s:=by
 unfold setNext setWalk setsByText;refine aA (fM S.at_ rfl S.fit ?_);refine aA (aA (fF (aF ?_)));show wpAny _ _ (if w.params.followText "set-order" = true then _ else _) _ _ _;rw[if_pos ht];simp only[bne_self_eq_false,cY,↓reduceIte]
 refine aA (aA (fM S.at_ rfl S.fit ?_));refine aA (aA (fF (aF ?_)));show wpAny _ _ (if w.params.followText "set-order" = true then _ else _) _ _ _;rw[if_pos ht];exact aA (fF (aF (aF h)))
theorem qj{i:Nat}{Q:Option (Value×Nat)->Shared->Prop}(S:SetS prog w s.heap a ds es ep t)(ht:w.params.followText "set-order" = false)(nd:(!t.plain && decide (es.size>1))=false)(hi:i<=es.size)
  (h:Q (es[i]?.map fun e=>(e.2,t.place.getD i 0+1)) s):wpAny (model prog w) A (setNext a (if i=0 then 0 else t.place.getD (i-1) 0+1) i ep) Q E s:=by
 unfold setNext setsByText;refine aA (fM S.at_ rfl S.fit ?_);refine aA (aA (fF (aF ?_)));show wpAny _ _ (if w.params.followText "set-order" = true then _ else _) _ _ _;rw[if_neg (by rw[ht];decide)];show wpAny _ _ (if(!t.plain && decide (es.size>1))=true then _ else _) _ _ _;rw[if_neg (by rw[nd];decide)];refine aA (show wpAny _ _ (if(!t.led && !es.isEmpty)=true then unsupported "set:maker-not-led" else pure ()) _ _ _ from ?_);rw[if_neg (by simp[S.led,ht])];refine aF ?_;have zz:t.place.size=es.size:=by have:=S.fit;unfold SetTable.fits at this;simp at this;exact this.1
 have eb:dR t.place (if i=0 then 0 else t.place.getD (i-1) 0+1)=i:=by
  obtain⟨b1,b2,b3⟩:=Um S.rise (if i=0 then 0 else t.place.getD (i-1) 0+1);rcases kN (dR t.place (if i=0 then 0 else t.place.getD (i-1) 0+1)) i with z|z|z
  ·have AB:i-1<t.place.size:=by omega
   have:=b3 (i-1) AB (by omega);rw[if_neg (by omega),eJ,bO AB] at this;simp at this;omega
  ·exact z
  ·have AB:i<t.place.size:=by omega
   have:=b2 i AB z;split at this
   ·omega
   ·rename_i h0;have DU:i-1<t.place.size:=by omega
    rw[eJ,bO DU] at this;have r:=S.rise (i-1) i AB (by omega);simp at this;omega
 dsimp only
 rw[eb];by_cases hl:i<es.size
 ·have Du:i<t.place.size:=by omega
  rw[bO hl,bO Du];rw[bO hl,eJ,bO Du] at h;exact aF h
 ·rw[gy (by omega)];rw[gy (by omega)] at h;exact aF h
def TPl(h:Heap)(T:Addr)(ps:List Nat):Prop:=h.get? T=some { cls:=.type "tuple",data:=.seq (ps.map fun i:Nat=>rawInt i).toArray }
theorem R7{j:Nat}{e:Int×Value}{Q:VS7}(S:SetS prog w s.heap a ds es ep t)(he:es[j]?=some e)(h:Q e.2 s):wpAny (model prog w) A (setNextDrawn a j ep) Q E s:=by
 unfold setNextDrawn;refine aA (fM S.at_ rfl S.fit ?_);dsimp only
 simp only[bne_self_eq_false,cY,↓reduceIte]
 rw[he];exact aF h
theorem T1{i j:Nat}{T:Addr}{ps:List Nat}{e:Int×Value}{Q:Option Value->Shared->Prop}(S:SetS prog w s.heap a ds es ep t)(mW:SIt s.heap I a es.size ep (.ref T) i)(hp:TPl s.heap T ps)(hj:ps[i]?=some j)(he:es[j]?=some e)
  (hQ:∀h',SIt h' I a es.size ep (.ref T) (i+1)->fA I s.heap h'->Q (some e.2) { s with heap:=h' }):wpAny (model prog w) A (pyNext (.ref I)) Q E s:=by
 have hT:s.TypeIs (.ref I) "set_iterator":=⟨_,mW,rfl⟩
 unfold pyNext;refine aA (kT (cT (name:=gh "__next__") hT Z.slot_next (cK Z.slot_next hT Z.entry_next ?_ (Z.args_next _))));unfold Builtin.«set_iterator.__next__»;generalize h1:setEntries=SE;generalize h2:setNextDrawn=SN
 wp_walk
 subst h1;refine fU S.at_ rfl S.fit ?_;have Bi:=hp;unfold TPl at Bi
 wp_walk
 subst h2;simp only[bW]
 rw[show((ps.map fun i:Nat=>rawInt i).toArray)[i]?=some (rawInt j) from by simp[hj]];show wpAny _ _ (setNextDrawn a (j:Int).toNat ep >>= _) _ _ _;refine aA (R7 S he ?_);have nC:=mW;unfold SIt at nC;refine aA (gR nC rfl (by simp) ?_);exact aF ⟨_,rfl,aF (hQ _ (cN _ mW rfl) (dJ ..))⟩
theorem T3{i:Nat}{T:Addr}{ps:List Nat}{Q:Option Value->Shared->Prop}(hh:A.handled=none)(S:SetS prog w s.heap a ds es ep t)(mW:SIt s.heap I a es.size ep (.ref T) i)(hp:TPl s.heap T ps)(hj:ps[i]?=none)
  (hQ:∀h',kL I s.heap h'->Q none { s with heap:=h' }):wpAny (model prog w) A (pyNext (.ref I)) Q E s:=by
 have hT:s.TypeIs (.ref I) "set_iterator":=⟨_,mW,rfl⟩
 unfold pyNext;refine aA (kT (cT (name:=gh "__next__") hT Z.slot_next (cK Z.slot_next hT Z.entry_next ?_ (Z.args_next _))));unfold Builtin.«set_iterator.__next__»;generalize h1:setEntries=SE;generalize h2:setNextDrawn=SN
 wp_walk
 subst h1;refine fU S.at_ rfl S.fit ?_;have Bi:=hp;unfold TPl at Bi
 wp_walk
 subst h2;simp only[bW]
 rw[show((ps.map fun i:Nat=>rawInt i).toArray)[i]?=none from by simpa using hj];dsimp only
 have nC:=mW;unfold SIt at nC;refine aA (gR nC rfl (by simp) ?_);refine aA (gR (cN _ nC rfl) rfl (by simp[Obj.mapFields]) ?_);refine aA ?_;simp only[newExc,newTuple]
 refine aA (bS ?_ (by size_fits));refine aA (m:=gS _ _) (kM (a:=cA) (by first|rfl|(simp only[gS];rfl)) ?_);refine bS ?_ (by size_fits);simp only[raiseNew]
 refine aA (aA (wpAny_handled ?_));first|rw[show A.in1.handled=none from hh]|rw[hh]
 refine aF (wpAny_throw ?_);refine aA (lm (T:="StopIteration") (b:=true) ⟨_,aL _ rfl,rfl⟩ isSubtype_stop ?_);exact aF (hQ _ (((((dJ ..).trans (dJ ..)).extBut).push _).push _))
theorem SetS.keep{h h':Heap}(S:SetS prog w h a ds es ep t)(k:∀o,h.get? a=some o->h'.get? a=some o):SetS prog w h' a ds es ep t:={ S with at_:=k _ S.at_ }
theorem xw{α:Type}(next:Nat->Nat):∀(fuel k:Nat) (left:List α) (out:Array α),fuel=left.length->(pickOrder.go next fuel k left out).toList.Perm (out.toList++left)
 |0,k,left,out,e=>by
  have:left=[]:=iC.mp e.symm;subst this;unfold pickOrder.go;simp
 |fuel+1,k,left,out,e=>by
  unfold pickOrder.go;have hl:next k % left.length<left.length:=ft _ (by omega);rw[aH hl];dsimp only
  refine(xw next fuel _ _ _ (by rw[List.length_eraseIdx_of_lt hl];omega)).trans ?_;rw[Array.toList_push,bD];exact(vd hl).append_left _
theorem Us(ht:w.params.followText "set-order" = true)(hh:A.handled=none)(I:Addr)(nI:I≠a) :
  Walks prog w A I [I,a] [I] es.size (fun i v=>((iX (w.params.setOrder a ep) es).toList.map (·.2))[i]?=some v) (fun i h=>SetS prog w h a ds es ep t/\SIt h I a es.size ep (rawInt ((0:Nat):Int)) i) where
 sub:=fun b hb=>by simp at hb ⊢;exact .inl hb
 frame:=fun i h h' st hk=>⟨st.1.keep (hk a (by simp)),hk I (by simp) _ st.2⟩
 item:=fun i s Q E hi st hQ=>by
  have hz:(iX (w.params.setOrder a ep) es).size=es.size:=by
   have:=(xw (w.params.setOrder a ep) es.size 0 es.toList #[] (by simp)).length_eq;unfold iX;simpa using this
  have he:(iX (w.params.setOrder a ep) es)[i]?=some ((iX (w.params.setOrder a ep) es)[i]'(by omega)):=bO _;refine Xw (sl:=0) (nx:=0) st.1 st.2 (fun A E Q q=>ZA st.1 ht (by rw[he];exact q)) fun h' mW sb=>?_;refine hQ _ h' s.toks (by rw[bN,eE,he];rfl) ⟨st.1.keep fun o e=>by rw[sb.2 a (Ne.symm nI)];exact e,mW⟩ fun b o hb e=>sb.extBut b o (fun z=>hb (by simp[z])) e
 done:=fun s Q E st hQ=>by
  have hz:(iX (w.params.setOrder a ep) es).size=es.size:=by
   have:=(xw (w.params.setOrder a ep) es.size 0 es.toList #[] (by simp)).length_eq;unfold iX;simpa using this
  refine Xx (sl:=0) hh st.1 st.2 (fun A E Q q=>ZA st.1 ht (by rw[gy (by omega)];exact q)) fun h' ex=>hQ h' s.toks fun b o hb e=>ex b o (fun z=>hb (by simp[z])) e
 self:=fun _ _ _ _ st hQ=>jf st.2 hQ
theorem Wr(ht:w.params.followText "set-order" = false)(nd:(!t.plain && decide (es.size>1))=false)(hh:A.handled=none)(I:Addr)(nI:I≠a) :
  Walks prog w A I [I,a] [I] es.size (fun i v=>(es.toList.map (·.2))[i]?=some v) (fun i h=>SetS prog w h a ds es ep t/\SIt h I a es.size ep (rawInt ((if i=0 then 0 else t.place.getD (i-1) 0+1:Nat):Int)) i) where
 sub:=fun b hb=>by simp at hb ⊢;exact .inl hb
 frame:=fun i h h' st hk=>⟨st.1.keep (hk a (by simp)),hk I (by simp) _ st.2⟩
 item:=fun i s Q E hi st hQ=>by
  have he:es[i]?=some es[i]:=bO hi;refine Xw (nx:=t.place.getD i 0+1) st.1 st.2 (fun A E Q q=>qj st.1 ht nd (cG hi) (by rw[he];exact q)) fun h' mW sb=>?_;refine hQ _ h' s.toks (by rw[bN,eE,he];rfl) ⟨st.1.keep fun o e=>by rw[sb.2 a (Ne.symm nI)];exact e,by rw[if_neg (Nat.succ_ne_zero i)];exact mW⟩ fun b o hb e=>sb.extBut b o (fun z=>hb (by simp[z])) e
 done:=fun s Q E st hQ=>by
  refine Xx hh st.1 st.2 (fun A E Q q=>qj st.1 ht nd (aE _) (by rw[gy (aE _)];exact q)) fun h' ex=>hQ h' s.toks fun b o hb e=>ex b o (fun z=>hb (by simp[z])) e
 self:=fun _ _ _ _ st hQ=>jf st.2 hQ
theorem Ws{T:Addr}{ps:List Nat}(hp:ps.Perm (aR es.size))(hh:A.handled=none)(I:Addr)(nI:I≠a)(nT:T≠I) :
  Walks prog w A I [I,a,T] [I] es.size (fun i v=>((ps.filterMap (es[·]?)).map (·.2))[i]?=some v) (fun i h=>SetS prog w h a ds es ep t/\SIt h I a es.size ep (.ref T) i/\TPl h T ps) where
 sub:=fun b hb=>by simp at hb ⊢;exact .inl hb
 frame:=fun i h h' st hk=>⟨st.1.keep (hk a (by simp)),hk I (by simp) _ st.2.1,hk T (by simp) _ st.2.2⟩
 item:=fun i s Q E hi st hQ=>by
  have hl:ps.length=es.size:=by have:=hp.length_eq;simpa using this
  have hj:ps[i]?=some (ps[i]'(by omega)):=aH _;have hm:ps[i]'(by omega)<es.size:=aV.mp (hp.mem_iff.mp (dX _));have he:es[ps[i]'(by omega)]?=some (es[ps[i]'(by omega)]):=bO hm;have ef:∀(l:List Nat),(∀x∈l,x<es.size)->∀k:Nat,(l.filterMap (es[·]?))[k]?=l[k]?.bind (es[·]?):=by
   intro l;induction l with
   |nil=>intro _ k;simp
   |cons x l ih =>
    intro hx k;have h0:=hx x (by simp);rw[List.filterMap_cons_some (bO h0)];cases k with
    |zero=>simp[h0]
    |succ k=>simpa using ih (fun y hy=>hx y (by simp[hy])) k
  refine T1 st.1 st.2.1 st.2.2 hj he fun h' mW sb=>?_;refine hQ _ h' s.toks ?_ ⟨st.1.keep fun o e=>by rw[sb.2 a (Ne.symm nI)];exact e,mW,by unfold TPl;rw[sb.2 T nT];exact st.2.2⟩ fun b o hb e=>sb.extBut b o (fun z=>hb (by simp[z])) e;rw[bN,ef ps (fun x hx=>aV.mp (hp.mem_iff.mp hx)),hj];simp only[Option.bind_some,he,gE]
 done:=fun s Q E st hQ=>by
  have hl:ps.length=es.size:=by have:=hp.length_eq;simpa using this
  exact T3 hh st.1 st.2.1 st.2.2 (cO (by omega)) fun h' ex=>hQ h' s.toks fun b o hb e=>ex b o (fun z=>hb (by simp[z])) e
 self:=fun _ _ _ _ st hQ=>jf st.2.1 hQ
end
section
variable{prog:Program}{w:World}{A:Around}{E:VS7}{s:Shared}{I a:Addr}{ds:List Int}{es:Array (Int×Value)}{ep:Nat}{t:SetTable}
noncomputable def itO(first:Value)(a:Addr)(n ep:Nat):Obj:={ cls:=.type "set_iterator",data:=.fields #[first,rawInt ((0:Nat):Int),.ref a,rawInt n,rawInt ep] }
theorem T4{Q:Bool->Shared->Prop}(S:SetS prog w s.heap a ds es ep t)(h:Q (!w.params.followText "set-order" && (!t.plain && decide (es.size>1))) s):wpAny (model prog w) A (setDrawn a) Q E s:=by
 unfold setDrawn setsByText;refine aA (fM S.at_ rfl S.fit ?_);exact aA (aA (fF (aF (aF h))))
theorem T6{Q:VS7}(S:SetS prog w s.heap a ds es ep t)
  (h1:(!w.params.followText "set-order" && (!t.plain && decide (es.size>1)))=false->Q (.ref s.heap.objs.size) { s with heap:=s.heap.push (itO (rawInt ((0:Nat):Int)) a es.size ep) })
  (h2:∀(ps:List Nat) d,ps.Perm (aR es.size)->Q (.ref (s.heap.objs.size+1)) { s with heap:=(s.heap.push { cls:=.type "tuple",data:=.seq (ps.map fun i:Nat=>rawInt i).toArray }).push (itO (.ref s.heap.objs.size) a es.size ep),drawn:=d }) :
  wpAny (model prog w) A (pyIter (.ref a)) Q E s:=by
 have hT:s.TypeIs (.ref a) "set":=⟨_,S.at_,rfl⟩
 refine wpAny_pyIter_slot hT PySem.F.slot_set_iter (cK PySem.F.slot_set_iter hT Z.entry_set_iter ?_ (PySem.F.args_set_iter_1 _));unfold Builtin.«frozenset.__iter__» Builtin.Frozenset.slot0 slotArgs;simp only[List.isEmpty_nil,Bool.not_true,cY,↓reduceIte,bind_assoc,gB,bne_self_eq_false]
 unfold Builtin.Frozenset.addrOf Builtin.Frozenset.sizeOf;refine aA (aF ?_);try dsimp only
 refine aA (aF ?_);refine aA (aA (fU S.at_ rfl S.fit (aF ?_)));refine aA (T4 S ?_);by_cases hd:(!w.params.followText "set-order" && (!t.plain && decide (es.size>1)))=true
 ·rw[if_pos hd];refine aA (Zz _ _ _ _ (by simp) fun ps d hp=>?_);have hz:ps.length=es.size:=by have:=hp.length_eq;simpa using this
  simp only[newTuple]
  refine aA (bS ?_ (by show(List.map (fun i:Nat=>rawInt i) ps).toArray.size<=sizeLine;simp only[aO,aG];rw[hz];exact kQ S.few));refine aA (wpAny_setEpoch_of (aD _ S.at_) rfl S.fit ?_);simp only[newFields]
  refine aA (bS ?_ (by size_fits));have e1:(s.heap.push { cls:=.type "tuple",data:=.seq (ps.map fun i:Nat=>rawInt i).toArray }).objs.size=s.heap.objs.size+1:=dQ ..;exact aF ⟨_,rfl,"set_iterator",_,⟨_,aL _ rfl,rfl⟩,Z.slot_next.lookup,by dsimp only;rw[e1];exact h2 ps d hp⟩
 ·rw[if_neg hd];refine aA (aF (aA (wpAny_setEpoch_of S.at_ rfl S.fit ?_)));simp only[newFields]
  refine aA (bS ?_ (by size_fits));exact aF ⟨_,rfl,"set_iterator",_,⟨_,aL _ rfl,rfl⟩,Z.slot_next.lookup,h1 (by simpa using hd)⟩
theorem T7{Q:Bool->Shared->Prop}{r:Addr}(hT:s.TypeIs (.ref r) "set")(h:Q false s):wpAny (model prog w) A (fC (.ref r)) Q E s:=by
 unfold fC;refine aA (lO hT PySem.F.slot_set_len.lookup ?_);generalize hid:("set.__len__":String)=id0
 wp_delta
 rw[show splitId id0=some ("set","__len__") from by subst hid;decide +kernel];subst hid;refine aA (lm (T:="set") (b:=true) hT (by rw[l5];kernel_rfl) ?_);refine wpAny_ite_split (fun Bk=>absurd Bk (by decide)) (fun _=>?_);refine wpAny_ite_split (fun _=>?_) (fun Bk=>absurd (by decide +kernel) Bk);refine aA (fK hT ?_);exact aF h
theorem zau{R:Result->Shared->Prop}{L:Addr}{fp:List Addr}{n:Nat}{P:Nat->Value->Prop}{St:Nat->Heap->Prop}{s1:Shared}(S:SetS prog w s1.heap a ds es ep t)(W:Walks prog w A.in1 I fp [I] n P St)(st:St 0 s1.heap)(hn:n<=sizeLine)
  (hL:s1.heap.get? L=some { cls:=.type "list",data:=.seq #[] 0 }) (nL:L∉fp) (res:Value)
  (hR:∀h' tk mZ c',(∀b o,b≠L->b≠I->s1.heap.get? b=some o->h'.get? b=some o)->h'.get? L=some { cls:=.type "list",dict:=none,data:=.seq mZ c',slots:=#[] }->ItemsOf P mZ n->R (.ok (.ret res)) { s1 with heap:=h',toks:=tk }) :
  wpAny (model prog w) A.in1 (do
    let room←holding [.ref I] (fC (.ref a))
    if(room ||["set","frozenset","dict","dict_keys","dict_values","dict_items"].any (cI "set" == .type ·))=true then do
     rule "list.extend.makes-room"
     Builtin.List.listTouch (.ref L)
     again (.builtin "list.extend.loop" ⟨[.ref L,.ref I,res],[]⟩)
    else again (.builtin "list.extend.loop" ⟨[.ref L,.ref I,res],[]⟩))
   (fun fin s'=>match fin with|.done f=>R (.ok f) s'|.again c'=>c'.quiet=true/\codeAny (model prog w) A c' R s') (fun e s'=>R (.error e) s') s1:=by
 have go:∀(h:Heap) (c₁ tk:Nat),St 0 h->(∀b o,b≠L->s1.heap.get? b=some o->h.get? b=some o)→
   h.get? L=some { cls:=.type "list",data:=.seq #[] c₁ }->codeAny (model prog w) A (.builtin "list.extend.loop" ⟨[.ref L,.ref I,res],[]⟩) R { s1 with heap:=h,toks:=tk }:=by
  intro h c₁ tk oh hk h1;refine codeAny_extend_loopS W.toS hn L nL res n 0 _ #[] c₁ rfl (aX _) oh h1 (ItemsOf.nil _) fun s' mZ c' hm h2 oR=>?_;rw[Moved.eq_with hm];exact hR s'.heap s'.toks mZ c' (fun b o hb hI e=>hm.heap b o (by simp only[aS,dY,or_false,not_or];exact⟨hb,hI⟩) (hk b o hb e)) h2 oR
 refine aA (bT (T7 ⟨_,S.at_,rfl⟩ ?_));rw[if_pos (by decide)];refine aA (fO (aA ?_));show wpAny _ _ (updateSeq L (·.push .none) >>= fun _=>updateSeq L (·.pop)) _ _ _;refine aA (wpAny_updateSeq hL rfl ?_);have k2:=cN (cL (·.push cA)) hL rfl;refine wpAny_updateSeq (hz:=by seq_fits) k2 rfl ?_;have k3:=cN (cL (·.pop)) k2 rfl;refine aF ⟨ip PySem.F.plain_extend_loop _,go _ _ _ (W.frame 0 _ _ st fun b hb o e=>?_) (fun b o hb e=>?_) k3⟩
 ·have nb:b≠L:=fun z=>nL (z▸hb);exact(eK _ _ (Ne.symm nb)).trans ((eK _ _ (Ne.symm nb)).trans e)
 ·exact(eK _ _ (Ne.symm hb)).trans ((eK _ _ (Ne.symm hb)).trans e)
theorem T8{mG:Array Value}{ord:List Value}{n:Nat}(hn:ord.length=n)(h:ItemsOf (fun i v=>ord[i]?=some v) mG n):mG.toList=ord:=by
 refine iQ fun i=>?_;by_cases hi:i<mG.size
 ·rw[eE,bO hi,h.2 i mG[i] (bO hi)]
 ·have:=h.1;rw[cO (by rw[bJ];omega),cO (by omega)]
noncomputable def RC(es:Array (Int×Value))(L:Addr)(s:Shared)(r':Result)(s':Shared):Prop:=∃(h':Heap) (tk:Nat) (d:Drawn) (mZ:Array Value) (c':Nat) (ord:List Value),r'=.ok (.ret (.ref L))/\s'={ s with heap:=h',toks:=tk,drawn:=d }∧
  (∀b o,s.heap.get? b=some o->h'.get? b=some o)/\h'.get? L=some { cls:=.type "list",dict:=none,data:=.seq mZ c',slots:=#[] }/\ord.Perm (es.toList.map (·.2))/\ItemsOf (fun i v=>ord[i]?=some v) mZ es.size
theorem Yz{Q:List Value->Shared->Prop}(hh:A.handled=none)(S:SetS prog w s.heap a ds es ep t)
  (hQ:∀(h':Heap) tk d (vs:List Value),s.heap.objs.size<=h'.objs.size->(∀b o,s.heap.get? b=some o->h'.get? b=some o)->vs.Perm (es.toList.map (·.2))->Q vs { s with heap:=h',toks:=tk,drawn:=d }) :
  wpAny (model prog w) A (collect (.ref a)) Q E s:=by
 unfold collect;refine aA (kA (dA PySem.F.entry_proto_collect ?_));rw[Around.under_plainId PySem.F.plain_proto_collect _];show wpAny _ A.in1 (newList [] >>= fun l=>again (.builtin "list.__iadd__" ⟨[l,.ref a],[]⟩)) _ _ s;refine aA (bS ?_);refine aF ⟨ip PySem.F.plain_list_iadd _,dA PySem.F.entry_list_iadd ?_⟩;rw[Around.under_plainId PySem.F.plain_list_iadd _];show wpAny _ A.in1 (dN (.ref s.heap.objs.size) (.ref a) (.ref s.heap.objs.size)) _ _ _;have hL:(s.heap.push { cls:=.type "list",data:=.seq ([]:List Value).toArray }).get? s.heap.objs.size=some { cls:=.type "list",data:=.seq ([]:List Value).toArray }:=aL _ rfl;have hz:(s.heap.push { cls:=.type "list",data:=.seq ([]:List Value).toArray }).objs.size=s.heap.objs.size+1:=dQ ..;have B1:a<s.heap.objs.size:=aQ S.at_;have S1:SetS prog w (s.heap.push { cls:=.type "list",data:=.seq ([]:List Value).toArray }) a ds es ep t:=S.keep fun o e=>aD _ e;have zn:es.size<=sizeLine:=kQ S.few;have fin:∀(h':Heap) tk d mZ c' (ord:List Value),(∀b o,s.heap.get? b=some o->h'.get? b=some o)->h'.get? s.heap.objs.size=some { cls:=.type "list",dict:=none,data:=.seq mZ c',slots:=#[] }->ord.Perm (es.toList.map (·.2))->ItemsOf (fun i v=>ord[i]?=some v) mZ es.size→
   wpAny (model prog w) A (load s.heap.objs.size >>= fun o=>match o.data with|.seq xs _=>pure xs.toList|_=>unsupported "internal:collect") Q E { s with heap:=h',toks:=tk,drawn:=d }:=fun h' tk d mZ c' ord hk h1 hp oR =>
  aA (me h1 (aF (hQ h' tk d _ (cG (aQ h1)) hk (by rw[T8 (by have:=hp.length_eq;simpa using this) oR];exact hp))))
 unfold dN;refine aA (fK (T:="set") ⟨_,S1.at_,rfl⟩ ?_);have g1:Builtin.List.listSameRef (.ref s.heap.objs.size) (.ref a)=false:=by simp[Builtin.List.listSameRef,eZ B1]
 have g2:(cI "set" == cI "list")=false:=by decide
 have g3:(cI "set" == cI "tuple")=false:=by decide
 simp only[g1,g2,g3,Bool.or_false,cY,if_false]
 refine cB (Q:=fun fn s'=>match fn with
   |.done f=>RC es s.heap.objs.size s (.ok f) s'
   |.again c'=>c'.quiet=true/\codeAny (model prog w) A c' (RC es s.heap.objs.size s) s') (E:=fun e s'=>RC es s.heap.objs.size s (.error e) s') ?main (fun fn s' h=>?_) (fun e s' h=>?_)
 case main =>
  have Gq:∀{h1:Heap} {d:Drawn} {I:Addr} {fp:List Addr} {St:Nat->Heap->Prop} {ord:List Value},(∀b o,s.heap.get? b=some o->h1.get? b=some o)->s.heap.objs.size<I->s.heap.objs.size∉fp→
    h1.get? s.heap.objs.size=some { cls:=.type "list",data:=.seq ([]:List Value).toArray }->Walks prog w A.in1 I fp [I] es.size (fun i v=>ord[i]?=some v) St->St 0 h1->ord.Perm (es.toList.map (·.2))→
    wpAny (model prog w) A.in1 (do
    let room←holding [.ref I] (fC (.ref a))
    if(room ||["set","frozenset","dict","dict_keys","dict_values","dict_items"].any (cI "set" == .type ·))=true then do
     rule "list.extend.makes-room"
     Builtin.List.listTouch (.ref s.heap.objs.size)
     again (.builtin "list.extend.loop" ⟨[.ref s.heap.objs.size,.ref I,.ref s.heap.objs.size],[]⟩)
    else again (.builtin "list.extend.loop" ⟨[.ref s.heap.objs.size,.ref I,.ref s.heap.objs.size],[]⟩)) (fun fn s'=>match fn with
   |.done f=>RC es s.heap.objs.size s (.ok f) s'
   |.again c'=>c'.quiet=true/\codeAny (model prog w) A c' (RC es s.heap.objs.size s) s') (fun e s'=>RC es s.heap.objs.size s (.error e) s') { s with heap:=h1,drawn:=d }:=by
   intro h1 d I fp St ord k1 iI nL hl W st hp;refine zau (s1:={ s with heap:=h1,drawn:=d }) (S.keep fun o e=>k1 a o e) W st zn hl nL _ fun h' tk mZ c' hk pM oR=>?_;exact⟨h',tk,d,mZ,c',ord,rfl,rfl,fun b o e=>hk b o (aT (aQ e)) (aT (gj (aQ e) iI)) (k1 b o e),pM,hp,oR⟩
  refine aA (T6 (s:={ s with heap:=s.heap.push { cls:=.type "list",data:=.seq ([]:List Value).toArray } }) S1 (fun nd=>?_) fun ps d hp=>?_)
  ·have nI:(s.heap.push { cls:=.type "list",data:=.seq ([]:List Value).toArray }).objs.size≠a:=by rw[hz];exact eZ (eC B1)
   have S2:=S1.keep (h':=(s.heap.push { cls:=.type "list",data:=.seq ([]:List Value).toArray }).push (itO (rawInt ((0:Nat):Int)) a es.size ep)) fun o e=>aD _ e;have B3:SIt ((s.heap.push { cls:=.type "list",data:=.seq ([]:List Value).toArray }).push (itO (rawInt ((0:Nat):Int)) a es.size ep)) (s.heap.push { cls:=.type "list",data:=.seq ([]:List Value).toArray }).objs.size a es.size ep (rawInt ((0:Nat):Int)) 0:=aL _ rfl;have nL:s.heap.objs.size∉[(s.heap.push { cls:=.type "list",data:=.seq ([]:List Value).toArray }).objs.size,a]:=by
    rw[hz];simp only[aS,aB,dY,or_false,not_or];exact⟨aT (cS _),eZ B1⟩
   have lI:s.heap.objs.size<(s.heap.push { cls:=.type "list",data:=.seq ([]:List Value).toArray }).objs.size:=by rw[hz];exact cS _
   have kk:∀b o,s.heap.get? b=some o->((s.heap.push { cls:=.type "list",data:=.seq ([]:List Value).toArray }).push (itO (rawInt ((0:Nat):Int)) a es.size ep)).get? b=some o:=fun b o e=>aD _ (aD _ e);cases ht:w.params.followText "set-order" with
   |true=>exact Gq (d:=s.drawn) kk lI nL (aD _ hL) (Us (A:=A.in1) ht hh _ nI) ⟨S2,B3⟩ ((by have:=xw (w.params.setOrder a ep) es.size 0 es.toList #[] (by simp);simpa using this:(pickOrder.go (w.params.setOrder a ep) es.size 0 es.toList #[]).toList.Perm es.toList).map _)
   |false =>
    rw[ht] at nd;exact Gq (d:=s.drawn) kk lI nL (aD _ hL) (Wr (A:=A.in1) ht (by simpa using nd) hh _ nI) ⟨S2,B3⟩ (.refl _)
  ·have hz2:((s.heap.push { cls:=.type "list",data:=.seq ([]:List Value).toArray }).push { cls:=.type "tuple",data:=.seq (ps.map fun i:Nat=>rawInt i).toArray }).objs.size=(s.heap.push { cls:=.type "list",data:=.seq ([]:List Value).toArray }).objs.size+1:=dQ ..;have hz3:(s.heap.push { cls:=.type "list",data:=.seq ([]:List Value).toArray }).objs.size+1=s.heap.objs.size+2:=by rw[hz]
   have tI:s.heap.objs.size<(s.heap.push { cls:=.type "list",data:=.seq ([]:List Value).toArray }).objs.size+1:=by rw[hz3];exact Nat.lt_add_of_pos_right (by decide)
   have S2:=(S1.keep (h':=(s.heap.push { cls:=.type "list",data:=.seq ([]:List Value).toArray }).push { cls:=.type "tuple",data:=.seq (ps.map fun i:Nat=>rawInt i).toArray }) fun o e=>aD _ e).keep (h':=((s.heap.push { cls:=.type "list",data:=.seq ([]:List Value).toArray }).push { cls:=.type "tuple",data:=.seq (ps.map fun i:Nat=>rawInt i).toArray }).push (itO (.ref (s.heap.push { cls:=.type "list",data:=.seq ([]:List Value).toArray }).objs.size) a es.size ep)) fun o e=>aD _ e;refine Gq (I:=(s.heap.push { cls:=.type "list",data:=.seq ([]:List Value).toArray }).objs.size+1) (d:=d) (fun b o e=>aD _ (aD _ (aD _ e))) tI ?_ (aD _ (aD _ hL)) (Ws (A:=A.in1) (T:=(s.heap.push { cls:=.type "list",data:=.seq ([]:List Value).toArray }).objs.size) hp hh _ (eZ (gj B1 tI)) (aT (cS _))) ⟨S2,?_,?_⟩ (((hp.filterMap _).trans (by rw[filterMap_getElem?_range])).map _)
   ·simp only[aS,aB,dY,or_false,not_or]
    exact⟨aT tI,eZ B1,by rw[hz];exact aT (cS _)⟩
   ·show _=_;rw[←hz2];exact aL _ rfl
   ·exact aD _ (aL _ rfl)
 ·cases fn with
  |done f =>
   obtain⟨h',tk,d,mZ,c',ord,e,rfl,hf,hl,hp,hI⟩:=h;cases e;exact fin h' tk d mZ c' ord hf hl hp hI
  |again c =>
   refine⟨h.1,gc h.2 fun r Bb hr=>?_⟩;obtain⟨h',tk,d,mZ,c',ord,e,rfl,hf,hl,hp,hI⟩:=hr;subst e;exact fin h' tk d mZ c' ord hf hl hp hI
 ·obtain⟨h',tk,d,mZ,c',ord,e,_⟩:=h;cases e
end
theorem T9{prog:Program}{w:World}{vs:List Value}{es:Array (Int×Value)}(el:ElI prog w es.toList)(hp:vs.Perm (es.toList.map (·.2))):fL vs (vs.map vI):=by
 have mL:∀l:List Value,(∀v∈l,∃i t,v=fV i t)->fL l (l.map vI):=by
  intro l;induction l with
  |nil=>intro _;exact .nil
  |cons v l ih =>
   intro h;obtain⟨i,t,rfl⟩:=h v (by simp);exact .cons i t (ih fun x hx=>h x (by simp[hx]))
 refine mL vs fun v hv=>?_;obtain⟨e,he,rfl⟩:=aW.mp (hp.mem_iff.mp hv);obtain⟨i,t,rfl⟩:=el e he;exact⟨i,t,rfl⟩
section
variable{prog:Program}{w:World}{A:Around}{E:VS7}{s:Shared}{a:Addr}{ds:List Int}
theorem Wu{Q:VS7}(hh:A.handled=none)(S:jr prog w s.heap a ds)(h64:ds.length<64)
  (h:∀(h':Heap) (tk:Nat) (d:Drawn) (L:Addr) (out:Array Value) (e:Nat) (ms:List Int),(∀b o,s.heap.get? b=some o->h'.get? b=some o)->s.heap.objs.size<=L->h'.get? L=some (seqObj "list" out e)->fL out.toList ms->ms.Perm ds->ms.Pairwise (·<=·)->Q (.ref L) { s with heap:=h',toks:=tk,drawn:=d }) :
  wpAny (model prog w) A (call (.builtin "sorted") [.ref a]) Q E s:=by
 obtain⟨es,ep,t,S⟩:=S;refine hZ kind_sorted plain_sorted entry_sorted (args_sorted1 _) ?_;unfold Builtin.«sorted»;refine aA (m:=checkCount "sorted" 1 1 _) (aF ?_);refine aA (Yz (A:=A.in1) hh S fun h1 tk d vs hz k1 hp=>?_);have hl:vs.length=ds.length:=by rw[S.len];have:=hp.length_eq;simpa using this
 refine aA (io ?_ (by rw[hl,eQ];omega));have ho:(h1.push (seqObj "list" vs.toArray 0)).get? h1.objs.size=some (seqObj "list" vs.toArray 0):=aL _ rfl;refine aA (bT (cK lW ⟨_,ho,rfl⟩ lN (list_sort_tree ho (T9 S.el hp) (by omega) fun out AA a1 a2 a3=>⟨_,rfl,?_⟩) (lY _)));obtain⟨e,he⟩:=sortedHeap_at (out:=out) ho;refine aF ⟨_,rfl,h _ tk d _ out e AA (fun b o eb=>?_) hz he a1 (a2.trans ?_) a3⟩
 ·have k2:=aQ (k1 b o eb);rw[sortedHeap_old (aT k2) (by rw[size_push'];exact eC k2),Heap.get?_push_ne _ _ _ (aT k2)];exact k1 b o eb
 ·refine(hp.map vI).trans ?_;rw[bZ];exact S.pm
end
section
variable{X:Cx}{K:FG7}{P:Program}{w:World}
theorem yf.setE{H:Hp}{h:Heap}{a:Addr}{ds:List Int}(S:jr P w h a ds):yf P w H h a (.ext fun h=>jr P w h a ds):=by
 obtain⟨es,ep,t,S'⟩:=S;exact⟨⟨es,ep,t,S'⟩,⟨_,S'.at_⟩,fun h1 h2 s1 k=>s1.keep k⟩
theorem Ut{k:Nat}(hK:X.K=K)(hP:X.prog=P)(hw:X.w=w)(hr:Room k X.A):xV X (.type "set") (fun xs H Q=>∃a ns,xs=[V.ref a]/\SqL K H a (ns.map V.int)/\ns.length<=1000/\∀l,H l=none->Q (.ref l) (upd H l (.ext fun h=>jr P w h l (Rx ns)))):=by
 subst hK hP hw;intro mw s σ H xs us Q I r h;obtain⟨a,ns,rfl,ha,hl,q⟩:=h;obtain⟨u,rfl,ru⟩:=wC r;cases ru;obtain⟨its,rv,p,hz⟩:=I.list ha;have my:=rv.length;rw[aG] at my;refine Ur hr.hd p.isList (ns:=ns) (by simpa using Xa rv) (by simp only[aO];have:ki=4096:=rfl;omega) fun h' tk hS kp=>?_;exact⟨.ref s.heap.objs.size,_,I.laid (t':=tk) (fun b o eb=>kp b o (aQ eb) eb) (aE _) (yf.setE hS),rfl,q _ (I.hok.fresh (aE _))⟩
theorem Wv{k:Nat}(hP:X.prog=P)(hw:X.w=w)(hr:Room k X.A):xV X (.builtin "sorted") (fun xs H Q=>∃a ds,xs=[V.ref a]/\H a=some (.ext fun h=>jr P w h a ds)/\ds.length<64/\∀(p:Addr) (ms:List Int),H p=none->ms.Perm ds->ms.Pairwise (·<=·)->Q (.ref p) (upd H p (.lst (ms.map V.int)))):=by
 subst hP hw;intro mw s σ H xs us Q I r h;obtain⟨a,ds,rfl,ha,hl,q⟩:=h;obtain⟨u,rfl,ru⟩:=wC r;cases ru;have S:jr X.prog X.w s.heap a ds:=(I.hok a _ ha).1;refine Wu hr.hd S hl fun h' tk d L out e ms kp hL he a1 a2 a3=>?_;have rl:=wb a1;have I2:=I.laid (t':=tk) kp hL (show yf X.prog X.w (upd H L (.lst (ms.map V.int))) h' L (.lst (ms.map V.int)) from⟨by rw[aG,a2.length_eq,eQ];omega,out.toList,e,rl,he⟩);exact⟨.ref L,_,{ I2 with },rfl,q _ ms (I.hok.fresh hL) a2 a3⟩
end
def SQ(K:FG7)(H:Hp)(kv:Key×V)(q:Nat×Nat×Int):Prop:=kv.1=.inl (q.1:Int)/\∃r,kv.2=.ref r/\SqT K H r [.int q.2.1,.int q.2.2]
def yH(K:FG7)(H:Hp):List (Key×V)->List (Nat×Nat×Int)->Prop
 |[],[]=>True
 |kv::kvs,q::an=>SQ K H kv q/\yH K H kvs an
 |_,_=>False
theorem yH.grow{K:FG7}{m:List Addr}{H H':Hp}(g:Grow m H H'):∀{kvs an},yH K H kvs an->yH K H' kvs an
 |[],[],_=>trivial
 |_::_,_::_,⟨⟨e,r,e2,h⟩,t⟩=>⟨⟨e,r,e2,g.sqT h⟩,yH.grow g t⟩
 |[],_::_,h=>h.elim
 |_::_,[],h=>h.elim
theorem yH.len{K:FG7}{H:Hp}:∀{kvs an},yH K H kvs an->kvs.length=an.length
 |[],[],_=>rfl
 |_::_,_::_,h=>congrArg (·+1) (yH.len h.2)
 |[],_::_,h=>h.elim
 |_::_,[],h=>h.elim
theorem yH.val{K:FG7}{H:Hp}{n t:Nat}{v:Int}:∀{kvs an},yH K H kvs an->(an.map (·.1)).Nodup->(n,t,v)∈an->∃r,wa kvs (.inl (n:Int))=some (.ref r)/\SqT K H r [.int t,.int v]
 |[],[],_,_,h=>by cases h
 |kv::kvs,q::an,⟨⟨e,r,e2,hs⟩,tl⟩,nd,h=>by
  obtain⟨n1,n2⟩:=cJ.mp nd;rcases aS.mp h with rfl|h
  ·exact⟨r,by rw[ym e,e2],hs⟩
  ·have ne:¬kv.1=.inl (n:Int):=fun z=>by
    rw[e] at z;have:q.1=n:=by have:=Sum.inl.inj z;omega
    exact n1 (by show q.1∈_;rw[this];exact aW.mpr ⟨_,h,rfl⟩)
   rw[z5 ne];exact yH.val tl n2 h
 |[],_::_,h,_,_=>h.elim
 |_::_,[],h,_,_=>h.elim
def wA(K:FG7)(H:Hp)(l:Addr)(an:List (Nat×Nat×Int)):Prop:=∃kvs:List (Key×V),H l=some (.dK kvs)/\yH K H kvs an
def Uu(K:FG7)(H:Hp)(x:V)(ns:List Nat):Prop:=∃r,x=.ref r/\SqT K H r (zL ns)
noncomputable def sF(K:FG7):Sp:=sp4 fun x y z u H Q=>∃(r la:Addr) (xs:List V) (as:List Ask) (v:List Int) (lg:List Nat) (an:List (Nat×Nat×Int)),x=.ref r/\H r=some (.lst xs)/\yJ (vM K H) xs as/\xq K H y v/\Uu K H z lg/\u=.ref la/\wA K H la an/\(∀n∈lg,n<as.length/\0<=(as.getD n default).box/\Zu as n<v.length)/\lg.Nodup/\lg.length<=40/\v.length<=16∧
 (∀q∈(yB as v lg).2,∃b,(q.1,b,q.2)∈an)/\(an.map (·.1)).Nodup/\∀y' H',Grow [] H H'->xq K H' y' (yB as v lg).1->Q y' H'
noncomputable def sG(K:FG7):Sp:=sp4 fun x y z u H Q=>∃(r rb la:Addr) (xs:List V) (as:List Ask) (bg lg:List Nat) (an:List (Nat×Nat×Int)),x=.ref r/\H r=some (.lst xs)/\yJ (vM K H) xs as/\y=.ref rb/\H rb=some (.lst (zL bg))/\Uu K H z lg/\u=.ref la/\wA K H la an/\lg.Nodup/\(∀n,n∈lg ↔ n<as.length)/\as.length<=40/\bg.length=as.length/\(an.map (·.1)).Nodup/\(∀n,n<as.length->∃t v,(n,t,v)∈an)∧
 (∀i j,i<j->j<as.length->(as.getD i default).hand=(as.getD j default).hand->(as.getD i default).box=(as.getD j default).box->lg.idxOf i<lg.idxOf j)/\(∀q∈an,∀y g,bg[y]?=some g->q.2.1<=g->lg.idxOf q.1<lg.idxOf y)/\∀H',Grow [] H H'->Q (.bl true) H'
theorem qk{as:List Ask}{v:List Int}{lg:List Nat}{i n:Nat}(h:lg[i]?=some n):yB as v (lg.take (i+1))=Zv as (yB as v (lg.take i)) n:=by
 unfold yB;rw[List.take_succ,h,eM];rfl
theorem ZB{as:List Ask}:∀{l:List Nat} {p:List Int×List (Nat×Int)},(l.foldl (Zv as) p).1.length=p.1.length
 |[],_=>rfl
 |n::l,p=>by
  rw[eR,ZB];exact gA ..
theorem Uv{as:List Ask}{v:List Int}{lg:List Nat}{i n:Nat}(h:lg[i]?=some n):(n,(yB as v (lg.take i)).1.getD (Zu as n) 0)∈(yB as v lg).2:=by
 have e:yB as v lg=(lg.drop (i+1)).foldl (Zv as) (yB as v (lg.take (i+1))):=by
  unfold yB;rw[←eM,eX]
 rw[e];obtain⟨r,hr⟩:=sC (asks:=as) (l:=lg.drop (i+1)) (p:=yB as v (lg.take (i+1)));rw[hr,qk h];exact bR _ (aM _ (aB.mpr rfl))
theorem ZC{k:Key}:∀{kvs:List (Key×V)},k∉kvs.map (·.1)->wa kvs k=none
 |[],_=>rfl
 |p::kvs,h=>by
  rw[z5 (fun z=>h (aS.mpr (.inl z.symm)))];exact ZC fun z=>h (aS.mpr (.inr z))
theorem ZD:∀(b a:List (Key×V)),((a++b).map (·.1)).Nodup->b.foldl (fun kvs p=>xt kvs p.1 p.2) a=a++b
 |[],a,_=>(bB a).symm
 |p::b,a,h=>by
  have hp:p.1∉a.map (·.1):=fun z=>by
   rw[bC] at h;exact(eD.mp h).2.2 _ z _ aU rfl
  rw[eR,u7 _ (ZC hp),ZD b _ (by rw[bD];exact h),bD];rfl
theorem ZE{k:Key}{v:V}:∀{kvs:List (Key×V)},(kvs.map (·.1)).Nodup->(k,v)∈kvs->wa kvs k=some v
 |[],_,h=>by cases h
 |p::kvs,nd,h=>by
  obtain⟨n1,n2⟩:=cJ.mp nd;rcases aS.mp h with rfl|h
  ·exact ym rfl
  ·rw[z5 (fun z=>n1 (by show p.1∈_;rw[z];exact aW.mpr ⟨_,h,rfl⟩))];exact ZE n2 h
noncomputable def YA(lg:List Nat)(i:Nat):List (Key×V):=(aR i).map fun j=>(Sum.inl ((lg.getD j 0:Nat):Int),V.int (j:Int))
theorem Sa{lg:List Nat}(nd:lg.Nodup){n:Nat}(hn:n∈lg):wa (uT (YA lg lg.length)) (Sum.inl (n:Int))=some (V.int (lg.idxOf n:Nat)):=by
 have ek:(YA lg lg.length).map (·.1)=lg.map fun n:Nat=>(Sum.inl (n:Int):Key):=by
  unfold YA;rw[bZ];refine List.ext_getElem (by rw[aG,aG,cD]) fun j h1 h2=>?_;rw[List.getElem_map,List.getElem_map,List.getElem_range];rw[aG] at h2;show(Sum.inl ((lg.getD j 0:Nat):Int):Key)=_;rw[aJ,aH h2];rfl
 have knd:((YA lg lg.length).map (·.1)).Nodup:=by
  rw[ek];refine eN.mpr (nd.imp fun{a b} Bk e=>Bk ?_);have:=Sum.inl.inj e;omega
 have e:uT (YA lg lg.length)=YA lg lg.length:=ZD _ [] knd;rw[e];refine ZE knd (aW.mpr ⟨lg.idxOf n,aV.mpr (gM hn),?_⟩);rw[aJ,aH (gM hn),k9,List.getElem_idxOf]
theorem yH.no{K:FG7}{H:Hp}{n:Nat}:∀{kvs an},yH K H kvs an->n∉an.map (·.1)->wa kvs (.inl (n:Int))=none
 |[],[],_,_=>rfl
 |kv::kvs,q::an,⟨⟨e,_⟩,tl⟩,h=>by
  have ne:¬kv.1=.inl (n:Int):=fun z=>by
   rw[e] at z;have:q.1=n:=by have:=Sum.inl.inj z;omega
   exact h (aS.mpr (.inl this.symm))
  rw[z5 ne];exact yH.no tl fun z=>h (aS.mpr (.inr z))
 |[],_::_,h,_=>h.elim
 |_::_,[],h,_=>h.elim
theorem yH.get{K:FG7}{H:Hp}{kvs an}(h:yH K H kvs an)(nd:(an.map (·.1)).Nodup)(n:Nat):(∃t v r,(n,t,v)∈an/\wa kvs (.inl (n:Int))=some (.ref r)/\SqT K H r [.int t,.int v])\/(n∉an.map (·.1)/\wa kvs (.inl (n:Int))=none):=by
 by_cases c:n∈an.map (·.1)
 ·obtain⟨⟨m,t,v⟩,hq,rfl⟩:=aW.mp c;obtain⟨r,h1,h2⟩:=h.val nd hq;exact .inl ⟨t,v,r,hq,h1,h2⟩
 ·exact .inr ⟨c,h.no c⟩
theorem yH.app{K:FG7}{H:Hp}{kv:Key×V}{q:Nat×Nat×Int}(hq:SQ K H kv q):∀{kvs an},yH K H kvs an->yH K H (kvs++[kv]) (an++[q])
 |[],[],_=>⟨hq,trivial⟩
 |_::_,_::_,⟨h,t⟩=>⟨h,yH.app hq t⟩
 |[],_::_,h=>h.elim
 |_::_,[],h=>h.elim
theorem xR{ns:NS}(h:NW ns):(ns.ans.map (·.1)).Nodup/\∀n∈ns.ans.map (·.1),n∈ns.log:=by
 obtain⟨r,hr⟩:=vX (d:=ns.done) (m:=ns.now-ns.k) (n:=ns.now) (by omega);have l:=h.lnd;have e:=h.lg;refine⟨?_,fun n hn=>?_⟩
 ·rw[e,hr] at l;rw[h.an];exact(eD.mp l).1
 ·rw[h.an] at hn;rw[e,hr];exact bR _ hn
theorem YB{ns:NS}{bg:List Nat}{an:List (Nat×Nat×Int)}(h:An52 ns bg an)(hw:NW ns):(an.map (·.1)).Nodup:=h.pm.nodup_iff.mpr (xR hw).1
theorem R8{ns:NS}{bg:List Nat}{an:List (Nat×Nat×Int)}(h:An52 ns bg an){n:Nat}(c:n∉an.map (·.1)):xu ns.ans n=none:=by
 cases e:xu ns.ans n with
 |none=>rfl
 |some v=>exact absurd (h.pm.mem_iff.mpr (aW.mpr ⟨(n,v),jb e,rfl⟩)) c
theorem vo{K:FG7}:kr K (.type "tuple") (.type "tuple")=some true:=by rfl
theorem Xy{ns:List Int}(h:ns.Nodup):Rx ns=ns:=by
 have mL:∀(ns mG:List Int),ns.Nodup->(∀x∈ns,x∉mG)->ns.foldl gU mG=mG++ns:=by
  intro ns;induction ns with
  |nil=>intro mG _ _;exact(bB _).symm
  |cons a ns ih =>
   intro mG nd hx;rw[List.nodup_cons] at nd;have h0:¬mG.any (· == a)=true:=fun z=>by
    obtain⟨y,hy,e⟩:=iW.mp z;rw[beq_iff_eq] at e;exact hx a (by simp) (e▸hy)
   rw[eR,show gU mG a=mG++[a] from by unfold gU;rw[if_neg h0],ih _ nd.2,bD]
   ·rfl
   ·intro x pe hm;rcases aP.mp hm with z|z
    ·exact hx x (by simp[pe]) z
    ·rw[aB.mp z] at pe;exact nd.1 pe
 exact mL ns [] h (fun _ _ z=>nomatch z)
theorem Uw{ns ms:List Int}(h:ns.Pairwise (·<·))(p:ms.Perm (Rx ns))(w:ms.Pairwise (·<=·)):ms=ns:=by
 rw[Xy (h.imp fun{a b} z e=>by omega)] at p;exact List.Perm.eq_of_pairwise (le:=fun a b=>a<=b) (fun a b _ _ h1 h2=>by omega) w (h.imp fun{a b} z=>by omega) p
theorem y7{a b:List Nat}(nd:a.Nodup)(h:∀n∈a,n∈b):a.length<=b.length:=by
 have:=qE (l:=a.map fun n:Nat=>[(n:Int)]) (l':=b.map fun n:Nat=>[(n:Int)]) (eN.mpr (nd.imp fun{a b} Bk e=>Bk (by have:=List.head_eq_of_cons_eq e;omega))) fun x hx=>by
  obtain⟨n,hn,rfl⟩:=aW.mp hx;exact aW.mpr ⟨n,h n hn,rfl⟩
 rwa[aG,aG] at this
theorem Xz{K:FG7}{H:Hp}(o:Option Int):Dat K H (oN5 o) (oD o):=by cases o;exact .non;exact .int _
theorem Ww{ns:NS}(nx:NX ns)(nb:NB (10 ^ 29) ns){n:Nat}{v:Int}(h:xu ns.ans n=some v):Sr v:=by
 have l40:=nx.nw.l40;have:=nb.sb (n,v) (jb h);have t1:=this.1;have t2:=this.2;simp only at t1 t2;have k:(41*10 ^ 29:Int)<2 ^ 300:=by decide
 unfold Sr;revert k;generalize (2:Int) ^ 300=T;intro k;constructor <;> omega
def ql(C:Addr)(K:FG7):Sp:=sp3 fun x y z H Q=>∃(A:Ad->Addr) (ns:NS) (la:Addr) (bg:List Nat) (an:List (Nat×Nat×Int)),x=.ref (A .p)/\y=.ref la/\z=.int ns.asks.length/\NetAt K C H A ns/\NX ns/\NB (10 ^ 29) ns/\wA K H la an/\An52 ns bg an/\∀H',Grow [] H H'->Q (.bl true) H'
noncomputable def ZF(K:FG7):Sp:=sp4 fun x y z u H Q=>∃(la:Addr) (n t:Nat) (an:List (Nat×Nat×Int)) (td:List (Nat×Int)),RI K H x td/\y=.ref la/\wA K H la an/\z=.int n/\u=.int t/\td.length<=40/\td.Pairwise (fun a b=>a.1<b.1)/\(∀q∈td,q.1<n/\q.1∉an.map (·.1))/\an.length<=40/\∀H',Grow [la] H H'->wA K H' la (an++td.map fun q=>(q.1,t,q.2))->Q (.bl true) H'
structure M52(v:List Int)(k mn:Nat)(bg:List Nat)(an:List (Nat×Nat×Int))(ns:NS):Prop where
 nx:NX ns
 nb:NB (10 ^ 29) ns
 pl:Pl52 v ns
 od:uY ns
 an:An52 ns bg an
 ek:ns.k=k
 bl:ns.boxes.length=mn
 ab:∀n,n<ns.asks.length->0<=(ns.asks.getD n default).box/\Zu ns.asks n<mn
 vl:v.length=mn
theorem M52.new{k mn room kept:Nat}{v:List Int}(k4:k<=4)(E6:mn<=16)(r1:1<=room)(hv:InC (10 ^ 29) v)(vl:v.length=mn):M52 v k mn [] [] (t4 k v room kept) :=
 ⟨NX.new k4 (by omega) r1,NB.new (by decide) hv,Pl52.new,uY.new,An52.new,rfl,vl,fun n hn=>absurd hn (cR _),vl⟩
theorem M52.put{v:List Int}{k mn:Nat}{bg:List Nat}{an:List (Nat×Nat×Int)}{ns:NS}(h:M52 v k mn bg an ns){a:Ask}(ok:U9 mn a)(hh:a.hand<(2 ^ k:Nat))(bd:a.deed.Bd (10 ^ 29))(c40:ns.asks.length<40):M52 v k mn (bg++[ns.now]) an (jq ns a):=by
 obtain⟨k1,k2,k3,k5,k6⟩:=ok;have Bl:a.hand.toNat<2 ^ ns.k:=by rw[h.ek];omega
 refine⟨h.nx.put k6 k3 Bl (by rw[h.bl];omega) c40,h.nb.put bd,h.pl.put h.nx.nw,h.od.put h.nx k3 Bl,h.an.put h.nx.nw (xR h.nx.nw).2,h.ek,h.bl,fun n hn=>?_,h.vl⟩;have hn:n<(ns.asks++[a]).length:=hn;show 0<=((ns.asks++[a]).getD n default).box/\((ns.asks++[a]).getD n default).box.toNat<mn;by_cases c:n<ns.asks.length
 ·rw[wW c];exact h.ab n c
 ·rw[aI] at hn;have hn:n<ns.asks.length+1:=hn;have e:n=ns.asks.length:=by omega
  rw[e,aJ,gN,k9];omega
theorem M52.beat{v:List Int}{k mn:Nat}{bg:List Nat}{an:List (Nat×Nat×Int)}{ns:NS}(h:M52 v k mn bg an ns)(nw:ns.now<10000)(gone:List (Nat×Nat)){td:List (Nat×Int)}(ht:td.Perm (yq (zA gone ns))):M52 v k mn bg (an++td.map fun q=>(q.1,ns.now+1,q.2)) (beatS gone ns):=by
 obtain⟨s1,s2,s3,s4,s5⟩:=ub (gone:=gone) h.nx.nw nw;exact⟨h.nx.beat nw gone,h.nb.beat h.nx.nw nw gone,h.pl.beat h.nx nw gone,h.od.beat h.nx nw gone,h.an.beat h.nx h.pl nw gone ht,s1.trans h.ek,s2.trans h.bl,by rw[s3];exact h.ab,h.vl⟩
theorem M52.told{v:List Int}{k mn:Nat}{bg:List Nat}{an:List (Nat×Nat×Int)}{ns:NS}(h:M52 v k mn bg an ns)(nw:ns.now<10000)(gone:List (Nat×Nat)){td:List (Nat×Int)}(ht:td.Perm (yq (zA gone ns))):td.length<=40/\∀q∈td,q.1<ns.asks.length/\q.1∉an.map (·.1):=by
 have M:=h.beat nw gone ht;obtain⟨s1,s2,s3,s4,s5⟩:=ub (gone:=gone) h.nx.nw nw;have nd:=YB M.an M.nx.nw;have a40:=M.nx.nw.nr.a40;have lt:∀q∈td,q.1<ns.asks.length:=fun q hq=>by
  have h1:q.1∈(an++td.map fun q=>(q.1,ns.now+1,q.2)).map (·.1):=by
   rw[bC,bZ];exact aM _ (aW.mpr ⟨q,hq,rfl⟩)
  have:=vZ M.nx.nw ((xR M.nx.nw).2 _ (M.an.pm.mem_iff.mp h1));rwa[s3] at this
 rw[bC,bZ] at nd;obtain⟨n1,n2,n3⟩:=eD.mp nd;have n2:(td.map (·.1)).Nodup:=n2;refine⟨?_,fun q hq=>⟨lt q hq,fun z=>n3 _ z _ (aW.mpr ⟨q,hq,rfl⟩) rfl⟩⟩;have:=y7 (b:=aR ns.asks.length) n2 fun n hn=>by
  obtain⟨q,hq,rfl⟩:=aW.mp hn;exact aV.mpr (lt q hq)
 rw[aG,cD] at this;rw[s3] at a40;omega
theorem M52.few{v:List Int}{k mn:Nat}{bg:List Nat}{an:List (Nat×Nat×Int)}{ns:NS}(h:M52 v k mn bg an ns):an.length<=ns.asks.length/\an.length=ns.ans.length:=by
 have e:an.length=ns.ans.length:=by have:=h.an.pm.length_eq;rwa[aG,aG] at this
 have:=y7 (b:=aR ns.asks.length) (xR h.nx.nw).1 fun n hn=>aV.mpr (vZ h.nx.nw ((xR h.nx.nw).2 n hn));rw[aG,cD] at this;exact⟨by omega,e⟩
def Qf(ns:NS)(d j:Nat):Prop:=ns.ans.length=ns.asks.length\/(j<=d/\RV ns (d-j))\/∃i,j=d+i/\Idle ns i
theorem Qf.beat{ns:NS}{d j:Nat}(h:Qf ns d j)(hw:NW ns)(nw:ns.now<10000)(ne:ns.ans.length≠ns.asks.length):Qf (beatS [] ns) d (j+1):=by
 rcases h with h|⟨h1,h2⟩|⟨i,h1,h2⟩
 ·exact absurd h ne
 ·by_cases c:j=d
  ·subst c;rw[mq] at h2;exact .inr (.inr ⟨1,rfl,Idle.beat (i:=0) ⟨hw,RW hw.nr h2,fun j hj=>absurd hj (cR _)⟩ nw⟩)
  ·refine .inr (.inl ⟨by omega,Ug hw nw ?_⟩);rw[show d-(j+1)+1=d-j by omega];exact h2
 ·exact .inr (.inr ⟨i+1,by omega,h2.beat nw⟩)
theorem Idle.more52{ns:NS}{i j:Nat}(h:Idle ns i)(le:j<=i):Idle ns j:=⟨h.nw,h.full,fun x h1 h2=>h.nil x (by omega) h2⟩
theorem Qf.end{ns:NS}{d j:Nat}(h:Qf ns d j)(hj:d+ns.k+1<=j):ns.ans.length=ns.asks.length:=by
 rcases h with h|⟨h1,h2⟩|⟨i,h1,h2⟩
 ·exact h
 ·omega
 ·have I:=h2.more52 (j:=ns.k) (by omega);have e:=congrArg iy I.end;rw[aG] at e;exact e.trans I.full
theorem jg{a x:Nat}{l:List Nat}(h:a≠x):(a::l).idxOf x=l.idxOf x+1:=by
 rw[List.idxOf_cons,show(a == x)=false from beq_eq_false_iff_ne.mpr h];rfl
theorem ZG{i j:Nat}:∀{l:List Nat},[i,j].Sublist l->l.Nodup->l.idxOf i<l.idxOf j
 |[],h,_=>by cases h
 |a::l,h,nd=>by
  obtain⟨n1,n2⟩:=cJ.mp nd;cases h with
  |cons _ h =>
   have ne:∀x∈[i,j],a≠x:=fun x hx e=>n1 (e▸h.subset hx);rw[jg (ne i (by simp)),jg (ne j (by simp))];exact Nat.succ_lt_succ (ZG h n2)
  |cons_cons _ h =>
   have hj:j∈l:=h.subset (by simp);rw[jg (a:=i) (x:=j) (fun e=>n1 (by rw[e];exact hj)),List.idxOf_cons_self];exact lC _
theorem qm{a b:List Nat}(nd:a.Nodup)(h:∀n∈a,n∈b)(hl:b.length<=a.length){n:Nat}(hn:n∈b):n∈a:=by
 by_cases c:n∈a
 ·exact c
 ·have:=y7 (a:=n::a) (b:=b) (cJ.mpr ⟨c,nd⟩) fun x hx=>by
   rcases aS.mp hx with rfl|hx
   ·exact hn
   ·exact h x hx
  have:a.length+1<=b.length:=this;omega
theorem Wx{i j n:Nat}(h:i<j)(hj:j<n):[i,j].Sublist (aR n):=by
 obtain⟨d,rfl⟩:∃d,n=j+(d+1):=⟨n-j-1,by omega⟩
 rw[List.range_add];refine List.Sublist.append (l₁:=[i]) (List.singleton_sublist.mpr (aV.mpr h)) ?_;exact List.singleton_sublist.mpr (aW.mpr ⟨0,aV.mpr (lC _),rfl⟩)
theorem ZH{l:List Nat}{f:Nat->Bool}{i j n:Nat}(nd:l.Nodup)(e:l.filter f=(aR n).filter f)(h:i<j)(hj:j<n)(fi:f i=true)(fj:f j=true):l.idxOf i<l.idxOf j:=by
 refine ZG (List.Sublist.trans ?_ (List.filter_sublist (p:=f))) nd;rw[e];have:=(Wx h hj).filter f;rwa[fZ,if_pos fi,fZ,if_pos fj] at this
theorem Wm.idx{log:List Nat}{x y:Nat}(h:Wm log x y):log.idxOf x<log.idxOf y:=by
 obtain⟨u,w,rfl,h1,h2⟩:=h;rw[List.idxOf_append,if_pos h1,List.idxOf_append,if_neg h2];have:=gM h1;omega
structure Fin52(v:List Int)(bg:List Nat)(an:List (Nat×Nat×Int))(ns:NS):Prop where
 full:ns.log.length=ns.asks.length
 nd:ns.log.Nodup
 mem:∀n,n∈ns.log ↔ n<ns.asks.length
 and_:(an.map (·.1)).Nodup
 all:∀n,n<ns.asks.length->∃t v,(n,t,v)∈an
 run:∀q∈(yB ns.asks v ns.log).2,∃b,(q.1,b,q.2)∈an
 brd:ns.boxes=(yB ns.asks v ns.log).1
 o1:∀i j,i<j->j<ns.asks.length->(ns.asks.getD i default).hand=(ns.asks.getD j default).hand->(ns.asks.getD i default).box=(ns.asks.getD j default).box->ns.log.idxOf i<ns.log.idxOf j
 o2:∀q∈an,∀y g,bg[y]?=some g->q.2.1<=g->ns.log.idxOf q.1<ns.log.idxOf y
theorem M52.fin{v:List Int}{k mn:Nat}{bg:List Nat}{an:List (Nat×Nat×Int)}{ns:NS}(h:M52 v k mn bg an ns)(hf:ns.ans.length=ns.asks.length):Fin52 v bg an ns:=by
 obtain⟨a1,a2⟩:=xR h.nx.nw;have lnd:=h.nx.nw.lnd;have l1:=y7 a1 a2;rw[aG] at l1;have l2:=y7 (b:=aR ns.asks.length) lnd fun n hn=>aV.mpr (vZ h.nx.nw hn);rw[cD] at l2;have full:ns.log.length=ns.asks.length:=by omega
 have mem:∀n,n∈ns.log ↔ n<ns.asks.length:=fun n=>⟨fun hn=>vZ h.nx.nw hn,fun hn=>qm lnd (b:=aR ns.asks.length) (fun n hn=>aV.mpr (vZ h.nx.nw hn)) (by rw[cD];omega) (aV.mpr hn)⟩
 have all:∀n,n<ns.asks.length->∃t v,(n,t,v)∈an:=fun n hn=>by
  have:=h.an.pm.mem_iff.mpr (qm a1 (b:=aR ns.asks.length) (fun n hn=>aV.mpr (vZ h.nx.nw (a2 n hn))) (by rw[cD,aG];omega) (aV.mpr hn));obtain⟨⟨m,t,w⟩,hq,rfl⟩:=aW.mp this;exact⟨t,w,hq⟩
 have kn:(ns.fnd.map (·.1))=ns.log:=by
  rw[h.pl.fd];exact(uI (asks:=ns.asks) (l:=ns.log) (p:=(v,[]))).trans (lJ _)
 refine⟨full,lnd,mem,YB h.an h.nx.nw,all,fun q hq=>?_,h.pl.bx,fun i j nO hj e1 e2=>?_,fun q hq y g hy BJ=>(h.an.pr q hq y g hy BJ).idx⟩
 ·rw[←h.pl.fd] at hq;have hn:q.1<ns.asks.length:=(mem q.1).mp (by rw[←kn];exact aW.mpr ⟨q,hq,rfl⟩);obtain⟨t,w,hm⟩:=all q.1 hn;have e1:=h.an.fv _ hm;have e2:=sB (f:=ns.fnd) (n:=q.1) (v:=q.2) (by rw[kn];exact lnd) hq;have e1:xu ns.fnd q.1=some w:=e1;rw[e2] at e1;cases bH e1;exact⟨t,hm⟩
 ·obtain⟨b0,_⟩:=h.ab j hj;refine ZH lnd (h.od.log h.nx full ((ns.asks.getD j default).hand.toNat) ((ns.asks.getD j default).box.toNat)) nO hj (decide_eq_true ?_) (decide_eq_true ⟨rfl,by omega⟩);rw[e1,e2];exact⟨rfl,by omega⟩
structure L52(K:FG7)(C p l ls lb la tb:Addr)(H:Hp)(A:Ad->Addr)(ns:NS)(sm v:List Int)(xs:List V)(as:List Ask)(bg:List Nat)(an:List (Nat×Nat×Int)):Prop where
 rg:Reg H (qi [p] (msA A ns) [la] [lb] [l] [ls] [])
 pot:Pot H p
 net:NetAt K C H A ns
 sml:H l=some (.lst (sm.map V.int))
 hs:H ls=some (.lst xs)
 ax:yJ (vM K H) xs as
 hb:H lb=some (.lst (zL bg))
 an:wA K H la an
 vt:SqT K H tb (v.map V.int)
section
variable{K:FG7}{C p l ls lb la tb:Addr}{H H':Hp}{A A':Ad->Addr}{ns AA:NS}{sm v:List Int}{xs:List V}{as:List Ask}{bg:List Nat}{an B9:List (Nat×Nat×Int)}
theorem R9(h:wA K H la an):∀x∈[la],H x≠none:=fun x hx=>by
 obtain⟨kvs,z,_⟩:=h;rw[aB.mp hx,z];exact fun z=>nomatch z
theorem wA.grow(h:wA K H la an){m:List Addr}(g:Grow m H H')(hm:la∉m):wA K H' la an:=by
 obtain⟨kvs,z,h2⟩:=h;exact⟨kvs,g.keep _ _ hm z,h2.grow g⟩
theorem L52.off(h:L52 K C p l ls lb la tb H A ns sm v xs as bg an){m:List Addr}{i j:Nat}{x:Addr}(hm:∀y∈m,y∈qi [p] (msA A ns) [la] [lb] [l] [ls] [] i)(ij:i≠j)(hx:x∈qi [p] (msA A ns) [la] [lb] [l] [ls] [] j):x∉m:=fun z=>h.rg.dj i j x ij (hm x z) hx
theorem L52.grow0(h:L52 K C p l ls lb la tb H A ns sm v xs as bg an)(g:Grow [] H H'):L52 K C p l ls lb la tb H' A ns sm v xs as bg an :=
 ⟨h.rg.grow0 g,h.pot.grow g,h.net.grow0 g,g.keep _ _ (by simp) h.sml,g.keep _ _ (by simp) h.hs,h.ax.imp fun _ _ z=>g.ask z,g.keep _ _ (by simp) h.hb,h.an.grow g (by simp),g.sqT h.vt⟩
theorem L52.potS(h:L52 K C p l ls lb la tb H A ns sm v xs as bg an)(g:Grow [p] H H')(pp:Pot H' p):L52 K C p l ls lb la tb H' A ns sm v xs as bg an:=by
 have hm:∀y∈[p],y∈qi [p] (msA A ns) [la] [lb] [l] [ls] [] 0:=fun y hy=>hy;exact⟨h.rg.same 0 g hm (SO pp),pp,h.rg.net g hm (j:=1) (by decide) rfl h.net,h.rg.keep g hm (j:=4) (by decide) (aB.mpr rfl) h.sml,h.rg.keep g hm (j:=5) (by decide) (aB.mpr rfl) h.hs,h.ax.imp fun _ _ z=>g.ask z,h.rg.keep g hm (j:=3) (by decide) (aB.mpr rfl) h.hb,h.an.grow g (h.off hm (j:=2) (by decide) (aB.mpr rfl)),g.sqT h.vt⟩
theorem L52.netS(h:L52 K C p l ls lb la tb H A ns sm v xs as bg an)(g:Grow (msA A ns) H H')(hn:NetAt K C H' A' AA)(hR:∀x∈msA A' AA,x∈msA A ns\/H x=none):L52 K C p l ls lb la tb H' A' AA sm v xs as bg an:=by
 have hm:∀y∈msA A ns,y∈qi [p] (msA A ns) [la] [lb] [l] [ls] [] 1:=fun y hy=>hy;have rg:=h.rg.grow 1 (R:=msA A' AA) g hm fun x hx=>⟨hR x hx,hn.al x hx⟩
 rw[SM] at rg;exact⟨rg,h.rg.pot g hm (j:=0) (by decide) rfl h.pot,hn,h.rg.keep g hm (j:=4) (by decide) (aB.mpr rfl) h.sml,h.rg.keep g hm (j:=5) (by decide) (aB.mpr rfl) h.hs,h.ax.imp fun _ _ z=>g.ask z,h.rg.keep g hm (j:=3) (by decide) (aB.mpr rfl) h.hb,h.an.grow g (h.off hm (j:=2) (by decide) (aB.mpr rfl)),g.sqT h.vt⟩
theorem L52.anS(h:L52 K C p l ls lb la tb H A ns sm v xs as bg an)(g:Grow [la] H H')(ha:wA K H' la B9):L52 K C p l ls lb la tb H' A ns sm v xs as bg B9:=by
 have hm:∀y∈[la],y∈qi [p] (msA A ns) [la] [lb] [l] [ls] [] 2:=fun y hy=>hy;exact⟨h.rg.same 2 g hm (R9 ha),h.rg.pot g hm (j:=0) (by decide) rfl h.pot,h.rg.net g hm (j:=1) (by decide) rfl h.net,h.rg.keep g hm (j:=4) (by decide) (aB.mpr rfl) h.sml,h.rg.keep g hm (j:=5) (by decide) (aB.mpr rfl) h.hs,h.ax.imp fun _ _ z=>g.ask z,h.rg.keep g hm (j:=3) (by decide) (aB.mpr rfl) h.hb,ha,g.sqT h.vt⟩
theorem L52.askS(h:L52 K C p l ls lb la tb H A ns sm v xs as bg an){y:V}{a:Ask}(hy:vM K H y a):L52 K C p l ls lb la tb (upd H ls (.lst (xs++[y]))) A ns sm v (xs++[y]) (as++[a]) bg an:=by
 have g:Grow [ls] H (upd H ls (.lst (xs++[y]))):=Grow.set h.hs (aB.mpr rfl) _;have hm:∀y∈[ls],y∈qi [p] (msA A ns) [la] [lb] [l] [ls] [] 5:=fun y hy=>hy;exact⟨h.rg.same 5 g hm (Ul (o:=.lst (xs++[y])) zd),h.rg.pot g hm (j:=0) (by decide) rfl h.pot,h.rg.net g hm (j:=1) (by decide) rfl h.net,h.rg.keep g hm (j:=4) (by decide) (aB.mpr rfl) h.sml,zd,(h.ax.imp fun _ _ z=>g.ask z).app (.one (g.ask hy)),h.rg.keep g hm (j:=3) (by decide) (aB.mpr rfl) h.hb,h.an.grow g (h.off hm (j:=2) (by decide) (aB.mpr rfl)),g.sqT h.vt⟩
theorem L52.bgS(h:L52 K C p l ls lb la tb H A ns sm v xs as bg an)(t:Nat):L52 K C p l ls lb la tb (upd H lb (.lst (zL bg++[.int t]))) A ns sm v xs as (bg++[t]) an:=by
 have g:Grow [lb] H (upd H lb (.lst (zL bg++[.int t]))):=Grow.set h.hb (aB.mpr rfl) _;have hm:∀y∈[lb],y∈qi [p] (msA A ns) [la] [lb] [l] [ls] [] 3:=fun y hy=>hy;exact⟨h.rg.same 3 g hm (Ul (o:=.lst (zL bg++[.int t])) zd),h.rg.pot g hm (j:=0) (by decide) rfl h.pot,h.rg.net g hm (j:=1) (by decide) rfl h.net,h.rg.keep g hm (j:=4) (by decide) (aB.mpr rfl) h.sml,h.rg.keep g hm (j:=5) (by decide) (aB.mpr rfl) h.hs,h.ax.imp fun _ _ z=>g.ask z,by rw[zd,jZ];rfl,h.an.grow g (h.off hm (j:=2) (by decide) (aB.mpr rfl)),g.sqT h.vt⟩
end
noncomputable abbrev Qg(a p l tb qq ls lb la:Addr)(i k tn mn rm kp:Nat)(AE AF AG AH:Option V):L2.St:=[some (.ref a),some (.int (0+(i:Int))),some (.ref p),some (.int k),some (.int tn),some (.int mn),some (.int rm),some (.int kp),some (.ref l),some (.ref tb),some (.ref qq),some (.ref ls),some (.ref lb),some (.ref la),AE,AF,AG,AH]
structure J52(K:FG7)(C p l ls lb la tb a qq:Addr)(sc:List Int)(k mn:Nat)(H:Hp)(A:Ad->Addr)(ns:NS)(sm v:List Int)(xs:List V)(bg:List Nat)(an:List (Nat×Nat×Int)):Prop where
 L:L52 K C p l ls lb la tb H A ns sm v xs ns.asks bg an
 M:M52 v k mn bg an ns
 hs:Scr K H a sc
 eq:A .p=qq
section
variable{K:FG7}{C p l ls lb la tb a qq:Addr}{sc:List Int}{k mn:Nat}{H H':Hp}{A:Ad->Addr}{ns:NS}{sm v:List Int}{xs:List V}{bg:List Nat}{an:List (Nat×Nat×Int)}
theorem J52.grow0(h:J52 K C p l ls lb la tb a qq sc k mn H A ns sm v xs bg an)(g:Grow [] H H'):J52 K C p l ls lb la tb a qq sc k mn H' A ns sm v xs bg an:=⟨h.L.grow0 g,h.M,g.scr h.hs,h.eq⟩
theorem J52.potS(h:J52 K C p l ls lb la tb a qq sc k mn H A ns sm v xs bg an)(g:Grow [p] H H')(pp:Pot H' p):J52 K C p l ls lb la tb a qq sc k mn H' A ns sm v xs bg an:=⟨h.L.potS g pp,h.M,g.scr h.hs,h.eq⟩
theorem J52.xl(h:J52 K C p l ls lb la tb a qq sc k mn H A ns sm v xs bg an):xs.length=ns.asks.length:=h.L.ax.len
theorem J52.npl(h:J52 K C p l ls lb la tb a qq sc k mn H A ns sm v xs bg an):p≠l:=fun e=>h.L.rg.dj 0 4 p (by decide) (aB.mpr rfl) (aB.mpr e)
theorem Jv{k mn rm kp:Nat}(rg:Reg H (qi [p] (msA A (t4 k v rm kp)) [] [] [l] [] []))(pp:Pot H p)(hn:NetAt K C H A (t4 k v rm kp))(hl:H l=some (.lst (sm.map V.int)))(hs:Scr K H a sc)(ht:SqT K H tb (v.map V.int))(k4:k<=4)(E6:mn<=16)(r1:1<=rm)(hv:InC (10 ^ 29) v)(vl:v.length=mn)
  (h1:H ls=none) (h2:upd H ls (.lst []) lb=none) (h3:upd (upd H ls (.lst [])) lb (.lst []) la=none):J52 K C p l ls lb la tb a (A .p) sc k mn (upd (upd (upd H ls (.lst [])) lb (.lst [])) la (.dK [])) A (t4 k v rm kp) sm v [] [] []:=by
 have g1:=Grow.new (m:=[]) h1 (.lst []);have g2:=Grow.new (m:=[]) h2 (.lst []);have g3:=Grow.new (m:=[]) h3 (.dK []);have r1_:=rg.grow 5 (R:=[ls]) g1 (fun x hx=>by cases hx) fun x hx=>by rw[aB.mp hx];exact⟨.inr h1,by rw[zd];exact fun z=>nomatch z⟩
 rw[Jt] at r1_;have r2_:=r1_.grow 3 (R:=[lb]) g2 (fun x hx=>by cases hx) fun x hx=>by rw[aB.mp hx];exact⟨.inr h2,by rw[zd];exact fun z=>nomatch z⟩
 rw[Js] at r2_;have r3_:=r2_.grow 2 (R:=[la]) g3 (fun x hx=>by cases hx) fun x hx=>by rw[aB.mp hx];exact⟨.inr h3,by rw[zd];exact fun z=>nomatch z⟩
 rw[Jr] at r3_;have g:=g1.trans (g2.trans g3);exact⟨⟨r3_,pp.grow g,hn.grow0 g,g.keep _ _ (by simp) hl,(g2.trans g3).keep _ _ (by simp) zd,trivial,g3.keep _ _ (by simp) zd,⟨[],zd,trivial⟩,g.sqT ht⟩,M52.new k4 E6 r1 hv vl,g.scr hs,rfl⟩
end
theorem Qa{e:TE}{g:TG}{tb:TS}{D:Ends}{σ:L2.St}{H:Hp}(Good:V->Hp->Prop)(hc:∀Kk:VK,(∀v H',Good v H'->Kk v H')->e σ H Kk)(hr:∀v H',Good v H'->Qt (SW (S4 (fun _ H Q=>Q v H) Qx)) g tb D σ H'):Qt (SW (S4 e Qx)) g tb D σ H:=hc _ hr
theorem Wy{ns:NS}(nx:NX ns)(nb:NB (10 ^ 29) ns):Sh (Rp ns.boxes) 40000 2:=by
 have l40:=nx.nw.l40;have b16:=nx.nw.nr.b16;refine(QR (n:=1) (Vj (w:=1921) fun x hx=>Vi ?_)).mono (by omega) (aE _);have:=nb.bb x hx;have t1:=this.1;have t2:=this.2;have k:(41*10 ^ 29:Int)<2 ^ 300:=by decide
 unfold Sr;revert k;generalize (2:Int) ^ 300=T;intro k;constructor <;> omega
structure T52(k tn t:Nat)(ns:NS):Prop where
 le:ns.now<=t
 now:ns.now=t\/(tn<=t/\ns.ans.length=ns.asks.length)
 en:tn<=t->Qf ns (40*(k+1)) (t-tn)
end L3
namespace My
open PySem PySem.Spec PyProof.Rows L2 L3
def top(i:Nat):Stmt:=PySem.Challenge.pw_joinedasks_k52_whole_as_one_after_anothe.main.body.getD i (.Pass ⟨0,0,0,0⟩)
section
variable{P:Program}{w:World}{K:FG7}{mg:Str->Option Value}{base:Heap}{n:Nat}{f:Addr}{fd:FuncData}
theorem xg:FnScope ["_law_asks","_law_begun","_law_order","_law_answered","_law_at","_law_one","_law_other"] ["_law_asks","_law_begun","_law_order","_law_answered"] (zh (top 58)):=⟨rfl,rfl,rfl,by decide +kernel,rfl,by decide +kernel,by decide +kernel⟩
theorem sU(F:Fun K "_law_stands" "_law_stands" (top 58) f fd)(B:Blt mg)(m6:mg "enumerate" = none)   :
  FnOk P w K mg base CX0 (n+1) f fd ["_law_asks","_law_begun","_law_order","_law_answered"] (sG K):=by
 refine F.ok xg vh (fun mz A outer s H vs Q E hr h=>?_);obtain⟨x,y,z,u,rfl,r,rb,la,xs,as,bg,lg,an,rfl,hl,ha,rfl,hb,hz,rfl,oS,nd,mem,a40,bl,and_,all,o1,o2,q⟩:=h;refine⟨_,(zc (zJ (i:=4) xg.nd rfl (aY rfl) (zY (rO hr) rfl B.dict Sf (za (wO (CSc.of (N':=["_law_spot","_law_number_here"]) (sub:=[none,none]) (zh (top 58)) ["_law_asks","_law_begun","_law_order","_law_answered","_law_at","_law_one","_law_other"] rfl rfl (by decide +kernel) rfl) rfl (Y7 true (K:=K) rfl rfl m6 (za (pv 2) zb)) (fun _ _ _ _ _ _=>Vu (K:=K) 2 rfl rfl (zq (zm (i:=0) (show(["_law_spot","_law_number_here"]:List Str).Nodup by decide +kernel) rfl (aY rfl) (lx rfl)) (zq (zm (i:=1) (show(["_law_spot","_law_number_here"]:List Str).Nodup by decide +kernel) rfl (aY rfl) (lx rfl)) yA)) rfl rfl) (fun _ _ _ _ _ _=>xc) (fun _ _ _ _ _ _=>(z7 (za (pv 1) (za (pv 0) zb))))) zb))) (zc (yQ PassesOwn.never rfl (ya rfl B.range (za (zp zv rfl B.len xh (za (pv 0) zb)) zb)) (zm (i:=5) xg.nd rfl (aY rfl)) (zf (yQ PassesOwn.never rfl (ya rfl B.range (za (zp zv rfl B.len xh (za (pv 0) zb)) zb)) (zm (i:=6) xg.nd rfl (aY rfl)) (zc (zT (PW.pt (ww (zE vg (pv 5) (pv 6) (zG _)) (ww (zE (QL hr) (qv (Vz (K:=K) rfl) (ye zU (pv 0) (pv 5) (fun _ _=>rfl)) Z3 (Z4 ze)) (qv (Vz (K:=K) rfl) (ye zU (pv 0) (pv 6) (fun _ _=>rfl)) Z3 (Z4 ze)) (zG _)) (xU (zE Z2 (yZ (Room.u1F hr) (pv 4) (pv 5) (fun _ _=>rfl)) (yZ (Room.u1F hr) (pv 4) (pv 6) (fun _ _=>rfl)) (zG _)))))) (zf (zy xT)) zx) (zf (zT (PW.pt (ww (zE XD (ye yX (yZ (Room.u1F hr) (pv 3) (pv 5) (fun _ _=>rfl)) ze (fun _ _=>rfl)) (ye zU (pv 1) (pv 6) (fun _ _=>rfl)) (zG _)) (xU (zE Z2 (yZ (Room.u1F hr) (pv 4) (pv 5) (fun _ _=>rfl)) (yZ (Room.u1F hr) (pv 4) (pv 6) (fun _ _=>rfl)) (zG _))))) (zf (zy xT)) zx)))))) (zf (zy xT)))),?_⟩;obtain⟨rz,rfl,hsz⟩:=hz;have al:=ha.len;have ll:lg.length<=40:=by
  have:=qE (l:=lg.map fun n:Nat=>[(n:Int)]) (l':=(aR as.length).map fun n:Nat=>[(n:Int)]) (eN.mpr (nd.imp fun{a b} Bk e=>Bk (by have:=List.head_eq_of_cons_eq e;omega))) fun x hx=>by
   obtain⟨n,hn,rfl⟩:=aW.mp hx;exact aW.mpr ⟨n,aV.mpr ((mem n).mp hn),rfl⟩
  rw[aG,aG,cD] at this;omega
 refine tX (fun v H'=>∃lt kvs,v=.ref lt/\H' lt=some (.dK kvs)/\(∀n,n<as.length->wa kvs (Sum.inl (n:Int))=some (V.int (lg.idxOf n:Nat)))/\Grow [] H H') (fun Kk hk=>⟨_,rfl,rz,_,rfl,hsz,rL (xs:=zL lg) (fun i zs σ' H'=>(∃e0 e1:Option V,σ'=[e0,e1])/\qF H' zs (YA lg i)/\Grow [] H H') ⟨⟨_,_,rfl⟩,⟨rfl,fun i p h=>by cases h⟩,Grow.refl _ _⟩ (fun i zs σ H' p=>p.2.2.sqT hsz) ?_ ?_⟩) ?_
 ·rintro i x zs σ H1 T hx ⟨⟨e0,e1,rfl⟩,hp,g1⟩ hT;obtain⟨hi,rfl⟩:=tW hx;have gT:=Grow.new (m:=[]) hT (.tup [.int i,.int (lg.getD i 0:Nat)]);have pl:(YA lg i).length=i:=by unfold YA;rw[aG,cD]
  refine⟨T,_,rfl,SqT.of zd,rfl,_,_,rfl,_,_,rfl,rfl,?_⟩;refine⟨_,rfl,_,rfl,szl rfl,fun t ht=>⟨zC (by rw[hp.1,pl];omega),⟨_,_,rfl⟩,?_,g1.trans (gT.trans (Grow.new ht _))⟩⟩;have gt:=gT.trans (Grow.new (m:=[]) ht (.tup [.int (lg.getD i 0:Nat),.int i]));have es:YA lg (i+1)=YA lg i++[(Sum.inl ((lg.getD i 0:Nat):Int),V.int (i:Int))]:=by unfold YA;rw[dU,bC];rfl
  rw[es];refine⟨by rw[aI,aI,hp.1];rfl,fun j p hj=>?_⟩;by_cases c:j<(YA lg i).length
  ·rw[eV c] at hj;obtain⟨t',h1,h2⟩:=hp.2 j p hj;exact⟨t',by rw[eV (by rw[hp.1];exact c)];exact h1,gt.tup _ _ h2⟩
  ·have ej:j=(YA lg i).length:=by have:=(aZ.mp hj).1;rw[aI] at this;have:j<(YA lg i).length+1:=this;omega
   rw[ej,gN] at hj;cases bH hj;exact⟨t,by rw[ej,←hp.1,gN],zd⟩
 ·rintro zs σ H1 ⟨_,hp,g1⟩ l hl;rw[vO] at hp;have gl:=Grow.new (m:=[]) hl (.lst zs);refine⟨l,zs,_,rfl,zd,⟨hp.1,fun j p hj=>?_⟩,fun l2 Du=>hk _ _ ⟨l2,_,rfl,zd,fun n hn=>Sa nd ((mem n).mpr hn),g1.trans (gl.trans (Grow.new Du _))⟩⟩;obtain⟨t',h1,h2⟩:=hp.2 j p hj;exact⟨t',h1,gl.tup _ _ h2⟩
 rintro _ H1 ⟨lt_,kvs,rfl,mE,nS,g1⟩;refine⟨_,rfl,r,_,rfl,.inl (SqL.of (g1.keep _ _ (by simp) hl)),_,rfl,by omega,by omega,yK (fun i σ H'=>∃(e5 e6:Option V),σ=[some (.ref r),some (.ref rb),some (.ref rz),some (.ref la),some (.ref lt_),e5,e6]/\Grow [] H1 H') ⟨_,_,rfl,Grow.refl _ _⟩ ?_ ?_⟩;rotate_left
 ·rintro σ H2 ⟨_,_,rfl,g2⟩;exact q _ (g1.trans g2)
 rintro i σ H2 hi ⟨e5,e6,rfl,g2⟩;rw[gu];refine⟨_,rfl,r,_,rfl,.inl (SqL.of ((g1.trans g2).keep _ _ (by simp) hl)),_,rfl,by omega,by omega,yK (fun j σ H'=>∃(e6:Option V),σ=[some (.ref r),some (.ref rb),some (.ref rz),some (.ref la),some (.ref lt_),some (.int i),e6]/\Grow [] H1 H') ⟨_,rfl,g2⟩ ?_ ?_⟩;rotate_left
 ·rintro σ H3 ⟨_,rfl,g3⟩;exact⟨_,_,rfl,g3⟩
 rintro j σ H3 hj ⟨e6,rfl,g3⟩;rw[gu];have mJ:i<as.length:=by omega
 have pT:j<as.length:=by omega
 have CN:xs[i]?=some xs[i]:=aH (by omega);have Gr:xs[j]?=some xs[j]:=aH (by omega);obtain⟨ai,hai,ri,di,ei,hsi,_⟩:=ha.get CN;obtain⟨aj,FU,rj,dj,ej,hsj,_⟩:=ha.get Gr;have eai:as.getD i default=ai:=by rw[aJ,hai];rfl
 have eaj:as.getD j default=aj:=by rw[aJ,FU];rfl
 rw[ei] at CN;rw[ej] at Gr;refine tY (fun b H'=>b=false/\Grow [] H1 H') (fun Kk hk=>?_) ?_
 ·refine⟨_,rfl,_,rfl,_,_,rfl,rfl,_,rfl,?_⟩;by_cases c:i<j;rotate_left
  ·exact zR (decide_eq_false (by omega)) (hk _ _ ⟨rfl,g3⟩)
  refine yI (decide_eq_true (by omega)) ?_;have G:=g1.trans g3;refine⟨_,rfl,_,rfl,r,_,_,_,rfl,rfl,SqL.of (G.keep _ _ (by simp) hl),zN CN,_,rfl,ri,_,rfl,G.sqT hsi,fun p1 H4 g4 Gs=>?_⟩;have G4:=G.trans g4;refine⟨_,rfl,_,rfl,r,_,_,_,rfl,rfl,SqL.of (G4.keep _ _ (by simp) hl),zN Gr,_,rfl,rj,_,rfl,G4.sqT hsj,fun p2 H5 g5 ET=>?_⟩;have q1:SqT K H5 p1 ([ai.hand,ai.box].map V.int):=g5.sqT Gs;have q2:SqT K H5 p2 ([aj.hand,aj.box].map V.int):=ET;refine⟨p1,p2,_,_,rfl,rfl,q1,q2,vL,vL,_,rfl,?_⟩;rw[wF];by_cases e:[ai.hand,ai.box]=[aj.hand,aj.box]
  rotate_left
  ·exact zR (by rw[decide_eq_false e];rfl) (hk _ _ ⟨rfl,g3.trans (g4.trans g5)⟩)
  refine yI (by rw[decide_eq_true e];rfl) ?_;have g35:=g3.trans (g4.trans g5);have AI:=g35.keep _ _ (by simp) mE;have e1:ai.hand=aj.hand:=by injection e
  have e2:ai.box=aj.box:=by injection e with _ e;injection e
  have lt:=o1 i j c pT (by rw[eai,eaj];exact e1) (by rw[eai,eaj];exact e2);refine⟨_,rfl,_,rfl,lt_,_,rfl,nS i mJ▸vj.k (k:=Sum.inl (i:Int)) AI,_,rfl,_,rfl,lt_,_,rfl,nS j pT▸vj.k (k:=Sum.inl (j:Int)) AI,_,_,rfl,rfl,_,rfl,?_⟩;rw[decide_eq_false (by omega)];exact hk _ _ ⟨rfl,g35⟩
 rintro b H4 ⟨rfl,g4⟩;refine zR rfl (xH ?_);have CO:=g4;have G:=g1.trans CO;obtain⟨kva,m8,pY⟩:=oS;obtain⟨ti,vi,hm⟩:=all i mJ;obtain⟨ra,hv,oU⟩:=pY.val and_ hm;have hbj:bg[j]?=some bg[j]:=aH (by omega);refine⟨_,rfl,_,rfl,la,_,rfl,hv▸vj.k (k:=Sum.inl (i:Int)) (G.keep _ _ (by simp) m8),ra,_,_,_,rfl,rfl,G.sqT oU,rfl,_,rfl,_,rfl,rb,_,_,_,rfl,rfl,SqL.of (G.keep _ _ (by simp) hb),zN (tW? hbj),_,_,rfl,rfl,_,rfl,?_⟩;by_cases c:ti<=bg[j];rotate_left
 ·exact zR (decide_eq_false (by omega)) (zR rfl ⟨_,rfl,CO⟩)
 refine yI (decide_eq_true (by omega)) ?_;have lt:=o2 _ hm j _ hbj c;have AI:=CO.keep _ _ (by simp) mE;refine⟨_,rfl,_,rfl,lt_,_,rfl,nS i mJ▸vj.k (k:=Sum.inl (i:Int)) AI,_,rfl,_,rfl,lt_,_,rfl,nS j pT▸vj.k (k:=Sum.inl (j:Int)) AI,_,_,rfl,rfl,_,rfl,?_⟩;have lt:lg.idxOf i<lg.idxOf j:=lt;rw[decide_eq_false (show ¬((lg.idxOf j:Nat):Int)<((lg.idxOf i:Nat):Int) by omega)];exact zR rfl ⟨_,rfl,CO⟩
theorem yC:FnScope ["_law_deed_here","_law_value","_law_add","_law_low","_law_high","_law_found"] ["_law_deed_here","_law_value"] (zh (top 52)):=⟨rfl,rfl,rfl,by decide +kernel,rfl,by decide +kernel,by decide +kernel⟩
theorem ZI(F:Fun K "_law_done" "_law_done" (top 52) f fd)(B:Blt mg)      :
  FnOk P w K mg base CX0 (n+1) f fd ["_law_deed_here","_law_value"] (tN K):=by
 refine F.ok yC yw (fun mz A outer s H vs Q E hr h=>?_);obtain⟨x,y,rfl,d,v,⟨a,rfl,hs⟩,rfl,q⟩:=h;refine⟨_,(zc (xB (pv 0) (xA rfl (zq (zm (i:=2) yC.nd rfl (aY rfl)) (zq (zm (i:=3) yC.nd rfl (aY rfl)) (zq (zm (i:=4) yC.nd rfl (aY rfl)) yA))))) (zc (zJ (i:=5) yC.nd rfl (aY rfl) (zw yo (pv 1) (pv 2))) (zc (zT (PW.pt (ww (wu (tE (pv 3))) (xU (zE vg (pv 5) (pv 3) (zG _))))) (zf (zJ (i:=5) yC.nd rfl (aY rfl) (pv 3))) zx) (zc (zT (PW.pt (ww (wu (tE (pv 4))) (xU (zE Z2 (pv 5) (pv 4) (zG _))))) (zf (zJ (i:=5) yC.nd rfl (aY rfl) (pv 4))) zx) (zf (zy (pv 5))))))),?_⟩;obtain⟨ad,lo,hi⟩:=d;refine⟨_,rfl,a,_,rfl,hs,rfl,_,_,rfl,_,_,rfl,_,_,rfl,rfl,?_⟩;refine⟨_,rfl,_,rfl,_,_,rfl,rfl,xG ?_⟩;have q0:Q (.int (yg hi (z9 lo (v+ad)))) H:=q;refine Q5 (fun σ' H'=>σ'=[some (.ref a),some (.int v),some (.int ad),some (ov lo),some (ov hi),some (.int (z9 lo (v+ad)))]/\H'=H) ?_ ?_;rotate_left
 ·intro oV;cases lo with
  |none=>exact⟨_,rfl,_,rfl,xM (xM (oV _ _ ⟨rfl,rfl⟩))⟩
  |some l =>
   refine⟨_,rfl,_,rfl,vJ ⟨_,rfl,_,rfl,_,_,rfl,rfl,_,rfl,?_⟩⟩;by_cases c:v+ad<l
   ·have e:z9 (some l) (v+ad)=l:=if_pos c;exact yI (decide_eq_true c) ⟨_,rfl,oV _ _ ⟨by rw[e];rfl,rfl⟩⟩
   ·have e:z9 (some l) (v+ad)=v+ad:=if_neg c;exact zR (decide_eq_false c) (oV _ _ ⟨by rw[e];rfl,rfl⟩)
 rintro σ' H' ⟨rfl,rfl⟩;generalize z9 lo (v+ad)=r at q0 ⊢;cases hi with
 |none=>exact⟨_,rfl,_,rfl,xM (xM (xH ⟨_,rfl,q0⟩))⟩
 |some u =>
  refine⟨_,rfl,_,rfl,vJ ⟨_,rfl,_,rfl,_,_,rfl,rfl,_,rfl,?_⟩⟩;by_cases c:u<r
  ·have e:yg (some u) r=u:=if_pos c;rw[e] at q0;exact yI (decide_eq_true c) ⟨_,rfl,_,rfl,q0⟩
  ·have e:yg (some u) r=r:=if_neg c;rw[e] at q0;exact zR (decide_eq_false c) (xH ⟨_,rfl,q0⟩)
theorem yu:FnScope ["_law_asks","_law_values","_law_order","_law_answered","_law_found","_law_number_here","_law_hand","_law_box","_law_deed_here"] ["_law_asks","_law_values","_law_order","_law_answered"] (zh (top 57)):=⟨rfl,rfl,rfl,by decide +kernel,rfl,by decide +kernel,by decide +kernel⟩
theorem sV(F:Fun K "_law_played" "_law_played" (top 57) f fd)(B:Blt mg)(mB:zo P w K mg base n "_law_done" ["_law_deed_here","_law_value"] (tN K))     :
  FnOk P w K mg base CX0 (n+1) f fd ["_law_asks","_law_values","_law_order","_law_answered"] (sF K):=by
 refine F.ok yu vh (fun mz A outer s H vs Q E hr h=>?_);obtain⟨x,y,z,u,rfl,r,la,xs,as,v,lg,an,rfl,hl,ha,hv,hz,rfl,oS,lgk,nd,l40,v16,Gu,and_,q⟩:=h;refine⟨_,(zc (zJ (i:=4) yu.nd rfl (aY rfl) (zY uK rfl B.list W7 (za (pv 1) zb))) (zc (yQ PassesOwn.never rfl (vD (pv 2)) (zm (i:=5) yu.nd rfl (aY rfl)) (zc (xB (ye zU (pv 0) (pv 5) (fun _ _=>rfl)) (xA rfl (zq (zm (i:=6) yu.nd rfl (aY rfl)) (zq (zm (i:=7) yu.nd rfl (aY rfl)) (zq (zm (i:=8) yu.nd rfl (aY rfl)) yA))))) (zc (zT (zE jA (ye yX (yZ (Room.u1F hr) (pv 3) (pv 5) (fun _ _=>rfl)) ze (fun _ _=>rfl)) (ye zU (pv 4) (pv 7) (fun _ _=>rfl)) (zG _)) (zf (zy rh)) zx) (zf (xB (zi mB hr rfl (za (pv 8) (za (ye zU (pv 4) (pv 7) (fun _ _=>rfl)) zb))) (ju (pv 4) (pv 7) vH)))))) (zf (zy (zY yE rfl B.tuple yS (za (pv 4) zb)))))),?_⟩;obtain⟨rv,rfl,hsv⟩:=hv;obtain⟨rz,rfl,hsz⟩:=hz;have al:=ha.len;refine⟨_,rfl,rv,_,rfl,.inr hsv,fun lf hlf=>?_⟩;have gf:=Grow.new (m:=[]) hlf (.lst (v.map V.int));refine⟨_,rfl,_,rfl,⟨_,gf.sqT hsz⟩,um (xs:=zL lg) (fun i σ H'=>∃(e5 e6 e7 e8:Option V),σ=[some (.ref r),some (.ref rv),some (.ref rz),some (.ref la),some (.ref lf),e5,e6,e7,e8]/\Grow [] H H'/\H' lf=some (.lst ((yB as v (lg.take i)).1.map V.int))) ⟨_,_,_,_,rfl,gf,zd⟩ (fun i σ H' _ ⟨_,_,_,_,_,g,_⟩=>g.sqT hsz) ?_ ?_⟩
 ·rintro i x σ H1 hx ⟨e5,e6,e7,e8,rfl,g1,h1⟩;obtain⟨n,hn,rfl⟩:∃n:Nat,lg[i]?=some n/\x=.int n:=by
   unfold zL at hx;rw[bN] at hx;obtain⟨n,h1,h2⟩:=fB.mp hx;exact⟨n,h1,h2.symm⟩
  obtain⟨nl,b0,bl⟩:=lgk n (bF hn);have hxn:xs[n]?=some xs[n]:=aH (by omega);obtain⟨ak,DM,rk,rd,ek,hsk,hsd⟩:=ha.get hxn;have Gv:as.getD n default=ak:=by rw[aJ,DM];rfl
  have el:(yB as v (lg.take i)).1.length=v.length:=ZB;have Gw:Zu as n=ak.box.toNat:=by unfold Zu;rw[Gv]
  rw[Gv] at b0;rw[Gw] at bl;obtain⟨bt,E2⟩:=Gu _ (Uv (as:=as) (v:=v) hn);obtain⟨kvs,m8,pY⟩:=oS;obtain⟨ra,nS,oU⟩:=pY.val and_ E2;rw[qk hn];show UL _ _ _ _ _;have e2:Zv as (yB as v (lg.take i)) n=((yB as v (lg.take i)).1.set ak.box.toNat (ak.deed.mk' ((yB as v (lg.take i)).1.getD ak.box.toNat 0)),(yB as v (lg.take i)).2++[(n,(yB as v (lg.take i)).1.getD ak.box.toNat 0)]):=by
   unfold Zv;rw[Gw,Gv]
  rw[e2];rw[Gw] at oU E2;revert h1 oU el;generalize (yB as v (lg.take i)).1=cur;intro h1 el oU;have nS:wa kvs (Sum.inl (n:Int))=some (.ref ra):=nS;refine⟨_,rfl,_,rfl,r,_,_,_,rfl,rfl,SqL.of (g1.keep _ _ (by simp) hl),zN hxn,?_⟩;rw[ek];refine⟨rk,_,rfl,g1.sqT hsk,rfl,_,_,rfl,_,_,rfl,_,_,rfl,rfl,?_⟩;have oN:atI (cur.map V.int) ak.box=some (V.int (cur.getD ak.box.toNat 0)):=zbm b0 (by omega);refine JA ⟨_,rfl,_,rfl,la,_,rfl,nS▸vj.k (k:=Sum.inl (n:Int)) (g1.keep _ _ (by simp) m8),ra,_,_,_,rfl,rfl,g1.sqT oU,rfl,_,rfl,_,rfl,lf,_,_,_,rfl,rfl,SqL.of h1,oN,rfl,_,rfl,zR (by rw[decide_eq_true rfl];rfl) (xH ?_)⟩;refine⟨_,rfl,_,rfl,_,rfl,lf,_,_,_,rfl,rfl,SqL.of h1,oN,_,_,rfl,ak.deed,_,⟨rd,rfl,g1.sqT hsd⟩,rfl,_,rfl,_,rfl,lf,_,_,ak.box.toNat,rfl,rfl,h1,Z9 b0 (by rw[aG];omega),?_⟩;have gs:Grow [lf] H1 (upd H1 lf (.lst ((cur.map V.int).set ak.box.toNat (.int (ak.deed.mk' (cur.getD ak.box.toNat 0)))))):=Grow.set h1 (by simp) _;exact⟨_,_,_,_,rfl,(g1.wk.trans gs).shrink hlf,by rw[zd,List.map_set]⟩
 rintro σ H1 ⟨e5,e6,e7,e8,rfl,g1,h1⟩;rw[vO,cU] at h1;refine⟨_,rfl,lf,_,rfl,.inl ⟨SqL.of h1,fun t ht=>?_⟩⟩;exact q _ _ (g1.trans (Grow.new ht _)) ⟨t,rfl,SqT.of zd⟩
theorem YC:FnScope ["self"] ["self"] (zh (zk (top 46) 13)):=⟨rfl,rfl,rfl,by decide +kernel,rfl,by decide +kernel,by decide +kernel⟩
theorem YD(F:Fun K "todo" "Net.todo" (zk (top 46) 13) f fd)(B:Blt mg){C:Addr}(T:NTxt K mg C)      :
  FnOk P w K mg base CX0 (n+1) f fd ["self"] (qU C K):=by
 refine F.ok YC yT (fun mz A outer s H vs Q E hr h=>?_);obtain⟨x,rfl,A5,ns,rfl,hn,q⟩:=h;refine⟨_,(zf (zy (zw yp (zp zv rfl B.len xh (za (zI (pv 0) rfl) zb)) (zp vP rfl B.len xh (za (zI (pv 0) rfl) zb))))),?_⟩;obtain⟨xs,m8,Bm⟩:=hn.la;have e1:=Bm.len;have e2:(nKv ns.ans).length=ns.ans.length:=aG ..;refine⟨_,rfl,_,C,_,_,_,rfl,hn.ob.choose_spec,T.cl,T.n_asks,t9,_,_,rfl,.inl (SqL.of m8),_,rfl,_,C,_,_,_,rfl,hn.ob.choose_spec,T.cl,T.n_answers,uC,_,_,rfl,hn.da,_,_,rfl,rfl,?_⟩;rw[e1,e2];exact q
theorem YE:FnScope ["thing"] ["thing"] (zh (top 11)):=⟨rfl,rfl,rfl,by decide +kernel,rfl,by decide +kernel,by decide +kernel⟩
theorem YF(F:Fun K "is_whole" "is_whole" (top 11) f fd)(B:Blt mg)      :
  FnOk P w K mg base CX0 (n+1) f fd ["thing"] (xE K):=by
 refine F.ok YE yT (fun mz A outer s H vs Q E hr h=>?_);obtain⟨x,rfl,⟨T,ty⟩,q⟩:=h;refine⟨_,(zf (zy (vC (zp xb rfl B.isinstance zX (za (pv 0) (za (wZ rfl B.int W6) zb))) (wB (Qn (zp xb rfl B.isinstance zX (za (pv 0) (za (wZ rfl B.bool QH) zb)))))))),?_⟩;cases x with
 |non=>cases(show T = "NoneType" from ty);exact⟨_,rfl,_,_,_,false,rfl,rfl,rfl,_,rfl,xM q⟩
 |bl y=>cases(show T = "bool" from ty);exact⟨_,rfl,_,_,_,true,rfl,rfl,rfl,_,rfl,vJ ⟨_,rfl,_,_,_,true,rfl,rfl,rfl,_,rfl,q⟩⟩
 |int i=>cases(show T = "int" from ty);exact⟨_,rfl,_,_,_,true,rfl,rfl,rfl,_,rfl,vJ ⟨_,rfl,_,_,_,false,rfl,rfl,rfl,_,rfl,q⟩⟩
 |str y=>cases(show T = "str" from ty);exact⟨_,rfl,_,_,_,false,rfl,rfl,rfl,_,rfl,xM q⟩
 |byt y=>exact ty.elim
 |flt y=>exact ty.elim
 |ty y=>exact ty.elim
 |ref a =>
  rcases ty with ⟨rfl,xs,hq⟩|⟨rfl,xs,hq⟩|⟨rfl,kvs,hq⟩
  ·exact⟨_,rfl,_,_,_,false,rfl,.inl ⟨rfl,xs,hq⟩,rfl,_,rfl,xM q⟩
  ·exact⟨_,rfl,_,_,_,false,rfl,.inr (.inl ⟨rfl,xs,hq⟩),rfl,_,rfl,xM q⟩
  ·exact⟨_,rfl,_,_,_,false,rfl,.inr (.inr ⟨rfl,kvs,hq⟩),rfl,_,rfl,xM q⟩
theorem ZJ:FnScope ["thing","least","greatest"] ["thing","least","greatest"] (zh (top 12)):=⟨rfl,rfl,rfl,by decide +kernel,rfl,by decide +kernel,by decide +kernel⟩
theorem ZK(F:Fun K "is_within" "is_within" (top 12) f fd)(B:Blt mg)(mB:zo P w K mg base n "is_whole" ["thing"] (xE K))     :
  FnOk P w K mg base CX0 (n+1) f fd ["thing","least","greatest"] (yi K):=by
 refine F.ok ZJ xY (fun mz A outer s H vs Q E hr h=>?_);obtain⟨x,y,z,rfl,i,l,u,rfl,rfl,rfl,q⟩:=h;refine⟨_,(zf (zy (vC (zi mB hr rfl (za (pv 0) zb)) (wB (UN XD XD (pv 1) (pv 0) (pv 2)))))),?_⟩;refine⟨_,rfl,_,rfl,YZ,_,rfl,vJ ⟨_,rfl,_,rfl,_,_,rfl,rfl,_,rfl,?_⟩⟩;by_cases c:l<=i
 ·refine yI (decide_eq_true c) ⟨_,rfl,_,_,rfl,rfl,?_⟩;rw[decide_eq_true c] at q;exact q
 ·refine zR (decide_eq_false c) ?_;rw[decide_eq_false c] at q;exact q
theorem jh:FnScope ["self","number"] ["self","number"] (zh (zk (top 46) 14)):=⟨rfl,rfl,rfl,by decide +kernel,rfl,by decide +kernel,by decide +kernel⟩
theorem ji(F:Fun K "answer" "Net.answer" (zk (top 46) 14) f fd)(B:Blt mg){C:Addr}(T:NTxt K mg C)(mB:zo P w K mg base n "is_within" ["thing","least","greatest"] (yi K))     :
  FnOk P w K mg base CX0 (n+1) f fd ["self","number"] (uG C K):=by
 refine F.ok jh yw (fun mz A outer s H vs Q E hr h=>?_);obtain⟨x,y,rfl,A5,ns,n5,rfl,rfl,mE,hn,q⟩:=h;refine⟨_,(zc (zT (yz (yG (zi mB hr rfl (za (pv 1) (za ze (za (zw yp (zp zv rfl B.len xh (za (zI (pv 0) rfl) zb)) ze) zb)))))) (zf xP) zx) (zf (zy (Tl (Room.u1F hr) (zI (pv 0) rfl) (pv 1) ⟨rfl,rfl,rfl,rfl⟩)))),?_⟩;obtain⟨xs,m8,Bm⟩:=hn.la;have e1:=Bm.len;refine⟨_,rfl,_,rfl,_,C,_,_,_,rfl,hn.ob.choose_spec,T.cl,T.n_asks,t9,_,_,rfl,.inl (SqL.of m8),_,_,rfl,rfl,_,_,_,rfl,_,_,_,rfl,rfl,rfl,_,rfl,zR (by rw[decide_eq_true (show(0:Int)<=n5 by omega),decide_eq_true (show(n5:Int)<=(xs.length:Int)-1 by omega)];rfl) ?_⟩;have ev:wa (nKv ns.ans) (.inl (n5:Int))=(xu ns.ans n5).map V.int:=t7;refine⟨_,rfl,_,C,_,_,_,rfl,hn.ob.choose_spec,T.cl,T.n_answers,uC,_,rfl,(.inl ⟨_,.inl hn.da⟩),_,rfl,_,.inl ⟨_,.inl (n5:Int),.inl hn.da,rfl,rfl⟩,?_⟩;rw[ev];cases e:xu ns.ans n5 with
 |none=>rw[e] at q;exact q
 |some v=>rw[e] at q;exact q
theorem xy:FnScope ["_law_net","_law_answered","_law_many","_law_number_here","_law_due"] ["_law_net","_law_answered","_law_many"] (zh (top 55)):=⟨rfl,rfl,rfl,by decide +kernel,rfl,by decide +kernel,by decide +kernel⟩
theorem jj(F:Fun K "_law_noted" "_law_noted" (top 55) f fd)(B:Blt mg){C:Addr}(T:NTxt K mg C)(Bn:zH P w K mg base C n "todo" ["self"] (qU C K))(pZ:zH P w K mg base C n "answer" ["self","number"] (uG C K))      :
  FnOk P w K mg base CX0 (n+1) f fd ["_law_net","_law_answered","_law_many"] (ql C K):=by
 refine F.ok xy xY (fun mz A outer s H vs Q E hr h=>?_);obtain⟨x,y,z,rfl,A5,ns,la,bg,an,rfl,rfl,rfl,hn,nx,nb,oS,hA,q⟩:=h;refine⟨_,(zc (yQ PassesOwn.never rfl (ya rfl B.range (za (pv 2) zb)) (zm (i:=3) xy.nd rfl (aY rfl)) (zc (zJ (i:=4) xy.nd rfl (aY rfl) rh) (zc (zT (wu (Su (Room.u1F hr) (pv 3) (pv 1))) (zf (zJ (i:=4) xy.nd rfl (aY rfl) (ye yX (yZ (Room.u1F hr) (pv 1) (pv 3) (fun _ _=>rfl)) ze (fun _ _=>rfl)))) zx) (zf (zT (zE jA (zp (xz hr) rfl B.repr rG (za (xf pZ T.cl hr (pv 0) (za (pv 3) zb)) zb)) (zp (xz hr) rfl B.repr rG (za (pv 4) zb)) (zG _)) (zf (zy xT)) zx))))) (zf (zy (xW vF (zp (xz hr) rfl B.repr rG (za (wG Bn T.cl hr (pv 0)) zb)) (zp (xz hr) rfl B.repr rG (za (zw yp (pv 2) (zp vP rfl B.len xh (za (pv 1) zb))) zb)) (zG _))))),?_⟩;obtain⟨kvs,m8,pY⟩:=oS;have nd:=YB hA nx.nw;have al:an.length=ns.ans.length:=by have:=hA.pm.length_eq;rwa[aG,aG] at this
 have a40:=nx.nw.nr.a40;refine⟨_,rfl,_,rfl,by omega,by omega,yK (fun i σ H'=>∃(e3 e4:Option V),σ=[some (.ref (A5 .p)),some (.ref la),some (.int ns.asks.length),e3,e4]/\Grow [] H H') ⟨_,_,rfl,Grow.refl _ _⟩ ?_ ?_⟩
 ·rintro i σ H1 hi ⟨e3,e4,rfl,g1⟩;rw[gu];have mJ:i<ns.asks.length:=by omega
  show UL _ _ _ _ _;refine tX (fun v H'=>v=V.non/\Grow [] H H') (fun Kk hk=>hk _ _ ⟨rfl,g1⟩) ?_;clear g1 H1;rintro _ H1 ⟨rfl,g1⟩;refine Xu (fun σ' H'=>Grow [] H H'/\σ'=[some (.ref (A5 .p)),some (.ref la),some (.int ns.asks.length),some (.int i),some (oN5 (xu ns.ans i))]) (fun D' hD=>?_) ?_
  ·rcases pY.get nd i with ⟨t,v,r,hm,hv,hs⟩|⟨Do,hv⟩
   ·have e:=hA.vl _ hm;have e:xu ns.ans i=some v:=e;rw[e] at hD;refine⟨_,rfl,_,rfl,la,_,rfl,vj.k (k:=Sum.inl (i:Int)) (g1.keep _ _ (by simp) m8),?_⟩;rw[hv];refine⟨_,rfl,yI rfl ?_⟩;refine⟨_,rfl,_,rfl,la,_,rfl,hv▸vj.k (k:=Sum.inl (i:Int)) (g1.keep _ _ (by simp) m8),r,_,_,_,rfl,rfl,g1.sqT hs,rfl,?_⟩;exact hD _ _ ⟨g1,rfl⟩
   ·have e:=R8 hA Do;rw[e] at hD;refine⟨_,rfl,_,rfl,la,_,rfl,vj.k (k:=Sum.inl (i:Int)) (g1.keep _ _ (by simp) m8),?_⟩;rw[hv];exact⟨_,rfl,zR rfl (hD _ _ ⟨g1,rfl⟩)⟩
  clear g1 H1;rintro σ' H1 ⟨g1,rfl⟩;have mD:=hn.grow0 g1;have sh:=J3 (n:=1) (o:=xu ns.ans i) fun v e=>Ww nx nb e;refine⟨_,rfl,_,_,_,rfl,mD.ob.choose_spec,VU,_,rfl,_,_,rfl,A5,ns,i,rfl,rfl,mJ,mD,?_⟩;obtain⟨s1,s2,s3,s4⟩:=R0 sh (by decide) (by decide);refine⟨_,_,rfl,Xz _,s1,s2,s3,s4,_,rfl,?_⟩;refine⟨_,_,rfl,Xz _,s1,s2,s3,s4,?_⟩;exact⟨rfl,_,rfl,zR (by simp) ⟨_,_,rfl,g1⟩⟩
 ·rintro σ H1 ⟨e3,e4,rfl,g1⟩;have mD:=hn.grow0 g1;have kl:=pY.len;have Gx:ns.ans.length<=40:=by
   have:=nx.nw.l40;have:=y7 (xR nx.nw).1 (xR nx.nw).2;rw[aG] at this;omega
  have i2:Sr ((ns.asks.length:Int)-ns.ans.length):=by
   unfold Sr;have k:(100:Int)<2 ^ 300:=by decide
   revert k;generalize (2:Int) ^ 300=T;intro k;constructor <;> omega
  refine⟨_,rfl,_,_,_,rfl,mD.ob.choose_spec,RH,_,rfl,A5,ns,rfl,mD,?_⟩;obtain⟨s1,s2,s3,s4⟩:=R0 (Vi (n:=1) i2) (by decide) (by decide);refine⟨_,_,rfl,.int _,s1,s2,s3,s4,_,rfl,_,rfl,la,kvs,rfl,g1.keep _ _ (by simp) m8,_,_,rfl,rfl,?_⟩;have ek:(kvs.length:Int)=ns.ans.length:=by omega
  rw[ek];refine⟨_,_,rfl,.int _,s1,s2,s3,s4,rfl,?_⟩;rw[decide_eq_true rfl];exact q _ g1
theorem xS:FnScope ["_law_found","_law_answered","_law_many","_law_beat","_law_numbers","_law_number_here","_law_answer"] ["_law_found","_law_answered","_law_many","_law_beat"] (zh (top 56)):=⟨rfl,rfl,rfl,by decide +kernel,rfl,by decide +kernel,by decide +kernel⟩
theorem ZL(F:Fun K "_law_told" "_law_told" (top 56) f fd)(B:Blt mg)(mP:mg "sorted" = none)(DX:mg "set" = none)   :
  FnOk P w K mg base CX0 (n+1) f fd ["_law_found","_law_answered","_law_many","_law_beat"] (ZF K):=by
 refine F.ok xS vh (fun mz A outer s H vs Q E hr h=>?_);obtain⟨x,y,z,u,rfl,la,n,t,an,td,htd,rfl,oS,rfl,rfl,t40,tp,tn,Gx,q⟩:=h;refine⟨_,(zc (zT (PW.pt (uj (yz (yG (zp xb rfl B.isinstance zX (za (pv 0) (za (wZ rfl B.tuple yS) zb))))) (wv (yz (yG (zp (tO rfl) rfl B.all Ri (za (wO (CSc.of (N':=["_law_one"]) (sub:=[none]) (zh (top 56)) ["_law_found","_law_answered","_law_many","_law_beat","_law_numbers","_law_number_here","_law_answer"] rfl rfl (by decide +kernel) rfl) rfl (vD (pv 0)) (fun _ _ _ _ _ _=>zm (i:=0) (show(["_law_one"]:List Str).Nodup by decide +kernel) rfl (aY rfl)) (fun _ _ _ _ _ _=>xc) (fun _ _ _ _ _ _=>(vC (zp (Vq (K:=K) rfl) rfl B.isinstance zX (za (pv 0) (za (wZ rfl B.tuple yS) zb))) (wB (xW vF (zp (Vk (K:=K) rfl) rfl B.len xh (za (pv 0) zb)) ze (zG _)))))) zb))))))) (zf (zy xT)) zx) (zc (qB (i:=4) xS.nd rfl rfl (CSc.of (N':=["_law_one"]) (sub:=[none]) (zh (top 56)) ["_law_found","_law_answered","_law_many","_law_beat","_law_numbers","_law_number_here","_law_answer"] rfl rfl (by decide +kernel) rfl) rfl (vD (pv 0)) (fun _ _ _ _ _ _=>zm (i:=0) (show(["_law_one"]:List Str).Nodup by decide +kernel) rfl (aY rfl)) (fun _ _ _ _ _ _=>xc) (fun _ _ _ _ _ _=>(ye (Vg (K:=K) rfl) (pv 0) ze (fun _ _=>rfl)))) (zc (zT (zE (Sq hr) (pv 4) (zp (Wv rfl rfl hr) rfl mP u4 (za (zY (Ut (K:=K) rfl rfl rfl hr) rfl DX zah (za (pv 4) zb)) zb)) (zG _)) (zf (zy xT)) zx) (zc (yQ PassesOwn.never rfl (vD (pv 0)) (xA rfl (zq (zm (i:=5) xS.nd rfl (aY rfl)) (zq (zm (i:=6) xS.nd rfl (aY rfl)) yA))) (zc (zT (PW.pt (uj (wu (Su (Room.u1F hr) (pv 5) (pv 1))) (wv (yz (YU XD vg ze (pv 5) (pv 2)))))) (zf (zy xT)) zx) (zf (Yh (Room.u1F hr) (pv 1) (pv 5) (z7 (za (pv 3) (za (pv 6) zb))) rfl)))) (zf (zy xT)))))),?_⟩;obtain⟨rt,ys,rfl,B',nU⟩:=htd;obtain⟨kvs,m8,pY⟩:=oS;have yl:=nU.len;refine tY (fun b H'=>b=false/\Grow [] H H') (fun Kk hk=>⟨_,rfl,_,_,"tuple",true,rfl,.inl ⟨rfl,_,B'⟩,vo,_,rfl,zR rfl ⟨_,rfl,rt,rfl,⟨_,B'⟩,u5 (xs:=ys) (fun i vs σ' H'=>(∃e0:Option V,σ'=[e0])/\Grow [] H H'/\vs=(bL i true).map V.bl) ⟨⟨_,rfl⟩,Grow.refl _ _,rfl⟩ (fun i vs σ' H' _ z=>z.2.1.sqT B') ?_ ?_⟩⟩) ?_
 ·rintro i x vs σ' H2 hx ⟨⟨e0,rfl⟩,g2,rfl⟩;obtain⟨p,hp,r,rfl,hr⟩:=nU.get hx;have il:=(aZ.mp hx).1;refine⟨_,rfl,_,_,"tuple",true,rfl,.inl ⟨rfl,_,g2.sqT hr⟩,vo,_,rfl,yI rfl ⟨_,rfl,r,_,rfl,.inr (g2.sqT hr),rfl,zC (by rw[aG,gG];omega),⟨_,rfl⟩,g2,?_⟩⟩;rw[List.replicate_succ',bC];rfl
 ·rintro vs σ' H2 ⟨_,g2,rfl⟩ l hl;have gl:=Grow.new (m:=[]) hl (.lst ((bL ys.length true).map V.bl));refine⟨l,bL ys.length true,rfl,SqL.of zd,_,rfl,?_⟩;rw[show(bL ys.length true).all id=true from List.all_eq_true.mpr fun b hb=>List.eq_of_mem_replicate hb];exact hk _ _ ⟨rfl,g2.trans gl⟩
 rintro b H1 ⟨rfl,g1⟩;refine zR rfl (xH ?_);refine tX (fun v H'=>∃l,v=.ref l/\H' l=some (.lst (zL (td.map (·.1))))/\Grow [] H H') (fun Kk hk=>⟨_,rfl,rt,rfl,⟨_,g1.sqT B'⟩,u5 (xs:=ys) (fun i vs σ' H'=>(∃e0:Option V,σ'=[e0])/\Grow [] H H'/\vs=zL ((td.take i).map (·.1))) ⟨⟨_,rfl⟩,g1,rfl⟩ (fun i vs σ' H' _ z=>z.2.1.sqT B') ?_ ?_⟩) ?_
 ·rintro i x vs σ' H2 hx ⟨⟨e0,rfl⟩,g2,rfl⟩;obtain⟨p,hp,r,rfl,hr⟩:=nU.get hx;obtain⟨hi,e⟩:=aZ.mp hp;refine⟨_,rfl,r,_,_,_,rfl,rfl,g2.sqT hr,rfl,zC (by rw[vO,aG,dB];omega),⟨_,rfl⟩,g2,?_⟩;rw[dO hi,e,bC,jZ];rfl
 ·rintro vs σ' H2 ⟨_,g2,rfl⟩ l hl;have gl:=Grow.new (m:=[]) hl (.lst (zL ((td.take ys.length).map (·.1))));exact hk _ _ ⟨l,rfl,by rw[zd,yl,cU],g2.trans gl⟩
 rintro _ H2 ⟨ln,rfl,hln,g2⟩;have hpw:((td.map (·.1)).map fun n:Nat=>(n:Int)).Pairwise (·<·):=by
  rw[bZ];refine eN.mpr (tp.imp fun{a b} z=>?_);show((a.1:Nat):Int)<(b.1:Nat);omega
 rw[rM] at hln;refine tY (fun b H'=>b=false/\Grow [] H H') (fun Kk hk=>⟨_,rfl,_,rfl,ln,_,rfl,SqL.of hln,by rw[aG,aG];omega,fun ls E7=>⟨ls,_,rfl,zd,by rw[Xy (hpw.imp fun{a b} z e=>by omega),aG,aG];omega,fun lo ms CL pm pw=>?_⟩⟩) ?_
 ·have es:=Uw hpw pm pw;subst es;refine⟨ln,lo,_,_,rfl,rfl,SqL.of (((Grow.new (m:=[]) E7 _).trans (Grow.new CL _)).keep _ _ (by simp) hln),SqL.of zd,vL,vL,_,rfl,?_⟩;rw[wF,decide_eq_true rfl];exact hk _ _ ⟨rfl,g2.trans ((Grow.new E7 _).trans (Grow.new CL _))⟩
 clear g1 hln g2;rintro b H1 ⟨rfl,g1⟩;refine zR rfl (xH ?_);refine⟨_,rfl,rt,rfl,⟨_,g1.sqT B'⟩,um (xs:=ys) (fun i σ H'=>∃(e5 e6:Option V),σ=[some (.ref rt),some (.ref la),some (.int n),some (.int t),some (.ref ln),e5,e6]/\Grow [la] H H'/\wA K H' la (an++(td.take i).map fun q=>(q.1,t,q.2))) ⟨_,_,rfl,g1.wk,kvs,g1.keep _ _ (by simp) m8,by rw[List.take_zero,iL,bB];exact pY.grow g1⟩ (fun i σ H' _ ⟨_,_,_,g,_⟩=>g.sqT B') ?_ ?_⟩;rotate_left
 ·rintro σ H2 ⟨_,_,rfl,g2,h2⟩;rw[yl,cU] at h2;exact q _ g2 h2
 rintro i x σ H2 hx ⟨e5,e6,rfl,g2,kv2,hla2,hkv2⟩;obtain⟨p,hp,r,rfl,hr⟩:=nU.get hx;obtain⟨hi,e⟩:=aZ.mp hp;have pm:=bF hp;obtain⟨pn,pa⟩:=tn p pm;have Do:p.1∉(an++(td.take i).map fun q=>(q.1,t,q.2)).map (·.1):=by
  rw[bC,bZ];intro z;rcases aP.mp z with z|z
  ·exact pa z
  ·obtain⟨q',Ba,eq⟩:=aW.mp z;have:=List.pairwise_append.mp (by rw[eX];exact tp:(td.take i++td.drop i).Pairwise _);have:=this.2.2 q' Ba p (by rw[fJ hi,e];exact aU);have eq:q'.1=p.1:=eq;omega
 have BK:=hkv2.no Do;refine⟨r,_,rfl,g2.sqT hr,rfl,_,_,rfl,_,_,rfl,rfl,?_⟩;refine⟨_,rfl,_,rfl,la,_,rfl,vj.k (k:=Sum.inl (p.1:Int)) hla2,?_⟩;rw[BK];refine⟨_,rfl,zR rfl ?_⟩;refine⟨_,rfl,_,_,rfl,rfl,_,rfl,?_⟩;have pn':(p.1:Int)<n:=by omega
 refine yI (decide_eq_true (cH _)) ⟨_,rfl,_,_,rfl,rfl,_,rfl,zR (by rw[decide_eq_true pn'];rfl) (xH ?_)⟩;refine⟨_,rfl,_,rfl,szl rfl,fun tt Gy=>?_⟩;have gt:=Grow.new (m:=[]) Gy (.tup [.int (t:Int),.int p.2]);have DY:=gt.keep _ _ (by simp) hla2;have kl:kv2.length<=1000:=by
  have h1:=hkv2.len;rw[aI,aG,dB] at h1;have h2:=pY.len;omega
 refine⟨_,rfl,_,rfl,la,_,rfl,UI.k (k:=Sum.inl (p.1:Int)) DY (kz kl (by decide)),?_⟩;rw[u7 _ BK];have gs:Grow [la] (upd H2 tt (.tup [.int (t:Int),.int p.2])) (upd (upd H2 tt (.tup [.int (t:Int),.int p.2])) la (.dK (kv2++[(Sum.inl (p.1:Int),V.ref tt)]))):=Grow.setK5 DY (aB.mpr rfl) _;have gg:=gt.wk.trans gs;refine⟨_,_,rfl,g2.trans gg,_,zd,?_⟩;rw[dO hi,e,bC,←bD];exact yH.app ⟨rfl,tt,rfl,gs.sqT (SqT.of zd)⟩ (hkv2.grow gg)
theorem uP:FnScope ["_law_pot_here","_law_many","_law_digit"] ["_law_pot_here","_law_many"] (zh (top 49)):=⟨rfl,rfl,rfl,by decide +kernel,rfl,by decide +kernel,by decide +kernel⟩
theorem ZM(F:Fun K "_law_take" "_law_take" (top 49) f fd)(B:Blt mg)      :
  FnOk P w K mg base CX0 (n+1) f fd ["_law_pot_here","_law_many"] (ur K):=by
 refine F.ok uP yw (fun mz A outer s H vs Q E hr h=>?_);obtain⟨x,y,rfl,a,m,rfl,rfl,⟨p0,p1,hp,h0⟩,hm,hm2,q⟩:=h;refine⟨_,(zc (zT (zE Z2 (ye zU (pv 0) ze (fun _ _=>rfl)) ze (zG _)) (zc (xB (zp jK rfl B.divmod UW (za (ye zU (pv 0) ze (fun _ _=>rfl)) (za (pv 1) zb))) (xA rfl (zq (ju (pv 0) ze vH) (zq (zm (i:=2) uP.nd rfl (aY rfl)) yA)))) (zf (zy (pv 2)))) zx) (zc (xB (zw jx (zw yo (zw xX (ye zU (pv 0) ze (fun _ _=>rfl)) ze) ze) ze) (ju (pv 0) ze vH)) (zf (zy (zw jx (zw YX (zw jx (zw xX (ye zU (pv 0) ze (fun _ _=>rfl)) (ye zU (pv 0) ze (fun _ _=>rfl))) ze) ze) (pv 1)))))),?_⟩;refine⟨_,rfl,a,_,_,_,rfl,rfl,SqL.of hp,rfl,_,_,rfl,rfl,_,rfl,?_⟩;refine UF (fun c=>?_) (fun c=>?_)
 ·refine⟨_,rfl,a,_,_,_,rfl,rfl,SqL.of hp,rfl,_,rfl,p0,m,rfl,⟨hm,hm2⟩,fun t ht=>?_⟩;have Bi:upd H t (.tup [.int (p0 / m),.int (p0 % m)]) a=some (.lst [.int p0,.int p1]):=by rw[zB (zF hp ht)];exact hp
  refine⟨t,_,rfl,SqT.of zd,rfl,_,_,rfl,_,rfl,a,_,0,0,rfl,rfl,Bi,rfl,_,_,rfl,rfl,?_⟩;exact⟨_,rfl,q _ _ (i9 _ (by omega)) (iw _ hm) ((Grow.new ht _).trans (Grow.set Bi (by simp) _)) ⟨p0 / m,p1,zd,lP h0 (by omega)⟩⟩
 ·refine⟨_,rfl,a,_,_,_,rfl,rfl,SqL.of hp,rfl,p1,39373,rfl,rfl,vK ⟨by decide,by decide⟩,_,_,rfl,rfl,_,_,rfl,rfl,(by show(0:Int)<2147483629;decide),_,rfl,a,_,1,1,rfl,rfl,hp,rfl,?_⟩;have b0:0<=(p1*39373+7919) % 2147483629:=i9 _ (by decide);have b1:(p1*39373+7919) % 2147483629<2147483629:=iw _ (by decide);refine⟨_,rfl,a,_,_,_,rfl,rfl,SqL.of zd,rfl,_,rfl,a,_,_,_,rfl,rfl,SqL.of zd,rfl,(p1*39373+7919) % 2147483629,(p1*39373+7919) % 2147483629,rfl,rfl,vK ⟨by omega,by omega⟩,_,_,rfl,rfl,(by show(0:Int)<2147483563;decide),_,_,rfl,rfl,⟨by decide,by decide⟩,_,rfl,_,_,rfl,rfl,hm,?_⟩;exact q _ _ (i9 _ (by omega)) (iw _ hm) (Grow.set hp (by simp) _) ⟨p0,(p1*39373+7919) % 2147483629,zd,h0⟩
theorem xm:FnScope ["_law_pot_here","_law_k","_law_found","_law_turn","_law_stage","_law_number_here"] ["_law_pot_here","_law_k"] (zh (top 54)):=⟨rfl,rfl,rfl,by decide +kernel,rfl,by decide +kernel,by decide +kernel⟩
theorem ZN(F:Fun K "_law_lost" "_law_lost" (top 54) f fd)(B:Blt mg)(mB:zo P w K mg base n "_law_take" ["_law_pot_here","_law_many"] (ur K))     :
  FnOk P w K mg base CX0 (n+1) f fd ["_law_pot_here","_law_k"] (Zy K):=by
 refine F.ok xm yw (fun mz A outer s H vs Q E hr h=>?_);obtain⟨x,y,rfl,p,k,rfl,rfl,pp,k4,q⟩:=h;refine⟨_,(zc (zJ (i:=2) xm.nd rfl (aY rfl) (xQ zb)) (zc (zT (zE vF (zi mB hr rfl (za (pv 0) (za ze zb))) ze (zG _)) (zf (yQ PassesOwn.never rfl (ya rfl B.range (za (zw yo ze (zi mB hr rfl (za (pv 0) (za ze zb)))) zb)) (zm (i:=3) xm.nd rfl (aY rfl)) (zc (zJ (i:=4) xm.nd rfl (aY rfl) (zi mB hr rfl (za (pv 0) (za (zw yo (pv 1) ze) zb)))) (zc (zJ (i:=5) xm.nd rfl (aY rfl) (zi mB hr rfl (za (pv 0) (za (zp (tF rfl) rfl B.max Rh (za ze (za (zw YX (zw xC ze (pv 1)) (zw yo ze (zY vG rfl B.int W6 (za (xW Z2 (pv 4) ze (zG _)) zb)))) zb))) zb)))) (zf (yd (uo bY PySem.F.slot_list_extend PySem.F.type_list_extend jJ (pv 2) (za (zw QG (xQ (za (z7 (za (pv 4) (za (pv 5) zb))) zb)) (zw yo ze (zY vG rfl B.int W6 (za (xW vF (zi mB hr rfl (za (pv 0) (za ze zb))) ze (zG _)) zb)))) zb)))))))) zx) (zf (zy (zY yE rfl B.tuple yS (za (pv 2) zb)))))),?_⟩;have pW:=tR k4;refine⟨szl rfl,fun lt mE=>xG ?_⟩;have g0:=Grow.new (m:=[]) mE (.lst []);have oW:=zd (H:=H) (a:=lt) (o:=.lst []);have pp0:=pp.grow g0;have CP:lt≠p:=fun e=>by
  obtain⟨p0,p1,z,_⟩:=pp;rw[←e,mE] at z;cases z
 generalize upd H lt (.lst [])=H0 at g0 oW pp0 ⊢;refine Q5 (fun σ' H'=>∃e3 e4 e5 ys gone,σ'=[some (.ref p),some (.int k),some (.ref lt),e3,e4,e5]/\Grow [lt,p] H0 H'/\Pot H' p/\H' lt=some (.lst ys)/\yJ (Wb K H') ys gone/\(∀q∈gone,vT k q)/\ys.length<=20) ?_ ?_
 ·rintro σ' H1 ⟨e3,e4,e5,ys,gone,rfl,g1,pb,hy,hr,ok,yl⟩;refine⟨_,rfl,lt,ys,rfl,.inl ⟨SqL.of hy,fun t ht=>?_⟩⟩;have gt:=Grow.new (m:=[]) ht (.tup ys);refine q gone _ _ ok (by rw[←hr.len];exact yl) ?_ (pb.grow gt) ⟨t,ys,rfl,SqT.of zd,hr.imp fun _ _ ⟨r,e,z⟩=>⟨r,e,gt.sqT z⟩,by omega⟩;exact((g0.wk (m:=[lt,p])).trans (g1.trans gt.wk)).less fun b hb=>by
   simp only[aS,dY,or_false] at hb;rcases hb with rfl|rfl
   ·exact .inr mE
   ·exact .inl (by simp)
 intro oV;refine⟨_,rfl,_,_,rfl,p,3,rfl,rfl,pp0,by decide,by decide,fun n1 H1 l1 u1 g1 pb=>⟨rfl,_,rfl,?_⟩⟩;have AJ:=g1.keep _ _ (by simpa using CP) oW;have G1:Grow [lt,p] H0 H1:=g1.mono (by simp);by_cases c:n1=0;rotate_left
 ·exact zR (decide_eq_false fun z=>c (V.int.inj z)) (oV _ _ ⟨_,_,_,[],[],rfl,G1,pb,AJ,trivial,by simp,by decide⟩)
 refine yI (decide_eq_true (congrArg V.int c)) ?_;refine⟨_,rfl,_,_,rfl,p,5,rfl,rfl,pb,by decide,by decide,fun n2 H2 l2 u2 g2 nZ=>⟨_,_,rfl,rfl,_,rfl,by omega,by omega,?_⟩⟩;have Gz:=g2.keep _ _ (by simpa using CP) AJ;have G2:Grow [lt,p] H0 H2:=G1.trans (g2.mono (by simp));refine yK (fun i σ H'=>∃e3 e4 e5 ys gone,σ=[some (.ref p),some (.int k),some (.ref lt),e3,e4,e5]/\Grow [lt,p] H0 H'/\Pot H' p/\H' lt=some (.lst ys)/\yJ (Wb K H') ys gone/\(∀q∈gone,vT k q)/\ys.length<=2*i) ⟨_,_,_,[],[],rfl,G2,nZ,Gz,trivial,by simp,by decide⟩ ?_ ?_;rotate_left
 ·rintro σ H' ⟨e3,e4,e5,ys,gone,rfl,g,pp',hy,hr,ok,yl⟩;exact oV _ _ ⟨_,_,_,ys,gone,rfl,g,pp',hy,hr,ok,by omega⟩
 rintro i σ H3 hi ⟨e3,e4,e5,ys,gone,rfl,g3,pO,hy,hr,ok,yl⟩;refine⟨_,rfl,_,rfl,_,_,rfl,rfl,_,_,rfl,p,_,rfl,rfl,pO,by omega,by omega,fun st H4 s0 s1 g4 Bo=>xG ?_⟩;have hy4:=g4.keep _ _ (by simpa using CP) hy;have hdv:∃mx:Int,(if(1*2 ^ ((k:Int)).toNat) / (1+(if decide ((0:Int)<st)=true then 1 else 0))>(1:Int) then(1*2 ^ ((k:Int)).toNat) / (1+(if decide ((0:Int)<st)=true then 1 else 0)) else(1:Int))=mx/\0<mx/\mx<=16/\∀n:Int,0<=n->n<mx->vT k (st.toNat,n.toNat):=by
  rw[V9];refine⟨_,rfl,?_⟩;by_cases c0:0<st
  ·rw[decide_eq_true c0,show((1:Int)+if true=true then 1 else 0)=1+1 from rfl];have hk:1<=k:=by omega
   have e2:((2 ^ k:Nat):Int) / (1+1)=((2 ^ (k-1):Nat):Int):=by
    have:2 ^ k=2 ^ (k-1)*2:=by rw[←Nat.pow_succ];congr 1;omega
    rw[this];omega
   rw[e2];have Gs:=dS (k-1);have ET:2 ^ (k-1)<=16:=bM (fc (by decide) (by omega)) pW;refine⟨by split <;> omega,by split <;> omega,fun n n0 n1=>.inl ⟨by show 1<=st.toNat;omega,by show st.toNat<=k;omega,?_⟩⟩;show n.toNat<2 ^ (k-1);split at n1 <;> omega
  ·rw[decide_eq_false c0,show((1:Int)+if false=true then 1 else 0)=1 from rfl,mj];have Gs:=dS k;refine⟨by split <;> omega,by split <;> omega,fun n n0 n1=>.inr ⟨by show st.toNat=0;omega,?_⟩⟩;show n.toNat<2 ^ k;split at n1 <;> omega
 obtain⟨mx,emx,m0,E6,mok⟩:=hdv;refine⟨_,rfl,_,rfl,_,_,rfl,rfl,uL k4,_,rfl,_,_,rfl,rfl,.inr ⟨_,rfl,_,_,rfl,rfl,_,_,rfl,rfl,⟨by split <;> decide,by split <;> decide⟩,_,_,rfl,_,_,rfl,p,mx,rfl,congrArg V.int emx,Bo,m0,by omega,fun nn H5 n0 n1' g5 GA=>xG ?_⟩⟩;have hy5:=g5.keep _ _ (by simpa using CP) hy4;refine⟨_,rfl,.inl ⟨rfl,_,SqL.of hy5⟩,_,rfl,_,rfl,szl rfl,fun t ht=>⟨szl rfl,fun l3 GB=>?_⟩⟩;have f1:=Grow.new (m:=[]) ht (.tup [.int st,.int nn]);have f2:=Grow.new (m:=[]) GB (.lst [.ref t]);have s1:upd (upd H5 t (.tup [.int st,.int nn])) l3 (.lst [.ref t]) t=some (.tup [.int st,.int nn]):=f2.tup _ _ zd;have s2:upd (upd H5 t (.tup [.int st,.int nn])) l3 (.lst [.ref t]) l3=some (.lst [.ref t]):=zd;have F:=f1.trans f2;have A4:=GA.grow F;have hy6:=F.keep _ _ (by simp) hy5;generalize upd (upd H5 t _) l3 _=H6 at F s1 s2 A4 hy6 ⊢;have nl3:l3≠p:=fun e=>by
  obtain⟨p0,p1,z,_⟩:=A4;rw[←e,s2] at z;cases z
 refine⟨_,rfl,_,_,rfl,p,6,rfl,rfl,A4,by decide,by decide,fun n6 H7 l6 u6 g7 Ca=>⟨rfl,?_⟩⟩;have s27:=g7.keep _ _ (by simpa using nl3) s2;have hy7:=g7.keep _ _ (by simpa using CP) hy6;obtain⟨cn,hcn,c1,c2⟩:∃cn:Nat,((1:Int)+if decide (V.int n6=V.int 0)=true then 1 else 0)=(cn:Int)/\1<=cn/\cn<=2:=by
  by_cases z:V.int n6=V.int 0
  ·rw[decide_eq_true z,if_pos rfl];exact⟨2,rfl,by decide,by decide⟩
  ·rw[decide_eq_false z,if_neg (by decide)];exact⟨1,rfl,by decide,by decide⟩
 refine .inr ⟨_,rfl,_,_,rfl,rfl,l3,(cn:Int),_,rfl,congrArg V.int hcn,s27,by omega,by omega,by rw[bW];exact cG (zC (by show 1*cn<=1000;omega)),fun l4 hl4=>?_⟩;rw[bW,Te];have g8:=Grow.new (m:=[]) hl4 (.lst (bL cn (.ref t)));have hy8:=g8.keep _ _ (by simp) hy7;have g9:=Grow.set (m:=[lt]) hy8 (by simp) (ys++bL cn (.ref t));refine⟨lt,l4,ys,_,rfl,rfl,hy8,zd,by rw[gG];exact cG (zC (by omega)),?_⟩;have G5:Grow [lt,p] H3 _:=(g4.mono (m':=[lt,p]) (by simp)).trans ((g5.mono (m':=[lt,p]) (by simp)).trans (F.wk.trans ((g7.mono (m':=[lt,p]) (by simp)).trans (g8.wk.trans (g9.mono (m':=[lt,p]) (by simp))))));have est:((st.toNat:Nat):Int)=st:=fz s0;have enn:((nn.toNat:Nat):Int)=nn:=fz n0;have plt:p∉[lt]:=by simpa using CP.symm
 have CQ:Pot (upd (upd H7 l4 (.lst (bL cn (.ref t)))) lt (.lst (ys++bL cn (.ref t)))) p:=by
  obtain⟨p0,p1,z,z0⟩:=Ca.grow g8;exact⟨p0,p1,g9.keep _ _ plt z,z0⟩
 refine⟨_,_,_,ys++bL cn (.ref t),gone++bL cn (st.toNat,nn.toNat),rfl,g3.trans G5,CQ,zd,?_,?_,by rw[aI,gG];omega⟩
 ·refine(hr.imp fun _ _ ⟨r,e,z⟩=>⟨r,e,G5.sqT z⟩).app (Zr ⟨t,rfl,?_⟩);show SqT K _ t [.int ((st.toNat:Nat):Int),.int ((nn.toNat:Nat):Int)];rw[est,enn];exact SqT.of (g9.tup _ _ (g8.tup _ _ (g7.tup _ _ s1)))
 ·intro q hq;rcases aP.mp hq with hq|hq
  ·exact ok q hq
  ·rw[(List.mem_replicate.mp hq).2];exact mok nn n0 n1'
theorem ve:FnScope ["_law_pot_here","_law_menu"] ["_law_pot_here"] (zh (top 50)):=⟨rfl,rfl,rfl,by decide +kernel,rfl,by decide +kernel,by decide +kernel⟩
theorem sW(F:Fun K "_law_number" "_law_number" (top 50) f fd)(B:Blt mg)(mB:zo P w K mg base n "_law_take" ["_law_pot_here","_law_many"] (ur K))     :
  FnOk P w K mg base CX0 (n+1) f fd ["_law_pot_here"] (Yv K):=by
 refine F.ok ve yT (fun mz A outer s H vs Q E hr h=>?_);obtain⟨x,rfl,a,rfl,pp,q⟩:=h;refine⟨_,(zc (zJ (i:=1) ve.nd rfl (aY rfl) (zi mB hr rfl (za (pv 0) (za ze zb)))) (zc (zT (zE vg (pv 1) ze (zG _)) (zf (zy (zw yp (zi mB hr rfl (za (pv 0) (za ze zb))) ze))) zx) (zc (zT (zE vF (pv 1) ze (zG _)) (zf (zy (zw yp (zi mB hr rfl (za (pv 0) (za (zw xX ze (zw WO ze ze)) zb))) (zw WO ze ze)))) zx) (zf (zy (ye zU (xQ (za ze (za ze (za (WN jz ze) (za (zw yp ze (zi mB hr rfl (za (pv 0) (za ze zb)))) zb))))) (zi mB hr rfl (za (pv 0) (za ze zb))) (fun _ _=>rfl))))))),?_⟩;refine⟨_,rfl,_,_,rfl,a,5,rfl,rfl,pp,by decide,by decide,fun c0 H1 l0 u0 g1 pb=>⟨_,rfl,_,_,rfl,rfl,_,rfl,?_⟩⟩;by_cases c:c0<2
 ·refine yI (decide_eq_true c) ⟨_,rfl,_,_,rfl,a,9,rfl,rfl,pb,by decide,by decide,fun n1 H2 l1 u1 g2 nZ=>⟨_,_,rfl,rfl,q _ _ ?_ ?_ (g1.trans g2) nZ⟩⟩
  ·show -(10 ^ 29)<=n1-4;omega
  ·show n1-4<=10 ^ 29;omega
 refine zR (decide_eq_false c) (xH ⟨_,rfl,rfl,_,rfl,?_⟩);by_cases c4:c0=4
 ·refine yI (decide_eq_true (congrArg V.int c4)) ⟨_,rfl,_,_,rfl,rfl,⟨by decide,by decide,by decide⟩,_,_,rfl,rfl,Vr ⟨by decide,by decide⟩,_,_,rfl,a,2*10 ^ 29,rfl,rfl,pb,by decide,by decide,fun n1 H2 l1 u1 g2 nZ=>⟨_,_,rfl,rfl,⟨by decide,by decide,by decide⟩,_,_,rfl,rfl,q _ _ ?_ ?_ (g1.trans g2) nZ⟩⟩
  ·show -(10 ^ 29)<=n1-10 ^ 29;omega
  ·show n1-10 ^ 29<=10 ^ 29;omega
 refine zR (decide_eq_false fun z=>c4 (V.int.inj z)) (xH ?_);refine⟨_,rfl,_,rfl,_,_,rfl,a,200,rfl,rfl,pb,by decide,by decide,fun n1 H2 l1 u1 g2 nZ=>⟨_,_,rfl,rfl,szl rfl,fun t ht=>?_⟩⟩;have gt:=Grow.new (m:=[]) ht (.lst [V.int 0,.int 1,.int (-1),.int (100-n1)]);refine⟨_,rfl,_,_,rfl,a,4,rfl,rfl,nZ.grow gt,by decide,by decide,fun n2 H3 l2 u2 g3 pO=>?_⟩;have nat:t≠a:=fun e=>by
  obtain⟨p0,p1,z,_⟩:=nZ;rw[←e,ht] at z;cases z
 have Al:H3 t=some (.lst [V.int 0,.int 1,.int (-1),.int (100-n1)]):=g3.keep _ _ (by simpa using nat) zd;have G:Grow [a] H H3:=g1.trans (g2.trans (gt.wk.trans g3));obtain h|h|h|h:n2=0\/n2=1\/n2=2\/n2=3:=by omega
 ·subst h;exact⟨t,_,0,_,rfl,rfl,SqL.of Al,zN (j:=0) rfl,q _ _ (by decide) (by decide) G pO⟩
 ·subst h;exact⟨t,_,1,_,rfl,rfl,SqL.of Al,zN (j:=1) rfl,q _ _ (by decide) (by decide) G pO⟩
 ·subst h;exact⟨t,_,2,_,rfl,rfl,SqL.of Al,zN (j:=2) rfl,q _ _ (by decide) (by decide) G pO⟩
 ·subst h;exact⟨t,_,3,_,rfl,rfl,SqL.of Al,zN (j:=3) rfl,q _ _ (by show -(10 ^ 29)<=100-n1;omega) (by show 100-n1<=10 ^ 29;omega) G pO⟩
theorem xn:FnScope ["_law_pot_here","_law_menu","_law_low","_law_high","_law_add"] ["_law_pot_here"] (zh (top 51)):=⟨rfl,rfl,rfl,by decide +kernel,rfl,by decide +kernel,by decide +kernel⟩
theorem ZO(F:Fun K "_law_deed" "_law_deed" (top 51) f fd)(B:Blt mg)(mB:zo P w K mg base n "_law_take" ["_law_pot_here","_law_many"] (ur K))(nk:zo P w K mg base n "_law_number" ["_law_pot_here"] (Yv K))(mP:mg "sorted" = none)   :
  FnOk P w K mg base CX0 (n+1) f fd ["_law_pot_here"] (Zx K):=by
 refine F.ok xn yT (fun mz A outer s H vs Q E hr h=>?_);obtain⟨x,rfl,a,rfl,pp,q⟩:=h;refine⟨_,(zc (zJ (i:=1) xn.nd rfl (aY rfl) (zi mB hr rfl (za (pv 0) (za ze zb)))) (zc (zT (zE vg (pv 1) ze (zG _)) (zf (zy (z7 (za (ye zU (xQ (za ze (za (zi nk hr rfl (za (pv 0) zb)) (za ze zb)))) (pv 1) (fun _ _=>rfl)) (za rh (za rh zb)))))) zx) (zc (xB (zp (jW (K:=K) rfl) rfl mP u4 (za (xQ (za (zi nk hr rfl (za (pv 0) zb)) (za (zi nk hr rfl (za (pv 0) zb)) zb))) zb)) (TN rfl (zq (zm (i:=2) xn.nd rfl (aY rfl)) (zq (zm (i:=3) xn.nd rfl (aY rfl)) yA)))) (zc (zT (PW.pt (uj (zE vF (pv 1) ze (zG _)) (wv (zE vF (pv 2) (pv 3) (zG _))))) (zf (zy (z7 (za ze (za (pv 2) (za (pv 2) zb)))))) zx) (zc (zJ (i:=4) xn.nd rfl (aY rfl) (zw xX (zi nk hr rfl (za (pv 0) zb)) (zY vG rfl B.int W6 (za (xW Z2 (pv 1) ze (zG _)) zb)))) (zf (zy (ye zU (xQ (za (z7 (za (pv 4) (za (pv 2) (za rh zb)))) (za (z7 (za (pv 4) (za rh (za (pv 3) zb)))) (za (z7 (za (pv 4) (za (pv 2) (za (pv 3) zb)))) zb)))) (zi mB hr rfl (za (pv 0) (za ze zb))) (fun _ _=>rfl))))))))),?_⟩;refine⟨_,rfl,_,_,rfl,a,8,rfl,rfl,pp,by decide,by decide,fun c0 H1 l0 u0 g1 pb=>⟨_,rfl,_,_,rfl,rfl,_,rfl,?_⟩⟩;by_cases c:c0<3
 ·refine yI (decide_eq_true c) ⟨_,rfl,_,rfl,a,rfl,pb,fun n1 H2 b1 b2 g2 nZ=>⟨szl rfl,fun t ht=>?_⟩⟩;have gt:=Grow.new (m:=[]) ht (.lst [V.int 1,.int n1,.int 0]);have fin:∀(v:Int) (t2:Addr),-(10 ^ 29)<=v/\v<=10 ^ 29->upd H2 t (.lst [V.int 1,.int n1,.int 0]) t2=none->Q (.ref t2) (upd (upd H2 t (.lst [V.int 1,.int n1,.int 0])) t2 (.tup [.int v,.non,.non])):=fun v t2 vb AK=>q ⟨v,none,none⟩ _ _ (fun _ _ z=>nomatch z) ⟨vb,(fun _ z=>nomatch z),(fun _ z=>nomatch z)⟩ (g1.trans (g2.trans (gt.wk.trans (Grow.new AK _)))) ((nZ.grow gt).grow (Grow.new AK _)) ⟨t2,rfl,SqT.of zd⟩;obtain h|h|h:c0=0\/c0=1\/c0=2:=by omega
  ·subst h;exact⟨_,rfl,t,_,0,_,rfl,rfl,SqL.of zd,zN (j:=0) rfl,szl rfl,fun t2=>fin 1 t2 ⟨by decide,by decide⟩⟩
  ·subst h;exact⟨_,rfl,t,_,1,_,rfl,rfl,SqL.of zd,zN (j:=1) rfl,szl rfl,fun t2=>fin n1 t2 ⟨b1,b2⟩⟩
  ·subst h;exact⟨_,rfl,t,_,2,_,rfl,rfl,SqL.of zd,zN (j:=2) rfl,szl rfl,fun t2=>fin 0 t2 ⟨by decide,by decide⟩⟩
 refine zR (decide_eq_false c) (xH ?_);refine⟨_,rfl,_,rfl,a,rfl,pb,fun n1 H2 b1 b2 g2 nZ=>⟨_,rfl,_,rfl,a,rfl,nZ,fun n2 H3 b3 b4 g3 pO=>⟨szl rfl,fun t ht=>?_⟩⟩⟩;have gt:=Grow.new (m:=[]) ht (.lst [V.int n1,.int n2]);refine⟨t,[n1,n2],rfl,SqL.of zd,by show(2:Nat)<64;decide,fun p ms hp pm pw=>?_⟩;obtain⟨lo,hi,rfl⟩:∃lo hi,ms=[lo,hi]:=by
  have:=pm.length_eq;match ms,this with
  |[x,y],_=>exact⟨x,y,rfl⟩
 have lh:lo<=hi:=by simpa using pw
 have lb:∀v∈[lo,hi],-(10 ^ 29)<=v/\v<=10 ^ 29:=fun v hv=>by
  have hv:=pm.mem_iff.mp hv;simp only[aS,dY,or_false] at hv;rcases hv with rfl|rfl
  ·exact⟨b1,b2⟩
  ·exact⟨b3,b4⟩
 have E8:=lb lo (by simp);have lb2:=lb hi (by simp);clear lb;have gp:=Grow.new (m:=[]) hp (.lst ([lo,hi].map V.int));have G4:Grow [a] H _:=g1.trans (g2.trans (g3.trans ((gt.trans gp).wk (m:=[a]))));have Bo:=(pO.grow gt).grow gp;refine⟨p,_,rfl,SqL.of zd,rfl,_,_,rfl,_,_,rfl,rfl,?_⟩;refine JA ?_;generalize upd (upd H3 t _) p _=H4 at G4 Bo ⊢;have eqv:∀H5 t5,Grow [a] H H5->Pot H5 a->SqT K H5 t5 [.int 0,.int lo,.int lo]->Q (.ref t5) H5:=fun H5 t5 g5 p5 h5=>q ⟨0,some lo,some lo⟩ _ _ (fun l u h1 h2=>.inr ⟨by cases h1;cases h2;rfl,rfl⟩) ⟨⟨show -(10 ^ 29)<=(0:Int) by decide,show(0:Int)<=10 ^ 29 by decide⟩,(fun _ z=>by cases z;exact E8),(fun _ z=>by cases z;exact E8)⟩ g5 p5 ⟨t5,rfl,h5⟩;refine tY (fun b H'=>H'=H4/\(b=false->lo<hi)) (fun Kk hk=>⟨_,rfl,rfl,_,rfl,?_⟩) ?_
 ·by_cases c3:c0=3
  ·exact yI (decide_eq_true (congrArg V.int c3)) (hk _ _ ⟨rfl,nofun⟩)
  ·refine zR (decide_eq_false fun z=>c3 (V.int.inj z)) ⟨_,rfl,_,rfl,rfl,_,rfl,hk _ _ ⟨rfl,fun h=>?_⟩⟩;have:¬(V.int lo=V.int hi):=of_decide_eq_false h;have:lo≠hi:=fun e=>this (congrArg V.int e);omega
 rintro b H5 ⟨rfl,hb⟩;cases b with
 |true =>
  refine vJ ⟨_,rfl,_,rfl,szl rfl,fun t5 ht5=>eqv _ _ (G4.trans (Grow.new ht5 _)) (Bo.grow (Grow.new ht5 _)) (SqT.of zd)⟩
 |false =>
 have lt:=hb rfl;refine xM (xH ?_);refine tX (fun v H'=>∃ad:Int,v=.int ad/\(-(10 ^ 29)<=ad/\ad<=10 ^ 29)/\Grow [a] H H'/\Pot H' a) (fun Kk hk=>⟨_,rfl,_,rfl,a,rfl,Bo,fun n3 H6 l3 u3 g6 A4=>⟨_,rfl,_,_,rfl,rfl,.inr ⟨_,rfl,_,_,rfl,rfl,vK ?_,hk _ _ ⟨_,rfl,?_,G4.trans g6,A4⟩⟩⟩⟩) ?_
 ·split <;> exact⟨by decide,by decide⟩
 ·split <;> (first|rw[Int.mul_one]|rw[Int.mul_zero]) <;> first|exact⟨l3,u3⟩|exact⟨by decide,by decide⟩
 rintro _ H6 ⟨ad,rfl,adb,G6,A4⟩;refine⟨_,rfl,_,rfl,szl rfl,fun t1 nP=>⟨_,rfl,_,rfl,szl rfl,fun t2 AK=>⟨_,rfl,_,rfl,_,rfl,szl rfl,fun t3 Al=>⟨szl rfl,fun tl GC=>?_⟩⟩⟩⟩;have f1:=Grow.new (m:=[]) nP (.tup [.int ad,.int lo,.non]);have f2:=Grow.new (m:=[]) AK (.tup [.int ad,.non,.int hi]);have f3:=Grow.new (m:=[]) Al (.tup [.int ad,.int lo,.int hi]);have f4:=Grow.new (m:=[]) GC (.lst [.ref t1,.ref t2,.ref t3]);have F:=f1.trans (f2.trans (f3.trans f4));have s1:upd H6 t1 (.tup [.int ad,.int lo,.non]) t1=some (.tup [.int ad,.int lo,.non]):=zd;have s2:upd (upd H6 t1 (.tup [.int ad,.int lo,.non])) t2 (.tup [.int ad,.non,.int hi]) t2=some (.tup [.int ad,.non,.int hi]):=zd;have s3:upd (upd (upd H6 t1 (.tup [.int ad,.int lo,.non])) t2 (.tup [.int ad,.non,.int hi])) t3 (.tup [.int ad,.int lo,.int hi]) t3=some (.tup [.int ad,.int lo,.int hi]):=zd
 replace s1:=(f2.trans (f3.trans f4)).tup _ _ s1
 replace s2:=(f3.trans f4).tup _ _ s2
 replace s3:=f4.tup _ _ s3
 have s4:upd (upd (upd (upd H6 t1 (.tup [.int ad,.int lo,.non])) t2 (.tup [.int ad,.non,.int hi])) t3 (.tup [.int ad,.int lo,.int hi])) tl (.lst [.ref t1,.ref t2,.ref t3]) tl=some (.lst [.ref t1,.ref t2,.ref t3]):=zd;have Ca:=A4.grow F;have G7:=G6.trans (F.wk (m:=[a]));generalize upd (upd (upd (upd H6 t1 _) t2 _) t3 _) tl _=H7 at s1 s2 s3 s4 Ca G7 ⊢;refine⟨_,rfl,_,_,rfl,a,3,rfl,rfl,Ca,by decide,by decide,fun n8 H8 l8 u8 g8 BL=>?_⟩;have nta:tl≠a:=fun e=>by
  obtain⟨p0,p1,z,_⟩:=Ca;rw[←e,s4] at z;cases z
 have GD:=g8.keep _ _ (by simpa using nta) s4;have G8:=G7.trans g8;obtain h|h|h:n8=0\/n8=1\/n8=2:=by omega
 ·subst h;exact⟨tl,_,0,_,rfl,rfl,SqL.of GD,zN (j:=0) rfl,q ⟨ad,some lo,none⟩ _ _ (fun _ _ _ z=>nomatch z) ⟨adb,(fun _ z=>by cases z;exact E8),(fun _ z=>nomatch z)⟩ G8 BL ⟨t1,rfl,SqT.of (g8.tup _ _ s1)⟩⟩
 ·subst h;exact⟨tl,_,1,_,rfl,rfl,SqL.of GD,zN (j:=1) rfl,q ⟨ad,none,some hi⟩ _ _ (fun _ _ z=>nomatch z) ⟨adb,(fun _ z=>nomatch z),(fun _ z=>by cases z;exact lb2)⟩ G8 BL ⟨t2,rfl,SqT.of (g8.tup _ _ s2)⟩⟩
 ·subst h;exact⟨tl,_,2,_,rfl,rfl,SqL.of GD,zN (j:=2) rfl,q ⟨ad,some lo,some hi⟩ _ _ (fun l u h1 h2=>.inl (by cases h1;cases h2;exact lt)) ⟨adb,(fun _ z=>by cases z;exact E8),(fun _ z=>by cases z;exact lb2)⟩ G8 BL ⟨t3,rfl,SqT.of (g8.tup _ _ s3)⟩⟩
theorem vp:FnScope ["_law_pot_here","_law_k","_law_many","_law_some","_law_box"] ["_law_pot_here","_law_k","_law_many","_law_some"] (zh (top 53)):=⟨rfl,rfl,rfl,by decide +kernel,rfl,by decide +kernel,by decide +kernel⟩
theorem YG(F:Fun K "_law_ask" "_law_ask" (top 53) f fd)(B:Blt mg)(mB:zo P w K mg base n "_law_deed" ["_law_pot_here"] (Zx K))(nk:zo P w K mg base n "_law_take" ["_law_pot_here","_law_many"] (ur K))     :
  FnOk P w K mg base CX0 (n+1) f fd ["_law_pot_here","_law_k","_law_many","_law_some"] (Xt K):=by
 refine F.ok vp vh (fun mz A outer s H vs Q E hr h=>?_);obtain⟨x,y,z,u,rfl,p,l,k,mH,sm,rfl,rfl,rfl,rfl,pp,k4,m1,E6,hl,npl,sm1,smL,GE,q⟩:=h;refine⟨_,(zc (zJ (i:=4) vp.nd rfl (aY rfl) (ye zU (pv 3) (zi nk hr rfl (za (pv 0) (za (zp zv rfl B.len xh (za (pv 3) zb)) zb))) (fun _ _=>rfl))) (zc (zT (zE vF (zi nk hr rfl (za (pv 0) (za ze zb))) ze (zG _)) (zf (zJ (i:=4) vp.nd rfl (aY rfl) (zi nk hr rfl (za (pv 0) (za (pv 2) zb))))) zx) (zf (zy (z7 (za (zi nk hr rfl (za (pv 0) (za (zw xC ze (pv 1)) zb))) (za (pv 4) (za (zi mB hr rfl (za (pv 0) zb)) zb)))))))),?_⟩;have pW:=tR k4;have el:(sm.map V.int).length=sm.length:=aG ..;refine⟨_,rfl,_,rfl,_,rfl,l,_,rfl,.inl (SqL.of hl),_,_,rfl,p,_,rfl,rfl,pp,by omega,by omega,fun n1 H1 l1 u1 g1 pb=>?_⟩;have B8:=g1.keep _ _ (by simpa using npl.symm) hl;have hj:n1.toNat<sm.length:=by omega
 have hv:(sm.map V.int)[n1.toNat]?=some (V.int sm[n1.toNat]):=by rw[bN,aH hj];rfl
 have GF:=zN hv;rw[fz l1] at GF;have DT:=GE _ (dX hj);generalize sm[n1.toNat]=b0 at GF DT;refine⟨l,_,n1,_,rfl,rfl,SqL.of B8,GF,xG ?_⟩;refine Q5 (fun σ' H'=>∃(b:Int),σ'=[some (.ref p),some (.int k),some (.int mH),some (.ref l),some (.int b)]/\0<=b/\b<mH/\Grow [p] H H'/\Pot H' p) ?_ ?_;rotate_left
 ·intro oV;refine⟨_,rfl,_,_,rfl,p,5,rfl,rfl,pb,by decide,by decide,fun n2 H2 l2 u2 g2 nZ=>⟨rfl,_,rfl,?_⟩⟩;by_cases c:n2=0
  ·refine yI (decide_eq_true (congrArg V.int c)) ⟨_,rfl,_,rfl,_,_,rfl,p,mH,rfl,rfl,nZ,by omega,by omega,fun n3 H3 l3 u3 g3 pO=>oV _ _ ⟨n3,rfl,l3,u3,g1.trans (g2.trans g3),pO⟩⟩
  ·exact zR (decide_eq_false fun z=>c (V.int.inj z)) (oV _ _ ⟨b0,rfl,DT.1,DT.2,g1.trans g2,nZ⟩)
 rintro σ' H2 ⟨b,rfl,bl,bu,g2,nZ⟩;refine⟨_,rfl,_,rfl,_,_,rfl,rfl,uL k4,_,_,rfl,p,_,rfl,rfl,nZ,by rw[V9];exact Int.ofNat_lt.mpr (dS k),by rw[V9];exact gz (gx.mpr pW) (by decide),fun n3 H3 l3 u3 g3 pO=>?_⟩;rw[V9] at u3;refine⟨_,rfl,_,rfl,_,rfl,p,rfl,pO,fun d y H4 dok dbd g4 Bo hd=>⟨szl rfl,fun t ht=>?_⟩⟩;obtain⟨rd,rfl,EO⟩:=hd;have gt:=Grow.new (m:=[]) ht (.tup [.int n3,.int b,.ref rd]);exact q ⟨n3,b,d⟩ _ _ ⟨l3,by show n3<=15;have:=gx.mpr pW;omega,bl,bu,dok⟩ u3 dbd (g2.trans (g3.trans (g4.trans gt.wk))) (Bo.grow gt) ⟨t,rd,rfl,SqT.of zd,gt.sqT EO⟩
theorem y8:FnScope ["_law_script","_law_k","_law_seed","_law_cell","_law_number_here"] ["_law_script","_law_k"] (zh (top 48)):=⟨rfl,rfl,rfl,by decide +kernel,rfl,by decide +kernel,by decide +kernel⟩
theorem YH(F:Fun K "_law_pot" "_law_pot" (top 48) f fd)(B:Blt mg)      :
  FnOk P w K mg base CX0 (n+1) f fd ["_law_script","_law_k"] (Si K):=by
 refine F.ok y8 yw (fun mz A outer s H vs Q E hr h=>?_);obtain⟨x,y,rfl,a,ns,k,rfl,rfl,hs,k0,k1,q⟩:=h;refine⟨_,(zc (zJ (i:=2) y8.nd rfl (aY rfl) (zw yo ze (zw xX ze (pv 1)))) (zc (yQ PassesOwn.never rfl (WL (qv Rc (pv 0) Z3 (Z4 ze))) (zm (i:=3) y8.nd rfl (aY rfl)) (zf (zJ (i:=2) y8.nd rfl (aY rfl) (zw jx (zw yo (zw xX (pv 2) ze) (pv 3)) ze)))) (zc (zJ (i:=4) y8.nd rfl (aY rfl) ze) (zc (zT (zE vg (pv 1) (zp zv rfl B.len xh (za (pv 0) zb)) (zG _)) (zf (zJ (i:=4) y8.nd rfl (aY rfl) (ye zU (pv 0) (pv 1) (fun _ _=>rfl)))) zx) (zf (zy (xQ (za (zp (tF rfl) rfl B.max Rh (za ze (za (zw yp (pv 4) (zw WO ze ze)) zb))) (za (zw yo (zw jx (zw yo (zw xX (pv 2) (pv 2)) (zw xX ze (pv 1))) ze) ze) zb))))))))),?_⟩;have hl:(ns.map V.int).length=ns.length:=aG ..;refine⟨_,rfl,_,_,rfl,rfl,Vr ⟨by decide,by decide⟩,_,_,rfl,rfl,xG ?_⟩;refine⟨_,rfl,_,rfl,a,_,rfl,hs.sq,fun t ht=>?_⟩;have gt:=Grow.new (m:=[]) ht (.lst (Z5 (ns.map V.int) none (some 40)));have nP:=zd (H:=H) (a:=t) (o:=.lst (Z5 (ns.map V.int) none (some 40)));have AL:=gt.scr hs;have DZ:∀v∈Z5 (ns.map V.int) none (some 40),∃i:Int,v=.int i:=fun v hv=>by
  obtain⟨i,_,e⟩:=aW.mp (Uh hv);exact⟨i,e.symm⟩
 generalize Z5 (ns.map V.int) none (some 40)=cs at gt nP AL DZ ⊢;generalize upd H t (.lst cs)=H1 at gt nP AL ⊢;refine⟨t,rfl,⟨_,SqL.of nP⟩,uZ (xs:=cs) (fun j σ H'=>∃(e3:Option V) (sd:Int),σ=[some (.ref a),some (.int k),some (.int sd),e3,none]/\H'=H1/\((-(2 ^ 50)<sd/\sd<2 ^ 50))) ⟨_,_,rfl,rfl,by omega,by omega⟩ (fun j σ H' _ ⟨_,_,_,e,_⟩=>e▸SqL.of nP) ?_ ?_⟩
 ·rintro j x σ H2 hx ⟨e3,sd,rfl,rfl,_,_⟩;obtain⟨i,rfl⟩:=DZ x (bF hx);refine⟨_,rfl,_,_,rfl,rfl,vK ⟨by decide,by decide⟩,_,rfl,_,_,rfl,rfl,_,_,rfl,rfl,(by show(0:Int)<2147483647;decide),?_⟩;have b0:0<=(sd*48271+i) % 2147483647:=i9 _ (by decide);have b1:(sd*48271+i) % 2147483647<2147483647:=iw _ (by decide);exact⟨_,_,rfl,rfl,by omega,by omega⟩
 rintro σ H2 ⟨e3,sd,rfl,rfl,s0,s1⟩;refine JA (xG ?_);refine Q5 (fun σ' H'=>∃(n:Int),σ'=[some (.ref a),some (.int k),some (.int sd),e3,some (.int n)]/\H'=H2) ?_ ?_
 ·rintro σ' H' ⟨n,rfl,rfl⟩;refine⟨_,rfl,_,_,rfl,rfl,⟨by decide,by decide,by decide⟩,_,_,rfl,rfl,_,_,rfl,_,rfl,_,rfl,_,_,rfl,rfl,vK ⟨by omega,by omega⟩,_,rfl,_,_,rfl,rfl,Vr ⟨by decide,by decide⟩,_,_,rfl,rfl,_,_,rfl,rfl,(by show(0:Int)<2147483563;decide),_,_,rfl,rfl,szl rfl,fun p hp=>?_⟩;refine q p _ (gt.free (by simp) hp) (gt.trans (Grow.new hp _)) ⟨_,_,zd,?_⟩;split <;> omega
 intro oV;refine⟨_,rfl,_,rfl,a,_,rfl,.inl AL.sq,_,_,rfl,rfl,_,rfl,?_⟩;by_cases c:k<((ns.map V.int).length:Int)
 ·refine yI (decide_eq_true c) ?_;have hj:k.toNat<ns.length:=by omega
  refine⟨_,rfl,_,rfl,a,_,_,V.int ns[k.toNat],rfl,rfl,AL.sq,?_,?_⟩
  ·have hv:(ns.map V.int)[k.toNat]?=some (V.int ns[k.toNat]):=by rw[bN,aH hj];rfl
   have:=zN hv;rw[fz k0] at this;exact this
  ·exact oV _ _ ⟨_,rfl,rfl⟩
 ·exact zR (decide_eq_false c) (oV _ _ ⟨_,rfl,rfl⟩)
theorem ZP:FnScope ["self"] ["self"] (zh (zk (top 46) 11)):=⟨rfl,rfl,rfl,by decide +kernel,rfl,by decide +kernel,by decide +kernel⟩
theorem ZQ(F:Fun K "board" "Net.board" (zk (top 46) 11) f fd)(B:Blt mg){C:Addr}(T:NTxt K mg C)      :
  FnOk P w K mg base CX0 (n+1) f fd ["self"] (sj C K):=by
 refine F.ok ZP yT (fun mz A outer s H vs Q E hr h=>?_);obtain⟨x,rfl,A5,ns,rfl,hn,hl,q⟩:=h;refine⟨_,(zf (zy (zY yE rfl B.tuple yS (za (zI (pv 0) rfl) zb)))),?_⟩;exact⟨_,rfl,_,C,_,_,_,rfl,hn.ob.choose_spec,T.cl,T.n_boxes,vS,_,_,rfl,.inl ⟨SqL.of hn.lb,fun l hl=>q _ _ (Grow.new hl _) ⟨l,rfl,SqT.of zd⟩⟩⟩
theorem Wz:FnScope ["self"] ["self"] (zh (zk (top 46) 12)):=⟨rfl,rfl,rfl,by decide +kernel,rfl,by decide +kernel,by decide +kernel⟩
theorem WA(F:Fun K "log" "Net.log" (zk (top 46) 12) f fd)(B:Blt mg){C:Addr}(T:NTxt K mg C)      :
  FnOk P w K mg base CX0 (n+1) f fd ["self"] (Yr C K):=by
 refine F.ok Wz yT (fun mz A outer s H vs Q E hr h=>?_);obtain⟨x,rfl,A5,ns,rfl,hn,hl,q⟩:=h;refine⟨_,(zf (zy (zY yE rfl B.tuple yS (za (zI (pv 0) rfl) zb)))),?_⟩;have e:zL ns.log=(ns.log.map iE).map V.int:=by rw[bZ];rfl
 exact⟨_,rfl,_,C,_,_,_,rfl,hn.ob.choose_spec,T.cl,T.n_logged,Zh,_,_,rfl,.inl ⟨SqL.of hn.lg,fun l hl=>q _ _ (Grow.new hl _) ⟨l,rfl,by rw[←e];exact SqT.of zd⟩⟩⟩
theorem WB:FnScope ["k","thing"] ["k","thing"] (zh (top 28)):=⟨rfl,rfl,rfl,by decide +kernel,rfl,by decide +kernel,by decide +kernel⟩
theorem WC(F:Fun K "is_line" "is_line" (top 28) f fd)(B:Blt mg)(mB:zo P w K mg base n "is_within" ["thing","least","greatest"] (yi K))     :
  FnOk P w K mg base CX0 (n+1) f fd ["k","thing"] (ux K):=by
 refine F.ok WB yw (fun mz A outer s H vs Q E hr h=>?_);obtain⟨x,y,rfl,k,l,rfl,rfl,k4,hl,q⟩:=h;refine⟨_,(zf (zy (zi mB hr rfl (za (pv 1) (za ze (za (zw yp (zw xC ze (pv 0)) ze) zb)))))),?_⟩;refine⟨_,rfl,_,rfl,_,_,rfl,rfl,uL k4,_,_,rfl,rfl,_,_,_,rfl,_,_,_,rfl,rfl,rfl,?_⟩;rw[decide_eq_true (show(0:Int)<=l by omega),decide_eq_true (show(l:Int)<=1*2 ^ ((k:Int)).toNat-1 by rw[qA];omega)];exact q
theorem ZR:FnScope ["k","stage","number"] ["k","stage","number"] (zh (top 29)):=⟨rfl,rfl,rfl,by decide +kernel,rfl,by decide +kernel,by decide +kernel⟩
theorem ZS(F:Fun K "is_switch" "is_switch" (top 29) f fd)(B:Blt mg)(mB:zo P w K mg base n "is_within" ["thing","least","greatest"] (yi K))     :
  FnOk P w K mg base CX0 (n+1) f fd ["k","stage","number"] (SD K):=by
 refine F.ok ZR xY (fun mz A outer s H vs Q E hr h=>?_);obtain⟨x,y,z,rfl,k,s5,n5,rfl,rfl,rfl,k4,q⟩:=h;refine⟨_,(zf (zy (vC (zi mB hr rfl (za (pv 1) (za ze (za (pv 0) zb)))) (wB (zi mB hr rfl (za (pv 2) (za ze (za (zw yp (zw xC ze (zw yp (pv 0) ze)) ze) zb)))))))),?_⟩;refine⟨_,rfl,_,rfl,_,_,_,rfl,_,_,_,rfl,rfl,rfl,_,rfl,?_⟩;by_cases c:1<=s5/\s5<=k
 ·obtain⟨c1,c2⟩:=c;have ek:(k:Int)-1=((k-1:Nat):Int):=by omega
  refine yI (by rw[decide_eq_true (show(1:Int)<=s5 by omega),decide_eq_true (show(s5:Int)<=k by omega)];rfl) ?_;refine⟨_,rfl,_,rfl,_,_,rfl,rfl,1,((k-1:Nat):Int),rfl,congrArg V.int ek,uL (by omega),_,_,rfl,rfl,_,_,_,rfl,_,_,_,rfl,rfl,rfl,?_⟩;rw[V9];have e:(decide ((0:Int)<=n5) && decide ((n5:Int)<=((2 ^ (k-1):Nat):Int)-1))=decide (1<=s5/\s5<=k/\n5<2 ^ (k-1)):=by
   rw[decide_eq_true (show(0:Int)<=n5 by omega),Bool.true_and];exact decide_eq_decide.mpr ⟨fun h=>⟨c1,c2,by omega⟩,fun h=>by omega⟩
  rw[e];exact q
 ·refine zR (by
   by_cases c1:1<=s5
   ·rw[decide_eq_false (show ¬(s5:Int)<=k by omega),lT]
   ·rw[decide_eq_false (show ¬(1:Int)<=s5 by omega),lS]) ?_
  rw[decide_eq_false (fun h=>c ⟨h.1,h.2.1⟩)] at q;exact q
theorem x6:FnScope ["k","thing","stage","number"] ["k","thing"] (zh (top 43)):=⟨rfl,rfl,rfl,by decide +kernel,rfl,by decide +kernel,by decide +kernel⟩
theorem sX(F:Fun K "may_be_lost" "may_be_lost" (top 43) f fd)(B:Blt mg)(mB:zo P w K mg base n "is_line" ["k","thing"] (ux K))(nk:zo P w K mg base n "is_within" ["thing","least","greatest"] (yi K))(Cb:zo P w K mg base n "is_switch" ["k","stage","number"] (SD K))     :
  FnOk P w K mg base CX0 (n+1) f fd ["k","thing"] (Xn K):=by
 refine F.ok x6 yw (fun mz A outer s H vs Q E hr h=>?_);obtain⟨x,y,rfl,k,q5,rfl,⟨r,rfl,Am⟩,k4,ok,q⟩:=h;refine⟨_,(zc (zT (PW.pt (uj (yz (yG (zp xb rfl B.isinstance zX (za (pv 1) (za (wZ rfl B.tuple yS) zb))))) (wv (zE jA (zp zv rfl B.len xh (za (pv 1) zb)) ze (zG _))))) (zf (zy xT)) zx) (zc (xB (pv 1) (xA rfl (zq (zm (i:=2) x6.nd rfl (aY rfl)) (zq (zm (i:=3) x6.nd rfl (aY rfl)) yA)))) (zf (zy (SU (zi Cb hr rfl (za (pv 0) (za (pv 2) (za (pv 3) zb)))) (wB (vC (zi nk hr rfl (za (pv 2) (za ze (za ze zb)))) (wB (zi mB hr rfl (za (pv 0) (za (pv 3) zb))))))))))),?_⟩;refine⟨_,rfl,_,_,_,true,rfl,.inl ⟨rfl,_,Am⟩,rfl,_,rfl,xM ⟨_,rfl,r,_,rfl,.inr Am,rfl,_,rfl,xM ?_⟩⟩;refine⟨_,rfl,r,_,rfl,Am,rfl,_,_,rfl,_,_,rfl,rfl,?_⟩;refine⟨_,rfl,_,rfl,_,rfl,_,_,_,rfl,k,q5.1,q5.2,rfl,rfl,rfl,k4,_,rfl,?_⟩;rcases ok with ok|⟨o1,o2⟩
 ·rw[decide_eq_true ok];exact vJ q
 ·rw[decide_eq_false (fun h=>by omega)];refine xM ⟨_,rfl,_,_,_,rfl,_,_,_,rfl,rfl,rfl,_,rfl,yI (by rw[o1];rfl) ?_⟩;exact⟨_,rfl,_,rfl,_,_,rfl,k,q5.2,rfl,rfl,k4,o2,q⟩
theorem ZT:FnScope ["k","thing"] ["k","thing"] (zh (top 44)):=⟨rfl,rfl,rfl,by decide +kernel,rfl,by decide +kernel,by decide +kernel⟩
theorem ZU(F:Fun K "need_lost" "need_lost" (top 44) f fd)(B:Blt mg)(mB:zo P w K mg base n "may_be_lost" ["k","thing"] (Xn K))     :
  FnOk P w K mg base CX0 (n+1) f fd ["k","thing"] (Zm K):=by
 refine F.ok ZT yw (fun mz A outer s H vs Q E hr h=>?_);obtain⟨x,y,rfl,k,gone,rfl,⟨r,ys,rfl,Am,ha,hl⟩,k4,ok,q⟩:=h;refine⟨_,(zf (zT (PW.pt (uj (yz (yG (zp xb rfl B.isinstance zX (za (pv 1) (za (wZ rfl B.tuple yS) zb))))) (wv (yz (yG (zp (tO rfl) rfl B.all Ri (za (wO (CSc.of (N':=["part","k"]) (sub:=[none,some 0]) (zh (top 44)) ["k","thing"] rfl rfl (by decide +kernel) rfl) rfl (vD (pv 1)) (fun _ _ _ _ _ _=>zm (i:=0) (show(["part","k"]:List Str).Nodup by decide +kernel) rfl (aY rfl)) (fun _ _ _ _ _ _=>xc) (fun _ _ _ _ _ _=>(zi mB hr rfl (za (pv 1) (za (pv 0) zb))))) zb))))))) (zf xP) zx)),?_⟩;refine⟨_,rfl,_,_,_,true,rfl,.inl ⟨rfl,_,Am⟩,rfl,_,rfl,xM ?_⟩;refine⟨_,rfl,r,rfl,⟨_,Am⟩,jS (fun _=>V.bl true) Am hl ?_ ?_⟩
 ·intro x H1 R hx g k';obtain⟨i,hi⟩:=List.mem_iff_getElem?.mp hx;obtain⟨p5,hp5,hpr⟩:=ha.get hi;obtain⟨r2,rfl,oV⟩:=hpr;exact⟨_,rfl,_,rfl,_,_,rfl,k,p5,rfl,⟨r2,rfl,g.sqT oV⟩,k4,ok p5 (bF hp5),k' _ (Grow.refl _ _)⟩
 ·intro H1 p g hp;refine⟨p,ys.map (fun _=>true),rfl,SqL.of (by rw[zd,bZ];rfl),?_⟩;rw[jT];exact⟨_,rfl,xM (q _ (g.trans (Grow.new hp _)))⟩
theorem sH:FnScope ["self","many"] ["self","many"] (zh (zk (top 46) 3)):=⟨rfl,rfl,rfl,by decide +kernel,rfl,by decide +kernel,by decide +kernel⟩
theorem sI(F:Fun K "done_ago" "Net.done_ago" (zk (top 46) 3) f fd)(B:Blt mg){C:Addr}(T:NTxt K mg C)      :
  FnOk P w K mg base CX0 (n+1) f fd ["self","many"] (qL C K):=by
 refine F.ok sH yw (fun mz A outer s H vs Q E hr h=>?_);obtain⟨x,y,rfl,A5,ns,mH,rfl,rfl,hn,q⟩:=h;refine⟨_,(zf (zy (Tn (Room.u1F hr) (zI (pv 0) rfl) (zw yp (zI (pv 0) rfl) (pv 1)) (z7 zb) ⟨rfl,rfl,rfl,rfl⟩))),?_⟩;refine⟨_,rfl,_,C,_,_,_,rfl,hn.ob.choose_spec,T.cl,T.n_done_in,rT,_,rfl,.inl ⟨_,.inl hn.dd⟩,⟨_,rfl,_,C,_,_,_,rfl,hn.ob.choose_spec,T.cl,T.n_now,Xh,_,rfl,_,_,rfl,rfl,szl rfl,fun t ht=>?_⟩⟩;have g:=Grow.new (m:=[]) ht (.tup []);have dd:=g.keep _ _ (by simp) hn.dd;by_cases c:mH<ns.now/\ns.now-mH<=ns.nd
 ·refine⟨some (.ref (A5 (.dn (ns.now-mH)))),.inl ⟨_,.inl ((ns.now:Int)-mH),.inl dd,rfl,?_⟩,q _ _ g (.inl ⟨ns.now-mH,by omega,c.2,rfl,if_pos c⟩)⟩;rw[show((ns.now:Int)-mH)=((ns.now-mH:Nat):Int) by omega,Tr (by omega) c.2]
 ·exact⟨none,.inl ⟨_,.inl ((ns.now:Int)-mH),.inl dd,rfl,(Zf (by omega)).symm⟩,q _ _ g (.inr ⟨t,rfl,SqT.of zd,if_neg c⟩)⟩
theorem y9:FnScope ["self","told","box","deed","numbers","met"] ["self"] (zh (zk (top 46) 9)):=⟨rfl,rfl,rfl,by decide +kernel,rfl,by decide +kernel,by decide +kernel⟩
theorem YI(F:Fun K "tell" "Net.tell" (zk (top 46) 9) f fd)(B:Blt mg){C:Addr}(T:NTxt K mg C)(m7:zH P w K mg base C n "done_ago" ["self","many"] (qL C K))(mP:mg "sorted" = none)   :
  FnOk P w K mg base CX0 (n+1) f fd ["self"] (qP C K):=by
 refine F.ok y9 yT (fun mz A outer s H vs Q E hr h=>?_);obtain⟨x,rfl,A5,ns,ms,rfl,hn,nr,nt,hm,q⟩:=h;refine⟨_,(zc (zJ (i:=1) y9.nd rfl (aY rfl) (xQ zb)) (zc (yQ PassesOwn.never rfl (VV (K:=K) rfl (xf m7 T.cl hr (pv 0) (za (zI (pv 0) rfl) zb))) (xA rfl (zq (zm (i:=2) y9.nd rfl (aY rfl)) (zq (zm (i:=3) y9.nd rfl (aY rfl)) (zq (zm (i:=4) y9.nd rfl (aY rfl)) (zq (zm (i:=5) y9.nd rfl (aY rfl)) yA))))) (zf (yd (uo bY PySem.F.slot_list_extend PySem.F.type_list_extend jJ (pv 1) (za (wO (CSc.of (N':=["number","self"]) (sub:=[none,some 0]) (zh (zk (top 46) 9)) ["self","told","box","deed","numbers","met"] rfl rfl (by decide +kernel) rfl) rfl (vD (pv 4)) (fun _ _ _ _ _ _=>zm (i:=0) (show(["number","self"]:List Str).Nodup by decide +kernel) rfl (aY rfl)) (fun _ _ _ _ _ _=>xc) (fun _ _ _ _ _ _=>(z7 (za (pv 0) (za (yZ (Room.u1F hr) (Rt (K:=K) rfl (pv 1) rfl) (pv 0) (fun _ _=>rfl)) zb))))) zb))))) (zc (yd (uo iD PySem.F.slot_dict_update PySem.F.type_dict_update (Wc (K:=K) rfl) (zI (pv 0) rfl) (za (zY (rO hr) rfl B.dict Sf (za (pv 1) zb)) zb))) (zf (zy (zY yE rfl B.tuple yS (za (zp (X8 (K:=K) rfl) rfl mP u4 (za (pv 1) zb)) zb))))))),?_⟩;refine⟨szl rfl,fun lt mE=>?_⟩;have g0:=Grow.new (m:=[]) mE (.lst []);have oW:=zd (H:=H) (a:=lt) (o:=.lst []);have Bp:=hn.grow0 g0;have A6:∀a,okA ns a->A5 a≠lt:=fun a ha z=>by
  obtain⟨o,h1,_⟩:=hn.at_ a ha;rw[z,mE] at h1;cases h1
 have nql:∀a,okA ns a->A5 a∉[lt]:=fun a ha z=>A6 a ha (aB.mp z);generalize upd H lt (.lst [])=H0 at g0 oW Bp ⊢;have l40:yt wH (uU ns ns.k)<=40:=by have:=nt.l40;unfold yq at this;rw[Xj] at this;exact this
 refine xG (V2 (fun σ H'=>∃e2 e3 e4 e5 tv,σ=[some (.ref (A5 .p)),some (.ref lt),e2,e3,e4,e5]/\Grow [lt] H0 H'/\H' lt=some (.lst tv)/\yJ (SB H') tv (yq ns)/\NetAt K C H' A5 ns) ?_ ?_)
 ·intro D hD;refine⟨_,rfl,_,_,_,rfl,Bp.ob.choose_spec,se,_,rfl,_,C,_,_,_,rfl,Bp.ob.choose_spec,T.cl,T.n_depth,yy,_,_,rfl,A5,ns,ns.k,rfl,rfl,Bp,fun z H1 g1 hz=>?_⟩;have mD:=Bp.grow0 g1;have AJ:=g1.keep _ _ (by simp) oW;rcases hz with ⟨t,t1,t2,rfl,Ak⟩|⟨a,rfl,sa,Ak⟩
  rotate_left
  ·have et:yq ns=[]:=by unfold yq;rw[Ak];rfl
   exact⟨a,rfl,.inr ⟨⟨_,sa⟩,um (xs:=[]) (fun j σ H'=>∃e2 e3 e4 e5,σ=[some (.ref (A5 .p)),some (.ref lt),e2,e3,e4,e5]/\H'=H1) ⟨_,_,_,_,rfl,rfl⟩ (fun j σ H' _ ⟨_,_,_,_,_,e⟩=>e▸sa) (fun j x σ H' hx=>by simp at hx) (fun σ H' ⟨e2,e3,e4,e5,e,eH⟩=>hD _ _ ⟨e2,e3,e4,e5,[],e,eH▸g1.wk,eH▸AJ,by rw[et];trivial,eH▸mD⟩)⟩⟩
  obtain⟨ys,nU,hw⟩:=mD.dn (t:=t) t1 t2;have Cc:A5 (.dn t)∉[lt]:=nql (.dn t) ⟨t1,t2⟩;refine⟨_,rfl,.inl ⟨⟨_,SqL.of nU⟩,uZ (xs:=ys) (fun j σ H'=>∃e2 e3 e4 e5 tv,σ=[some (.ref (A5 .p)),some (.ref lt),e2,e3,e4,e5]/\Grow [lt] H1 H'/\H' lt=some (.lst tv)/\yJ (SB H') tv (((ns.done t).take j).flatMap (uV ns))/\NetAt K C H' A5 ns) ⟨_,_,_,_,[],rfl,Grow.refl _ _,AJ,trivial,mD⟩ (fun j σ H' _ ⟨_,_,_,_,_,_,g,_⟩=>SqL.of (g.keep _ _ Cc nU)) ?_ ?_⟩⟩;rotate_left
  ·rintro σ H' ⟨e2,e3,e4,e5,tv,rfl,g,htv,hta,nD⟩;rw[hw.len,cU] at hta;exact hD _ _ ⟨_,_,_,_,tv,rfl,(g1.wk (m:=[lt])).trans g,htv,by unfold yq;rw[Ak];exact hta,nD⟩
  rintro j x σ H2 hx ⟨e2,e3,e4,e5,tv,rfl,g2,htv,hta,mF⟩;obtain⟨w5,A7,r,rd,rn,rm,mv,rfl,w1,w2,w3,w4,w6⟩:=hw.get hx;have wm:=bF A7;have fk:∀n∈w5.nums,(xu ns.fnd n).isSome=true:=nt.fk w5 (by rw[Ak];exact wm);have D0:((ns.done t).take (j+1)).flatMap (uV ns)=((ns.done t).take j).flatMap (uV ns)++uV ns w5:=by
   obtain⟨hj,e⟩:=aZ.mp A7;rw[dO hj,e,fT];simp
  have tvl:tv.length+w5.nums.length<=40:=by
   have h1:=hta.len;rw[Xj] at h1;rw[Ak] at l40;have e:ns.done t=(ns.done t).take j++w5::(ns.done t).drop (j+1):=by
    obtain⟨hj,e⟩:=aZ.mp A7;rw[←e,←fJ hj,eX]
   have:=congrArg (yt wH) e;rw[wU,yb] at this;have e2:wH w5=w5.nums.length:=rfl;omega
  rw[D0];have nl:(zL w5.nums).length=w5.nums.length:=aG ..;refine⟨r,_,rfl,g2.sqT w1,rfl,_,_,rfl,_,_,rfl,_,_,rfl,_,_,rfl,rfl,?_⟩;refine⟨_,rfl,.inl ⟨rfl,_,SqL.of htv⟩,_,rfl,rn,rfl,⟨_,g2.sqT w3⟩,Vf (xs:=zL w5.nums) (fun i vs σ' H'=>(∃e0,σ'=[e0,some (.ref (A5 .p))])/\Grow [] H2 H'/\yJ (SB H') vs ((w5.nums.take i).map fun n=>(n,(xu ns.fnd n).getD 0))) ⟨⟨_,rfl⟩,Grow.refl _ _,trivial⟩ (fun i vs σ' H' _ ⟨_,g,_⟩=>(g2.trans (g.wk (m:=[lt]))).sqT w3) ?_ ?_⟩
  ·rintro i x vs σ' H3 hx ⟨⟨e0,rfl⟩,g3,hvs⟩;rw[show(zL w5.nums)[i]?=(w5.nums[i]?).map fun n:Nat=>V.int n from bN ..] at hx;obtain⟨n5,hi,rfl⟩:=fB.mp hx;have il:=(aZ.mp hi).1;obtain⟨v5,hv5⟩:=fQ.mp (fk n5 (bF hi));have mV:=mF.grow0 g3;have ev:wa (nKv ns.fnd) (.inl (n5:Int))=some (.int v5):=by rw[t7,hv5];rfl
   refine⟨_,rfl,_,rfl,_,C,_,_,_,rfl,mV.ob.choose_spec,T.cl,T.n_found,Xi,_,rfl,_,_,rfl,.inl ⟨_,.inl (n5:Int),.inl mV.df,rfl,ev.symm⟩,szl rfl,fun t3 Al=>?_⟩;have g4:=Grow.new (m:=[]) Al (.tup [.int n5,.int v5]);refine⟨?_,⟨_,rfl⟩,g3.trans g4,?_⟩
   ·rw[hvs.len,aG,dB];exact zC (by omega)
   ·obtain⟨hj,e⟩:=aZ.mp hi;rw[dO hj,e,bC];exact(hvs.imp fun _ _ z=>z.grow g4).app (.one ⟨t3,rfl,by rw[zd];show _=some (HO.tup [.int n5,.int ((xu ns.fnd n5).getD 0)]);rw[hv5];rfl⟩)
  rintro vs σ' H3 ⟨_,g3,hvs⟩ l3 GB;rw[nl,cU] at hvs;have g4:=Grow.new (m:=[]) GB (.lst vs);have p7:=(g3.trans g4).keep _ _ (by simp) htv;have vl:=hvs.len;rw[aG] at vl;refine⟨lt,l3,tv,vs,rfl,rfl,p7,zd,cG (zC (by omega)),?_⟩;have GG:=g3.trans g4;have g5:=Grow.set (m:=[lt]) p7 (by simp) (tv++vs);refine⟨_,_,_,_,tv++vs,rfl,g2.trans ((GG.wk (m:=[lt])).trans g5),zd,?_,?_⟩
  ·exact(hta.imp fun _ _ z=>(z.grow GG).grow g5).app (hvs.imp fun _ _ z=>(z.grow g4).grow g5)
  ·exact(mF.grow0 GG).grow g5 nql
 rintro σ H1 ⟨e2,e3,e4,e5,tv,rfl,g1,htv,hta,mD⟩;refine⟨_,rfl,_,C,_,_,_,rfl,mD.ob.choose_spec,T.cl,T.n_answers,uC,.inr (.inr (.inl ⟨rfl,.inl ⟨_,mD.da⟩⟩)),_,rfl,lt,tv,_,rfl,htv,Tx hta,fun ld hld=>?_⟩;rw[Tz];have g2:=Grow.new (m:=[]) hld (.dK (nKv (uW (yq ns))));have mF:=mD.grow0 g2;have nV:=g2.keep _ _ (by simp) htv;have nW:=hta.imp fun _ _ z=>z.grow g2;have D1:=zd (H:=H1) (a:=ld) (o:=.dK (nKv (uW (yq ns))));have nld:A5 .da≠ld:=fun z=>by
  have:=mD.da;rw[z,hld] at this;cases this
 generalize upd H1 ld _=H2 at g2 mF nV nW D1 ⊢;refine⟨A5 .da,ld,_,_,rfl,rfl,mF.da,D1,nld,?_,?_⟩
 ·have h1:=nt.al;have h2:=nt.l40;have h3:=V1 (tl:=yq ns);unfold nKv;rw[aG,aG];exact cG (zaK (by omega))
 rw[uF];obtain⟨mV,g3⟩:=mF.setS ((uW (yq ns)).foldl (fun f p=>wR f p.1 p.2) ns.ans);have pj:=g3.keep _ _ (show lt∉[A5 .da] from fun z=>A6 .da trivial (aB.mp z).symm) nV;have p9:=nW.imp fun _ _ z=>z.grow g3;generalize upd H2 (A5 .da) _=H3 at mV g3 pj p9 ⊢;refine⟨_,rfl,lt,tv,(yq ns).map itF,1,rfl,SqL.of pj,SC p9,RL nt.nd,aE 1,?_,?_,fun p4 E9 its GH pm pw hp=>?_⟩
 ·intro p hp;obtain⟨q,_,rfl⟩:=aW.mp hp;rfl
 ·rw[aG];have:=nt.l40;omega
 have g4:=Grow.new (m:=[]) GH (.lst E9);obtain⟨pm',hF⟩:=RK pm;refine⟨p4,E9,rfl,.inl ⟨SqL.of zd,fun r5 Am=>?_⟩⟩;have g5:=Grow.new (m:=[]) Am (.tup E9);have Aa:=g4.trans g5;refine q _ (its.map itB) _ ?_ (mV.grow0 Aa) ⟨r5,E9,rfl,SqT.of zd,(V0 hF hp).imp fun _ _ z=>Aa.board z⟩ pm' (zam hF pw);have G:Grow (lt::ms) H _:=(g0.wk (m:=lt::ms)).trans ((g1.mono (m':=lt::ms) (by simp)).trans ((g2.wk (m:=lt::ms)).trans ((g3.mono (m':=lt::ms) fun b hb=>by rw[aB.mp hb];exact aK _ (hm .da trivial)).trans (Aa.wk (m:=lt::ms)))));exact G.less fun b hb=>by
  rcases aS.mp hb with rfl|hb
  ·exact .inr mE
  ·exact .inl hb
theorem qo:FnScope ["k","stage","number","mark","behind"] ["k","stage","number","mark"] (zh (top 35)):=⟨rfl,rfl,rfl,by decide +kernel,rfl,by decide +kernel,by decide +kernel⟩
theorem WD(F:Fun K "in_line" "in_line" (top 35) f fd)(B:Blt mg)      :
  FnOk P w K mg base CX0 (n+1) f fd ["k","stage","number","mark"] (VX K):=by
 refine F.ok qo vh (fun mz A outer s H vs Q E hr h=>?_);obtain⟨x,y,z,u,rfl,k,s5,n5,m5,rfl,rfl,rfl,rfl,k4,s1,sk,o8,hm5,q⟩:=h;refine⟨_,(zc (zJ (i:=4) qo.nd rfl (aY rfl) (zw yp (pv 0) (pv 1))) (zf (zy (zw SX (zw SX (zw xC (zw WP (pv 2) (pv 4)) (zw yo (pv 4) ze)) (zw xC (pv 3) (pv 4))) (zw jy (pv 2) (zw yp (zw xC ze (pv 4)) ze)))))),?_⟩;obtain⟨n8,c1,c2,c3,c4,e⟩:=Wd k4 s1 sk o8 hm5;have b0:(0:Int)<=(k:Int)-s5:=by omega
 refine⟨_,rfl,_,rfl,_,_,rfl,rfl,_,rfl,_,rfl,_,_,rfl,rfl,b0,_,rfl,_,_,rfl,rfl,_,_,rfl,rfl,c1,_,rfl,_,rfl,_,_,rfl,rfl,c2,_,_,rfl,rfl,_,rfl,_,rfl,_,_,rfl,rfl,c3,_,_,rfl,rfl,_,_,rfl,rfl,_,_,rfl,rfl,?_⟩;show Q (.int (fP (fP ((n5:Int) / 2 ^ ((k:Int)-s5).toNat*2 ^ ((k:Int)-s5+1).toNat) ((m5:Int)*2 ^ ((k:Int)-s5).toNat)) (cZ (n5:Int) (1*2 ^ ((k:Int)-s5).toNat-1)))) H;rw[e];exact q
theorem Qb:FnScope ["add","low","high"] ["add","low","high"] (zh (top 17)):=⟨rfl,rfl,rfl,by decide +kernel,rfl,by decide +kernel,by decide +kernel⟩
theorem Z8(F:Fun K "tidy" "tidy" (top 17) f fd)(B:Blt mg)      :
  FnOk P w K mg base CX0 (n+1) f fd ["add","low","high"] (Vh K):=by
 refine F.ok Qb xY (fun mz A outer s H vs Q E hr h=>?_);obtain⟨x,y,z,rfl,a,lo,hi,rfl,rfl,rfl,q⟩:=h;refine⟨_,(zc (zT (PW.pt (ww (wu (tE (pv 1))) (xU (zE vF (pv 1) (pv 2) (zG _))))) (zf (zy (z7 (za ze (za (pv 1) (za (pv 2) zb)))))) zx) (zf (zy (z7 (za (pv 0) (za (pv 1) (za (pv 2) zb))))))),?_⟩;cases lo with
 |none =>
  refine⟨_,rfl,_,rfl,xM (xM ⟨_,rfl,_,rfl,_,rfl,szl rfl,fun t ht=>?_⟩)⟩;have:=q t ht;rw[QP] at this;exact this
 |some l =>
  cases hi with
  |none =>
   refine⟨_,rfl,_,rfl,vJ ⟨_,rfl,_,rfl,rfl,_,rfl,xM ⟨_,rfl,_,rfl,_,rfl,szl rfl,fun t ht=>?_⟩⟩⟩;have:=q t ht;rw[So (by simp)] at this;exact this
  |some u =>
   refine⟨_,rfl,_,rfl,vJ ⟨_,rfl,_,rfl,rfl,_,rfl,?_⟩⟩;refine UF (fun c=>?_) (fun c=>?_)
   ·have c':l=u:=V.int.inj (of_decide_eq_true c);subst c';refine⟨_,rfl,_,rfl,szl rfl,fun t ht=>?_⟩;have:=q t ht;rw[QQ] at this;exact this
   ·have c':l≠u:=fun z=>c (by rw[z];simp);refine⟨_,rfl,_,rfl,_,rfl,szl rfl,fun t ht=>?_⟩;have:=q t ht;rw[So (fun z=>c' (bH z))] at this;exact this
theorem vq:FnScope ["deed","value","add","low","high","result"] ["deed","value"] (zh (top 16)):=⟨rfl,rfl,rfl,by decide +kernel,rfl,by decide +kernel,by decide +kernel⟩
theorem Qc(F:Fun K "made" "made" (top 16) f fd)(B:Blt mg)      :
  FnOk P w K mg base CX0 (n+1) f fd ["deed","value"] (tN K):=by
 refine F.ok vq yw (fun mz A outer s H vs Q E hr h=>?_);obtain⟨x,y,rfl,d,v,⟨a,rfl,hs⟩,rfl,q⟩:=h;refine⟨_,(zc (xB (pv 0) (xA rfl (zq (zm (i:=2) vq.nd rfl (aY rfl)) (zq (zm (i:=3) vq.nd rfl (aY rfl)) (zq (zm (i:=4) vq.nd rfl (aY rfl)) yA))))) (zc (zJ (i:=5) vq.nd rfl (aY rfl) (zw yo (pv 1) (pv 2))) (zc (zT (PW.pt (ww (wu (tE (pv 3))) (xU (zE Z2 (pv 3) (pv 5) (zG _))))) (zf (zJ (i:=5) vq.nd rfl (aY rfl) (pv 3))) zx) (zc (zT (PW.pt (ww (wu (tE (pv 4))) (xU (zE vg (pv 4) (pv 5) (zG _))))) (zf (zJ (i:=5) vq.nd rfl (aY rfl) (pv 4))) zx) (zf (zy (pv 5))))))),?_⟩;obtain⟨ad,lo,hi⟩:=d;refine⟨_,rfl,a,_,rfl,hs,rfl,_,_,rfl,_,_,rfl,_,_,rfl,rfl,?_⟩;refine⟨_,rfl,_,rfl,_,_,rfl,rfl,?_⟩;cases lo with
 |none =>
  refine⟨_,rfl,_,rfl,xM (xM ?_)⟩;cases hi with
  |none=>exact⟨_,rfl,_,rfl,xM (xM ⟨_,rfl,q⟩)⟩
  |some u =>
   refine⟨_,rfl,_,rfl,vJ ⟨_,rfl,_,rfl,_,_,rfl,rfl,_,rfl,?_⟩⟩;have q':Q (.int (if u<v+ad then u else v+ad)) H:=q;refine UF (fun c=>?_) (fun c=>?_)
   ·have c':u<v+ad:=of_decide_eq_true c;rw[if_pos c'] at q';exact⟨_,rfl,_,rfl,q'⟩
   ·have c':¬u<v+ad:=fun z=>c (decide_eq_true z);rw[if_neg c'] at q';exact⟨_,rfl,q'⟩
 |some l =>
  refine⟨_,rfl,_,rfl,vJ ⟨_,rfl,_,rfl,_,_,rfl,rfl,_,rfl,?_⟩⟩;have q0:Q (.int (yg hi (if l>v+ad then l else v+ad))) H:=q;clear q;refine UF (fun c=>?_) (fun c=>?_)
  ·have c':l>v+ad:=of_decide_eq_true c;rw[if_pos c'] at q0;have q:=q0;refine⟨_,rfl,?_⟩;cases hi with
   |none=>exact⟨_,rfl,_,rfl,xM (xM ⟨_,rfl,q⟩)⟩
   |some u =>
    refine⟨_,rfl,_,rfl,vJ ⟨_,rfl,_,rfl,_,_,rfl,rfl,_,rfl,?_⟩⟩;have q':Q (.int (if u<l then u else l)) H:=q;refine UF (fun c=>?_) (fun c=>?_)
    ·have c':u<l:=of_decide_eq_true c;rw[if_pos c'] at q';exact⟨_,rfl,_,rfl,q'⟩
    ·have c':¬u<l:=fun z=>c (decide_eq_true z);rw[if_neg c'] at q';exact⟨_,rfl,q'⟩
  ·have c':¬l>v+ad:=fun z=>c (decide_eq_true z);rw[if_neg c'] at q0;have q:=q0;cases hi with
   |none=>exact⟨_,rfl,_,rfl,xM (xM ⟨_,rfl,q⟩)⟩
   |some u =>
    refine⟨_,rfl,_,rfl,vJ ⟨_,rfl,_,rfl,_,_,rfl,rfl,_,rfl,?_⟩⟩;have q':Q (.int (if u<v+ad then u else v+ad)) H:=q;refine UF (fun c=>?_) (fun c=>?_)
    ·have c':u<v+ad:=of_decide_eq_true c;rw[if_pos c'] at q';exact⟨_,rfl,_,rfl,q'⟩
    ·have c':¬u<v+ad:=fun z=>c (decide_eq_true z);rw[if_neg c'] at q';exact⟨_,rfl,q'⟩
theorem sJ:FnScope ["one","other","low","high"] ["one","other"] (zh (top 18)):=⟨rfl,rfl,rfl,by decide +kernel,rfl,by decide +kernel,by decide +kernel⟩
theorem Ux(F:Fun K "joined" "joined" (top 18) f fd)(B:Blt mg)(mB:zo P w K mg base n "tidy" ["add","low","high"] (Vh K))(nk:zo P w K mg base n "made" ["deed","value"] (tN K))     :
  FnOk P w K mg base CX0 (n+1) f fd ["one","other"] (jQ K):=by
 refine F.ok sJ yw (fun mz A outer s H vs Q E hr h=>?_);obtain⟨x,y,rfl,d,e,⟨a,rfl,oU⟩,⟨b,rfl,pX⟩,q⟩:=h;refine⟨_,(zc (zJ (i:=2) sJ.nd rfl (aY rfl) (qp (wu (rp (ye yX (pv 0) ze (fun _ _=>rfl)))) (ye yX (pv 1) ze (fun _ _=>rfl)) (zi nk hr rfl (za (pv 1) (za (ye yX (pv 0) ze (fun _ _=>rfl)) zb))))) (zc (zJ (i:=3) sJ.nd rfl (aY rfl) (qp (wu (rp (ye yX (pv 0) ze (fun _ _=>rfl)))) (ye yX (pv 1) ze (fun _ _=>rfl)) (zi nk hr rfl (za (pv 1) (za (ye yX (pv 0) ze (fun _ _=>rfl)) zb))))) (zf (zy (zi mB hr rfl (za (zw yo (ye yX (pv 0) ze (fun _ _=>rfl)) (ye yX (pv 1) ze (fun _ _=>rfl))) (za (pv 2) (za (pv 3) zb)))))))),?_⟩;obtain⟨da,lo,hi⟩:=d;obtain⟨ea,Bq,Br⟩:=e;refine⟨_,rfl,a,_,_,_,rfl,rfl,oU,rfl,_,rfl,?_⟩;cases lo with
 |none =>
  refine vJ ⟨_,rfl,b,_,_,_,rfl,rfl,pX,rfl,?_⟩;refine⟨_,rfl,a,_,_,_,rfl,rfl,oU,rfl,_,rfl,?_⟩;cases hi with
  |none =>
   refine vJ ⟨_,rfl,b,_,_,_,rfl,rfl,pX,rfl,?_⟩;exact⟨_,rfl,a,_,_,_,rfl,rfl,oU,rfl,_,rfl,b,_,_,_,rfl,rfl,pX,rfl,_,_,rfl,rfl,_,rfl,_,rfl,_,_,_,rfl,_,Bq,Br,rfl,rfl,rfl,q⟩
  |some u =>
   refine xM ⟨_,rfl,_,rfl,a,_,_,_,rfl,rfl,oU,rfl,_,_,rfl,⟨ea,Bq,Br⟩,u,⟨b,rfl,pX⟩,rfl,?_⟩;exact⟨_,rfl,a,_,_,_,rfl,rfl,oU,rfl,_,rfl,b,_,_,_,rfl,rfl,pX,rfl,_,_,rfl,rfl,_,rfl,_,rfl,_,_,_,rfl,_,Bq,some ((Deed.mk ea Bq Br).mk' u),rfl,rfl,rfl,q⟩
 |some l =>
  refine xM ⟨_,rfl,_,rfl,a,_,_,_,rfl,rfl,oU,rfl,_,_,rfl,⟨ea,Bq,Br⟩,l,⟨b,rfl,pX⟩,rfl,?_⟩;refine⟨_,rfl,a,_,_,_,rfl,rfl,oU,rfl,_,rfl,?_⟩;cases hi with
  |none =>
   refine vJ ⟨_,rfl,b,_,_,_,rfl,rfl,pX,rfl,?_⟩;exact⟨_,rfl,a,_,_,_,rfl,rfl,oU,rfl,_,rfl,b,_,_,_,rfl,rfl,pX,rfl,_,_,rfl,rfl,_,rfl,_,rfl,_,_,_,rfl,_,(some ((Deed.mk ea Bq Br).mk' l)),Br,rfl,rfl,rfl,q⟩
  |some u =>
   refine xM ⟨_,rfl,_,rfl,a,_,_,_,rfl,rfl,oU,rfl,_,_,rfl,⟨ea,Bq,Br⟩,u,⟨b,rfl,pX⟩,rfl,?_⟩;exact⟨_,rfl,a,_,_,_,rfl,rfl,oU,rfl,_,rfl,b,_,_,_,rfl,rfl,pX,rfl,_,_,rfl,rfl,_,rfl,_,rfl,_,_,_,rfl,_,(some ((Deed.mk ea Bq Br).mk' l)),some ((Deed.mk ea Bq Br).mk' u),rfl,rfl,rfl,q⟩
theorem xp:FnScope ["switch","waiter","comer","box","deed","numbers","met"] ["switch","waiter","comer"] (zh (top 45)):=⟨rfl,rfl,rfl,by decide +kernel,rfl,by decide +kernel,by decide +kernel⟩
theorem ZV(F:Fun K "joined_at" "joined_at" (top 45) f fd)(B:Blt mg)(mB:zo P w K mg base n "joined" ["one","other"] (jQ K))     :
  FnOk P w K mg base CX0 (n+1) f fd ["switch","waiter","comer"] (VY K):=by
 refine F.ok xp xY (fun mz A outer s H vs Q E hr h=>?_);obtain⟨x,y,z,rfl,sw,w5,c5,hx,hy,hz,l1,l2,q⟩:=h;refine⟨_,(zc (xB (pv 1) (xA rfl (zq (zm (i:=3) xp.nd rfl (aY rfl)) (zq (zm (i:=4) xp.nd rfl (aY rfl)) (zq (zm (i:=5) xp.nd rfl (aY rfl)) (zq (zm (i:=6) xp.nd rfl (aY rfl)) yA)))))) (zf (zy (z7 (za (pv 3) (za (zi mB hr rfl (za (pv 4) (za (ye yX (pv 2) ze (fun _ _=>rfl)) zb))) (za (zw (Yc (K:=K) rfl) (pv 5) (ye yX (pv 2) ze (fun _ _=>rfl))) (za (zw (Yc (K:=K) rfl) (zw (Yc (K:=K) rfl) (pv 6) (ye yX (pv 2) ze (fun _ _=>rfl))) (z7 (za (pv 0) zb))) zb)))))))),?_⟩;obtain⟨r,rd,rn,rm,ms,rfl,h1,h2,h3,h4,h5⟩:=hy;obtain⟨r',rd',rn',rm',ms',rfl,EW,AY,h3',DG,h5'⟩:=hz;obtain⟨rs,rfl,hs⟩:=hx;refine⟨_,rfl,r,_,rfl,h1,rfl,_,_,rfl,_,_,rfl,_,_,rfl,_,_,rfl,rfl,?_⟩;refine⟨_,rfl,_,rfl,_,rfl,r',_,1,_,rfl,rfl,EW,zN (j:=1) rfl,_,_,rfl,w5.deed,c5.deed,⟨rd,rfl,h2⟩,⟨rd',rfl,AY⟩,fun t ht=>?_⟩;have g1:=Grow.new (m:=[]) ht (.tup (uS w5.deed c5.deed).vs);have s1:SqT K (upd H t (.tup (uS w5.deed c5.deed).vs)) t (uS w5.deed c5.deed).vs:=SqT.of zd;generalize upd H t _=H1 at g1 s1 ⊢;have ml:=h5.len;have ml':=h5'.len;have nl:(zL w5.nums).length=w5.nums.length:=aG ..;have nl':(zL c5.nums).length=c5.nums.length:=aG ..;refine⟨_,rfl,_,rfl,r',_,2,_,rfl,rfl,g1.sqT EW,zN (j:=2) rfl,rn,rn',_,_,rfl,rfl,g1.sqT h3,g1.sqT h3',cG (zC (by omega)),fun p2 H2 g2 s2=>?_⟩;refine⟨_,rfl,_,rfl,r',_,3,_,rfl,rfl,(g1.trans g2).sqT EW,zN (j:=3) rfl,rm,rm',_,_,rfl,rfl,(g1.trans g2).sqT h4,(g1.trans g2).sqT DG,cG (zC (by omega)),fun p3 H3 g3 s3=>?_⟩;refine⟨_,rfl,szl rfl,fun p4 GH=>?_⟩;have g4:=Grow.new (m:=[]) GH (.tup [.ref rs]);refine⟨p3,p4,_,_,rfl,rfl,g4.sqT s3,SqT.of zd,cG (zC (by rw[aI];show _+1<=1000;omega)),fun p5 H5 g5 s5=>⟨szl rfl,fun p6 hp6=>?_⟩⟩;have g6:=Grow.new (m:=[]) hp6 (.tup [.int w5.box,.ref t,.ref p2,.ref p5]);have G26:=g3.trans (g4.trans (g5.trans g6));have G:=g1.trans (g2.trans G26);refine q _ _ G ⟨p6,t,p2,p5,_,rfl,SqT.of zd,(g2.trans G26).sqT s1,G26.sqT (by unfold zL;rw[show(wc sw w5 c5).nums=w5.nums++c5.nums from rfl,bC];exact s2),g6.sqT s5,?_⟩
 exact(((h5.imp fun _ _ z=>z.grow G).app (h5'.imp fun _ _ z=>z.grow G)).app (.one ⟨rs,rfl,G.tup _ _ hs⟩))
theorem uQ:FnScope ["k","stage","line","behind"] ["k","stage","line"] (zh (top 34)):=⟨rfl,rfl,rfl,by decide +kernel,rfl,by decide +kernel,by decide +kernel⟩
theorem ZW(F:Fun K "switch_at" "switch_at" (top 34) f fd)(B:Blt mg)      :
  FnOk P w K mg base CX0 (n+1) f fd ["k","stage","line"] (uN K):=by
 refine F.ok uQ xY (fun mz A outer s H vs Q E hr h=>?_);obtain⟨x,y,z,rfl,k,st,l,rfl,rfl,rfl,k4,hs,l0,l1,q⟩:=h;refine⟨_,(zc (zJ (i:=3) uQ.nd rfl (aY rfl) (zw yp (pv 0) (pv 1))) (zf (zy (zw SX (zw xC (zw WP (pv 2) (zw yo (pv 3) ze)) (pv 3)) (zw jy (pv 2) (zw yp (zw xC ze (pv 3)) ze)))))),?_⟩;have e1:(0:Int)<=l / 2 ^ ((k:Int)-st+1).toNat:=lP l0 (gi (Int.pow_pos (by decide)));have e2:l / 2 ^ ((k:Int)-st+1).toNat<=l:=Int.ediv_le_self _ l0;refine⟨_,rfl,_,rfl,_,_,rfl,rfl,_,rfl,_,rfl,_,_,rfl,rfl,_,_,rfl,rfl,(by show(0:Int)<=(k:Int)-st+1;omega),_,rfl,_,_,rfl,rfl,⟨by show(0:Int)<=(k:Int)-st;omega,by show(k:Int)-st<=1000000;omega,by show(l / 2 ^ ((k:Int)-st+1).toNat).natAbs<2 ^ 64;omega⟩,?_⟩;exact⟨_,rfl,_,rfl,_,_,rfl,rfl,⟨by show(0:Int)<=(k:Int)-st;omega,by show(k:Int)-st<=1000000;omega,by decide⟩,_,_,rfl,rfl,_,_,rfl,rfl,_,_,rfl,rfl,q⟩
theorem Uy:FnScope ["k","stage","line"] ["k","stage","line"] (zh (top 31)):=⟨rfl,rfl,rfl,by decide +kernel,rfl,by decide +kernel,by decide +kernel⟩
theorem Uz(F:Fun K "figure" "figure" (top 31) f fd)(B:Blt mg)      :
  FnOk P w K mg base CX0 (n+1) f fd ["k","stage","line"] (tT K):=by
 refine F.ok Uy xY (fun mz A outer s H vs Q E hr h=>?_);obtain⟨x,y,z,rfl,k,st,l,rfl,rfl,rfl,hs,q⟩:=h;refine⟨_,(zf (zy (zw jy (zw WP (pv 2) (zw yp (pv 0) (pv 1))) ze))),?_⟩;exact⟨_,rfl,_,rfl,_,rfl,_,_,rfl,rfl,_,_,rfl,rfl,(by show(0:Int)<=(k:Int)-st;omega),_,_,rfl,rfl,q⟩
theorem sY:FnScope ["k","stage","line","wanted"] ["k","stage","line","wanted"] (zh (top 32)):=⟨rfl,rfl,rfl,by decide +kernel,rfl,by decide +kernel,by decide +kernel⟩
theorem sZ(F:Fun K "with_figure" "with_figure" (top 32) f fd)(B:Blt mg)(mB:zo P w K mg base n "figure" ["k","stage","line"] (tT K))     :
  FnOk P w K mg base CX0 (n+1) f fd ["k","stage","line","wanted"] (vc K):=by
 refine F.ok sY vh (fun mz A outer s H vs Q E hr h=>?_);obtain⟨x,y,z,u,rfl,k,st,l,w,rfl,rfl,rfl,rfl,k4,hs,l0,l1,hw,q⟩:=h;refine⟨_,(zf (zy (zw Sc (pv 2) (zw xC (zw Sc (zi mB hr rfl (za (pv 0) (za (pv 1) (za (pv 2) zb)))) (pv 3)) (zw yp (pv 0) (pv 1)))))),?_⟩;have F:=zaE k4 hs l0 l1;refine⟨_,rfl,_,rfl,_,rfl,_,rfl,_,_,_,rfl,k,st,l,rfl,rfl,rfl,hs,_,rfl,_,_,rfl,rfl,_,rfl,_,rfl,_,_,rfl,rfl,_,_,rfl,rfl,⟨by show(0:Int)<=(k:Int)-st;omega,by show(k:Int)-st<=1000000;omega,F.2 w hw⟩,_,_,rfl,rfl,q⟩
theorem UA:FnScope ["k","stage","line","side"] ["k","stage","line","side"] (zh (top 33)):=⟨rfl,rfl,rfl,by decide +kernel,rfl,by decide +kernel,by decide +kernel⟩
theorem UB(F:Fun K "onward" "onward" (top 33) f fd)(B:Blt mg)(mB:zo P w K mg base n "with_figure" ["k","stage","line","wanted"] (vc K))(nk:zo P w K mg base n "figure" ["k","stage","line"] (tT K))     :
  FnOk P w K mg base CX0 (n+1) f fd ["k","stage","line","side"] (jU K):=by
 refine F.ok UA vh (fun mz A outer s H vs Q E hr h=>?_);obtain⟨x,y,z,u,rfl,k,st,l,s,rfl,rfl,rfl,rfl,k4,hs,l0,l1,s0,s1,q⟩:=h;refine⟨_,(zf (zy (zi mB hr rfl (za (pv 0) (za (pv 1) (za (pv 2) (za (zi nk hr rfl (za (pv 0) (za (pv 1) (za (pv 3) zb)))) zb))))))),?_⟩;have F:=zaE k4 hs s0 s1;exact⟨_,rfl,_,rfl,_,rfl,_,rfl,_,rfl,_,rfl,_,_,_,rfl,k,st,s,rfl,rfl,rfl,hs,_,_,_,_,rfl,k,st,l,_,rfl,rfl,rfl,rfl,k4,hs,l0,l1,F.1,q⟩
theorem YJ:FnScope ["k","box"] ["k","box"] (zh (top 37)):=⟨rfl,rfl,rfl,by decide +kernel,rfl,by decide +kernel,by decide +kernel⟩
theorem YK(F:Fun K "side_for" "side_for" (top 37) f fd)(B:Blt mg)      :
  FnOk P w K mg base CX0 (n+1) f fd ["k","box"] (j7 K):=by
 refine F.ok YJ yw (fun mz A outer s H vs Q E hr h=>?_);obtain⟨x,y,rfl,k,b,rfl,rfl,k4,b16,q⟩:=h;refine⟨_,(zf (zy (zw jy (pv 1) (zw yp (zw xC ze (pv 0)) ze)))),?_⟩;refine⟨_,rfl,_,rfl,_,_,rfl,rfl,uL k4,_,_,rfl,rfl,_,_,rfl,rfl,?_⟩;have e:=To k4 b16;show Q (.int (cZ (b:Int) (1*2 ^ ((k:Int)).toNat-1))) H;rw[e];exact q
theorem yv:FnScope ["self","stage","line","coming","box","out","switch","alike"] ["self","stage","line"] (zh (zk (top 46) 8)):=⟨rfl,rfl,rfl,by decide +kernel,rfl,by decide +kernel,by decide +kernel⟩
theorem s8(F:Fun K "hand_on" "Net.hand_on" (zk (top 46) 8) f fd)(B:Blt mg){C:Addr}(T:NTxt K mg C)(mB:zo P w K mg base n "joined_at" ["switch","waiter","comer"] (VY K))(nk:zo P w K mg base n "switch_at" ["k","stage","line"] (uN K))(Cb:zo P w K mg base n "onward" ["k","stage","line","side"] (jU K))(GI:zo P w K mg base n "side_for" ["k","box"] (j7 K))(m6:mg "enumerate" = none)   :
  FnOk P w K mg base CX0 (n+1) f fd ["self","stage","line"] (qN C K):=by
 refine F.ok yv xY (fun mz A outer s H vs Q E hr h=>?_);obtain⟨x,y,z,rfl,A5,ns,s5,l,ms,rfl,rfl,rfl,s1,sk,hl,hn,nr,hm,q⟩:=h;refine⟨_,(zc (zJ (i:=3) yv.nd rfl (aY rfl) (yZ (Room.u1F hr) (zI (pv 0) rfl) (z7 (za (zw yp (pv 1) ze) (za (pv 2) zb))) (fun _ _=>rfl))) (zc (zT (yz (qr (pv 3) (fun _=>rfl))) (zf SV) zx) (zc (zJ (i:=4) yv.nd rfl (lx rfl) (ye yX (ye zU (pv 3) ze (fun _ _=>rfl)) ze (fun _ _=>rfl))) (zc (zJ (i:=5) yv.nd rfl (aY rfl) (yZ (Room.u1F hr) (zI (pv 0) rfl) (z7 (za (pv 1) (za (zi Cb hr rfl (za (zI (pv 0) rfl) (za (pv 1) (za (pv 2) (za (zi GI hr rfl (za (zI (pv 0) rfl) (za (pv 4) zb))) zb))))) zb))) (fun _ _=>rfl))) (zc (zJ (i:=6) yv.nd rfl (aY rfl) (z7 (za (pv 1) (za (zi nk hr rfl (za (zI (pv 0) rfl) (za (pv 1) (za (pv 2) zb)))) zb)))) (zc (qB (i:=7) yv.nd rfl rfl (CSc.of (N':=["place","waiter","box"]) (sub:=[none,none,some 4]) (zh (zk (top 46) 8)) ["self","stage","line","coming","box","out","switch","alike"] rfl rfl (by decide +kernel) rfl) rfl (Y7 false (K:=K) rfl rfl m6 (za (pv 5) zb)) (fun _ _ _ _ _ _=>Vu (K:=K) 2 rfl rfl (zq (zm (i:=0) (show(["place","waiter","box"]:List Str).Nodup by decide +kernel) rfl (aY rfl) (lx rfl)) (zq (zm (i:=1) (show(["place","waiter","box"]:List Str).Nodup by decide +kernel) rfl (aY rfl) (lx rfl)) yA)) rfl rfl) (fun _ _ _ _ _ _=>(UY (zE vF (ye (Vg (K:=K) rfl) (pv 1) ze (fun _ _=>rfl)) (pv 2) (zG _)))) (fun _ _ _ _ _ _=>(pv 0))) (zf (zT (PW.pt (ww (qr (pv 7) (fun _=>rfl)) (xU (zE vg (yZ (Room.u1F hr) (zI (pv 0) rfl) (pv 6) (fun _ _=>rfl)) (zI (pv 0) rfl) (zG _))))) (zc (xB (zi mB hr rfl (za (pv 6) (za (ye zU (pv 5) (ye zU (pv 7) (WN jz ze) (fun _ _=>rfl)) (fun _ _=>rfl)) (za (uo bY iT iU qz (pv 3) (za ze zb)) zb)))) (ju (pv 5) (ye zU (pv 7) (WN jz ze) (fun _ _=>rfl)) vH)) (zf (VA (Room.u1F hr) (zI (pv 0) rfl) (pv 6) ze Sb (fun _ _ _=>rfl)))) (zf (zT (zE vg (zp zv rfl B.len xh (za (pv 5) zb)) (zI (pv 0) rfl) (zG _)) (zf (yd (uo bY dG dH xD (pv 5) (za (uo bY iT iU qz (pv 3) (za ze zb)) zb)))) zx)))))))))),?_⟩;have k4:=nr.k4;have pW:=tR k4
 have es:(s5:Int)-1=((s5-1:Nat):Int):=by omega
 have pk:s5-1<=ns.k:=by omega
 refine⟨_,rfl,_,C,_,_,_,rfl,hn.ob.choose_spec,T.cl,T.n_lines,tq,_,rfl,_,_,rfl,rfl,_,rfl,szl rfl,fun t1 nP=>?_⟩;have g1:=Grow.new (m:=[]) nP (.tup [.int ((s5:Int)-1),.int l]);have k1:upd H t1 (.tup [.int ((s5:Int)-1),.int l]) t1=some (.tup [.int ((s5-1:Nat):Int),.int l]):=by rw[zd,es]
 have mD:=hn.grow0 g1;generalize upd H t1 _=H1 at g1 k1 mD ⊢;refine⟨_,_,rfl,(tj (A:=A5) pk hl)▸vj.t mD.dl (xZ k1),?_⟩;obtain⟨ys,nU,hw⟩:=mD.ln (l:=s5-1) (j:=l) pk hl;refine xG ⟨_,rfl,_,.inl ⟨_,SqL.of nU,rfl⟩,?_⟩;cases hlin:ns.lines (s5-1) l with
 |nil =>
  rw[hlin] at hw;have e:ys=[]:=f' (by rw[hw.len];rfl);subst e;exact yI rfl (q _ (g1.mono (by simp)) (by unfold yO;rw[hlin];exact mD))
 |cons c r =>
 rw[hlin] at hw;cases ys with
 |nil=>exact hw.elim
 |cons y0 yr =>
 obtain⟨hc,Fa⟩:=hw;have hc0:=hc;obtain⟨rc,rd,rn,rm,mv,rfl,c1,c2,c3,c4,c5⟩:=hc;have Cd:=nr.lw (s5-1) l pk hl c (by rw[hlin];exact aU ..);have cb:c.box<16:=aN Cd.bx nr.b16;have sd:c.box % 2 ^ ns.k<2 ^ ns.k:=ft _ (dS _);refine zR rfl (xH ⟨_,rfl,_,_,0,_,rfl,rfl,SqL.of nU,zN (j:=0) rfl,rc,_,0,_,rfl,rfl,c1,zN (j:=0) rfl,?_⟩);have OF:=zaH (b:=c.box) k4 s1 sk hl;refine xG ⟨_,rfl,_,C,_,_,_,rfl,mD.ob.choose_spec,T.cl,T.n_lines,tq,_,rfl,_,rfl,_,C,_,_,_,rfl,mD.ob.choose_spec,T.cl,T.n_depth,yy,_,rfl,_,rfl,_,rfl,_,C,_,_,_,rfl,mD.ob.choose_spec,T.cl,T.n_depth,yy,_,rfl,_,_,rfl,ns.k,c.box,rfl,rfl,k4,cb,_,_,_,_,rfl,ns.k,s5,(l:Int),((c.box % 2 ^ ns.k:Nat):Int),rfl,rfl,rfl,rfl,k4,sk,by omega,by omega,by omega,by omega,szl rfl,fun t2 AK=>?_⟩;have g2:=Grow.new (m:=[]) AK (.tup [.int s5,.int (wfI ns.k s5 l (xO ns.k s5 ((c.box % 2 ^ ns.k:Nat):Int)))]);have k2:upd H1 t2 (.tup [.int s5,.int (wfI ns.k s5 l (xO ns.k s5 ((c.box % 2 ^ ns.k:Nat):Int)))]) t2=some (.tup [.int s5,.int (zS ns.k s5 l c.box:Nat)]):=by rw[zd,OF.eq];rfl
 have Bs:zS ns.k s5 l c.box<2 ^ ns.k:=OF.lt;have mF:=mD.grow0 g2;have Ce:=g2.keep _ _ (by simp) nU;have Cf:=Fa.imp fun _ _ z=>z.grow g2;have Aq:=hc0.grow g2;generalize upd H1 t2 _=H2 at g2 k2 mF Ce Cf Aq ⊢;refine⟨_,_,rfl,(tj (A:=A5) sk Bs)▸vj.t mF.dl (xZ k2),?_⟩;have F1:=zaF k4 s1 sk hl;refine xG ⟨_,rfl,_,rfl,_,C,_,_,_,rfl,mF.ob.choose_spec,T.cl,T.n_depth,yy,_,rfl,_,rfl,_,_,_,rfl,ns.k,s5,(l:Int),rfl,rfl,rfl,k4,sk,by omega,by omega,szl rfl,fun t3 Al=>?_⟩;have g3:=Grow.new (m:=[]) Al (.tup [.int s5,.int (swI ns.k s5 l)]);have k3:upd H2 t3 (.tup [.int s5,.int (swI ns.k s5 l)]) t3=some (.tup [.int s5,.int (nN ns.k s5 l:Nat)]):=by rw[zd,F1.sw,F1.num]
 have mV:=mF.grow0 g3;have nX:=g3.keep _ _ (by simp) Ce;have Ab:=Cf.imp fun _ _ z=>z.grow g3;have GJ:=Aq.grow g3;generalize upd H2 t3 _=H3 at g3 k3 mV nX Ab GJ ⊢;have G3:=g1.trans (g2.trans g3);obtain⟨zs,Fb,hz⟩:=mV.ln (l:=s5) (j:=zS ns.k s5 l c.box) sk Bs;have zl:=hz.len;have l40:=Zi nr sk Bs;refine xG ⟨_,rfl,_,zs,rfl,SqL.of Fb,rL (xs:=zs) (fun i vs σ H'=>(∃e0 e1,σ=[e0,e1,some (.int c.box)])/\Grow [] H3 H'/\vs=zL ((aR i).filter fun j=>decide (((ns.lines s5 (zS ns.k s5 l c.box)).getD j default).box=c.box))) ⟨⟨_,_,rfl⟩,Grow.refl _ _,rfl⟩ (fun i vs σ H' ⟨_,g,_⟩=>SqL.of (g.keep _ _ (by simp) Fb)) ?_ ?_⟩
 ·rintro i x vs σ H' T5 hx ⟨⟨e0,e1,rfl⟩,g,rfl⟩ hT5;obtain⟨wi,CS,ri,rdi,rni,rmi,mvi,rfl,w1,w2,w3,w4,w6⟩:=hz.get hx;have gT:=Grow.new (m:=[]) hT5 (.tup [.int i,.ref ri]);have ew:(ns.lines s5 (zS ns.k s5 l c.box)).getD i default=wi:=by rw[aJ,CS];rfl
  have il:=(aZ.mp CS).1;have er:(aR (i+1)).filter (fun j=>decide (((ns.lines s5 (zS ns.k s5 l c.box)).getD j default).box=c.box))=(aR i).filter (fun j=>decide (((ns.lines s5 (zS ns.k s5 l c.box)).getD j default).box=c.box))++(if wi.box=c.box then[i] else[]):=by
   rw[dU,eG]
   congr 1
   rw[fZ,ew];by_cases z:wi.box=c.box
   ·rw[if_pos z,if_pos (decide_eq_true z)];rfl
   ·rw[if_neg z,if_neg (by rw[decide_eq_false z];decide)];rfl
  refine⟨T5,_,rfl,SqT.of zd,rfl,_,_,rfl,_,_,rfl,rfl,_,rfl,ri,_,0,_,rfl,rfl,gT.sqT (g.sqT w1),zN (j:=0) rfl,_,rfl,rfl,_,rfl,?_⟩;by_cases z:wi.box=c.box
  ·refine yI (decide_eq_true (congrArg V.int (by omega))) ⟨_,rfl,?_,⟨_,_,rfl⟩,g.trans gT,?_⟩
   ·unfold zL;rw[aG];exact zC (bM (List.length_filter_le _ _) (by rw[cD];omega))
   ·rw[er,if_pos z];unfold zL;rw[bC];rfl
  ·refine zR (decide_eq_false fun w=>z (by have:=V.int.inj w;omega)) ⟨⟨_,_,rfl⟩,g.trans gT,?_⟩;rw[er,if_neg z,bB]
 rintro vs σ H4 ⟨_,g4,rfl⟩ la m8;rw[zl];have gl:=Grow.new (m:=[]) m8 (.lst (zL ((aR (ns.lines s5 (zS ns.k s5 l c.box)).length).filter fun j=>decide (((ns.lines s5 (zS ns.k s5 l c.box)).getD j default).box=c.box))));have pq:=zd (H:=H4) (a:=la) (o:=.lst (zL ((aR (ns.lines s5 (zS ns.k s5 l c.box)).length).filter fun j=>decide (((ns.lines s5 (zS ns.k s5 l c.box)).getD j default).box=c.box))));have oX:tZ (ns.lines s5 (zS ns.k s5 l c.box)) c.box=((aR (ns.lines s5 (zS ns.k s5 l c.box)).length).filter fun j=>decide (((ns.lines s5 (zS ns.k s5 l c.box)).getD j default).box=c.box)).getLast?:=rfl;generalize ((aR (ns.lines s5 (zS ns.k s5 l c.box)).length).filter fun j=>decide (((ns.lines s5 (zS ns.k s5 l c.box)).getD j default).box=c.box))=ids at m8 gl pq oX ⊢;have Aa:=g4.trans gl;have o8:=mV.grow0 Aa;have Ac:=Aa.keep _ _ (by simp) nX;have D2:=Ab.imp fun _ _ z=>z.grow Aa;have GK:=GJ.grow Aa;have Ae:=Aa.keep _ _ (by simp) Fb;have Fc:=hz.imp fun _ _ z=>z.grow Aa;have k5:=Aa.tup _ _ k3;have G5:=G3.trans Aa;generalize upd H4 la _=H5 at gl pq Aa o8 Ac D2 GK Ae Fc k5 G5 ⊢;clear hz Fb GJ Ab nX mV Aq Cf Ce mF hc0 Fa nU mD m8 g4 gl;have CY:A5 (.ln s5 (zS ns.k s5 l c.box))≠A5 (.ln (s5-1) l):=nd5 o8 (a:=.ln s5 (zS ns.k s5 l c.box)) (b:=.ln (s5-1) l) ⟨sk,Bs⟩ ⟨pk,hl⟩ (fun z=>by injection z;omega);have m1:A5 (.ln (s5-1) l)∈ms:=hm (.ln (s5-1) l) ⟨pk,hl⟩;have m2:A5 (.ln s5 (zS ns.k s5 l c.box))∈ms:=hm (.ln s5 (zS ns.k s5 l c.box)) ⟨sk,Bs⟩;have m3:A5 .dk∈ms:=hm .dk trivial;refine xG (Yl (fun b H'=>H'=H5/\b=(!ids.isEmpty && decide (ns.keep s5 (nN ns.k s5 l)<ns.kept))) (fun Kk hk=>?_) ?_)
 ·have ei:(!(zL ids).isEmpty)=!ids.isEmpty:=by cases ids <;> rfl
  refine⟨_,rfl,_,.inl ⟨_,SqL.of pq,rfl⟩,?_⟩;rw[ei];cases hid:ids.isEmpty with
  |true=>exact zR rfl (hk _ _ ⟨rfl,by rw[hid];rfl⟩)
  |false=>exact yI rfl ⟨_,rfl,_,C,_,_,_,rfl,o8.ob.choose_spec,T.cl,T.n_keeping,uB,_,rfl,_,_,rfl,(tm (kp:=ns.keep) s1 sk F1.lt)▸vj.t o8.dk (xZ k5),_,rfl,_,C,_,_,_,rfl,o8.ob.choose_spec,T.cl,T.n_most_kept,Zg,_,_,rfl,rfl,_,rfl,hk _ _ ⟨rfl,by rw[hid];rfl⟩⟩
 rintro b H' ⟨rfl,rfl⟩;obtain⟨An,g6⟩:=o8.setLn pk hl D2;cases hb:(!ids.isEmpty && decide (ns.keep s5 (nN ns.k s5 l)<ns.kept)) with
 |true =>
  rw[cE,decide_eq_true_eq] at hb;obtain⟨is,i,rfl⟩:∃is i,ids=is++[i]:=by
   have oP:ids≠[]:=fun z=>by rw[z] at hb;exact absurd hb.1 (by decide)
   exact⟨ids.dropLast,ids.getLast oP,(List.dropLast_concat_getLast oP).symm⟩
  rw[List.getLast?_concat] at oX;obtain⟨ilt,ibx⟩:=qR oX;obtain⟨xi,CN⟩:∃x,zs[i]?=some x:=⟨_,aH (by omega)⟩
  obtain⟨wi,CS,hWi⟩:=Fc.get CN;have ewi:(ns.lines s5 (zS ns.k s5 l c.box)).getD i default=wi:=by rw[aJ,CS];rfl
  have GL:=nr.lw s5 _ sk Bs wi (bF CS);have two:=RB (f:=ns.lines) (g:=wH) pk hl sk Bs (fun z=>by have:=z.1;omega);have t1':=qK (g:=wH) (ws:=ns.lines s5 (zS ns.k s5 l c.box)) (w:=wi) (bF CS);have Fd:wH c<=yt wH (ns.lines (s5-1) l):=qK (by rw[hlin];exact aU ..);have tot:=nr.tot;have a40:=nr.a40;have GM:wi.nums.length+c.nums.length<=40:=by
   have e1:wH wi=wi.nums.length:=rfl;have e2:wH c=c.nums.length:=rfl;omega
  have ln1:=Cd.ln;have ln2:=GL.ln;refine vJ ⟨_,rfl,_,rfl,_,rfl,_,rfl,la,_,-1,_,rfl,rfl,SqL.of pq,Jd,_,_,i,_,rfl,rfl,SqL.of Ae,zN CN,_,rfl,.inl ⟨rfl,_,SqL.of Ac⟩,_,_,0,0,_,rfl,rfl,Ac,by decide,by decide,RJ,rfl,?_⟩;have D3:=g6.keep _ _ (show la∉[A5 (.ln (s5-1) l)] from fun z=>by have e:=aB.mp z;rw[e,Ac] at pq;have:=HO.lst.inj (bH pq);cases is <;> cases this) pq;have AM:=g6.keep _ _ (show A5 (.ln s5 (zS ns.k s5 l c.box))∉[A5 (.ln (s5-1) l)] by simpa using CY) Ae;have k6:=g6.tup _ _ k5;have D4:=Fc.imp fun _ _ z=>z.grow g6;have D5:=GK.grow g6;have D6:=hWi.grow g6;have D7:(V.ref rc::yr).eraseIdx 0=yr:=rfl;rw[D7];generalize upd H' (A5 (.ln (s5-1) l)) (.lst yr)=H6 at An g6 D3 AM k6 D4 D5 D6 ⊢;refine⟨_,_,_,rfl,(s5,nN ns.k s5 l),wi,c,⟨t3,rfl,k6⟩,D6,D5,GM,by omega,fun r7 H7 g7 hr7=>?_⟩;have GN:=g7.keep _ _ (by simp) D3;have GO:=g7.keep _ _ (by simp) AM;refine⟨_,rfl,_,rfl,_,rfl,la,_,-1,_,rfl,rfl,SqL.of GN,Jd,_,_,_,i,rfl,rfl,GO,qQ (by omega),?_⟩;have D8:=An.grow0 g7;obtain⟨Cg,g8⟩:=D8.setLn (l:=s5) (j:=zS ns.k s5 l c.box) sk Bs (yJ.set (n:=i) hr7 (D4.imp fun _ _ z=>z.grow g7));have k8:=(g7.trans (Grow.refl _ _)).tup _ _ k6;have GP:=g8.tup _ _ k8;generalize upd H7 (A5 (.ln s5 (zS ns.k s5 l c.box))) _=H8 at Cg g8 GP ⊢;refine⟨_,rfl,_,C,_,_,_,rfl,Cg.ob.choose_spec,T.cl,T.n_keeping,uB,_,rfl,_,_,rfl,(tm (kp:=ns.keep) s1 sk F1.lt)▸vj.t Cg.dk (xZ GP),_,_,rfl,rfl,_,UI.t Cg.dk (xZ GP) (zC (cG (Xf k4))),?_⟩;have ep:xt (yh ns.k ns.keep) (kI [(s5:Int),(nN ns.k s5 l:Int)]) (.int (ns.keep s5 (nN ns.k s5 l)+1))=yh ns.k (zQ ns.keep s5 (nN ns.k s5 l) (ns.keep s5 (nN ns.k s5 l)+1)):=Xe s1 sk F1.lt;obtain⟨Ga,g9⟩:=Cg.setK (zQ ns.keep s5 (nN ns.k s5 l) (ns.keep s5 (nN ns.k s5 l)+1));show Q V.non (upd H8 (A5 .dk) (.dT (xt (yh ns.k ns.keep) (kI [(s5:Int),(nN ns.k s5 l:Int)]) (.int (ns.keep s5 (nN ns.k s5 l)+1)))));rw[ep];refine q _ ((G5.mono (by simp)).trans ((g6.mono (by simpa using m1)).trans ((g7.mono (by simp)).trans ((g8.mono (by simpa using m2)).trans (g9.mono (by simpa using m3)))))) ?_;have eh:yO ns s5 l={ ns with lines:=zQ (zQ ns.lines (s5-1) l r) s5 (zS ns.k s5 l c.box) ((ns.lines s5 (zS ns.k s5 l c.box)).set i (wc (s5,nN ns.k s5 l) wi c)),keep:=zQ ns.keep s5 (nN ns.k s5 l) (ns.keep s5 (nN ns.k s5 l)+1) }:=by
   unfold yO;rw[hlin];show(match tZ (ns.lines s5 (zS ns.k s5 l c.box)) c.box with|none=>_|some i=>_)=_;rw[oX];show(if _ then _ else _)=_;rw[if_pos hb.2,ewi]
  rw[eh];exact Ga
 |false =>
  have eh:yO ns s5 l=VO ns s5 l c r:=by
   unfold yO;rw[hlin];show(match tZ (ns.lines s5 (zS ns.k s5 l c.box)) c.box with|none=>_|some i=>_)=_;rw[oX];cases ids with
   |nil=>rfl
   |cons a b =>
    have BX:decide (ns.keep s5 (nN ns.k s5 l)<ns.kept)=false:=hb;rw[List.getLast?_cons];show(if _ then _ else _)=_;rw[if_neg (of_decide_eq_false BX)]
  refine xM ⟨_,rfl,_,zs,rfl,.inl (SqL.of Ae),_,rfl,_,C,_,_,_,rfl,o8.ob.choose_spec,T.cl,T.n_room,RD,_,_,rfl,rfl,_,rfl,?_⟩;by_cases hroom:(ns.lines s5 (zS ns.k s5 l c.box)).length<ns.room;rotate_left
  ·refine zR (decide_eq_false (by omega)) (q _ (G5.mono (by simp)) ?_);rw[eh];unfold VO;rw[if_neg hroom];exact o8
  refine yI (decide_eq_true (by omega)) ⟨_,rfl,.inl ⟨rfl,_,SqL.of Ae⟩,_,rfl,.inl ⟨rfl,_,SqL.of Ac⟩,_,_,0,0,_,rfl,rfl,Ac,by decide,by decide,RJ,rfl,?_⟩;have AM:=g6.keep _ _ (show A5 (.ln s5 (zS ns.k s5 l c.box))∉[A5 (.ln (s5-1) l)] by simpa using CY) Ae;have D4:=Fc.imp fun _ _ z=>z.grow g6;have D5:=GK.grow g6;have D7:(V.ref rc::yr).eraseIdx 0=yr:=rfl;rw[D7];generalize upd H' (A5 (.ln (s5-1) l)) (.lst yr)=H6 at An g6 AM D4 D5 ⊢;obtain⟨Cg,g8⟩:=An.setLn (l:=s5) (j:=zS ns.k s5 l c.box) sk Bs (D4.app (.one D5));refine⟨_,_,_,rfl,rfl,AM,zC (by omega),q _ ((G5.mono (by simp)).trans ((g6.mono (by simpa using m1)).trans (g8.mono (by simpa using m2)))) ?_⟩;rw[eh];unfold VO;rw[if_pos hroom];exact Cg
theorem x8:FnScope ["self","stage","gone","first","number"] ["self","stage","gone"] (zh (zk (top 46) 7)):=⟨rfl,rfl,rfl,by decide +kernel,rfl,by decide +kernel,by decide +kernel⟩
theorem re(F:Fun K "pass_on" "Net.pass_on" (zk (top 46) 7) f fd)(B:Blt mg){C:Addr}(T:NTxt K mg C)(nM:zH P w K mg base C n "hand_on" ["self","stage","line"] (qN C K))(mB:zo P w K mg base n "in_line" ["k","stage","number","mark"] (VX K))     :
  FnOk P w K mg base CX0 (n+1) f fd ["self","stage","gone"] (qO C K):=by
 refine F.ok x8 xY (fun mz A outer s H vs Q E hr h=>?_);obtain⟨x,y,z,rfl,A5,ns,s5,gone,ms,rfl,rfl,hg,s1,sk,hn,nr,hm,q⟩:=h;refine⟨_,(zc (zJ (i:=3) x8.nd rfl (aY rfl) (zw jy (zI (pv 0) rfl) ze)) (zf (yQ PassesOwn.never rfl (ya rfl B.range (za (zw xC ze (zw yp (zI (pv 0) rfl) ze)) zb)) (zm (i:=4) x8.nd rfl (aY rfl)) (zf (zT (zE (rW (K:=K) rfl hr) (z7 (za (pv 1) (za (pv 4) zb))) (pv 2) (by with_unfolding_all rfl)) (zc (yd (xf nM T.cl hr (pv 0) (za (pv 1) (za (zi mB hr rfl (za (zI (pv 0) rfl) (za (pv 1) (za (pv 4) (za (pv 3) zb))))) zb)))) (zf (yd (xf nM T.cl hr (pv 0) (za (pv 1) (za (zi mB hr rfl (za (zI (pv 0) rfl) (za (pv 1) (za (pv 4) (za (zw yp ze (pv 3)) zb))))) zb)))))) zx))))),?_⟩;have k4:=nr.k4;have ea:cZ (ns.now:Int) 1=((ns.now % 2:Nat):Int):=by rw[show(1:Int)=((1:Nat):Int) from rfl,Rs,Nat.and_one_is_mod]
 have ek:(ns.k:Int)-1=((ns.k-1:Nat):Int):=by omega
 have ej:(1:Int)*2 ^ ((ns.k:Int)-1).toNat=((2 ^ (ns.k-1):Nat):Int):=by rw[ek];exact qA
 have p8:2 ^ (ns.k-1)<=8:=bM (fc (by decide) (show ns.k-1<=3 by omega)) (by decide);refine⟨_,rfl,_,C,_,_,_,rfl,hn.ob.choose_spec,T.cl,T.n_now,Xh,_,_,rfl,rfl,VE (congrArg V.int ea) ⟨_,rfl,_,C,_,_,_,rfl,hn.ob.choose_spec,T.cl,T.n_depth,yy,_,_,rfl,rfl,_,_,rfl,rfl,⟨by omega,by omega,by decide⟩,_,rfl,by rw[ej];exact hU (by decide) (cH _),by rw[ej];exact gz (gx.mpr p8) (by decide),?_⟩⟩;rw[ej,bW];refine yK (fun i σ H'=>∃e4,σ=[some (.ref (A5 .p)),some (.int s5),some z,some (.int ((ns.now % 2:Nat):Int)),e4]/\Grow ms H H'/\NetAt K C H' A5 (passS gone ns s5 i)) ⟨_,rfl,Grow.refl _ _,hn⟩ ?_ ?_;rotate_left
 ·rintro σ H' ⟨e4,rfl,g,nD⟩;exact q _ g nD
 rintro i σ H1 hi ⟨e4,rfl,g1,mD⟩;have sm:=wg gone ns s5 i;have Ch:=nr.passS (gone:=gone) s1 sk (i:=i) (by omega);have es:passS gone ns s5 (i+1)=yY gone s5 (passS gone ns s5 i) i:=by unfold passS;rw[zM]
 rw[es];generalize passS gone ns s5 i=n1 at mD sm Ch ⊢;obtain⟨rg,ys,rfl,GQ,GR,FX⟩:=hg.grow g1;refine⟨_,rfl,_,rfl,szl rfl,fun t ht=>?_⟩;have gt:=Grow.new (m:=[]) ht (.tup [.int s5,.int (0+(i:Int))]);have kt:upd H1 t (.tup [.int s5,.int (0+(i:Int))]) t=some (.tup [.int s5,.int i]):=by rw[zd,gu]
 have mF:=mD.grow0 gt;have G2:Grow ms H (upd H1 t (.tup [.int s5,.int (0+(i:Int))])):=g1.trans gt.wk;refine⟨_,rfl,t,rg,ys,(s5,i),gone,rfl,rfl,SqT.of kt,gt.sqT GQ,GR.imp fun _ _ ⟨r,e,z⟩=>⟨r,e,gt.sqT z⟩,_,rfl,?_⟩;generalize upd H1 t _=H2 at gt kt mF G2 ⊢;by_cases c:(s5,i)∈gone
 ·refine zR (by rw[decide_eq_true c];rfl) ⟨_,rfl,G2,?_⟩;unfold yY;rw[if_pos c];exact mF
 refine yI (by rw[decide_eq_false c];rfl) ?_;have ep:yY gone s5 n1 i=yO (yO n1 s5 (sN n1.k s5 i (n1.now % 2))) s5 (sN n1.k s5 i (1-n1.now % 2)):=if_neg c;have ik:i<2 ^ (n1.k-1):=by rw[sm.k];exact hi
 have pk:s5<=n1.k:=by rw[sm.k];exact sk
 have m2:n1.now % 2<2:=ft _ (by decide);have en:ns.now % 2=n1.now % 2:=by rw[sm.now]
 have hm1:∀a,okA n1 a->A5 a∈ms:=fun a ha=>hm a (by
  have ek:=sm.k;have en:=sm.nd;cases a <;> first|trivial|(unfold okA at ha ⊢;rw[ek] at ha;exact ha)|(unfold okA at ha ⊢;rw[en] at ha;exact ha))
 have l1:=wJ Ch.k4 s1 pk ik m2;have l2:=wJ Ch.k4 s1 pk ik (show 1-n1.now % 2<2 by omega);refine⟨_,rfl,_,_,_,rfl,mF.ob.choose_spec,rV,_,rfl,_,rfl,_,C,_,_,_,rfl,mF.ob.choose_spec,T.cl,T.n_depth,yy,_,rfl,_,rfl,_,rfl,_,_,_,_,rfl,n1.k,s5,i,n1.now % 2,rfl,rfl,congrArg V.int (by omega),congrArg V.int (by omega),Ch.k4,s1,pk,ik,m2,_,_,_,rfl,A5,n1,s5,_,ms,rfl,rfl,rfl,s1,pk,l1,mF,Ch,hm1,fun H3 g3 mV=>?_⟩;have D9:=xj n1 s5 (sN n1.k s5 i (n1.now % 2));have CM:=Ch.hand s1 pk l1;have hm3:∀a,okA (yO n1 s5 (sN n1.k s5 i (n1.now % 2))) a->A5 a∈ms:=fun a ha=>hm1 a (by
  have ek:=D9.k;have en:=D9.nd;cases a <;> first|trivial|(unfold okA at ha ⊢;rw[ek] at ha;exact ha)|(unfold okA at ha ⊢;rw[en] at ha;exact ha))
 refine⟨_,rfl,_,_,_,rfl,mV.ob.choose_spec,rV,_,rfl,_,rfl,_,C,_,_,_,rfl,mV.ob.choose_spec,T.cl,T.n_depth,yy,_,rfl,_,rfl,_,rfl,_,_,rfl,rfl,_,_,_,_,rfl,n1.k,s5,i,1-n1.now % 2,congrArg V.int (by rw[D9.k]),rfl,congrArg V.int (by omega),congrArg V.int (by omega),Ch.k4,s1,pk,ik,by omega,_,_,_,rfl,A5,_,s5,_,ms,rfl,rfl,rfl,s1,by rw[D9.k];exact pk,by rw[D9.k];exact l2,mV,CM,hm3,fun H4 g4 oz=>⟨_,rfl,G2.trans (g3.trans g4),?_⟩⟩;rw[ep];exact oz
theorem vf:FnScope ["self","box","numbers","number"] ["self","box","numbers"] (zh (zk (top 46) 6)):=⟨rfl,rfl,rfl,by decide +kernel,rfl,by decide +kernel,by decide +kernel⟩
theorem rf(F:Fun K "do_asks" "Net.do_asks" (zk (top 46) 6) f fd)(B:Blt mg){C:Addr}(T:NTxt K mg C)(mB:zo P w K mg base n "made" ["deed","value"] (tN K))     :
  FnOk P w K mg base CX0 (n+1) f fd ["self","box","numbers"] (uE C K):=by
 refine F.ok vf xY (fun mz A outer s H vs Q E hr h=>?_);obtain⟨x,y,z,rfl,A5,ns,b,nums,r,rfl,rfl,rfl,Am,hn,hb,hnm,hl,hf,q⟩:=h;refine⟨_,(zf (yQ PassesOwn.never rfl (vD (pv 2)) (zm (i:=3) vf.nd rfl (aY rfl)) (zc (Yh (Room.u1F hr) (zI (pv 0) rfl) (pv 3) (ye zU (zI (pv 0) rfl) (pv 1) (fun _ _=>rfl)) rfl) (zc (xB (zi mB hr rfl (za (ye yX (ye zU (zI (pv 0) rfl) (pv 3) (fun _ _=>rfl)) ze (fun _ _=>rfl)) (za (ye zU (zI (pv 0) rfl) (pv 1) (fun _ _=>rfl)) zb))) (ju (zI (pv 0) rfl) (pv 1) vH)) (zf (yd (uo bY dG dH xD (zI (pv 0) rfl) (za (pv 3) zb)))))))),?_⟩;have nl:(zL nums).length=nums.length:=aG ..;refine⟨_,rfl,r,rfl,⟨_,Am⟩,um (xs:=zL nums) (fun i σ H'=>∃e3,σ=[some (.ref (A5 .p)),some (.int b),some (.ref r),e3]/\Grow [A5 .lb,A5 .df,A5 .lg] H H'/\NetAt K C H' A5 ((nums.take i).foldl (doN b) ns)) ⟨_,rfl,Grow.refl _ _,hn⟩ (fun i σ H' _ ⟨_,_,g,_⟩=>g.sqT Am) ?_ ?_⟩;rotate_left
 ·rintro σ H' ⟨e3,rfl,g,nD⟩;rw[nl,cU] at nD;exact q _ g nD
 rintro i x σ H1 hx ⟨e3,rfl,g,mD⟩;rw[show(zL nums)[i]?=(nums[i]?).map fun n:Nat=>V.int n from bN ..] at hx;obtain⟨n5,hi,rfl⟩:=fB.mp hx;have il:=(aZ.mp hi).1;rw[wp hi];have lb:((nums.take i).foldl (doN b) ns).boxes.length=ns.boxes.length:=wf.1;have la:((nums.take i).foldl (doN b) ns).asks=ns.asks:=wf.2.1;have lg:((nums.take i).foldl (doN b) ns).log.length=ns.log.length+i:=by rw[wf.2.2.1,aI,dB];omega
 have lf:((nums.take i).foldl (doN b) ns).fnd.length<=ns.fnd.length+i:=bM wf.2.2.2 (by rw[dB];omega);generalize (nums.take i).foldl (doN b) ns=n1 at mD lb la lg lf ⊢;have n5a:=hnm n5 (bF hi);have bl:b<n1.boxes.length:=by omega
 obtain⟨v0,hv0⟩:∃v,n1.boxes[b]?=some v:=⟨_,aH bl⟩
 have ev:n1.boxes.getD b 0=v0:=by rw[aJ,hv0];rfl
 have hvx:(n1.boxes.map V.int)[b]?=some (.int v0):=by rw[bN,hv0];rfl
 refine⟨_,rfl,_,C,_,_,_,rfl,mD.ob.choose_spec,T.cl,T.n_boxes,vS,_,rfl,A5 .lb,_,b,.int v0,rfl,rfl,SqL.of mD.lb,zN hvx,?_⟩;refine⟨_,rfl,_,C,_,_,_,rfl,mD.ob.choose_spec,T.cl,T.n_found,Xi,_,rfl,A5 .df,_,rfl,.inl ⟨_,.inl (n5:Int),mD.df,rfl,?_,rfl⟩,?_⟩
 ·unfold nKv;rw[aG];exact zC (by omega)
 rw[Yk];obtain⟨mF,g2⟩:=mD.setF (wR n1.fnd n5 v0);generalize upd H1 (A5 .df) _=H2 at mF g2 ⊢;obtain⟨xs,hxs,has⟩:=mF.la;have Ea:yJ (vM K H2) xs n1.asks:=has;have xl:xs.length=n1.asks.length:=Ea.len;obtain⟨xa,Bm⟩:∃x,xs[n5]?=some x:=⟨_,aH (by rw[xl,la];exact n5a)⟩
 obtain⟨ka,hka,ra,rd,rfl,sa,sd⟩:=Ea.get Bm;have eka:n1.asks.getD n5 default=ka:=by rw[aJ,hka];rfl
 refine⟨_,rfl,_,C,_,_,_,rfl,mF.ob.choose_spec,T.cl,T.n_asks,t9,_,rfl,A5 .la,_,n5,_,rfl,rfl,SqL.of hxs,zN Bm,ra,_,2,_,rfl,rfl,sa,zN (j:=2) rfl,?_⟩;refine⟨_,rfl,_,C,_,_,_,rfl,mF.ob.choose_spec,T.cl,T.n_boxes,vS,_,rfl,A5 .lb,_,b,.int v0,rfl,rfl,SqL.of mF.lb,zN hvx,_,_,rfl,ka.deed,v0,⟨rd,rfl,sd⟩,rfl,?_⟩;refine⟨_,rfl,_,C,_,_,_,rfl,mF.ob.choose_spec,T.cl,T.n_boxes,vS,_,rfl,A5 .lb,_,b,b,rfl,rfl,mF.lb,?_,?_⟩
 ·exact qQ (by rw[aG];exact bl)
 have ex:(n1.boxes.map V.int).set b (.int (ka.deed.mk' v0))=(n1.boxes.set b (ka.deed.mk' v0)).map V.int:=(List.map_set ..).symm;show UL _ _ _ _ _;rw[ex];obtain⟨mV,g3⟩:=mF.setB (n1.boxes.set b (ka.deed.mk' v0));generalize upd H2 (A5 .lb) _=H3 at mV g3 ⊢;refine⟨_,rfl,_,C,_,_,_,rfl,mV.ob.choose_spec,T.cl,T.n_logged,Zh,.inl ⟨rfl,_,SqL.of mV.lg⟩,_,rfl,A5 .lg,_,_,rfl,rfl,mV.lg,?_,?_⟩
 ·unfold zL;rw[aG];exact zC (by show n1.log.length<=1000;omega)
 have el:zL n1.log++[.int (n5:Int)]=zL (n1.log++[n5]):=by unfold zL;rw[bC];rfl
 refine⟨_,rfl,?_⟩;have mL:=mV.setG (n1.log++[n5]);refine⟨g.trans ((g2.mono (by simp)).trans ((g3.mono (by simp)).trans ?_)),?_⟩
 ·show Grow _ _ (upd H3 (A5 .lg) (.lst (zL n1.log++[.int (n5:Int)])));rw[el];exact mL.2.mono (by simp)
 ·show NetAt K C (upd H3 (A5 .lg) (.lst (zL n1.log++[.int (n5:Int)]))) A5 _;rw[el];have e:doN b n1 n5={ n1 with boxes:=n1.boxes.set b (ka.deed.mk' v0),fnd:=wR n1.fnd n5 v0,log:=n1.log++[n5] }:=by unfold doN;rw[eka,ev]
  rw[e];exact mL.1
theorem yD:FnScope ["self","gone","taken","side","line","box","deed","numbers","met"] ["self","gone"] (zh (zk (top 46) 5)):=⟨rfl,rfl,rfl,by decide +kernel,rfl,by decide +kernel,by decide +kernel⟩
theorem YL(F:Fun K "take" "Net.take" (zk (top 46) 5) f fd)(B:Blt mg){C:Addr}(T:NTxt K mg C)(pA:zH P w K mg base C n "do_asks" ["self","box","numbers"] (uE C K))      :
  FnOk P w K mg base CX0 (n+1) f fd ["self","gone"] (qM C K):=by
 refine F.ok yD yw (fun mz A outer s H vs Q E hr h=>?_);obtain⟨x,y,rfl,A5,ns,gone,ms,rfl,hg,hn,nr,AC,hm,q⟩:=h;refine⟨_,(zc (zJ (i:=2) yD.nd rfl (aY rfl) (xQ zb)) (zc (yQ PassesOwn.never rfl (ya rfl B.range (za (zw xC ze (zI (pv 0) rfl)) zb)) (zm (i:=3) yD.nd rfl (aY rfl)) (zc (zJ (i:=4) yD.nd rfl (aY rfl) (yZ (Room.u1F hr) (zI (pv 0) rfl) (z7 (za (zI (pv 0) rfl) (za (pv 3) zb))) (fun _ _=>rfl))) (zf (zT (PW.pt (ww (qr (pv 4) (fun _=>rfl)) (xU (zE (rW (K:=K) rfl hr) (z7 (za ze (za (pv 3) zb))) (pv 1) (by with_unfolding_all rfl))))) (zf (yd (uo bY dG dH xD (pv 2) (za (uo bY iT iU qz (pv 4) (za ze zb)) zb)))) zx)))) (zc (Yh (Room.u1F hr) (zI (pv 0) rfl) (zI (pv 0) rfl) (pv 2) rfl) (zf (yQ PassesOwn.never rfl (WL (pv 2)) (xA rfl (zq (zm (i:=5) yD.nd rfl (aY rfl)) (zq (zm (i:=6) yD.nd rfl (aY rfl)) (zq (zm (i:=7) yD.nd rfl (aY rfl)) (zq (zm (i:=8) yD.nd rfl (aY rfl)) yA))))) (zf (yd (xf pA T.cl hr (pv 0) (za (pv 5) (za (pv 7) zb)))))))))),?_⟩;have k4:=nr.k4;have pW:=tR k4;have ej:(1:Int)*2 ^ ((ns.k:Int)).toNat=((2 ^ ns.k:Nat):Int):=qA;refine⟨szl rfl,fun lt mE=>?_⟩;have g0:=Grow.new (m:=[]) mE (.lst []);have oW:=zd (H:=H) (a:=lt) (o:=.lst []);have Bp:=hn.grow0 g0;have A6:∀a,okA ns a->A5 a≠lt:=fun a ha z=>by
  obtain⟨o,h1,_⟩:=hn.at_ a ha;rw[z,mE] at h1;cases h1
 have BG:=hg.grow g0;generalize upd H lt (.lst [])=H0 at g0 oW Bp BG ⊢;refine xG ⟨_,rfl,_,C,_,_,_,rfl,Bp.ob.choose_spec,T.cl,T.n_depth,yy,_,_,rfl,rfl,uL k4,_,rfl,by rw[ej];exact hU (by decide) (cH _),by rw[ej];exact gz (gx.mpr pW) (by decide),?_⟩;rw[ej,bW];refine yK (fun i σ H'=>∃e3 e4 tv,σ=[some (.ref (A5 .p)),some y,some (.ref lt),e3,e4,none,none,none,none]/\Grow (lt::ms) H0 H'/\H' lt=some (.lst tv)/\yJ (Ze K H') tv (zD gone ns i).1/\NetAt K C H' A5 { ns with lines:=(zD gone ns i).2 }) ⟨_,_,[],rfl,Grow.refl _ _,oW,trivial,Bp⟩ ?_ ?_
 ·rintro i σ H1 hi ⟨e3,e4,tv,rfl,g1,htv,hta,mD⟩;have F:=Zk (gone:=gone) (ns:=ns) (i:=i) (by omega);rw[yF];generalize zD gone ns i=st at hta mD F ⊢;have tl:tv.length<=40:=by
   have h1:=F.ws wH;have h2:=nr.tot;have h3:=nr.a40;have h4:=tf (g:=wH) (ws:=st.1) fun w hw=>by
    obtain⟨j,hj,hw⟩:=F.tk w hw;have:=(nr.lw ns.k j (aE _) hj w hw).ne;cases e:w.nums with
    |nil=>exact absurd e this
    |cons a r=>show 1<=w.nums.length;rw[e];exact hG (aX _)
   have h5:=hta.len;omega
  refine⟨_,rfl,_,C,_,_,_,rfl,mD.ob.choose_spec,T.cl,T.n_lines,tq,_,rfl,_,C,_,_,_,rfl,mD.ob.choose_spec,T.cl,T.n_depth,yy,_,rfl,szl rfl,fun t ht=>?_⟩;have gt:=Grow.new (m:=[]) ht (.tup [.int ns.k,.int (0+(i:Int))]);have kt:upd H1 t (.tup [.int ns.k,.int (0+(i:Int))]) t=some (.tup [.int ns.k,.int i]):=by rw[zd,gu]
  have mF:=mD.grow0 gt;have nV:=gt.keep _ _ (by simp) htv;have nW:=hta.imp fun _ _ z=>z.grow gt;have G2:Grow (lt::ms) H0 (upd H1 t (.tup [.int ns.k,.int (0+(i:Int))])):=g1.trans gt.wk;refine⟨_,_,rfl,(tj (A:=A5) (aE ns.k) hi)▸vj.t mF.dl (xZ kt),?_⟩;generalize upd H1 t _=H2 at gt kt mF nV nW G2 ⊢;obtain⟨ys,nU,hw⟩:=mF.ln (l:=ns.k) (j:=i) (aE _) hi;have hw:yJ (Ze K H2) ys (st.2 ns.k i):=hw;refine xG ⟨_,rfl,_,.inl ⟨_,SqL.of nU,rfl⟩,?_⟩;cases hc:st.2 ns.k i with
  |nil =>
   rw[hc] at hw;have e:ys=[]:=f' (by rw[hw.len];rfl);subst e;refine zR rfl ?_;rw[xk hc];exact zR rfl ⟨_,_,tv,rfl,G2,nV,nW,mF⟩
  |cons w r =>
  rw[hc] at hw;cases ys with
  |nil=>exact hw.elim
  |cons y0 yr =>
  obtain⟨hw0,Fa⟩:=hw;obtain⟨rg,gs,rfl,GQ,GR,FX⟩:=BG.grow G2;refine yI rfl ⟨_,rfl,szl rfl,fun t2 AK=>?_⟩;have A8:=Grow.new (m:=[]) AK (.tup [.int 0,.int (0+(i:Int))]);have kt2:upd H2 t2 (.tup [.int 0,.int (0+(i:Int))]) t2=some (.tup [.int ((0:Nat):Int),.int i]):=by rw[zd,gu];rfl
  have mV:=mF.grow0 A8;have pj:=A8.keep _ _ (by simp) nV;have p9:=nW.imp fun _ _ z=>z.grow A8;have nX:=A8.keep _ _ (by simp) nU;have Eb:=hw0.grow A8;have Ab:=Fa.imp fun _ _ z=>z.grow A8;have G3:=G2.trans (A8.wk (m:=lt::ms));refine⟨_,rfl,t2,rg,gs,(0,i),gone,rfl,rfl,SqT.of kt2,A8.sqT GQ,GR.imp fun _ _ ⟨r,e,z⟩=>⟨r,e,A8.sqT z⟩,_,rfl,?_⟩;generalize upd H2 t2 _=H3 at A8 kt2 mV pj p9 nX Eb Ab G3 ⊢;by_cases cg:(0,i)∈gone
  ·refine zR (by rw[decide_eq_true cg];rfl) ?_;rw[yN cg];exact⟨_,_,tv,rfl,G3,pj,p9,mV⟩
  refine yI (by rw[decide_eq_false cg];rfl) ⟨_,rfl,.inl ⟨rfl,_,SqL.of pj⟩,_,rfl,.inl ⟨rfl,_,SqL.of nX⟩,_,_,0,0,_,rfl,rfl,nX,by decide,by decide,RJ,rfl,?_⟩;have GS:NetAt K C H3 A5 { ns with lines:=st.2 }:=mV;obtain⟨oz,g4⟩:=GS.setLn (l:=ns.k) (j:=i) (aE _) hi Ab;have nlt:lt∉[A5 (.ln ns.k i)]:=fun z=>A6 (.ln ns.k i) ⟨aE _,hi⟩ (aB.mp z).symm;have p7:=g4.keep _ _ nlt pj;have Ec:=p9.imp fun _ _ z=>z.grow g4;have Ed:=Eb.grow g4;have D7:(y0::yr).eraseIdx 0=yr:=rfl;rw[D7];have G4:=G3.trans (g4.mono (m':=lt::ms) fun b hb=>by rw[aB.mp hb];exact aK _ (hm (.ln ns.k i) ⟨aE _,hi⟩));generalize upd H3 (A5 (.ln ns.k i)) (.lst yr)=H4 at oz g4 p7 Ec Ed G4 ⊢;have g5:=Grow.set (m:=[lt]) p7 (by simp) (tv++[y0]);refine⟨lt,tv,y0,rfl,rfl,p7,zC (by omega),?_⟩;rw[xv hc cg];refine⟨_,_,tv++[y0],rfl,G4.trans (g5.mono (by simp)),zd,(Ec.app (.one Ed)).imp fun _ _ z=>z.grow g5,?_⟩;exact oz.grow g5 fun a ha=>by
   have:A5 a≠lt:=A6 a (by cases a <;> exact ha);simpa using this
 rintro σ H1 ⟨e3,e4,tv,rfl,g1,htv,hta,mD⟩;have F:=Zk (gone:=gone) (ns:=ns) (i:=2 ^ ns.k) (aE _);obtain⟨mF,g2⟩:=mD.setDone (ws:=(zD gone ns (2 ^ ns.k)).1) htv hta (fun a ha=>A6 a (by cases a <;> exact ha));have GT:(ns.now:Int)=((ns.nd+1:Nat):Int):=by omega
 refine⟨_,rfl,_,rfl,_,C,_,_,_,rfl,mD.ob.choose_spec,T.cl,T.n_done_in,rT,_,rfl,_,C,_,_,_,rfl,mD.ob.choose_spec,T.cl,T.n_now,Xh,_,_,rfl,.inl ⟨_,.inl ((ns.nd+1:Nat):Int),mD.dd,congrArg V.int GT,?_,rfl⟩,?_⟩
 ·unfold xJ;rw[aG,cD];have h1:=nr.nd;have h2:=nr.nw;exact zaK (show ns.nd<=1000000 by omega)
 have GU:({ ({ ns with lines:=(zD gone ns (2 ^ ns.k)).2 }:NS) with nd:=ns.nd+1,done:=sO ns.done (ns.nd+1) (zD gone ns (2 ^ ns.k)).1 }:NS)=WG gone ns:=by unfold WG;rw[AC]
 have mF:NetAt K C _ (VZ A5 ns.nd lt) (WG gone ns):=GU▸mF;have nV:=g2.keep _ _ (show lt∉[A5 .dd] from fun z=>A6 .dd trivial (aB.mp z).symm) htv;have nW:=hta.imp fun _ _ z=>z.grow g2;have G2:=g1.trans (g2.mono (m':=lt::ms) fun b hb=>by rw[aB.mp hb];exact aK _ (hm .dd trivial));refine JA ?_;generalize upd H1 (A5 .dd) (.dK (xt (xJ A5 ns.nd) (.inl ((ns.nd+1:Nat):Int)) (.ref lt)))=H2 at mF g2 nV nW G2 ⊢;have GV:=nW.len;have ewp:(VZ A5 ns.nd lt) .p=A5 .p:=rfl;have wtk:∀w∈(zD gone ns (2 ^ ns.k)).1,WtOk ns.k ns.boxes.length ns.asks.length w:=fun w hw=>by
  obtain⟨j,hj,hw⟩:=F.tk w hw;exact nr.lw ns.k j (aE _) hj w hw
 have tot:ns.log.length+yt wH (zD gone ns (2 ^ ns.k)).1<=40:=by
  have h1:=F.ws wH;have h2:=nr.tot;have h3:=nr.a40;omega
 refine⟨_,rfl,lt,rfl,⟨_,SqL.of nV⟩,uZ (xs:=tv) (fun j σ H'=>∃e3 e4 e5 e6 e7 e8,σ=[some (.ref (A5 .p)),some y,some (.ref lt),e3,e4,e5,e6,e7,e8]/\Grow [A5 .lb,A5 .df,A5 .lg] H2 H'/\NetAt K C H' (VZ A5 ns.nd lt) (((zD gone ns (2 ^ ns.k)).1.take j).foldl doW (WG gone ns))) ⟨_,_,_,_,_,_,rfl,Grow.refl _ _,mF⟩ (fun j σ H' _ ⟨_,_,_,_,_,_,_,g,_⟩=>SqL.of (g.keep _ _ (by
  have h1:=A6 .lb trivial;have h2:=A6 .df trivial;have h3:=A6 .lg trivial;simp only[aS,dY,or_false,not_or]
  exact⟨h1.symm,h2.symm,h3.symm⟩) nV)) ?_ ?_⟩
 rotate_left
 ·rintro σ H' ⟨e3,e4,e5,e6,e7,e8,rfl,g,nD⟩;rw[GV,cU] at nD;refine q _ _ ?_ ⟨fun a ha=>wq ha,by rw[vU];exact mE⟩ nD;have G:Grow (lt::ms) H H':=(g0.wk (m:=lt::ms)).trans (G2.trans (g.mono fun b hb=>by
   simp only[aS,dY,or_false] at hb;rcases hb with rfl|rfl|rfl
   ·exact aK _ (hm .lb trivial)
   ·exact aK _ (hm .df trivial)
   ·exact aK _ (hm .lg trivial)))
  exact G.less fun b hb=>by
   rcases aS.mp hb with rfl|hb
   ·exact .inr mE
   ·exact .inl hb
 rintro j x σ H3 hx ⟨e3,e4,e5,e6,e7,e8,rfl,g3,mV⟩;obtain⟨w5,A7,r,rd,rn,rm,mv,rfl,w1,w2,w3,w4,w6⟩:=nW.get hx;rw[wp A7];have D:=doF (l:=(zD gone ns (2 ^ ns.k)).1.take j) (ns:=WG gone ns);have Cd:=wtk w5 (bF A7);have sumj:yt wH ((zD gone ns (2 ^ ns.k)).1.take j)+w5.nums.length<=yt wH (zD gone ns (2 ^ ns.k)).1:=by
  have e:(zD gone ns (2 ^ ns.k)).1=(zD gone ns (2 ^ ns.k)).1.take j++w5::(zD gone ns (2 ^ ns.k)).1.drop (j+1):=by
   obtain⟨hj,e⟩:=aZ.mp A7;rw[←e,←fJ hj,eX]
  have:=congrArg (yt wH) e;rw[wU,yb] at this;have e2:wH w5=w5.nums.length:=rfl;omega
 have hl:=sf (l:=(zD gone ns (2 ^ ns.k)).1.take j);generalize ((zD gone ns (2 ^ ns.k)).1.take j).foldl doW (WG gone ns)=n3 at mV D ⊢;have fl:=nr.fl;refine⟨r,_,rfl,g3.sqT w1,rfl,_,_,rfl,_,_,rfl,_,_,rfl,_,_,rfl,rfl,_,rfl,_,_,_,rfl,mV.ob.choose_spec,X9,_,rfl,_,rfl,_,_,_,rfl,VZ A5 ns.nd lt,n3,w5.box,w5.nums,rn,rfl,rfl,rfl,g3.sqT w3,mV,?_,?_,?_,?_,fun H4 g4 oz=>⟨_,_,_,_,_,_,rfl,g3.trans g4,oz⟩⟩
 ·rw[D.bl];exact Cd.bx
 ·rw[D.asks];exact Cd.nm
 ·rw[D.log,aI,hl];show ns.log.length+_+_<=40;omega
 ·have:=D.fl;have e:(WG gone ns).fnd=ns.fnd:=rfl;rw[e,hl] at this;omega
theorem yn:FnScope ["self","stage","box","deed","numbers","met","switch"] ["self"] (zh (zk (top 46) 4)):=⟨rfl,rfl,rfl,by decide +kernel,rfl,by decide +kernel,by decide +kernel⟩
theorem jk(F:Fun K "forget" "Net.forget" (zk (top 46) 4) f fd)(B:Blt mg){C:Addr}(T:NTxt K mg C)(m7:zH P w K mg base C n "done_ago" ["self","many"] (qL C K))      :
  FnOk P w K mg base CX0 (n+1) f fd ["self"] (uD C K):=by
 refine F.ok yn yT (fun mz A outer s H vs Q E hr h=>?_);obtain⟨x,rfl,A5,ns,rfl,hn,nr,q⟩:=h;refine⟨_,(zf (yQ PassesOwn.never rfl (jw rfl B.range (za ze (za (zw yo (zI (pv 0) rfl) ze) zb))) (zm (i:=1) yn.nd rfl (aY rfl)) (zf (yQ PassesOwn.never rfl (VV (K:=K) rfl (xf m7 T.cl hr (pv 0) (za (zw yo (zw yp (zI (pv 0) rfl) (pv 1)) ze) zb))) (xA rfl (zq (zm (i:=2) yn.nd rfl (aY rfl)) (zq (zm (i:=3) yn.nd rfl (aY rfl)) (zq (zm (i:=4) yn.nd rfl (aY rfl)) (zq (zm (i:=5) yn.nd rfl (aY rfl)) yA))))) (zf (yQ PassesOwn.never rfl (vD (pv 5)) (zm (i:=6) yn.nd rfl (aY rfl)) (zf (zT (zE vF (ye yX (pv 6) ze (fun _ _=>rfl)) (pv 1) (zG _)) (zf (VA (Room.u1F hr) (zI (pv 0) rfl) (pv 6) ze Qs (fun _ _ _=>rfl))) zx)))))))),?_⟩;have k4:=nr.k4;refine⟨_,rfl,_,C,_,_,_,rfl,hn.ob.choose_spec,T.cl,T.n_depth,yy,_,_,rfl,rfl,_,_,rfl,⟨by decide,by decide,by omega,by omega⟩,yK (fun i σ H'=>∃e1 e2 e3 e4 e5 e6,σ=[some (.ref (A5 .p)),e1,e2,e3,e4,e5,e6]/\Grow [A5 .dk] H H'/\NetAt K C H' A5 { ns with keep:=(aR i).foldl (fun kp i=>fgS ns kp (i+1)) ns.keep }) ⟨_,_,_,_,_,_,rfl,Grow.refl _ _,hn⟩ ?_ ?_⟩;rotate_left
 ·rintro σ H' ⟨e1,e2,e3,e4,e5,e6,rfl,g,nD⟩;have e:((ns.k:Int)+1-1).toNat=ns.k:=by omega
  rw[e] at nD;exact q _ g nD
 rintro i σ H1 hi ⟨e1,e2,e3,e4,e5,e6,rfl,g1,mD⟩;rw[zM];generalize (aR i).foldl (fun kp i=>fgS ns kp (i+1)) ns.keep=kp at mD ⊢;have ik:i<ns.k:=by omega
 refine⟨_,rfl,_,_,_,rfl,mD.ob.choose_spec,se,_,rfl,_,C,_,_,_,rfl,mD.ob.choose_spec,T.cl,T.n_depth,yy,_,rfl,_,_,rfl,rfl,_,_,rfl,rfl,_,_,rfl,A5,_,ns.k-(i+1)+1,rfl,congrArg V.int (by show(ns.k:Int)-(1+i)+1=_;omega),mD,fun z H2 g2 hz=>?_⟩;have mF:=mD.grow0 g2;have g12:Grow [A5 .dk] H H2:=g1.trans (g2.mono (by simp));have GW:uU ({ ns with keep:=kp }:NS) (ns.k-(i+1)+1)=uU ns (ns.k-(i+1)+1):=rfl;rw[GW] at hz;have efg:fgS ns kp (i+1)=(uU ns (ns.k-(i+1)+1)).foldl (fgW (i+1)) kp:=rfl;rw[efg];rcases hz with ⟨t,t1,t2,rfl,Ak⟩|⟨a,rfl,sa,Ak⟩
 rotate_left
 ·rw[Ak];exact⟨a,rfl,.inr ⟨⟨_,sa⟩,um (xs:=[]) (fun j σ H'=>∃e1 e2 e3 e4 e5 e6,σ=[some (.ref (A5 .p)),e1,e2,e3,e4,e5,e6]/\H'=H2) ⟨_,_,_,_,_,_,rfl,rfl⟩ (fun j σ H' _ ⟨_,_,_,_,_,_,_,e⟩=>e▸sa) (fun j x σ H' hx=>by simp at hx) (fun σ H' ⟨e1,e2,e3,e4,e5,e6,e,eH⟩=>⟨e1,e2,e3,e4,e5,e6,e,eH▸g12,eH▸mF⟩)⟩⟩
 rw[Ak];have Fd:t<=ns.nd:=t2;obtain⟨ys,nU,hw⟩:=mF.dn (t:=t) t1 Fd;have hw':yJ (Ze K H2) ys (ns.done t):=hw;have nek:A5 (.dn t)≠A5 .dk:=nd5 mF (a:=.dn t) (b:=.dk) ⟨t1,Fd⟩ trivial (by simp);have Cc:A5 (.dn t)∉[A5 .dk]:=by simpa using nek
 refine⟨_,rfl,.inl ⟨⟨_,SqL.of nU⟩,uZ (xs:=ys) (fun j σ H'=>∃e2 e3 e4 e5 e6,σ=[some (.ref (A5 .p)),some (.int (1+(i:Int))),e2,e3,e4,e5,e6]/\Grow [A5 .dk] H2 H'/\NetAt K C H' A5 { ns with keep:=((ns.done t).take j).foldl (fgW (i+1)) kp }) ⟨_,_,_,_,_,rfl,Grow.refl _ _,mF⟩ (fun j σ H' _ ⟨_,_,_,_,_,_,g,_⟩=>SqL.of (g.keep _ _ Cc nU)) ?_ ?_⟩⟩;rotate_left
 ·rintro σ H' ⟨e2,e3,e4,e5,e6,rfl,g,nD⟩;rw[hw'.len,cU] at nD;exact⟨_,_,_,_,_,_,rfl,g12.trans g,nD⟩
 rintro j x σ H3 hx ⟨e2,e3,e4,e5,e6,rfl,g3,mV⟩;obtain⟨w5,A7,r,rd,rn,rm,mv,rfl,w1,w2,w3,w4,w6⟩:=hw'.get hx;rw[wp A7];generalize ((ns.done t).take j).foldl (fgW (i+1)) kp=kp3 at mV ⊢;have Cd:=nr.dw t t1 Fd w5 (bF A7);refine⟨r,_,rfl,g3.sqT w1,rfl,_,_,rfl,_,_,rfl,_,_,rfl,_,_,rfl,rfl,?_⟩;have ml:=w6.len;refine⟨_,rfl,rm,rfl,⟨_,g3.sqT w4⟩,um (xs:=mv) (fun p σ H'=>∃e6,σ=[some (.ref (A5 .p)),some (.int (1+(i:Int))),some (.int w5.box),some (.ref rd),some (.ref rn),some (.ref rm),e6]/\Grow [A5 .dk] H2 H'/\NetAt K C H' A5 { ns with keep:=(w5.met.take p).foldl (fgM (i+1)) kp3 }) ⟨_,rfl,g3,mV⟩ (fun p σ H' _ ⟨_,_,g,_⟩=>g.sqT w4) ?_ ?_⟩;rotate_left
 ·rintro σ H' ⟨e6,rfl,g,nD⟩;rw[ml,cU] at nD;exact⟨_,_,_,_,_,rfl,g,nD⟩
 rintro p x σ H4 hx ⟨e6,rfl,g4,oz⟩;obtain⟨sw,ER,rs,rfl,hs⟩:=w6.get hx;rw[wp ER];generalize (w5.met.take p).foldl (fgM (i+1)) kp3=kp4 at oz ⊢;have GX:=g4.tup _ _ hs;obtain⟨m1,m2,m3⟩:=Cd.mt sw (bF ER);refine⟨_,rfl,rs,_,0,_,rfl,rfl,Jc GX,zN (j:=0) rfl,_,rfl,rfl,_,rfl,?_⟩;by_cases c:sw.1=i+1;rotate_left
 ·refine zR (decide_eq_false fun z=>c (by have:=V.int.inj z;omega)) ⟨_,rfl,g4,?_⟩;rw[show fgM (i+1) kp4 sw=kp4 from if_neg c];exact oz
 refine yI (decide_eq_true (congrArg V.int (by omega))) ⟨_,rfl,_,C,_,_,_,rfl,oz.ob.choose_spec,T.cl,T.n_keeping,uB,_,rfl,_,_,rfl,(tm (kp:=kp4) m1 m2 m3)▸vj.t oz.dk (xZ GX),_,_,rfl,rfl,_,UI.t oz.dk (xZ GX) (zC (cG (Xf k4))),?_⟩;have ep:xt (yh ns.k kp4) (kI [(sw.1:Int),(sw.2:Int)]) (.int (kp4 sw.1 sw.2-1))=yh ns.k (zQ kp4 sw.1 sw.2 (kp4 sw.1 sw.2-1)):=Xe m1 m2 m3;obtain⟨o8,g5⟩:=oz.setK (zQ kp4 sw.1 sw.2 (kp4 sw.1 sw.2-1));refine⟨_,rfl,g4.trans ?_,?_⟩
 ·show Grow _ _ (upd H4 (A5 .dk) (.dT (xt (yh ns.k kp4) (kI [(sw.1:Int),(sw.2:Int)]) (.int (kp4 sw.1 sw.2-1)))));rw[ep];exact g5
 ·show NetAt K C (upd H4 (A5 .dk) (.dT (xt (yh ns.k kp4) (kI [(sw.1:Int),(sw.2:Int)]) (.int (kp4 sw.1 sw.2-1))))) A5 _;rw[ep,show fgM (i+1) kp4 sw=zQ kp4 sw.1 sw.2 (kp4 sw.1 sw.2-1) from if_pos c];exact o8
theorem vw:FnScope ["self","lost","gone","stage"] ["self","lost"] (zh (zk (top 46) 2)):=⟨rfl,rfl,rfl,by decide +kernel,rfl,by decide +kernel,by decide +kernel⟩
theorem sK(F:FunD K "beat" "Net.beat" (zk (top 46) 2) f fd)(B:Blt mg){C:Addr}(T:NTxt K mg C)(Bt:zH P w K mg base C n "tell" ["self"] (qP C K))(pB:zH P w K mg base C n "pass_on" ["self","stage","gone"] (qO C K))(Bu:zH P w K mg base C n "take" ["self","gone"] (qM C K))(Af:zH P w K mg base C n "forget" ["self"] (uD C K))(mB:zo P w K mg base n "need_lost" ["k","thing"] (Zm K))     :
  FnOk P w K mg base CX0 (n+1) f fd ["self","lost"] (tw C K):=by
 refine F.ok vw yw (fun mz A outer s H vs Q E hr h=>?_);obtain⟨x,y,rfl,A5,ns,gone,ms,rfl,hg,hok,hn,nr,AC,nw,nt,hm,q⟩:=h;refine⟨_,(zc (zJ (i:=2) vw.nd rfl (aY rfl) (qp (wu (rp (pv 1))) (z7 zb) (pv 1))) (zc (yd (zi mB hr rfl (za (zI (pv 0) rfl) (za (pv 2) zb)))) (zc (WY (pv 0) ze Sb) (zc (yd (wG Af T.cl hr (pv 0))) (zc (yd (xf Bu T.cl hr (pv 0) (za (pv 2) zb))) (zc (yQ PassesOwn.never rfl (Vw rfl B.range (za (zI (pv 0) rfl) (za ze (za (WN jz ze) zb)))) (zm (i:=3) vw.nd rfl (aY rfl)) (zf (yd (xf pB T.cl hr (pv 0) (za (pv 3) (za (pv 2) zb)))))) (zf (zy (wG Bt T.cl hr (pv 0)))))))))),?_⟩;have k4:=nr.k4;refine tX (fun z H1=>Grow [] H H1/\wI K H1 z gone) (fun R hR=>?_) fun z H1 ⟨g1,BH⟩=>?_
 ·rcases hg with ⟨rfl,rfl⟩|hg
  ·refine⟨_,rfl,_,rfl,vJ ⟨szl rfl,fun t ht=>hR _ _ ⟨Grow.new ht _,t,[],rfl,SqT.of zd,trivial,by decide⟩⟩⟩
  ·obtain⟨r,ys,rfl,hg'⟩:=hg;exact⟨_,rfl,_,rfl,xM ⟨_,rfl,hR _ _ ⟨Grow.refl _ _,r,ys,rfl,hg'⟩⟩⟩
 have mD:=hn.grow0 g1;refine⟨_,rfl,_,C,_,_,_,rfl,mD.ob.choose_spec,T.cl,T.n_depth,yy,_,rfl,_,_,rfl,ns.k,gone,rfl,BH,k4,hok,fun H2 g2=>?_⟩;have mF:=mD.grow0 g2;have hg2:=BH.grow g2;obtain⟨dx,ho⟩:=mF.ob;obtain⟨mV,g3⟩:=mF.setNow ho (ns.now+1);refine⟨_,rfl,_,C,dx,_,_,rfl,ho,T.cl,T.n_now,Xh,_,_,rfl,rfl,dx,_,ho,by show(12:Nat)<1000;decide,?_⟩;have G3:Grow ms H _:=(g1.trans g2).wk.trans (g3.mono (m':=ms) fun b hb=>by rw[aB.mp hb];exact hm .p trivial);have hg3:=hg2.grow g3;have et:(fun i j:Int=>i+j) (ns.now:Int) 1=((ns.now+1:Nat):Int):=rfl;have mV:NetAt K C _ A5 (zu ns):=mV;rw[et];generalize upd H2 (A5 .p) _=H3 at mV g3 G3 hg3 ⊢;have CM:=nr.tick nw;refine⟨_,rfl,_,_,_,rfl,mV.ob.choose_spec,VT,_,rfl,A5,zu ns,rfl,mV,CM,fun H4 g4 oz=>?_⟩;have E4:=CM.forget;have G4:Grow ms H H4:=G3.trans (g4.mono (m':=ms) fun b hb=>by rw[aB.mp hb];exact hm .dk trivial);have hg4:=hg3.grow g4;have Ee:(zj (zu ns)).nd+1=(zj (zu ns)).now:=by show ns.nd+1=ns.now+1;omega
 refine⟨_,rfl,_,_,_,rfl,oz.ob.choose_spec,RF,_,rfl,_,_,rfl,A5,zj (zu ns),gone,ms,rfl,hg4,oz,E4,Ee,fun a ha=>hm a (by cases a <;> exact ha),fun A' H5 g5 ex o8=>?_⟩;have nr5:=E4.take (gone:=gone) Ee;have TD:=Ys gone (zj (zu ns));have eA:A' .p=A5 .p:=ex.1 .p trivial;have G5:=G4.trans g5;have E1:=hg4.grow g5;have GY:(zW gone (zj (zu ns))).k=ns.k:=TD.k;have nq5:∀a,okA (zW gone (zj (zu ns))) a->A' a∈A' (.dn (ns.nd+1))::ms:=fun a ha=>by
  by_cases c:a=.dn (ns.nd+1)
  ·rw[c];exact aU ..
  ·have ho:okA ns a:=by
    cases a with
    |ln l j=>exact⟨by rw[←GY];exact ha.1,by rw[←GY];exact ha.2⟩
    |dn t =>
     have h2:t<=(zW gone (zj (zu ns))).nd:=ha.2;rw[TD.nd] at h2;have h2:t<=ns.nd+1:=h2;refine⟨ha.1,?_⟩;have:t≠ns.nd+1:=fun e=>c (by rw[e]);omega
    |_=>trivial
   rw[ex.1 a (by cases a <;> exact ho)];exact aK _ (hm a ho)
 have hdn:H (A' (.dn (ns.nd+1)))=none:=by
  have z4:H4 (A' (.dn (ns.nd+1)))=none:=ex.2;have z3:H3 (A' (.dn (ns.nd+1)))=none:=g4.free (fun z=>by rw[aB.mp z,oz.dk] at z4;cases z4) z4;have z2:H2 (A' (.dn (ns.nd+1)))=none:=g3.free (fun z=>by
   obtain⟨dx,ho⟩:=mV.ob;rw[aB.mp z,ho] at z3;cases z3) z3
  exact(g1.trans g2).free (by simp) z2
 have exA:JB H A5 A' ns:=⟨fun a ha=>ex.1 a (by cases a <;> exact ha),hdn⟩
 rw[←eA];have BM:zA gone ns=passA gone (zW gone (zj (zu ns))) ns.k:=rfl;have BN:beatS gone ns=VP (zA gone ns):=rfl;rw[BN] at q;rw[BM] at q nt;clear BM BN TD;generalize zW gone (zj (zu ns))=n5 at *
 have e0:((n5.k:Int)-0).toNat=n5.k:=by omega
 refine⟨_,rfl,_,C,_,_,_,rfl,o8.ob.choose_spec,T.cl,T.n_depth,yy,_,rfl,_,_,rfl,by omega,by omega,by omega,by omega,XY (fun i σ H'=>∃e3,σ=[some (.ref (A' .p)),some y,some z,e3]/\Grow (A' (.dn (ns.nd+1))::ms) H5 H'/\NetAt K C H' A' (passA gone n5 i)) ⟨_,rfl,Grow.refl _ _,o8⟩ ?_ ?_⟩
 ·rintro i σ H6 hi ⟨e3,rfl,g6,An⟩;rw[e0] at hi;have sm:=y6 gone n5 i;have Fe:=nr5.passA (gone:=gone) (i:=i) (by omega);rw[uH];generalize passA gone n5 i=n6 at An sm Fe ⊢;have ek6:=sm.k;exact⟨_,rfl,_,_,_,rfl,An.ob.choose_spec,Wa,_,rfl,_,rfl,_,_,_,rfl,A',n6,n6.k-i,gone,A' (.dn (ns.nd+1))::ms,rfl,congrArg V.int (by omega),E1.grow g6,by omega,by omega,An,Fe,fun a ha=>nq5 a (Xo sm ha),fun H7 g7 D8=>⟨_,rfl,g6.trans g7,D8⟩⟩
 rintro σ H6 ⟨e3,rfl,g6,An⟩;rw[e0,GY] at An;have sm:=y6 gone n5 ns.k;have Fe:=nr5.passA (gone:=gone) (i:=ns.k) (by omega);refine⟨_,rfl,_,_,_,rfl,An.ob.choose_spec,RG,_,rfl,A',passA gone n5 ns.k,A' (.dn (ns.nd+1))::ms,rfl,An,Fe,nt,fun a ha=>nq5 a (Xo sm ha),fun u l H7 g7 D8 tel pm pw=>?_⟩;have G7:Grow (A' (.dn (ns.nd+1))::ms) H H7:=(G5.mono (m':=A' (.dn (ns.nd+1))::ms) fun b hb=>aK _ hb).trans (g6.trans g7);exact q A' u l H7 (G7.less fun b hb=>by
  rcases aS.mp hb with rfl|hb
  ·exact .inr hdn
  ·exact .inl hb) exA D8 tel pm pw
theorem ZX:FnScope ["k","thing"] ["k","thing"] (zh (top 30)):=⟨rfl,rfl,rfl,by decide +kernel,rfl,by decide +kernel,by decide +kernel⟩
theorem ZY(F:Fun K "need_hand" "need_hand" (top 30) f fd)(B:Blt mg)(mB:zo P w K mg base n "is_line" ["k","thing"] (ux K))     :
  FnOk P w K mg base CX0 (n+1) f fd ["k","thing"] (uM K):=by
 refine F.ok ZX yw (fun mz A outer s H vs Q E hr h=>?_);obtain⟨x,y,rfl,k,l,rfl,rfl,k4,hl,q⟩:=h;refine⟨_,(zf (zT (yz (yG (zi mB hr rfl (za (pv 0) (za (pv 1) zb))))) (zf xP) zx)),?_⟩;exact⟨_,rfl,_,rfl,_,_,rfl,k,l,rfl,rfl,k4,hl,_,rfl,xM q⟩
theorem UC:FnScope ["thing"] ["thing"] (zh (top 14)):=⟨rfl,rfl,rfl,by decide +kernel,rfl,by decide +kernel,by decide +kernel⟩
theorem UD(F:Fun K "is_end" "is_end" (top 14) f fd)(B:Blt mg)(mB:zo P w K mg base n "is_whole" ["thing"] (xE K))     :
  FnOk P w K mg base CX0 (n+1) f fd ["thing"] (jO K):=by
 refine F.ok UC yT (fun mz A outer s H vs Q E hr h=>?_);obtain⟨x,rfl,kn,q⟩:=h;refine⟨_,(zf (zy (SU (Qm (rp (pv 0))) (wB (zi mB hr rfl (za (pv 0) zb)))))),?_⟩;refine⟨x,rfl,_,rfl,?_⟩;cases x with
 |non=>exact vJ q
 |_=>exact xM ⟨_,rfl,_,rfl,kn,q⟩
theorem wX:FnScope ["thing","add","low","high"] ["thing"] (zh (top 15)):=⟨rfl,rfl,rfl,by decide +kernel,rfl,by decide +kernel,by decide +kernel⟩
theorem WE(F:Fun K "is_deed" "is_deed" (top 15) f fd)(B:Blt mg)(mB:zo P w K mg base n "is_end" ["thing"] (jO K))(nk:zo P w K mg base n "is_whole" ["thing"] (xE K))     :
  FnOk P w K mg base CX0 (n+1) f fd ["thing"] (rJ K):=by
 refine F.ok wX yT (fun mz A outer s H vs Q E hr h=>?_);obtain⟨x,rfl,h⟩:=h;refine⟨_,(zc (zT (PW.pt (uj (yz (yG (zp xb rfl B.isinstance zX (za (pv 0) (za (wZ rfl B.tuple yS) zb))))) (wv (zE jA (zp zv rfl B.len xh (za (pv 0) zb)) ze (zG _))))) (zf (zy xT)) zx) (zc (xB (pv 0) (xA rfl (zq (zm (i:=1) wX.nd rfl (aY rfl)) (zq (zm (i:=2) wX.nd rfl (aY rfl)) (zq (zm (i:=3) wX.nd rfl (aY rfl)) yA))))) (zc (zT (yz (PW.pt (ww (yG (zi nk hr rfl (za (pv 1) zb))) (ww (yG (zi mB hr rfl (za (pv 2) zb))) (xU (yG (zi mB hr rfl (za (pv 3) zb)))))))) (zf (zy xT)) zx) (zc (zT (PW.pt (uj (wu (rp (pv 2))) (wv (wu (rp (pv 3)))))) (zf (zy xT)) zx) (zf (zy (SU (xW vg (pv 2) (pv 3) (zG _)) (wB (vC (xW vF (pv 2) (pv 3) (zG _)) (wB (xW vF (pv 1) ze (zG _)))))))))))),?_⟩;rcases h with ⟨T,hT,ty,q⟩|⟨a,xs,rfl,hs,hk,q⟩
 ·have kt:kr K (.type T) (.type "tuple")=some false:=by
   cases x with
   |non=>cases(show T = "NoneType" from ty);rfl
   |bl y=>cases(show T = "bool" from ty);rfl
   |int i=>cases(show T = "int" from ty);rfl
   |str y=>cases(show T = "str" from ty);rfl
   |byt y=>exact ty.elim
   |flt y=>exact ty.elim
   |ty y=>exact ty.elim
   |ref a =>
    rcases ty with ⟨rfl,xs,hq⟩|⟨rfl,xs,hq⟩|⟨rfl,kvs,hq⟩
    ·exact absurd rfl hT
    ·rfl
    ·rfl
  exact⟨_,rfl,_,_,_,false,rfl,ty,kt,_,rfl,vJ (vJ q)⟩
 ·refine⟨_,rfl,_,_,_,true,rfl,.inl ⟨rfl,xs,hs⟩,rfl,_,rfl,xM ⟨_,rfl,a,xs,rfl,.inr hs,rfl,_,rfl,?_⟩⟩;by_cases hl:xs.length=3
  ·obtain⟨y1,y2,y3,rfl⟩:=zbi hl;refine xM ⟨_,rfl,a,_,rfl,hs,rfl,_,_,rfl,_,_,rfl,_,_,rfl,rfl,?_⟩;refine⟨_,rfl,_,rfl,hk y1 (by simp),_,rfl,?_⟩;refine UF (fun c1=>?_) (fun c1=>?_)
   ·obtain⟨i1,rfl⟩:=Va c1;refine⟨_,rfl,_,rfl,hk y2 (by simp),_,rfl,?_⟩;refine UF (fun c2=>?_) (fun c2=>?_)
    ·obtain⟨o2,rfl⟩:=Sg c2;refine⟨_,rfl,_,rfl,hk y3 (by simp),_,rfl,?_⟩;by_cases c3:XN y3=true
     ·obtain⟨o3,rfl⟩:=Sg c3;rw[c3];refine xM ?_;cases o2 with
      |none=>exact⟨_,rfl,_,rfl,vJ (vJ (by cases o3 <;> exact q))⟩
      |some l =>
       cases o3 with
       |none=>exact⟨_,rfl,_,rfl,xM ⟨_,rfl,_,rfl,vJ q⟩⟩
       |some u =>
        refine⟨_,rfl,_,rfl,xM ⟨_,rfl,_,rfl,xM ?_⟩⟩;refine⟨_,rfl,_,rfl,_,_,rfl,rfl,_,rfl,?_⟩;have q':Q (.bl (decide (l<u) || (decide (l=u) && decide (i1=0)))) H:=q;refine UF (fun c=>?_) (fun c=>?_)
        ·rw[c] at q';exact q'
        ·rw[iR.mpr c] at q';refine⟨_,rfl,_,rfl,rfl,_,rfl,?_⟩;refine UF (fun d=>?_) (fun d=>?_)
         ·have d':l=u:=V.int.inj (of_decide_eq_true d);refine⟨_,rfl,rfl,?_⟩;rw[decide_eq_true d'] at q';have e:decide (V.int i1=V.int 0)=decide (i1=0):=by simp
          rw[e];exact q'
         ·have d':¬l=u:=fun z=>d (by rw[z];simp);rw[decide_eq_false d'] at q';exact q'
     ·have e:XN y3=false:=iR.mpr c3;rw[e];refine vJ ?_;have z:uq [V.int i1,ov o2,y3]=false:=by show(true && (XN (ov o2) && (XN y3 && _)))=false;rw[e];simp
      rw[z] at q;exact q
    ·have e:XN y2=false:=iR.mpr c2;refine vJ ?_;have z:uq [V.int i1,y2,y3]=false:=by show(true && (XN y2 && (XN y3 && _)))=false;rw[e];simp
     rw[z] at q;exact q
   ·have e:jN y1=false:=iR.mpr c1;refine vJ ?_;have z:uq [y1,y2,y3]=false:=by show(jN y1 && (XN y2 && (XN y3 && _)))=false;rw[e];simp
    rw[z] at q;exact q
  ·have e:decide (V.int (xs.length:Int)=V.int 3)=false:=decide_eq_false fun z=>hl (by have:=V.int.inj z;omega);rw[e];refine vJ ?_;rw[Z7 hl] at q;exact q
theorem uf:FnScope ["board","thing","hand","box","deed"] ["board","thing"] (zh (top 24)):=⟨rfl,rfl,rfl,by decide +kernel,rfl,by decide +kernel,by decide +kernel⟩
theorem UE(F:Fun K "is_ask" "is_ask" (top 24) f fd)(B:Blt mg)(mB:zo P w K mg base n "is_deed" ["thing"] (rJ K))(nk:zo P w K mg base n "is_within" ["thing","least","greatest"] (yi K)){mR:Tok}(oY:mg "LAST_HAND" = some (.int 15 mR))  :
  FnOk P w K mg base CX0 (n+1) f fd ["board","thing"] (Zn K):=by
 refine F.ok uf yw (fun mz A outer s H vs Q E hr h=>?_);obtain⟨x,y,rfl,l,xs,k,rfl,hb,⟨r,rd,rfl,h1,h2⟩,⟨k1,k2,k3,k4,k5⟩,q⟩:=h;refine⟨_,(zc (zT (PW.pt (uj (yz (yG (zp xb rfl B.isinstance zX (za (pv 1) (za (wZ rfl B.tuple yS) zb))))) (wv (zE jA (zp zv rfl B.len xh (za (pv 1) zb)) ze (zG _))))) (zf (zy xT)) zx) (zc (xB (pv 1) (xA rfl (zq (zm (i:=2) uf.nd rfl (aY rfl)) (zq (zm (i:=3) uf.nd rfl (aY rfl)) (zq (zm (i:=4) uf.nd rfl (aY rfl)) yA))))) (zf (zy (vC (zi nk hr rfl (za (pv 2) (za ze (za (ui rfl oY (show z8 (.int 15) (.int 15 mR) from⟨_,rfl⟩)) zb)))) (vC (zi nk hr rfl (za (pv 3) (za ze (za (zw yp (zp zv rfl B.len xh (za (pv 0) zb)) ze) zb)))) (wB (zi mB hr rfl (za (pv 4) zb))))))))),?_⟩;refine⟨_,rfl,_,_,_,true,rfl,.inl ⟨rfl,_,h1⟩,rfl,_,rfl,xM ⟨_,rfl,r,_,rfl,.inr h1,rfl,_,rfl,xM ?_⟩⟩;refine⟨_,rfl,r,_,rfl,h1,rfl,_,_,rfl,_,_,rfl,_,_,rfl,rfl,?_⟩;refine⟨_,rfl,_,_,_,rfl,_,_,_,rfl,rfl,rfl,_,rfl,yI (by rw[decide_eq_true k1,decide_eq_true k2];rfl) ?_⟩;refine⟨_,rfl,_,rfl,l,_,rfl,.inl hb,_,_,rfl,rfl,_,_,_,rfl,_,_,_,rfl,rfl,rfl,_,rfl,yI (by rw[decide_eq_true k3,decide_eq_true (show k.box<=(xs.length:Int)-1 by omega)];rfl) ?_⟩;refine⟨_,rfl,_,rfl,.inr ⟨rd,_,rfl,h2,?_,?_⟩⟩
 ·intro v hv;simp only[Deed.vs,aS,hV,or_false] at hv;rcases hv with rfl|rfl|rfl
  ·exact YZ
  ·exact QK _
  ·exact QK _
 ·rw[XO k5];exact q
theorem wl:FnScope ["self","ask","hand","box","deed","number"] ["self","ask"] (zh (zk (top 46) 1)):=⟨rfl,rfl,rfl,by decide +kernel,rfl,by decide +kernel,by decide +kernel⟩
theorem WF(F:Fun K "put" "Net.put" (zk (top 46) 1) f fd)(B:Blt mg){C:Addr}(T:NTxt K mg C)(mB:zo P w K mg base n "need_hand" ["k","thing"] (uM K))(nk:zo P w K mg base n "is_ask" ["board","thing"] (Zn K)){mS:Tok}(oZ:mg "MOST_ASKS" = some (.int 40 mS))  :
  FnOk P w K mg base CX0 (n+1) f fd ["self","ask"] (Yq C K):=by
 refine F.ok wl yw (fun mz A outer s H vs Q E hr h=>?_);obtain⟨x,y,rfl,A5,ns,a,ms,rfl,ha,hn,nr,ok,hh,a40,hm,q⟩:=h;refine⟨_,(zc (zT (yz (yG (zi nk hr rfl (za (zI (pv 0) rfl) (za (pv 1) zb))))) (zf xP) zx) (zc (xB (pv 1) (xA rfl (zq (zm (i:=2) wl.nd rfl (aY rfl)) (zq (zm (i:=3) wl.nd rfl (aY rfl)) (zq (zm (i:=4) wl.nd rfl (aY rfl)) yA))))) (zc (yd (zi mB hr rfl (za (zI (pv 0) rfl) (za (pv 2) zb)))) (zc (zJ (i:=5) wl.nd rfl (aY rfl) (zp zv rfl B.len xh (za (zI (pv 0) rfl) zb))) (zc (zT (zE vF (pv 5) (ui rfl oZ (show z8 (.int 40) (.int 40 mS) from⟨_,rfl⟩)) (zG _)) (zf xP) zx) (zc (yd (uo bY dG dH xD (zI (pv 0) rfl) (za (pv 1) zb))) (zc (yd (uo bY dG dH xD (yZ (Room.u1F hr) (zI (pv 0) rfl) (z7 (za ze (za (pv 2) zb))) (fun _ _=>rfl)) (za (z7 (za (pv 3) (za (pv 4) (za (z7 (za (pv 5) zb)) (za (z7 zb) zb))))) zb))) (zf (zy (pv 5)))))))))),?_⟩;have k4:=nr.k4;obtain⟨xs,m8,Bm⟩:=hn.la;have e1:=Bm.len;have bl:(ns.boxes.map V.int).length=ns.boxes.length:=aG ..;refine⟨_,rfl,_,C,_,_,_,rfl,hn.ob.choose_spec,T.cl,T.n_boxes,vS,_,rfl,_,_,rfl,A5 .lb,_,a,rfl,SqL.of hn.lb,ha,by rw[bl];exact ok,_,rfl,xM ?_⟩;obtain⟨r,rd,rfl,h1,h2⟩:=ha;obtain⟨k1,k2,k3,k5,k6⟩:=ok;have eh:a.hand=((a.hand.toNat:Nat):Int):=(fz k1).symm;have eb:a.box=((a.box.toNat:Nat):Int):=(fz k3).symm;have Bl:a.hand.toNat<2 ^ ns.k:=by omega
 refine⟨_,rfl,r,_,rfl,h1,rfl,_,_,rfl,_,_,rfl,_,_,rfl,rfl,?_⟩;refine⟨_,rfl,_,C,_,_,_,rfl,hn.ob.choose_spec,T.cl,T.n_depth,yy,_,rfl,_,_,rfl,ns.k,a.hand.toNat,rfl,congrArg V.int eh,k4,Bl,?_⟩;have GM:¬(V.int (ns.asks.length:Int)=V.int 40):=fun h=>by
  have h:(ns.asks.length:Int)=40:=by injection h
  omega
 refine⟨_,rfl,_,C,_,_,_,rfl,hn.ob.choose_spec,T.cl,T.n_asks,t9,_,_,rfl,.inl (SqL.of m8),VE (congrArg V.int (congrArg iE e1)) ?_⟩;refine⟨_,rfl,rfl,_,rfl,zR (decide_eq_false GM) ?_⟩;have Gk:=Bm.app (.one (show vM K H (.ref r) a from⟨r,rd,rfl,h1,h2⟩));obtain⟨mD,g1⟩:=hn.setA Gk;refine⟨_,rfl,_,C,_,_,_,rfl,hn.ob.choose_spec,T.cl,T.n_asks,t9,.inl ⟨rfl,_,SqL.of m8⟩,_,rfl,A5 .la,xs,.ref r,rfl,rfl,m8,zC (by omega),?_⟩;have G1:=g1.mono (m':=ms) fun b hb=>by rw[aB.mp hb];exact hm .la trivial
 have CT:=g1.sqT h2;generalize upd H (A5 .la) (.lst (xs++[.ref r]))=H1 at mD g1 G1 CT ⊢;refine⟨_,rfl,_,C,_,_,_,rfl,mD.ob.choose_spec,T.cl,T.n_lines,tq,_,rfl,szl rfl,fun t ht=>?_⟩;have gt:=Grow.new (m:=[]) ht (.tup [.int 0,.int a.hand]);have kt:upd H1 t (.tup [.int 0,.int a.hand]) t=some (.tup [.int ((0:Nat):Int),.int ((a.hand.toNat:Nat):Int)]):=by rw[zd,←eh];rfl
 have mF:=mD.grow0 gt;have G2:=G1.trans (gt.wk (m:=ms));have h22:=gt.sqT CT;refine⟨_,_,rfl,(tj (A:=A5) (aX ns.k) Bl)▸vj.t mF.dl (xZ kt),?_⟩;generalize upd H1 t _=H2 at gt kt mF G2 h22 ⊢;obtain⟨ys,nU,hw⟩:=mF.ln (l:=0) (j:=a.hand.toNat) (aX _) Bl;have BD:yJ (Ze K H2) ys (ns.lines 0 a.hand.toNat):=hw;have ll:=(Zi nr (l:=0) (aX _) Bl).1;have yl:=BD.len;refine⟨.inl ⟨rfl,_,SqL.of nU⟩,_,rfl,_,rfl,_,rfl,szl rfl,fun t1 nP=>⟨szl rfl,fun t2 AK=>⟨szl rfl,fun t3 Al=>?_⟩⟩⟩;have f1:=Grow.new (m:=[]) nP (.tup [.int (ns.asks.length:Int)]);have f2:=Grow.new (m:=[]) AK (.tup []);have s1:upd H2 t1 (.tup [.int (ns.asks.length:Int)]) t1=some (.tup [.int (ns.asks.length:Int)]):=zd;have s2:upd (upd H2 t1 (.tup [.int (ns.asks.length:Int)])) t2 (.tup []) t2=some (.tup []):=zd;have f3:=Grow.new (m:=[]) Al (.tup [.int a.box,.ref rd,.ref t1,.ref t2]);have F3:=f1.trans (f2.trans f3);have w0:Ze K (upd (upd (upd H2 t1 (.tup [.int (ns.asks.length:Int)])) t2 (.tup [])) t3 (.tup [.int a.box,.ref rd,.ref t1,.ref t2])) (.ref t3) ⟨a.box.toNat,a.deed,[ns.asks.length],[]⟩:=by
  refine⟨t3,rd,t1,t2,[],rfl,?_,F3.sqT h22,SqT.of ((f2.trans f3).tup _ _ s1),SqT.of (f3.tup _ _ s2),trivial⟩;show SqT K _ t3 [.int ((a.box.toNat:Nat):Int),.ref rd,.ref t1,.ref t2];rw[←eb];exact SqT.of zd
 have mV:=mF.grow0 F3;have G3:=G2.trans (F3.wk (m:=ms));have nX:=F3.keep _ _ (by simp) nU;have hw3:=BD.imp fun _ _ z=>z.grow F3;generalize upd (upd (upd H2 t1 _) t2 _) t3 _=H3 at w0 mV G3 nX hw3 ⊢;obtain⟨oz,g4⟩:=mV.setLn (l:=0) (j:=a.hand.toNat) (aX _) Bl (hw3.app (.one w0));refine⟨_,ys,_,rfl,rfl,nX,zC (by omega),?_⟩;exact⟨_,rfl,q _ (G3.trans (g4.mono fun b hb=>by rw[aB.mp hb];exact hm (.ln 0 a.hand.toNat) ⟨aX _,Bl⟩)) oz⟩
theorem YM:FnScope ["thing"] ["thing"] (zh (top 22)):=⟨rfl,rfl,rfl,by decide +kernel,rfl,by decide +kernel,by decide +kernel⟩
theorem YN(F:Fun K "is_board" "is_board" (top 22) f fd)(B:Blt mg)(mB:zo P w K mg base n "is_whole" ["thing"] (xE K)){mO:Tok}(oA:mg "MOST_BOXES" = some (.int 16 mO))  :
  FnOk P w K mg base CX0 (n+1) f fd ["thing"] (tQ K):=by
 refine F.ok YM yT (fun mz A outer s H vs Q E hr h=>?_);obtain⟨x,rfl,b,⟨r,rfl,hs⟩,b1,b2,q⟩:=h;refine⟨_,(zc (zT (PW.pt (uj (yz (yG (zp xb rfl B.isinstance zX (za (pv 0) (za (wZ rfl B.tuple yS) zb))))) (wv (yz (YU XD XD ze (zp zv rfl B.len xh (za (pv 0) zb)) (ui rfl oA (show z8 (.int 16) (.int 16 mO) from⟨_,rfl⟩))))))) (zf (zy xT)) zx) (zf (zy (zp (tO rfl) rfl B.all Ri (za (wO (CSc.of (N':=["value"]) (sub:=[none]) (zh (top 22)) ["thing"] rfl rfl (by decide +kernel) rfl) rfl (vD (pv 0)) (fun _ _ _ _ _ _=>zm (i:=0) (show(["value"]:List Str).Nodup by decide +kernel) rfl (aY rfl)) (fun _ _ _ _ _ _=>xc) (fun _ _ _ _ _ _=>(zi mB hr rfl (za (pv 0) zb)))) zb))))),?_⟩;have hl:(b.map V.int).length=b.length:=aG ..;refine⟨_,rfl,_,_,_,true,rfl,.inl ⟨rfl,_,hs⟩,rfl,_,rfl,xM ?_⟩;refine⟨_,rfl,r,_,rfl,.inr hs,_,_,rfl,rfl,_,rfl,yI (decide_eq_true (by rw[hl];omega)) ⟨_,_,rfl,rfl,_,rfl,zR (by rw[decide_eq_true (show((b.map V.int).length:Int)<=16 by rw[hl];omega)];rfl) ?_⟩⟩;refine⟨_,rfl,r,rfl,⟨_,hs⟩,jS (fun _=>V.bl true) hs (by rw[hl];omega) ?_ ?_⟩
 ·intro x H1 R hx g k;obtain⟨i,_,rfl⟩:=aW.mp hx;exact⟨_,rfl,_,rfl,YZ,k _ (Grow.refl _ _)⟩
 ·intro H1 p g hp;refine⟨p,b.map (fun _=>true),rfl,SqL.of (by rw[zd,U8]),?_⟩;rw[jT];exact q _ (g.trans (Grow.new hp _))
theorem jl:FnScope ["thing"] ["thing"] (zh (top 23)):=⟨rfl,rfl,rfl,by decide +kernel,rfl,by decide +kernel,by decide +kernel⟩
theorem jm(F:Fun K "need_board" "need_board" (top 23) f fd)(B:Blt mg)(mB:zo P w K mg base n "is_board" ["thing"] (tQ K))     :
  FnOk P w K mg base CX0 (n+1) f fd ["thing"] (vN K):=by
 refine F.ok jl yT (fun mz A outer s H vs Q E hr h=>?_);obtain⟨x,rfl,b,hb,b1,b2,q⟩:=h;refine⟨_,(zf (zT (yz (yG (zi mB hr rfl (za (pv 0) zb)))) (zf xP) zx)),?_⟩;exact⟨_,rfl,_,rfl,b,hb,b1,b2,fun H1 g1=>⟨_,rfl,xM (q _ g1)⟩⟩
theorem jn:FnScope ["room","kept"] ["room","kept"] (zh (top 42)):=⟨rfl,rfl,rfl,by decide +kernel,rfl,by decide +kernel,by decide +kernel⟩
theorem jo(F:Fun K "need_sizes" "need_sizes" (top 42) f fd)(B:Blt mg)(mB:zo P w K mg base n "is_within" ["thing","least","greatest"] (yi K)){mT:Tok}(o4:mg "MOST_KEPT" = some (.int 6 mT)){mU:Tok}(o5:mg "MOST_ROOM" = some (.int 6 mU))  :
  FnOk P w K mg base CX0 (n+1) f fd ["room","kept"] (Zl K):=by
 refine F.ok jn yw (fun mz A outer s H vs Q E hr h=>?_);obtain⟨x,y,rfl,room,kept,rfl,rfl,r1,r6,k6,q⟩:=h;refine⟨_,(zf (zT (PW.pt (uj (yz (yG (zi mB hr rfl (za (pv 0) (za ze (za (ui rfl o5 (show z8 (.int 6) (.int 6 mU) from⟨_,rfl⟩)) zb)))))) (wv (yz (yG (zi mB hr rfl (za (pv 1) (za ze (za (ui rfl o4 (show z8 (.int 6) (.int 6 mT) from⟨_,rfl⟩)) zb))))))))) (zf xP) zx)),?_⟩;refine⟨_,rfl,_,_,_,rfl,_,_,_,rfl,rfl,rfl,_,rfl,zR (by rw[decide_eq_true (show(1:Int)<=room by omega),decide_eq_true (show(room:Int)<=6 by omega)];rfl) ?_⟩;exact⟨_,rfl,_,_,_,rfl,_,_,_,rfl,rfl,rfl,_,rfl,zR (by rw[decide_eq_true (show(0:Int)<=kept by omega),decide_eq_true (show(kept:Int)<=6 by omega)];rfl) q⟩
theorem YO:FnScope ["thing"] ["thing"] (zh (top 27)):=⟨rfl,rfl,rfl,by decide +kernel,rfl,by decide +kernel,by decide +kernel⟩
theorem YQ(F:Fun K "need_net" "need_net" (top 27) f fd)(B:Blt mg)(mB:zo P w K mg base n "is_within" ["thing","least","greatest"] (yi K)){m9:Tok}(Ag:mg "DEEPEST" = some (.int 4 m9))  :
  FnOk P w K mg base CX0 (n+1) f fd ["thing"] (tS K):=by
 refine F.ok YO yT (fun mz A outer s H vs Q E hr h=>?_);obtain⟨x,rfl,k,rfl,k4,q⟩:=h;refine⟨_,(zf (zT (yz (yG (zi mB hr rfl (za (pv 0) (za ze (za (ui rfl Ag (show z8 (.int 4) (.int 4 m9) from⟨_,rfl⟩)) zb)))))) (zf xP) zx)),?_⟩;exact⟨_,rfl,_,_,_,rfl,_,_,_,rfl,rfl,rfl,_,rfl,zR (by rw[decide_eq_true (show(0:Int)<=k by omega),decide_eq_true (show(k:Int)<=4 by omega)];rfl) q⟩
theorem sL:FnScope ["self","k","board","room","kept"] ["self","k","board","room","kept"] (zh (zk (top 46) 0)):=⟨rfl,rfl,rfl,by decide +kernel,rfl,by decide +kernel,by decide +kernel⟩
theorem sM(F:Fun K "__init__" "Net.__init__" (zk (top 46) 0) f fd)(B:Blt mg){C:Addr}(T:NTxt K mg C)(mB:zo P w K mg base n "need_board" ["thing"] (vN K))(nk:zo P w K mg base n "need_sizes" ["room","kept"] (Zl K))(Cb:zo P w K mg base n "need_net" ["thing"] (tS K))     :
  FnOk P w K mg base CX0 (n+1) f fd ["self","k","board","room","kept"] (qT C K):=by
 refine F.ok sL Rr (fun mz A outer s H vs Q E hr h=>?_);obtain⟨x,y,z,u,w,rfl,p,dx,k,room,kept,b,rfl,rfl,hb,rfl,rfl,k4,b1,b16,r1,r6,k6,hp,q⟩:=h;refine⟨_,(zc (yd (zi Cb hr rfl (za (pv 1) zb))) (zc (yd (zi nk hr rfl (za (pv 3) (za (pv 4) zb)))) (zc (yd (zi mB hr rfl (za (pv 2) zb))) (zc (wx (pv 0) (pv 1) rfl) (zc (wx (pv 0) (pv 3) rfl) (zc (wx (pv 0) (pv 4) rfl) (zc (wx (pv 0) (zY uK rfl B.list W7 (za (pv 2) zb)) rfl) (zc (wx (pv 0) (xQ zb) rfl) (zc (wx (pv 0) ze rfl) (zc (wx (pv 0) (Xk (Room.u1F hr) (CSc.of (N':=["level","line","k"]) (sub:=[none,none,some 1]) (zh (zk (top 46) 0)) ["self","k","board","room","kept"] rfl rfl (by decide +kernel) rfl) rfl (ya rfl B.range (za (zw yo (pv 1) ze) zb)) (fun _ _ _ _ _ _=>zm (i:=0) (show(["level","line","k"]:List Str).Nodup by decide +kernel) rfl (aY rfl)) (fun _ _ _ _ _ _=>(ya rfl B.range (za (zw xC ze (pv 2)) zb))) (fun _ _ _ _ _ _=>zm (i:=1) (show(["level","line","k"]:List Str).Nodup by decide +kernel) rfl (aY rfl)) (fun _ _ _ _ _ _=>xc) (fun _ _ _ _ _ _=>(z7 (za (pv 0) (za (pv 1) zb)))) (fun _ _ _ _ _ _=>(xQ zb))) rfl) (zc (wx (pv 0) (Xk (Room.u1F hr) (CSc.of (N':=["stage","number","k"]) (sub:=[none,none,some 1]) (zh (zk (top 46) 0)) ["self","k","board","room","kept"] rfl rfl (by decide +kernel) rfl) rfl (jw rfl B.range (za ze (za (zw yo (pv 1) ze) zb))) (fun _ _ _ _ _ _=>zm (i:=0) (show(["stage","number","k"]:List Str).Nodup by decide +kernel) rfl (aY rfl)) (fun _ _ _ _ _ _=>(ya rfl B.range (za (zw xC ze (zw yp (pv 2) ze)) zb))) (fun _ _ _ _ _ _=>zm (i:=1) (show(["stage","number","k"]:List Str).Nodup by decide +kernel) rfl (aY rfl)) (fun _ _ _ _ _ _=>xc) (fun _ _ _ _ _ _=>(z7 (za (pv 0) (za (pv 1) zb)))) (fun _ _ _ _ _ _=>ze)) rfl) (zc (wx (pv 0) u9 rfl) (zc (wx (pv 0) (xQ zb) rfl) (zc (wx (pv 0) u9 rfl) (zf (wx (pv 0) u9 rfl)))))))))))))))),?_⟩;have pW:=tR k4;refine⟨_,rfl,_,rfl,k,rfl,k4,⟨_,rfl,_,rfl,_,_,rfl,room,kept,rfl,rfl,r1,r6,k6,⟨_,rfl,_,rfl,b,hb,b1,b16,fun H1 g1=>?_⟩⟩⟩;have BF:∀l j,(t4 k b room kept).lines l j=[]:=fun _ _=>rfl
 have P0:Part K C p H H1 (fun _=>p) (t4 k b room kept) fun _=>False:=(Part.nil hp).grow0 g1;have e0:=g1.keep _ _ (by simp) hp;have A9:=g1.board hb;have e1:=e0;refine⟨_,rfl,_,rfl,p,C,dx,_,rfl,e0,T.cl,T.n_depth,(by show(0:Nat)<1000;decide),?_⟩;rw[V4]
 replace P0:=P0.setP (fs':=([("depth",V.int k)]:List (Str×V))) e0
 replace e0:upd H1 p (.ins C dx ([("depth",V.int k)]:List (Str×V))) p=some (.ins C dx [("depth",V.int k)]):=zd
 replace A9:=(Grow.setI (m:=[p]) e1 (by simp) (.ins C dx ([("depth",V.int k)]:List (Str×V)))).board A9
 clear e1;generalize upd H1 p _=H2 at P0 e0 A9 ⊢;have e1:=e0;refine⟨_,rfl,_,rfl,p,C,dx,_,rfl,e0,T.cl,T.n_room,(by show(1:Nat)<1000;decide),?_⟩;rw[TC]
 replace P0:=P0.setP (fs':=([("depth",V.int k),("room",V.int room)]:List (Str×V))) e0
 replace e0:upd H2 p (.ins C dx ([("depth",V.int k),("room",V.int room)]:List (Str×V))) p=some (.ins C dx [("depth",V.int k),("room",V.int room)]):=zd
 replace A9:=(Grow.setI (m:=[p]) e1 (by simp) (.ins C dx ([("depth",V.int k),("room",V.int room)]:List (Str×V)))).board A9
 clear e1;generalize upd H2 p _=H3 at P0 e0 A9 ⊢;have e1:=e0;refine⟨_,rfl,_,rfl,p,C,dx,_,rfl,e0,T.cl,T.n_most_kept,(by show(2:Nat)<1000;decide),?_⟩;rw[qS]
 replace P0:=P0.setP (fs':=([("depth",V.int k),("room",V.int room),("most_kept",V.int kept)]:List (Str×V))) e0
 replace e0:upd H3 p (.ins C dx ([("depth",V.int k),("room",V.int room),("most_kept",V.int kept)]:List (Str×V))) p=some (.ins C dx [("depth",V.int k),("room",V.int room),("most_kept",V.int kept)]):=zd
 replace A9:=(Grow.setI (m:=[p]) e1 (by simp) (.ins C dx ([("depth",V.int k),("room",V.int room),("most_kept",V.int kept)]:List (Str×V)))).board A9
 clear e1;generalize upd H3 p _=H4 at P0 e0 A9 ⊢;obtain⟨rb,rfl,hrb⟩:=A9;refine⟨_,rfl,rb,_,rfl,.inr hrb,fun lb CU=>?_⟩
 replace P0:=P0.add (c:=.lb) (o:=.lst (b.map V.int)) CU (by simp) rfl (fun a ha o H z=>by cases a <;> first|exact z|exact absurd ha (by simp))
 replace e0:=(Grow.new (m:=[]) CU (.lst (b.map V.int))).keep _ _ (by simp) e0
 generalize upd H4 lb _=H5 at P0 e0 ⊢;refine⟨_,rfl,p,C,dx,_,rfl,e0,T.cl,T.n_boxes,(by show(3:Nat)<1000;decide),?_⟩;rw[V5]
 replace P0:=P0.setP (fs':=([("depth",V.int k),("room",V.int room),("most_kept",V.int kept),("boxes",V.ref lb)]:List (Str×V))) e0
 replace e0:upd H5 p (.ins C dx ([("depth",V.int k),("room",V.int room),("most_kept",V.int kept),("boxes",V.ref lb)]:List (Str×V))) p=some (.ins C dx [("depth",V.int k),("room",V.int room),("most_kept",V.int kept),("boxes",V.ref lb)]):=zd
 generalize upd H5 p _=H6 at P0 e0 ⊢;refine⟨szl rfl,fun la m8=>?_⟩
 replace P0:=P0.add (c:=.la) (o:=.lst []) m8 (by simp) ⟨[],rfl,trivial⟩ (fun a ha o H z=>by cases a <;> first|exact z|exact absurd ha (by simp))
 replace e0:=(Grow.new (m:=[]) m8 (.lst [])).keep _ _ (by simp) e0
 generalize upd H6 la _=H7 at P0 e0 ⊢;refine⟨_,rfl,p,C,dx,_,rfl,e0,T.cl,T.n_asks,(by show(4:Nat)<1000;decide),?_⟩;rw[TF]
 replace P0:=P0.setP (fs':=((fd5 k room kept lb la):List (Str×V))) e0
 replace e0:upd H7 p (.ins C dx ((fd5 k room kept lb la):List (Str×V))) p=some (.ins C dx (fd5 k room kept lb la)):=zd
 generalize upd H7 p _=H8 at P0 e0 ⊢;refine⟨_,rfl,p,C,dx,_,rfl,e0,T.cl,T.n_now,(by show(5:Nat)<1000;decide),?_⟩;rw[RQ]
 replace P0:=P0.setP (fs':=((fd6 k room kept lb la):List (Str×V))) e0
 replace e0:upd H8 p (.ins C dx ((fd6 k room kept lb la):List (Str×V))) p=some (.ins C dx (fd6 k room kept lb la)):=zd
 generalize upd H8 p _=H9 at P0 e0 ⊢;have L0:LnP K C p dx (fd6 k room kept lb la) H (t4 k b room kept) (fun a=>(False\/a=.lb)\/a=.la) (V8 (V8 (fun _=>p) .lb lb) .la la) (2 ^ k) 0 0 (fun _ _=>.non) H9:=⟨⟨_,P0.sub fun a ha=>by
  cases a with
  |ln x y=>rcases vW.mp ha with ⟨h1,h2,_⟩|⟨_,h2⟩ <;> exact absurd h2 (cR _)
  |_=>exact ha,fun q hq=>by rcases vW.mp hq with ⟨h1,h2,_⟩|⟨_,h2⟩ <;> exact absurd h2 (cR _),fun a _ _=>rfl⟩,e0⟩
 have e1k:((k:Int)+1).toNat=k+1:=by omega
 refine⟨_,rfl,_,_,rfl,rfl,_,rfl,by omega,by omega,?_⟩;rw[e1k];refine si (a:=0) (m:=2 ^ k) (e2:=[some (.int k)]) (LnP K C p dx (fd6 k room kept lb la) H (t4 k b room kept) (fun a=>(False\/a=.lb)\/a=.la) (V8 (V8 (fun _=>p) .lb lb) .la la) (2 ^ k)) rfl (by omega) pW ⟨_,_,rfl⟩ _ L0 ?_ ?_ ?_ ?_
 ·intro i e1 F H' R hi hl r;refine⟨_,rfl,_,_,rfl,rfl,uL k4,_,rfl,by rw[V9];exact hU (by decide) (cH _),by rw[V9];exact gz (gx.mpr pW) (by decide),?_⟩;rw[V9,bW];exact r
 ·intro i j F H' KK hi hj hl kk;refine⟨_,rfl,_,rfl,szl rfl,fun t ht=>⟨szl rfl,fun l pM=>?_⟩⟩;have gt:=Grow.new (m:=[]) ht (.tup [.int ((0+i:Nat):Int),.int (j:Int)]);have gl:=Grow.new (m:=[]) pM (.lst []);exact kk t (.ref l) _ (gl.tup _ _ zd) (fun c xs hc=>gl.tup _ _ (gt.tup _ _ hc)) ((hl.grow gt).step (fun l y z=>by rcases z with (z|z)|z <;> cases z) ⟨fun z=>(by rcases z with (z|z)|z <;> cases z),fun z=>(by rcases z with (z|z)|z <;> cases z)⟩ BF pM)
 ·exact fun i F H' hi hl=>hl.row
 clear P0 e0 L0;intro F H10 lp dl DV;obtain⟨⟨A1,P0,hF,hA⟩,e0⟩:=lp;have Gg:sT F (vV 0 (2 ^ k) (k+1) 0)=we A1 k:=by
  rw[Wg];exact rZ hF
 rw[Gg]
 replace P0:=P0.add (c:=.dl) (o:=.dT (we A1 k)) DV (fun z=>by rcases z with (z|z)|z <;> cases z) rfl (fun a ha o H z=>by cases a <;> first|exact z|exact absurd ha (by simp[DL]))
 replace e0:=(Grow.new (m:=[]) DV (.dT (we A1 k))).keep _ _ (by simp) e0
 have A1b:A1 .lb=lb:=hA .lb (.inl (.inr rfl)) fun _ _=>by simp
 have A1a:A1 .la=la:=hA .la (.inr rfl) fun _ _=>by simp
 generalize upd H10 dl _=H11 at P0 e0 ⊢;refine⟨_,rfl,p,C,dx,_,rfl,e0,T.cl,T.n_lines,(by show(6:Nat)<1000;decide),?_⟩;rw[V6]
 replace P0:=P0.setP (fs':=((fd7 k room kept lb la dl):List (Str×V))) e0
 replace e0:upd H11 p (.ins C dx ((fd7 k room kept lb la dl):List (Str×V))) p=some (.ins C dx (fd7 k room kept lb la dl)):=zd
 generalize upd H11 p _=H12 at P0 e0 ⊢;have e2k:((k:Int)+1-1).toNat=k:=by omega
 have ek1:((2 ^ (k-1):Nat))<=16:=bM (fc (by decide) (by omega)) pW;refine⟨_,rfl,_,_,rfl,rfl,_,_,rfl,⟨by decide,by decide,by omega,by omega⟩,?_⟩;rw[e2k];refine si (a:=1) (m:=2 ^ (k-1)) (e2:=[some (.int k)]) (fun i j F H'=>Grow [] H12 H'/\∀q∈vV 1 (2 ^ (k-1)) i j,F q.1 q.2=.int 0) rfl (by omega) ek1 ⟨_,_,rfl⟩ (fun _ _=>.int 0) ⟨Grow.refl _ _,fun _ _=>rfl⟩ ?_ ?_ ?_ ?_
 ·intro i e1 F H' R hi hl r;have ek:(k:Int)-1=((k-1:Nat):Int):=by omega
  refine⟨_,rfl,_,_,rfl,rfl,1,((k-1:Nat):Int),rfl,congrArg V.int ek,uL (by omega),_,rfl,by rw[V9];exact hU (by decide) (cH _),by rw[V9];exact gz (gx.mpr ek1) (by decide),?_⟩;rw[V9,bW];exact r
 ·intro i j F H' KK hi hj hl kk;refine⟨_,rfl,_,rfl,szl rfl,fun t ht=>?_⟩;have gt:=Grow.new (m:=[]) ht (.tup [.int ((1+i:Nat):Int),.int (j:Int)]);refine kk t (.int 0) _ zd (fun c xs hc=>gt.tup _ _ hc) ⟨hl.1.trans gt,fun q hq=>?_⟩;by_cases c:q.1=1+i/\q.2=j
  ·rw[c.1,c.2,zr]
  ·rw[zt c];rw[Xl,aP] at hq;rcases hq with hq|hq
   ·exact hl.2 q hq
   ·have:=aB.mp hq;exact absurd ⟨congrArg Prod.fst this,congrArg Prod.snd this⟩ c
 ·exact fun i F H' hi hl=>⟨hl.1,by rw[←Xm];exact hl.2⟩
 intro F H13 lp dk hdk;have ekp:sT F (vV 1 (2 ^ (k-1)) k 0)=yh k (fun _ _=>0):=by
  rw[Wh];exact rZ lp.2
 rw[ekp]
 replace P0:=P0.grow0 lp.1
 replace e0:=lp.1.keep _ _ (by simp) e0
 replace P0:=P0.add (c:=.dk) (o:=.dT (yh k fun _ _=>0)) hdk (by simp[DL]) rfl (fun a ha o H z=>by cases a <;> first|exact z|exact absurd ha (by simp[DL]))
 replace e0:=(Grow.new (m:=[]) hdk (.dT (yh k fun _ _=>0))).keep _ _ (by simp) e0
 generalize upd H13 dk _=H14 at P0 e0 ⊢;refine⟨_,rfl,p,C,dx,_,rfl,e0,T.cl,T.n_keeping,(by show(7:Nat)<1000;decide),?_⟩;rw[Yn]
 replace P0:=P0.setP (fs':=((fd8 k room kept lb la dl dk):List (Str×V))) e0
 replace e0:upd H14 p (.ins C dx ((fd8 k room kept lb la dl dk):List (Str×V))) p=some (.ins C dx (fd8 k room kept lb la dl dk)):=zd
 generalize upd H14 p _=H15 at P0 e0 ⊢;refine fun dd hdd=>?_
 replace P0:=P0.add (c:=.dd) (o:=.dK []) hdd (by simp[DL]) rfl (fun a ha o H z=>by cases a <;> first|exact z|exact absurd ha (by simp[DL]))
 replace e0:=(Grow.new (m:=[]) hdd (.dK [])).keep _ _ (by simp) e0
 generalize upd H15 dd _=H16 at P0 e0 ⊢;refine⟨_,rfl,p,C,dx,_,rfl,e0,T.cl,T.n_done_in,(by show(8:Nat)<1000;decide),?_⟩;rw[Yo]
 replace P0:=P0.setP (fs':=((fd9 k room kept lb la dl dk dd):List (Str×V))) e0
 replace e0:upd H16 p (.ins C dx ((fd9 k room kept lb la dl dk dd):List (Str×V))) p=some (.ins C dx (fd9 k room kept lb la dl dk dd)):=zd
 generalize upd H16 p _=H17 at P0 e0 ⊢;refine⟨szl rfl,fun lg BI=>?_⟩
 replace P0:=P0.add (c:=.lg) (o:=.lst []) BI (by simp[DL]) rfl (fun a ha o H z=>by cases a <;> first|exact z|exact absurd ha (by simp[DL]))
 replace e0:=(Grow.new (m:=[]) BI (.lst [])).keep _ _ (by simp) e0
 generalize upd H17 lg _=H18 at P0 e0 ⊢;refine⟨_,rfl,p,C,dx,_,rfl,e0,T.cl,T.n_logged,(by show(9:Nat)<1000;decide),?_⟩;rw[Wf]
 replace P0:=P0.setP (fs':=((zas k room kept lb la dl dk dd lg):List (Str×V))) e0
 replace e0:upd H18 p (.ins C dx ((zas k room kept lb la dl dk dd lg):List (Str×V))) p=some (.ins C dx (zas k room kept lb la dl dk dd lg)):=zd
 generalize upd H18 p _=H19 at P0 e0 ⊢;refine fun df BE=>?_
 replace P0:=P0.add (c:=.df) (o:=.dK []) BE (by simp[DL]) rfl (fun a ha o H z=>by cases a <;> first|exact z|exact absurd ha (by simp[DL]))
 replace e0:=(Grow.new (m:=[]) BE (.dK [])).keep _ _ (by simp) e0
 generalize upd H19 df _=H20 at P0 e0 ⊢;refine⟨_,rfl,p,C,dx,_,rfl,e0,T.cl,T.n_found,(by show(10:Nat)<1000;decide),?_⟩;rw[V7]
 replace P0:=P0.setP (fs':=((zat k room kept lb la dl dk dd lg df):List (Str×V))) e0
 replace e0:upd H20 p (.ins C dx ((zat k room kept lb la dl dk dd lg df):List (Str×V))) p=some (.ins C dx (zat k room kept lb la dl dk dd lg df)):=zd
 generalize upd H20 p _=H21 at P0 e0 ⊢;refine fun da hda=>?_
 replace P0:=P0.add (c:=.da) (o:=.dK []) hda (by simp[DL]) rfl (fun a ha o H z=>by cases a <;> first|exact z|exact absurd ha (by simp[DL]))
 replace e0:=(Grow.new (m:=[]) hda (.dK [])).keep _ _ (by simp) e0
 generalize upd H21 da _=H22 at P0 e0 ⊢;refine⟨_,rfl,p,C,dx,_,rfl,e0,T.cl,T.n_answers,(by show(11:Nat)<1000;decide),?_⟩;rw[Yp]
 replace P0:=P0.setP (fs':=((JD k room kept lb la dl dk dd lg df da):List (Str×V))) e0
 replace e0:upd H22 p (.ins C dx ((JD k room kept lb la dl dk dd lg df da):List (Str×V))) p=some (.ins C dx (JD k room kept lb la dl dk dd lg df da)):=zd
 generalize upd H22 p _=H23 at P0 e0 ⊢;have hd:∀a,okA (t4 k b room kept) a->a≠.p->(((((DL (2 ^ k) (k+1) 0 (fun a=>(False\/a=.lb)\/a=.la) a\/a=.dl)\/a=.dk)\/a=.dd)\/a=.lg)\/a=.df)\/a=.da:=by
  intro a ha hn;cases a with
  |p=>exact absurd rfl hn
  |ln l j =>
   have h1:l<=k:=ha.1;have h2:j<2 ^ k:=ha.2;exact .inl (.inl (.inl (.inl (.inl (.inl (vW.mpr (.inl ⟨aX _,by show l<0+(k+1);omega,h2⟩)))))))
  |dn t =>
   have h1:1<=t:=ha.1;have h2:t<=0:=ha.2;omega
  |_=>simp[DL]
 have N:=P0.net (dx:=dx) hd (by simp[DL]) (by
  rw[e0];show some (HO.ins C dx (JD k room kept lb la dl dk dd lg df da))=some (HO.ins C dx [("depth",V.int k),("room",V.int room),("most_kept",V.int kept),("boxes",V.ref (A1 .lb)),("asks",V.ref (A1 .la)),("now",V.int 0),("lines",V.ref dl),("keeping",V.ref dk),("done_in",V.ref dd),("logged",V.ref lg),("found",V.ref df),("answers",V.ref da)]);rw[A1b,A1a])
 exact q _ _ P0.g yU (fun a ha hn=>by rw[yV hn];exact P0.fr a (hd a ha hn)) N
theorem xr:FnScope ["_law_script","_law_j","_law_pot_here","_law_k","_law_turns","_law_many","_law_room","_law_kept","_law_some","_law_values","_law_net","_law_asks","_law_begun","_law_answered","_law_turn","_law_lost_here","_law_ask_here","_law_order"] ["_law_script"] (zh (top 59)):=⟨rfl,rfl,rfl,by decide +kernel,rfl,by decide +kernel,by decide +kernel⟩
theorem Jw(F:Fun K "law" "law" (top 59) f fd)(B:Blt mg){C:Addr}(T:NTxt K mg C)(AN:zH P w K mg base C n "board" ["self"] (sj C K))(Ci:zH P w K mg base C n "log" ["self"] (Yr C K))(Bv:zH P w K mg base C n "beat" ["self","lost"] (tw C K))(Cj:zH P w K mg base C n "put" ["self","ask"] (Yq C K))(GZ:wo P w K mg base C n ["self","k","board","room","kept"] (qT C K))(mB:zo P w K mg base n "_law_stands" ["_law_asks","_law_begun","_law_order","_law_answered"] (sG K))(nk:zo P w K mg base n "_law_played" ["_law_asks","_law_values","_law_order","_law_answered"] (sF K))(Cb:zo P w K mg base n "_law_noted" ["_law_net","_law_answered","_law_many"] (ql C K))(GI:zo P w K mg base n "_law_told" ["_law_found","_law_answered","_law_many","_law_beat"] (ZF K))(qc4:zo P w K mg base n "_law_lost" ["_law_pot_here","_law_k"] (Zy K))(BO:zo P w K mg base n "_law_take" ["_law_pot_here","_law_many"] (ur K))(qc6:zo P w K mg base n "_law_ask" ["_law_pot_here","_law_k","_law_many","_law_some"] (Xt K))(qc7:zo P w K mg base n "_law_number" ["_law_pot_here"] (Yv K))(qc8:zo P w K mg base n "_law_pot" ["_law_script","_law_k"] (Si K))(mP:mg "sorted" = none)   :
  FnOk P w K mg base CX0 (n+1) f fd ["_law_script"] (Y0 K):=by
 refine F.ok xr yT (fun mz A outer s H vs Q E hr h=>?_);obtain⟨x,rfl,a,sc,rfl,hs,h63,q⟩:=h;refine⟨_,(zc (yQ PassesOwn.never rfl (ya rfl B.range (za (zp (tF rfl) rfl B.max Rh (za ze (za (zp (WV rfl) rfl B.min JT (za ze (za (zp zv rfl B.len xh (za (pv 0) zb)) zb))) zb))) zb)) (zm (i:=1) xr.nd rfl (aY rfl)) (zc (zJ (i:=2) xr.nd rfl (lx rfl) (zi qc8 hr rfl (za (pv 0) (za (pv 1) zb)))) (zc (xB (z7 (za (zi BO hr rfl (za (pv 2) (za ze zb))) (za (zw yo ze (zi BO hr rfl (za (pv 2) (za ze zb)))) (za (zw yo ze (zi BO hr rfl (za (pv 2) (za ze zb)))) zb)))) (xA rfl (zq (zm (i:=3) xr.nd rfl (aY rfl)) (zq (zm (i:=4) xr.nd rfl (aY rfl)) (zq (zm (i:=5) xr.nd rfl (lx rfl)) yA))))) (zc (Qr (i:=6) (j:=7) rfl xr.nd rfl rfl (by decide) rfl rfl (za (zw yo ze (zi BO hr rfl (za (pv 2) (za ze zb)))) (za (zi BO hr rfl (za (pv 2) (za ze zb))) zb)) rfl) (zc (qB (i:=8) xr.nd rfl rfl (CSc.of (N':=["_law_turn","_law_pot_here","_law_many"]) (sub:=[none,some 2,some 5]) (zh (top 59)) ["_law_script","_law_j","_law_pot_here","_law_k","_law_turns","_law_many","_law_room","_law_kept","_law_some","_law_values","_law_net","_law_asks","_law_begun","_law_answered","_law_turn","_law_lost_here","_law_ask_here","_law_order"] rfl rfl (by decide +kernel) rfl) rfl (ya rfl B.range (za (zw yo ze (zi BO hr rfl (za (pv 2) (za ze zb)))) zb)) (fun _ _ _ _ _ _=>zm (i:=0) (show(["_law_turn","_law_pot_here","_law_many"]:List Str).Nodup by decide +kernel) rfl (aY rfl)) (fun _ _ _ _ _ _=>xc) (fun _ _ _ _ _ _=>(zi BO hr rfl (za (pv 1) (za (pv 2) zb))))) (zc (zJ (i:=9) xr.nd rfl (aY rfl) (zY yE rfl B.tuple yS (za (wO (CSc.of (N':=["_law_box","_law_pot_here"]) (sub:=[none,some 2]) (zh (top 59)) ["_law_script","_law_j","_law_pot_here","_law_k","_law_turns","_law_many","_law_room","_law_kept","_law_some","_law_values","_law_net","_law_asks","_law_begun","_law_answered","_law_turn","_law_lost_here","_law_ask_here","_law_order"] rfl rfl (by decide +kernel) rfl) rfl (ya rfl B.range (za (pv 5) zb)) (fun _ _ _ _ _ _=>zm (i:=0) (show(["_law_box","_law_pot_here"]:List Str).Nodup by decide +kernel) rfl (aY rfl)) (fun _ _ _ _ _ _=>xc) (fun _ _ _ _ _ _=>(zi qc7 hr rfl (za (pv 1) zb)))) zb))) (zc (zJ (i:=10) xr.nd rfl (aY rfl) (Th GZ hr rfl T.mgC (za (pv 3) (za (pv 9) (za (pv 6) (za (pv 7) zb)))))) (zc (Rj (i:=11) (j:=12) (k:=13) rfl xr.nd rfl rfl rfl (by decide) (by decide) (by decide) rfl rfl rfl (za (xQ zb) (za (xQ zb) (za u9 zb))) rfl) (zc (yQ PassesOwn.never rfl (ya rfl B.range (za (zw yo (pv 4) (zw xX ze (zw yo (pv 3) ze))) zb)) (zm (i:=14) xr.nd rfl (aY rfl)) (zc (zJ (i:=15) xr.nd rfl (aY rfl) (z7 zb)) (zc (yQ PassesOwn.never rfl (ya rfl B.range (za (zw xX (zi BO hr rfl (za (pv 2) (za ze zb))) (zY vG rfl B.int W6 (za (vC (xW vg (pv 14) (pv 4) (zG _)) (wB (xW vg (zp zv rfl B.len xh (za (pv 11) zb)) ze (zG _)))) zb))) zb)) (zm (i:=16) xr.nd rfl (aY rfl)) (zc (yd (uo bY dG dH xD (pv 11) (za (zi qc6 hr rfl (za (pv 2) (za (pv 3) (za (pv 5) (za (pv 8) zb))))) zb))) (zc (yd (uo bY dG dH xD (pv 12) (za (pv 14) zb))) (zf (zT (zE jA (xf Cj T.cl hr (pv 10) (za (ye zU (pv 11) (WN jz ze) (fun _ _=>rfl)) zb)) (zw yp (zp zv rfl B.len xh (za (pv 11) zb)) ze) (zG _)) (zf (zy xT)) zx))))) (zc (zT (zE vg (pv 14) (pv 4) (zG _)) (zf (zJ (i:=15) xr.nd rfl (aY rfl) (zi qc4 hr rfl (za (pv 2) (za (pv 3) zb))))) zx) (zf (zT (PW.pt (uj (zE vg (pv 14) (pv 4) (zG _)) (wv (zE vg (zp vP rfl B.len xh (za (pv 13) zb)) (zp zv rfl B.len xh (za (pv 11) zb)) (zG _))))) (zc (zT (yz (yG (zi GI hr rfl (za (xf Bv T.cl hr (pv 10) (za (pv 15) zb)) (za (pv 13) (za (zp zv rfl B.len xh (za (pv 11) zb)) (za (zw yo (pv 14) ze) zb))))))) (zf (zy xT)) zx) (zf (zT (yz (yG (zi Cb hr rfl (za (pv 10) (za (pv 13) (za (zp zv rfl B.len xh (za (pv 11) zb)) zb)))))) (zf (zy xT)) zx))) zx)))))) (zc (zJ (i:=17) xr.nd rfl (aY rfl) (wG Ci T.cl hr (pv 10))) (zc (zT (PW.pt (uj (zE jA (zp vP rfl B.len xh (za (pv 13) zb)) (zp zv rfl B.len xh (za (pv 11) zb)) (zG _)) (uj (yz (yG (zp xb rfl B.isinstance zX (za (pv 17) (za (wZ rfl B.tuple yS) zb))))) (wv (zE (Sq hr) (zp (jY (K:=K) rfl) rfl mP u4 (za (pv 17) zb)) (jX rfl rfl B.list rfl B.range (za (zp zv rfl B.len xh (za (pv 11) zb)) zb)) (zG _)))))) (zf (zy xT)) zx) (zc (zT (zE jA (zp (xz hr) rfl B.repr rG (za (zi nk hr rfl (za (pv 11) (za (pv 9) (za (pv 17) (za (pv 13) zb))))) zb)) (zp (xz hr) rfl B.repr rG (za (wG AN T.cl hr (pv 10)) zb)) (zG _)) (zf (zy xT)) zx) (zf (zT (yz (yG (zi mB hr rfl (za (pv 11) (za (pv 12) (za (pv 17) (za (pv 13) zb))))))) (zf (zy xT)) zx)))))))))))))) (zf (zy xT))),?_⟩
 have hl:(sc.map V.int).length=sc.length:=aG ..;refine⟨_,rfl,a,_,rfl,.inl hs.sq,_,_,rfl,_,_,rfl,_,rfl,?_,?_,?_⟩
 ·split <;> split <;> omega
 ·rw[hl];split <;> split <;> omega
 refine yK (fun i σ H'=>∃(e1 e2 e3 e4 e5 e6 e7 e8 e9 Ff Fg Fh Fi AE AF AG AH:Option V),σ=[some (.ref a),e1,e2,e3,e4,e5,e6,e7,e8,e9,Ff,Fg,Fh,Fi,AE,AF,AG,AH]/\Scr K H' a sc) ⟨_,_,_,_,_,_,_,_,_,_,_,_,_,_,_,_,_,rfl,hs⟩ ?_ ?_;rotate_left
 ·rintro σ H1 _;exact q _
 rintro i σ H1 hi ⟨e1,e2,e3,e4,e5,e6,e7,e8,e9,Ff,Fg,Fh,Fi,AE,AF,AG,AH,rfl,AL⟩;have i63:i<1000:=by
  have mJ:=hi;revert mJ;split <;> split <;> omega
 try dsimp only
 refine tX (fun v H'=>∃p,v=.ref p/\Scr K H' a sc/\Pot H' p) (fun Kk hk=>⟨_,rfl,_,rfl,_,_,rfl,a,sc,_,rfl,rfl,AL,by omega,by omega,fun p H2 hp g2 pp=>hk _ _ ⟨p,rfl,g2.scr AL,pp⟩⟩) ?_;rintro _ H2 ⟨p,rfl,oJ,nZ⟩;refine Xu (fun σ' H'=>∃(k tn mn:Nat),σ'=[some (.ref a),some (.int (0+(i:Int))),some (.ref p),some (.int k),some (.int tn),some (.int mn),e6,e7,e8,e9,Ff,Fg,Fh,Fi,AE,AF,AG,AH]/\(k<=4/\tn<=16/\1<=mn/\mn<=16/\1<=tn)/\Scr K H' a sc/\Pot H' p) (fun D' hD=>⟨_,rfl,_,_,rfl,p,5,rfl,rfl,nZ,by decide,by decide,fun t5 H3 a50 a51 g3 pO=>⟨_,rfl,_,_,rfl,p,16,rfl,rfl,pO,by decide,by decide,fun t8 H4 a80 a81 g4 Bo=>⟨_,_,rfl,rfl,_,rfl,_,_,rfl,p,16,rfl,rfl,Bo,by decide,by decide,fun G0 H5 a160 a161 g5 GA=>⟨_,_,rfl,rfl,szl rfl,fun tt Gy=>⟨tt,_,rfl,SqT.of zd,rfl,_,_,rfl,_,_,rfl,_,_,rfl,rfl,?_⟩⟩⟩⟩⟩) ?_
 ·have gtt:=Grow.new (m:=[]) Gy (.tup [.int t5,.int (1+t8),.int (1+G0)]);obtain⟨k,rfl⟩:∃k:Nat,t5=k:=⟨t5.toNat,by omega⟩
  obtain⟨tn,htn⟩:∃tn:Nat,1+t8=tn:=⟨(1+t8).toNat,by omega⟩
  obtain⟨mn,hmn⟩:∃mn:Nat,1+G0=mn:=⟨(1+G0).toNat,by omega⟩
  exact hD _ _ ⟨k,tn,mn,by rw[←htn,←hmn];rfl,⟨by omega,by omega,by omega,by omega,by omega⟩,gtt.scr (g5.scr (g4.scr (g3.scr oJ))),GA.grow gtt⟩
 clear AL oJ nZ;rintro σ H6 ⟨k,tn,mn,rfl,⟨k4,tn16,mn1,mn16,tn1⟩,hs6,A4⟩;have pW:=tR k4;refine Xu (fun σ' H'=>∃(rm kp:Nat),σ'=[some (.ref a),some (.int (0+(i:Int))),some (.ref p),some (.int k),some (.int tn),some (.int mn),some (.int rm),some (.int kp),e8,e9,Ff,Fg,Fh,Fi,AE,AF,AG,AH]/\(1<=rm/\rm<=6/\kp<=6)/\Scr K H' a sc/\Pot H' p) (fun D' hD=>⟨_,rfl,_,_,rfl,p,6,rfl,rfl,A4,by decide,by decide,fun r6 H7 r60 r61 g7 Ca=>⟨_,_,rfl,rfl,_,rfl,_,_,rfl,p,7,rfl,rfl,Ca,by decide,by decide,fun q7 H8 q70 q71 g8 BL=>⟨_,_,rfl,?_⟩⟩⟩) ?_
 ·obtain⟨rm,hrm⟩:∃rm:Nat,1+r6=rm:=⟨(1+r6).toNat,by omega⟩
  obtain⟨kp,rfl⟩:∃kp:Nat,q7=kp:=⟨q7.toNat,by omega⟩
  exact hD _ _ ⟨rm,kp,by rw[←hrm];rfl,⟨by omega,by omega,by omega⟩,g8.scr (g7.scr hs6),BL⟩
 clear hs6 A4;rintro σ H8 ⟨rm,kp,rfl,⟨rm1,rm6,kp6⟩,hs8,BL⟩;refine tX (fun v H'=>∃(l:Addr) (sm:List Int),v=.ref l/\H' l=some (.lst (sm.map V.int))/\1<=sm.length/\sm.length<=1000/\(∀b∈sm,0<=b/\b<mn)/\p≠l/\Pot H' p/\Scr K H' a sc) (fun Kk hk=>⟨_,rfl,_,_,rfl,p,3,rfl,rfl,BL,by decide,by decide,fun t3 H9 t30 t31 g9 CQ=>⟨_,_,rfl,rfl,_,rfl,by omega,by omega,Y5 (fun j vs H'=>∃sm:List Int,vs=sm.map V.int/\sm.length=j/\(∀b∈sm,0<=b/\b<mn)/\Pot H' p/\Scr K H' a sc) ⟨[],rfl,rfl,by simp,CQ,g9.scr hs8⟩ ?_ ?_⟩⟩) ?_
 ·rintro j vs H10 hj ⟨sm,rfl,sl,sb,pp10,Ah⟩;refine⟨_,rfl,_,rfl,_,_,rfl,p,mn,rfl,rfl,pp10,by omega,by omega,fun b H11 b0 b1 Ef Ck=>⟨zC (by rw[aG];omega),sm++[b],by rw[bC];rfl,by rw[aI,sl];rfl,fun x hx=>?_,Ck,Ef.scr Ah⟩⟩;rcases aP.mp hx with hx|hx
  ·exact sb x hx
  ·rw[aB.mp hx];exact⟨b0,b1⟩
 ·rintro vs H10 ⟨sm,rfl,sl,sb,pp10,Ah⟩ l pM;have gl:=Grow.new (m:=[]) pM (.lst (sm.map V.int));refine hk _ _ ⟨l,sm,rfl,zd,by omega,by omega,sb,fun e=>?_,pp10.grow gl,gl.scr Ah⟩;obtain⟨p0,p1,z,_⟩:=pp10;rw[e,pM] at z;cases z
 rintro _ H9 ⟨l,sm,rfl,hl9,sm1,smL,GE,npl,CQ,hs9⟩;clear BL hs8;refine tX (fun v H'=>∃(tb:Addr) (b:List Int),v=.ref tb/\SqT K H' tb (b.map V.int)/\b.length=mn/\InC (10 ^ 29) b/\Grow [p] H9 H'/\Pot H' p) (fun Kk hk=>⟨_,rfl,_,rfl,by omega,by omega,Y5 (fun j vs H'=>∃b:List Int,vs=b.map V.int/\b.length=j/\InC (10 ^ 29) b/\Grow [p] H9 H'/\Pot H' p) ⟨[],rfl,rfl,(fun v hv=>by cases hv),Grow.refl _ _,CQ⟩ ?_ ?_⟩) ?_
 ·rintro j vs H10 hj ⟨b,rfl,bl,bb,g10,pp10⟩;rw[bW] at hj;refine⟨_,rfl,_,rfl,p,rfl,pp10,fun n H11 nb1 nb2 Ef Ck=>⟨zC (by rw[aG];omega),b++[n],by rw[bC];rfl,by rw[aI,bl];rfl,fun v hv=>?_,g10.trans Ef,Ck⟩⟩;rcases aP.mp hv with z|z
  ·exact bb v z
  ·rw[aB.mp z];exact⟨nb1,nb2⟩
 ·rintro vs H10 ⟨b,rfl,bl,bb,g10,pp10⟩ lb CU;rw[bW] at bl;have gb:=Grow.new (m:=[]) CU (.lst (b.map V.int));refine⟨_,_,rfl,.inl ⟨SqL.of zd,fun tb Eg=>?_⟩⟩;have gb2:=Grow.new (m:=[]) Eg (.tup (b.map V.int));exact hk _ _ ⟨tb,b,rfl,SqT.of zd,bl,bb,g10.trans ((gb.trans gb2).wk (m:=[p])),(pp10.grow gb).grow gb2⟩
 rintro _ H10 ⟨tb,b,rfl,Eg,bl,bb,g10,pp10⟩;have Ah:=g10.scr hs9;have Cm:=g10.keep _ _ (by simpa using npl.symm) hl9;have rg0:=R4 npl pp10 Cm;clear CQ hs9 hl9 g10 npl;refine tX (fun v H'=>∃(A:Ad->Addr),v=.ref (A .p)/\Reg H' (qi [p] (msA A (t4 k b rm kp)) [] [] [l] [] [])/\NetAt K C H' A (t4 k b rm kp)/\H' l=some (.lst (sm.map V.int))/\Scr K H' a sc/\SqT K H' tb (b.map V.int)/\Pot H' p) (fun Kk hk=>?_) ?_
 ·refine⟨_,rfl,_,rfl,_,rfl,_,rfl,?_⟩;intro x1 d1 hx1 EX nd1;have Gj:=(Grow.new (m:=[]) EX (.own x1)).trans (Grow.new (m:=[]) (show upd H10 d1 (.own x1) x1=none by rw[zB nd1.symm];exact hx1) (.ins C d1 []));refine⟨_,_,_,_,_,rfl,x1,d1,k,rm,kp,b,rfl,rfl,⟨tb,rfl,Gj.sqT Eg⟩,rfl,rfl,k4,by omega,by omega,rm1,rm6,kp6,zd,fun A1 H11 Ef eA1 fr1 mD=>⟨rfl,?_⟩⟩;obtain⟨G1,F1⟩:=zaq hx1 EX nd1 Ef eA1 fr1;have Eh:=rg0.grow 1 (R:=msA A1 (t4 k b rm kp)) G1 (fun x hx=>by cases hx) fun x hx=>⟨.inr (F1 x hx),mD.al x hx⟩
  rw[SM] at Eh;exact hk _ _ ⟨A1,by rw[eA1],Eh,mD,G1.keep _ _ (by simp) Cm,G1.scr Ah,G1.sqT Eg,pp10.grow G1⟩
 clear rg0 pp10 Cm Ah Eg;rintro _ H11 ⟨A1,rfl,Eh,mD,B8,AL,htb1,pb⟩;refine Xu (fun σ' H'=>∃(ls lb la:Addr),σ'=Qg a p l tb (A1 .p) ls lb la i k tn mn rm kp AE AF AG AH/\J52 K C p l ls lb la tb a (A1 .p) sc k mn H' A1 (t4 k b rm kp) sm b [] [] []) (fun D' hD=>⟨szl rfl,fun ls E7=>⟨szl rfl,fun lb CU la m8=>⟨_,_,_,rfl,?_⟩⟩⟩) ?_
 ·exact hD _ _ ⟨ls,lb,la,rfl,Jv Eh pb mD B8 AL htb1 k4 mn16 rm1 bb bl E7 CU m8⟩
 clear Eh mD B8 AL htb1 pb;rintro σ H12 ⟨ls,lb,la,rfl,J0⟩;generalize hqq:A1 .p=qq at J0;have T0:T52 k tn 0 (t4 k b rm kp):=⟨aE _,.inl rfl,fun z=>absurd z (by omega)⟩
 refine V2 (fun σ' H'=>∃(AE AF AG AH:Option V) (A:Ad->Addr) (mN:NS) (xs:List V) (bg:List Nat) (an:List (Nat×Nat×Int)),σ'=Qg a p l tb qq ls lb la i k tn mn rm kp AE AF AG AH/\J52 K C p l ls lb la tb a qq sc k mn H' A mN sm b xs bg an/\mN.ans.length=mN.asks.length) (fun D hD=>⟨_,rfl,_,rfl,_,_,rfl,rfl,_,_,rfl,rfl,vK ⟨by omega,by omega⟩,_,_,rfl,rfl,_,rfl,by omega,by omega,yK (fun t σ' H'=>∃(AE AF AG AH:Option V) (A:Ad->Addr) (mN:NS) (xs:List V) (bg:List Nat) (an:List (Nat×Nat×Int)),σ'=Qg a p l tb qq ls lb la i k tn mn rm kp AE AF AG AH/\J52 K C p l ls lb la tb a qq sc k mn H' A mN sm b xs bg an/\T52 k tn t mN) ⟨_,_,_,_,A1,_,_,_,_,rfl,J0,T0⟩ ?_ (by rintro σ H' ⟨Ei,Ej,o6,AO,A,mN,xs,bg,an,e,J,T⟩;exact hD _ _ ⟨Ei,Ej,o6,AO,A,mN,xs,bg,an,e,J,(T.en (by omega)).end (by rw[J.M.ek];omega)⟩)⟩) ?_;rotate_left
 ·clear J0 T0 hqq;rintro σ H13 ⟨Ei,Ej,o6,AO,A,mN,xs,bg,an,rfl,J,full⟩;obtain rfl:=J.eq;have F:=J.M.fin full;have nx:=J.M.nx;have a40:=nx.nw.nr.a40;have l40:=nx.nw.l40;have b16:=nx.nw.nr.b16;have xl:=J.xl;obtain⟨f1,f2⟩:=J.M.few;refine tX (fun v H'=>∃ro,v=.ref ro/\SqT K H' ro ((mN.log.map iE).map V.int)/\J52 K C p l ls lb la tb a (A .p) sc k mn H' A mN sm b xs bg an) (fun Kk hk=>⟨_,rfl,_,_,_,rfl,J.L.net.ob.choose_spec,Jb,_,rfl,A,mN,rfl,J.L.net,by omega,fun z H14 CO hz=>?_⟩) ?_
  ·obtain⟨ro,rfl,Cn⟩:=hz;exact hk _ _ ⟨ro,rfl,Cn,J.grow0 CO⟩
  clear J;rintro _ H14 ⟨ro,rfl,Cn,J⟩;refine tY (fun bb H'=>bb=false/\Grow [] H14 H') (fun Kk hk=>?_) ?_
  ·obtain⟨kvs,m8,pY⟩:=J.L.an;have kl:=pY.len;have ek:(V.int (kvs.length:Int))=V.int (xs.length:Int):=congrArg V.int (by omega);refine⟨_,rfl,la,kvs,rfl,m8,_,rfl,ls,_,rfl,.inl (SqL.of J.L.hs),rfl,_,rfl,zR (by rw[decide_eq_true ek];rfl) ⟨_,rfl,_,_,"tuple",true,rfl,.inl ⟨rfl,_,Cn⟩,vo,_,rfl,zR rfl ⟨_,rfl,ro,mN.log.map iE,rfl,Cn,by rw[aG];omega,fun ps ms hps pm pw=>?_⟩⟩⟩;have gp:=Grow.new (m:=[]) hps (.lst (ms.map V.int));refine⟨_,rfl,ls,_,rfl,.inl (SqL.of (gp.keep _ _ (by simp) J.L.hs)),mN.asks.length,congrArg (fun n:Nat=>[V.int (n:Int)]) xl,by omega,fun lr EU=>?_⟩;have gr:=Grow.new (m:=[]) EU (.lst ((aR mN.asks.length).map fun i:Nat=>V.int i));have hsl:=Wj nx.nw F.full pm pw;have hx:((aR mN.asks.length).map fun i:Nat=>V.int i)=((aR mN.asks.length).map iE).map V.int:=by rw[bZ];rfl
   have oi:(((aR mN.asks.length).map fun i:Nat=>V.int i)).all uR=true:=List.all_eq_true.mpr fun v hv=>by
    obtain⟨i,_,rfl⟩:=aW.mp hv;rfl
   refine⟨ps,lr,_,_,rfl,rfl,SqL.of (gr.keep _ _ (by simp) zd),SqL.of zd,by rw[hsl];exact oi,oi,_,rfl,hk _ _ ⟨?_,gp.trans gr⟩⟩;rw[hsl,hx];show(!sP _ _)=false;rw[wF,decide_eq_true rfl];rfl
  rintro bb H15 ⟨rfl,Ek⟩;refine zR rfl (xH ?_);have en:zL mN.log=(mN.log.map iE).map V.int:=rM;rw[←en] at Cn;have J15:=J.grow0 Ek;have BP:=Ek.sqT Cn;clear J Cn;have sh:=Wy nx J15.M.nb;obtain⟨s1,s2,s3,s4⟩:=R0 sh (by decide) (by decide);refine tY (fun bb H'=>bb=false/\Grow [] H15 H') (fun Kk hk=>⟨_,rfl,_,rfl,_,rfl,_,rfl,_,_,_,_,rfl,ls,la,xs,mN.asks,b,mN.log,an,rfl,J15.L.hs,J15.L.ax,⟨tb,rfl,J15.L.vt⟩,⟨ro,rfl,BP⟩,rfl,J15.L.an,fun n hn=>?_,F.nd,l40,by omega,F.run,F.and_,fun y' H16 Co hy=>?_⟩) ?_
  ·have hn:=(F.mem n).mp hn;obtain⟨h1,h2⟩:=J15.M.ab n hn;exact⟨hn,h1,by rw[J15.M.vl];exact h2⟩
  ·rw[←F.brd] at hy;have El:=J15.L.net.grow0 Co;refine⟨_,_,rfl,(qh hy).dat,s1,s2,s3,s4,_,rfl,_,_,_,rfl,El.ob.choose_spec,Tu,_,rfl,A,mN,rfl,El,b16,fun z H17 Cp hz=>⟨_,_,rfl,(qh hz).dat,s1,s2,s3,s4,rfl,_,rfl,hk _ _ ⟨by simp,Co.trans Cp⟩⟩⟩
  rintro bb H16 ⟨rfl,Co⟩;refine zR rfl (xH ?_);have J16:=J15.grow0 Co;have Em:=Co.sqT BP;have bl:=J16.M.an.bl;exact⟨_,rfl,_,rfl,_,rfl,_,rfl,_,_,_,_,rfl,ls,lb,la,xs,mN.asks,bg,mN.log,an,rfl,J16.L.hs,J16.L.ax,rfl,J16.L.hb,⟨ro,rfl,Em⟩,rfl,J16.L.an,F.nd,F.mem,a40,bl,F.and_,F.all,F.o1,F.o2,fun H17 Cp=>⟨_,rfl,zR rfl ⟨_,_,_,_,_,_,_,_,_,_,_,_,_,_,_,_,_,rfl,Cp.scr J16.hs⟩⟩⟩
 ·clear J0 T0 hqq A1;rintro t σ H13 ht ⟨Ei,Ej,o6,AO,A,mN,xs,bg,an,rfl,J,T⟩;have AK:t<tn+41*(k+1):=by omega
  rw[gu];refine tX (fun v H'=>∃t1,v=.ref t1/\SqT K H' t1 []/\J52 K C p l ls lb la tb a qq sc k mn H' A mN sm b xs bg an) (fun Kk hk=>⟨szl rfl,fun t1 nP=>hk _ _ ⟨t1,rfl,SqT.of zd,J.grow0 (Grow.new (m:=[]) nP _)⟩⟩) ?_;clear J;rintro _ H14 ⟨t1,rfl,nP,J⟩;refine V2 (fun σ' H'=>∃(o6:Option V) (A:Ad->Addr) (mN:NS) (xs:List V) (bg:List Nat),σ'=Qg a p l tb qq ls lb la i k tn mn rm kp (some (.int t)) (some (.ref t1)) o6 AO/\SqT K H' t1 []/\J52 K C p l ls lb la tb a qq sc k mn H' A mN sm b xs bg an/\T52 k tn t mN) (fun D hD=>Qa (fun v H'=>∃cnt:Nat,v=.int cnt/\cnt<=4/\(∀m,m<cnt->t<tn/\mN.asks.length+m<40)/\SqT K H' t1 []/\J52 K C p l ls lb la tb a qq sc k mn H' A mN sm b xs bg an) (fun Kk hk=>⟨_,rfl,_,_,rfl,p,5,rfl,rfl,J.L.pot,by decide,by decide,fun c5 H15 c50 c51 Ek G9=>?_⟩) ?_) ?_
  ·obtain⟨c,rfl⟩:∃c:Nat,c5=c:=⟨c5.toNat,by omega⟩
   have J15:=J.potS Ek G9;have AQ:=Ek.sqT nP;have xl:=J.xl;have z0:Kk (.int ((c:Int)*0)) H15:=hk _ _ ⟨0,congrArg V.int (Int.mul_zero _),by omega,fun m hm=>absurd hm (cR _),AQ,J15⟩;by_cases c1:t<tn;rotate_left
   ·exact⟨_,rfl,_,rfl,_,_,rfl,rfl,_,rfl,zR (decide_eq_false (by omega)) (.inr ⟨_,rfl,_,_,rfl,rfl,vK ⟨by omega,by decide⟩,z0⟩)⟩
   refine⟨_,rfl,_,rfl,_,_,rfl,rfl,_,rfl,yI (decide_eq_true (by omega)) ⟨_,rfl,ls,_,rfl,.inl (SqL.of J15.L.hs),_,_,rfl,rfl,.inr ⟨_,rfl,?_⟩⟩⟩;by_cases c2:mN.asks.length<36
   ·rw[decide_eq_true (show(xs.length:Int)<36 by omega)];exact⟨_,_,rfl,rfl,vK ⟨by omega,by decide⟩,hk _ _ ⟨c,congrArg V.int (Int.mul_one _),by omega,fun m hm=>⟨c1,by omega⟩,AQ,J15⟩⟩
   ·rw[decide_eq_false (show ¬(xs.length:Int)<36 by omega)];exact⟨_,_,rfl,rfl,vK ⟨by omega,by decide⟩,z0⟩
  ·clear nP J;rintro _ H15 ⟨cnt,rfl,c4,hc,AQ,J⟩;refine⟨_,rfl,by omega,by omega,yK (fun m σ' H'=>∃(o6:Option V) (A:Ad->Addr) (pd:NS) (xs:List V) (bg:List Nat),σ'=Qg a p l tb qq ls lb la i k tn mn rm kp (some (.int t)) (some (.ref t1)) o6 AO/\SqT K H' t1 []/\J52 K C p l ls lb la tb a qq sc k mn H' A pd sm b xs bg an/\T52 k tn t pd/\pd.asks.length=mN.asks.length+m) ⟨_,A,mN,xs,bg,rfl,AQ,J,T,rfl⟩ ?_ (by rintro σ H' ⟨o6,A,pd,xs,bg,e,h1,J,T,_⟩;exact hD _ _ ⟨o6,A,pd,xs,bg,e,h1,J,T⟩)⟩;clear J AQ T hD;rintro m σ H16 hm ⟨o6,A,pd,xs,bg,rfl,nP,J,T,ea⟩;obtain⟨c1,c40⟩:=hc m (by omega);have En:pd.now=t:=by rcases T.now with z|z <;> omega
   obtain rfl:=J.eq;have L:=J.L;refine⟨_,rfl,.inl ⟨rfl,_,SqL.of L.hs⟩,_,rfl,_,rfl,_,rfl,_,rfl,_,_,_,_,rfl,p,l,k,mn,sm,rfl,rfl,rfl,rfl,L.pot,k4,mn1,mn16,L.sml,J.npl,sm1,smL,GE,fun ak yk H17 aok ah abd Cp Eo Cq=>?_⟩;have J17:=J.potS Cp Eo;have Ep:=Cp.sqT nP;have L17:=J17.L;have xl:=J17.xl;refine⟨ls,xs,yk,rfl,rfl,L17.hs,zC (by omega),?_⟩;have L18:=L17.askS Cq;have Cr:=(Grow.set (m:=[ls]) L17.hs (aB.mpr rfl) (xs++[yk])).sqT Ep;have Cs:=(Grow.set (m:=[ls]) L17.hs (aB.mpr rfl) (xs++[yk])).scr J17.hs;have Ct:=(Grow.set (m:=[ls]) L17.hs (aB.mpr rfl) (xs++[yk])).ask Cq;generalize upd H17 ls (.lst (xs++[yk]))=H18 at L18 Cr Cs Ct ⊢;clear L17 Ep Cq J17 Cp Eo nP L;have bl2:=J.M.an.bl;refine⟨_,rfl,.inl ⟨rfl,_,SqL.of L18.hb⟩,_,rfl,lb,zL bg,.int t,rfl,rfl,L18.hb,zC (by rw[vO];omega),?_⟩;have gb:=Grow.set (m:=[lb]) L18.hb (aB.mpr rfl) (zL bg++[.int t]);have L19:=L18.bgS t;have Er:=gb.sqT Cr;have Bw:=gb.scr Cs;have Es:=gb.ask Ct;clear gb Cr Cs Ct L18;generalize upd H18 lb (.lst (zL bg++[.int t]))=H19 at L19 Er Bw Es ⊢;refine⟨_,rfl,_,_,_,rfl,L19.net.ob.choose_spec,Ja,_,rfl,_,rfl,ls,_,_,_,rfl,rfl,SqL.of L19.hs,Jn,_,_,rfl,A,pd,ak,msA A pd,rfl,Es,L19.net,J.M.nx.nw.nr,by rw[J.M.bl];exact aok,by rw[J.M.ek];exact ah,by omega,fun _ z=>qY z,fun H20 G' Ha=>?_⟩;have L20:=L19.netS G' Ha fun x hx=>.inl hx;have J20:J52 K C p l ls lb la tb a (A .p) sc k mn H20 A (jq pd ak) sm b (xs++[yk]) (bg++[t]) an:=⟨L20,by have:=J.M.put aok ah abd (by omega);rwa[En] at this,G'.scr Bw,rfl⟩
   refine⟨_,rfl,ls,_,rfl,.inl (SqL.of L20.hs),_,_,rfl,rfl,rfl,_,rfl,zR ?_ ⟨_,A,jq pd ak,_,_,rfl,G'.sqT Er,J20,⟨T.le,.inl En,fun z=>absurd z (by omega)⟩,?_⟩⟩
   ·rw[aI,decide_eq_true (congrArg V.int (show(pd.asks.length:Int)=((xs.length+[yk].length:Nat):Int)-1 from by rw[xl];show(pd.asks.length:Int)=((pd.asks.length+1:Nat):Int)-1;omega))];rfl
   ·show(pd.asks++[ak]).length=_;rw[aI];show pd.asks.length+1=_;omega
  clear nP J T;rintro σ H15 ⟨o6,A,mN,xs,bg,rfl,nP,J,T⟩;obtain rfl:=J.eq;have nw0:=J.M.nx.nw;refine Q5 (fun σ' H'=>∃(zg:V) (gone:List (Nat×Nat)),σ'=Qg a p l tb (A .p) ls lb la i k tn mn rm kp (some (.int t)) (some zg) o6 AO/\wI K H' zg gone/\(∀q∈gone,vT k q)/\(tn<=t->gone=[])/\J52 K C p l ls lb la tb a (A .p) sc k mn H' A mN sm b xs bg an) ?_ ?_;rotate_left
  ·intro oV;refine⟨_,rfl,_,rfl,_,_,rfl,rfl,_,rfl,?_⟩;by_cases c:(t:Int)<(tn:Int)
   ·exact yI (decide_eq_true c) ⟨_,rfl,_,rfl,_,_,rfl,p,k,rfl,rfl,J.L.pot,k4,fun gone zg H16 Hd gl Co He hg=>oV _ _ ⟨zg,gone,rfl,hg,Hd,fun z=>absurd z (by omega),J.potS Co He⟩⟩
   ·exact zR (decide_eq_false c) (oV _ _ ⟨.ref t1,[],rfl,⟨t1,[],rfl,nP,trivial,by decide⟩,by simp,fun _=>rfl,J⟩)
  clear J nP;rintro σ' H16 ⟨zg,gone,rfl,hg,Hd,g0,J⟩;refine Yl (fun bb H'=>J52 K C p l ls lb la tb a (A .p) sc k mn H' A mN sm b xs bg an/\wI K H' zg gone/\((bb=true/\mN.now=t/\(tn<=t->mN.ans.length≠mN.asks.length))\/(bb=false/\tn<=t/\mN.ans.length=mN.asks.length))) (fun Kk hk=>⟨_,rfl,_,rfl,_,_,rfl,rfl,_,rfl,?_⟩) ?_
  ·by_cases c:(t:Int)<(tn:Int)
   ·exact yI (decide_eq_true c) (hk _ _ ⟨J,hg,.inl ⟨rfl,by rcases T.now with z|z <;> omega,fun z=>absurd z (by omega)⟩⟩)
   ·obtain⟨kvs,m8,pY⟩:=J.L.an;have kl:=pY.len;have xl:=J.xl;obtain⟨f1,f2⟩:=J.M.few;refine zR (decide_eq_false c) ⟨_,rfl,la,kvs,rfl,m8,_,rfl,ls,_,rfl,.inl (SqL.of J.L.hs),_,_,rfl,rfl,_,rfl,hk _ _ ⟨J,hg,?_⟩⟩;by_cases c2:kvs.length<xs.length
    ·exact .inl ⟨decide_eq_true (by omega),by rcases T.now with z|z <;> omega,fun _=>by omega⟩
    ·exact .inr ⟨decide_eq_false (by omega),by omega,by omega⟩
  clear J hg;rintro bb H17 ⟨J,hg,⟨rfl,now,nall⟩|⟨rfl,le,full⟩⟩;rotate_left
  ·exact zR rfl ⟨_,_,_,_,A,mN,xs,bg,an,rfl,J,⟨gJ T.le,.inr ⟨by omega,full⟩,fun _=>.inl full⟩⟩
  refine yI rfl ?_;have pC:mN.now<10000:=by omega
  have nx:=J.M.nx;have Hg:∀q∈gone,vT mN.k q:=by rw[J.M.ek];exact Hd
  obtain⟨s1,s2,s3,s4,s5⟩:=ub (gone:=gone) nx.nw pC;refine tY (fun bb H'=>bb=false/\∃(A':Ad->Addr) (B9:List (Nat×Nat×Int)),J52 K C p l ls lb la tb a (A .p) sc k mn H' A' (beatS gone mN) sm b xs bg B9) (fun Kk hk=>?_) ?_
  ·refine⟨_,rfl,_,_,_,rfl,J.L.net.ob.choose_spec,RE,_,rfl,_,_,rfl,A,mN,gone,msA A mN,rfl,.inr hg,Hg,J.L.net,nx.nw.nr,nx.nw.nd,pC,(nx.nw.beat pC gone).1,fun _ z=>qY z,fun A' u tl H18 g18 ex Hh GC pm pw=>?_⟩;have L18:=J.L.netS g18 Hh fun x hx=>TV nx.nw pC ex x hx;have M18:=J.M.beat pC gone pm;obtain⟨Hi,tln⟩:=J.M.told pC gone pm;have xl:=J.xl;obtain⟨f1,f2⟩:=J.M.few;have a40:=nx.nw.nr.a40;refine⟨_,rfl,_,rfl,ls,_,rfl,.inl (SqL.of L18.hs),_,rfl,_,_,rfl,rfl,_,_,_,_,rfl,la,xs.length,t+1,an,tl,GC,rfl,L18.an,rfl,rfl,Hi,pw,by rw[xl];exact tln,by omega,fun H19 CV oS=>?_⟩;have L19:=L18.anS CV oS;rw[now] at M18;have Bw:=CV.scr (g18.scr J.hs);exact⟨_,rfl,hk _ _ ⟨rfl,A',_,by rw[s3];exact L19,M18,Bw,ex.1 .p trivial⟩⟩
  clear hg J;rintro bb H18 ⟨rfl,A',B9,J⟩;refine zR rfl (xH ?_);have xl:=J.xl;refine Yl (fun bb H'=>bb=false/\Grow [] H18 H') (fun Kk hk=>⟨_,rfl,_,rfl,_,rfl,ls,_,rfl,.inl (SqL.of J.L.hs),_,_,_,rfl,A',beatS gone mN,la,bg,B9,congrArg V.ref J.eq.symm,rfl,congrArg V.int (by rw[xl]),J.L.net,J.M.nx,J.M.nb,J.L.an,J.M.an,fun H19 CV=>⟨_,rfl,hk _ _ ⟨rfl,CV⟩⟩⟩) ?_;rintro bb H19 ⟨rfl,CV⟩;refine zR rfl ?_;refine⟨_,_,_,_,A',beatS gone mN,xs,bg,B9,rfl,J.grow0 CV,⟨by rw[s4];omega,.inl (by rw[s4];omega),fun le=>?_⟩⟩;by_cases c:tn<=t
  ·have e:=g0 c;subst e;have E:=(T.en c).beat nx.nw pC (nall c);rw[show t+1-tn=t-tn+1 by omega];exact E
  ·refine .inr (.inl ⟨by omega,Ue J.M.nx.nw.nr ?_⟩);rw[J.M.ek,show 40*(k+1)-(t+1-tn)=40*(k+1) by omega];exact gV _ (by have:=J.M.nx.nw.nr.a40;omega)
end
theorem yW:∀{us:List Value},us.length=1->∃x0,us=[x0]
 |[x0],_=>⟨x0,rfl⟩
theorem yx:∀{us:List Value},us.length=2->∃x0,∃x1,us=[x0,x1]
 |[x0,x1],_=>⟨x0,x1,rfl⟩
theorem x9:∀{us:List Value},us.length=3->∃x0,∃x1,∃x2,us=[x0,x1,x2]
 |[x0,x1,x2],_=>⟨x0,x1,x2,rfl⟩
theorem vy:∀{us:List Value},us.length=4->∃x0,∃x1,∃x2,∃x3,us=[x0,x1,x2,x3]
 |[x0,x1,x2,x3],_=>⟨x0,x1,x2,x3,rfl⟩
theorem Qd:∀{us:List Value},us.length=5->∃x0,∃x1,∃x2,∃x3,∃x4,us=[x0,x1,x2,x3,x4]
 |[x0,x1,x2,x3,x4],_=>⟨x0,x1,x2,x3,x4,rfl⟩
def FA(K:FG7)(x:Str)(t:Stmt)(f:Addr)(d:FuncData):Prop:=bV K bI x=some (some (.ref f))/\Fun K x x t f d
theorem FA.cl{P:Program}{w:World}{K:FG7}{h base:Heap}{mg:Str->Option Value}{x:Str}{t:Stmt}{f:Addr}{d:FuncData}{k:Nat}{ps:List Str}{sp:Sp}(a:FA K x t f d)(X:K.In h)(G:h.Ns bI mg)(F:FnOk P w K mg base CX0 k f d ps sp)(b:wE K d ps []):zo P w K mg base k x ps sp:=⟨_,_,F,b,a.2.kp,fD X G a.1⟩
theorem all_mk{l:lK}{w:World}{K:FG7}{h:Heap}{mg:Str->Option Value}{fa f1 f2 f3 f4 f5 f6 f7 f8 f9 f10 f11 f12 f13 Ei Ej o6 AO f18 f19 f20 f21 Fj Fk f24 f25 f26 f27 f28 f29 f30 f31 f32 f33 Fl Fm Fn Fo Fp Fq f40 f41 f42 f43 Fs f45 f46 f47 f48 Ft f50:Addr}(X:K.In h)(G:h.Ns bI mg)(hfa:mg "law" = some (.ref fa))
    {od4 an4 od7 an7 Hj Hk Hl Hm Hn Ho Hq Hr Hs Ht Hu Hv Hw Hx Hy Hz HA HB HD Cu HE HF HG HH:Option Addr} {sl4 sl7 HI HJ HK HL HM HN HP HQ HR HS HU HV:Array (Option Value)} {oc4 kV4 dc4 pm4 cd4 ct4 oc7 kV7 dc7 pm7 cd7 ct7 HW HX HY HZ Et Ia Ib Ic Ie Ig Eu Ih Ii Ij Ik Il Ev Im Io Ip Iq Ir Ew Iu Iv Iw Ix Iy Ex Iz IA IB IC ID Ey IE IF IG IH II Ez IJ IK IL IM IN EA IP IQ IR IS IT EB IU IV Cv Cw Cy Bx Cz IW IY IZ J' EC Ka Kb Kc Kd Ke ED Kf:Value}
    {T39:Addr} {Kg:Value} {Kh:Option Addr} {Ki:Nat} {Kj:Array (Option Value)}
    {d1 d2 d3 d5 d6 d8 d9 d10 d11 d12 d13 d14 d15 d18 d19 d20 d21 d24 d25 d26 d27 d28 d29 d30 d31 d32 d33 d40 d41 d42 d43 d45 d46 d47 d48 d50:FuncData}
    {C:Addr} (aC:bV K bI "Net" = some (some (.ref C))) (pg:gY K C Str.empty=true) (hd:iH K C=true) (po:kJ K C=true) (sa:bA K (.ref C) "__setattr__" = some (some (.builtin "object.__setattr__"))) (mkc:lG K C=true) (kc:bQ K (.ref C)=true)
    (AR:bA K (.ref C) "depth" = some none) (By:bA K (.ref C) "room" = some none) (oB:bA K (.ref C) "most_kept" = some none) (AS:bA K (.ref C) "boxes" = some none) (Bz:bA K (.ref C) "asks" = some none) (CA:bA K (.ref C) "now" = some none) (AT:bA K (.ref C) "lines" = some none) (pE:bA K (.ref C) "keeping" = some none) (pF:bA K (.ref C) "done_in" = some none) (Ai:bA K (.ref C) "logged" = some none) (AU:bA K (.ref C) "found" = some none) (pG:bA K (.ref C) "answers" = some none)
 (h1:FA K "_law_stands" ((top 58)) f1 d1)
 (h2:FA K "_law_done" ((top 52)) f2 d2)
 (h3:FA K "_law_played" ((top 57)) f3 d3)
    (a4:bA K (.ref C) "todo" = some (some (.ref f4))) (i4:cP K (.ref f4)=true) (l4:K.lookup f4=some ⟨oc4,od4,.func (bU "todo" "Net.todo" (zV (zk (top 46) 13)) (zP (zk (top 46) 13)) (zh (zk (top 46) 13)) .none kV4 dc4 pm4 an4 cd4 ct4),sl4⟩) (c4:cC K cd4 "Net.todo" = true) (k4:bQ K (.ref f4)=true)
 (h5:FA K "is_whole" ((top 11)) f5 d5)
 (h6:FA K "is_within" ((top 12)) f6 d6)
    (a7:bA K (.ref C) "answer" = some (some (.ref f7))) (i7:cP K (.ref f7)=true) (l7:K.lookup f7=some ⟨oc7,od7,.func (bU "answer" "Net.answer" (zV (zk (top 46) 14)) (zP (zk (top 46) 14)) (zh (zk (top 46) 14)) .none kV7 dc7 pm7 an7 cd7 ct7),sl7⟩) (c7:cC K cd7 "Net.answer" = true) (k7:bQ K (.ref f7)=true)
 (h8:FA K "_law_noted" ((top 55)) f8 d8)
 (h9:FA K "_law_told" ((top 56)) f9 d9)
 (Kl:FA K "_law_take" ((top 49)) f10 d10)
 (Km:FA K "_law_lost" ((top 54)) f11 d11)
 (Ko:FA K "_law_number" ((top 50)) f12 d12)
 (Kp:FA K "_law_deed" ((top 51)) f13 d13)
 (Kq:FA K "_law_ask" ((top 53)) Ei d14)
 (Kr:FA K "_law_pot" ((top 48)) Ej d15)
    (a16:bA K (.ref C) "board" = some (some (.ref o6))) (i16:cP K (.ref o6)=true) (l16:K.lookup o6=some ⟨HW,Hj,.func (bU "board" "Net.board" (zV (zk (top 46) 11)) (zP (zk (top 46) 11)) (zh (zk (top 46) 11)) .none HX HY HZ Hk Et Ia),HI⟩) (c16:cC K Et "Net.board" = true) (k16:bQ K (.ref o6)=true)
    (a17:bA K (.ref C) "log" = some (some (.ref AO))) (i17:cP K (.ref AO)=true) (l17:K.lookup AO=some ⟨Ib,Hl,.func (bU "log" "Net.log" (zV (zk (top 46) 12)) (zP (zk (top 46) 12)) (zh (zk (top 46) 12)) .none Ic Ie Ig Hm Eu Ih),HJ⟩) (c17:cC K Eu "Net.log" = true) (k17:bQ K (.ref AO)=true)
 (Ks:FA K "is_line" ((top 28)) f18 d18)
 (Kt:FA K "is_switch" ((top 29)) f19 d19)
 (Ku:FA K "may_be_lost" ((top 43)) f20 d20)
 (CT:FA K "need_lost" ((top 44)) f21 d21)
    (a22:bA K (.ref C) "done_ago" = some (some (.ref Fj))) (i22:cP K (.ref Fj)=true) (l22:K.lookup Fj=some ⟨Ii,Hn,.func (bU "done_ago" "Net.done_ago" (zV (zk (top 46) 3)) (zP (zk (top 46) 3)) (zh (zk (top 46) 3)) .none Ij Ik Il Ho Ev Im),HK⟩) (c22:cC K Ev "Net.done_ago" = true) (k22:bQ K (.ref Fj)=true)
    (a23:bA K (.ref C) "tell" = some (some (.ref Fk))) (i23:cP K (.ref Fk)=true) (l23:K.lookup Fk=some ⟨Io,Hq,.func (bU "tell" "Net.tell" (zV (zk (top 46) 9)) (zP (zk (top 46) 9)) (zh (zk (top 46) 9)) .none Ip Iq Ir Hr Ew Iu),HL⟩) (c23:cC K Ew "Net.tell" = true) (k23:bQ K (.ref Fk)=true)
 (Kv:FA K "in_line" ((top 35)) f24 d24)
 (Kw:FA K "tidy" ((top 17)) f25 d25)
 (Kx:FA K "made" ((top 16)) f26 d26)
 (Ky:FA K "joined" ((top 18)) f27 d27)
 (Kz:FA K "joined_at" ((top 45)) f28 d28)
 (KA:FA K "switch_at" ((top 34)) f29 d29)
 (KB:FA K "figure" ((top 31)) f30 d30)
 (KC:FA K "with_figure" ((top 32)) f31 d31)
 (KD:FA K "onward" ((top 33)) f32 d32)
 (KF:FA K "side_for" ((top 37)) f33 d33)
    (a34:bA K (.ref C) "hand_on" = some (some (.ref Fl))) (i34:cP K (.ref Fl)=true) (l34:K.lookup Fl=some ⟨Iv,Hs,.func (bU "hand_on" "Net.hand_on" (zV (zk (top 46) 8)) (zP (zk (top 46) 8)) (zh (zk (top 46) 8)) .none Iw Ix Iy Ht Ex Iz),HM⟩) (c34:cC K Ex "Net.hand_on" = true) (k34:bQ K (.ref Fl)=true)
    (a35:bA K (.ref C) "pass_on" = some (some (.ref Fm))) (i35:cP K (.ref Fm)=true) (l35:K.lookup Fm=some ⟨IA,Hu,.func (bU "pass_on" "Net.pass_on" (zV (zk (top 46) 7)) (zP (zk (top 46) 7)) (zh (zk (top 46) 7)) .none IB IC ID Hv Ey IE),HN⟩) (c35:cC K Ey "Net.pass_on" = true) (k35:bQ K (.ref Fm)=true)
    (a36:bA K (.ref C) "do_asks" = some (some (.ref Fn))) (i36:cP K (.ref Fn)=true) (l36:K.lookup Fn=some ⟨IF,Hw,.func (bU "do_asks" "Net.do_asks" (zV (zk (top 46) 6)) (zP (zk (top 46) 6)) (zh (zk (top 46) 6)) .none IG IH II Hx Ez IJ),HP⟩) (c36:cC K Ez "Net.do_asks" = true) (k36:bQ K (.ref Fn)=true)
    (a37:bA K (.ref C) "take" = some (some (.ref Fo))) (i37:cP K (.ref Fo)=true) (l37:K.lookup Fo=some ⟨IK,Hy,.func (bU "take" "Net.take" (zV (zk (top 46) 5)) (zP (zk (top 46) 5)) (zh (zk (top 46) 5)) .none IL IM IN Hz EA IP),HQ⟩) (c37:cC K EA "Net.take" = true) (k37:bQ K (.ref Fo)=true)
    (a38:bA K (.ref C) "forget" = some (some (.ref Fp))) (i38:cP K (.ref Fp)=true) (l38:K.lookup Fp=some ⟨IQ,HA,.func (bU "forget" "Net.forget" (zV (zk (top 46) 4)) (zP (zk (top 46) 4)) (zh (zk (top 46) 4)) .none IR IS IT HB EB IU),HR⟩) (c38:cC K EB "Net.forget" = true) (k38:bQ K (.ref Fp)=true)
    (a39:bA K (.ref C) "beat" = some (some (.ref Fq))) (i39:cP K (.ref Fq)=true) (l39:K.lookup Fq=some ⟨IV,HD,.func (bU "beat" "Net.beat" (zV (zk (top 46) 2)) (zP (zk (top 46) 2)) (zh (zk (top 46) 2)) (.ref T39) Cv Cw Cy Cu Bx Cz),HS⟩) (c39:cC K Bx "Net.beat" = true) (KG:bQ K (.ref Fq)=true)
    (t39:K.lookup T39=some ⟨Kg,Kh,.seq #[.none] Ki,Kj⟩)
 (Bj:FA K "need_hand" ((top 30)) f40 d40)
 (KH:FA K "is_end" ((top 14)) f41 d41)
 (KI:FA K "is_deed" ((top 15)) f42 d42)
 (KJ:FA K "is_ask" ((top 24)) f43 d43)
    (a44:bA K (.ref C) "put" = some (some (.ref Fs))) (i44:cP K (.ref Fs)=true) (l44:K.lookup Fs=some ⟨IW,HE,.func (bU "put" "Net.put" (zV (zk (top 46) 1)) (zP (zk (top 46) 1)) (zh (zk (top 46) 1)) .none IY IZ J' HF EC Ka),HU⟩) (c44:cC K EC "Net.put" = true) (k44:bQ K (.ref Fs)=true)
 (KL:FA K "is_board" ((top 22)) f45 d45)
 (KM:FA K "need_board" ((top 23)) f46 d46)
 (KN:FA K "need_sizes" ((top 42)) f47 d47)
 (KO:FA K "need_net" ((top 27)) f48 d48)
    (a49:bA K (.ref C) "__init__" = some (some (.ref Ft))) (i49:cP K (.ref Ft)=true) (l49:K.lookup Ft=some ⟨Kb,HG,.func (bU "__init__" "Net.__init__" (zV (zk (top 46) 0)) (zP (zk (top 46) 0)) (zh (zk (top 46) 0)) .none Kc Kd Ke HH ED Kf),HV⟩) (c49:cC K ED "Net.__init__" = true) (k49:bQ K (.ref Ft)=true)
 (KP:FA K "law" ((top 59)) f50 d50)
    {m9:Tok} (pH:bV K bI "DEEPEST" = some (some (.int 4 m9)))
    {mR:Tok} (oE:bV K bI "LAST_HAND" = some (some (.int 15 mR)))
    {mS:Tok} (oF:bV K bI "MOST_ASKS" = some (some (.int 40 mS)))
    {mO:Tok} (nY:bV K bI "MOST_BOXES" = some (some (.int 16 mO)))
    {mT:Tok} (oG:bV K bI "MOST_KEPT" = some (some (.int 6 mT)))
    {mU:Tok} (oH:bV K bI "MOST_ROOM" = some (some (.int 6 mU)))
    (nu:bV K bI "enumerate" = some none)
    (CB:bV K bI "set" = some none)
    (na:bV K bI "sorted" = some none)
    (EE:bV K bI "abs" = some none)
    (EF:bV K bI "len" = some none)
    (EG:bV K bI "max" = some none)
    (EH:bV K bI "min" = some none)
    (AV:bV K bI "divmod" = some none)
    (CC:bV K bI "repr" = some none)
    (oI:bV K bI "isinstance" = some none)
    (EI:bV K bI "all" = some none)
    (BA:bV K bI "range" = some none)
    (EJ:bV K bI "int" = some none)
    (CD:bV K bI "bool" = some none)
    (EK:bV K bI "str" = some none)
    (BB:bV K bI "tuple" = some none)
    (CF:bV K bI "list" = some none)
    (CG:bV K bI "dict" = some none)
    :
    ∃fd:FuncData,(∀(s:Shared) (v:Value),BindsTo s fd ⟨[v],[]⟩ [("_law_script",v)])/\∀base:Heap,K.In base->base.Ns bI mg->FnOk l.prog w K mg base CX0 7 fa fd ["_law_script"] (Y0 K):=by
  have e:=hfa.symm.trans (fD X G KP.1);cases e;have F4:=fun_mk (st:=(zk (top 46) 13)) l4 c4 k4;have F7:=fun_mk (st:=(zk (top 46) 14)) l7 c7 k7;have F16:=fun_mk (st:=(zk (top 46) 11)) l16 c16 k16;have F17:=fun_mk (st:=(zk (top 46) 12)) l17 c17 k17;have F22:=fun_mk (st:=(zk (top 46) 3)) l22 c22 k22;have F23:=fun_mk (st:=(zk (top 46) 9)) l23 c23 k23;have F34:=fun_mk (st:=(zk (top 46) 8)) l34 c34 k34;have F35:=fun_mk (st:=(zk (top 46) 7)) l35 c35 k35;have F36:=fun_mk (st:=(zk (top 46) 6)) l36 c36 k36;have F37:=fun_mk (st:=(zk (top 46) 5)) l37 c37 k37;have F38:=fun_mk (st:=(zk (top 46) 4)) l38 c38 k38;have F39:=RY (st:=(zk (top 46) 2)) l39 c39 KG;have F44:=fun_mk (st:=(zk (top 46) 1)) l44 c44 k44;have F49:=fun_mk (st:=(zk (top 46) 0)) l49 c49 k49;have b4:=F4.binds (ps:=["self"]) fun _ _ _ _ _ _ us hl=>by obtain⟨_,rfl⟩:=yW hl;rfl
  have b7:=F7.binds (ps:=["self","number"]) fun _ _ _ _ _ _ us hl=>by obtain⟨_,_,rfl⟩:=yx hl;rfl
  have b16:=F16.binds (ps:=["self"]) fun _ _ _ _ _ _ us hl=>by obtain⟨_,rfl⟩:=yW hl;rfl
  have b17:=F17.binds (ps:=["self"]) fun _ _ _ _ _ _ us hl=>by obtain⟨_,rfl⟩:=yW hl;rfl
  have b22:=F22.binds (ps:=["self","many"]) fun _ _ _ _ _ _ us hl=>by obtain⟨_,_,rfl⟩:=yx hl;rfl
  have b23:=F23.binds (ps:=["self"]) fun _ _ _ _ _ _ us hl=>by obtain⟨_,rfl⟩:=yW hl;rfl
  have b34:=F34.binds (ps:=["self","stage","line"]) fun _ _ _ _ _ _ us hl=>by obtain⟨_,_,_,rfl⟩:=x9 hl;rfl
  have b35:=F35.binds (ps:=["self","stage","gone"]) fun _ _ _ _ _ _ us hl=>by obtain⟨_,_,_,rfl⟩:=x9 hl;rfl
  have b36:=F36.binds (ps:=["self","box","numbers"]) fun _ _ _ _ _ _ us hl=>by obtain⟨_,_,_,rfl⟩:=x9 hl;rfl
  have b37:=F37.binds (ps:=["self","gone"]) fun _ _ _ _ _ _ us hl=>by obtain⟨_,_,rfl⟩:=yx hl;rfl
  have b38:=F38.binds (ps:=["self"]) fun _ _ _ _ _ _ us hl=>by obtain⟨_,rfl⟩:=yW hl;rfl
  have b39:wE K _ ["self","lost"] []:=qc (fd:=bU "beat" "Net.beat" (zV (zk (top 46) 2)) (zP (zk (top 46) 2)) (zh (zk (top 46) 2)) (.ref T39) Cv Cw Cy Cu Bx Cz) rfl t39 rfl fun us hl=>by rw[bB] at hl ⊢;obtain⟨_,_,rfl⟩:=yx hl;exact⟨_,rfl,rfl⟩
  have e39:wE K _ ["self","lost"] [.none]:=qc (fd:=bU "beat" "Net.beat" (zV (zk (top 46) 2)) (zP (zk (top 46) 2)) (zh (zk (top 46) 2)) (.ref T39) Cv Cw Cy Cu Bx Cz) rfl t39 rfl fun us hl=>by obtain⟨_,rfl⟩:=yW (us:=us) (by rw[aI] at hl;exact Nat.succ.inj hl);exact⟨_,rfl,rfl⟩
  have b44:=F44.binds (ps:=["self","ask"]) fun _ _ _ _ _ _ us hl=>by obtain⟨_,_,rfl⟩:=yx hl;rfl
  have b49:=F49.binds (ps:=["self","k","board","room","kept"]) fun _ _ _ _ _ _ us hl=>by obtain⟨_,_,_,_,_,rfl⟩:=Qd hl;rfl
  have T:NTxt K mg C:=⟨⟨pg,hd,po,sa⟩,AR,By,oB,AS,Bz,CA,AT,pE,pF,Ai,AU,pG,fD X G aC⟩
  have B:Blt mg:=⟨bG X G EE,bG X G EF,bG X G EG,bG X G EH,bG X G AV,bG X G CC,bG X G oI,bG X G EI,bG X G BA,bG X G EJ,bG X G CD,bG X G EK,bG X G BB,bG X G CF,bG X G CG⟩
  obtain⟨oc,od,kV,dc,pm,an,cd,ct,sl,rfl,lk,hc⟩:=KP.2.ex;refine⟨bU "law" "law" (zV (top 59)) (zP (top 59)) (zh (top 59)) .none kV dc pm an cd ct,fun s v=>.of_eq rfl,fun base _ _=>?_⟩;have C1:zo l.prog w K mg base 1 _ _ _:=h1.cl X G (sU h1.2 B     (bG X G nu)  ) (h1.2.binds fun _ _ _ _ _ _ us hl=>by obtain⟨_,_,_,_,rfl⟩:=vy hl;rfl);have C2:zo l.prog w K mg base 1 _ _ _:=h2.cl X G (ZI h2.2 B       ) (h2.2.binds fun _ _ _ _ _ _ us hl=>by obtain⟨_,_,rfl⟩:=yx hl;rfl);have C3:zo l.prog w K mg base 2 _ _ _:=h3.cl X G (sV h3.2 B    (C2.mono (by decide))   ) (h3.2.binds fun _ _ _ _ _ _ us hl=>by obtain⟨_,_,_,_,rfl⟩:=vy hl;rfl);have C4:zH l.prog w K mg base C 1 "todo" ["self"] (qU C K):=⟨_,_,YD (P:=l.prog) (w:=w) (base:=base) (n:=0) F4 B T         ,b4,⟨a4,i4,k4⟩⟩
  have C5:zo l.prog w K mg base 1 _ _ _:=h5.cl X G (YF h5.2 B       ) (h5.2.binds fun _ _ _ _ _ _ us hl=>by obtain⟨_,rfl⟩:=yW hl;rfl);have C6:zo l.prog w K mg base 2 _ _ _:=h6.cl X G (ZK h6.2 B    (C5.mono (by decide))   ) (h6.2.binds fun _ _ _ _ _ _ us hl=>by obtain⟨_,_,_,rfl⟩:=x9 hl;rfl);have C7:zH l.prog w K mg base C 3 "answer" ["self","number"] (uG C K):=⟨_,_,ji (P:=l.prog) (w:=w) (base:=base) (n:=2) F7 B T      (C6.mono (by decide))   ,b7,⟨a7,i7,k7⟩⟩
  have C8:zo l.prog w K mg base 4 _ _ _:=h8.cl X G (jj h8.2 B T    (C4.mono (by decide)) (C7.mono (by decide))     ) (h8.2.binds fun _ _ _ _ _ _ us hl=>by obtain⟨_,_,_,rfl⟩:=x9 hl;rfl);have C9:zo l.prog w K mg base 1 _ _ _:=h9.cl X G (ZL h9.2 B     (bG X G na) (bG X G CB)  ) (h9.2.binds fun _ _ _ _ _ _ us hl=>by obtain⟨_,_,_,_,rfl⟩:=vy hl;rfl);have C10:zo l.prog w K mg base 1 _ _ _:=Kl.cl X G (ZM Kl.2 B       ) (Kl.2.binds fun _ _ _ _ _ _ us hl=>by obtain⟨_,_,rfl⟩:=yx hl;rfl);have C11:zo l.prog w K mg base 2 _ _ _:=Km.cl X G (ZN Km.2 B    (C10.mono (by decide))   ) (Km.2.binds fun _ _ _ _ _ _ us hl=>by obtain⟨_,_,rfl⟩:=yx hl;rfl);have C12:zo l.prog w K mg base 2 _ _ _:=Ko.cl X G (sW Ko.2 B    (C10.mono (by decide))   ) (Ko.2.binds fun _ _ _ _ _ _ us hl=>by obtain⟨_,rfl⟩:=yW hl;rfl);have C13:zo l.prog w K mg base 3 _ _ _:=Kp.cl X G (ZO Kp.2 B    (C10.mono (by decide)) (C12.mono (by decide)) (bG X G na)  ) (Kp.2.binds fun _ _ _ _ _ _ us hl=>by obtain⟨_,rfl⟩:=yW hl;rfl);have C14:zo l.prog w K mg base 4 _ _ _:=Kq.cl X G (YG Kq.2 B    (C13.mono (by decide)) (C10.mono (by decide))   ) (Kq.2.binds fun _ _ _ _ _ _ us hl=>by obtain⟨_,_,_,_,rfl⟩:=vy hl;rfl);have C15:zo l.prog w K mg base 1 _ _ _:=Kr.cl X G (YH Kr.2 B       ) (Kr.2.binds fun _ _ _ _ _ _ us hl=>by obtain⟨_,_,rfl⟩:=yx hl;rfl);have C16:zH l.prog w K mg base C 1 "board" ["self"] (sj C K):=⟨_,_,ZQ (P:=l.prog) (w:=w) (base:=base) (n:=0) F16 B T         ,b16,⟨a16,i16,k16⟩⟩
  have C17:zH l.prog w K mg base C 1 "log" ["self"] (Yr C K):=⟨_,_,WA (P:=l.prog) (w:=w) (base:=base) (n:=0) F17 B T         ,b17,⟨a17,i17,k17⟩⟩
  have C18:zo l.prog w K mg base 3 _ _ _:=Ks.cl X G (WC Ks.2 B    (C6.mono (by decide))   ) (Ks.2.binds fun _ _ _ _ _ _ us hl=>by obtain⟨_,_,rfl⟩:=yx hl;rfl);have C19:zo l.prog w K mg base 3 _ _ _:=Kt.cl X G (ZS Kt.2 B    (C6.mono (by decide))   ) (Kt.2.binds fun _ _ _ _ _ _ us hl=>by obtain⟨_,_,_,rfl⟩:=x9 hl;rfl);have C20:zo l.prog w K mg base 4 _ _ _:=Ku.cl X G (sX Ku.2 B    (C18.mono (by decide)) (C6.mono (by decide)) (C19.mono (by decide))   ) (Ku.2.binds fun _ _ _ _ _ _ us hl=>by obtain⟨_,_,rfl⟩:=yx hl;rfl);have C21:zo l.prog w K mg base 5 _ _ _:=CT.cl X G (ZU CT.2 B    (C20.mono (by decide))   ) (CT.2.binds fun _ _ _ _ _ _ us hl=>by obtain⟨_,_,rfl⟩:=yx hl;rfl);have C22:zH l.prog w K mg base C 1 "done_ago" ["self","many"] (qL C K):=⟨_,_,sI (P:=l.prog) (w:=w) (base:=base) (n:=0) F22 B T         ,b22,⟨a22,i22,k22⟩⟩
  have C23:zH l.prog w K mg base C 2 "tell" ["self"] (qP C K):=⟨_,_,YI (P:=l.prog) (w:=w) (base:=base) (n:=1) F23 B T    (C22.mono (by decide))   (bG X G na)  ,b23,⟨a23,i23,k23⟩⟩
  have C24:zo l.prog w K mg base 1 _ _ _:=Kv.cl X G (WD Kv.2 B       ) (Kv.2.binds fun _ _ _ _ _ _ us hl=>by obtain⟨_,_,_,_,rfl⟩:=vy hl;rfl);have C25:zo l.prog w K mg base 1 _ _ _:=Kw.cl X G (Z8 Kw.2 B       ) (Kw.2.binds fun _ _ _ _ _ _ us hl=>by obtain⟨_,_,_,rfl⟩:=x9 hl;rfl);have C26:zo l.prog w K mg base 1 _ _ _:=Kx.cl X G (Qc Kx.2 B       ) (Kx.2.binds fun _ _ _ _ _ _ us hl=>by obtain⟨_,_,rfl⟩:=yx hl;rfl);have C27:zo l.prog w K mg base 2 _ _ _:=Ky.cl X G (Ux Ky.2 B    (C25.mono (by decide)) (C26.mono (by decide))   ) (Ky.2.binds fun _ _ _ _ _ _ us hl=>by obtain⟨_,_,rfl⟩:=yx hl;rfl);have C28:zo l.prog w K mg base 3 _ _ _:=Kz.cl X G (ZV Kz.2 B    (C27.mono (by decide))   ) (Kz.2.binds fun _ _ _ _ _ _ us hl=>by obtain⟨_,_,_,rfl⟩:=x9 hl;rfl);have C29:zo l.prog w K mg base 1 _ _ _:=KA.cl X G (ZW KA.2 B       ) (KA.2.binds fun _ _ _ _ _ _ us hl=>by obtain⟨_,_,_,rfl⟩:=x9 hl;rfl);have C30:zo l.prog w K mg base 1 _ _ _:=KB.cl X G (Uz KB.2 B       ) (KB.2.binds fun _ _ _ _ _ _ us hl=>by obtain⟨_,_,_,rfl⟩:=x9 hl;rfl);have C31:zo l.prog w K mg base 2 _ _ _:=KC.cl X G (sZ KC.2 B    (C30.mono (by decide))   ) (KC.2.binds fun _ _ _ _ _ _ us hl=>by obtain⟨_,_,_,_,rfl⟩:=vy hl;rfl);have C32:zo l.prog w K mg base 3 _ _ _:=KD.cl X G (UB KD.2 B    (C31.mono (by decide)) (C30.mono (by decide))   ) (KD.2.binds fun _ _ _ _ _ _ us hl=>by obtain⟨_,_,_,_,rfl⟩:=vy hl;rfl);have C33:zo l.prog w K mg base 1 _ _ _:=KF.cl X G (YK KF.2 B       ) (KF.2.binds fun _ _ _ _ _ _ us hl=>by obtain⟨_,_,rfl⟩:=yx hl;rfl);have C34:zH l.prog w K mg base C 4 "hand_on" ["self","stage","line"] (qN C K):=⟨_,_,s8 (P:=l.prog) (w:=w) (base:=base) (n:=3) F34 B T      (C28.mono (by decide)) (C29.mono (by decide)) (C32.mono (by decide)) (C33.mono (by decide)) (bG X G nu)  ,b34,⟨a34,i34,k34⟩⟩
  have C35:zH l.prog w K mg base C 5 "pass_on" ["self","stage","gone"] (qO C K):=⟨_,_,re (P:=l.prog) (w:=w) (base:=base) (n:=4) F35 B T    (C34.mono (by decide))  (C24.mono (by decide))   ,b35,⟨a35,i35,k35⟩⟩
  have C36:zH l.prog w K mg base C 2 "do_asks" ["self","box","numbers"] (uE C K):=⟨_,_,rf (P:=l.prog) (w:=w) (base:=base) (n:=1) F36 B T      (C26.mono (by decide))   ,b36,⟨a36,i36,k36⟩⟩
  have C37:zH l.prog w K mg base C 3 "take" ["self","gone"] (qM C K):=⟨_,_,YL (P:=l.prog) (w:=w) (base:=base) (n:=2) F37 B T    (C36.mono (by decide))     ,b37,⟨a37,i37,k37⟩⟩
  have C38:zH l.prog w K mg base C 2 "forget" ["self"] (uD C K):=⟨_,_,jk (P:=l.prog) (w:=w) (base:=base) (n:=1) F38 B T    (C22.mono (by decide))     ,b38,⟨a38,i38,k38⟩⟩
  have C39:zH l.prog w K mg base C 6 "beat" ["self","lost"] (tw C K):=⟨_,_,sK (P:=l.prog) (w:=w) (base:=base) (n:=5) F39 B T    (C23.mono (by decide)) (C35.mono (by decide)) (C37.mono (by decide)) (C38.mono (by decide))  (C21.mono (by decide))   ,b39,⟨a39,i39,KG⟩⟩
  have D39:TQ l.prog w K mg base C 6 "beat" ["self","lost"] [.none] (tw C K):=⟨_,_,sK (P:=l.prog) (w:=w) (base:=base) (n:=5) F39 B T    (C23.mono (by decide)) (C35.mono (by decide)) (C37.mono (by decide)) (C38.mono (by decide))  (C21.mono (by decide))   ,e39,⟨a39,i39,KG⟩⟩
  have C40:zo l.prog w K mg base 4 _ _ _:=Bj.cl X G (ZY Bj.2 B    (C18.mono (by decide))   ) (Bj.2.binds fun _ _ _ _ _ _ us hl=>by obtain⟨_,_,rfl⟩:=yx hl;rfl);have C41:zo l.prog w K mg base 2 _ _ _:=KH.cl X G (UD KH.2 B    (C5.mono (by decide))   ) (KH.2.binds fun _ _ _ _ _ _ us hl=>by obtain⟨_,rfl⟩:=yW hl;rfl);have C42:zo l.prog w K mg base 3 _ _ _:=KI.cl X G (WE KI.2 B    (C41.mono (by decide)) (C5.mono (by decide))   ) (KI.2.binds fun _ _ _ _ _ _ us hl=>by obtain⟨_,rfl⟩:=yW hl;rfl);have C43:zo l.prog w K mg base 4 _ _ _:=KJ.cl X G (UE KJ.2 B    (C42.mono (by decide)) (C6.mono (by decide))  (fD X G oE) ) (KJ.2.binds fun _ _ _ _ _ _ us hl=>by obtain⟨_,_,rfl⟩:=yx hl;rfl);have C44:zH l.prog w K mg base C 5 "put" ["self","ask"] (Yq C K):=⟨_,_,WF (P:=l.prog) (w:=w) (base:=base) (n:=4) F44 B T      (C40.mono (by decide)) (C43.mono (by decide))  (fD X G oF) ,b44,⟨a44,i44,k44⟩⟩
  have C45:zo l.prog w K mg base 2 _ _ _:=KL.cl X G (YN KL.2 B    (C5.mono (by decide))  (fD X G nY) ) (KL.2.binds fun _ _ _ _ _ _ us hl=>by obtain⟨_,rfl⟩:=yW hl;rfl);have C46:zo l.prog w K mg base 3 _ _ _:=KM.cl X G (jm KM.2 B    (C45.mono (by decide))   ) (KM.2.binds fun _ _ _ _ _ _ us hl=>by obtain⟨_,rfl⟩:=yW hl;rfl);have C47:zo l.prog w K mg base 3 _ _ _:=KN.cl X G (jo KN.2 B    (C6.mono (by decide))  (fD X G oG) (fD X G oH) ) (KN.2.binds fun _ _ _ _ _ _ us hl=>by obtain⟨_,_,rfl⟩:=yx hl;rfl);have C48:zo l.prog w K mg base 3 _ _ _:=KO.cl X G (YQ KO.2 B    (C6.mono (by decide))  (fD X G pH) ) (KO.2.binds fun _ _ _ _ _ _ us hl=>by obtain⟨_,rfl⟩:=yW hl;rfl);have C49:zH l.prog w K mg base C 4 "__init__" ["self","k","board","room","kept"] (qT C K):=⟨_,_,sM (P:=l.prog) (w:=w) (base:=base) (n:=3) F49 B T      (C46.mono (by decide)) (C47.mono (by decide)) (C48.mono (by decide))   ,b49,⟨a49,i49,k49⟩⟩
  exact Jw (P:=l.prog) (w:=w) (base:=base) (n:=6) KP.2 B T    (C16.mono (by decide)) (C17.mono (by decide)) (C39.mono (by decide)) (C44.mono (by decide))  (wo.mono (j:=5) (C49.make ⟨mkc,a49,i49,kc⟩) (by decide)) (C1.mono (by decide)) (C3.mono (by decide)) (C8.mono (by decide)) (C9.mono (by decide)) (C11.mono (by decide)) (C10.mono (by decide)) (C14.mono (by decide)) (C12.mono (by decide)) (C15.mono (by decide)) (bG X G na)
theorem walk{l:lK}{q:Program}{nj:List Str}{XP:(Str->Option Value)->Heap->Prop}{YP:World->Heap->Prop}{d:DefRec}{K:Params->FG7}(hn:l.most=some 63)(BE:d.params.defaults=[])
  (hY:∀(w:World) (h:Heap),YP w h->(K w.params).In h)
  (F:∀(w:World) (mg:Str->Option Value) (fa:Addr) (h:Heap),(K w.params).In h->h.Ns bI mg->mg d.name=some (.ref fa)→
   ∃fd:FuncData,(∀(s:Shared) (u:Value),BindsTo s fd ⟨[u],[]⟩ [("_law_script",u)])/\∀base:Heap,(K w.params).In base->base.Ns bI mg->FnOk l.prog w (K w.params) mg base CX0 7 fa fd ["_law_script"] (Y0 (K w.params))) :
  md q nj XP YP l.row.toRowW d [] (fun f vs=>PySem.call f vs) :=
 L2.walk_of (n:=63) (k:=7) (x:="_law_script") (CX:=fun _=>CX0) (sp:=fun w=>Y0 (K w.params)) hn (by decide) BE ⟨rfl,by decide,by decide,rfl⟩ hY F (fun _ _ a ns hl hO hS=>⟨_,rfl,a,ns,rfl,Scr.of hO hS,hl,fun _=>rfl⟩) fun _ _ _ _ _ z=>z
theorem walkX{q:Program}{nj:List Str}{XP:(Str->Option Value)->Heap->Prop}{K:Params->FG7}{as:List Addr}{n t:Nat}{r:PySem.W.RowW}{d:DefRec}{kwd:List (Str×Expr)}{run:Value->List Value->Sem Value}
  (e:∀P,as=(K P).map (·.1)) (W:md q nj XP (PySem.W.InK K) r d kwd run):PySem.W.WalkX q nj XP (PySem.W.X.obsZ as) (PySem.W.X.valZ K n t) r d kwd run :=
 fun w s₀ s₁ mg mb G Y a o pm cd nA dV kV h2 h3 h4 h5 h6 h7 args As as' L pR Dv EO BD CL =>
  W w s₀ s₁ mg mb G (PySem.W.InK.keeps w s₀.heap s₁.heap (PySem.W.X.z_facts e Y).2.1 L.keeps) a o pm cd nA dV kV h2 h3 h4 h5 h6 h7 args As as' pR Dv EO BD CL
end My
open PySem PySem.W PyProof.Rows
namespace PySem.W.Fast
def tw1933726932605218757:=()
def tw12120156541634340986:=()
def tw14745388181821829515:=()
def tw17940379083832665439:=()
def tw1636666172040859766:=()
def tw2725019173680670037:=()
def tw6267357059653922032:=()
def tw15627708414083529912:=()
def tw4373224366555175745:=()
def tw9494295215337165547:=()
def tw12759850026190632654:=()
def tw8366953598557152111:=()
def tw3716638125221470294:=()
def tw16312055039935461238:=()
def tw3410670539408559833:=()
def tw3082452849737594010:=()
def tw13897108007463198851:=()
def tw16302135493350475426:=()
def tw5953248482815103024:=()
def tw5527898877263473254:=()
def tw5542156716248067523:=()
def tw1564461807328087042:=()
def tw3513589337043893901:=()
def tw8685879643123472922:=()
def tw826923072572956651:=()
def tw10116988167242517318:=()
def tw6983704874303986486:=()
def tw2118182681991411107:=()
def tw8361885456834398549:=()
def tw6287018678019980013:=()
def tw1353118445432635455:=()
def tw11779859826336853375:=()
def tw10852867373318848521:=()
def tw2629644571054405860:=()
def tw5666693543358533655:=()
def tw11634908440224944321:=()
def tw5537521287659899160:=()
def tw15488854552156244382:=()
def tw16116925940954884127:=()
def tw13149557724520302855:=()
def tw15035260172496400634:=()
def tw1515638329544461594:=()
def tw12427944239914503904:=()
def tw3341355884719363684:=()
def tw1588052254933356059:=()
def tw4824072117787109758:=()
def tw8868695938624221572:=()
def tw753588537541126940:=()
def tw15478865532836889687:=()
def tw12051717424761563864:=()
def tw269293648171914610:=()
def tw16826511474912586354:=()
def tw12622243179769875792:=()
def tw14140738070773216991:=()
def tw5835351897315628293:=()
def tw13884177679704206556:=()
def tw12503550528829823183:=()
def tw10855637115990359967:=()
def tw17887261577206370235:=()
def tw17686000737758380807:=()
def tw7393371223273466382:=()
def tw13621719479236890124:=()
def tw13104335617393235746:=()
def tw1854227637853220782:=()
def tw10752250032033958534:=()
def tw5119467185095448742:=()
def tw16116491590576134551:=()
def tw13696893104819895331:=()
def tw5900416358332634397:=()
def tw3972571305959823385:=()
def tw15603473325147384056:=()
def tw8607939750911094623:=()
def tw13842556266685214625:=()
def tw14390341723332301532:=()
def tw514054825898774284:=()
def tw15282774323512288984:=()
def tw4995101449566396560:=()
def tw6327617824817094877:=()
def tw15944252863236937608:=()
def tw15181225562829304252:=()
def tw9266303300835427718:=()
def tw13940113520138415357:=()
def tw16580761828253334999:=()
def tw10087074995932886100:=()
def tw5817155127979911467:=()
def tw834353104751537366:=()
def tw11355657306116482528:=()
def tw13365165396480303228:=()
def tw3880697548156981777:=()
def tw4218440042658883455:=()
def tw8429807960657235844:=()
def tw11603510826088854880:=()
def tw8984450734377934589:=()
def tw2410012879069474618:=()
def tw10073174023296286139:=()
def tw678779335310397594:=()
def tw7146316315577019843:=()
def tw15168798233451979521:=()
def tw13505339540263223263:=()
def tw9699031535345180687:=()
def tw4118751424965055980:=()
def tw14885900702675567427:=()
def tw3992902384237176266:=()
def tw13373286497849816969:=()
def tw17663545072031531932:=()
def tw16327199566255028889:=()
def tw13827765576125030216:=()
def tw14681081167463103609:=()
def tw14382565964675627733:=()
def tw9653962903018027005:=()
def tw8721930084925399748:=()
def tw11302937898028697064:=()
def tw472030365469172396:=()
def tw5403639215054037655:=()
def tw13898762796432365811:=()
def tw7621625336901551853:=()
def tw3784225582827226776:=()
def tw13496684019858740690:=()
def tw5522256752231588371:=()
def tw11751933088995037713:=()
def tw12127282742660387951:=()
def tw2788521444256312605:=()
def tw8009935734043848791:=()
def tw758284842671648957:=()
def tw10500413436970330558:=()
def tw1917829475528407054:=()
def tw15449297471819149296:=()
def tw7258087728308637613:=()
def tw12809705541261736326:=()
def tw4783343852516478289:=()
def tw14370133445853484185:=()
def tw16422579165674697011:=()
def tw10279460049212107532:=()
def tw16313946057924064331:=()
def tw13340022331657880852:=()
def tw16868110660479030912:=()
def tw3470663741238509455:=()
def tw11407749502588911129:=()
def tw14670943544746034706:=()
def tw7818590200255908366:=()
def tw10580716128682998712:=()
def tw15081396979354745652:=()
def tw8002130642174421581:=()
def tw905564176803323997:=()
def tw11792364656372101943:=()
def tw12843429555479086727:=()
def tw13703658584383982193:=()
def tw11091392459236673281:=()
def tw4099112331107125347:=()
def tw16721870611283624390:=()
def tw3603209446089197345:=()
def tw14271782626526478219:=()
def tw7539548519499943141:=()
def tw13347243582370656068:=()
def tw1514467690973216361:=()
def tw7589796327452150031:=()
def tw8508250209937709890:=()
def tw4649023398389966890:=()
def tw15974380662243640792:=()
def tw8303888498280078616:=()
def tw2499544996343042684:=()
def tw17790426088985438103:=()
def tw2852067472102256276:=()
def tw6650484113899411047:=()
def tw10789713249568850940:=()
def tw13573307282586278059:=()
def tw15812858601883486442:=()
def tw9471265281191641728:=()
def tw11923563537686220327:=()
def tw13936538382335736850:=()
def tw7365835698210173555:=()
def tw12744303018489208587:=()
def tw11406100248822706450:=()
def tw10745440789722183370:=()
def tw6008334565189503993:=()
def tw12292251480530920700:=()
def tw17599154441764014759:=()
def tw13741488419049150808:=()
def tw7754334483677125593:=()
def tw13586790938284769907:=()
def tw3556289962868743268:=()
def tw7147960939827950908:=()
def tw9228846072262025064:=()
def tw7600189389298502110:=()
def tw16175624547080312073:=()
def tw4425753414996061661:=()
def tw13711537095874202230:=()
def tw3927001651178101416:=()
def tw4680237730130610623:=()
def tw13941217703336635496:=()
def tw13627878660568158593:=()
def tw254988409998450752:=()
def tw12906443342629212405:=()
def tw18424160670282073835:=()
def tw7597653151039495509:=()
def tw2588825400481909560:=()
def tw10446815728339246846:=()
def tw10174434058092636691:=()
def tw12142979772704085116:=()
def tw14745222731918486624:=()
def tw1320623056553985738:=()
def tw8012175635885653814:=()
def tw7335089791772538428:=()
def tw1584656857150442113:=()
def tw4882117020181755741:=()
def tw15479181824011905677:=()
def tw10859707710724720518:=()
def tw13432282593251100545:=()
def tw7185345185185238196:=()
def tw15676384828109626806:=()
def tw4571515403975873651:=()
def tw3338637738011949750:=()
def tw15850891833423124267:=()
def tw141176240793855313:=()
def tw14640810397222244042:=()
def tw5940435503063197080:=()
def tw9552317775603342250:=()
def tw17553809238450255409:=()
def tw15077526314230582565:=()
def tw16617306590756276754:=()
def tw12917335833618966916:=()
def tw13976706306931704340:=()
def tw14410391372135191534:=()
def tw16331816610433788626:=()
def tw7013336326267951085:=()
def tw15695073565151588196:=()
def tw18355004489993884870:=()
def tw4070093573274035322:=()
def tw7396577101466438500:=()
def tw13171960928390468316:=()
def tw7391991375206236401:=()
def tw3330499209530397130:=()
def tw1938603541263227111:=()
def tw1151792598385489931:=()
def tw3899896603857114217:=()
def tw16189288404585761605:=()
def tw10229175114573365471:=()
def tw3638558837841453081:=()
def tw14723355062031132642:=()
def tw17349092014910595656:=()
def tw12853026632898383069:=()
def tw796019572045313038:=()
def tw7042584033810651292:=()
def tw7715990584810039865:=()
def tw8149714199289853370:=()
def tw9804464897070120447:=()
def tw11119861401975487224:=()
def tw12346160165263384036:=()
def tw17700179823396308682:=()
def tw1609917559052414547:=()
def tw13637848935305464675:=()
def tw14987945498756018025:=()
def tw17365403226830056021:=()
def tw196627490052699693:=()
def tw14534002930088075914:=()
def tw5026786618661949022:=()
def tw12462731946133727850:=()
def tw12203420322983616668:=()
def tw12512225531772656548:=()
def tw10143442313367334497:=()
def tw3665905431487209679:=()
def tw15317569991450777585:=()
def tw15134531417652678256:=()
def tw9757106630774267663:=()
def tw10159295572940863968:=()
def tw8065051206439251873:=()
def tw4489143111251269246:=()
def tw6665989575391976896:=()
def tw10201171439200305381:=()
def tw16219237876105465581:=()
def tw14468132719610212618:=()
def tw9228647726950856137:=()
def tw8644569304870980360:=()
def tw8163738432394086107:=()
def tw3587086893245752488:=()
def tw1909590509666673414:=()
def tw6346077301602981900:=()
def tw12814111557199367712:=()
def tw8489734157832780302:=()
def tw9351667071570372105:=()
def tw11986327676386196531:=()
def tw4224144541462250892:=()
def tw12845168149062679099:=()
def tw3000737111802095693:=()
def tw16591628545932911755:=()
def tw2219700341194232810:=()
def tw10382861649733424951:=()
def tw6922935709102283806:=()
def tw13628368136960485670:=()
def tw16565979342984572235:=()
def tw16675311341791986228:=()
def tw13659718510634664589:=()
def tw5817932535339973861:=()
def tw3696852131232658745:=()
def tw14684516424972247523:=()
def tw4975684044044606944:=()
def tw7200395430707073389:=()
def tw5470130455596002225:=()
def tw5115104259589082789:=()
def tw9843047897287099926:=()
def tw3079610692216451495:=()
def tw8721852588572013289:=()
def tw14847630658018318704:=()
def tw18196115387085869319:=()
def tw17520977730459945858:=()
def tw14707479418757717605:=()
def tw16596657215920930262:=()
def tw17137019204398997668:=()
def tw2615257394967952037:=()
def tw6188525855686405684:=()
def tw15728954698901926901:=()
def tw17480584605697019774:=()
def tw7991647731938889756:=()
def tw3448458882772461241:=()
def tw7390791571891572463:=()
def tw3939734187453778602:=()
def tw5180828938785575176:=()
def tw3208427085909243689:=()
def tw4984923093785843559:=()
def tw16954829416685280113:=()
def tw412060553116163797:=()
def tw545294299796920381:=()
def tw9985557645875246241:=()
def tw13333924800484326854:=()
def tw2057118276752883265:=()
def tw12893852433181753545:=()
def tw12956569811233100915:=()
def tw10405353319538650924:=()
def tw337401453773874450:=()
def tw15284104730725346694:=()
def tw6954467702660323150:=()
def tw17701433196932062964:=()
end PySem.W.Fast
set_option maxRecDepth 100000 in
theorem PySem.Challenge.cw_joinedasks_k52_whole_as_one_after_anothe_holds : PySem.Challenge.rw_joinedasks_k52_whole_as_one_after_anothe.Holds := by
 w_on;o_law;z_head;(case hw=>w_witness2)
 refine My.walkX (fun _=>by kernel_rfl) (My.walk (l:=PySem.Challenge.rw_joinedasks_k52_whole_as_one_after_anothe) rfl rfl (fun w h Y=>Y) ?F);case F =>
  intro w mg fa h KX G hmg;refine' My.all_mk KX G hmg ?aa ?ab ?ac ?ad ?ae ?af ?ag ?ah ?ai ?aj ?ak ?al ?am ?an ?ao ?ap ?aq ?ar ?as ?au ?av ?aw ?ax ?ay ?az ?a0 ?a1 ?a2 ?a3 ?a4 ?a5 ?a6 ?a7 ?a8 ?a9 ?ba ?bb ?bc ?bd ?be ?bf ?bg ?bh ?bi ?bj ?bk ?bl ?bm ?bn ?bo ?bp ?bq ?br ?bs ?bt ?bu ?bv ?bw ?bx ?bz ?b0 ?b1 ?b2 ?b3 ?b4 ?b5 ?b6 ?b7 ?b8 ?b9 ?ca ?cb ?cc ?cd ?ce ?cf ?cg ?ch ?ci ?cj ?ck ?cl ?cm ?cn ?co ?cp ?cq ?cr ?cs ?ct ?cu ?cv ?cw ?cx ?cy ?cz ?c0 ?c1 ?c2 ?c3 ?c4 ?c5 ?c6 ?c7 ?c8 ?c9 ?da ?db ?dc ?dd ?de ?df ?dg ?dh ?di ?dj ?dk ?dl ?dm ?dn ?dp ?dq ?dr ?ds ?dt ?du ?dv ?dw ?dx ?dy ?dz ?d0 ?d1 ?d2 ?d3 ?d4 ?d5 ?d6 ?d7 ?d8 ?d9 ?ea ?eb ?ec ?ed ?ee ?ef ?eg ?eh ?ei
  (case aa|ab|ac|ad|ae|af|ag|ah|ai|aj|ak|al|am|an|ao|ap|aq|ar|as=>k_is)
  (case au|av|aw=>exact⟨by k_is,L2.fun_mk (by k_is) (by k_is) (by k_is)⟩)
  (case ax|ay|az|a0|a1=>k_is)
  (case a2|a3=>exact⟨by k_is,L2.fun_mk (by k_is) (by k_is) (by k_is)⟩)
  (case a4|a5|a6|a7|a8=>k_is)
  (case a9|ba|bb|bc|bd|be|bf|bg=>exact⟨by k_is,L2.fun_mk (by k_is) (by k_is) (by k_is)⟩)
  (case bh|bi|bj|bk|bl|bm|bn|bo|bp|bq=>k_is)
  (case br|bs|bt|bu=>exact⟨by k_is,L2.fun_mk (by k_is) (by k_is) (by k_is)⟩)
  (case bv|bw|bx|bz|b0|b1|b2|b3|b4|b5=>k_is)
  (case b6|b7|b8|b9|ca|cb|cc|cd|ce|cf=>exact⟨by k_is,L2.fun_mk (by k_is) (by k_is) (by k_is)⟩)
  (case cg|ch|ci|cj|ck|cl|cm|cn|co|cp|cq|cr|cs|ct|cu|cv|cw|cx|cy|cz|c0|c1|c2|c3|c4|c5|c6|c7|c8|c9|da=>k_is)
  (case db|dc|dd|de=>exact⟨by k_is,L2.fun_mk (by k_is) (by k_is) (by k_is)⟩)
  (case df|dg|dh|di|dj=>k_is)
  (case dk|dl|dm|dn=>exact⟨by k_is,L2.fun_mk (by k_is) (by k_is) (by k_is)⟩)
  (case dp|dq|dr|ds|dt=>k_is)
  (case du=>exact⟨by k_is,L2.fun_mk (by k_is) (by k_is) (by k_is)⟩)
  (case dv|dw|dx|dy|dz|d0|d1|d2|d3|d4|d5|d6|d7|d8|d9|ea|eb|ec|ed|ee|ef|eg|eh|ei=>k_is)

