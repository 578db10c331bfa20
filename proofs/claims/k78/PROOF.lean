import PyProof.Rows.All
import Wide.All
import OpenK.AllK
import Wide.FinOn
import Lean
import PyProof.EqAt
import PyProof.EqKinds
import PyProof.TupleCall
import PyProof.NeKinds
import PyProof.Rows.All
import Wide.All
import OpenK.AllK
import Wide.FinOn
import PyProof.EqAt
import PyProof.EqKinds
import PyProof.TupleCall
import PyProof.NeKinds
import PyProof.ReprRoads
import PyProof.ReprLen
import PyProof.Rows.RegStrFacts
import PyProof.Draws
import PyProof.EnumStmt
import PyProof.ZipIter
import PyProof.ListNew
import PyProof.TupleOfGen
import PyProof.ListRange
import PyProof.Rows.Range3
import PyProof.SumWalkG
import PyProof.AutoSeq1
import PyProof.Cells
import PyProof.AutoListH
import PyProof.DictTable
import PyProof.TupleKey
import PyProof.DictRoadsH
import PyProof.DictKinds
import PyProof.ExcBaseAll.ValueError
import PyProof.ExcAttrAll.ValueError
import PyProof.RulesAs
import PyProof.NsDelKeeps
import KE.KDictList
import PyProof.DictCompW
import PyProof.DictItems
import PyProof.DictWalks
import PyProof.Rows.SetFrom
import PyProof.SetRoads
import PyProof.IsiH_list
import PyProof.AttrMiss
import KE.KDictOf
import KE.KSortTup
import PySem.Challenge.RW_joinedasks_k78_calls_refused
open PySem renaming wpAny_bind→aA,wpAny_pure→aB,mainGlobals→bC,wpAny_newObj_type→bF,wpAny_field→bS,wpAny_holding→bU,wpAny_call_entry→bW,starEach→bY,wpAny_callSpecial?_slot→cA,wpAny_setField→cE,bootBuiltins→cU,wpAny_truthy_bool→dq,wpAny_seqItems→du,codeAny_builtin→dC,mem_of_lookup→dQ,assignEach→dR,wpAny_Call_Name_kw→dS,firstArgMember→dU,wpAny_mono→eM,wpAny_dictEntries→eQ,compareOp→fc,wpAny_setState_of→ft,wpAny_dictEpoch→fA,wpAny_isInstance→fG,wpAny_typeNameOfWhole_itemiter→fI,wpAny_typeNameOfWhole_keyiter→fQ,wpAny_typeNameOfWhole_valiter→fR,binaryOp→fZ,setSearchFrom→gj,wpAny_forIn_list→gm,IsPair→gz,wpAny_typeNameOf_itemiter→gH,wpAny_passesOwn→gI,wpAny_specialOf→gK,wpAny_pyIter_list→gM,sizeLine_eq→gN,behindInMarks→gW,wpAny_attempt→gY,wpAny_typeNameOf_keyiter→gZ,wpAny_typeNameOf_valiter→hG,cLine→ig,intKind→ir,codeAny→iw,codeAny_mono→ix,wpAny_typeOf→iy,wpAny_setField_rec→iB,wpAny_execs_nil→iD,letOwnedTupleGo→iE,seqItems?→iG,wpAny_rule→iL,wpAny_of_eq→iM,wpAny_fieldsOf→iP,wpAny_standAt→iY,wpAny_handled→i8,wpAny_comprehension_free→i9,wpAny_onRaise→ka,IsPart→ki,IsItemIter→ku,wpAny_runValue→kH,wpAny_loadPart_at→kN,wpAny_pyIter_slot→kP,wpAny_isOneOf_itemiter→kS,isSubtype_tuple_tuple→kX,wpAny_notOrdered_dict→kZ,wpAny_isOneOf_valiter→k6,backTo→lg,wpAny_newList→lq,field→lx,wpAny_throw→ly,codeAny_call_builtin→lA,IsZip→lJ,wpAny_pyIter_tuple→lO,call_meets→lS,newExc→lU,newTuple→lV,isInstance→lW,wpAny_tupleItemsOf→l0,isSubtype_stop→l5,getItem→ml,wpAny_sequenceKey→mm,wpAny_pyIter_enum→mn,atKey→mo,call_list_seq→mw,plainId_quiet→mC,tupleKind→mE,wpAny_execs_cons→mF,swapsWith→mG,noFill_tuple_add→mH,wpAny_Dict_empty→mJ,assign→mL,wpAny_updateSeq→mS,codeAny_of_tree→mV,raiseNew→m8,wpAny_letGo→ng,BindsTo→nj,callerA→nn,wpAny_load→nz,wpAny_call→nA
open List renaming getElem?_eq_getElem→aC,length_map→aE,range→aF,getD_eq_getElem?_getD→aH,mem_cons→aK,getElem?_eq_some_iff→aL,size_toArray→aO,mem_singleton→aR,length_range→aS,mem_cons_of_mem→aX,mem_of_getElem?→bA,length_append→bD,getElem?_map→bE,mem_append_right→bG,mem_append→bH,mem_map→bI,mem_cons_self→bM,mem_range→bN,all_eq_true→bR,length_take→bT,map_append→bZ,map_cons→cz,replicate→cD,getElem?_range→cG,length_cons→cJ,append_nil→cS,length_set→cT,mem_append_left→cW,length_singleton→cZ,map_map→de,getElem?_eq_none→df,take_of_length_le→dv,getElem?_append_right→dF,take_length→dG,append_assoc→dI,getElem?_append_left→dL,any_cons→dO,pairwise_cons→dW,mem_filter→dX,getElem?_set_self→dY,lookup_cons→eA,filter_cons→eE,getElem_map→eG,length_nil→eX,getElem?_set_ne→fb,length_eq_zero_iff→fg,pairwise_append→fh,pairwise_lt_range→fo,filterMap_cons→fu,range_succ→fB,getElem_mem→fF,mem_nil_iff→fH,not_mem_nil→fK,all_cons→fL,getElem?_of_mem→fS,any_eq_false→fT,forIn_cons→fV,nil_append→fX,find?_cons→fY,replicate_succ→f',getElem_of_mem→gh,filter_sublist→gi,filter_append→gy,take_append_drop→gG,nodup_cons→gJ,nodup_append→gS,ext_getElem?→gU,map_congr_left→ie,length_drop→ik,take_succ→im,map_id→ip,range'→iq,toArray→iC,length_filter_le→iI,foldl_append→iJ,range_eq_range'→iN,ext_getElem→iU,all_map→iW,pairwise_iff_getElem→iX,getElem?_take_of_lt→i0,filterMap_cons_some→ke,filterMap_map→kj,map_inj_right→ko,getElem_range→kr,flatten_cons→kF,drop_zero→kG,pairwise_map→kK,lookup_cons_self→kW,mem_iff_getElem?→k8,getElem_inj→k9,mem_iff_getElem→lD,of_mem_zip→lE,foldl_cons→lF,map_nil→lL,nodup_nil→lY,zip_cons_cons→l7,getElem?_inj→mv,sum_cons→my,nodup_range→mK,set_set→mM,countP_map→mU,map_take→nv,foldl→nB
open PySem.Heap renaming get?_push_of_some→aD,get?_push_size→aM,lt_size→aP,get?_update_self→cx,SameBut→cP,get?_update_other→cV,size_push→fM,ExtBut→fN
open Nat renaming le_refl→aG,le_of_ble_eq_true→aI,lt_of_lt_of_le→aV,ne_of_lt→aW,zero_le→cw,le_trans→cH,le_of_lt→c7,ne_of_gt→dB,lt_irrefl→eU,lt_succ_of_lt→fm,le_succ→fz,not_lt_zero→gL,mul_le_mul_right→gQ,lt_succ_self→il,le_add_right→iR,lt_trans→iS,lt_trichotomy→kT,lt_of_not_le→lm,min_eq_left→lG,zero_add→lN,lt_of_le_of_lt→lT,lt_or_eq_of_le→ma,le_of_lt_succ→mr,add_assoc→mB,le_of_not_lt→mI,sub_self→mO,add_le_add→ni,sub_zero→nD,mul_comm→nE,succ_pos→nF
open Bool renaming and_eq_true→aJ,false_eq_true→aY,false_ne_true→aZ,not_eq_true'→cX,eq_iff_iff→dh,not_true→dJ,and_eq_true_iff→fP,and_false→io,or_eq_true→kh,not_false→kM,eq_false_iff→kO,not_eq_true→lp,and_true→mx,true_and→mz,false_and→mY
open PySem.Value renaming ref→aN,none→aU,type→cK,int→fD,bool→gV,builtin→lu,isInt→mf,ellipsis→m9,str→nH
open Array renaming length_toList→aQ,getElem?_eq_some_iff→bP,getElem?_toList→cC,getElem?_eq_getElem→cF,mem_toList_iff→fe,getD→fJ,getElem?_setIfInBounds_ne→hZ,forIn_toList→iA,size_append→kI,getElem?_eq_none→kQ,size_map→l6,replicate→mW,toList→nC
open Or renaming inl→bB,inr→lh
open PySem.W renaming nsIn→bJ,mg_of→bK,mg_none_of→bO,kia_one→dk,kitOne→dE,mroIn→eV,keepIn→ii,excIn→iH,fnOf→iQ,cellsFrom_some→kD,callWith_K→lP,methodObj→mh,kitx_list→mi,kitx_dict→mj,instObj→mP,OpenLaw→mQ,lookIn→mZ,codeIn→m7,WalkO→nq
open Int renaming toNat_natCast→bL,toNat_of_nonneg→eO,natCast_nonneg→gq,emod_lt_of_pos→gE,emod_nonneg→iF,toNat→iT,zero_add→kU,natCast_pow→mR
open Option.some renaming inj→bQ
open PySem.Obj renaming mapFields→bV,mapSeq→cB,isFreed_of_fields→cN,data_mapFields→cQ,cls_mapFields→gP
open PySem.PyData renaming int→bX,depthAll→eY,shownAll→fW,shownKv→iO,showableAll→kn,showableKv→kJ,tuple→kL
open PySem.SetTable renaming below→cy,insertAt→cY,Probe→da,leap→dw,bits→dy,sizeAbove→dz,runEnd→dD,turns→dM,toList_insertAt→dP,advance→iV,slot→lv,grown→me,fits→ny,has→nG
open PySem.SetTable.probe renaming go→cI
open PySem.Builtin.SmallTypes renaming nextOf→cL,ownedTupleIsFree→c9
open PyProof.Rows renaming callWith_type1→cM,slot_tuple_getitem→dA,IntsAre→kg,listUpdate_at→lr,entry_tuple_getitem→lI,AllBare→lK,listItems_at→lM,args_tuple_getitem→lR,get?_update_seq→mT
open PySem.Builtin.Tuple renaming tupleExact→cO,tupleHashOf→eK,tupleItemsOf→gv
open PySem.Heap.SameBut renaming update→cR,refl→mq
open PySem.Builtin.Dict_items renaming ownsTuple→c6
open PySem.Builtin.Slice renaming slicePlaces→dg,sliceAdjust→eJ,sliceApplied→gu
open PySem.AutoSeq1 renaming wpAny_loadPart'→dH
open PySem.Str renaming ofString→dZ
open Option renaming map_eq_some_iff→eF,isSome_iff_exists→gX,map_some→lH,map→md,isSome→nw
open PySem.SetTable.layClean renaming free→eI
open PySem.F renaming slot_dict_valueiterator_next→eP,slot_dict_itemiterator_next→eW,slot_dict_keyiterator_next→eZ,plainAttrs_list→fU,slot_list_append→hJ,type_list_append→hV,args_tuple_add_2→i7,args_tuple_mul_2→kf,entry_tuple_add→kz,plainAttrs_dict→kB,entry_tuple_mul→kC,slot_tuple_add→kE,slot_tuple_mul→kR,slot_dict_get→kY
open PySem.Builtin.List renaming listExtendWith→fj
open PySem.SetTable.below renaming go→fq
open PySem.Builtin.Dict renaming showsAll→fC
open PySem.Calls renaming spliced_cons→fE,spliced_nil→gO,callWith_builtin→iz,evalArgs_plain→lw
open PySem.Builtin renaming bitNot→fO,bitAnd→iK,bitOr→iZ
open PySem.Code renaming quiet_builtin→km
open PySem.Builtin.Range renaming rangeSize→kw
open Prod renaming ext→lQ
open List.Perm renaming cons→lZ,refl→nh
open PySem.Shared renaming TypeIs→mD
open PySem.Value.ref renaming inj→nu
set_option Elab.async false
set_option linter.all false
set_option maxRecDepth 100000
set_option maxHeartbeats 0
abbrev FG7:=PySem.W.Frag
abbrev VS7:=PySem.Value->PySem.Shared->Prop
namespace L2
open PySem PySem.Spec PyProof.Rows
abbrev Key:=Sum Int Str
noncomputable def ZR:Key->Value->Bool
 |.inl k,v=>mf k v
 |.inr x,v=>Value.isStrOf x v
def zbP(w:World):Key->Int
 |.inl k=>hashInt k
 |.inr x=>hashStr w x
theorem ya:∀{k:Key} {v:Value},ZR k v=true->(∃i t,k=Sum.inl i/\v=fD i t)\/(∃x t,k=Sum.inr x/\v=nH x t)
 |.inl i,v,h=>by
  obtain⟨t,e⟩:=Value.isInt_shape (k:=i) (v:=v) h;exact .inl ⟨i,t,rfl,e⟩
 |.inr x,v,h=>by
  obtain⟨t,e⟩:=Value.isStrOf_shape (x:=x) (v:=v) h;exact .inr ⟨x,t,rfl,e⟩
theorem WK(i:Int)(t:Tok):ZR (.inl i) (.int i t)=true:=by simp[ZR,mf]
theorem WL(x:Str)(t:Tok):ZR (.inr x) (.str x t)=true:=by simp[ZR,Value.isStrOf]
theorem Jg(a b:Int):decide ((Sum.inl a:Key)=Sum.inl b)=(a == b):=by
 by_cases e:a=b
 ·subst e;simp
 ·have h:¬(Sum.inl a:Key)=Sum.inl b:=fun q=>e (Sum.inl.inj q);rw[decide_eq_false h];exact(beq_eq_false_iff_ne.mpr e).symm
theorem Jh(a b:Str):decide ((Sum.inr a:Key)=Sum.inr b)=decide (a=b):=by
 by_cases e:a=b
 ·subst e;simp
 ·have h:¬(Sum.inr a:Key)=Sum.inr b:=fun q=>e (Sum.inr.inj q);rw[decide_eq_false h,decide_eq_false e]
theorem Ji(a:Int)(b:Str):decide ((Sum.inl a:Key)=Sum.inr b)=false:=decide_eq_false (fun q=>nomatch q)
theorem Jj(a:Str)(b:Int):decide ((Sum.inr a:Key)=Sum.inl b)=false:=decide_eq_false (fun q=>nomatch q)
noncomputable def yp(prog:Program)(w:World):PySem.KeyKind prog w Key where
 is:=ZR
 hash:=zbP w
 inj:=fun v a b ha hb=>by
  rcases ya ha with ⟨i,t,rfl,rfl⟩|⟨x,t,rfl,rfl⟩
  ·rcases ya hb with ⟨j,u,rfl,e⟩|⟨y,u,rfl,e⟩
   ·injection e with e1 _;rw[e1]
   ·exact nomatch e
  ·rcases ya hb with ⟨j,u,rfl,e⟩|⟨y,u,rfl,e⟩
   ·exact nomatch e
   ·injection e with e1 _;rw[e1]
 byValue:=fun k v h=>by
  rcases ya h with ⟨i,t,rfl,rfl⟩|⟨x,t,rfl,rfl⟩ <;> rfl
 pyHash:=fun hv h=>by
  rcases ya hv with ⟨i,t,rfl,rfl⟩|⟨x,t,rfl,rfl⟩
  ·exact wpAny_pyHash_int h
  ·exact wpAny_pyHash_str h
 eqBool:=fun hu hv h=>by
  rcases ya hu with ⟨i,t,rfl,rfl⟩|⟨x,t,rfl,rfl⟩
  ·rcases ya hv with ⟨j,u,rfl,rfl⟩|⟨y,u,rfl,rfl⟩
   ·rw[Jg] at h;exact wpAny_eqBool_int h
   ·rw[Ji] at h;exact SeqAt.EqAt.int_str i t y u _ _ _ _ h
  ·rcases ya hv with ⟨j,u,rfl,rfl⟩|⟨y,u,rfl,rfl⟩
   ·rw[Jj] at h;exact SeqAt.EqAt.str_int x t j u _ _ _ _ h
   ·rw[Jh] at h;exact wpAny_eqBool_str h
 «strs»:=fun k x t v h=>by
  rcases ya h with ⟨i,u,rfl,e⟩|⟨y,u,rfl,e⟩
  ·exact nomatch e
  ·injection e with e1 _
   subst e1;cases v <;> rfl
theorem ZS(prog:Program)(w:World)(i:Int)(t:Tok):(yp prog w).is (.inl i) (.int i t)=true:=WK i t
theorem ZT(prog:Program)(w:World)(x:Str)(t:Tok):(yp prog w).is (.inr x) (.str x t)=true:=WL x t
end L2
namespace L2
open PySem PySem.Spec PyProof.Rows
inductive V where
 |non|bl (b:Bool)|int (i:Int)|str (x:Str)|byt (b:Array UInt8)|flt (b:UInt64)|ref (a:Addr)|ty (n:String)
 deriving DecidableEq
def zQ:V->Value->Prop
 |.non,u=>u=aU
 |.bl b,u=>u=gV b
 |.int i,u=>∃t,u=fD i t
 |.str x,u=>∃t,u=nH x t
 |.byt b,u=>∃t,u=Value.bytes b t
 |.flt b,u=>∃t,u=Value.float b t
 |.ref a,u=>u=aN a
 |.ty n,u=>u=cK n
abbrev zP:List V->List Value->Prop:=Paired zQ
theorem zP.length{xs:List V}{us:List Value}(r:zP xs us):xs.length=us.length:=Paired.length r
theorem zP.get:∀{xs:List V} {us:List Value} {i:Nat} {x:V},zP xs us->xs[i]?=some x->∃u,us[i]?=some u/\zQ x u
 |_,_,_,_,.nil,e=>by simp at e
 |_,_,0,_,.cons r _,e=>by simp at e;subst e;exact⟨_,rfl,r⟩
 |_,_,i+1,x,.cons _ t,e=>by
  obtain⟨u,h1,h2⟩:=zP.get (i:=i) (x:=x) t (by simpa using e);exact⟨u,by simpa using h1,h2⟩
theorem zP.set{x:V}{u:Value}(r:zQ x u):∀{xs:List V} {us:List Value} (i:Nat),zP xs us->zP (xs.set i x) (us.set i u)
 |_,_,_,.nil=>.nil
 |_,_,0,.cons _ t=>.cons r t
 |_,_,i+1,.cons q t=>.cons q (zP.set r i t)
theorem zP.append:∀{xs ys:List V} {us ws:List Value},zP xs us->zP ys ws->zP (xs++ys) (us++ws)
 |_,_,_,_,.nil,s=>s
 |_,_,_,_,.cons r t,s=>.cons r (zP.append t s)
theorem zP.take:∀{xs:List V} {us:List Value} (n:Nat),zP xs us->zP (xs.take n) (us.take n)
 |_,_,0,_=>.nil
 |_,_,_+1,.nil=>.nil
 |_,_,n+1,.cons r t=>.cons r (zP.take n t)
theorem zP.drop:∀{xs:List V} {us:List Value} (n:Nat),zP xs us->zP (xs.drop n) (us.drop n)
 |_,_,0,r=>r
 |_,_,_+1,.nil=>.nil
 |_,_,n+1,.cons _ t=>zP.drop n t
def Tm:Option V->Option Value->Prop
 |some v,some u=>zQ v u
 |none,none=>True
 |_,_=>False
def KV{κ:Type}:List (κ×V)->List (κ×Value)->Prop:=Paired fun(p:κ×V) (q:κ×Value)=>p.1=q.1/\zQ p.2 q.2
noncomputable def kV:Key->V
 |.inl i=>.int i
 |.inr x=>.str x
inductive HO where
 /-- a list -/
 |lst (xs:List V)
 /-- a tuple (never changes) -/
 |tup (xs:List V)
 /-- a dict whose keys are ints and texts;one whose keys are tuples of ints and texts (the empty one is both) -/
 |dK (kvs:List (Key×V))|dT (kvs:List (List Key×V))
 /-- a set of ints: nK members,nK size -/
 |set (S:Int->Bool) (n:Nat)
 /-- an instance of the class at C,nK dict at dx,nK attributes -/
 |ins (C dx:Addr) (fs:List (Str×V))
 /-- the dict of the instance at x -/
 |own (x:Addr)
 /-- the dict of an exception -/
 |xd (fs:List (Str×V))
 /-- a bound method,f of x -/
 |met (f x:Addr)
 /-- a range object lo,lo+1,.. below hi -/
 |rng (lo hi:Int)
 /-- a thing that is known to the object (the script;a dict while a Bt walks it): read,never written while it is so -/
 |frz (o:Obj) (u:HO)
 /-- a code object's table -/
 |tbl (ps:Array Value)
 /-- any oP thing,by what is true of nK one object (a def of one's own: SetO a S n:=HO.ext fun h=>..) -/
 |ext (φ:Heap->Prop)
abbrev Hp:=Addr->Option HO
noncomputable def upd(H:Hp)(a:Addr)(o:HO):Hp:=fun b=>if b=a then some o else H b
theorem zd{H:Hp}{a:Addr}{o:HO}:upd H a o a=some o:=by unfold upd;rw[if_pos rfl]
theorem zq{H:Hp}{a b:Addr}{o:HO}(h:b≠a):upd H a o b=H b:=by unfold upd;rw[if_neg h]
theorem zaK{H:Hp}{a b:Addr}{o u:HO}(h:H a=some o)(h':H b=some u)(d:o≠u):a≠b:=by
 intro e;subst e;rw[h] at h';exact d (bQ h')
theorem zt{H:Hp}{a b:Addr}{o:HO}(h:H a=some o)(h':H b=none):a≠b:=by
 intro e;subst e;rw[h] at h';cases h'
section
variable(P:Program)(w:World)
noncomputable def zT(H:Hp)(h:Heap)(a:Addr):HO->Prop
 |.lst xs=>xs.length<=sizeLine/\∃(nK:List Value) (n:Nat),zP xs nK/\h.get? a=some { cls:=.type "list",data:=.seq nK.toArray n }
 |.tup xs=>xs.length<=sizeLine/\∃nK:List Value,zP xs nK/\IsTup h a nK.toArray
 |.dK kvs=>kvs.length<=sizeLine/\(a == sysModules)=false/\∃vs,KV kvs vs/\h.DictOf (yp P w) a vs
 |.dT kvs=>kvs.length<=sizeLine/\(a == sysModules)=false/\∃xs:List (List Key×Addr×Value),
   Paired (fun(p:List Key×V) (q:List Key×Addr×Value)=>p.1=q.1/\H q.2.1=some (.tup (p.1.map kV))/\zQ p.2 q.2.2) kvs xs∧
   ∃o es ep,h.get? a=some o/\o.ExactDict/\o.data=.dict es ep/\es.toList=xs.map (entryOfKey (mE (yp P w)))/\(xs.map (·.1)).Nodup
 |.set S n=>h.SetOf (ir P w) a S n
 |.ins C dx fs=>H dx=some (.own a)/\fs.length<=1000/\dx≠a/\h.get? a=some (mP C dx)∧
   ∃mA,h.Ns1 dx mA/\(∀f,Tm (fs.lookup f) (mA f))/\PySem.Within mA (fs.map (·.1))
 |.own _=>∃o,h.get? a=some o
 |.xd fs=>∃mA,h.Ns1 a mA/\∀f,Tm (fs.lookup f) (mA f)
 |.rng lo hi=>∃t u v,h.get? a=some { cls:=.type "range",data:=.fields #[.int lo t,.int hi u,.int 1 v] }
 |.frz o u=>h.get? a=some o/\zT H h a u
 |.tbl ps=>h.get? a=some { cls:=.none,data:=.fields ps }
 |.met f x=>h.get? a=some (mh (.ref f) (.ref x))
 |.ext φ=>φ h/\(∃o,h.get? a=some o)/\∀h1 h2:Heap,φ h1->(∀o,h1.get? a=some o->h2.get? a=some o)->φ h2
def HOk(H:Hp)(h:Heap):Prop:=∀a o,H a=some o->zT P w H h a o
end
section
variable{P:Program}{w:World}{H H':Hp}{h h':Heap}{a:Addr}{o:HO}
theorem zT.lt(x:zT P w H h a o):a<h.objs.size:=by
 cases o with
 |lst xs=>obtain⟨_,_,_,_,e⟩:=x;exact aP e
 |tup xs=>obtain⟨_,_,_,p⟩:=x;exact p.lt
 |dK kvs=>obtain⟨_,_,_,_,o,_,_,e,_⟩:=x;exact aP e
 |dT kvs=>obtain⟨_,_,_,_,o,_,_,e,_⟩:=x;exact aP e
 |set S n=>obtain⟨o,_,_,_,e,_⟩:=x;exact aP e
 |ins C dx fs=>obtain⟨_,_,_,e,_⟩:=x;exact aP e
 |own y=>obtain⟨_,e⟩:=x;exact aP e
 |xd fs=>obtain⟨_,⟨_,_,_,e,_⟩,_⟩:=x;exact aP e
 |rng lo hi=>obtain⟨_,_,_,e⟩:=x;exact aP e
 |frz ob u=>obtain⟨e,_⟩:=x;exact aP e
 |tbl ps=>exact aP (show h.get? a=some _ from x)
 |met f y=>exact aP (show h.get? a=some _ from x)
 |ext φ=>obtain⟨_,⟨_,e⟩,_⟩:=x;exact aP e
theorem Paired.mapP{α β:Type}{F G:α->β->Prop}:∀{l₁:List α} {l₂:List β},Paired F l₁ l₂->(∀a b,F a b->G a b)->Paired G l₁ l₂
 |_,_,.nil,_=>.nil
 |_,_,.cons r t,f=>.cons (f _ _ r) (Paired.mapP t f)
theorem zT.stay(x:zT P w H h a o)(k:∀b u,(b=a\/H b=some (.own a))->h.get? b=some u->h'.get? b=some u)
  (ho:∀b,H b=some (.own a)->H' b=some (.own a)) (ht:∀b xs,H b=some (.tup xs)->H' b=some (.tup xs)):zT P w H' h' a o:=by
 induction o with
 |lst xs=>obtain⟨z,nK,n,r,e⟩:=x;exact⟨z,nK,n,r,k _ _ (.inl rfl) e⟩
 |tup xs=>obtain⟨z,nK,r,ob,e,c⟩:=x;exact⟨z,nK,r,ob,k _ _ (.inl rfl) e,c⟩
 |dK kvs=>obtain⟨z,y,vs,r,ob,es,ep,e,c⟩:=x;exact⟨z,y,vs,r,ob,es,ep,k _ _ (.inl rfl) e,c⟩
 |dT kvs =>
  obtain⟨z,y,xs,r,ob,es,ep,e,c⟩:=x;exact⟨z,y,xs,Paired.mapP r fun p q z=>⟨z.1,ht _ _ z.2.1,z.2.2⟩,ob,es,ep,k _ _ (.inl rfl) e,c⟩
 |set S n=>obtain⟨ob,es,ep,t,e,c⟩:=x;exact⟨ob,es,ep,t,k _ _ (.inl rfl) e,c⟩
 |ins C dx fs =>
  obtain⟨d,z,ne,e,mA,⟨od,es,ep,e2,c⟩,r⟩:=x;exact⟨ho _ d,z,ne,k _ _ (.inl rfl) e,mA,⟨od,es,ep,k _ _ (.inr d) e2,c⟩,r⟩
 |own y=>obtain⟨ob,e⟩:=x;exact⟨ob,k _ _ (.inl rfl) e⟩
 |xd fs=>obtain⟨mA,⟨od,es,ep,e,c⟩,r⟩:=x;exact⟨mA,⟨od,es,ep,k _ _ (.inl rfl) e,c⟩,r⟩
 |rng lo hi=>obtain⟨t,u,v,e⟩:=x;exact⟨t,u,v,k _ _ (.inl rfl) e⟩
 |frz ob u ih=>obtain⟨e,q⟩:=x;exact⟨k _ _ (.inl rfl) e,ih q⟩
 |tbl ps =>
  have e:h.get? a=some { cls:=.none,data:=.fields ps }:=x;show h'.get? a=some { cls:=.none,data:=.fields ps };exact k a _ (.inl rfl) e
 |met f y =>
  have e:h.get? a=some (mh (.ref f) (.ref y)):=x;show h'.get? a=some (mh (.ref f) (.ref y));exact k a _ (.inl rfl) e
 |ext φ=>obtain⟨p,⟨o,e⟩,st⟩:=x;exact⟨st _ _ p fun o q=>k _ _ (.inl rfl) q,⟨o,k _ _ (.inl rfl) e⟩,st⟩
theorem HOk.lt(x:HOk P w H h)(e:H a=some o):a<h.objs.size:=(x a o e).lt
theorem HOk.fresh(x:HOk P w H h)(e:h.objs.size<=a):H a=none:=by
 cases q:H a with
 |none=>rfl
 |some u=>exact absurd (aV (x.lt q) e) (eU _)
theorem HOk.kept(x:HOk P w H h)(k:∀b u,h.get? b=some u->h'.get? b=some u):HOk P w H h':=fun a o e =>
 (x a o e).stay (fun b u _ q=>k b u q) (fun _ q=>q) fun _ _ q=>q
theorem HOk.laid(x:HOk P w H h)(k:∀b u,h.get? b=some u->h'.get? b=some u)(hp:h.objs.size<=a)(new:zT P w (upd H a o) h' a o):HOk P w (upd H a o) h':=fun b u e=>by
 have hn:=x.fresh hp;by_cases hb:b=a
 ·subst hb;rw[zd] at e;cases e;exact new
 ·rw[zq hb] at e;exact(x b u e).stay (fun c v _ q=>k c v q) (fun c q=>by rw[zq (zt q hn)];exact q) fun c xs q=>by rw[zq (zt q hn)];exact q
end
def Rd(H:Hp)(a:Addr)(u:HO):Prop:=H a=some u\/∃o,H a=some (.frz o u)
theorem Rd.ok{P:Program}{w:World}{H:Hp}{h:Heap}{a:Addr}{u:HO}(r:Rd H a u)(x:HOk P w H h):zT P w H h a u:=by
 rcases r with r|⟨o,r⟩
 ·exact x a u r
 ·obtain⟨_,q⟩:=x a _ r;exact q
def Mut:Option HO->Prop
 |some (.lst _)=>True
 |some (.dK _)=>True
 |some (.dT _)=>True
 |some (.set _ _)=>True
 |some (.ins _ _ _)=>True
 |some (.ext _)=>True
 |_=>False
section
variable{P:Program}{w:World}{H:Hp}{h h':Heap}{x e:Addr}{o':HO}
theorem HOk.write(ok:HOk P w H h)(mu:Mut (H x))(he:e=x\/H e=some (.own x))(k:∀b u,b≠e->h.get? b=some u->h'.get? b=some u)(B5:∃u,h'.get? e=some u)
  (new:zT P w (upd H x o') h' x o'):HOk P w (upd H x o') h':=fun b u q=>by
 have EN:∀c y,H c=some (.own y)->c≠x:=fun c y r z=>by subst z;rw[r] at mu;exact mu
 have G3:∀c xs,H c=some (.tup xs)->c≠x:=fun c xs r z=>by subst z;rw[r] at mu;exact mu
 by_cases hb:b=x
 ·subst hb;rw[zd] at q;cases q;exact new
 ·rw[zq hb] at q;by_cases Ag:b=e
  ·have q':H b=some (.own x):=by
    rcases he with z|z
    ·exact absurd (Ag.trans z) hb
    ·rw[Ag];exact z
   rw[q] at q';cases q';obtain⟨v,hv⟩:=B5;exact⟨v,by rw[Ag];exact hv⟩
  ·refine(ok b u q).stay (fun c v hc r=>k c v ?_ r) (fun c r=>by rw[zq (EN c b r)];exact r) fun c xs r=>by rw[zq (G3 c xs r)];exact r
   rcases hc with rfl|hc
   ·exact Ag
   ·rintro rfl;rcases he with z|z
    ·exact EN c b hc z
    ·rw[hc] at z;cases z;exact hb rfl
end
structure Un(fs ex:List Addr)(H H':Hp)(h h':Heap):Prop where
 keep:∀b o,h.get? b=some o->H b=none->b∉fs->b∉ex->h'.get? b=some o
 slot:∀b o,h.get? b=some o->H b=none->b∈fs->b∉ex->∃sl,h'.get? b=some { o with slots:=sl }
 free:∀b o,h.get? b=some o->H b=none->b∉ex->H' b=none
 there:∀b o,h.get? b=some o->b∉ex->∃o',h'.get? b=some o'
 tups:∀b xs,H b=some (.tup xs)->H' b=some (.tup xs)
 frzs:∀b o u,H b=some (.frz o u)->H' b=some (.frz o u)
 tbls:∀b ps,H b=some (.tbl ps)->∃more,H' b=some (.tbl (ps++more))
section
variable{fs fs' ex ex':List Addr}{H H1 H2:Hp}{h h1 h2 h':Heap}{a x e:Addr}{o:HO}
theorem Un.any(u:Un fs ex H H1 h h1){b:Addr}{ob:Obj}(q:h.get? b=some ob)(n:H b=none)(hx:b∉ex):∃sl,h1.get? b=some { ob with slots:=sl }:=by
 by_cases hb:b∈fs
 ·exact u.slot b ob q n hb hx
 ·exact⟨ob.slots,u.keep b ob q n hb hx⟩
theorem Un.kept(k:∀b u,h.get? b=some u->h'.get? b=some u):Un fs ex H H h h' :=
 ⟨fun b ob q _ _ _=>k b ob q,fun b ob q _ _ _=>⟨ob.slots,k b ob q⟩,fun _ _ _ n _=>n,fun b ob q _=>⟨ob,k b ob q⟩,fun _ _ q=>q,fun _ _ _ q=>q,fun _ ps q=>⟨#[],by rw[q];simp⟩⟩
theorem Un.refl:Un fs ex H H h h:=Un.kept fun _ _ q=>q
theorem Un.laid(k:∀b u,h.get? b=some u->h'.get? b=some u)(hp:h.objs.size<=a)(hn:H a=none):Un fs ex H (upd H a o) h h' where
 keep:=fun b u q _ _ _=>k b u q
 slot:=fun b u q _ _ _=>⟨u.slots,k b u q⟩
 free:=fun b u q n _=>by rw[zq (aW (aV (aP q) hp))];exact n
 there:=fun b u q _=>⟨u,k b u q⟩
 tups:=fun b xs q=>by rw[zq (zt q hn)];exact q
 frzs:=fun b u xs q=>by rw[zq (zt q hn)];exact q
 tbls:=fun b ps q=>⟨#[],by rw[zq (zt q hn),q];simp⟩
theorem Un.write(mu:Mut (H x))(he:e=x\/H e=some (.own x))(k:∀b u,b≠e->h.get? b=some u->h'.get? b=some u)(B5:∃u,h'.get? e=some u):Un fs ex H (upd H x o) h h':=by
 have hx:∀b,H b=none->b≠x:=fun b n z=>by subst z;rw[n] at mu;exact mu
 have hb:∀b,H b=none->b≠e:=fun b n z=>by
  subst z;rcases he with r|r
  ·exact hx b n r
  ·rw[n] at r;cases r
 have hm:∀b u,H b=some u->¬Mut (some u)->b≠x:=fun b u q nm z=>by subst z;rw[q] at mu;exact nm mu
 refine⟨fun b u q n _ _=>k b u (hb b n) q,fun b u q n _ _=>⟨u.slots,k b u (hb b n) q⟩,fun b u q n _=>by rw[zq (hx b n)];exact n,fun b u q _=>?_,
  fun b xs q=>by rw[zq (hm b _ q fun z=>z)];exact q,fun b u xs q=>by rw[zq (hm b _ q fun z=>z)];exact q,fun b ps q=>⟨#[],by rw[zq (hm b _ q fun z=>z),q];simp⟩⟩
 by_cases Ag:b=e
 ·subst Ag;exact B5
 ·exact⟨u,k b u Ag q⟩
end
noncomputable def trk(h:Heap)(H:Hp):List Addr:=(aF h.objs.size).filter fun a=>(H a).isSome
noncomputable def To(h:Heap)(H:Hp):Heap:=PySem.W.hideAll h (trk h H)
theorem WM(h:Heap)(H:Hp):(To h H).objs.size=h.objs.size:=PySem.W.hideAll_size _ _
theorem Tp{h:Heap}{H:Hp}{b:Addr}{o:Obj}(e:h.get? b=some o)(n:H b=none):(To h H).get? b=some o :=
 PySem.W.hideAll_get _ e fun hm=>by
  have q:(H b).isSome=true:=(dX.mp hm).2;rw[n] at q;simp at q
theorem R4{h:Heap}{H:Hp}{b:Addr}{o:Obj}(e:(To h H).get? b=some o):h.get? b=some o/\H b=none:=by
 have e':h.get? b=some o:=PySem.W.of_hideAll (trk h H) e;refine⟨e',?_⟩;cases q:H b with
 |none=>rfl
 |some x =>
  have hm:b∈trk h H:=dX.mpr ⟨bN.mpr (aP e'),by simp[q]⟩;have z:(To h H).get? b=none:=PySem.W.hideAll_none (trk h H) hm;rw[z] at e;cases e
end L2
namespace L2
open PySem PySem.Spec PyProof.Rows
structure Mod(K:FG7)(mg:Str->Option Value)(base:Heap):Prop where
 kin:K.In base
 glob:base.Ns bC mg
 blt:∃mb,base.Ns builtinsNs mb/\∀x:Str,x≠"__name__" -> mb x=cU x
 nolimit:base.NoLimit
structure Cx where
 prog:Program
 w:World
 K:FG7
 mg:Str->Option Value
 base:Heap
 A:Around
 N:List Str
 s₀:Shared
 H₀:Hp
 env:Env
 outer:List Env
 stack:List Env
 ex:List Addr
 fn:Str->Bool
 calm:Bool
 pn:List (Addr×Obj)
 xe:VS7
noncomputable def frs(l:List Env):List Addr:=l.filterMap (·.frame)
noncomputable abbrev Cx.fs(X:Cx):List Addr:=frs X.outer
def Vis(sc:Scope)(x:Str):Prop:=sc.names.lookup x=some .local\/sc.names.lookup x=some .cell\/sc.names.lookup x=some .free
def Loc(sc:Scope)(x:Str):Prop:=sc.names.lookup x=some .local\/sc.names.lookup x=some .cell
def zbQ(env:Env)(h:Heap)(m:Str->Option Value)(x:Str)(u:Value):Prop :=
 (env.kindOf x=some .local/\m x=some u)\/((env.kindOf x=some .cell\/env.kindOf x=some .free)/\∃c,env.cells.lookup x=some c/\h.IsCell c (some u))
structure Cx.Ok(X:Cx):Prop where
 mod:Mod X.K X.mg X.base
 kind:X.env.scope.kind=.function
 glob:X.env.globals=bC
 blt:X.env.builtins=builtinsNs
 above:X.s₀.heap.objs.size<=X.env.locals
 inj:∀x y c,X.env.cells.lookup x=some c->X.env.cells.lookup y=some c->x=y
 has:∀x,(X.env.kindOf x=some .cell\/X.env.kindOf x=some .free)->∃c,X.env.cells.lookup x=some c
 cab:∀x c,X.fn x=true->X.env.cells.lookup x=some c->X.s₀.heap.objs.size<=c
 hd:X.calm=true->X.A.handled=none
 frames:X.A.frames=some X.stack
 stk:X.stack=X.outer\/(X.stack=X.env::X.outer/\X.env.frame=some X.env.locals)
 exf:∀b∈X.ex,b≠X.env.locals/\∀x c,X.env.cells.lookup x=some c->c≠b
 bs:∀b o,X.base.get? b=some o->X.s₀.heap.get? b=some o/\X.H₀ b=none
 bsz:X.base.objs.size<=X.s₀.heap.objs.size
 noex:∀b o,X.base.get? b=some o->b∉X.ex
 exfs:∀b∈X.ex,b∉X.fs
 funs:X.s₀.heap.FunFrames X.base X.outer
 frf:∀b∈X.fs,X.H₀ b=none
structure Inv(X:Cx)(nJ:List (Addr×Obj))(σ:List (Option V))(H:Hp)(s:Shared):Prop where
 ok:X.Ok
 os:s.os=X.s₀.os
 bare:lK s.gens
 base:Un X.fs X.ex X.H₀ H X.s₀.heap s.heap
 loc:∃m,s.heap.Ns X.env.locals m/\∀(i:Nat) (x:Str) (v:V),X.N[i]?=some x->σ[i]?=some (some v)->Vis X.env.scope x->∃u,zQ v u/\zbQ X.env s.heap m x u
 cell:∀x c,X.env.cells.lookup x=some c->∃v,s.heap.IsCell c v
 free:H X.env.locals=none
 freeC:∀x c,X.env.cells.lookup x=some c->H c=none
 pin:∀p∈X.pn++nJ,s.heap.get? p.1=some p.2/\H p.1=none/\p.1≠X.env.locals/\p.1∉X.fs/\∀v,p.2.data≠.cell v
 hok:HOk X.prog X.w H s.heap
 len:σ.length=X.N.length
section
variable{X:Cx}{nJ:List (Addr×Obj)}{σ:List (Option V)}{H H':Hp}{s:Shared}{h':Heap}
theorem Cx.Ok.nofr(ok:X.Ok){b:Addr}{o:Obj}(e:X.base.get? b=some o):b∉X.fs:=fun hb=>by
 have:=(ok.funs.mem hb).1;rw[e] at this;cases this
theorem Inv.bs(I:Inv X nJ σ H s):∀b o,X.base.get? b=some o->s.heap.get? b=some o/\H b=none:=fun b o e =>
 ⟨I.base.keep b o (I.ok.bs b o e).1 (I.ok.bs b o e).2 (I.ok.nofr e) (I.ok.noex b o e),I.base.free b o (I.ok.bs b o e).1 (I.ok.bs b o e).2 (I.ok.noex b o e)⟩
theorem Inv.bk(I:Inv X nJ σ H s):∀b o,X.base.get? b=some o->s.heap.get? b=some o:=fun b o e=>(I.bs b o e).1
theorem Inv.mod(I:Inv X nJ σ H s):Mod X.K X.mg X.base:=I.ok.mod
theorem Inv.kIn(I:Inv X nJ σ H s):X.K.In s.heap:=I.ok.mod.kin.keeps I.bk
theorem Inv.lt(I:Inv X nJ σ H s):X.env.locals<s.heap.objs.size:=let ⟨_,hn,_⟩:=I.loc;hn.lt
theorem Inv.sz(I:Inv X nJ σ H s):X.s₀.heap.objs.size<=s.heap.objs.size:=cH I.ok.above (c7 I.lt)
theorem Inv.nofs(I:Inv X nJ σ H s){a:Addr}(h:s.heap.objs.size<=a):a∉X.fs:=fun hb=>by
 obtain⟨_,o,ho,_⟩:=I.ok.funs.mem hb;exact absurd (aV (aP ho) (cH I.sz h)) (eU _)
theorem Inv.cne(I:Inv X nJ σ H s):∀x c,X.env.cells.lookup x=some c->c≠X.env.locals:=fun x c e z=>by
 obtain⟨v,o,ho,hd⟩:=I.cell x c e;obtain⟨m,⟨o',es,ep,pM,Ce,_⟩,_⟩:=I.loc;rw[z,pM] at ho;cases ho;rw[Ce] at hd;cases hd
theorem Inv.funs(I:Inv X nJ σ H s):s.heap.FunFrames X.base X.outer:=by
 have all:∀(l:List Env),(∀b∈frs l,b∈X.fs)->X.s₀.heap.FunFrames X.base l->s.heap.FunFrames X.base l:=by
  intro l;induction l with
  |nil=>intro _ _;trivial
  |cons env r ih =>
   intro hs hl;obtain⟨hk,⟨L,o,hf,hn,ho,hd⟩,hr⟩:=hl;have hL:L∈X.fs:=hs L (by unfold frs;rw[fu,hf];exact bM);obtain⟨sl,e⟩:=I.base.slot L o ho (I.ok.frf L hL) hL fun z=>I.ok.exfs L z hL;exact⟨hk,⟨L,_,hf,hn,e,hd⟩,ih (fun b hb=>hs b (by unfold frs;rw[fu,hf];exact aX _ hb)) hr⟩
 exact all X.outer (fun _ hb=>hb) I.ok.funs
theorem Inv.stack(I:Inv X nJ σ H s):s.heap.FunFrames X.base X.stack:=by
 rcases I.ok.stk with e|⟨e,hf⟩
 ·rw[e];exact I.funs
 ·rw[e];obtain⟨m,hn,_⟩:=I.loc;refine .cons (by rw[I.ok.kind];decide) hf hn ?_ I.funs;exact Heap.get?_none_of_le (cH I.ok.bsz I.ok.above)
theorem Inv.stkSub(I:Inv X nJ σ H s):∀b∈frs X.stack,b∈X.env.locals::X.fs:=fun b hb=>by
 rcases I.ok.stk with e|⟨e,hf⟩
 ·rw[e] at hb;exact aX _ hb
 ·rw[e] at hb;unfold frs at hb;rw[fu,hf] at hb;exact hb
theorem Inv.stkFree(I:Inv X nJ σ H s):∀b∈frs X.stack,H b=none:=fun b hb=>by
 rcases aK.mp (I.stkSub b hb) with e|hb
 ·rw[e];exact I.free
 ·obtain⟨_,o,ho,_⟩:=I.ok.funs.mem hb;exact I.base.free b o ho (I.ok.frf b hb) fun z=>I.ok.exfs b z hb
theorem Inv.step{g':Array GenState}{t':Nat}{d':Drawn}{ch:List Addr}(I:Inv X nJ σ H s)
  (CM:∀b∈ch,(b∈X.ex\/X.s₀.heap.objs.size<=b)/\b≠X.env.locals/\(∀x c,X.env.cells.lookup x=some c->c≠b)/\∀p∈X.pn++nJ,p.1≠b)
  (keep:∀b o,b≠X.env.locals->b∉X.fs->b∉ch->s.heap.get? b=some o->H b=none->h'.get? b=some o)
  (slot:∀b o,b≠X.env.locals->b∈X.fs->b∉ch->s.heap.get? b=some o->H b=none->∃sl,h'.get? b=some { o with slots:=sl }) (free:∀b o,b∉ch->s.heap.get? b=some o->H b=none->H' b=none)
  (there:∀b o,b∉ch->s.heap.get? b=some o->∃o',h'.get? b=some o')
  (tups:∀b xs,H b=some (.tup xs)->H' b=some (.tup xs)) (frzs:∀b o u,H b=some (.frz o u)->H' b=some (.frz o u)) (tbls:∀b ps,H b=some (.tbl ps)->∃more,H' b=some (.tbl (ps++more)))
  (ns:∀m,s.heap.Ns X.env.locals m->h'.Ns X.env.locals m) (hok:HOk X.prog X.w H' h') (hg:lK g') :
  Inv X nJ σ H' { s with heap:=h',gens:=g',drawn:=d',toks:=t' }:=by
 have neL:∀b o,X.s₀.heap.get? b=some o->b≠X.env.locals:=fun b o e=>aW (aV (aP e) I.ok.above);have Gg:∀b o,X.s₀.heap.get? b=some o->b∉X.ex->b∉ch:=fun b o e hx hb=>by
  rcases(CM b hb).1 with z|z
  ·exact hx z
  ·exact absurd (aV (aP e) z) (eU _)
 have Bc:∀x c,X.env.cells.lookup x=some c->∀v,s.heap.IsCell c v->h'.IsCell c v:=fun x c e v ⟨o,ho,hd⟩=>by
  have EO:c∉ch:=fun z=>(CM c z).2.2.1 x c e rfl;by_cases hc:c∈X.fs
  ·obtain⟨sl,q⟩:=slot c o (I.cne x c e) hc EO ho (I.freeC x c e);exact⟨_,q,hd⟩
  ·exact⟨o,keep c o (I.cne x c e) hc EO ho (I.freeC x c e),hd⟩
 refine⟨I.ok,I.os,hg,⟨fun b o e n hb hx=>?_,fun b o e n hb hx=>?_,fun b o e n hx=>?_,fun b o e hx=>?_,fun b xs e=>tups b xs (I.base.tups b xs e),fun b o xs e=>frzs b o xs (I.base.frzs b o xs e),fun b ps e=>?_⟩,?_,fun x c e=>?_,?_,fun x c e=>?_,fun p hp=>?_,hok,I.len⟩
 ·exact keep b o (neL b o e) hb (Gg b o e hx) (I.base.keep b o e n hb hx) (I.base.free b o e n hx)
 ·obtain⟨sl,e1⟩:=I.base.slot b o e n hb hx;obtain⟨DN,e2⟩:=slot b _ (neL b o e) hb (Gg b o e hx) e1 (I.base.free b o e n hx);exact⟨DN,e2⟩
 ·obtain⟨o',e1⟩:=I.base.there b o e hx;exact free b o' (Gg b o e hx) e1 (I.base.free b o e n hx)
 ·obtain⟨o',e1⟩:=I.base.there b o e hx;exact there b o' (Gg b o e hx) e1
 ·obtain⟨m1,e1⟩:=I.base.tbls b ps e;obtain⟨m2,e2⟩:=tbls b _ e1;exact⟨m1++m2,by rw[e2,Array.append_assoc]⟩
 ·obtain⟨m,hn,hl⟩:=I.loc;refine⟨m,ns m hn,fun i x v e1 e2 e3=>?_⟩;obtain⟨u,r,l⟩:=hl i x v e1 e2 e3;refine⟨u,r,?_⟩;rcases l with l|⟨k,c,e,z⟩
  ·exact .inl l
  ·exact .inr ⟨k,c,e,Bc x c e _ z⟩
 ·obtain⟨v,z⟩:=I.cell x c e;exact⟨v,Bc x c e v z⟩
 ·obtain⟨m,⟨o,_,_,ho,_⟩,_⟩:=I.loc;exact free _ o (fun z=>(CM _ z).2.1 rfl) ho I.free
 ·obtain⟨v,o,ho,hd⟩:=I.cell x c e;exact free c o (fun z=>(CM c z).2.2.1 x c e rfl) ho (I.freeC x c e)
 ·obtain⟨e,n,ne,nf,d⟩:=I.pin p hp;have EO:p.1∉ch:=fun z=>(CM p.1 z).2.2.2 p hp rfl;exact⟨keep p.1 p.2 ne nf EO e n,free p.1 p.2 EO e n,ne,nf,d⟩
theorem Inv.un{t':Nat}(I:Inv X nJ σ H s)(u:Un X.fs [] H H' s.heap h')(hok:HOk X.prog X.w H' h'):Inv X nJ σ H' { s with heap:=h',toks:=t' }:=by
 obtain⟨m,⟨o,es,ep,ho,r⟩,_⟩:=id I.loc;obtain⟨sl,hL⟩:=u.any ho I.free (by simp);exact I.step (g':=s.gens) (d':=s.drawn) (ch:=[]) (fun _ z=>nomatch z) (fun b o _ hb _ e n=>u.keep b o e n hb (by simp)) (fun b o _ hb _ e n=>u.slot b o e n hb (by simp)) (fun b o _ e n=>u.free b o e n (by simp)) (fun b o _ e=>u.there b o e (by simp)) u.tups u.frzs u.tbls (fun m' hm=>by
  obtain⟨o',BQ,Ex,pM,r'⟩:=hm;rw[ho] at pM;cases pM;exact⟨_,BQ,Ex,hL,r'⟩) hok I.bare
theorem Inv.call{g':Array GenState}{t':Nat}{d':Drawn}{ch:List Addr}(I:Inv X nJ σ H s)(u:Un (frs X.stack) ch H H' s.heap h')(hok:HOk X.prog X.w H' h')(hg:lK g')
  (CM:∀b∈ch,(b∈X.ex\/X.s₀.heap.objs.size<=b)/\b≠X.env.locals/\(∀x c,X.env.cells.lookup x=some c->c≠b)/\∀p∈X.pn++nJ,p.1≠b) :
  Inv X nJ σ H' { s with heap:=h',gens:=g',drawn:=d',toks:=t' }:=by
 obtain⟨m,⟨o,es,ep,ho,r⟩,_⟩:=id I.loc;obtain⟨sl,hL⟩:=u.any ho I.free fun z=>(CM _ z).2.1 rfl;exact I.step (ch:=ch) CM (fun b o hL hb hc e n=>u.keep b o e n (fun z=>(aK.mp (I.stkSub b z)).elim hL hb) hc) (fun b o _ _ hc e n=>u.any e n hc) (fun b o hc e n=>u.free b o e n hc) (fun b o hc e=>u.there b o e hc) u.tups u.frzs u.tbls (fun m' hm=>by
  obtain⟨o',BQ,Ex,pM,r'⟩:=hm;rw[ho] at pM;cases pM;exact⟨_,BQ,Ex,hL,r'⟩) hok hg
theorem Inv.turned{t':Nat}{it:Addr}(I:Inv X nJ σ H s)(k:∀b o,b≠it->s.heap.get? b=some o->h'.get? b=some o)(hn:H it=none)(hL:it≠X.env.locals)
  (h1:it∈X.ex\/X.s₀.heap.objs.size<=it) (h2:∀x c,X.env.cells.lookup x=some c->c≠it) (h3:∀p∈X.pn++nJ,p.1≠it):Inv X nJ σ H { s with heap:=h',toks:=t' }:=by
 have EQ:∀b u,H b=some u->b≠it:=fun b u e z=>by rw[z,hn] at e;cases e
 refine I.step (g':=s.gens) (d':=s.drawn) (ch:=[it]) (fun b hb=>?_) (fun b o _ _ hc e _=>k b o (fun z=>hc (by simp[z])) e) (fun b o _ _ hc e _=>⟨o.slots,k b o (fun z=>hc (by simp[z])) e⟩) (fun _ _ _ _ n=>n)
  (fun b o hc e=>⟨o,k b o (fun z=>hc (by simp[z])) e⟩) (fun _ _ e=>e) (fun _ _ _ e=>e) (fun b ps e=>⟨#[],by rw[e];simp⟩) (fun m hm=>?_) (fun b u e=>?_) I.bare
 ·have e:b=it:=by simpa using hb
  subst e;exact⟨h1,hL,h2,h3⟩
 ·obtain⟨o,es,ep,ho,r⟩:=hm;exact⟨o,es,ep,k _ o (Ne.symm hL) ho,r⟩
 ·refine(I.hok b u e).stay (fun c v hc q=>k c v ?_ q) (fun _ q=>q) fun _ _ q=>q;rcases hc with z|z
  ·rw[z];exact EQ b u e
  ·exact EQ c _ z
theorem Inv.tok(I:Inv X nJ σ H s)(t:Nat):Inv X nJ σ H { s with toks:=t }:=I.un (h':=s.heap) (t':=t) Un.refl I.hok
theorem Inv.kept{t':Nat}(I:Inv X nJ σ H s)(k:∀b u,s.heap.get? b=some u->h'.get? b=some u):Inv X nJ σ H { s with heap:=h',toks:=t' }:=I.un (Un.kept k) (I.hok.kept k)
theorem Inv.laid{a:Addr}{o:HO}{t':Nat}(I:Inv X nJ σ H s)(k:∀b u,s.heap.get? b=some u->h'.get? b=some u)(hp:s.heap.objs.size<=a)(new:zT X.prog X.w (upd H a o) h' a o) :
  Inv X nJ σ (upd H a o) { s with heap:=h',toks:=t' }:=I.un (Un.laid k hp (I.hok.fresh hp)) (I.hok.laid k hp new)
theorem Inv.write{x e:Addr}{o:HO}{t':Nat}(I:Inv X nJ σ H s)(mu:Mut (H x))(he:e=x\/H e=some (.own x))(k:∀b u,b≠e->s.heap.get? b=some u->h'.get? b=some u)(B5:∃u,h'.get? e=some u)
  (new:zT X.prog X.w (upd H x o) h' x o):Inv X nJ σ (upd H x o) { s with heap:=h',toks:=t' }:=I.un (Un.write mu he k B5) (I.hok.write mu he k B5 new)
theorem Inv.pins_of{Dw:List (Addr×Obj)}(I:Inv X nJ σ H s)(h:∀p∈Dw,s.heap.get? p.1=some p.2/\H p.1=none/\p.1≠X.env.locals/\p.1∉X.fs/\∀v,p.2.data≠.cell v):Inv X Dw σ H s :=
 ⟨I.ok,I.os,I.bare,I.base,I.loc,I.cell,I.free,I.freeC,fun p hp=>(bH.mp hp).elim (fun z=>I.pin p (cW _ z)) (h p),I.hok,I.len⟩
theorem qI{N:List Str}(hN:N.Nodup){i j:Nat}{x:Str}(a:N[i]?=some x)(b:N[j]?=some x):i=j:=by
 obtain⟨h1,e1⟩:=aL.mp a;obtain⟨h2,e2⟩:=aL.mp b;exact(k9 hN).mp (e1.trans e2.symm)
theorem WN{M:Model}{A:Around}{E:VS7}{i:Nat}{x:Str}{v:V}{u:Value}{Q:Unit->Shared->Prop}(I:Inv X nJ σ H s)(hN:X.N.Nodup)(hi:X.N[i]?=some x)(hx:Loc X.env.scope x)(r:zQ v u)
  (h:∀s',Inv X nJ (σ.set i (some v)) H s'->(∃a,cP a s.heap s'.heap/\(a=X.env.locals\/X.env.cells.lookup x=some a))->Q () s') (hf:X.fn x=true\/X.env.scope.names.lookup x=some .local :=by first|exact .inl rfl|exact .inr rfl|assumption):wpAny M A (storeName X.env x u) Q E s:=by
 obtain⟨m,hn,hl⟩:=id I.loc;have pQ:(X.env.scope.kind == .class || (X.env.scope.kind == .module && X.env.locals != X.env.globals))=false:=by rw[I.ok.kind];rfl
 have Cf:i<σ.length:=by rw[I.len];exact(aL.mp hi).1
 have cne:=I.cne;have pF:∀{a:Addr} {h':Heap},(∃o,s.heap.get? a=some o/\H a=none)->cP a s.heap h'->HOk X.prog X.w H h':=fun{a h'} ha hs b ob e=>by
  obtain⟨_,_,Aq⟩:=ha;refine(I.hok b ob e).stay (fun c w' hc q=>(hs.2 c ?_).trans q) (fun _ q=>q) fun _ _ q=>q;rintro rfl;rcases hc with rfl|hc
  ·rw[Aq] at e;cases e
  ·rw[Aq] at hc;cases hc
 rcases hx with hk|hk
 ·refine wpAny_storeName_local hk hn (fun h' Ah hs=>?_) pQ;obtain⟨oL,_,_,hoL,_⟩:=id hn;refine h _ ⟨I.ok,I.os,I.bare,⟨fun b o e n hb hx=>?_,fun b o e n hb hx=>?_,I.base.free,fun b o e hx=>?_,I.base.tups,I.base.frzs,I.base.tbls⟩,⟨_,Ah,fun j y v' e1 e2 e3=>?_⟩,fun y c e=>?_,I.free,I.freeC,fun p hp=>?_,pF ⟨oL,hoL,I.free⟩ hs,by simpa using I.len⟩ ⟨_,hs,.inl rfl⟩
  ·exact(hs.2 b (aW (aV (aP e) I.ok.above))).trans (I.base.keep b o e n hb hx)
  ·obtain⟨sl,e1⟩:=I.base.slot b o e n hb hx;exact⟨sl,(hs.2 b (aW (aV (aP e) I.ok.above))).trans e1⟩
  ·obtain⟨o',e1⟩:=I.base.there b o e hx;exact⟨o',(hs.2 b (aW (aV (aP e) I.ok.above))).trans e1⟩
  ·by_cases hj:j=i
   ·subst hj;rw[hi] at e1;cases e1;rw[dY Cf] at e2;cases e2;exact⟨u,r,.inl ⟨hk,by simp⟩⟩
   ·rw[fb (Ne.symm hj)] at e2;obtain⟨u',r',q⟩:=hl j y v' e1 e2 e3;refine⟨u',r',?_⟩;rcases q with ⟨k,e⟩|⟨k,c,e,z⟩
    ·refine .inl ⟨k,?_⟩;have:y≠x:=fun e=>hj (qI hN e1 (e▸hi));simp[this,e]
    ·exact .inr ⟨k,c,e,z.sameBut hs (cne y c e)⟩
  ·obtain⟨w',z⟩:=I.cell y c e;exact⟨w',z.sameBut hs (cne y c e)⟩
  ·obtain⟨e,n,ne,nf,d⟩:=I.pin p hp;exact⟨(hs.2 p.1 ne).trans e,n,ne,nf,d⟩
 ·have G5:X.fn x=true:=by
   rcases hf with z|z
   ·exact z
   ·rw[z] at hk;cases hk
  obtain⟨c,hc⟩:=I.ok.has x (.inl hk);obtain⟨w',z⟩:=I.cell x c hc;refine wpAny_storeName_cell I.ok.kind hk hc z (fun h' ER hs=>?_);obtain⟨oc,hoc,G6⟩:=id z;refine h { s with heap:=h' } ⟨I.ok,I.os,I.bare,⟨fun b o e n hb hx=>?_,fun b o e n hb hx=>?_,I.base.free,fun b o e hx=>?_,I.base.tups,I.base.frzs,I.base.tbls⟩,⟨m,hn.sameBut hs (Ne.symm (cne x c hc)),fun j y v' e1 e2 e3=>?_⟩,fun y c' e=>?_,I.free,I.freeC,fun p hp=>?_,pF ⟨oc,hoc,I.freeC x c hc⟩ hs,by simpa using I.len⟩ ⟨c,hs,.inr hc⟩
  ·exact(hs.2 b (aW (aV (aP e) (I.ok.cab x c G5 hc)))).trans (I.base.keep b o e n hb hx)
  ·obtain⟨sl,e1⟩:=I.base.slot b o e n hb hx;exact⟨sl,(hs.2 b (aW (aV (aP e) (I.ok.cab x c G5 hc)))).trans e1⟩
  ·obtain⟨o',e1⟩:=I.base.there b o e hx;exact⟨o',(hs.2 b (aW (aV (aP e) (I.ok.cab x c G5 hc)))).trans e1⟩
  ·by_cases hj:j=i
   ·subst hj;rw[hi] at e1;cases e1;rw[dY Cf] at e2;cases e2;exact⟨u,r,.inr ⟨.inl hk,c,hc,ER⟩⟩
   ·rw[fb (Ne.symm hj)] at e2;obtain⟨u',r',q⟩:=hl j y v' e1 e2 e3;refine⟨u',r',?_⟩;rcases q with q|⟨k,c',e,z'⟩
    ·exact .inl q
    ·refine .inr ⟨k,c',e,z'.sameBut hs ?_⟩;rintro rfl;exact hj (qI hN e1 (I.ok.inj _ _ _ e hc▸hi))
  ·by_cases hcc:c'=c
   ·subst hcc;exact⟨_,ER⟩
   ·obtain⟨w2,z2⟩:=I.cell y c' e;exact⟨w2,z2.sameBut hs hcc⟩
  ·obtain⟨e,n,ne,nf,d⟩:=I.pin p hp;refine⟨(hs.2 p.1 ?_).trans e,n,ne,nf,d⟩;intro q;rw[q,hoc] at e;have q':oc=p.2:=bQ e;exact d w' (by rw[←q'];exact G6)
theorem vO{M:Model}{A:Around}{E:VS7}{i:Nat}{x:Str}{v:V}{u:Value}{Q:Unit->Shared->Prop}(I:Inv X nJ σ H s)(hN:X.N.Nodup)(hi:X.N[i]?=some x)(hx:Loc X.env.scope x)(r:zQ v u)
  (h:∀s',Inv X nJ (σ.set i (some v)) H s'->Q () s') (hf:X.fn x=true\/X.env.scope.names.lookup x=some .local :=by first|exact .inl rfl|exact .inr rfl|assumption):wpAny M A (storeName X.env x u) Q E s :=
 WN I hN hi hx r (fun s' I' _=>h s' I') hf
theorem Inv.call'{s':Shared}{ch:List Addr}(I:Inv X nJ σ H s)(ho:s'.os=s.os)(u:Un (frs X.stack) ch H H' s.heap s'.heap)(hok:HOk X.prog X.w H' s'.heap)(hg:lK s'.gens)
  (CM:∀b∈ch,(b∈X.ex\/X.s₀.heap.objs.size<=b)/\b≠X.env.locals/\(∀x c,X.env.cells.lookup x=some c->c≠b)/\∀p∈X.pn++nJ,p.1≠b):Inv X nJ σ H' s':=by
 obtain⟨h',g',d',t',o'⟩:=s';have e:o'=s.os:=ho;subst e;exact I.call (g':=g') (t':=t') (d':=d') u hok hg CM
end
abbrev XK:=Value->Option Addr->Hp->Prop
abbrev St:=List (Option V)
abbrev VK:=V->Hp->Prop
abbrev TE:=St->Hp->VK->Prop
abbrev TT:=St->Hp->(Bool->Hp->Prop)->Prop
abbrev TA:=St->Hp->(List V->Hp->Prop)->Prop
structure Ends where
 nx:St->Hp->Prop
 rt:VK
 bk:St->Hp->Prop:=fun _ _=>False
 ct:St->Hp->Prop:=fun _ _=>False
abbrev TS:=Ends->St->Hp->Prop
def EP(X:Cx)(nJ:List (Addr×Obj))(σ:St)(Q:VK)(u:Value)(s':Shared):Prop:=∃v H',Inv X nJ σ H' s'/\zQ v u/\Q v H'
def TP(X:Cx)(nJ:List (Addr×Obj))(σ:St)(Q:Bool->Hp->Prop)(b:Bool)(s':Shared):Prop:=∃H',Inv X nJ σ H' s'/\Q b H'
def AP(X:Cx)(nJ:List (Addr×Obj))(σ:St)(Q:List V->Hp->Prop)(us:List Value)(s':Shared):Prop:=∃vs H',Inv X nJ σ H' s'/\zP vs us/\Q vs H'
def SP(X:Cx)(nJ:List (Addr×Obj))(D:Ends)(f:Flow)(s':Shared):Prop :=
 match f with
 |.next=>∃σ' H',Inv X nJ σ' H' s'/\D.nx σ' H'
 |.brk=>∃σ' H',Inv X nJ σ' H' s'/\D.bk σ' H'
 |.cont=>∃σ' H',Inv X nJ σ' H' s'/\D.ct σ' H'
 |.ret u=>∃v σ' H',Inv X nJ σ' H' s'/\zQ v u/\D.rt v H'
def PE(X:Cx)(e:Expr)(t:TE):Prop :=
 ∀(nJ:List (Addr×Obj)) (s:Shared) (σ:St) (H:Hp) (Q:VK),Inv X nJ σ H s->t σ H Q->wpAny (model X.prog X.w) X.A (eval e X.env) (EP X nJ σ Q) X.xe s
def PT(X:Cx)(e:Expr)(t:TT):Prop :=
 ∀(nJ:List (Addr×Obj)) (s:Shared) (σ:St) (H:Hp) (Q:Bool->Hp->Prop),Inv X nJ σ H s->t σ H Q->wpAny (model X.prog X.w) X.A (isTrue e X.env (eval e X.env)) (TP X nJ σ Q) X.xe s
def PW(X:Cx)(e:Expr)(t:TT):Prop :=
 ∀(Ar:Sem Value) (nJ:List (Addr×Obj)) (s:Shared) (σ:St) (H:Hp) (Q:Bool->Hp->Prop),Inv X nJ σ H s->t σ H Q->wpAny (model X.prog X.w) X.A (isTrue e X.env Ar) (TP X nJ σ Q) X.xe s
theorem PW.pt{X:Cx}{e:Expr}{t:TT}(h:PW X e t):PT X e t:=h _
def PA(X:Cx)(es:List Expr)(t:TA):Prop :=
 ∀(pos:Pos) (nJ:List (Addr×Obj)) (s:Shared) (σ:St) (H:Hp) (Q:List V->Hp->Prop),Inv X nJ σ H s->t σ H Q->wpAny (model X.prog X.w) X.A (spliced (lg pos (bY es X.env))) (AP X nJ σ Q) X.xe s
def PS(X:Cx)(st:Stmt)(t:TS):Prop :=
 ∀(nJ:List (Addr×Obj)) (s:Shared) (σ:St) (H:Hp) (D:Ends),Inv X nJ σ H s->t D σ H->wpAny (model X.prog X.w) X.A (exec st X.env) (SP X nJ D) X.xe s
def PSs(X:Cx)(st:List Stmt)(t:TS):Prop :=
 ∀(nJ:List (Addr×Obj)) (s:Shared) (σ:St) (H:Hp) (D:Ends),Inv X nJ σ H s->t D σ H->wpAny (model X.prog X.w) X.A (execs st X.env) (SP X nJ D) X.xe s
theorem thn{α:Type}{t:Sem α}{Q Q':α->Shared->Prop}{M:Model}{A:Around}{E:VS7}{s:Shared}(h:wpAny M A t Q E s)(hQ:∀a s,Q a s->Q' a s):wpAny M A t Q' E s:=eM h hQ fun _ _ x=>x
end L2
namespace L2
open PySem PySem.Spec PyProof.Rows
section
variable{X:Cx}
def WO(i:Nat):TE:=fun σ H Q=>∃v,σ[i]?=some (some v)/\Q v H
def tC(v:V):TE:=fun _ H Q=>Q v H
theorem Jk{i:Nat}{x:Str}{pos:Pos}(hN:X.N[i]?=some x)(hv:Vis X.env.scope x)(hd:(x == ("__debug__":Str))=false:=by decide)(AK:(x == ("__classdict__":Str))=false:=by decide):PE X (.Name x pos) (WO i):=by
 intro nJ s σ H Q I h;obtain⟨v,e,h⟩:=h;obtain⟨m,hn,hl⟩:=I.loc;obtain⟨u,r,l⟩:=hl i x v hN e hv;have oE:EP X nJ σ Q u s:=⟨v,H,I,r,h⟩
 rcases l with ⟨hk,hm⟩|⟨hk,c,hc,hcell⟩
 ·exact wpAny_Name (wpAny_loadName_local I.ok.kind hk hn hm oE) hd
 ·rcases hk with hk|hk
  ·exact wpAny_Name (wpAny_loadName_cell I.ok.kind hk hc hcell oE) hd
  ·exact wpAny_Name (wpAny_loadName_free I.ok.kind hk hc hcell oE AK) hd
theorem zg{i j pos}:PE X (.Constant (.int i) j pos) (tC (.int i)):=fun _ _ _ H _ I h=>wpAny_Constant_int ⟨.int i,H,I.tok _,⟨_,rfl⟩,h⟩
theorem xz{b j pos}:PE X (.Constant (.bool b) j pos) (tC (.bl b)):=fun _ _ _ H _ I h=>Constant_bool ⟨.bl b,H,I,rfl,h⟩
theorem rN{j pos}:PE X (.Constant .none j pos) (tC .non):=fun _ _ _ H _ I h=>Constant_none ⟨.non,H,I,rfl,h⟩
theorem uW{x j pos}:PE X (.Constant (.str x) j pos) (tC (.str x)):=fun _ _ _ H _ I h=>Calls.Constant_str ⟨.str x,H,I.tok _,⟨_,rfl⟩,h⟩
def Gl(X:Cx)(x:Str):Prop:=X.env.kindOf x=some .globalImplicit
theorem vo{E:VS7}{nJ:List (Addr×Obj)}{s:Shared}{σ:St}{H:Hp}{x:Str}{u:Value}{pos:Pos}{Q:VS7}(I:Inv X nJ σ H s)(hg:Gl X x)(hm:X.mg x=some u)(h:Q u s)
  (hd:(x == ("__debug__":Str))=false:=by decide):wpAny (model X.prog X.w) X.A (eval (.Name x pos) X.env) Q E s :=
 Calls.Name_function_global I.ok.kind hg (Calls.loadGlobal_global (by rw[I.ok.glob];exact I.mod.glob.keeps I.bk) hm h) hd
theorem wo{E:VS7}{nJ:List (Addr×Obj)}{s:Shared}{σ:St}{H:Hp}{x:Str}{u:Value}{pos:Pos}{Q:VS7}(I:Inv X nJ σ H s)(hg:Gl X x)(hm:X.mg x=none)(hv:cU x=some u)(h:Q u s)
  (hn:x≠"__name__":=by decide) (hd:(x == ("__debug__":Str))=false:=by decide):wpAny (model X.prog X.w) X.A (eval (.Name x pos) X.env) Q E s:=by
 obtain⟨mb,h1,h2⟩:=I.mod.blt;exact Calls.Name_function_global I.ok.kind hg (Calls.loadGlobal_builtin (by rw[I.ok.glob];exact I.mod.glob.keeps I.bk) hm (by rw[I.ok.blt];exact h1.keeps I.bk) ((h2 x hn).trans hv) h) hd
theorem yb{x:Str}{v:V}{u:Value}{pos:Pos}(hg:Gl X x)(hm:X.mg x=some u)(r:zQ v u)(hd:(x == ("__debug__":Str))=false:=by decide):PE X (.Name x pos) (tC v) :=
 fun _ _ _ H _ I h=>vo I hg hm ⟨v,H,I,r,h⟩ hd
theorem R5{x:Str}{v:V}{u:Value}{pos:Pos}(hg:Gl X x)(hm:X.mg x=none)(hv:cU x=some u)(r:zQ v u)(hn:x≠"__name__":=by decide)(hd:(x == ("__debug__":Str))=false:=by decide):PE X (.Name x pos) (tC v) :=
 fun _ _ _ H _ I h=>wo I hg hm hv ⟨v,H,I,r,h⟩ hn hd
variable{a b:Expr}{ta tb:TE}{pos:Pos}
noncomputable def PC(X:Cx)(op:CmpOp)(a b:Expr)(t:TE):Prop :=
 ∀(nJ:List (Addr×Obj)) (s:Shared) (σ:St) (H:Hp) (Q:VK),Inv X nJ σ H s->t σ H Q→
  wpAny (model X.prog X.w) X.A (eval a X.env) (fun v s₁=>wpAny (model X.prog X.w) X.A (eval b X.env) (fun u s₂=>wpAny (model X.prog X.w) X.A (fc op v u) (EP X nJ σ Q) X.xe s₂) X.xe s₁) X.xe s
theorem YQ(b:Expr){op:CmpOp}(h:op≠.In)(h2:op≠.NotIn):gW op b=false:=by
 have e1:(op == CmpOp.In)=false:=by cases op <;> first|rfl|exact absurd rfl h
 have e2:(op == CmpOp.NotIn)=false:=by cases op <;> first|rfl|exact absurd rfl h2
 cases b <;> simp[gW,e1,e2]
def zbR(ta:TE):TE:=fun σ H Q=>ta σ H fun x H1=>Q (.bl (decide (x=.non))) H1
def zaL(ta:TE):TE:=fun σ H Q=>ta σ H fun x H1=>Q (.bl (!decide (x=.non))) H1
theorem zQ.none_iff{x:V}{v:Value}(r:zQ x v):(v == aU)=decide (x=.non):=by
 cases x with
 |non=>cases r;rfl
 |bl _=>cases r;rfl
 |int _=>obtain⟨t,rfl⟩:=r;rfl
 |str _=>obtain⟨t,rfl⟩:=r;rfl
 |byt _=>obtain⟨t,rfl⟩:=r;rfl
 |flt _=>obtain⟨t,rfl⟩:=r;rfl
 |ref _=>cases r;rfl
 |ty _=>cases r;rfl
theorem WP{j pc}(ha:PE X a ta):PC X .Is a (.Constant .none j pc) (zbR ta):=by
 intro nJ s σ H Q I h;refine thn (ha nJ s σ H _ I h) fun v s1 ⟨x,H1,I1,r1,q1⟩=>?_;exact Constant_none (is_none_gen ⟨.bl _,H1,I1,by rw[r1.none_iff];rfl,q1⟩)
theorem WQ{j pc}(ha:PE X a ta):PC X .IsNot a (.Constant .none j pc) (zaL ta):=by
 intro nJ s σ H Q I h;refine thn (ha nJ s σ H _ I h) fun v s1 ⟨x,H1,I1,r1,q1⟩=>?_;exact Constant_none (isnot_none_gen ⟨.bl _,H1,I1,by rw[r1.none_iff];rfl,q1⟩)
def tB(t:TE):TT:=fun σ H Q=>t σ H fun x H1=>∃c,x=.bl c/\Q c H1
theorem Jl{op:CmpOp}{t:TE}(h:PC X op a b t)(h1:gW op b=false:=by first|exact YQ _ (by decide) (by decide)|rfl):PE X (.Compare a [op] [b] pos) t:=fun nJ s σ H Q I hw=>wpAny_Compare1 (h nJ s σ H Q I hw) h1
theorem YR{op:CmpOp}{t:TE}(h:PC X op a b t)(h1:gW op b=false:=by first|exact YQ _ (by decide) (by decide)|rfl):PT X (.Compare a [op] [b] pos) (tB t):=by
 intro nJ s σ H Q I hw;refine wpAny_isTrue_Compare1 (thn (h nJ s σ H _ I hw) fun v s1 h1=>thn h1 fun u s2 h2=>thn h2 fun c s3 ⟨x,H1,I1,r1,q1⟩=>?_) h1;obtain⟨d,rfl,q⟩:=q1;cases r1;exact dq ⟨H1,I1,q⟩
theorem zZ{e:Expr}{t:TE}(h:PE X e t)(he:∀Ar,isTrue e X.env Ar=(do let v←Ar;standAt e.pos;holding [v] (truthy v)):=by intro _;rfl):PT X e (tB t):=by
 intro nJ s σ H Q I hw;refine isTrue_plain (thn (h nJ s σ H _ I hw) fun v s1 ⟨x,H1,I1,r1,q1⟩=>?_) (he _);obtain⟨d,rfl,q⟩:=q1;cases r1;exact dq ⟨H1,I1,q⟩
variable{tA Gh:TT}{nV:List Expr}
def zaM(t u:TT):TT:=fun σ H Q=>t σ H fun c H1=>if c=true then u σ H1 Q else Q false H1
def tOr(t u:TT):TT:=fun σ H Q=>t σ H fun c H1=>if c=true then Q true H1 else u σ H1 Q
def zaN(t:TT):TT:=fun σ H Q=>t σ H fun c H1=>Q (!c) H1
theorem xF(ha:PT X a tA):PW X (.BoolOp .And [a] pos) tA:=by
 intro wh nJ s σ H Q I h;refine isTrue_and (thn (ha nJ s σ H Q I h) fun c s1 e=>?_);cases c with
 |true=>exact isTrue_and_nil e
 |false=>exact e
theorem vh(ha:PT X a tA):PW X (.BoolOp .Or [a] pos) tA:=by
 intro wh nJ s σ H Q I h;refine isTrue_or (thn (ha nJ s σ H Q I h) fun c s1 e=>?_);cases c with
 |false=>exact isTrue_or_nil e
 |true=>exact e
theorem wB(ha:PT X a tA)(hb:PW X (.BoolOp .And (b::nV) pos) Gh):PW X (.BoolOp .And (a::b::nV) pos) (zaM tA Gh):=by
 intro wh nJ s σ H Q I h;refine isTrue_and (thn (ha nJ s σ H _ I h) fun c s1 ⟨H1,I1,q1⟩=>?_);cases c with
 |true=>exact hb wh nJ s1 σ H1 Q I1 q1
 |false=>exact⟨H1,I1,q1⟩
theorem tS(ha:PT X a tA)(hb:PW X (.BoolOp .Or (b::nV) pos) Gh):PW X (.BoolOp .Or (a::b::nV) pos) (tOr tA Gh):=by
 intro wh nJ s σ H Q I h;refine isTrue_or (thn (ha nJ s σ H _ I h) fun c s1 ⟨H1,I1,q1⟩=>?_);cases c with
 |true=>exact⟨H1,I1,q1⟩
 |false=>exact hb wh nJ s1 σ H1 Q I1 q1
theorem yC(ha:PT X a tA):PT X (.UnaryOp .Not a pos) (zaN tA):=by
 intro nJ s σ H Q I h;exact isTrue_not (ha nJ s σ H (fun c H1=>Q (!c) H1) I h)
def zaO(ta tb:TE):TE:=fun σ H Q=>ta σ H fun x H1=>∃c,x=.bl c/\if c=true then tb σ H1 Q else Q (.bl false) H1
def zbS(ta tb:TE):TE:=fun σ H Q=>ta σ H fun x H1=>∃c,x=.bl c/\if c=true then Q (.bl true) H1 else tb σ H1 Q
def zaP(ta:TE):TE:=fun σ H Q=>ta σ H fun x H1=>∃c,x=.bl c/\Q (.bl (!c)) H1
theorem wp{op}{t:TE}(h:PE X a t):PE X (.BoolOp op [a] pos) t:=fun nJ s σ H Q I hw=>BoolOp_one (h nJ s σ H Q I hw)
theorem xC(ha:PE X a ta)(hb:PE X (.BoolOp .And (b::nV) pos) tb):PE X (.BoolOp .And (a::b::nV) pos) (zaO ta tb):=by
 intro nJ s σ H Q I h;refine BoolOp_and (thn (ha nJ s σ H _ I h) fun v s1 ⟨x,H1,I1,r1,q1⟩=>?_);obtain⟨c,rfl,q1⟩:=q1;cases r1;refine dq ?_;cases c with
 |true=>exact hb nJ s1 σ H1 Q I1 q1
 |false=>exact⟨.bl false,H1,I1,rfl,q1⟩
theorem Jm(ha:PE X a ta)(hb:PE X (.BoolOp .Or (b::nV) pos) tb):PE X (.BoolOp .Or (a::b::nV) pos) (zbS ta tb):=by
 intro nJ s σ H Q I h;refine BoolOp_or (thn (ha nJ s σ H _ I h) fun v s1 ⟨x,H1,I1,r1,q1⟩=>?_);obtain⟨c,rfl,q1⟩:=q1;cases r1;refine dq ?_;cases c with
 |false=>exact hb nJ s1 σ H1 Q I1 q1
 |true=>exact⟨.bl true,H1,I1,rfl,q1⟩
theorem Rk(ha:PE X a ta):PE X (.UnaryOp .Not a pos) (zaP ta):=by
 intro nJ s σ H Q I h;refine UnaryOp_ (thn (ha nJ s σ H _ I h) fun v s1 ⟨x,H1,I1,r1,q1⟩=>?_);obtain⟨c,rfl,q1⟩:=q1;cases r1;exact not_of (dq ⟨.bl (!c),H1,I1,rfl,q1⟩)
def tIf(t:TT)(ta tb:TE):TE:=fun σ H Q=>t σ H fun c H1=>if c=true then ta σ H1 Q else tb σ H1 Q
theorem x9{c:Expr}(hc:PT X c tA)(ha:PE X a ta)(hb:PE X b tb):PE X (.IfExp c a b pos) (tIf tA ta tb):=by
 intro nJ s σ H Q I h;refine wpAny_IfExp (thn (hc nJ s σ H _ I h) fun d s1 ⟨H1,I1,q1⟩=>?_);cases d with
 |true=>exact ha nJ s1 σ H1 Q I1 q1
 |false=>exact hb nJ s1 σ H1 Q I1 q1
end
end L2
namespace L2
open PySem PySem.Spec PyProof.Rows
def SqL(K:FG7)(H:Hp)(a:Addr)(xs:List V):Prop :=
 Rd H a (.lst xs)∨
  ∃(o:Obj) (nK:Array Value) (n:Nat),K.lookup a=some o/\o.cls=.type "list" /\o.dict=none/\o.data=.seq nK n/\nK.size<=sizeLine/\zP xs nK.toList
def SqT(K:FG7)(H:Hp)(a:Addr)(xs:List V):Prop :=
 Rd H a (.tup xs)∨
  ∃(o:Obj) (nK:Array Value) (n:Nat),K.lookup a=some o/\o.cls=.type "tuple" /\o.data=.seq nK n/\nK.size<=sizeLine/\zP xs nK.toList
noncomputable def zbT:Value->Option V
 |.none=>some .non
 |.bool b=>some (.bl b)
 |.int i _=>some (.int i)
 |.str x _=>some (.str x)
 |.bytes b _=>some (.byt b)
 |.float b _=>some (.flt b)
 |.ref a=>some (.ref a)
 |.type n=>some (.ty n)
 |_=>none
theorem zQ.abs{x:V}{u:Value}(r:zQ x u):zbT u=some x:=by
 cases x with
 |non=>cases r;rfl
 |bl _=>cases r;rfl
 |int _=>obtain⟨t,rfl⟩:=r;rfl
 |str _=>obtain⟨t,rfl⟩:=r;rfl
 |byt _=>obtain⟨t,rfl⟩:=r;rfl
 |flt _=>obtain⟨t,rfl⟩:=r;rfl
 |ref _=>cases r;rfl
 |ty _=>cases r;rfl
theorem zQ.inj{x y:V}{u:Value}(r:zQ x u)(q:zQ y u):x=y:=bQ (r.abs.symm.trans q.abs)
theorem zP.inj:∀{xs ys:List V} {us:List Value},zP xs us->zP ys us->xs=ys
 |_,_,_,.nil,.nil=>rfl
 |_,_,_,.cons r t,.cons r' t'=>by rw[r.inj r',zP.inj t t']
section
variable{X:Cx}{nJ:List (Addr×Obj)}{σ:St}{H:Hp}{s:Shared}{a:Addr}{xs ys:List V}
theorem SqL.of{K:FG7}(h:H a=some (.lst xs)):SqL K H a xs:=.inl (.inl h)
theorem SqT.of{K:FG7}(h:H a=some (.tup xs)):SqT K H a xs:=.inl (.inl h)
theorem Inv.list(I:Inv X nJ σ H s)(h:SqL X.K H a xs):∃nK:List Value,zP xs nK/\PlainL s.heap a nK.toArray/\xs.length<=sizeLine:=by
 rcases h with h|⟨o,nK,n,hk,hc,hd,hs,hz,r⟩
 ·obtain⟨z,nK,n,r,e⟩:=h.ok I.hok;exact⟨nK,r,⟨_,n,e,rfl,rfl,rfl⟩,z⟩
 ·refine⟨nK.toList,r,⟨o,n,I.kIn a o hk,hc,hd,by simpa using hs⟩,?_⟩;have e:=r.length;simp only[aQ] at e;omega
theorem Inv.tuple(I:Inv X nJ σ H s)(h:SqT X.K H a xs):∃nK:List Value,zP xs nK/\IsTup s.heap a nK.toArray/\xs.length<=sizeLine:=by
 rcases h with h|⟨o,nK,n,hk,hc,hs,hz,r⟩
 ·obtain⟨z,nK,r,p⟩:=h.ok I.hok;exact⟨nK,r,p,z⟩
 ·refine⟨nK.toList,r,⟨o,I.kIn a o hk,hc,n,by simpa using hs⟩,?_⟩;have e:=r.length;simp only[aQ] at e;omega
theorem Inv.list_inj(I:Inv X nJ σ H s)(h:SqL X.K H a xs)(h':SqL X.K H a ys):xs=ys:=by
 obtain⟨nK,r,⟨o,n,e,_,_,d⟩,_⟩:=I.list h;obtain⟨its',r',⟨o',n',e',_,_,d'⟩,_⟩:=I.list h';rw[e] at e';cases e';rw[d] at d';injection d' with d1 _
 have:nK=its':=by simpa using congrArg nC d1
 subst this;exact r.inj r'
theorem Inv.tuple_inj(I:Inv X nJ σ H s)(h:SqT X.K H a xs)(h':SqT X.K H a ys):xs=ys:=by
 obtain⟨nK,r,⟨o,e,_,n,d⟩,_⟩:=I.tuple h;obtain⟨its',r',⟨o',e',_,n',d'⟩,_⟩:=I.tuple h';rw[e] at e';cases e';rw[d] at d';injection d' with d1 _
 have:nK=its':=by simpa using congrArg nC d1
 subst this;exact r.inj r'
end
noncomputable abbrev Cx.wish(X:Cx)(E:VS7):Cx:={ X with xe:=E }
noncomputable abbrev Cx.nox(X:Cx):Cx:=X.wish fun _ _=>False
theorem Cx.Ok.wish{X:Cx}(ok:X.Ok)(E:VS7):(X.wish E).Ok :=
 ⟨ok.mod,ok.kind,ok.glob,ok.blt,ok.above,ok.inj,ok.has,ok.cab,ok.hd,ok.frames,ok.stk,ok.exf,ok.bs,ok.bsz,ok.noex,ok.exfs,ok.funs,ok.frf⟩
theorem Cx.Ok.unwish{X:Cx}{E:VS7}(ok:(X.wish E).Ok):X.Ok :=
 ⟨ok.mod,ok.kind,ok.glob,ok.blt,ok.above,ok.inj,ok.has,ok.cab,ok.hd,ok.frames,ok.stk,ok.exf,ok.bs,ok.bsz,ok.noex,ok.exfs,ok.funs,ok.frf⟩
section
variable{X:Cx}{nJ:List (Addr×Obj)}{σ:St}{H:Hp}{s:Shared}{E:VS7}
theorem Inv.wish(I:Inv X nJ σ H s)(E:VS7):Inv (X.wish E) nJ σ H s:=⟨I.ok.wish E,I.os,I.bare,I.base,I.loc,I.cell,I.free,I.freeC,I.pin,I.hok,I.len⟩
theorem Inv.unwish(I:Inv (X.wish E) nJ σ H s):Inv X nJ σ H s:=⟨I.ok.unwish,I.os,I.bare,I.base,I.loc,I.cell,I.free,I.freeC,I.pin,I.hok,I.len⟩
theorem SP.unwish{D:Ends}{f:Flow}{s':Shared}(h:SP (X.wish E) nJ D f s'):SP X nJ D f s':=by
 cases f with
 |next=>obtain⟨σ',H',I,q⟩:=h;exact⟨σ',H',I.unwish,q⟩
 |brk=>obtain⟨σ',H',I,q⟩:=h;exact⟨σ',H',I.unwish,q⟩
 |cont=>obtain⟨σ',H',I,q⟩:=h;exact⟨σ',H',I.unwish,q⟩
 |ret u=>obtain⟨v,σ',H',I,r,q⟩:=h;exact⟨v,σ',H',I.unwish,r,q⟩
theorem PSs.nox{st:List Stmt}{t:TS}(h:PSs X.nox st t):PSs X st t:=fun nJ s σ H D I hw =>
 eM (h nJ s σ H D (I.wish _) hw) (fun _ _ q=>q.unwish) fun _ _ z=>False.elim z
end
section
variable{X:Cx}{st:Stmt}{nV:List Stmt}{t u:TS}{e:Expr}{te:TE}{pos:Pos}
def Jn:TS:=fun D σ H=>D.nx σ H
def zaA(t u:TS):TS:=fun D σ H=>t { D with nx:=u D } σ H
theorem zz:PSs X [] Jn:=fun _ _ σ H _ I h=>iD ⟨σ,H,I,h⟩
theorem ze(h1:PS X st t)(h2:PSs X nV u):PSs X (st::nV) (zaA t u):=by
 intro nJ s σ H D I h;refine mF (thn (h1 nJ s σ H { D with nx:=u D } I h) fun f s1 q=>?_);cases f with
 |next =>
  obtain⟨σ',H',I',q⟩:=q;exact h2 nJ s1 σ' H' D I' q
 |ret v=>exact q
 |brk=>exact q
 |cont=>exact q
theorem zi(h1:PS X st t):PSs X [st] t:=by
 intro nJ s σ H D I h;refine mF (thn (h1 nJ s σ H D I h) fun f s1 q=>?_);cases f with
 |next=>exact iD q
 |ret v=>exact q
 |brk=>exact q
 |cont=>exact q
theorem Inv.quiet{nJ:List (Addr×Obj)}{σ:St}{H:Hp}{s:Shared}(I:Inv X nJ σ H s):interactive X.env=false:=by simp[interactive,I.ok.kind]
def zaQ(te:TE):TS:=fun D σ H=>te σ H fun _ H1=>D.nx σ H1
theorem xj(he:PE X e te)(hs:mG e none pos.line X.env=pure false:=by rfl):PS X (.Expr e pos) (zaQ te):=by
 intro nJ s σ H D I h;exact wpAny_Expr_any (thn (he nJ s σ H _ I h) fun v s1 ⟨x,H1,I1,r1,q1⟩=>⟨σ,H1,I1,q1⟩) I.quiet hs
def zbD(te:TE):TS:=fun D σ H=>te σ H D.rt
theorem zr(he:PE X e te):PS X (.Return (some e) pos) (zbD te):=by
 intro nJ s σ H D I h;exact wpAny_Return_some (thn (he nJ s σ H _ I h) fun v s1 ⟨x,H1,I1,r1,q1⟩=>⟨x,σ,H1,I1,r1,q1⟩)
def zaR(c:TT)(t u:TS):TS:=fun D σ H=>c σ H fun b H1=>if b=true then t D σ H1 else u D σ H1
theorem yB{c:Expr}{a b:List Stmt}{tc:TT}(hc:PT X c tc)(ha:PSs X a t)(hb:PSs X b u):PS X (.If c a b pos) (zaR tc t u):=by
 intro nJ s σ H D I h;refine wpAny_If (thn (hc nJ s σ H _ I h) fun d s1 ⟨H1,I1,q1⟩=>?_);cases d with
 |true=>exact ha nJ s1 σ H1 D I1 q1
 |false=>exact hb nJ s1 σ H1 D I1 q1
end
abbrev TG:=V->St->Hp->(St->Hp->Prop)->Prop
abbrev TGs:=List V->St->Hp->(St->Hp->Prop)->Prop
def PG(X:Cx)(pR:Expr)(t:TG):Prop :=
 ∀(nJ:List (Addr×Obj)) (s:Shared) (σ:St) (H:Hp) (v:V) (u:Value) (Q:St->Hp->Prop),Inv X nJ σ H s->zQ v u->t v σ H Q→
  wpAny (model X.prog X.w) X.A (mL pR X.env u) (fun _ s'=>∃σ' H',Inv X nJ σ' H' s'/\Q σ' H') X.xe s
def PGs(X:Cx)(ts:List Expr)(t:TGs):Prop :=
 ∀(nJ:List (Addr×Obj)) (s:Shared) (σ:St) (H:Hp) (vs:List V) (us:List Value) (Q:St->Hp->Prop),Inv X nJ σ H s->zP vs us->t vs σ H Q→
  wpAny (model X.prog X.w) X.A (assignInOrder ((dR ts X.env).map (·.2)) us) (fun _ s'=>∃σ' H',Inv X nJ σ' H' s'/\Q σ' H') X.xe s
abbrev zaS:=V->V->V->Hp->(Hp->Prop)->Prop
def zbE(X:Cx)(t:zaS):Prop :=
 ∀(nJ:List (Addr×Obj)) (s:Shared) (σ:St) (H:Hp) (o i v:V) (ov iv u:Value) (Q:Hp->Prop),Inv X nJ σ H s->zQ o ov->zQ i iv->zQ v u->t o i v H Q→
  wpAny (model X.prog X.w) X.A (setItem ov iv u) (fun _ s'=>∃H',Inv X nJ σ H' s'/\Q H') X.xe s
section
variable{X:Cx}{pos:Pos}
def ww(i:Nat):TG:=fun v σ H Q=>Q (σ.set i (some v)) H
theorem zj{i:Nat}{x:Str}(hN:X.N.Nodup)(hi:X.N[i]?=some x)(hx:Loc X.env.scope x)(hf:X.fn x=true\/X.env.scope.names.lookup x=some .local :=by first|exact .inl rfl|exact .inr rfl|assumption):PG X (.Name x pos) (ww i):=by
 intro nJ s σ H v u Q I r h;exact wpAny_assign_Name (vO I hN hi hx r (fun s' I'=>⟨_,H,I',h⟩) hf)
def zbF:TGs:=fun vs σ H Q=>vs=[]/\Q σ H
def R6(t:TG)(u:TGs):TGs:=fun vs σ H Q=>∃v r,vs=v::r/\t v σ H fun σ' H'=>u r σ' H' Q
theorem yc:PGs X [] zbF:=by
 intro nJ s σ H vs us Q I r h;obtain⟨e,h⟩:=h;subst e;cases r;exact assignInOrder_nil ⟨σ,H,I,h⟩
theorem zk{e:Expr}{es:List Expr}{t:TG}{u:TGs}(h1:PG X e t)(h2:PGs X es u)
  (hs:(dR (e::es) X.env).map (·.2)=mL e X.env::(dR es X.env).map (·.2):=by rfl):PGs X (e::es) (R6 t u):=by
 intro nJ s σ H vs us Q I r h;obtain⟨v,vr,e1,h⟩:=h;subst e1;cases r with
 |cons r rr =>
  rw[hs];refine assignInOrder_cons (thn (h1 nJ s σ H _ _ _ I r h) fun _ s1 ⟨σ1,H1,I1,q1⟩=>?_);exact h2 nJ s1 σ1 H1 _ _ Q I1 rr q1
def zaT(K:FG7)(n:Nat)(t:TGs):TG:=fun v σ H Q=>∃a xs,v=.ref a/\SqT K H a xs/\xs.length=n/\t xs σ H Q
theorem xf{es:List Expr}{k:Nat}{t:TGs}{n:Nat}(hc:X.calm=true)(h:PGs X es t)
  (hn:(dR es X.env).length=n:=by rfl) (AL:(dR es X.env).findIdx? (·.1)=none:=by rfl):PG X (.Tuple es k pos) (zaT X.K n t):=by
 intro nJ s σ H v u Q I r hw;obtain⟨a,xs,e1,hq,hl,hw⟩:=hw;subst e1;cases r;obtain⟨nK,rv,ht,hz⟩:=I.tuple hq;refine assign_Tuple_tuple (I.ok.hd hc) ht (by simp[hn,←hl,rv.length]) AL fun h' hx=>?_;have I1:Inv X nJ σ H { s with heap:=h' }:=I.kept (t':=s.toks) fun b o e=>hx b o (aW (aP e)) e;exact h nJ _ σ H xs _ Q I1 (by simpa using rv) hw
def zbU(to ti:TE)(t:zaS):TG:=fun v σ H Q=>to σ H fun o H1=>ti σ H1 fun i H2=>t o i v H2 fun H3=>Q σ H3
theorem WR{o i:Expr}{to ti:TE}{t:zaS}(ho:PE X o to)(hi:PE X i ti)(hs:zbE X t)
  (ha:∀v,mL (.Subscript o i pos) X.env v=(do
   let ov←holding [v] (eval o X.env)
   let iv←holding [v,ov] (eval i X.env)
   standAt pos
   holding [v,ov,iv] (setItem ov iv v)
   release [v,ov,iv] []):=by intro _;rfl):PG X (.Subscript o i pos) (zbU to ti t):=by
 intro nJ s σ H v u Q I r h;rw[ha];refine aA (bU (thn (ho nJ s σ H _ I h) fun ov s1 ⟨x,H1,I1,r1,q1⟩=>?_));refine aA (bU (thn (hi nJ s1 σ H1 _ I1 q1) fun iv s2 ⟨y,H2,I2,r2,q2⟩=>?_));refine aA (iY (aA (bU (thn (hs nJ s2 σ H2 x y v ov iv u _ I2 r1 r2 r q2) fun _ s3 ⟨H3,I3,q3⟩=>?_))));exact wpAny_release ⟨σ,H3,I3,q3⟩
def Jo(te:TE)(g:TG):TS:=fun D σ H=>te σ H fun x H1=>g x σ H1 D.nx
theorem xR{tg e:Expr}{te:TE}{g:TG}(he:PE X e te)(hg:PG X tg g)(hs:swapsWithSole [tg] e pos.line X.env=pure false:=by rfl)(hw:swappedStores [tg] e X.env=pure none:=by rfl)
  (h1:(dR [tg] X.env).map (·.2)=[mL tg X.env]:=by rfl):PS X (.Assign [tg] e pos) (Jo te g):=by
 intro nJ s σ H D I h;refine wpAny_Assign_stores (thn (he nJ s σ H _ I h) fun v s1 ⟨x,H1,I1,r1,q1⟩=>?_) hs hw;rw[h1];exact thn (hg nJ s1 σ H1 x v _ I1 r1 q1) fun _ s2 q=>q
theorem zx{i:Nat}{x:Str}{e:Expr}{te:TE}{pc:Pos}(hN:X.N.Nodup)(hi:X.N[i]?=some x)(hx:Loc X.env.scope x)(he:PE X e te)(hs:mG e (some (.Name x pc)) pos.line X.env=pure false:=by rfl)(hf:X.fn x=true\/X.env.scope.names.lookup x=some .local :=by first|exact .inl rfl|exact .inr rfl|assumption) :
  PS X (.Assign [.Name x pc] e pos) (Jo te (ww i)):=by
 intro nJ s σ H D I h;refine wpAny_Assign_Name (thn (he nJ s σ H _ I h) fun v s1 ⟨y,H1,I1,r1,q1⟩=>?_) hs;exact vO I1 hN hi hx r1 (fun s2 I2=>⟨_,H1,I2,q1⟩) hf
end
section
variable{X:Cx}{pos:Pos}
def Rl(c:TT)(tb:TS):TS:=fun D σ H=>∃W:Nat->St->Hp->Prop,(∃m,W m σ H)/\∀m σ H,W m σ H→
 c σ H fun b H1=>if b=true then ∃N:St->Hp->Prop,(∀σ' H',N σ' H'->∃m',m'<m/\W m' σ' H')/\tb { D with nx:=N,ct:=N,bk:=D.nx } σ H1 else D.nx σ H1
theorem Tq{c:Expr}{body:List Stmt}{tc:TT}{tb:TS}(hp:PassesOwn (model X.prog X.w) X.A X.env X.xe)(hc:PT X c tc)(hb:PSs X body tb):PS X (.While c body [] pos) (Rl tc tb):=by
 intro nJ s σ H D I h;obtain⟨W,⟨m0,w0⟩,pS⟩:=h;refine wpAny_While (codeAny_whileLoop (fun n s'=>∃σ' H',Inv X nJ σ' H' s'/\W n σ' H') ?_ m0 ⟨σ,H,I,w0⟩);rintro n s1 ⟨σ1,H1,I1,w1⟩;refine gI hp (thn (hc nJ s1 σ1 H1 _ I1 (pS n σ1 H1 w1)) fun b s2 ⟨H2,I2,q2⟩=>?_);cases b with
 |true =>
  obtain⟨N,hN,q2⟩:=q2;rw[if_pos rfl];refine gI hp (thn (hb nJ s2 σ1 H2 _ I2 q2) fun f s3 q3=>?_);cases f with
  |next =>
   obtain⟨σ3,H3,I3,n3⟩:=q3;obtain⟨m',hm,w3⟩:=hN σ3 H3 n3;exact⟨m',hm,σ3,H3,I3,w3⟩
  |cont =>
   obtain⟨σ3,H3,I3,n3⟩:=q3;obtain⟨m',hm,w3⟩:=hN σ3 H3 n3;exact⟨m',hm,σ3,H3,I3,w3⟩
  |brk=>exact q3
  |ret v=>exact q3
 |false =>
  rw[if_neg aZ];exact iD ⟨σ1,H2,I2,q2⟩
end
structure It where
 go:Nat->Hp->Prop
 yld:Nat->Hp->V->Hp->Prop
 stop:Nat->Hp->Prop
def tj(X:Cx)(nJ:List (Addr×Obj))(H:Hp)(b:Addr):Prop :=
 H b=none/\b≠X.env.locals/\b∉X.fs/\(b∈X.ex\/X.s₀.heap.objs.size<=b)/\(∀x c,X.env.cells.lookup x=some c->c≠b)/\∀p∈X.pn++nJ,p.1≠b
theorem Inv.fpOk{X:Cx}{nJ:List (Addr×Obj)}{σ:St}{H H':Hp}{s:Shared}{b:Addr}(I:Inv X nJ σ H s)(hb:s.heap.objs.size<=b)(hn:H' b=none):tj X nJ H' b:=by
 refine⟨hn,dB (aV I.lt hb),I.nofs hb,.inr (cH I.sz hb),fun x c e z=>?_,fun p hp z=>?_⟩
 ·obtain⟨v,q⟩:=I.cell x c e;exact absurd (aV q.lt (by rw[z];exact hb)) (eU _)
 ·exact absurd (aV (aP (I.pin p hp).1) (by rw[z];exact hb)) (eU _)
structure Turn(P:Program)(w:World)(K:FG7)(tg:Expr)(J:It)(fp:List Addr)(it:Addr)(tn:Nat->Heap->Prop):Prop where
 mem:it∈fp
 obj:∀i h,tn i h->∀b∈fp,∃o,h.get? b=some o/\∀v,o.data≠.cell v
 keep:∀i h h',tn i h->(∀b∈fp,∀o,h.get? b=some o->h'.get? b=some o)->tn i h'
 item:∀(X:Cx),X.prog=P->X.w=w->X.K=K->X.calm=true->∀(i:Nat) (nJ:List (Addr×Obj)) (s:Shared) (σ:St) (H:Hp) (E:VS7),Inv X nJ σ H s->(∀b∈fp,tj X nJ H b)->tn i s.heap->J.go i H→
  wpAny (model P w) X.A (pyNext (.ref it)) (fun r s1=>∃u,r=some u∧
   wpAny (model P w) X.A (iE tg (.ref it) u) (fun _ s2=>∃x H',Inv X nJ σ H' s2/\zQ x u/\J.yld i H x H'/\tn (i+1) s2.heap/\∀b∈fp,H' b=none) E s1) E s
 done:∀(X:Cx),X.prog=P->X.w=w->X.K=K->X.calm=true->∀(i:Nat) (nJ:List (Addr×Obj)) (s:Shared) (σ:St) (H:Hp) (E:VS7),Inv X nJ σ H s->(∀b∈fp,tj X nJ H b)->tn i s.heap->J.stop i H→
  wpAny (model P w) X.A (pyNext (.ref it)) (fun r s1=>r=none/\Inv X nJ σ H s1) E s
 self:∀(A:Around) (i:Nat) (s:Shared) (Q:VS7) (E:VS7),tn i s.heap->Q (.ref it) s->wpAny (model P w) A (pyIter (.ref it)) Q E s
abbrev TI:=St->Hp->(It->Hp->Prop)->Prop
def PIE(X:Cx)(nJ:List (Addr×Obj))(σ:St)(tg:Expr)(R:It->Hp->Prop)(DO:Value)(s2:Shared):Prop :=
 ∃(it:Addr) (fp:List Addr) (tn:Nat->Heap->Prop) (J:It) (H':Hp),DO=.ref it/\Inv X nJ σ H' s2/\Turn X.prog X.w X.K tg J fp it tn/\tn 0 s2.heap/\(∀b∈fp,tj X nJ H' b)/\R J H'
def PI(X:Cx)(tg iter:Expr)(wi:TI):Prop :=
 ∀(nJ:List (Addr×Obj)) (s:Shared) (σ:St) (H:Hp) (R:It->Hp->Prop),Inv X nJ σ H s->wi σ H R→
  wpAny (model X.prog X.w) X.A (eval iter X.env) (fun v s1=>wpAny (model X.prog X.w) X.A (pyIter v) (PIE X nJ σ tg R) X.xe s1) X.xe s
theorem Tr{M:Model}{A:Around}{E:VS7}{s:Shared}{tg:Expr}{it:Addr}{u:Value}{o:Obj}{n:String}{vs:Array Value}{Q:Unit->Shared->Prop}(ho:s.heap.get? it=some o)(hc:o.cls=.type n)(hd:o.data=.fields vs)
    (hn:["enumerate","zip","dict_itemiterator","dict_reverseitemiterator","odict_iterator","itertools.zip_longest","itertools.pairwise"].contains n=false) (hQ:Q () s):wpAny M A (iE tg (.ref it) u) Q E s:=by
  unfold iE;cases tg <;> first
    |exact aB hQ
    | (cases u <;> first
        |exact aB hQ
        | (refine aA (nz ho ?_)
           rw[hc,hd];show wpAny M A (if(["enumerate","zip","dict_itemiterator","dict_reverseitemiterator","odict_iterator","itertools.zip_longest","itertools.pairwise"].contains n && vs[0]? == some (rawInt _))=true then _ else _) Q E s;rw[if_neg (by intro h;rw[hn,mY] at h;cases h)];exact aB hQ))
def Itl(K:FG7)(a:Addr):It :=
 ⟨fun i H=>∃xs x,SqL K H a xs/\xs[i]?=some x,fun i H x H'=>H'=H/\∀xs,SqL K H a xs->xs[i]?=some x,fun i H=>∃xs,SqL K H a xs/\xs.length<=i⟩
def Itt(K:FG7)(a:Addr):It :=
 ⟨fun i H=>∃xs x,SqT K H a xs/\xs[i]?=some x,fun i H x H'=>H'=H/\∀xs,SqT K H a xs->xs[i]?=some x,fun i H=>∃xs,SqT K H a xs/\xs.length<=i⟩
def Itr(lo:Int)(n:Nat):It:=⟨fun i _=>i<n,fun i H x H'=>H'=H/\x=.int (lo+i),fun i _=>n<=i⟩
theorem WT{P:Program}{w:World}{K:FG7}{tg:Expr}(a it:Addr):Turn P w K tg (Itl K a) [it] it (fun i h=>h.IsListIter it a i) where
 mem:=by simp
 obj:=fun i h st b hb=>by
  have e:b=it:=by simpa using hb
  subst e;obtain⟨o,e,c,d⟩:=st;exact⟨o,e,fun v z=>by rw[d] at z;cases z⟩
 keep:=fun i h h' st k=>st.at fun o e=>k it (by simp) o e
 item:=by
  intro X hP hw hK hc i nJ s σ H E I hf st hg;subst hP hw hK;obtain⟨xs,x,hq,hx⟩:=hg;obtain⟨nK,rv,p,hz⟩:=I.list hq;obtain⟨u,hu,ru⟩:=rv.get hx;obtain⟨f0,f1,f2,f3,f4,f5⟩:=hf it (by simp);refine wpAny_pyNext_list_item st p.isList (x:=u) (by simpa using hu) fun h' An sb=>?_;have I1:Inv X nJ σ H { s with heap:=h' }:=I.turned (t':=s.toks) (fun b o hb e=>(sb.2 b hb).trans e) f0 f1 f3 f4 f5;obtain⟨o,e,c,d⟩:=id An;exact⟨u,rfl,Tr (s:={ s with heap:=h' }) e c d (by decide) ⟨x,H,I1,ru,⟨rfl,fun ys hy=>by rw[I.list_inj hy hq];exact hx⟩,An,fun b hb=>(hf b hb).1⟩⟩
 done:=by
  intro X hP hw hK hc i nJ s σ H E I hf st hg;subst hP hw hK;obtain⟨xs,hq,hx⟩:=hg;obtain⟨nK,rv,p,hz⟩:=I.list hq;obtain⟨f0,f1,f2,f3,f4,f5⟩:=hf it (by simp);have hl:=rv.length;exact wpAny_pyNext_list_end (I.ok.hd hc) st p.isList (by simp;omega) fun h' eb=>⟨rfl,I.turned (t':=s.toks) (fun b o hb e=>eb b o hb e) f0 f1 f3 f4 f5⟩
 self:=fun _ _ _ _ _ st h=>wpAny_pyIter_listiter st h
theorem XA{P:Program}{w:World}{K:FG7}{tg:Expr}(a it:Addr):Turn P w K tg (Itt K a) [it] it (fun i h=>h.IsTupleIter it a i) where
 mem:=by simp
 obj:=fun i h st b hb=>by
  have e:b=it:=by simpa using hb
  subst e;obtain⟨o,e,c,d⟩:=st;exact⟨o,e,fun v z=>by rw[d] at z;cases z⟩
 keep:=fun i h h' st k=>st.at fun o e=>k it (by simp) o e
 item:=by
  intro X hP hw hK hc i nJ s σ H E I hf st hg;subst hP hw hK;obtain⟨xs,x,hq,hx⟩:=hg;obtain⟨nK,rv,p,hz⟩:=I.tuple hq;obtain⟨u,hu,ru⟩:=rv.get hx;obtain⟨f0,f1,f2,f3,f4,f5⟩:=hf it (by simp);refine wpAny_pyNext_tuple_item st (show s.heap.IsTuple a nK.toArray from p) (x:=u) (by simpa using hu) fun h' An sb=>?_;have I1:Inv X nJ σ H { s with heap:=h' }:=I.turned (t':=s.toks) (fun b o hb e=>(sb.2 b hb).trans e) f0 f1 f3 f4 f5;obtain⟨o,e,c,d⟩:=id An;exact⟨u,rfl,Tr (s:={ s with heap:=h' }) e c d (by decide) ⟨x,H,I1,ru,⟨rfl,fun ys hy=>by rw[I.tuple_inj hy hq];exact hx⟩,An,fun b hb=>(hf b hb).1⟩⟩
 done:=by
  intro X hP hw hK hc i nJ s σ H E I hf st hg;subst hP hw hK;obtain⟨xs,hq,hx⟩:=hg;obtain⟨nK,rv,p,hz⟩:=I.tuple hq;obtain⟨f0,f1,f2,f3,f4,f5⟩:=hf it (by simp);have hl:=rv.length;exact wpAny_pyNext_tuple_end (I.ok.hd hc) st (show s.heap.IsTuple a nK.toArray from p) (by simp;omega) fun h' eb=>⟨rfl,I.turned (t':=s.toks) (fun b o hb e=>eb b o hb e) f0 f1 f3 f4 f5⟩
 self:=fun _ _ _ _ _ st h=>wpAny_pyIter_tupleiter st h
theorem XB{P:Program}{w:World}{K:FG7}{tg:Expr}(it:Addr)(lo:Int)(n:Nat):Turn P w K tg (Itr lo n) [it] it (fun i h=>IsRangeIter h it (lo+(i:Nat)*1) ((n:Int)-(i:Nat)) 1) where
 mem:=by simp
 obj:=fun i h st b hb=>by
  have e:b=it:=by simpa using hb
  subst e;exact⟨_,st,fun v z=>by
   have z':Data.fields _=Data.cell v:=z;cases z'⟩
 keep:=fun i h h' st k=>k it (by simp) _ st
 item:=by
  intro X hP hw hK hc i nJ s σ H E I hf st hg;subst hP hw hK;obtain⟨f0,f1,f2,f3,f4,f5⟩:=hf it (by simp);have W:=Walks.range (prog:=X.prog) (w:=X.w) (I.ok.hd hc) it lo 1 n;refine W.item i s _ _ hg st fun v h' tk hv An kk=>?_;obtain⟨t,rfl⟩:=hv;have I1:Inv X nJ σ H { s with heap:=h',toks:=tk }:=I.turned (fun b o hb e=>kk b o (by simpa using hb) e) f0 f1 f3 f4 f5;refine⟨_,rfl,Tr (s:={ s with heap:=h',toks:=tk }) (n:="range_iterator") An rfl rfl (by decide) ⟨.int (lo+i),H,I1,⟨t,?_⟩,⟨rfl,rfl⟩,An,fun b hb=>(hf b hb).1⟩⟩;rw[Int.mul_one]
 done:=by
  intro X hP hw hK hc i nJ s σ H E I hf st hg;subst hP hw hK;obtain⟨f0,f1,f2,f3,f4,f5⟩:=hf it (by simp);exact wpAny_pyNext_range_end (I.ok.hd hc) st (by have:n<=i:=hg;omega) fun h' eb=>⟨rfl,I.turned (t':=s.toks) (fun b o hb e=>eb b o hb e) f0 f1 f3 f4 f5⟩
 self:=fun _ _ _ _ _ st h=>wpAny_pyIter_rangeiter st h
end L2
namespace L2
open PySem PySem.Spec PyProof.Rows
section
variable{X:Cx}{tg:Expr}
def zaU(K:FG7)(tl:TE):TI:=fun σ H R=>tl σ H fun x H1=>∃a,x=.ref a/\(∃xs,SqL K H1 a xs)/\R (Itl K a) H1
def zbV(K:FG7)(tl:TE):TI:=fun σ H R=>tl σ H fun x H1=>∃a,x=.ref a/\(∃xs,SqT K H1 a xs)/\R (Itt K a) H1
theorem vp{l:Expr}{tl:TE}(hl:PE X l tl):PI X tg l (zaU X.K tl):=by
 intro nJ s σ H R I h;refine thn (hl nJ s σ H _ I h) fun v s1 ⟨x,H1,I1,r1,q1⟩=>?_;obtain⟨a,e,⟨xs,hq⟩,q⟩:=q1;subst e;cases r1;obtain⟨nK,rv,p,hz⟩:=I1.list hq;refine gM p.isList ?_;refine⟨s1.heap.objs.size,[s1.heap.objs.size],_,_,H1,rfl,I1.kept (t':=s1.toks) fun b o e=>aD _ e,WT a _,⟨_,aM _ rfl,rfl,rfl⟩,fun b hb=>?_,q⟩;have e:b=s1.heap.objs.size:=by simpa using hb
 subst e;exact I1.fpOk (aG _) (I1.hok.fresh (aG _))
theorem vP{l:Expr}{tl:TE}(hl:PE X l tl):PI X tg l (zbV X.K tl):=by
 intro nJ s σ H R I h;refine thn (hl nJ s σ H _ I h) fun v s1 ⟨x,H1,I1,r1,q1⟩=>?_;obtain⟨a,e,⟨xs,hq⟩,q⟩:=q1;subst e;cases r1;obtain⟨nK,rv,p,hz⟩:=I1.tuple hq;refine lO (show s1.heap.IsTuple a nK.toArray from p) ?_;refine⟨s1.heap.objs.size,[s1.heap.objs.size],_,_,H1,rfl,I1.kept (t':=s1.toks) fun b o e=>aD _ e,XA a _,⟨_,aM _ rfl,rfl,rfl⟩,fun b hb=>?_,q⟩;have e:b=s1.heap.objs.size:=by simpa using hb
 subst e;exact I1.fpOk (aG _) (I1.hok.fresh (aG _))
theorem Ts{nJ:List (Addr×Obj)}{σ:St}{H:Hp}{s:Shared}{R:It->Hp->Prop}{E:VS7}{lo hi:Int}{t u v:Tok}{tk:Nat}(I:Inv X nJ σ H s)(h1:-(2 ^ 62)<=lo)(h2:lo<2 ^ 62)(h3:-(2 ^ 62)<=hi)(h4:hi<2 ^ 62)
  (q:R (Itr lo (hi-lo).toNat) H):wpAny (model X.prog X.w) X.A (pyIter (.ref s.heap.objs.size)) (PIE X nJ σ tg R) E { s with heap:=s.heap.push { cls:=.type "range",data:=.fields #[.int lo t,.int hi u,.int 1 v] },toks:=tk }:=by
 refine wpAny_pyIter_range (IsRange.new ..) (small_one h1 h2 h3 h4) ?_;have I1:Inv X nJ σ H { s with heap:=s.heap.push { cls:=.type "range",data:=.fields #[.int lo t,.int hi u,.int 1 v] },toks:=tk }:=I.kept fun b o e=>aD _ e;refine⟨(s.heap.push { cls:=.type "range",data:=.fields #[.int lo t,.int hi u,.int 1 v] }).objs.size,[(s.heap.push { cls:=.type "range",data:=.fields #[.int lo t,.int hi u,.int 1 v] }).objs.size],_,_,H,rfl,
  I1.kept (t':=tk) fun b o e=>aD _ e,XB _ lo (hi-lo).toNat,?_,fun b hb=>?_,q⟩
 ·have e1:lo+((0:Nat):Int)*1=lo:=by simp
  have e2:(((hi-lo).toNat:Nat):Int)-((0:Nat):Int)=kw lo hi 1:=by rw[rangeSize_one];split <;> omega
  show IsRangeIter _ _ (lo+((0:Nat):Int)*1) ((((hi-lo).toNat:Nat):Int)-((0:Nat):Int)) 1;rw[e1,e2];exact aM _ rfl
 ·have e:b=(s.heap.push { cls:=.type "range",data:=.fields #[.int lo t,.int hi u,.int 1 v] }).objs.size:=by simpa using hb
  subst e;exact I1.fpOk (aG _) (I1.hok.fresh (aG _))
def zaV(ta:TA):TI:=fun σ H R=>ta σ H fun vs H1=>∃j:Int,vs=[.int j]/\-(2 ^ 62)<=j/\j<2 ^ 62/\R (Itr 0 j.toNat) H1
theorem wC{a:Expr}{ta:TA}{p pos:Pos}(hg:Gl X "range")(hm:X.mg "range" = none)(ha:PA X [a] ta)(hs:bY [a] X.env=[(false,eval a X.env)]:=by rfl):PI X tg (.Call (.Name "range" p) [a] [] pos) (zaV ta):=by
 intro nJ s σ H R I h;refine Call_ (wo I hg hm boot_range (cM (thn (ha pos nJ s σ H _ I h) fun us s1 ⟨vs,H1,I1,r1,q1⟩=>?_) hs rfl));obtain⟨j,e,q1,q2,q⟩:=q1;subst e;cases r1 with
 |cons r rr =>
  cases rr;obtain⟨t,rfl⟩:=r;exact call_range_1 (Ts I1 (by omega) (by omega) q1 q2 (by simpa using q))
noncomputable def zbW(wi:TI)(g:TG)(tb:TS):TS:=fun D σ H=>wi σ H fun J H1=>∃W:Nat->Nat->St->Hp->Prop,(∃m,W 0 m σ H1)/\∀i m σ H,W i m σ H→
 (J.stop i H/\D.nx σ H)\/(J.go i H/\∃N:St->Hp->Prop,(∀σ' H',N σ' H'->∃m',m'<m/\W (i+1) m' σ' H')/\∀x H',J.yld i H x H'->g x σ H' fun σ2 H2=>tb { D with nx:=N,ct:=N,bk:=D.nx } σ2 H2)
noncomputable def rO(fp:List Addr)(h:Heap):List (Addr×Obj):=fp.filterMap fun b=>(h.get? b).map fun o=>(b,o)
theorem xq{fp:List Addr}{h:Heap}{b:Addr}{o:Obj}(hb:b∈fp)(e:h.get? b=some o):(b,o)∈rO fp h:=List.mem_filterMap.mpr ⟨b,hb,by rw[e];rfl⟩
theorem WU{fp:List Addr}{h:Heap}{p:Addr×Obj}(hp:p∈rO fp h):p.1∈fp/\h.get? p.1=some p.2:=by
 obtain⟨b,hb,e⟩:=List.mem_filterMap.mp hp;cases q:h.get? b with
 |none=>rw[q] at e;cases e
 |some o =>
  rw[q] at e;have e':(b,o)=p:=bQ e;subst e';exact⟨hb,q⟩
theorem Inv.pinned{nJ:List (Addr×Obj)}{σ:St}{H:Hp}{s:Shared}{fp:List Addr}(I:Inv X nJ σ H s)(hf:∀b∈fp,tj X nJ H b)(ho:∀b∈fp,∃o,s.heap.get? b=some o/\∀v,o.data≠.cell v):Inv X (nJ++rO fp s.heap) σ H s :=
 I.pins_of fun p hp=>(bH.mp hp).elim (fun z=>I.pin p (bG _ z)) fun z=>by
  obtain⟨hb,e⟩:=WU z;obtain⟨f0,f1,f2,_⟩:=hf p.1 hb;obtain⟨o,e',d⟩:=ho p.1 hb;rw[e] at e';cases e';exact⟨e,f0,f1,f2,d⟩
theorem Inv.unpinned{nJ pl:List (Addr×Obj)}{σ:St}{H:Hp}{s:Shared}(I:Inv X (nJ++pl) σ H s):Inv X nJ σ H s:=I.pins_of fun p hp=>I.pin p (bG _ (cW _ hp))
theorem xS{iter:Expr}{body:List Stmt}{wi:TI}{g:TG}{tb:TS}{pos:Pos}(hp:PassesOwn (model X.prog X.w) X.A X.env X.xe)(hc:X.calm=true)(hi:PI X tg iter wi)(hg:PG X tg g)(hb:PSs X body tb)
  (hs:∀x,foldedSetIterable iter X.env x=pure x:=by intro _;rfl):PS X (.For tg iter body [] pos) (zbW wi g tb):=by
 intro nJ s σ H D I h;refine wpAny_For (thn (hi nJ s σ H _ I h) fun v s1 h1=>thn h1 fun DO s2 h2=>?_) hs;obtain⟨it,fp,tn,J,H2,e,I2,T,BR,f2,W,⟨m0,w0⟩,pS⟩:=h2;subst e
 -- what stays true of the iterator's objects through the Bt
 have DP:∀{H':Hp},(∀b∈fp,H' b=none)->∀b∈fp,tj X nJ H' b:=fun hn b hb=>⟨hn b hb,(f2 b hb).2⟩
 refine codeAny_forLoop_any (fun n s'=>∃i σ' H',Inv X nJ σ' H' s'/\tn i s'.heap/\(∀b∈fp,H' b=none)/\W i n σ' H') ?_ m0 ⟨0,σ,H2,I2,BR,fun b hb=>(f2 b hb).1,w0⟩;rintro n s3 ⟨i,σ3,H3,I3,st3,fr3,w3⟩;rcases pS i n σ3 H3 w3 with ⟨stop,qn⟩|⟨go,N,hN,step⟩
 ·refine gI hp (thn (T.done X rfl rfl rfl hc i nJ s3 σ3 H3 X.xe I3 (DP fr3) st3 stop) fun r s4 ⟨hr,I4⟩=>?_);subst hr;exact iD ⟨σ3,H3,I4,qn⟩
 ·refine gI hp (thn (T.item X rfl rfl rfl hc i nJ s3 σ3 H3 X.xe I3 (DP fr3) st3 go) fun r s4 ⟨u,hr,h4⟩=>?_);subst hr;refine gI hp (thn h4 fun _ s5 ⟨x,H5,I5,r5,y5,st5,fr5⟩=>?_);have I5':=I5.pinned (DP fr5) (T.obj _ _ st5);refine gI hp (thn (hg _ s5 σ3 H5 x u _ I5' r5 (step x H5 y5)) fun _ s6 ⟨σ6,H6,I6,q6⟩=>?_);refine gI hp (thn (hb _ s6 σ6 H6 _ I6 q6) fun f s7 q7=>?_);have again:∀{σ7:St} {H7:Hp},Inv X (nJ++rO fp s5.heap) σ7 H7 s7->N σ7 H7->∃m,m<n/\∃i σ' H',Inv X nJ σ' H' s7/\tn i s7.heap/\(∀b∈fp,H' b=none)/\W i m σ' H':=fun{σ7 H7} I7 n7=>by
   obtain⟨m',hm,w7⟩:=hN σ7 H7 n7;refine⟨m',hm,i+1,σ7,H7,I7.unpinned,T.keep _ _ _ st5 fun b hb o e=>(I7.pin (b,o) (bG _ (bG _ (xq hb e)))).1,fun b hb=>?_,w7⟩;obtain⟨o,e,d⟩:=T.obj _ _ st5 b hb;exact(I7.pin (b,o) (bG _ (bG _ (xq hb e)))).2.1
  cases f with
  |next=>obtain⟨σ7,H7,I7,n7⟩:=q7;exact again I7 n7
  |cont=>obtain⟨σ7,H7,I7,n7⟩:=q7;exact again I7 n7
  |brk=>obtain⟨σ7,H7,I7,q7⟩:=q7;exact⟨σ7,H7,I7.unpinned,q7⟩
  |ret v=>obtain⟨x7,σ7,H7,I7,r7,q7⟩:=q7;exact⟨x7,σ7,H7,I7.unpinned,r7,q7⟩
end
theorem YS{K:FG7}{a:Addr}{xs:List V}{g:TG}{tb:TS}{D:Ends}{σ:St}{H:Hp}(Pv:Nat->St->Hp->Prop)(h0:Pv 0 σ H)(hl:∀i σ H,i<=xs.length->Pv i σ H->SqL K H a xs)
  (hs:∀i x σ H,xs[i]?=some x->Pv i σ H->g x σ H fun σ2 H2=>tb { D with nx:=Pv (i+1),ct:=Pv (i+1),bk:=D.nx } σ2 H2) (hd:∀σ H,Pv xs.length σ H->D.nx σ H) :
  ∃W:Nat->Nat->St->Hp->Prop,(∃m,W 0 m σ H)/\∀i m σ H,W i m σ H→
   ((Itl K a).stop i H/\D.nx σ H)\/((Itl K a).go i H/\∃N:St->Hp->Prop,(∀σ' H',N σ' H'->∃m',m'<m/\W (i+1) m' σ' H')/\∀x H',(Itl K a).yld i H x H'->g x σ H' fun σ2 H2=>tb { D with nx:=N,ct:=N,bk:=D.nx } σ2 H2):=by
 refine⟨fun i m σ H=>m=xs.length-i/\i<=xs.length/\Pv i σ H,⟨xs.length,by simp,cw _,h0⟩,?_⟩;rintro i m σ H ⟨rfl,hi,p⟩;have q:=hl i σ H hi p;by_cases n5:i<xs.length
 ·refine .inr ⟨⟨xs,xs[i],q,by simp[n5]⟩,Pv (i+1),fun σ' H' p'=>⟨xs.length-(i+1),by omega,rfl,n5,p'⟩,fun x H' y=>?_⟩;obtain⟨e,y⟩:=y;subst e;exact hs i x σ _ (y xs q) p
 ·have e:i=xs.length:=by omega
  subst e;exact .inl ⟨⟨xs,q,aG _⟩,hd σ H p⟩
theorem ZU{K:FG7}{a:Addr}{xs:List V}{g:TG}{tb:TS}{D:Ends}{σ:St}{H:Hp}(Pv:Nat->St->Hp->Prop)(h0:Pv 0 σ H)(hl:∀i σ H,i<=xs.length->Pv i σ H->SqT K H a xs)
  (hs:∀i x σ H,xs[i]?=some x->Pv i σ H->g x σ H fun σ2 H2=>tb { D with nx:=Pv (i+1),ct:=Pv (i+1),bk:=D.nx } σ2 H2) (hd:∀σ H,Pv xs.length σ H->D.nx σ H) :
  ∃W:Nat->Nat->St->Hp->Prop,(∃m,W 0 m σ H)/\∀i m σ H,W i m σ H→
   ((Itt K a).stop i H/\D.nx σ H)\/((Itt K a).go i H/\∃N:St->Hp->Prop,(∀σ' H',N σ' H'->∃m',m'<m/\W (i+1) m' σ' H')/\∀x H',(Itt K a).yld i H x H'->g x σ H' fun σ2 H2=>tb { D with nx:=N,ct:=N,bk:=D.nx } σ2 H2):=by
 refine⟨fun i m σ H=>m=xs.length-i/\i<=xs.length/\Pv i σ H,⟨xs.length,by simp,cw _,h0⟩,?_⟩;rintro i m σ H ⟨rfl,hi,p⟩;have q:=hl i σ H hi p;by_cases n5:i<xs.length
 ·refine .inr ⟨⟨xs,xs[i],q,by simp[n5]⟩,Pv (i+1),fun σ' H' p'=>⟨xs.length-(i+1),by omega,rfl,n5,p'⟩,fun x H' y=>?_⟩;obtain⟨e,y⟩:=y;subst e;exact hs i x σ _ (y xs q) p
 ·have e:i=xs.length:=by omega
  subst e;exact .inl ⟨⟨xs,q,aG _⟩,hd σ H p⟩
theorem jG{lo:Int}{n:Nat}{g:TG}{tb:TS}{D:Ends}{σ:St}{H:Hp}(Pv:Nat->St->Hp->Prop)(h0:Pv 0 σ H)
  (hs:∀i σ H,i<n->Pv i σ H->g (.int (lo+i)) σ H fun σ2 H2=>tb { D with nx:=Pv (i+1),ct:=Pv (i+1),bk:=D.nx } σ2 H2) (hd:∀σ H,Pv n σ H->D.nx σ H) :
  ∃W:Nat->Nat->St->Hp->Prop,(∃m,W 0 m σ H)/\∀i m σ H,W i m σ H→
   ((Itr lo n).stop i H/\D.nx σ H)\/((Itr lo n).go i H/\∃N:St->Hp->Prop,(∀σ' H',N σ' H'->∃m',m'<m/\W (i+1) m' σ' H')/\∀x H',(Itr lo n).yld i H x H'->g x σ H' fun σ2 H2=>tb { D with nx:=N,ct:=N,bk:=D.nx } σ2 H2):=by
 refine⟨fun i m σ H=>m=n-i/\i<=n/\Pv i σ H,⟨n,by simp,cw _,h0⟩,?_⟩;rintro i m σ H ⟨rfl,hi,p⟩;by_cases n5:i<n
 ·refine .inr ⟨n5,Pv (i+1),fun σ' H' p'=>⟨n-(i+1),by omega,rfl,n5,p'⟩,fun x H' y=>?_⟩;obtain⟨e,y⟩:=y;subst e y;exact hs i σ _ n5 p
 ·have e:i=n:=by omega
  subst e;exact .inl ⟨aG _,hd σ H p⟩
theorem Tt{c:TT}{tb:TS}{D:Ends}{σ:St}{H:Hp}(Pv:St->Hp->Prop)(μ:St->Hp->Nat)(h0:Pv σ H)
  (hs:∀σ H,Pv σ H->c σ H fun b H1=>if b=true then tb { D with nx:=fun σ' H'=>Pv σ' H'/\μ σ' H'<μ σ H,ct:=fun σ' H'=>Pv σ' H'/\μ σ' H'<μ σ H,bk:=D.nx } σ H1 else D.nx σ H1)
  (mono:∀σ H Q Q',(∀b H1,Q b H1->Q' b H1)->c σ H Q->c σ H Q'):Rl c tb D σ H:=by
 refine⟨fun m σ H=>m=μ σ H/\Pv σ H,⟨_,rfl,h0⟩,?_⟩;rintro m σ H ⟨rfl,p⟩;refine mono σ H _ _ (fun b H1 q=>?_) (hs σ H p);cases b with
 |true=>exact⟨_,fun σ' H' ⟨p',l⟩=>⟨_,l,rfl,p'⟩,q⟩
 |false=>exact q
end L2
namespace L2
open PySem PySem.Spec PyProof.Rows
abbrev R2:=V->V->Hp->VK->Prop
def OpR(X:Cx)(f:Value->Value->Sem Value)(r:R2):Prop :=
 ∀(nJ:List (Addr×Obj)) (s:Shared) (σ:St) (H:Hp) (x y:V) (v u:Value) (Q:VK),Inv X nJ σ H s->zQ x v->zQ y u->r x y H Q→
  wpAny (model X.prog X.w) X.A (f v u) (EP X nJ σ Q) X.xe s
def UnR(X:Cx)(f:Value->Sem Value)(r:V->Hp->VK->Prop):Prop :=
 ∀(nJ:List (Addr×Obj)) (s:Shared) (σ:St) (H:Hp) (x:V) (v:Value) (Q:VK),Inv X nJ σ H s->zQ x v->r x H Q→
  wpAny (model X.prog X.w) X.A (f v) (EP X nJ σ Q) X.xe s
def xG(X:Cx)(f:Value)(r:List V->Hp->VK->Prop):Prop :=
 ∀(nJ:List (Addr×Obj)) (s:Shared) (σ:St) (H:Hp) (xs:List V) (us:List Value) (Q:VK),Inv X nJ σ H s->zP xs us->r xs H Q→
  wpAny (model X.prog X.w) X.A (call f us) (EP X nJ σ Q) X.xe s
def zbX(X:Cx)(r:V->Hp->(Bool->Hp->Prop)->Prop):Prop :=
 ∀(nJ:List (Addr×Obj)) (s:Shared) (σ:St) (H:Hp) (x:V) (v:Value) (Q:Bool->Hp->Prop),Inv X nJ σ H s->zQ x v->r x H Q→
  wpAny (model X.prog X.w) X.A (truthy v) (TP X nJ σ Q) X.xe s
def tOp(r:R2)(ta tb:TE):TE:=fun σ H Q=>ta σ H fun x H1=>tb σ H1 fun y H2=>r x y H2 Q
def tUn(r:V->Hp->VK->Prop)(ta:TE):TE:=fun σ H Q=>ta σ H fun x H1=>r x H1 Q
def rI(C:Int->Int->Prop)(g:Int->Int->V):R2:=fun x y H Q=>∃i j,x=.int i/\y=.int j/\C i j/\Q (g i j) H
def rI0(g:Int->Int->V):R2:=fun x y H Q=>∃i j,x=.int i/\y=.int j/\Q (g i j) H
def rU(g:Int->V):V->Hp->VK->Prop:=fun x H Q=>∃i,x=.int i/\Q (g i) H
section
variable{X:Cx}{a b c:Expr}{ta tb tc:TE}{pos:Pos}
theorem zaW(ha:PE X a ta)(hb:PE X b tb){nJ:List (Addr×Obj)}{s:Shared}{σ:St}{H:Hp}{R:V->V->Hp->Prop}(I:Inv X nJ σ H s)
  (h:ta σ H fun x H1=>tb σ H1 fun y H2=>R x y H2) {Q:VS7} {f:Value->Value->Sem Value}
  (hf:∀v u s2 x y H2,Inv X nJ σ H2 s2->zQ x v->zQ y u->R x y H2->wpAny (model X.prog X.w) X.A (f v u) Q X.xe s2) :
  wpAny (model X.prog X.w) X.A (eval a X.env) (fun v s₁=>wpAny (model X.prog X.w) X.A (eval b X.env) (fun u s₂=>wpAny (model X.prog X.w) X.A (f v u) Q X.xe s₂) X.xe s₁) X.xe s:=by
 refine thn (ha nJ s σ H _ I h) fun v s1 ⟨x,H1,I1,r1,q1⟩=>?_;refine thn (hb nJ s1 σ H1 _ I1 q1) fun u s2 ⟨y,H2,I2,r2,q2⟩=>?_;exact hf v u s2 x y H2 I2 r1 r2 q2
theorem zR{op:Operator}{r:R2}(ho:OpR X (fZ op) r)(ha:PE X a ta)(hb:PE X b tb):PE X (.BinOp a op b pos) (tOp r ta tb):=by
 intro nJ s σ H Q I h;exact wpAny_BinOp (zaW ha hb I h fun v u s2 x y H2 I2 rx ry q=>ho nJ s2 σ H2 x y v u Q I2 rx ry q)
theorem Tv{op:UnaryOp}{r:V->Hp->VK->Prop}(ho:UnR X (unaryOp op) r)(ha:PE X a ta):PE X (.UnaryOp op a pos) (tUn r ta):=by
 intro nJ s σ H Q I h;exact UnaryOp_ (thn (ha nJ s σ H _ I h) fun v s1 ⟨x,H1,I1,r1,q1⟩=>ho nJ s1 σ H1 x v Q I1 r1 q1)
theorem opI{f:Value->Value->Sem Value}{C:Int->Int->Prop}{g:Int->Int->Int}
  (rule:∀(i j:Int) (t u:Tok) (s:Shared) (Q:VS7) (E:VS7),C i j->Q (.int (g i j) s.toks) { s with toks:=s.toks+1 }->wpAny (model X.prog X.w) X.A (f (.int i t) (.int j u)) Q E s) :
  OpR X f (rI C fun i j=>.int (g i j)):=by
 intro nJ s σ H x y v u Q I rx ry h;obtain⟨i,j,rfl,rfl,hc,q⟩:=h;obtain⟨t,rfl⟩:=rx;obtain⟨t',rfl⟩:=ry;exact rule i j t t' s _ _ hc ⟨.int (g i j),H,I.tok _,⟨_,rfl⟩,q⟩
theorem zaB{f:Value->Value->Sem Value}{g:Int->Int->Int}
  (rule:∀(i j:Int) (t u:Tok) (s:Shared) (Q:VS7) (E:VS7),Q (.int (g i j) s.toks) { s with toks:=s.toks+1 }->wpAny (model X.prog X.w) X.A (f (.int i t) (.int j u)) Q E s) :
  OpR X f (rI0 fun i j=>.int (g i j)):=by
 intro nJ s σ H x y v u Q I rx ry h;obtain⟨i,j,rfl,rfl,q⟩:=h;obtain⟨t,rfl⟩:=rx;obtain⟨t',rfl⟩:=ry;exact rule i j t t' s _ _ ⟨.int (g i j),H,I.tok _,⟨_,rfl⟩,q⟩
theorem zaX{f:Value->Value->Sem Value}{g:Int->Int->Bool}
  (rule:∀(i j:Int) (t u:Tok) (s:Shared) (Q:VS7) (E:VS7),Q (.bool (g i j)) s->wpAny (model X.prog X.w) X.A (f (.int i t) (.int j u)) Q E s) :
  OpR X f (rI0 fun i j=>.bl (g i j)):=by
 intro nJ s σ H x y v u Q I rx ry h;obtain⟨i,j,rfl,rfl,q⟩:=h;obtain⟨t,rfl⟩:=rx;obtain⟨t',rfl⟩:=ry;exact rule i j t t' s _ _ ⟨.bl (g i j),H,I,rfl,q⟩
def zbG(i j:Int):Prop:=0<=j/\j<=1000000/\i.natAbs<2 ^ 64
theorem XC(k:Nat):(0:Int)<=2 ^ k:=by
 rw[two_pow_cast];exact gq _
theorem tT:OpR X (fZ .Add) (rI0 fun i j=>.int (i+j)):=zaB fun _ _ _ _ _ _ _ q=>add_int q
theorem Rm:OpR X (fZ .Sub) (rI0 fun i j=>.int (i-j)):=zaB fun _ _ _ _ _ _ _ q=>sub_int q
theorem uX:OpR X (fZ .Mod) (rI (fun _ j=>0<j) fun i j=>.int (i % j)):=opI fun i j _ _ _ _ _ hc q=>by
 have h1:(0:Int)<j:=hc;exact mod_int' (by omega) (by rw[Int.fmod_eq_emod_of_nonneg i (by omega)];exact q)
theorem Rn:OpR X (fZ .Pow) (rI zbG fun i j=>.int (i ^ j.toNat)):=opI fun _ _ _ _ _ _ _ hc q=>pow_int_small hc.1 hc.2.1 hc.2.2 q
theorem Ro:OpR X (fZ .LShift) (rI zbG fun i j=>.int (i*2 ^ j.toNat)):=opI fun _ _ _ _ _ _ _ hc q=>lshift_int_small hc.1 hc.2.1 hc.2.2 q
theorem Jp:OpR X (fZ .RShift) (rI (fun _ j=>0<=j) fun i j=>.int (i / 2 ^ j.toNat)):=opI fun i j _ _ _ _ _ hc q =>
 rshift_int hc (by rw[Int.fdiv_eq_ediv_of_nonneg i (XC _)];exact q)
theorem Rp:OpR X (fZ .BitAnd) (rI0 fun i j=>.int (iK i j)):=zaB fun _ _ _ _ _ _ _ q=>and_int q
theorem zaY:OpR X (fZ .BitOr) (rI0 fun i j=>.int (iZ i j)):=zaB fun _ _ _ _ _ _ _ q=>or_int q
theorem unI{f:Value->Sem Value}{g:Int->Int}
  (rule:∀(i:Int) (t:Tok) (s:Shared) (Q:VS7) (E:VS7),Q (.int (g i) s.toks) { s with toks:=s.toks+1 }->wpAny (model X.prog X.w) X.A (f (.int i t)) Q E s) :
  UnR X f (rU fun i=>.int (g i)):=by
 intro nJ s σ H x v Q I rx h;obtain⟨i,rfl,q⟩:=h;obtain⟨t,rfl⟩:=rx;exact rule i t s _ _ ⟨.int (g i),H,I.tok _,⟨_,rfl⟩,q⟩
theorem YT:UnR X (unaryOp .USub) (rU fun i=>.int (-i)):=unI fun _ _ _ _ _ q=>neg_int q
end
noncomputable def zbH:V->V->Bool
 |.non,.non=>true|.non,.int _=>true|.int _,.non=>true|.non,.bl _=>true|.bl _,.non=>true|.non,.str _=>true|.str _,.non=>true
 |.int _,.int _=>true|.bl _,.bl _=>true|.str _,.str _=>true|.byt _,.byt _=>true
 |.int _,.str _=>true|.str _,.int _=>true|.bl _,.str _=>true|.str _,.bl _=>true
 |_,_=>false
noncomputable def rEq:R2:=fun x y H Q=>zbH x y=true/\Q (.bl (decide (x=y))) H
noncomputable def rNe:R2:=fun x y H Q=>zbH x y=true/\Q (.bl (!decide (x=y))) H
theorem WV{i j:Int}:decide (V.int i=V.int j)=(i == j):=by
 rw[dh];simp
theorem Rq{i j:Bool}:decide (V.bl i=V.bl j)=(i == j):=by
 rw[dh];simp
theorem WW{i j:Str}:decide (V.str i=V.str j)=(i == j):=by
 rw[dh];simp
theorem WX{i j:Array UInt8}:decide (V.byt i=V.byt j)=(i.toList == j.toList):=by
 rw[dh];cases i;cases j;simp
section
variable{X:Cx}{a b c:Expr}{ta tb tc:TE}{pos:Pos}
theorem zV{nJ:List (Addr×Obj)}{σ:St}{H:Hp}{s:Shared}{Q:VK}{k k':Bool}(I:Inv X nJ σ H s)(q:Q (.bl k) H)(e:k=k'):EP X nJ σ Q (.bool k') s:=by
 subst e;exact⟨.bl k,H,I,rfl,q⟩
theorem wx:OpR X (fc .Eq) rEq:=by
 intro nJ s σ H x y v u Q I rx ry h;obtain⟨hs,q⟩:=h;cases x with
 |non =>
  cases rx;cases y with
  |non=>cases ry;exact PySem.EqNone.eq_none_none (zV I q (by simp))
  |bl j=>cases ry;exact PySem.EqNone.eq_none_bool (zV I q (by simp))
  |int j=>obtain⟨t',rfl⟩:=ry;exact PySem.EqNone.eq_none_int (zV I q (by simp))
  |str j=>obtain⟨t',rfl⟩:=ry;exact PySem.EqNone.eq_none_str (zV I q (by simp))
  |_=>exact absurd (show false=true from hs) aZ
 |bl i =>
  cases rx;cases y with
  |non=>cases ry;exact PySem.EqNone.eq_bool_none (zV I q (by simp))
  |bl j=>cases ry;exact eq_bool (zV I q Rq)
  |str j=>obtain⟨t',rfl⟩:=ry;exact PySem.EqMixed.eq_bool_str (zV I q (by simp))
  |_=>exact absurd (show false=true from hs) aZ
 |int i =>
  obtain⟨t,rfl⟩:=rx;cases y with
  |non=>cases ry;exact PySem.EqNone.eq_int_none (zV I q (by simp))
  |int j=>obtain⟨t',rfl⟩:=ry;exact eq_int (zV I q WV)
  |str j=>obtain⟨t',rfl⟩:=ry;exact PySem.EqMixed.eq_int_str (zV I q (by simp))
  |_=>exact absurd (show false=true from hs) aZ
 |str i =>
  obtain⟨t,rfl⟩:=rx;cases y with
  |non=>cases ry;exact PySem.EqNone.eq_str_none (zV I q (by simp))
  |bl j=>cases ry;exact PySem.EqMixed.eq_str_bool (zV I q (by simp))
  |int j=>obtain⟨t',rfl⟩:=ry;exact PySem.EqMixed.eq_str_int (zV I q (by simp))
  |str j=>obtain⟨t',rfl⟩:=ry;exact eq_str (zV I q WW)
  |_=>exact absurd (show false=true from hs) aZ
 |byt i =>
  obtain⟨t,rfl⟩:=rx;cases y with
  |byt j=>obtain⟨t',rfl⟩:=ry;exact PySem.W.eq_bytes (zV I q WX)
  |_=>exact absurd (show false=true from hs) aZ
 |_=>cases y <;> exact absurd (show false=true from hs) aZ
theorem XD:OpR X (fc .NotEq) rNe:=by
 intro nJ s σ H x y v u Q I rx ry h;obtain⟨hs,q⟩:=h;cases x with
 |non =>
  cases rx;cases y with
  |non=>cases ry;exact PySem.EqNone.ne_none_none (zV I q (by simp))
  |bl j=>cases ry;exact PySem.EqNone.ne_none_bool (zV I q (by simp))
  |int j=>obtain⟨t',rfl⟩:=ry;exact PySem.EqNone.ne_none_int (zV I q (by simp))
  |str j=>obtain⟨t',rfl⟩:=ry;exact PySem.EqNone.ne_none_str (zV I q (by simp))
  |_=>exact absurd (show false=true from hs) aZ
 |bl i =>
  cases rx;cases y with
  |non=>cases ry;exact PySem.EqNone.ne_bool_none (zV I q (by simp))
  |bl j=>cases ry;exact ne_bool (zV I q (congrArg not Rq))
  |str j=>obtain⟨t',rfl⟩:=ry;exact PySem.EqMixed.ne_bool_str (zV I q (by simp))
  |_=>exact absurd (show false=true from hs) aZ
 |int i =>
  obtain⟨t,rfl⟩:=rx;cases y with
  |non=>cases ry;exact PySem.EqNone.ne_int_none (zV I q (by simp))
  |int j=>obtain⟨t',rfl⟩:=ry;exact ne_int (zV I q (congrArg not WV))
  |str j=>obtain⟨t',rfl⟩:=ry;exact PySem.EqMixed.ne_int_str (zV I q (by simp))
  |_=>exact absurd (show false=true from hs) aZ
 |str i =>
  obtain⟨t,rfl⟩:=rx;cases y with
  |non=>cases ry;exact PySem.EqNone.ne_str_none (zV I q (by simp))
  |bl j=>cases ry;exact PySem.EqMixed.ne_str_bool (zV I q (by simp))
  |int j=>obtain⟨t',rfl⟩:=ry;exact PySem.EqMixed.ne_str_int (zV I q (by simp))
  |str j=>obtain⟨t',rfl⟩:=ry;exact ne_str (zV I q (congrArg not WW))
  |_=>exact absurd (show false=true from hs) aZ
 |byt i =>
  obtain⟨t,rfl⟩:=rx;cases y with
  |byt j=>obtain⟨t',rfl⟩:=ry;exact PySem.W.ne_bytes (zV I q (congrArg not WX))
  |_=>exact absurd (show false=true from hs) aZ
 |_=>cases y <;> exact absurd (show false=true from hs) aZ
theorem XE:OpR X (fc .Lt) (rI0 fun i j=>.bl (decide (i<j))):=zaX fun _ _ _ _ _ _ _ q=>lt_int q
theorem ZV:OpR X (fc .LtE) (rI0 fun i j=>.bl (decide (i<=j))):=zaX fun _ _ _ _ _ _ _ q=>le_int q
theorem qJ:OpR X (fc .Gt) (rI0 fun i j=>.bl (decide (j<i))):=zaX fun _ _ _ _ _ _ _ q=>gt_int q
theorem zy(b:Expr){op:CmpOp}(h:op≠.In:=by decide)(h2:op≠.NotIn:=by decide):gW op b=false:=by
 have e1:(op == CmpOp.In)=false:=by cases op <;> first|rfl|exact absurd rfl h
 have e2:(op == CmpOp.NotIn)=false:=by cases op <;> first|rfl|exact absurd rfl h2
 cases b <;> simp[gW,e1,e2]
theorem yN{op:CmpOp}{r:R2}(ho:OpR X (fc op) r)(ha:PE X a ta)(hb:PE X b tb)(hm:gW op b=false):PE X (.Compare a [op] [b] pos) (tOp r ta tb):=by
 intro nJ s σ H Q I h;exact wpAny_Compare1 (zaW ha hb I h fun v u s2 x y H2 I2 rx ry q=>ho nJ s2 σ H2 x y v u Q I2 rx ry q) hm
def Tw(t:TE):TT:=fun σ H Q=>t σ H fun x H'=>∃k,x=.bl k/\Q k H'
theorem zw{op:CmpOp}{r:R2}(ho:OpR X (fc op) r)(ha:PE X a ta)(hb:PE X b tb)(hm:gW op b=false):PT X (.Compare a [op] [b] pos) (Tw (tOp r ta tb)):=by
 intro nJ s σ H Q I h;refine wpAny_isTrue_Compare1 (thn (ha nJ s σ H _ I h) fun v s1 ⟨x,H1,I1,r1,q1⟩=>thn (hb nJ s1 σ H1 _ I1 q1) fun u s2 ⟨y,H2,I2,r2,q2⟩ =>
  thn (ho nJ s2 σ H2 x y v u _ I2 r1 r2 q2) fun c s3 ⟨z,H3,I3,r3,k,e,q3⟩=>?_) hm
 subst e;cases r3;exact dq ⟨H3,I3,q3⟩
def Rr(r r':R2)(ta tb tc:TE):TE:=fun σ H Q=>ta σ H fun x H1=>tb σ H1 fun y H2=>r x y H2 fun z H3=>∃k,z=.bl k∧
 (if k=true then tc σ H3 fun w' H4=>r' y w' H4 Q else Q (.bl false) H3)
theorem YU{op DQ:CmpOp}{r r':R2}(ho:OpR X (fc op) r)(pM:OpR X (fc DQ) r')(ha:PE X a ta)(hb:PE X b tb)(hc:PE X c tc)
  (hm:lastMarks [op,DQ] [b,c]=false:=by with_unfolding_all rfl):PE X (.Compare a [op,DQ] [b,c] pos) (Rr r r' ta tb tc):=by
 intro nJ s σ H Q I h;refine Compare_chain (thn (ha nJ s σ H _ I h) fun v s1 ⟨x,H1,I1,r1,q1⟩=>chain_link (thn (hb nJ s1 σ H1 _ I1 q1) fun u s2 ⟨y,H2,I2,r2,q2⟩ =>
  thn (ho nJ s2 σ H2 x y v u _ I2 r1 r2 q2) fun d s3 ⟨z,H3,I3,r3,k,e,q3⟩=>?_)) hm
 subst e;cases r3;refine dq ?_;cases k with
 |false=>exact ite_ff ⟨.bl false,H3,I3,rfl,q3⟩
 |true=>exact ite_tt (chain_last (thn (hc nJ s3 σ H3 _ I3 q3) fun w' s4 ⟨z',H4,I4,r4,q4⟩=>pM nJ s4 σ H4 y z' u w' Q I4 r2 r4 q4))
theorem Tx{op DQ:CmpOp}{r r':R2}(ho:OpR X (fc op) r)(pM:OpR X (fc DQ) r')(ha:PE X a ta)(hb:PE X b tb)(hc:PE X c tc)
  (hm:lastMarks [op,DQ] [b,c]=false:=by with_unfolding_all rfl):PT X (.Compare a [op,DQ] [b,c] pos) (Tw (Rr r r' ta tb tc)):=by
 intro nJ s σ H Q I h;refine isTrue_chain (thn (ha nJ s σ H _ I h) fun v s1 ⟨x,H1,I1,r1,q1⟩=>test_link (thn (hb nJ s1 σ H1 _ I1 q1) fun u s2 ⟨y,H2,I2,r2,q2⟩ =>
  thn (ho nJ s2 σ H2 x y v u _ I2 r1 r2 q2) fun d s3 ⟨z,H3,I3,r3,k,e,q3⟩=>?_)) hm
 subst e;cases r3;refine dq ?_;cases k with
 |false =>
  obtain⟨k',e',q'⟩:=q3;cases e';exact ite_ff ⟨H3,I3,q'⟩
 |true =>
  refine ite_tt (test_last (thn (hc nJ s3 σ H3 _ I3 q3) fun w' s4 ⟨z',H4,I4,r4,q4⟩=>thn (pM nJ s4 σ H4 y z' u w' _ I4 r2 r4 q4) fun d' s5 ⟨z2,H5,I5,r5,k2,e2,q5⟩=>?_));subst e2;cases r5;exact dq ⟨H5,I5,q5⟩
noncomputable def zbI(K:FG7)(x:V)(H:Hp)(k:Bool):Prop :=
 match x with
 |.non=>k=false
 |.bl b=>k=b
 |.int i=>k=(i != 0)
 |.str y=>y.length<=sizeLine/\k=((y.length:Int) != 0)
 |.byt y=>y.size<=sizeLine/\k=((y.size:Int) != 0)
 |.ref p=>(∃xs,SqL K H p xs/\k=!xs.isEmpty)\/(∃xs,SqT K H p xs/\k=!xs.isEmpty)\/∃kvs,H p=some (.dK kvs)/\k=!kvs.isEmpty
 |_=>False
theorem XF{κ:Type}{kvs:List (κ×V)}{vs:List (κ×Value)}(r:KV kvs vs):(!vs.isEmpty)=!kvs.isEmpty:=by
 cases r <;> rfl
theorem rP{xs:List V}{nK:List Value}(r:zP xs nK):(!nK.toArray.isEmpty)=!xs.isEmpty:=by
 cases r <;> simp
theorem jH:(sizeLine:Nat)<2 ^ 63:=by rw[gN];decide
theorem Jq:zbX X (fun x H Q=>∃k,zbI X.K x H k/\Q k H):=by
 intro nJ s σ H x v Q I rx h;obtain⟨k,e,q⟩:=h;have hl:=jH;have hs:sizeLine=16777216:=gN;cases x with
 |non =>
  cases rx;have e':k=false:=e;subst e';exact truthy_none ⟨H,I,q⟩
 |bl b =>
  cases rx;have e':k=b:=e;subst e';exact dq ⟨H,I,q⟩
 |int i =>
  obtain⟨t,rfl⟩:=rx;have e':k=(i != 0):=e;subst e';exact PySem.P.truthy_int ⟨H,I,q⟩
 |str y =>
  obtain⟨t,rfl⟩:=rx;obtain⟨hy,e'⟩:y.length<=sizeLine/\k=((y.length:Int) != 0):=e;subst e';exact PySem.P.truthy_str (by omega) ⟨H,I.tok _,q⟩
 |byt y =>
  obtain⟨t,rfl⟩:=rx;obtain⟨hy,e'⟩:y.size<=sizeLine/\k=((y.size:Int) != 0):=e;subst e';exact PySem.W.truthy_bytes (by omega) ⟨H,I.tok _,q⟩
 |ref p =>
  cases rx;have e':(∃xs,SqL X.K H p xs/\k=!xs.isEmpty)\/(∃xs,SqT X.K H p xs/\k=!xs.isEmpty)\/∃kvs,H p=some (.dK kvs)/\k=!kvs.isEmpty:=e;rcases e' with ⟨xs,hx,e'⟩|⟨xs,hx,e'⟩|⟨kvs,hx,e'⟩
  ·subst e';obtain⟨nK,r,pl,hz⟩:=I.list hx;have nR:=r.length;exact wpAny_truthy_list pl.isList (by simp only[aO];omega) ⟨H,I.tok _,by rw[rP r];exact q⟩
  ·subst e';obtain⟨nK,r,pl,hz⟩:=I.tuple hx;have nR:=r.length;exact truthy_tuple pl (by simp only[aO];omega) ⟨H,I.tok _,by rw[rP r];exact q⟩
  ·subst e';obtain⟨hz,hS,vs,r,m⟩:kvs.length<=sizeLine/\(p == sysModules)=false/\∃vs,KV kvs vs/\s.heap.DictOf (yp X.prog X.w) p vs:=I.hok p _ hx;have nR:kvs.length=vs.length:=Paired.length r;exact wpAny_truthy_dict hS m (by omega) ⟨H,I.tok _,by rw[XF r];exact q⟩
 |_=>exact(show False from e).elim
theorem Ty(ha:PE X a ta)(he:∀Ar,isTrue a X.env Ar=(do let v←Ar;standAt a.pos;holding [v] (truthy v))) :
  PT X a (fun σ H Q=>ta σ H fun x H'=>∃k,zbI X.K x H' k/\Q k H'):=by
 intro nJ s σ H Q I h;exact isTrue_plain (thn (ha nJ s σ H _ I h) fun v s1 ⟨x,H1,I1,r1,q1⟩=>Jq nJ s1 σ H1 x v Q I1 r1 q1) (he _)
theorem vq{x:V}{us:List Value}(r:zP [x] us):∃u,us=[u]/\zQ x u:=by
 cases r with
 |cons r1 r2=>cases r2;exact⟨_,rfl,r1⟩
theorem XG{x y:V}{us:List Value}(r:zP [x,y] us):∃u w',us=[u,w']/\zQ x u/\zQ y w':=by
 cases r with
 |cons r1 r2 =>
  cases r2 with
  |cons r3 r4=>cases r4;exact⟨_,_,rfl,r1,r3⟩
theorem tU(hc:X.calm=true):xG X (.builtin "max") (fun xs H Q=>∃i j,xs=[.int i,.int j]/\Q (.int (if j>i then j else i)) H):=by
 intro nJ s σ H xs us Q I r h;obtain⟨i,j,rfl,q⟩:=h;obtain⟨u,w',rfl,⟨t,rfl⟩,⟨t',rfl⟩⟩:=XG r;refine max_two_ints (I.ok.hd hc) fun h' tk k=>⟨_,H,I.kept k,?_,q⟩
 by_cases hj:j>i
 ·rw[if_pos hj,if_pos hj];exact⟨_,rfl⟩
 ·rw[if_neg hj,if_neg hj];exact⟨_,rfl⟩
theorem WY(hc:X.calm=true):xG X (.builtin "min") (fun xs H Q=>∃i j,xs=[.int i,.int j]/\Q (.int (if j<i then j else i)) H):=by
 intro nJ s σ H xs us Q I r h;obtain⟨i,j,rfl,q⟩:=h;obtain⟨u,w',rfl,⟨t,rfl⟩,⟨t',rfl⟩⟩:=XG r;refine min_two_ints (I.ok.hd hc) fun h' tk k=>⟨_,H,I.kept k,?_,q⟩
 by_cases hj:j<i
 ·rw[if_pos hj,if_pos hj];exact⟨_,rfl⟩
 ·rw[if_neg hj,if_neg hj];exact⟨_,rfl⟩
end
end L2
namespace L2
open PySem PySem.Spec PyProof.Rows
structure ObjM(h:Heap)(x dx C:Addr)(mA:Str->Option Value):Prop where
 obj:h.get? x=some (mP C dx)
 ns:h.Ns1 dx mA
 ne:dx≠x
theorem WZ{h:Heap}{dx:Addr}{mA:Str->Option Value}(n:h.Ns1 dx mA):∃od,h.get? dx=some od/\∀name,mZ name od=some (mA name):=by
 obtain⟨o,es,ep,ho,hd,hk,_,hm⟩:=n;refine⟨o,ho,fun name=>?_⟩;have e:=hm name;unfold nsFind findBy at e;rw[←Array.find?_toList] at e;unfold mZ;rw[hd];dsimp only
 split
 ·rename_i y q;rw[q] at e;exact congrArg some e
 ·rename_i q;rw[q] at e;have a:es.toList.any (·.refKey)=false:=by
   rw[fT];intro y hy;obtain⟨z,t,G'⟩:=hk y (fe.mp hy);simp[DictEntry.refKey,G']
  have a':¬es.toList.any (·.refKey)=true:=by rw[a];exact aZ
  rw[if_neg a'];exact congrArg some e
theorem ObjM.look{h:Heap}{x dx C:Addr}{mA:Str->Option Value}(I:ObjM h x dx C mA):∃od,PySem.W.InstAt h x (mP C dx) C (some od)/\∀name,mZ name od=some (mA name) :=
 let ⟨od,ho,hl⟩:=WZ I.ns
 ⟨od,⟨I.obj,rfl,rfl,ho⟩,hl⟩
section
variable{P:Program}{w:World}{H H':Hp}{h h':Heap}{a C dx:Addr}{fs fs':List (Str×V)}
theorem R7(hok:HOk P w H h)(e:H a=some (.ins C dx fs)):∃mA,ObjM h a dx C mA/\(∀f,Tm (fs.lookup f) (mA f))/\PySem.Within mA (fs.map (·.1))/\fs.length<=1000/\H dx=some (.own a):=by
 obtain⟨d,z,ne,ob,mA,n,r,q⟩:=(show zT P w H h a (.ins C dx fs) from hok a _ e)
 exact⟨mA,⟨ob,n,ne⟩,r,q,z,d⟩
end
structure Cls(K:FG7)(C:Addr):Prop where
 pg:PySem.W.plainGet K C Str.empty=true
 hd:PySem.W.hasDictIn K C=true
 po:PySem.W.plainOver K C=true
 sa:PySem.W.findIn K (.ref C) "__setattr__" = some (some (.builtin "object.__setattr__"))
theorem Cls.get{K:FG7}{C:Addr}(c:Cls K C)(f:Str):PySem.W.plainGet K C f=true:=c.pg
section
variable{X:Cx}{nJ:List (Addr×Obj)}{σ:St}{H:Hp}{s:Shared}{A:Around}{E:VS7}{Q:VS7}{c:Value}{b:Bool}
inductive TyOf(K:FG7)(H:Hp):V->Value->Prop where
 |non:TyOf K H .non (.type "NoneType")
 |bl (x:Bool):TyOf K H (.bl x) (.type "bool")
 |int (i:Int):TyOf K H (.int i) (.type "int")
 |str (x:Str):TyOf K H (.str x) (.type "str")
 |flt (x:UInt64):TyOf K H (.flt x) (.type "float")
 |lst {a:Addr} {xs:List V} (e:H a=some (.lst xs)):TyOf K H (.ref a) (.type "list")
 |frz {a:Addr} {o:Obj} {xs:List V} (e:H a=some (.frz o (.lst xs))):TyOf K H (.ref a) (.type "list")
 |tup {a:Addr} {xs:List V} (e:H a=some (.tup xs)):TyOf K H (.ref a) (.type "tuple")
 |dK {a:Addr} {kvs:List (Key×V)} (e:H a=some (.dK kvs)):TyOf K H (.ref a) (.type "dict")
 |dT {a:Addr} {kvs:List (List Key×V)} (e:H a=some (.dT kvs)):TyOf K H (.ref a) (.type "dict")
 |ins {a C dx:Addr} {fs:List (Str×V)} (e:H a=some (.ins C dx fs)) (cl:Cls K C) (ha:PySem.W.findIn K (.ref C) "__class__" = some (some (.builtin "object.__class__")))
   (hn:PySem.W.specialIn K (.builtin "object.__class__") "__get__" = some (some (.builtin "getset_descriptor.__get__"))) (Ey:PySem.W.takesIn K (.builtin "object.__class__")=some true)
   (hm:eV K C (.type "object")=some true):TyOf K H (.ref a) (.ref C)
theorem wD{x:V}{u t:Value}(I:Inv X nJ σ H s)(rx:zQ x u)(ty:TyOf X.K H x t)(e:dE X.K t c=some b)(h:∀tk,Q (.bool b) { s with toks:=tk }) :
  wpAny (model X.prog X.w) A (call (.builtin "isinstance") [u,c]) Q E s:=by
 cases ty with
 |non=>cases(show u=aU from rx);exact dk PySem.W.kitx_none I.kIn True.intro e (fun z=>nomatch z) h
 |bl y=>cases(show u=gV y from rx);exact dk PySem.W.kitx_bool I.kIn True.intro e (fun z=>nomatch z) h
 |int i=>obtain⟨t,q⟩:=(show ∃t,u=fD i t from rx);cases q;exact dk PySem.W.kitx_int I.kIn True.intro e (fun z=>nomatch z) h
 |str y=>obtain⟨t,q⟩:=(show ∃t,u=nH y t from rx);cases q;exact dk PySem.W.kitx_str I.kIn True.intro e (fun z=>nomatch z) h
 |flt y=>obtain⟨t,q⟩:=(show ∃t,u=Value.float y t from rx);cases q;exact dk PySem.W.kitx_float I.kIn True.intro e (fun z=>nomatch z) h
 |@lst a xs ea =>
  cases(show u=aN a from rx);obtain⟨_,_,n,_,h1⟩:=(show zT X.prog X.w H s.heap a (.lst xs) from I.hok a _ ea)
  exact dk mi I.kIn ⟨_,h1,rfl⟩ e (fun z=>nomatch z) h
 |@frz a ob xs ea =>
  cases(show u=aN a from rx);obtain⟨_,_,_,n,_,h1⟩:=(show zT X.prog X.w H s.heap a (.frz ob (.lst xs)) from I.hok a _ ea)
  exact dk mi I.kIn ⟨_,h1,rfl⟩ e (fun z=>nomatch z) h
 |@tup a xs ea =>
  cases(show u=aN a from rx);obtain⟨_,_,_,p⟩:=(show zT X.prog X.w H s.heap a (.tup xs) from I.hok a _ ea)
  obtain⟨o,h1,h2,_⟩:=p;exact dk PySem.W.kitx_tuple I.kIn ⟨o,h1,h2⟩ e (fun z=>nomatch z) h
 |@dK a kvs ea =>
  cases(show u=aN a from rx);obtain⟨_,_,vs,_,p⟩:=(show zT X.prog X.w H s.heap a (.dK kvs) from I.hok a _ ea)
  obtain⟨o,es,ep,h1,h2,_⟩:=p;exact dk mj I.kIn ⟨o,h1,h2.1⟩ e (fun z=>nomatch z) h
 |@dT a kvs ea =>
  cases(show u=aN a from rx);obtain⟨_,_,xs,_,o,es,ep,h1,h2,_⟩:=(show zT X.prog X.w H s.heap a (.dT kvs) from I.hok a _ ea)
  exact dk mj I.kIn ⟨o,h1,h2.1⟩ e (fun z=>nomatch z) h
 |@ins a C dx fs ea cl ha hn Ey hm =>
  cases(show u=aN a from rx);obtain⟨mA,O,_⟩:=R7 I.hok ea;obtain⟨od,J,_⟩:=O.look;exact dk (PySem.W.kitx_own (cl.get _) cl.hd ha hn Ey hm) I.kIn J e (fun z=>nomatch z) h
end
end L2
namespace L2
open PySem PySem.Spec PyProof.Rows
structure Room(k:Nat)(A:Around):Prop where
 hd:A.handled=none
 dp:A.depth+3*k+5<recursionLimit
 un:A.units+16*k+200<ig
 gd:A.guards=some []
theorem Room.mono{j k:Nat}{A:Around}(r:Room k A)(h:j<=k):Room j A:=⟨r.hd,by have:=r.dp;omega,by have:=r.un;omega,r.gd⟩
theorem Room.deeper{k:Nat}{A:Around}(r:Room (k+1) A)(env:Env):Room k (A.deeper env) :=
 ⟨r.hd,by have:=r.dp;show A.depth+1+3*k+5<_;omega,by have:=r.un;show A.units+3+16*k+200<_;omega,r.gd⟩
theorem Room.depth{k:Nat}{A:Around}(r:Room k A):A.depth<recursionLimit:=by have:=r.dp;omega
theorem Room.units0{k:Nat}{A:Around}(r:Room k A):A.units<ig:=by have:=r.un;omega
def R8:TA:=fun _ H Q=>Q [] H
def XH(ta:TE)(tr:TA):TA:=fun σ H Q=>ta σ H fun x H1=>tr σ H1 fun xs H2=>Q (x::xs) H2
section
variable{X:Cx}{e:Expr}{es:List Expr}{te:TE}{t:TA}{pos:Pos}
theorem zb:PA X [] R8:=fun _ _ _ _ H Q I h=>gO ⟨[],H,I,.nil,h⟩
theorem za(ha:PE X e te)(hr:PA X es t)(hs:bY (e::es) X.env=(false,eval e X.env)::bY es X.env:=by rfl):PA X (e::es) (XH te t):=by
 intro pos nJ s σ H Q I h;rw[hs];show wpAny _ _ (spliced ((false,eval e X.env)::lg pos (bY es X.env))) _ _ s;refine fE (thn (ha nJ s σ H _ I h) fun u s1 ⟨x,H1,I1,r1,q1⟩=>?_);exact thn (hr pos nJ s1 σ H1 _ I1 q1) fun us s2 ⟨xs,H2,I2,r2,q2⟩=>⟨x::xs,H2,I2,.cons r1 r2,q2⟩
def zbJ(t:TA):TE:=fun σ H Q=>t σ H fun xs H1=>xs.length<=sizeLine/\∀p,H1 p=none->Q (.ref p) (upd H1 p (.tup xs))
def zaZ(t:TA):TE:=fun σ H Q=>t σ H fun xs H1=>xs.length<=sizeLine/\∀p,H1 p=none->Q (.ref p) (upd H1 p (.lst xs))
theorem yz{x1}(h:PA X es t):PE X (.Tuple es x1 pos) (zbJ t):=by
 intro nJ s σ H Q I hq;refine wpAny_Tuple_spliced (thn (h pos nJ s σ H _ I hq) fun us s1 ⟨xs,H1,I1,r,z,q⟩=>⟨by rw[←r.length];exact z,?_⟩);have hf:H1 s1.heap.objs.size=none:=I1.hok.fresh (aG _);refine⟨.ref s1.heap.objs.size,upd H1 s1.heap.objs.size (.tup xs),I1.laid (t':=s1.toks) (fun b u e=>aD _ e) (aG _) ?_,rfl,q _ hf⟩;exact⟨z,us,r,⟨_,aM _ rfl,rfl,_,rfl⟩⟩
theorem yO(h:PA X es t):PE X (.List es pos) (zaZ t):=by
 intro nJ s σ H Q I hq;refine wpAny_List_spliced (thn (h pos nJ s σ H _ I hq) fun us s1 ⟨xs,H1,I1,r,z,q⟩=>⟨by rw[←r.length];exact z,?_⟩);have hf:H1 s1.heap.objs.size=none:=I1.hok.fresh (aG _);refine⟨.ref s1.heap.objs.size,upd H1 s1.heap.objs.size (.lst xs),I1.laid (t':=s1.toks) (fun b u e=>aD _ e) (aG _) ?_,rfl,q _ hf⟩;exact⟨z,us,0,r,aM _ rfl⟩
end
abbrev Sp:=List V->Hp->VK->XK->Prop
abbrev CXT:=List Env->Hp->Shared->XK->Value->Shared->Prop
structure Env0(P:Program)(w:World)(K:FG7)(mg:Str->Option Value)(base:Heap)(A:Around)(outer:List Env)(s:Shared)(H:Hp):Prop where
 frames:A.frames=some outer
 mod:Mod K mg base
 bs:∀b o,base.get? b=some o->s.heap.get? b=some o/\H b=none
 bsz:base.objs.size<=s.heap.objs.size
 funs:s.heap.FunFrames base outer
 frf:∀b∈frs outer,H b=none
 hok:HOk P w H s.heap
 bare:lK s.gens
def CE(outer:List Env)(P:Program)(w:World)(H:Hp)(s:Shared)(Q:VK)(u:Value)(s':Shared):Prop :=
 ∃v H',s'.os=s.os/\lK s'.gens/\Un (frs outer) [] H H' s.heap s'.heap/\HOk P w H' s'.heap/\zQ v u/\Q v H'
def CR(CX:CXT)(outer:List Env)(P:Program)(w:World)(H:Hp)(s:Shared)(Q:VK)(E:XK)(r:Result)(s':Shared):Prop :=
 match r with
 |.ok (.ret u)=>CE outer P w H s Q u s'
 |.ok _=>False
 |.error e=>CX outer H s E e s'
structure FnOk(P:Program)(w:World)(K:FG7)(mg:Str->Option Value)(base:Heap)(CX:CXT)(k:Nat)(f:Addr)(fd:FuncData)(ps:List Str)(sp:Sp):Prop where
 len:∀vs H Q E,sp vs H Q E->vs.length=ps.length
 run:∀(A:Around) (outer:List Env) (s:Shared) (H:Hp) (args:Args) (us:List Value) (vs:List V) (Q:VK) (E:XK),Room k A->Env0 P w K mg base A outer s H->nj s fd args (ps.zip us)->zP vs us->sp vs H Q E→
  iw (model P w) A (.call (.ref f) args) (CR CX outer P w H s Q E) s
theorem FnOk.mono{P:Program}{w:World}{K:FG7}{mg:Str->Option Value}{base:Heap}{CX:CXT}{j k:Nat}{f:Addr}{fd:FuncData}{ps:List Str}{sp:Sp}(F:FnOk P w K mg base CX j f fd ps sp)(h:j<=k) :
  FnOk P w K mg base CX k f fd ps sp:=⟨F.len,fun A outer s H args us vs Q E hr=>F.run A outer s H args us vs Q E (hr.mono h)⟩
section
variable{X:Cx}{nJ:List (Addr×Obj)}{σ:St}{H:Hp}{s s':Shared}
theorem Inv.env0(I:Inv X nJ σ H s):Env0 X.prog X.w X.K X.mg X.base X.A X.stack s H :=
 ⟨I.ok.frames,I.ok.mod,I.bs,cH I.ok.bsz I.sz,I.stack,I.stkFree,I.hok,I.bare⟩
theorem Inv.after{Q:VK}{u:Value}(I:Inv X nJ σ H s)(h:CE X.stack X.prog X.w H s Q u s'):EP X nJ σ Q u s':=by
 obtain⟨v,H',os,bare,un,hok,r,q⟩:=h;obtain⟨hh,g,d,t,Hd⟩:=s';obtain rfl:Hd=s.os:=os;exact⟨v,H',I.call (h':=hh) (g':=g) (d':=d) (t':=t) (ch:=[]) un hok bare (fun b z=>absurd z (by simp)),r,q⟩
end
def ZW(sp:Sp)(Bu:List V)(E:XK)(t:TA):TE:=fun σ H Q=>t σ H fun vs H1=>sp (vs++Bu) H1 Q E
def tV(K:FG7)(fd:FuncData)(ps:List Str)(ds:List Value):Prop :=
 ∀(s:Shared) (us:List Value),K.In s.heap->(us++ds).length=ps.length->nj s fd ⟨us,[]⟩ (ps.zip (us++ds))
theorem tV.all{K:FG7}{fd:FuncData}{ps:List Str}(h:∀us:List Value,us.length=ps.length->bindArgs fd ⟨us,[]⟩=pure (ps.zip us)):tV K fd ps []:=fun s us _ hl=>by
 rw[cS] at hl ⊢;exact .of_eq (h us hl)
def rQ(CX:CXT)(X:Cx)(E:XK):Prop:=∀(nJ:List (Addr×Obj)) (σ:St) (H:Hp) (s:Shared) (e:Value) (s':Shared),Inv X nJ σ H s->CX X.stack H s E e s'->X.xe e s'
section
variable{X:Cx}{CX:CXT}{k:Nat}{f C:Addr}{fd:FuncData}{ps:List Str}{sp:Sp}{Bu:List V}{ds:List Value}{E:XK}{x m:Str}{p pos oW:Pos}{e o:Expr}{es:List Expr}{ta:TE}{t:TA}
theorem Rs{nJ:List (Addr×Obj)}{σ:St}{H:Hp}{s:Shared}{Q:VK}{us:List Value}{vs:List V}(F:FnOk X.prog X.w X.K X.mg X.base CX k f fd ps sp)(hr:Room k X.A)(hb:tV X.K fd ps ds)(hd:zP Bu ds)(hx:rQ CX X E)
  (I:Inv X nJ σ H s) (r:zP vs us) (h:sp (vs++Bu) H Q E):wpAny (model X.prog X.w) X.A (call (.ref f) us) (EP X nJ σ Q) X.xe s:=by
 have r2:zP (vs++Bu) (us++ds):=r.append hd;have hl:(us++ds).length=ps.length:=by rw[←r2.length];exact F.len _ _ _ _ h
 refine nA (ix (F.run X.A X.stack s H ⟨us,[]⟩ (us++ds) (vs++Bu) Q E hr I.env0 (hb s us I.kIn hl) r2 h) fun r s' hq=>?_);cases r with
 |error e=>exact hx nJ σ H s e s' I hq
 |ok fl =>
  cases fl with
  |ret u=>exact I.after hq
  |next=>exact False.elim hq
  |brk=>exact False.elim hq
  |cont=>exact False.elim hq
theorem W0(F:FnOk X.prog X.w X.K X.mg X.base CX k f fd ps sp)(hr:Room k X.A)(hg:Gl X x)(hm:X.mg x=some (.ref f))(hk:ii X.K (.ref f)=true)(hb:tV X.K fd ps ds)(hd:zP Bu ds)(hx:rQ CX X E)
  (ha:PA X (e::es) t) (As:(x == ("__debug__":Str))=false:=by decide) (he:bY (e::es) X.env=(false,eval e X.env)::bY es X.env:=by rfl) (Bp:(lg pos (bY es X.env)).any (·.1)=false:=by rfl) :
  PE X (.Call (.Name x p) (e::es) [] pos) (ZW sp Bu E t):=by
 intro nJ s σ H Q I h;refine dS (vo I hg hm ?_ As);refine lP (h₀:=X.base) I.ok.mod.kin hk (thn (ha pos nJ s σ H _ I h) fun us s1 ⟨vs,H1,I1,r,q⟩=>⟨I1.kIn,?_⟩) he Bp;exact Rs F hr hb hd hx I1 r q
theorem Tz(F:FnOk X.prog X.w X.K X.mg X.base CX k f fd ps sp)(hr:Room k X.A)(hg:Gl X x)(hm:X.mg x=some (.ref f))(hk:ii X.K (.ref f)=true)(hb:tV X.K fd ps ds)(hd:zP Bu ds)(hx:rQ CX X E)
  (As:(x == ("__debug__":Str))=false:=by decide):PE X (.Call (.Name x p) [] [] pos) (ZW sp Bu E R8):=by
 intro nJ s σ H Q I h;refine dS (vo I hg hm ?_ As);exact PySem.W.callWith_K0 I.kIn hk (Rs (us:=[]) F hr hb hd hx I .nil h)
end
structure FnScope(N P:List Str)(sc:Scope):Prop where
 kind:sc.kind=.function
 co:sc.isCoroutine=false
 gen:sc.isGenerator=false
 nd:N.Nodup
 pre:N.take P.length=P
 par:∀x∈P,sc.names.lookup x=some .local\/sc.names.lookup x=some .cell
 nofree:∀y∈sc.names,y.2≠.free
theorem jI{kindOf:Str->Option NameKind}{x:Str}:∀{binds:List (Str×Value)} {m:Str->Option Value},(∀v,(x,v)∉binds)->bindL kindOf binds m x=m x
 |[],_,_=>rfl
 | (n,v)::r,m,h=>by
  unfold bindL;rw[jI fun w hw=>h w (aX _ hw)];split
  ·have:x≠n:=by rintro rfl;exact h v bM
   simp[this]
  ·rfl
theorem jJ{kindOf:Str->Option NameKind}{x:Str}:∀{binds:List (Str×Value)} {m:Str->Option Value},(∀v,(x,v)∉binds)->bindC kindOf binds m x=m x
 |[],_,_=>rfl
 | (n,v)::r,m,h=>by
  unfold bindC;rw[jJ fun w hw=>h w (aX _ hw)];split
  ·rfl
  ·have:x≠n:=by rintro rfl;exact h v bM
   simp[this]
theorem jK{kindOf:Str->Option NameKind}{x:Str}{v:Value}:∀{P:List Str} {vs:List Value} {i:Nat} {m:Str->Option Value},P.Nodup->P[i]?=some x->vs[i]?=some v->kindOf x=some .local→
  bindL kindOf (P.zip vs) m x=some v
 |[],_,_,_,_,h,_,_=>by simp at h
 |_::_,[],_,_,_,_,h,_=>by simp at h
 |p::P,w::vs,0,m,nd,h1,h2,hk=>by
  simp at h1 h2;subst h1;subst h2;show bindL kindOf ((p,w)::P.zip vs) m p=_;unfold bindL;rw[jI fun v hv=>(gJ.mp nd).1 (lE hv).1,if_pos hk];simp
 |p::P,w::vs,i+1,m,nd,h1,h2,hk=>by
  show bindL kindOf ((p,w)::P.zip vs) m x=_;unfold bindL;exact jK (i:=i) (gJ.mp nd).2 (by simpa using h1) (by simpa using h2) hk
theorem jL{kindOf:Str->Option NameKind}{x:Str}{v:Value}:∀{P:List Str} {vs:List Value} {i:Nat} {m:Str->Option Value},P.Nodup->P[i]?=some x->vs[i]?=some v->kindOf x≠some .local→
  bindC kindOf (P.zip vs) m x=some v
 |[],_,_,_,_,h,_,_=>by simp at h
 |_::_,[],_,_,_,_,h,_=>by simp at h
 |p::P,w::vs,0,m,nd,h1,h2,hk=>by
  simp at h1 h2;subst h1;subst h2;show bindC kindOf ((p,w)::P.zip vs) m p=_;unfold bindC;rw[jJ fun v hv=>(gJ.mp nd).1 (lE hv).1,if_neg hk];simp
 |p::P,w::vs,i+1,m,nd,h1,h2,hk=>by
  show bindC kindOf ((p,w)::P.zip vs) m x=_;unfold bindC;exact jL (i:=i) (gJ.mp nd).2 (by simpa using h1) (by simpa using h2) hk
noncomputable def tm(N:List Str)(vs:List V):St:=vs.map some++cD (N.length-vs.length) none
noncomputable def ZX(CX:CXT)(P:Program)(w:World)(K:FG7)(mg:Str->Option Value)(base:Heap)(N:List Str)(qual:Str)(scope:Scope)(f:Addr)(cd:Value)(A:Around)(outer:List Env)(s:Shared)(H:Hp)(E:XK):Cx where
 prog:=P
 w:=w
 K:=K
 mg:=mg
 base:=base
 A:=A.deeper (envOfC qual scope s.heap.objs.size f cd)
 N:=N
 s₀:=s
 H₀:=H
 env:=envOfC qual scope s.heap.objs.size f cd
 outer:=outer
 stack:=envOfC qual scope s.heap.objs.size f cd::outer
 ex:=[]
 calm:=true
 fn:=fun _=>true
 pn:=[]
 xe:=fun e s'=>wpAny (model P w) (A.deeper (envOfC qual scope s.heap.objs.size f cd)) (leaving (envOfC qual scope s.heap.objs.size f cd) e) (fun _ CW=>CX outer H s E e CW) (fun e' CW=>CX outer H s E e' CW) s'
theorem YV{sc:Scope}{n:Nat}{x:Str}(h:sc.names.lookup x=some .cell):∃c,(cellsFrom n sc.names []).lookup x=some c:=by
 have q:=kD sc.names n [] (.inl h);exact gX.mp q
theorem jM{CX:CXT}{P:Program}{w:World}{K:FG7}{mg:Str->Option Value}{base:Heap}{N ps:List Str}{qual:Str}{scope:Scope}{f:Addr}{cd:Value}{A:Around}{outer:List Env}{s s1:Shared}{H:Hp}{E:XK}{us:List Value}{vs:List V}
  (S:FnScope N ps scope) (hd:A.handled=none) (e0:Env0 P w K mg base A outer s H) (hl:vs.length=ps.length) (r:zP vs us)
  (x:InCallC s s.heap.objs.size (bindL (envOfC qual scope s.heap.objs.size f cd).kindOf (ps.zip us) fun _=>none) (cellsFrom (s.heap.objs.size+1) scope.names []) (bindC (envOfC qual scope s.heap.objs.size f cd).kindOf (ps.zip us) fun _=>none) s1) :
  Inv (ZX CX P w K mg base N qual scope f cd A outer s H E) [] (tm N vs) H s1:=by
 have Bp:ps.length<=N.length:=by have:=congrArg List.length S.pre;rw[bT] at this;omega
 obtain⟨h1,tk,rfl,hk⟩:=x.done;have ES:∀b:Addr,b∉(ZX CX P w K mg base N qual scope f cd A outer s H E).ex:=fun b z=>absurd (show b∈([]:List Addr) from z) (by simp);refine⟨⟨e0.mod,S.kind,rfl,rfl,aG _,fun y z c h1 h2=>?_,fun y hy=>?_,fun y c _ h=>?_,fun _=>hd,Around.frames_deeper e0.frames,.inr ⟨rfl,rfl⟩,fun b z=>absurd z (ES b),e0.bs,e0.bsz,fun b _ _=>ES b,fun b z=>absurd z (ES b),e0.funs,e0.frf⟩,
  rfl,e0.bare,Un.kept hk,⟨_,x.toInCall.ns,fun i y v h1 h2 h3=>?_⟩,fun y c h=>⟨_,x.cell y c h⟩,e0.hok.fresh (aG _),fun y c h=>?_,fun p hp=>absurd (show p∈([]:List (Addr×Obj)) from hp) (by simp),e0.hok.kept hk,?_⟩
 ·exact name_of_addr x.apart (dQ h1) (dQ h2)
 ·have hy:scope.names.lookup y=some .cell\/scope.names.lookup y=some .free:=hy;rcases hy with hy|hy
  ·exact YV hy
  ·exact absurd rfl (S.nofree _ (dQ hy))
 ·exact c7 (x.above y c (dQ h))
 ·have hi:i<vs.length:=by
   unfold tm at h2;by_cases hi:i<vs.length
   ·exact hi
   ·rw[dF (by simpa using hi)] at h2;rw[List.getElem?_replicate] at h2;split at h2 <;> cases h2
  have ha:vs[i]?=some v:=by
   unfold tm at h2;rw[dL (by simpa using hi),bE] at h2;cases e:vs[i]? with
   |none=>rw[e] at h2;cases h2
   |some a=>rw[e] at h2;cases h2;rfl
  obtain⟨u,hu,rv⟩:=r.get ha;have hp:ps[i]?=some y:=by
   rw[←S.pre,i0 (by omega)];exact h1
  have ndP:ps.Nodup:=by rw[←S.pre];exact S.nd.sublist (List.take_sublist _ _)
  refine⟨u,rv,?_⟩;rcases S.par y (bA hp) with k|k
  ·exact .inl ⟨k,jK ndP hp hu k⟩
  ·obtain⟨c,e⟩:=YV (n:=s.heap.objs.size+1) k;refine .inr ⟨.inl k,c,e,?_⟩;have q:=x.cell y c e;rw[jL ndP hp hu (by show scope.names.lookup y≠_;rw[k];decide)] at q;exact q
 ·exact e0.hok.fresh (c7 (x.above y c (dQ h)))
 ·unfold tm;show _=N.length;rw[bD,aE,List.length_replicate];omega
theorem Jr{CX:CXT}{P:Program}{w:World}{K:FG7}{mg:Str->Option Value}{base:Heap}{k:Nat}{f:Addr}{name qual:Str}{params:Arguments}{body:List Stmt}{scope:Scope}{dV kV AH pm og ct oc:Value}{an od:Option Addr}
  {B6:Array (Option Value)} {N ps:List Str} {sp:Sp} (lk:K.lookup f=some ⟨oc,od,.func (iQ name qual params body scope dV kV AH pm an og ct),B6⟩) (AK:m7 K og qual=true) (S:FnScope N ps scope)
  (len:∀vs H Q E,sp vs H Q E->vs.length=ps.length)
  (At:∀(A:Around) (outer:List Env) (s:Shared) (H:Hp) (vs:List V) (Q:VK) (E:XK),Room k (A.deeper (envOfC qual scope s.heap.objs.size f og))->sp vs H Q E→
   ∃t,PSs (ZX CX P w K mg base N qual scope f og A outer s H E) body t/\t { nx:=fun _ H'=>Q .non H',rt:=Q } (tm N vs) H) :
  FnOk P w K mg base CX (k+1) f (iQ name qual params body scope dV kV AH pm an og ct) ps sp:=by
 refine⟨len,fun A outer s H args us vs Q E hr e0 hb r BS=>?_⟩;have hl:=len _ _ _ _ BS;have KX:K.In s.heap:=e0.mod.kin.keeps fun b o e=>(e0.bs b o e).1;have He:s.heap.NoLimit:=e0.mod.nolimit.keeps fun b o e=>(e0.bs b o e).1;have Cg:∀y∈ps.zip us,scope.names.lookup y.1=some .local\/(scope.names.lookup y.1=some .cell/\((cellsFrom (s.heap.objs.size+1) scope.names []).lookup y.1).isSome=true):=fun⟨n,v⟩ hy=>by
  rcases S.par n (lE hy).1 with q|q
  ·exact .inl q
  ·exact .inr ⟨q,kD _ _ _ (.inl q)⟩
 refine codeAny_call_function hr.depth (KX _ _ lk) rfl S.co S.gen rfl (PySem.W.codeRec_of KX AK) (hb _ _ _ _ ?_);refine wpAny_newFunctionEnv_cells S.kind Cg fun env he s1 x=>?_;subst he;refine⟨He.keeps x.toInCall.keep,codeAny_func ?_⟩;obtain⟨t,ht,hq⟩:=At A outer s H vs Q E (hr.deeper _) BS;have I:Inv (ZX CX P w K mg base N qual scope f og A outer s H E) [] (tm N vs) H s1:=jM S hr.hd e0 hl r x;refine eM (ht [] s1 (tm N vs) H _ I hq) (fun fl s' hs=>?_) fun e s' hs=>hs;have oE:∀{σ':St} {H':Hp} {v:V} {u:Value},Inv (ZX CX P w K mg base N qual scope f og A outer s H E) [] σ' H' s'->zQ v u->Q v H'->CE outer P w H s Q u s' :=
  fun{σ' H' v u} J rv q=>⟨v,H',J.os,J.bare,J.base,J.hok,rv,q⟩
 cases fl with
 |ret u =>
  obtain⟨v,σ',H',J,rv,q⟩:=hs;exact oE J rv q
 |next =>
  obtain⟨σ',H',J,q⟩:=hs;exact oE (v:=V.non) (u:=aU) J rfl q
 |brk =>
  obtain⟨_,_,_,q⟩:=hs;exact False.elim q
 |cont =>
  obtain⟨_,_,_,q⟩:=hs;exact False.elim q
end L2
namespace L2
open PySem PySem.Spec PyProof.Rows
section
variable{X:Cx}{x:Str}{p pos:Pos}{e:Expr}{es:List Expr}{t:TA}{id T:String}{r:List V->Hp->VK->Prop}
def tCB(r:List V->Hp->VK->Prop)(t:TA):TE:=fun σ H Q=>t σ H fun vs H1=>r vs H1 Q
theorem zm(hc:xG X (.builtin id) r)(hg:Gl X x)(hm:X.mg x=none)(hv:cU x=some (.builtin id))(ha:PA X (e::es) t)(hn:x≠"__name__":=by decide)(As:(x == ("__debug__":Str))=false:=by decide)
  (he:bY (e::es) X.env=(false,eval e X.env)::bY es X.env:=by rfl) (Bp:(lg pos (bY es X.env)).any (·.1)=false:=by rfl):PE X (.Call (.Name x p) (e::es) [] pos) (tCB r t):=by
 intro nJ s σ H Q I h;refine dS (wo I hg hm hv ?_ hn As);exact PyProof.Rows.callWith_builtin1 (thn (ha pos nJ s σ H _ I h) fun us s1 ⟨vs,H1,I1,r1,q1⟩=>hc nJ s1 σ H1 vs us Q I1 r1 q1) he Bp
theorem yD(hc:xG X (.type T) r)(hg:Gl X x)(hm:X.mg x=none)(hv:cU x=some (.type T))(ha:PA X (e::es) t)(hn:x≠"__name__":=by decide)(As:(x == ("__debug__":Str))=false:=by decide)
  (he:bY (e::es) X.env=(false,eval e X.env)::bY es X.env:=by rfl) (Bp:(lg pos (bY es X.env)).any (·.1)=false:=by rfl):PE X (.Call (.Name x p) (e::es) [] pos) (tCB r t):=by
 intro nJ s σ H Q I h;refine dS (wo I hg hm hv ?_ hn As);exact cM (thn (ha pos nJ s σ H _ I h) fun us s1 ⟨vs,H1,I1,r1,q1⟩=>hc nJ s1 σ H1 vs us Q I1 r1 q1) he Bp
end
end L2
namespace HT
open PySem PyProof.Rows
section
variable{prog:Program}{w:World}{A:Around}{E:VS7}{s:Shared}
theorem cat_tup{t b:Addr}{vs ws:List Value}{Q:VS7}(ht:IsTup s.heap t vs.toArray)(hb:IsTup s.heap b ws.toArray)(hv:vs≠[])
  (h1:ws=[]->Q (.ref t) s) (h2:ws≠[]->Q (.ref s.heap.objs.size) { s with heap:=s.heap.push { cls:=.type "tuple",data:=.seq (vs++ws).toArray } })
  (hsz:vs.length+ws.length<=sizeLine):wpAny (model prog w) A (fZ .Add (.ref t) (.ref b)) Q E s:=by
 obtain⟨⟨cls,dd,data,sl⟩,ho,hc,n,hd⟩:=id ht;obtain⟨⟨cls2,dd2,data2,sl2⟩,ho2,B7,n2,Bv⟩:=id hb;simp only at hc hd B7 Bv;subst hc hd B7 Bv;have e:vs.toArray++ws.toArray=(vs++ws).toArray:=by simp
 by_cases hw:ws=[]
 ·exact concat_meets ⟨_,ho,rfl⟩ ⟨_,ho2,rfl⟩ mH seq_tuple_add kE kz (i7 _ _)
   (tuple_addW1 t b vs.toArray ws.toArray n n2 dd dd2 sl sl2 (by simpa using hv) (by simp[hw])) ⟨ho,ho2,h1 hw⟩
 ·refine concat_meets ⟨_,ho,rfl⟩ ⟨_,ho2,rfl⟩ mH seq_tuple_add kE kz (i7 _ _)
   (tuple_addW2 t b vs.toArray ws.toArray n n2 dd dd2 sl sl2 (by simpa using hv) (by simpa using hw) (by rw[aO,aO];exact hsz)) ⟨ho,ho2,?_⟩
  rw[e];exact h2 hw
def sIx(n d:Nat):Option Int->Nat
 |none=>d
 |some v=>if v<0 then(v+(n:Int)).toNat else min v.toNat n
theorem sIx_none(n d:Nat):sIx n d none=d:=rfl
theorem sIx_nat(n d k:Nat):sIx n d (some (k:Int))=min k n:=by
 show(if(k:Int)<0 then((k:Int)+(n:Int)).toNat else min (k:Int).toNat n)=min k n;rw[if_neg (by omega),bL]
theorem Js(n d:Nat)(hd:d<=n)(o:Option Int):sIx n d o<=n:=by
 cases o with
 |none=>exact hd
 |some v =>
  show(if v<0 then(v+(n:Int)).toNat else min v.toNat n)<=n;by_cases hv:v<0
  ·rw[if_pos hv];omega
  ·rw[if_neg hv];exact Nat.min_le_right _ _
theorem W1(v:Int)(n d:Nat):(if v<0 then max (v+(n:Int)) 0 else min v (n:Int))=((sIx n d (some v):Nat):Int):=by
 show(if v<0 then max (v+(n:Int)) 0 else min v (n:Int))=(((if v<0 then(v+(n:Int)).toNat else min v.toNat n):Nat):Int)
 by_cases hv:v<0
 ·simp only[if_pos hv];omega
 ·simp only[if_neg hv];omega
theorem XI(lo hi:Option Int)(n:Nat):eJ lo hi 1 (n:Int)=(((sIx n 0 lo:Nat):Int),((sIx n n hi:Nat):Int)):=by
 have h1:¬((1:Int)<0):=by omega
 unfold eJ;simp only[h1,if_false]
 refine lQ ?_ ?_
 ·cases lo with
  |none=>rfl
  |some v=>exact W1 v n 0
 ·cases hi with
  |none=>rfl
  |some v=>exact W1 v n n
theorem XJ(i j:Nat):dg (i:Int) (j:Int) 1=j-i:=by
 unfold dg;have h1:(1:Int)>0:=by omega
 simp only[h1,if_true,Int.ediv_one]
 split <;> omega
theorem xT{v:Value}{o:Option Int}{Q:Option Int->Shared->Prop}(p:ki v o)(h:Q o s):wpAny (model prog w) A (Builtin.Slice.slicePartIndex v) Q E s:=by
 cases p with
 |none=>exact slicePart_none h
 |int i t=>exact slicePart_int h
theorem wq{sl:Addr}{vl vu:Value}{lo hi:Option Int}{n:Nat}{Q:Int×Int×Nat->Shared->Prop}(hs:s.heap.IsSliceOf sl vl vu .none)(pl:ki vl lo)(pu:ki vu hi)
  (h:Q (((sIx n 0 lo:Nat):Int),1,sIx n n hi-sIx n 0 lo) s):wpAny (model prog w) A (gu (.ref sl) (pure (n:Int))) Q E s:=by
 obtain⟨os,AI,CY,Bq⟩:=id hs;unfold gu Builtin.Slice.sliceFields;refine aA (aA (bS AI Bq (x:=vl) rfl (aA (bS AI Bq (x:=vu) rfl (aA (bS AI Bq (x:=.none) rfl (aB ?_)))))));refine aA (slicePart_none ?_);show wpAny _ _ (if((1:Int) == 0)=true then _ else _) _ _ s;rw[if_neg (by decide)];refine aA (xT pl (aA (xT pu (aA (aB ?_)))));show wpAny _ _ (match eJ lo hi 1 (n:Int) with|(lo,hi)=>pure (lo,(1:Int),dg lo hi 1)) _ _ s;rw[XI lo hi n];show wpAny _ _ (pure (((sIx n 0 lo:Nat):Int),(1:Int),dg ((sIx n 0 lo:Nat):Int) ((sIx n n hi:Nat):Int) 1)) _ _ s;rw[XJ];exact aB h
theorem TB(xs:Array Value)(i k:Nat):((aF k).filterMap fun(m:Nat)=>xs[((i:Int)+(m:Int)*1).toNat]?).toArray=((xs.toList.drop i).take k).toArray:=by
 have e:(fun(m:Nat)=>xs[((i:Int)+(m:Int)*1).toNat]?)=fun m=>xs[i+m]?:=by
  funext m
  have:((i:Int)+(m:Int)*1).toNat=i+m:=by omega
  rw[this]
 rw[e];have:=pick_run xs i k;rw[kj] at this;have e2:((fun x=>xs[x]?)∘fun x=>i+x)=fun m=>xs[i+m]?:=rfl;rw[e2] at this;rw[this]
theorem getItem_tuple_cut{t sl:Addr}{items:Array Value}{vl vu:Value}{lo hi:Option Int}{Q:VS7}(ht:IsTup s.heap t items)(hs:s.heap.IsSliceOf sl vl vu .none)(pl:ki vl lo)(pu:ki vu hi)
  (hw:¬(sIx items.size 0 lo=0/\sIx items.size items.size hi=items.size))
  (h:Q (.ref s.heap.objs.size) { s with heap:=s.heap.push { cls:=.type "tuple",data:=.seq ((items.toList.drop (sIx items.size 0 lo)).take (sIx items.size items.size hi-sIx items.size 0 lo)).toArray } })
  (hsz:items.size<=sizeLine):wpAny (model prog w) A (ml (.ref t) (.ref sl)) Q E s:=by
 have pG:sizeOk (.seq ((items.toList.drop (sIx items.size 0 lo)).take (sIx items.size items.size hi-sIx items.size 0 lo)).toArray):=by
  show((items.toList.drop (sIx items.size 0 lo)).take (sIx items.size items.size hi-sIx items.size 0 lo)).toArray.size<=sizeLine;rw[aO,bT,ik,aQ];omega
 have hj:sIx items.size items.size hi<=items.size:=Js _ _ (aG _) hi;obtain⟨os,AI,CY,Bq⟩:=id hs;have ET:s.TypeIs (.ref sl) "slice":=⟨os,AI,CY⟩
 unfold ml;try with_reducible refine bU ?_
 first|refine aA (aB ?_)|skip
 refine aA (mm ht.typeIs (by decide) ?_);refine aA (cA (name:=dZ "__getitem__") ht.typeIs dA
  (bW dA ht.typeIs lI ?_ (lR _ _)))
 show wpAny _ _ (gv (.ref t) >>= _) _ _ s;refine aA (tupleItemsOf_ ht ?_);refine aA (iy ET ?_);rw[if_pos (by decide)];refine aA (wq hs pl pu ?_);have Hg:¬((((sIx items.size 0 lo:Nat):Int) == 0 && (1:Int) == 1 && (sIx items.size items.size hi-sIx items.size 0 lo) == items.size)=true):=by
  intro q;rw[aJ,aJ] at q;have q1:((sIx items.size 0 lo:Nat):Int)=0:=eq_of_beq q.1.1;have q2:sIx items.size items.size hi-sIx items.size 0 lo=items.size:=eq_of_beq q.2;exact hw ⟨by omega,by omega⟩
 show wpAny _ _ (if(((sIx items.size 0 lo:Nat):Int) == 0 && (1:Int) == 1 && (sIx items.size items.size hi-sIx items.size 0 lo) == items.size)=true then _ else _) _ _ s;rw[if_neg Hg,TB];first
  |exact aA (m:=cO _) (bF (aB ⟨_,rfl,aB h⟩) pG)
  |exact aA (m:=cO _) (bF (aA (aB (aB ⟨_,rfl,aB h⟩))) pG)
  |exact aA (aA (m:=cO _) (bF (aB (aB ⟨_,rfl,aB h⟩)) pG))
  |exact aA (aA (m:=cO _) (bF (aB ⟨_,rfl,aB h⟩) pG))
end
end HT
namespace L2
open PySem PySem.Spec PyProof.Rows
abbrev TO:=St->Hp->(Option Int->Hp->Prop)->Prop
def PO(X:Cx)(e:Option Expr)(t:TO):Prop :=
 ∀(nJ:List (Addr×Obj)) (s:Shared) (σ:St) (H:Hp) (Q:Option Int->Hp->Prop),Inv X nJ σ H s->t σ H Q→
  wpAny (model X.prog X.w) X.A (evalPart e X.env) (fun u s'=>∃o H',Inv X nJ σ H' s'/\ki u o/\Q o H') X.xe s
def R9:TO:=fun _ H Q=>Q none H
def zba(t:TE):TO:=fun σ H Q=>t σ H fun x H1=>∃i,x=.int i/\Q (some i) H1
theorem rR{ns:List Int}:∀{us:List Value},zP (ns.map V.int) us->kg us ns:=by
 induction ns with
 |nil=>intro us r;rw[lL] at r;cases r;exact .nil
 |cons n ns ih =>
  intro us r;rw[cz] at r;cases r with
  |cons r1 r2 =>
   obtain⟨t,e⟩:=r1;subst e;exact .cons n t (ih r2)
section
variable{X:Cx}{e:Expr}{te:TE}{lo hi:Option Expr}{tl th:TO}{pos p2:Pos}
theorem xH:PO X none R9:=by
 intro nJ s σ H Q I h;rw[evalPart_none];exact aB ⟨none,H,I,.none,h⟩
theorem xt(h:PE X e te):PO X (some e) (zba te):=by
 intro nJ s σ H Q I hw;rw[evalPart_some];refine thn (h nJ s σ H _ I hw) fun u s1 ⟨x,H1,I1,r1,q1⟩=>?_;obtain⟨i,rfl,q⟩:=q1;obtain⟨t,rfl⟩:=r1;exact⟨some i,H1,I1,.int i t,q⟩
noncomputable def SlR(X:Cx)(r:V->Option Int->Option Int->Hp->VK->Prop):Prop :=
 ∀(nJ:List (Addr×Obj)) (s:Shared) (σ:St) (H:Hp) (x:V) (v vl vu:Value) (lo hi:Option Int) (sl:Addr) (Q:VK),Inv X nJ σ H s->zQ x v->s.heap.IsSliceOf sl vl vu .none->ki vl lo->ki vu hi->r x lo hi H Q→
  ∃T id,typeLookup (.type T) "__getitem__" = pure (some (.builtin id))/\s.TypeIs v T/\wpAny (model X.prog X.w) X.A (ml v (.ref sl)) (EP X nJ σ Q) X.xe s
def tSl(r:V->Option Int->Option Int->Hp->VK->Prop)(te:TE)(tl th:TO):TE:=fun σ H Q=>te σ H fun x H1=>tl σ H1 fun l H2=>th σ H2 fun u H3=>r x l u H3 Q
theorem y6{r:V->Option Int->Option Int->Hp->VK->Prop}(hr:SlR X r)(he:PE X e te)(hl:PO X lo tl)(hu:PO X hi th):PE X (.Subscript e (.Slice lo hi none p2) pos) (tSl r te tl th):=by
 intro nJ s σ H Q I h;refine Subscript_ (thn (he nJ s σ H _ I h) fun v s1 ⟨x,H1,I1,r1,q1⟩=>?_);refine wpAny_Slice (thn (hl nJ s1 σ H1 _ I1 q1) fun vl s2 ⟨l,H2,I2,pl,q2⟩=>thn (hu nJ s2 σ H2 _ I2 q2) fun vu s3 ⟨u,H3,I3,pu,q3⟩=>?_);rw[evalPart_none];refine aB ?_;have I4:Inv X nJ σ H3 { s3 with heap:=s3.heap.push { cls:=.type "slice",data:=.fields #[vl,vu,.none] } }:=I3.kept (t':=s3.toks) fun b ob q=>aD _ q;obtain⟨T,id,hT,ht,hg⟩:=hr nJ { s3 with heap:=s3.heap.push { cls:=.type "slice",data:=.fields #[vl,vu,.none] } } σ H3 x v vl vu l u s3.heap.objs.size Q I4 r1 (Heap.IsSliceOf.new ..) pl pu q3;show wpAny (model X.prog X.w) X.A (subscriptTail e (.Slice lo hi none p2) v (.ref s3.heap.objs.size)) (EP X nJ σ Q) X.xe { s3 with heap:=s3.heap.push { cls:=.type "slice",data:=.fields #[vl,vu,.none] } };exact tail_any (ops:=[.ref s3.heap.objs.size,v]) ht hT hg (by with_unfolding_all rfl)
noncomputable def jN(xs:List V)(lo hi:Option Int):List V:=(xs.drop (HT.sIx xs.length 0 lo)).take (HT.sIx xs.length xs.length hi-HT.sIx xs.length 0 lo)
theorem vt(xs:List V)(lo hi:Option Int):(jN xs lo hi).length<=xs.length:=by
 unfold jN;rw[bT,ik];omega
def zbY(K:FG7):V->Option Int->Option Int->Hp->VK->Prop:=fun x lo hi H Q=>∃a xs,x=.ref a/\SqT K H a xs∧
 ¬(HT.sIx xs.length 0 lo=0/\HT.sIx xs.length xs.length hi=xs.length)/\∀p,H p=none->Q (.ref p) (upd H p (.tup (jN xs lo hi)))
theorem Jt:SlR X (zbY X.K):=by
 intro nJ s σ H x v vl vu lo hi sl Q I rx hs pl pu h;obtain⟨a,xs,rfl,hx,hw,q⟩:=h;cases rx;obtain⟨nK,r,ht,hz⟩:=I.tuple hx;have nR:nK.toArray.size=xs.length:=by rw[aO];exact r.length.symm
 refine⟨"tuple",_,PyProof.Rows.slot_tuple_getitem.lookup,ht.typeIs,?_⟩;refine HT.getItem_tuple_cut ht hs pl pu (by rw[nR];exact hw) ?_ (by rw[nR];exact hz);rw[nR];refine⟨.ref s.heap.objs.size,_,I.laid (t':=s.toks) (o:=.tup (jN xs lo hi)) (fun b ob q=>aD _ q) (aG _) ?_,rfl,q _ (I.hok.fresh (aG _))⟩;exact⟨cH (vt xs lo hi) hz,_,(r.drop (HT.sIx xs.length 0 lo)).take (HT.sIx xs.length xs.length hi-HT.sIx xs.length 0 lo),IsTup.new _ _⟩
noncomputable def zbb(K:FG7):R2:=fun x y H Q=>∃a b xs ys,x=.ref a/\y=.ref b/\SqT K H a xs/\SqT K H b ys/\xs≠[]/\xs.length+ys.length<=sizeLine∧
 (ys=[]->Q (.ref a) H)/\(ys≠[]->∀p,H p=none->Q (.ref p) (upd H p (.tup (xs++ys))))
theorem zP.nil_iff{xs:List V}{us:List Value}(r:zP xs us):us=[] ↔ xs=[]:=by
 cases r with
 |nil=>simp
 |cons _ _=>simp
theorem Qa:OpR X (fZ .Add) (zbb X.K):=by
 intro nJ s σ H x y v u Q I rx ry h;obtain⟨a,b,xs,ys,rfl,rfl,ha,hb,hx,hz,q1,q2⟩:=h;cases rx;cases ry;obtain⟨nK,r1,p1,_⟩:=I.tuple ha;obtain⟨CZ,r2,p2,_⟩:=I.tuple hb;refine HT.cat_tup p1 p2 (fun z=>hx (r1.nil_iff.mp z)) (fun z=>⟨.ref a,H,I,rfl,q1 (r2.nil_iff.mp z)⟩) (fun z=>?_) (by rw[←r1.length,←r2.length];exact hz);refine⟨.ref s.heap.objs.size,_,I.laid (t':=s.toks) (o:=.tup (xs++ys)) (fun b ob q=>aD _ q) (aG _) ?_,rfl,q2 (fun w=>z (r2.nil_iff.mpr w)) _ (I.hok.fresh (aG _))⟩;exact⟨by rw[bD];exact hz,_,r1.append r2,IsTup.new _ _⟩
end
end L2
namespace L2
open PySem PySem.Spec PyProof.Rows
noncomputable def ixN(n:Nat)(i:Int):Option Nat:=if 0<=i then(if i<n then some i.toNat else none) else if -(n:Int)<=i then some (i+n).toNat else none
noncomputable def atI{α:Type}(xs:List α)(i:Int):Option α:=(ixN xs.length i).bind fun j=>xs[j]?
theorem W2{n:Nat}{i:Int}{j:Nat}(h:ixN n i=some j):seqIndex? i n=some j/\j<n/\-(n:Int)<=i/\i<n:=by
 unfold ixN at h;by_cases h0:0<=i
 ·rw[if_pos h0] at h;by_cases h1:i<n
  ·rw[if_pos h1] at h;have e:i.toNat=j:=bQ h;exact⟨by rw[seqIndex_of h0 h1,e],by omega,by omega,h1⟩
  ·rw[if_neg h1] at h;cases h
 ·rw[if_neg h0] at h;by_cases h1:-(n:Int)<=i
  ·rw[if_pos h1] at h;have e:(i+n).toNat=j:=bQ h;exact⟨by rw[seqIndex_neg (by omega) h1,e],by omega,h1,by omega⟩
  ·rw[if_neg h1] at h;cases h
theorem W3{α:Type}{xs:List α}{i:Int}{v:α}(h:atI xs i=some v):∃j,seqIndex? i xs.length=some j/\xs[j]?=some v/\j<xs.length/\-(xs.length:Int)<=i/\i<xs.length:=by
 unfold atI at h;cases e:ixN xs.length i with
 |none=>rw[e] at h;cases h
 |some j =>
  rw[e] at h;obtain⟨h1,h2,h3,h4⟩:=W2 e;exact⟨j,h1,h,h2,h3,h4⟩
theorem zH{α:Type}{xs:List α}{j:Nat}{v:α}(h:xs[j]?=some v):atI xs (j:Int)=some v:=by
 have hj:j<xs.length:=(aL.mp h).1;have e:ixN xs.length (j:Int)=some j:=by
  unfold ixN;rw[if_pos (by omega),if_pos (by omega)];simp
 unfold atI;rw[e];exact h
def W4(b:Expr):Prop:=∀o i,subscripted b false o i=operate [o,i] (ml o i)
def IxR(X:Cx)(r:R2):Prop :=
 ∀(value BI:Expr) (nJ:List (Addr×Obj)) (s:Shared) (σ:St) (H:Hp) (x y:V) (v u:Value) (Q:VK),Inv X nJ σ H s->zQ x v->zQ y u->r x y H Q→
  subscripted BI false v u=operate [v,u] (ml v u)->wpAny (model X.prog X.w) X.A (subscriptTail value BI v u) (EP X nJ σ Q) X.xe s
def MtR(X:Cx)(id:String)(r:V->List V->Hp->VK->Prop):Prop :=
 ∀(nJ:List (Addr×Obj)) (s:Shared) (σ:St) (H:Hp) (x:V) (xs:List V) (v:Value) (us:List Value) (Q:VK),Inv X nJ σ H s->zQ x v->zP xs us->r x xs H Q→
  wpAny (model X.prog X.w) X.A (call (.builtin id) (v::us)) (EP X nJ σ Q) X.xe s
section
variable{X:Cx}{a b:Expr}{ta tb:TE}{pos:Pos}
theorem zU{r:R2}(hr:IxR X r)(ha:PE X a ta)(hb:PE X b tb)(hs:W4 b):PE X (.Subscript a b pos) (tOp r ta tb):=by
 intro nJ s σ H Q I h;exact Subscript_ (zaW ha hb I h fun v u s2 x y H2 I2 rx ry q=>hr a b nJ s2 σ H2 x y v u Q I2 rx ry q (hs _ _))
noncomputable def zbZ(K:FG7):R2:=fun x y H Q=>∃p xs i v,x=.ref p/\y=.int i/\SqL K H p xs/\atI xs i=some v/\Q v H
noncomputable def zbK(K:FG7):R2:=fun x y H Q=>∃p xs i v,x=.ref p/\y=.int i/\SqT K H p xs/\atI xs i=some v/\Q v H
theorem zY:IxR X (zbZ X.K):=by
 intro value BI nJ s σ H x y v u Q I rx ry h hs;obtain⟨p,xs,i,z,rfl,rfl,hq,he,q⟩:=h;cases rx;obtain⟨t,rfl⟩:=ry;obtain⟨nK,r,pl,hz⟩:=I.list hq;obtain⟨j,h1,h2,h3,h4,h5⟩:=W3 he;obtain⟨w,ew,DS⟩:=r.get h2;have hl:=r.length;have hn:=jH;have oE:EP X nJ σ Q w s:=⟨z,H,I,DS,q⟩
 by_cases h0:0<=i
 ·have hj:i.toNat=j:=by
   rw[seqIndex_of h0 h5] at h1;exact bQ h1
  exact item_listR pl.isList h0 (by omega) (by rw[hj];simpa using ew) oE hs
 ·have hj:(i+(nK.toArray.size:Int)).toNat=j:=by
   rw[seqIndex_neg (by omega) h4] at h1;rw[aO,←hl];exact bQ h1
  exact subscriptTail_builtinR (x:=w) pl.isList.typeIs slot_list_getitem.lookup
   (wpAny_getItem_list_neg (Q:=fun r s'=>r=w/\EP X nJ σ Q r s') pl.isList (by omega) (by rw[aO] <;> omega) (by omega) (by rw[hj];simpa using ew) ⟨rfl,oE⟩) hs
theorem yP:IxR X (zbK X.K):=by
 intro value BI nJ s σ H x y v u Q I rx ry h hs;obtain⟨p,xs,i,z,rfl,rfl,hq,he,q⟩:=h;cases rx;obtain⟨t,rfl⟩:=ry;obtain⟨nK,r,pl,hz⟩:=I.tuple hq;obtain⟨j,h1,h2,h3,h4,h5⟩:=W3 he;obtain⟨w,ew,DS⟩:=r.get h2;have hl:=r.length;have hn:=jH;have oE:EP X nJ σ Q w s:=⟨z,H,I,DS,q⟩
 exact subscriptTail_builtinR (x:=w) pl.typeIs slot_tuple_getitem.lookup
  (getItem_tuple (j:=j) (Q:=fun r s'=>r=w/\EP X nJ σ Q r s') pl (by omega) (by omega) (by rw[aO,←hl];exact h1) (by simpa using ew) ⟨rfl,oE⟩) hs
theorem XL(nK:List Value)(n j:Nat)(u:Value):cB (·.setIfInBounds j u) { cls:=.type "list",data:=.seq nK.toArray n }={ cls:=.type "list",data:=.seq (nK.set j u).toArray n }:=by
 simp[cB]
theorem Inv.lst{nJ:List (Addr×Obj)}{σ:St}{H:Hp}{s:Shared}{p:Addr}{xs:List V}(I:Inv X nJ σ H s)(h:H p=some (.lst xs)) :
  ∃(nK:List Value) (n:Nat),zP xs nK/\s.heap.get? p=some { cls:=.type "list",data:=.seq nK.toArray n }/\xs.length<=sizeLine:=by
 obtain⟨z,nK,n,r,e⟩:=I.hok p _ h;exact⟨nK,n,r,e,z⟩
theorem Inv.lstUpd{nJ:List (Addr×Obj)}{σ:St}{H:Hp}{s:Shared}{p:Addr}{xs ys:List V}{nK its':List Value}{n n':Nat}{f:Obj->Obj}(I:Inv X nJ σ H s)(h:H p=some (.lst xs))
  (ho:s.heap.get? p=some { cls:=.type "list",data:=.seq nK.toArray n }) (hf:f { cls:=.type "list",data:=.seq nK.toArray n }={ cls:=.type "list",data:=.seq its'.toArray n' }) (r:zP ys its') (hz:ys.length<=sizeLine) (t:Nat) :
  Inv X nJ σ (upd H p (.lst ys)) { s with heap:=s.heap.update p f,toks:=t }:=by
 have e:(s.heap.update p f).get? p=some { cls:=.type "list",data:=.seq its'.toArray n' }:=by
  rw[cx f ho (by rw[hf] <;> rfl),hf]
 refine I.write (x:=p) (e:=p) (by rw[h];trivial) (.inl rfl) (fun b u hb q=>(cV _ _ (Ne.symm hb)).trans q) ⟨_,e⟩ ?_;exact⟨hz,its',n',r,e⟩
def zbc:V->V->V->Hp->(Hp->Prop)->Prop:=fun o i v H Q=>∃p xs k j,o=.ref p/\i=.int k/\H p=some (.lst xs)/\ixN xs.length k=some j/\Q (upd H p (.lst (xs.set j v)))
theorem qK:zbE X zbc:=by
 intro nJ s σ H o i v ov iv u Q I ro ri rv h;obtain⟨p,xs,k,j,rfl,rfl,hp,hj,q⟩:=h;cases ro;obtain⟨t,rfl⟩:=ri;obtain⟨nK,n,r,ho,hz⟩:=I.lst hp;obtain⟨h1,h2,h3,h4⟩:=W2 hj;have hl:=r.length;have hn:=jH;have I':Inv X nJ σ (upd H p (.lst (xs.set j v))) { s with heap:=s.heap.update p (cB (·.setIfInBounds j u)) } :=
  I.lstUpd hp ho (XL nK n j u) (r.set rv j) (by rw[cT];exact hz) s.toks
 by_cases h0:0<=k
 ·have hk:k.toNat=j:=by
   rw[seqIndex_of h0 h4] at h1;exact bQ h1
  exact PySem.W.ki_setAt ho h0 (by omega) (by rw[aO,←hl];exact h4) (by rw[hk];exact⟨_,I',q⟩)
 ·have hk:(k+(nK.toArray.size:Int)).toNat=j:=by
   rw[seqIndex_neg (by omega) h3] at h1;rw[aO,←hl];exact bQ h1
  exact PySem.W.ki_setBack ho (by omega) (by rw[aO,←hl];exact h3) (by omega) (by rw[hk];exact⟨_,I',q⟩)
def w5:V->Bool
 |.non=>true
 |.bl _=>true
 |.int _=>true
 |.str _=>true
 |_=>false
noncomputable def eqV:V->V->Bool
 |.non,.non=>true
 |.bl a,.bl b=>a == b
 |.bl a,.int b=>(if a then 1 else 0) == b
 |.int a,.bl b=>a == (if b then 1 else 0)
 |.int a,.int b=>a == b
 |.str a,.str b=>a == b
 |_,_=>false
theorem Rt{A:Around}{s:Shared}{y x:V}{u v:Value}(ry:zQ y u)(rx:zQ x v)(fy:w5 y=true)(fx:w5 x=true):SeqAt.EqAt A s u v (eqV y x):=by
 cases y with
 |non =>
  cases ry;cases x with
  |non=>cases rx;exact SeqAt.EqAt.same _
  |bl b=>cases rx;exact SeqAt.EqAt.none_bool b
  |int b=>obtain⟨t,rfl⟩:=rx;exact SeqAt.EqAt.none_int b t
  |str b=>obtain⟨t,rfl⟩:=rx;exact SeqAt.EqAt.none_str b t
  |_=>exact absurd (show false=true from fx) aZ
 |bl a =>
  cases ry;cases x with
  |non=>cases rx;exact SeqAt.EqAt.bool_none a
  |bl b=>cases rx;exact SeqAt.EqAt.bool_bool a b
  |int b=>obtain⟨t,rfl⟩:=rx;exact SeqAt.EqAt.bool_int a b t
  |str b=>obtain⟨t,rfl⟩:=rx;exact SeqAt.EqAt.bool_str a b t
  |_=>exact absurd (show false=true from fx) aZ
 |int a =>
  obtain⟨t',rfl⟩:=ry;cases x with
  |non=>cases rx;exact SeqAt.EqAt.int_none a t'
  |bl b=>cases rx;exact SeqAt.EqAt.int_bool a t' b
  |int b=>obtain⟨t,rfl⟩:=rx;exact SeqAt.EqAt.int_int a t' b t
  |str b=>obtain⟨t,rfl⟩:=rx;exact SeqAt.EqAt.int_str a t' b t
  |_=>exact absurd (show false=true from fx) aZ
 |str a =>
  obtain⟨t',rfl⟩:=ry;cases x with
  |non=>cases rx;exact SeqAt.EqAt.str_none a t'
  |bl b=>cases rx;exact SeqAt.EqAt.str_bool a t' b
  |int b=>obtain⟨t,rfl⟩:=rx;exact SeqAt.EqAt.str_int a t' b t
  |str b=>obtain⟨t,rfl⟩:=rx;exact SeqAt.EqAt.str_str a t' b t
  |_=>exact absurd (show false=true from fx) aZ
 |_=>exact absurd (show false=true from fy) aZ
noncomputable def eqU(x:V)(u:Value):Bool:=match u with
 |.none=>eqV .non x
 |.bool b=>eqV (.bl b) x
 |.int i _=>eqV (.int i) x
 |.str z _=>eqV (.str z) x
 |_=>false
theorem Ru{x y:V}{u:Value}(r:zQ y u)(f:w5 y=true):eqU x u=eqV y x:=by
 cases y with
 |non=>cases r;rfl
 |bl b=>cases r;rfl
 |int i=>obtain⟨t,rfl⟩:=r;rfl
 |str z=>obtain⟨t,rfl⟩:=r;rfl
 |_=>exact absurd (show false=true from f) aZ
theorem ZY{x:V}:∀{xs:List V} {us:List Value},zP xs us->xs.all w5=true->us.any (eqU x)=xs.any fun y=>eqV y x
 |_,_,.nil,_=>rfl
 |y::xs,u::us,.cons r t,f=>by
  rw[fL,aJ] at f;rw[dO,dO,Ru r f.1,ZY t f.2]
theorem qL{A:Around}{s:Shared}{x:V}{v:Value}(rx:zQ x v)(fx:w5 x=true):∀{xs:List V} {us:List Value},zP xs us->xs.all w5=true->∀u∈us,SeqAt.EqAt A s u v (eqU x u)
 |_,_,.nil,_=>fun u hu=>by cases hu
 |y::xs,u::us,.cons r t,f=>fun u' hu=>by
  rw[fL,aJ] at f;rcases aK.mp hu with rfl|hu
  ·rw[Ru r f.1];exact Rt r rx f.1 fx
  ·exact qL rx fx t f.2 u' hu
noncomputable def inV(x:V)(xs:List V):Bool:=xs.any fun y=>eqV y x
noncomputable def rIn(K:FG7)(Hh:Bool):R2:=fun x y H Q=>∃p xs,y=.ref p/\(SqL K H p xs\/SqT K H p xs)/\w5 x=true/\xs.all w5=true/\Q (.bl (if Hh then !inV x xs else inV x xs)) H
theorem tW:OpR X (fc .In) (rIn X.K false):=by
 intro nJ s σ H x y v u Q I rx ry h;obtain⟨p,xs,rfl,hq,fx,fs,q⟩:=h;cases ry;rcases hq with hq|hq
 ·obtain⟨nK,r,pl,hz⟩:=I.list hq;refine SeqAt.in_listAt (eqU x) pl.isList (fun w hw=>qL rx fx r fs w (by simpa using hw)) ⟨.bl _,H,I,rfl,?_⟩;rw[show nK.toArray.any (eqU x)=nK.any (eqU x) by simp,ZY r fs];exact q
 ·obtain⟨nK,r,pl,hz⟩:=I.tuple hq;refine SeqAt.in_tupleAt (eqU x) pl (fun w hw=>qL rx fx r fs w (by simpa using hw)) ⟨.bl _,H,I,rfl,?_⟩;rw[show nK.toArray.any (eqU x)=nK.any (eqU x) by simp,ZY r fs];exact q
theorem zv:xG X (.builtin "len") (fun xs H Q=>∃p ys,xs=[.ref p]/\(SqL X.K H p ys\/SqT X.K H p ys)/\Q (.int ys.length) H):=by
 intro nJ s σ H xs us Q I r h;obtain⟨p,ys,rfl,hq,q⟩:=h;obtain⟨u,rfl,rx⟩:=vq r;cases rx;have hn:=jH;rcases hq with hq|hq
 ·obtain⟨nK,r',pl,hz⟩:=I.list hq;have nR:=r'.length;exact Calls.call_len_list pl.isList (by simp only[aO] <;> omega) ⟨.int ys.length,H,I.tok _,⟨s.toks+1,by rw[aO,nR]⟩,q⟩
 ·obtain⟨nK,r',pl,hz⟩:=I.tuple hq;have nR:=r'.length;exact len_tuple pl (by simp only[aO] <;> omega) ⟨.int ys.length,H,I.tok _,⟨s.toks+1,by rw[aO,nR]⟩,q⟩
theorem uY:xG X (.type "list") (fun xs H Q=>∃p ys,xs=[.ref p]/\(SqL X.K H p ys\/SqT X.K H p ys)/\∀l,H l=none->Q (.ref l) (upd H l (.lst ys))):=by
 intro nJ s σ H xs us Q I r h;obtain⟨p,ys,rfl,hq,q⟩:=h;obtain⟨u,rfl,rx⟩:=vq r;cases rx;have oE:∀(nK:List Value),zP ys nK->ys.length<=sizeLine->∀(h':Heap) (c':Nat),(∀b o',s.heap.get? b=some o'->h'.get? b=some o')→
   h'.get? s.heap.objs.size=some { cls:=.type "list",dict:=none,data:=.seq nK.toArray c',slots:=#[] }->EP X nJ σ Q (.ref s.heap.objs.size) { s with heap:=h' }:=fun nK r' hz h' c' kp e =>
  ⟨.ref s.heap.objs.size,_,I.laid (t':=s.toks) kp (aG _) (show zT X.prog X.w _ h' _ (.lst ys) from⟨hz,nK,c',r',e⟩),rfl,q _ (I.hok.fresh (aG _))⟩
 rcases hq with hq|hq
 ·obtain⟨nK,r',pl,hz⟩:=I.list hq;have nR:=r'.length;obtain⟨o,ho,hc,n,hd⟩:=pl.isList;exact mw p (.inl rfl) ho hc hd (fun h' c' kp e=>oE nK r' hz h' c' kp e) (by simp only[aO] <;> omega)
 ·obtain⟨nK,r',pl,hz⟩:=I.tuple hq;have nR:=r'.length;obtain⟨o,ho,hc,n,hd⟩:=pl;exact mw p (.inr rfl) ho hc hd (fun h' c' kp e=>oE nK r' hz h' c' kp e) (by simp only[aO] <;> omega)
theorem xo:xG X (.type "tuple") (fun xs H Q=>∃p ys,xs=[.ref p]/\((SqL X.K H p ys/\∀l,H l=none->Q (.ref l) (upd H l (.tup ys)))\/(SqT X.K H p ys/\Q (.ref p) H))):=by
 intro nJ s σ H xs us Q I r h;obtain⟨p,ys,rfl,h⟩:=h;obtain⟨u,rfl,rx⟩:=vq r;cases rx;rcases h with ⟨hq,q⟩|⟨hq,q⟩
 ·obtain⟨nK,r',pl,hz⟩:=I.list hq;have nR:=r'.length;refine call_tuple_list pl.isList (fun h' kp=>?_) (by simp only[aO] <;> omega);have I1:Inv X nJ σ H { s with heap:=h' }:=I.kept (t':=s.toks) kp;have I2:Inv X nJ σ (upd H h'.objs.size (.tup ys)) { s with heap:=h'.push { cls:=.type "tuple",data:=.seq nK.toArray } } :=
   I1.laid (t':=s.toks) (fun b o e=>aD _ e) (aG _) (show zT X.prog X.w _ _ _ (.tup ys) from⟨hz,nK,r',IsTup.new _ _⟩)
  exact⟨.ref h'.objs.size,_,I2,rfl,q _ (I1.hok.fresh (aG _))⟩
 ·obtain⟨nK,r',pl,hz⟩:=I.tuple hq;exact call_tuple_same pl ⟨.ref p,H,I,rfl,q⟩
noncomputable def tyV(K:FG7)(T:String)(x:V)(H:Hp):Prop:=match x with
 |.str _=>T = "str"
 |.int _=>T = "int"
 |.ref p=>(T = "list" /\∃xs,SqL K H p xs)\/(T = "tuple" /\∃o,K.lookup p=some o/\o.cls=.type "tuple" /\o.dict=none)∨
   (T = "dict" /\((∃kvs,H p=some (.dK kvs))\/∃kvs,H p=some (.dT kvs)))\/(T = "set" /\∃S n,H p=some (.set S n))
 |_=>False
theorem Ju{nJ:List (Addr×Obj)}{σ:St}{H:Hp}{s:Shared}{T:String}{x:V}{v:Value}(I:Inv X nJ σ H s)(r:zQ x v)(ty:tyV X.K T x H) :
  s.TypeIs v T/\∀a,v=.ref a->∃ob,s.heap.get? a=some ob/\ob.dict=none:=by
 cases x with
 |str z =>
  obtain⟨t,rfl⟩:=r;cases(show T = "str" from ty);exact⟨typeIs_str s z t,fun _ e=>nomatch e⟩
 |int i =>
  obtain⟨t,rfl⟩:=r;cases(show T = "int" from ty);exact⟨typeIs_int s i t,fun _ e=>nomatch e⟩
 |ref p =>
  cases r;rcases ty with ⟨rfl,xs,hq⟩|⟨rfl,o,hk,hc,hd⟩|⟨rfl,hk⟩|⟨rfl,S,n,hk⟩
  ·obtain⟨nK,_,pl,_⟩:=I.list hq;refine⟨pl.isList.typeIs,fun a e=>?_⟩;cases e;obtain⟨o,n,e,c,hd,_⟩:=pl;exact⟨o,e,hd⟩
  ·refine⟨⟨o,I.kIn p o hk,hc⟩,fun a e=>?_⟩;cases e;exact⟨o,I.kIn _ o hk,hd⟩
  ·have z:∃o,s.heap.get? p=some o/\o.ExactDict:=by
    rcases hk with ⟨kvs,hk⟩|⟨kvs,hk⟩
    ·obtain⟨_,_,_,_,o,_,_,e,ex,_⟩:=I.hok p _ hk;exact⟨o,e,ex⟩
    ·obtain⟨_,_,_,_,o,_,_,e,ex,_⟩:=I.hok p _ hk;exact⟨o,e,ex⟩
   obtain⟨o,e,ex⟩:=z;refine⟨⟨o,e,ex.1⟩,fun a e2=>?_⟩;cases e2;exact⟨o,e,ex.2.1⟩
  ·obtain⟨o,_,_,_,e,ex,_⟩:=I.hok p _ hk;refine⟨⟨o,e,ex.1⟩,fun a e2=>?_⟩;cases e2;exact⟨o,e,ex.2.1⟩
 |_=>exact False.elim ty
def tBM(K:FG7)(T:String)(r:V->List V->Hp->VK->Prop)(to:TE)(t:TA):TE:=fun σ H Q=>to σ H fun x H1=>tyV K T x H1/\t σ H1 fun xs H2=>r x xs H2 Q
variable{o e:Expr}{es:List Expr}{to:TE}{t:TA}{name:Str}{oW oI:Pos}{T id:String}{r:V->List V->Hp->VK->Prop}
theorem W5(pa:PlainAttrs T)(slot:Slot T name id)(hty:typeOf (.builtin id)=pure (.type "method_descriptor"))(hm:MtR X id r)(ho:PE X o to)(ha:PA X (e::es) t)
  (Au:attributeBase o name X.env (eval o X.env)=eval o X.env:=by rfl)
  (Hi:((lg oI (bY (e::es) X.env)).all (fun x=>!x.1) && (backToKw oI (keywordEach [] X.env)).all (fun x=>x.1.isSome)
   && decide ((e::es).length+([]:List Keyword).length+(if([]:List Keyword).isEmpty then 0 else 1)<30))=true:=by rfl)
  (Be:(oW.endLine == oI.line)=true:=by rfl) (hs:bY (e::es) X.env=(false,eval e X.env)::bY es X.env:=by rfl) (DT:(lg oI (bY es X.env)).any (·.1)=false:=by rfl) :
  PE X (.Call (.Attribute o name oW) (e::es) [] oI) (tBM X.K T r to t):=by
 intro nJ s σ H Q I h;refine wpAny_Call_method_late Au Hi Be rfl (thn (ho nJ s σ H _ I h) fun v s1 ⟨x,H1,I1,r1,ty,q1⟩=>?_);obtain⟨h1,h2⟩:=Ju I1 r1 ty;refine⟨T,id,pa,slot,hty,h1,h2,?_⟩;have hA:=ha oI nJ s1 σ H1 _ I1 q1;rw[hs] at hA ⊢;refine iz (by show(false || (lg oI (bY es X.env)).any (·.1))=false;rw[DT] <;> rfl) (lw ?_);exact thn hA fun us s2 ⟨vs,H2,I2,r2,q2⟩=>hm nJ s2 σ H2 x vs v us Q I2 r1 r2 q2
end
end L2
namespace L2
open PySem PySem.Spec PyProof.Rows
def MtM(X:Cx)(id:String)(r:V->List V->Hp->VK->Prop):Prop :=
 ∀(nJ:List (Addr×Obj)) (s:Shared) (σ:St) (H:Hp) (x:V) (xs:List V) (v:Value) (us:List Value) (Q:VK),Inv X nJ σ H s->zQ x v->zP xs us->r x xs H Q→
  wpAny (model X.prog X.w) X.A (call (.builtin id) (v::us)) (EP X nJ σ Q) X.xe s
theorem zP.one:∀{x:V} {us:List Value},zP [x] us->∃u,us=[u]/\zQ x u
 |_,_,.cons r .nil=>⟨_,rfl,r⟩
theorem zP.eraseIdx:∀{xs:List V} {us:List Value} (i:Nat),zP xs us->zP (xs.eraseIdx i) (us.eraseIdx i)
 |_,_,_,.nil=>.nil
 |_,_,0,.cons _ t=>t
 |_,_,i+1,.cons r t=>.cons r (zP.eraseIdx i t)
theorem zP.rep{xs:List V}{us:List Value}(h:zP xs us):∀k:Nat,zP (cD k xs).flatten (cD k us).flatten
 |0=>.nil
 |k+1=>by
  rw[f',f',kF,kF];exact zP.append h (zP.rep h k)
theorem jO{α:Type}:∀(l:List α) (i:Nat),(l.eraseIdx i).length<=l.length
 |[],_=>aG _
 |_::_,0=>fz _
 |_::r,i+1=>Nat.succ_le_succ (jO r i)
theorem jP(nK:List Value):∀(k:Nat) (acc:List Value),
  nB (fun x1 x2=>x1++x2) acc.toArray (cD k nK.toArray)=(acc++(cD k nK).flatten).toArray
 |0,acc=>by simp
 |k+1,acc=>by
  have e:acc.toArray++nK.toArray=(acc++nK).toArray:=by simp
  have e2:(acc++nK)++(cD k nK).flatten=acc++(cD (k+1) nK).flatten:=by
   rw[f',kF,dI]
  rw[←e2,←jP nK k (acc++nK),←e,f',lF]
section
variable{X:Cx}{nJ:List (Addr×Obj)}{σ:St}{H:Hp}{s:Shared}{l b:Addr}{xs ys zs:List V}
theorem Inv.lset{nK its':List Value}{n:Nat}{f:Array Value->Array Value}{t':Nat}(I:Inv X nJ σ H s)(hH:H l=some (.lst xs))
  (e:s.heap.get? l=some { cls:=.type "list",data:=.seq nK.toArray n }) (hf:f nK.toArray=its'.toArray) (hv:zP ys its') (hz:ys.length<=sizeLine) :
  Inv X nJ σ (upd H l (.lst ys)) { s with heap:=s.heap.update l (cB f),toks:=t' }:=by
 have q:=PySem.IsL.update e f;rw[hf] at q;refine I.write (x:=l) (e:=l) (by rw[hH];exact trivial) (.inl rfl) (fun b' u hb hu=>(cV s.heap (cB f) (Ne.symm hb)).trans hu) ⟨_,q⟩ ?_;exact⟨hz,its',_,hv,q⟩
theorem Inv.lnew{nK:List Value}{t':Nat}(I:Inv X nJ σ H s)(hv:zP ys nK)(hz:ys.length<=sizeLine) :
  Inv X nJ σ (upd H s.heap.objs.size (.lst ys)) { s with heap:=s.heap.push { cls:=.type "list",data:=.seq nK.toArray },toks:=t' } :=
 I.laid (fun _ _ q=>aD _ q) (aG _) ⟨hz,nK,0,hv,aM _ rfl⟩
theorem Inv.fresh(I:Inv X nJ σ H s):H s.heap.objs.size=none:=I.hok.fresh (aG _)
theorem Inv.lstM(I:Inv X nJ σ H s)(hH:H l=some (.lst xs)):xs.length<=sizeLine/\∃(nK:List Value) (n:Nat),zP xs nK/\xs.length=nK.length/\s.heap.get? l=some { cls:=.type "list",data:=.seq nK.toArray n }:=by
 obtain⟨z,nK,n,r,e⟩:=I.hok l _ hH;exact⟨z,nK,n,r,r.length,e⟩
end
section
variable{X:Cx}
def Qb:V->List V->Hp->VK->Prop:=fun x vs H Q=>∃l xs y,x=.ref l/\vs=[y]/\H l=some (.lst xs)/\xs.length<sizeLine/\Q .non (upd H l (.lst (xs++[y])))
theorem vQ:MtM X "list.append" Qb:=by
 intro nJ s σ H x vs v us Q I rx rv h;obtain⟨l,xs,y,rfl,rfl,hH,hz,q⟩:=h;cases rx;obtain⟨u,rfl,ru⟩:=rv.one;obtain⟨z,nK,n,r,hl,e⟩:=I.lstM hH;refine lS F.slot_list_append ⟨_,e,rfl⟩ F.entry_list_append (F.args_list_append_2 _ _) (PySem.list_append l nK.toArray n u (by rw[aO];omega)) ⟨e,?_⟩;refine⟨.non,_,I.lset (its':=nK++[u]) hH e (by simp) (r.append (.cons ru .nil)) ?_,rfl,q⟩;rw[bD,cZ];omega
def Jv:V->List V->Hp->VK->Prop:=fun x vs H Q=>∃l xs i k y,x=.ref l/\vs=[.int i]/\H l=some (.lst xs)/\-(2 ^ 63)<=i/\i<2 ^ 63/\seqIndex? i xs.length=some k/\xs[k]?=some y/\Q y (upd H l (.lst (xs.eraseIdx k)))
theorem TC:MtM X "list.pop" Jv:=by
 intro nJ s σ H x vs v us Q I rx rv h;obtain⟨l,xs,i,k,y,rfl,rfl,hH,h1,h2,hk,hy,q⟩:=h;cases rx;obtain⟨u,rfl,ru⟩:=rv.one;obtain⟨t,rfl⟩:=ru;obtain⟨z,nK,n,r,hl,e⟩:=I.lstM hH;obtain⟨w,hw,DS⟩:=r.get hy;refine lS F.slot_list_pop ⟨_,e,rfl⟩ F.entry_list_pop (F.args_list_pop_2 _ _)
  (MeetsSeq.list_pop_at l nK.toArray n i t k w (fitsIndex_both h1 h2) (by rw[aO,←hl];exact hk) (by rw[←cC];exact hw) (by rw[aO];omega)) ⟨e,?_⟩
 refine⟨y,_,I.lset (its':=nK.eraseIdx k) hH e ?_ (r.eraseIdx k) ?_,DS,q⟩
 ·show nK.toArray.eraseIdxIfInBounds k=(nK.eraseIdx k).toArray;rw[List.eraseIdxIfInBounds_toArray]
 ·have:=jO xs k;omega
noncomputable def zca:R2:=fun x y H Q=>∃l b xs zs,x=.ref l/\y=.ref b/\H l=some (.lst xs)/\H b=some (.lst zs)/\xs.length+zs.length<=sizeLine/\∀p,H p=none->Q (.ref p) (upd H p (.lst (xs++zs)))
theorem tX:OpR X (fZ .Add) zca:=by
 intro nJ s σ H x y v u Q I rx ry h;obtain⟨l,b,xs,zs,rfl,rfl,hH,hB,hz,q⟩:=h;cases rx;cases ry;obtain⟨z,nK,n,r,hl,e⟩:=I.lstM hH;obtain⟨z2,CZ,n2,r2,Ai,e2⟩:=I.lstM hB;refine PySem.P.add_list e e2 ?_ (by rw[aO,aO];omega);have ea:nK.toArray++CZ.toArray=(nK++CZ).toArray:=by simp
 rw[ea];exact⟨.ref _,_,I.lnew (t':=s.toks) (r.append r2) (by rw[bD];omega),rfl,q _ I.fresh⟩
theorem W6{α:Type}(xs:List α)(k:Nat):(cD k xs).flatten.length=k*xs.length:=by
 induction k with
 |zero=>simp
 |succ k ih=>rw[f',kF,bD,ih,Nat.succ_mul,Nat.add_comm]
end
end L2
namespace Att
open PySem PySem.W PySem.Calls PyProof.Rows
theorem tY{P:Params}{h:Heap}:∀(ns:List Int) (vs:List Value),WellAll P h vs (ns.map WData.int)->kg vs ns:=by
 intro ns;induction ns with
 |nil =>
  intro vs w;rw[lL] at w;cases w;exact .nil
 |cons n ns ih =>
  intro vs w;rw[cz] at w;cases w with
  |cons a b =>
   cases a;exact .cons _ _ (ih _ b)
theorem W7{l:OpenLaw}{n:Nat}(hn:l.most=some n){P:Params}{h:Heap}{args:List WData}{Ch:List Value}
  (BU:l.row.toRowW.claim.pre args=true) (EU:WellAll P h Ch args) :
  ∃a vs ns,Ch=[aN a]/\args=[WData.list (ns.map WData.int)]/\h.get? a=some { cls:=.type "list",data:=.seq vs.toArray }/\kg vs ns/\ns.length<=n:=by
 have hsh:WShape.hasAll [] args [.list .int]=true:=(pre_splitW BU).1;have hc:l.pre.holds [] { args:=args }=true:=(pre_splitW BU).2;obtain⟨d,r,rfl,h1,h2⟩:=hasAllW_cons hsh;obtain rfl:=hasAllW_nil h2;obtain⟨xs,rfl,h3⟩:=hasW_list h1;obtain⟨ns,rfl⟩:=items_int h3;have nR:ns.length<=n:=by
  unfold OpenLaw.pre at hc;have h4:(WTm.not (.lt (.lit (.int (n:Int))) (.len (.arg 0)))).holds [] { args:=[.list (ns.map .int)] }=true:=by
   have h4:=(holds_andW hc).1;rw[hn] at h4;exact h4
  have h5:=condW_of h4 (w_not (w_lt w_lit (w_len_list (w_arg rfl))));rw[aE] at h5;refine mI fun q=>?_;have q':(n:Int)<((ns.length:Nat):Int):=by omega
  first
   | (rw[decide_eq_true q'] at h5;exact absurd h5 (by decide))
   | (simp at h5;omega)
 cases EU with
 |cons w1 w2 =>
  cases w2;cases w1 with
  |list ho nP=>exact⟨_,_,ns,rfl,rfl,ho,tY ns _ nP,nR⟩
theorem W8(l:OpenLaw)(args:List WData):l.row.toRowW.claim.post args (.bool true) args=true :=
 postW_of (r:=l.row.toRowW) (X:=(true == true))
  (show WShape.has [] (.bool true) .bool=true by first|rfl|decide|simp[WShape.has,WShape.arms,WShape.armsAll])
  (show(WTm.eq .res (.lit (.bool true))).value [] { args:=args,res:=some (.bool true),after:=args }=some (.bool (true == true)) from w_eq_bool (w_res rfl) w_lit) rfl
theorem attach_call{l:OpenLaw}{n:Nat}{q:Program}{pH:List Str}{XP:(Str->Option Value)->Heap->Prop}{YP:World->Heap->Prop}{d:DefRec}
  (hn:l.most=some n) (EV:d.params.defaults=[])
  (call:∀(w:World) (s₀ s₁:Shared) (mg mb:Str->Option Value) (fa:Addr) (o:Obj) (pm cd AH:Value) (a:Addr) (vs:List Value) (ns:List Int),
   Ground q pH [] XP w s₀ mg mb s₁.heap->YP w s₁.heap→
   s₁.heap.get? fa=some o->o.data=.func (docDef d.name d.params d.body d.scope pm cd AH)->s₁.heap.CodeRec cd d.name->mg d.name=some (.ref fa)→
   s₁.heap.get? a=some { cls:=.type "list",data:=.seq vs.toArray }->kg vs ns->ns.length<=n->s₁.gens=#[]→
   iw (model l.prog w) nn (.call (.ref fa) ⟨[.ref a],[]⟩) (fun r s'=>r=.ok (.ret (.bool true))/\OldK s₁.heap s'.heap/\s'.os=s₁.os/\lK s'.gens) s₁) :
  WalkO q pH XP YP l.row.toRowW d [] (fun f vs=>PySem.call f vs):=by
 intro w s₀ s₁ mg mb G Y fa o pm cd AH dV kV ho hd AK hD hmg hg args Ch as BU EW Da EU EX;obtain rfl:dV=.none:=Dflts.none hD EV;obtain rfl:kV=.none:=Dflts.noKw hD;obtain⟨a,vs,ns,rfl,rfl,DU,Ci,nR⟩:=W7 hn BU EU;refine enter_call (ix (call w s₀ s₁ mg mb fa o pm cd AH a vs ns G Y ho (fd_plain hd) AK hmg DU Ci nR hg) fun r s' hq=>?_);obtain⟨rfl,h2,h3,h4⟩:=hq;exact⟨.inl ⟨.bool true,.bool true,[],rfl,fun _=>rfl,.bool true,W8 l _,fun _=>⟨List.Pairwise.nil,fun _ hm=>(nomatch hm)⟩⟩,h2,h3,h4⟩
end Att
namespace L2
open PySem PySem.Spec PyProof.Rows
theorem xU:∀{vs:List Value} {ns:List Int},kg vs ns->zP (ns.map V.int) vs
 |_,_,.nil=>.nil
 |_,_,.cons n t h=>.cons ⟨t,rfl⟩ (xU h)
def zaC(H:Hp):Prop:=∀b,H b=none\/∃o xs,H b=some (.frz o (.lst xs))
theorem TD{P:Program}{w:World}{K:FG7}{mg mb:Str->Option Value}{CX:CXT}{k:Nat}{fa a:Addr}{fd:FuncData}{x:Str}{sp:Sp}{s₁:Shared}{vs:List Value}{ns:List Int}
  (KX:K.In s₁.heap) (AU:s₁.heap.Ns bC mg) (hb:s₁.heap.Ns builtinsNs mb) (Gi:∀x:Str,x≠"__name__" -> mb x=cU x) (Hj:s₁.heap.NoLimit) (hg:s₁.gens=#[])
  (ha:s₁.heap.get? a=some { cls:=.type "list",data:=.seq vs.toArray }) (hi:kg vs ns) (hl:ns.length<=sizeLine) (hr:Room k nn)
  (F:∀base:Heap,K.In base->base.Ns bC mg->FnOk P w K mg base CX k fa fd [x] sp) (EY:∀(s:Shared) (u:Value),nj s fd ⟨[u],[]⟩ [(x,u)])
  (BS:∀H:Hp,zaC H->SqL K H a (ns.map V.int)->sp [.ref a] H (fun v _=>v=.bl true) fun _ _ _=>False)
  (Hk:∀H e s',CX [] H s₁ (fun _ _ _=>False) e s'->False) :
  iw (model P w) nn (.call (.ref fa) ⟨[.ref a],[]⟩) (fun r s'=>r=.ok (.ret (.bool true))/\OldK s₁.heap s'.heap/\s'.os=s₁.os/\lK s'.gens) s₁:=by
 have rv:=xU hi;have Hl:=hi.length
 -- from an abstract heap in which nothing but the script Gj be pF
 have EZ:∀H:Hp,zaC H->SqL K H a (ns.map V.int)->HOk P w H s₁.heap->(∀b,H b≠none->b=a)->(H a≠none->K.lookup a=none)→
   iw (model P w) nn (.call (.ref fa) ⟨[.ref a],[]⟩) (fun r s'=>r=.ok (.ret (.bool true))/\OldK s₁.heap s'.heap/\s'.os=s₁.os/\lK s'.gens) s₁:=by
  intro H hO hS hok hA hK;have BJ:∀{b:Addr} {o:Obj},s₁.heap.get? b=some o->H b=none->(To s₁.heap H).get? b=some o:=fun e n=>Tp e n;have ES:∀{b:Addr} {o:Obj} {es:Array DictEntry} {ep:Nat},s₁.heap.get? b=some o->o.data=.dict es ep->H b=none:=fun{b o es ep} e d=>by
   cases q:H b with
   |none=>rfl
   |some u =>
    have e':b=a:=hA b (by rw[q];simp);subst e';rw[ha] at e;cases e;have d':Data.seq vs.toArray _=Data.dict es ep:=d;cases d'
  have Gk:∀{b:Addr} {m:Str->Option Value},s₁.heap.Ns b m->(To s₁.heap H).Ns b m:=fun{b m} ⟨o,es,ep,e,d,r⟩=>⟨o,es,ep,BJ e (ES e d),d,r⟩
  have hKb:K.In (To s₁.heap H):=fun b o e=>BJ (KX b o e) (by
   cases q:H b with
   |none=>rfl
   |some u =>
    have e':b=a:=hA b (by rw[q];simp);subst e';rw[hK (by rw[q];simp)] at e;cases e)
  have hM:Mod K mg (To s₁.heap H):=⟨hKb,Gk AU,⟨mb,Gk hb,Gi⟩,let ⟨mc,h1,h2⟩:=Hj;⟨mc,Gk h1,h2⟩⟩
  have e0:Env0 P w K mg (To s₁.heap H) nn [] s₁ H:=⟨rfl,hM,fun b o e=>R4 e,Nat.le_of_eq (WM _ _),trivial,fun b hb=>absurd (show b∈([]:List Addr) from hb) (by simp),hok,.of_eq hg⟩
  refine ix ((F _ hKb (Gk AU)).run nn [] s₁ H ⟨[.ref a],[]⟩ [.ref a] [.ref a] _ _ hr e0 (EY s₁ (.ref a)) (.cons rfl .nil) (BS H hO hS)) fun r s' h=>?_;cases r with
  |error e=>exact(Hk H e s' h).elim
  |ok fl =>
   cases fl with
   |next=>exact False.elim h
   |brk=>exact False.elim h
   |cont=>exact False.elim h
   |ret u =>
    obtain⟨v,H',os,bare,un,Hm,r',q⟩:=h;have q':v=.bl true:=q;subst q';obtain rfl:u=gV true:=r';refine⟨rfl,OldK.of_keep fun b o e=>?_,os,bare⟩;cases q:H b with
    |none=>exact un.keep b o e q (by intro z;exact absurd (show b∈([]:List Addr) from z) (by simp)) (by simp)
    |some u =>
     rcases hO b with z|⟨ob,xs,z⟩
     ·rw[q] at z;cases z
     ·have z2:=un.frzs b ob _ z;obtain⟨e1,_⟩:=hok b _ z;obtain⟨e2,_⟩:=Hm b _ z2;rw[e] at e1;cases e1;exact e2
 cases hk:K.lookup a with
 |some o =>
  -- the script is one of the module's own objects
  have e:=KX a o hk;rw[ha] at e;cases e;refine EZ (fun _=>none) (fun _=>.inl rfl) (.inr ⟨_,vs.toArray,_,hk,rfl,rfl,rfl,by rw[aO,Hl];exact hl,by simpa using rv⟩) (fun b u z=>by have z':(none:Option HO)=some u:=z;cases z') (fun b z=>absurd rfl z) fun z=>absurd rfl z
 |none =>
  refine EZ (fun b=>if b=a then some (.frz { cls:=.type "list",data:=.seq vs.toArray } (.lst (ns.map V.int))) else none) (fun b=>?_) (.inl (.inr ⟨{ cls:=.type "list",data:=.seq vs.toArray },if_pos rfl⟩)) (fun b u z=>?_) (fun b z=>?_) fun _=>hk
  ·by_cases hb:b=a
   ·exact .inr ⟨_,_,if_pos hb⟩
   ·exact .inl (if_neg hb)
  ·by_cases hb:b=a
   ·have z':=(if_pos hb).symm.trans z;cases z';subst hb;exact⟨ha,by rw[aE];exact hl,vs,_,rv,ha⟩
   ·have z':=(if_neg hb).symm.trans z;cases z'
  ·by_cases hb:b=a
   ·exact hb
   ·exact absurd (if_neg hb) z
end L2
namespace L2
open PySem PySem.Spec PyProof.Rows
theorem walk_of{l:mQ}{n k:Nat}{q:Program}{pH:List Str}{XP:(Str->Option Value)->Heap->Prop}{YP:World->Heap->Prop}{d:DefRec}{K:Params->FG7}{CX:World->CXT}{sp:World->Sp}{x:Str}
  (hn:l.most=some n) (hn2:n<=sizeLine) (EV:d.params.defaults=[]) (hr:Room k nn)
  (hY:∀(w:World) (h:Heap),YP w h->(K w.params).In h)
  (F:∀(w:World) (mg:Str->Option Value) (fa:Addr) (h:Heap),(K w.params).In h->h.Ns bC mg->mg d.name=some (.ref fa)→
   ∃fd:FuncData,(∀(s:Shared) (u:Value),nj s fd ⟨[u],[]⟩ [(x,u)])∧
    ∀base:Heap,(K w.params).In base->base.Ns bC mg->FnOk l.prog w (K w.params) mg base (CX w) k fa fd [x] (sp w))
  (BS:∀(w:World) (H:Hp) (a:Addr) (ns:List Int),ns.length<=n->zaC H->SqL (K w.params) H a (ns.map V.int)->sp w [.ref a] H (fun v _=>v=.bl true) fun _ _ _=>False)
  (Hk:∀(w:World) (H:Hp) (s:Shared) (e:Value) (s':Shared),CX w [] H s (fun _ _ _=>False) e s'->False) :
  nq q pH XP YP l.row.toRowW d [] (fun f vs=>PySem.call f vs):=by
 refine Att.attach_call hn EV fun w s₀ s₁ mg mb fa o pm cd AH a vs ns G Y ho hd AK hmg DU Ci nR hg=>?_;have KX:=hY w _ Y;obtain⟨fd,hb,hF⟩:=F w mg fa _ KX G.T.g hmg;exact TD KX G.T.g G.T.b G.T.builtins G.T.nolimit hg DU Ci (cH nR hn2) hr hF hb (fun H hO hS=>BS w H a ns nR hO hS) fun H e s'=>Hk w H s₁ e s'
end L2
namespace L2
open PySem PySem.Spec PyProof.Rows
noncomputable def tZ(s:Stmt):Arguments:=match s with
 |.FunctionDef _ a _ _ _ _ _ _ _ _=>a
 |_=>{ posonlyargs:=[],args:=[],vararg:=none,kwonlyargs:=[],kw_defaults:=[],kwarg:=none,defaults:=[] }
def wE(s:Stmt):List Stmt:=match s with
 |.FunctionDef _ _ b _ _ _ _ _ _ _=>b
 |_=>[]
noncomputable def zf(s:Stmt):Scope:=match s with
 |.FunctionDef _ _ _ _ _ _ sc _ _ _=>sc
 |_=>{ kind:=.function,names:=[],isGenerator:=false,isCoroutine:=false }
abbrev CX0:CXT:=fun _ _ _ _ _ _=>False
abbrev E0:XK:=fun _ _ _=>False
theorem Jw{X:Cx}:rQ CX0 X E0:=fun _ _ _ _ _ _ _ h=>h.elim
structure Fun(K:FG7)(x qual:Str)(st:Stmt)(f:Addr)(fd:FuncData):Prop where
 ex:∃(oc:Value) (od:Option Addr) (kV AH pm:Value) (an:Option Addr) (og ct:Value) (B6:Array (Option Value)),
  fd=iQ x qual (tZ st) (wE st) (zf st) .none kV AH pm an og ct/\K.lookup f=some ⟨oc,od,.func fd,B6⟩/\m7 K og qual=true
 kp:ii K (.ref f)=true
section
variable{P:Program}{w:World}{K:FG7}{mg:Str->Option Value}{base:Heap}
theorem Fun.ok{x qual:Str}{st:Stmt}{f:Addr}{fd:FuncData}{N ps:List Str}{k:Nat}{sp:Sp}(F:Fun K x qual st f fd)(S:FnScope N ps (zf st))(len:∀vs H Q E,sp vs H Q E->vs.length=ps.length)
  (At:∀(og:Value) (A:Around) (outer:List Env) (s:Shared) (H:Hp) (vs:List V) (Q:VK) (E:XK),Room k (A.deeper (envOfC qual (zf st) s.heap.objs.size f og))->sp vs H Q E→
   ∃t,PSs (ZX CX0 P w K mg base N qual (zf st) f og A outer s H E).nox (wE st) t/\t { nx:=fun _ H'=>Q .non H',rt:=Q } (tm N vs) H):FnOk P w K mg base CX0 (k+1) f fd ps sp:=by
 obtain⟨oc,od,kV,AH,pm,an,og,ct,B6,rfl,lk,AK⟩:=F.ex;refine Jr lk AK S len fun A outer s H vs Q E hr BS=>?_;obtain⟨t,h,q⟩:=At og A outer s H vs Q E hr BS;exact⟨t,h.nox,q⟩
theorem Fun.binds{x qual:Str}{st:Stmt}{f:Addr}{fd:FuncData}{ps:List Str}(F:Fun K x qual st f fd)
  (h:∀(kV AH pm:Value) (an:Option Addr) (og ct:Value) (us:List Value),us.length=ps.length->bindArgs (iQ x qual (tZ st) (wE st) (zf st) .none kV AH pm an og ct) ⟨us,[]⟩=pure (ps.zip us)):tV K fd ps []:=by
 obtain⟨oc,od,kV,AH,pm,an,og,ct,B6,rfl,lk,AK⟩:=F.ex;exact .all (h kV AH pm an og ct)
theorem fun_mk{x qual:Str}{st:Stmt}{f:Addr}{oc:Value}{od an:Option Addr}{B6:Array (Option Value)}{kV AH pm og ct:Value}(l:K.lookup f=some ⟨oc,od,.func (iQ x qual (tZ st) (wE st) (zf st) .none kV AH pm an og ct),B6⟩)
  (c:m7 K og qual=true) (k:ii K (.ref f)=true):Fun K x qual st f (iQ x qual (tZ st) (wE st) (zf st) .none kV AH pm an og ct):=⟨⟨oc,od,kV,AH,pm,an,og,ct,B6,rfl,l,c⟩,k⟩
end
theorem zI{n:Nat}(h:n<=1000):n<sizeLine:=lT h (by decide)
section
variable{X:Cx}
theorem pv(i:Nat){x:Str}{pos:Pos}(hN:X.N[i]?=some x:=by rfl)(hv:Vis X.env.scope x:=by first|exact bB rfl|exact lh (bB rfl)|exact lh (lh rfl))(hd:(x == ("__debug__":Str))=false:=by decide)
  (AK:(x == ("__classdict__":Str))=false:=by decide):PE X (.Name x pos) (WO i):=Jk hN hv hd AK
end
theorem yQ{A B:Prop}(h:B):if false=true then A else B:=by
 rw[if_neg aZ];exact h
theorem y7{A B:Prop}(h:A):if true=true then A else B:=by
 rw[if_pos rfl];exact h
theorem Rv{c A B:Prop}[Decidable c](h1:c->A)(h2:¬c->B):if c then A else B:=by
 by_cases h:c
 ·rw[if_pos h];exact h1 h
 ·rw[if_neg h];exact h2 h
end L2
namespace L3
open PySem PySem.Spec PyProof.Rows L2
theorem wF:cU "len" = some (.builtin "len"):=by decide +kernel
theorem Qc:cU "max" = some (.builtin "max"):=by decide +kernel
theorem zbd:cU "min" = some (.builtin "min"):=by decide +kernel
theorem Rw:cU "repr" = some (.builtin "repr"):=by decide +kernel
theorem zo:cU "isinstance" = some (.builtin "isinstance"):=by decide +kernel
theorem TF:cU "all" = some (.builtin "all"):=by decide +kernel
theorem zbe:cU "sum" = some (.builtin "sum"):=by decide +kernel
theorem qM:cU "sorted" = some (.builtin "sorted"):=by decide +kernel
theorem zbf:cU "int" = some (.type "int"):=by decide +kernel
theorem Rx:cU "bool" = some (.type "bool"):=by decide +kernel
theorem yZ:cU "tuple" = some (.type "tuple"):=by decide +kernel
theorem t4:cU "list" = some (.type "list"):=by decide +kernel
def TyV(K:FG7)(H:Hp)(x:V)(T:String):Prop:=match x with
 |.non=>T = "NoneType"
 |.bl _=>T = "bool"
 |.int _=>T = "int"
 |.str _=>T = "str"
 |.ref a=>(T = "tuple" /\∃xs,SqT K H a xs)\/(T = "list" /\∃xs,SqL K H a xs)\/(T = "dict" /\∃kvs,H a=some (.dK kvs))
 |_=>False
section
variable{X:Cx}{a b c:Expr}{ta tb tc:TE}{pos:Pos}
def zbL(K:FG7):List V->Hp->VK->Prop:=fun xs H Q=>∃x T t k,xs=[x,.ty T]/\TyV K H x t/\dE K (.type t) (.type T)=some k/\Q (.bl k) H
theorem wa:xG X (.builtin "isinstance") (zbL X.K):=by
 intro nJ s σ H xs us Q I r h;obtain⟨x,T,t,k,rfl,ty,e,q⟩:=h;obtain⟨u,w',rfl,rx,rt⟩:=XG r;cases(show w'=cK T from rt);have oE:∀tk,EP X nJ σ Q (.bool k) { s with toks:=tk }:=fun tk=>⟨.bl k,H,I.tok _,rfl,q⟩
 cases x with
 |non=>cases(show t = "NoneType" from ty);exact wD I rx .non e oE
 |bl y=>cases(show t = "bool" from ty);exact wD I rx (.bl y) e oE
 |int i=>cases(show t = "int" from ty);exact wD I rx (.int i) e oE
 |str y=>cases(show t = "str" from ty);exact wD I rx (.str y) e oE
 |byt y=>exact ty.elim
 |flt y=>exact ty.elim
 |ty y=>exact ty.elim
 |ref a =>
  cases(show u=aN a from rx);rcases ty with ⟨rfl,xs,hq⟩|⟨rfl,xs,hq⟩|⟨rfl,kvs,hq⟩
  ·obtain⟨nK,_,⟨o,h1,h2,_⟩,_⟩:=I.tuple hq;exact dk PySem.W.kitx_tuple I.kIn ⟨o,h1,h2⟩ e (fun z=>nomatch z) oE
  ·obtain⟨nK,_,pl,_⟩:=I.list hq;obtain⟨o,h1,h2,_⟩:=pl.isList;exact dk mi I.kIn ⟨o,h1,h2⟩ e (fun z=>nomatch z) oE
  ·exact wD (x:=V.ref a) I (show zQ (.ref a) (.ref a) from rfl) (.dK hq) e oE
theorem wu{x:Str}{T:String}{pos:Pos}(hg:Gl X x)(hm:X.mg x=none)(hv:cU x=some (.type T))(hn:x≠"__name__":=by decide)(hd:(x == ("__debug__":Str))=false:=by decide):PE X (.Name x pos) (tC (.ty T)) :=
 R5 hg hm hv (show zQ (.ty T) (cK T) from rfl) hn hd
theorem qN:OpR X (fZ .Mult) (rI IntMulOk fun i j=>.int (i*j)):=opI fun _ _ _ _ _ _ _ hc q=>mul_int q hc
def Qd(i j:Int):Prop:=0<j/\j<2 ^ 200
theorem Qd.py{i j:Int}(h:Qd i j):Builtin.divisionGoesByPylong i j=false:=by
 refine PyProof.noPylong_of_log2 ?_;obtain⟨h1,h2⟩:=h;have h0:j.natAbs≠0:=by omega
 have h3:j.natAbs<2 ^ 200:=by
  have:(j.natAbs:Int)=j:=by omega
  have h4:((j.natAbs:Nat):Int)<((2 ^ 200:Nat):Int):=by rw[this];exact h2
  exact Int.ofNat_lt.mp h4
 exact aV ((Nat.log2_lt h0).mpr h3) (by decide)
theorem qO:OpR X (fZ .FloorDiv) (rI Qd fun i j=>.int (i / j)):=opI fun i j _ _ _ _ _ hc q=>by
 have:=hc.1;refine floordiv_int (by omega) ?_ (.inl hc.py);rw[Int.fdiv_eq_ediv_of_nonneg i (by omega)];exact q
end
def zp(P:Program)(w:World)(K:FG7)(mg:Str->Option Value)(base:Heap)(k:Nat)(x:Str)(ps:List Str)(sp:Sp):Prop :=
 ∃(f:Addr) (fd:FuncData),FnOk P w K mg base CX0 k f fd ps sp/\tV K fd ps []/\ii K (.ref f)=true/\mg x=some (.ref f)
theorem zp.mono{P:Program}{w:World}{K:FG7}{mg:Str->Option Value}{base:Heap}{j k:Nat}{x:Str}{ps:List Str}{sp:Sp}(C:zp P w K mg base j x ps sp)(h:j<=k):zp P w K mg base k x ps sp:=by
 obtain⟨f,fd,F,b,kp,m⟩:=C;exact⟨f,fd,F.mono h,b,kp,m⟩
section
variable{X:Cx}{k:Nat}{ps:List Str}{sp:Sp}{x:Str}{p pos:Pos}{e:Expr}{es:List Expr}{t:TA}
theorem zn(C:zp X.prog X.w X.K X.mg X.base k x ps sp)(hr:Room k X.A)(hg:Gl X x)
  (ha:PA X (e::es) t) (As:(x == ("__debug__":Str))=false:=by decide) (he:bY (e::es) X.env=(false,eval e X.env)::bY es X.env:=by rfl) (Bp:(lg pos (bY es X.env)).any (·.1)=false:=by rfl) :
  PE X (.Call (.Name x p) (e::es) [] pos) (ZW sp [] E0 t):=by
 obtain⟨f,fd,F,b,kp,m⟩:=C;exact W0 F hr hg m kp b .nil Jw ha As he Bp
end
structure Grow(m:List Addr)(H H':Hp):Prop where
 keep:∀b o,b∉m->H b=some o->H' b=some o
 tup:∀b xs,H b=some (.tup xs)->H' b=some (.tup xs)
 frz:∀b o u,H b=some (.frz o u)->H' b=some (.frz o u)
theorem Grow.refl(m:List Addr)(H:Hp):Grow m H H:=⟨fun _ _ _ h=>h,fun _ _ h=>h,fun _ _ _ h=>h⟩
theorem Grow.trans{m:List Addr}{H H1 H2:Hp}(a:Grow m H H1)(b:Grow m H1 H2):Grow m H H2 :=
 ⟨fun c o n h=>b.keep c o n (a.keep c o n h),fun c xs h=>b.tup c xs (a.tup c xs h),fun c o u h=>b.frz c o u (a.frz c o u h)⟩
theorem Grow.new{m:List Addr}{H:Hp}{p:Addr}(h:H p=none)(o:HO):Grow m H (upd H p o) :=
 ⟨fun b u _ q=>by rw[zq (zt q h)];exact q,fun b xs q=>by rw[zq (zt q h)];exact q,fun b u v q=>by rw[zq (zt q h)];exact q⟩
theorem Grow.set{m:List Addr}{H:Hp}{p:Addr}{xs:List V}(h:H p=some (.lst xs))(hm:p∈m)(ys:List V):Grow m H (upd H p (.lst ys)) :=
 ⟨fun b u hb q=>by rw[zq (show b≠p from fun z=>hb (by rw[z];exact hm))];exact q,fun b zs q=>by rw[zq (fun z=>by subst z;rw[h] at q;cases q)];exact q,fun b u v q=>by rw[zq (fun z=>by subst z;rw[h] at q;cases q)];exact q⟩
theorem Grow.mono{m m':List Addr}{H H':Hp}(a:Grow m H H')(h:∀b∈m,b∈m'):Grow m' H H':=⟨fun b o n q=>a.keep b o (fun z=>n (h b z)) q,a.tup,a.frz⟩
theorem Grow.sqT{m:List Addr}{H H':Hp}(g:Grow m H H'){K:FG7}{a:Addr}{xs:List V}(h:SqT K H a xs):SqT K H' a xs:=by
 rcases h with (h|⟨o,h⟩)|h
 ·exact .inl (.inl (g.tup _ _ h))
 ·exact .inl (.inr ⟨o,g.frz _ _ _ h⟩)
 ·exact .inr h
theorem Grow.free{H H':Hp}{m:List Addr}(g:Grow m H H'){l:Addr}(hm:l∉m)(h:H' l=none):H l=none:=by
 cases q:H l with
 |none=>rfl
 |some o=>rw[g.keep l o hm q] at h;cases h
def Scr(K:FG7)(H:Hp)(a:Addr)(ns:List Int):Prop :=
 (∃o,H a=some (.frz o (.lst (ns.map V.int))))∨
  ∃(o:Obj) (nK:Array Value) (n:Nat),K.lookup a=some o/\o.cls=.type "list" /\o.dict=none/\o.data=.seq nK n/\nK.size<=sizeLine/\zP (ns.map V.int) nK.toList
theorem Scr.sq{K:FG7}{H:Hp}{a:Addr}{ns:List Int}(h:Scr K H a ns):SqL K H a (ns.map V.int):=by
 rcases h with ⟨o,h⟩|h
 ·exact .inl (.inr ⟨o,h⟩)
 ·exact .inr h
theorem Scr.of{K:FG7}{H:Hp}{a:Addr}{ns:List Int}(hO:zaC H)(h:SqL K H a (ns.map V.int)):Scr K H a ns:=by
 rcases h with (h|⟨o,h⟩)|h
 ·rcases hO a with z|⟨o,xs,z⟩
  ·rw[h] at z;cases z
  ·rw[h] at z;cases z
 ·exact .inl ⟨o,h⟩
 ·exact .inr h
theorem Grow.scr{m:List Addr}{H H':Hp}(g:Grow m H H'){K:FG7}{a:Addr}{ns:List Int}(h:Scr K H a ns):Scr K H' a ns:=by
 rcases h with ⟨o,h⟩|h
 ·exact .inl ⟨o,g.frz _ _ _ h⟩
 ·exact .inr h
section
variable{prog:Program}{w:World}{A:Around}{R:Result->Shared->Prop}{s:Shared}
theorem jQ{pN pR iter:Expr}{pA:List Expr}{scope:Scope}{pos:Pos}{it acc:Value}{env:Env}(I:Nat->Shared->Prop)
  (pS:∀n s,I n s->wpAny (model prog w) A (pyNext it) (fun r s₁=>match r with
   |none=>R (.ok .next) s₁
   |some v=>wpAny (model prog w) A (iE pR it v) (fun _ s₂=>wpAny (model prog w) A (mL pR env v) (fun _ s₃ =>
     wpAny (model prog w) A (forIn pA true fun c r=>if r=true then do let ok←isTrue c env (eval c env);pure (ForInStep.yield ok) else pure (ForInStep.yield r)) (fun ok s₄ =>
      if ok=true then wpAny (model prog w) A (eval pN env) (fun x s₅ =>
       wpAny (model prog w) A (call (.builtin "list.append") [acc,x]) (fun _ s₆=>∃m,m<n/\I m s₆) (fun _ _=>False) s₅) (fun _ _=>False) s₄
      else ∃m,m<n/\I m s₄) (fun _ _=>False) s₃) (fun _ _=>False) s₂) (fun _ _=>False) s₁) (fun _ _=>False) s)
  (n:Nat) (h:I n s) :
  iw (model prog w) A (.compLoop (.ListComp pN [⟨pR,iter,pA,0⟩] scope pos) 0 it acc env) R s:=by
 refine codeAny_loop rfl I (fun n s hI=>?_) n h;show wpAny _ A ((compTurn (.ListComp pN [⟨pR,iter,pA,0⟩] scope pos) 0 it acc env).onRaise (fun x=>do noteFrame x env;theTreesLotGoes x)) _ _ s;refine wpAny_noted ?_;rw[compTurn_list];have no:∀(E:VS7) (e:Value) (s:Shared),(fun(_:Value) (_:Shared)=>False) e s->E e s:=fun _ _ _ f=>f.elim;refine aA (iY (aA (eM (pS n s hI) (fun r s₁ h₁=>?_) (no _))));cases r with
 |none=>exact aB h₁
 |some v =>
  refine aA (eM h₁ (fun _ s₂ h₂=>?_) (no _));refine aA (eM h₂ (fun _ s₃ h₃=>aA (eM h₃ (fun ok s₄ h₄=>?_) (no _))) (no _));cases ok with
  |true =>
   simp only[if_true] at h₄ ⊢;exact aA (aA (eM h₄ (fun x s₅ h₅=>aA (eM h₅ (fun _ s₆ h₆=>aB (aB ⟨rfl,h₆⟩)) (no _))) (no _)))
  |false =>
   simp only[aY,if_false] at h₄ ⊢;first
    |exact aA (aB (aB ⟨rfl,h₄⟩))
    |exact aB ⟨rfl,h₄⟩
end
theorem XM{scope:Scope}{env:Env}(Aq:∀y∈scope.names,y.2=.free->∃c,env.cells.lookup y.1=some c) :
  ∃cl,closureFor scope env=pure cl/\(∀x c,cl.lookup x=some c->env.cells.lookup x=some c)/\∀y∈scope.names,y.2=.free->∃c,cl.lookup y.1=some c:=by
 have key:∀(l:List (Str×NameKind)) (cs:List (Str×Addr)),(∀y∈l,y.2=.free->∃c,env.cells.lookup y.1=some c)->(∀x c,cs.lookup x=some c->env.cells.lookup x=some c)→
   ∃cl,(forIn l cs (fun(x:Str×NameKind) r=>do if x.2 == .free then do let c←cellOf env x.1;pure (ForInStep.yield ((x.1,c)::r)) else pure (ForInStep.yield r)):Sem (List (Str×Addr)))=pure cl∧
    (∀x c,cl.lookup x=some c->env.cells.lookup x=some c)/\(∀y∈l,y.2=.free->∃c,cl.lookup y.1=some c)/\∀x c,cs.lookup x=some c->∃c',cl.lookup x=some c':=by
  intro l;induction l with
  |nil=>intro cs _ h2;exact⟨cs,rfl,h2,fun y hy=>absurd hy (by simp),fun x c h=>⟨c,h⟩⟩
  |cons y r ih =>
   intro cs h1 h2;obtain⟨n,k⟩:=y;by_cases hk:k=.free
   ·subst hk;obtain⟨c,hc⟩:=h1 (n,.free) (by simp) rfl;have ER:env.cells.lookup n=some c:=hc;have e0:cellOf env n=pure c:=by unfold cellOf;rw[ER]
    obtain⟨cl,e,p1,p2,p3⟩:=ih ((n,c)::cs) (fun z hz=>h1 z (aX _ hz)) (fun x d h=>by
     by_cases hx:x=n
     ·subst hx;rw[kW] at h;cases h;exact ER
     ·rw[eA,beq_eq_false_iff_ne.mpr hx] at h;exact h2 x d h)
    refine⟨cl,?_,p1,fun z hz=>?_,fun x d h=>?_⟩
    ·rw[fV];simp only[beq_self_eq_true,if_true,e0,pure_bind]
     exact e
    ·rcases aK.mp hz with rfl|hz
     ·intro _;exact p3 n c kW
     ·exact p2 z hz
    ·by_cases hx:x=n
     ·subst hx;exact p3 x c kW
     ·exact p3 x d (by rw[eA,beq_eq_false_iff_ne.mpr hx];exact h)
   ·have hb:(k == NameKind.free)=false:=beq_eq_false_iff_ne.mpr hk;obtain⟨cl,e,p1,p2,p3⟩:=ih cs (fun z hz=>h1 z (aX _ hz)) h2;refine⟨cl,?_,p1,fun z hz=>?_,p3⟩
    ·rw[fV];simp only[hb,aY,if_false,pure_bind]
     exact e
    ·rcases aK.mp hz with rfl|hz
     ·intro h;exact absurd h hk
     ·exact p2 z hz
 obtain⟨cl,e,p1,p2,_⟩:=key scope.names [] Aq (fun x c h=>by cases h);refine⟨cl,?_,p1,p2⟩;unfold closureFor;first
  | (rw[show(forIn scope.names [] _:Sem (List (Str×Addr)))=pure cl from e];rfl)
  | (simp only[bind_pure];exact e)
  |exact e
noncomputable def TH(X:Cx)(pA:List Expr)(t:TT):Prop :=
 ∀(nJ:List (Addr×Obj)) (s:Shared) (σ:L2.St) (H:Hp) (Q:Bool->Hp->Prop),Inv X nJ σ H s->t σ H Q→
  wpAny (model X.prog X.w) X.A (forIn pA true fun c r=>if r=true then do let ok←isTrue c X.env (eval c X.env);pure (ForInStep.yield ok) else pure (ForInStep.yield r)) (TP X nJ σ Q) X.xe s
def jR:TT:=fun _ H Q=>Q true H
theorem yv{X:Cx}:TH X [] jR:=fun nJ s σ H Q I h=>aB ⟨H,I,h⟩
theorem qP{X:Cx}{c:Expr}{t:TT}(hc:PT X c t):TH X [c] t:=fun nJ s σ H Q I h=>wpAny_tests_one (hc nJ s σ H Q I h)
noncomputable abbrev cxC(X:Cx)(N':List Str)(scope:Scope)(cl:List (Str×Addr))(C D:Addr)(fp:List Addr)(s:Shared)(H:Hp):Cx :=
 { X with N:=N',s₀:=s,H₀:=H,env:=compEnvC scope cl C X.env,outer:=X.stack,ex:=D::fp,fn:=fun _=>false,xe:=fun _ _=>False }
noncomputable def TJ(sub:List (Option Nat))(σ:L2.St):L2.St:=sub.map fun o=>match o with
 |none=>none
 |some i=>(match σ[i]? with|some v=>v|none=>none)
noncomputable def wG(J:It)(σ0:L2.St)(H1:Hp)(g:TG)(tt:TT)(te:TE)(Q:VK):Prop :=
 ∃W:Nat->Nat->List V->L2.St->Hp->Prop,(∃m,W 0 m [] σ0 H1)/\∀i m ys σ' H',W i m ys σ' H'→
  (J.stop i H'/\∀l,H' l=none->Q (.ref l) (upd H' l (.lst ys)))∨
  (J.go i H'/\∃Nn:List V->L2.St->Hp->Prop,(∀zs σ2 H2,Nn zs σ2 H2->∃m',m'<m/\W (i+1) m' zs σ2 H2)∧
   ∀x H2,J.yld i H' x H2->g x σ' H2 fun σ2 H3=>tt σ2 H3 fun b H4=>if b=true then te σ2 H4 fun y H5=>ys.length<sizeLine/\Nn (ys++[y]) σ2 H5 else Nn ys σ2 H4)
def Qe(wi:TI)(sub:List (Option Nat))(g:TG)(tt:TT)(te:TE):TE:=fun σ H Q=>wi σ H fun J H1=>wG J (TJ sub σ) H1 g tt te Q
structure CSc(X:Cx)(scope:Scope)(N':List Str)(sub:List (Option Nat)):Prop where
 free:∀y∈scope.names,y.2=.free->X.env.kindOf y.1=some .cell
 nocell:∀y∈scope.names,y.2≠.cell
 kind:scope.kind=.function
 names:∀y∈scope.names,y.2=.local->scope.names.lookup y.1=some .local
 len:sub.length=N'.length
 cap:∀(j:Nat) (y:Str) (i:Nat),N'[j]?=some y->sub[j]?=some (some i)->X.N[i]?=some y/\X.env.scope.names.lookup y=some .cell/\scope.names.lookup y=some .free
theorem HOk.track{P:Program}{w:World}{H:Hp}{h:Heap}{a:Addr}{o:HO}(x:HOk P w H h)(hn:H a=none)(new:zT P w (upd H a o) h a o):HOk P w (upd H a o) h:=fun b u e=>by
 by_cases hb:b=a
 ·subst hb;rw[zd] at e;cases e;exact new
 ·rw[zq hb] at e;exact(x b u e).stay (fun c v _ q=>q) (fun c q=>by rw[zq (zt q hn)];exact q) fun c xs q=>by rw[zq (zt q hn)];exact q
theorem vj{scope:Scope}{env:Env}{y:Str}{k:NameKind}(h:(relabel scope env).names.lookup y=some k) :
  ∃k',scope.names.lookup y=some k'/\(k=k'\/(k=.cell/\k'=.free)):=by
 have key:∀l:List (Str×NameKind),(l.map fun(n,k)=>if(k == NameKind.free && env.scope.kind == .function && env.kindOf n == some .cell) then(n,NameKind.cell) else(n,k)).lookup y=some k→
   ∃k',l.lookup y=some k'/\(k=k'\/(k=.cell/\k'=.free)):=by
  intro l;induction l with
  |nil=>intro h;cases h
  |cons p r ih =>
   obtain⟨n,k0⟩:=p;intro h;rw[cz] at h;by_cases hc:(k0 == NameKind.free && env.scope.kind == .function && env.kindOf n == some .cell)=true
   ·have hf:k0=.free:=by
     simp only[aJ,beq_iff_eq] at hc;exact hc.1.1
    dsimp only at h;rw[if_pos hc,eA] at h;rw[eA];cases hx:y == n with
    |true=>rw[hx] at h;cases h;exact⟨k0,rfl,.inr ⟨rfl,hf⟩⟩
    |false=>rw[hx] at h;exact ih h
   ·dsimp only at h;rw[if_neg hc,eA] at h;rw[eA];cases hx:y == n with
    |true=>rw[hx] at h;cases h;exact⟨_,rfl,.inl rfl⟩
    |false=>rw[hx] at h;exact ih h
 exact key scope.names h
theorem jS{scope:Scope}{env:Env}{y:Str}(hk:env.scope.kind=.function)(hc:env.kindOf y=some .cell)(h:scope.names.lookup y=some .free):(relabel scope env).names.lookup y=some .cell:=by
 have key:∀l:List (Str×NameKind),l.lookup y=some .free->(l.map fun(n,k)=>if(k == NameKind.free && env.scope.kind == .function && env.kindOf n == some .cell) then(n,NameKind.cell) else(n,k)).lookup y=some .cell:=by
  intro l;induction l with
  |nil=>intro h;cases h
  |cons p r ih =>
   obtain⟨n,k0⟩:=p;intro h;rw[cz];rw[eA] at h;dsimp only
   cases hx:y == n with
   |true =>
    rw[hx] at h;cases h;have e:y=n:=by simpa using hx
    subst e;rw[if_pos (by simp[hk,hc]),eA,hx]
   |false =>
    rw[hx] at h;by_cases B7:(k0 == NameKind.free && env.scope.kind == .function && env.kindOf n == some .cell)=true
    ·rw[if_pos B7,eA,hx];exact ih h
    ·rw[if_neg B7,eA,hx];exact ih h
 exact key scope.names h
section
variable{X:Cx}{nJ:List (Addr×Obj)}{σ:L2.St}{H2:Hp}{s₂:Shared}{it:Addr}{fp:List Addr}{tn:Nat->Heap->Prop}{J:It}{scope:Scope}{cl:List (Str×Addr)}{N':List Str}{sub:List (Option Nat)}
theorem rS{h₁:Heap}{tk:Nat}(I:Inv X nJ σ H2 s₂)(S:CSc X scope N' sub)(oJ:∀x c,cl.lookup x=some c->X.env.cells.lookup x=some c)(pT:∀y∈scope.names,y.2=.free->∃c,cl.lookup y.1=some c)
    (f2:∀b∈fp,tj X nJ H2 b) (Bw:∀b∈fp,b<s₂.heap.objs.size) {m:Str->Option Value} {ob:Obj}
    (AU:h₁.Ns (s₂.heap.objs.size+1) m) (hk:∀b o,(s₂.heap.push ob).get? b=some o->h₁.get? b=some o) :
    Inv (cxC X N' scope cl (s₂.heap.objs.size+1) s₂.heap.objs.size fp { s₂ with heap:=s₂.heap.push ob } H2) nJ (TJ sub σ) H2 { s₂ with heap:=h₁,toks:=tk }:=by
  have old:∀b o,s₂.heap.get? b=some o->(s₂.heap.push ob).get? b=some o:=fun b o e=>aD _ e;have Db:∀b o,s₂.heap.get? b=some o->h₁.get? b=some o:=fun b o e=>hk b o (old b o e);have sz:(s₂.heap.push ob).objs.size=s₂.heap.objs.size+1:=fM ..;have cells:∀x c,cl.lookup x=some c->c<s₂.heap.objs.size:=fun x c e=>let ⟨v,q⟩:=I.cell x c (oJ x c e);q.lt
  have has:∀x,((relabel scope X.env).names.lookup x=some .cell\/(relabel scope X.env).names.lookup x=some .free)->∃c,cl.lookup x=some c:=fun x hx=>by
    rcases hx with hx|hx
    · obtain⟨k',e,z⟩:=vj hx
      rcases z with z|⟨_,z⟩
      · subst z;exact absurd rfl (S.nocell _ (dQ e))
      · subst z;exact pT _ (dQ e) rfl
    · obtain⟨k',e,z⟩:=vj hx
      rcases z with z|⟨z,_⟩
      · subst z;exact pT _ (dQ e) rfl
      · cases z
  have Cj:∀b∈frs X.stack,b<s₂.heap.objs.size:=fun b hb=>by
    rcases aK.mp (I.stkSub b hb) with z|z
    · rw[z];exact I.lt
    · exact lm fun q=>I.nofs q z
  refine
    { ok :=
      { mod:=I.ok.mod,kind:=S.kind,glob:=I.ok.glob,blt:=I.ok.blt
        above:=by show(s₂.heap.push ob).objs.size<=s₂.heap.objs.size+1;rw[sz];exact aG _
        inj:=fun x y c h1 h2=>I.ok.inj x y c (oJ x c h1) (oJ y c h2)
        has:=has
        cab:=fun x c z=>by cases z
        hd:=I.ok.hd,frames:=I.ok.frames,stk:=.inl rfl
        exf:=fun b hb=>?exf
        bs:=fun b o e=>⟨old b o (I.bk b o e),(I.bs b o e).2⟩
        bsz:=by show X.base.objs.size<=(s₂.heap.push ob).objs.size;rw[sz];exact Nat.le_succ_of_le (cH I.ok.bsz I.sz)
        noex:=fun b o e hb=>?noex
        exfs:=fun b hb=>?exfs
        funs:=?funs
        frf:=I.stkFree }
      os:=rfl,bare:=I.bare,base:=Un.kept fun b u e=>hk b u e
      loc:=⟨m,AU,?loc⟩
      cell:=fun x c e=>?cell
      free:=I.hok.fresh (fz _)
      freeC:=fun x c e=>I.freeC x c (oJ x c e)
      pin:=fun p hp=>?pin
      hok:=I.hok.kept Db
      len:=?len }
  case exf =>
    rcases aK.mp hb with rfl|hb
    · exact⟨aW (il _),fun x c e=>aW (cells x c e)⟩
    · exact⟨aW (fm (Bw b hb)),fun x c e=>(f2 b hb).2.2.2.2.1 x c (oJ x c e)⟩
  case noex =>
    have hl:b<X.s₀.heap.objs.size:=aV (aP e) I.ok.bsz;rcases aK.mp hb with rfl|hb
    · exact absurd (aV hl I.sz) (eU _)
    · rcases(f2 b hb).2.2.2.1 with z|z
      · exact I.ok.noex b o e z
      · exact absurd (aV hl z) (eU _)
  case exfs =>
    intro hs;rcases aK.mp hb with rfl|hb
    · exact absurd (Cj _ hs) (eU _)
    · rcases aK.mp (I.stkSub b hs) with z|z
      · exact(f2 b hb).2.1 z
      · exact(f2 b hb).2.2.1 z
  case funs=>exact Heap.FunFrames.of_keeps (fun b o e _=>⟨o,old b o e,rfl⟩) I.stack
  case loc =>
    intro j y v hj hv hvis;obtain⟨mX,_,lX⟩:=I.loc;unfold TJ at hv;rw[bE] at hv;cases hs:sub[j]? with
    |none=>rw[hs] at hv;cases hv
    |some o =>
      rw[hs] at hv;cases o with
      |none=>cases hv
      |some i =>
        obtain⟨hN,hc,hf⟩:=S.cap j y i hj hs;have Hn:σ[i]?=some (some v):=by
          have z:(match σ[i]? with|some v=>v|none=>none)=some v:=bQ hv;cases q:σ[i]? with
          |none=>rw[q] at z;cases z
          |some w=>rw[q] at z;rw[show w=some v from z]
        obtain⟨u,ru,hl⟩:=lX i y v hN Hn (.inr (.inl hc));refine⟨u,ru,?_⟩;have kc:(relabel scope X.env).names.lookup y=some .cell:=jS I.ok.kind hc hf;rcases hl with ⟨z,_⟩|⟨_,c,e,ic⟩
        · have z':X.env.scope.names.lookup y=some .local :=z
          rw[hc] at z';cases z'
        · obtain⟨c',e'⟩:=pT _ (dQ hf) rfl
          have:=oJ _ _ e';rw[e] at this;cases this;refine .inr ⟨.inl kc,c,e',?_⟩;obtain⟨oc,h1,h2⟩:=ic;exact⟨oc,Db _ _ h1,h2⟩
  case cell =>
    obtain⟨v,oc,h1,h2⟩:=I.cell x c (oJ x c e);exact⟨v,oc,Db _ _ h1,h2⟩
  case pin =>
    obtain⟨p1,p2,p3,p4,p5⟩:=I.pin p hp;refine⟨Db _ _ p1,p2,aW (fm (aP p1)),fun hs=>?_,p5⟩;rcases aK.mp (I.stkSub _ hs) with z|z
    · exact p3 z
    · exact p4 z
  case len =>
    show(TJ sub σ).length=N'.length;unfold TJ;rw[aE];exact S.len
theorem YW{C D:Addr}{s₀:Shared}{s':Shared}{σ':L2.St}{H':Hp}{ys:List V}{us:List Value}{k:Nat}{oC:Obj}(I:Inv X nJ σ H2 s₂)
    (Ad:∀b o,s₂.heap.get? b=some o->s₀.heap.get? b=some o) (AI:s₀.os=s₂.os) (hD:s₂.heap.objs.size<=D) (hC:s₂.heap.objs.size<=C) (Dc:D≠C) (f2:∀b∈fp,tj X nJ H2 b)
    (I':Inv (cxC X N' scope cl C D fp s₀ H2) nJ σ' H' s') (hn:H' D=none) (hy:s'.heap.get? D=some { cls:=.type "list",data:=.seq us.toArray k }) (rv:zP ys us) (hz:ys.length<=sizeLine)
    (ho:s'.heap.get? C=some oC) (hd:∀v,oC.data≠.cell v):Inv X (nJ++[(C,oC)]) σ (upd H' D (.lst ys)) s'/\tj X nJ (upd H' D (.lst ys)) C:=by
  have neD:∀b o,s₂.heap.get? b=some o->b≠D:=fun b o e=>aW (aV (aP e) hD);have nm:∀b o,s₂.heap.get? b=some o->b∉fp->b∉D::fp:=fun b o e h z=>(aK.mp z).elim (neD b o e) h;have U:=I'.base;have HC:upd H' D (.lst ys) C=none:=by rw[zq (Ne.symm Dc)];exact I'.free
  have Ao:tj X nJ (upd H' D (.lst ys)) C:=I.fpOk hC HC;have un:Un (frs X.stack) fp H2 (upd H' D (.lst ys)) s₂.heap s'.heap :=
    { keep:=fun b o e n h1 h2=>U.keep b o (Ad b o e) n h1 (nm b o e h2)
      slot:=fun b o e n h1 h2=>U.slot b o (Ad b o e) n h1 (nm b o e h2)
      free:=fun b o e n h2=>by rw[zq (neD b o e)];exact U.free b o (Ad b o e) n (nm b o e h2)
      there:=fun b o e h2=>U.there b o (Ad b o e) (nm b o e h2)
      tups:=fun b xs e=>by have z:=U.tups b xs e;rw[zq (zt z hn)];exact z
      frzs:=fun b o u e=>by have z:=U.frzs b o u e;rw[zq (zt z hn)];exact z
      tbls:=fun b ps e=>by obtain⟨more,z⟩:=U.tbls b ps e;exact⟨more,by rw[zq (zt z hn)];exact z⟩ }
  have hok:HOk X.prog X.w (upd H' D (.lst ys)) s'.heap:=HOk.track I'.hok hn ⟨hz,us,k,rv,hy⟩;have IX:Inv X nJ σ (upd H' D (.lst ys)) s':=I.call' (I'.os.trans AI) un hok I'.bare fun b hb=>⟨(f2 b hb).2.2.2.1,(f2 b hb).2.1,(f2 b hb).2.2.2.2.1,(f2 b hb).2.2.2.2.2⟩
  refine⟨IX.pins_of fun p hp=>?_,Ao⟩;rcases bH.mp hp with hp|hp
  · exact IX.pin p (bG _ hp)
  · rw[aR.mp hp]
    exact⟨ho,HC,Ao.2.1,Ao.2.2.1,hd⟩
end
section
variable{X:Cx}{scope:Scope}{N':List Str}{sub:List (Option Nat)}{x:Str}{px pos:Pos}{pN iter:Expr}{pA:List Expr}{wi:TI}{g:TG}{tt:TT}{te:TE}
theorem CSc.clos{nJ:List (Addr×Obj)}{σ:L2.St}{H:Hp}{s:Shared}(S:CSc X scope N' sub)(I:Inv X nJ σ H s):∃cl,closureFor scope X.env=pure cl/\(∀x c,cl.lookup x=some c->X.env.cells.lookup x=some c)/\∀y∈scope.names,y.2=.free->∃c,cl.lookup y.1=some c :=
 XM fun y hy hf=>I.ok.has y.1 (.inl (S.free y hy hf))
end
structure Blt(mg:Str->Option Value):Prop where
 abs:mg "abs" = none
 len:mg "len" = none
 max:mg "max" = none
 min:mg "min" = none
 divmod:mg "divmod" = none
 repr:mg "repr" = none
 isinstance:mg "isinstance" = none
 all:mg "all" = none
 range:mg "range" = none
 int:mg "int" = none
 bool:mg "bool" = none
 str:mg "str" = none
 tuple:mg "tuple" = none
 list:mg "list" = none
 dict:mg "dict" = none
def sp1(b:V->Hp->VK->Prop):Sp:=fun vs H Q _=>∃x,vs=[x]/\b x H Q
def sp2(b:V->V->Hp->VK->Prop):Sp:=fun vs H Q _=>∃x y,vs=[x,y]/\b x y H Q
def sp3(b:V->V->V->Hp->VK->Prop):Sp:=fun vs H Q _=>∃x y z,vs=[x,y,z]/\b x y z H Q
theorem xI{b:V->Hp->VK->Prop}{p:Str}:∀vs H Q E,sp1 b vs H Q E->vs.length=[p].length:=fun vs H Q E h=>by
 obtain⟨x,rfl,_⟩:=h;rfl
theorem y0{b:V->V->Hp->VK->Prop}{p q:Str}:∀vs H Q E,sp2 b vs H Q E->vs.length=[p,q].length:=fun vs H Q E h=>by
 obtain⟨x,y,rfl,_⟩:=h;rfl
theorem t5{b:V->V->V->Hp->VK->Prop}{p q r:Str}:∀vs H Q E,sp3 b vs H Q E->vs.length=[p,q,r].length:=fun vs H Q E h=>by
 obtain⟨x,y,z,rfl,_⟩:=h;rfl
structure Deed where
 add:Int
 lo:Option Int
 hi:Option Int
 deriving DecidableEq
noncomputable def ov:Option Int->V
 |none=>.non
 |some i=>.int i
noncomputable def Deed.vs(d:Deed):List V:=[.int d.add,ov d.lo,ov d.hi]
def Deed.Ok(d:Deed):Prop:=∀l h,d.lo=some l->d.hi=some h->l<h\/(l=h/\d.add=0)
def Qf(lo:Option Int)(r:Int):Int:=match lo with
 |none=>r
 |some l=>if l>r then l else r
def W9(hi:Option Int)(r:Int):Int:=match hi with
 |none=>r
 |some h=>if h<r then h else r
def Deed.mk'(d:Deed)(v:Int):Int:=W9 d.hi (Qf d.lo (v+d.add))
def Jx(K:FG7)(H:Hp)(x:V)(d:Deed):Prop:=∃a,x=.ref a/\SqT K H a d.vs
def ZZ(K:FG7):Sp:=sp2 fun x y H Q=>∃d v,Jx K H x d/\y=.int v/\Q (.int (d.mk' v)) H
def Pot(H:Hp)(a:Addr):Prop:=∃p0 p1:Int,H a=some (.lst [.int p0,.int p1])/\0<=p0
def Sm(n:Int):Prop:=-(10 ^ 30)<n/\n<10 ^ 30
def Ry(K:FG7):Sp:=sp2 fun x y H Q=>∃a ns k,x=.ref a/\y=.int k/\Scr K H a ns/\0<=k/\k<1000/\∀p H',H p=none->Grow [] H H'->Pot H' p->Q (.ref p) H'
def qQ(_:FG7):Sp:=sp2 fun x y H Q=>∃a m,x=.ref a/\y=.int m/\Pot H a/\0<m/\m<2 ^ 200/\∀n H',0<=n->n<m->Grow [a] H H'->Pot H' a->Q (.int n) H'
def YX(K:FG7):Sp:=sp1 fun x H Q=>∃a ns,x=.ref a/\Scr K H a ns/\ns.length<=63/\∀H',Q (.bl true) H'
theorem szl{n:Nat}(h:Nat.ble n 1000=true):n<=sizeLine:=c7 (zI (aI h))
theorem Grow.shrink{H H':Hp}{l:Addr}(h:H l=none)(g:Grow [l] H H'):Grow [] H H' :=
 ⟨fun b o _ q=>g.keep b o (fun z=>by rw[aR.mp z] at q;rw[h] at q;cases q) q,g.tup,g.frz⟩
theorem Grow.wk{m:List Addr}{H H':Hp}(g:Grow [] H H'):Grow m H H':=g.mono (by simp)
theorem Pot.grow{H H':Hp}{a:Addr}(p:Pot H a)(g:Grow [] H H'):Pot H' a:=by
 obtain⟨u0,u1,hu,hn⟩:=p;exact⟨u0,u1,g.keep _ _ (by simp) hu,hn⟩
theorem Va{i j:Int}(h2:-(2 ^ 60)<j/\j<2 ^ 60):IntMulOk i j:=PySem.IntMulOk.of_right (cH ((PySem.intBits_le_iff (m:=60)).mpr (by obtain⟨a,b⟩:=h2;omega)) (by decide))
noncomputable def t6:List V->List V->Bool
 |[],[]=>true
 |x::xs,y::ys=>eqV x y && t6 xs ys
 |_,_=>false
theorem qR:∀{xs ys:List V},t6 xs ys=true->xs.length=ys.length
 |[],[],_=>rfl
 |x::xs,y::ys,h=>by
  have h':(eqV x y && t6 xs ys)=true:=h;rw[aJ] at h';simp[qR h'.2]
 |[],_::_,h=>by cases h
 |_::_,[],h=>by cases h
theorem YY:∀{xs ys:List V},t6 xs ys=true ↔ xs.length=ys.length/\∀(j:Nat) (x y:V),xs[j]?=some x->ys[j]?=some y->eqV x y=true
 |[],[]=>by simp[t6]
 |x::xs,y::ys=>by
  show(eqV x y && t6 xs ys)=true ↔ _;rw[aJ,YY];constructor
  ·rintro⟨h1,h2,h3⟩;refine⟨by simp[h2],fun j a b ha hb=>?_⟩;cases j with
   |zero=>simp at ha hb;subst ha hb;exact h1
   |succ j=>exact h3 j a b (by simpa using ha) (by simpa using hb)
  ·rintro⟨h1,h2⟩;exact⟨h2 0 x y rfl rfl,by simpa using h1,fun j a b ha hb=>h2 (j+1) a b (by simpa using ha) (by simpa using hb)⟩
 |[],_::_=>by simp[t6]
 |_::_,[]=>by simp[t6]
theorem rT{xs ys:List V}:((aF (min xs.length ys.length)).all (fun j=>match xs[j]?,ys[j]? with|some x,some y=>eqV x y|_,_=>true) && xs.length == ys.length)=t6 xs ys:=by
 rw[dh,aJ,bR,beq_iff_eq,YY];constructor
 ·rintro⟨h1,h2⟩;refine⟨h2,fun j x y hx hy=>?_⟩;have hj:j<xs.length:=(aL.mp hx).1;have:=h1 j (bN.mpr (by rw[←h2];simpa using hj));rw[hx,hy] at this;exact this
 ·rintro⟨h1,h2⟩;refine⟨fun j hj=>?_,h1⟩;have pO:=bN.mp hj;have a:j<xs.length:=by omega
  have b:j<ys.length:=by omega
  rw[aC a,aC b];exact h2 j _ _ (aC a) (aC b)
theorem Z0{xs:List V}{us:List Value}(r:zP xs us)(j:Nat)(h:j<us.length):∃x,xs[j]?=some x/\zQ x us[j]:=by
 have hl:=r.length;have hx:xs[j]?=some xs[j]:=aC (by omega);obtain⟨u,e,q⟩:=r.get hx;rw[aC h] at e;cases e;exact⟨_,hx,q⟩
theorem Rz{A:Around}{s:Shared}{xs ys:List V}{us ws:List Value}(r1:zP xs us)(r2:zP ys ws)(f1:xs.all w5=true)(f2:ys.all w5=true) :
  ∀j (h1:j<us.toArray.size) (h2:j<ws.toArray.size),SeqAt.EqAt A s us.toArray[j] ws.toArray[j] ((fun j=>match xs[j]?,ys[j]? with|some x,some y=>eqV x y|_,_=>true) j):=by
 intro j h1 h2;obtain⟨x,ex,qx⟩:=Z0 r1 j (by simpa using h1);obtain⟨y,ey,qy⟩:=Z0 r2 j (by simpa using h2);have fx:w5 x=true:=bR.mp f1 x (bA ex);have fy:w5 y=true:=bR.mp f2 y (bA ey);show SeqAt.EqAt A s _ _ (match xs[j]?,ys[j]? with|some x,some y=>eqV x y|_,_=>true);rw[ex,ey];simpa using Rt qx qy fx fy
section
variable{X:Cx}
theorem XN{h:Heap}{a:Addr}{nK:Array Value}(t:IsTup h a nK):h.IsTuple a nK:=t
end
section
variable{X:Cx}{pos:Pos}
theorem jT:∀{bs:List Bool} {us:List Value},zP (bs.map V.bl) us->LSm.BoolsAre us bs
 |[],_,.nil=>.nil
 |b::bs,_,.cons r t=>by
  cases r;exact .cons b (jT t)
theorem vS(oY:X.calm=true):xG X (.builtin "all") (fun xs H Q=>∃(l:Addr) (bs:List Bool),xs=[.ref l]/\SqL X.K H l (bs.map V.bl)/\Q (.bl (bs.all id)) H):=by
 intro nJ s σ H xs us Q I r h;obtain⟨l,bs,rfl,hl,q⟩:=h;obtain⟨u,rfl,rx⟩:=vq r;cases(show u=aN l from rx);obtain⟨vs,rv,pl,_⟩:=I.list hl;have AM:s.heap.IsList l vs.toArray:=pl.isList;have hb:LSm.BoolsAre vs bs:=jT rv;have n5:l<s.heap.objs.size:=by obtain⟨_,e,_⟩:=AM;exact aP e
 refine call_all_walk (gM AM ?_);refine⟨s.heap.objs.size,[s.heap.objs.size,l],[s.heap.objs.size],vs.toArray.size,_,_,fun i=>(bs[i]?).getD true,rfl,Walks.list (A:=X.A.in1) (I.ok.hd oY) _ l (aW n5) vs.toArray,
  ⟨⟨_,aM _ rfl,rfl,rfl⟩,AM.push _⟩,fun i v s' Q' E' hP hQ=>?_,fun h' tk hk=>?_⟩
 ·obtain⟨b,e,rfl⟩:=hb.get i v (by simpa using hP);simp only[e,Option.getD_some] at hQ;exact dq hQ
 ·have e:((aF vs.toArray.size).all fun i=>(bs[i]?).getD true)=bs.all id:=by
   have nR:bs.length=vs.length:=by rw[←rv.length,aE]
   rw[aO,←nR,dh,bR,bR];constructor
   ·intro z b Gm;obtain⟨i,hi,rfl⟩:=gh Gm;have:=z i (bN.mpr hi);simpa[aC hi] using this
   ·intro z i hi;have pU:=bN.mp hi;simpa[aC pU] using z _ (fF pU)
  rw[e];exact⟨.bl (bs.all id),H,I.kept (t':=tk) (h':=h') (LSm.kept_iter hk),rfl,q⟩
end
theorem CSc.of{X:Cx}{scope:Scope}{N':List Str}{sub:List (Option Nat)}(sc:Scope)(NN:List Str)(e:X.env.scope=sc)(en:X.N=NN)
  (h:((scope.names.all fun y=>(y.2 != .free ||sc.names.lookup y.1 == some .cell) && (y.2 != .cell) && (y.2 != .local ||scope.names.lookup y.1 == some .local)) && (sub.length == N'.length) &&
   ((N'.zip sub).all fun p=>match p.2 with|none=>true|some i=>NN[i]? == some p.1 && sc.names.lookup p.1 == some .cell && scope.names.lookup p.1 == some .free))=true)
  (hk:scope.kind=.function):CSc X scope N' sub:=by
 rw[aJ,aJ] at h;obtain⟨⟨h1,h2⟩,h3⟩:=h;have k1:=fun y hy=>bR.mp h1 y hy;refine⟨fun y hy hf=>?_,fun y hy hc=>?_,hk,fun y hy hl=>?_,by simpa using h2,fun j y i hj hs=>?_⟩
 ·have:=k1 y hy;simp only[hf,aJ] at this;have z:=this.1.1;show X.env.scope.names.lookup y.1=_;rw[e];simpa using z
 ·have:=k1 y hy;simp only[hc,aJ] at this;simp at this
 ·have:=k1 y hy;simp only[hl,aJ] at this;simpa using this.2
 ·have hm:(y,some i)∈N'.zip sub:=by
   have:(N'.zip sub)[j]?=some (y,some i):=by
    rw[List.getElem?_zip_eq_some];exact⟨hj,hs⟩
   exact bA this
  have:=bR.mp h3 _ hm;simp only[aJ,beq_iff_eq] at this;rw[e,en];exact⟨this.1.1,this.1.2,this.2⟩
def Deed.Bd(B:Int)(d:Deed):Prop:=(-B<=d.add/\d.add<=B)/\(∀l,d.lo=some l->-B<=l/\l<=B)/\∀h,d.hi=some h->-B<=h/\h<=B
theorem yW{c:Bool}{A B:Prop}(e:c=false)(h:B):if c=true then A else B:=by rw[e];exact yQ h
theorem wy{c:Bool}{A B:Prop}(e:c=true)(h:A):if c=true then A else B:=by rw[e];exact y7 h
theorem TK{K:FG7}{a:Addr}{xs:List V}{g:TG}{tt:TT}{te:TE}{Q:VK}{σ:L2.St}{H:Hp}(Pv:Nat->List V->L2.St->Hp->Prop)(h0:Pv 0 [] σ H)(hl:∀i ys σ H,i<=xs.length->Pv i ys σ H->SqT K H a xs)
  (hs:∀i x ys σ H,xs[i]?=some x->Pv i ys σ H->g x σ H fun σ2 H3=>tt σ2 H3 fun b H4=>if b=true then te σ2 H4 fun y H5=>ys.length<sizeLine/\Pv (i+1) (ys++[y]) σ2 H5 else Pv (i+1) ys σ2 H4)
  (hd:∀ys σ H,Pv xs.length ys σ H->∀l,H l=none->Q (.ref l) (upd H l (.lst ys))) :
  wG (Itt K a) σ H g tt te Q:=by
 refine⟨fun i m ys σ H=>m=xs.length-i/\i<=xs.length/\Pv i ys σ H,⟨xs.length,by simp,cw _,h0⟩,?_⟩;rintro i m ys σ H ⟨rfl,hi,p⟩;have q:=hl i ys σ H hi p;by_cases n5:i<xs.length
 ·refine .inr ⟨⟨xs,xs[i],q,by simp[n5]⟩,Pv (i+1),fun zs σ' H' p'=>⟨xs.length-(i+1),by omega,rfl,n5,p'⟩,fun x H' y=>?_⟩;obtain⟨e,y⟩:=y;subst e;exact hs i x ys σ _ (y xs q) p
 ·have e:i=xs.length:=by omega
  subst e;exact .inl ⟨⟨xs,q,aG _⟩,hd ys σ H p⟩
theorem jU{K:FG7}{a:Addr}{xs:List V}{g:TG}{tt:TT}{te:TE}{Q:VK}{σ:L2.St}{H:Hp}(Pv:Nat->List V->L2.St->Hp->Prop)(h0:Pv 0 [] σ H)(hl:∀i ys σ H,i<=xs.length->Pv i ys σ H->SqL K H a xs)
  (hs:∀i x ys σ H,xs[i]?=some x->Pv i ys σ H->g x σ H fun σ2 H3=>tt σ2 H3 fun b H4=>if b=true then te σ2 H4 fun y H5=>ys.length<sizeLine/\Pv (i+1) (ys++[y]) σ2 H5 else Pv (i+1) ys σ2 H4)
  (hd:∀ys σ H,Pv xs.length ys σ H->∀l,H l=none->Q (.ref l) (upd H l (.lst ys))) :
  wG (Itl K a) σ H g tt te Q:=by
 refine⟨fun i m ys σ H=>m=xs.length-i/\i<=xs.length/\Pv i ys σ H,⟨xs.length,by simp,cw _,h0⟩,?_⟩;rintro i m ys σ H ⟨rfl,hi,p⟩;have q:=hl i ys σ H hi p;by_cases n5:i<xs.length
 ·refine .inr ⟨⟨xs,xs[i],q,by simp[n5]⟩,Pv (i+1),fun zs σ' H' p'=>⟨xs.length-(i+1),by omega,rfl,n5,p'⟩,fun x H' y=>?_⟩;obtain⟨e,y⟩:=y;subst e;exact hs i x ys σ _ (y xs q) p
 ·have e:i=xs.length:=by omega
  subst e;exact .inl ⟨⟨xs,q,aG _⟩,hd ys σ H p⟩
theorem wH{X:Cx}{K:FG7}(h:X.K=K):IxR X (zbK K):=by subst h;exact yP
theorem Deed.Bd.mono{d:Deed}{B C:Int}(b:d.Bd B)(h:B<=C):d.Bd C:=by
 obtain⟨⟨b1,b2⟩,b3,b4⟩:=b;exact⟨⟨by omega,by omega⟩,fun l e=>by have:=b3 l e;omega,fun l e=>by have:=b4 l e;omega⟩
section
variable{X:Cx}
noncomputable def zbM(K:FG7)(Hh:Bool):R2:=fun x y H Q=>∃a b xs ys,x=.ref a/\y=.ref b/\SqL K H a xs/\SqL K H b ys/\xs.all w5=true/\ys.all w5=true/\Q (.bl (if Hh then !t6 xs ys else t6 xs ys)) H
theorem Jy{k:Nat}(hr:Room k X.A):OpR X (fc .NotEq) (zbM X.K true):=by
 intro nJ s σ H x y v u Q I rx ry h;obtain⟨a,b,xs,ys,rfl,rfl,ha,hb,f1,f2,q⟩:=h;cases rx;cases ry;obtain⟨us,r1,t1,_⟩:=I.list ha;obtain⟨ws,r2,t2,_⟩:=I.list hb;by_cases hl:us.length=ws.length
 ·refine SeqAt.RcNeAt.lists t1.isList t2.isList (by simpa using hl) hr.units0 (Rz r1 r2 f1 f2) _ _ _ _ ?_;have e:=rT (xs:=xs) (ys:=ys);have e2:(xs.length == ys.length)=true:=by rw[beq_iff_eq,r1.length,r2.length];exact hl
  rw[e2,mx,show min xs.length ys.length=xs.length by rw[r1.length,r2.length];omega] at e;rw[aO,←r1.length,e];exact⟨.bl _,H,I,rfl,q⟩
 ·refine SeqAt.RcNeAt.lists_lengths t1.isList t2.isList (by simpa using hl) hr.units0 _ _ _ _ ?_;have e:t6 xs ys=false:=by
   cases z:t6 xs ys with
   |false=>rfl
   |true=>exact absurd (by rw[←r1.length,←r2.length];exact qR z) hl
  rw[e] at q;exact⟨.bl _,H,I,rfl,q⟩
theorem Vb{k:Nat}(hr:Room k X.A):OpR X (fc .Eq) (zbM X.K false):=by
 intro nJ s σ H x y v u Q I rx ry h;obtain⟨a,b,xs,ys,rfl,rfl,ha,hb,f1,f2,q⟩:=h;cases rx;cases ry;obtain⟨us,r1,t1,_⟩:=I.list ha;obtain⟨ws,r2,t2,_⟩:=I.list hb;by_cases hl:us.length=ws.length
 ·refine SeqAt.eq_listAt t1.isList t2.isList (by simpa using hl) hr.units0 (Rz r1 r2 f1 f2) ?_;have e:=rT (xs:=xs) (ys:=ys);have e2:(xs.length == ys.length)=true:=by rw[beq_iff_eq,r1.length,r2.length];exact hl
  rw[e2,mx,show min xs.length ys.length=xs.length by rw[r1.length,r2.length];omega] at e;rw[aO,←r1.length,e];exact⟨.bl _,H,I,rfl,q⟩
 ·refine SeqAt.eq_list_lengthsAt t1.isList t2.isList (by simpa using hl) hr.units0 ?_;have e:t6 xs ys=false:=by
   cases z:t6 xs ys with
   |false=>rfl
   |true=>exact absurd (by rw[←r1.length,←r2.length];exact qR z) hl
  rw[e] at q;exact⟨.bl _,H,I,rfl,q⟩
end
theorem Qg{i j:Int}:eqV (.int i) (.int j)=decide (i=j):=by rw[dh];simp[eqV]
theorem vT:∀{xs ys:List Int},t6 (xs.map V.int) (ys.map V.int)=decide (xs=ys)
 |[],[]=>rfl
 |x::xs,y::ys=>by
  show(eqV (.int x) (.int y) && t6 (xs.map V.int) (ys.map V.int))=_;rw[Qg,vT,dh];simp
 |[],_::_=>by simp[t6]
 |_::_,[]=>by simp[t6]
theorem Grow.sqL{H H':Hp}(g:Grow [] H H'){K:FG7}{a:Addr}{xs:List V}(h:SqL K H a xs):SqL K H' a xs:=by
 rcases h with (h|⟨o,h⟩)|h
 ·exact .inl (.inl (g.keep _ _ (by simp) h))
 ·exact .inl (.inr ⟨o,g.frz _ _ _ h⟩)
 ·exact .inr h
section
variable{K:FG7}{a:Addr}{xs:List V}{n:Nat}{tt:TT}{te:TE}{Q:VK}{σ:L2.St}{H:Hp}
theorem jV{p:V->Bool}{f:V->V}{i:Nat}{x:V}(hx:xs[i]?=some x):((xs.take (i+1)).filter p).map f=((xs.take i).filter p).map f++(if p x=true then[f x] else[]):=by
 rw[List.take_add_one,hx,gy,bZ]
 congr 1
 show((([x]:List V)).filter p).map f=_;by_cases c:p x=true
 ·rw[if_pos c,List.filter_cons_of_pos c];rfl
 ·rw[if_neg c,List.filter_cons_of_neg c];rfl
theorem TN{p:V->Bool}{f:V->V}{i:Nat}(h:xs.length<=1000):(((xs.take i).filter p).map f).length<sizeLine:=by
 rw[aE];refine zI ?_;have:=iI p (xs.take i);have:=List.length_take_le i xs;have:(xs.take i).length<=xs.length:=by rw[bT];omega
 omega
theorem TQ{p:V->Bool}{f:V->V}:((xs.take xs.length).filter p).map f=(xs.filter p).map f:=by rw[dG]
theorem rV(p:V->Bool)(f:V->V)(hl:SqL K H a xs)(nR:xs.length<=1000)
  (ht:∀x H' (R:Bool->Hp->Prop),x∈xs->Grow [] H H'->(∀H2,Grow [] H' H2->R (p x) H2)->tt (σ.set n (some x)) H' R)
  (hs:∀x H' (R:VK),x∈xs->p x=true->Grow [] H H'->(∀H2,Grow [] H' H2->R (f x) H2)->te (σ.set n (some x)) H' R)
  (hd:∀H' l,Grow [] H H'->H' l=none->Q (.ref l) (upd H' l (.lst ((xs.filter p).map f)))):wG (Itl K a) σ H (ww n) tt te Q:=by
 refine jU (xs:=xs) (fun i ys σ' H'=>Grow [] H H'/\(σ'=σ\/∃e,σ'=σ.set n e)/\ys=((xs.take i).filter p).map f) ⟨Grow.refl _ _,.inl rfl,rfl⟩ ?_ ?_ ?_
 ·rintro i ys σ' H' _ ⟨g,_⟩;exact g.sqL hl
 ·rintro i x ys σ' H' hx ⟨g,hσ,rfl⟩;have e:σ'.set n (some x)=σ.set n (some x):=by
   rcases hσ with rfl|⟨e,rfl⟩
   ·rfl
   ·rw[mM]
  show tt (σ'.set n (some x)) H' _;rw[e];refine ht x H' _ (bA hx) g fun H2 g2=>?_;by_cases c:p x=true
  ·rw[if_pos c];refine hs x H2 _ (bA hx) c (g.trans g2) fun H3 g3=>⟨TN nR,(g.trans g2).trans g3,.inr ⟨_,rfl⟩,?_⟩
   rw[jV hx,if_pos c]
  ·rw[if_neg c];refine⟨g.trans g2,.inr ⟨_,rfl⟩,?_⟩;rw[jV hx,if_neg c,cS]
 ·rintro ys σ' H' ⟨g,_,rfl⟩ l hl;rw[TQ];exact hd H' l g hl
theorem TR{p:V->Bool}(h:∀x,p x=true):xs.filter p=xs:=List.filter_eq_self.mpr fun x _=>h x
theorem Vc(f:V->V)(hl:SqL K H a xs)(nR:xs.length<=1000)
  (hs:∀x H' (R:VK),x∈xs->Grow [] H H'->(∀H2,Grow [] H' H2->R (f x) H2)->te (σ.set n (some x)) H' R)
  (hd:∀H' l,Grow [] H H'->H' l=none->Q (.ref l) (upd H' l (.lst (xs.map f)))):wG (Itl K a) σ H (ww n) jR te Q :=
 rV (fun _=>true) f hl nR (fun x H' R _ _ k=>k H' (Grow.refl _ _)) (fun x H' R hx _ g k=>hs x H' R hx g k) (fun H' l g hl=>by rw[TR fun _=>rfl];exact hd H' l g hl)
noncomputable def vi(f:Int->Int):V->V
 |.int i=>.int (f i)
 |v=>v
theorem Jz(f:Int->Int)(ns:List Int):(ns.map V.int).map (vi f)=(ns.map f).map V.int:=by
 rw[de,de];rfl
theorem XO{ns:List Int}(f:Int->Int)(hl:SqL K H a (ns.map V.int))(nR:ns.length<=1000)
  (hs:∀i H' (R:VK),i∈ns->Grow [] H H'->(∀H2,Grow [] H' H2->R (.int (f i)) H2)->te (σ.set n (some (.int i))) H' R)
  (hd:∀H' l,Grow [] H H'->H' l=none->Q (.ref l) (upd H' l (.lst ((ns.map f).map V.int)))):wG (Itl K a) σ H (ww n) jR te Q :=
 Vc (vi f) hl (by rw[aE];exact nR) (fun x H' R hx g k=>by obtain⟨i,hi,rfl⟩:=bI.mp hx;exact hs i H' R hi g k) (fun H' l g hl=>by rw[Jz];exact hd H' l g hl)
end
mutual
inductive Dat(K:FG7)(H:Hp):V->PyData->Prop
 |non:Dat K H .non .none
 |bl (b:Bool):Dat K H (.bl b) (.bool b)
 |int (i:Int):Dat K H (.int i) (.int i)
 |tup {a:Addr} {xs:List V} {ds:List PyData}:SqT K H a xs->DatAll K H xs ds->Dat K H (.ref a) (.tuple ds)
 |lst {a:Addr} {xs:List V} {ds:List PyData}:SqL K H a xs->DatAll K H xs ds->Dat K H (.ref a) (.list ds)
inductive DatAll(K:FG7)(H:Hp):List V->List PyData->Prop
 |nil:DatAll K H [] []
 |cons {x:V} {xs:List V} {d:PyData} {ds:List PyData}:Dat K H x d->DatAll K H xs ds->DatAll K H (x::xs) (d::ds)
end
mutual
/-- a bound of the text's length -/
noncomputable def wtD:PyData->Nat
 |.list xs|.tuple xs=>wtAll xs+3
 |.int _=>1921
 |.none|.bool _=>5
 |_=>20000000
noncomputable def wtAll:List PyData->Nat
 |[]=>0
 |x::xs=>wtD x+2+wtAll xs
end
abbrev zcm:=Option (Option Int×Option Int)
noncomputable def oD:Option Int->PyData
 |none=>.none
 |some i=>.int i
section
variable{K:FG7}{a:Addr}{xs:List V}{lo:Int}{n k:Nat}{te:TE}{Q:VK}{σ:L2.St}{H:Hp}
theorem qS(Pv:Nat->List V->Hp->Prop)(h0:Pv 0 [] H)
  (hs:∀i ys H',i<n->Pv i ys H'->te (σ.set k (some (.int (lo+i)))) H' fun y H5=>ys.length<sizeLine/\Pv (i+1) (ys++[y]) H5)
  (hd:∀ys H',Pv n ys H'->∀l,H' l=none->Q (.ref l) (upd H' l (.lst ys))):wG (Itr lo n) σ H (ww k) jR te Q:=by
 refine⟨fun i m ys σ' H'=>m=n-i/\i<=n/\(σ'=σ\/∃e,σ'=σ.set k e)/\Pv i ys H',⟨n,by simp,cw _,.inl rfl,h0⟩,?_⟩;rintro i m ys σ' H' ⟨rfl,hi,hσ,p⟩;by_cases n5:i<n
 ·refine .inr ⟨n5,fun zs σ2 H2=>(σ2=σ\/∃e,σ2=σ.set k e)/\Pv (i+1) zs H2,fun zs σ2 H2 p'=>⟨n-(i+1),by omega,rfl,n5,p'.1,p'.2⟩,fun x H2 y=>?_⟩;obtain⟨e,y⟩:=y;subst e y;have e:σ'.set k (some (V.int (lo+i)))=σ.set k (some (V.int (lo+i))):=by
   rcases hσ with rfl|⟨e,rfl⟩
   ·rfl
   ·rw[mM]
  show if true=true then te (σ'.set k (some (V.int (lo+i)))) H2 (fun y H5=>ys.length<sizeLine/\((σ'.set k (some (V.int (lo+i)))=σ\/∃e,σ'.set k (some (V.int (lo+i)))=σ.set k e)/\Pv (i+1) (ys++[y]) H5)) else((σ'.set k (some (V.int (lo+i)))=σ\/∃e,σ'.set k (some (V.int (lo+i)))=σ.set k e)/\Pv (i+1) ys H2)
  rw[if_pos rfl,e];have e2:(fun(y:V) (H5:Hp)=>ys.length<sizeLine/\((σ.set k (some (V.int (lo+i)))=σ\/∃e,σ.set k (some (V.int (lo+i)))=σ.set k e)/\Pv (i+1) (ys++[y]) H5))=fun y H5=>ys.length<sizeLine/\Pv (i+1) (ys++[y]) H5:=by
   funext y H5
   exact propext ⟨fun z=>⟨z.1,z.2.2⟩,fun z=>⟨z.1,.inr ⟨_,rfl⟩,z.2⟩⟩
  rw[e2];exact hs i ys H2 n5 p
 ·have e:i=n:=by omega
  subst e;exact .inl ⟨aG _,hd ys H' p⟩
theorem uw(Pv:Nat->List V->Hp->Prop)(h0:Pv 0 [] H)(hl:∀i ys H',Pv i ys H'->SqL K H' a xs)
  (hs:∀i x ys H',xs[i]?=some x->Pv i ys H'->te (σ.set k (some x)) H' fun y H5=>ys.length<sizeLine/\Pv (i+1) (ys++[y]) H5)
  (hd:∀ys H',Pv xs.length ys H'->∀l,H' l=none->Q (.ref l) (upd H' l (.lst ys))):wG (Itl K a) σ H (ww k) jR te Q:=by
 refine jU (xs:=xs) (fun i ys σ' H'=>(σ'=σ\/∃e,σ'=σ.set k e)/\Pv i ys H') ⟨.inl rfl,h0⟩ (fun i ys σ' H' _ p=>hl i ys H' p.2) ?_ (fun ys σ' H' p l hl=>hd ys H' p.2 l hl);rintro i x ys σ' H' hx ⟨hσ,p⟩;have e:σ'.set k (some x)=σ.set k (some x):=by
  rcases hσ with rfl|⟨e,rfl⟩
  ·rfl
  ·rw[mM]
 show if true=true then te (σ'.set k (some x)) H' (fun y H5=>ys.length<sizeLine/\((σ'.set k (some x)=σ\/∃e,σ'.set k (some x)=σ.set k e)/\Pv (i+1) (ys++[y]) H5)) else((σ'.set k (some x)=σ\/∃e,σ'.set k (some x)=σ.set k e)/\Pv (i+1) ys H')
 rw[if_pos rfl,e];have e2:(fun(y:V) (H5:Hp)=>ys.length<sizeLine/\((σ.set k (some x)=σ\/∃e,σ.set k (some x)=σ.set k e)/\Pv (i+1) (ys++[y]) H5))=fun y H5=>ys.length<sizeLine/\Pv (i+1) (ys++[y]) H5:=by
  funext y H5
  exact propext ⟨fun z=>⟨z.1,z.2.2⟩,fun z=>⟨z.1,.inr ⟨_,rfl⟩,z.2⟩⟩
 rw[e2];exact hs i x ys H' hx p
end
theorem Grow.less{m m':List Addr}{H H':Hp}(g:Grow m H H')(h:∀b∈m,b∈m'\/H b=none):Grow m' H H' :=
 ⟨fun b o n q=>g.keep b o (fun z=>by
  rcases h b z with w|w
  ·exact n w
  ·rw[w] at q;cases q) q,g.tup,g.frz⟩
theorem Qh{n:Nat}{i:Int}(h0:0<=i)(h:i.toNat<n):ixN n i=some i.toNat:=by
 unfold ixN;rw[if_pos h0,if_pos (by omega)]
theorem zbg{xs:List V}{i:Int}{j:Nat}{v:V}(h:ixN xs.length i=some j)(hv:xs[j]?=some v):atI xs i=some v:=by
 unfold atI;rw[h];exact hv
def yj(K:FG7)(H:Hp)(x:V)(b:List Int):Prop:=∃r,x=.ref r/\SqT K H r (b.map V.int)
theorem Grow.board{m:List Addr}{H H':Hp}(g:Grow m H H'){K:FG7}{x:V}{b:List Int}(h:yj K H x b):yj K H' x b:=by
 obtain⟨r,e,h1⟩:=h;exact⟨r,e,g.sqT h1⟩
noncomputable def qT(d:Deed):PyData:=.tuple [.int d.add,oD d.lo,oD d.hi]
theorem TU{K:FG7}{H:Hp}:∀xs:List Int,DatAll K H (xs.map V.int) (xs.map bX)
 |[]=>.nil
 |x::xs=>.cons (.int x) (TU xs)
def sp4(b:V->V->V->V->Hp->VK->Prop):Sp:=fun vs H Q _=>∃x y z u,vs=[x,y,z,u]/\b x y z u H Q
theorem Z1{b:V->V->V->V->Hp->VK->Prop}{p q r s:Str}:∀vs H Q E,sp4 b vs H Q E->vs.length=[p,q,r,s].length:=fun vs H Q E h=>by
 obtain⟨x,y,z,u,rfl,_⟩:=h;rfl
def yG{α:Type}(R:V->α->Prop):List V->List α->Prop
 |[],[]=>True
 |x::xs,k::ks=>R x k/\yG R xs ks
 |_,_=>False
section
variable{α:Type}{R S:V->α->Prop}
theorem yG.imp(h:∀x k,R x k->S x k):∀{xs:List V} {ks:List α},yG R xs ks->yG S xs ks
 |[],[],_=>trivial
 |_::_,_::_,⟨a,t⟩=>⟨h _ _ a,yG.imp h t⟩
 |[],_::_,z=>z.elim
 |_::_,[],z=>z.elim
theorem yG.len:∀{xs:List V} {ks:List α},yG R xs ks->xs.length=ks.length
 |[],[],_=>rfl
 |_::xs,_::ks,⟨_,t⟩=>congrArg (·+1) (yG.len t)
 |[],_::_,h=>h.elim
 |_::_,[],h=>h.elim
theorem yG.get:∀{xs:List V} {ks:List α} {i:Nat} {x:V},yG R xs ks->xs[i]?=some x->∃k,ks[i]?=some k/\R x k
 |_::_,k::_,0,x,⟨h,_⟩,e=>by
  obtain rfl:=bQ e;exact⟨k,rfl,h⟩
 |_::_,_::_,i+1,x,⟨_,t⟩,e=>yG.get (i:=i) t e
 |[],[],i,x,_,e=>by cases e
 |[],_::_,_,_,h,_=>h.elim
 |_::_,[],_,_,h,_=>h.elim
theorem yG.getR:∀{xs:List V} {ks:List α} {i:Nat} {k:α},yG R xs ks->ks[i]?=some k->∃x,xs[i]?=some x/\R x k
 |x::_,_::_,0,k,⟨h,_⟩,e=>by
  obtain rfl:=bQ e;exact⟨x,rfl,h⟩
 |_::_,_::_,i+1,k,⟨_,t⟩,e=>yG.getR (i:=i) t e
 |[],[],i,k,_,e=>by cases e
 |[],_::_,_,_,h,_=>h.elim
 |_::_,[],_,_,h,_=>h.elim
theorem yG.app:∀{xs ys:List V} {ks js:List α},yG R xs ks->yG R ys js->yG R (xs++ys) (ks++js)
 |[],_,[],_,_,h=>h
 |_::_,_,_::_,_,⟨h,t⟩,q=>⟨h,yG.app t q⟩
 |[],_,_::_,_,h,_=>h.elim
 |_::_,_,[],_,h,_=>h.elim
theorem yG.one{x:V}{k:α}(h:R x k):yG R [x] [k]:=⟨h,trivial⟩
theorem yG.take:∀{xs:List V} {ks:List α} {n:Nat},yG R xs ks->yG R (xs.take n) (ks.take n)
 |[],[],n,_=>by rw[List.take_nil,List.take_nil];trivial
 |_::_,_::_,0,_=>trivial
 |_::_,_::_,n+1,⟨h,t⟩=>⟨h,yG.take t⟩
 |[],_::_,_,h=>h.elim
 |_::_,[],_,h=>h.elim
end
theorem Vd{X:Cx}{K:FG7}(h:X.K=K):xG X (.builtin "len") (fun xs H Q=>∃p ys,xs=[.ref p]/\(SqL K H p ys\/SqT K H p ys)/\Q (.int ys.length) H):=by subst h;exact zv
def sp5(b:V->V->V->V->V->Hp->VK->Prop):Sp:=fun vs H Q _=>∃x y z u w,vs=[x,y,z,u,w]/\b x y z u w H Q
theorem Qi{b:V->V->V->V->V->Hp->VK->Prop}{p q r s t:Str}:∀vs H Q E,sp5 b vs H Q E->vs.length=[p,q,r,s,t].length:=fun vs H Q E h=>by
 obtain⟨x,y,z,u,w,rfl,_⟩:=h;rfl
section
variable{prog:Program}{w:World}{A:Around}{E:VS7}{s:Shared}
theorem Z2{jt t:Addr}{i:Nat}{vs:Array Value}{v:Value}{Q:VS7}(oh:s.heap.IsTupleIter jt t i)(ht:s.heap.IsTuple t vs)(hv:vs[i]?=some v)
  (hQ:∀h',h'.IsTupleIter jt t (i+1)->cP jt s.heap h'->Q v { s with heap:=h' }):wpAny (model prog w) A (cL (.ref jt)) Q E s:=by
 obtain⟨oj,B8,cj,dj⟩:=id oh;obtain⟨ot,DV,_,nt,dt⟩:=ht;unfold cL;refine aA (cA (name:=dZ "__next__") oh.typeIs F.slot_tuple_iterator_next (bW F.slot_tuple_iterator_next oh.typeIs F.entry_tuple_iterator_next ?_ (F.args_tuple_iterator_next_1 _)));show wpAny _ _ (lx (.ref jt) 0 >>= _) _ _ s;refine aA (bS B8 dj (x:=.ref t) rfl ?_);show wpAny _ _ (if(aN t == aU)=true then _ else _) _ _ s;rw[if_neg (show ¬((aN t == aU)=true) by exact aZ)];show wpAny _ _ (lx (.ref jt) 1 >>= _) _ _ s;refine aA (bS B8 dj (x:=.int i 0) rfl ?_);show wpAny _ _ (iG (.ref t) >>= _) _ _ s;refine aA (du DV dt ?_);simp only[bL,hv]
 refine aA (cE B8 dj (by simp) (aB ⟨v,rfl,aB (hQ _ ⟨_,cx _ B8 (cN (cQ dj _)),(gP ..).trans cj,by rw[cQ dj];simp[rawInt]⟩ (cR ..))⟩))
theorem rW{jt t:Addr}{i:Nat}{vs:Array Value}{Q:VS7}(hh:A.handled=none)(oh:s.heap.IsTupleIter jt t i)(ht:s.heap.IsTuple t vs)(hv:vs[i]?=none)
  (hE:∀h' e,fN jt s.heap h'->(∃o,h'.get? e=some o/\o.cls=.type "StopIteration")->E (.ref e) { s with heap:=h' }):wpAny (model prog w) A (cL (.ref jt)) Q E s:=by
 obtain⟨oj,B8,cj,dj⟩:=id oh;obtain⟨ot,DV,_,nt,dt⟩:=ht;unfold cL;refine aA (cA (name:=dZ "__next__") oh.typeIs F.slot_tuple_iterator_next (bW F.slot_tuple_iterator_next oh.typeIs F.entry_tuple_iterator_next ?_ (F.args_tuple_iterator_next_1 _)));show wpAny _ _ (lx (.ref jt) 0 >>= _) _ _ s;refine aA (bS B8 dj (x:=.ref t) rfl ?_);show wpAny _ _ (if(aN t == aU)=true then _ else _) _ _ s;rw[if_neg (show ¬((aN t == aU)=true) by exact aZ)];show wpAny _ _ (lx (.ref jt) 1 >>= _) _ _ s;refine aA (bS B8 dj (x:=.int i 0) rfl ?_);show wpAny _ _ (iG (.ref t) >>= _) _ _ s;refine aA (du DV dt ?_);simp only[bL,hv]
 refine aA (iL (aA (cE B8 dj (by simp) ?_)));show wpAny _ _ (lU (.type "StopIteration") [] >>= _) _ _ _;refine aA ?_;simp only[lU,lV]
 refine aA (bF ?_ (by size_fits));refine aA (m:=dU _ _) (iM (a:=aU) (by first|rfl|(simp only[dU];rfl)) ?_);refine bF ?_ (by size_fits);simp only[m8]
 refine aA (i8 ?_);(first|rw[show A.in1.handled=none from hh]|rw[hh]);exact aA (aB (ly (hE _ _ (((cR ..).extBut.push _).push _) ⟨_,aM _ rfl,rfl⟩)))
end
theorem Ve{prog:Program}{w:World}{A:Around}(hh:A.handled=none)(jt t:Addr)(pd:t≠jt)(vs:Array Value) :
  Draws prog w A jt [jt,t] vs.size (fun i v=>vs[i]?=some v) (fun i h=>h.IsTupleIter jt t i/\h.IsTuple t vs) where
 live:=fun _ _ st=>let ⟨o,ho,_⟩:=st.1;⟨o,ho⟩
 frame:=fun _ _ _ st hk=>⟨st.1.at (hk jt (by simp)),st.2.at (hk t (by simp))⟩
 item:=fun i s Q E hi st hQ=>Z2 st.1 st.2 (v:=vs[i]) (by simp[hi]) fun h' Aj Dd=>hQ _ h' s.toks (by simp[hi]) ⟨Aj,st.2.extBut Dd.extBut pd⟩ Dd
 done:=fun s Q E st hE=>rW hh st.1 st.2 (by simp) hE
theorem Vf{prog:Program}{w:World}{A:Around}(hh:A.handled=none)(jt t:Addr)(vs:Array Value){i:Nat}(hv:vs[i]?=none) :
  Draws prog w A jt [jt,t] i (fun _ _=>True) (fun j h=>j=i/\h.IsTupleIter jt t i/\h.IsTuple t vs) where
 live:=fun _ _ st=>let ⟨o,ho,_⟩:=st.2.1;⟨o,ho⟩
 frame:=fun _ _ _ st hk=>⟨st.1,st.2.1.at (hk jt (by simp)),st.2.2.at (hk t (by simp))⟩
 item:=fun j s Q E hj st hQ=>absurd st.1 (aW hj)
 done:=fun s Q E st hE=>rW hh st.2.1 st.2.2 hv hE
section
variable{X:Cx}{nJ:List (Addr×Obj)}{σ:L2.St}{H:Hp}{s:Shared}{h':Heap}
theorem t9{fp:List Addr}{t':Nat}(I:Inv X nJ σ H s)(k:∀b o,b∉fp->s.heap.get? b=some o->h'.get? b=some o)(ff:∀b∈fp,tj X nJ H b):Inv X nJ σ H { s with heap:=h',toks:=t' }:=by
 have EQ:∀b u,H b=some u->b∉fp:=fun b u e z=>by rw[(ff b z).1] at e;cases e
 refine I.step (g':=s.gens) (d':=s.drawn) (ch:=fp) (fun b hb=>?_) (fun b o _ _ hc e _=>k b o hc e) (fun b o _ _ hc e _=>⟨o.slots,k b o hc e⟩) (fun _ _ _ _ n=>n) (fun b o hc e=>⟨o,k b o hc e⟩) (fun _ _ e=>e) (fun _ _ _ e=>e) (fun b ps e=>⟨#[],by rw[e];simp⟩) (fun m hm=>?_) (fun b u e=>?_) I.bare
 ·obtain⟨_,f1,_,f3,f4,f5⟩:=ff b hb;exact⟨f3,f1,f4,f5⟩
 ·obtain⟨o,es,ep,ho,r⟩:=hm;exact⟨o,es,ep,k _ o (fun z=>(ff _ z).2.1 rfl) ho,r⟩
 ·refine(I.hok b u e).stay (fun c v hc q=>k c v ?_ q) (fun _ q=>q) fun _ _ q=>q;rcases hc with z|z
  ·rw[z];exact EQ b u e
  ·exact EQ c _ z
theorem tL{fp:List Addr}{T:Addr}{o:HO}{t':Nat}(I:Inv X nJ σ H s)(k:∀b o,b∉fp->s.heap.get? b=some o->h'.get? b=some o)(ff:∀b∈fp,tj X nJ H b)(hT:s.heap.objs.size<=T)
  (new:zT X.prog X.w (upd H T o) h' T o):Inv X nJ σ (upd H T o) { s with heap:=h',toks:=t' }:=by
 have hn:H T=none:=I.hok.fresh hT;have I1:Inv X nJ σ H { s with heap:=h',toks:=t' }:=t9 I k ff;have hok:HOk X.prog X.w (upd H T o) h':=HOk.track I1.hok hn new;refine I.step (g':=s.gens) (d':=s.drawn) (ch:=fp) (fun b hb=>?_) (fun b o _ _ hc e _=>k b o hc e) (fun b o _ _ hc e _=>⟨o.slots,k b o hc e⟩) (fun b u _ e n=>by rw[zq (aW (aV (aP e) hT))];exact n) (fun b o hc e=>⟨o,k b o hc e⟩)
  (fun b xs e=>by rw[zq (zt e hn)];exact e) (fun b u xs e=>by rw[zq (zt e hn)];exact e) (fun b ps e=>⟨#[],by rw[zq (zt e hn),e];simp⟩) (fun m hm=>?_) hok I.bare
 ·obtain⟨_,f1,_,f3,f4,f5⟩:=ff b hb;exact⟨f3,f1,f4,f5⟩
 ·obtain⟨o,es,ep,ho,r⟩:=hm;exact⟨o,es,ep,k _ o (fun z=>(ff _ z).2.1 rfl) ho,r⟩
end
section
variable{X:Cx}{elts:List Expr}{kt:Nat}{pt:Pos}
theorem RA:cU "enumerate" = some (.type "enumerate"):=by decide +kernel
end
section
variable{K:FG7}{a:Addr}{xs:List V}{k:Nat}{tt:TT}{te:TE}{Q:VK}{σ:L2.St}{H:Hp}
theorem XQ(p:V->Bool)(Pv:Nat->List V->Hp->Prop)(h0:Pv 0 [] H)(hl:∀i ys H',Pv i ys H'->SqT K H' a xs)
  (ht:∀x H' (R:Bool->Hp->Prop),x∈xs->R (p x) H'->tt (σ.set k (some x)) H' R)
  (hs:∀i x ys H',xs[i]?=some x->Pv i ys H'->p x=true->te (σ.set k (some x)) H' fun y H5=>ys.length<sizeLine/\Pv (i+1) (ys++[y]) H5)
  (hn:∀i x ys H',xs[i]?=some x->Pv i ys H'->p x=false->Pv (i+1) ys H')
  (hd:∀ys H',Pv xs.length ys H'->∀l,H' l=none->Q (.ref l) (upd H' l (.lst ys))):wG (Itt K a) σ H (ww k) tt te Q:=by
 refine TK (xs:=xs) (fun i ys σ' H'=>(σ'=σ\/∃e,σ'=σ.set k e)/\Pv i ys H') ⟨.inl rfl,h0⟩ (fun i ys σ' H' _ p=>hl i ys H' p.2) ?_ (fun ys σ' H' p l hl=>hd ys H' p.2 l hl);rintro i x ys σ' H' hx ⟨hσ,pv⟩;have e:σ'.set k (some x)=σ.set k (some x):=by
  rcases hσ with rfl|⟨e,rfl⟩
  ·rfl
  ·rw[mM]
 show tt (σ'.set k (some x)) H' _;rw[e];refine ht x H' _ (bA hx) ?_;by_cases c:p x=true
 ·rw[if_pos c];have e2:(fun(y:V) (H5:Hp)=>ys.length<sizeLine/\((σ.set k (some x)=σ\/∃e,σ.set k (some x)=σ.set k e)/\Pv (i+1) (ys++[y]) H5))=fun y H5=>ys.length<sizeLine/\Pv (i+1) (ys++[y]) H5:=by
   funext y H5
   exact propext ⟨fun z=>⟨z.1,z.2.2⟩,fun z=>⟨z.1,.inr ⟨_,rfl⟩,z.2⟩⟩
  have z:=hs i x ys H' hx pv c;rw[←e2] at z;exact z
 ·rw[if_neg c];exact⟨.inr ⟨_,rfl⟩,hn i x ys H' hx pv (by simpa using c)⟩
end
section
variable{X:Cx}
theorem Vg{K:FG7}(h:X.K=K):xG X (.builtin "isinstance") (zbL K):=by subst h;exact wa
end
theorem JA{i j:Int}(h:-(2 ^ 60)<i/\i<2 ^ 60):IntMulOk i j:=PySem.IntMulOk.of_left (cH ((PySem.intBits_le_iff (m:=60)).mpr (by obtain⟨a,b⟩:=h;omega)) (by decide))
theorem Qj{k:Nat}:(1:Int)*2 ^ ((k:Int)).toNat=((2 ^ k:Nat):Int):=by rw[bL,Int.one_mul,mR];rfl
def pI(p:Int->Bool):V->Bool
 |.int i=>p i
 |_=>false
theorem Vh(p:Int->Bool):∀ns:List Int,((ns.map V.int).filter (pI p)).map id=(ns.filter p).map V.int
 |[]=>rfl
 |n::ns=>by
  have ih:=Vh p ns;rw[ip] at ih ⊢;rw[cz,eE,eE,show pI p (V.int n)=p n from rfl];split
  ·rw[ih];rfl
  ·exact ih
theorem Qk{K:FG7}{a:Addr}{n:Nat}{tt:TT}{te:TE}{Q:VK}{σ:L2.St}{H:Hp}{ns:List Int}(p:Int->Bool)(hl:SqL K H a (ns.map V.int))(nR:ns.length<=1000)
  (ht:∀i H' (R:Bool->Hp->Prop),i∈ns->Grow [] H H'->(∀H2,Grow [] H' H2->R (p i) H2)->tt (σ.set n (some (.int i))) H' R)
  (hs:∀i H' (R:VK),i∈ns->Grow [] H H'->(∀H2,Grow [] H' H2->R (.int i) H2)->te (σ.set n (some (.int i))) H' R)
  (hd:∀H' l,Grow [] H H'->H' l=none->Q (.ref l) (upd H' l (.lst ((ns.filter p).map V.int)))):wG (Itl K a) σ H (ww n) tt te Q :=
 rV (pI p) id hl (by rw[aE];exact nR) (fun x H' R hx g k=>by obtain⟨i,hi,rfl⟩:=bI.mp hx;exact ht i H' R hi g k)
  (fun x H' R hx _ g k=>by obtain⟨i,hi,rfl⟩:=bI.mp hx;exact hs i H' R hi g k) (fun H' l g hl=>by rw[Vh];exact hd H' l g hl)
section
variable{X:Cx}{nJ:List (Addr×Obj)}{σ:L2.St}{H2:Hp}{s₂:Shared}{it:Addr}{fp:List Addr}{tn:Nat->Heap->Prop}{J:It}{scope:Scope}{cl:List (Str×Addr)}{N':List Str}{sub:List (Option Nat)}
theorem Vi{C D:Addr}{s₀:Shared}{tg:Expr}{pos:Pos}{pN iter:Expr}{pA:List Expr}{g:TG}{tt:TT}{te:TE}{Q:VK}{RR:Value->Addr->Result->Shared->Prop}{W:Nat->Nat->List V->L2.St->Hp->Prop}
  (I:Inv X nJ σ H2 s₂) (oY:X.calm=true) (T:Turn X.prog X.w X.K tg J fp it tn) (f2:∀b∈fp,tj X nJ H2 b) (Bw:∀b∈fp,b<s₂.heap.objs.size)
  (Ad:∀b o,s₂.heap.get? b=some o->s₀.heap.get? b=some o) (AI:s₀.os=s₂.os) (hD:s₂.heap.objs.size<=D) (hC:s₂.heap.objs.size<=C) (Dc:D≠C)
  (oJ:∀x c,cl.lookup x=some c->X.env.cells.lookup x=some c)
  (hg:PG (cxC X N' scope cl C D fp s₀ H2) tg g) (ht:TH (cxC X N' scope cl C D fp s₀ H2) pA tt) (he:PE (cxC X N' scope cl C D fp s₀ H2) pN te)
  (pS:∀i m ys σ' H',W i m ys σ' H'→
   (J.stop i H'/\∀l,H' l=none->Q (.ref l) (upd H' l (.lst ys)))∨
   (J.go i H'/\∃Nn:List V->L2.St->Hp->Prop,(∀zs σ2 H2,Nn zs σ2 H2->∃m',m'<m/\W (i+1) m' zs σ2 H2)∧
    ∀x H2,J.yld i H' x H2->g x σ' H2 fun σ2 H3=>tt σ2 H3 fun b H4=>if b=true then te σ2 H4 fun y H5=>ys.length<sizeLine/\Nn (ys++[y]) σ2 H5 else Nn ys σ2 H4))
  (DW:∀(D C:Addr) (oC:Obj) (m:Str->Option Value) (s':Shared) (Hf:Hp),Inv X (nJ++[(C,oC)]) σ Hf s'->s'.heap.Ns C m->tj X nJ Hf C->Q (.ref D) Hf->RR (.ref D) C (.ok .next) s')
  (n:Nat) (s:Shared) (h:∃i ys us k σ' H',Inv (cxC X N' scope cl C D fp s₀ H2) nJ σ' H' s/\tn i s.heap/\(∀b∈fp,H' b=none)/\H' D=none∧
   s.heap.get? D=some { cls:=.type "list",data:=.seq (us:List Value).toArray k }/\zP ys us/\ys.length<=sizeLine/\W i n ys σ' H') :
  iw (model X.prog X.w) X.A (.compLoop (.ListComp pN [⟨tg,iter,pA,0⟩] scope pos) 0 (.ref it) (.ref D) (compEnvC scope cl C X.env)) (RR (.ref D) C) s:=by
 have Cj:∀b∈frs X.stack,b<s₂.heap.objs.size:=fun b hb=>by
  rcases aK.mp (I.stkSub b hb) with z|z
  ·rw[z];exact I.lt
  ·exact lm fun q=>I.nofs q z
 have cells:∀x c,cl.lookup x=some c->c<s₂.heap.objs.size:=fun x c e=>let ⟨v,q⟩:=I.cell x c (oJ x c e);q.lt
 have Ck:∀p∈X.pn++nJ,p.1<s₂.heap.objs.size:=fun p hp=>aP (I.pin p hp).1;refine jQ (fun n s=>∃i ys us k σ' H',Inv (cxC X N' scope cl C D fp s₀ H2) nJ σ' H' s/\tn i s.heap/\(∀b∈fp,H' b=none)/\H' D=none∧
   s.heap.get? D=some { cls:=.type "list",data:=.seq (us:List Value).toArray k }/\zP ys us/\ys.length<=sizeLine/\W i n ys σ' H') ?_ n h
 rintro n s ⟨i,ys,us,k,σ',H',I',An,fr,hn,hy,rv,hz,w'⟩;have pD:Inv (cxC X N' scope cl C D fp s₀ H2) (nJ++[(D,{ cls:=.type "list",data:=.seq us.toArray k })]) σ' H' s:=I'.pins_of fun p hp=>by
  rcases bH.mp hp with hp|hp
  ·exact I'.pin p (bG _ hp)
  ·rw[aR.mp hp];exact⟨hy,hn,Dc,fun z=>absurd (aV (Cj _ z) hD) (eU _),fun v z=>by cases z⟩
 have Bx:∀{H'':Hp},(∀b∈fp,H'' b=none)->∀b∈fp,tj (cxC X N' scope cl C D fp s₀ H2) (nJ++[(D,{ cls:=.type "list",data:=.seq us.toArray k })]) H'' b:=fun hz b hb=>by
  refine⟨hz b hb,aW (aV (Bw b hb) hC),fun z=>?_,.inl (aX _ hb),fun x c e=>(f2 b hb).2.2.2.2.1 x c (oJ x c e),fun p hp=>?_⟩
  ·rcases aK.mp (I.stkSub b z) with z|z
   ·exact(f2 b hb).2.1 z
   ·exact(f2 b hb).2.2.1 z
  ·rcases bH.mp hp with hp|hp
   ·exact(f2 b hb).2.2.2.2.2 p (cW _ hp)
   ·rcases bH.mp hp with hp|hp
    ·exact(f2 b hb).2.2.2.2.2 p (bG _ hp)
    ·rw[aR.mp hp];exact dB (aV (Bw b hb) hD)
 rcases pS i n ys σ' H' w' with ⟨stop,q⟩|⟨go,Nn,hN,step⟩
 ·refine thn (T.done (cxC X N' scope cl C D fp s₀ H2) rfl rfl rfl oY i _ s σ' H' (fun _ _=>False) pD (Bx fr) An stop) fun r s1 ⟨hr,I1⟩=>?_;subst hr;have Ho:=(I1.pin (D,{ cls:=.type "list",data:=.seq us.toArray k }) (by simp)).1;obtain⟨m,hm,_⟩:=I1.loc;obtain⟨oC,es,ep,Hq,Hr,_⟩:=id hm;obtain⟨IX,Ao⟩:=YW I Ad AI hD hC Dc f2 I1.unpinned hn Ho rv hz Hq (by intro v z;rw[Hr] at z;cases z);exact DW D C oC m s1 _ IX hm Ao (q D hn)
 ·refine thn (T.item (cxC X N' scope cl C D fp s₀ H2) rfl rfl rfl oY i _ s σ' H' (fun _ _=>False) pD (Bx fr) An go) fun r s1 ⟨u,hr,h4⟩=>?_;subst hr;refine thn h4 fun _ s2 ⟨x5,H5,I5,r5,y5,st5,fr5⟩=>?_;have I5':=I5.pinned (Bx fr5) (T.obj _ _ st5);refine thn (hg _ s2 σ' H5 x5 u _ I5' r5 (step x5 H5 y5)) fun _ s3 ⟨σ6,H6,I6,q6⟩=>?_;refine thn (ht _ s3 σ6 H6 _ I6 q6) fun ok s4 ⟨H7,I7,q7⟩=>?_;have stay:∀{σ7:L2.St} {H7:Hp} {s7:Shared},Inv (cxC X N' scope cl C D fp s₀ H2) (nJ++[(D,{ cls:=.type "list",data:=.seq us.toArray k })]++rO fp s2.heap) σ7 H7 s7→
    (∀b∈fp,∀o,s2.heap.get? b=some o->s7.heap.get? b=some o)/\(∀b∈fp,H7 b=none)/\H7 D=none/\s7.heap.get? D=some { cls:=.type "list",data:=.seq us.toArray k }:=fun{σ7 H7 s7} I7=>by
   have d:=I7.pin (D,{ cls:=.type "list",data:=.seq us.toArray k }) (by simp);refine⟨fun b hb o e=>(I7.pin (b,o) (bG _ (bG _ (xq hb e)))).1,fun b hb=>?_,d.2.1,d.1⟩;obtain⟨o,e,_⟩:=T.obj _ _ st5 b hb;exact(I7.pin (b,o) (bG _ (bG _ (xq hb e)))).2.1
  cases ok with
  |false =>
   rw[if_neg (by decide)] at q7 ⊢;obtain⟨k1,k2,k3,k4⟩:=stay I7;obtain⟨m',hm,w7⟩:=hN ys σ6 H7 q7;exact⟨m',hm,i+1,ys,us,k,σ6,H7,I7.unpinned.unpinned,T.keep _ _ _ st5 k1,k2,k3,k4,rv,hz,w7⟩
  |true =>
   rw[if_pos rfl] at q7 ⊢;refine thn (he _ s4 σ6 H7 _ I7 q7) fun v s5 ⟨y,H8,I8,r8,hl8,n8⟩=>?_;obtain⟨k1,k2,k3,k4⟩:=stay I8;refine wpAny_list_append_plain (l:=D) ⟨k,k4⟩ (fun h' pl sb=>?_) (by rw[aO,←rv.length];exact hz);obtain⟨k',e'⟩:=pl;obtain⟨m',hm,w8⟩:=hN _ σ6 H8 n8;refine⟨m',hm,i+1,ys++[y],us++[v],k',σ6,H8,?_,T.keep _ _ _ (T.keep _ _ _ st5 k1) fun b hb o e=>sb.extBut b o (aW (aV (Bw b hb) hD)) e,k2,k3,?_,rv.append (.cons r8 .nil),?_,w8⟩
   ·exact(I8.unpinned.unpinned).turned (it:=D) (t':=s5.toks) (h':=h') (fun b o hb e=>sb.extBut b o hb e) k3 Dc (.inl (by simp)) (fun x c e=>aW (aV (cells x c e) hD)) (fun p hp=>aW (aV (Ck p hp) hD))
   ·rw[e'];simp
   ·rw[bD];exact hl8
theorem se{tg:Expr}{pos:Pos}{pN iter:Expr}{pA:List Expr}{g:TG}{tt:TT}{te:TE}{E:VS7}{Q:VK}{RR:Value->Addr->Result->Shared->Prop}
  (I:Inv X nJ σ H2 s₂) (oY:X.calm=true) (T:Turn X.prog X.w X.K tg J fp it tn) (st:tn 0 s₂.heap) (f2:∀b∈fp,tj X nJ H2 b)
  (S:CSc X scope N' sub) (oJ:∀x c,cl.lookup x=some c->X.env.cells.lookup x=some c) (pT:∀y∈scope.names,y.2=.free->∃c,cl.lookup y.1=some c)
  (hg:∀C D fp s H,PG (cxC X N' scope cl C D fp s H) tg g) (ht:∀C D fp s H,TH (cxC X N' scope cl C D fp s H) pA tt) (he:∀C D fp s H,PE (cxC X N' scope cl C D fp s H) pN te)
  (hW:wG J (TJ sub σ) H2 g tt te Q)
  (DW:∀(D C:Addr) (oC:Obj) (m:Str->Option Value) (s':Shared) (Hf:Hp),Inv X (nJ++[(C,oC)]) σ Hf s'->s'.heap.Ns C m->tj X nJ Hf C->Q (.ref D) Hf->RR (.ref D) C (.ok .next) s') :
  wpAny (model X.prog X.w) X.A (newList []) (fun acc s₃=>wpAny (model X.prog X.w) X.A (newFunctionEnv scope X.env.globals cl [] X.env.qual none .none (some X.env)) (fun Cm s₄ =>
   iw (model X.prog X.w) X.A (.compStart (.ListComp pN [⟨tg,iter,pA,0⟩] scope pos) 0 (.ref it) acc { Cm with scope:=relabel scope X.env }) (RR acc Cm.locals) s₄) E s₃) E s₂:=by
 obtain⟨W,⟨m0,w0⟩,pS⟩:=hW;refine bF (wpAny_newFunctionEnv S.nocell (by intro y hy;simp at hy) (fun h₁ pf ph=>?_) S.kind);dsimp only at pf ph ⊢;have hC:(s₂.heap.push { cls:=.type "list",dict:=none,data:=.seq ([]:List Value).toArray }).objs.size=s₂.heap.objs.size+1:=fM ..;rw[hC] at pf ph ⊢;have hk:∀b o,(s₂.heap.push { cls:=.type "list",dict:=none,data:=.seq ([]:List Value).toArray }).get? b=some o->h₁.get? b=some o:=fun b o e =>
  ph.extBut b o (by have:=aP e;rw[hC] at this;exact aW this) (aD _ e)
 have Bw:∀b∈fp,b<s₂.heap.objs.size:=fun b hb=>by
  obtain⟨o,e,_⟩:=T.obj _ _ st b hb;exact aP e
 have I0:=rS (tk:=s₂.toks+([]:List (Str×Value)).length) I S oJ pT f2 Bw pf hk;have Hs:h₁.get? s₂.heap.objs.size=some { cls:=.type "list",data:=.seq ([]:List Value).toArray 0 }:=hk _ _ (aM _ rfl);have Bt:iw (model X.prog X.w) X.A (.compLoop (.ListComp pN [⟨tg,iter,pA,0⟩] scope pos) 0 (.ref it) (.ref s₂.heap.objs.size) (compEnvC scope cl (s₂.heap.objs.size+1) X.env)) (RR (.ref s₂.heap.objs.size) (s₂.heap.objs.size+1)) { s₂ with heap:=h₁,toks:=s₂.toks+([]:List (Str×Value)).length } :=
  Vi (s₀:={ s₂ with heap:=s₂.heap.push { cls:=.type "list",dict:=none,data:=.seq ([]:List Value).toArray } }) (C:=s₂.heap.objs.size+1) (D:=s₂.heap.objs.size) I oY T f2 Bw (fun b o e=>aD _ e) rfl (aG _) (fz _) (aW (il _)) oJ (hg _ _ _ _ _) (ht _ _ _ _ _) (he _ _ _ _ _) pS DW m0 _
   ⟨0,[],[],0,TJ sub σ,H2,I0,T.keep _ _ _ st fun b hb o e=>hk b o (aD _ e),fun b hb=>(f2 b hb).1,I.hok.fresh (aG _),Hs,.nil,cw _,w0⟩
 exact codeAny_compStart_list Bt (T.self _ _ _ _ _ (T.keep _ _ _ st fun b hb o e=>hk b o (aD _ e)) Bt)
end
section
variable{X:Cx}{scope:Scope}{N':List Str}{sub:List (Option Nat)}{tg:Expr}{pos:Pos}{pN iter:Expr}{pA:List Expr}{wi:TI}{g:TG}{tt:TT}{te:TE}
theorem y8(S:CSc X scope N' sub)(oY:X.calm=true)(hi:PI X tg iter wi)
  (hg:∀cl C D fp s H,PG (cxC X N' scope cl C D fp s H) tg g) (ht:∀cl C D fp s H,TH (cxC X N' scope cl C D fp s H) pA tt) (he:∀cl C D fp s H,PE (cxC X N' scope cl C D fp s H) pN te)
  (hs:∀x,foldedSetIterable iter X.env x=pure x:=by intro _;rfl):PE X (.ListComp pN [⟨tg,iter,pA,0⟩] scope pos) (Qe wi sub g tt te):=by
 intro nJ s σ H Q I h;obtain⟨cl,Bf,oJ,pT⟩:=S.clos I;rw[eval_ListComp];refine i9 (use:=none) rfl hs Bf S.kind S.names (thn (hi nJ s σ H _ I h) fun v s1 h1=>thn h1 fun DO s2 h2=>?_);obtain⟨it,fp,tn,J,H2,e,I2,T,BR,f2,hW⟩:=h2;subst e;refine se (RR:=fun acc C=>compPost (model X.prog X.w) X.A X.xe none (EP X nJ σ Q) acc C) I2 oY T BR f2 S oJ pT (hg cl) (ht cl) (he cl) hW ?_;intro D C oC m s' Hf IX hm Ao q;refine⟨m,hm,fun h' sb=>⟨.ref D,Hf,?_,rfl,q⟩⟩;exact(IX.unpinned).turned (it:=C) (t':=s'.toks) (h':=h') (fun b o hb e=>sb.extBut b o hb e) Ao.1 Ao.2.1 Ao.2.2.2.1 Ao.2.2.2.2.1 Ao.2.2.2.2.2
theorem vU{i:Nat}{y:Str}{py E1:Pos}(hN:X.N.Nodup)(hiN:X.N[i]?=some y)(hy:X.env.scope.names.lookup y=some .local)(S:CSc X scope N' sub)(oY:X.calm=true)(hi:PI X tg iter wi)
  (hg:∀cl C D fp s H,PG (cxC X N' scope cl C D fp s H) tg g) (ht:∀cl C D fp s H,TH (cxC X N' scope cl C D fp s H) pA tt) (he:∀cl C D fp s H,PE (cxC X N' scope cl C D fp s H) pN te)
  (hsw:mG (.ListComp pN [⟨tg,iter,pA,0⟩] scope pos) (some (.Name y py)) E1.line X.env=pure true:=by rfl)
  (hs:∀x,foldedSetIterable iter X.env x=pure x:=by intro _;rfl):PS X (.Assign [.Name y py] (.ListComp pN [⟨tg,iter,pA,0⟩] scope pos) E1) (Jo (Qe wi sub g tt te) (ww i)):=by
 intro nJ s σ H D I h;obtain⟨cl,Bf,oJ,pT⟩:=S.clos I;rw[exec_Assign_Name_used _ _ _ _ hsw];refine aA (iY (aA ?_));show wpAny _ X.A (do let _←comprehension (.ListComp pN [⟨tg,iter,pA,0⟩] scope pos) scope X.env _ (newList []) false (eval iter X.env) (some (mL (.Name y py) X.env))) _ _ s;refine aA (eM (i9 (use:=some (mL (.Name y py) X.env)) (Q:=fun _ s'=>SP X nJ D .next s') rfl hs Bf S.kind S.names
  (thn (hi nJ s σ H _ I h) fun v s1 h1=>thn h1 fun DO s2 h2=>?_)) (fun _ s' hq=>aB (aB hq)) fun _ _ e=>e)
 obtain⟨it,fp,tn,J,H2,e,I2,T,BR,f2,hW⟩:=h2;subst e;refine se (Q:=fun x H1=>ww i x σ H1 D.nx) (RR:=fun acc C=>compPost (model X.prog X.w) X.A X.xe (some (mL (.Name y py) X.env)) (fun _ s'=>SP X nJ D .next s') acc C) I2 oY T BR f2 S oJ pT (hg cl) (ht cl) (he cl) hW ?_;intro L C oC m s' Hf IX hm Ao q;have st:=zj (X:=X) (pos:=py) hN hiN (.inl hy) (.inr hy) _ s' σ Hf (.ref L) (.ref L) D.nx IX rfl q;refine thn st fun _ CW ⟨σ2,H2,I2',q2⟩=>?_;have p:=I2'.pin (C,oC) (by simp);have Dx:CW.heap.Ns C m:=by
  obtain⟨o,es,ep,e1,r⟩:=hm;have z:=(IX.pin (C,oC) (by simp)).1;rw[e1] at z;cases z;exact⟨_,es,ep,p.1,r⟩
 refine⟨m,Dx,fun h' sb=>⟨σ2,H2,?_,q2⟩⟩;exact(I2'.unpinned).turned (it:=C) (t':=CW.toks) (h':=h') (fun b o hb e=>sb.extBut b o hb e) p.2.1 Ao.2.1 Ao.2.2.2.1 Ao.2.2.2.2.1 Ao.2.2.2.2.2
end
section
variable{prog:Program}{w:World}{A:Around}{E:VS7}{s:Shared}
theorem rX{h:Heap}{z TI TO:Addr}{f0:Value}(hz:lJ h z TI TO f0)(v:Value):lJ (h.update z (bV fun x=>x.setIfInBounds 0 v)) z TI TO v/\cP z h (h.update z (bV fun x=>x.setIfInBounds 0 v)) :=
 ⟨cx _ hz rfl,cR ..⟩
theorem JB{h:Heap}{z TI TO:Addr}{f0:Value}(hz:lJ h z TI TO f0):lJ (h.update z (bV fun x=>x.setIfInBounds 1 (.bool false))) z TI TO f0/\cP z h (h.update z (bV fun x=>x.setIfInBounds 1 (.bool false))) :=
 ⟨cx _ hz rfl,cR ..⟩
theorem RB{h:Heap}{T:Addr}{a b:Value}(hp:gz h T a b)(v:Value):gz (h.update T (cB fun x=>x.setIfInBounds 0 v)) T v b/\cP T h (h.update T (cB fun x=>x.setIfInBounds 0 v)) :=
 ⟨cx _ hp rfl,cR ..⟩
theorem JC{h:Heap}{T:Addr}{a b:Value}(hp:gz h T a b)(v:Value):gz (h.update T (cB fun x=>x.setIfInBounds 1 v)) T a v/\cP T h (h.update T (cB fun x=>x.setIfInBounds 1 v)) :=
 ⟨cx _ hp rfl,cR ..⟩
theorem Vj{z TI TO i1 i2:Addr}{CN De:List Addr}{n1 n2 i:Nat}{P1 P2:Nat->Value->Prop}{St1 St2:Nat->Heap->Prop}{a b:Value}{Q:VS7}
  (D1:Draws prog w A i1 CN n1 P1 St1) (D2:Draws prog w A i2 De n2 P2 St2)
  (hz:lJ s.heap z TI TO .none) (hI:gz s.heap TI (.ref i1) (.ref i2)) (hO:gz s.heap TO a b) (DX:St1 i s.heap) (BR:St2 i s.heap) (l1:i<n1) (l2:i<n2)
  (z1:z∉CN) (z2:z∉De) (o1:TO∉CN) (o2:TO∉De) (x12:i2∉CN) (Ht:i1∉De) (E2:i1≠z) (Hu:i2≠z) (Hv:i1≠TO) (io2:i2≠TO) (oz:TO≠z) (tz:TI≠z) (tO:TI≠TO) (ti1:TI≠i1) (ti2:TI≠i2)
  (hQ:∀x y h' tk,P1 i x->P2 i y->lJ h' z TI TO (rawInt s.heap.objs.size)->gz h' TI (.ref i1) (.ref i2)->gz h' TO x y->St1 (i+1) h'->St2 (i+1) h'->gz h' s.heap.objs.size x y->h'.objs.size=s.heap.objs.size+1→
   (∀c o,c≠z->c≠TO->c≠i1->c≠i2->s.heap.get? c=some o->h'.get? c=some o)->Q (.ref s.heap.objs.size) { s with heap:=h',toks:=tk }) :
  wpAny (model prog w) A (Builtin.«zip.__next__» { pos:=[.ref z] }) (fun oE s'=>∃v,oE=Fin.done (Flow.ret v)/\Q v s') E s:=by
 show wpAny _ _ (lx (.ref z) 2 >>= _) _ _ s;refine aA (bS hz rfl (x:=.bool false) rfl ?_);show wpAny _ _ (lx (.ref z) 3 >>= _) _ _ s;refine aA (bS hz rfl (x:=.ref TI) rfl ?_);show wpAny _ _ (iG (.ref TI) >>= _) _ _ s;refine aA (du hI rfl ?_);show wpAny _ _ (c9 (.ref z) >>= _) _ _ s;refine aA ?_;unfold c9;refine aA (bS hz rfl (x:=.none) rfl (aB ?_));show wpAny _ _ (rule _ >>= _) _ _ s;refine aA (iL ?_);show wpAny _ _ (lx (.ref z) 4 >>= _) _ _ s;refine aA (bS hz rfl (x:=.ref TO) rfl ?_);show wpAny _ _ (setField (.ref z) 0 .ellipsis >>= _) _ _ s;refine aA (cE hz rfl (by show 0<5;decide) ?_);obtain⟨BK,B9⟩:=rX hz .ellipsis;revert BK B9;generalize s.heap.update z (bV fun x=>x.setIfInBounds 0 m9)=h0;intro BK B9;have no:∀b,b≠z->∀o,s.heap.get? b=some o->h0.get? b=some o:=fun b hb o e=>(B9.2 b hb).trans e;refine aA ?_;show wpAny _ _ (forIn [(aN i1,0),(aN i2,1)] (none,()) _) _ _ _;rw[fV];refine aA (aA (ka ?_));show wpAny _ _ (cL (.ref i1) >>= fun x=>pure (some x)) _ _ _;refine aA (D1.item i { s with heap:=h0 } _ _ l1 (D1.frame _ _ _ DX fun b hb o e=>no b (fun q=>z1 (q▸hb)) o e) fun x h1 Cn p1 E3 Co=>aB ?_);have Df:gz h1 TO a b:=(Co.2 TO (Ne.symm Hv)).trans (no TO oz _ hO);show wpAny _ _ (iG (.ref TO) >>= _) _ _ _;refine aA (du (s:={ s with heap:=h1,toks:=Cn }) Df rfl ?_);show wpAny _ _ (updateSeq TO _ >>= _) _ _ _;refine aA (mS (s:={ s with heap:=h1,toks:=Cn }) Df rfl ?_);obtain⟨Ez,Br⟩:=RB Df x;revert Ez Br;show gz (h1.update TO (cB fun q=>q.setIfInBounds 0 x)) TO x b->cP TO h1 (h1.update TO (cB fun q=>q.setIfInBounds 0 x))->wpAny _ _ _ _ _ { s with heap:=h1.update TO (cB fun q=>q.setIfInBounds 0 x),toks:=Cn };generalize h1.update TO (cB fun q=>q.setIfInBounds 0 x)=h2;intro Ez Br;refine aA (ng (aB ?_));show wpAny _ _ (forIn [(aN i2,1)] (none,()) _) _ _ _;rw[fV];refine aA (aA (ka ?_));show wpAny _ _ (cL (.ref i2) >>= fun x=>pure (some x)) _ _ _;have k2:∀c o,c≠z->c≠TO->c≠i1->s.heap.get? c=some o->h2.get? c=some o:=fun c o c1 c2 c3 e=>(Br.2 c c2).trans ((Co.2 c c3).trans (no c c1 o e))
 refine aA (D2.item i { s with heap:=h2,toks:=Cn } _ _ l2 (D2.frame _ _ _ BR fun c hc o e=>k2 c o (fun q=>z2 (q▸hc)) (fun q=>o2 (q▸hc)) (fun q=>Ht (q▸hc)) e) fun y h3 DY p2 Hw E4=>aB ?_);have Hx:gz h3 TO x b:=(E4.2 TO (Ne.symm io2)).trans Ez;show wpAny _ _ (iG (.ref TO) >>= _) _ _ _;refine aA (du (s:={ s with heap:=h3,toks:=DY }) Hx rfl ?_);show wpAny _ _ (updateSeq TO _ >>= _) _ _ _;refine aA (mS (s:={ s with heap:=h3,toks:=DY }) Hx rfl ?_);obtain⟨Gn,CO⟩:=JC Hx y;revert Gn CO;show gz (h3.update TO (cB fun q=>q.setIfInBounds 1 y)) TO x y->cP TO h3 (h3.update TO (cB fun q=>q.setIfInBounds 1 y))->wpAny _ _ _ _ _ { s with heap:=h3.update TO (cB fun q=>q.setIfInBounds 1 y),toks:=DY };generalize h3.update TO (cB fun q=>q.setIfInBounds 1 y)=h4;intro Gn CO;refine aA (ng (aB ?_));show wpAny _ _ (forIn [] (none,()) _) _ _ _;rw[List.forIn_nil];refine aB ?_;show wpAny _ _ (iG (.ref TO) >>= _) _ _ _;refine aA (du (s:={ s with heap:=h4,toks:=DY }) Gn rfl ?_);show wpAny _ _ (lV [x,y] >>= _) _ _ _;refine aA ?_;simp only[lV]
 have k4:∀c o,c≠z->c≠TO->c≠i1->c≠i2->s.heap.get? c=some o->h4.get? c=some o:=fun c o c1 c2 c3 c4 e=>(CO.2 c c2).trans ((E4.2 c c4).trans (k2 c o c1 c2 c3 e));have hz4:lJ h4 z TI TO .ellipsis:=(CO.2 z (Ne.symm oz)).trans ((E4.2 z (Ne.symm Hu)).trans ((Br.2 z (Ne.symm oz)).trans ((Co.2 z (Ne.symm E2)).trans BK)));have s1':St1 (i+1) h4:=D1.frame _ _ _ E3 fun c hc o e=>(CO.2 c (fun q=>o1 (q▸hc))).trans ((E4.2 c (fun q=>x12 (q▸hc))).trans ((Br.2 c (fun q=>o1 (q▸hc))).trans e));have s2':St2 (i+1) h4:=D2.frame _ _ _ Hw fun c hc o e=>(CO.2 c (fun q=>o2 (q▸hc))).trans e;have E5:h4.objs.size=s.heap.objs.size:=by rw[CO.1,E4.1,Br.1,Co.1,B9.1]
 refine bF ?_ (by size_fits);have Go:lJ (h4.push { cls:=.type "tuple",data:=.seq #[x,y] }) z TI TO .ellipsis:=aD _ hz4;have Gp:gz (h4.push { cls:=.type "tuple",data:=.seq #[x,y] }) h4.objs.size x y:=aM _ rfl;have Gq:(h4.push { cls:=.type "tuple",data:=.seq #[x,y] }).objs.size=h4.objs.size+1:=fM ..;have k5:∀c o,h4.get? c=some o->(h4.push { cls:=.type "tuple",data:=.seq #[x,y] }).get? c=some o:=fun c o e=>aD _ e;show wpAny _ _ _ _ _ { s with heap:=h4.push { cls:=.type "tuple",data:=.seq #[x,y] },toks:=DY };revert Go Gp Gq k5;generalize h4.push { cls:=.type "tuple",data:=.seq #[x,y] }=h5;intro Go Gp Gq k5;show wpAny _ _ (Builtin.SmallTypes.ownedTupleHandOut (.ref z) (.ref h4.objs.size) >>= fun _=>pure (Fin.done (Flow.ret (.ref h4.objs.size)))) _ _ _;rw[E5] at Gp Gq ⊢;refine aA ?_;show wpAny _ _ (setField (.ref z) 0 (rawInt s.heap.objs.size) >>= fun _=>setField (.ref z) 1 (.bool false)) _ _ _;refine aA (cE (s:={ s with heap:=h5,toks:=DY }) Go rfl (by show 0<5;decide) ?_);obtain⟨hz6,Hy⟩:=rX Go (rawInt s.heap.objs.size);obtain⟨hz7,Hz⟩:=JB hz6;refine cE hz6 rfl (by show 1<5;decide) (aB ⟨_,rfl,?_⟩);have k7:∀c o,c≠z->h4.get? c=some o->((h5.update z (bV fun x=>x.setIfInBounds 0 (rawInt s.heap.objs.size))).update z (bV fun x=>x.setIfInBounds 1 (.bool false))).get? c=some o:=fun c o c1 e=>(Hz.2 c c1).trans ((Hy.2 c c1).trans (k5 c o e));have nT:s.heap.objs.size≠z:=dB (aP hz);exact hQ x y _ DY p1 p2 hz7 (k7 TI _ tz (k4 TI _ tz tO ti1 ti2 hI)) (k7 TO _ oz Gn) (D1.frame _ _ _ s1' fun c hc o e=>k7 c o (fun q=>z1 (q▸hc)) e) (D2.frame _ _ _ s2' fun c hc o e=>k7 c o (fun q=>z2 (q▸hc)) e) ((Hz.2 _ nT).trans ((Hy.2 _ nT).trans Gp)) (by rw[Hz.1,Hy.1,Gq]) fun c o c1 c2 c3 c4 e=>k7 c o c1 (k4 c o c1 c2 c3 c4 e)
theorem TV{z TI TO i1 i2:Addr}{CN:List Addr}{n1:Nat}{P1:Nat->Value->Prop}{St1:Nat->Heap->Prop}{a b:Value}{Q:Fin->Shared->Prop}
  (D1:Draws prog w A i1 CN n1 P1 St1)
  (hz:lJ s.heap z TI TO .none) (hI:gz s.heap TI (.ref i1) (.ref i2)) (hO:gz s.heap TO a b) (DX:St1 n1 s.heap)
  (z1:z∉CN) (E2:i1≠z)
  (hE:∀h' e tk,(∀c o,c≠z->c≠TO->c≠i1->c≠i2->s.heap.get? c=some o->h'.get? c=some o)->(∃o,h'.get? e=some o/\o.cls=.type "StopIteration")->E (.ref e) { s with heap:=h',toks:=tk }) :
  wpAny (model prog w) A (Builtin.«zip.__next__» { pos:=[.ref z] }) Q E s:=by
 show wpAny _ _ (lx (.ref z) 2 >>= _) _ _ s;refine aA (bS hz rfl (x:=.bool false) rfl ?_);show wpAny _ _ (lx (.ref z) 3 >>= _) _ _ s;refine aA (bS hz rfl (x:=.ref TI) rfl ?_);show wpAny _ _ (iG (.ref TI) >>= _) _ _ s;refine aA (du hI rfl ?_);show wpAny _ _ (c9 (.ref z) >>= _) _ _ s;refine aA ?_;unfold c9;refine aA (bS hz rfl (x:=.none) rfl (aB ?_));show wpAny _ _ (rule _ >>= _) _ _ s;refine aA (iL ?_);show wpAny _ _ (lx (.ref z) 4 >>= _) _ _ s;refine aA (bS hz rfl (x:=.ref TO) rfl ?_);show wpAny _ _ (setField (.ref z) 0 .ellipsis >>= _) _ _ s;refine aA (cE hz rfl (by show 0<5;decide) ?_);obtain⟨BK,B9⟩:=rX hz .ellipsis;revert BK B9;generalize s.heap.update z (bV fun x=>x.setIfInBounds 0 m9)=h0;intro BK B9;have no:∀b,b≠z->∀o,s.heap.get? b=some o->h0.get? b=some o:=fun b hb o e=>(B9.2 b hb).trans e;refine aA ?_;show wpAny _ _ (forIn [(aN i1,0),(aN i2,1)] (none,()) _) _ _ _;rw[fV];refine aA (aA (ka ?_));show wpAny _ _ (cL (.ref i1) >>= fun x=>pure (some x)) _ _ _;refine aA (D1.done { s with heap:=h0 } _ _ (D1.frame _ _ _ DX fun b hb o e=>no b (fun q=>z1 (q▸hb)) o e) fun h1 e xb hs=>?_);have Cp:lJ h1 z TI TO .ellipsis:=xb z _ (Ne.symm E2) BK;obtain⟨BV,Br⟩:=rX Cp .none;refine cE (s:={ s with heap:=h1 }) Cp rfl (by show 0<5;decide) (hE _ e s.toks (fun c o c1 c2 c3 c4 q=>(Br.2 c c1).trans (xb c o c3 (no c c1 o q))) ?_);obtain⟨o,ho,hc⟩:=hs;refine⟨o,(Br.2 e fun q=>?_).trans ho,hc⟩;rw[q,Cp] at ho;obtain rfl:=bQ ho;exact absurd hc (by show ¬(cK "zip" = cK "StopIteration");decide)
theorem TW{z TI TO i1 i2:Addr}{CN De:List Addr}{n1 i:Nat}{P1 P2:Nat->Value->Prop}{St1 St2:Nat->Heap->Prop}{a b:Value}{Q:Fin->Shared->Prop}
  (D1:Draws prog w A i1 CN n1 P1 St1) (D2:Draws prog w A i2 De i P2 St2)
  (hz:lJ s.heap z TI TO .none) (hI:gz s.heap TI (.ref i1) (.ref i2)) (hO:gz s.heap TO a b) (DX:St1 i s.heap) (BR:St2 i s.heap) (l1:i<n1)
  (z1:z∉CN) (z2:z∉De) (o2:TO∉De) (Ht:i1∉De) (E2:i1≠z) (Hu:i2≠z) (Hv:i1≠TO) (oz:TO≠z)
  (hE:∀h' e tk,(∀c o,c≠z->c≠TO->c≠i1->c≠i2->s.heap.get? c=some o->h'.get? c=some o)->(∃o,h'.get? e=some o/\o.cls=.type "StopIteration")->E (.ref e) { s with heap:=h',toks:=tk }) :
  wpAny (model prog w) A (Builtin.«zip.__next__» { pos:=[.ref z] }) Q E s:=by
 show wpAny _ _ (lx (.ref z) 2 >>= _) _ _ s;refine aA (bS hz rfl (x:=.bool false) rfl ?_);show wpAny _ _ (lx (.ref z) 3 >>= _) _ _ s;refine aA (bS hz rfl (x:=.ref TI) rfl ?_);show wpAny _ _ (iG (.ref TI) >>= _) _ _ s;refine aA (du hI rfl ?_);show wpAny _ _ (c9 (.ref z) >>= _) _ _ s;refine aA ?_;unfold c9;refine aA (bS hz rfl (x:=.none) rfl (aB ?_));show wpAny _ _ (rule _ >>= _) _ _ s;refine aA (iL ?_);show wpAny _ _ (lx (.ref z) 4 >>= _) _ _ s;refine aA (bS hz rfl (x:=.ref TO) rfl ?_);show wpAny _ _ (setField (.ref z) 0 .ellipsis >>= _) _ _ s;refine aA (cE hz rfl (by show 0<5;decide) ?_);obtain⟨BK,B9⟩:=rX hz .ellipsis;revert BK B9;generalize s.heap.update z (bV fun x=>x.setIfInBounds 0 m9)=h0;intro BK B9;have no:∀b,b≠z->∀o,s.heap.get? b=some o->h0.get? b=some o:=fun b hb o e=>(B9.2 b hb).trans e;refine aA ?_;show wpAny _ _ (forIn [(aN i1,0),(aN i2,1)] (none,()) _) _ _ _;rw[fV];refine aA (aA (ka ?_));show wpAny _ _ (cL (.ref i1) >>= fun x=>pure (some x)) _ _ _;refine aA (D1.item i { s with heap:=h0 } _ _ l1 (D1.frame _ _ _ DX fun b hb o e=>no b (fun q=>z1 (q▸hb)) o e) fun x h1 Cn p1 E3 Co=>aB ?_);have Df:gz h1 TO a b:=(Co.2 TO (Ne.symm Hv)).trans (no TO oz _ hO);show wpAny _ _ (iG (.ref TO) >>= _) _ _ _;refine aA (du (s:={ s with heap:=h1,toks:=Cn }) Df rfl ?_);show wpAny _ _ (updateSeq TO _ >>= _) _ _ _;refine aA (mS (s:={ s with heap:=h1,toks:=Cn }) Df rfl ?_);obtain⟨Ez,Br⟩:=RB Df x;revert Ez Br;show gz (h1.update TO (cB fun q=>q.setIfInBounds 0 x)) TO x b->cP TO h1 (h1.update TO (cB fun q=>q.setIfInBounds 0 x))->wpAny _ _ _ _ _ { s with heap:=h1.update TO (cB fun q=>q.setIfInBounds 0 x),toks:=Cn };generalize h1.update TO (cB fun q=>q.setIfInBounds 0 x)=h2;intro Ez Br;refine aA (ng (aB ?_));show wpAny _ _ (forIn [(aN i2,1)] (none,()) _) _ _ _;rw[fV];refine aA (aA (ka ?_));show wpAny _ _ (cL (.ref i2) >>= fun x=>pure (some x)) _ _ _;have k2:∀c o,c≠z->c≠TO->c≠i1->s.heap.get? c=some o->h2.get? c=some o:=fun c o c1 c2 c3 e=>(Br.2 c c2).trans ((Co.2 c c3).trans (no c c1 o e))
 have BV:lJ h2 z TI TO .ellipsis:=(Br.2 z (Ne.symm oz)).trans ((Co.2 z (Ne.symm E2)).trans BK);refine aA (D2.done { s with heap:=h2,toks:=Cn } _ _ (D2.frame _ _ _ BR fun c hc o e=>k2 c o (fun q=>z2 (q▸hc)) (fun q=>o2 (q▸hc)) (fun q=>Ht (q▸hc)) e) fun h3 e xb hs=>?_);have HA:lJ h3 z TI TO .ellipsis:=xb z _ (Ne.symm Hu) BV;obtain⟨hz4,CO⟩:=rX HA .none;refine cE (s:={ s with heap:=h3,toks:=Cn }) HA rfl (by show 0<5;decide) (hE _ e Cn (fun c o c1 c2 c3 c4 q=>(CO.2 c c1).trans (xb c o c4 (k2 c o c1 c2 c3 q))) ?_);obtain⟨o,ho,hc⟩:=hs;refine⟨o,(CO.2 e fun q=>?_).trans ho,hc⟩;rw[q,HA] at ho;obtain rfl:=bQ ho;exact absurd hc (by show ¬(cK "zip" = cK "StopIteration");decide)
end
section
variable{prog:Program}{w:World}{A:Around}{E:VS7}{s:Shared}
theorem Vk{e:Addr}{Q:Option Value->Shared->Prop}(h:∃o,s.heap.get? e=some o/\o.cls=.type "StopIteration")(q:Q none s) :
  wpAny (model prog w) A (do if←lW (.ref e) (.type "StopIteration") then pure none else throw (.ref e):Sem (Option Value)) Q E s:=by
 refine aA (fG (T:="StopIteration") (b:=true) h (by first|rfl|decide) ?_);rw[if_pos rfl];exact aB q
theorem RC{z TI TO:Addr}{f0:Value}(hz:lJ s.heap z TI TO f0):s.TypeIs (.ref z) "zip":=⟨_,hz,rfl⟩
theorem Vl{z TI TO:Addr}{f0:Value}{Q:Option Value->Shared->Prop}(hz:lJ s.heap z TI TO f0)
  (h:wpAny (model prog w) A.in1 (Builtin.«zip.__next__» { pos:=[.ref z] }) (fun oE s'=>∃v,oE=Fin.done (Flow.ret v)/\Q (some v) s')
   (fun e s'=>∃a,e=.ref a/\(∃o,s'.heap.get? a=some o/\o.cls=.type "StopIteration")/\Q none s') s):wpAny (model prog w) A (pyNext (.ref z)) Q E s:=by
 unfold pyNext;refine aA (gY (cA (name:=dZ "__next__") (RC hz) F.slot_zip_next (bW F.slot_zip_next (RC hz) F.entry_zip_next (eM h (fun oE s' hq=>?_) (fun e s' hq=>?_)) (F.args_zip_next_1 _))))
 ·obtain⟨v,rfl,q⟩:=hq;exact⟨v,rfl,aB q⟩
 ·obtain⟨a,rfl,ho,q⟩:=hq;exact Vk ho q
def w6(h:Heap)(a:Addr)(cn:String)(vs:Array Value):Prop:=(cn = "tuple_iterator" /\h.IsTuple a vs)\/(cn = "list_iterator" /\h.IsList a vs)
theorem w6.iter{a:Addr}{cn:String}{vs:Array Value}{Q:VS7}(h:w6 s.heap a cn vs)
  (q:Q (.ref s.heap.objs.size) { s with heap:=s.heap.push { cls:=.type cn,data:=.fields #[.ref a,.int 0 0] } }):wpAny (model prog w) A (pyIter (.ref a)) Q E s:=by
 rcases h with ⟨rfl,h⟩|⟨rfl,h⟩
 ·exact lO h q
 ·exact gM h q
theorem w6.push{h:Heap}{a:Addr}{cn:String}{vs:Array Value}(x:w6 h a cn vs)(o:Obj):w6 (h.push o) a cn vs:=by
 rcases x with ⟨rfl,x⟩|⟨rfl,x⟩
 ·exact .inl ⟨rfl,x.push o⟩
 ·exact .inr ⟨rfl,x.push o⟩
noncomputable def zpO(c:String)(a:Addr):Obj:={ cls:=.type c,data:=.fields #[.ref a,.int 0 0] }
noncomputable def zpT(a b:Value):Obj:={ cls:=.type "tuple",data:=.seq #[a,b] }
noncomputable def zpZ(TI TO:Addr):Obj:={ cls:=.type "zip",data:=.fields #[.none,.bool false,.bool false,.ref TI,.ref TO] }
noncomputable def zpN(h:Heap)(c1:String)(a:Addr)(c2:String)(b:Addr):Addr :=
 let h1:=h.push (zpO c1 a)
 let h2:=h1.push (zpO c2 b)
 let h3:=h2.push (zpT (.ref h.objs.size) (.ref h1.objs.size))
 (h3.push (zpT .none .none)).objs.size
noncomputable def zpH(h:Heap)(c1:String)(a:Addr)(c2:String)(b:Addr):Heap :=
 let h1:=h.push (zpO c1 a)
 let h2:=h1.push (zpO c2 b)
 let h3:=h2.push (zpT (.ref h.objs.size) (.ref h1.objs.size))
 let h4:=h3.push (zpT .none .none)
 h4.push (zpZ h2.objs.size h3.objs.size)
theorem Ql(a b:Addr)(c1 c2:String)(xs ys:Array Value) :
  Meets (Builtin.«zip.__new__» ⟨[.type "zip",.ref a,.ref b],[]⟩) (fun _ R s=>w6 s.heap a c1 xs/\w6 s.heap b c2 ys∧
   R (.ok (.ret (.ref (zpN s.heap c1 a c2 b)))) { s with heap:=zpH s.heap c1 a c2 b }) :=
 .of_wp fun prog w A R s h=>by
  obtain⟨hp,g,d,tk,os⟩:=s;obtain⟨h1,h2,h⟩:=h;have Bh:=sub_zip;have Bi:w6 (Shared.heap ⟨hp.push { cls:=.type c1,data:=.fields #[.ref a,.int 0 0] },g,d,tk,os⟩) b c2 ys:=h2.push _
  wp_walk using w6.iter h1,w6.iter Bi
  exact⟨_,rfl,h⟩
theorem Vm{a b:Addr}{c1 c2:String}{xs ys:Array Value}{Q:VS7}(ha:w6 s.heap a c1 xs)(hb:w6 s.heap b c2 ys)
  (h:∀h',lJ h' (s.heap.objs.size+4) (s.heap.objs.size+2) (s.heap.objs.size+3) .none->gz h' (s.heap.objs.size+2) (.ref s.heap.objs.size) (.ref (s.heap.objs.size+1))->gz h' (s.heap.objs.size+3) .none .none→
   h'.get? s.heap.objs.size=some (zpO c1 a)->h'.get? (s.heap.objs.size+1)=some (zpO c2 b)->(∀c o,s.heap.get? c=some o->h'.get? c=some o)->Q (.ref (s.heap.objs.size+4)) { s with heap:=h' }) :
  wpAny (model prog w) A (call (.type "zip") [.ref a,.ref b]) Q E s:=by
 refine callType_new F.called_zip (by decide) (F.typeCall_zip_2 _ _) (F.newCall_zip_2 _ _) (fun obj=>F.args_object_init_3 obj _ _) F.entry_zip_new (Ql a b c1 c2 xs ys) ⟨ha,hb,?_⟩;have gs:∀(h:Heap) (o:Obj) (m:Nat),o.isFreed=false->h.objs.size=m->(h.push o).get? m=some o/\(h.push o).objs.size=m+1:=fun h o m f e=>by
  subst e;exact⟨aM _ f,fM ..⟩
 obtain⟨e1,z1⟩:=gs s.heap (zpO c1 a) _ rfl rfl;obtain⟨e2,z2⟩:=gs (s.heap.push (zpO c1 a)) (zpO c2 b) _ rfl z1;obtain⟨e3,z3⟩:=gs ((s.heap.push (zpO c1 a)).push (zpO c2 b)) (zpT (.ref s.heap.objs.size) (.ref (s.heap.push (zpO c1 a)).objs.size)) _ rfl z2;obtain⟨e4,z4⟩:=gs (((s.heap.push (zpO c1 a)).push (zpO c2 b)).push (zpT (.ref s.heap.objs.size) (.ref (s.heap.push (zpO c1 a)).objs.size))) (zpT .none .none) _ rfl z3;obtain⟨e5,z5⟩:=gs ((((s.heap.push (zpO c1 a)).push (zpO c2 b)).push (zpT (.ref s.heap.objs.size) (.ref (s.heap.push (zpO c1 a)).objs.size))).push (zpT .none .none)) (zpZ ((s.heap.push (zpO c1 a)).push (zpO c2 b)).objs.size (((s.heap.push (zpO c1 a)).push (zpO c2 b)).push (zpT (.ref s.heap.objs.size) (.ref (s.heap.push (zpO c1 a)).objs.size))).objs.size) _ rfl z4;have eN:zpN s.heap c1 a c2 b=s.heap.objs.size+4:=z4;have ps:∀(h:Heap) (o:Obj) (c:Addr) (q:Obj),h.get? c=some q->(h.push o).get? c=some q:=fun h o c q e=>aD _ e;have f5:(zpH s.heap c1 a c2 b).get? (s.heap.objs.size+4)=some (zpZ (s.heap.objs.size+2) (s.heap.objs.size+3)):=by
  have:=e5;rw[z2,z3] at this;unfold zpH;dsimp only
  rw[z2,z3];exact this
 have f3:(zpH s.heap c1 a c2 b).get? (s.heap.objs.size+2)=some (zpT (.ref s.heap.objs.size) (.ref (s.heap.objs.size+1))):=by
  have:=ps _ (zpZ ((s.heap.push (zpO c1 a)).push (zpO c2 b)).objs.size (((s.heap.push (zpO c1 a)).push (zpO c2 b)).push (zpT (.ref s.heap.objs.size) (.ref (s.heap.push (zpO c1 a)).objs.size))).objs.size) _ _ (ps _ (zpT .none .none) _ _ e3);unfold zpH;dsimp only
  exact this.trans (by rw[z1])
 have f4:(zpH s.heap c1 a c2 b).get? (s.heap.objs.size+3)=some (zpT .none .none):=ps _ _ _ _ e4;have f1:(zpH s.heap c1 a c2 b).get? s.heap.objs.size=some (zpO c1 a):=ps _ _ _ _ (ps _ _ _ _ (ps _ _ _ _ (ps _ _ _ _ e1)));have f2:(zpH s.heap c1 a c2 b).get? (s.heap.objs.size+1)=some (zpO c2 b):=ps _ _ _ _ (ps _ _ _ _ (ps _ _ _ _ e2));have fk:∀c o,s.heap.get? c=some o->(zpH s.heap c1 a c2 b).get? c=some o:=fun c o e=>ps _ _ _ _ (ps _ _ _ _ (ps _ _ _ _ (ps _ _ _ _ (ps _ _ _ _ e))));show _/\_;rw[eN];exact⟨⟨_,f5,rfl⟩,h _ f5 f3 f4 f1 f2 fk⟩
end
def SqC(c:Bool)(K:FG7)(H:Hp)(a:Addr)(xs:List V):Prop:=match c with
 |true=>SqT K H a xs
 |false=>SqL K H a xs
def vW(c:Bool)(h:Heap)(j a:Addr)(i:Nat):Prop:=match c with
 |true=>h.IsTupleIter j a i
 |false=>h.IsListIter j a i
def TX(c:Bool)(h:Heap)(a:Addr)(vs:Array Value):Prop:=match c with
 |true=>h.IsTuple a vs
 |false=>h.IsList a vs
noncomputable def cnC(c:Bool):String:=match c with
 |true=>"tuple_iterator"
 |false=>"list_iterator"
theorem vW.at{c:Bool}{h h':Heap}{j a:Addr}{i:Nat}(x:vW c h j a i)(k:∀o,h.get? j=some o->h'.get? j=some o):vW c h' j a i:=by
 cases c
 ·exact Heap.IsListIter.at x k
 ·exact Heap.IsTupleIter.at x k
theorem vW.obj{c:Bool}{h:Heap}{j a:Addr}{i:Nat}(x:vW c h j a i):∃o,h.get? j=some o/\∀v,o.data≠.cell v:=by
 cases c
 ·obtain⟨o,e,_,d⟩:=x;exact⟨o,e,fun v z=>by rw[d] at z;cases z⟩
 ·obtain⟨o,e,_,d⟩:=x;exact⟨o,e,fun v z=>by rw[d] at z;cases z⟩
theorem vW.mk{c:Bool}{h:Heap}{j a:Addr}(e:h.get? j=some (zpO (cnC c) a)):vW c h j a 0:=by
 cases c
 ·exact⟨_,e,rfl,rfl⟩
 ·exact⟨_,e,rfl,rfl⟩
theorem TX.src{c:Bool}{h:Heap}{a:Addr}{vs:Array Value}(x:TX c h a vs):w6 h a (cnC c) vs:=by
 cases c
 ·exact .inr ⟨rfl,x⟩
 ·exact .inl ⟨rfl,x⟩
theorem TX.lt{c:Bool}{h:Heap}{a:Addr}{vs:Array Value}(x:TX c h a vs):a<h.objs.size:=by
 cases c
 ·obtain⟨_,e,_⟩:=(show h.IsList a vs from x);exact aP e
 ·obtain⟨_,e,_⟩:=(show h.IsTuple a vs from x);exact aP e
theorem YZ{prog:Program}{w:World}{A:Around}(hh:A.handled=none)(c:Bool)(j t:Addr)(pd:t≠j)(vs:Array Value) :
  Draws prog w A j [j,t] vs.size (fun i v=>vs[i]?=some v) (fun i h=>vW c h j t i/\TX c h t vs):=by
 cases c
 ·exact Draws.list hh j t pd vs
 ·exact Ve hh j t pd vs
theorem XR{prog:Program}{w:World}{A:Around}(hh:A.handled=none)(jt t:Addr)(vs:Array Value){i:Nat}(hv:vs[i]?=none) :
  Draws prog w A jt [jt,t] i (fun _ _=>True) (fun j h=>j=i/\h.IsListIter jt t i/\h.IsList t vs) where
 live:=fun _ _ st=>let ⟨o,ho,_⟩:=st.2.1;⟨o,ho⟩
 frame:=fun _ _ _ st hk=>⟨st.1,st.2.1.at (hk jt (by simp)),st.2.2.at (hk t (by simp))⟩
 item:=fun j s Q E hj st hQ=>absurd st.1 (aW hj)
 done:=fun s Q E st hE=>wpAny_nextOf_list_end hh st.2.1 st.2.2 hv hE
theorem ux{prog:Program}{w:World}{A:Around}(hh:A.handled=none)(c:Bool)(j t:Addr)(vs:Array Value){i:Nat}(hv:vs[i]?=none) :
  Draws prog w A j [j,t] i (fun _ _=>True) (fun k h=>k=i/\vW c h j t i/\TX c h t vs):=by
 cases c
 ·exact XR hh j t vs hv
 ·exact Vf hh j t vs hv
theorem yH{X:Cx}{nJ:List (Addr×Obj)}{σ:L2.St}{H:Hp}{s:Shared}{c:Bool}{a:Addr}{xs:List V}(I:Inv X nJ σ H s)(h:SqC c X.K H a xs):∃nK:List Value,zP xs nK/\TX c s.heap a nK.toArray:=by
 cases c
 ·obtain⟨nK,r,p,_⟩:=I.list h;exact⟨nK,r,p.isList⟩
 ·obtain⟨nK,r,p,_⟩:=I.tuple h;exact⟨nK,r,p⟩
theorem xD{X:Cx}{nJ:List (Addr×Obj)}{σ:L2.St}{H:Hp}{s:Shared}{c:Bool}{a:Addr}{xs ys:List V}(I:Inv X nJ σ H s)(h:SqC c X.K H a xs)(h':SqC c X.K H a ys):xs=ys:=by
 cases c
 ·exact I.list_inj h h'
 ·exact I.tuple_inj h h'
theorem nne{i j:Nat}(h:i≠j):i≠j:=h
theorem Vn{z j t:Nat}(h1:z≠j)(h2:z≠t):z∉([j,t]:List Nat):=by simp[h1,h2]
noncomputable def Itz(K:FG7)(c:Bool)(a:Addr)(d:Bool)(b:Addr):It :=
  ⟨fun i H=>∃xs ys x y,SqC c K H a xs/\SqC d K H b ys/\xs[i]?=some x/\ys[i]?=some y,
   fun i H x H'=>∃T v w,H T=none/\x=.ref T/\H'=upd H T (.tup [v,w])/\(∀xs,SqC c K H a xs->xs[i]?=some v)/\∀ys,SqC d K H b ys->ys[i]?=some w,
   fun i H=>∃xs ys,SqC c K H a xs/\SqC d K H b ys/\(xs.length<=i\/ys.length<=i)⟩
def JD(c d:Bool)(z TI TO i1 i2 a b:Addr)(i:Nat)(h:Heap):Prop :=
 lJ h z TI TO .none/\gz h TI (.ref i1) (.ref i2)/\(∃u v,gz h TO u v)/\vW c h i1 a i/\vW d h i2 b i
theorem nad{n:Nat}(i j:Nat)(h:i≠j):n+i≠n+j:=fun z=>h (Nat.add_left_cancel z)
theorem yd{n:Nat}(i:Nat)(h:i≠0):n+i≠n:=fun z=>h (Nat.add_left_cancel (z.trans (Nat.add_zero n).symm))
theorem TY{P:Program}{w:World}{K:FG7}{elts:List Expr}{kt:Nat}{pt:Pos}(c d:Bool)(a b n:Nat)(ha:a<n)(hb:b<n) :
  Turn P w K (.Tuple elts kt pt) (Itz K c a d b) [n+4,n+3,n+2,n+1,n] (n+4) (JD c d (n+4) (n+2) (n+3) n (n+1) a b) where
 mem:=by simp
 obj:=fun i h st q hq=>by
  obtain⟨hz,hI,⟨u,v,hO⟩,s1,s2⟩:=st;simp only[aK,fH,or_false] at hq;rcases hq with rfl|rfl|rfl|rfl|rfl
  ·exact⟨_,hz,fun v z=>by cases z⟩
  ·exact⟨_,hO,fun v z=>by cases z⟩
  ·exact⟨_,hI,fun v z=>by cases z⟩
  ·exact s2.obj
  ·exact s1.obj
 keep:=fun i h h' st k=>by
  obtain⟨hz,hI,⟨u,v,hO⟩,s1,s2⟩:=st;exact⟨k _ (by simp) _ hz,k _ (by simp) _ hI,⟨u,v,k _ (by simp) _ hO⟩,s1.at (k _ (by simp)),s2.at (k _ (by simp))⟩
 item:=by
  intro X hP hw hK hc i nJ s σ H E I hf st hg;subst hP hw hK;obtain⟨hz,hI,⟨u0,v0,hO⟩,s1,s2⟩:=st;obtain⟨xs,ys,x,y,EA,EB,hx,hy⟩:=hg;obtain⟨ia,ra,pa⟩:=yH I EA;obtain⟨ib,rb,pb⟩:=yH I EB;obtain⟨u,hu,ru⟩:=ra.get hx;obtain⟨v,hv,rv⟩:=rb.get hy;have l1:i<ia.toArray.size:=by have:=(aL.mp hu).1;simpa using this
  have l2:i<ib.toArray.size:=by have:=(aL.mp hv).1;simpa using this
  have an:a≠n:=aW ha;have bn:b≠n+1:=by omega
  refine Vl hz (eM (Vj (A:=X.A.in1) (Q:=fun v s1=>∃u,some v=some u/\wpAny (model X.prog X.w) X.A (iE (.Tuple elts kt pt) (.ref (n+4)) u) (fun _ s2=>∃x H',Inv X nJ σ H' s2/\zQ x u/\(Itz X.K c a d b).yld i H x H'/\JD c d (n+4) (n+2) (n+3) n (n+1) a b (i+1) s2.heap/\∀b∈[n+4,n+3,n+2,n+1,n],H' b=none) E s1) (YZ (A:=X.A.in1) (I.ok.hd hc) c n a an ia.toArray) (YZ (A:=X.A.in1) (I.ok.hd hc) d (n+1) b bn ib.toArray) hz hI hO ⟨s1,pa⟩ ⟨s2,pb⟩ l1 l2
   (Vn (by first|exact nad _ _ (by decide)|exact yd _ (by decide)|exact(yd _ (by decide)).symm|omega) (by first|exact nad _ _ (by decide)|exact yd _ (by decide)|exact(yd _ (by decide)).symm|omega)) (Vn (by first|exact nad _ _ (by decide)|exact yd _ (by decide)|exact(yd _ (by decide)).symm|omega) (by first|exact nad _ _ (by decide)|exact yd _ (by decide)|exact(yd _ (by decide)).symm|omega)) (Vn (by first|exact nad _ _ (by decide)|exact yd _ (by decide)|exact(yd _ (by decide)).symm|omega) (by first|exact nad _ _ (by decide)|exact yd _ (by decide)|exact(yd _ (by decide)).symm|omega)) (Vn (by first|exact nad _ _ (by decide)|exact yd _ (by decide)|exact(yd _ (by decide)).symm|omega) (by first|exact nad _ _ (by decide)|exact yd _ (by decide)|exact(yd _ (by decide)).symm|omega)) (Vn (by first|exact nad _ _ (by decide)|exact yd _ (by decide)|exact(yd _ (by decide)).symm|omega) (by first|exact nad _ _ (by decide)|exact yd _ (by decide)|exact(yd _ (by decide)).symm|omega)) (Vn (by first|exact nad _ _ (by decide)|exact yd _ (by decide)|exact(yd _ (by decide)).symm|omega) (by first|exact nad _ _ (by decide)|exact yd _ (by decide)|exact(yd _ (by decide)).symm|omega)) (nne (by first|exact nad _ _ (by decide)|exact yd _ (by decide)|exact(yd _ (by decide)).symm|omega)) (nne (by first|exact nad _ _ (by decide)|exact yd _ (by decide)|exact(yd _ (by decide)).symm|omega)) (nne (by first|exact nad _ _ (by decide)|exact yd _ (by decide)|exact(yd _ (by decide)).symm|omega)) (nne (by first|exact nad _ _ (by decide)|exact yd _ (by decide)|exact(yd _ (by decide)).symm|omega)) (nne (by first|exact nad _ _ (by decide)|exact yd _ (by decide)|exact(yd _ (by decide)).symm|omega)) (nne (by first|exact nad _ _ (by decide)|exact yd _ (by decide)|exact(yd _ (by decide)).symm|omega)) (nne (by first|exact nad _ _ (by decide)|exact yd _ (by decide)|exact(yd _ (by decide)).symm|omega)) (nne (by first|exact nad _ _ (by decide)|exact yd _ (by decide)|exact(yd _ (by decide)).symm|omega)) (nne (by first|exact nad _ _ (by decide)|exact yd _ (by decide)|exact(yd _ (by decide)).symm|omega)) ?_) (fun oE s' hq=>hq) (fun e s' (hq:False)=>hq.elim))
  intro p q h1 tk hp hq Cp hI1 Df DX BR hT hsz hk;have ep:p=u:=by
   have e1:ia.toArray[i]?=some p:=hp;have e2:ia.toArray[i]?=some u:=by simpa using hu
   rw[e1] at e2;exact bQ e2
  have eq':q=v:=by
   have e1:ib.toArray[i]?=some q:=hq;have e2:ib.toArray[i]?=some v:=by simpa using hv
   rw[e1] at e2;exact bQ e2
  subst ep eq';refine⟨_,rfl,wpAny_letOwnedTupleGo_zip (s:={ s with heap:=h1,toks:=tk }) Cp fun h2 BV o7=>?_⟩;have Ba:∀b o,b∉[n+4,n+3,n+2,n+1,n]->s.heap.get? b=some o->h2.get? b=some o:=fun b o hb q=>by
   have n1:b≠n+4:=fun z=>hb (by simp[z]);have n2:b≠n+3:=fun z=>hb (by simp[z]);have n3:b≠n+1:=fun z=>hb (by simp[z]);have n4:b≠n:=fun z=>hb (by simp[z]);exact(o7.2 b n1).trans (hk b o n1 n2 n4 n3 q)
  have zs:n+4<s.heap.objs.size:=aP hz;have Ca:h2.get? s.heap.objs.size=some { cls:=.type "tuple",data:=.seq #[p,q] }:=(o7.2 _ (dB zs)).trans hT;have hn:H s.heap.objs.size=none:=I.hok.fresh (aG _);have I2:Inv X nJ σ (upd H s.heap.objs.size (.tup [x,y])) { s with heap:=h2,toks:=tk }:=tL (s:=s) I Ba hf (aG _) ⟨by show 2<=sizeLine;decide,[p,q],.cons ru (.cons rv .nil),_,Ca,rfl,0,rfl⟩;refine⟨.ref s.heap.objs.size,upd H s.heap.objs.size (.tup [x,y]),I2,rfl,⟨_,x,y,hn,rfl,rfl,fun zs hz=>by rw[xD I hz EA];exact hx,fun zs hz=>by rw[xD I hz EB];exact hy⟩,⟨BV,(o7.2 _ (nne (by first|exact nad _ _ (by decide)|exact yd _ (by decide)|exact(yd _ (by decide)).symm|omega))).trans hI1,⟨p,q,(o7.2 _ (nne (by first|exact nad _ _ (by decide)|exact yd _ (by decide)|exact(yd _ (by decide)).symm|omega))).trans Df⟩,DX.1.at fun o e=>(o7.2 _ (nne (by first|exact nad _ _ (by decide)|exact yd _ (by decide)|exact(yd _ (by decide)).symm|omega))).trans e,BR.1.at fun o e=>(o7.2 _ (nne (by first|exact nad _ _ (by decide)|exact yd _ (by decide)|exact(yd _ (by decide)).symm|omega))).trans e⟩,fun q hq=>?_⟩;have nb:q≠s.heap.objs.size:=by
   simp only[aK,fH,or_false] at hq;omega
  rw[zq nb];exact(hf q hq).1
 done:=by
  intro X hP hw hK hc i nJ s σ H E I hf st hg;subst hP hw hK;obtain⟨hz,hI,⟨u0,v0,hO⟩,s1,s2⟩:=st;obtain⟨xs,ys,EA,EB,hl⟩:=hg;obtain⟨ia,ra,pa⟩:=yH I EA;obtain⟨ib,rb,pb⟩:=yH I EB;have la:=ra.length;have lb:=rb.length;have an:a≠n:=aW ha;have oE:∀(h':Heap) (e:Addr) (tk:Nat),(∀c o,c≠n+4->c≠n+3->c≠n->c≠n+1->s.heap.get? c=some o->h'.get? c=some o)->Inv X nJ σ H { s with heap:=h',toks:=tk }:=fun h' e tk k =>
   t9 (fp:=[n+4,n+3,n+2,n+1,n]) I (fun b o hb q=>k b o (fun z=>hb (by simp[z])) (fun z=>hb (by simp[z])) (fun z=>hb (by simp[z])) (fun z=>hb (by simp[z])) q) hf
  by_cases h1:xs.length<=i
  ·refine Vl hz (TV (A:=X.A.in1) (ux (A:=X.A.in1) (I.ok.hd hc) c n a ia.toArray (i:=i) (by simp;omega)) hz hI hO ⟨rfl,s1,pa⟩ (Vn (by first|exact nad _ _ (by decide)|exact yd _ (by decide)|exact(yd _ (by decide)).symm|omega) (by first|exact nad _ _ (by decide)|exact yd _ (by decide)|exact(yd _ (by decide)).symm|omega)) (nne (by first|exact nad _ _ (by decide)|exact yd _ (by decide)|exact(yd _ (by decide)).symm|omega)) fun h' e tk k ho=>⟨e,rfl,ho,rfl,oE h' e tk k⟩)
  ·have h2:ys.length<=i:=by omega
   refine Vl hz (TW (A:=X.A.in1) (YZ (A:=X.A.in1) (I.ok.hd hc) c n a an ia.toArray) (ux (A:=X.A.in1) (I.ok.hd hc) d (n+1) b ib.toArray (i:=i) (by simp;omega)) hz hI hO ⟨s1,pa⟩ ⟨rfl,s2,pb⟩ (by simp;omega) (Vn (by first|exact nad _ _ (by decide)|exact yd _ (by decide)|exact(yd _ (by decide)).symm|omega) (by first|exact nad _ _ (by decide)|exact yd _ (by decide)|exact(yd _ (by decide)).symm|omega)) (Vn (by first|exact nad _ _ (by decide)|exact yd _ (by decide)|exact(yd _ (by decide)).symm|omega) (by first|exact nad _ _ (by decide)|exact yd _ (by decide)|exact(yd _ (by decide)).symm|omega)) (Vn (by first|exact nad _ _ (by decide)|exact yd _ (by decide)|exact(yd _ (by decide)).symm|omega) (by first|exact nad _ _ (by decide)|exact yd _ (by decide)|exact(yd _ (by decide)).symm|omega)) (Vn (by first|exact nad _ _ (by decide)|exact yd _ (by decide)|exact(yd _ (by decide)).symm|omega) (by first|exact nad _ _ (by decide)|exact yd _ (by decide)|exact(yd _ (by decide)).symm|omega)) (nne (by first|exact nad _ _ (by decide)|exact yd _ (by decide)|exact(yd _ (by decide)).symm|omega)) (nne (by first|exact nad _ _ (by decide)|exact yd _ (by decide)|exact(yd _ (by decide)).symm|omega)) (nne (by first|exact nad _ _ (by decide)|exact yd _ (by decide)|exact(yd _ (by decide)).symm|omega)) (nne (by first|exact nad _ _ (by decide)|exact yd _ (by decide)|exact(yd _ (by decide)).symm|omega)) fun h' e tk k ho=>⟨e,rfl,ho,rfl,oE h' e tk k⟩)
 self:=fun _ _ _ _ _ st h=>wpAny_pyIter_zip st.1 h
section
variable{X:Cx}{elts:List Expr}{kt:Nat}{pt:Pos}
theorem zbh:cU "zip" = some (.type "zip"):=by decide +kernel
def zcb(K:FG7)(ta:TA):TI:=fun σ H R=>ta σ H fun vs H1=>∃(c d:Bool) (a b:Addr),vs=[.ref a,.ref b]/\(∃xs,SqC c K H1 a xs)/\(∃ys,SqC d K H1 b ys)/\R (Itz K c a d b) H1
end
section
variable{X:Cx}{elts:List Expr}{kt:Nat}{pt:Pos}{K:FG7}
theorem JE{a b:Expr}{ta:TA}{p pos:Pos}(hK:X.K=K)(hg:Gl X "zip")(hm:X.mg "zip" = none)(ha:PA X [a,b] ta)(hs:bY [a,b] X.env=[(false,eval a X.env),(false,eval b X.env)]:=by rfl)(o7:bY [b] X.env=[(false,eval b X.env)]:=by rfl) :
  PI X (.Tuple elts kt pt) (.Call (.Name "zip" p) [a,b] [] pos) (zcb K ta):=by
 subst hK;intro nJ s σ H R I h;refine Call_ (wo I hg hm zbh (cM (thn (ha pos nJ s σ H _ I h) fun us s1 ⟨vs,H1,I1,r1,q1⟩=>?_) (by rw[hs,o7]) (by rw[o7];rfl)));obtain⟨c,d,ra,rb,e,⟨xs,EA⟩,⟨ys,EB⟩,q⟩:=q1;subst e;obtain⟨u,w',rfl,e1,e2⟩:=XG r1;cases(show u=aN ra from e1);cases(show w'=aN rb from e2);obtain⟨ia,va,pa⟩:=yH I1 EA;obtain⟨ib,vb,pb⟩:=yH I1 EB;refine Vm pa.src pb.src fun h' hz hI hO h1 h2 hk=>?_;refine wpAny_pyIter_zip (s:={ s1 with heap:=h' }) hz ?_;have I2:Inv X nJ σ H1 { s1 with heap:=h' }:=I1.kept (t':=s1.toks) hk;refine⟨s1.heap.objs.size+4,[s1.heap.objs.size+4,s1.heap.objs.size+3,s1.heap.objs.size+2,s1.heap.objs.size+1,s1.heap.objs.size],_,_,H1,rfl,I2,TY c d ra rb s1.heap.objs.size pa.lt pb.lt,⟨hz,hI,⟨_,_,hO⟩,.mk h1,.mk h2⟩,fun b hb=>?_,q⟩;have Dy:s1.heap.objs.size<=b:=by
  simp only[aK,fH,or_false] at hb;rcases hb with rfl|rfl|rfl|rfl|rfl <;> first|exact iR _ _|exact aG _
 exact I1.fpOk Dy (I1.hok.fresh Dy)
end
section
variable{K:FG7}{a b:Addr}{c d:Bool}{xs ys:List V}{g:TG}{tt:TT}{te:TE}{tb:TS}{D:Ends}{Q:VK}{σ:L2.St}{H:Hp}
theorem Qm(Pv:Nat->L2.St->Hp->Prop)(h0:Pv 0 σ H)(hl:∀i σ H,Pv i σ H->SqC c K H a xs/\SqC d K H b ys)
  (hs:∀i x y σ H T,xs[i]?=some x->ys[i]?=some y->Pv i σ H->H T=none->g (.ref T) σ (upd H T (.tup [x,y])) fun σ2 H2=>tb { D with nx:=Pv (i+1),ct:=Pv (i+1),bk:=D.nx } σ2 H2) (hd:∀σ H,Pv (min xs.length ys.length) σ H->D.nx σ H) :
  ∃W:Nat->Nat->L2.St->Hp->Prop,(∃m,W 0 m σ H)/\∀i m σ H,W i m σ H→
   ((Itz K c a d b).stop i H/\D.nx σ H)\/((Itz K c a d b).go i H/\∃N:L2.St->Hp->Prop,(∀σ' H',N σ' H'->∃m',m'<m/\W (i+1) m' σ' H')/\∀x H',(Itz K c a d b).yld i H x H'->g x σ H' fun σ2 H2=>tb { D with nx:=N,ct:=N,bk:=D.nx } σ2 H2):=by
 refine⟨fun i m σ H=>m=min xs.length ys.length-i/\i<=min xs.length ys.length/\Pv i σ H,⟨min xs.length ys.length,by simp,cw _,h0⟩,?_⟩;rintro i m σ H ⟨rfl,hi,p⟩;obtain⟨q1,q2⟩:=hl i σ H p;by_cases n5:i<min xs.length ys.length
 ·have l1:i<xs.length:=by omega
  have l2:i<ys.length:=by omega
  refine .inr ⟨⟨xs,ys,xs[i],ys[i],q1,q2,by simp[l1],by simp[l2]⟩,Pv (i+1),fun σ' H' p'=>⟨min xs.length ys.length-(i+1),by omega,rfl,n5,p'⟩,fun x H' y=>?_⟩;obtain⟨T,v,w,hT,rfl,rfl,y1,y2⟩:=y;exact hs i v w σ H T (y1 xs q1) (y2 ys q2) p hT
 ·have e:i=min xs.length ys.length:=by omega
  subst e;exact .inl ⟨⟨xs,ys,q1,q2,by omega⟩,hd σ H p⟩
end
section
variable{prog:Program}{w:World}{A:Around}{E:VS7}{s:Shared}
open PySem.AutoSeq1 (wpAny_loadPart')
theorem Vo(t:Addr)(c:Bool)(vs:Array Value) :
  Meets (Builtin.«enumerate.__new__» ⟨[.type "enumerate",.ref t],[]⟩) (fun _ R s=>TX c s.heap t vs∧
   R (.ok (.ret (.ref (s.heap.push (zpO (cnC c) t)).objs.size)))
    { s with heap:=(s.heap.push (zpO (cnC c) t)).push { cls:=.type "enumerate",data:=.fields #[.none,.bool false,.ref s.heap.objs.size,rawInt 0,.none,.none] } }) :=
 .of_wp fun prog w A R s h=>by
  obtain⟨hp,g,d,tk,os⟩:=s;obtain⟨hT,h⟩:=h;have hT':w6 (Shared.heap ⟨hp,g,d,tk,os⟩) t (cnC c) vs:=hT.src;obtain⟨ot,DV⟩:∃o,hp.get? t=some o:=by
   cases c
   ·obtain⟨o,e,_⟩:=(show hp.IsList t vs from hT);exact⟨o,e⟩
   ·obtain⟨o,e,_⟩:=(show hp.IsTuple t vs from hT);exact⟨o,e⟩
  have Bh:=sub_enumerate
  wp_walk using wpAny_loadPart' DV
  refine wpAny_stack_any fun st=>aB ?_;split
  ·rename_i c' _ _ _ _ _;cases(c' == cK "enumerate") <;> (wp_walk using wpAny_loadPart' DV,w6.iter hT') <;> exact⟨_,rfl,h⟩
  ·wp_walk using wpAny_loadPart' DV,w6.iter hT'
   exact⟨_,rfl,h⟩
theorem rY{t:Addr}{c:Bool}{vs:Array Value}{Q:VS7}(ht:TX c s.heap t vs)
  (h:∀h',IsEnum h' (s.heap.objs.size+1) s.heap.objs.size 0 .none->vW c h' s.heap.objs.size t 0->h'.objs.size=s.heap.objs.size+2->(∀b o,s.heap.get? b=some o->h'.get? b=some o)->Q (.ref (s.heap.objs.size+1)) { s with heap:=h' }) :
  wpAny (model prog w) A (call (.type "enumerate") [.ref t]) Q E s:=by
 refine callType_new F.called_enumerate (by decide) (F.typeCall_enumerate_1 _) (F.newCall_enumerate_1 _) (fun obj=>F.args_object_init_2 obj _) F.entry_enumerate_new (Vo t c vs) ⟨ht,?_⟩;have hz:(s.heap.push (zpO (cnC c) t)).objs.size=s.heap.objs.size+1:=fM ..;show _/\_;rw[hz];have he:IsEnum ((s.heap.push (zpO (cnC c) t)).push { cls:=.type "enumerate",data:=.fields #[.none,.bool false,.ref s.heap.objs.size,rawInt 0,.none,.none] }) (s.heap.objs.size+1) s.heap.objs.size 0 .none:=by
  have:=aM (s.heap.push (zpO (cnC c) t)) (o:={ cls:=.type "enumerate",data:=.fields #[.none,.bool false,.ref s.heap.objs.size,rawInt 0,.none,.none] }) rfl;rw[hz] at this;exact this
 exact⟨⟨_,he,rfl⟩,h _ he (.mk (aD _ (aM _ rfl))) (by rw[fM,fM]) fun b o x=>aD _ (aD _ x)⟩
end
noncomputable def TZ(c:Bool)(K:FG7)(a:Addr):It :=
 ⟨fun i H=>∃xs x,SqC c K H a xs/\xs[i]?=some x,fun i H x H'=>∃T v,H T=none/\x=.ref T/\H'=upd H T (.tup [.int i,v])/\∀xs,SqC c K H a xs->xs[i]?=some v,fun i H=>∃xs,SqC c K H a xs/\xs.length<=i⟩
theorem wS{P:Program}{w:World}{K:FG7}{elts:List Expr}{kt:Nat}{pt:Pos}(c:Bool)(a e jt:Addr)(CP:e≠jt)(EC:a≠e)(By:a≠jt) :
  Turn P w K (.Tuple elts kt pt) (TZ c K a) [e,jt] e (fun i h=>(∃old,IsEnum h e jt i old)/\vW c h jt a i) where
 mem:=by simp
 obj:=fun i h st b hb=>by
  obtain⟨⟨old,he⟩,st⟩:=st;simp only[aK,fH,or_false] at hb;rcases hb with rfl|rfl
  ·exact⟨_,he,fun v z=>by cases z⟩
  ·exact st.obj
 keep:=fun i h h' st k=>by
  obtain⟨⟨old,he⟩,st⟩:=st;exact⟨⟨old,k e (by simp) _ he⟩,st.at fun o q=>k jt (by simp) o q⟩
 item:=by
  intro X hP hw hK hc i nJ s σ H E I hf st hg;subst hP hw hK;obtain⟨⟨old,he⟩,oh⟩:=st;obtain⟨xs,x,hq,hx⟩:=hg;obtain⟨nK,rv,p⟩:=yH I hq;obtain⟨u,hu,ru⟩:=rv.get hx;have n5:i<nK.toArray.size:=by have:=(aL.mp hu).1;simpa using this
  refine wpAny_pyNext_enum_itemD (YZ (A:=X.A.in1) (I.ok.hd hc) c jt a By nK.toArray) he ⟨oh,p⟩ n5 CP (by simp[CP,Ne.symm EC]) fun v h1 tk hv Cq Cr hT hsz hk=>?_;have HE:v=u:=by
   have e1:nK.toArray[i]?=some v:=hv;have e2:nK.toArray[i]?=some u:=by simpa using hu
   rw[e1] at e2;exact bQ e2
  subst HE;refine⟨_,rfl,wpAny_letOwnedTupleGo_enum (s:={ s with heap:=h1,toks:=tk+1 }) Cq fun h2 Cs o7=>?_⟩;have Ba:∀b o,b∉[e,jt]->s.heap.get? b=some o->h2.get? b=some o:=fun b o hb q=>by
   have n1:b≠e:=fun z=>hb (by simp[z]);have n2:b≠jt:=fun z=>hb (by simp[z]);exact(o7.2 b n1).trans (hk b o n1 n2 q)
  have eT:s.heap.objs.size≠e:=dB (aP he);have Ca:h2.get? s.heap.objs.size=some { cls:=.type "tuple",data:=.seq #[.int i tk,v] }:=(o7.2 _ eT).trans hT;have hn:H s.heap.objs.size=none:=I.hok.fresh (aG _);have I2:Inv X nJ σ (upd H s.heap.objs.size (.tup [.int i,x])) { s with heap:=h2,toks:=tk+1 }:=tL (s:=s) I Ba hf (aG _) ⟨by show 2<=sizeLine;decide,[.int i tk,v],.cons ⟨_,rfl⟩ (.cons ru .nil),_,Ca,rfl,0,rfl⟩;refine⟨.ref s.heap.objs.size,upd H s.heap.objs.size (.tup [.int i,x]),I2,rfl,⟨_,x,hn,rfl,rfl,fun ys hy=>by rw[xD I hy hq];exact hx⟩,⟨⟨v,by simpa using Cs⟩,?_⟩,fun b hb=>?_⟩
  ·exact Cr.1.at fun o q=>(o7.2 jt (Ne.symm CP)).trans q
  ·have nb:b≠s.heap.objs.size:=by
    obtain⟨oj,B8,_⟩:=oh.obj;simp only[aK,fH,or_false] at hb;rcases hb with rfl|rfl
    ·exact Ne.symm eT
    ·exact aW (aP B8)
   rw[zq nb];exact(hf b hb).1
 done:=by
  intro X hP hw hK hc i nJ s σ H E I hf st hg;subst hP hw hK;obtain⟨⟨old,he⟩,oh⟩:=st;obtain⟨xs,hq,hx⟩:=hg;obtain⟨nK,rv,p⟩:=yH I hq;have hl:=rv.length;refine wpAny_pyNext_enum_endD (ux (A:=X.A.in1) (I.ok.hd hc) c jt a nK.toArray (i:=i) (by simp;omega)) he ⟨rfl,oh,p⟩ fun h' eb=>⟨rfl,?_⟩
  exact t9 (fp:=[e,jt]) (t':=s.toks) I (fun b o hb q=>eb b o (fun z=>hb (by simp[z])) q) hf
 self:=fun _ _ _ _ _ st h=>by
  obtain⟨⟨old,he⟩,_⟩:=st;exact mn he h
section
variable{X:Cx}{elts:List Expr}{kt:Nat}{pt:Pos}{K:FG7}
def JF(c:Bool)(K:FG7)(ta:TA):TI:=fun σ H R=>ta σ H fun vs H1=>∃a xs,vs=[.ref a]/\SqC c K H1 a xs/\R (TZ c K a) H1
theorem tM{a:Expr}{ta:TA}{p pos:Pos}(c:Bool)(hK:X.K=K)(hg:Gl X "enumerate")(hm:X.mg "enumerate" = none)(ha:PA X [a] ta)(hs:bY [a] X.env=[(false,eval a X.env)]:=by rfl) :
  PI X (.Tuple elts kt pt) (.Call (.Name "enumerate" p) [a] [] pos) (JF c K ta):=by
 subst hK;intro nJ s σ H R I h;refine Call_ (wo I hg hm RA (cM (thn (ha pos nJ s σ H _ I h) fun us s1 ⟨vs,H1,I1,r1,q1⟩=>?_) hs rfl));obtain⟨t,xs,e,hq,q⟩:=q1;subst e;obtain⟨u,rfl,e1⟩:=vq r1;cases(show u=aN t from e1);obtain⟨nK,rv,p⟩:=yH I1 hq;refine rY p fun h' he oh _ hk=>?_;refine mn he ?_;have lt:t<s1.heap.objs.size:=p.lt;have I2:Inv X nJ σ H1 { s1 with heap:=h' }:=I1.kept (t':=s1.toks) hk;refine⟨s1.heap.objs.size+1,[s1.heap.objs.size+1,s1.heap.objs.size],_,_,H1,rfl,I2,wS c t (s1.heap.objs.size+1) s1.heap.objs.size (Nat.succ_ne_self _) (aW (fm lt)) (aW lt),⟨⟨_,he⟩,oh⟩,fun b hb=>?_,q⟩;simp only[aK,fH,or_false] at hb;rcases hb with rfl|rfl
 ·exact I1.fpOk (fz _) (I1.hok.fresh (fz _))
 ·exact I1.fpOk (aG _) (I1.hok.fresh (aG _))
end
section
variable{K:FG7}{a:Addr}{c:Bool}{xs:List V}{g:TG}{tt:TT}{te:TE}{tb:TS}{D:Ends}{Q:VK}{σ:L2.St}{H:Hp}
theorem jW(Pv:Nat->L2.St->Hp->Prop)(h0:Pv 0 σ H)(hl:∀i σ H,i<=xs.length->Pv i σ H->SqC c K H a xs)
  (hs:∀i x σ H T,xs[i]?=some x->Pv i σ H->H T=none->g (.ref T) σ (upd H T (.tup [.int i,x])) fun σ2 H2=>tb { D with nx:=Pv (i+1),ct:=Pv (i+1),bk:=D.nx } σ2 H2) (hd:∀σ H,Pv xs.length σ H->D.nx σ H) :
  ∃W:Nat->Nat->L2.St->Hp->Prop,(∃m,W 0 m σ H)/\∀i m σ H,W i m σ H→
   ((TZ c K a).stop i H/\D.nx σ H)\/((TZ c K a).go i H/\∃N:L2.St->Hp->Prop,(∀σ' H',N σ' H'->∃m',m'<m/\W (i+1) m' σ' H')/\∀x H',(TZ c K a).yld i H x H'->g x σ H' fun σ2 H2=>tb { D with nx:=N,ct:=N,bk:=D.nx } σ2 H2):=by
 refine⟨fun i m σ H=>m=xs.length-i/\i<=xs.length/\Pv i σ H,⟨xs.length,by simp,cw _,h0⟩,?_⟩;rintro i m σ H ⟨rfl,hi,p⟩;have q:=hl i σ H hi p;by_cases n5:i<xs.length
 ·refine .inr ⟨⟨xs,xs[i],q,by simp[n5]⟩,Pv (i+1),fun σ' H' p'=>⟨xs.length-(i+1),by omega,rfl,n5,p'⟩,fun x H' y=>?_⟩;obtain⟨T,v,hT,rfl,rfl,y⟩:=y;exact hs i v σ H T (y xs q) p hT
 ·have e:i=xs.length:=by omega
  subst e;exact .inl ⟨⟨xs,q,aG _⟩,hd σ H p⟩
theorem rZ(Pv:Nat->List V->L2.St->Hp->Prop)(h0:Pv 0 [] σ H)(hl:∀i zs σ H,Pv i zs σ H->SqC c K H a xs)
  (hs:∀i x zs σ H T,xs[i]?=some x->Pv i zs σ H->H T=none->g (.ref T) σ (upd H T (.tup [.int i,x])) fun σ2 H3=>tt σ2 H3 fun b H4=>if b=true then te σ2 H4 fun y H5=>zs.length<sizeLine/\Pv (i+1) (zs++[y]) σ2 H5 else Pv (i+1) zs σ2 H4)
  (hd:∀zs σ H,Pv xs.length zs σ H->∀l,H l=none->Q (.ref l) (upd H l (.lst zs))) :
  wG (TZ c K a) σ H g tt te Q:=by
 refine⟨fun i m zs σ H=>m=xs.length-i/\i<=xs.length/\Pv i zs σ H,⟨xs.length,by simp,cw _,h0⟩,?_⟩;rintro i m zs σ H ⟨rfl,hi,p⟩;have q:=hl i zs σ H p;by_cases n5:i<xs.length
 ·refine .inr ⟨⟨xs,xs[i],q,by simp[n5]⟩,Pv (i+1),fun ws σ' H' p'=>⟨xs.length-(i+1),by omega,rfl,n5,p'⟩,fun x H' y=>?_⟩;obtain⟨T,v,hT,rfl,rfl,y1⟩:=y;exact hs i v zs σ H T (y1 xs q) p hT
 ·have e:i=xs.length:=by omega
  subst e;exact .inl ⟨⟨xs,q,aG _⟩,hd zs σ H p⟩
end
section
variable{X:Cx}
theorem JG:OpR X (fc .Is) (fun x y H Q=>∃k j:Bool,x=.bl k/\y=.bl j/\Q (.bl (k == j)) H):=by
 intro nJ s σ H x y v u Q I rx ry h;obtain⟨k,j,rfl,rfl,q⟩:=h;cases(show v=gV k from rx);cases(show u=gV j from ry);refine wpAny_is_plain (by cases k <;> cases j <;> rfl) (zV I q ?_);cases k <;> cases j <;> rfl
variable{K:FG7}
theorem Vp{es:List Expr}{k:Nat}{pos:Pos}{t:TGs}(n:Nat)(h0:X.K=K)(hc:X.calm=true)(h:PGs X es t)
  (hn:(dR es X.env).length=n) (AL:(dR es X.env).findIdx? (·.1)=none):PG X (.Tuple es k pos) (zaT K n t):=by subst h0;exact xf hc h hn AL
theorem XS(h:X.K=K):xG X (.type "list") (fun xs H Q=>∃p ys,xs=[.ref p]/\(SqL K H p ys\/SqT K H p ys)/\∀l,H l=none->Q (.ref l) (upd H l (.lst ys))):=by subst h;exact uY
end
theorem xU:∀{ns:List Int} {us:List Value},kg us ns->zP (ns.map V.int) us:=by
 intro ns us h;induction h with
 |nil=>exact .nil
 |cons n t _ ih=>exact .cons ⟨t,rfl⟩ ih
section
variable{X:Cx}{K:FG7}
theorem Y0{α β:Type}{f g:α->Option β}:∀{l:List α},(∀x∈l,f x=g x)->l.filterMap f=l.filterMap g
 |[],_=>rfl
 |x::xs,h=>by rw[fu,fu,h x (by simp),Y0 fun y hy=>h y (aX _ hy)]
end
section
variable{X:Cx}{K:FG7}
theorem T3{k:Nat}(hK:X.K=K)(hr:Room k X.A):OpR X (fc .NotEq) (fun x y H Q=>∃a b xs,x=.ref a/\y=.ref b/\SqL K H a xs/\SqL K H b []/\Q (.bl (!xs.isEmpty)) H):=by
 subst hK;intro nJ s σ H x y v u Q I rx ry h;obtain⟨a,b,xs,rfl,rfl,ha,hb,q⟩:=h;cases rx;cases ry;obtain⟨us,r1,t1,_⟩:=I.list ha;obtain⟨ws,r2,t2,_⟩:=I.list hb;have hw:ws.length=0:=r2.length.symm;by_cases hl:us.length=ws.length
 ·refine SeqAt.RcNeAt.lists (e:=fun _=>true) t1.isList t2.isList (by simpa using hl) hr.units0 (fun j h1 h2=>absurd h2 (by simp;omega)) _ _ _ _ ?_;have e:xs=[]:=fg.mp (by rw[r1.length];omega);subst e;have e2:us=[]:=fg.mp (by omega);subst e2;exact⟨.bl _,H,I,rfl,q⟩
 ·refine SeqAt.RcNeAt.lists_lengths t1.isList t2.isList (by simpa using hl) hr.units0 _ _ _ _ ?_;have e:xs.isEmpty=false:=by
   cases xs with
   |nil=>exact absurd (by rw[←r1.length,hw];rfl) hl
   |cons _ _=>rfl
  rw[e] at q;exact⟨.bl _,H,I,rfl,q⟩
end
theorem Qn{xs:List V}{c:Nat}:jN xs none (some (c:Int))=xs.take c:=by
 unfold jN;rw[HT.sIx_none,HT.sIx_nat,kG,nD];by_cases h:c<=xs.length
 ·rw[lG h]
 ·rw[Nat.min_eq_right (by omega),dv (by omega),dv (by omega)]
theorem Qo{xs:List V}{c:Nat}:jN xs (some (c:Int)) none=xs.drop c:=by
 unfold jN;rw[HT.sIx_none,HT.sIx_nat];by_cases h:c<=xs.length
 ·rw[lG h,dv (by rw[ik];exact aG _)]
 ·rw[Nat.min_eq_right (by omega),List.drop_eq_nil_of_le (by omega),List.drop_eq_nil_of_le (by omega)];simp
section
variable{X:Cx}{a:Expr}{ta:TA}{p p2 pos pV:Pos}
def zbi(ta:TA):TE:=fun σ H Q=>ta σ H fun vs H1=>∃n:Nat,vs=[.int n]/\n<=1000/\∀l,H1 l=none->Q (.ref l) (upd H1 l (.lst ((aF n).map fun i:Nat=>V.int i)))
theorem wI(hc:X.calm=true)(E6:Gl X "list")(HF:X.mg "list" = none)(HG:Gl X "range")(HH:X.mg "range" = none)(ha:PA X [a] ta)
  (hs:bY [a] X.env=[(false,eval a X.env)]:=by rfl) (o7:bY [(.Call (.Name "range" p2) [a] [] pV:Expr)] X.env=[(false,eval (.Call (.Name "range" p2) [a] [] pV) X.env)]:=by rfl) :
  PE X (.Call (.Name "list" p) [.Call (.Name "range" p2) [a] [] pV] [] pos) (zbi ta):=by
 intro nJ s σ H Q I h;refine dS (wo I E6 HF t4 (cM ?_ o7 rfl));rw[o7];show wpAny _ _ (spliced [(false,eval (.Call (.Name "range" p2) [a] [] pV) X.env)]) _ _ s;refine fE ?_;refine Call_ (wo I HG HH boot_range (cM (thn (ha pV nJ s σ H _ I h) fun us s1 ⟨vs,H1,I1,r1,q1⟩=>?_) hs rfl));obtain⟨n,e,hn,q⟩:=q1;subst e;obtain⟨u,rfl,e1⟩:=vq r1;obtain⟨t,rfl⟩:=e1;refine call_range_1 (gO ?_);have I2:Inv X nJ σ H1 { s1 with heap:=s1.heap.push { cls:=.type "range",data:=.fields #[.int 0 s1.toks,.int n t,.int 1 (s1.toks+1)] },toks:=s1.toks+1+1 }:=I1.kept fun b o e=>aD _ e;refine call_list_range (n:=n) (I.ok.hd hc) (IsRange.new ..) (small_one (by omega) (by omega) (by omega) (by omega)) (by rw[rangeSize_one];split <;> omega) (by omega) fun h' tk acc c' hk hS pJ=>?_;have HI:zP ((aF n).map fun i:Nat=>V.int i) acc.toList:=by
  have nR:acc.toList.length=n:=by rw[aQ];exact pJ.1
  have key:∀(m:Nat) (l:List Value) (j:Nat),l.length=m->(∀i v,l[i]?=some v->∃t,v=fD ((j+i:Nat):Int) t)->zP ((iq j m).map fun i:Nat=>V.int i) l:=by
   intro m;induction m with
   |zero =>
    intro l j hl _;rw[fg.mp hl];exact .nil
   |succ m ih =>
    intro l j hl hv;match l,hl,hv with
    |x::l,hl,hv =>
     refine .cons ?_ (ih l (j+1) (by simpa using hl) fun i v h=>?_)
     ·obtain⟨t,e⟩:=hv 0 x rfl;exact⟨t,e⟩
     ·obtain⟨t,e⟩:=hv (i+1) v (by simpa using h);exact⟨t,by rw[e,show j+(i+1)=j+1+i by omega]⟩
  rw[iN];refine key n acc.toList 0 nR fun i v h=>?_;obtain⟨t,e⟩:=pJ.2 i v (by rw[←h];exact(cC).symm);exact⟨t,by rw[e];congr 1;omega⟩
 refine⟨.ref (s1.heap.push { cls:=.type "range",data:=.fields #[.int 0 s1.toks,.int n t,.int 1 (s1.toks+1)] }).objs.size,_,I2.laid (t':=tk) hk (aG _) (show zT X.prog X.w _ h' _ (.lst ((aF n).map fun i:Nat=>V.int i)) from⟨by rw[aE,aS];exact c7 (zI hn),acc.toList,c',HI,by simpa using hS⟩),rfl,q _ (I2.hok.fresh (aG _))⟩
end
noncomputable def zC(gs:List Nat):List V:=gs.map fun g:Nat=>V.int g
theorem yG.of_get{α:Type}{R:V->α->Prop}:∀{xs:List V} {ks:List α},xs.length=ks.length->(∀(i:Nat) (x:V),xs[i]?=some x->∃k,ks[i]?=some k/\R x k)->yG R xs ks
 |[],[],_,_=>trivial
 |x::xs,k::ks,hl,h=>by
  refine⟨?_,yG.of_get (by simpa using hl) fun i y hy=>by simpa using h (i+1) y (by simpa using hy)⟩;obtain⟨k',e,r⟩:=h 0 x rfl;cases e;exact r
 |[],_::_,hl,_=>by simp at hl
 |_::_,[],hl,_=>by simp at hl
section
variable{prog:Program}{w:World}{A:Around}{E:VS7}{s:Shared}
theorem T5{l:Addr}{us:List Value}{Q:List Value->Shared->Prop}(tu:s.heap.IsTuple l us.toArray)(hu:us.length<=sizeLine)
  (q:Q us { s with heap:=(s.heap.push (seqObj "list" #[] 0)).update s.heap.objs.size (cB (·++us.toArray)) }):wpAny (model prog w) A (collect (.ref l)) Q E s:=by
 obtain⟨ob,eo,ec,m,ed⟩:=id tu;have E7:(s.heap.push (seqObj "list" #[] 0)).get? l=some ob:=aD _ eo;unfold collect;refine aA (kH (dC entry_proto_collect' (show wpAny _ _ (do again (.builtin "list.__iadd__" ⟨[←newList [],.ref l],[]⟩)) _ _ s from ?_)));refine aA (lq (aB ⟨km _ (by decide +kernel),dC entry_list_iadd' (show wpAny _ _ (fj (.ref s.heap.objs.size) (.ref l) (.ref s.heap.objs.size)) _ _ { s with heap:=s.heap.push (seqObj "list" #[] 0) } from ?_)⟩));unfold fj;refine aA (iy (T:="tuple") ⟨ob,E7,ec⟩ ?_);have k1:(cK "tuple" == cK "tuple")=true:=rfl;rw[if_pos (by simp[k1])];refine aA (lM E7 ed (aA (lM (xs:=#[]) (n:=0) (aM _ rfl) rfl ?_)));rw[if_neg (by simp)];refine aA (lr (xs:=#[]) (n:=0) (aM _ rfl) rfl (aB ?_) (cw _) (by show(#[]++us.toArray).size<=sizeLine+1;simp only[kI,aO,eX];omega));refine aA (nz (mT (aM _ rfl) _) ?_);show wpAny _ _ (pure ((#[]:Array Value)++us.toArray).toList) Q E _;rw[show((#[]:Array Value)++us.toArray).toList=us by simp];exact aB q
theorem XT{l:Addr}{us:List Value}{ns:List Int}{Q:VS7}(tu:s.heap.IsTuple l us.toArray)(iu:kg us ns)(u64:us.length<64)
  (q:∀(out:Array Value) (ms:List Int),kg out.toList ms->ms.Perm ns->ms.Pairwise (·<=·)->Q (.ref (s.heap.objs.size+1)) { s with heap:=sortedAll s.heap us out }) :
  wpAny (model prog w) A (call (.builtin "sorted") [.ref l]) Q E s:=by
 refine Calls.call_function_entry kind_sorted plain_sorted entry_sorted (args_sorted1 _) ?_;unfold Builtin.«sorted»;refine aA (m:=checkCount "sorted" 1 1 _) (aB (aA (T5 tu (by rw[gN];omega) (aA (lq ?_)))));have e1:((s.heap.push (seqObj "list" #[] 0)).update s.heap.objs.size (cB (·++us.toArray))).objs.size=s.heap.objs.size+1:=by rw[Heap.size_update,size_push']
 have e2:(((s.heap.push (seqObj "list" #[] 0)).update s.heap.objs.size (cB (·++us.toArray))).push (seqObj "list" us.toArray 0)).get? (s.heap.objs.size+1)=some (seqObj "list" us.toArray 0):=by
  rw[←e1];exact aM _ rfl
 show wpAny _ _ _ _ _ { s with heap:=((s.heap.push (seqObj "list" #[] 0)).update s.heap.objs.size (cB (·++us.toArray))).push (seqObj "list" us.toArray 0) };rw[e1];refine aA (bU (bW slot_list_sort ⟨_,e2,rfl⟩ entry_list_sort (list_sort_tree e2 iu u64 fun out ms b1 b2 b3=>⟨_,rfl,aB ⟨_,rfl,q out ms b1 b2 b3⟩⟩) (args_list_sort _)))
end
section
variable{X:Cx}{K:FG7}
theorem uZ(hK:X.K=K):xG X (.builtin "sorted") (fun xs H Q=>∃(l:Addr) (ns:List Int),xs=[.ref l]/\SqT K H l (ns.map V.int)/\ns.length<64/\∀(p:Addr) (ms:List Int),H p=none->ms.Perm ns->ms.Pairwise (·<=·)->Q (.ref p) (upd H p (.lst (ms.map V.int)))):=by
 subst hK;intro nJ s σ H xs us Q I r h;obtain⟨l,ns,rfl,hl,ED,q⟩:=h;obtain⟨u,rfl,rx⟩:=vq r;cases(show u=aN l from rx);obtain⟨vs,rv,pl,hz⟩:=I.tuple hl;have nR:=rv.length;rw[aE] at nR hz;refine XT pl (rR rv) (by omega) fun out ms i1 i2 i3=>?_;obtain⟨e,he⟩:=sortedAll_at s.heap vs out;have hn:H (s.heap.objs.size+1)=none:=I.hok.fresh (fz _);have rl:=xU i1;refine⟨.ref (s.heap.objs.size+1),_,?_,rfl,q _ ms hn i2 i3⟩;refine I.laid (t':=s.toks) (fun b o q=>sortedAll_old q) (fz _) (show zT X.prog X.w _ _ _ (.lst (ms.map V.int)) from⟨by rw[aE,i2.length_eq];exact hz,out.toList,e,rl,he⟩)
end
theorem Vq{a b:Nat}:iK (a:Int) (b:Int)=((a &&& b:Nat):Int):=by
 unfold iK;rw[decide_eq_true (gq a),decide_eq_true (gq b)];rfl
theorem JH{a b:Nat}:iZ (a:Int) (b:Int)=((a |||b:Nat):Int):=by
 have e:∀x:Nat,decide (0<=fO (x:Int))=false:=fun x=>decide_eq_false (by show ¬0<=-(x:Int)-1;omega);have n2:∀x:Int,fO (fO x)=x:=fun x=>by show -(-x-1)-1=x;omega
 unfold iZ iK;rw[e a,e b];show fO (fO (((fO (fO (a:Int))).toNat ||| (fO (fO (b:Int))).toNat:Nat):Int))=_;rw[n2,n2,n2];rfl
theorem T6{a k:Nat}:(a:Int) / 2 ^ ((k:Int)).toNat=((a / 2 ^ k:Nat):Int):=by
 rw[bL,Int.natCast_ediv,mR];rfl
section
variable{X:Cx}
theorem Z3(ns:List Int):∀n,n<=ns.length->preSum (fun i=>ns.getD i 0) n=(ns.take n).sum:=by
 intro n;induction n with
 |zero=>intro _;rfl
 |succ n ih =>
  intro h;show preSum (fun i=>ns.getD i 0) n+ns.getD n 0=_;rw[ih (by omega),im,List.sum_append,aH,aC (show n<ns.length by omega)];simp
theorem Vr(oY:X.calm=true):xG X (.builtin "sum") (fun xs H Q=>∃(l:Addr) (ns:List Int),xs=[.ref l]/\SqL X.K H l (ns.map V.int)/\Q (.int ns.sum) H):=by
 intro nJ s σ H xs us Q I r h;obtain⟨l,ns,rfl,hl,q⟩:=h;obtain⟨u,rfl,rx⟩:=vq r;cases(show u=aN l from rx);obtain⟨vs,rv,pl,_⟩:=I.list hl;have AM:s.heap.IsList l vs.toArray:=pl.isList;have n5:l<s.heap.objs.size:=by obtain⟨_,e,_⟩:=AM;exact aP e
 have nR:ns.length=vs.length:=by rw[←rv.length,aE]
 refine call_sum_walkG (gM AM ?_);refine⟨s.heap.objs.size,[s.heap.objs.size,l],[s.heap.objs.size],vs.toArray.size,_,_,fun i=>ns.getD i 0,rfl,Walks.list (A:=X.A.in1) (I.ok.hd oY) _ l (aW n5) vs.toArray,
  ⟨⟨_,aM _ rfl,rfl,rfl⟩,AM.push _⟩,fun b hb=>?_,fun i v hP=>?_,fun h' tk t' hk=>?_⟩
 ·rcases aK.mp hb with rfl|hb
  ·exact aP (aM _ rfl)
  ·rcases aK.mp hb with rfl|hb
   ·exact iS n5 (aP (aM _ rfl))
   ·cases hb
 ·have hv:vs[i]?=some v:=by simpa using hP
  have hi:i<ns.length:=by rw[nR];exact(aL.mp hv).1
  obtain⟨u,eu,rxv⟩:=rv.get (show(ns.map V.int)[i]?=some (V.int ns[i]) by rw[bE,aC hi];rfl);rw[hv] at eu;cases eu;obtain⟨t,rfl⟩:=rxv;exact⟨t,by show _=fD (ns.getD i 0) t;rw[aH,aC hi];rfl⟩
 ·have e:preSum (fun i=>ns.getD i 0) vs.toArray.size=ns.sum:=by
   rw[aO,←nR,Z3 ns _ (aG _),dG]
  rw[e];exact⟨.int ns.sum,H,I.kept (t':=tk) (h':=h') (LSm.kept_iter hk),⟨_,rfl⟩,q⟩
end
theorem Vs{ms ns:List Int}(h:ms.Perm ns)(s:ms.Pairwise (·<=·))(t:ns.Pairwise (·<=·)):ms=ns:=h.eq_of_pairwise (le:=(·<=·)) (fun _ _ _ _ a b=>Int.le_antisymm a b) s t
noncomputable def wT(c n:Nat):List Nat:=(aF ((n+1-c) / 2)).map fun k=>c+2*k
noncomputable def vw{α:Type}(ks:List Nat)(xs:List α):List α:=ks.filterMap fun i=>xs[i]?
theorem T7{xs:List V}{us:List Value}(r:zP xs us):∀ks:List Nat,zP (vw ks xs) (vw ks us):=by
 intro ks;induction ks with
 |nil=>exact .nil
 |cons k ks ih =>
  have hl:=r.length;unfold vw at ih ⊢;cases e:xs[k]? with
  |none =>
   have e2:us[k]?=none:=by rw[List.getElem?_eq_none_iff] at e ⊢;omega
   rw[List.filterMap_cons_none e,List.filterMap_cons_none e2];exact ih
  |some x =>
   obtain⟨u,hu,ru⟩:=r.get e;rw[ke e,ke hu];exact .cons ru ih
theorem tN{c n:Nat}(h:c<=1):(wT c n).length<=n:=by unfold wT;rw[aE,aS];omega
theorem Y1{α:Type}{ks:List Nat}{xs:List α}:(vw ks xs).length<=ks.length:=List.length_filterMap_le _ _
theorem z6{gs:List Nat}:(zC gs).length=gs.length:=by unfold zC;rw[aE]
theorem vX{a b:List Nat}:zC (a++b)=zC a++zC b:=by unfold zC;exact bZ
theorem T8{l:Int}{ns:List Int}:inV (.int l) (ns.map V.int)=decide (l∈ns):=by
 unfold inV;rw[dh,List.any_eq_true,decide_eq_true_iff];constructor
 ·rintro⟨y,hy,e⟩;obtain⟨i,hi,rfl⟩:=bI.mp hy;have:i=l:=by simpa[eqV] using e
  rw[←this];exact hi
 ·intro h;exact⟨.int l,bI.mpr ⟨l,h,rfl⟩,by simp[eqV]⟩
open PySem PySem.Spec PyProof.Rows L2 HT
section
variable{prog:Program}{w:World}{A:Around}{E:VS7}{s:Shared}
theorem T9(l b:Addr)(us ws:Array Value)(n m:Nat)(d1 d2:Option Addr)(e1 e2:Array (Option Value))(h0:us.isEmpty=true) :
  Meets (Builtin.«tuple.__add__» ⟨[.ref l,.ref b],[]⟩) (fun _ R s=>s.heap.get? l=some ⟨.type "tuple",d1,.seq us n,e1⟩/\s.heap.get? b=some ⟨.type "tuple",d2,.seq ws m,e2⟩/\R (.ok (.ret (.ref b))) s) :=
 .of_wp fun P w A R s h=>by
  obtain⟨hh,gg,dd,tk,os⟩:=s;obtain⟨eL,eT,q⟩:=h;have k1:=PySem.AutoSeq1.sub_tuple_tuple
  wp_walk using dH eL,dH eT
  exact⟨_,rfl,q⟩
theorem Sa{t b:Addr}{vs ws:List Value}{Q:VS7}(ht:IsTup s.heap t vs.toArray)(hb:IsTup s.heap b ws.toArray)(hv:vs=[])(h1:Q (.ref b) s):wpAny (model prog w) A (fZ .Add (.ref t) (.ref b)) Q E s:=by
 obtain⟨⟨c1,d1,x1,l1⟩,ho,hc,n,hd⟩:=id ht;obtain⟨⟨c2,d2,x2,l2⟩,ho2,B7,m,Bv⟩:=id hb;cases hc;cases hd;cases B7;cases Bv;exact concat_meets ⟨_,ho,rfl⟩ ⟨_,ho2,rfl⟩ mH seq_tuple_add kE kz (i7 _ _) (T9 t b vs.toArray ws.toArray n m d1 d2 l1 l2 (by simp[hv])) ⟨ho,ho2,h1⟩
theorem qU{t sl:Addr}{us:Array Value}{vl vu:Value}{lo hi:Option Int}{Q:VS7}(ht:IsTup s.heap t us)(hs:s.heap.IsSliceOf sl vl vu .none)(pl:ki vl lo)(pu:ki vu hi)
  (hw:sIx us.size 0 lo=0/\sIx us.size us.size hi=us.size) (h:Q (.ref t) s):wpAny (model prog w) A (ml (.ref t) (.ref sl)) Q E s:=by
 obtain⟨os,AI,CY,Bq⟩:=id hs;have ET:s.TypeIs (.ref sl) "slice":=⟨os,AI,CY⟩
 unfold ml;try with_reducible refine bU ?_
 first|refine aA (aB ?_)|skip
 refine aA (mm ht.typeIs (by decide) ?_);refine aA (cA (name:=dZ "__getitem__") ht.typeIs dA
  (bW dA ht.typeIs lI ?_ (lR _ _)))
 show wpAny _ _ (gv (.ref t) >>= _) _ _ s;refine aA (tupleItemsOf_ ht ?_);refine aA (iy ET ?_);rw[if_pos (by decide)];refine aA (wq hs pl pu ?_);have yes:(((sIx us.size 0 lo:Nat):Int) == 0 && (1:Int) == 1 && (sIx us.size us.size hi-sIx us.size 0 lo) == us.size)=true:=by
  rw[hw.1,hw.2];simp
 show wpAny _ _ (if(((sIx us.size 0 lo:Nat):Int) == 0 && (1:Int) == 1 && (sIx us.size us.size hi-sIx us.size 0 lo) == us.size)=true then _ else _) _ _ s;rw[if_pos yes];refine aA ?_;unfold Builtin.Tuple.tupleIsExact;refine aA (iy ht.typeIs (aB ?_));show wpAny _ _ (rule _ >>= _) _ _ s;exact aA (iL (aA (aB (aB ⟨_,rfl,aB h⟩))))
end
section
variable{X:Cx}{K:FG7}
def zcc(K:FG7):V->Option Int->Option Int->Hp->VK->Prop:=fun x lo hi H Q=>∃a xs,x=.ref a/\SqT K H a xs/\∀p H',Grow [] H H'->SqT K H' p (jN xs lo hi)->Q (.ref p) H'
theorem Vt{xs:List V}{lo hi:Option Int}(h:HT.sIx xs.length 0 lo=0/\HT.sIx xs.length xs.length hi=xs.length):jN xs lo hi=xs:=by
 unfold jN;rw[h.1,h.2,kG,nD,dG]
theorem xJ(hK:X.K=K):SlR X (zcc K):=by
 subst hK;intro nJ s σ H x v vl vu lo hi sl Q I rx hs pl pu h;obtain⟨a,xs,rfl,hx,q⟩:=h;by_cases hw:HT.sIx xs.length 0 lo=0/\HT.sIx xs.length xs.length hi=xs.length
 ·cases rx;obtain⟨nK,r,ht,hz⟩:=I.tuple hx;have nR:nK.toArray.size=xs.length:=by rw[aO];exact r.length.symm
  refine⟨"tuple",_,PyProof.Rows.slot_tuple_getitem.lookup,ht.typeIs,?_⟩;exact qU ht hs pl pu (by rw[nR];exact hw) ⟨.ref a,H,I,rfl,q a H (Grow.refl _ _) (by rw[Vt hw];exact hx)⟩
 ·exact Jt nJ s σ H _ v vl vu lo hi sl Q I rx hs pl pu ⟨a,xs,rfl,hx,hw,fun p hp=>q p _ (Grow.new hp _) (SqT.of zd)⟩
def zbj(K:FG7):R2:=fun x y H Q=>∃a b xs ys,x=.ref a/\y=.ref b/\SqT K H a xs/\SqT K H b ys/\xs.length+ys.length<=sizeLine/\∀p H',Grow [] H H'->SqT K H' p (xs++ys)->Q (.ref p) H'
theorem wb(hK:X.K=K):OpR X (fZ .Add) (zbj K):=by
 subst hK;intro nJ s σ H x y v u Q I rx ry h;obtain⟨a,b,xs,ys,rfl,rfl,ha,hb,hz,q⟩:=h;by_cases hx:xs=[]
 ·cases rx;cases ry;obtain⟨nK,r1,p1,_⟩:=I.tuple ha;obtain⟨CZ,r2,p2,_⟩:=I.tuple hb;exact Sa p1 p2 (r1.nil_iff.mpr hx) ⟨.ref b,H,I,rfl,q b H (Grow.refl _ _) (by rw[hx];exact hb)⟩
 ·exact Qa nJ s σ H _ _ v u Q I rx ry ⟨a,b,xs,ys,rfl,rfl,ha,hb,hx,hz,fun e=>q a H (Grow.refl _ _) (by rw[e,cS];exact ha),fun _ p hp=>q p _ (Grow.new hp _) (SqT.of zd)⟩
end
section
variable{c:TT}{e:TE}{i:Nat}{v v':V}{t u r:TS}{D:Ends}{σ:L2.St}{H:Hp}{rt:VK}{bk ct:L2.St->Hp->Prop}
theorem yg(Good:V->Hp->Prop)(hc:∀K:VK,(∀v H',Good v H'->K v H')->e σ H K)(hr:∀v H',Good v H'->t D (σ.set i (some v)) H'):zaA (Jo e (ww i)) t D σ H:=hc _ fun v H' g=>hr v H' g
theorem wv(h:t D σ H):Jn ({ nx:=t D,rt:=rt,bk:=bk,ct:=ct }:Ends) σ H:=h
theorem zcd(h:t D σ H):({ nx:=t D,rt:=rt,bk:=bk,ct:=ct }:Ends).nx σ H:=h
theorem vk(Good:Bool->Hp->Prop)(hc:∀K:Bool->Hp->Prop,(∀b H',Good b H'->K b H')->c σ H K)(hr:∀b H',Good b H'->if b=true then t { D with nx:=r D } σ H' else u { D with nx:=r D } σ H'):zaA (zaR c t u) r D σ H:=hc _ hr
end
abbrev zce:=Option Key
def DcO(a:Addr)(kvs:List (V×V)):HO:=.ext fun h=>∃o es n,h.get? a=some o/\o.cls=.type "dict" /\o.data=.dict es n/\zP (kvs.map (·.1)) (es.toList.map (·.key))/\zP (kvs.map (·.2)) (es.toList.map (·.val))
mutual
/-- nested data,whose lists and dicts are none of m -/
inductive Od(K:FG7)(m:List Addr)(H:Hp):V->PyData->Prop
 |non:Od K m H .non .none
 |bl (b:Bool):Od K m H (.bl b) (.bool b)
 |int (i:Int):Od K m H (.int i) (.int i)
 |str (x:Str):Od K m H (.str x) (.str x)
 |tup {a:Addr} {xs:List V} {ds:List PyData}:SqT K H a xs->Ods K m H xs ds->Od K m H (.ref a) (.tuple ds)
 |lst {a:Addr} {xs:List V} {ds:List PyData}:H a=some (.lst xs)->a∉m->a≠sysModules->Ods K m H xs ds->Od K m H (.ref a) (.list ds)
 |dct {a:Addr} {kvs:List (V×V)} {ds:List (PyData×PyData)}:H a=some (DcO a kvs)->a∉m->a≠sysModules->Ods K m H (kvs.map (·.1)) (ds.map (·.1))->Ods K m H (kvs.map (·.2)) (ds.map (·.2))->Od K m H (.ref a) (.dict ds)
inductive Ods(K:FG7)(m:List Addr)(H:Hp):List V->List PyData->Prop
 |nil:Ods K m H [] []
 |cons {x:V} {xs:List V} {d:PyData} {ds:List PyData}:Od K m H x d->Ods K m H xs ds->Ods K m H (x::xs) (d::ds)
end
section
variable{K:FG7}{m:List Addr}{H H':Hp}
mutual
theorem Od.grow(g:Grow m H H'):∀{x:V} {d:PyData},Od K m H x d->Od K m H' x d
 |_,_,.non=>.non
 |_,_,.bl b=>.bl b
 |_,_,.int i=>.int i
 |_,_,.str x=>.str x
 |_,_,.tup h t=>.tup (g.sqT h) (Ods.grow g t)
 |_,_,.lst h n b t=>.lst (g.keep _ _ n h) n b (Ods.grow g t)
 |_,_,.dct h n b t u=>.dct (g.keep _ _ n h) n b (Ods.grow g t) (Ods.grow g u)
theorem Ods.grow(g:Grow m H H'):∀{xs:List V} {ds:List PyData},Ods K m H xs ds->Ods K m H' xs ds
 |_,_,.nil=>.nil
 |_,_,.cons h t=>.cons (Od.grow g h) (Ods.grow g t)
end
theorem Ods.length:∀{xs:List V} {ds:List PyData},Ods K m H xs ds->xs.length=ds.length
 |_,_,.nil=>rfl
 |_,_,.cons _ t=>congrArg (·+1) (Ods.length t)
theorem Ods.get:∀{xs:List V} {ds:List PyData} {i:Nat} {x:V},Ods K m H xs ds->xs[i]?=some x->∃d,ds[i]?=some d/\Od K m H x d
 |_,_,_,_,.nil,e=>by simp at e
 |_,_,0,_,.cons h _,e=>by simp at e;subst e;exact⟨_,rfl,h⟩
 |_,_,i+1,x,.cons _ t,e=>Ods.get (i:=i) t (by simpa using e)
theorem Ods.at:∀{xs:List V} {ds:List PyData} {i:Nat} {d:PyData},Ods K m H xs ds->ds[i]?=some d->∃x,xs[i]?=some x/\Od K m H x d
 |_,_,_,_,.nil,e=>by simp at e
 |_,_,0,_,.cons h _,e=>by simp at e;subst e;exact⟨_,rfl,h⟩
 |_,_,i+1,x,.cons _ t,e=>Ods.at (i:=i) t (by simpa using e)
theorem Ods.append:∀{xs ys:List V} {ds es:List PyData},Ods K m H xs ds->Ods K m H ys es->Ods K m H (xs++ys) (ds++es)
 |_,_,_,_,.nil,s=>s
 |_,_,_,_,.cons r t,s=>.cons r (Ods.append t s)
theorem Ods.take:∀{xs:List V} {ds:List PyData} (n:Nat),Ods K m H xs ds->Ods K m H (xs.take n) (ds.take n)
 |_,_,0,_=>.nil
 |_,_,_+1,.nil=>.nil
 |_,_,n+1,.cons r t=>.cons r (Ods.take n t)
theorem Ods.drop:∀{xs:List V} {ds:List PyData} (n:Nat),Ods K m H xs ds->Ods K m H (xs.drop n) (ds.drop n)
 |_,_,0,r=>r
 |_,_,_+1,.nil=>.nil
 |_,_,n+1,.cons _ t=>Ods.drop n t
end
section
variable{X:Cx}{nJ:List (Addr×Obj)}{σ:L2.St}{H:Hp}{s:Shared}{m:List Addr}
theorem Z4(I:Inv X nJ σ H s):sysModules<s.heap.objs.size:=iS (by decide) (show bC<s.heap.objs.size from(I.mod.glob.keeps I.bk).lt)
theorem DcO.at(I:Inv X nJ σ H s){a:Addr}{kvs:List (V×V)}(h:H a=some (DcO a kvs)):∃o es n,s.heap.get? a=some o/\o.cls=.type "dict" /\o.data=.dict es n/\zP (kvs.map (·.1)) (es.toList.map (·.key))/\zP (kvs.map (·.2)) (es.toList.map (·.val)):=(I.hok a _ h).1
mutual
theorem Od.reads(I:Inv X nJ σ H s):∀{x:V} {d:PyData} {u:Value},Od X.K m H x d->zQ x u->∃as,Reads s.heap u d as/\sysModules∉as
 |_,_,u,.non,r=>by
  cases(show u=aU from r);exact⟨_,.none,by simp⟩
 |_,_,u,.bl b,r=>by
  cases(show u=gV b from r);exact⟨_,.bool b,by simp⟩
 |_,_,u,.int i,r=>by
  obtain⟨t,rfl⟩:=r;exact⟨_,.int i t,by simp⟩
 |_,_,u,.str x,r=>by
  obtain⟨t,rfl⟩:=r;exact⟨_,.str x t,by simp⟩
 |_,_,u,.tup (a:=a) hs hd,r=>by
  cases(show u=aN a from r);obtain⟨nK,r1,⟨o,e1,e2,n,e3⟩,_⟩:=I.tuple hs;obtain⟨as,q,ns⟩:=Ods.reads I hd r1;exact⟨_,.tuple e1 e2 e3 q,ns⟩
 |_,_,u,.lst (a:=a) hs _ hb hd,r=>by
  cases(show u=aN a from r);obtain⟨nK,r1,⟨o,n,e1,e2,_,e3⟩,_⟩:=I.list (SqL.of hs);obtain⟨as,q,ns⟩:=Ods.reads I hd r1;exact⟨_,.list e1 e2 e3 q,fun z=>(aK.mp z).elim (fun e=>hb e.symm) ns⟩
 |_,_,u,.dct (a:=a) hs _ hb h1 h2,r=>by
  cases(show u=aN a from r);obtain⟨o,es,n,e1,e2,e3,v1,v2⟩:=DcO.at I hs;obtain⟨as,q1,n1⟩:=Ods.reads I h1 v1;obtain⟨bs,q2,n2⟩:=Ods.reads I h2 v2;refine⟨_,.dict e1 e2 e3 q1 q2,fun z=>?_⟩;rcases bH.mp z with z|z
  ·exact(aK.mp z).elim (fun e=>hb e.symm) n1
  ·exact n2 z
theorem Ods.reads(I:Inv X nJ σ H s):∀{xs:List V} {ds:List PyData} {us:List Value},Ods X.K m H xs ds->zP xs us->∃as,ReadsAll s.heap us ds as/\sysModules∉as
 |_,_,_,.nil,.nil=>⟨_,.nil,by simp⟩
 |_,_,_,.cons h t,.cons r rs=>by
  obtain⟨as,q,n1⟩:=Od.reads I h r;obtain⟨bs,q2,n2⟩:=Ods.reads I t rs;exact⟨_,.cons q q2,fun z=>(bH.mp z).elim n1 n2⟩
end
def JI(K:FG7):List V->Hp->VK->Prop:=fun xs H Q=>∃x d m,xs=[x]/\Od K m H x d/\d.showable=true/\d.depth<=60/\d.shown.length<=sizeLine/\Q (.str d.shown) H
theorem r0{K:FG7}{k:Nat}(hK:X.K=K)(hr:Room k X.A):xG X (.builtin "repr") (JI K):=by
 subst hK;intro nJ s σ H xs us Q I r h;obtain⟨x,d,m,rfl,hd,h1,h3,h4,q⟩:=h;obtain⟨u,rfl,rx⟩:=vq r;have key:∀a,u=.ref a->wpAny (model X.prog X.w) X.A (call (.builtin "repr") [u]) (EP X nJ σ Q) X.xe s:=fun a e=>by
  subst e;obtain⟨as,rd,ns⟩:=Od.reads I hd rx;exact repr_of_reads' rd h1 (fun _=>ns) hr.gd (by have:=hr.un;omega) (fun _ _ e=>e) (fun h' t tk hk=>⟨.str _,H,I.kept hk,⟨_,rfl⟩,q⟩) h4
 cases hd with
 |non =>
  cases(show u=aU from rx);exact PySem.P.repr_of_none ⟨.str _,H,I.tok _,⟨_,rfl⟩,q⟩
 |bl b =>
  cases(show u=gV b from rx);exact PySem.P.repr_of_bool ⟨.str _,H,I.tok _,⟨_,rfl⟩,q⟩
 |int i =>
  obtain⟨t,rfl⟩:=rx;exact PySem.P.repr_of_int (of_decide_eq_true h1) ⟨.str _,H,I.tok _,⟨_,rfl⟩,q⟩
 |str x =>
  obtain⟨t,rfl⟩:=rx;exact PySem.P.repr_of_str ⟨.str _,H,I.tok _,⟨_,rfl⟩,q⟩ h4
 |tup hs ha=>exact key _ rx
 |lst hs _ _ ha=>exact key _ rx
 |dct hs _ _ h1 h2=>exact key _ rx
end
section
variable{K:FG7}{m m':List Addr}{H:Hp}
mutual
theorem Od.more{a:Addr}(h:H a=none):∀{x:V} {d:PyData},Od K m H x d->Od K (a::m) H x d
 |_,_,.non=>.non
 |_,_,.bl b=>.bl b
 |_,_,.int i=>.int i
 |_,_,.str x=>.str x
 |_,_,.tup q t=>.tup q (Ods.more h t)
 |_,_,.lst q n b t=>.lst q (fun z=>(aK.mp z).elim (fun e=>by rw[e,h] at q;cases q) n) b (Ods.more h t)
 |_,_,.dct q n b t u=>.dct q (fun z=>(aK.mp z).elim (fun e=>by rw[e,h] at q;cases q) n) b (Ods.more h t) (Ods.more h u)
theorem Ods.more{a:Addr}(h:H a=none):∀{xs:List V} {ds:List PyData},Ods K m H xs ds->Ods K (a::m) H xs ds
 |_,_,.nil=>.nil
 |_,_,.cons q t=>.cons (Od.more h q) (Ods.more h t)
end
mutual
theorem Od.less(h:∀b∈m',b∈m):∀{x:V} {d:PyData},Od K m H x d->Od K m' H x d
 |_,_,.non=>.non
 |_,_,.bl b=>.bl b
 |_,_,.int i=>.int i
 |_,_,.str x=>.str x
 |_,_,.tup q t=>.tup q (Ods.less h t)
 |_,_,.lst q n b t=>.lst q (fun z=>n (h _ z)) b (Ods.less h t)
 |_,_,.dct q n b t u=>.dct q (fun z=>n (h _ z)) b (Ods.less h t) (Ods.less h u)
theorem Ods.less(h:∀b∈m',b∈m):∀{xs:List V} {ds:List PyData},Ods K m H xs ds->Ods K m' H xs ds
 |_,_,.nil=>.nil
 |_,_,.cons q t=>.cons (Od.less h q) (Ods.less h t)
end
end
theorem sf{ks:List (Option Expr)}{vs es:List Expr}{p:Pos}{env:Env}:bY (.Dict ks vs p::es) env=(false,eval (.Dict ks vs p) env)::bY es env:=by rfl
structure DR where
 p:List Addr->L2.St->Hp->Prop
 mono:∀{m σ H H'},Grow [] H H'->p m σ H->p m σ H'
 more:∀{a m σ H},H a=none->p m σ H->p (a::m) σ H
def DR.t:DR:=⟨fun _ _ _=>True,fun _ _=>trivial,fun _ _=>trivial⟩
def DR.and(a b:DR):DR:=⟨fun m σ H=>a.p m σ H/\b.p m σ H,fun g h=>⟨a.mono g h.1,b.mono g h.2⟩,fun g h=>⟨a.more g h.1,b.more g h.2⟩⟩
def DR.var(K:FG7)(i:Nat)(d:PyData):DR:=⟨fun m σ H=>∃x,σ[i]?=some (some x)/\Od K m H x d,fun g h=>by obtain⟨x,e,o⟩:=h;exact⟨x,e,o.grow (g.mono (by simp))⟩,fun g h=>by obtain⟨x,e,o⟩:=h;exact⟨x,e,o.more g⟩⟩
def tOd(K:FG7)(R:DR)(D:PyData):TE:=fun σ H Q=>∃m,R.p m σ H/\(∀b∈m,H b≠none)/\∀x H',Grow [] H H'->Od K m H' x D->Q x H'
def RD(K:FG7)(R:DR)(Ds:List PyData):TA:=fun σ H Q=>∃m,R.p m σ H/\(∀b∈m,H b≠none)/\∀xs H',Grow [] H H'->Ods K m H' xs Ds->Q xs H'
theorem wJ{H H':Hp}{m:List Addr}(g:Grow [] H H')(h:∀b∈m,H b≠none):∀b∈m,H' b≠none:=fun b hb z=>by
 cases e:H b with
 |none=>exact h b hb e
 |some o=>rw[g.keep b o (by simp) e] at z;cases z
section
variable{X:Cx}{K:FG7}{R R':DR}{D:PyData}{Ds:List PyData}{e:Expr}{es:List Expr}{pos:Pos}{j}
theorem u3:PE X (.Constant .none j pos) (tOd K .t .none):=fun nJ s σ H Q I ⟨m,_,_,q⟩=>rN nJ s σ H Q I (q _ _ (Grow.refl _ _) .non)
theorem Qp{b:Bool}:PE X (.Constant (.bool b) j pos) (tOd K .t (.bool b)):=fun nJ s σ H Q I ⟨m,_,_,q⟩=>xz nJ s σ H Q I (q _ _ (Grow.refl _ _) (.bl b))
theorem zW{i:Int}:PE X (.Constant (.int i) j pos) (tOd K .t (.int i)):=fun nJ s σ H Q I ⟨m,_,_,q⟩=>zg nJ s σ H Q I (q _ _ (Grow.refl _ _) (.int i))
theorem RE{i:Int}{pV:Pos}:PE X (.UnaryOp .USub (.Constant (.int i) j pos) pV) (tOd K .t (.int (-i))):=fun nJ s σ H Q I ⟨m,_,_,q⟩=>Tv YT zg nJ s σ H Q I ⟨_,rfl,q _ _ (Grow.refl _ _) (.int (-i))⟩
theorem Vu{x:Str}:PE X (.Constant (.str x) j pos) (tOd K .t (.str x)):=fun nJ s σ H Q I ⟨m,_,_,q⟩=>uW nJ s σ H Q I (q _ _ (Grow.refl _ _) (.str x))
theorem ye{i:Nat}(D:PyData)(h:PE X e (WO i)):PE X e (tOd K (.var K i D) D):=fun nJ s σ H Q I ⟨m,⟨x,ex,o⟩,_,q⟩=>h nJ s σ H Q I ⟨x,ex,q _ _ (Grow.refl _ _) o⟩
theorem zL:PA X [] (RD K .t []):=fun pos nJ s σ H Q I ⟨m,_,_,q⟩=>zb pos nJ s σ H Q I (q _ _ (Grow.refl _ _) .nil)
theorem zB(h:PE X e (tOd K R D))(t:PA X es (RD K R' Ds))(hs:bY (e::es) X.env=(false,eval e X.env)::bY es X.env:=by rfl):PA X (e::es) (RD K (.and R R') (D::Ds)):=fun pos nJ s σ H Q I ⟨m,⟨r1,r2⟩,b,q⟩ =>
 za h t hs pos nJ s σ H Q I ⟨m,r1,b,fun x H1 g1 o1=>⟨m,R'.mono g1 r2,wJ g1 b,fun xs H2 g2 o2=>q _ _ (g1.trans g2) (.cons (o1.grow (g2.mono (by simp))) o2)⟩⟩
theorem zX(h:PE X e (tOd K R D))(hs:bY [e] X.env=(false,eval e X.env)::bY [] X.env:=by rfl):PA X [e] (RD K R [D]):=fun pos nJ s σ H Q I ⟨m,r1,b,q⟩ =>
 za h zb hs pos nJ s σ H Q I ⟨m,r1,b,fun x H1 g1 o1=>q _ _ g1 (.cons o1 .nil)⟩
theorem zh(h:PE X e (tOd K .t D))(t:PA X es (RD K R' Ds))(hs:bY (e::es) X.env=(false,eval e X.env)::bY es X.env:=by rfl):PA X (e::es) (RD K R' (D::Ds)):=fun pos nJ s σ H Q I ⟨m,r2,b,q⟩ =>
 zB h t hs pos nJ s σ H Q I ⟨m,⟨trivial,r2⟩,b,q⟩
theorem zK{x1}(h:PA X es (RD K R Ds))(hl:Ds.length<=1000:=by decide):PE X (.Tuple es x1 pos) (tOd K R (.tuple Ds)):=fun nJ s σ H Q I ⟨m,r,b,q⟩ =>
 yz h nJ s σ H Q I ⟨m,r,b,fun xs H' g o=>⟨by rw[o.length];exact c7 (zI hl),fun p hp =>
  have g2:=Grow.new (m:=[]) hp (.tup xs)
  q _ _ (g.trans g2) (.tup (SqT.of zd) (o.grow (g2.mono (by simp))))⟩⟩
def zbk(t:TA):TE:=fun σ H Q=>t σ H fun xs H1=>xs.length<=sizeLine/\∀p,H1 p=none->p≠sysModules->Q (.ref p) (upd H1 p (.lst xs))
theorem Qq{t:TA}(h:PA X es t):PE X (.List es pos) (zbk t):=by
 intro nJ s σ H Q I hq;refine wpAny_List_spliced (thn (h pos nJ s σ H _ I hq) fun us s1 ⟨xs,H1,I1,r,z,q⟩=>⟨by rw[←r.length];exact z,?_⟩);have hf:H1 s1.heap.objs.size=none:=I1.hok.fresh (aG _);refine⟨.ref s1.heap.objs.size,upd H1 s1.heap.objs.size (.lst xs),I1.laid (t':=s1.toks) (fun b u e=>aD _ e) (aG _) ?_,rfl,q _ hf (dB (Z4 I1))⟩;exact⟨z,us,0,r,aM _ rfl⟩
theorem Vv{m:List Addr}{H:Hp}{p:Addr}(b:∀b∈m,H b≠none)(h:H p=none):p∉m:=fun z=>b p z h
theorem u4(h:PA X es (RD K R Ds))(hl:Ds.length<=1000:=by decide):PE X (.List es pos) (tOd K R (.list Ds)):=fun nJ s σ H Q I ⟨m,r,b,q⟩ =>
 Qq h nJ s σ H Q I ⟨m,r,b,fun xs H' g o=>⟨by rw[o.length];exact c7 (zI hl),fun p hp hn =>
  have g2:=Grow.new (m:=[]) hp (.lst xs)
  q _ _ (g.trans g2) (.lst zd (Vv (wJ g b) hp) hn (o.grow (g2.mono (by simp))))⟩⟩
theorem uy(hK:X.K=K):xG X (.type "list") (fun xs H Q=>∃p ys,xs=[.ref p]/\(SqL K H p ys\/SqT K H p ys)/\∀l,H l=none->l≠sysModules->Q (.ref l) (upd H l (.lst ys))):=by
 subst hK;intro nJ s σ H xs us Q I r h;obtain⟨p,ys,rfl,hq,q⟩:=h;obtain⟨u,rfl,rx⟩:=vq r;cases rx;have oE:∀(nK:List Value),zP ys nK->ys.length<=sizeLine->∀(h':Heap) (c':Nat),(∀b o',s.heap.get? b=some o'->h'.get? b=some o')→
   h'.get? s.heap.objs.size=some { cls:=.type "list",dict:=none,data:=.seq nK.toArray c',slots:=#[] }->EP X nJ σ Q (.ref s.heap.objs.size) { s with heap:=h' }:=fun nK r' hz h' c' kp e =>
  ⟨.ref s.heap.objs.size,_,I.laid (t':=s.toks) kp (aG _) (show zT X.prog X.w _ h' _ (.lst ys) from⟨hz,nK,c',r',e⟩),rfl,q _ (I.hok.fresh (aG _)) (dB (Z4 I))⟩
 rcases hq with hq|hq
 ·obtain⟨nK,r',pl,hz⟩:=I.list hq;have nR:=r'.length;obtain⟨o,ho,hc,n,hd⟩:=pl.isList;exact mw p (.inl rfl) ho hc hd (fun h' c' kp e=>oE nK r' hz h' c' kp e) (by simp only[aO] <;> omega)
 ·obtain⟨nK,r',pl,hz⟩:=I.tuple hq;have nR:=r'.length;obtain⟨o,ho,hc,n,hd⟩:=pl;exact mw p (.inr rfl) ho hc hd (fun h' c' kp e=>oE nK r' hz h' c' kp e) (by simp only[aO] <;> omega)
end
section
variable{X:Cx}{K:FG7}{R R':DR}{D:PyData}{e k:Expr}{ks:List (Option Expr)}{vs:List Expr}{kds:List (zce×PyData)}{pos:Pos}
theorem Z5:PE X (.Dict [] [] pos) (tOd K .t (.dict [])):=by
 intro nJ s σ H Q I ⟨m,_,hb,q⟩;have hf:H s.heap.objs.size=none:=I.hok.fresh (aG _);refine mJ ?_;have I1:Inv X nJ σ (upd H s.heap.objs.size (DcO s.heap.objs.size [])) { s with heap:=s.heap.push { cls:=.type "dict",data:=.dict #[] } } :=
  I.laid (t':=s.toks) (fun b u e=>aD _ e) (aG _) ⟨⟨_,_,_,aM _ rfl,rfl,rfl,.nil,.nil⟩,⟨_,aM _ rfl⟩,fun h1 h2 hφ hk=>by
   obtain⟨o',BQ,n',a1,a2⟩:=hφ;exact⟨o',BQ,n',hk _ a1,a2⟩⟩
 exact⟨.ref s.heap.objs.size,_,I1,rfl,q _ _ (Grow.new hf _) (.dct (kvs:=[]) (ds:=[]) zd (Vv hb hf) (dB (Z4 I)) .nil .nil)⟩
end
noncomputable def tyD:PyData->String
 |.none=>"NoneType"
 |.bool _=>"bool"
 |.int _=>"int"
 |.str _=>"str"
 |.list _=>"list"
 |.tuple _=>"tuple"
 |.dict _=>"dict"
def zbl(K:FG7):List V->Hp->VK->Prop:=fun xs H Q=>∃x d m T k,xs=[x,.ty T]/\Od K m H x d/\dE K (.type (tyD d)) (.type T)=some k/\Q (.bl k) H
theorem yE{X:Cx}{K:FG7}(hK:X.K=K):xG X (.builtin "isinstance") (zbl K):=by
 subst hK;intro nJ s σ H xs us Q I r h;obtain⟨x,d,m,T,k,rfl,hd,e,q⟩:=h;cases hd with
 |non=>exact wa nJ s σ H _ us Q I r ⟨_,T,_,k,rfl,rfl,e,q⟩
 |bl b=>exact wa nJ s σ H _ us Q I r ⟨_,T,_,k,rfl,rfl,e,q⟩
 |int i=>exact wa nJ s σ H _ us Q I r ⟨_,T,_,k,rfl,rfl,e,q⟩
 |str y=>exact wa nJ s σ H _ us Q I r ⟨_,T,_,k,rfl,rfl,e,q⟩
 |tup hs _=>exact wa nJ s σ H _ us Q I r ⟨_,T,_,k,rfl,.inl ⟨rfl,_,hs⟩,e,q⟩
 |lst hs _ _ _=>exact wa nJ s σ H _ us Q I r ⟨_,T,_,k,rfl,.inr (.inl ⟨rfl,_,SqL.of hs⟩),e,q⟩
 |@dct a kvs ds hs _ _ _ _ =>
  obtain⟨u,w',rfl,rx,rt⟩:=XG r;cases(show w'=cK T from rt);cases(show u=aN a from rx);obtain⟨o,es,n,e1,e2,_⟩:=DcO.at I hs;exact dk mj I.kIn ⟨o,e1,e2⟩ e (fun z=>nomatch z) fun tk=>⟨.bl k,H,I.tok _,rfl,q⟩
def zcf:PyData->Bool
 |.int _=>true
 |.bool _=>true
 |_=>false
def zbm:PyData->Bool
 |.bool _=>true
 |_=>false
noncomputable def zbn:PyData->Bool
 |.tuple _=>true
 |_=>false
noncomputable def yA:PyData->Bool
 |.int _=>true
 |_=>false
def Vw:PyData->Bool
 |.none=>true
 |.int _=>true
 |_=>false
theorem Qr{K:FG7}:∀{d:PyData},dE K (.type (tyD d)) (.type "int")=some (zcf d)
 |.none=>rfl
 |.bool _=>rfl
 |.int _=>rfl
 |.str _=>rfl
 |.list _=>rfl
 |.tuple _=>rfl
 |.dict _=>rfl
theorem Y2{K:FG7}:∀{d:PyData},dE K (.type (tyD d)) (.type "bool")=some (zbm d)
 |.none=>rfl
 |.bool _=>rfl
 |.int _=>rfl
 |.str _=>rfl
 |.list _=>rfl
 |.tuple _=>rfl
 |.dict _=>rfl
theorem Qs{K:FG7}:∀{d:PyData},dE K (.type (tyD d)) (.type "tuple")=some (zbn d)
 |.none=>rfl
 |.bool _=>rfl
 |.int _=>rfl
 |.str _=>rfl
 |.list _=>rfl
 |.tuple _=>rfl
 |.dict _=>rfl
theorem JJ{K:FG7}{m:List Addr}{H:Hp}{x:V}{d:PyData}(h:Od K m H x d):(x=.non/\d=.none)\/(x≠.non/\d≠.none):=by
 cases h with
 |non=>exact .inl ⟨rfl,rfl⟩
 |_=>exact .inr ⟨(fun z=>nomatch z),(fun z=>nomatch z)⟩
noncomputable def Qt(a:Int):PyData->PyData->Bool
 |.int x,.int y=>decide (x<y) || (decide (x=y) && decide (a=0))
 |_,_=>true
noncomputable def uz:PyData->Bool
 |.tuple [.int a,l,h]=>Vw l && Vw h && Qt a l h
 |_=>false
def yq(K:FG7):Sp:=sp1 fun x H Q=>∃d m,Od K m H x d/\Q (.bl (yA d)) H
def r9(K:FG7):Sp:=sp1 fun x H Q=>∃d m,Od K m H x d/\Q (.bl (Vw d)) H
def sg(K:FG7):Sp:=sp1 fun x H Q=>∃d m,Od K m H x d/\Q (.bl (uz d)) H
mutual
noncomputable def leD(B:Int):PyData->Bool
 |.int i=>decide (-B<=i) && decide (i<=B)
 |.list xs|.tuple xs=>leDs B xs
 |.dict kvs=>leDk B kvs
 |.none|.bool _|.str _=>true
noncomputable def leDs(B:Int):List PyData->Bool
 |[]=>true
 |x::xs=>leD B x && leDs B xs
noncomputable def leDk(B:Int):List (PyData×PyData)->Bool
 |[]=>true
 | (k,v)::r=>leD B k && leD B v && leDk B r
end
mutual
noncomputable def wtO:PyData->Nat
 |.list xs|.tuple xs=>wtOs xs+3
 |.dict kvs=>wtOk kvs+3
 |.int _=>1921
 |.none|.bool _=>5
 |.str x=>(reprText x).length
noncomputable def wtOs:List PyData->Nat
 |[]=>0
 |x::xs=>wtO x+2+wtOs xs
noncomputable def wtOk:List (PyData×PyData)->Nat
 |[]=>0
 | (k,v)::r=>wtO k+wtO v+4+wtOk r
end
mutual
theorem leD_mono{B B':Int}(h:B<=B'):∀{d:PyData},leD B d=true->leD B' d=true
 |.int i,z=>by
  simp only[leD,aJ,decide_eq_true_eq] at z ⊢;omega
 |.list xs,z=>leDs_mono h (xs:=xs) z
 |.tuple xs,z=>leDs_mono h (xs:=xs) z
 |.dict kvs,z=>leDk_mono h (kvs:=kvs) z
 |.none,_=>rfl
 |.bool _,_=>rfl
 |.str _,_=>rfl
theorem leDs_mono{B B':Int}(h:B<=B'):∀{xs:List PyData},leDs B xs=true->leDs B' xs=true
 |[],_=>rfl
 |x::xs,z=>by
  have z':=fP.mp (show(leD B x && leDs B xs)=true from z);show(leD B' x && leDs B' xs)=true;rw[leD_mono h z'.1,leDs_mono h z'.2];rfl
theorem leDk_mono{B B':Int}(h:B<=B'):∀{kvs:List (PyData×PyData)},leDk B kvs=true->leDk B' kvs=true
 |[],_=>rfl
 | (k,v)::r,z=>by
  have z':=fP.mp (show(leD B k && leD B v && leDk B r)=true from z);have E8:=fP.mp z'.1;show(leD B' k && leD B' v && leDk B' r)=true;rw[leD_mono h E8.1,leD_mono h E8.2,leDk_mono h z'.2];rfl
end
theorem wc{B:Int}:∀{xs:List PyData},leDs B xs=true ↔ ∀x∈xs,leD B x=true
 |[]=>by simp[leDs]
 |x::xs=>by simp[leDs,wc (xs:=xs)]
theorem sh:∀{xs ys:List PyData},wtOs (xs++ys)=wtOs xs+wtOs ys
 |[],ys=>by simp[wtOs]
 |x::xs,ys=>by
  show wtO x+2+wtOs (xs++ys)=wtO x+2+wtOs xs+wtOs ys;rw[sh];omega
def Bg:Int:=2 ^ 1000
mutual
theorem showable_le{B:Int}(hB:B<=Bg):∀{d:PyData},leD B d=true->d.showable=true
 |.int i,z=>by
  simp only[leD,aJ,decide_eq_true_eq] at z;have hb:Bg=2 ^ 1000:=rfl;show decide (i.natAbs.log2<1920)=true;refine decide_eq_true ?_;by_cases h0:i.natAbs=0
  ·rw[h0];decide
  ·rw[Nat.log2_lt h0];have h1:(i.natAbs:Int)<=Bg:=by omega
   have h2:i.natAbs<=2 ^ 1000:=by rw[hb] at h1;exact_mod_cast h1
   exact lT h2 (Nat.pow_lt_pow_right (by decide) (by decide))
 |.list xs,z=>showableAll_le hB (xs:=xs) z
 |.tuple xs,z=>showableAll_le hB (xs:=xs) z
 |.dict kvs,z=>showableKv_le hB (kvs:=kvs) z
 |.none,_=>rfl
 |.bool _,_=>rfl
 |.str _,_=>rfl
theorem showableAll_le{B:Int}(hB:B<=Bg):∀{xs:List PyData},leDs B xs=true->kn xs=true
 |[],_=>rfl
 |x::xs,z=>by
  have z':=fP.mp (show(leD B x && leDs B xs)=true from z);show(x.showable && kn xs)=true;rw[showable_le hB z'.1,showableAll_le hB z'.2];rfl
theorem showableKv_le{B:Int}(hB:B<=Bg):∀{kvs:List (PyData×PyData)},leDk B kvs=true->kJ kvs=true
 |[],_=>rfl
 | (k,v)::r,z=>by
  have z':=fP.mp (show(leD B k && leD B v && leDk B r)=true from z);have E8:=fP.mp z'.1;show(k.showable && v.showable && kJ r)=true;rw[showable_le hB E8.1,showable_le hB E8.2,showableKv_le hB z'.2];rfl
end
mutual
theorem shown_le:∀{d:PyData},d.showable=true->d.shown.length<=wtO d
 |.none,_=>by decide
 |.bool b,_=>by cases b <;> decide
 |.int i,h=>int_text_len_1921 (of_decide_eq_true h)
 |.str x,_=>aG _
 |.list xs,h=>by
  have q:=shown_les (xs:=xs) h;have l:=listText_len_le (fW xs);show(listText (fW xs)).length<=wtOs xs+3;omega
 |.tuple xs,h=>by
  have q:=shown_les (xs:=xs) h;have l:=tupleText_len_le (fW xs);show(tupleText (fW xs)).length<=wtOs xs+3;omega
 |.dict kvs,h=>by
  have q:=shown_lek (kvs:=kvs) h;have l:=dictText_len_le (iO kvs);show(dictText (iO kvs)).length<=wtOk kvs+3;omega
theorem shown_les:∀{xs:List PyData},kn xs=true->((fW xs).map (·.length)).sum+2*(fW xs).length<=wtOs xs
 |[],_=>by decide
 |x::xs,h=>by
  have h':(x.showable && kn xs)=true:=h;rw[aJ] at h';have q1:=shown_le (d:=x) h'.1;have q2:=shown_les (xs:=xs) h'.2;show(((x.shown::fW xs).map (·.length)).sum+2*(x.shown::fW xs).length)<=wtO x+2+wtOs xs;rw[cz,my,cJ];omega
theorem shown_lek:∀{kvs:List (PyData×PyData)},kJ kvs=true->((iO kvs).map (·.length)).sum+2*(iO kvs).length<=wtOk kvs
 |[],_=>by decide
 | (k,v)::r,h=>by
  have h':(k.showable && v.showable && kJ r)=true:=h;rw[aJ,aJ] at h';have q1:=shown_le (d:=k) h'.1.1;have q2:=shown_le (d:=v) h'.1.2;have q3:=shown_lek (kvs:=r) h'.2;have e:(k.shown++": " ++ v.shown).length=k.shown.length+2+v.shown.length:=by
   rw[strLen_append,strLen_append];rfl
  show((((k.shown++": " ++ v.shown)::iO r).map (·.length)).sum+2*((k.shown++": " ++ v.shown)::iO r).length)<=wtO k+wtO v+4+wtOk r;rw[cz,my,cJ,e];omega
end
structure GdS(n k w:Nat)(ds:List PyData):Prop where
 le:leDs (10 ^ 30+n) ds=true
 dp:eY ds<=k
 wt:wtOs ds<=w
structure GdD(n k w:Nat)(d:PyData):Prop where
 le:leD (10 ^ 30+n) d=true
 dp:d.depth<=k
 wt:wtO d<=w
theorem Z6{B:Int}{a b:List PyData}(ha:leDs B a=true)(hb:leDs B b=true):leDs B (a++b)=true:=wc.mpr fun x hx=>(bH.mp hx).elim (wc.mp ha x) (wc.mp hb x)
theorem yJ{k:Nat}:∀{xs:List PyData},eY xs<=k ↔ ∀x∈xs,x.depth<=k
 |[]=>by simp[eY]
 |x::xs=>by
  show max x.depth (eY xs)<=k ↔ _;rw[Nat.max_le,yJ (xs:=xs)];simp
theorem GdS.append{n k w w':Nat}{a b:List PyData}(ha:GdS n k w a)(hb:GdS n k w' b):GdS n k (w+w') (a++b) :=
 ⟨Z6 ha.le hb.le,yJ.mpr fun x hx=>(bH.mp hx).elim (yJ.mp ha.dp x) (yJ.mp hb.dp x),by rw[sh];have:=ha.wt;have:=hb.wt;omega⟩
theorem GdD.one{n k w:Nat}{d:PyData}(h:GdD n k w d):GdS n k (w+2) [d]:=⟨by show(leD _ d && true)=true;rw[h.le];rfl,by show max d.depth 0<=k;have:=h.dp;omega,by show wtO d+2+0<=w+2;have:=h.wt;omega⟩
theorem GdS.tup{n k w:Nat}{ds:List PyData}(h:GdS n k w ds):GdD n (k+1) (w+3) (.tuple ds):=⟨h.le,Nat.succ_le_succ h.dp,Nat.add_le_add_right h.wt 3⟩
theorem GdD.mono{n n' k k' w w':Nat}{d:PyData}(h:GdD n k w d)(h1:n<=n')(h2:k<=k')(h3:w<=w'):GdD n' k' w' d:=⟨leD_mono (by omega) h.le,cH h.dp h2,cH h.wt h3⟩
theorem zbo{n:Nat}(h:n<=1000000):(10:Int) ^ 30+n<=Bg:=by
 have h1:(10:Int) ^ 30+1000000<=Bg:=by decide +kernel
 omega
noncomputable def jF(xs:List PyData)(lo hi:Option Int):List PyData:=(xs.drop (HT.sIx xs.length 0 lo)).take (HT.sIx xs.length xs.length hi-HT.sIx xs.length 0 lo)
theorem Ods.cut{K:FG7}{m:List Addr}{H:Hp}{xs:List V}{ds:List PyData}{lo hi:Option Int}(h:Ods K m H xs ds):Ods K m H (jN xs lo hi) (jF ds lo hi):=by
 unfold jN jF;rw[h.length];exact(h.drop _).take _
theorem XU{d:PyData}(h:uz d=true):∃a l u,d=.tuple [.int a,l,u]/\Vw l=true/\Vw u=true/\Qt a l u=true:=by
 unfold uz at h;split at h
 ·rename_i a l u;simp only[aJ] at h;exact⟨a,l,u,rfl,h.1.1,h.1.2,h.2⟩
 ·cases h
section
variable{K:FG7}{m:List Addr}{H:Hp}{x:V}
theorem Od.inv_lst{ds:List PyData}(h:Od K m H x (.list ds)):∃a xs,x=.ref a/\H a=some (.lst xs)/\a∉m/\a≠sysModules/\Ods K m H xs ds:=by
 cases h with
 |lst h1 h2 h3 h4=>exact⟨_,_,rfl,h1,h2,h3,h4⟩
theorem Od.inv_tup{ds:List PyData}(h:Od K m H x (.tuple ds)):∃a xs,x=.ref a/\SqT K H a xs/\Ods K m H xs ds:=by
 cases h with
 |tup h1 h2=>exact⟨_,_,rfl,h1,h2⟩
theorem Od.inv_int{i:Int}(h:Od K m H x (.int i)):x=.int i:=by cases h;rfl
theorem Od.inv_non(h:Od K m H x .none):x=.non:=by cases h;rfl
theorem Ods.inv1{xs:List V}{d:PyData}(h:Ods K m H xs [d]):∃x,xs=[x]/\Od K m H x d:=by
 cases h with
 |cons h t=>cases t;exact⟨_,rfl,h⟩
theorem Ods.inv3{xs:List V}{d e f:PyData}(h:Ods K m H xs [d,e,f]):∃x y z,xs=[x,y,z]/\Od K m H x d/\Od K m H y e/\Od K m H z f:=by
 cases h with
 |cons h t =>
  cases t with
  |cons h2 t =>
   obtain⟨z,rfl,hz⟩:=Ods.inv1 t;exact⟨_,_,_,rfl,h,h2,hz⟩
theorem Qu{d:PyData}(h:zbn d=false):uz d=false:=by
 cases d with
 |tuple _=>cases h
 |_=>rfl
theorem Vx{ds:List PyData}(h:ds.length≠3):uz (.tuple ds)=false:=by
 cases e:uz (.tuple ds) with
 |false=>rfl
 |true=>obtain⟨a,l,u,e2,_⟩:=XU e;cases e2;exact absurd rfl h
theorem Sb{a l u:PyData}(h:yA a=false):uz (.tuple [a,l,u])=false:=by
 cases a with
 |int _=>cases h
 |_=>rfl
theorem Vy{a:Int}{l u:PyData}:uz (.tuple [.int a,l,u])=(Vw l && Vw u && Qt a l u):=rfl
end
structure Call72 where
 hand:Int
 box:Int
 deed:Deed
 begun:Int
 ended:Int
 answer:Int
instance:Inhabited Call72:=⟨⟨0,0,⟨0,none,none⟩,0,0,0⟩⟩
noncomputable def Call72.vs(c:Call72)(rd:Addr):List V:=[.int c.hand,.int c.box,.ref rd,.int c.begun,.int c.ended,.int c.answer]
def yR(K:FG7)(H:Hp)(x:V)(c:Call72):Prop:=∃r rd,x=.ref r/\SqT K H r (c.vs rd)/\SqT K H rd c.deed.vs
def zE(K:FG7)(H:Hp)(x:V)(cs:List Call72):Prop:=∃r xs,x=.ref r/\SqT K H r xs/\yG (yR K H) xs cs
theorem Grow.call72{m:List Addr}{H H':Hp}(g:Grow m H H'){K:FG7}{x:V}{c:Call72}(h:yR K H x c):yR K H' x c:=by
 obtain⟨r,rd,e,h1,h2⟩:=h;exact⟨r,rd,e,g.sqT h1,g.sqT h2⟩
theorem Grow.callsR{m:List Addr}{H H':Hp}(g:Grow m H H'){K:FG7}{xs:List V}{cs:List Call72}(h:yG (yR K H) xs cs):yG (yR K H') xs cs:=h.imp fun _ _ z=>g.call72 z
theorem Grow.calls72{m:List Addr}{H H':Hp}(g:Grow m H H'){K:FG7}{x:V}{cs:List Call72}(h:zE K H x cs):zE K H' x cs:=by
 obtain⟨r,xs,e,h1,h2⟩:=h;exact⟨r,xs,e,g.sqT h1,g.callsR h2⟩
structure CallOk72(m:Nat)(c:Call72):Prop where
 h0:0<=c.hand
 h1:c.hand<=15
 b0:0<=c.box
 b1:c.box<m
 d:c.deed.Ok
 t0:0<=c.begun
 t1:c.begun<=c.ended
noncomputable def vY(b:Int)(cs:List Call72):Nat:=cs.countP fun c=>decide (c.box=b)
structure Calls72(m:Nat)(cs:List Call72):Prop where
 len:cs.length<=40
 ok:∀c∈cs,CallOk72 m c
 few:∀b:Int,vY b cs<=8
def cg(cs:List Call72)(k:Nat):Call72:=cs.getD k default
theorem yn{cs:List Call72}{k:Nat}{c:Call72}(h:cs[k]?=some c):cg cs k=c:=by unfold cg;rw[aH,h];rfl
theorem Y3{cs:List Call72}{k:Nat}(h:k<cs.length):cg cs k∈cs:=by
 have:=aC h;rw[yn this];exact fF h
noncomputable def tq(cs:List Call72):List Nat->Bool
 |[]=>true
 |k::r=>!(r.any fun j=>decide ((cg cs j).ended<(cg cs k).begun)) && tq cs r
noncomputable def Jc(cs:List Call72):Int->List Nat->Bool
 |_,[]=>true
 |t,k::r=>if(cg cs k).ended<t then false else Jc cs (if(cg cs k).begun>t then(cg cs k).begun else t) r
theorem JK{cs:List Call72}:∀{ns:List Nat} {t:Int},Jc cs t ns=((ns.all fun j=>!decide ((cg cs j).ended<t)) && tq cs ns)
 |[],_=>rfl
 |k::r,t=>by
  unfold Jc tq;rw[fL];by_cases h:(cg cs k).ended<t
  ·rw[if_pos h,decide_eq_true h];rfl
  ·rw[if_neg h,decide_eq_false h,JK];have e:(r.all fun j=>!decide ((cg cs j).ended<(if(cg cs k).begun>t then(cg cs k).begun else t)))=((r.all fun j=>!decide ((cg cs j).ended<t)) && !(r.any fun j=>decide ((cg cs j).ended<(cg cs k).begun))):=by
    rw[dh,aJ,bR,bR,cX,fT];constructor
    ·intro h;refine⟨fun j hj=>?_,fun j hj=>?_⟩
     ·have:=h j hj;rw[cX,decide_eq_false_iff_not] at this ⊢;split at this <;> omega
     ·have:=h j hj;rw[cX,decide_eq_false_iff_not] at this;rw[decide_eq_true_eq];split at this <;> omega
    ·rintro⟨h1,h2⟩ j hj;have a:=h1 j hj;have b:=h2 j hj;rw[cX,decide_eq_false_iff_not] at a ⊢;rw[decide_eq_true_eq] at b;split <;> omega
   rw[e,Bool.and_assoc];rfl
theorem Qv{cs:List Call72}{m:Nat}{ns:List Nat}(ok:∀c∈cs,CallOk72 m c)(lt:∀k∈ns,k<cs.length):Jc cs 0 ns=tq cs ns:=by
 rw[JK];have:(ns.all fun j=>!decide ((cg cs j).ended<0))=true:=by
  rw[bR];intro j hj;have o:=ok _ (Y3 (lt j hj));have:=o.t0;have:=o.t1;rw[cX,decide_eq_false_iff_not];omega
 rw[this,mz]
noncomputable def vM(cs:List Call72):List Int->List Nat->Bool
 |_,[]=>true
 |vs,k::r=>if vs.getD (cg cs k).box.toNat 0=(cg cs k).answer then vM cs (vs.set (cg cs k).box.toNat ((cg cs k).deed.mk' (cg cs k).answer)) r else false
theorem xu{cs:List Call72}{vs:List Int}{k:Nat}{r:List Nat}:vM cs vs (k::r)=if vs.getD (cg cs k).box.toNat 0=(cg cs k).answer then vM cs (vs.set (cg cs k).box.toNat ((cg cs k).deed.mk' (cg cs k).answer)) r else false:=rfl
theorem yw{α:Type}{l:List α}{j:Nat}{x d:α}(h:j<l.length):(l.set j x).getD j d=x:=by rw[aH,dY h];rfl
theorem z7{α:Type}{l:List α}{i j:Nat}{x d:α}(h:i≠j):(l.set i x).getD j d=l.getD j d:=by rw[aH,aH,fb h]
def uA(n:Nat)(d:PyData)(ns:List Nat):Prop:=d=.tuple (ns.map fun k:Nat=>bX (k:Int))/\ns.Perm (aF n)
theorem vz:∀{a b:List Nat},(a.map fun k:Nat=>bX (k:Int))=b.map (fun k:Nat=>bX (k:Int))->a=b
 |[],[],_=>rfl
 |[],_::_,h=>by cases h
 |_::_,[],h=>by cases h
 |x::a,y::b,h=>by
  obtain⟨h1,h2⟩:=List.cons.inj h;have:x=y:=by injection h1 with h1;omega
  rw[this,vz h2]
theorem uA.uniq{n:Nat}{d:PyData}{ns ms:List Nat}(h:uA n d ns)(h':uA n d ms):ns=ms:=by
 have:=h.1.symm.trans h'.1;injection this with this
 exact vz this
def Qw(d:PyData):Prop:=∀ds,d=.tuple ds->ds.length<64/\∀e∈ds,∀kvs,e≠.dict kvs
def yX(K:FG7)(H:Hp)(x:V)(ns:List Nat):Prop:=∃r,x=.ref r/\SqT K H r (zC ns)
def Sc(K:FG7)(H:Hp)(x:V)(ns:List Nat):Prop:=∃r,x=.ref r/\SqL K H r (zC ns)
theorem wU{ns:List Nat}{i:Nat}{x:V}(h:(zC ns)[i]?=some x):∃k,ns[i]?=some k/\x=.int k:=by
 unfold zC at h;rw[bE] at h;obtain⟨k,hk,e⟩:=eF.mp h;exact⟨k,hk,e.symm⟩
theorem jX{ns:List Nat}{i k:Nat}(h:ns[i]?=some k):ns.drop i=k::ns.drop (i+1):=by
 obtain⟨n5,e⟩:=aL.mp h;rw[List.drop_eq_getElem_cons n5,e]
theorem yX.grow{K:FG7}{H H':Hp}{x:V}{ns:List Nat}{m:List Addr}(h:yX K H x ns)(g:Grow m H H'):yX K H' x ns:=by
 obtain⟨r,e,s⟩:=h;exact⟨r,e,g.sqT s⟩
theorem Y4{K:FG7}{m:List Addr}{H:Hp}:∀{xs:List V} {ns:List Nat},Ods K m H xs (ns.map fun k:Nat=>bX (k:Int))->xs=zC ns
 |_,[],.nil=>rfl
 |_,k::ns,.cons (.int _) t=>by rw[Y4 t];rfl
theorem Z7{K:FG7}{m:List Addr}{H:Hp}{x:V}{d:PyData}{ns:List Nat}(e:d=.tuple (ns.map fun k:Nat=>bX (k:Int)))(h:Od K m H x d):yX K H x ns:=by
 subst e;obtain⟨r,xs,rfl,hs,os⟩:=h.inv_tup;exact⟨r,rfl,by rw[←Y4 os];exact hs⟩
section
variable{K:FG7}{a:Addr}{xs:List V}{k:Nat}{te:TE}{Q:VK}{σ:L2.St}{H:Hp}
theorem y3(Pv:Nat->List V->Hp->Prop)(h0:Pv 0 [] H)(hl:∀i ys H',Pv i ys H'->SqT K H' a xs)
  (hs:∀i x ys H',xs[i]?=some x->Pv i ys H'->te (σ.set k (some x)) H' fun y H5=>ys.length<sizeLine/\Pv (i+1) (ys++[y]) H5)
  (hd:∀ys H',Pv xs.length ys H'->∀l,H' l=none->Q (.ref l) (upd H' l (.lst ys))):wG (Itt K a) σ H (ww k) jR te Q :=
 XQ (fun _=>true) Pv h0 hl (fun _ _ _ _ h=>h) (fun i x ys H' hx p _=>hs i x ys H' hx p) (fun _ _ _ _ _ _ z=>nomatch z) hd
end
theorem jY{n:Nat}(h:n<=5000):n<sizeLine:=lT h (by decide)
theorem zbp{n:Nat}(h:n<=5000):n<=sizeLine:=cH h (by decide)
theorem Grow.shrinkL{H H':Hp}{m:List Addr}(h:∀a∈m,H a=none)(g:Grow m H H'):Grow [] H H' :=
 ⟨fun b o _ q=>g.keep b o (fun z=>by rw[h b z] at q;cases q) q,g.tup,g.frz⟩
def JL(H:Hp)(zs:List V)(Bb:List (List Nat)):Prop:=yG (fun z ns=>∃a,z=.ref a/\H a=some (.lst (zC ns))) zs Bb
structure Bx72(H:Hp)(as:List Addr)(Bb:List (List Nat)):Prop where
 len:Bb.length=as.length
 at_:∀(j:Nat) (a:Addr),as[j]?=some a->H a=some (.lst (zC (Bb.getD j [])))
theorem Bx72.ls{H:Hp}{as:List Addr}{Bb:List (List Nat)}(h:Bx72 H as Bb):JL H (as.map V.ref) Bb:=by
 refine yG.of_get (by rw[aE,h.len]) fun i x hx=>?_;rw[bE] at hx;obtain⟨a,ha,rfl⟩:=eF.mp hx;have hi:i<Bb.length:=by rw[h.len];exact(aL.mp ha).1
 refine⟨Bb[i],aC hi,a,rfl,?_⟩;rw[h.at_ i a ha,aH,aC hi];rfl
def qV:PyData->Bool
 |.tuple _=>true
 |_=>false
theorem xv{K:FG7}(d:PyData):dE K (.type (tyD d)) (.type "tuple")=some (qV d):=by cases d <;> rfl
def jZ:PyData->Bool
 |.int _=>true
 |_=>false
theorem wV{K:FG7}{m:List Addr}{H:Hp}{x:V}{d:PyData}(h:Od K m H x d)(ht:qV d=true):∃r xs ds,x=.ref r/\d=.tuple ds/\SqT K H r xs/\Ods K m H xs ds:=by
 cases h <;> first|exact⟨_,_,_,rfl,rfl,by assumption,by assumption⟩|cases ht
theorem RF:∀{ds:List PyData},ds.all jZ=true->∃zs:List Int,ds=zs.map bX
 |[],_=>⟨[],rfl⟩
 |d::ds,h=>by
  rw[fL,aJ] at h;obtain⟨zs,e⟩:=RF h.2;cases d with
  |int i=>exact⟨i::zs,by rw[e];rfl⟩
  |_=>cases h.1
theorem qa{K:FG7}{m:List Addr}{H:Hp}:∀{xs:List V} {zs:List Int},Ods K m H xs (zs.map bX)->xs=zs.map V.int
 |_,[],.nil=>rfl
 |_,k::ns,.cons (.int _) t=>by rw[qa t];rfl
theorem XV(n:Nat):((aF n).map fun k:Nat=>(k:Int)).Pairwise (·<=·):=by
 rw[kK];exact(fo (n:=n)).imp fun h=>by omega
theorem Vz{n:Nat}{zs ms:List Int}(hp:ms.Perm zs)(hs:ms.Pairwise (·<=·)):ms=((aF n).map fun k:Nat=>(k:Int)) ↔ ∃ns,uA n (.tuple (zs.map bX)) ns:=by
 constructor
 ·intro e;have hz:zs.Perm ((aF n).map fun k:Nat=>(k:Int)):=by rw[←e];exact hp.symm
  have h0:∀z∈zs,0<=z:=fun z DZ=>by
   obtain⟨k,_,rfl⟩:=bI.mp (hz.mem_iff.mp DZ);exact gq k
  have ez:(zs.map iT).map (fun k:Nat=>(k:Int))=zs:=by
   rw[de]
   conv=>rhs;rw[←ip zs]
   exact ie fun z DZ=>eO (h0 z DZ)
  refine⟨zs.map iT,?_,?_⟩
  ·rw[show(zs.map bX)=((zs.map iT).map (fun k:Nat=>(k:Int))).map bX by rw[ez],de];rfl
  ·have:=hz.map iT;rw[de,show(iT∘fun k:Nat=>(k:Int))=id from funext fun k=>bL k,ip] at this;exact this
 ·rintro⟨ns,e,hn⟩;injection e with e
  have ez:zs=ns.map fun k:Nat=>(k:Int):=by
   have:zs.map bX=(ns.map fun k:Nat=>(k:Int)).map bX:=by rw[e,de];rfl
   exact ko (fun _ _ h=>by injection h) |>.mp this
  refine Vs (hp.trans ?_) hs (XV n);rw[ez];exact hn.map _
theorem tP:∀ms:List Int,(ms.map V.int).all w5=true
 |[]=>rfl
 |_::ms=>by rw[cz,fL,tP ms];rfl
theorem yf(ns:List Nat):zC ns=(ns.map fun k:Nat=>(k:Int)).map V.int:=by unfold zC;rw[de];rfl
theorem qW(ns:List Nat):(zC ns).all w5=true:=by rw[yf];exact tP _
def qX(K:FG7):Sp:=sp3 fun x y z H Q=>∃b cs ns,yj K H x b/\zE K H y cs/\yX K H z ns/\(∀c∈cs,CallOk72 b.length c)/\(∀k∈ns,k<cs.length)/\∀H',Grow [] H H'->Q (.bl (vM cs b ns)) H'
def j3(K:FG7):Sp:=sp2 fun x y H Q=>∃cs ns,zE K H x cs/\yX K H y ns/\(∃m,∀c∈cs,CallOk72 m c)/\(∀k∈ns,k<cs.length)/\ns.length<=40/\∀H',Grow [] H H'->Q (.bl (tq cs ns)) H'
theorem wW{H:Hp}{p r:Addr}(pp:Pot H p)(h:H r=none):r∉[p]:=fun z=>by
 rw[aR.mp z] at h;obtain⟨_,_,e,_⟩:=pp;rw[e] at h;cases h
def VA(K:FG7):Sp:=sp2 fun x y H Q=>∃a ns k,x=.ref a/\y=.int k/\Scr K H a ns/\0<=k/\∀n:Int,(n=0\/n∈ns)->Q (.int n) H
noncomputable def RG:List Int->List Call72->Option (List Int)
 |vs,[]=>some vs
 |vs,c::r=>if vs.getD c.box.toNat 0=c.answer then RG (vs.set c.box.toNat (c.deed.mk' c.answer)) r else none
theorem JM{cs:List Call72}:∀{ns:List Nat} {vs:List Int},vM cs vs ns=(RG vs (ns.map (cg cs))).isSome
 |[],_=>rfl
 |k::r,vs=>by
  rw[xu];show _=(if vs.getD (cg cs k).box.toNat 0=(cg cs k).answer then RG (vs.set (cg cs k).box.toNat ((cg cs k).deed.mk' (cg cs k).answer)) (r.map (cg cs)) else none).isSome;split
  ·exact JM
  ·rfl
theorem VB{c:Call72}:∀{cs:List Call72} {vs ws:List Int},RG vs cs=some ws->ws.getD c.box.toNat 0=c.answer->RG vs (cs++[c])=some (ws.set c.box.toNat (c.deed.mk' c.answer))
 |[],vs,ws,h,ha=>by
  cases h;show(if vs.getD c.box.toNat 0=c.answer then _ else none)=_;rw[if_pos ha];rfl
 |e::r,vs,ws,h,ha=>by
  have h':(if vs.getD e.box.toNat 0=e.answer then RG (vs.set e.box.toNat (e.deed.mk' e.answer)) r else none)=some ws:=h;show(if vs.getD e.box.toNat 0=e.answer then RG (vs.set e.box.toNat (e.deed.mk' e.answer)) (r++[c]) else none)=_;by_cases hv:vs.getD e.box.toNat 0=e.answer
  ·rw[if_pos hv] at h' ⊢;exact VB h' ha
  ·rw[if_neg hv] at h';cases h'
structure Cb72(B:Int)(c:Call72):Prop where
 hand:-B<=c.hand/\c.hand<=B
 box:-B<=c.box/\c.box<=B
 deed:c.deed.Bd B
 begun:-B<=c.begun/\c.begun<=B
 ended:-B<=c.ended/\c.ended<=B
 answer:-B<=c.answer/\c.answer<=B
theorem Sd{m:Nat}{cs:List Call72}(ok:∀c∈cs,CallOk72 m c){b:Int}(h:¬(0<=b/\b<m)):vY b cs=0:=by
 unfold vY;rw[List.countP_eq_zero];intro c hc;have:=(ok c hc).b0;have:=(ok c hc).b1;rw[decide_eq_true_eq];omega
theorem JN{cs:List Call72}:(aF cs.length).map (cg cs)=cs:=by
 refine iU (by rw[aE,aS]) fun i h1 h2=>?_;rw[eG,kr];exact yn (aC h2)
theorem Grow.shrinkTo{H H':Hp}{m m':List Addr}(h:∀a∈m,a∈m'\/H a=none)(g:Grow m H H'):Grow m' H H' :=
 ⟨fun b o hb q=>g.keep b o (fun z=>by rcases h b z with h|h;exact hb h;rw[h] at q;cases q) q,g.tup,g.frz⟩
theorem Cb72.mono{B C:Int}{c:Call72}(h:Cb72 B c)(hB:B<=C):Cb72 C c:=⟨by have:=h.hand;omega,by have:=h.box;omega,h.deed.mono hB,by have:=h.begun;omega,by have:=h.ended;omega,by have:=h.answer;omega⟩
noncomputable def w9(c:Call72):PyData:=.tuple [.int c.hand,.int c.box,qT c.deed,.int c.begun,.int c.ended,.int c.answer]
theorem VC{K:FG7}{m:List Addr}{H:Hp}:∀{o:Option Int},Od K m H (ov o) (oD o)
 |none=>.non
 |some _=>.int _
theorem VD{K:FG7}{m:List Addr}{H:Hp}{x:V}{c:Call72}(h:yR K H x c):Od K m H x (w9 c):=by
 obtain⟨r,rd,rfl,h1,h2⟩:=h;exact .tup h1 (.cons (.int _) (.cons (.int _) (.cons (.tup h2 (.cons (.int _) (.cons VC (.cons VC .nil)))) (.cons (.int _) (.cons (.int _) (.cons (.int _) .nil))))))
theorem si{K:FG7}{m:List Addr}{H:Hp}:∀{xs:List V} {cs:List Call72},yG (yR K H) xs cs->Ods K m H xs (cs.map w9)
 |[],[],_=>.nil
 |[],_::_,h=>h.elim
 |_::_,[],h=>h.elim
 |_::_,_::_,h=>.cons (VD h.1) (si h.2)
theorem XW{K:FG7}{m:List Addr}{H:Hp}{x:V}{cs:List Call72}(h:zE K H x cs):Od K m H x (.tuple (cs.map w9)):=by
 obtain⟨r,xs,rfl,h1,h2⟩:=h;exact .tup h1 (si h2)
theorem VE{w:Nat}:∀{ds:List PyData},(∀d∈ds,wtO d<=w)->wtOs ds<=ds.length*(w+2)
 |[],_=>by simp[wtOs]
 |d::ds,h=>by
  have h1:=h d (bM ..);have h2:=VE (ds:=ds) fun e he=>h e (aX _ he);show wtO d+2+wtOs ds<=(ds.length+1)*(w+2)
  rw[Nat.succ_mul];omega
theorem wd{B:Int}{i:Int}(h:-B<=i/\i<=B):leD B (.int i)=true:=by
 show(decide (-B<=i) && decide (i<=B))=true;rw[decide_eq_true h.1,decide_eq_true h.2];rfl
theorem VF{B:Int}{o:Option Int}(h:∀l,o=some l->-B<=l/\l<=B):leD B (oD o)=true:=by
 cases o with
 |none=>rfl
 |some l=>exact wd (h l rfl)
theorem VG{B:Int}{c:Call72}(h:Cb72 B c):leD B (w9 c)=true:=by
 show leDs B [.int c.hand,.int c.box,qT c.deed,.int c.begun,.int c.ended,.int c.answer]=true;have e:leD B (qT c.deed)=true:=by
  show leDs B [.int c.deed.add,oD c.deed.lo,oD c.deed.hi]=true;rw[wc];intro x hx;rcases aK.mp hx with rfl|hx
  ·exact wd h.deed.1
  rcases aK.mp hx with rfl|hx
  ·exact VF h.deed.2.1
  rw[aR.mp hx];exact VF h.deed.2.2
 rw[wc];intro x hx;rcases aK.mp hx with rfl|hx
 ·exact wd h.hand
 rcases aK.mp hx with rfl|hx
 ·exact wd h.box
 rcases aK.mp hx with rfl|hx
 ·exact e
 rcases aK.mp hx with rfl|hx
 ·exact wd h.begun
 rcases aK.mp hx with rfl|hx
 ·exact wd h.ended
 rw[aR.mp hx];exact wd h.answer
theorem VH(o:Option Int):(oD o).depth=0:=by cases o <;> rfl
theorem VI:∀o:Option Int,wtO (oD o)<=1921
 |none=>by decide
 |some _=>aG _
theorem VJ(c:Call72):(w9 c).depth<=2:=by
 show(kL [.int c.hand,.int c.box,qT c.deed,.int c.begun,.int c.ended,.int c.answer]).depth<=2;have e:(qT c.deed).depth<=1:=by
  show eY [.int c.deed.add,oD c.deed.lo,oD c.deed.hi]+1<=1;have:eY [.int c.deed.add,oD c.deed.lo,oD c.deed.hi]<=0:=yJ.mpr fun x hx=>by
   rcases aK.mp hx with rfl|hx
   ·exact aG _
   rcases aK.mp hx with rfl|hx
   ·rw[VH];exact aG _
   rw[aR.mp hx,VH];exact aG _
  omega
 show eY [.int c.hand,.int c.box,qT c.deed,.int c.begun,.int c.ended,.int c.answer]+1<=2;have:eY [.int c.hand,.int c.box,qT c.deed,.int c.begun,.int c.ended,.int c.answer]<=1:=yJ.mpr fun x hx=>by
  rcases aK.mp hx with rfl|hx
  ·exact cw _
  rcases aK.mp hx with rfl|hx
  ·exact cw _
  rcases aK.mp hx with rfl|hx
  ·exact e
  rcases aK.mp hx with rfl|hx
  ·exact cw _
  rcases aK.mp hx with rfl|hx
  ·exact cw _
  rw[aR.mp hx];exact cw _
 omega
theorem VL(c:Call72):wtO (w9 c)<=20000:=by
 have h1:=VI c.deed.lo;have h2:=VI c.deed.hi;have e:wtO (w9 c)=1921+2+(1921+2+((1921+2+(wtO (oD c.deed.lo)+2+(wtO (oD c.deed.hi)+2+0))+3)+2+(1921+2+(1921+2+(1921+2+0)))))+3:=rfl;omega
theorem wK{K:FG7}{m:List Addr}{H:Hp}{r:Addr}{ns:List Nat}(h:SqT K H r (zC ns)):Od K m H (.ref r) (.tuple (ns.map fun k:Nat=>bX (k:Int))):=by
 refine .tup h ?_;clear h;induction ns with
 |nil=>exact .nil
 |cons a b ih=>exact .cons (.int _) ih
theorem j4{ns:List Nat}(h:ns.length<64):Qw (.tuple (ns.map fun k:Nat=>bX (k:Int))):=fun ds e=>by
 injection e with e
 rw[←e];refine⟨by rw[aE];exact h,fun d hd kvs z=>?_⟩;obtain⟨k,_,rfl⟩:=bI.mp hd;cases z
def vZ(t:Nat)(o:List Nat):Prop:=∀j,t.testBit j=true ↔ j∈o
theorem vZ.nil:vZ 0 []:=fun j=>by simp
theorem vZ.or{t n:Nat}{o:List Nat}(h:vZ t o):vZ (t |||2 ^ n) (o++[n]):=fun j=>by
 rw[Nat.testBit_or,kh,h j,Nat.testBit_two_pow,decide_eq_true_eq,bH,aR];exact or_congr Iff.rfl ⟨fun e=>e.symm,fun e=>e.symm⟩
noncomputable def WI(l:List Nat):Nat:=l.foldl (fun m i=>m |||2 ^ i) 0
theorem Y5:∀{l o:List Nat} {t:Nat},vZ t o->vZ (l.foldl (fun m i=>m |||2 ^ i) t) (o++l)
 |[],o,t,h=>by rw[cS];exact h
 |i::l,o,t,h=>by
  have:=Y5 (l:=l) (h.or (n:=i));rw[dI] at this;exact this
theorem qY(l:List Nat):vZ (WI l) l:=by
 have:=Y5 (l:=l) vZ.nil;rwa[fX] at this
theorem VM{l:List Nat}{i:Nat}:WI (l++[i])=WI l |||2 ^ i:=by unfold WI;rw[iJ];rfl
theorem VN:∀{l:List Nat} {n t:Nat},t<2 ^ n->(∀i∈l,i<n)->l.foldl (fun m i=>m |||2 ^ i) t<2 ^ n
 |[],_,_,h,_=>h
 |i::l,n,t,h,hl=>VN (l:=l) (Nat.or_lt_two_pow h (Nat.pow_lt_pow_right (by decide) (hl i (bM ..)))) fun j hj=>hl j (aX _ hj)
theorem Y6:∀{n:Nat} {l:List Nat},l.length=n->l.Pairwise (·<·)->(l.map fun i=>2 ^ i).sum=WI l
 |0,l,h,_=>by rw[fg.mp h];rfl
 |n+1,l,h,pw=>by
  have hl:l≠[]:=fun z=>by rw[z] at h;cases h
  have e:=(List.dropLast_concat_getLast hl).symm;generalize l.dropLast=m at e;generalize l.getLast hl=i at e;subst e;rw[bD] at h;have pm:=(fh.mp pw)
  rw[bZ,List.sum_append,Y6 (n:=n) (by simpa using h) pm.1,VM];have lt:WI m<2 ^ i:=VN (Nat.two_pow_pos i) fun j hj=>pm.2.2 j hj i (by simp);show WI m+(2 ^ i+0)=_;have:=Nat.two_pow_add_eq_or_of_lt lt 1;rw[Nat.mul_one] at this;rw[Nat.add_zero,Nat.add_comm,this,Nat.or_comm]
theorem VO{t M:Nat}:M &&& t=M ↔ ∀j,M.testBit j=true->t.testBit j=true:=by
 constructor
 ·intro h j hj;have:(M &&& t).testBit j=true:=by rw[h];exact hj
  rw[Nat.testBit_and,aJ] at this;exact this.2
 ·intro h;refine Nat.eq_of_testBit_eq fun j=>?_;rw[Nat.testBit_and];cases c:M.testBit j with
  |false=>rfl
  |true=>rw[h j c];rfl
abbrev xg:=(Nat×List Int)×List Nat
noncomputable def wL(E:List xg)(k:Nat×List Int)(o:List Nat):List xg:=if(E.any fun e=>decide (e.1=k))=true then E.map (fun e=>if e.1=k then(e.1,o) else e) else E++[(k,o)]
noncomputable def v7(cs:List Call72)(e:xg)(n M:Nat):Bool:=(decide (e.1.1.testBit n=false) && decide (M &&& e.1.1=M)) && decide (e.1.2.getD (cg cs n).box.toNat 0=(cg cs n).answer)
noncomputable def wM(cs:List Call72)(vs:List Int)(n:Nat):List Int:=vs.set (cg cs n).box.toNat ((cg cs n).deed.mk' (cg cs n).answer)
noncomputable def yr(cs:List Call72)(e:xg)(F:List xg)(p:Nat×Nat):List xg:=if v7 cs e p.1 p.2=true then wL F (e.1.1 |||2 ^ p.1,wM cs e.1.2 p.1) (e.2++[p.1]) else F
noncomputable def z8(cs:List Call72)(ms:List (Nat×Nat))(F:List xg)(e:xg):List xg:=ms.foldl (yr cs e) F
noncomputable def Y7(cs:List Call72)(ms:List (Nat×Nat))(E:List xg):List xg:=E.foldl (z8 cs ms) []
noncomputable def vd(cs:List Call72)(ms:List (Nat×Nat))(b:List Int):Nat->List xg
 |0=>[((0,b),[])]
 |r+1=>Y7 cs ms (vd cs ms b r)
noncomputable def j5(cs:List Call72)(ms:List (Nat×Nat))(b:List Int):Option (List Nat):=(vd cs ms b ms.length).head?.map (·.2)
inductive Run73(cs:List Call72)(ms:List (Nat×Nat))(b:List Int):List Nat->List Int->Prop
 |nil:Run73 cs ms b [] b
 |snoc {o:List Nat} {vs:List Int} {n M:Nat}:Run73 cs ms b o vs->(n,M)∈ms->n∉o->(∀j,M.testBit j=true->j∈o)->vs.getD (cg cs n).box.toNat 0=(cg cs n).answer->Run73 cs ms b (o++[n]) (wM cs vs n)
section
variable{cs:List Call72}{ms:List (Nat×Nat)}{b:List Int}
theorem Run73.nodup{o:List Nat}{vs:List Int}(h:Run73 cs ms b o vs):o.Nodup:=by
 induction h with
 |nil=>exact lY
 |snoc h hm hn hj ha ih =>
  rw[List.nodup_append];exact⟨ih,by simp,fun x hx y hy z=>hn (by rw[aR] at hy;rw[←hy,←z];exact hx)⟩
theorem Run73.mem{o:List Nat}{vs:List Int}(h:Run73 cs ms b o vs):∀n∈o,n∈ms.map (·.1):=by
 induction h with
 |nil=>exact nofun
 |snoc h hm hn hj ha ih =>
  intro x hx;rcases bH.mp hx with z|z
  ·exact ih x z
  ·rw[aR.mp z];exact bI.mpr ⟨_,hm,rfl⟩
def Z8(cs:List Call72)(ms:List (Nat×Nat))(b:List Int)(r:Nat)(E:List xg):Prop:=∀e∈E,e.2.length=r/\vZ e.1.1 e.2/\Run73 cs ms b e.2 e.1.2
theorem VP{E:List xg}{k:Nat×List Int}{o:List Nat}{e:xg}(h:e∈wL E k o):e∈E\/e=(k,o):=by
 unfold wL at h;split at h
 ·obtain⟨x,hx,rfl⟩:=bI.mp h;by_cases c:x.1=k
  ·rw[if_pos c,c];exact .inr rfl
  ·rw[if_neg c];exact .inl hx
 ·rcases bH.mp h with z|z
  ·exact .inl z
  ·exact .inr (aR.mp z)
theorem VQ{E:List xg}{k k':Nat×List Int}{o:List Nat}(h:k'∈E.map (·.1)):k'∈(wL E k o).map (·.1):=by
 unfold wL;split
 ·obtain⟨x,hx,rfl⟩:=bI.mp h;refine bI.mpr ⟨_,bI.mpr ⟨x,hx,rfl⟩,?_⟩;split <;> rfl
 ·rw[bZ];exact cW _ h
theorem rA{E:List xg}{k:Nat×List Int}{o:List Nat}:k∈(wL E k o).map (·.1):=by
 unfold wL;split
 ·rename_i h;obtain⟨x,hx,hk⟩:=List.any_eq_true.mp h;refine bI.mpr ⟨_,bI.mpr ⟨x,hx,rfl⟩,?_⟩;rw[if_pos (of_decide_eq_true hk)];exact of_decide_eq_true hk
 ·rw[bZ];exact bG _ (by simp)
theorem VR{E:List xg}{k:Nat×List Int}{o:List Nat}:(wL E k o).length<=E.length+1:=by
 unfold wL;split
 ·rw[aE];omega
 ·rw[bD];simp
theorem XX{e x:xg}{F:List xg}{p:Nat×Nat}(h:x∈yr cs e F p):x∈F\/(v7 cs e p.1 p.2=true/\x=((e.1.1 |||2 ^ p.1,wM cs e.1.2 p.1),e.2++[p.1])):=by
 unfold yr at h;split at h
 ·rename_i c;rcases VP h with z|z
  ·exact .inl z
  ·exact .inr ⟨c,z⟩
 ·exact .inl h
theorem XY{e:xg}{F:List xg}{p:Nat×Nat}{k:Nat×List Int}(h:k∈F.map (·.1)):k∈(yr cs e F p).map (·.1):=by
 unfold yr;split
 ·exact VQ h
 ·exact h
theorem XZ{e:xg}{F:List xg}{p:Nat×Nat}:(yr cs e F p).length<=F.length+1:=by
 unfold yr;split
 ·exact VR
 ·omega
theorem qb{e x:xg}:∀{ms:List (Nat×Nat)} {F:List xg},x∈z8 cs ms F e->x∈F\/∃p∈ms,v7 cs e p.1 p.2=true/\x=((e.1.1 |||2 ^ p.1,wM cs e.1.2 p.1),e.2++[p.1])
 |[],_,h=>.inl h
 |p::ms,F,h=>by
  rcases qb (ms:=ms) (F:=yr cs e F p) h with z|⟨q,hq,z⟩
  ·rcases XX z with z|z
   ·exact .inl z
   ·exact .inr ⟨p,bM ..,z⟩
  ·exact .inr ⟨q,aX _ hq,z⟩
theorem uB{e:xg}{k:Nat×List Int}:∀{ms:List (Nat×Nat)} {F:List xg},k∈F.map (·.1)->k∈(z8 cs ms F e).map (·.1)
 |[],_,h=>h
 |p::ms,F,h=>uB (ms:=ms) (F:=yr cs e F p) (XY h)
theorem qc{e:xg}{p:Nat×Nat}(hm:v7 cs e p.1 p.2=true):∀{ms:List (Nat×Nat)} {F:List xg},p∈ms->(e.1.1 |||2 ^ p.1,wM cs e.1.2 p.1)∈(z8 cs ms F e).map (·.1)
 |q::ms,F,h=>by
  show _∈(z8 cs ms (yr cs e F q) e).map (·.1);rcases aK.mp h with rfl|h
  ·refine uB ?_;unfold yr;rw[if_pos hm];exact rA
  ·exact qc hm h
theorem uC{e:xg}:∀{ms:List (Nat×Nat)} {F:List xg},(z8 cs ms F e).length<=F.length+ms.length
 |[],_=>aG _
 |p::ms,F=>by
  have h1:=uC (e:=e) (ms:=ms) (F:=yr cs e F p);have h2:=XZ (cs:=cs) (e:=e) (F:=F) (p:=p);show(z8 cs ms (yr cs e F p) e).length<=F.length+(ms.length+1)
  omega
theorem qd{x:xg}:∀{E F:List xg},x∈E.foldl (z8 cs ms) F->x∈F\/∃e∈E,∃p∈ms,v7 cs e p.1 p.2=true/\x=((e.1.1 |||2 ^ p.1,wM cs e.1.2 p.1),e.2++[p.1])
 |[],_,h=>.inl h
 |e::E,F,h=>by
  rcases qd (E:=E) (F:=z8 cs ms F e) h with z|⟨q,hq,z⟩
  ·rcases qb z with z|z
   ·exact .inl z
   ·exact .inr ⟨e,bM ..,z⟩
  ·exact .inr ⟨q,aX _ hq,z⟩
theorem qe{k:Nat×List Int}:∀{E F:List xg},k∈F.map (·.1)->k∈(E.foldl (z8 cs ms) F).map (·.1)
 |[],_,h=>h
 |e::E,F,h=>qe (E:=E) (F:=z8 cs ms F e) (uB h)
theorem qf{e:xg}{p:Nat×Nat}(hm:v7 cs e p.1 p.2=true)(hp:p∈ms):∀{E F:List xg},e∈E->(e.1.1 |||2 ^ p.1,wM cs e.1.2 p.1)∈(E.foldl (z8 cs ms) F).map (·.1)
 |x::E,F,h=>by
  show _∈(E.foldl (z8 cs ms) (z8 cs ms F x)).map (·.1);rcases aK.mp h with rfl|h
  ·exact qe (qc hm hp)
  ·exact qf hm hp h
theorem uD:∀{E F:List xg},(E.foldl (z8 cs ms) F).length<=F.length+E.length*ms.length
 |[],F=>by simp
 |e::E,F=>by
  have h1:=uD (E:=E) (F:=z8 cs ms F e);have h2:=uC (cs:=cs) (e:=e) (ms:=ms) (F:=F);show(E.foldl (z8 cs ms) (z8 cs ms F e)).length<=F.length+(E.length+1)*ms.length;rw[Nat.add_mul];omega
theorem j6{e:xg}{n M:Nat}(hi:vZ e.1.1 e.2):v7 cs e n M=true ↔ n∉e.2/\(∀j,M.testBit j=true->j∈e.2)/\e.1.2.getD (cg cs n).box.toNat 0=(cg cs n).answer:=by
 unfold v7;rw[aJ,aJ,decide_eq_true_eq,decide_eq_true_eq,decide_eq_true_eq,VO];have h1:e.1.1.testBit n=false ↔ n∉e.2:=by
  rw[←hi n,lp]
 have h2:(∀j,M.testBit j=true->e.1.1.testBit j=true) ↔ ∀j,M.testBit j=true->j∈e.2:=forall_congr' fun j=>imp_congr Iff.rfl (hi j);rw[h1,h2,and_assoc]
theorem j7{r:Nat}{E:List xg}(h:Z8 cs ms b r E):Z8 cs ms b (r+1) (Y7 cs ms E):=by
 intro x hx;rcases qd hx with z|⟨e,he,p,hp,hm,rfl⟩
 ·cases z
 obtain⟨h1,h2,h3⟩:=h e he;obtain⟨m1,m2,m3⟩:=(j6 h2).mp hm;exact⟨by rw[bD,h1];rfl,h2.or,.snoc h3 hp m1 m2 m3⟩
theorem we:∀r:Nat,Z8 cs ms b r (vd cs ms b r)
 |0=>by
  intro e he;rw[aR.mp he];exact⟨rfl,vZ.nil,.nil⟩
 |r+1=>j7 (we r)
theorem sj:∀r:Nat,(vd cs ms b r).length<=ms.length ^ r
 |0=>aG _
 |r+1=>by
  have h1:=uD (cs:=cs) (ms:=ms) (E:=vd cs ms b r) (F:=[]);have h2:=gQ ms.length (sj r);show(Y7 cs ms (vd cs ms b r)).length<=ms.length ^ r*ms.length;exact cH h1 (by simpa using h2)
theorem VS{o:List Nat}{vs:List Int}(h:Run73 cs ms b o vs):∃t,vZ t o/\(t,vs)∈(vd cs ms b o.length).map (·.1):=by
 induction h with
 |nil=>exact⟨0,vZ.nil,by simp[vd]⟩
 |@snoc o vs n M h hm hn hj ha ih =>
  obtain⟨t,ht,hk⟩:=ih;obtain⟨e,he,ek⟩:=bI.mp hk;obtain⟨h1,h2,h3⟩:=we o.length e he;have ee:e.1=(t,vs):=ek;have E9:∀j,j∈e.2 ↔ j∈o:=fun j=>by rw[←h2 j,ee,ht j]
  have Gj:v7 cs e n M=true:=(j6 h2).mpr ⟨fun z=>hn ((E9 n).mp z),fun j z=>(E9 j).mpr (hj j z),by rw[ee];exact ha⟩;refine⟨t |||2 ^ n,ht.or,?_⟩;rw[bD];have:=qf (cs:=cs) (ms:=ms) (p:=(n,M)) Gj hm (E:=vd cs ms b o.length) (F:=[]) he;rw[ee] at this;exact this
theorem qg{o:List Nat}(h:j5 cs ms b=some o):∃vs,Run73 cs ms b o vs/\o.length=ms.length:=by
 unfold j5 at h;obtain⟨e,he,rfl⟩:=eF.mp h;obtain⟨h1,_,h3⟩:=we (cs:=cs) (ms:=ms) (b:=b) ms.length e (List.mem_of_mem_head? he);exact⟨_,h3,h1⟩
theorem qh(h:j5 cs ms b=none){o:List Nat}{vs:List Int}(hr:Run73 cs ms b o vs):o.length≠ms.length:=fun z=>by
 obtain⟨t,_,hk⟩:=VS hr;rw[z] at hk;unfold j5 at h;rw[Option.map_eq_none_iff,List.head?_eq_none_iff] at h;rw[h] at hk;cases hk
theorem j8:∀{o ns:List Nat},o.Nodup->(∀n∈o,n∈ns)->ns.length<=o.length->o.Perm ns
 |[],ns,_,_,hl=>by
  rw[fg.mp (Nat.le_zero.mp hl)]
 |a::o,ns,nd,hm,hl=>by
  have ha:=hm a (bM ..);have pe:=List.perm_cons_erase ha;obtain⟨na,Fa⟩:=gJ.mp nd;refine(lZ a (j8 Fa (fun n hn=>?_) ?_)).trans pe.symm
  ·exact(List.mem_erase_of_ne (fun z=>na (by rw[←z];exact hn))).mpr (hm n (aX _ hn))
  ·have:=pe.length_eq;rw[cJ] at this hl;omega
theorem Run73.perm{o:List Nat}{vs:List Int}(h:Run73 cs ms b o vs)(hl:o.length=ms.length):o.Perm (ms.map (·.1)):=j8 h.nodup h.mem (by rw[aE,hl];exact aG _)
end
noncomputable def sk(cs:List Call72)(ns:List Nat)(n:Nat):List Nat:=ns.filter fun j=>decide ((cg cs j).ended<(cg cs n).begun)
noncomputable def vA(cs:List Call72)(ns:List Nat):List (Nat×Nat):=ns.map fun n=>(n,WI (sk cs ns n))
theorem sr{cs:List Call72}{ns:List Nat}:(vA cs ns).map (·.1)=ns:=by
 unfold vA;rw[de];exact(ie fun _ _=>rfl).trans (ip ns)
theorem v8{cs:List Call72}{ns:List Nat}:(vA cs ns).length=ns.length:=aE ..
abbrev RH(cs:List Call72)(a b:Nat):Prop:=¬(cg cs b).ended<(cg cs a).begun
theorem wN{cs:List Call72}:∀{o:List Nat},tq cs o=true ↔ o.Pairwise (RH cs)
 |[]=>by simp[tq]
 |k::r=>by
  show(!(r.any fun j=>decide ((cg cs j).ended<(cg cs k).begun)) && tq cs r)=true ↔ _;rw[aJ,dW,wN,cX,fT];refine and_congr (forall_congr' fun j=>imp_congr Iff.rfl ?_) Iff.rfl;rw[decide_eq_true_eq]
theorem Se{cs:List Call72}{ms:List (Nat×Nat)}{b:List Int}{o:List Nat}{vs:List Int}(h:Run73 cs ms b o vs):RG b (o.map (cg cs))=some vs:=by
 induction h with
 |nil=>rfl
 |snoc h hm hn hj ha ih =>
  rw[bZ];exact VB ih ha
theorem Y8{cs:List Call72}{ms:List (Nat×Nat)}{b:List Int}{o:List Nat}{vs:List Int}(h:Run73 cs ms b o vs):vM cs b o=true:=by rw[JM,Se h];rfl
theorem Sf{cs:List Call72}{ns:List Nat}{b:List Int}{o:List Nat}{vs:List Int}(h:Run73 cs (vA cs ns) b o vs):∀k∈o,∀j∈ns,(cg cs j).ended<(cg cs k).begun->j∈o:=by
 induction h with
 |nil=>exact nofun
 |@snoc o vs n M h hm hn hj ha ih =>
  intro k hk j Fb lt;rcases bH.mp hk with z|z
  ·exact cW _ (ih k z j Fb lt)
  ·have ek:=aR.mp z;subst ek;obtain⟨n',_,e⟩:=bI.mp hm;injection e with e1 e2
   subst e1;refine cW _ (hj j ?_);rw[←e2];exact(qY _ j).mpr (dX.mpr ⟨Fb,decide_eq_true lt⟩)
theorem Sg{cs:List Call72}{ns:List Nat}{b:List Int}{o:List Nat}{vs:List Int}(h:Run73 cs (vA cs ns) b o vs):tq cs o=true:=by
 rw[wN];induction h with
 |nil=>exact .nil
 |@snoc o vs n M h hm hn hj ha ih =>
  refine fh.mpr ⟨ih,by simp,fun k hk j pO lt=>?_⟩;rw[aR.mp pO] at lt;have AU:n∈ns:=by
   have:n∈(vA cs ns).map (·.1):=bI.mpr ⟨_,hm,rfl⟩;rwa[sr] at this
  exact hn (Sf h k hk n AU lt)
theorem j9{cs:List Call72}{ns:List Nat}{b:List Int}(ok:∀k∈ns,(cg cs k).begun<=(cg cs k).ended):∀{r p:List Nat} {vs:List Int},(∀x,x∈p++r ↔ x∈ns)->(p++r).Nodup->Run73 cs (vA cs ns) b p vs->tq cs r=true->vM cs vs r=true→
  ∃ws,Run73 cs (vA cs ns) b (p++r) ws
 |[],p,vs,_,_,h,_,_=>⟨vs,by rw[cS];exact h⟩
 |n::r,p,vs,hm,nd,h,hk,ha=>by
  have oU:=dW.mp (wN.mp hk);have AU:n∈ns:=(hm n).mp (by simp);rw[xu] at ha;have hv:vs.getD (cg cs n).box.toNat 0=(cg cs n).answer:=by
   by_cases c:vs.getD (cg cs n).box.toNat 0=(cg cs n).answer
   ·exact c
   ·rw[if_neg c] at ha;cases ha
  rw[if_pos hv] at ha;have np:n∉p:=fun z=>(gS.mp nd).2.2 n z n (by simp) rfl;have e:p++n::r=(p++[n])++r:=by rw[dI];rfl
  rw[e] at hm nd ⊢;refine j9 ok hm nd (.snoc h (bI.mpr ⟨n,AU,rfl⟩) np (fun j hj=>?_) hv) (wN.mpr oU.2) ha;obtain⟨j1,j2⟩:=dX.mp ((qY _ j).mp hj);have lt:=of_decide_eq_true j2;rcases bH.mp ((hm j).mpr j1) with z|z
  ·rcases bH.mp z with z|z
   ·exact z
   ·rw[aR.mp z] at lt;have:=ok n AU;omega
  ·exact absurd lt (oU.1 j z)
abbrev xK(cs:List Call72)(x:Nat)(k:Nat):Bool:=decide ((cg cs k).box=(x:Int))
noncomputable def vm(cs:List Call72)(x:Nat):List Nat:=(aF cs.length).filter (xK cs x)
theorem y9{cs:List Call72}{x k:Nat}:k∈vm cs x ↔ k<cs.length/\(cg cs k).box=(x:Int):=by
 unfold vm;rw[List.mem_filter,List.mem_range,decide_eq_true_eq]
theorem qj{cs:List Call72}{x:Nat}:(vm cs x).Nodup:=List.nodup_range.sublist gi
theorem VT{cs:List Call72}{x:Nat}:(vm cs x).Pairwise (·<·):=fo.sublist gi
theorem v9{cs:List Call72}{x:Nat}:(vm cs x).length=vY (x:Int) cs:=by
 unfold vm vY;rw[←List.countP_eq_length_filter]
 conv=>rhs;rw[←JN (cs:=cs),mU]
 rfl
theorem uE{cs:List Call72}{x:Nat}:∀{o:List Nat} {vs ws:List Int},(∀k∈o,(cg cs k).box=(x:Int))->x<vs.length->x<ws.length->vs.getD x 0=ws.getD x 0->vM cs vs o=vM cs ws o
 |[],_,_,_,_,_,_=>rfl
 |k::r,vs,ws,hb,hv,hw,e=>by
  have hk:=hb k (bM ..);have ek:(cg cs k).box.toNat=x:=by rw[hk];exact bL x
  rw[xu,xu,ek,e];split
  ·exact uE (fun j hj=>hb j (aX _ hj)) (by rw[cT];exact hv) (by rw[cT];exact hw) (by rw[yw hv,yw hw])
  ·rfl
theorem ss{cs:List Call72}{x:Nat}:∀{o:List Nat} {vs:List Int},(∀k∈o,0<=(cg cs k).box)->x<vs.length->vM cs vs o=true->vM cs vs (o.filter (xK cs x))=true
 |[],_,_,_,_=>rfl
 |k::r,vs,hb,hv,h=>by
  rw[xu] at h;have hk0:=hb k (bM ..);have hr:=fun j hj=>hb j (aX _ hj);by_cases c:vs.getD (cg cs k).box.toNat 0=(cg cs k).answer
  ·rw[if_pos c] at h;have ih:=ss (x:=x) hr (by rw[cT];exact hv) h;by_cases hx:(cg cs k).box=(x:Int)
   ·rw[eE,if_pos (decide_eq_true hx),xu,if_pos c];exact ih
   ·rw[eE,if_neg (by rw[decide_eq_true_eq];exact hx)];rw[uE (x:=x) (ws:=vs.set (cg cs k).box.toNat ((cg cs k).deed.mk' (cg cs k).answer)) (fun j hj=>of_decide_eq_true (dX.mp hj).2) hv (by rw[cT];exact hv) (by rw[z7 (by omega)])];exact ih
  ·rw[if_neg c] at h;cases h
theorem qZ{cs:List Call72}:∀{o:List Nat} {vs:List Int},(∀k∈o,0<=(cg cs k).box/\(cg cs k).box.toNat<vs.length)->(∀x<vs.length,vM cs vs (o.filter (xK cs x))=true)->vM cs vs o=true
 |[],_,_,_=>rfl
 |k::r,vs,hb,h=>by
  obtain⟨k0,k1⟩:=hb k (bM ..);have ek:(cg cs k).box=((cg cs k).box.toNat:Int):=(eO k0).symm;have h0:=h _ k1;rw[eE,if_pos (decide_eq_true ek),xu] at h0;rw[xu];by_cases c:vs.getD (cg cs k).box.toNat 0=(cg cs k).answer
  ·rw[if_pos c] at h0 ⊢;refine qZ (fun j hj=>by rw[cT];exact hb j (aX _ hj)) fun x hx=>?_;rw[cT] at hx;by_cases e:x=(cg cs k).box.toNat
   ·rw[e];exact h0
   ·have Ap:=h x hx;rw[eE,if_neg (by rw[decide_eq_true_eq];omega)] at Ap;rw[uE (x:=x) (ws:=vs) (fun j hj=>of_decide_eq_true (dX.mp hj).2) (by rw[cT];exact hx) hx (by rw[z7 (by omega)])];exact Ap
  ·rw[if_neg c] at h0;cases h0
noncomputable def yS(c:Nat):List Nat->List Nat->List Nat×List Nat
 |[],tog=>([],tog)
 |x::own,tog=>if c∈x::own then yS c own (tog++[x]) else(x::own,tog)
noncomputable def yK(cs:List Call72)(st:List (List Nat)×List Nat)(c:Nat):List (List Nat)×List Nat :=
 (st.1.set (cg cs c).box.toNat (yS c (st.1.getD (cg cs c).box.toNat []) st.2).1,(yS c (st.1.getD (cg cs c).box.toNat []) st.2).2)
noncomputable def y4(cs:List Call72)(srt:List Nat)(os:List (List Nat)):List Nat:=(srt.foldl (yK cs) (os,[])).2
theorem qk{c:Nat}:∀{own tog:List Nat},own.Nodup->∃p AV,yS c own tog=(AV,tog++p)/\own=p++AV/\c∉AV/\(p=[]\/∃p',p=p'++[c])
 |[],tog,_=>⟨[],[],by rw[cS];rfl,rfl,by simp,.inl rfl⟩
 |x::own,tog,nd=>by
  obtain⟨nx,Fa⟩:=gJ.mp nd;by_cases h:c∈x::own
  ·obtain⟨p,AV,e1,e2,e3,e4⟩:=qk (c:=c) (tog:=tog++[x]) Fa;refine⟨x::p,AV,?_,by rw[e2];rfl,e3,?_⟩
   ·show(if c∈x::own then yS c own (tog++[x]) else(x::own,tog))=_;rw[if_pos h,e1,dI];rfl
   ·rcases e4 with rfl|⟨p',rfl⟩
    ·refine .inr ⟨[],?_⟩;rcases aK.mp h with rfl|h
     ·rfl
     ·rw[e2] at h;exact absurd h e3
    ·exact .inr ⟨x::p',rfl⟩
  ·refine⟨[],x::own,?_,rfl,h,.inl rfl⟩;show(if c∈x::own then yS c own (tog++[x]) else(x::own,tog))=_;rw[if_neg h,cS]
structure MI73(cs:List Call72)(os:List (List Nat))(pre:List Nat)(left:List (List Nat))(tog:List Nat):Prop where
 len:left.length=os.length
 parts:∀x<os.length,os.getD x []=tog.filter (xK cs x)++left.getD x []
 out:∀c∈pre,∀x<os.length,c∉left.getD x []
 pw:tog.Pairwise (RH cs)
 far:∀a∈tog,∀x<os.length,∀y∈left.getD x [],RH cs a y
 box:∀k∈tog,0<=(cg cs k).box/\(cg cs k).box.toNat<os.length
theorem Za{cs:List Call72}{os left:List (List Nat)}{pre rem tog:List Nat}{c:Nat}(h:MI73 cs os pre left tog)
    (hs:(pre++c::rem).Perm (aF cs.length)) (srt:∀y∈rem,(cg cs c).ended<=(cg cs y).ended)
    (ok:∀k<cs.length,0<=(cg cs k).box/\(cg cs k).box.toNat<os.length/\(cg cs k).begun<=(cg cs k).ended)
    (hp:∀x<os.length,(os.getD x []).Perm (vm cs x)) (hk:∀x<os.length,(os.getD x []).Pairwise (RH cs)) :
    MI73 cs os (pre++[c]) (yK cs (left,tog) c).1 (yK cs (left,tog) c).2:=by
  have hc:c<cs.length:=bN.mp (hs.mem_iff.mp (by simp));obtain⟨c0,c1,c2⟩:=ok c hc;generalize hX:(cg cs c).box.toNat=X at c1;have hX':(cg cs c).box=(X:Int):=by rw[←hX];exact(eO c0).symm
  have Bz:∀x<os.length,∀y∈left.getD x [],y∈os.getD x []:=fun x hx y hy=>by rw[h.parts x hx];exact bG _ hy
  have ndl:(left.getD X []).Nodup:=by
    have:=(hp X c1).nodup_iff.mpr qj;rw[h.parts X c1] at this;exact(gS.mp this).2.1
  obtain⟨p,AV,e1,e2,e3,e4⟩:=qk (c:=c) (tog:=tog) ndl;have es:yK cs (left,tog) c=(left.set X AV,tog++p):=by
    unfold yK;show(left.set (cg cs c).box.toNat (yS c (left.getD (cg cs c).box.toNat []) tog).1,(yS c (left.getD (cg cs c).box.toNat []) tog).2)=_;rw[hX,e1]
  rw[es];have lX:X<left.length:=by rw[h.len];exact c1
  have D0:∀x,(left.set X AV).getD x []=if x=X then AV else left.getD x []:=fun x=>by
    by_cases e:x=X
    · rw[if_pos e,e,yw lX]
    · rw[if_neg e,z7 (fun z=>e z.symm)]
  have pX:∀a∈p,(cg cs a).box=(X:Int)/\a∈left.getD X []:=fun a ha=>by
    have m:a∈left.getD X []:=by rw[e2];exact cW _ ha
    exact⟨(y9.mp ((hp X c1).mem_iff.mp (Bz X c1 a m))).2,m⟩
  have HJ:∀x<os.length,∀y∈left.getD x [],(cg cs c).ended<=(cg cs y).ended:=fun x hx y hy=>by
    have yl:=(y9.mp ((hp x hx).mem_iff.mp (Bz x hx y hy))).1;have ym:=hs.mem_iff.mpr (bN.mpr yl);rcases bH.mp ym with z|z
    · exact absurd hy (h.out y z x hx)
    · rcases aK.mp z with rfl|z
      · exact Int.le_refl _
      · exact srt y z
  have Fc:∀a∈p,(cg cs a).begun<=(cg cs c).ended:=fun a ha=>by
    rcases e4 with rfl|⟨p',rfl⟩
    · cases ha
    rcases bH.mp ha with z|z
    · have pw:=hk X c1
      rw[h.parts X c1,e2,dI] at pw;have pw2:=(fh.mp pw).2.1;have:=(fh.mp pw2).2.2 a z c (by simp);unfold RH at this;omega
    · rw[aR.mp z];exact c2
  have Fd:∀a∈p,∀x<os.length,∀y∈left.getD x [],RH cs a y:=fun a ha x hx y hy=>by
    have h1:=Fc a ha;have h2:=HJ x hx y hy;unfold RH;omega
  have fp:∀x,p.filter (xK cs x)=if x=X then p else[]:=fun x=>by
    by_cases e:x=X
    · rw[if_pos e,e]
      exact List.filter_eq_self.mpr fun a ha=>decide_eq_true (pX a ha).1
    · rw[if_neg e]
      refine List.filter_eq_nil_iff.mpr fun a ha=>?_;rw[decide_eq_true_eq,(pX a ha).1];omega
  exact{
    len:=by rw[cT];exact h.len
    parts:=fun x hx=>by
      rw[gy,fp,D0,h.parts x hx];by_cases e:x=X
      · rw[if_pos e,if_pos e,e,e2,dI]
      · rw[if_neg e,if_neg e,cS]
    out:=fun d hd x hx=>by
      rw[D0];rcases bH.mp hd with z|z
      · by_cases e:x=X
        · rw[if_pos e]
          intro w;exact h.out d z X c1 (by rw[e2];exact bG _ w)
        · rw[if_neg e];exact h.out d z x hx
      · rw[aR.mp z]
        by_cases e:x=X
        · rw[if_pos e];exact e3
        · rw[if_neg e]
          intro w;have:=(y9.mp ((hp x hx).mem_iff.mp (Bz x hx c w))).2;rw[hX'] at this;omega
    pw:=fh.mpr ⟨h.pw,by
        refine List.Pairwise.imp_of_mem (R:=fun _ _=>True) (fun{a b} ha hb _=>Fd a ha X c1 b (pX b hb).2) ?_;exact List.pairwise_of_forall fun _ _=>trivial,fun a ha b hb=>h.far a ha X c1 b (pX b hb).2⟩
    far:=fun a ha x hx y hy=>by
      rw[D0] at hy;have Dz:y∈left.getD x []:=by
        by_cases e:x=X
        · rw[if_pos e] at hy
          rw[e,e2];exact bG _ hy
        · rwa[if_neg e] at hy
      rcases bH.mp ha with z|z
      · exact h.far a z x hx y Dz
      · exact Fd a z x hx y Dz
    box:=fun k oU=>by
      rcases bH.mp oU with z|z
      · exact h.box k z
      · rw[(pX k z).1]
        exact⟨gq _,by rw[bL];exact c1⟩ }
theorem su{cs:List Call72}{os:List (List Nat)}(ok:∀k<cs.length,0<=(cg cs k).box/\(cg cs k).box.toNat<os.length/\(cg cs k).begun<=(cg cs k).ended)
  (hp:∀x<os.length,(os.getD x []).Perm (vm cs x)) (hk:∀x<os.length,(os.getD x []).Pairwise (RH cs)) :
  ∀{rem pre tog:List Nat} {left:List (List Nat)},(pre++rem).Perm (aF cs.length)->rem.Pairwise (fun a b=>(cg cs a).ended<=(cg cs b).ended)->MI73 cs os pre left tog→
   MI73 cs os (pre++rem) (rem.foldl (yK cs) (left,tog)).1 (rem.foldl (yK cs) (left,tog)).2
 |[],pre,tog,left,_,_,h=>by rw[cS];exact h
 |c::rem,pre,tog,left,hs,srt,h=>by
  have st:=Za h hs (dW.mp srt).1 ok hp hk;have:=su ok hp hk (rem:=rem) (pre:=pre++[c]) (tog:=(yK cs (left,tog) c).2) (left:=(yK cs (left,tog) c).1) (by rw[dI];exact hs) (dW.mp srt).2 st;rw[dI] at this;exact this
theorem sv{cs:List Call72}{os:List (List Nat)}{srt:List Nat}(ok:∀k<cs.length,0<=(cg cs k).box/\(cg cs k).box.toNat<os.length/\(cg cs k).begun<=(cg cs k).ended)
  (hp:∀x<os.length,(os.getD x []).Perm (vm cs x)) (hk:∀x<os.length,tq cs (os.getD x [])=true) (hs:srt.Perm (aF cs.length)) (so:srt.Pairwise (fun a b=>(cg cs a).ended<=(cg cs b).ended)) :
  (∀x<os.length,(y4 cs srt os).filter (xK cs x)=os.getD x [])/\(y4 cs srt os).Perm (aF cs.length)/\tq cs (y4 cs srt os)=true:=by
 have M:=su ok hp (fun x hx=>wN.mp (hk x hx)) (rem:=srt) (pre:=[]) (tog:=[]) (left:=os) hs so
  ⟨rfl,fun x _=>rfl,(fun c hc=>nomatch hc),.nil,(fun a ha=>nomatch ha),(fun k oU=>nomatch oU)⟩
 rw[fX] at M;have em:∀x<os.length,((srt.foldl (yK cs) (os,[])).1).getD x []=[]:=fun x hx=>by
  refine List.eq_nil_iff_forall_not_mem.mpr fun y hy=>?_;have yo:y∈os.getD x []:=by rw[M.parts x hx];exact bG _ hy
  have yl:=(y9.mp ((hp x hx).mem_iff.mp yo)).1;exact M.out y (hs.mem_iff.mpr (bN.mpr yl)) x hx hy
 have fl:∀x<os.length,(y4 cs srt os).filter (xK cs x)=os.getD x []:=fun x hx=>by
  rw[M.parts x hx,em x hx,cS];rfl
 refine⟨fl,List.perm_iff_count.mpr fun k=>?_,wN.mpr M.pw⟩;by_cases hm:k<cs.length
 ·obtain⟨k0,k1,_⟩:=ok k hm;have ek:xK cs (cg cs k).box.toNat k=true:=decide_eq_true (eO k0).symm;rw[←List.count_filter (p:=xK cs (cg cs k).box.toNat) ek,←List.count_filter (p:=xK cs (cg cs k).box.toNat) (l:=aF cs.length) ek,fl _ k1];exact(hp _ k1).count_eq k
 ·have n1:k∉aF cs.length:=fun z=>hm (bN.mp z);have n2:k∉y4 cs srt os:=fun z=>by
   obtain⟨k0,k1⟩:=M.box k z;have:k∈(y4 cs srt os).filter (xK cs (cg cs k).box.toNat):=dX.mpr ⟨z,decide_eq_true (eO k0).symm⟩;rw[fl _ k1] at this;exact hm (y9.mp ((hp _ k1).mem_iff.mp this)).1
  rw[List.count_eq_zero.mpr n1,List.count_eq_zero.mpr n2]
open PySem
structure ItK(prog:Program)(w:World)(K:Type)[DecidableEq K] where
 is:Heap->K->Value->Prop
 hash:K->Int
 draws:K->Nat
 inj:∀{h:Heap} {v:Value} {x y:K},is h x v->is h y v->x=y
 keeps:∀{h h':Heap} {k:K} {v:Value} {d:Addr} {o:Obj} {es ep},is h k v->h.get? d=some o->o.data=.dict es ep->cP d h h'->is h' k v
 pyHash:∀{A:Around} {E:VS7} {s:Shared} {k:K} {v:Value} {Q:Int->Shared->Prop},A.units<ig->is s.heap k v->Q (hash k) { s with toks:=s.toks+draws k }->wpAny (model prog w) A (PySem.pyHash v) Q E s
 eqBool:∀{A:Around} {E:VS7} {s:Shared} {x y:K} {a b:Value} {Q:Bool->Shared->Prop},A.units<ig->is s.heap x a->is s.heap y b->Q (decide (x=y)) s->wpAny (model prog w) A (PySem.eqBool a b) Q E s
 quiet:∀{A:Around} {E:VS7} {s:Shared} {k:K} {v:Value} {Q:Bool->Shared->Prop},is s.heap k v->Q true s->wpAny (model prog w) A (eqIsQuiet 7 v) Q E s
noncomputable def sw(prog:Program)(w:World):ItK prog w Int where
 is:=fun _ k v=>(ir prog w).is k v=true
 hash:=(ir prog w).hash
 draws:=fun _=>1
 inj:=fun h1 h2=>(ir prog w).inj _ _ _ h1 h2
 keeps:=fun h _ _ _=>h
 pyHash:=fun _ h q=>(ir prog w).pyHash h q
 eqBool:=fun _ h1 h2 q=>(ir prog w).eqBool h1 h2 q
 quiet:=fun h q=>by rw[eqIsQuiet_byValue _ ((ir prog w).byValue _ _ h)];exact aB q
section
variable{prog:Program}{w:World}{A:Around}{E:VS7}{s:Shared}
theorem JO{K:Type}[DecidableEq K]{knd:KeyKind prog w K}{ks:List K}{a:Addr}{Q:Bool->Shared->Prop}(hk:IsTupleKey knd s.heap ks a)(h:Q true s):wpAny (model prog w) A (eqIsQuiet 7 (.ref a)) Q E s:=by
 have hT:=hk.typeIs;obtain⟨o,items,n,ho,_,hd,hi⟩:=hk;unfold eqIsQuiet;refine aA (gK hT F.slot_tuple_eq.lookup ?_);show wpAny _ _ (lW (.ref a) (.type "tuple") >>= _) _ _ s;refine aA (fG hT kX ?_);simp only[dJ,aY,if_false]
 refine aA (du ho hd ?_);refine aA ?_;show wpAny _ _ (forIn items _ _) _ _ s;rw[←iA];refine gm _ (fun nV r s'=>r.1=none/\s'=s/\∀v∈nV,carriedByValue v=true) _ ?_ ?_ _ _ ⟨rfl,rfl,hi.byValue⟩
 ·rintro v nV r s' ⟨hr,rfl,nP⟩;rw[eqIsQuiet_byValue _ (nP v bM)];refine aA (aB ?_);simp only[dJ,aY,if_false]
  exact aB ⟨rfl,rfl,fun u EE=>nP u (aX _ EE)⟩
 ·rintro⟨r1,r2⟩ s' ⟨hr,rfl,_⟩;simp only at hr;subst hr;exact aB h
end
noncomputable def zbq(prog:Program)(w:World):ItK prog w (List Int) where
 is:=fun h k v=>∃a,v=.ref a/\IsTupleKey (ir prog w) h k a
 hash:=tupleKeyHash (ir prog w)
 draws:=fun ks=>ks.length+1
 inj:=fun⟨a,e,h1⟩ ⟨b,e',h2⟩=>by subst e;cases e';exact h1.inj h2
 keeps:=fun⟨a,e,h1⟩ ho hd hs=>⟨a,e,h1.keeps ho hd hs⟩
 pyHash:=fun hu ⟨a,e,h1⟩ q=>by subst e;exact wpAny_pyHash_tuple hu h1 q
 eqBool:=fun hu ⟨a,e,h1⟩ ⟨b,e',h2⟩ q=>by subst e e';exact wpAny_eqBool_tuple hu h1 h2 q
 quiet:=fun⟨a,e,h1⟩ q=>by subst e;exact JO h1 q
section
variable{prog:Program}{w:World}{K1 K2:Type}[DecidableEq K1][DecidableEq K2]{k1:ItK prog w K1}{k2:ItK prog w K2}
def ZP(k1:ItK prog w K1)(k2:ItK prog w K2)(h:Heap)(k:K1×K2)(a:Addr):Prop :=
 ∃o u v n,h.get? a=some o/\o.cls=.type "tuple" /\o.data=.seq #[u,v] n/\k1.is h k.1 u/\k2.is h k.2 v
theorem ZP.typeIs{s:Shared}{k:K1×K2}{a:Addr}(x:ZP k1 k2 s.heap k a):s.TypeIs (.ref a) "tuple":=let ⟨o,_,_,_,ho,hc,_⟩:=x;⟨o,ho,hc⟩
theorem ZP.inj{h:Heap}{a:Addr}{x y:K1×K2}(hx:ZP k1 k2 h x a)(hy:ZP k1 k2 h y a):x=y:=by
 obtain⟨o,u,v,n,ho,_,hd,hu,hv⟩:=hx;obtain⟨o',u',v',n',pM,_,Ce,EE,Hn⟩:=hy;obtain rfl:o=o':=bQ (ho.symm.trans pM);rw[hd] at Ce;injection Ce with h1 _
 have h1':=congrArg nC h1;simp only[List.cons.injEq,and_true] at h1';obtain⟨rfl,rfl⟩:=h1';exact lQ (k1.inj hu EE) (k2.inj hv Hn)
theorem ZP.keeps{h h':Heap}{k:K1×K2}{a d:Addr}{o:Obj}{es ep}(x:ZP k1 k2 h k a)(ho:h.get? d=some o)(hd:o.data=.dict es ep)(hs:cP d h h'):ZP k1 k2 h' k a:=by
 obtain⟨o',u,v,n,pM,hc,Ce,hu,hv⟩:=x;have pd:a≠d:=by
  rintro rfl;obtain rfl:o'=o:=bQ (pM.symm.trans ho);rw[hd] at Ce;exact nomatch Ce
 exact⟨o',u,v,n,(hs.2 a pd).trans pM,hc,Ce,k1.keeps hu ho hd hs,k2.keeps hv ho hd hs⟩
noncomputable def sx(k1:ItK prog w K1)(k2:ItK prog w K2)(k:K1×K2):Int:=reduceHash (eK [k1.hash k.1,k2.hash k.2])
variable{A:Around}{E:VS7}{s:Shared}
theorem VU{k:K1×K2}{a:Addr}{Q:Int->Shared->Prop}(hu:A.units+1<ig)(hk:ZP k1 k2 s.heap k a)(h:Q (sx k1 k2 k) { s with toks:=s.toks+(k1.draws k.1+k2.draws k.2+1) }) :
  wpAny (model prog w) A (pyHash (.ref a)) Q E s:=by
 have hT:=hk.typeIs;obtain⟨o,u,v,n,ho,_,hd,iu,iv⟩:=hk;unfold pyHash;first|unfold pyHashByItsType|skip
 first|refine aA (wpAny_cRoomFor_or (.inr (by omega)) ?_)|skip
 refine aA (gK hT F.slot_tuple_hash.lookup ?_);show wpAny _ _ (if(some (lu "tuple.__hash__") == some aU)=true then _ else _) Q E s;rw[if_neg (by rw[beq_builtin_none];exact aZ)];refine aA (gK hT F.slot_tuple_hash.lookup ?_);show wpAny _ _ (callSpecialIfBoundUnlessNone? (.ref a) "__hash__" _ >>= _) Q E s;refine aA (wpAny_callSpecialIfBoundUnlessNone?_slot hT F.slot_tuple_hash (bW F.slot_tuple_hash hT F.entry_tuple_hash ?_ (F.args_tuple_hash_1 _)));show wpAny _ _ (gv (.ref a) >>= _) _ _ s;refine aA (l0 ho hd ?_);refine aA ?_;rw[←iA];have EE:A.in1.units<ig:=hu;refine gm _
  (fun nV (b:Array Int) s'=>(nV=[u,v]/\b.toList=[]/\s'=s)\/(nV=[v]/\b.toList=[k1.hash k.1]/\s'={ s with toks:=s.toks+k1.draws k.1 })\/(nV=[]/\b.toList=[k1.hash k.1,k2.hash k.2]/\s'={ s with toks:=s.toks+(k1.draws k.1+k2.draws k.2) }))
  _ ?_ ?_ _ _ (.inl ⟨rfl,rfl,rfl⟩)
 ·rintro x nV b s' (⟨e,hb,rfl⟩|⟨e,hb,rfl⟩|⟨e,_⟩)
  ·cases e;refine aA (k1.pyHash EE iu ?_);first
    |exact aB (.inr (.inl ⟨rfl,by simp[hb],rfl⟩))
    |exact aA (aB (aB (.inr (.inl ⟨rfl,by simp[hb],rfl⟩))))
  ·cases e;refine aA (k2.pyHash EE iv ?_);first
    |exact aB (.inr (.inr ⟨rfl,by simp[hb],by simp[mB]⟩))
    |exact aA (aB (aB (.inr (.inr ⟨rfl,by simp[hb],by simp[mB]⟩))))
  ·cases e
 ·rintro b s' (⟨e,_⟩|⟨e,_⟩|⟨_,hb,rfl⟩)
  ·cases e
  ·cases e
  show wpAny _ _ (retInt (eK b.toList)) _ _ _;rw[hb];refine wpAny_ret_mkInt ?_;show wpAny _ _ (if(decide (-(2:Int) ^ 63<=eK [k1.hash k.1,k2.hash k.2]) && decide (eK [k1.hash k.1,k2.hash k.2]<2 ^ 63))=true then _ else _) Q E _;unfold sx reduceHash at h;by_cases hr:(decide (-(2:Int) ^ 63<=eK [k1.hash k.1,k2.hash k.2]) && decide (eK [k1.hash k.1,k2.hash k.2]<2 ^ 63))=true
  ·rw[if_pos hr];rw[if_pos hr] at h;exact aB (by simpa[mB] using h)
  ·rw[if_neg hr];rw[if_neg hr] at h;exact aA (iL (aB (by simpa[mB] using h)))
theorem X0{x y:K1×K2}{a b:Addr}{P:Fin->Shared->Prop}(hu:A.units<ig)(hx:ZP k1 k2 s.heap x a)(hy:ZP k1 k2 s.heap y b)(h:P (.done (.ret (.bool (decide (x=y))))) s) :
  wpAny (model prog w) A (Builtin.«tuple.__eq__» ⟨[.ref a,.ref b],[]⟩) P E s:=by
 have hTb:=hy.typeIs;obtain⟨oa,u,v,na,hoa,_,hda,iu,iv⟩:=hx;obtain⟨ob,u',v',nb,hob,_,As,iu',iv'⟩:=hy;show wpAny _ _ (lW (.ref b) (.type "tuple") >>= _) _ _ s;refine aA (fG hTb kX ?_);simp only[dJ,aY,if_false]
 refine aA (l0 hoa hda ?_);refine aA (l0 hob As ?_);refine aA ?_;have ed:decide (x=y)=(decide (x.1=y.1) && decide (x.2=y.2)):=by
  rw[dh];simp[Prod.ext_iff]
 refine gm _
  (fun nV r s'=>r.1=none/\s'=s/\((nV=[(u,u'),(v,v')])\/(nV=[(v,v')]/\x.1=y.1)\/(nV=[]/\x=y)))
  _ ?_ ?_ _ _ ⟨rfl,rfl,.inl rfl⟩
 ·rintro⟨p,q⟩ nV r s' ⟨hr,rfl,(e|⟨e,e1⟩|⟨e,_⟩)⟩
  ·cases e;refine aA (k1.eqBool hu iu iu' ?_);by_cases hk:x.1=y.1
   ·rw[decide_eq_true hk];simp only[dJ,aY,if_false]
    refine aB ?_;simp[hk]
   ·rw[decide_eq_false hk];simp only[kM,if_true]
    rw[ed,decide_eq_false hk,mY] at h;exact aA (aB (aB (aB h)))
  ·cases e;refine aA (k2.eqBool hu iv iv' ?_);by_cases hk:x.2=y.2
   ·rw[decide_eq_true hk];simp only[dJ,aY,if_false]
    refine aB ?_;simp[lQ e1 hk]
   ·rw[decide_eq_false hk];simp only[kM,if_true]
    rw[ed,decide_eq_false hk,io] at h;exact aA (aB (aB (aB h)))
  ·cases e
 ·rintro⟨r1,r2⟩ s' ⟨hr,rfl,(e|⟨e,e1⟩|⟨_,e⟩)⟩
  ·cases e
  ·cases e
  simp only at hr;subst hr;refine aB ?_;show P (.done (.ret (.bool ((#[u,v]:Array Value).size == (#[u',v']:Array Value).size)))) s';rw[decide_eq_true e] at h;exact h
theorem Qx{x y:K1×K2}{a b:Addr}{Q:Bool->Shared->Prop}(hu:A.units+1<ig)(hx:ZP k1 k2 s.heap x a)(hy:ZP k1 k2 s.heap y b)(h:Q (decide (x=y)) s) :
  wpAny (model prog w) A (eqBool (.ref a) (.ref b)) Q E s:=by
 unfold eqBool;try with_reducible refine bU ?_
 show wpAny _ _ (if(aN a == aN b)=true then _ else _) Q E s;by_cases hab:(aN a == aN b)=true
 ·rw[if_pos hab];have e:a=b:=by have:=eq_of_beq hab;injection this
  subst e;obtain rfl:=hx.inj hy;exact aA (iL (aB (by simpa using h)))
 ·rw[if_neg hab];exact aA (wpAny_richCompare_same_room (op:=.Eq) hx.typeIs hy.typeIs F.slot_tuple_eq
   (bW F.slot_tuple_eq hx.typeIs F.entry_tuple_eq (X0 hu hx hy ⟨_,rfl,(fun e=>nomatch e),dq h⟩) (F.args_tuple_eq_2 _ _)) (by omega))
theorem q8{k:K1×K2}{a:Addr}{Q:Bool->Shared->Prop}(hk:ZP k1 k2 s.heap k a)(h:Q true s):wpAny (model prog w) A (eqIsQuiet 8 (.ref a)) Q E s:=by
 have hT:=hk.typeIs;obtain⟨o,u,v,n,ho,_,hd,iu,iv⟩:=hk;unfold eqIsQuiet;refine aA (gK hT F.slot_tuple_eq.lookup ?_);show wpAny _ _ (lW (.ref a) (.type "tuple") >>= _) _ _ s;refine aA (fG hT kX ?_);simp only[dJ,aY,if_false]
 refine aA (du ho hd ?_);refine aA ?_;show wpAny _ _ (forIn #[u,v] _ _) _ _ s;rw[←iA];refine gm _ (fun nV r s'=>r.1=none/\s'=s/\(nV=[u,v]\/nV=[v]\/nV=[])) _ ?_ ?_ _ _ ⟨rfl,rfl,.inl rfl⟩
 ·rintro x nV r s' ⟨hr,rfl,(e|e|e)⟩
  ·cases e;refine aA (k1.quiet iu ?_);simp only[dJ,aY,if_false]
   refine aB ?_;simp
  ·cases e;refine aA (k2.quiet iv ?_);simp only[dJ,aY,if_false]
   refine aB ?_;simp
  ·cases e
 ·rintro⟨r1,r2⟩ s' ⟨hr,rfl,_⟩;simp only at hr;subst hr;exact aB h
end
noncomputable def sy{prog:Program}{w:World}{K1 K2:Type}[DecidableEq K1][DecidableEq K2](k1:ItK prog w K1)(k2:ItK prog w K2):HeapKind prog w (K1×K2) where
 is:=ZP k1 k2
 hash:=sx k1 k2
 draws:=fun k=>k1.draws k.1+k2.draws k.2+1
 room:=fun A=>A.units+1<ig
 inj:=fun hx hy=>hx.inj hy
 keeps:=fun x ho hd hs=>x.keeps ho hd hs
 pyHash:=fun hu hk h=>VU hu hk h
 eqBool:=fun hu hx hy h=>Qx hu hx hy h
 quiet:=fun hk h=>q8 hk h
def Trc(h:Heap)(e T:Addr)(cls:Value):Prop :=
 ∃oe vs oT ts,h.get? e=some oe/\oe.cls=cls/\oe.data=.fields vs/\vs[1]?=some (.ref T)/\T≠e/\h.get? T=some oT/\oT.data=.fields ts/\ts[3]?=some .none/\vs[2]?=some .none
structure Lft(fr:List Addr)(e T0 T:Addr)(cls:Value)(h h':Heap):Prop where
 keep:∀b o,b∉fr->b≠e->b≠T0->h.get? b=some o->h'.get? b=some o
 slot:∀b o,b∈fr->b≠e->b≠T0->h.get? b=some o->∃sl,h'.get? b=some { o with slots:=sl }
 new:h.get? T=none
 trc:Trc h' e T cls
section
variable{M:Model}{A:Around}{E:VS7}{s:Shared}
theorem vD{base:Heap}{env:Env}{outer:List Env}{L e:Addr}{oe:Obj}{vs:Array Value}{D3:Value}{Dg:Bool}{Q:Unit->Shared->Prop}
  (BW:A.frames=some (env::outer)) (hl:s.heap.FunFrames base (env::outer)) (hf:env.frame=some L)
  (he:s.heap.get? e=some oe) (hd:oe.data=.fields vs) (hsz:1<vs.size) (Cb:vs[2]?=some .none)
  (h:∀h' T,Lft ((env::outer).filterMap (·.frame)) e e T oe.cls s.heap h'->Q () { s with heap:=h' }) :
  wpAny M A (do let a←frameOf env;let pl←entryPlaceOf L Dg;let b←EntryCells.newEntry D3 a .none (rawInt L) .none pl;setField (.ref e) 1 b) (fun _ s'=>wpAny M A (setFlight (.ref e) none) Q E s') E s:=by
 have pd:e∉(env::outer).filterMap (·.frame):=fun hm=>by
  obtain⟨_,o,ho,Dh⟩:=hl.mem hm;rw[he] at ho;cases ho;exact Dh vs hd
 refine aA (wpAny_frameOf_fun BW hl hf fun h1 s1=>?_);refine aA (wpAny_entryPlaceOf fun pl Bp=>?_);unfold EntryCells.newEntry newFields;refine aA (bF ?_ (Bp.sizeOk5 _ _ _ _ _));have e1:h1.get? e=some oe:=(s1.2.1 e pd).trans he;have CQ:h1.objs.size≠e:=dB (aP e1);generalize hT:({ cls:=.type "traceback",dict:=none,data:=.fields ([D3,.ref L,.none,rawInt L,.none]++(if pl.isEmpty then cD 6 aU else pl)).toArray }:Obj)=oT;have Gr:oT.data=.fields ([D3,.ref L,.none,rawInt L,.none]++(if pl.isEmpty then cD 6 aU else pl)).toArray:=by rw[←hT]
 have hTf:oT.isFreed=false:=cN Gr;have e2:=aD (h:=h1) oT e1;refine cE e2 hd hsz ?_;have d3:=cQ hd (·.setIfInBounds 1 (aN h1.objs.size));have e3:=cx (bV (·.setIfInBounds 1 (aN h1.objs.size))) e2 (cN d3);have t3:((h1.push oT).update e (bV (·.setIfInBounds 1 (aN h1.objs.size)))).get? h1.objs.size=some oT:=(cV _ _ (Ne.symm CQ)).trans (aM h1 hTf);unfold setFlight;refine aA (bS e3 d3 (x:=.ref h1.objs.size) (by simp[hsz]) ?_);rw[if_pos (show(aN h1.objs.size != aU)=true from by simp)];refine cE t3 Gr (by simp only[aO,bD,cJ,eX] <;> omega) (h _ h1.objs.size ?_);have keep:∀b o,b≠e->h1.get? b=some o→
   (((h1.push oT).update e (bV (·.setIfInBounds 1 (aN h1.objs.size)))).update h1.objs.size (bV (·.setIfInBounds 3 ((none:Option Addr).elim aU fun f=>rawInt f)))).get? b=some o:=fun b o Ag hb=>by
  rw[cV _ _ (dB (aP hb)),cV _ _ (Ne.symm Ag)];exact aD _ hb
 refine⟨fun b o hb Ag _ ho=>keep b o Ag ((s1.2.1 b hb).trans ho),fun b o hb Ag _ ho=>?_,?_,?_⟩
 ·obtain⟨sl,hs⟩:=s1.2.2 b o ho;exact⟨sl,keep b _ Ag hs⟩
 ·cases q:s.heap.get? h1.objs.size with
  |none=>rfl
  |some o =>
   have:=aP q;rw[s1.1] at this;exact absurd this (eU _)
 ·refine⟨_,_,_,_,(cV _ _ CQ).trans e3,gP _ _,d3,by simp[hsz],CQ,cx _ t3 (cN (cQ Gr _)),cQ Gr _,?_,(hZ (by decide)).trans Cb⟩;simp only[Array.getElem?_setIfInBounds,if_true]
  rw[if_pos (by simp only[aO,bD,cJ,eX];omega)];rfl
theorem Z9{base:Heap}{env:Env}{outer:List Env}{L e:Addr}{oe:Obj}{vs:Array Value}{Q:Unit->Shared->Prop}
  (BW:A.frames=some (env::outer)) (hl:s.heap.FunFrames base (env::outer)) (hf:env.frame=some L)
  (he:s.heap.get? e=some oe) (hd:oe.data=.fields vs) (h1:vs[1]?=some .none) (Cb:vs[2]?=some .none)
  (h:∀h' T,Lft ((env::outer).filterMap (·.frame)) e e T oe.cls s.heap h'->Q () { s with heap:=h' }):wpAny M A (leaving env (.ref e)) Q E s:=by
 unfold leaving noteFrame;simp only[hf]
 refine aA (aA (bS he hd h1 ?_));rw[if_neg (by decide)];exact vD BW hl hf he hd (bP.mp h1).1 Cb h
theorem X1{base:Heap}{env:Env}{outer:List Env}{L e T0:Addr}{cls:Value}{Q:Unit->Shared->Prop}
  (BW:A.frames=some (env::outer)) (hl:s.heap.FunFrames base (env::outer)) (hf:env.frame=some L) (ht:Trc s.heap e T0 cls)
  (h:∀h' T,Lft ((env::outer).filterMap (·.frame)) e T0 T cls s.heap h'->Q () { s with heap:=h' }):wpAny M A (leaving env (.ref e)) Q E s:=by
 obtain⟨oe,vs,oT,ts,he,pQ,hd,h1,CQ,hT,BX,h3,Cb⟩:=ht;subst pQ;unfold leaving noteFrame;simp only[hf]
 refine aA (aA (bS he hd h1 ?_));rw[if_pos (show(aN T0 != aU)=true from by simp)];refine aA (bS hT BX h3 ?_);rw[if_neg (show ¬((aU == rawInt L)=true) from by simp[rawInt])];refine aA (cE hT BX (bP.mp h3).1 ?_);have oP:∀b,b≠T0->(s.heap.update T0 (bV (·.setIfInBounds 3 aU))).get? b=s.heap.get? b:=fun b hb=>cV _ _ (Ne.symm hb);have nf:∀b o,s.heap.get? b=some o->(∀vs,o.data≠.fields vs)->b≠T0:=fun b o hb Dh q=>by
  rw[q,hT] at hb;cases hb;exact Dh ts BX
 refine vD BW (hl.of_keeps fun b o hb Dh=>⟨o,(oP b (nf b o hb Dh)).trans hb,rfl⟩) hf ((oP e (Ne.symm CQ)).trans he) hd (bP.mp h1).1 Cb fun h' T x=>h h' T ?_;refine⟨fun b o hb Ag DA ho=>x.keep b o hb Ag Ag ((oP b DA).trans ho),fun b o hb Ag DA ho=>x.slot b o hb Ag Ag ((oP b DA).trans ho),?_,x.trc⟩;have:=x.new;by_cases q:T=T0
 ·subst q;have e5:=cx (bV (·.setIfInBounds 3 aU)) hT (cN (cQ BX _));rw[show(s.heap.update T (bV (·.setIfInBounds 3 aU))).get? T=_ from e5] at this;cases this
 ·rw[←oP T q];exact this
end
noncomputable def CX1(P:Program)(w:World):CXT:=fun outer H s E e s'=>∃(a T C:Addr) (H':Hp),e=.ref a/\s'.os=s.os/\lK s'.gens/\Un (frs outer) [] H H' s.heap s'.heap/\HOk P w H' s'.heap∧
 Trc s'.heap a T (.ref C)/\H' a=none/\H' T=none/\s.heap.get? a=none/\s.heap.get? T=none/\E e (some C) H'
theorem zT.at{P:Program}{w:World}{H:Hp}{h:Heap}{a:Addr}{o:HO}(x:zT P w H h a o):∃ob,h.get? a=some ob:=by
 induction o with
 |lst xs=>obtain⟨z,nK,n,r,e⟩:=x;exact⟨_,e⟩
 |tup xs=>obtain⟨z,nK,r,ob,e,c⟩:=x;exact⟨_,e⟩
 |dK kvs=>obtain⟨z,y,vs,r,ob,es,ep,e,c⟩:=x;exact⟨_,e⟩
 |dT kvs=>obtain⟨z,y,xs,r,ob,es,ep,e,c⟩:=x;exact⟨_,e⟩
 |set S n=>obtain⟨ob,es,ep,t,e,c⟩:=x;exact⟨_,e⟩
 |ins C dx fs=>obtain⟨d,z,ne,e,_⟩:=x;exact⟨_,e⟩
 |own y=>exact x
 |xd fs=>obtain⟨mA,⟨od,es,ep,e,c⟩,r⟩:=x;exact⟨_,e⟩
 |rng lo hi=>obtain⟨t,u,v,e⟩:=x;exact⟨_,e⟩
 |frz ob u ih=>exact⟨_,x.1⟩
 |tbl ps=>exact⟨_,x⟩
 |met f y=>exact⟨_,x⟩
 |ext φ=>exact x.2.1
theorem Sh{P:Program}{w:World}{H:Hp}{h h':Heap}{fr:List Addr}{e T0 T:Addr}{cls:Value}(x:HOk P w H h)(l:Lft fr e T0 T cls h h')(BW:∀b∈fr,H b=none)(he:H e=none)(h0:H T0=none):HOk P w H h':=fun b u q=>by
 refine(x b u q).stay (fun c v hc r=>?_) (fun _ r=>r) fun _ _ r=>r;have hn:H c≠none:=by
  rcases hc with rfl|hc
  ·rw[q];exact fun z=>nomatch z
  ·rw[hc];exact fun z=>nomatch z
 exact l.keep c v (fun z=>hn (BW c z)) (fun z=>hn (by rw[z];exact he)) (fun z=>hn (by rw[z];exact h0)) r
section
variable{P:Program}{w:World}{K:FG7}{mg:Str->Option Value}{base:Heap}{N:List Str}{qual:Str}{scope:Scope}{f:Addr}{cd:Value}{A:Around}{outer:List Env}{s0:Shared}{H0:Hp}{E:XK}
 {nJ:List (Addr×Obj)} {σ:L2.St} {H:Hp} {s:Shared}
theorem VV{h2:Heap}{e T0 T C:Addr}(I:Inv (ZX (CX1 P w) P w K mg base N qual scope f cd A outer s0 H0 E) nJ σ H s)(l:Lft ((envOfC qual scope s0.heap.objs.size f cd::outer).filterMap (·.frame)) e T0 T (.ref C) s.heap h2)
  (new:∀b o,s0.heap.get? b=some o->b≠e/\b≠T0) (Fe:H e=none) (ht0:H T0=none) (q:E (.ref e) (some C) H):CX1 P w outer H0 s0 E (.ref e) { s with heap:=h2 }:=by
 have BW:∀b∈(envOfC qual scope s0.heap.objs.size f cd::outer).filterMap (·.frame),H b=none:=I.stkFree;have hU:Un (frs outer) [] H0 H s0.heap s.heap:=I.base;have HK:∀b o,s0.heap.get? b=some o->b≠T:=fun b o hb z=>by
  obtain⟨o',h1⟩:=hU.there b o hb (by simp);have:=l.new;rw[←z,h1] at this;cases this
 have nin:∀b o,s0.heap.get? b=some o->b∉frs outer->b∉(envOfC qual scope s0.heap.objs.size f cd::outer).filterMap (·.frame):=fun b o hb hn z=>by
  rcases aK.mp (show b∈s0.heap.objs.size::frs outer from z) with z|z
  ·exact aW (aP hb) z
  ·exact hn z
 have HL:∀b,b∈frs outer->b∈(envOfC qual scope s0.heap.objs.size f cd::outer).filterMap (·.frame):=fun b hb=>show b∈s0.heap.objs.size::frs outer from aX _ hb;refine⟨e,T,C,H,rfl,I.os,I.bare,⟨fun b o hb hn hf Ap=>?_,fun b o hb hn hf Ap=>?_,hU.free,fun b o hb Ap=>?_,hU.tups,hU.frzs,hU.tbls⟩,Sh I.hok l BW Fe ht0,l.trc,Fe,?_,?_,?_,q⟩
 ·obtain⟨n1,n2⟩:=new b o hb;exact l.keep b o (nin b o hb hf) n1 n2 (hU.keep b o hb hn hf Ap)
 ·obtain⟨n1,n2⟩:=new b o hb;obtain⟨sl,h1⟩:=hU.slot b o hb hn hf Ap;obtain⟨DN,h2⟩:=l.slot b _ (HL b hf) n1 n2 h1;exact⟨DN,h2⟩
 ·obtain⟨n1,n2⟩:=new b o hb;obtain⟨o',h1⟩:=hU.there b o hb Ap;by_cases z:b∈(envOfC qual scope s0.heap.objs.size f cd::outer).filterMap (·.frame)
  ·obtain⟨sl,h2⟩:=l.slot b o' z n1 n2 h1;exact⟨_,h2⟩
  ·exact⟨o',l.keep b o' z n1 n2 h1⟩
 ·cases r:H T with
  |none=>rfl
  |some o =>
   obtain⟨ob,z⟩:=zT.at (I.hok T o r)
   rw[l.new] at z;cases z
 ·cases r:s0.heap.get? e with
  |none=>rfl
  |some o=>exact absurd rfl (new e o r).1
 ·cases r:s0.heap.get? T with
  |none=>rfl
  |some o=>exact absurd rfl (HK T o r)
theorem Qy{h':Heap}{e C:Addr}{args:List Value}(I:Inv (ZX (CX1 P w) P w K mg base N qual scope f cd A outer s0 H0 E) nJ σ H s)(hx:Heap.MadeExcOf s.heap h' e (.ref C) args)(q:E (.ref e) (some C) H) :
  (ZX (CX1 P w) P w K mg base N qual scope f cd A outer s0 H0 E).xe (.ref e) { s with heap:=h' }:=by
 obtain⟨t,he,ht,_⟩:=hx.there;have Fe:H e=none:=by
  cases r:H e with
  |none=>rfl
  |some o =>
   obtain⟨ob,z⟩:=zT.at (I.hok e o r)
   rw[hx.new] at z;cases z
 have I1:Inv (ZX (CX1 P w) P w K mg base N qual scope f cd A outer s0 H0 E) nJ σ H { s with heap:=h' }:=I.kept (t':=s.toks) hx.keeps;have new:∀b o,s0.heap.get? b=some o->b≠e:=fun b o hb z=>by
  have hU:Un (frs outer) [] H0 H s0.heap s.heap:=I.base;obtain⟨o',pM⟩:=hU.there b o hb (by simp);rw[z,hx.new] at pM;cases pM
 refine Z9 (base:=base) (outer:=outer) (L:=s0.heap.objs.size) I.ok.frames I1.stack rfl he rfl rfl rfl fun h2 T l=>?_;exact VV I1 l (fun b o hb=>⟨new b o hb,new b o hb⟩) Fe Fe q
theorem wf{E':XK}(hE:∀e C H',E' e (some C) H'->E e (some C) H'):rQ (CX1 P w) (ZX (CX1 P w) P w K mg base N qual scope f cd A outer s0 H0 E) E':=by
 intro nJ σ H s ex s' I hc;obtain⟨e,T0,C,H',rfl,os,bare,un,hok,trc,e0,t0,ne,nt,q⟩:=hc;have I1:Inv (ZX (CX1 P w) P w K mg base N qual scope f cd A outer s0 H0 E) nJ σ H' s':=I.call' (ch:=[]) os un hok bare (fun b z=>absurd z (by simp));have new:∀b o,s0.heap.get? b=some o->b≠e/\b≠T0:=fun b o hb=>by
  have hU:Un (frs outer) [] H0 H s0.heap s.heap:=I.base;obtain⟨o',pM⟩:=hU.there b o hb (by simp);refine⟨fun z=>?_,fun z=>?_⟩
  ·rw[z,ne] at pM;cases pM
  ·rw[z,nt] at pM;cases pM
 refine X1 (base:=base) (outer:=outer) (L:=s0.heap.objs.size) I.ok.frames I1.stack rfl trc fun h2 T l=>?_;exact VV I1 l new e0 t0 (hE _ _ _ q)
end
noncomputable abbrev veM:List Value:=[.type "ValueError",.type "Exception",.type "BaseException",.type "object"]
def vn(K:FG7)(mg:Str->Option Value)(x:Str)(C:Addr):Prop:=∀h:Heap,K.In h->OwnCls x C veM "ValueError.__new__" mg h
def RI(X:Cx)(E:XK):Prop:=∀(nJ:List (Addr×Obj)) (σ:L2.St) (H:Hp) (s:Shared) (h':Heap) (e C:Addr) (args:List Value),Inv X nJ σ H s->Heap.MadeExcOf s.heap h' e (.ref C) args->E (.ref e) (some C) H->X.xe (.ref e) { s with heap:=h' }
def JP(C:Addr)(E:XK)(te:TE):TS:=fun _ σ H=>te σ H fun _ H1=>∀e,E (.ref e) (some C) H1
section
variable{X:Cx}{x:Str}{C:Addr}{np oI pos:Pos}{e₀:Expr}{te:TE}{E:XK}
theorem wX(hc:X.calm=true)(O:vn X.K X.mg x C)(hg:Gl X x)(hr:RI X E)(he:PE X e₀ te)(As:(x == ("__debug__":Str))=false:=by decide)
  (AL:bY [e₀] X.env=[(false,eval e₀ X.env)]:=by rfl):PS X (.Raise (some (.Call (.Name x np) [e₀] [] oI)) none pos) (JP C E te):=by
 intro nJ s σ H D I h;obtain⟨tl,N,nm,q,bs,hdct,sn,sub,ab,col,dd,k0,k1,k2,k3,k5,mN,hC,hN,D4,T⟩:=(O X.base I.mod.kin).obj;refine wpAny_Raise_call_subT (C:=C) (nm:=nm) (q:=q) (N:=N) (bs:=bs) (bm:=tl) (hdct:=hdct) (sn:=sn) (sub:=sub) (ab:=ab) (col:=col) (dd:=dd) (k0:=k0) (k1:=k1) (k2:=k2) (k3:=k3) (k5:=k5)
  PySem.F.excBase_ValueError (mN:=mN) (T.hasType PySem.F.excBase_ValueError.hasBase) (I.ok.hd hc) (by rw[AL];rfl) D4 (vo I hg (O s.heap I.kIn).bound ⟨rfl,?_⟩ As)
 rw[AL];refine lw ?_;show wpAny _ _ (spliced [(false,eval e₀ X.env)]) _ _ s;refine fE (thn (he nJ s σ H _ I h) fun v s1 ⟨y,H1,I1,r1,q1⟩=>gO ?_);exact⟨rfl,szl rfl,I1.bk _ _ hC,hN.keeps I1.bk,T.keeps I1.bk,fun h' e hm=>hr nJ σ H1 s1 h' e C _ I1 hm (q1 e)⟩
end
section
variable{P:Program}{w:World}{K:FG7}{mg:Str->Option Value}{base:Heap}{N:List Str}{qual:Str}{scope:Scope}{f:Addr}{cd:Value}{A:Around}{outer:List Env}{s0:Shared}{H0:Hp}{E:XK}
theorem xV:RI (ZX (CX1 P w) P w K mg base N qual scope f cd A outer s0 H0 E) E:=fun _ _ _ _ _ _ _ _ I hx q=>Qy I hx q
end
section
variable{M:Model}{A:Around}{E:VS7}{s:Shared}
theorem VW{base:Heap}{env:Env}{outer:List Env}{L e T0:Addr}{cls:Value}{Q:Unit->Shared->Prop}
  (BW:A.frames=some (env::outer)) (hl:s.heap.FunFrames base (env::outer)) (hf:env.frame=some L) (ht:Trc s.heap e T0 cls)
  (h:∀h' T,Lft ((env::outer).filterMap (·.frame)) e T0 T cls s.heap h'->Q () { s with heap:=h' }):wpAny M A (noteFrame (.ref e) env) (fun _ s'=>wpAny M A (setFlight (.ref e) none) Q E s') E s:=by
 obtain⟨oe,vs,oT,ts,he,pQ,hd,h1,CQ,hT,BX,h3,Cb⟩:=ht;subst pQ;unfold noteFrame;simp only[hf]
 refine aA (bS he hd h1 ?_);rw[if_pos (show(aN T0 != aU)=true from by simp)];refine aA (bS hT BX h3 ?_);rw[if_neg (show ¬((aU == rawInt L)=true) from by simp[rawInt])];refine aA (cE hT BX (bP.mp h3).1 ?_);have oP:∀b,b≠T0->(s.heap.update T0 (bV (·.setIfInBounds 3 aU))).get? b=s.heap.get? b:=fun b hb=>cV _ _ (Ne.symm hb);have nf:∀b o,s.heap.get? b=some o->(∀vs,o.data≠.fields vs)->b≠T0:=fun b o hb Dh q=>by
  rw[q,hT] at hb;cases hb;exact Dh ts BX
 refine vD BW (hl.of_keeps fun b o hb Dh=>⟨o,(oP b (nf b o hb Dh)).trans hb,rfl⟩) hf ((oP e (Ne.symm CQ)).trans he) hd (bP.mp h1).1 Cb fun h' T x=>h h' T ?_;refine⟨fun b o hb Ag DA ho=>x.keep b o hb Ag Ag ((oP b DA).trans ho),fun b o hb Ag DA ho=>x.slot b o hb Ag Ag ((oP b DA).trans ho),?_,x.trc⟩;have:=x.new;by_cases q:T=T0
 ·subst q;have e5:=cx (bV (·.setIfInBounds 3 aU)) hT (cN (cQ BX _));rw[show(s.heap.update T (bV (·.setIfInBounds 3 aU))).get? T=_ from e5] at this;cases this
 ·rw[←oP T q];exact this
theorem X2{e T0:Addr}{cls:Value}{Q:Unit->Shared->Prop}(ht:Trc s.heap e T0 cls)
  (h:∀h',(∀b,b≠T0->h'.get? b=s.heap.get? b)->Trc h' e T0 cls->Q () { s with heap:=h' }):wpAny M A (setFlight (.ref e) none) Q E s:=by
 obtain⟨oe,vs,oT,ts,he,pQ,hd,h1,CQ,hT,BX,h3,Cb⟩:=ht;unfold setFlight;refine aA (bS he hd h1 ?_);rw[if_pos (show(aN T0 != aU)=true from by simp)];have oP:∀b,b≠T0->(s.heap.update T0 (bV (·.setIfInBounds 3 ((none:Option Addr).elim aU fun f=>rawInt f)))).get? b=s.heap.get? b:=fun b hb=>cV _ _ (Ne.symm hb);refine cE hT BX (bP.mp h3).1 (h _ oP ⟨oe,vs,_,_,(oP e (Ne.symm CQ)).trans he,pQ,hd,h1,CQ,cx _ hT (cN (cQ BX _)),cQ BX _,?_,Cb⟩);simp only[Array.getElem?_setIfInBounds,if_true]
 rw[if_pos (bP.mp h3).1];rfl
end
structure ApX(X:Cx)(nJ:List (Addr×Obj))(H:Hp)(a T:Addr):Prop where
 s0:∀b o,X.s₀.heap.get? b=some o->b≠a/\b≠T
 loc:X.env.locals≠a/\X.env.locals≠T
 cel:∀x c,X.env.cells.lookup x=some c->c≠a/\c≠T
 pin:∀p∈X.pn++nJ,p.1≠a/\p.1≠T
 ha:H a=none
 hT:H T=none
theorem ApX.of{X:Cx}{nJ:List (Addr×Obj)}{σ:L2.St}{H H':Hp}{s:Shared}{a T:Addr}(I:Inv X nJ σ H s)(hx:X.ex=[])(na:s.heap.get? a=none)(nT:s.heap.get? T=none)(ha:H' a=none)(hT:H' T=none):ApX X nJ H' a T:=by
 have ne:∀b o,s.heap.get? b=some o->b≠a/\b≠T:=fun b o hb=>⟨fun z=>(by rw[z,na] at hb;cases hb),fun z=>(by rw[z,nT] at hb;cases hb)⟩
 refine⟨fun b o hb=>?_,?_,fun x c hc=>?_,fun p hp=>ne _ _ (I.pin p hp).1,ha,hT⟩
 ·obtain⟨o',h1⟩:=I.base.there b o hb (by rw[hx];simp);exact ne b o' h1
 ·obtain⟨m,⟨o,es,ep,ho,_⟩,_⟩:=I.loc;exact ne _ _ ho
 ·obtain⟨v,hv⟩:=I.cell x c hc;obtain⟨o,ho,_⟩:=hv;exact ne _ _ ho
theorem Inv.leftK{X:Cx}{nJ:List (Addr×Obj)}{σ:L2.St}{H:Hp}{s:Shared}{a T0:Addr}{h2:Heap}(I:Inv X nJ σ H s)(hx:X.ex=[])(ap:ApX X nJ H a T0)
  (lk:∀b o,b∉frs X.stack->b≠a->b≠T0->s.heap.get? b=some o->h2.get? b=some o) (ls:∀b o,b∈frs X.stack->b≠a->b≠T0->s.heap.get? b=some o->∃sl,h2.get? b=some { o with slots:=sl }):Inv X nJ σ H { s with heap:=h2 }:=by
 have stk:∀b,b∈frs X.stack->b=X.env.locals\/b∈X.fs:=fun b hb=>aK.mp (I.stkSub b hb);have any:∀b o,b≠a->b≠T0->s.heap.get? b=some o->∃sl,h2.get? b=some { o with slots:=sl }:=fun b o n1 n2 ho=>by
  by_cases z:b∈frs X.stack
  ·exact ls b o z n1 n2 ho
  ·exact⟨o.slots,lk b o z n1 n2 ho⟩
 have Bc:∀x c,X.env.cells.lookup x=some c->∀v,s.heap.IsCell c v->h2.IsCell c v:=fun x c e v ⟨o,ho,hd⟩=>by
  obtain⟨n1,n2⟩:=ap.cel x c e;obtain⟨sl,h1⟩:=any c o n1 n2 ho;exact⟨_,h1,hd⟩
 refine⟨I.ok,I.os,I.bare,⟨fun b o hb hn hf Ap=>?_,fun b o hb hn hf Ap=>?_,I.base.free,fun b o hb Ap=>?_,I.base.tups,I.base.frzs,I.base.tbls⟩,?_,fun x c hc=>?_,I.free,I.freeC,fun p hp=>?_,fun b u q=>?_,I.len⟩
 ·obtain⟨n1,n2⟩:=ap.s0 b o hb;refine lk b o (fun z=>?_) n1 n2 (I.base.keep b o hb hn hf Ap);rcases stk b z with z|z
  ·exact absurd (aV (aP hb) I.ok.above) (by rw[z];exact eU _)
  ·exact hf z
 ·obtain⟨n1,n2⟩:=ap.s0 b o hb;obtain⟨sl,h1⟩:=I.base.slot b o hb hn hf Ap;obtain⟨DN,h3⟩:=any b _ n1 n2 h1;exact⟨DN,h3⟩
 ·obtain⟨n1,n2⟩:=ap.s0 b o hb;obtain⟨o',h1⟩:=I.base.there b o hb Ap;obtain⟨sl,h3⟩:=any b o' n1 n2 h1;exact⟨_,h3⟩
 ·obtain⟨m,⟨o,es,ep,ho,r⟩,hl⟩:=I.loc;obtain⟨sl,h1⟩:=any _ o ap.loc.1 ap.loc.2 ho;refine⟨m,⟨_,es,ep,h1,r⟩,fun i x v e1 e2 e3=>?_⟩;obtain⟨u,ru,lk⟩:=hl i x v e1 e2 e3;refine⟨u,ru,?_⟩;rcases lk with lk|⟨k1,c,k2,k3⟩
  ·exact .inl lk
  ·exact .inr ⟨k1,c,k2,Bc x c k2 _ k3⟩
 ·obtain⟨v,hv⟩:=I.cell x c hc;exact⟨v,Bc x c hc v hv⟩
 ·obtain⟨p1,p2,p3,p4,p5⟩:=I.pin p hp;obtain⟨n1,n2⟩:=ap.pin p hp;refine⟨lk _ _ (fun z=>?_) n1 n2 p1,p2,p3,p4,p5⟩;rcases stk _ z with z|z
  ·exact p3 z
  ·exact p4 z
 ·refine(I.hok b u q).stay (fun c v hc r=>?_) (fun _ r=>r) fun _ _ r=>r;have hn:H c≠none:=by
   rcases hc with rfl|hc
   ·rw[q];exact fun z=>nomatch z
   ·rw[hc];exact fun z=>nomatch z
  exact lk c v (fun z=>hn (I.stkFree c z)) (fun z=>hn (by rw[z];exact ap.ha)) (fun z=>hn (by rw[z];exact ap.hT)) r
theorem Inv.left{X:Cx}{nJ:List (Addr×Obj)}{σ:L2.St}{H:Hp}{s:Shared}{a T0 T:Addr}{cls:Value}{h2:Heap}(I:Inv X nJ σ H s)(hx:X.ex=[])(ap:ApX X nJ H a T0)
  (l:Lft (frs X.stack) a T0 T cls s.heap h2):Inv X nJ σ H { s with heap:=h2 }:=Inv.leftK I hx ap l.keep l.slot
noncomputable abbrev pinX(X:Cx)(ps:List (Addr×Obj))(E:VS7):Cx:={ X with pn:=X.pn++ps,xe:=E }
section
variable{X:Cx}{ps nJ:List (Addr×Obj)}{E:VS7}{σ:L2.St}{H:Hp}{s:Shared}
theorem Inv.pinX(I:Inv X ps σ H s):Inv (pinX X ps E) [] σ H s :=
 ⟨⟨I.ok.mod,I.ok.kind,I.ok.glob,I.ok.blt,I.ok.above,I.ok.inj,I.ok.has,I.ok.cab,I.ok.hd,I.ok.frames,I.ok.stk,I.ok.exf,I.ok.bs,I.ok.bsz,I.ok.noex,I.ok.exfs,I.ok.funs,I.ok.frf⟩,I.os,I.bare,I.base,I.loc,I.cell,I.free,I.freeC,fun p hp=>I.pin p (by simpa using hp),I.hok,I.len⟩
theorem Inv.unpin(I:Inv (L3.pinX X ps E) nJ σ H s):Inv X ps σ H s :=
 ⟨⟨I.ok.mod,I.ok.kind,I.ok.glob,I.ok.blt,I.ok.above,I.ok.inj,I.ok.has,I.ok.cab,I.ok.hd,I.ok.frames,I.ok.stk,I.ok.exf,I.ok.bs,I.ok.bsz,I.ok.noex,I.ok.exfs,I.ok.funs,I.ok.frf⟩,I.os,I.bare,I.base,I.loc,I.cell,I.free,I.freeC,fun p hp=>I.pin p (cW _ hp),I.hok,I.len⟩
end
noncomputable abbrev handX(X:Cx)(e:Addr):Cx:={ X with A:=X.A.mark (some (.ref e)),calm:=false,xe:=fun _ _=>False }
section
variable{X:Cx}{nJ:List (Addr×Obj)}{σ:L2.St}{H:Hp}{s:Shared}{e:Addr}
theorem Inv.handX(I:Inv X nJ σ H s):Inv (handX X e) nJ σ H s :=
 ⟨⟨I.ok.mod,I.ok.kind,I.ok.glob,I.ok.blt,I.ok.above,I.ok.inj,I.ok.has,I.ok.cab,fun z=>(nomatch z),I.ok.frames,I.ok.stk,I.ok.exf,I.ok.bs,I.ok.bsz,I.ok.noex,I.ok.exfs,I.ok.funs,I.ok.frf⟩,I.os,I.bare,I.base,I.loc,I.cell,I.free,I.freeC,I.pin,I.hok,I.len⟩
theorem Inv.unhand(ok:X.Ok)(I:Inv (L3.handX X e) nJ σ H s):Inv X nJ σ H s:=⟨ok,I.os,I.bare,I.base,I.loc,I.cell,I.free,I.freeC,I.pin,I.hok,I.len⟩
theorem SP.unpin{ps:List (Addr×Obj)}{E:VS7}{D:Ends}{f:Flow}(h:SP (L3.pinX X ps E) [] D f s):SP X ps D f s:=by
 cases f with
 |next=>obtain⟨σ',H',I,q⟩:=h;exact⟨σ',H',Inv.unpin I,q⟩
 |brk=>obtain⟨σ',H',I,q⟩:=h;exact⟨σ',H',Inv.unpin I,q⟩
 |cont=>obtain⟨σ',H',I,q⟩:=h;exact⟨σ',H',Inv.unpin I,q⟩
 |ret u=>obtain⟨v,σ',H',I,r,q⟩:=h;exact⟨v,σ',H',Inv.unpin I,r,q⟩
end
open PySem.W in
/-- an exception class as the text's constants show it -/
theorem excC_of{K:FG7}{mg:Str->Option Value}{x:Str}{C:Addr}(b:mg x=some (.ref C))(q:iH K C veM "ValueError.__new__" = true):vn K mg x C:=by
 intro h X;refine⟨b,?_⟩;unfold iH at q;cases ho:K.lookup C with
 |none=>rw[ho] at q;cases q
 |some ob =>
  rw[ho] at q;obtain⟨oc,od,oda,B6⟩:=ob;split at q
  ·rename_i dd cd sl e;obtain⟨rfl,rfl,rfl,rfl⟩:=Obj.mk.inj (bQ e);split at q
   ·rename_i C' bm k0 k1 k2 k3 n k5 hm hs;simp only[aJ,beq_iff_eq,cX] at q;obtain⟨⟨⟨⟨⟨rfl,rfl⟩,hdel⟩,ht⟩,hok⟩,D4⟩:=q;obtain⟨nm,bs,mro,ns,qn,hd,sn,sub,ab,col,del⟩:=cd;dsimp only at hm hdel hok D4;subst hm hdel;obtain⟨l⟩:=B6;have hl:l=[k0,k1,k2,k3,some (.builtin "ValueError.__new__"),k5]:=hs;subst hl;exact⟨bm,ns,nm,qn,bs,hd,sn,sub,ab,col,od,k0,k1,k2,k3,k5,_,X _ _ ho,.of_isNs (PySem.W.isNs_of_in X hok),PySem.W.nsMap_none_of_in X hok D4,PySem.W.tail_of_in X ht⟩
   ·cases q
  ·cases q
section
variable{P:Program}{w:World}{K:FG7}{mg:Str->Option Value}{base:Heap}
theorem Fun.okX{x qual:Str}{st:Stmt}{f:Addr}{fd:FuncData}{N ps:List Str}{k:Nat}{sp:Sp}(F:Fun K x qual st f fd)(S:FnScope N ps (zf st))(len:∀vs H Q E,sp vs H Q E->vs.length=ps.length)
  (At:∀(og:Value) (A:Around) (outer:List Env) (s:Shared) (H:Hp) (vs:List V) (Q:VK) (E:XK),Room k (A.deeper (envOfC qual (zf st) s.heap.objs.size f og))->sp vs H Q E→
   ∃t,PSs (ZX (CX1 P w) P w K mg base N qual (zf st) f og A outer s H E) (wE st) t/\t { nx:=fun _ H'=>Q .non H',rt:=Q } (tm N vs) H):FnOk P w K mg base (CX1 P w) (k+1) f fd ps sp:=by
 obtain⟨oc,od,kV,AH,pm,an,og,ct,B6,rfl,lk,AK⟩:=F.ex;exact Jr lk AK S len fun A outer s H vs Q E hr BS=>At og A outer s H vs Q E hr BS
end
def zF(P:Program)(w:World)(K:FG7)(mg:Str->Option Value)(base:Heap)(k:Nat)(x:Str)(ps:List Str)(sp:Sp):Prop :=
 ∃(f:Addr) (fd:FuncData),FnOk P w K mg base (CX1 P w) k f fd ps sp/\tV K fd ps []/\ii K (.ref f)=true/\mg x=some (.ref f)
section
variable{P:Program}{w:World}{K:FG7}{mg:Str->Option Value}{base:Heap}{C:Addr}{j k:Nat}{m x:Str}{ps:List Str}{sp:Sp}
theorem zF.mono(c:zF P w K mg base j x ps sp)(h:j<=k):zF P w K mg base k x ps sp:=by
 obtain⟨f,fd,F,b,mt⟩:=c;exact⟨f,fd,F.mono h,b,mt⟩
end
section
variable{X:Cx}{C:Addr}{k:Nat}{m x:Str}{ps:List Str}{sp:Sp}{o e:Expr}{es:List Expr}{ta:TE}{t:TA}{oW pos p:Pos}{E:XK}
theorem xp(c:zF X.prog X.w X.K X.mg X.base k x ps sp)(hx:rQ (CX1 X.prog X.w) X E)(hr:Room k X.A)(hg:Gl X x)
  (ha:PA X (e::es) t) (As:(x == ("__debug__":Str))=false:=by decide) (he:bY (e::es) X.env=(false,eval e X.env)::bY es X.env:=by rfl) (Bp:(lg pos (bY es X.env)).any (·.1)=false:=by rfl) :
  PE X (.Call (.Name x p) (e::es) [] pos) (ZW sp [] E t):=by
 obtain⟨f,fd,F,b,kp,m⟩:=c;exact W0 F hr hg m kp b .nil hx ha As he Bp
end
open PySem PySem.Spec PyProof.Rows L2 PySem.W
open PySem.Builtin PySem.Builtin.ObjectAttr PySem.Builtin.Getset_descriptor in
theorem exc_class_get{prog:Program}{w:World}{A:Around}{s:Shared}{K:FG7}{a C:Addr}{o:Obj}{R:Result->Shared->Prop}{tp:Value}(X:K.In s.heap)(hx:s.heap.get? a=some o)(hc:o.cls=.ref C)(hm:eV K C (.type "object")=some true)
  (h:R (.ok (.ret (.ref C))) s):iw (model prog w) A (.call (.builtin "getset_descriptor.__get__") ⟨[.builtin "object.__class__",.ref a,tp],[]⟩) R s:=by
 obtain⟨hh,g,dr,t,os⟩:=s;have L0:Looks (model prog w) hh (typeOf (.ref a)) (.ref C):=hc▸(Looks.ld hx).andThen .now;have L1:=looks_mroIn (M:=model prog w) X hm;refine lA KF.slot_gs.plain KF.entry_gs (KF.slot_gs.check _ _ _ _ _ _ _ _ KF.type_class (KF.args_gs _ _ _) ?_);unfold Builtin.«getset_descriptor.__get__» descrGet;rw[dga_obj];refine aA (aB ?_);unfold descrGetter descrCheckInstance descrNameAndClass lW;simp only[KF.owner_class]
 repeat lk
 refine⟨km _ (by decide +kernel),dC KF.entry_class ?_⟩;unfold Builtin.«object.__class__» shownTypeOf;repeat lk
 exact h
section
variable{prog:Program}{w:World}{A:Around}{E:VS7}{K:FG7}{a C:Addr}{o:Obj}{h:Heap}{g:Array GenState}{d:Drawn}{t:Nat}{os:OsState}
theorem sE{tk:Tok}{Q:PySem.Fin->Shared->Prop}(X:K.In h)(hx:h.get? a=some o)(hc:o.cls=.ref C)(ha:findIn K (.ref C) "__class__" = some (some (.builtin "object.__class__")))(hm:eV K C (.type "object")=some true)
  (hq:Q (.done (.ret (.ref C))) ⟨h,g,d,t,os⟩):wpAny (model prog w) A (Builtin.«object.__getattribute__» ⟨[.ref a,.str "__class__" tk],[]⟩) Q E ⟨h,g,d,t,os⟩:=by
 have L0:Looks (model prog w) h (typeOf (.ref a)) (.ref C):=hc▸(Looks.ld hx).andThen .now;have L1:=looks_findIn (M:=model prog w) X ha;have f5:=PySem.F.typeOf_object_class;have f6:=PySem.F.slot_gs_get.lookup;have f7:=PySem.F.slot_gs_set.lookup;repeat (any_goals (first|assumption|with_reducible refine L0.at ?_|with_reducible refine L1.at ?_|(with_reducible refine kN hx ?_;rw[hc])|wp_step))
 refine exc_class_get X hx hc hm ?_;repeat (any_goals (first|assumption|wp_step))
theorem Zb{M:Model}{DB:Value}{Q:Unit->Shared->Prop}(X:K.In h)(hx:h.get? a=some o)(hc:o.cls=.ref C)(hb:eV K C (.type "BaseException")=some true)(hq:Q () ⟨h,g,d,t,os⟩) :
  wpAny M A (checkBuiltinCall "BaseException.__getattribute__" ⟨[.ref a,DB],[]⟩) Q E ⟨h,g,d,t,os⟩:=by
 have hk:builtinKind "BaseException.__getattribute__" = some .slot:=by decide +kernel
 have D5:splitId "BaseException.__getattribute__" = some ("BaseException","__getattribute__"):=by decide +kernel
 have L0:Looks M h (typeOf (.ref a)) (.ref C):=hc▸(Looks.ld hx).andThen .now;have L1:=looks_mroIn (M:=M) X hb;have ha:=PySem.F.args_bexc_ga (.ref a) DB;simp only[checkBuiltinCall,hk,D5]
 refine aA ?_;unfold lW;repeat (first|with_reducible refine L0.at ?_|with_reducible refine L1.at ?_|wp_step)
 exact hq
theorem rB{tk:Tok}{R:Result->Shared->Prop}(X:K.In h)(hx:h.get? a=some o)(hc:o.cls=.ref C)(ha:findIn K (.ref C) "__class__" = some (some (.builtin "object.__class__")))(hm:eV K C (.type "object")=some true)(hb:eV K C (.type "BaseException")=some true)
  (hq:R (.ok (.ret (.ref C))) ⟨h,g,d,t,os⟩):iw (model prog w) A (.call (.builtin "BaseException.__getattribute__") ⟨[.ref a,.str "__class__" tk],[]⟩) R ⟨h,g,d,t,os⟩ :=
 lA (by decide +kernel) PySem.F.entry_bexc_ga (Zb X hx hc hb (sE X hx hc ha hm hq))
theorem Zc{tk:Tok}{Q:VS7}(X:K.In h)(hx:h.get? a=some o)(hc:o.cls=.ref C)(HM:findIn K (.ref C) "__getattribute__" = some (some (.builtin "BaseException.__getattribute__")))(HN:findIn K (.ref C) "__getattr__" = some none)
  (ha:findIn K (.ref C) "__class__" = some (some (.builtin "object.__class__"))) (hm:eV K C (.type "object")=some true) (hb:eV K C (.type "BaseException")=some true)
  (hq:Q (.ref C) ⟨h,g,d,t,os⟩):wpAny (model prog w) A (getAttrBy (.ref a) (.str "__class__" tk) false) Q E ⟨h,g,d,t,os⟩:=by
 have L0:Looks (model prog w) h (typeOf (.ref a)) (.ref C):=hc▸(Looks.ld hx).andThen .now;have L1:=looks_findIn (M:=model prog w) X HM;have L2:=looks_findIn (M:=model prog w) X HN;have f3:=PySem.F.attr_ValueError.ga.bind (.ref a);have DC:(lu "BaseException.__getattribute__" == lu "object.__getattribute__")=false:=by decide +kernel
 have hx1:(onTheHeap (aN C) && lu "BaseException.__getattribute__" == lu "object.__getattribute__")=false:=by rw[DC];rfl
 repeat (any_goals (first|assumption|with_reducible refine L0.at ?_|with_reducible refine L1.at ?_|with_reducible refine L2.at ?_|(with_reducible refine kN hx ?_;rw[hc])|wp_step))
 refine rB X hx hc ha hm hb ?_;repeat (any_goals (first|assumption|wp_step))
theorem rC{Q:Option Value->Shared->Prop}(X:K.In h)(hx:h.get? a=some o)(hc:o.cls=.ref C)(HM:findIn K (.ref C) "__getattribute__" = some (some (.builtin "BaseException.__getattribute__")))(HN:findIn K (.ref C) "__getattr__" = some none)
  (ha:findIn K (.ref C) "__class__" = some (some (.builtin "object.__class__"))) (hm:eV K C (.type "object")=some true) (hb:eV K C (.type "BaseException")=some true)
  (hq:Q (some (.ref C)) ⟨h,g,d,t+1,os⟩):wpAny (model prog w) A (getAttr? (.ref a) "__class__") Q E ⟨h,g,d,t,os⟩:=by
 unfold getAttr? getAttrBy?;repeat (any_goals (first|assumption|with_reducible apply Zc X hx hc HM HN ha hm hb|wp_step))
end
structure ExcK(K:FG7)(C:Addr):Prop where
 ga:findIn K (.ref C) "__getattribute__" = some (some (.builtin "BaseException.__getattribute__"))
 gt:findIn K (.ref C) "__getattr__" = some none
 cl:findIn K (.ref C) "__class__" = some (some (.builtin "object.__class__"))
 ob:mroIn K C (.type "object")=some true
 be:mroIn K C (.type "BaseException")=some true
theorem VX{K:FG7}{C:Addr}{b:Value}{r:Bool}(e:mroIn K C b=some r):∃cd,clsIn K C=some cd:=by
 obtain⟨cd,a,_⟩:=Option.bind_eq_some_iff.mp e;exact⟨cd,a⟩
theorem Si{K:FG7}{a C:Addr}(F:ExcK K C):KitX K (.ref a) (.ref C) (fun h=>∃o,h.get? a=some o/\o.cls=.ref C) where
 ty:=fun M h _ p=>by
  obtain⟨o,h1,h2⟩:=p;exact h2▸(Looks.ld h1).andThen .now
 it:=fun _ _ X _=>by
  obtain⟨cdD,D6⟩:=VX F.ob;unfold clsIn at D6;split at D6
  ·rename_i c' d' cd' DN ho;intro A' Q' E' s' k q;unfold isType loadHead;exact aA (wpAny_loadPart (k _ _ (X _ _ ho)) (aB q))
  ·cases D6
 ne:=fun h tp dd nK n sl X htp=>by
  obtain⟨cdD,D6⟩:=VX F.ob;refine kO.mpr fun q=>?_;have e:C=tp:=nu (beq_iff_eq.mp q);subst e;unfold clsIn at D6;split at D6
  ·rename_i c' d' cd' DN ho;have z:=(X _ _ ho).symm.trans htp;cases z
  ·cases D6
 ca:=fun{_ _ _ _ _ s} X p k=>by
  obtain⟨h,g,d,t,os⟩:=s;obtain⟨o,h1,h2⟩:=p;exact rC X h1 h2 F.ga F.gt F.cl F.ob F.be k
def ExO(a C:Addr):HO:=.ext fun h=>∃o,h.get? a=some o/\o.cls=.ref C/\∃vs,o.data=.fields vs/\vs[2]?=some .none
theorem ExO.cl{h:Heap}{a C:Addr}(p:∃o,h.get? a=some o/\o.cls=.ref C/\∃vs,o.data=.fields vs/\vs[2]?=some .none):∃o,h.get? a=some o/\o.cls=.ref C:=p.imp fun _ z=>⟨z.1,z.2.1⟩
def JQ(K:FG7):List V->Hp->VK->Prop:=fun xs H Q=>∃(a C:Addr) (y:V) (c:Value) (b:Bool),xs=[.ref a,y]/\H a=some (ExO a C)/\(∀u,zQ y u->u=c)/\ExcK K C/\kitOne K (.ref C) c=some b/\Q (.bl b) H
theorem zO{X:Cx}{K:FG7}(hK:X.K=K):xG X (.builtin "isinstance") (JQ K):=by
 subst hK;intro nJ s σ H xs us Q I r h;obtain⟨a,C,y,c,b,rfl,hH,hy,F,e,q⟩:=h;obtain⟨u,w',rfl,rx,ry⟩:=XG r;cases(show u=aN a from rx);have:=hy w' ry;subst this;exact kia_one (Si F) I.kIn (ExO.cl (I.hok a _ hH).1) e (fun z=>nomatch z) fun tk=>⟨.bl b,H,I.tok _,rfl,q⟩
theorem ja{M:Model}{A:Around}{E:VS7}{K:FG7}{h:Heap}{g:Array GenState}{d:Drawn}{t:Nat}{os:OsState}{e C' C N:Addr}{oe:Obj}{Q:Bool->Shared->Prop}{nm q:Str}{bs bm:List Value}{hdct:Bool}{sn:List Str}{sub:List Value}{ab:Bool}{col:Option Bool}{dd:Option Addr}{k0 k1 k2 k3 k5:Option Value}{Ff:String}
  (X:K.In h) (hC:h.get? C=some (excClassObj nm q C N bs bm hdct sn sub ab col dd k0 k1 k2 k3 k5 Ff)) (he:h.get? e=some oe) (pQ:oe.cls=.ref C') (Au:bm.contains (.type "BaseException")=true) (HP:mroIn K C' (.ref C)=some true)
  (hq:Q true ⟨h,g,d,t,os⟩):wpAny M A (excMatches (.ref e) (.ref C)) Q E ⟨h,g,d,t,os⟩:=by
 have hcB:(aN C::bm).contains (.type "BaseException")=true:=by rw[List.contains_cons,Au,Bool.or_true]
 have L1:=looks_mroIn (M:=M) X HP;have f:=tc_notTuple;unfold excMatches;repeat (first|(with_reducible refine kN he ?_;rw[pQ])|with_reducible refine L1.at ?_|with_reducible refine kN hC ?_|(with_reducible refine wpAny_isSubtype_exc hC ?_;rw[hcB])|wp_step)
 exact hq
section
variable{X:Cx}{nJ:List (Addr×Obj)}{σ:L2.St}{H:Hp}{s:Shared}
theorem ua{M:Model}{A:Around}{E:VS7}{i:Nat}{x:Str}{pos:Pos}{Q:Unit->Shared->Prop}(I:Inv X nJ σ H s)(hN:X.N.Nodup)(hi:X.N[i]?=some x)(hx:X.env.kindOf x=some .local)(DC:X.env.scope.names.lookup x=some .local)
  (h:∀s',Inv X nJ (σ.set i none) H s'->Q () s'):wpAny M A (do bindName X.env x .none;unbindBehindTheSuite X.env x pos) Q E s:=by
 have pQ:(X.env.scope.kind == .class || (X.env.scope.kind == .module && X.env.locals != X.env.globals))=false:=by rw[I.ok.kind];rfl
 refine aA (wpAny_bindName (vO (v:=.non) I hN hi (.inl DC) rfl (fun s1 I1=>?_) (.inr DC)));unfold unbindBehindTheSuite;refine ka ?_;unfold unbindName;refine aA (wpAny_point (aA ?_));unfold deleteName;simp only[hx,pQ]
 rw[if_neg (by decide)];obtain⟨m,hn,hl⟩:=id I1.loc;refine aA (wpAny_nsDel_keeps hn fun h' v Ah hs=>?_);have Cf:i<σ.length:=by rw[I.len];exact(aL.mp hi).1
 have hm:(m x).isSome=true:=by
  obtain⟨u,_,l⟩:=hl i x .non hi (dY Cf) (.inl DC);rcases l with ⟨_,e⟩|⟨k,_⟩
  ·rw[e];rfl
  ·rcases k with k|k <;> (rw[hx] at k;cases k)
 simp only[hm,if_true,dJ,aY,if_false]
 refine aB (wpAny_point (h _ ?_));obtain⟨oL,_,_,hoL,_⟩:=id hn;have cne:=I1.cne;have pF:HOk X.prog X.w H h':=fun b ob e=>by
  refine(I1.hok b ob e).stay (fun c w' hc q=>(hs.2 c ?_).trans q) (fun _ q=>q) fun _ _ q=>q;rintro rfl;have Aq:=I1.free;rcases hc with hc|hc
  ·rw[←hc] at e;rw[Aq] at e;cases e
  ·rw[Aq] at hc;cases hc
 refine⟨I1.ok,I1.os,I1.bare,⟨fun b o e n hb hx=>?_,fun b o e n hb hx=>?_,I1.base.free,fun b o e hx=>?_,I1.base.tups,I1.base.frzs,I1.base.tbls⟩,⟨_,Ah,fun j y v' e1 e2 e3=>?_⟩,fun y c e=>?_,I1.free,I1.freeC,fun p hp=>?_,pF,by rw[cT];exact I.len⟩
 ·exact(hs.2 b (aW (aV (aP e) I1.ok.above))).trans (I1.base.keep b o e n hb hx)
 ·obtain⟨sl,e1⟩:=I1.base.slot b o e n hb hx;exact⟨sl,(hs.2 b (aW (aV (aP e) I1.ok.above))).trans e1⟩
 ·obtain⟨o',e1⟩:=I1.base.there b o e hx;exact⟨o',(hs.2 b (aW (aV (aP e) I1.ok.above))).trans e1⟩
 ·have hj:j≠i:=fun z=>by
   subst z;rw[dY Cf] at e2;cases e2
  rw[fb (Ne.symm hj)] at e2;obtain⟨u',r',q⟩:=hl j y v' e1 (by rw[fb (Ne.symm hj)];exact e2) e3;refine⟨u',r',?_⟩;rcases q with ⟨k,e⟩|⟨k,c,e,z⟩
  ·refine .inl ⟨k,?_⟩;have:y≠x:=fun e=>hj (qI hN e1 (e▸hi));simp[this,e]
  ·exact .inr ⟨k,c,e,z.sameBut hs (cne y c e)⟩
 ·obtain⟨w',z⟩:=I1.cell y c e;exact⟨w',z.sameBut hs (cne y c e)⟩
 ·obtain⟨e,n,ne,nf,d⟩:=I1.pin p hp;exact⟨(hs.2 p.1 ne).trans e,n,ne,nf,d⟩
end
theorem Inv.trackX{X:Cx}{nJ:List (Addr×Obj)}{σ:L2.St}{H:Hp}{s:Shared}{a T C:Addr}{o:Obj}(I:L2.Inv X nJ σ H s)(ap:ApX X nJ H a T){vs:Array Value}(he:s.heap.get? a=some o)(hc:o.cls=.ref C)(hd:o.data=.fields vs)(h2:vs[2]?=some .none):L2.Inv X nJ σ (upd H a (ExO a C)) s:=by
 refine⟨I.ok,I.os,I.bare,⟨I.base.keep,I.base.slot,fun b o' e n hx=>?_,I.base.there,fun b xs e=>?_,fun b o' u e=>?_,fun b ps e=>?_⟩,I.loc,I.cell,?_,fun x c e=>?_,fun p hp=>?_,?_,I.len⟩
 ·rw[zq (ap.s0 b o' e).1];exact I.base.free b o' e n hx
 ·have z:=I.base.tups b xs e;rw[zq (zt z ap.ha)];exact z
 ·have z:=I.base.frzs b o' u e;rw[zq (zt z ap.ha)];exact z
 ·obtain⟨more,z⟩:=I.base.tbls b ps e;exact⟨more,by rw[zq (zt z ap.ha)];exact z⟩
 ·rw[zq ap.loc.1];exact I.free
 ·rw[zq (ap.cel x c e).1];exact I.freeC x c e
 ·obtain⟨p1,p2,p3,p4,p5⟩:=I.pin p hp;exact⟨p1,by rw[zq (ap.pin p hp).1];exact p2,p3,p4,p5⟩
 ·refine HOk.track I.hok ap.ha ⟨⟨o,he,hc,vs,hd,h2⟩,⟨o,he⟩,fun h1 h2 φ k=>?_⟩;obtain⟨o',e1,e2⟩:=φ;exact⟨o',k _ e1,e2⟩
def RJ(i:Nat)(D:Ends):Ends:={ nx:=fun σ H=>D.nx (σ.set i none) H,rt:=D.rt,bk:=fun σ H=>D.bk (σ.set i none) H,ct:=fun σ H=>D.ct (σ.set i none) H }
theorem Zd:cU "ValueError" = some (.type "ValueError"):=by kernel_rfl
end L3
namespace L2
open PySem PySem.Spec PyProof.Rows
end L2
namespace L2
open PySem PySem.Spec PyProof.Rows
end L2
namespace L2
open PySem PySem.Spec PyProof.Rows
end L2
namespace L2
open PySem PySem.Spec PyProof.Rows
end L2
namespace L2
open PySem PySem.Spec PyProof.Rows
end L2
namespace L2
open PySem PySem.Spec PyProof.Rows
end L2
namespace L2
open PySem PySem.Spec PyProof.Rows
section
variable{κ:Type}[DecidableEq κ]
noncomputable def u5(kvs:List (κ×V))(k:κ):Option V:=(kvs.find? fun kv=>decide (kv.1=k)).map (·.2)
noncomputable def Ze(kvs:List (κ×V))(k:κ)(v:V):List (κ×V) :=
 if(kvs.any fun kv=>decide (kv.1=k))=true then kvs.map (fun kv=>if kv.1=k then(kv.1,v) else kv) else kvs++[(k,v)]
theorem yI{p:κ×V}{r:List (κ×V)}{k:κ}(e:p.1=k):u5 (p::r) k=some p.2:=by simp[u5,fY,e]
theorem yx{p:κ×V}{r:List (κ×V)}{k:κ}(e:¬p.1=k):u5 (p::r) k=u5 r k:=by simp[u5,fY,e]
theorem wY(k:κ):∀kvs:List (κ×V),(kvs.any fun kv=>decide (kv.1=k))=(u5 kvs k).isSome
 |[]=>rfl
 |p::r=>by
  rw[dO];by_cases e:p.1=k
  ·simp only[yI e,decide_eq_true e,Bool.true_or,Option.isSome_some]
  ·rw[yx e,decide_eq_false e,Bool.false_or];exact wY k r
theorem Y9(k j:κ)(y:V):∀kvs:List (κ×V),u5 (kvs.map fun kv=>if kv.1=k then(kv.1,y) else kv) j=(u5 kvs j).map fun x=>if j=k then y else x
 |[]=>rfl
 |p::r=>by
  have ih:=Y9 k j y r;rw[cz];by_cases h:p.1=k
  ·rw[if_pos h];by_cases e:p.1=j
   ·rw[yI (p:=(p.1,y)) e,yI e,lH,if_pos (e.symm.trans h)]
   ·rw[yx (p:=(p.1,y)) e,yx e,ih]
  ·rw[if_neg h];by_cases e:p.1=j
   ·rw[yI (p:=p) e,yI e,lH,if_neg (fun z=>h (e.trans z))]
   ·rw[yx (p:=p) e,yx e,ih]
theorem Zf(k j:κ)(y:V):∀kvs:List (κ×V),u5 kvs k=none->u5 (kvs++[(k,y)]) j=if j=k then some y else u5 kvs j
 |[],_=>by
  by_cases e:k=j
  ·rw[if_pos e.symm];exact yI (p:=(k,y)) e
  ·rw[if_neg (fun z=>e z.symm)];exact yx (p:=(k,y)) e
 |p::r,hn=>by
  rw[List.cons_append];have hk:¬p.1=k:=fun z=>by rw[yI z] at hn;cases hn
  rw[yx hk] at hn;have ih:=Zf k j y r hn;by_cases e:p.1=j
  ·rw[yI e,yI e,if_neg (fun z=>hk (e.trans z))]
  ·rw[yx e,yx e,ih]
theorem Sj(kvs:List (κ×V))(k j:κ)(y:V):u5 (Ze kvs k y) j=if j=k then some y else u5 kvs j:=by
 unfold Ze;by_cases a:(kvs.any fun kv=>decide (kv.1=k))=true
 ·rw[if_pos a,Y9];rw[wY] at a;by_cases e:j=k
  ·obtain⟨x,hx⟩:=gX.mp a;rw[if_pos e,e,hx,lH,if_pos rfl]
  ·rw[if_neg e];cases u5 kvs j with
   |none=>rfl
   |some x=>rw[lH,if_neg e]
 ·rw[if_neg a];refine Zf k j y kvs ?_;rw[wY] at a;cases q:u5 kvs k with
  |none=>rfl
  |some x=>rw[q] at a;exact(a rfl).elim
theorem vE(kvs:List (κ×V))(k:κ)(v:V):(Ze kvs k v).length<=kvs.length+1:=by
 unfold Ze;split
 ·rw[aE];omega
 ·rw[bD,cJ,eX];omega
theorem Sk{kvs:List (κ×V)}{k:κ}(v:V)(h:u5 kvs k=none):Ze kvs k v=kvs++[(k,v)]:=by
 unfold Ze;rw[wY,h];exact if_neg (by decide)
theorem Tm.isSome_eq{o:Option V}{u:Option Value}(r:Tm o u):o.isSome=u.isSome:=by
 cases o with
 |none=>cases u with
  |none=>rfl
  |some _=>exact(show False from r).elim
 |some _=>cases u with
  |none=>exact(show False from r).elim
  |some _=>rfl
theorem Tm.getD{o:Option V}{u:Option Value}{d:V}{d':Value}(r:Tm o u)(rd:zQ d d'):zQ (o.getD d) (u.getD d'):=by
 cases o with
 |none=>cases u with
  |none=>exact rd
  |some _=>exact(show False from r).elim
 |some _=>cases u with
  |none=>exact(show False from r).elim
  |some _=>exact r
theorem KV.val{kvs:List (κ×V)}{vs:List (κ×Value)}(r:KV kvs vs)(k:κ):Tm (u5 kvs k) (valueAt vs k):=by
 unfold KV at r;induction r with
 |nil=>exact True.intro
 |@cons p q ps qs h t ih =>
  obtain⟨h1,h2⟩:=h;by_cases e:p.1=k
  ·have e':q.1=k:=h1.symm.trans e;have b:valueAt (q::qs) k=some q.2:=by simp[valueAt,fY,e']
   rw[yI e,b];exact h2
  ·have e':¬q.1=k:=fun z=>e (h1.trans z);have b:valueAt (q::qs) k=valueAt qs k:=by simp[valueAt,fY,e']
   rw[yx e,b];exact ih
theorem KV.any{kvs:List (κ×V)}{vs:List (κ×Value)}(r:KV kvs vs)(k:κ):(kvs.any fun kv=>decide (kv.1=k))=vs.any fun kv=>decide (kv.1=k):=by
 unfold KV at r;induction r with
 |nil=>rfl
 |cons h t ih=>rw[dO,dO,ih,h.1]
theorem KV.repl{kvs:List (κ×V)}{vs:List (κ×Value)}(r:KV kvs vs)(k:κ){y:V}{u:Value}(ry:zQ y u) :
  KV (kvs.map fun kv=>if kv.1=k then(kv.1,y) else kv) (vs.map fun kv=>if kv.1=k then(kv.1,u) else kv):=by
 unfold KV at r ⊢;induction r with
 |nil=>exact .nil
 |@cons p q ps qs h t ih =>
  rw[cz,cz];refine .cons ?_ ih;obtain⟨h1,h2⟩:=h;by_cases e:p.1=k
  ·rw[if_pos e,if_pos (h1.symm.trans e)];exact⟨h1,ry⟩
  ·rw[if_neg e,if_neg (fun z=>e (h1.trans z))];exact⟨h1,h2⟩
theorem KV.put{kvs:List (κ×V)}{vs:List (κ×Value)}(r:KV kvs vs)(k:κ){y:V}{u:Value}(ry:zQ y u):KV (Ze kvs k y) (stored vs k u):=by
 unfold Ze stored;rw[r.any k];by_cases e:(vs.any fun kv=>decide (kv.1=k))=true
 ·rw[if_pos e,if_pos e];exact r.repl k ry
 ·rw[if_neg e,if_neg e];exact Paired.snoc r ⟨rfl,ry⟩
theorem KV.length{kvs:List (κ×V)}{vs:List (κ×Value)}(r:KV kvs vs):kvs.length=vs.length:=Paired.length r
end
theorem Qz{P:Program}{w:World}{k:Key}{u:Value}(r:zQ (kV k) u):(yp P w).is k u=true:=by
 cases k with
 |inl i=>obtain⟨t,e⟩:=(show ∃t,u=fD i t from r);subst e;exact ZS P w i t
 |inr x=>obtain⟨t,e⟩:=(show ∃t,u=nH x t from r);subst e;exact ZT P w x t
theorem Zg{P:Program}{w:World}:∀{ks:List Key} {us:List Value},zP (ks.map kV) us->ItemsAre (yp P w) ks us
 |[],_,r=>by rw[lL] at r;cases r;exact .nil
 |k::ks,_,r=>by
  rw[cz] at r;cases r with
  |cons h t=>exact .cons (Qz h) (Zg t)
abbrev KT(H:Hp):List (List Key×V)->List (List Key×Addr×Value)->Prop:=Paired fun p q=>p.1=q.1/\H q.2.1=some (.tup (p.1.map kV))/\zQ p.2 q.2.2
theorem KT.val{H:Hp}{kvs:List (List Key×V)}{xs:List (List Key×Addr×Value)}(r:KT H kvs xs)(k:List Key):Tm (u5 kvs k) ((mo xs k).map (·.2)):=by
 induction r with
 |nil=>exact True.intro
 |@cons p q ps qs h t ih =>
  obtain⟨h1,_,h2⟩:=h;by_cases e:p.1=k
  ·have e':q.1=k:=h1.symm.trans e;have b:mo (q::qs) k=some q.2:=by simp[mo,fY,e']
   rw[yI e,b];exact h2
  ·have e':¬q.1=k:=fun z=>e (h1.trans z);have b:mo (q::qs) k=mo qs k:=by simp[mo,fY,e']
   rw[yx e,b];exact ih
theorem KT.repl{H:Hp}{kvs:List (List Key×V)}{xs:List (List Key×Addr×Value)}(r:KT H kvs xs)(k:List Key){y:V}{u:Value}(ry:zQ y u) :
  KT H (kvs.map fun kv=>if kv.1=k then(kv.1,y) else kv) (xs.map (putAt k u)):=by
 induction r with
 |nil=>exact .nil
 |@cons p q ps qs h t ih =>
  rw[cz,cz];refine .cons ?_ ih;obtain⟨h1,h2,h3⟩:=h;unfold putAt;by_cases e:p.1=k
  ·rw[if_pos e,if_pos (h1.symm.trans e)];exact⟨h1,h2,ry⟩
  ·rw[if_neg e,if_neg (fun z=>e (h1.trans z))];exact⟨h1,h2,h3⟩
theorem KT.put{H:Hp}{kvs:List (List Key×V)}{xs:List (List Key×Addr×Value)}(r:KT H kvs xs)(k:List Key){b:Addr}{y:V}{u:Value}(hb:H b=some (.tup (k.map kV)))(ry:zQ y u) :
  KT H (Ze kvs k y) (storedH xs k b u):=by
 have e:(kvs.any fun kv=>decide (kv.1=k))=(mo xs k).isSome:=by
  rw[wY,(r.val k).isSome_eq,Option.isSome_map]
 unfold Ze storedH;rw[e];by_cases q:(mo xs k).isSome=true
 ·rw[if_pos q,if_pos q];exact r.repl k ry
 ·rw[if_neg q,if_neg q];exact Paired.snoc r ⟨rfl,hb,ry⟩
theorem KT.keeps{H H':Hp}{kvs:List (List Key×V)}{xs:List (List Key×Addr×Value)}(r:KT H kvs xs)(ht:∀b ys,H b=some (.tup ys)->H' b=some (.tup ys)):KT H' kvs xs :=
 Paired.mapP r fun _ _ z=>⟨z.1,ht _ _ z.2.1,z.2.2⟩
section
variable{P:Program}{w:World}{H:Hp}{h:Heap}{a:Addr}
theorem JR{u:HO}(ok:HOk P w H h)(e:Rd H a u):zT P w H h a u:=e.ok ok
theorem QA{kvs:List (Key×V)}(ok:HOk P w H h)(e:Rd H a (.dK kvs)):kvs.length<=sizeLine/\(a == sysModules)=false/\∃vs,KV kvs vs/\h.DictOf (yp P w) a vs :=
 show zT P w H h a (.dK kvs) from JR ok e
theorem zbr{kvs:List (Key×V)}(ok:HOk P w H h)(e:H a=some (.dK kvs)):kvs.length<=sizeLine/\(a == sysModules)=false/\∃vs,KV kvs vs/\h.DictOf (yp P w) a vs:=QA ok (.inl e)
theorem VY{ks:List Key}(ok:HOk P w H h)(e:H a=some (.tup (ks.map kV))):(mE (yp P w)).is h ks a:=by
 obtain⟨_,nK,r,o,h1,h2,n,h3⟩:=(show zT P w H h a (.tup (ks.map kV)) from ok a _ e)
 exact⟨o,nK.toArray,n,h1,h2,h3,by simpa using Zg r⟩
theorem QB{kvs:List (List Key×V)}(ok:HOk P w H h)(e:Rd H a (.dT kvs)):kvs.length<=sizeLine/\(a == sysModules)=false∧
  ∃xs,KT H kvs xs/\h.DictOfH (mE (yp P w)) a xs:=by
 obtain⟨z,y,xs,r,o,es,ep,h1,h2,h3,h4,h5⟩:=(show zT P w H h a (.dT kvs) from JR ok e)
 refine⟨z,y,xs,r,o,es,ep,h1,h2,h3,h4,fun x hx=>?_,h5⟩;have all:∀{l:List (List Key×V)} {m:List (List Key×Addr×Value)},KT H l m->∀x∈m,(mE (yp P w)).is h x.1 x.2.1:=by
  intro l m q;induction q with
  |nil=>intro x hx;exact nomatch hx
  |@cons p q ps qs hq t ih =>
   intro x hx;rcases aK.mp hx with e|hx
   ·subst e;exact VY ok (by rw[←hq.1];exact hq.2.1)
   ·exact ih x hx
 exact all r x hx
theorem zbs{kvs:List (List Key×V)}(ok:HOk P w H h)(e:H a=some (.dT kvs)):kvs.length<=sizeLine/\(a == sysModules)=false∧
  ∃xs,KT H kvs xs/\h.DictOfH (mE (yp P w)) a xs:=QB ok (.inl e)
end
def JS(H:Hp)(a:Addr)(y:V)(r:Option V):Prop :=
 (∃kvs k,Rd H a (.dK kvs)/\y=kV k/\r=u5 kvs k)\/∃kvs k b,Rd H a (.dT kvs)/\y=.ref b/\H b=some (.tup (k.map kV))/\r=u5 kvs k
def QC(H:Hp)(a:Addr)(y v:V)(H':Hp):Prop :=
 (∃kvs k,H a=some (.dK kvs)/\y=kV k/\kvs.length<sizeLine/\H'=upd H a (.dK (Ze kvs k v)))∨
 ∃kvs k b,H a=some (.dT kvs)/\y=.ref b/\H b=some (.tup (k.map kV))/\kvs.length<sizeLine/\H'=upd H a (.dT (Ze kvs k v))
theorem JS.k{H:Hp}{a:Addr}{kvs:List (Key×V)}{k:Key}(e:H a=some (.dK kvs)):JS H a (kV k) (u5 kvs k):=.inl ⟨kvs,k,.inl e,rfl,rfl⟩
theorem QC.k{H:Hp}{a:Addr}{kvs:List (Key×V)}{k:Key}{v:V}(e:H a=some (.dK kvs))(hl:kvs.length<sizeLine):QC H a (kV k) v (upd H a (.dK (Ze kvs k v))):=.inl ⟨kvs,k,e,rfl,hl,rfl⟩
section
variable{X:Cx}{nJ:List (Addr×Obj)}{σ:St}{H:Hp}{s:Shared}{a:Addr}{y v:V}{u r:Value}{o:Option V}{A:Around}{E:VS7}
theorem Inv.big(I:Inv X nJ σ H s):sysModules<s.heap.objs.size:=by
 have h:bC<s.heap.objs.size:=(I.mod.glob.keeps I.bk).lt;exact iS (by decide) h
theorem sG{h':Heap}{t':Nat}{ob:HO}(I:Inv X nJ σ H s)(mu:Mut (H a))(hs:cP a s.heap h')(he:∃q,h'.get? a=some q)(new:zT X.prog X.w (upd H a ob) h' a ob) :
  Inv X nJ σ (upd H a ob) { s with heap:=h',toks:=t' } :=
 I.write (x:=a) (e:=a) mu (.inl rfl) (fun b q hb z=>(hs.2 b hb).trans z) he new
theorem JT{P:Program}{w:World}{H':Hp}{h':Heap}{kvs:List (Key×V)}{vs:List (Key×Value)}(z:kvs.length<=sizeLine)(hd:(a == sysModules)=false)(rel:KV kvs vs)(dd:h'.DictOf (yp P w) a vs) :
  zT P w H' h' a (.dK kvs):=⟨z,hd,vs,rel,dd⟩
theorem VZ{H':Hp}{Q:Unit->Shared->Prop}(hu:A.units+1<ig)(I:Inv X nJ σ H s)(g:QC H a y v H')(ry:zQ y u)(rv:zQ v r)(h:∀s',Inv X nJ σ H' s'->Q () s') :
  wpAny (model X.prog X.w) A (setItem (.ref a) u r) Q E s:=by
 rcases g with ⟨kvs,k,e,ey,l,eH⟩|⟨kvs,k,b,e,ey,eb,l,eH⟩
 ·subst ey eH;obtain⟨z,hd,vs,rel,dd⟩:=zbr I.hok e;have hz:vs.length<=sizeLine:=by rw[←rel.length];exact z
  have hl:(Ze kvs k v).length<=sizeLine:=by have:=vE kvs k v;omega
  refine wpAny_setItem_pairs (hsz:=hz) (Qz ry) dd fun h' DD hs=>h _ ?_;have he:∃q,h'.get? a=some q:=let ⟨q,_,_,hq,_⟩:=DD;⟨q,hq⟩
  exact sG I (by rw[e];exact True.intro) hs he (JT hl hd (rel.put k rv) DD)
 ·subst ey eH;cases(show u=aN b from ry);obtain⟨z,hd,xs,rel,dd⟩:=zbs I.hok e;have hz:xs.length<=sizeLine:=by rw[←Paired.length rel];exact z
  have hl:(Ze kvs k v).length<=sizeLine:=by have:=vE kvs k v;omega
  refine wpAny_setItem_heap (hsz:=hz) (tupleKind_room_in1 hu) (VY I.hok eb) dd fun h' DD hs=>h _ ?_;obtain⟨q,es,ep,hq,h2,h3,h4,_,h5⟩:=DD;refine sG I (by rw[e];exact True.intro) hs ⟨q,hq⟩ ⟨hl,hd,_,(rel.put k eb rv).keeps fun c ys ec=>?_,q,es,ep,hq,h2,h3,h4,h5⟩;rw[zq (zaK ec e (fun z=>nomatch z))];exact ec
end
def zbt(td ty tv:TE):TS:=fun D σ H=>tv σ H fun v H1=>td σ H1 fun x H2=>ty σ H2 fun y H3=>∃a H4,x=.ref a/\QC H3 a y v H4/\D.nx σ H4
section
variable{X:Cx}{o i e value:Expr}{pos pc tpos:Pos}{td ty tv:TE}
theorem Ya(hu:X.A.units+1<ig)(ho:PE X o td)(hi:PE X i ty)(hv:PE X value tv)(hs:mG value (some (.Subscript o i pc)) pos.line X.env=pure false) :
  PS X (.Assign [.Subscript o i pc] value pos) (zbt td ty tv):=by
 intro nJ s σ H D I h;refine wpAny_Assign_Subscript (thn (hv nJ s σ H _ I h) fun r s1 ⟨v,H1,I1,rv,q1⟩=>thn (ho nJ s1 σ H1 _ I1 q1) fun u s2 ⟨x,H2,I2,rx,q2⟩=>thn (hi nJ s2 σ H2 _ I2 q2) fun iv s3 ⟨y,H3,I3,ry,a,H4,ex,g,q3⟩=>?_) hs;subst ex;obtain rfl:u=aN a:=rx;exact VZ hu I3 g ry rv fun s4 I4=>⟨σ,H4,I4,q3⟩
end
theorem Sl{P:Program}{w:World}{H:Hp}(h:Heap)(hb:sysModules<h.objs.size):zT P w H (h.push { cls:=.type "dict",data:=.dict #[] }) h.objs.size (.dK []) :=
 ⟨cw _,beq_eq_false_iff_ne.mpr (Ne.symm (aW hb)),[],.nil,Heap.DictOf.new h⟩
def JU:TE:=fun _ H Q=>∀p,H p=none->Q (.ref p) (upd H p (.dK []))
section
variable{X:Cx}{pos:Pos}
theorem jb:PE X (.Dict [] [] pos) JU:=fun nJ s σ H Q I h =>
 mJ ⟨.ref s.heap.objs.size,_,I.laid (a:=s.heap.objs.size) (o:=.dK []) (t':=s.toks) (fun _ _ q=>aD _ q) (aG _) (Sl s.heap I.big),rfl,h _ (I.hok.fresh (aG _))⟩
end
structure M2(X:Cx)(o:Expr)(m:Str)(oW:Pos)(e f:Expr)(oI:Pos):Prop where
 base:attributeBase o m X.env (eval o X.env)=eval o X.env
 few:((lg oI (bY [e,f] X.env)).all (fun x=>!x.1) && (backToKw oI (keywordEach [] X.env)).all (fun x=>x.1.isSome)
  && decide (([e,f]:List Expr).length+([]:List Keyword).length+(if([]:List Keyword).isEmpty then 0 else 1)<30))=true
 line:(oW.endLine == oI.line)=true
 trees:lg oI (bY [e,f] X.env)=[(false,eval e X.env),(false,eval f X.env)]
def IsD(H:Hp)(a:Addr):Prop:=(∃kvs,Rd H a (.dK kvs))\/∃kvs,Rd H a (.dT kvs)
theorem JV{X:Cx}{nJ:List (Addr×Obj)}{σ:St}{H:Hp}{s:Shared}{a:Addr}(I:Inv X nJ σ H s)(d:IsD H a) :
  s.TypeIs (.ref a) "dict" /\(∀b,aN a=.ref b->∃ob,s.heap.get? b=some ob/\ob.dict=none)/\(a == sysModules)=false:=by
 rcases d with ⟨kvs,e⟩|⟨kvs,e⟩
 ·obtain⟨_,hd,vs,_,dd⟩:=QA I.hok e;refine⟨dd.typeIs,fun b q=>?_,hd⟩;cases q;obtain⟨ob,_,_,h1,h2,_⟩:=dd;exact⟨ob,h1,h2.2.1⟩
 ·obtain⟨_,hd,xs,_,dd⟩:=QB I.hok e;refine⟨dd.typeIs,fun b q=>?_,hd⟩;cases q;obtain⟨ob,_,_,h1,h2,_⟩:=dd;exact⟨ob,h1,h2.2.1⟩
section
variable{X:Cx}{nJ:List (Addr×Obj)}{σ:St}{H:Hp}{s:Shared}{a:Addr}{y d:V}{u r:Value}{o:Option V}{A:Around}{E:VS7}
theorem JW{Q:VS7}(hu:A.units+1<ig)(I:Inv X nJ σ H s)(g:JS H a y o)(ry:zQ y u)(rd:zQ d r)(h:∀w' s',Inv X nJ σ H s'->zQ (o.getD d) w'->Q w' s') :
  wpAny (model X.prog X.w) A (call (.builtin "dict.get") [.ref a,u,r]) Q E s:=by
 rcases g with ⟨kvs,k,e,ey,l⟩|⟨kvs,k,b,e,ey,eb,l⟩
 ·subst ey;obtain⟨z,hd,vs,rel,dd⟩:=QA I.hok e;refine call_meetsIn kY dd.typeIs PySem.F.entry_dict_get (PySem.F.args_dict_get_3 _ _ _) (meets_dict_get_default (yp X.prog X.w) a (Qz ry) hd r) ⟨_,dd.mapOf,h _ _ (I.tok _) ?_⟩;rw[l];exact(rel.val k).getD rd
 ·subst ey;cases(show u=aN b from ry);obtain⟨z,hd,xs,rel,dd⟩:=QB I.hok e;refine call_meetsIn kY dd.typeIs PySem.F.entry_dict_get (PySem.F.args_dict_get_3 _ _ _) (meetsH_dict_get_default (mE (yp X.prog X.w)) a b hd r) ⟨tupleKind_room_in1 hu,k,xs,VY I.hok eb,dd,h _ _ (I.tok _) ?_⟩;rw[l];exact(rel.val k).getD rd
end
def JX(td ty tx:TE):TE:=fun σ H Q=>td σ H fun x H1=>∃a,x=.ref a/\IsD H1 a/\ty σ H1 fun y H2=>tx σ H2 fun z H3=>∃o,JS H3 a y o/\Q (o.getD z) H3
section
variable{X:Cx}{o e f:Expr}{oW oI:Pos}{td ty tx:TE}
theorem Sn(hu:X.A.units+1<ig)(ho:PE X o td)(he:PE X e ty)(hf:PE X f tx)(m:M2 X o "get" oW e f oI):PE X (.Call (.Attribute o "get" oW) [e,f] [] oI) (JX td ty tx):=by
 intro nJ s σ H Q I h;refine wpAny_Call_method m.base m.few m.line kB kY PySem.F.type_dict_get (thn (ho nJ s σ H _ I h) fun u s1 ⟨x,H1,I1,rx,a,ex,d,q1⟩=>?_);subst ex;obtain rfl:u=aN a:=rx;obtain⟨t1,t2,_⟩:=JV I1 d;refine⟨t1,t2,?_⟩;rw[m.trees];refine iz rfl (lw (fE (thn (he nJ s1 σ H1 _ I1 q1) fun iv s2 ⟨y,H2,I2,ry,q2⟩ =>
  fE (thn (hf nJ s2 σ H2 _ I2 q2) fun fv s3 ⟨z,H3,I3,rz,ov,g,q3⟩=>gO ?_))))
 exact JW hu I3 g ry rz fun w' s4 I4 DS=>⟨_,H3,I4,DS,q3⟩
end
end L2
namespace Att
open PySem PySem.W PySem.Calls PyProof.Rows
end Att
namespace L2
open PySem PySem.Spec PyProof.Rows
end L2
namespace L3
open PySem PySem.Spec PyProof.Rows L2
open PySem PySem.Spec PyProof.Rows L2 PySem.W
def xA(es:Array DictEntry)(d:Addr)(ep:Nat)(h:Heap):Prop:=∃o,h.get? d=some o/\o.ExactDict/\o.data=.dict es ep
section
variable{prog:Program}{w:World}{A:Around}{E:VS7}{s:Shared}{es:Array DictEntry}{d it:Addr}{ep i:Nat}
theorem xA.typeIs(h:xA es d ep s.heap):s.TypeIs (.ref d) "dict":=let ⟨o,ho,hc,_⟩:=h;⟨o,ho,hc.1⟩
theorem xA.keep{h h':Heap}(x:xA es d ep h)(e:∀o,h.get? d=some o->h'.get? d=some o):xA es d ep h':=let ⟨o,ho,r⟩:=x;⟨o,e o ho,r⟩
theorem So{Q:VS7}(hd:(d == sysModules)=false)(hm:xA es d ep s.heap)
  (hQ:Q (.ref s.heap.objs.size) { s with heap:=s.heap.push { cls:=.type "dict_keyiterator",data:=.fields #[.ref d,.int 0 0,.int es.size 0,.int ep 0] } }) :
  wpAny (model prog w) A (pyIter (.ref d)) Q E s:=by
 obtain⟨o,ho,hc,AN⟩:=id hm;have hT:s.TypeIs (.ref d) "dict":=hm.typeIs;refine kP hT PySem.F.slot_dict_iter (bW PySem.F.slot_dict_iter hT PySem.F.entry_dict_iter ?_ (PySem.F.args_dict_iter_1 _));unfold Builtin.«dict.__iter__»;refine aA ?_;unfold Builtin.Dict.dictSlotNone;refine aA (kZ hT ?_);show wpAny _ _ (pure (aN d)) _ _ s;refine aB ?_;show wpAny _ _ (fC d >>= _) _ _ s;unfold fC;rw[if_neg (by rw[hd];exact aZ)];refine aA (aB ?_);refine aA (eQ ho AN ?_);refine aA (fA ho AN ?_);refine aA (bF (aB ⟨_,rfl,"dict_keyiterator",_,⟨_,aM _ rfl,rfl⟩,PySem.F.slot_dict_keyiterator_next.lookup,?_⟩));simpa[rawInt] using hQ
theorem Sq{Q:Option Value->Shared->Prop}(oh:s.heap.IsKeyIter it d i es.size ep)(hm:xA es d ep s.heap)(n5:i<es.size)
  (hQ:∀h',h'.IsKeyIter it d (i+1) es.size ep->cP it s.heap h'->Q (some es[i].key) { s with heap:=h' }) :
  wpAny (model prog w) A (pyNext (.ref it)) Q E s:=by
 obtain⟨o,ho,hc,hd⟩:=id oh;obtain⟨od,Bj,AK,Bk⟩:=id hm;unfold pyNext;refine aA (gY (cA (name:=dZ "__next__") oh.typeIs eZ
  (bW eZ oh.typeIs PySem.F.entry_dict_keyiterator_next ?_ (PySem.F.args_dict_keyiterator_next_1 _))))
 refine aA (aB ?_);refine aA ?_;refine aA ?_;first|refine aA (fQ oh.typeIs (aB ?_))|refine aA (gZ oh.typeIs (aB ?_))
 refine aA (iP ho hd ?_);have pW:c6 "dict_keyiterator" = false:=by decide
 simp only[pW,aY,if_false]
 show wpAny _ _ (if(aN d == aU)=true then _ else _) _ _ s;rw[if_neg (show ¬((aN d == aU)=true) from aZ)];refine aA (aB ?_);refine aA (eQ Bj Bk ?_);rw[if_neg (by simp)];refine aA (aB ?_);refine aA (fA Bj Bk ?_);rw[if_neg (by simp)];refine aB ?_;simp only[show ¬((i:Int)<0) from by omega,if_false,bL,cF n5]
 refine aA ?_;first|refine aA (fQ oh.typeIs (aB ?_))|refine aA (gZ oh.typeIs (aB ?_))
 refine aA (wpAny_isOneOf_keyiter oh.typeIs ?_);show wpAny _ _ (setField (.ref it) 1 (rawInt ((i:Int)+1)) >>= _) _ _ s;refine aA (cE ho hd (by simp) ?_);have Aj:(s.heap.update it (bV (·.setIfInBounds 1 (rawInt ((i:Int)+1))))).IsKeyIter it d (i+1) es.size ep :=
  ⟨_,cx _ ho (cN (cQ hd _)),(gP ..).trans hc,by rw[cQ hd];simp[rawInt]⟩
 refine aA (bU ?_);refine aA (wpAny_isOneOf_keyiter (s:={ s with heap:=s.heap.update it (bV (·.setIfInBounds 1 (rawInt ((i:Int)+1)))) }) Aj.typeIs ?_);show wpAny _ _ (pure es[i].key) _ _ _;exact aB (aB ⟨_,rfl,aB (hQ _ Aj (cR ..))⟩)
theorem QD{Q:Option Value->Shared->Prop}(hh:A.handled=none)(oh:s.heap.IsKeyIter it d es.size es.size ep)(hm:xA es d ep s.heap)
  (hQ:∀h',fN it s.heap h'->Q none { s with heap:=h' }):wpAny (model prog w) A (pyNext (.ref it)) Q E s:=by
 obtain⟨o,ho,hc,hd⟩:=id oh;obtain⟨od,Bj,AK,Bk⟩:=id hm;unfold pyNext;refine aA (gY (cA (name:=dZ "__next__") oh.typeIs eZ
  (bW eZ oh.typeIs PySem.F.entry_dict_keyiterator_next ?_ (PySem.F.args_dict_keyiterator_next_1 _))))
 refine aA (aB ?_);refine aA ?_;refine aA ?_;first|refine aA (fQ oh.typeIs (aB ?_))|refine aA (gZ oh.typeIs (aB ?_))
 refine aA (iP ho hd ?_);have pW:c6 "dict_keyiterator" = false:=by decide
 simp only[pW,aY,if_false]
 show wpAny _ _ (if(aN d == aU)=true then _ else _) _ _ s;rw[if_neg (show ¬((aN d == aU)=true) from aZ)];refine aA (aB ?_);refine aA (eQ Bj Bk ?_);rw[if_neg (by simp)];refine aA (aB ?_);refine aA (fA Bj Bk ?_);rw[if_neg (by simp)];refine aB ?_;simp only[show ¬((es.size:Int)<0) from by omega,if_false,bL,kQ (aG es.size)]
 refine aA ?_;first|refine aA (fQ oh.typeIs (aB ?_))|refine aA (gZ oh.typeIs (aB ?_))
 show wpAny _ _ (setField (.ref it) 0 .none >>= _) _ _ s;refine aA (cE ho hd (by simp) ?_);show wpAny _ _ (lU (.type "StopIteration") [] >>= _) _ _ _;refine aA ?_;simp only[lU,lV]
 refine aA (bF ?_ (by size_fits));refine aA (m:=dU _ _) (iM (a:=aU) (by first|rfl|(simp only[dU];rfl)) ?_);refine bF ?_ (by size_fits);simp only[m8]
 refine aA (i8 ?_);rw[show A.in1.handled=none from hh];refine aA (aB (ly ?_));refine aA (fG (T:="StopIteration") (b:=true) ⟨_,aM _ rfl,rfl⟩ l5 ?_);exact aB (hQ _ (((cR ..).extBut.push _).push _))
end
open PySem PySem.Spec PyProof.Rows L2 HT
theorem tw:fillsNumberSlot (.type "tuple") "mul" = pure false :=
 PySem.fillsNumberSlot_seq (id:="tuple.__mul__") (r:=some (.builtin "tuple.__rmul__")) PySem.F.slot_tuple_mul.lookup (by decide +kernel) (by rw[typeLookup_type,builtinLookup_eq_fast];kernel_rfl) (by decide +kernel)
theorem Zh:seqRepeat? (.type "tuple")=pure (some (.builtin "tuple.__mul__")):=by
 unfold seqRepeat?;rw[PySem.seqSlot_of (T:="tuple") (name:="__mul__") (id:="tuple.__mul__") PySem.F.slot_tuple_mul.lookup (by decide +kernel),PySem.seqSlot_of (T:="tuple") (name:="__rmul__") (id:="tuple.__rmul__") (by rw[typeLookup_type,builtinLookup_eq_fast];kernel_rfl) (by decide +kernel)];rfl
theorem rD(a:Int)(t:Tok)(l:Addr)(us:Array Value)(n:Nat)(d1:Option Addr)(e1:Array (Option Value)) :
  Meets (Builtin.«int.__rmul__» ⟨[.int a t,.ref l],[]⟩) (fun _ R s=>s.heap.get? l=some ⟨.type "tuple",d1,.seq us n,e1⟩/\R (.ok (.ret Value.notImplemented)) s) :=
 .of_wp fun prog w A R s h=>by obtain⟨hp,g,d,tk,os⟩:=s;obtain⟨hl,h⟩:=h;wp_walk;exact⟨_,rfl,h⟩
theorem V0(l:Addr)(us:Array Value)(n:Nat)(d1:Option Addr)(e1:Array (Option Value))(x:Int)(u:Tok)(h1:¬x < -(2 ^ 63))(h2:¬x>=2 ^ 63)(h0:us.isEmpty=false)(h3:(x == 1)=false)(h4:¬x<=0)(h5:¬(us.size:Int)*x>(2 ^ 63-1) / 8)(h6:Builtin.Tuple.tupleTooMany ((us.size:Int)*x)=false)(h7:(nB (fun x1 x2=>x1++x2) #[] (cD x.toNat us)).size<=sizeLine) :
  Meets (Builtin.«tuple.__mul__» ⟨[.ref l,.int x u],[]⟩) (fun _ R s=>s.heap.get? l=some ⟨.type "tuple",d1,.seq us n,e1⟩/\R (.ok (.ret (aN s.heap.objs.size))) { s with heap:=s.heap.push { cls:=cK "tuple",data:=Data.seq (nB (fun x1 x2=>x1++x2) #[] (cD x.toNat us)) },toks:=s.toks }) :=
 .of_wp fun prog w A R s h=>by
  obtain⟨hp,g,d,tk,os⟩:=s;obtain⟨hl,h⟩:=h
  wp_walk using dH hl
  rw[if_neg (by simp only[kh,decide_eq_true_eq];omega)]
  wp_walk using dH hl
  rw[if_neg h5];rw[if_neg (by rw[h6];decide)];unfold cO;refine aA (bF ?_ h7);exact aB ⟨_,rfl,h⟩
theorem X3(l:Addr)(us:Array Value)(n:Nat)(d1:Option Addr)(e1:Array (Option Value))(u:Tok) :
  Meets (Builtin.«tuple.__mul__» ⟨[.ref l,.int 1 u],[]⟩) (fun _ R s=>s.heap.get? l=some ⟨.type "tuple",d1,.seq us n,e1⟩/\R (.ok (.ret (aN l))) s) :=
 .of_wp fun prog w A R s h=>by
  obtain⟨hp,g,d,tk,os⟩:=s;obtain⟨hl,h⟩:=h
  wp_walk using dH hl
  exact⟨_,rfl,h⟩
theorem X4(l:Addr)(us:Array Value)(n:Nat)(d1:Option Addr)(e1:Array (Option Value))(u:Tok)(h0:us.isEmpty=false) :
  Meets (Builtin.«tuple.__mul__» ⟨[.ref l,.int 0 u],[]⟩) (fun _ R s=>s.heap.get? l=some ⟨.type "tuple",d1,.seq us n,e1⟩/\R (.ok (.ret (aN s.heap.objs.size))) { s with heap:=s.heap.push { cls:=cK "tuple",data:=Data.seq #[] },toks:=s.toks }) :=
 .of_wp fun prog w A R s h=>by
  obtain⟨hp,g,d,tk,os⟩:=s;obtain⟨hl,h⟩:=h
  wp_walk using dH hl
  exact⟨_,rfl,h⟩
section
variable{X:Cx}{K:FG7}
def zbu(K:FG7):R2:=fun x y H Q=>∃(a:Addr) (k:Nat) (xs:List V),x=.ref a/\y=.int k/\SqT K H a xs/\xs≠[]/\xs.length*k<=sizeLine/\∀p H',Grow [] H H'->SqT K H' p (cD k xs).flatten->Q (.ref p) H'
theorem V1(hK:X.K=K):OpR X (fZ .Mult) (zbu K):=by
 subst hK;intro nJ s σ H x y v u Q I rx ry h;obtain⟨a,k,xs,rfl,rfl,ha,pd,hz,q⟩:=h;cases rx;obtain⟨t,rfl⟩:=ry;obtain⟨nK,r,ht,hzz⟩:=I.tuple ha;obtain⟨⟨c1,d1,x1,l1⟩,ho,hc,n,hd⟩:=id ht;cases hc;cases hd;have hl:=r.length;have he:nK.toArray.isEmpty=false:=by
  cases nK with
  |nil=>exact absurd (r.nil_iff.mp rfl) pd
  |cons _ _=>rfl
 have Fg:(sizeLine:Nat)<=(2 ^ 63-1) / 8:=by decide
 have D7:0<xs.length:=List.length_pos_iff.mpr pd;have hk:k<=xs.length*k:=Nat.le_mul_of_pos_left k D7;refine wpAny_binaryOp_repeat_ref (T:="tuple") (U:="int") (by decide) ⟨_,ho,rfl⟩ (fun s'=>typeIs_int s' k t) tw PySem.F.fills_int_mul PySem.F.slot_int_rmul Zh PySem.F.slot_int_index.lookup
  (lS PySem.F.slot_int_rmul (typeIs_int s k t) PySem.F.entry_int_rmul (PySem.F.args_int_rmul_2 _ _) (rD k t a nK.toArray n d1 l1)
   ⟨ho,rfl,⟨_,ho,rfl⟩,?_⟩)
 by_cases k1:k=1
 ·subst k1;refine lS kR ⟨_,ho,rfl⟩ kC (kf _ _) (X3 a nK.toArray n d1 l1 t) ⟨ho,?_⟩;exact⟨.ref a,H,I,rfl,q a H (Grow.refl _ _) (by simpa using ha)⟩
 by_cases k0:k=0
 ·subst k0;refine lS kR ⟨_,ho,rfl⟩ kC (kf _ _) (X4 a nK.toArray n d1 l1 t he) ⟨ho,?_⟩;refine⟨.ref s.heap.objs.size,_,I.laid (t':=s.toks) (o:=.tup []) (fun b ob q=>aD _ q) (aG _) ⟨cw _,[],.nil,IsTup.new _ _⟩,rfl,q _ _ (Grow.new (I.hok.fresh (aG _)) _) (by simpa using SqT.of zd)⟩
 have Fh:nB (fun x1 x2=>x1++x2) #[] (cD (k:Int).toNat nK.toArray)=(cD k nK).flatten.toArray:=by
  have:=jP nK k [];rw[fX] at this;exact this
 have hsz:(cD k nK).flatten.length<=sizeLine:=by rw[W6,←hl,nE];exact hz
 refine lS kR ⟨_,ho,rfl⟩ kC (kf _ _) (V0 a nK.toArray n d1 l1 k t (by omega) (by omega) he (beq_false_of_ne (by omega)) (by omega) ?_ ?_ (by rw[Fh,aO];exact hsz)) ⟨ho,?_⟩
 ·rw[aO,←hl];have:((xs.length:Nat):Int)*(k:Int)=((xs.length*k:Nat):Int):=by rw[Int.natCast_mul]
  rw[this];omega
 ·rw[aO,←hl];have:((xs.length:Nat):Int)*(k:Int)=((xs.length*k:Nat):Int):=by rw[Int.natCast_mul]
  rw[this];exact decide_eq_false (by omega)
 ·rw[Fh];refine⟨.ref s.heap.objs.size,_,I.laid (t':=s.toks) (o:=.tup (cD k xs).flatten) (fun b ob q=>aD _ q) (aG _) ⟨by rw[W6,nE];exact hz,_,r.rep k,IsTup.new _ _⟩,rfl,q _ _ (Grow.new (I.hok.fresh (aG _)) _) (SqT.of zd)⟩
end
section
variable{prog:Program}{w:World}{A:Around}{E:VS7}{s:Shared}
theorem jc{Q:List Value->Shared->Prop}{r:Addr}{a b c:Int}{t u v:Tok}{n:Nat}(hh:A.handled=none)(hr:IsRange s.heap r a b c t u v)(BA:Builtin.Range.small a b c=true)
  (hn:kw a b c=n) (nR:n<=2 ^ 24)
  (hQ:∀(h':Heap) tk oK,(∀b o,s.heap.get? b=some o->h'.get? b=some o)->ItemsOf (fun i v=>∃t,v=.int (a+i*c) t) oK n->Q oK.toList { s with heap:=h',toks:=tk }) :
  wpAny (model prog w) A (collect (.ref r)) Q E s:=by
 unfold collect;refine aA (kH (dC F.entry_proto_collect ?_));rw[Around.under_plainId F.plain_proto_collect _];show wpAny _ A.in1 (newList [] >>= fun l=>again (.builtin "list.__iadd__" ⟨[l,.ref r],[]⟩)) _ _ s;refine aA (bF ?_);refine aB ⟨mC F.plain_list_iadd _,dC F.entry_list_iadd ?_⟩;rw[Around.under_plainId F.plain_list_iadd _];show wpAny _ A.in1 (fj (.ref s.heap.objs.size) (.ref r) (.ref s.heap.objs.size)) _ _ _;have hS:(s.heap.push { cls:=.type "list",data:=.seq ([]:List Value).toArray }).get? s.heap.objs.size=some { cls:=.type "list",data:=.seq ([]:List Value).toArray }:=aM _ rfl;have Ak:IsRange (s.heap.push { cls:=.type "list",data:=.seq ([]:List Value).toArray }) r a b c t u v:=aD _ hr;have oE:∀(h':Heap) tk oK c',(∀b o,s.heap.get? b=some o->h'.get? b=some o)->h'.get? s.heap.objs.size=some { cls:=.type "list",dict:=none,data:=.seq oK c',slots:=#[] }->ItemsOf (fun i v=>∃t,v=.int (a+i*c) t) oK n→
   wpAny (model prog w) A (load s.heap.objs.size >>= fun o=>match o.data with|.seq xs _=>pure xs.toList|_=>unsupported "internal:collect") Q E { s with heap:=h',toks:=tk }:=fun h' tk oK c' hk Di pJ =>
  aA (nz Di (aB (hQ h' tk oK hk pJ)))
 refine eM (wpAny_extend_range (R:=fun r' s'=>∃(h':Heap) (tk:Nat) (oK:Array Value) (c':Nat),r'=.ok (.ret (.ref s.heap.objs.size))/\s'={ s with heap:=h',toks:=tk }/\(∀b o,s.heap.get? b=some o->h'.get? b=some o)/\h'.get? s.heap.objs.size=some { cls:=.type "list",dict:=none,data:=.seq oK c',slots:=#[] }/\ItemsOf (fun i v=>∃t,v=.int (a+i*c) t) oK n) (s:={ s with heap:=s.heap.push { cls:=.type "list",data:=.seq ([]:List Value).toArray } }) (A:=A) hh Ak BA hn nR s.heap.objs.size _ _ hS fun h' tk oK c' hk hS pJ =>
  ⟨h',tk,oK,c',rfl,rfl,fun b o e=>hk b o (aW (aP e)) (aD _ e),hS,pJ⟩) (fun fn s' h=>?_) (fun e s' h=>?_)
 ·cases fn with
  |done f =>
   obtain⟨h',tk,oK,c',e,rfl,hf,hl,Di⟩:=h;cases e;exact oE h' tk oK c' hf hl Di
  |again c =>
   refine⟨h.1,ix h.2 fun r CW hr=>?_⟩;obtain⟨h',tk,oK,c',e,rfl,hf,hl,Di⟩:=hr;subst e;exact oE h' tk oK c' hf hl Di
 ·obtain⟨h',tk,oK,c',e,_⟩:=h;cases e
theorem tD{Q:VS7}{r:Addr}{a b c:Int}{t u v:Tok}{n:Nat}(hh:A.handled=none)(hr:IsRange s.heap r a b c t u v)(BA:Builtin.Range.small a b c=true)
  (hn:kw a b c=n) (nR:n<=2 ^ 24) (hsz:n<=sizeLine)
  (hQ:∀(h':Heap) tk oK,(∀b o,s.heap.get? b=some o->h'.get? b=some o)->ItemsOf (fun i v=>∃t,v=.int (a+i*c) t) oK n->Q (.ref h'.objs.size) { s with heap:=h'.push { cls:=.type "tuple",data:=.seq oK },toks:=tk }) :
  wpAny (model prog w) A (call (.type "tuple") [.ref r]) Q E s:=by
 refine callType_codes (Q₁:=fun obj s₁=>s₁.TypeIs obj "tuple" /\Q obj s₁) F.called_tuple (F.typeCall_tuple_1 _) F.entry_object_init ?_ fun obj s₁ h₁=>?_
 ·refine mV ?_;show wpAny _ A.in1.in1 (do checkBuiltinCall "tuple.__new__" ⟨[.type "tuple",.ref r],[]⟩;again (.builtin "tuple.__new__" ⟨[.type "tuple",.ref r],[]⟩)) _ _ s;refine aA (iM (F.newCall_tuple_1 _) (aB ⟨mC F.plain_tuple_new _,dC F.entry_tuple_new ?_⟩));rw[Around.under_plainId F.plain_tuple_new _];have Bh:=sub_tuple_self;have hinit:=init_tuple_lookup;have hmh:=madeHere_tuple;have hTI:s.TypeIs (.ref r) "range":=⟨_,hr,rfl⟩
  wp_walk using iy hTI,jc (A:=A.in1.in1) hh hr BA hn nR
  intro h' tk acc hf pJ;show wpAny _ _ (cO acc.toList.toArray >>= fun v=>ret v) _ _ _;unfold cO;refine aA (bF ?_ (by show acc.toList.toArray.size<=sizeLine;simp only[Array.toArray_toList];rw[pJ.1];exact hsz));refine aB ⟨⟨_,aM _ rfl,rfl⟩,?_⟩;have e:acc.toList.toArray=acc:=by simp
  rw[e];exact hQ h' tk acc hf pJ
 ·exact⟨h₁.1,F.args_object_init_2 obj _,object_init_meets F.called_tuple.init.lookup F.called_tuple.made (by decide) prog w A.in1 _ s₁ ⟨h₁.1,rfl,h₁.2⟩⟩
end
theorem X5:∀(m:Nat) (l:List Value) (j:Nat),l.length=m->(∀i v,l[i]?=some v->∃t,v=fD ((j+i:Nat):Int) t)->zP ((iq j m).map fun i:Nat=>V.int i) l:=by
 intro m;induction m with
 |zero =>
  intro l j hl _;rw[fg.mp hl];exact .nil
 |succ m ih =>
  intro l j hl hv;match l,hl,hv with
  |x::l,hl,hv =>
   refine .cons ?_ (ih l (j+1) (by simpa using hl) fun i v h=>?_)
   ·obtain⟨t,e⟩:=hv 0 x rfl;exact⟨t,e⟩
   ·obtain⟨t,e⟩:=hv (i+1) v (by simpa using h);exact⟨t,by rw[e,show j+(i+1)=j+1+i by omega]⟩
section
variable{X:Cx}{a:Expr}{ta:TA}{p p2 pos pV:Pos}
def zbv(ta:TA):TE:=fun σ H Q=>ta σ H fun vs H1=>∃n:Nat,vs=[.int n]/\n<=1000/\∀l,H1 l=none->Q (.ref l) (upd H1 l (.tup ((aF n).map fun i:Nat=>V.int i)))
theorem Yb(hc:X.calm=true)(E6:Gl X "tuple")(HF:X.mg "tuple" = none)(HG:Gl X "range")(HH:X.mg "range" = none)(ha:PA X [a] ta)
  (hs:bY [a] X.env=[(false,eval a X.env)]:=by rfl) (o7:bY [(.Call (.Name "range" p2) [a] [] pV:Expr)] X.env=[(false,eval (.Call (.Name "range" p2) [a] [] pV) X.env)]:=by rfl) :
  PE X (.Call (.Name "tuple" p) [.Call (.Name "range" p2) [a] [] pV] [] pos) (zbv ta):=by
 intro nJ s σ H Q I h;refine dS (wo I E6 HF yZ (cM ?_ o7 rfl));rw[o7];show wpAny _ _ (spliced [(false,eval (.Call (.Name "range" p2) [a] [] pV) X.env)]) _ _ s;refine fE ?_;refine Call_ (wo I HG HH boot_range (cM (thn (ha pV nJ s σ H _ I h) fun us s1 ⟨vs,H1,I1,r1,q1⟩=>?_) hs rfl));obtain⟨n,e,hn,q⟩:=q1;subst e;obtain⟨u,rfl,e1⟩:=vq r1;obtain⟨t,rfl⟩:=e1;refine call_range_1 (gO ?_);have I2:Inv X nJ σ H1 { s1 with heap:=s1.heap.push { cls:=.type "range",data:=.fields #[.int 0 s1.toks,.int n t,.int 1 (s1.toks+1)] },toks:=s1.toks+1+1 }:=I1.kept fun b o e=>aD _ e;refine tD (n:=n) (I.ok.hd hc) (IsRange.new ..) (small_one (by omega) (by omega) (by omega) (by omega)) (by rw[rangeSize_one];split <;> omega) (by omega) (c7 (zI hn)) fun h' tk acc hk pJ=>?_;have HI:zP ((aF n).map fun i:Nat=>V.int i) acc.toList:=by
  have nR:acc.toList.length=n:=by rw[aQ];exact pJ.1
  rw[iN];refine X5 n acc.toList 0 nR fun i v h=>?_;obtain⟨t,e⟩:=pJ.2 i v (by rw[←h];exact(cC).symm);exact⟨t,by rw[e];congr 1;omega⟩
 have I3:Inv X nJ σ H1 { s1 with heap:=h',toks:=tk }:=I2.kept (t':=tk) hk;refine⟨.ref h'.objs.size,_,I3.laid (t':=tk) (o:=.tup ((aF n).map fun i:Nat=>V.int i)) (fun b o e=>aD _ e) (aG _) ⟨by rw[aE,aS];exact c7 (zI hn),acc.toList,HI,by simpa using IsTup.new _ _⟩,rfl,q _ (I3.hok.fresh (aG _))⟩
end
abbrev FW:=List (List Int×List Int)
theorem Sr{xs:List V}(h:1<=xs.length):jN xs none (some (-1))=xs.take (xs.length-1):=by
 unfold jN;rw[HT.sIx_none,kG,nD];have e:HT.sIx xs.length xs.length (some (-1))=xs.length-1:=by
  show(if(-1:Int)<0 then((-1:Int)+(xs.length:Int)).toNat else min (-1:Int).toNat xs.length)=xs.length-1;rw[if_pos (by decide)];omega
 rw[e]
section
variable{prog:Program}{w:World}{A:Around}{E:VS7}{s:Shared}{es:Array DictEntry}{d it r:Addr}{ep i:Nat}{ok ov:Value}
theorem Ss{Q:VS7}(lo:(d == sysModules)=false)(hm:xA es d ep s.heap)(q:Q (.ref s.heap.objs.size) { s with heap:=s.heap.push { cls:=.type "dict_items",data:=.fields #[.ref d] } }) :
  wpAny (model prog w) A (call (.builtin "dict.items") [.ref d]) Q E s:=by
 have hT:s.TypeIs (.ref d) "dict":=hm.typeIs;refine bW PySem.F.slot_dict_items hT PySem.F.entry_dict_items ?_ (PySem.F.args_dict_items_1 _);unfold Builtin.«dict.items»;refine aA ?_;unfold Builtin.Dict.noArgs;refine aA (kZ hT (show wpAny _ _ (pure d) _ _ s from aB ?_));show wpAny _ _ (fC d >>= _) _ _ s;unfold fC;rw[if_neg (by rw[lo];exact aZ)];exact aA (aB (aA (bF (aB ⟨_,rfl,q⟩))))
theorem Su{Q:VS7}(hv:s.heap.IsItemsView r d)(hm:xA es d ep s.heap)
  (hQ:Q (.ref s.heap.objs.size) { s with heap:=s.heap.push { cls:=.type "dict_itemiterator",data:=.fields #[.none,.bool false,.ref d,.int 0 0,.int es.size 0,.int ep 0,.none,.none] } }) :
  wpAny (model prog w) A (pyIter (.ref r)) Q E s:=by
 obtain⟨o1,h1,c1,d1⟩:=id hv;obtain⟨o,ho,hc,AN⟩:=id hm;refine kP hv.typeIs PySem.F.slot_dict_items_iter (bW PySem.F.slot_dict_items_iter hv.typeIs PySem.F.entry_dict_items_iter ?_ (PySem.F.args_dict_items_iter_1 _));unfold Builtin.«dict_items.__iter__»;refine aA (aB (aA ?_));unfold Builtin.Dict_items.dictOf;refine aA (bS h1 d1 (x:=.ref d) rfl (aB (aA ?_)));unfold Builtin.Dict_items.newIterator;refine aA (eQ ho AN (aA (fA ho AN ?_)));have own:c6 "dict_itemiterator" = true:=by decide
 simp only[own,if_true]
 refine bF (aB ⟨_,rfl,"dict_itemiterator",_,⟨_,aM _ rfl,rfl⟩,PySem.F.slot_dict_itemiterator_next.lookup,?_⟩)
  (by simp only[sizeOk,Builtin.Dict_items.ownedTupleFields,aO,bD,cJ,eX,gN];omega)
 simpa[rawInt,Builtin.Dict_items.ownedTupleFields] using hQ
theorem Sv{Q:Option Value->Shared->Prop}(oh:ku s.heap it d i es.size ep ok ov)(hm:xA es d ep s.heap)(n5:i<es.size)
  (hQ:∀h',IsItemIterOut h' it d (i+1) es.size ep es[i].key es[i].val s.heap.objs.size->h'.get? s.heap.objs.size=some { cls:=.type "tuple",data:=.seq #[es[i].key,es[i].val] }→
   (∀b o,b≠it->s.heap.get? b=some o->h'.get? b=some o)->Q (some (.ref s.heap.objs.size)) { s with heap:=h' }) :
  wpAny (model prog w) A (pyNext (.ref it)) Q E s:=by
 obtain⟨hp,g,dr,tk,os⟩:=s;obtain⟨od,Bj,AK,Bk⟩:=id hm;have hT:mD ⟨hp,g,dr,tk,os⟩ (.ref it) "dict_itemiterator":=⟨_,oh,rfl⟩
 unfold pyNext;refine aA (gY (cA (name:=dZ "__next__") hT eW
  (bW eW hT PySem.F.entry_dict_itemiterator_next ?_ (PySem.F.args_dict_itemiterator_next_1 _))))
 refine aA (aB (aA (aA ?_)));first|refine aA (fI hT (aB ?_))|refine aA (gH hT (aB ?_))
 refine aA (iP oh rfl ?_);have own:c6 "dict_itemiterator" = true:=by decide
 simp only[own,if_true]
 show wpAny _ _ (if(aN d == aU)=true then _ else _) _ _ _;rw[if_neg (show ¬((aN d == aU)=true) from aZ)];refine aA (aB (aA (eQ Bj Bk ?_)));rw[if_neg (by simp)];refine aA (aB (aA (fA Bj Bk ?_)));rw[if_neg (by simp)];refine aB ?_;simp only[show ¬((i:Int)<0) from by omega,if_false,bL,cF n5]
 refine aA ?_;first|refine aA (fI hT (aB ?_))|refine aA (gH hT (aB ?_))
 refine aA (kS hT ?_);show wpAny _ _ (setField (.ref it) 3 (rawInt ((i:Int)+1)) >>= _) _ _ ⟨hp,g,dr,tk,os⟩;refine aA (iB oh (by simp) fun h1 Fi DE=>?_)
 replace DE:cP it hp h1:=DE
 replace Fi:ku h1 it d (i+1) es.size ep ok ov:=by
  have e:((i+1:Nat):Int)=(i:Int)+1:=by omega
  unfold ku;rw[e];simpa[rawInt] using Fi
 have HQ:mD ⟨h1,g,dr,tk,os⟩ (.ref it) "dict_itemiterator":=⟨_,Fi,rfl⟩
 refine aA (bU (aA (kS HQ (aA (kS HQ ?_)))));show wpAny _ _ (Builtin.Dict_items.pairFromOwner (.ref it) 6 es[i].key es[i].val) _ _ ⟨h1,g,dr,tk,os⟩;unfold Builtin.Dict_items.pairFromOwner;refine aA (wpAny_newTuple ?_);have Cs:ku (h1.push { cls:=.type "tuple",data:=.seq #[es[i].key,es[i].val] }) it d (i+1) es.size ep ok ov:=aD _ Fi;generalize hh2:h1.push { cls:=.type "tuple",data:=.seq #[es[i].key,es[i].val] }=h2 at Cs;have Cp:h1.objs.size=hp.objs.size:=DE.1;have hil:it<hp.objs.size:=aP oh;have HR:h2.get? hp.objs.size=some { cls:=.type "tuple",data:=.seq #[es[i].key,es[i].val] }:=by rw[←hh2,←Cp];exact aM _ rfl
 have Ba:∀b o,b≠it->hp.get? b=some o->h2.get? b=some o:=fun b o hb e=>by rw[←hh2];exact aD _ (DE.extBut b o hb e)
 show wpAny _ _ (Builtin.Dict_items.ownedTupleIsFree (.ref it) >>= _) _ _ ⟨h2,g,dr,tk,os⟩;rw[Cp];clear hh2 Fi DE HQ Cp h1;refine aA ?_;unfold Builtin.Dict_items.ownedTupleIsFree;refine aA (bS Cs rfl (x:=.none) rfl (aB ?_));simp only[if_true]
 refine aA (bS Cs rfl (x:=ok) rfl (aA (bS Cs rfl (x:=ov) rfl ?_)));refine aA (iB Cs (by simp) fun h3 Fj EF=>?_)
 replace EF:cP it h2 h3:=EF
 replace Fj:ku h3 it d (i+1) es.size ep es[i].key ov:=Fj
 refine aA (iB Fj (by simp) fun h4 HS HU=>?_)
 replace HU:cP it h3 h4:=HU
 replace HS:ku h4 it d (i+1) es.size ep es[i].key es[i].val:=HS
 refine aA (iB HS (by simp) fun h5 HV HW=>?_)
 replace HW:cP it h4 h5:=HW
 replace HV:IsItemIterOut h5 it d (i+1) es.size ep es[i].key es[i].val hp.objs.size:=HV
 refine aA (iB HV (by simp) fun h6 HX HY=>?_)
 replace HY:cP it h5 h6:=HY
 replace HX:IsItemIterOut h6 it d (i+1) es.size ep es[i].key es[i].val hp.objs.size:=HX
 have keep:∀b o,b≠it->h2.get? b=some o->h6.get? b=some o:=fun b o hb e=>HY.extBut b o hb (HW.extBut b o hb (HU.extBut b o hb (EF.extBut b o hb e)));exact aA (ng (aB (aB ⟨_,rfl,aB (hQ h6 HX (keep _ _ (dB hil) HR) fun b o hb e=>keep b o hb (Ba b o hb e))⟩)))
theorem QE{Q:Option Value->Shared->Prop}(hh:A.handled=none)(oh:ku s.heap it d es.size es.size ep ok ov)(hm:xA es d ep s.heap)
  (hQ:∀h',fN it s.heap h'->Q none { s with heap:=h' }):wpAny (model prog w) A (pyNext (.ref it)) Q E s:=by
 obtain⟨od,Bj,AK,Bk⟩:=id hm;have hT:s.TypeIs (.ref it) "dict_itemiterator":=⟨_,oh,rfl⟩
 unfold pyNext;refine aA (gY (cA (name:=dZ "__next__") hT eW
  (bW eW hT PySem.F.entry_dict_itemiterator_next ?_ (PySem.F.args_dict_itemiterator_next_1 _))))
 refine aA (aB (aA (aA ?_)));first|refine aA (fI hT (aB ?_))|refine aA (gH hT (aB ?_))
 refine aA (iP oh rfl ?_);have own:c6 "dict_itemiterator" = true:=by decide
 simp only[own,if_true]
 show wpAny _ _ (if(aN d == aU)=true then _ else _) _ _ s;rw[if_neg (show ¬((aN d == aU)=true) from aZ)];refine aA (aB (aA (eQ Bj Bk ?_)));rw[if_neg (by simp)];refine aA (aB (aA (fA Bj Bk ?_)));rw[if_neg (by simp)];refine aB ?_;simp only[show ¬((es.size:Int)<0) from by omega,if_false,bL,kQ (aG es.size)]
 refine aA ?_;first|refine aA (fI hT (aB ?_))|refine aA (gH hT (aB ?_))
 show wpAny _ _ (setField (.ref it) 2 .none >>= _) _ _ s;refine aA (cE oh rfl (by simp) ?_);show wpAny _ _ (lU (.type "StopIteration") [] >>= _) _ _ _;refine aA ?_;simp only[lU,lV]
 refine aA (bF ?_ (by size_fits));refine aA (m:=dU _ _) (iM (a:=aU) (by first|rfl|(simp only[dU];rfl)) ?_);refine bF ?_ (by size_fits);simp only[m8]
 refine aA (i8 ?_);rw[show A.in1.handled=none from hh];refine aA (aB (ly ?_));refine aA (fG (T:="StopIteration") (b:=true) ⟨_,aM _ rfl,rfl⟩ l5 ?_);exact aB (hQ _ (((cR ..).extBut.push _).push _))
end
theorem X6:entryFor table "dict_itemiterator.__iter__" = some Builtin.«dict_keyiterator.__iter__»:=entryFor_alias (id':="dict_keyiterator.__iter__") (by kernel_rfl) rfl (by decide +kernel) (by kernel_rfl)
theorem Zi{α β:Type}{R:α->β->Prop}:∀{as:List α} {bs:List β} {i:Nat} {b:β},Paired R as bs->bs[i]?=some b->∃a,as[i]?=some a/\R a b
 |_,_,0,_,.cons r _,e=>⟨_,rfl,by cases bQ e;exact r⟩
 |_,_,i+1,_,.cons _ t,e=>Zi (i:=i) t e
section
variable{prog:Program}{w:World}{A:Around}{E:VS7}{s:Shared}{es:Array DictEntry}{d it r:Addr}{ep i:Nat}
theorem Sw{Q:VS7}(lo:(d == sysModules)=false)(hm:xA es d ep s.heap)(q:Q (.ref s.heap.objs.size) { s with heap:=s.heap.push { cls:=.type "dict_values",data:=.fields #[.ref d] } }) :
  wpAny (model prog w) A (call (.builtin "dict.values") [.ref d]) Q E s:=by
 have hT:s.TypeIs (.ref d) "dict":=hm.typeIs;refine bW PySem.F.slot_dict_values hT PySem.F.entry_dict_values ?_ (PySem.F.args_dict_values_1 _);unfold Builtin.«dict.values»;refine aA ?_;unfold Builtin.Dict.noArgs;refine aA (kZ hT (show wpAny _ _ (pure d) _ _ s from aB ?_));show wpAny _ _ (fC d >>= _) _ _ s;unfold fC;rw[if_neg (by rw[lo];exact aZ)];exact aA (aB (aA (bF (aB ⟨_,rfl,q⟩))))
theorem Sx{Q:VS7}(hv:s.heap.IsValuesView r d)(hm:xA es d ep s.heap)
  (hQ:Q (.ref s.heap.objs.size) { s with heap:=s.heap.push { cls:=.type "dict_valueiterator",data:=.fields #[.ref d,.int 0 0,.int es.size 0,.int ep 0] } }) :
  wpAny (model prog w) A (pyIter (.ref r)) Q E s:=by
 obtain⟨ov,hov,hcv,hdv⟩:=id hv;obtain⟨o,ho,hc,AN⟩:=id hm;refine kP hv.typeIs PySem.F.slot_dict_values_iter (bW PySem.F.slot_dict_values_iter hv.typeIs PySem.F.entry_dict_values_iter ?_ (PySem.F.args_dict_values_iter_1 _));unfold Builtin.«dict_values.__iter__»;refine aA (aB (aA ?_));unfold Builtin.Dict_items.dictOf;refine aA (bS hov hdv (x:=.ref d) rfl (aB (aA ?_)));unfold Builtin.Dict_items.newIterator;refine aA (eQ ho AN (aA (fA ho AN ?_)));have own:c6 "dict_valueiterator" = false:=by decide
 simp only[own,aY,if_false]
 refine bF (aB ⟨_,rfl,"dict_valueiterator",_,⟨_,aM _ rfl,rfl⟩,PySem.F.slot_dict_valueiterator_next.lookup,?_⟩);simpa[rawInt] using hQ
theorem Sy{Q:Option Value->Shared->Prop}(oh:s.heap.IsValIter it d i es.size ep)(hm:xA es d ep s.heap)(n5:i<es.size)
  (hQ:∀h',h'.IsValIter it d (i+1) es.size ep->cP it s.heap h'->Q (some es[i].val) { s with heap:=h' }) :
  wpAny (model prog w) A (pyNext (.ref it)) Q E s:=by
 obtain⟨o,ho,hc,hd⟩:=id oh;obtain⟨od,Bj,AK,Bk⟩:=id hm;unfold pyNext;refine aA (gY (cA (name:=dZ "__next__") oh.typeIs eP
  (bW eP oh.typeIs PySem.F.entry_dict_valueiterator_next ?_ (PySem.F.args_dict_valueiterator_next_1 _))))
 refine aA (aB ?_);refine aA ?_;refine aA ?_;first|refine aA (fR oh.typeIs (aB ?_))|refine aA (hG oh.typeIs (aB ?_))
 refine aA (iP ho hd ?_);have pW:c6 "dict_valueiterator" = false:=by decide
 simp only[pW,aY,if_false]
 show wpAny _ _ (if(aN d == aU)=true then _ else _) _ _ s;rw[if_neg (show ¬((aN d == aU)=true) from aZ)];refine aA (aB ?_);refine aA (eQ Bj Bk ?_);rw[if_neg (by simp)];refine aA (aB ?_);refine aA (fA Bj Bk ?_);rw[if_neg (by simp)];refine aB ?_;simp only[show ¬((i:Int)<0) from by omega,if_false,bL,cF n5]
 refine aA ?_;first|refine aA (fR oh.typeIs (aB ?_))|refine aA (hG oh.typeIs (aB ?_))
 refine aA (k6 oh.typeIs ?_);show wpAny _ _ (setField (.ref it) 1 (rawInt ((i:Int)+1)) >>= _) _ _ s;refine aA (cE ho hd (by simp) ?_);have Aj:(s.heap.update it (bV (·.setIfInBounds 1 (rawInt ((i:Int)+1))))).IsValIter it d (i+1) es.size ep :=
  ⟨_,cx _ ho (cN (cQ hd _)),(gP ..).trans hc,by rw[cQ hd];simp[rawInt]⟩
 refine aA (bU ?_);refine aA (k6 (s:={ s with heap:=s.heap.update it (bV (·.setIfInBounds 1 (rawInt ((i:Int)+1)))) }) Aj.typeIs ?_);refine aA (k6 (s:={ s with heap:=s.heap.update it (bV (·.setIfInBounds 1 (rawInt ((i:Int)+1)))) }) Aj.typeIs ?_);show wpAny _ _ (pure es[i].val) _ _ _;exact aB (aB ⟨_,rfl,aB (hQ _ Aj (cR ..))⟩)
theorem QF{Q:Option Value->Shared->Prop}(hh:A.handled=none)(oh:s.heap.IsValIter it d es.size es.size ep)(hm:xA es d ep s.heap)
  (hQ:∀h',fN it s.heap h'->Q none { s with heap:=h' }):wpAny (model prog w) A (pyNext (.ref it)) Q E s:=by
 obtain⟨o,ho,hc,hd⟩:=id oh;obtain⟨od,Bj,AK,Bk⟩:=id hm;unfold pyNext;refine aA (gY (cA (name:=dZ "__next__") oh.typeIs eP
  (bW eP oh.typeIs PySem.F.entry_dict_valueiterator_next ?_ (PySem.F.args_dict_valueiterator_next_1 _))))
 refine aA (aB ?_);refine aA ?_;refine aA ?_;first|refine aA (fR oh.typeIs (aB ?_))|refine aA (hG oh.typeIs (aB ?_))
 refine aA (iP ho hd ?_);have pW:c6 "dict_valueiterator" = false:=by decide
 simp only[pW,aY,if_false]
 show wpAny _ _ (if(aN d == aU)=true then _ else _) _ _ s;rw[if_neg (show ¬((aN d == aU)=true) from aZ)];refine aA (aB ?_);refine aA (eQ Bj Bk ?_);rw[if_neg (by simp)];refine aA (aB ?_);refine aA (fA Bj Bk ?_);rw[if_neg (by simp)];refine aB ?_;simp only[show ¬((es.size:Int)<0) from by omega,if_false,bL,kQ (aG es.size)]
 refine aA ?_;first|refine aA (fR oh.typeIs (aB ?_))|refine aA (hG oh.typeIs (aB ?_))
 show wpAny _ _ (setField (.ref it) 0 .none >>= _) _ _ s;refine aA (cE ho hd (by simp) ?_);show wpAny _ _ (lU (.type "StopIteration") [] >>= _) _ _ _;refine aA ?_;simp only[lU,lV]
 refine aA (bF ?_ (by size_fits));refine aA (m:=dU _ _) (iM (a:=aU) (by first|rfl|(simp only[dU];rfl)) ?_);refine bF ?_ (by size_fits);simp only[m8]
 refine aA (i8 ?_);rw[show A.in1.handled=none from hh];refine aA (aB (ly ?_));refine aA (fG (T:="StopIteration") (b:=true) ⟨_,aM _ rfl,rfl⟩ l5 ?_);exact aB (hQ _ (((cR ..).extBut.push _).push _))
theorem V2(hh:A.handled=none)(I d:Addr)(pd:d≠I)(es:Array DictEntry)(ep:Nat) :
  Walks prog w A I [I,d] [I] es.size (fun i v=>∃h:i<es.size,v=es[i].val) (fun i h=>h.IsValIter I d i es.size ep/\xA es d ep h) where
 sub:=fun b hb=>by simp at hb;simp[hb]
 frame:=fun _ _ _ st hk=>⟨st.1.at fun o e=>hk I (by simp) o e,st.2.keep fun o e=>hk d (by simp) o e⟩
 item:=fun i s Q E hi st hQ=>by
  refine Sy st.1 st.2 hi fun h' Aj Dd=>?_;exact hQ _ h' s.toks ⟨hi,rfl⟩ ⟨Aj,st.2.keep fun o e=>Dd.extBut d o pd e⟩ fun b o hb e=>Dd.extBut b o (fun h=>hb (by simp[h])) e
 done:=fun s Q E st hQ=>QF hh st.1 st.2 fun h' he'=>hQ h' s.toks fun b o hb e=>he' b o (fun h=>hb (by simp[h])) e
 self:=fun _ _ _ _ st hQ=>wpAny_pyIter_valiter st.1 hQ
theorem QG:KdlSrc prog w "dict_values" r d es.size (fun i v=>∃h:i<es.size,v=es[i].val) (fun h=>h.IsValuesView r d/\xA es d ep h) where
 type:=fun _ hm=>hm.1.typeIs
 there:=fun _ hm=>⟨let ⟨_,ho,_⟩:=hm.1;aP ho,let ⟨_,ho,_⟩:=hm.2;aP ho⟩
 keep:=fun _ _ hm hk=>⟨let ⟨o,ho,x⟩:=hm.1;⟨o,hk r (.inl rfl) o ho,x⟩,hm.2.keep fun o e=>hk d (.inr rfl) o e⟩
 notList:=by decide
 notTuple:=by decide
 hint:=fun _ _ _ _ hm hq=>kdl_hint_values hm.1.typeIs hq
 iter:=fun _ _ hh hm=>⟨_,_,(fun _ _ hq=>Sx hm.1 hm.2 hq),V2 hh _ d (let ⟨_,ho,_⟩:=hm.2;aW (aP ho)) es ep,⟨⟨_,aM _ rfl,rfl,rfl⟩,hm.2.keep fun o e=>aD _ e⟩⟩
end
structure Pt(κ:Type)[DecidableEq κ] where
 it:(P:Program)->(w:World)->ItK P w κ
 at_:FG7->Hp->κ->V->Prop
 rel:∀{X:Cx} {nJ:List (Addr×Obj)} {σ:L2.St} {H:Hp} {s:Shared} {k:κ} {v:V} {u:Value},Inv X nJ σ H s->at_ X.K H k v->zQ v u->(it X.prog X.w).is s.heap k u
 grow:∀{m:List Addr} {H H':Hp} {K:FG7} {k:κ} {v:V},Grow m H H'->at_ K H k v->at_ K H' k v
theorem V3{P:Program}{w:World}{i:Int}{t:Tok}:(ir P w).is i (.int i t)=true:=by simp[ir,mf]
theorem sH{P:Program}{w:World}:∀{ks:List Int} {us:List Value},zP (ks.map V.int) us->ItemsAre (ir P w) ks us
 |[],_,r=>by rw[lL] at r;cases r;exact .nil
 |k::ks,_,r=>by
  rw[cz] at r;cases r with
  |cons h t=>obtain⟨tk,e⟩:=(show ∃t,_=fD k t from h);subst e;exact .cons V3 (sH t)
noncomputable def ptI:Pt Int where
 it:=sw
 at_:=fun _ _ k v=>v=.int k
 rel:=fun _ e r=>by
  subst e;obtain⟨t,e⟩:=(show ∃t,_=fD _ t from r)
  subst e;exact V3
 grow:=fun _ e=>e
noncomputable def ptT:Pt (List Int) where
 it:=zbq
 at_:=fun K H k v=>∃r,v=.ref r/\SqT K H r (k.map V.int)
 rel:=fun{X nJ σ H s k v u} I z rv=>by
  obtain⟨r,e,h⟩:=z;subst e;obtain rfl:u=aN r:=rv;obtain⟨nK,rs,p,_⟩:=I.tuple h;obtain⟨o,h1,h2,n,h3⟩:=p;exact⟨r,rfl,o,nK.toArray,n,h1,h2,h3,by simpa using sH rs⟩
 grow:=fun g ⟨r,e,h⟩=>⟨r,e,g.sqT h⟩
section
variable{κ1 κ2:Type}[DecidableEq κ1][DecidableEq κ2]
def KAt(p1:Pt κ1)(p2:Pt κ2)(K:FG7)(H:Hp)(k:κ1×κ2)(b:Addr):Prop:=∃v1 v2,SqT K H b [v1,v2]/\p1.at_ K H k.1 v1/\p2.at_ K H k.2 v2
abbrev PR:List ((κ1×κ2)×Addr×V)->List ((κ1×κ2)×Addr×Value)->Prop:=Paired fun p q=>p.1=q.1/\p.2.1=q.2.1/\zQ p.2.2 q.2.2
def Sz(p1:Pt κ1)(p2:Pt κ2)(P:Program)(w:World)(h:Heap)(a:Addr)(kvs:List ((κ1×κ2)×Addr×V)):Prop :=
 (a == sysModules)=false/\∃xs:List ((κ1×κ2)×Addr×Value),PR kvs xs/\∃o es ep,h.get? a=some o/\o.ExactDict/\o.data=.dict es ep/\es.toList=xs.map (entryOfKey (sy (p1.it P w) (p2.it P w)))/\(xs.map (·.1)).Nodup
noncomputable def ndO(p1:Pt κ1)(p2:Pt κ2)(P:Program)(w:World)(a:Addr)(kvs:List ((κ1×κ2)×Addr×V)):HO:=.ext fun h=>Sz p1 p2 P w h a kvs
def NDc(p1:Pt κ1)(p2:Pt κ2)(K:FG7)(H:Hp)(kvs:List ((κ1×κ2)×Addr×V)):Prop:=∀x∈kvs,KAt p1 p2 K H x.1 x.2.1
noncomputable def prV(x:(κ1×κ2)×Addr×V):(κ1×κ2)×V:=(x.1,x.2.2)
noncomputable def ub(kvs:List ((κ1×κ2)×Addr×V))(k:κ1×κ2)(b:Addr)(v:V):List ((κ1×κ2)×Addr×V) :=
 if(kvs.any fun x=>decide (x.1=k))=true then kvs.map (fun x=>if x.1=k then(x.1,x.2.1,v) else x) else kvs++[(k,b,v)]
variable{p1:Pt κ1}{p2:Pt κ2}{P:Program}{w:World}{K:FG7}{H H':Hp}{h h':Heap}{a b:Addr}{kvs:List ((κ1×κ2)×Addr×V)}{k:κ1×κ2}{v:V}
theorem KAt.grow{m:List Addr}(g:Grow m H H')(x:KAt p1 p2 K H k b):KAt p1 p2 K H' k b:=by
 obtain⟨v1,v2,h1,h2,h3⟩:=x;exact⟨v1,v2,g.sqT h1,p1.grow g h2,p2.grow g h3⟩
theorem NDc.grow{m:List Addr}(g:Grow m H H')(x:NDc p1 p2 K H kvs):NDc p1 p2 K H' kvs:=fun y hy=>(x y hy).grow g
theorem NDc.store(x:NDc p1 p2 K H kvs)(hk:KAt p1 p2 K H k b):NDc p1 p2 K H (ub kvs k b v):=by
 intro y hy;unfold ub at hy;split at hy
 ·obtain⟨z,hz,rfl⟩:=bI.mp hy;by_cases c:z.1=k
  ·rw[if_pos c];exact x z hz
  ·rw[if_neg c];exact x z hz
 ·rcases bH.mp hy with z|z
  ·exact x y z
  ·rw[aR.mp z];exact hk
theorem Sz.ok(z:Sz p1 p2 P w h a kvs){P':Program}{w':World}:zT P' w' H h a (ndO p1 p2 P w a kvs):=by
 obtain⟨lo,xs,r,o,es,ep,g,hx,hd,he,nd⟩:=z;refine⟨⟨lo,xs,r,o,es,ep,g,hx,hd,he,nd⟩,⟨o,g⟩,?_⟩;rintro h1 h2 ⟨lo',xs',r',o',BQ,Ex,g',t⟩ kp;exact⟨lo',xs',r',o',BQ,Ex,kp o' g',t⟩
theorem Sz.new(h:Heap)(hb:sysModules<h.objs.size):Sz p1 p2 P w (h.push { cls:=.type "dict",data:=.dict #[] }) h.objs.size ([]:List ((κ1×κ2)×Addr×V)) :=
 ⟨beq_eq_false_iff_ne.mpr (Ne.symm (aW hb)),[],.nil,_,#[],0,aM _ rfl,⟨rfl,rfl,rfl⟩,rfl,rfl,lY⟩
theorem PR.val{xs:List ((κ1×κ2)×Addr×Value)}(r:PR kvs xs)(k:κ1×κ2):Tm (u5 (kvs.map prV) k) ((mo xs k).map (·.2)):=by
 induction r with
 |nil=>exact True.intro
 |@cons p q ps qs h t ih =>
  obtain⟨h1,_,h2⟩:=h;rw[cz];by_cases e:p.1=k
  ·have e':q.1=k:=h1.symm.trans e;have b:mo (q::qs) k=some q.2:=by simp[mo,fY,e']
   rw[yI (p:=prV p) e,b];exact h2
  ·have e':¬q.1=k:=fun z=>e (h1.trans z);have b:mo (q::qs) k=mo qs k:=by simp[mo,fY,e']
   rw[yx (p:=prV p) e,b];exact ih
theorem PR.any{xs:List ((κ1×κ2)×Addr×Value)}(r:PR kvs xs)(k:κ1×κ2):(kvs.any fun x=>decide (x.1=k))=(mo xs k).isSome:=by
 have h:=(r.val k).isSome_eq;rw[Option.isSome_map] at h;rw[←h,←wY,List.any_map];rfl
theorem PR.repl{xs:List ((κ1×κ2)×Addr×Value)}(r:PR kvs xs)(k:κ1×κ2){u:Value}(ru:zQ v u):PR (kvs.map fun x=>if x.1=k then(x.1,x.2.1,v) else x) (xs.map (putAt k u)):=by
 induction r with
 |nil=>exact .nil
 |@cons p q ps qs h t ih =>
  rw[cz,cz];refine .cons ?_ ih;obtain⟨h1,h2,h3⟩:=h;unfold putAt;by_cases c:p.1=k
  ·rw[if_pos c,if_pos (h1.symm.trans c)];exact⟨h1,h2,ru⟩
  ·rw[if_neg c,if_neg (fun z=>c (h1.trans z))];exact⟨h1,h2,h3⟩
theorem PR.put{xs:List ((κ1×κ2)×Addr×Value)}(r:PR kvs xs)(k:κ1×κ2){u:Value}(ru:zQ v u):PR (ub kvs k b v) (storedH xs k b u):=by
 have e:=r.any k;unfold ub storedH;rw[e];split
 ·exact r.repl k ru
 ·exact Paired.snoc r ⟨rfl,rfl,ru⟩
end
section
variable{κ1 κ2:Type}[DecidableEq κ1][DecidableEq κ2]{p1:Pt κ1}{p2:Pt κ2}{kvs:List ((κ1×κ2)×Addr×V)}{k:κ1×κ2}{v:V}
variable{X:Cx}{nJ:List (Addr×Obj)}{σ:L2.St}{H:Hp}{s:Shared}{a b:Addr}{A:Around}{E:VS7}
theorem KAt.is(I:Inv X nJ σ H s)(x:KAt p1 p2 X.K H k b):(sy (p1.it X.prog X.w) (p2.it X.prog X.w)).is s.heap k b:=by
 obtain⟨v1,v2,h,h1,h2⟩:=x;obtain⟨nK,rs,p,_⟩:=I.tuple h;obtain⟨o,g1,g2,n,g3⟩:=p;cases rs with
 |cons r1 t =>
  cases t with
  |cons r2 t =>
   cases t;exact⟨o,_,_,n,g1,g2,g3,p1.rel I h1 r1,p2.rel I h2 r2⟩
theorem JY(I:Inv X nJ σ H s)(e:Rd H a (ndO p1 p2 X.prog X.w a kvs))(c:NDc p1 p2 X.K H kvs):(a == sysModules)=false/\∃xs,PR kvs xs/\s.heap.DictOfH (sy (p1.it X.prog X.w) (p2.it X.prog X.w)) a xs:=by
 obtain⟨⟨lo,xs,r,o,es,ep,g,hx,hd,he,nd⟩,_⟩:=(show zT X.prog X.w H s.heap a (ndO p1 p2 X.prog X.w a kvs) from e.ok I.hok)
 refine⟨lo,xs,r,o,es,ep,g,hx,hd,he,fun x hx=>?_,nd⟩;have all:∀{l:List ((κ1×κ2)×Addr×V)} {m:List ((κ1×κ2)×Addr×Value)},PR l m->NDc p1 p2 X.K H l->∀x∈m,(sy (p1.it X.prog X.w) (p2.it X.prog X.w)).is s.heap x.1 x.2.1:=by
  intro l m q;induction q with
  |nil=>intro _ x hx;exact nomatch hx
  |@cons p q ps qs hq t ih =>
   intro c x hx;rcases aK.mp hx with e|hx
   ·subst e;rw[←hq.1,←hq.2.1];exact(c p (bM ..)).is I
   ·exact ih (fun y hy=>c y (aX _ hy)) x hx
 exact all r c x hx
theorem JZ{A:Around}{P:Program}{w:World}{k1:ItK P w κ1}{k2:ItK P w κ2}(hu:A.units+2<ig):(sy k1 k2).room A.in1:=hu
theorem V4{Q:Unit->Shared->Prop}{u:Value}(hu:A.units+2<ig)(I:Inv X nJ σ H s)(e:H a=some (ndO p1 p2 X.prog X.w a kvs))(c:NDc p1 p2 X.K H kvs)(hk:KAt p1 p2 X.K H k b)(hl:kvs.length<sizeLine)(ru:zQ v u)
  (h:∀s',Inv X nJ σ (upd H a (ndO p1 p2 X.prog X.w a (ub kvs k b v))) s'->Q () s') :
  wpAny (model X.prog X.w) A (setItem (.ref a) (.ref b) u) Q E s:=by
 obtain⟨lo,xs,rel,dd⟩:=JY I (.inl e) c;have hz:xs.length<=sizeLine:=by rw[←Paired.length rel];exact c7 hl
 refine wpAny_setItem_heap (hsz:=hz) (JZ hu) (hk.is I) dd fun h' DD hs=>h _ ?_;obtain⟨q,es,ep,hq,h2,h3,h4,_,h5⟩:=DD;refine sG I (by rw[e];exact True.intro) hs ⟨q,hq⟩ (Sz.ok ⟨lo,_,rel.put k ru,q,es,ep,hq,h2,h3,h4,h5⟩)
end
section
variable{κ1 κ2:Type}[DecidableEq κ1][DecidableEq κ2]
def J0(p1:Pt κ1)(p2:Pt κ2)(P:Program)(w:World):TE:=fun _ H Q=>∀a,H a=none->Q (.ref a) (upd H a (ndO p1 p2 P w a []))
def J1(p1:Pt κ1)(p2:Pt κ2)(P:Program)(w:World)(K:FG7)(td ty tv:TE):TS:=fun D σ H=>tv σ H fun v H1=>td σ H1 fun x H2=>ty σ H2 fun y H3 =>
 ∃a kvs k b,x=.ref a/\y=.ref b/\H3 a=some (ndO p1 p2 P w a kvs)/\NDc p1 p2 K H3 kvs/\KAt p1 p2 K H3 k b/\kvs.length<sizeLine/\D.nx σ (upd H3 a (ndO p1 p2 P w a (ub kvs k b v)))
def QH(p1:Pt κ1)(p2:Pt κ2)(P:Program)(w:World)(K:FG7)(tk tv:TE):TE:=fun σ H Q=>∀p,H p=none->tk σ (upd H p (ndO p1 p2 P w p [])) fun y H1=>tv σ H1 fun v H2=>H2 p=some (ndO p1 p2 P w p [])/\∃b k,y=.ref b/\KAt p1 p2 K H2 k b/\Q (.ref p) (upd H2 p (ndO p1 p2 P w p [(k,b,v)]))
variable{p1:Pt κ1}{p2:Pt κ2}{X:Cx}{P:Program}{w:World}{K:FG7}{o i e value:Expr}{pos pc:Pos}{td ty tv tk:TE}{k v:Expr}
theorem SA(p1:Pt κ1)(p2:Pt κ2)(hP:X.prog=P)(hw:X.w=w):PE X (.Dict [] [] pos) (J0 p1 p2 P w):=by
 subst hP hw;exact fun nJ s σ H Q I h =>
  mJ ⟨.ref s.heap.objs.size,_,I.laid (a:=s.heap.objs.size) (o:=ndO p1 p2 X.prog X.w s.heap.objs.size []) (t':=s.toks) (fun _ _ q=>aD _ q) (aG _) (Sz.new s.heap I.big).ok,rfl,h _ (I.hok.fresh (aG _))⟩
theorem SB(hP:X.prog=P)(hw:X.w=w)(hK:X.K=K)(hu:X.A.units+2<ig)(ho:PE X o td)(hi:PE X i ty)(hv:PE X value tv)(hs:mG value (some (.Subscript o i pc)) pos.line X.env=pure false) :
  PS X (.Assign [.Subscript o i pc] value pos) (J1 p1 p2 P w K td ty tv):=by
 subst hP hw hK;intro nJ s σ H D I h;refine wpAny_Assign_Subscript (thn (hv nJ s σ H _ I h) fun r s1 ⟨v,H1,I1,rv,q1⟩=>thn (ho nJ s1 σ H1 _ I1 q1) fun u s2 ⟨x,H2,I2,rx,q2⟩=>thn (hi nJ s2 σ H2 _ I2 q2) fun iv s3 ⟨y,H3,I3,ry,a,kvs,k,b,ex,ey,hr,hc,hk,hl,q3⟩=>?_) hs;subst ex ey;obtain rfl:u=aN a:=rx;obtain rfl:iv=aN b:=ry;exact V4 hu I3 hr hc hk hl rv fun s4 I4=>⟨σ,_,I4,q3⟩
theorem V5(hP:X.prog=P)(hw:X.w=w)(hK:X.K=K)(hu:X.A.units+2<ig)(hk:PE X k tk)(hv:PE X v tv):PE X (.Dict [some k] [v] pos) (QH p1 p2 P w K tk tv):=by
 subst hP hw hK;intro nJ s σ H Q I q;have hn:=I.hok.fresh (aG s.heap.objs.size);have I1:=I.laid (a:=s.heap.objs.size) (o:=ndO p1 p2 X.prog X.w s.heap.objs.size []) (h':=s.heap.push { cls:=.type "dict",data:=.dict #[] }) (t':=s.toks) (fun _ _ q=>aD _ q) (aG _) (Sz.new s.heap I.big).ok;rw[arm_eval_Dict,zip_pairTrees [some k] [v] X.env pos rfl rfl,dictDisplay_pairs (pairTrees [some k] [v] X.env pos) (by intro z;cases z) (show 1<17 by decide)];refine aA (iY (aA ?_));unfold subDict;refine aA (wpAny_alloc ?_);refine aA (bU ?_);rw[if_pos (show(pairTrees [some k] [v] X.env pos).length<=15 from(show 1<=15 by decide))];refine aA (pairTrees_cons_walk (thn (hk nJ _ σ _ _ I1 (q _ hn)) fun kv s1 ⟨y,H1,I2,ry,q1⟩=>thn (hv nJ s1 σ H1 _ I2 q1) fun vv s2 ⟨vV,H2,I3,rv,e,b,ks,ey,eb,q2⟩=>pairTrees_nil_walk ?_));subst ey;cases(show kv=aN b from ry);obtain⟨lo,xs,rel,dd⟩:=JY I3 (.inl e) nofun;cases rel;refine bU ?_;rw[fV];refine aA (aA (aA (wpAny_dictSet_heap (hsz:=cw _) (show(sy (p1.it X.prog X.w) (p2.it X.prog X.w)).room X.A from Nat.lt_of_succ_lt hu) (eb.is I3) dd fun h' DD hs=>aB ?_)));show wpAny _ _ (forIn [] _ _) _ _ _;rw[List.forIn_nil];first
  |refine aB (aB (aB (aB ⟨.ref s.heap.objs.size,_,?_,rfl,q2⟩)))
  |refine aB (aB (aB ⟨.ref s.heap.objs.size,_,?_,rfl,q2⟩))
 obtain⟨qo,es,ep,hq,h2,h3,h4,_,h5⟩:=DD;exact sG I3 (by rw[e];exact True.intro) hs ⟨qo,hq⟩ (Sz.ok ⟨lo,_,PR.put .nil ks rv,qo,es,ep,hq,h2,h3,h4,h5⟩)
end
abbrev EnR:List (V×V)->List DictEntry->Prop:=Paired fun(p:V×V) (e:DictEntry)=>zQ p.1 e.key/\zQ p.2 e.val
structure WkE(a:Addr)(u:HO)(kvs:List (V×V)):Prop where
 lo:∀{P:Program} {w:World} {H:Hp} {h:Heap},zT P w H h a u->(a == sysModules)=false/\∃o es ep,h.get? a=some o/\o.ExactDict/\o.data=.dict es ep/\EnR kvs es.toList
 any:∀{P:Program} {w:World} {H H':Hp} {h:Heap},zT P w H h a u->zT P w H' h a u
 mu:Mut (some u)
theorem V6{k:Key}{v:Value}(h:ZR k v=true):zQ (kV k) v:=by
 rcases ya h with ⟨i,t,rfl,rfl⟩|⟨x,t,rfl,rfl⟩
 ·exact⟨t,rfl⟩
 ·exact⟨t,rfl⟩
theorem J2{P:Program}{w:World}:∀{kvs:List (Key×V)} {vs:List (Key×Value)} {es:List DictEntry},KV kvs vs->Pairs (yp P w) es vs->EnR (kvs.map fun p=>(kV p.1,p.2)) es
 |_,_,_,.nil,.nil=>.nil
 |p::_,q::_,e::_,.cons r t,.cons h1 h2 t2=>.cons ⟨(show zQ (kV p.1) e.key by rw[r.1];exact V6 h1),(show zQ p.2 e.val by rw[h2];exact r.2)⟩ (J2 t t2)
theorem J3(a:Addr)(kvs:List (Key×V)):WkE a (HO.dK kvs) (kvs.map fun p=>(kV p.1,p.2)) where
 lo:=fun x=>by
  obtain⟨z,hd,vs,rel,o,es,ep,g,hx,AN,_,hp,_⟩:=x;exact⟨hd,o,es,ep,g,hx,AN,J2 rel hp⟩
 any:=fun x=>x
 mu:=trivial
section
variable{κ1 κ2:Type}[DecidableEq κ1][DecidableEq κ2]{p1:Pt κ1}{p2:Pt κ2}
theorem J4{P:Program}{w:World}{k1:ItK P w κ1}{k2:ItK P w κ2}:∀{kvs:List ((κ1×κ2)×Addr×V)} {xs:List ((κ1×κ2)×Addr×Value)},PR kvs xs->EnR (kvs.map fun x=>(V.ref x.2.1,x.2.2)) (xs.map (entryOfKey (sy k1 k2)))
 |_,_,.nil=>.nil
 |p::_,q::_,.cons r t=>.cons ⟨(show zQ (V.ref p.2.1) (aN q.2.1) by rw[r.2.1];rfl),r.2.2⟩ (J4 t)
theorem J5(P:Program)(w:World)(a:Addr)(kvs:List ((κ1×κ2)×Addr×V)):WkE a (ndO p1 p2 P w a kvs) (kvs.map fun x=>(V.ref x.2.1,x.2.2)) where
 lo:=fun x=>by
  obtain⟨⟨lo,xs,r,o,es,ep,g,hx,hd,he,nd⟩,_⟩:=x;exact⟨lo,o,es,ep,g,hx,hd,by rw[he];exact J4 r⟩
 any:=fun x=>x
 mu:=trivial
end
theorem RK{kvs:List (V×V)}{es:Array DictEntry}{i:Nat}(r:EnR kvs es.toList)(hi:i<es.size):∃p,kvs[i]?=some p/\zQ p.1 es[i].key/\zQ p.2 es[i].val:=by
 have e:es.toList[i]?=some es[i]:=by rw[cC,cF hi]
 obtain⟨p,hp,h⟩:=Zi r e;exact⟨p,hp,h⟩
theorem SC{P:Program}{w:World}{H:Hp}{h:Heap}{a:Addr}{o:Obj}{u:HO}{kvs:List (V×V)}{es:Array DictEntry}{ep:Nat}(W:WkE a u kvs)(x:zT P w H h a (.frz o u))(hd:o.data=.dict es ep):h.get? a=some o/\EnR kvs es.toList:=by
 obtain⟨g,y⟩:=x;obtain⟨_,o',BQ,Ex,g',_,Ce,r⟩:=W.lo y;rw[g] at g';cases g';rw[hd] at Ce;injection Ce with e1 _
 subst e1;exact⟨g,r⟩
noncomputable def ItI(a:Addr)(o:Obj)(u:HO)(kvs:List (V×V)):It :=
 ⟨fun i H=>i<kvs.length/\H a=some (.frz o u),fun i H x H'=>∃T p,H T=none/\x=.ref T/\kvs[i]?=some p/\H'=upd H T (.tup [p.1,p.2]),fun i H=>i=kvs.length/\H a=some (.frz o u)⟩
def ItJ(a:Addr)(o:Obj)(u:HO)(kvs:List (V×V)):It :=
 ⟨fun i H=>i<kvs.length/\H a=some (.frz o u),fun i H x H'=>H'=H/\∃p,kvs[i]?=some p/\x=p.1,fun i H=>i=kvs.length/\H a=some (.frz o u)⟩
theorem J6{P:Program}{w:World}{K:FG7}{elts:List Expr}{kt:Nat}{pt:Pos}(a it:Addr)(o:Obj)(u:HO)(es:Array DictEntry)(ep:Nat)(kvs:List (V×V))(W:WkE a u kvs)(hx:o.ExactDict)(hd:o.data=.dict es ep)(hes:es.size=kvs.length) :
  Turn P w K (.Tuple elts kt pt) (ItI a o u kvs) [it] it (fun i h=>∃ok ov,ku h it a i es.size ep ok ov) where
 mem:=by simp
 obj:=fun i h st b hb=>by
  have e:b=it:=by simpa using hb
  subst e;obtain⟨ok,ov,st⟩:=st;exact⟨_,st,fun v z=>by cases z⟩
 keep:=fun i h h' st k=>by
  obtain⟨ok,ov,st⟩:=st;exact⟨ok,ov,k it (by simp) _ st⟩
 item:=by
  intro X hP hw hK hc i nJ s σ H E I hf st hg;subst hP hw hK;obtain⟨ok,ov,st⟩:=st;obtain⟨hi,hH⟩:=hg;obtain⟨g,r⟩:=SC W (I.hok a _ hH) hd;have Fk:i<es.size:=by omega
  obtain⟨p,hp,r1,r2⟩:=RK r Fk;refine Sv st ⟨o,g,hx,hd⟩ Fk fun h1 Cq hT hk=>?_;refine⟨_,rfl,wpAny_letOwnedTupleGo_items (s:={ s with heap:=h1 }) Cq fun h2 Cs o7=>?_⟩;have eT:s.heap.objs.size≠it:=dB (aP st);have Ba:∀b o,b∉[it]->s.heap.get? b=some o->h2.get? b=some o:=fun b o hb q=>by
   have n1:b≠it:=fun z=>hb (by simp[z]);exact(o7.2 b n1).trans (hk b o n1 q)
  have Ca:h2.get? s.heap.objs.size=some { cls:=.type "tuple",data:=.seq #[es[i].key,es[i].val] }:=(o7.2 _ eT).trans hT;have hn:H s.heap.objs.size=none:=I.hok.fresh (aG _);have I2:Inv X nJ σ (upd H s.heap.objs.size (.tup [p.1,p.2])) { s with heap:=h2,toks:=s.toks }:=tL (s:=s) I Ba hf (aG _) ⟨by show 2<=sizeLine;decide,[es[i].key,es[i].val],.cons r1 (.cons r2 .nil),_,Ca,rfl,0,rfl⟩;refine⟨.ref s.heap.objs.size,_,I2,rfl,⟨_,p,hn,rfl,hp,rfl⟩,⟨_,_,Cs⟩,fun b hb=>?_⟩;have e:b=it:=by simpa using hb
  subst e;rw[zq (Ne.symm eT)];exact(hf b (by simp)).1
 done:=by
  intro X hP hw hK hc i nJ s σ H E I hf st hg;subst hP hw hK;obtain⟨ok,ov,st⟩:=st;obtain⟨hi,hH⟩:=hg;obtain⟨g,r⟩:=SC W (I.hok a _ hH) hd;have ei:i=es.size:=by omega
  subst ei;exact QE (I.ok.hd hc) st ⟨o,g,hx,hd⟩ fun h' eb=>⟨rfl,t9 (fp:=[it]) (t':=s.toks) I (fun b o hb q=>eb b o (fun z=>hb (by simp[z])) q) hf⟩
 self:=fun _ _ _ _ _ st h=>by
  obtain⟨ok,ov,st⟩:=st;have hT:mD _ (.ref it) "dict_itemiterator":=⟨_,st,rfl⟩
  refine kP hT PySem.F.slot_dict_itemiterator_iter (bW PySem.F.slot_dict_itemiterator_iter hT X6 ?_ (PySem.F.args_dict_itemiterator_iter_1 _));show wpAny _ _ (ret (.ref it)) _ _ _;exact aB ⟨_,rfl,"dict_itemiterator",_,hT,PySem.F.slot_dict_itemiterator_next.lookup,h⟩
theorem J7{P:Program}{w:World}{K:FG7}{tg:Expr}(a it:Addr)(o:Obj)(u:HO)(es:Array DictEntry)(ep:Nat)(kvs:List (V×V))(W:WkE a u kvs)(hx:o.ExactDict)(hd:o.data=.dict es ep)(hes:es.size=kvs.length) :
  Turn P w K tg (ItJ a o u kvs) [it] it (fun i h=>h.IsKeyIter it a i es.size ep) where
 mem:=by simp
 obj:=fun i h st b hb=>by
  have e:b=it:=by simpa using hb
  subst e;obtain⟨o,e,c,d⟩:=st;exact⟨o,e,fun v z=>by rw[d] at z;cases z⟩
 keep:=fun i h h' st k=>st.at fun o e=>k it (by simp) o e
 item:=by
  intro X hP hw hK hc i nJ s σ H E I hf st hg;subst hP hw hK;obtain⟨hi,hH⟩:=hg;obtain⟨g,r⟩:=SC W (I.hok a _ hH) hd;have Fk:i<es.size:=by omega
  obtain⟨p,hp,r1,r2⟩:=RK r Fk;obtain⟨f0,f1,f2,f3,f4,f5⟩:=hf it (by simp);refine Sq st ⟨o,g,hx,hd⟩ Fk fun h' An sb=>?_;have I1:Inv X nJ σ H { s with heap:=h' }:=I.turned (t':=s.toks) (fun b o hb e=>(sb.2 b hb).trans e) f0 f1 f3 f4 f5;obtain⟨oi,e,c,d⟩:=id An;exact⟨_,rfl,Tr (s:={ s with heap:=h' }) e c d (by decide) ⟨p.1,H,I1,r1,⟨rfl,p,hp,rfl⟩,An,fun b hb=>(hf b hb).1⟩⟩
 done:=by
  intro X hP hw hK hc i nJ s σ H E I hf st hg;subst hP hw hK;obtain⟨hi,hH⟩:=hg;obtain⟨g,r⟩:=SC W (I.hok a _ hH) hd;obtain⟨f0,f1,f2,f3,f4,f5⟩:=hf it (by simp);have ei:i=es.size:=by omega
  subst ei;exact QD (I.ok.hd hc) st ⟨o,g,hx,hd⟩ fun h' eb=>⟨rfl,I.turned (t':=s.toks) (fun b o hb e=>eb b o hb e) f0 f1 f3 f4 f5⟩
 self:=fun _ _ _ _ _ st h=>wpAny_pyIter_keyiter st h
theorem Grow.frzE{m:List Addr}{H:Hp}{d:Addr}{u:HO}{o:Obj}(h:H d=some u)(mu:Mut (some u))(hm:d∈m):Grow m H (upd H d (.frz o u)) :=
 ⟨fun b v hb q=>by rw[zq (show b≠d from fun z=>hb (by rw[z];exact hm))];exact q,fun b zs q=>by rw[zq (fun z=>by subst z;rw[h] at q;cases q;exact mu)];exact q,fun b u v q=>by rw[zq (fun z=>by subst z;rw[h] at q;cases q;exact mu)];exact q⟩
section
variable{X:Cx}{elts:List Expr}{kt:Nat}{pt:Pos}{tg:Expr}
def zaD(H1:Hp)(a:Addr)(u:HO)(kvs:List (V×V))(R:Obj->Hp->Prop):Prop:=WkE a u kvs/\Rd H1 a u/\∀o H',H' a=some (.frz o u)->Grow [a] H1 H'->(∀b,b≠a->H' b=H1 b)->R o H'
theorem Yc{nJ:List (Addr×Obj)}{σ:L2.St}{H1:Hp}{s1:Shared}{a:Addr}{u:HO}{kvs:List (V×V)}{R:Obj->Hp->Prop}{G:Prop}(I1:Inv X nJ σ H1 s1)(h:zaD H1 a u kvs R)
  (key:∀(H2:Hp) (ob:Obj) (es:Array DictEntry) (ep:Nat),Inv X nJ σ H2 s1->WkE a u kvs->H2 a=some (.frz ob u)->(a == sysModules)=false->s1.heap.get? a=some ob->ob.ExactDict->ob.data=.dict es ep->es.size=kvs.length->EnR kvs es.toList->R ob H2->G):G:=by
 obtain⟨W,Da,q⟩:=h;rcases Da with ha|⟨ob,ha⟩
 ·have Gs:=I1.hok a _ ha;obtain⟨lo,ob,es,ep,g,hx,hd,r⟩:=W.lo Gs;have I2:Inv X nJ σ (upd H1 a (.frz ob u)) { s1 with heap:=s1.heap,toks:=s1.toks }:=sG I1 (by rw[ha];exact W.mu) (mq ..) ⟨ob,g⟩ ⟨g,W.any Gs⟩;have hl:es.size=kvs.length:=by rw[←aQ];exact(Paired.length r).symm
  exact key _ ob es ep I2 W zd lo g hx hd hl r (q ob _ zd (Grow.frzE ha W.mu (by simp)) fun b hb=>zq hb)
 ·have Gs:=I1.hok a _ ha;obtain⟨g,y⟩:=Gs;obtain⟨lo,ob',es,ep,g',hx,hd,r⟩:=W.lo y;rw[g] at g';cases g';have hl:es.size=kvs.length:=by rw[←aQ];exact(Paired.length r).symm
  exact key _ ob es ep I1 W ha lo g hx hd hl r (q ob _ ha (Grow.refl _ _) fun _ _=>rfl)
def zcg(tl:TE):TI:=fun σ H R=>tl σ H fun x H1=>∃a u kvs,x=.ref a/\zaD H1 a u kvs (fun o H'=>R (ItI a o u kvs) H')
def zch(tl:TE):TI:=fun σ H R=>tl σ H fun x H1=>∃a u kvs,x=.ref a/\zaD H1 a u kvs (fun o H'=>R (ItJ a o u kvs) H')
theorem V7{o:Expr}{to:TE}{oW oI:Pos}(ho:PE X o to)
  (Au:attributeBase o "items" X.env (eval o X.env)=eval o X.env:=by rfl) (Be:(oW.endLine == oI.line)=true:=by rfl) :
  PI X (.Tuple elts kt pt) (.Call (.Attribute o "items" oW) [] [] oI) (zcg to):=by
 intro nJ s σ H R I h;refine wpAny_Call_method0_late Au Be (thn (ho nJ s σ H _ I h) fun v s1 ⟨x,H1,I1,r1,a,u,kvs,ex,hw⟩=>?_);subst ex;obtain rfl:v=aN a:=r1;refine Yc I1 hw fun H2 ob es ep I2 W hH lo g hx hd hl r hR=>?_;have em:xA es a ep s1.heap:=⟨ob,g,hx,hd⟩
 refine⟨"dict","dict.items",kB,PySem.F.slot_dict_items,PySem.F.type_dict_items,em.typeIs,fun b e=>by cases e;exact⟨ob,g,hx.2.1⟩,iz rfl (PySem.evalArgs_none (Ss lo em ?_))⟩;have Fl:xA es a ep (s1.heap.push { cls:=.type "dict_items",data:=.fields #[.ref a] }):=em.keep fun o e=>aD _ e;have I3:Inv X nJ σ H2 { s1 with heap:=s1.heap.push { cls:=.type "dict_items",data:=.fields #[.ref a] } }:=I2.kept (t':=s1.toks) fun b o e=>aD _ e;refine Su (s:={ s1 with heap:=s1.heap.push { cls:=.type "dict_items",data:=.fields #[.ref a] } }) ⟨_,aM _ rfl,rfl,rfl⟩ Fl ?_;refine⟨_,[_],_,_,H2,rfl,I3.kept (t':=s1.toks) fun b o e=>aD _ e,J6 a _ ob u es ep kvs W hx hd hl,⟨_,_,aM _ rfl⟩,fun b hb=>?_,hR⟩;have e:=aR.mp hb;subst e;exact I3.fpOk (aG _) (I3.hok.fresh (aG _))
theorem QI{l:Expr}{tl:TE}(hl:PE X l tl):PI X tg l (zch tl):=by
 intro nJ s σ H R I h;refine thn (hl nJ s σ H _ I h) fun v s1 ⟨x,H1,I1,r1,a,u,kvs,ex,hw⟩=>?_;subst ex;obtain rfl:v=aN a:=r1;refine Yc I1 hw fun H2 ob es ep I2 W hH lo g hx hd hl r hR=>?_;refine So lo ⟨ob,g,hx,hd⟩ ?_;refine⟨s1.heap.objs.size,[s1.heap.objs.size],_,_,H2,rfl,I2.kept (t':=s1.toks) fun b o e=>aD _ e,J7 a _ ob u es ep kvs W hx hd hl,⟨_,aM _ rfl,rfl,rfl⟩,fun b hb=>?_,hR⟩;have e:b=s1.heap.objs.size:=by simpa using hb
 subst e;exact I2.fpOk (aG _) (I2.hok.fresh (aG _))
end
theorem J8{a:Addr}{o:Obj}{u:HO}{kvs:List (V×V)}{g:TG}{tb:TS}{D:Ends}{σ:L2.St}{H:Hp}(Pv:Nat->L2.St->Hp->Prop)(h0:Pv 0 σ H)(hl:∀i σ H,i<=kvs.length->Pv i σ H->H a=some (.frz o u))
  (hs:∀i p T σ H,kvs[i]?=some p->H T=none->Pv i σ H->g (.ref T) σ (upd H T (.tup [p.1,p.2])) fun σ2 H2=>tb { D with nx:=Pv (i+1),ct:=Pv (i+1),bk:=D.nx } σ2 H2) (hd:∀σ H,Pv kvs.length σ H->D.nx σ H) :
  ∃W:Nat->Nat->L2.St->Hp->Prop,(∃m,W 0 m σ H)/\∀i m σ H,W i m σ H→
   ((ItI a o u kvs).stop i H/\D.nx σ H)\/((ItI a o u kvs).go i H/\∃N:L2.St->Hp->Prop,(∀σ' H',N σ' H'->∃m',m'<m/\W (i+1) m' σ' H')/\∀x H',(ItI a o u kvs).yld i H x H'->g x σ H' fun σ2 H2=>tb { D with nx:=N,ct:=N,bk:=D.nx } σ2 H2):=by
 refine⟨fun i m σ H=>m=kvs.length-i/\i<=kvs.length/\Pv i σ H,⟨kvs.length,by simp,cw _,h0⟩,?_⟩;rintro i m σ H ⟨rfl,hi,p⟩;have q:=hl i σ H hi p;by_cases n5:i<kvs.length
 ·refine .inr ⟨⟨n5,q⟩,Pv (i+1),fun σ' H' p'=>⟨kvs.length-(i+1),by omega,rfl,n5,p'⟩,fun x H' y=>?_⟩;obtain⟨T,pk,hT,rfl,hp,rfl⟩:=y;exact hs i pk T σ H hp hT p
 ·have e:i=kvs.length:=by omega
  exact .inl ⟨⟨e,q⟩,hd σ H (e▸p)⟩
theorem zbw{a:Addr}{o:Obj}{u:HO}{kvs:List (V×V)}{g:TG}{tb:TS}{D:Ends}{σ:L2.St}{H:Hp}(Pv:Nat->L2.St->Hp->Prop)(h0:Pv 0 σ H)(hl:∀i σ H,i<=kvs.length->Pv i σ H->H a=some (.frz o u))
  (hs:∀i p σ H,kvs[i]?=some p->Pv i σ H->g p.1 σ H fun σ2 H2=>tb { D with nx:=Pv (i+1),ct:=Pv (i+1),bk:=D.nx } σ2 H2) (hd:∀σ H,Pv kvs.length σ H->D.nx σ H) :
  ∃W:Nat->Nat->L2.St->Hp->Prop,(∃m,W 0 m σ H)/\∀i m σ H,W i m σ H→
   ((ItJ a o u kvs).stop i H/\D.nx σ H)\/((ItJ a o u kvs).go i H/\∃N:L2.St->Hp->Prop,(∀σ' H',N σ' H'->∃m',m'<m/\W (i+1) m' σ' H')/\∀x H',(ItJ a o u kvs).yld i H x H'->g x σ H' fun σ2 H2=>tb { D with nx:=N,ct:=N,bk:=D.nx } σ2 H2):=by
 refine⟨fun i m σ H=>m=kvs.length-i/\i<=kvs.length/\Pv i σ H,⟨kvs.length,by simp,cw _,h0⟩,?_⟩;rintro i m σ H ⟨rfl,hi,p⟩;have q:=hl i σ H hi p;by_cases n5:i<kvs.length
 ·refine .inr ⟨⟨n5,q⟩,Pv (i+1),fun σ' H' p'=>⟨kvs.length-(i+1),by omega,rfl,n5,p'⟩,fun x H' y=>?_⟩;obtain⟨rfl,pk,hp,rfl⟩:=y;exact hs i pk σ _ hp p
 ·have e:i=kvs.length:=by omega
  exact .inl ⟨⟨e,q⟩,hd σ H (e▸p)⟩
theorem V8:∀{kvs:List (V×V)} {es:List DictEntry},EnR kvs es->zP (kvs.map (·.2)) (es.map (·.val))
 |_,_,.nil=>.nil
 |_,_,.cons h t=>.cons h.2 (V8 t)
section
variable{X:Cx}{o:Expr}{to:TE}{p pos oW oI:Pos}
def V9(to:TE):TE:=fun σ H Q=>to σ H fun x H1=>∃a u kvs,x=V.ref a/\kvs.length<=sizeLine/\zaD H1 a u kvs (fun _ H'=>∀l,H' l=none->Q (.ref l) (upd H' l (.lst (kvs.map (·.2)))))
theorem Yd{k:Nat}(hr:Room k X.A)(E6:Gl X "list")(hmt:X.mg "list" = none)(ho:PE X o to)
  (Au:attributeBase o "values" X.env (eval o X.env)=eval o X.env:=by rfl) (Be:(oW.endLine == oI.line)=true:=by rfl)
  (o7:bY [(.Call (.Attribute o "values" oW) [] [] oI:Expr)] X.env=[(false,eval (.Call (.Attribute o "values" oW) [] [] oI) X.env)]:=by rfl) :
  PE X (.Call (.Name "list" p) [.Call (.Attribute o "values" oW) [] [] oI] [] pos) (V9 to):=by
 intro nJ s σ H Q I h;refine dS (wo I E6 hmt t4 (cM ?_ o7 rfl));rw[o7];show wpAny _ _ (spliced [(false,eval (.Call (.Attribute o "values" oW) [] [] oI) X.env)]) _ _ s;refine fE ?_;refine wpAny_Call_method0_late Au Be (thn (ho nJ s σ H _ I h) fun v s1 ⟨x,H1,I1,r1,a,u,kvs,ex,hz,hw⟩=>?_);subst ex;obtain rfl:v=aN a:=r1;refine Yc I1 hw fun H2 ob es ep I2 W hH lo g hx hd hl r hR=>?_;have em:xA es a ep s1.heap:=⟨ob,g,hx,hd⟩
 refine⟨"dict","dict.values",kB,PySem.F.slot_dict_values,PySem.F.type_dict_values,em.typeIs,fun b e=>by cases e;exact⟨ob,g,hx.2.1⟩,iz rfl (PySem.evalArgs_none (Sw lo em (gO ?_)))⟩;have Fl:xA es a ep (s1.heap.push { cls:=.type "dict_values",data:=.fields #[.ref a] }):=em.keep fun o e=>aD _ e;have I3:Inv X nJ σ H2 { s1 with heap:=s1.heap.push { cls:=.type "dict_values",data:=.fields #[.ref a] } }:=I2.kept (t':=s1.toks) fun b o e=>aD _ e;refine kdl_call (s:={ s1 with heap:=s1.heap.push { cls:=.type "dict_values",data:=.fields #[.ref a] } }) (QG (es:=es) (ep:=ep) (d:=a) (r:=s1.heap.objs.size)) hr.hd ⟨⟨_,aM _ rfl,rfl,rfl⟩,Fl⟩ (by rw[hl];exact hz) fun h' tk oK c' kp e hI=>?_;have pJ:oK.toList=es.toList.map (·.val):=by
  apply iU
  ·rw[aQ,hI.1,aE,aQ]
  ·intro j h1 h2;rw[aQ] at h1;obtain⟨hj,ev⟩:=hI.2 j oK[j] (cF h1);rw[Array.getElem_toList,ev,eG,Array.getElem_toList]
 refine⟨.ref _,_,I3.laid (t':=tk) kp (aG _) (show zT X.prog X.w _ h' _ (.lst (kvs.map (·.2))) from⟨by rw[aE];exact hz,oK.toList,c',by rw[pJ];exact V8 r,by rw[Array.toArray_toList];exact e⟩),rfl,hR _ (I3.hok.fresh (aG _))⟩
end
theorem Room.u173{k:Nat}{A:Around}(r:Room k A):A.units+1<ig:=by have:=r.un;omega
theorem Room.u2{k:Nat}{A:Around}(r:Room k A):A.units+2<ig:=by have:=r.un;omega
structure OrdB(n:Nat)(lt:Nat->Nat->Bool):Prop where
 tr:∀{i j k:Nat},lt i j=true->lt j k=true->lt i k=true
 as:∀{i j:Nat},lt i j=true->lt j i=false
 to:∀{i j:Nat},i<n->j<n->i≠j->lt i j=false->lt j i=true
structure PmA(n:Nat)(p:Array Nat):Prop where
 sz:p.size=n
 pm:p.toList.Perm (aF n)
theorem PmA.lt{n:Nat}{p:Array Nat}(h:PmA n p){i:Nat}(hi:i<n):p.getD i 0<n:=by
 have pU:i<p.toList.length:=by rw[aQ,h.sz];exact hi
 have e:p.getD i 0=p.toList[i]:=by simp[fJ,h.sz,hi]
 rw[e];exact bN.mp (h.pm.mem_iff.mp (fF pU))
theorem PmA.inj{n:Nat}{p:Array Nat}(h:PmA n p){i j:Nat}(hi:i<n)(hj:j<n)(pd:i≠j):p.getD i 0≠p.getD j 0:=by
 have pU:i<p.toList.length:=by rw[aQ,h.sz];exact hi
 have pO:j<p.toList.length:=by rw[aQ,h.sz];exact hj
 have e:p.getD i 0=p.toList[i]:=by simp[fJ,h.sz,hi]
 have e':p.getD j 0=p.toList[j]:=by simp[fJ,h.sz,hj]
 rw[e,e'];intro z;exact pd ((k9 (h.pm.nodup_iff.mpr mK)).mp z)
theorem PmA.of_perm{n:Nat}{p q:Array Nat}(h:PmA n p)(hq:q.Perm p):PmA n q :=
 ⟨hq.size_eq.trans h.sz,(Array.perm_iff_toList_perm.mp hq).trans h.pm⟩
def Ups(lt:Nat->Nat->Bool)(p:Array Nat)(k:Nat):Prop:=∀i j,i<j->j<k->lt (p.getD i 0) (p.getD j 0)=true
def Ye(lt:Nat->Nat->Bool)(p:Array Nat)(k:Nat):Prop:=∀i j,i<j->j<k->lt (p.getD j 0) (p.getD i 0)=true
theorem Xa{p q:Array Nat}{i j:Nat}(h:p[i]?=q[j]?):p.getD i 0=q.getD j 0:=by
 rw[Array.getD_eq_getD_getElem?,Array.getD_eq_getD_getElem?,h]
section
variable{n:Nat}{lt:Nat->Nat->Bool}{AW:Nat->Nat->(Bool->Shared->Prop)->Shared->Prop}{s:Shared}
def SD(n:Nat)(lt:Nat->Nat->Bool)(AW:Nat->Nat->(Bool->Shared->Prop)->Shared->Prop)(s:Shared):Prop:=∀i j (C:Bool->Shared->Prop),i<n->j<n->C (lt i j) s->AW i j C s
theorem Ups.snoc{p:Array Nat}{m:Nat}(o:OrdB n lt)(h1:1<=m)(u:Ups lt p m)(e:lt (p.getD (m-1) 0) (p.getD m 0)=true):Ups lt p (m+1):=by
 intro i j BL hj;by_cases hjm:j<m
 ·exact u i j BL hjm
 ·obtain rfl:j=m:=by omega
  by_cases hi:i=j-1
  ·subst hi;exact e
  ·exact o.tr (u i (j-1) (by omega) (by omega)) e
theorem jd(o:OrdB n lt)(hc:SD n lt AW s){p:Array Nat}(hp:PmA n p):∀(f m:Nat) {Q:Nat->Shared->Prop},1<=m->m+f=n->Ups lt p m→
  (∀k,m<=k->k<=n->Ups lt p k->(k=n\/lt (p.getD k 0) (p.getD (k-1) 0)=true)->Q k s)->(kas_asc p f m).kasWp AW Q s
 |0,m,Q,h1,e,u,q=>q m (aG _) (by omega) u (.inl (by omega))
 |f+1,m,Q,h1,e,u,q=>by
  refine hc _ _ _ (hp.lt (by omega)) (hp.lt (by omega)) ?_;cases c:lt (p.getD m 0) (p.getD (m-1) 0) with
  |true =>
   dsimp only
   rw[if_pos rfl];exact q m (aG _) (by omega) u (.inr c)
  |false =>
   dsimp only
   rw[if_neg (by decide)];exact jd o hc hp f (m+1) (by omega) (by omega) (u.snoc o h1 (o.to (hp.lt (by omega)) (hp.lt (by omega)) (hp.inj (by omega) (by omega) (by omega)) c)) fun k hk=>q k (by omega)
theorem Ye.snoc{p:Array Nat}{m:Nat}(o:OrdB n lt)(h1:1<=m)(u:Ye lt p m)(e:lt (p.getD m 0) (p.getD (m-1) 0)=true):Ye lt p (m+1):=by
 intro i j BL hj;by_cases hjm:j<m
 ·exact u i j BL hjm
 ·obtain rfl:j=m:=by omega
  by_cases hi:i=j-1
  ·subst hi;exact e
  ·exact o.tr e (u i (j-1) (by omega) (by omega))
theorem Zj(o:OrdB n lt)(hc:SD n lt AW s){p:Array Nat}(hp:PmA n p):∀(f m:Nat) {Q:Array Nat×Nat×Nat->Shared->Prop},1<=m->m+f=n->Ye lt p m→
  (∀k,m<=k->k<=n->Ye lt p k->Q (p,k,0) s)->(kas_desc f p m 0).kasWp AW Q s
 |0,m,Q,h1,e,u,q=>q m (aG _) (by omega) u
 |f+1,m,Q,h1,e,u,q=>by
  refine hc _ _ _ (hp.lt (by omega)) (hp.lt (by omega)) ?_;cases c:lt (p.getD m 0) (p.getD (m-1) 0) with
  |true =>
   dsimp only
   rw[if_pos rfl,if_neg (by decide)];exact Zj o hc hp f (m+1) (by omega) (by omega) (u.snoc o h1 c) fun k hk=>q k (by omega)
  |false =>
   dsimp only
   rw[if_neg (by decide)];refine hc _ _ _ (hp.lt (by omega)) (hp.lt (by omega)) ?_;rw[o.to (hp.lt (by omega)) (hp.lt (by omega)) (hp.inj (by omega) (by omega) (by omega)) c];dsimp only
   rw[if_pos rfl];exact q m (aG _) (by omega) u
theorem QJ{p:Array Nat}{k:Nat}(hp:PmA n p)(hk:k<=n)(d:Ye lt p k):Ups lt (kas_rev p 0 k) k:=by
 intro i j BL hj;have g:∀x,x<k->(kas_rev p 0 k).getD x 0=p.getD (k-1-x) 0:=fun x hx=>by
  refine Xa ?_;unfold kas_rev;rw[getElem?_mirror_all (by rw[hp.sz];exact hk),if_pos (by omega)]
  congr 1;omega
 rw[g i (by omega),g j hj];exact d _ _ (by omega) (by omega)
theorem Ua(o:OrdB n lt)(hc:SD n lt AW s){p:Array Nat}(hp:PmA n p){k:Nat}(h1:1<=k)(hk:k<=n)(d:Ye lt p k){Q:Nat×Array Nat->Shared->Prop}
  (q:∀m p',PmA n p'->1<=m->m<=n->Ups lt p' m->Q (m,p') s):(kas_tail3 k n p).kasWp AW Q s:=by
 unfold kas_tail3;rw[KasT.kasWp_bind];have hp':PmA n (kas_rev p 0 k):=hp.of_perm (mirror_perm _ _ _ _);exact jd o hc hp' (n-k) k h1 (by omega) (QJ hp hk d) fun m hm Dx u _=>q m _ hp' (by omega) Dx u
theorem Ub(o:OrdB n lt)(hc:SD n lt AW s){p:Array Nat}(hp:PmA n p)(h2:2<=n)(c:lt (p.getD 1 0) (p.getD 0 0)=true){Q:Nat×Array Nat->Shared->Prop}
  (q:∀m p',PmA n p'->1<=m->m<=n->Ups lt p' m->Q (m,p') s):(kas_descPart 1 n p).kasWp AW Q s:=by
 unfold kas_descPart;rw[KasT.kasWp_bind];refine Zj o hc hp (n-2) 2 (by decide) (by omega) (fun i j BL hj=>?_) fun k hk oU d=>?_
 ·obtain rfl:i=0:=by omega
  obtain rfl:j=1:=by omega
  exact c
 ·dsimp only
  rw[if_neg (by omega)];exact Ua o hc hp (by omega) oU d q
theorem X7(o:OrdB n lt)(hc:SD n lt AW s){p:Array Nat}(hp:PmA n p)(h2:2<=n){Q:Nat×Array Nat->Shared->Prop}
  (q:∀m p',PmA n p'->1<=m->m<=n->Ups lt p' m->Q (m,p') s):(kas_count n p).kasWp AW Q s:=by
 unfold kas_count;rw[KasT.kasWp_bind];refine jd o hc hp (n-1) 1 (aG _) (by omega) (fun i j BL hj=>by omega) fun k h1 hk u e=>?_;by_cases hkn:k=n
 ·rw[if_pos (by simpa using hkn)];exact q k p hp h1 hk u
 rw[if_neg (by simpa using hkn)];have e:=e.resolve_left hkn;by_cases hg:k>1
 ·rw[if_pos hg];refine hc _ _ _ (hp.lt (by omega)) (hp.lt (by omega)) ?_;rw[u 0 (k-1) (by omega) (by omega)];dsimp only
  rw[if_pos rfl];exact q k p hp h1 hk u
 ·rw[if_neg hg];obtain rfl:k=1:=by omega
  exact Ub o hc hp h2 e q
theorem uF(o:OrdB n lt)(hc:SD n lt AW s){p:Array Nat}(hp:PmA n p){k:Nat}(hk:k<n)(u:Ups lt p k):∀(f l r:Nat) {Q:Nat->Shared->Prop},l<=r->r<=k->r-l<=f→
  (∀i,i<l->lt (p.getD i 0) (p.getD k 0)=true)->(∀i,r<=i->i<k->lt (p.getD k 0) (p.getD i 0)=true)→
  (∀x,x<=k->(∀i,i<x->lt (p.getD i 0) (p.getD k 0)=true)->(∀i,x<=i->i<k->lt (p.getD k 0) (p.getD i 0)=true)->Q x s)->(kas_place p k f l r).kasWp AW Q s
 |0,l,r,Q,h1,h2,h3,a,b,q=>q l (by omega) a fun i hi=>b i (by omega)
 |f+1,l,r,Q,h1,h2,h3,a,b,q=>by
  unfold kas_place;by_cases hlr:l>=r
  ·rw[if_pos hlr];exact q l (by omega) a fun i hi=>b i (by omega)
  rw[if_neg hlr];refine hc _ _ _ (hp.lt hk) (hp.lt (by omega)) ?_;cases c:lt (p.getD k 0) (p.getD ((l+r) / 2) 0) with
  |true =>
   dsimp only
   rw[if_pos rfl];refine uF o hc hp hk u f l ((l+r) / 2) (by omega) (by omega) (by omega) a (fun i hi HZ=>?_) q;by_cases e:i=(l+r) / 2
   ·rw[e];exact c
   ·exact o.tr c (u _ i (by omega) HZ)
  |false =>
   dsimp only
   rw[if_neg (by decide)];have c':=o.to (hp.lt hk) (hp.lt (by omega)) (hp.inj hk (by omega) (by omega)) c;refine uF o hc hp hk u f ((l+r) / 2+1) r (by omega) h2 (by omega) (fun i hi=>?_) b q;by_cases e:i=(l+r) / 2
   ·rw[e];exact c'
   ·exact o.tr (u i _ (by omega) (by omega)) c'
theorem QK{p:Array Nat}{k x:Nat}(o:OrdB n lt)(hp:PmA n p)(hk:k<n)(u:Ups lt p k)(hx:x<=k)(a:∀i,i<x->lt (p.getD i 0) (p.getD k 0)=true)(b:∀i,x<=i->i<k->lt (p.getD k 0) (p.getD i 0)=true):Ups lt (bubble p k (k-x)) (k+1):=by
 have g:=fun i=>getElem?_bubble (xs:=p) (src:=k) (by rw[hp.sz];exact hk) (k-x) (by omega) i;have e:k-(k-x)=x:=by omega
 rw[e] at g;have g1:∀i,i<x->(bubble p k (k-x)).getD i 0=p.getD i 0:=fun i hi=>Xa (by rw[g,if_neg (by omega),if_neg (by omega)]);have g2:(bubble p k (k-x)).getD x 0=p.getD k 0:=Xa (by rw[g,if_pos rfl]);have g3:∀i,x<i->i<=k->(bubble p k (k-x)).getD i 0=p.getD (i-1) 0:=fun i hi HZ=>Xa (by rw[g,if_neg (by omega),if_pos ⟨hi,HZ⟩]);intro i j BL hj;rcases kT j x with h|h|h
 ·rw[g1 i (by omega),g1 j h];exact u i j BL (by omega)
 ·subst h;rw[g1 i BL,g2];exact a i BL
 ·rw[g3 j h (by omega)];rcases kT i x with h'|h'|h'
  ·rw[g1 i h'];exact u i _ (by omega) (by omega)
  ·subst h';rw[g2];exact b _ (by omega) (by omega)
  ·rw[g3 i h' (by omega)];exact u _ _ (by omega) (by omega)
theorem Xb(o:OrdB n lt)(hc:SD n lt AW s):∀(f:Nat) (p:Array Nat) (k:Nat) {Q:Array Nat->Shared->Prop},PmA n p->k+f=n->Ups lt p k->(∀p',PmA n p'->Ups lt p' n->Q p' s)->(kas_bin f p k).kasWp AW Q s
 |0,p,k,Q,hp,e,u,q=>q p hp (by rw[←show k=n by omega];exact u)
 |f+1,p,k,Q,hp,e,u,q=>by
  unfold kas_bin;rw[KasT.kasWp_bind];refine uF o hc hp (by omega) u k 0 k (cw _) (aG _) (by omega) (fun i hi=>by omega) (fun i h1 h2=>by omega) fun x hx a b=>?_;exact Xb o hc f _ (k+1) (hp.of_perm (bubble_perm _ _ _)) (by omega) (QK o hp (by omega) u hx a b) q
theorem Uc(o:OrdB n lt)(hc:SD n lt AW s)(h2:2<=n){Q:Array Nat->Shared->Prop}(q:∀p,PmA n p->Ups lt p n->Q p s):(kas_sort n).kasWp AW Q s:=by
 unfold kas_sort;rw[KasT.kasWp_bind];have h0:PmA n (iC (aF n)):=⟨by simp,by simp⟩
 refine X7 o hc h0 h2 fun m p hp h1 hm u=>?_;by_cases hmn:m<n
 ·rw[if_pos hmn];have e:max m 1=m:=by omega
  show(kas_bin (n-max m 1) p (max m 1)).kasWp AW Q s;rw[e];exact Xb o hc (n-m) p m hp (by omega) u q
 ·rw[if_neg hmn];obtain rfl:m=n:=by omega
  exact q p hp u
end
section
variable{prog:Program}{w:World}{A:Around}{E:VS7}{s:Shared}
noncomputable def zbx(prog:Program)(w:World)(A:Around)(s:Shared)(a:Addr)(vs:List Value)(lt:Nat->Nat->Bool):Prop:=∃κ,∀h':Heap,(∀b ob,b≠a->s.heap.get? b=some ob->h'.get? b=some ob)→
 (∀(Q:SortKind->Shared->Prop) (E':VS7),Q κ { s with heap:=h' }->wpAny (model prog w) A (keyKind' vs.toArray) Q E' { s with heap:=h' })/\SD vs.length lt (kas_ask prog w A κ vs) { s with heap:=h' }
theorem Ud(vs:List Value):((aF vs.length).map fun i=>vs.getD i aU)=vs:=by
 refine gU fun i=>?_;rw[bE];by_cases h:i<vs.length
 ·rw[cG h];show some (vs.getD i aU)=_;rw[aH,aC h];rfl
 ·rw[df (by rw[aS];omega),df (by omega)];rfl
theorem Ue{a:Addr}{vs:List Value}{n:Nat}{P:PySem.Fin->Shared->Prop}{lt:Nat->Nat->Bool}(Dj:s.heap.get? a=some (seqObj "list" vs.toArray n))(few:vs.length<64)(o:OrdB vs.length lt)(D8:2<=vs.length->zbx prog w A s a vs lt)
  (oE:∀p,PmA vs.length p->Ups lt p vs.length->P (.done (.ret .none)) { s with heap:=sortedHeap s.heap a vs (iC (p.toList.map fun i=>vs.getD i aU)) }) :
  wpAny (model prog w) A (Builtin.«list.sort» ⟨[.ref a],[]⟩) P E s:=by
 have low:a<s.heap.objs.size:=aP Dj;obtain⟨ep,emp⟩:∃ep,(s.heap.update a (cB fun _=>(#[]:Array Value))).get? a=some (seqObj "list" #[] ep):=⟨_,mT Dj fun _=>#[]⟩
 have big:sizeLine=sizeLine:=rfl;have fits:vs.length<=sizeLine:=by have:=gN;omega
 have empty:(((s.heap.update a (cB fun _=>(#[]:Array Value))).push (seqObj "tuple" vs.toArray 0)).push (seqObj "list" #[] 0)).get? a=some (seqObj "list" #[] ep):=aD _ (aD _ emp);have old:∀b ob,b≠a->s.heap.get? b=some ob->(((s.heap.update a (cB fun _=>(#[]:Array Value))).push (seqObj "tuple" vs.toArray 0)).push (seqObj "list" #[] 0)).get? b=some ob:=fun b ob ne e =>
  aD _ (aD _ (by rw[Heap.get?_update_ne _ _ _ _ ne];exact e))
 rw[list_sort_plain];refine aA (lM Dj rfl (aA (lr Dj rfl ?_ (by rw[aO];exact fits) (cw _))));refine aA (seqEpoch_at emp rfl (aA (wpAny_newTuple ?_ (by show vs.length<=_;exact fits))));refine aA (lq (bU ?_) (cw _));show wpAny (model prog w) A _ P E { s with heap:=((s.heap.update a (cB fun _=>(#[]:Array Value))).push (seqObj "tuple" vs.toArray 0)).push (seqObj "list" #[] 0),toks:=s.toks };have sz:vs.toArray.size=vs.length:=by simp
 by_cases h2:vs.toArray.size<2
 ·rw[if_pos h2,if_pos h2];refine aA (aB ?_);dsimp only
  rw[StateT.run_pure];refine aA (aB (aA (seqEpoch_at empty rfl (aA (lr empty rfl ?_ (cw _) ?_)))))
  ·have f:=oE (iC (aF vs.length)) ⟨by simp,by simp⟩ (fun i j BL hj=>by omega);have e:(iC ((iC (aF vs.length)).toList.map fun i=>vs.getD i aU))=(vs.toArray.zip vs.toArray).map (·.2):=by
    apply Array.toList_inj.mp;rw[Array.toList_map];show(aF vs.length).map (fun i=>vs.getD i aU)=_;rw[Ud,Array.toList_zip];show vs=(vs.zip vs).map Prod.snd;rw[List.map_snd_zip (aG _)]
   rw[e] at f;have ne:(ep != ep)=false:=by simp
   show wpAny _ _ _ P E _;simp only[ne,aY,if_false]
   exact aB f
  ·show((vs.toArray.zip vs.toArray).map (·.2)).size<=_;rw[l6,Array.size_zip,sz];omega
 have Bi:2<=vs.length:=by omega
 obtain⟨κ,ok⟩:=D8 Bi;obtain⟨kd,Ia⟩:=ok _ old;rw[if_neg h2,if_neg h2];refine aA (kd _ _ ?_);refine aA (eM (kat_run (ks:=vs) (Q:=fun An s'=>s'={ s with heap:=((s.heap.update a (cB fun _=>(#[]:Array Value))).push (seqObj "tuple" vs.toArray 0)).push (seqObj "list" #[] 0) }/\failedOf An=none/\∃p,PmA vs.length p/\Ups lt p vs.length/\(arrOf An).map (·.2)=iC (p.toList.map fun i=>vs.getD i aU)) (G:=fun p s'=>s'={ s with heap:=((s.heap.update a (cB fun _=>(#[]:Array Value))).push (seqObj "tuple" vs.toArray 0)).push (seqObj "list" #[] 0) }/\PmA vs.length p/\Ups lt p vs.length) rfl Bi few
  (fun p An s' _ Gu hf g=>⟨g.1,hf,p,g.2.1,g.2.2,kat_snds rfl Gu⟩) (Uc o Ia Bi fun p hp u=>⟨rfl,hp,u⟩)) ?_ fun _ _ e=>e)
 rintro⟨⟨⟩,An⟩ s' ⟨rfl,hf,p,hp,u,out⟩;refine aA (seqEpoch_at empty rfl (aA (lr empty rfl ?_ (cw _) ?_)))
 ·have f:=oE p hp u;rw[←out] at f;show wpAny _ _ _ P E _;have ne:(ep != ep)=false:=by simp
  have hf':failedOf An=none:=hf;dsimp only
  rw[hf'];simp only[ne,aY,if_false]
  exact aB f
 ·show((arrOf An).map (·.2)).size<=_;rw[out,aO,aE,aQ,hp.sz];omega
end
noncomputable def ltL:List Int->List Int->Bool
 |[],[]=>false
 |[],_::_=>true
 |_::_,[]=>false
 |a::as,b::bs=>if a=b then ltL as bs else decide (a<b)
theorem RL:∀{a b c:List Int},ltL a b=true->ltL b c=true->ltL a c=true
 |[],[],_,h,_=>nomatch h
 |[],_::_,[],_,h=>nomatch h
 |[],_::_,_::_,_,_=>rfl
 |_::_,[],_,h,_=>nomatch h
 |_::_,_::_,[],_,h=>nomatch h
 |a::as,b::bs,c::cs,h,k=>by
  unfold ltL at h k ⊢;by_cases e:a=b
  ·subst e;rw[if_pos rfl] at h;by_cases e':a=c
   ·rw[if_pos e'] at k ⊢;exact RL h k
   ·rw[if_neg e'] at k ⊢;exact k
  ·rw[if_neg e] at h;have h:=of_decide_eq_true h;by_cases e':b=c
   ·subst e';rw[if_neg e];exact decide_eq_true h
   ·rw[if_neg e'] at k;have k:=of_decide_eq_true k;rw[if_neg (by omega)];exact decide_eq_true (by omega)
theorem Uf:∀{a b:List Int},ltL a b=true->ltL b a=false
 |[],[],h=>nomatch h
 |[],_::_,_=>rfl
 |_::_,[],h=>nomatch h
 |a::as,b::bs,h=>by
  unfold ltL at h ⊢;by_cases e:a=b
  ·subst e;rw[if_pos rfl] at h ⊢;exact Uf h
  ·rw[if_neg e] at h;rw[if_neg (Ne.symm e)];have h:=of_decide_eq_true h;exact decide_eq_false (by omega)
theorem RM:∀{a b:List Int},a≠b->ltL a b=false->ltL b a=true
 |[],[],h,_=>absurd rfl h
 |[],_::_,_,h=>nomatch h
 |_::_,[],_,_=>rfl
 |a::as,b::bs,n,h=>by
  unfold ltL at h ⊢;by_cases e:a=b
  ·subst e;rw[if_pos rfl] at h ⊢;exact RM (fun z=>n (by rw[z])) h
  ·rw[if_neg e] at h;rw[if_neg (Ne.symm e)];have h:=of_decide_eq_false h;exact decide_eq_true (by omega)
theorem Xc:∀{a b:List (List Int)},a.Pairwise (fun x y=>ltL x y=true)->b.Pairwise (fun x y=>ltL x y=true)->a.Perm b->a=b
 |[],b,_,_,p=>(List.Perm.nil_eq p)
 |x::xs,[],_,_,p=>absurd p.length_eq (by simp)
 |x::xs,y::ys,ha,hb,p=>by
  obtain⟨a1,a2⟩:=dW.mp ha;obtain⟨b1,b2⟩:=dW.mp hb;have e:x=y:=by
   by_cases e:x=y
   ·exact e
   ·have hx:x∈ys:=(aK.mp (p.mem_iff.mp bM)).resolve_left e;have hy:y∈xs:=(aK.mp (p.mem_iff.mpr bM)).resolve_left (Ne.symm e);have:=Uf (a1 y hy);rw[b1 x hx] at this;cases this
  subst e;rw[Xc a2 b2 ((List.perm_cons x).mp p)]
section
variable{prog:Program}{w:World}{A:Around}{E:VS7}{s:Shared}{b oE:Bool}{Q:Bool->Shared->Prop}
theorem Xd:∀{us vs:List Value} {as bs:List Int} (i:Nat),kg us as->kg vs bs->oE=decide (as.length<bs.length)->Q (ltL as bs) s->KatLex prog w A b oE Q (us.zip vs) i s
 |_,_,_,_,i,.nil,.nil,e,q=>by rw[e];exact kat_nil q
 |_,_,_,_,i,.nil,.cons _ _ _,e,q=>by rw[e];exact kat_nil (by simpa[ltL] using q)
 |_,_,_,_,i,.cons _ _ _,.nil,e,q=>by rw[e];exact kat_nil (by simpa[ltL] using q)
 |_,_,_,_,i,.cons x t hx,.cons y u hy,e,q=>by
  rename_i us as vs bs;rw[l7];refine kat_cons (wpAny_eqBool_int (kat_go (fun h=>?_) fun h=>?_))
  ·have h:=eq_of_beq h;subst h;refine kat_yes (Xd (i+1) hx hy (by rw[e];simp) ?_);unfold ltL at q;rw[if_pos rfl] at q;exact q
  ·have h:=ne_of_beq_false h;unfold ltL at q;rw[if_neg h] at q;refine kat_no ?_;cases(b && i == 0) with
   |true=>exact oneLt_int q
   |false=>exact kat_one _ _ (PyProof.Rows.lt_int (show PySem.W.BoolBack Q (.bool (decide (x<y))) s from q))
structure RowAt(h:Heap)(v:Value)(row:List Int)(x:Addr)(ob:Obj)(nK:Array Value)(n:Nat):Prop where
 e:v=.ref x
 g:h.get? x=some ob
 c:ob.cls=.type "tuple"
 d:ob.data=.seq nK n
 i:kg nK.toList row
def zbN(h:Heap)(v:Value)(row:List Int):Prop:=∃x ob nK n,RowAt h v row x ob nK n
inductive Rows(h:Heap):List Value->List (List Int)->Prop
 |nil:Rows h [] []
 |cons {v vs row rows}:zbN h v row->Rows h vs rows->Rows h (v::vs) (row::rows)
theorem Rows.len{h:Heap}:∀{vs rows},Rows h vs rows->vs.length=rows.length
 |_,_,.nil=>rfl
 |_,_,.cons _ t=>congrArg (·+1) t.len
theorem Rows.get{h:Heap}:∀{vs rows} {i:Nat},Rows h vs rows->i<vs.length->zbN h (vs.getD i aU) (rows.getD i [])
 |_,_,_,.nil,hi=>absurd hi (by simp)
 |_,_,0,.cons r _,_=>r
 |_,_,i+1,.cons _ t,hi=>by
  have:=t.get (i:=i) (by simpa using hi);exact this
theorem Rows.old{h h':Heap}(k:∀x ob,h.get? x=some ob->h'.get? x=some ob):∀{vs rows},Rows h vs rows->Rows h' vs rows
 |_,_,.nil=>.nil
 |_,_,.cons ⟨x,ob,nK,n,r⟩ t=>.cons ⟨x,ob,nK,n,r.e,k _ _ r.g,r.c,r.d,r.i⟩ (t.old k)
theorem Rows.tups{h:Heap}:∀{vs rows},Rows h vs rows->(∀r∈rows,r≠[])->∃fs,KatTups h vs fs/\fs.length=vs.length/\∀f∈fs,∃n t,f=fD n t
 |_,_,.nil,_=>⟨[],.nil,rfl,fun f hf=>absurd hf (by simp)⟩
 |_,_,.cons ⟨x,ob,nK,n,r⟩ t,ne=>by
  rename_i v vs row rows;obtain⟨fs,k,l,a⟩:=t.tups fun r hr=>ne r (aX _ hr);have pd:=ne row bM;obtain⟨f,hf,n',t',rfl⟩:∃f,nK[0]?=some f/\∃n t,f=fD n t:=by
   have hi:=r.i;rw[←cC];revert hi;generalize nK.toList=us;intro hi;cases hi with
   |nil=>exact absurd rfl pd
   |cons n t _=>exact⟨_,rfl,n,t,rfl⟩
  obtain rfl:=r.e;exact⟨fD n' t'::fs,.cons r.g r.c r.d hf k,congrArg (·+1) l,fun f hf=>by
   rcases aK.mp hf with rfl|hf
   ·exact⟨n',t',rfl⟩
   ·exact a f hf⟩
theorem SE{rows:List (List Int)}(nd:rows.Nodup):OrdB rows.length (fun i j=>ltL (rows.getD i []) (rows.getD j [])) where
 tr:=RL
 as:=Uf
 to:=fun{i j} hi hj pd h=>by
  refine RM (fun z=>pd ?_) h;have e:∀{i:Nat} (h:i<rows.length),rows.getD i []=rows[i]:=fun h=>by rw[aH,aC h];rfl
  rw[e hi,e hj] at z;exact(k9 nd).mp z
theorem Ug{vs:List Value}{rows:List (List Int)}{a:Addr}(r:Rows s.heap vs rows)(ne:∀r∈rows,r≠[])(ha:∀x ob,s.heap.get? x=some ob->(∃v∈vs,v=.ref x)->x≠a)(h2:2<=vs.length):zbx prog w A s a vs (fun i j=>ltL (rows.getD i []) (rows.getD j [])):=by
 refine⟨tuples' (cK "int" != cK "tuple"),fun h' k=>?_⟩;have r':Rows h' vs rows:=by
  have go:∀{Gv rows'},Rows s.heap Gv rows'->(∀v∈Gv,v∈vs)->Rows h' Gv rows':=by
   intro Gv rows' q;induction q with
   |nil=>intro _;exact .nil
   |cons q t ih =>
    intro sub;obtain⟨x,ob,nK,n,q⟩:=q;exact .cons ⟨x,ob,nK,n,q.e,k x ob (ha x ob q.g ⟨_,sub _ bM,q.e⟩) q.g,q.c,q.d,q.i⟩ (ih fun v hv=>sub v (aX _ hv))
  exact go r fun v hv=>hv
 obtain⟨fs,kt,fl,fi⟩:=r'.tups ne;refine⟨fun Q E' q=>kat_kind (s:={ s with heap:=h' }) (T:=.type "int") kt (by omega) (fun v hv=>?_) (by simp) q,fun i j C hi hj c=>?_⟩
 ·obtain⟨n,t,rfl⟩:=fi v hv;exact Looks.of_pure rfl
 ·obtain⟨x,ox,xs,n,p⟩:=r'.get hi;obtain⟨y,oy,ys,m,q⟩:=r'.get hj;unfold kas_ask;rw[p.e,q.e];have l1:xs.toList.length=(rows.getD i []).length:=by have:=(xU p.i).length;rw[aE] at this;exact this.symm
  have l2:ys.toList.length=(rows.getD j []).length:=by have:=(xU q.i).length;rw[aE] at this;exact this.symm
  refine kat_lt (s:={ s with heap:=h' }) p.g p.d q.g q.d (Xd 0 p.i q.i ?_ c);rw[←l1,←l2,aQ,aQ]
end
section
variable{X:Cx}{K:FG7}
theorem Uh{nJ:List (Addr×Obj)}{σ:L2.St}{H:Hp}{s:Shared}(I:Inv X nJ σ H s):∀{zs:List V} {rows:List (List Int)} {vs:List Value},yG (yj X.K H) zs rows->zP zs vs->Rows s.heap vs rows
 |[],[],_,_,.nil=>.nil
 |z::zs,row::rows,_,⟨h,t⟩,.cons r rs=>by
  obtain⟨b,rfl,hb⟩:=h;obtain⟨nK,rv,⟨ob,eo,ec,m,ed⟩,_⟩:=I.tuple hb;refine .cons ⟨b,ob,nK.toArray,m,r,eo,ec,ed,?_⟩ (Uh I t rs);show kg nK row;exact rR rv
 |[],_::_,_,h,_=>h.elim
 |_::_,[],_,h,_=>h.elim
theorem Ui{α:Type}{l:List α}{d:α}{is:List Nat}(h:is.Perm (aF l.length)):(is.map fun i=>l.getD i d).Perm l:=by
 refine(h.map _).trans ?_;have e:(aF l.length).map (fun i=>l.getD i d)=l:=by
  refine gU fun i=>?_;rw[bE];by_cases h:i<l.length
  ·rw[cG h];show some (l.getD i d)=_;rw[aH,aC h];rfl
  ·rw[df (by rw[aS];omega),df (by omega)];rfl
 rw[e]
end
section
variable{prog:Program}{w:World}{A:Around}{E:VS7}{s:Shared}
theorem X8{l:Addr}{us:List Value}{Q:List Value->Shared->Prop}(tu:s.heap.IsList l us.toArray)(hu:us.length<=sizeLine)
  (q:Q us { s with heap:=(s.heap.push (seqObj "list" #[] 0)).update s.heap.objs.size (cB (·++us.toArray)) }):wpAny (model prog w) A (collect (.ref l)) Q E s:=by
 obtain⟨ob,eo,ec,m,ed⟩:=id tu;have E7:(s.heap.push (seqObj "list" #[] 0)).get? l=some ob:=aD _ eo;unfold collect;refine aA (kH (dC entry_proto_collect' (show wpAny _ _ (do again (.builtin "list.__iadd__" ⟨[←newList [],.ref l],[]⟩)) _ _ s from ?_)));refine aA (lq (aB ⟨km _ (by decide +kernel),dC entry_list_iadd' (show wpAny _ _ (fj (.ref s.heap.objs.size) (.ref l) (.ref s.heap.objs.size)) _ _ { s with heap:=s.heap.push (seqObj "list" #[] 0) } from ?_)⟩));unfold fj;refine aA (iy (T:="list") ⟨ob,E7,ec⟩ ?_);have k1:(cK "list" == cK "list")=true:=rfl;rw[if_pos (by simp[k1])];refine aA (lM E7 ed (aA (lM (xs:=#[]) (n:=0) (aM _ rfl) rfl ?_)));rw[if_neg (by simp)];refine aA (lr (xs:=#[]) (n:=0) (aM _ rfl) rfl (aB ?_) (cw _) (by show(#[]++us.toArray).size<=sizeLine+1;simp only[kI,aO,eX];omega));refine aA (nz (mT (aM _ rfl) _) ?_);show wpAny _ _ (pure ((#[]:Array Value)++us.toArray).toList) Q E _;rw[show((#[]:Array Value)++us.toArray).toList=us by simp];exact aB q
theorem je{l:Addr}{vs:List Value}{Q:VS7}{lt:Nat->Nat->Bool}(tu:s.heap.IsList l vs.toArray)(few:vs.length<64)(o:OrdB vs.length lt)
  (D8:2<=vs.length->∀s':Shared,(∀b ob,s.heap.get? b=some ob->s'.heap.get? b=some ob/\b≠s.heap.objs.size+1)->zbx prog w A.in1.in1 s' (s.heap.objs.size+1) vs lt)
  (oE:∀p,PmA vs.length p->Ups lt p vs.length->Q (.ref (s.heap.objs.size+1)) { s with heap:=sortedAll s.heap vs (iC (p.toList.map fun i=>vs.getD i aU)) }) :
  wpAny (model prog w) A (call (.builtin "sorted") [.ref l]) Q E s:=by
 refine Calls.call_function_entry kind_sorted plain_sorted entry_sorted (args_sorted1 _) ?_;unfold Builtin.«sorted»;refine aA (m:=checkCount "sorted" 1 1 _) (aB (aA (X8 tu (by rw[gN];omega) (aA (lq ?_ (by rw[gN];omega))))));have e1:((s.heap.push (seqObj "list" #[] 0)).update s.heap.objs.size (cB (·++vs.toArray))).objs.size=s.heap.objs.size+1:=by rw[Heap.size_update,size_push']
 have e2:(((s.heap.push (seqObj "list" #[] 0)).update s.heap.objs.size (cB (·++vs.toArray))).push (seqObj "list" vs.toArray 0)).get? (s.heap.objs.size+1)=some (seqObj "list" vs.toArray 0):=by
  rw[←e1];exact aM _ rfl
 show wpAny _ _ _ _ _ { s with heap:=((s.heap.push (seqObj "list" #[] 0)).update s.heap.objs.size (cB (·++vs.toArray))).push (seqObj "list" vs.toArray 0) };rw[e1];refine aA (bU (bW slot_list_sort ⟨_,e2,rfl⟩ entry_list_sort (Ue (s:={ s with heap:=((s.heap.push (seqObj "list" #[] 0)).update s.heap.objs.size (cB (·++vs.toArray))).push (seqObj "list" vs.toArray 0) }) e2 few o (fun h2=>D8 h2 _ fun b ob e=>⟨?_,?_⟩) fun p hp u=>⟨_,rfl,aB ⟨_,rfl,oE p hp u⟩⟩) (args_list_sort _)))
 ·have lo:b<s.heap.objs.size:=aP e;refine aD _ ?_;rw[Heap.get?_update_ne _ _ _ _ (aW lo)];exact aD _ e
 ·exact aW (fm (aP e))
end
section
variable{X:Cx}{K:FG7}
noncomputable def QL(K:FG7):List V->Hp->VK->Prop:=fun xs H Q=>∃(l:Addr) (zs:List V) (rows:List (List Int)),xs=[.ref l]/\SqL K H l zs/\yG (yj K H) zs rows/\rows.Nodup/\(∀r∈rows,r≠[])/\rows.length<64∧
 ∀(p:Addr) (Cc:List V) (rows':List (List Int)),H p=none->rows'.Perm rows->rows'.Pairwise (fun x y=>ltL x y=true)->yG (yj K H) Cc rows'->Q (.ref p) (upd H p (.lst Cc))
theorem Yf(hK:X.K=K):xG X (.builtin "sorted") (QL K):=by
 subst hK;intro nJ s σ H xs us Q I r h;obtain⟨l,zs,rows,rfl,hl,hr,nd,ne,few,q⟩:=h;obtain⟨u,rfl,rx⟩:=vq r;cases(show u=aN l from rx);obtain⟨vs,rv,pl,hz⟩:=I.list hl;have e1:=rv.length;have e2:=hr.len;have R:=Uh I hr rv;have e3:=R.len;have o:=SE nd;rw[←e3] at o;refine je pl.isList (by omega) o (fun h2 s' k=>Ug (R.old fun x ob e=>(k x ob e).1) ne (fun x ob e ⟨v,hv,ev⟩=>?_) h2) fun p hp u=>?_
 ·subst ev;obtain⟨i,hi,ei⟩:=gh hv;obtain⟨x',ob',nK,n,p⟩:=R.get hi;have ex:vs.getD i aU=.ref x:=by rw[aH,aC hi,ei];rfl
  rw[ex] at p;cases p.e;exact(k _ _ p.g).2
 ·obtain⟨e,he⟩:=sortedAll_at s.heap vs (iC (p.toList.map fun i=>vs.getD i aU));have hn:H (s.heap.objs.size+1)=none:=I.hok.fresh (fz _);have mem:∀i∈p.toList,i<vs.length:=fun i hi=>bN.mp (hp.pm.mem_iff.mp hi);have rl:∀is:List Nat,(∀i∈is,i<vs.length)->zP (is.map fun i=>zs.getD i .non) (is.map fun i=>vs.getD i aU):=by
   intro is;induction is with
   |nil=>intro _;exact .nil
   |cons i is ih =>
    intro hm;have hi:=hm i bM;refine .cons ?_ (ih fun j hj=>hm j (aX _ hj));obtain⟨u,hu,ru⟩:=rv.get (aC (show i<zs.length by omega));dsimp only
    rw[aH,aH,hu,aC (show i<zs.length by omega)];exact ru
  have al:∀is:List Nat,(∀i∈is,i<vs.length)->yG (yj X.K H) (is.map fun i=>zs.getD i .non) (is.map fun i=>rows.getD i []):=by
   intro is;induction is with
   |nil=>intro _;trivial
   |cons i is ih =>
    intro hm;have hi:=hm i bM;refine⟨?_,ih fun j hj=>hm j (aX _ hj)⟩;obtain⟨row,Dk,br⟩:=hr.get (aC (show i<zs.length by omega));dsimp only
    rw[aH,aH,Dk,aC (show i<zs.length by omega)];exact br
  have hpm:p.toList.Perm (aF rows.length):=by rw[←e3];exact hp.pm
  have pw:(p.toList.map fun i=>rows.getD i []).Pairwise (fun x y=>ltL x y=true):=by
   rw[kK,iX];intro i j hi hj BL;have g:∀{i:Nat} (h:i<p.toList.length),p.getD i 0=p.toList[i]:=fun{i} h=>by
    have h':i<p.size:=by simpa using h
    simp[fJ,h']
   have:=u i j BL (by rw[←hp.sz,←aQ];exact hj);rw[g hi,g hj] at this;exact this
  refine⟨.ref (s.heap.objs.size+1),_,?_,rfl,q _ (p.toList.map fun i=>zs.getD i .non) _ hn (Ui hpm) pw (al _ mem)⟩;refine I.laid (t':=s.toks) (fun b o q=>sortedAll_old q) (fz _) (show zT X.prog X.w _ _ _ (.lst (p.toList.map fun i=>zs.getD i .non)) from⟨by rw[aE,aQ,hp.sz];have:=gN;omega,_,e,rl _ mem,he⟩)
end
noncomputable def xW(cs:List Call72):List (List Int):=(aF cs.length).map fun k=>[(cg cs k).ended,(k:Int)]
open Classical in
noncomputable def srtR73(cs:List Call72):List (List Int):=if h:∃l:List (List Int),l.Perm (xW cs)/\l.Pairwise (fun x y=>ltL x y=true) then Classical.choose h else[]
noncomputable def wz(cs:List Call72):List Nat:=(srtR73 cs).map fun r=>(r.getD 1 0).toNat
def xL(cs:List Call72):Prop:=∃l:List (List Int),l.Perm (xW cs)/\l.Pairwise (fun x y=>ltL x y=true)
theorem sI{cs:List Call72}{l:List (List Int)}(hp:l.Perm (xW cs))(hs:l.Pairwise (fun x y=>ltL x y=true)):srtR73 cs=l:=by
 have h:∃l:List (List Int),l.Perm (xW cs)/\l.Pairwise (fun x y=>ltL x y=true):=⟨l,hp,hs⟩
 unfold srtR73;rw[dif_pos h];have c:=Classical.choose_spec h;exact Xc c.2 hs (c.1.trans hp.symm)
theorem Yg{cs:List Call72}:(xW cs).map (fun r=>(r.getD 1 0).toNat)=aF cs.length:=by
 unfold xW;rw[de];exact(ie fun k _=>bL k).trans (ip _)
theorem ql{cs:List Call72}(h:xL cs):(wz cs).Perm (aF cs.length):=by
 obtain⟨l,hp,hs⟩:=h;unfold wz;rw[sI hp hs,←Yg];exact hp.map _
theorem Xe{cs:List Call72}(h:xL cs):(wz cs).Pairwise (fun a b=>(cg cs a).ended<=(cg cs b).ended):=by
 obtain⟨l,hp,hs⟩:=h;unfold wz;rw[sI hp hs,kK];refine List.Pairwise.imp_of_mem (fun{a b} ha hb n5=>?_) hs;obtain⟨i,_,rfl⟩:=bI.mp (hp.mem_iff.mp ha);obtain⟨j,_,rfl⟩:=bI.mp (hp.mem_iff.mp hb);show(cg cs ((i:Int)).toNat).ended<=(cg cs ((j:Int)).toNat).ended;rw[bL,bL];have Fm:(if(cg cs i).ended=(cg cs j).ended then ltL [(i:Int)] [(j:Int)] else decide ((cg cs i).ended<(cg cs j).ended))=true:=n5;split at Fm
 ·omega
 ·have:=of_decide_eq_true Fm;omega
noncomputable def yF(cs:List Call72)(b:List Int)(x:Nat):Option (List Nat):=j5 cs (vA cs (vm cs x)) b
noncomputable def tE(cs:List Call72)(b:List Int):Option (List Nat) :=
 if(aF b.length).all (fun x=>(yF cs b x).isSome)=true then some (y4 cs (wz cs) ((aF b.length).map fun x=>(yF cs b x).getD [])) else none
def Zk(b:List Int)(cs:List Call72)(ns:List Nat):Prop:=ns.Perm (aF cs.length)/\tq cs ns=true/\vM cs b ns=true
theorem Uj{m:Nat}{cs:List Call72}(C:Calls72 m cs){k:Nat}(h:k<cs.length):CallOk72 m (cg cs k):=C.ok _ (Y3 h)
theorem wg{m:Nat}{cs:List Call72}(C:Calls72 m cs):∀k<cs.length,0<=(cg cs k).box/\(cg cs k).box.toNat<m/\(cg cs k).begun<=(cg cs k).ended:=fun k h=>by
 have o:=Uj C h;have:=o.b0;have:=o.b1;exact⟨o.b0,by omega,o.t1⟩
theorem sJ{cs:List Call72}{b:List Int}{x:Nat}{o:List Nat}(h:yF cs b x=some o):o.Perm (vm cs x)/\tq cs o=true/\vM cs b o=true:=by
 obtain⟨vs,hr,hl⟩:=qg h;have hp:=hr.perm hl;rw[sr] at hp;exact⟨hp,Sg hr,Y8 hr⟩
theorem Yh{cs:List Call72}{b:List Int}{x:Nat}(C:Calls72 b.length cs)(h:yF cs b x=none){o:List Nat}(hp:o.Perm (vm cs x))(hk:tq cs o=true)(ha:vM cs b o=true):False:=by
 obtain⟨ws,hr⟩:=j9 (cs:=cs) (ns:=vm cs x) (b:=b) (fun k hk=>(wg C k (y9.mp hk).1).2.2) (r:=o) (p:=[]) (vs:=b) (fun y=>by rw[fX];exact hp.mem_iff) (by rw[fX];exact hp.nodup_iff.mpr qj) .nil hk ha;exact qh h hr (by rw[fX,v8];exact hp.length_eq)
theorem Zl{cs:List Call72}{b:List Int}{ns:List Nat}(C:Calls72 b.length cs)(h:Zk b cs ns){x:Nat}(hx:x<b.length):(ns.filter (xK cs x)).Perm (vm cs x)/\tq cs (ns.filter (xK cs x))=true/\vM cs b (ns.filter (xK cs x))=true:=by
 obtain⟨hp,hk,ha⟩:=h;exact⟨hp.filter _,wN.mpr ((wN.mp hk).sublist gi),ss (fun k oU=>(wg C k (bN.mp (hp.mem_iff.mp oU))).1) hx ha⟩
theorem X9{cs:List Call72}{b:List Int}(C:Calls72 b.length cs)(h:tE cs b=none):¬∃ns,Zk b cs ns:=by
 rintro⟨ns,hf⟩;unfold tE at h;split at h
 ·cases h
 rename_i hn;refine hn (List.all_eq_true.mpr fun x hx=>?_);cases e:yF cs b x with
 |some o=>rfl
 |none =>
  obtain⟨h1,h2,h3⟩:=Zl C hf (bN.mp hx);exact(Yh C e h1 h2 h3).elim
theorem Wa{cs:List Call72}{b:List Int}{ns:List Nat}(C:Calls72 b.length cs)(S:xL cs)(h:tE cs b=some ns):Zk b cs ns:=by
 unfold tE at h;split at h
 ·rename_i nP;obtain rfl:=bQ h;have all:=bR.mp nP;have ex:∀x<b.length,∃o,yF cs b x=some o:=fun x hx=>gX.mp (all x (bN.mpr hx));have gx:∀x<b.length,((aF b.length).map fun x=>(yF cs b x).getD []).getD x []=(yF cs b x).getD []:=fun x hx=>by
   rw[aH,bE,cG hx];rfl
  have ln:((aF b.length).map fun x=>(yF cs b x).getD []).length=b.length:=by rw[aE,aS]
  have fx:∀x<b.length,(((aF b.length).map fun x=>(yF cs b x).getD []).getD x []).Perm (vm cs x)/\tq cs (((aF b.length).map fun x=>(yF cs b x).getD []).getD x [])=true/\vM cs b (((aF b.length).map fun x=>(yF cs b x).getD []).getD x [])=true:=fun x hx=>by
   obtain⟨o,ho⟩:=ex x hx;rw[gx x hx,ho];exact sJ ho
  obtain⟨m1,m2,m3⟩:=sv (cs:=cs) (os:=(aF b.length).map fun x=>(yF cs b x).getD []) (srt:=wz cs) (by rw[ln];exact wg C) (fun x hx=>(fx x (by rwa[ln] at hx)).1) (fun x hx=>(fx x (by rwa[ln] at hx)).2.1) (ql S) (Xe S);refine⟨m2,m3,qZ (fun k hk=>?_) fun x hx=>?_⟩
  ·have:=wg C k (bN.mp (m2.mem_iff.mp hk));exact⟨this.1,this.2.1⟩
  ·rw[m1 x (by rw[ln];exact hx)];exact(fx x hx).2.2
 ·cases h
def Uk(K:FG7)(H:Hp)(x:(Int×List Int)×Addr×V)(e:xg):Prop:=x.1=((e.1.1:Int),e.1.2)/\yX K H x.2.2 e.2
abbrev xh(K:FG7)(H:Hp):List ((Int×List Int)×Addr×V)->List xg->Prop:=Paired (Uk K H)
theorem xh.grow{K:FG7}{H H':Hp}{m:List Addr}{kvs:List ((Int×List Int)×Addr×V)}{E:List xg}(g:Grow m H H')(h:xh K H kvs E):xh K H' kvs E:=Paired.mapP h fun _ _ z=>⟨z.1,z.2.grow g⟩
theorem jf{K:FG7}{H:Hp}{x:(Int×List Int)×Addr×V}{e:xg}{t:Nat}{vs:List Int}(h:Uk K H x e):x.1=((t:Int),vs) ↔ e.1=(t,vs):=by
 rw[h.1];constructor
 ·intro z;have z1:=congrArg Prod.fst z;have z2:=congrArg Prod.snd z;exact lQ (Int.ofNat.inj z1) z2
 ·intro z;rw[z]
theorem Xf{K:FG7}{H:Hp}{t:Nat}{vs:List Int}:∀{kvs:List ((Int×List Int)×Addr×V)} {E:List xg},xh K H kvs E->(kvs.any fun x=>decide (x.1=((t:Int),vs)))=E.any fun e=>decide (e.1=(t,vs))
 |_,_,.nil=>rfl
 |_,_,.cons h r=>by
  rw[dO,dO,Xf r]
  congr 1
  exact decide_eq_decide.mpr (jf h)
theorem Zm{K:FG7}{H:Hp}{t:Nat}{vs:List Int}{v:V}{o:List Nat}(hv:yX K H v o):∀{kvs:List ((Int×List Int)×Addr×V)} {E:List xg},xh K H kvs E→
  xh K H (kvs.map fun x=>if x.1=((t:Int),vs) then(x.1,x.2.1,v) else x) (E.map fun e=>if e.1=(t,vs) then(e.1,o) else e)
 |_,_,.nil=>.nil
 |x::_,e::_,.cons h r=>by
  refine .cons ?_ (Zm hv r);dsimp only
  by_cases c:e.1=(t,vs)
  ·rw[if_pos c,if_pos ((jf h).mpr c)];exact⟨h.1,hv⟩
  ·rw[if_neg c,if_neg (fun z=>c ((jf h).mp z))];exact h
theorem xh.store{K:FG7}{H:Hp}{kvs:List ((Int×List Int)×Addr×V)}{E:List xg}{t:Nat}{vs:List Int}{b:Addr}{v:V}{o:List Nat}(h:xh K H kvs E)(hv:yX K H v o) :
  xh K H (ub kvs ((t:Int),vs) b v) (wL E (t,vs) o):=by
 unfold ub wL;rw[Xf h];split
 ·exact Zm hv h
 ·exact Paired.snoc h ⟨rfl,hv⟩
theorem xh.get{K:FG7}{H:Hp}{kvs:List ((Int×List Int)×Addr×V)}{E:List xg}{i:Nat}{x:(Int×List Int)×Addr×V}(h:xh K H kvs E)(hx:kvs[i]?=some x):∃e,E[i]?=some e/\Uk K H x e:=by
 induction h generalizing i with
 |nil=>cases hx
 |@cons y e ys es h t ih =>
  cases i with
  |zero=>cases hx;exact⟨e,rfl,h⟩
  |succ i=>exact ih hx
noncomputable def yY(ms:List (Nat×Nat)):List (Key×V):=ms.map fun p=>(Sum.inl (p.1:Int),V.int ((p.2:Nat):Int))
def xE(K:FG7)(H:Hp)(v:V)(o:Option (List Nat)):Prop:=match o with
 |none=>v=.non
 |some ns=>yX K H v ns
theorem xE.grow{K:FG7}{H H':Hp}{v:V}{o:Option (List Nat)}{m:List Addr}(h:xE K H v o)(g:Grow m H H'):xE K H' v o:=by
 cases o with
 |none=>exact h
 |some ns=>exact yX.grow h g
structure MsOk73(m:Nat)(cs:List Call72)(ms:List (Nat×Nat)):Prop where
 lt:∀p∈ms,p.1<cs.length
 c40:cs.length<=40
 ok:∀c∈cs,CallOk72 m c
 m16:m<=16
 few:ms.length<=8
def sK(K:FG7):Sp:=sp1 fun x H Q=>∃ns,Sc K H x ns/\ns.Pairwise (·<·)/\(∀k∈ns,k<40)/\∀H',Grow [] H H'->Q (.int (WI ns:Nat)) H'
def qq(K:FG7):Sp:=sp2 fun x y H Q=>∃cs ns,zE K H x cs/\Sc K H y ns/\ns.Pairwise (·<·)/\(∀k∈ns,k<cs.length)/\cs.length<=40/\∀d H',H d=none->Grow [] H H'->H' d=some (.dK (yY (vA cs ns)))->Q (.ref d) H'
noncomputable def Xg(P:Program)(w:World)(K:FG7):Sp:=sp3 fun x y z H Q=>∃(cs:List Call72) (m:Nat) (am:Addr) (ms:List (Nat×Nat)) (ar:Addr) (kvs:List ((Int×List Int)×Addr×V)) (E:List xg),
 zE K H x cs/\y=.ref am/\Rd H am (.dK (yY ms))/\z=.ref ar/\H ar=some (ndO ptI ptT P w ar kvs)/\am≠ar/\NDc ptI ptT K H kvs/\xh K H kvs E/\MsOk73 m cs ms/\(∀e∈E,e.1.2.length=m/\e.2.length<=40)/\E.length*ms.length<=sizeLine∧
 ∀r Av H',H r=none->Grow [am,ar] H H'->Rd H' am (.dK (yY ms))->H' r=some (ndO ptI ptT P w r Av)->NDc ptI ptT K H' Av->xh K H' Av (Y7 cs ms E)->Q (.ref r) H'
def Yi(K:FG7):Sp:=sp3 fun x y z H Q=>∃(b:List Int) (cs:List Call72) (am:Addr) (ms:List (Nat×Nat)),yj K H x b/\zE K H y cs/\z=.ref am/\Rd H am (.dK (yY ms))/\MsOk73 b.length cs ms∧
 ∀v H',Grow [am] H H'->xE K H' v (j5 cs ms b)->Q v H'
def jg:V->Bool
 |.non=>true
 |_=>false
def uc:Value->Bool
 |.none=>true
 |_=>false
def SF(K:FG7):R2:=fun x y H Q=>x=.non/\∃l vs,y=.ref l/\SqL K H l vs/\(∀v∈vs,v=.non\/∃r xs,v=.ref r/\SqT K H r xs)/\Q (.bl (vs.any jg)) H
theorem Wb{X:Cx}{K:FG7}{k:Nat}(hK:X.K=K)(hr:Room k X.A):OpR X (fc .In) (SF K):=by
 subst hK;intro nJ s σ H x y v u Q I rx ry h;obtain⟨rfl,l,vs,rfl,hl,hv,q⟩:=h;obtain rfl:v=aU:=rx;obtain rfl:u=aN l:=ry;obtain⟨nK,r,pl,hz⟩:=I.list hl;have hu:X.A.in1.units<ig:=by have:=hr.un;show X.A.units+1<ig;omega
 have key:∀{vs:List V} {nK:List Value},zP vs nK->(∀v∈vs,v=.non\/∃r xs,v=.ref r/\SqT X.K H r xs)->(∀w∈nK,SeqAt.EqAt X.A.in1 s w .none (uc w))/\nK.any uc=vs.any jg:=by
  intro vs nK r;induction r with
  |nil=>exact fun _=>⟨nofun,rfl⟩
  |@cons v w vs nK rv t ih =>
   intro hv;obtain⟨h1,h2⟩:=ih fun z hz=>hv z (aX _ hz);rcases hv v (bM ..) with rfl|⟨r,xs,rfl,hs⟩
   ·obtain rfl:w=aU:=rv;refine⟨fun z hz=>?_,by rw[dO,dO,h2];rfl⟩;rcases aK.mp hz with rfl|hz
    ·exact SeqAt.EqAt.same _
    ·exact h1 z hz
   ·obtain rfl:w=aN r:=rv;obtain⟨ws,_,t2,_⟩:=I.tuple hs;refine⟨fun z hz=>?_,by rw[dO,dO,h2];rfl⟩;rcases aK.mp hz with rfl|hz
    ·exact SeqAt.EqAt.tuple_none (XN t2) hu
    ·exact h1 z hz
 obtain⟨h1,h2⟩:=key r hv;refine SeqAt.in_listAt uc pl.isList (fun w hw=>h1 w (by simpa using hw)) ⟨.bl _,H,I,rfl,?_⟩;rw[show nK.toArray.any uc=nK.any uc by simp,h2];exact q
theorem sL:∀{l l':List Nat},l.Nodup->(∀x∈l,x∈l')->l.length<=l'.length
 |[],_,_,_=>cw _
 |a::l,l',nd,hm=>by
  obtain⟨na,Fa⟩:=gJ.mp nd;have pe:=List.perm_cons_erase (hm a (bM ..));have:=sL (l':=l'.erase a) Fa fun n hn=>(List.mem_erase_of_ne (fun z=>na (by rw[←z];exact hn))).mpr (hm n (aX _ hn));have e:=pe.length_eq;rw[cJ] at e ⊢;omega
theorem J9{ns:List Nat}{n:Nat}(pw:ns.Pairwise (·<·))(lt:∀k∈ns,k<n):ns.length<=n:=by
 have nd:ns.Nodup:=pw.imp fun h=>aW h;have:=sL (l:=ns) (l':=aF n) nd fun x hx=>bN.mpr (lt x hx);rwa[aS] at this
theorem Zn:∀ns:List Nat,((ns.map fun k:Nat=>(k:Int)).map fun i=>1*(2:Int) ^ i.toNat).sum=((ns.map fun i=>2 ^ i).sum:Nat)
 |[]=>rfl
 |k::ns=>by
  rw[cz,cz,my,Zn ns,cz,my,bL,Int.one_mul,Int.natCast_add,mR];rfl
theorem SG{ms:List (Nat×Nat)}{n:Nat}(h:n∉ms.map (·.1)):u5 (yY ms) (Sum.inl (n:Int))=none:=by
 have key:∀ms:List (Nat×Nat),n∉ms.map (·.1)->u5 (yY ms) (Sum.inl (n:Int))=none:=by
  intro ms;induction ms with
  |nil=>exact fun _=>rfl
  |cons p ms ih =>
   intro h;rw[cz,aK,not_or] at h;show u5 ((Sum.inl (p.1:Int),V.int ((p.2:Nat):Int))::yY ms) _=none;rw[yx (fun z=>h.1 (by injection z with z;omega))];exact ih h.2
 exact key ms h
theorem Xh{ms:List (Nat×Nat)}{n M:Nat}(h:n∉ms.map (·.1)):Ze (yY ms) (Sum.inl (n:Int)) (V.int ((M:Nat):Int))=yY (ms++[(n,M)]):=by
 rw[Sk _ (SG h)];unfold yY;rw[bZ];rfl
theorem SH{ms:List (Nat×Nat)}{i:Nat}{p:V×V}(h:((yY ms).map fun q=>(kV q.1,q.2))[i]?=some p):∃q,ms[i]?=some q/\p=(V.int (q.1:Int),V.int ((q.2:Nat):Int)):=by
 unfold yY at h;rw[de,bE] at h;obtain⟨q,hq,rfl⟩:=eF.mp h;exact⟨q,hq,rfl⟩
theorem yh{α:Type}{l:List α}{i:Nat}{x:α}(h:l[i]?=some x):l.take (i+1)=l.take i++[x]:=by rw[im,h];rfl
theorem Grow.setK73{m:List Addr}{H:Hp}{d:Addr}{kvs:List (Key×V)}{o:HO}(h:H d=some (.dK kvs))(hm:d∈m):Grow m H (upd H d o) :=
 ⟨fun b v hb q=>by rw[zq (show b≠d from fun z=>hb (by rw[z];exact hm))];exact q,fun b zs q=>by rw[zq (fun z=>by subst z;rw[h] at q;cases q)];exact q,fun b u v q=>by rw[zq (fun z=>by subst z;rw[h] at q;cases q)];exact q⟩
theorem Grow.setE73{m:List Addr}{H:Hp}{d:Addr}{φ:Heap->Prop}{o:HO}(h:H d=some (.ext φ))(hm:d∈m):Grow m H (upd H d o) :=
 ⟨fun b v hb q=>by rw[zq (show b≠d from fun z=>hb (by rw[z];exact hm))];exact q,fun b zs q=>by rw[zq (fun z=>by subst z;rw[h] at q;cases q)];exact q,fun b u v q=>by rw[zq (fun z=>by subst z;rw[h] at q;cases q)];exact q⟩
theorem Ul{cs:List Call72}{i x:Nat}:(aF (i+1)).filter (xK cs x)=(aF i).filter (xK cs x)++if(cg cs i).box=(x:Int) then[i] else[]:=by
 rw[fB,gy]
 congr 1
 by_cases c:(cg cs i).box=(x:Int)
 ·rw[if_pos c,eE,if_pos (decide_eq_true c)];rfl
 ·rw[if_neg c,eE,if_neg (by rw[decide_eq_true_eq];exact c)];rfl
theorem Um{t n:Nat}:decide (V.int (iK ((t:Int) / 2 ^ ((n:Int)).toNat) 1)=V.int 0)=decide (t.testBit n=false):=by
 rw[T6,show(1:Int)=((1:Nat):Int) from rfl,Vq,Nat.and_one_is_mod,Nat.testBit_eq_decide_div_mod_eq];refine decide_eq_decide.mpr ⟨fun h=>?_,fun h=>?_⟩
 ·injection h with h
  rw[decide_eq_false_iff_not];omega
 ·rw[decide_eq_false_iff_not] at h;have:t / 2 ^ n % 2=0:=by omega
  rw[this];rfl
theorem Uo{t M:Nat}:decide (V.int (iK (M:Int) (t:Int))=V.int (M:Int))=decide (M &&& t=M):=by
 rw[Vq];exact decide_eq_decide.mpr ⟨fun h=>by injection h with h;omega,fun h=>by rw[h]⟩
theorem SI{t n:Nat}:iZ (t:Int) (1*2 ^ ((n:Int)).toNat)=((t |||2 ^ n:Nat):Int):=by rw[Qj,JH]
theorem Up{vs:List Int}{i:Nat}{v:Int}(h:i<vs.length):(vs.map V.int).take i++[V.int v]++(vs.map V.int).drop (i+1)=(vs.set i v).map V.int:=by
 rw[←nv,←List.map_drop,show[V.int v]=[v].map V.int from rfl,←bZ,←bZ,List.set_eq_take_append_cons_drop,if_pos h,dI];rfl
theorem Wc{cs:List Call72}{ms:List (Nat×Nat)}{E:List xg}{e:xg}{i j:Nat}(hi:i<E.length)(hj:j<ms.length):((ms.take j).foldl (yr cs e) ((E.take i).foldl (z8 cs ms) [])).length<E.length*ms.length:=by
 have h1:=uD (cs:=cs) (ms:=ms) (E:=E.take i) (F:=[]);have h2:=uC (cs:=cs) (e:=e) (ms:=ms.take j) (F:=(E.take i).foldl (z8 cs ms) []);have h3:((ms.take j).foldl (yr cs e) ((E.take i).foldl (z8 cs ms) [])).length<=((E.take i).foldl (z8 cs ms) []).length+(ms.take j).length:=h2;rw[bT] at h1 h3;have h4:(i+1)*ms.length<=E.length*ms.length:=gQ _ hi;rw[lG (by omega)] at h1 h3;rw[Nat.add_mul] at h4;simp only[eX,lN] at h1;omega
def zby(σ:L2.St)(x y z u a b c:Option V):Prop:=∃e7 e8 e9 Cd DF DG Fn Fo Fp EG:Option V,σ=[x,y,z,u,a,b,c,e7,e8,e9,Cd,DF,DG,Fn,Fo,Fp,EG]
structure Om73(P:Program)(w:World)(K:FG7)(H:Hp)(am ar d:Addr)(o:Obj)(ms:List (Nat×Nat))(kvs:List ((Int×List Int)×Addr×V))(F:List xg)(H':Hp):Prop where
 g:Grow [am,ar,d] H H'
 r:H' ar=some (.frz o (ndO ptI ptT P w ar kvs))
 m:Rd H' am (.dK (yY ms))
 d:∃Av,H' d=some (ndO ptI ptT P w d Av)/\NDc ptI ptT K H' Av/\xh K H' Av F
theorem Om73.grow{P:Program}{w:World}{K:FG7}{H H1 H2:Hp}{am ar d:Addr}{o:Obj}{ms:List (Nat×Nat)}{kvs:List ((Int×List Int)×Addr×V)}{F:List xg}(h:Om73 P w K H am ar d o ms kvs F H1)(g:Grow [] H1 H2):Om73 P w K H am ar d o ms kvs F H2:=by
 obtain⟨Av,h1,h2,h3⟩:=h.d;exact⟨h.g.trans g.wk,g.keep _ _ (by simp) h.r,h.m.imp (fun z=>g.keep _ _ (by simp) z) fun⟨o,z⟩=>⟨o,g.keep _ _ (by simp) z⟩,Av,g.keep _ _ (by simp) h1,h2.grow g,h3.grow g⟩
theorem Uq{cs:List Call72}{ms:List (Nat×Nat)}{b:List Int}{o:List Nat}{vs:List Int}(h:Run73 cs ms b o vs):vs.length=b.length:=by
 induction h with
 |nil=>rfl
 |snoc h hm hn hj ha ih=>unfold wM;rw[cT,ih]
theorem SJ{cs:List Call72}{ms:List (Nat×Nat)}{b:List Int}{r:Nat}(hr:r<=40):∀e∈vd cs ms b r,e.1.2.length=b.length/\e.2.length<=40:=fun e he=>by
 obtain⟨h1,_,h3⟩:=we r e he;exact⟨Uq h3,by omega⟩
theorem Ur{n r:Nat}(h:n<=8)(hr:r<=8):n ^ r<=sizeLine:=by
 have h1:n ^ r<=8 ^ r:=Nat.pow_le_pow_left h r;have h2:8 ^ r<=8 ^ 8:=Nat.pow_le_pow_right (by decide) hr;rw[gN];exact cH (cH h1 h2) (by decide)
theorem Us{cs:List Call72}{ms:List (Nat×Nat)}{b:List Int}{r:Nat}(h:ms.length<=8)(hr:r<ms.length):(vd cs ms b r).length*ms.length<=sizeLine:=by
 have h1:=gQ ms.length (sj (cs:=cs) (ms:=ms) (b:=b) r);have h2:=Ur h (show r+1<=8 by omega);exact cH h1 h2
theorem Wd{cs:List Call72}{ms:List (Nat×Nat)}{b:List Int}(h:ms.length<=8):(vd cs ms b ms.length).length<=sizeLine:=cH (sj _) (Ur h h)
theorem SK{c x:Nat}{own tog:List Nat}(h:c∈x::own):yS c (x::own) tog=yS c own (tog++[x]):=by
 show(if c∈x::own then yS c own (tog++[x]) else(x::own,tog))=_;rw[if_pos h]
theorem Ut{c:Nat}{own tog:List Nat}(h:c∉own):yS c own tog=(own,tog):=by
 cases own with
 |nil=>rfl
 |cons x own =>
  show(if c∈x::own then yS c own (tog++[x]) else(x::own,tog))=_;rw[if_neg h]
theorem Zo{cs:List Call72}:(xW cs).Nodup:=by
 unfold xW;exact List.pairwise_map.mpr (List.nodup_range.imp fun{a b} h z=>h (by injection z with _ z;injection z with z _;omega))
theorem We{k:Nat}{ns:List Nat}:inV (V.int (k:Int)) (zC ns)=decide (k∈ns):=by
 rw[yf,T8];refine decide_eq_decide.mpr ⟨fun h=>?_,fun h=>bI.mpr ⟨k,h,rfl⟩⟩;obtain⟨j,hj,e⟩:=bI.mp h;have:j=k:=Int.ofNat.inj e;rw[←this];exact hj
theorem zaa{b:List Int}{cs:List Call72}{x:Nat}(AJ:b.length<=16)(C:Calls72 b.length cs):MsOk73 b.length cs (vA cs (vm cs x)) where
 lt:=fun p hp=>by
  obtain⟨n,hn,rfl⟩:=bI.mp hp;exact(y9.mp hn).1
 c40:=C.len
 ok:=C.ok
 m16:=AJ
 few:=by rw[v8,v9];exact C.few x
theorem qr{K:FG7}{H:Hp}:∀{vs:List V} {os:List (Option (List Nat))},yG (xE K H) vs os->(vs.any jg)=!(os.all nw)/\∀v∈vs,v=.non\/∃r xs,v=.ref r/\SqT K H r xs
 |[],[],_=>⟨rfl,nofun⟩
 |v::vs,o::os,⟨h,t⟩=>by
  obtain⟨h1,h2⟩:=qr t;rw[dO,fL,h1];cases o with
  |none =>
   obtain rfl:v=.non:=h;exact⟨rfl,fun w hw=>(aK.mp hw).elim (fun z=>.inl z) (h2 w)⟩
  |some ns =>
   obtain⟨r,rfl,hr⟩:=(show yX K H v ns from h)
   exact⟨rfl,fun w hw=>(aK.mp hw).elim (fun z=>.inr ⟨r,_,z,hr⟩) (h2 w)⟩
theorem Zp{K:FG7}{H:Hp}:∀{vs:List V} {os:List (Option (List Nat))},yG (xE K H) vs os->os.all nw=true->yG (yX K H) vs (os.map (·.getD []))
 |[],[],_,_=>trivial
 |v::vs,o::os,⟨h,t⟩,a=>by
  rw[fL,aJ] at a;refine⟨?_,Zp t a.2⟩;cases o with
  |none=>cases a.1
  |some ns=>exact h
theorem yG.at73{K:FG7}{H H':Hp}{m:List Addr}(g:Grow m H H'){vs:List V}{os:List (Option (List Nat))}(h:yG (xE K H) vs os):yG (xE K H') vs os:=h.imp fun _ _ z=>z.grow g
section
variable{BY:Nat->Nat->Bool}
noncomputable def ud(BY:Nat->Nat->Bool)(ns:List Nat):List (Nat×Nat):=ns.map fun n=>(n,WI (ns.filter fun j=>BY j n))
theorem sM{ns:List Nat}:(ud BY ns).map (·.1)=ns:=by
 unfold ud;rw[de]
 conv=>rhs;rw[←ip ns]
 rfl
theorem ue{ns:List Nat}:(ud BY ns).length=ns.length:=aE ..
theorem Uu{cs:List Call72}{ns:List Nat}{b:List Int}{o:List Nat}{vs:List Int}(h:Run73 cs (ud BY ns) b o vs):∀k∈o,∀j∈ns,BY j k=true->j∈o:=by
 induction h with
 |nil=>exact nofun
 |@snoc o vs n M h hm hn hj ha ih =>
  intro k hk j Fb lt;rcases bH.mp hk with z|z
  ·exact cW _ (ih k z j Fb lt)
  ·have ek:=aR.mp z;subst ek;obtain⟨n',_,e⟩:=bI.mp hm;injection e with e1 e2
   subst e1;refine cW _ (hj j ?_);rw[←e2];exact(qY _ j).mpr (dX.mpr ⟨Fb,lt⟩)
theorem SL{cs:List Call72}{ns:List Nat}{b:List Int}{o:List Nat}{vs:List Int}(h:Run73 cs (ud BY ns) b o vs):o.Pairwise (fun k j=>¬BY j k=true):=by
 induction h with
 |nil=>exact .nil
 |@snoc o vs n M h hm hn hj ha ih =>
  refine fh.mpr ⟨ih,by simp,fun k hk j pO lt=>?_⟩;rw[aR.mp pO] at lt;have AU:n∈ns:=by
   have:n∈(ud BY ns).map (·.1):=bI.mpr ⟨_,hm,rfl⟩;rwa[sM] at this
  exact hn (Uu h k hk n AU lt)
theorem qt{cs:List Call72}{ns:List Nat}{b:List Int}(irr:∀k,BY k k=false):∀{r p:List Nat} {vs:List Int},(∀x,x∈p++r ↔ x∈ns)->(p++r).Nodup->Run73 cs (ud BY ns) b p vs->r.Pairwise (fun k j=>¬BY j k=true)->vM cs vs r=true→
  ∃ws,Run73 cs (ud BY ns) b (p++r) ws
 |[],p,vs,_,_,h,_,_=>⟨vs,by rw[cS];exact h⟩
 |n::r,p,vs,hm,nd,h,hk,ha=>by
  have oU:=dW.mp hk;have AU:n∈ns:=(hm n).mp (by simp);rw[xu] at ha;have hv:vs.getD (cg cs n).box.toNat 0=(cg cs n).answer:=by
   by_cases c:vs.getD (cg cs n).box.toNat 0=(cg cs n).answer
   ·exact c
   ·rw[if_neg c] at ha;cases ha
  rw[if_pos hv] at ha;have np:n∉p:=fun z=>(gS.mp nd).2.2 n z n (by simp) rfl;have e:p++n::r=(p++[n])++r:=by rw[dI];rfl
  rw[e] at hm nd ⊢;refine qt irr hm nd (.snoc h (bI.mpr ⟨n,AU,rfl⟩) np (fun j hj=>?_) hv) oU.2 ha;obtain⟨j1,j2⟩:=dX.mp ((qY _ j).mp hj);rcases bH.mp ((hm j).mpr j1) with z|z
  ·rcases bH.mp z with z|z
   ·exact z
   ·rw[aR.mp z,irr] at j2;cases j2
  ·exact absurd j2 (oU.1 j z)
end
noncomputable def zS(cs:List Call72)(j n:Nat):Bool:=decide ((cg cs j).hand=(cg cs n).hand) && decide ((cg cs j).begun<(cg cs n).begun)
noncomputable def rq(cs:List Call72):List Nat->Bool
 |[]=>true
 |k::r=>!(r.any fun j=>zS cs j k) && rq cs r
theorem vF{cs:List Call72}:∀{o:List Nat},rq cs o=true ↔ o.Pairwise (fun k j=>¬zS cs j k=true)
 |[]=>by simp[rq]
 |k::r=>by
  show(!(r.any fun j=>zS cs j k) && rq cs r)=true ↔ _;rw[aJ,dW,vF,cX,fT]
def jh(b:List Int)(cs:List Call72)(ns:List Nat):Prop:=ns.Perm (aF cs.length)/\rq cs ns=true/\vM cs b ns=true
noncomputable def qu(cs:List Call72)(b:List Int):Option (List Nat):=j5 cs (ud (zS cs) (aF cs.length)) b
theorem Wf{cs:List Call72}(k:Nat):zS cs k k=false:=by
 unfold zS;rw[decide_eq_false (p:=(cg cs k).begun<(cg cs k).begun) (by omega),io]
theorem Yj{cs:List Call72}{b:List Int}{o:List Nat}(h:qu cs b=some o):jh b cs o:=by
 obtain⟨vs,hr,hl⟩:=qg h;have:=hr.perm hl;rw[sM] at this;exact⟨this,vF.mpr (SL hr),Y8 hr⟩
theorem Yk{cs:List Call72}{b:List Int}(h:qu cs b=none){o:List Nat}(hs:jh b cs o):False:=by
 obtain⟨h1,h2,h3⟩:=hs;obtain⟨ws,hr⟩:=qt (cs:=cs) (ns:=aF cs.length) (b:=b) Wf (r:=o) (p:=[]) (vs:=b) (fun x=>h1.mem_iff) (h1.nodup_iff.mpr mK) .nil (vF.mp h2) h3;exact qh h hr (by rw[fX,ue];exact h1.length_eq)
noncomputable def ve(cs:List Call72):List Nat->Int->Option Int
 |[],_=>none
 |k::r,h=>match ve cs r h with
  |some v=>some v
  |none=>if(cg cs k).hand=h then some (cg cs k).begun else none
theorem qv{cs:List Call72}{h:Int}{k:Nat}:∀{o:List Nat},ve cs (o++[k]) h=if(cg cs k).hand=h then some (cg cs k).begun else ve cs o h
 |[]=>rfl
 |j::o=>by
  show(match ve cs (o++[k]) h with|some v=>some v|none=>if(cg cs j).hand=h then some (cg cs j).begun else none)=_;rw[qv];by_cases c:(cg cs k).hand=h
  ·rw[if_pos c,if_pos c]
  ·rw[if_neg c,if_neg c];rfl
theorem Uv{cs:List Call72}{k:Nat}{o:List Nat}(h:rq cs o=true)(b0:0<=(cg cs k).begun)(hb:∀j∈o,0<=(cg cs j).begun):rq cs (o++[k])=!decide ((ve cs o (cg cs k).hand).getD 0>(cg cs k).begun):=by
 have key:∀{o:List Nat},rq cs o=true->(∀j∈o,0<=(cg cs j).begun)->(∀j∈o,(cg cs j).hand=(cg cs k).hand->(cg cs j).begun<=(ve cs o (cg cs k).hand).getD 0)/\(ve cs o (cg cs k).hand=none\/∃j∈o,(cg cs j).hand=(cg cs k).hand/\ve cs o (cg cs k).hand=some (cg cs j).begun):=by
  intro o;induction o with
  |nil=>intro _ _;exact⟨nofun,.inl rfl⟩
  |cons j o ih =>
   intro h hb;have h':(!(o.any fun i=>zS cs i j) && rq cs o)=true:=h;rw[aJ,cX,fT] at h';obtain⟨i1,i2⟩:=ih h'.2 fun i hi=>hb i (aX _ hi);have e:ve cs (j::o) (cg cs k).hand=match ve cs o (cg cs k).hand with|some v=>some v|none=>if(cg cs j).hand=(cg cs k).hand then some (cg cs j).begun else none:=rfl
   rcases i2 with n|⟨i,hi,hh,hv⟩
   ·rw[n] at e i1;have e':ve cs (j::o) (cg cs k).hand=if(cg cs j).hand=(cg cs k).hand then some (cg cs j).begun else none:=e
    by_cases c:(cg cs j).hand=(cg cs k).hand
    ·rw[if_pos c] at e';rw[e'];refine⟨fun i hi hc=>?_,.inr ⟨j,bM ..,c,rfl⟩⟩;rcases aK.mp hi with rfl|hi
     ·exact Int.le_refl _
     ·have z1:=i1 i hi hc;have z2:=hb i (aX _ hi);have z3:=hb j (bM ..);have z4:(none:Option Int).getD 0=0:=rfl;rw[z4] at z1;show(cg cs i).begun<=(cg cs j).begun;omega
    ·rw[if_neg c] at e';rw[e'];refine⟨fun i hi hc=>?_,.inl rfl⟩;rcases aK.mp hi with rfl|hi
     ·exact absurd hc c
     ·exact i1 i hi hc
   ·rw[hv] at e i1;have e':ve cs (j::o) (cg cs k).hand=some (cg cs i).begun:=e;rw[e'];refine⟨fun l hl hc=>?_,.inr ⟨i,aX _ hi,hh,rfl⟩⟩;rcases aK.mp hl with rfl|hl
    ·have:=h'.1 i hi;unfold zS at this;rw[aJ,decide_eq_true_eq,decide_eq_true_eq] at this;show(cg cs l).begun<=(cg cs i).begun;have:¬(cg cs i).begun<(cg cs l).begun:=fun z=>this ⟨by rw[hh,hc],z⟩;omega
    ·exact i1 l hl hc
 obtain⟨k1,k2⟩:=key h hb;rw[dh,vF,List.pairwise_append,cX,decide_eq_false_iff_not];constructor
 ·rintro⟨_,_,h3⟩ lt;rcases k2 with n|⟨j,hj,hh,hv⟩
  ·rw[n] at lt;have:(none:Option Int).getD 0=0:=rfl;omega
  ·rw[hv] at lt;have lt':(cg cs j).begun>(cg cs k).begun:=lt;refine h3 j hj k (List.mem_singleton.mpr rfl) ?_;unfold zS;rw[aJ,decide_eq_true_eq,decide_eq_true_eq];exact⟨hh.symm,lt'⟩
 ·intro le;refine⟨vF.mp h,by simp,fun j hj k' oU bf=>?_⟩;rw[aR.mp oU] at bf;unfold zS at bf;rw[aJ,decide_eq_true_eq,decide_eq_true_eq] at bf;have:=k1 j hj bf.1.symm;omega
theorem SM{cs:List Call72}{o r:List Nat}(h:rq cs (o++r)=true):rq cs o=true:=vF.mpr (fh.mp (vF.mp h)).1
def xB(cs:List Call72):Prop:=∀i j,i<cs.length->j<cs.length->(cg cs i).hand=(cg cs j).hand->(cg cs i).begun=(cg cs j).begun->i=j
def Uw(K:FG7):Sp:=sp2 fun x y H Q=>∃cs o,zE K H x cs/\(∀c∈cs,0<=c.begun)/\yX K H y o/\(∀k∈o,k<cs.length)/\o.length<=40/\∀H',Grow [] H H'->Q (.bl (rq cs o)) H'
def Ux(b:List Int)(cs:List Call72)(d:PyData):Prop:=∃ns,uA cs.length d ns/\rq cs ns=true/\vM cs b ns=true
def Uy(K:FG7):Sp:=sp1 fun x H Q=>∃cs,zE K H x cs/\cs.length<=40/\∀d H',H d=none->Grow [] H H'->H' d=some (.dK (yY (ud (zS cs) (aF cs.length))))->Q (.ref d) H'
def rE(xs:Array Nat):Prop:=∀i j (h:j<xs.size) (ij:i<j),xs[i]<xs[j]
theorem ji{xs:Array Nat}{j:Nat}(hr:rE xs):∀(fuel lo hi:Nat),hi-lo<=fuel->lo<=hi->hi<=xs.size->(∀i (h:i<xs.size),i<lo->xs[i]<j)->(∀i (h:i<xs.size),hi<=i->j<=xs[i])→
  fq xs j fuel lo hi<=xs.size/\(∀i (h:i<xs.size),i<fq xs j fuel lo hi->xs[i]<j)/\(∀i (h:i<xs.size),fq xs j fuel lo hi<=i->j<=xs[i])
 |0,lo,hi,hf,hl,hs,h1,h2=>by
  unfold fq;exact⟨by omega,h1,fun i h pU=>h2 i h (by omega)⟩
 |fuel+1,lo,hi,hf,hl,hs,h1,h2=>by
  unfold fq;split
  ·rename_i n5;have hm:(lo+hi) / 2<xs.size:=by omega
   simp only[fJ,hm,dite_true]
   split
   ·rename_i hv;refine ji hr fuel _ _ (by omega) (by omega) hs (fun i h pU=>?_) h2;rcases ma (Nat.lt_succ_iff.mp pU) with z|z
    ·exact iS (hr i _ hm z) hv
    ·subst z;exact hv
   ·rename_i hv;refine ji hr fuel _ _ (by omega) (by omega) (by omega) h1 (fun i h pU=>?_);rcases ma pU with z|z
    ·exact cH (mI hv) (c7 (hr _ i h z))
    ·subst z;exact mI hv
  ·exact⟨by omega,h1,fun i h pU=>h2 i h (by omega)⟩
theorem Uz{xs:Array Nat}(hr:rE xs)(j:Nat):cy xs j<=xs.size/\(∀i (h:i<xs.size),i<cy xs j->xs[i]<j)/\(∀i (h:i<xs.size),cy xs j<=i->j<=xs[i]) :=
 ji hr _ _ _ (by omega) (by omega) (aG _) (fun i _ z=>absurd z (by omega)) (fun i h z=>absurd z (by omega))
theorem sN{xs:Array Nat}:rE xs ↔ xs.toList.Pairwise (·<·):=by
 rw[iX];constructor
 ·intro h i j hi hj ij;simpa using h i j (by simpa using hj) ij
 ·intro h i j hj ij;have Dl:j<xs.toList.length:=by rw[aQ];exact hj
  exact h i j (iS ij Dl) Dl ij
def zab(t:SetTable)(j:Nat):Prop:=t.place[cy t.place j]?≠some j
theorem Wg{t:SetTable}{j:Nat}(h:t.slot j=.empty):zab t j:=fun z=>by
 unfold lv at h;simp[z] at h
theorem SN{t:SetTable}{j:Nat}(hr:rE t.place)(hf:zab t j):rE (t.put j).1.place:=by
 obtain⟨b1,b2,b3⟩:=Uz hr j;rw[sN];show(cY t.place (cy t.place j) j).toList.Pairwise (·<·);rw[dP,List.pairwise_append];have pw:=sN.mp hr;refine⟨pw.sublist (List.take_sublist _ _),?_,?_⟩
 ·rw[dW];refine⟨fun a ha=>?_,pw.sublist (List.drop_sublist _ _)⟩;obtain⟨i,hi,e⟩:=lD.mp ha;rw[List.getElem_drop] at e;rw[ik] at hi;have Gw:cy t.place j+i<t.place.size:=by rw[aQ] at hi;omega
  have e2:t.place[cy t.place j+i]=a:=by simpa using e
  have h0:cy t.place j<t.place.size:=by omega
  have p0:j<t.place[cy t.place j]:=by
   have:=b3 _ h0 (aG _);rcases ma this with z|z
   ·exact z
   ·exact absurd (by rw[cF h0,←z]) hf
  rcases Nat.eq_zero_or_pos i with z|z
  ·subst z;rw[←e2];exact p0
  ·rw[←e2];exact iS p0 (hr _ _ Gw (by omega))
 ·intro a ha b hb;obtain⟨i,hi,e⟩:=lD.mp ha;rw[List.getElem_take] at e;rw[bT,aQ] at hi;have a1:a<j:=by rw[←e];simpa using b2 i (by omega) (by omega)
  rcases aK.mp hb with z|z
  ·rw[z];exact a1
  ·obtain⟨i2,Gw,e2⟩:=lD.mp z;rw[List.getElem_drop] at e2;rw[ik,aQ] at Gw;have:=b3 (cy t.place j+i2) (by omega) (by omega);rw[←e2];exact aV a1 (by simpa using this)
section
variable{prog:Program}{w:World}{A:Around}{E:VS7}{s:Shared}
theorem QM(a:Value){Q₁:VS7}
  (h:Q₁ (.ref s.heap.objs.size) { s with heap:=s.heap.push { cls:=.type "set",dict:=none,data:=.set #[] 0 (.fresh 0 0 (!w.params.followText "set-order")) } }) :
  iw (model prog w) A (.call (.builtin "set.__new__") ⟨[.type "set",a],[]⟩) (wants Q₁ E) s:=by
 refine mV ?_;show wpAny _ A.in1 (do checkBuiltinCall "set.__new__" ⟨[.type "set",a],[]⟩;again (.builtin "set.__new__" ⟨[.type "set",a],[]⟩)) _ _ s;refine aA (iM (PySem.F.newCall_set_1 a) (aB ⟨mC PySem.F.plain_set_new _,dC PySem.F.entry_set_new ?_⟩));rw[Around.under_plainId PySem.F.plain_set_new _];unfold Builtin.«set.__new__» Builtin.Frozenset.newClass;have Bh:=sub_set_self;obtain⟨hp,g,d,tk,os⟩:=s;dsimp only
 wp_walk
 refine wpAny_askSetting (aB ?_);dsimp only
 simp only[newObj]
 exact aA (wpAny_alloc (aB (aB h)))
end
noncomputable def itP{α:Type}(f:α->α):Nat->α->α
 |0,x=>x
 |n+1,x=>itP f n (f x)
theorem yT{α:Type}{f:α->α}:∀{a b:Nat} {x:α},itP f (a+b) x=itP f b (itP f a x)
 |0,b,x=>by rw[lN];rfl
 |a+1,b,x=>by
  rw[show a+1+b=(a+b)+1 from by omega];show itP f (a+b) (f x)=itP f b (itP f a (f x));exact yT
def lpP(m:Nat)(x:Nat×Nat):Nat×Nat:=dw m x.1 x.2
theorem UA{m:Nat}:∀{n:Nat} {x:Nat×Nat},(itP (lpP m) n x).2=x.2 / 32 ^ n
 |0,x=>by show x.2=x.2 / 1;rw[Nat.div_one]
 |n+1,x=>by
  show(itP (lpP m) n (lpP m x)).2=_;rw[UA];show x.2 / 32 / 32 ^ n=_;rw[Nat.div_div_eq_div_mul,Nat.pow_succ,nE]
theorem zac{m:Nat}{n:Nat}{x:Nat×Nat}(h:0<n):(itP (lpP m) n x).1<=m:=by
 obtain⟨n,rfl⟩:∃k,n=k+1:=⟨n-1,by omega⟩
 rw[yT];show(dw m (itP (lpP m) n x).1 (itP (lpP m) n x).2).1<=m;unfold dw;exact mr (Nat.mod_lt _ (nF m))
def uG(m:Nat):Prop:=m=7\/m=31\/m=127
theorem QN(m:Nat)(h:uG m):(∀i,i<m+1->∃a,a<m+1/\(itP (lpP m) a (0,0)).1=i)/\itP (lpP m) (m+1) (0,0)=(0,0):=by
 rcases h with rfl|rfl|rfl
 ·decide +kernel
 ·decide +kernel
 ·decide +kernel
theorem zad{m:Nat}(h:uG m){i t:Nat}(hi:i<=m)(ht:t<=m):∃k,k<=m/\(itP (lpP m) k (i,0)).1=t:=by
 obtain⟨h1,h2⟩:=QN m h;obtain⟨a,a1,a2⟩:=h1 i (by omega);obtain⟨b,b1,b2⟩:=h1 t (by omega);have e:itP (lpP m) a (0,0)=(i,0):=lQ a2 (by rw[UA];exact Nat.zero_div _);by_cases c:a<=b
 ·refine⟨b-a,by omega,?_⟩;rw[←e,←yT,show a+(b-a)=b by omega];exact b2
 ·refine⟨m+1-a+b,by omega,?_⟩;rw[←e,←yT,show a+(m+1-a+b)=m+1+b by omega,yT,h2];exact b2
theorem Zq{m:Nat}(h:uG m){i p t:Nat}(hp:p<2 ^ 64)(ht:t<=m):∃L,L<=13+m/\(itP (lpP m) L (i,p)).1=t:=by
 have e:itP (lpP m) 13 (i,p)=((itP (lpP m) 13 (i,p)).1,0):=lQ rfl (by rw[UA];exact Nat.div_eq_of_lt (iS hp (by decide)));obtain⟨k,k1,k2⟩:=zad h (zac (m:=m) (n:=13) (x:=(i,p)) (by decide)) ht;refine⟨13+k,by omega,?_⟩;rw[yT,e];exact k2
theorem UB{m i:Nat}:dD m i-i<=9:=by
 unfold dD;split <;> omega
theorem uH{t:SetTable}:∀(c:Nat) (p:da),p.more=c->∃q,itP t.advance (c+1) p=q/\(q.i,q.perturb)=lpP t.mask (p.i,p.perturb)/\q.j=q.i/\q.more<=9/\q.dummy=p.dummy
 |0,p,h=>by
  refine⟨t.advance p,rfl,?_⟩;have e:t.advance p={ p with j:=(dw t.mask p.i p.perturb).1,more:=dD t.mask (dw t.mask p.i p.perturb).1-(dw t.mask p.i p.perturb).1,i:=(dw t.mask p.i p.perturb).1,perturb:=(dw t.mask p.i p.perturb).2 }:=by
   unfold iV;rw[if_neg (by omega)]
  rw[e];exact⟨rfl,rfl,UB,rfl⟩
 |c+1,p,h=>by
  have e:t.advance p={ p with j:=p.j+1,more:=p.more-1 }:=by
   unfold iV;rw[if_pos (by omega)]
  obtain⟨q,q1,q2,q3,q4,q5⟩:=uH c (t.advance p) (by rw[e];show p.more-1=c;omega);refine⟨q,q1,?_,q3,q4,?_⟩
  ·rw[q2,e]
  ·rw[q5,e]
theorem sO{t:SetTable}:∀(L:Nat) (p:da),p.more<=9->p.j=p.i->∃n q,n<=10*L/\itP t.advance n p=q/\q.j=(itP (lpP t.mask) L (p.i,p.perturb)).1
 |0,p,h,e=>⟨0,p,aG _,rfl,e⟩
 |L+1,p,h,e=>by
  obtain⟨q,q1,q2,q3,q4,q5⟩:=uH (t:=t) p.more p rfl;obtain⟨n,r,n1,n2,n3⟩:=sO (t:=t) L q q4 q3;refine⟨p.more+1+n,r,by omega,?_,?_⟩
  ·rw[yT,q1];exact n2
  ·rw[n3,q2];rfl
def Tn(t:SetTable)(N:Nat)(p:da):Prop:=∃n,n<N/\t.slot (itP t.advance n p).j=.empty
theorem SO{t:SetTable}(hd:t.dummies=#[]){j:Nat}(h:j∉t.place.toList):t.slot j=.empty:=by
 unfold lv;dsimp only
 rw[if_neg,if_neg]
 ·unfold nG;rw[hd];simp
 ·intro e;rw[beq_iff_eq] at e;exact h (by have:=Array.mem_of_getElem? e;exact fe.mpr this)
theorem Xi{t:SetTable}(hd:t.dummies=#[]){j:Nat}:t.slot j≠.dummy:=by
 unfold lv;dsimp only
 split
 ·intro z;cases z
 ·rw[if_neg]
  ·intro z;cases z
  ·unfold nG;rw[hd];simp
theorem uf{t:SetTable}{j i:Nat}(h:t.slot j=.live i):t.place[i]?=some j:=by
 unfold lv at h;dsimp only at h;split at h
 ·rename_i e;cases h;exact eq_of_beq e
 ·split at h <;> cases h
theorem zae{l:List Nat}:∀{m:Nat},l.length<=m->∃j,j<=m/\j∉l:=by
 intro m h;apply Classical.byContradiction;intro z;have h1:∀j∈aF (m+1),j∈l:=fun j hj=>Classical.byContradiction fun w=>z ⟨j,by have:=bN.mp hj;omega,w⟩;have:=(mK (n:=m+1)).length_le_of_subset h1;rw[aS] at this;omega
theorem SQ{t:SetTable}(hm:uG t.mask)(hd:t.dummies=#[])(hf:t.place.size<=t.mask)(h:Int):Tn t (10*dM t.mask) (t.probeStart h):=by
 obtain⟨j,j1,j2⟩:=zae (l:=t.place.toList) (m:=t.mask) (by rw[aQ];exact hf);have hb:dy h<2 ^ 64:=by
  unfold dy;have h1:=iF h (b:=(2:Int) ^ 64) (by decide);have h2:=gE h (b:=(2:Int) ^ 64) (by decide);omega
 obtain⟨L,l1,l2⟩:=Zq hm (i:=dy h % (t.mask+1)) hb j1;obtain⟨n,q,n1,n2,n3⟩:=sO (t:=t) L (t.probeStart h) (by show dD _ _-_<=9;exact UB) rfl;refine⟨n,?_,?_⟩
 ·have e:dM t.mask=t.mask+15:=rfl;rw[e];omega
 ·rw[n2,n3];show t.slot (itP (lpP t.mask) L (dy h % (t.mask+1),dy h)).1=_;rw[l2];exact SO hd j2
theorem ug{t:SetTable}{p:da}:(t.advance p).dummy=p.dummy:=by
 unfold iV;split <;> rfl
theorem RN{t:SetTable}{ha:Nat->Int}{h:Int}(hd:t.dummies=#[]):∀(fuel:Nat) (p:da),p.dummy=none->Tn t fuel p→
  (∃j,cI t ha h fuel p=some (.empty j none))\/∃(q:da) (i N:Nat),N<fuel/\cI t ha h fuel p=some (.candidate q.j i (t.advance q))/\t.slot q.j=.live i/\(t.advance q).dummy=none/\Tn t N (t.advance q)
 |0,p,_,⟨n,hn,_⟩=>absurd hn (gL _)
 |fuel+1,p,hp,⟨n,hn,hs⟩=>by
  unfold cI;cases e:t.slot p.j with
  |empty=>exact .inl ⟨p.j,by rw[hp]⟩
  |dummy=>exact absurd e (Xi hd)
  |live i =>
   have nx:Tn t fuel (t.advance p):=by
    cases n with
    |zero=>rw[show itP t.advance 0 p=p from rfl,e] at hs;cases hs
    |succ n=>exact⟨n,by omega,hs⟩
   dsimp only
   split
   ·exact .inr ⟨p,i,fuel,il _,rfl,e,by rw[ug];exact hp,nx⟩
   ·rcases RN hd fuel (t.advance p) (by rw[ug];exact hp) nx with z|⟨q,i',N,h1,h2⟩
    ·exact .inl z
    ·exact .inr ⟨q,i',N,by omega,h2⟩
theorem QO(h:Int):dy h<2 ^ 64:=by
 unfold dy;have h1:=iF h (b:=(2:Int) ^ 64) (by decide);have h2:=gE h (b:=(2:Int) ^ 64) (by decide);omega
theorem Zr{m:Nat}{owner:Array (Option Nat)}:∀(L fuel i p:Nat),L<fuel->(owner.getD (itP (lpP m) L (i,p)).1 (some 0)).isNone=true->∃j,eI m owner fuel i p=some j/\(owner.getD j (some 0)).isNone=true
 |_,0,_,_,h,_=>absurd h (gL _)
 |L,fuel+1,i,p,h,ho=>by
  unfold eI;split
  ·rename_i k e;exact⟨i+k,rfl,by have:=List.find?_some (p:=fun k=>(owner.getD (i+k) (some 0)).isNone) e;exact this⟩
  ·rename_i e;cases L with
   |zero =>
    have le:i<=dD m i:=by unfold dD;split <;> omega
    have:=List.find?_eq_none.mp e 0 (bN.mpr (by omega));exact absurd ho this
   |succ L=>exact Zr L fuel _ _ (by omega) ho
theorem UC{owner:Array (Option Nat)}{j:Nat}(h:(owner.getD j (some 0)).isNone=true):owner[j]?=some none:=by
 rw[←cC];unfold fJ at h;split at h
 ·rename_i hj;rw[aC (by rw[aQ];exact hj)]
  congr 1
  have:owner[j]=none:=by
   cases e:owner[j] with
   |none=>rfl
   |some x=>simp[e] at h
  simpa using this
 ·cases h
theorem Yl{l:List (Option Nat)}:(l.filterMap id).length<l.length->∃j,j<l.length/\l[j]?=some none:=by
 induction l with
 |nil=>intro h;cases h
 |cons x l ih =>
  intro h;cases x with
  |none=>exact⟨0,by simp,rfl⟩
  |some v =>
   obtain⟨j,j1,j2⟩:=ih (by simpa using h);exact⟨j+1,by simpa using j1,by simpa using j2⟩
theorem SR{l:List (Option Nat)}{j k:Nat}(h:l[j]?=some none):((l.set j (some k)).filterMap id).Perm (k::l.filterMap id):=by
 induction l generalizing j with
 |nil=>cases h
 |cons x l ih =>
  cases j with
  |zero =>
   rw[List.getElem?_cons_zero] at h;injection h with h
   subst h;exact nh _
  |succ j =>
   rw[List.getElem?_cons_succ] at h;rw[List.set_cons_succ];cases x with
   |none=>exact ih h
   |some v =>
    refine(lZ v (ih h)).trans ?_;exact List.Perm.swap ..
noncomputable def zaE(m:Nat)(acc:Option (Array (Option Nat)×Nat))(h:Int):Option (Array (Option Nat)×Nat):=do
 let (owner,k)←acc
 let j←eI m owner (dM m) (dy h % (m+1)) (dy h)
 pure (owner.setIfInBounds j (some k),k+1)
theorem SS{m:Nat}{o:Array (Option Nat)}(hz:o.size=m+1):((aF (m+1)).filterMap fun j=>(o.getD j none).map (j,·)).map (·.2)=o.toList.filterMap id:=by
 have e:o.toList=(aF (m+1)).map fun j=>o.getD j none:=by
  refine iU (by rw[aQ,aE,aS,hz]) fun i h1 h2=>?_;rw[eG,kr];rw[aQ] at h1;unfold fJ;rw[dif_pos h1];simp
 rw[e,List.map_filterMap,kj]
 congr 1
 funext j
 show md (fun x=>x.2) (md (fun x=>(j,x)) (o.getD j none))=id (o.getD j none);cases o.getD j none <;> rfl
theorem Zs{α:Type}:∀l:List α,(aF l.length).filterMap (l[·]?)=l
 |[]=>rfl
 |a::l=>by
  rw[cJ,List.range_succ_eq_map,fu,List.getElem?_cons_zero];dsimp only
  rw[kj]
  congr 1
  exact Zs l
theorem UD{α:Type}{es:Array α}{o9:Array Nat}(h:o9.toList.Perm (aF es.size)):(o9.filterMap (es[·]?)).toList.Perm es.toList:=by
 rw[Array.toList_filterMap];refine(h.filterMap _).trans ?_;have:=Zs es.toList;rw[aQ] at this;have e:(fun i:Nat=>es[i]?)=fun i=>es.toList[i]?:=funext fun i=>by rw[cC]
 rw[e,this]
abbrev rF(prog:Program)(w:World)(h:Heap)(k:Int×Int)(a:Addr):Prop:=ZP (sw prog w) (sw prog w) h k a
theorem rF.keep{prog:Program}{w:World}{h h':Heap}{k:Int×Int}{a:Addr}(x:rF prog w h k a)(hs:∀o,h.get? a=some o->h'.get? a=some o):rF prog w h' k a:=by
 obtain⟨o,u,v,n,ho,hc,hd,hu,hv⟩:=x;exact⟨o,u,v,n,hs o ho,hc,hd,hu,hv⟩
section
variable{prog:Program}{w:World}{A:Around}{E:VS7}{s:Shared}
theorem Xj{u:Value}{k:Int}(h:(ir prog w).is k u=true):∃t,u=.int k t:=by
 cases u with
 |int i t =>
  have:i=k:=(ir prog w).inj _ _ _ V3 h;exact⟨t,by rw[this]⟩
 |bool b =>
  exfalso;cases b <;> simp[ir,mf] at h
 |_=>simp[ir,mf] at h
theorem UE{k:Int×Int}{a:Addr}{Q:Bool->Shared->Prop}(hk:rF prog w s.heap k a)(h:Q false s):wpAny (model prog w) A (ofAClassStatement 8 (.ref a)) Q E s:=by
 have hT:=hk.typeIs;obtain⟨o,u,v,n,ho,_,hd,iu,iv⟩:=hk;obtain⟨t1,rfl⟩:=Xj iu;obtain⟨t2,rfl⟩:=Xj iv;unfold ofAClassStatement;refine aA (iy hT ?_);dsimp only
 rw[if_pos (by decide)];refine aA (aB ?_);simp only[dJ,aY,if_false]
 refine aA (du ho hd ?_);dsimp only
 refine aA ?_;rw[←iA];refine gm _ (fun nV r s'=>r.1=none/\s'=s/\∀x∈nV,∃i t,x=fD i t) _ ?_ ?_ _ _ ⟨rfl,rfl,fun x hx=>by
  rcases aK.mp hx with rfl|hx
  ·exact⟨_,_,rfl⟩
  ·rw[aR.mp hx];exact⟨_,_,rfl⟩⟩
 ·rintro x nV r s' ⟨hr,rfl,nP⟩;obtain⟨i,t,rfl⟩:=nP x (by simp);refine aA ?_;unfold ofAClassStatement;refine aB ?_;simp only[aY,if_false]
  exact aB ⟨rfl,rfl,fun y hy=>nP y (by simp[hy])⟩
 ·rintro⟨r1,r2⟩ s' ⟨hr,rfl,_⟩;simp only at hr;subst hr;exact aB h
theorem ST{k:Int×Int}{a:Addr}{Q:Bool->Shared->Prop}(hk:rF prog w s.heap k a)(h:Q true s):wpAny (model prog w) A (hashByValue 8 (.ref a)) Q E s:=by
 have hT:=hk.typeIs;obtain⟨o,u,v,n,ho,_,hd,iu,iv⟩:=hk;obtain⟨t1,rfl⟩:=Xj iu;obtain⟨t2,rfl⟩:=Xj iv;unfold hashByValue;refine aA (gK hT F.slot_tuple_hash.lookup ?_);dsimp only
 refine aA (du ho hd ?_);dsimp only[Option.getD]
 refine aA ?_;rw[←iA];refine gm _ (fun nV r s'=>r.1=none/\s'=s/\∀x∈nV,∃i t,x=fD i t) _ ?_ ?_ _ _ ⟨rfl,rfl,fun x hx=>by
  rcases aK.mp hx with rfl|hx
  ·exact⟨_,_,rfl⟩
  ·rw[aR.mp hx];exact⟨_,_,rfl⟩⟩
 ·rintro x nV r s' ⟨hr,rfl,nP⟩;obtain⟨i,t,rfl⟩:=nP x (by simp);refine aA ?_;rw[hashByValue_scannable _ rfl];refine aB ?_;simp only[plainKind,dJ,aY,if_false]
  exact aB ⟨rfl,rfl,fun y hy=>nP y (by simp[hy])⟩
 ·rintro⟨r1,r2⟩ s' ⟨hr,rfl,_⟩;simp only at hr;subst hr;exact aB h
theorem RO{kx:Int×Int}{x:Addr}{ys:List Value}{Q:Bool->Shared->Prop}(hx:rF prog w s.heap kx x)(hy:∀y∈ys,∃k b,y=aN b/\rF prog w s.heap k b)(h:Q false s):wpAny (model prog w) A (searchCouldBeSeen (.ref x) ys) Q E s:=by
 unfold searchCouldBeSeen;refine aA ?_;refine gm _ (fun nV r s'=>r.1=none/\s'=s/\∀y∈nV,∃k b,y=aN b/\rF prog w s.heap k b) _ ?_ ?_ _ _ ⟨rfl,rfl,hy⟩
 ·rintro y nV r s' ⟨hr,rfl,nP⟩;obtain⟨k,b,rfl,hb⟩:=nP y (by simp);have next:∀z∈nV,∃k b,z=aN b/\rF prog w s'.heap k b:=fun z hz=>nP z (by simp[hz]);dsimp only
  split
  ·exact aB ⟨rfl,rfl,next⟩
  ·refine aA (q8 hx ?_);simp only[dJ,aY,if_false]
   refine aA (q8 hb ?_);simp only[dJ,aY,if_false]
   refine aA (UE hx ?_);simp only[aY,if_false]
   refine aA (UE hb ?_);simp only[aY,if_false]
   exact aB ⟨rfl,rfl,next⟩
 ·rintro⟨r1,r2⟩ s' ⟨hr,rfl,_⟩;simp only at hr;subst hr;exact aB h
end
noncomputable def u6(es:Array (Int×Value))(ep:Nat)(t:SetTable):Obj:={ cls:=.type "set",dict:=none,data:=.set es ep t,slots:=#[] }
section
variable{prog:Program}{w:World}{A:Around}{E:VS7}{s:Shared}
theorem QP{a:Addr}{es:Array (Int×Value)}{ep:Nat}{t:SetTable}{x:Addr}{kx:Int×Int}{h:Int}(ho:s.heap.get? a=some (u6 es ep t))(fit:t.fits es.size=true)(hm:uG t.mask)(hd:t.dummies=#[])(hu:A.units+1<ig)
  (hx:rF prog w s.heap kx x) (hy:∀e∈es.toList,∃k b,e.2=aN b/\rF prog w s.heap k b/\k≠kx) {Q:SetFound->Shared->Prop} (hq:∀j,Q (.free j false) s) :
  ∀(N fuel:Nat) (p:da) (o:Option da),o.getD (t.probeStart h)=p->p.dummy=none->Tn t N p->N<=10*dM t.mask->N<fuel->wpAny (model prog w) A (gj a (.ref x) h true fuel o) Q E s:=by
 intro N;induction N using Nat.strongRecOn with
 |_ N ih =>
  intro fuel p o e0 hp em hN hf;obtain⟨fuel,rfl⟩:∃f,fuel=f+1:=⟨fuel-1,by omega⟩
  unfold gj;refine aA (ft ho rfl fit ?_);dsimp only
  have gw:t.gaveWay=false:=by
   unfold SetTable.gaveWay;rcases hm with z|z|z <;> rw[z] <;> rfl
  rw[gw];simp only[aY,if_false]
  rw[e0];unfold SetTable.probe;have key:∀ha:Nat->Int,(∃j,cI t ha h (10*dM t.mask) p=some (.empty j none))\/∃(q:da) (i N':Nat),N'<N/\cI t ha h (10*dM t.mask) p=some (.candidate q.j i (t.advance q))/\t.slot q.j=.live i/\(t.advance q).dummy=none/\Tn t N' (t.advance q):=fun ha=>by
   have mono:∀(f g:Nat) (p:da) (r:SetTable.Met),f<=g->cI t ha h f p=some r->cI t ha h g p=some r:=by
    intro f;induction f with
    |zero=>intro g p r _ z;unfold cI at z;cases z
    |succ f ihf =>
     intro g p r l z;obtain⟨g,rfl⟩:∃g',g=g'+1:=⟨g-1,by omega⟩
     unfold cI at z ⊢;split
     ·rename_i e;rw[e] at z;exact z
     ·rename_i e;rw[e] at z;exact ihf g _ r (by omega) z
     ·rename_i i e;rw[e] at z;dsimp only at z;split
      ·rename_i c;rw[if_pos c] at z;exact z
      ·rename_i c;rw[if_neg c] at z;exact ihf g _ r (by omega) z
   rcases RN (ha:=ha) (h:=h) hd N p hp em with ⟨j,z⟩|⟨q,i,N',n1,z,r⟩
   ·exact .inl ⟨j,mono _ _ _ _ hN z⟩
   ·exact .inr ⟨q,i,N',n1,mono _ _ _ _ hN z,r⟩
  rcases key _ with ⟨j,e⟩|⟨q,i,N',n1,e,sl,dn,Fl⟩
  ·rw[e];dsimp only
   exact aB (hq j)
  ·rw[e];dsimp only
   have pl:=uf sl;have isz:i<es.size:=by
    have h1:i<t.place.size:=(bP.mp pl).1;unfold ny at fit;simp only[aJ,beq_iff_eq] at fit;omega
   obtain⟨ky,b,e2,hb,ne⟩:=hy (es[i]'isz) (by simp);have ei:es[i]?=some (es[i].1,aN b):=by rw[cF isz,←e2]
   have oE:∀{s2:Shared},s2=s->wpAny (model prog w) A (gj a (.ref x) h true fuel (some (t.advance q))) Q E s2:=fun z=>by
    subst z;exact ih N' n1 fuel _ _ rfl dn Fl (by omega) (by omega)
   have nV:wpAny (model prog w) A (do
     let some (_,y):=es[i]?|unsupported "internal:set-entry"
     let equal←holding [y] (eqBool y (.ref x))
     let (BQ,_,t')←setState a
     if true && equal then return .there none
     let some smq:=t'.sameMemory t.moves t.mask|unsupported "set.changed-during-lookup:is-the-new-block-at-the-old-address"
     let still←match (if smq then t'.slot q.j else .empty) with
      |.live i'=>match BQ[i']? with
       |some (_,y')=>do pure (if←isSame y' y then some i' else none)
       |none=>pure none
      |_=>pure none
     match still with
     |none=>rule "set.search.anew";gj a (.ref x) h true fuel none
     |some i'=>if equal then return .there (some i') else gj a (.ref x) h true fuel (some (t.advance q))) Q E s:=by
    rw[ei];dsimp only
    refine aA (bU (Qx hu hb hx ?_));rw[decide_eq_false ne];refine aA (ft ho rfl fit ?_);dsimp only
    simp only[io,aY,if_false]
    have sm:t.sameMemory t.moves t.mask=some true:=by unfold SetTable.sameMemory;rw[if_pos (by simp)]
    rw[sm];dsimp only
    simp only[if_true]
    rw[sl];dsimp only
    rw[ei];dsimp only
    refine aA (wpAny_isSame_ref_self (aA (aB ?_)));simp only[if_true]
    exact oE rfl
   by_cases hl:t.led=true
   ·rw[hl];simp only[dJ,aY,if_false]
    exact nV
   ·rw[lp] at hl;rw[hl];simp only[kM,if_true]
    refine aA (m:=searchCouldBeSeen _ _) (RO hx (fun y Dz=>?_) ?_)
    ·obtain⟨e,he,rfl⟩:=bI.mp Dz;obtain⟨k,b,h1,h2,_⟩:=hy e (by
      have:=fe.mp he;exact fe.mpr (Array.mem_filter.mp this).1)
     exact⟨k,b,h1,h2⟩
    ·simp only[aY,if_false]
     exact nV
end
structure SetPS(h:Heap)(a:Addr)(ad:Nat->Addr)(m:Nat)(es:Array (Int×Value))(ep:Nat)(t:SetTable):Prop where
 at_:h.get? a=some (u6 es ep t)
 el:∀e∈es.toList,∃i,i<m/\e.2=aN (ad i)
 sz:es.size=m
 pz:t.place.size=m
 dm:t.dummies=#[]
 room:(t.mask=7/\m<=4)\/(t.mask=31/\m<=18)\/(t.mask=127/\m<=60)
def SU(h:Heap)(a:Addr)(ad:Nat->Addr)(m:Nat):Prop:=∃es ep t,SetPS h a ad m es ep t
section
variable{prog:Program}{w:World}{A:Around}{E:VS7}{s:Shared}{a:Addr}{ad:Nat->Addr}{m:Nat}
theorem Ym{t:SetTable}{n:Nat}(hd:t.dummies=#[])(hz:t.place.size=n)(hm:n<=t.mask):t.fits n=true:=by
 unfold ny SetTable.fill;rw[hd];simp[hz,hm]
theorem SetPS.fit{h:Heap}{es ep t}(S:SetPS h a ad m es ep t):t.fits es.size=true:=by
 refine Ym S.dm (S.pz.trans S.sz.symm) ?_;rw[S.sz];rcases S.room with ⟨z,l⟩|⟨z,l⟩|⟨z,l⟩ <;> rw[z] <;> omega
theorem Zt{es:Array (Int×Value)}{ep:Nat}{t:SetTable}{BM:Array (Int×Value)}{t1:SetTable}{Q:Unit->Shared->Prop}(ho:s.heap.get? a=some (u6 es ep t))(hz:BM.size<=100)
  (h:∀h',cP a s.heap h'->h'.get? a=some (u6 BM (ep+1) t1)->Q () { s with heap:=h' }):wpAny (model prog w) A (storeSet a BM t1) Q E s:=by
 refine wpAny_storeSet_of ho rfl ?_ (fits_of_scanBound (by have:scanBound=4096:=rfl;omega));exact h _ (cR s.heap a (Obj.putSet BM t1)) (cx (Obj.putSet BM t1) ho rfl)
theorem uh{α:Type}(xs:Array α)(p:Nat)(x:α)(hp:p<=xs.size):(cY xs p x).size=xs.size+1:=by
 rw[←aQ,dP];rw[bD,cJ,bT,ik,aQ];omega
theorem Wh(xs:Array Nat)(j:Nat):cy xs j<=xs.size:=by
 have key:∀(fuel lo hi:Nat),lo<=hi->hi<=xs.size->fq xs j fuel lo hi<=xs.size:=by
  intro fuel;induction fuel with
  |zero=>intro lo hi h1 h2;unfold fq;omega
  |succ f ih =>
   intro lo hi h1 h2;unfold fq;split
   ·dsimp only
    split
    ·exact ih _ _ (by omega) h2
    ·exact ih _ _ (by omega) (by omega)
   ·omega
 exact key _ _ _ (cw _) (aG _)
theorem zaf{t:SetTable}(hd:t.dummies=#[])(j:Nat):(t.put j).1={ t with place:=cY t.place (cy t.place j) j }/\(t.put j).2=cy t.place j:=by
 unfold SetTable.put;dsimp only
 refine⟨?_,rfl⟩;rw[if_neg (by unfold nG;rw[hd];simp)]
theorem zci:dz (me 5)-1=31:=by decide +kernel
theorem zcj:dz (me 19)-1=127:=by decide +kernel
end
theorem SU.keep{h h':Heap}{a:Addr}{ad:Nat->Addr}{m:Nat}(S:SU h a ad m)(k:∀o,h.get? a=some o->h'.get? a=some o):SU h' a ad m:=by
 obtain⟨es,ep,t,S⟩:=S;exact⟨es,ep,t,{ S with at_:=k _ S.at_ }⟩
def Yn(h:Heap)(a:Addr)(n:Nat):Prop:=∃ad,SU h a ad n
section
variable{X:Cx}{K:FG7}{P:Program}{w:World}
theorem zT.setP{H:Hp}{h:Heap}{a:Addr}{n:Nat}(S:Yn h a n):zT P w H h a (.ext fun h=>Yn h a n):=by
 obtain⟨ad,S⟩:=S;obtain⟨es,ep,t,S'⟩:=S;exact⟨⟨ad,es,ep,t,S'⟩,⟨_,S'.at_⟩,fun h1 h2 ⟨ad,s1⟩ k=>⟨ad,s1.keep k⟩⟩
def PrL(K:FG7)(H:Hp)(v:V)(k:Int×Int):Prop:=∃b,v=.ref b/\KAt ptI ptI K H k b
theorem PrL.grow{H H':Hp}{v:V}{k:Int×Int}{m:List Addr}(x:PrL K H v k)(g:Grow m H H'):PrL K H' v k:=by
 obtain⟨b,e,h⟩:=x;exact⟨b,e,h.grow g⟩
theorem UF:xG X (.builtin "len") (fun xs H Q=>∃a n,xs=[V.ref a]/\H a=some (.ext fun h=>Yn h a n)/\Q (.int n) H):=by
 intro nJ s σ H xs us Q I r h;obtain⟨a,n,rfl,ha,q⟩:=h;obtain⟨u,rfl,ru⟩:=vq r;cases ru;obtain⟨ad,es,ep,t,S⟩:Yn s.heap a n:=(I.hok a _ ha).1;have z:=S.sz;refine call_len_set S.at_ ⟨rfl,rfl,rfl⟩ rfl S.fit (by rw[z];have:=S.room;omega) ?_;rw[z];exact⟨.int n,H,I.tok _,⟨_,rfl⟩,q⟩
end
theorem QQ:cU "set" = some (.type "set"):=by decide +kernel
section
variable{X:Cx}{k:Nat}{x:Str}{ps:List Str}{sp:Sp}{p pos:Pos}
theorem UG(C:zp X.prog X.w X.K X.mg X.base k x ps sp)(hr:Room k X.A)(hg:Gl X x)
  (As:(x == ("__debug__":Str))=false:=by decide):PE X (.Call (.Name x p) [] [] pos) (ZW sp [] E0 R8):=by
 obtain⟨f,fd,F,b,kp,m⟩:=C;exact Tz F hr hg m kp b .nil Jw As
end
def Wi(c:Call72):Int×Int:=(c.hand,c.begun)
theorem SV{cs:List Call72}(h:xB cs):(cs.map Wi).Nodup:=by
 rw[List.Nodup,iX];intro i j hi hj BL z;rw[aE] at hi hj;rw[eG,eG] at z;have e1:cg cs i=cs[i]:=yn (aC hi);have e2:cg cs j=cs[j]:=yn (aC hj);have z1:cs[i].hand=cs[j].hand:=congrArg Prod.fst z;have z2:cs[i].begun=cs[j].begun:=congrArg Prod.snd z;have:=h i j hi hj (by rw[e1,e2];exact z1) (by rw[e1,e2];exact z2);omega
theorem SW{cs:List Call72}(h:(cs.map Wi).Nodup):xB cs:=by
 intro i j hi hj h1 h2;have e1:cg cs i=cs[i]:=yn (aC hi);have e2:cg cs j=cs[j]:=yn (aC hj);rw[e1,e2] at h1 h2;have li:i<(cs.map Wi).length:=by rw[aE];exact hi
 have lj:j<(cs.map Wi).length:=by rw[aE];exact hj
 refine(k9 (h₀:=li) (h₁:=lj) h).mp ?_;rw[eG,eG];exact lQ h1 h2
theorem UH{cs:List Call72}{k:Nat}{r:List Nat}:rq cs (k::r)=(!(r.any fun j=>zS cs j k) && rq cs r):=rfl
theorem UI{b:List Int}{cs:List Call72}(h:∃o,jh b cs o):∃o,qu cs b=some o/\jh b cs o:=by
 obtain⟨o,ho⟩:=h;cases e:qu cs b with
 |some o'=>exact⟨o',rfl,Yj e⟩
 |none=>exact(Yk e ho).elim
def Occ(t:SetTable)(j:Nat):Prop:=j∈t.place.toList
def UJ(t:SetTable)(h:Int)(j:Nat):Prop:=∃n,(itP t.advance n (t.probeStart h)).j=j/\∀n',n'<n->Occ t (itP t.advance n' (t.probeStart h)).j
theorem SX{t:SetTable}(hr:rE t.place)(hd:t.dummies=#[]){j:Nat}(h:Occ t j):∃i,t.slot j=.live i/\t.place[i]?=some j:=by
 have hf:t.place[cy t.place j]?=some j:=by
  obtain⟨b1,b2,b3⟩:=Uz hr j;obtain⟨i,hi⟩:=k8.mp h;rw[cC] at hi;obtain⟨Gx,Gw⟩:=bP.mp hi;have h1:¬i<cy t.place j:=fun z=>by have:=b2 i Gx z;omega
  have h0:cy t.place j<t.place.size:=by omega
  have h2:=b3 _ h0 (aG _);have h3:¬cy t.place j<i:=fun z=>by have:=hr _ _ Gx z;omega
  have e:cy t.place j=i:=by omega
  rw[e];exact hi
 refine⟨_,?_,hf⟩;unfold lv;dsimp only
 rw[if_pos (by rw[hf];simp)]
theorem SY{t:SetTable}{j i:Nat}(h:t.slot j=.live i):Occ t j:=by
 have:=uf h;unfold Occ;rw[List.mem_iff_getElem?];exact⟨i,by rw[cC];exact this⟩
theorem UK{t:SetTable}(hr:rE t.place)(hd:t.dummies=#[]){j:Nat}(h:t.slot j=.empty):¬Occ t j:=fun z=>by
 obtain⟨i,e,_⟩:=SX hr hd z;rw[h] at e;cases e
theorem RP{t:SetTable}{ha:Nat->Int}{h:Int}(hd:t.dummies=#[]):∀(fuel:Nat) (p:da),p.dummy=none->Tn t fuel p→
  (∃n,n<fuel/\cI t ha h fuel p=some (.empty (itP t.advance n p).j none)/\t.slot (itP t.advance n p).j=.empty/\∀n',n'<n->∃i,t.slot (itP t.advance n' p).j=.live i/\¬(ha i == h)=true)∨
  ∃(n i N:Nat),N+n<fuel/\cI t ha h fuel p=some (.candidate (itP t.advance n p).j i (itP t.advance (n+1) p))/\t.slot (itP t.advance n p).j=.live i/\(itP t.advance (n+1) p).dummy=none/\Tn t N (itP t.advance (n+1) p)/\∀n',n'<n->∃i,t.slot (itP t.advance n' p).j=.live i/\¬(ha i == h)=true
 |0,p,_,⟨n,hn,_⟩=>absurd hn (gL _)
 |fuel+1,p,hp,⟨n,hn,hs⟩=>by
  unfold cI;cases e:t.slot p.j with
  |empty=>exact .inl ⟨0,by omega,by rw[hp];rfl,e,fun n' h=>absurd h (gL _)⟩
  |dummy=>exact absurd e (Xi hd)
  |live i =>
   have nx:Tn t fuel (t.advance p):=by
    cases n with
    |zero=>rw[show itP t.advance 0 p=p from rfl,e] at hs;cases hs
    |succ n=>exact⟨n,by omega,hs⟩
   dsimp only
   split
   ·exact .inr ⟨0,i,fuel,by omega,rfl,e,by show(t.advance p).dummy=none;rw[ug];exact hp,nx,fun n' h=>absurd h (gL _)⟩
   ·rename_i ne;have step:∀{m:Nat},(∀n',n'<m->∃i,t.slot (itP t.advance n' (t.advance p)).j=.live i/\¬(ha i == h)=true)->∀n',n'<m+1->∃i,t.slot (itP t.advance n' p).j=.live i/\¬(ha i == h)=true:=fun hm n' Ah=>by
     cases n' with
     |zero=>exact⟨i,e,ne⟩
     |succ n'=>exact hm n' (by omega)
    rcases RP hd fuel (t.advance p) (by rw[ug];exact hp) nx with ⟨m,m1,m2,m3,m4⟩|⟨m,i',N,m1,m2,m3,m4,m5,m6⟩
    ·exact .inl ⟨m+1,by omega,m2,m3,step m4⟩
    ·exact .inr ⟨m+1,i',N,by omega,m2,m3,m4,m5,step m6⟩
theorem UL{t:SetTable}{ha:Nat->Int}{h:Int}:∀(f g:Nat) (p:da) (r:SetTable.Met),f<=g->cI t ha h f p=some r->cI t ha h g p=some r:=by
 intro f;induction f with
 |zero=>intro g p r _ z;unfold cI at z;cases z
 |succ f ihf =>
  intro g p r l z;obtain⟨g,rfl⟩:∃g',g=g'+1:=⟨g-1,by omega⟩
  unfold cI at z ⊢;split
  ·rename_i e;rw[e] at z;exact z
  ·rename_i e;rw[e] at z;exact ihf g _ r (by omega) z
  ·rename_i i e;rw[e] at z;dsimp only at z;split
   ·rename_i c;rw[if_pos c] at z;exact z
   ·rename_i c;rw[if_neg c] at z;exact ihf g _ r (by omega) z
theorem SZ{α:Type}{f:α->α}{n:Nat}{x:α}:itP f (n+1) x=f (itP f n x):=by rw[yT];rfl
section
variable{prog:Program}{w:World}{A:Around}{E:VS7}{s:Shared}
noncomputable def haQ(es:Array (Int×Value))(i:Nat):Int:=(es[i]?.map (·.1)).getD 0
set_option maxHeartbeats 800000 in
/-- the search: n steps are done,over places whose things are others -/
theorem search_any{a:Addr}{es:Array (Int×Value)}{ep:Nat}{t:SetTable}{x:Addr}{kx:Int×Int}{h:Int}(ho:s.heap.get? a=some (u6 es ep t))(fit:t.fits es.size=true)(hm:uG t.mask)(hd:t.dummies=#[])(hu:A.units+1<ig)
  (hx:rF prog w s.heap kx x) {key:Value->Int×Int} (hy:∀e∈es.toList,∃b,e.2=aN b/\rF prog w s.heap (key e.2) b) {Q:SetFound->Shared->Prop}
  (there:(∃e∈es.toList,key e.2=kx)->Q (.there none) s)
  (free:∀n,t.slot (itP t.advance n (t.probeStart h)).j=.empty->(∀n',n'<n->∃i e,t.slot (itP t.advance n' (t.probeStart h)).j=.live i/\es[i]?=some e/\¬(e.1=h/\key e.2=kx))->Q (.free (itP t.advance n (t.probeStart h)).j false) s) :
  ∀(N n fuel:Nat) (o:Option da),o.getD (t.probeStart h)=itP t.advance n (t.probeStart h)->(itP t.advance n (t.probeStart h)).dummy=none->Tn t N (itP t.advance n (t.probeStart h))->N<=10*dM t.mask->N<fuel→
   (∀n',n'<n->∃i e,t.slot (itP t.advance n' (t.probeStart h)).j=.live i/\es[i]?=some e/\¬(e.1=h/\key e.2=kx))->wpAny (model prog w) A (gj a (.ref x) h true fuel o) Q E s:=by
 intro N;induction N using Nat.strongRecOn with
 |_ N ih =>
  intro n fuel o e0 hp em hN hf Dm;obtain⟨fuel,rfl⟩:∃f,fuel=f+1:=⟨fuel-1,by omega⟩
  have BN:∀{j i:Nat},t.slot j=.live i->∃e,es[i]?=some e:=fun{j i} sl=>by
   have pl:=uf sl;have h1:i<t.place.size:=(bP.mp pl).1;unfold ny at fit;simp only[aJ,beq_iff_eq] at fit;exact⟨_,cF (by omega)⟩
  have more:∀{m:Nat},(∀n',n'<m->∃i,t.slot (itP t.advance n' (itP t.advance n (t.probeStart h))).j=.live i/\¬(haQ es i == h)=true)->∀n',n'<n+m->∃i e,t.slot (itP t.advance n' (t.probeStart h)).j=.live i/\es[i]?=some e/\¬(e.1=h/\key e.2=kx):=fun{m} Dx n' Ah=>by
   by_cases c:n'<n
   ·exact Dm n' c
   ·obtain⟨i,s1,s2⟩:=Dx (n'-n) (by omega);rw[←yT,show n+(n'-n)=n' by omega] at s1;obtain⟨e,he⟩:=BN s1;refine⟨i,e,s1,he,fun z=>s2 ?_⟩;unfold haQ;rw[he];show(e.1 == h)=true;rw[z.1];simp
  unfold gj;refine aA (ft ho rfl fit ?_);dsimp only
  have gw:t.gaveWay=false:=by
   unfold SetTable.gaveWay;rcases hm with z|z|z <;> rw[z] <;> rfl
  rw[gw];simp only[aY,if_false]
  rw[e0];unfold SetTable.probe;rcases RP (ha:=haQ es) (h:=h) hd N _ hp em with ⟨m,m1,m2,m3,m4⟩|⟨m,i,N',m1,m2,m3,m4,m5,m6⟩
  ·have e2:∀ha,ha=haQ es->cI t ha h (10*dM t.mask) (itP t.advance n (t.probeStart h))=some (.empty (itP t.advance m (itP t.advance n (t.probeStart h))).j none):=fun ha z=>by rw[z];exact UL _ _ _ _ hN m2
   rw[e2];rotate_left
   ·rfl
   dsimp only
   rw[←yT] at m3 ⊢;exact aB (free (n+m) m3 (more m4))
  ·have e2:∀ha,ha=haQ es->cI t ha h (10*dM t.mask) (itP t.advance n (t.probeStart h))=some (.candidate (itP t.advance m (itP t.advance n (t.probeStart h))).j i (itP t.advance (m+1) (itP t.advance n (t.probeStart h)))):=fun ha z=>by rw[z];exact UL _ _ _ _ hN m2
   rw[e2];rotate_left
   ·rfl
   dsimp only
   obtain⟨e,Ib⟩:=BN m3;have em_:e∈es.toList:=by
    have:=Array.mem_of_getElem? Ib;exact fe.mpr this
   obtain⟨b,e2,hb⟩:=hy e em_;have ei:es[i]?=some (e.1,aN b):=by rw[Ib,←e2]
   have nV:wpAny (model prog w) A (do
     let some (_,y):=es[i]?|unsupported "internal:set-entry"
     let equal←holding [y] (eqBool y (.ref x))
     let (BQ,_,t')←setState a
     if true && equal then return .there none
     let some smq:=t'.sameMemory t.moves t.mask|unsupported "set.changed-during-lookup:is-the-new-block-at-the-old-address"
     let still←match (if smq then t'.slot (itP t.advance m (itP t.advance n (t.probeStart h))).j else .empty) with
      |.live i'=>match BQ[i']? with
       |some (_,y')=>do pure (if←isSame y' y then some i' else none)
       |none=>pure none
      |_=>pure none
     match still with
     |none=>rule "set.search.anew";gj a (.ref x) h true fuel none
     |some i'=>if equal then return .there (some i') else gj a (.ref x) h true fuel (some (itP t.advance (m+1) (itP t.advance n (t.probeStart h))))) Q E s:=by
    rw[ei];dsimp only
    refine aA (bU (Qx hu hb hx ?_));by_cases ek:key e.2=kx
    ·rw[decide_eq_true ek];refine aA (ft ho rfl fit ?_);dsimp only
     simp only[Bool.and_self,if_true]
     exact aB (there ⟨e,em_,ek⟩)
    ·rw[decide_eq_false ek];refine aA (ft ho rfl fit ?_);dsimp only
     simp only[io,aY,if_false]
     have sm:t.sameMemory t.moves t.mask=some true:=by unfold SetTable.sameMemory;rw[if_pos (by simp)]
     rw[sm];dsimp only
     simp only[if_true]
     rw[m3];dsimp only
     rw[ei];dsimp only
     refine aA (wpAny_isSame_ref_self (aA (aB ?_)));simp only[if_true]
     rw[←yT] at m4 m5 ⊢;refine ih N' (by omega) (n+(m+1)) fuel _ rfl m4 m5 (by omega) (by omega) fun n' Ah=>?_;by_cases c:n'<n+m
     ·exact more m6 n' c
     ·have en:n'=n+m:=by omega
      rw[←yT] at m3;exact⟨i,e,by rw[en];exact m3,Ib,fun z=>ek z.2⟩
   by_cases hl:t.led=true
   ·rw[hl];simp only[dJ,aY,if_false]
    exact nV
   ·rw[lp] at hl;rw[hl];simp only[kM,if_true]
    refine aA (m:=searchCouldBeSeen _ _) (RO hx (fun y Dz=>?_) ?_)
    ·obtain⟨e',he,rfl⟩:=bI.mp Dz;obtain⟨b',h1,h2⟩:=hy e' (by
      have:=fe.mp he;exact fe.mpr (Array.mem_filter.mp this).1)
     exact⟨_,b',h1,h2⟩
    ·simp only[aY,if_false]
     exact nV
end
def Wj(t:SetTable)(es:Array (Int×Value)):Prop:=∀j e,(j,e)∈t.place.toList.zip es.toList->UJ t e.1 j
theorem zag{α β:Type}{as:List α}{bs:List β}{i:Nat}{a:α}{b:β}(h1:as[i]?=some a)(h2:bs[i]?=some b):(a,b)∈as.zip bs:=by
 rw[List.mem_iff_getElem?];exact⟨i,List.getElem?_zip_eq_some.mpr ⟨h1,h2⟩⟩
theorem QR{t:SetTable}{p j j0:Nat}:Occ { t with place:=cY t.place p j0 } j ↔ j=j0\/Occ t j:=by
 unfold Occ;show j∈(cY t.place p j0).toList ↔ _;rw[dP,bH,aK]
 conv=>rhs;rw[←gG p t.place.toList,bH]
 constructor
 ·rintro(z|z|z)
  ·exact .inr (.inl z)
  ·exact .inl z
  ·exact .inr (.inr z)
 ·rintro(z|z|z)
  ·exact .inr (.inl z)
  ·exact .inl z
  ·exact .inr (.inr z)
theorem jj{t:SetTable}{p j j0:Nat}{h:Int}(x:UJ t h j):UJ { t with place:=cY t.place p j0 } h j:=by
 obtain⟨n,h1,h2⟩:=x;exact⟨n,h1,fun n' Ah=>QR.mpr (.inr (h2 n' Ah))⟩
theorem S0{t:SetTable}{es:Array (Int×Value)}{p j0:Nat}{e0:Int×Value}(hz:t.place.size=es.size)(hp:p<=es.size)(x:Wj t es)(h0:UJ t e0.1 j0):Wj { t with place:=cY t.place p j0 } (cY es p e0):=by
 intro j e hm;have Dx:(j,e)∈(cY t.place p j0).toList.zip (cY es p e0).toList:=hm;rw[dP,dP,List.zip_append (by rw[bT,bT,aQ,aQ,hz]),l7] at Dx;have Fq:t.place.toList.zip es.toList=(t.place.toList.take p).zip (es.toList.take p)++(t.place.toList.drop p).zip (es.toList.drop p):=by
  rw[←List.zip_append (by rw[bT,bT,aQ,aQ,hz]),gG,gG]
 rcases bH.mp Dx with z|z
 ·exact jj (x j e (by rw[Fq];exact cW _ z))
 ·rcases aK.mp z with z|z
  ·injection z with z1 z2
   subst z1 z2;exact jj h0
  ·exact jj (x j e (by rw[Fq];exact bG _ z))
def TM(m:Nat):SetTable:={ mask:=m,place:=#[],dummies:=#[],finger:=0,led:=false,moves:=0,plain:=false }
def RQ(o:Array (Option Nat))(j:Nat):Prop:=∃k,o[j]?=some (some k)
def zbz(m:Nat)(o:Array (Option Nat))(h:Int)(j:Nat):Prop:=∃n,(itP (TM m).advance n ((TM m).probeStart h)).j=j/\∀n',n'<n->RQ o (itP (TM m).advance n' ((TM m).probeStart h)).j
theorem wO{t:SetTable}:∀(n:Nat) (p:da),n<=p.more->itP t.advance n p={ p with j:=p.j+n,more:=p.more-n }
 |0,p,_=>rfl
 |n+1,p,h=>by
  have e:t.advance p={ p with j:=p.j+1,more:=p.more-1 }:=by
   unfold iV;rw[if_pos (by omega)]
  show itP t.advance n (t.advance p)=_;rw[wO n (t.advance p) (by rw[e];show n<=p.more-1;omega),e];show({ p with j:=p.j+1+n,more:=p.more-1-n }:da)=_;rw[show p.j+1+n=p.j+(n+1) by omega,show p.more-1-n=p.more-(n+1) by omega]
theorem Xk{o:Array (Option Nat)}{m j:Nat}(hz:o.size=m+1)(hj:j<=m)(h:(o.getD j (some 0)).isNone=false):RQ o j:=by
 unfold RQ;have pO:j<o.size:=by omega
 unfold fJ at h;rw[dif_pos pO] at h;cases e:o[j] with
 |none=>simp[e] at h
 |some k=>exact⟨k,by rw[cF pO,e]⟩
theorem zah{m i:Nat}(h:i<=m):dD m i<=m:=by unfold dD;split <;> omega
theorem zai{m i:Nat}:i<=dD m i:=by unfold dD;split <;> omega
theorem Zu{m:Nat}{o:Array (Option Nat)}(hz:o.size=m+1):∀(fuel i pt j:Nat) (p:da),p.i=i->p.perturb=pt->p.j=i->p.more=dD m i-i->i<=m->eI m o fuel i pt=some j→
  ∃n,(itP (TM m).advance n p).j=j/\∀n',n'<n->RQ o (itP (TM m).advance n' p).j
 |0,i,pt,j,p,_,_,_,_,_,h=>by unfold eI at h;cases h
 |fuel+1,i,pt,j,p,e1,e2,e3,e4,hi,h=>by
  unfold eI at h;have le:=zai (m:=m) (i:=i);have el:=zah hi;split at h
  ·rename_i k hk;cases h;obtain⟨hk1,Ba⟩:=List.find?_range_eq_some.mp hk;have hkl:k<=p.more:=by have:=bN.mp Ba.1;omega
   refine⟨k,?_,fun n' Ah=>?_⟩
   ·rw[wO k p hkl];show p.j+k=_;omega
   ·rw[wO n' p (by omega)];show RQ o (p.j+n');rw[e3];refine Xk hz (by omega) ?_;have:=Ba.2 n' Ah;simpa using this
  ·rename_i hk;obtain⟨q,q1,q2,q3,q4,q5⟩:=uH (t:=TM m) p.more p rfl;have qi:q.i=(dw m i pt).1:=by
    have:=congrArg Prod.fst q2;rw[e1,e2] at this;exact this
   have qp:q.perturb=(dw m i pt).2:=by
    have:=congrArg Prod.snd q2;rw[e1,e2] at this;exact this
   have li:(dw m i pt).1<=m:=by unfold dw;exact mr (Nat.mod_lt _ (nF m))
   have qm:q.more=dD m (dw m i pt).1-(dw m i pt).1:=by
    have er:=wO (t:=TM m) p.more p (aG _);rw[SZ,er] at q1;have:q.more=((TM m).advance { p with j:=p.j+p.more,more:=p.more-p.more }).more:=by rw[q1]
    rw[this];unfold iV;rw[if_neg (by show ¬p.more-p.more>0;omega)];show dD m (dw m p.i p.perturb).1-(dw m p.i p.perturb).1=_;rw[e1,e2]
   obtain⟨n,n1,n2⟩:=Zu hz fuel _ _ j q qi qp (by rw[q3,qi]) qm li h;refine⟨p.more+1+n,by rw[yT,q1];exact n1,fun n' Ah=>?_⟩;by_cases c:n'<=p.more
   ·rw[wO n' p c];show RQ o (p.j+n');rw[e3];refine Xk hz (by omega) ?_;have:=List.find?_eq_none.mp hk n' (bN.mpr (by omega));exact kO.mpr this
   ·have:=n2 (n'-(p.more+1)) (by omega);rw[←q1,←yT,show p.more+1+(n'-(p.more+1))=n' by omega] at this;exact this
def zaj(m:Nat)(o:Array (Option Nat))(Hf:Nat->Int):Prop:=∀j k,o[j]?=some (some k)->zbz m o (Hf k) j
theorem UM{o:Array (Option Nat)}{j j0 k:Nat}(h0:o[j0]?=some none)(h:RQ o j):RQ (o.setIfInBounds j0 (some k)) j:=by
 obtain⟨k',h⟩:=h;have ne:j0≠j:=fun z=>by rw[z,h] at h0;cases h0
 exact⟨k',by rw[hZ ne];exact h⟩
theorem UN{m:Nat}(hm:uG m){owner:Array (Option Nat)}{k:Nat}{Hf:Nat->Int}(hz:owner.size=m+1)(ow:(owner.toList.filterMap id).Perm (aF k))(pv:zaj m owner Hf)(hk:k<=m){h:Int}(eh:Hf k=h) :
  ∃o',zaE m (some (owner,k)) h=some (o',k+1)/\o'.size=m+1/\(o'.toList.filterMap id).Perm (aF (k+1))/\zaj m o' Hf:=by
 obtain⟨t,t1,t2⟩:=Yl (l:=owner.toList) (by have:=ow.length_eq;rw[aS] at this;rw[this,aQ,hz];omega);rw[aQ,hz] at t1;obtain⟨L,l1,l2⟩:=Zq hm (i:=dy h % (m+1)) (QO h) (show t<=m by omega);have t3:(owner.getD t (some 0)).isNone=true:=by
  rw[cC] at t2;have ht:t<owner.size:=by omega
  have e:owner[t]=none:=by
   rw[cF ht] at t2;exact bQ t2
  unfold fJ;rw[dif_pos ht];simp[e]
 obtain⟨j,j1,j2⟩:=Zr (m:=m) (owner:=owner) L (dM m) (dy h % (m+1)) (dy h) (by show L<m+15;omega) (by rw[l2];exact t3);have hj:=UC j2;refine⟨owner.setIfInBounds j (some k),?_,?_,?_,fun j' k' pO=>?_⟩
 ·unfold zaE;show(eI m owner (dM m) (dy h % (m+1)) (dy h)).bind _=_;rw[j1];rfl
 ·rw[Array.size_setIfInBounds];exact hz
 ·rw[Array.toList_setIfInBounds];have pO:=hj;rw[←cC] at pO;refine(SR pO).trans ?_;rw[fB];exact((lZ k ow).trans (by simpa using(List.perm_append_singleton k (aF k)).symm))
 ·by_cases c:j=j'
  ·subst c;have hjs:j<owner.size:=(bP.mp hj).1;rw[Array.getElem?_setIfInBounds_self_of_lt hjs] at pO;injection pO with pO
   injection pO with pO
   subst pO;rw[eh];obtain⟨n,n1,n2⟩:=Zu hz (dM m) (dy h % (m+1)) (dy h) j ((TM m).probeStart h) rfl rfl rfl rfl (mr (Nat.mod_lt _ (nF m))) j1;exact⟨n,n1,fun n' Ah=>UM hj (n2 n' Ah)⟩
  ·rw[hZ c] at pO;obtain⟨n,n1,n2⟩:=pv j' k' pO;exact⟨n,n1,fun n' Ah=>UM hj (n2 n' Ah)⟩
theorem Zv{m:Nat}(hm:uG m){Hf:Nat->Int}:∀(hs:List Int) (owner:Array (Option Nat)) (k:Nat),owner.size=m+1->(owner.toList.filterMap id).Perm (aF k)->zaj m owner Hf->k+hs.length<=m->(∀(i:Nat) (h:Int),hs[i]?=some h->Hf (k+i)=h)→
  ∃o',hs.foldl (zaE m) (some (owner,k))=some (o',k+hs.length)/\o'.size=m+1/\(o'.toList.filterMap id).Perm (aF (k+hs.length))/\zaj m o' Hf
 |[],owner,k,hz,ow,pv,_,_=>⟨owner,rfl,hz,ow,pv⟩
 |h::hs,owner,k,hz,ow,pv,hk,hf=>by
  rw[cJ] at hk;obtain⟨o1,a1,a2,a3,a4⟩:=UN hm hz ow pv (by omega) (hf 0 h rfl);obtain⟨o2,b1,b2,b3,b4⟩:=Zv hm hs o1 (k+1) a2 a3 a4 (by omega) (fun i h' hi=>by rw[show k+1+i=k+(i+1) by omega];exact hf (i+1) h' (by rw[List.getElem?_cons_succ];exact hi));refine⟨o2,?_,b2,?_,b4⟩
  ·rw[lF,a1,b1,cJ];congr 2;omega
  ·rw[cJ,show k+(hs.length+1)=k+1+hs.length by omega];exact b3
theorem Wk{m:Nat}(hm:uG m){hashes:Array Int}(hk:hashes.size<=m):∃o',SetTable.layClean m hashes=some o'/\o'.size=m+1/\(o'.toList.filterMap id).Perm (aF hashes.size)/\zaj m o' fun k=>hashes.getD k 0:=by
 have e0:((mW (m+1) (none:Option Nat)).toList.filterMap id)=[]:=by
  rw[Array.toList_replicate];generalize m+1=n;induction n with
  |zero=>rfl
  |succ n ih=>rw[f'];exact ih
 obtain⟨o',a1,a2,a3,a4⟩:=Zv hm (Hf:=fun k=>hashes.getD k 0) hashes.toList (mW (m+1) none) 0 (by rw[Array.size_replicate]) (by rw[e0];exact nh _) (fun j k z=>by
  rw[Array.getElem?_replicate] at z;split at z <;> cases z) (by rw[aQ];omega) (fun i h hi=>by
  rw[cC] at hi;obtain⟨h1,h2⟩:=bP.mp hi;rw[lN];unfold fJ;rw[dif_pos h1];exact h2)
 refine⟨o',?_,a2,by simpa using a3,a4⟩;unfold SetTable.layClean;rw[←Array.foldl_toList];show md _ (hashes.toList.foldl (zaE m) (some (mW (m+1) none,0)))=_;rw[a1];rfl
theorem RS{α β:Type}:∀l:List (α×β),(l.map (·.1)).zip (l.map (·.2))=l
 |[]=>rfl
 | (a,b)::l=>by rw[cz,cz,l7,RS l]
noncomputable def ui(m:Nat)(o:Array (Option Nat)):List (Nat×Nat):=(aF (m+1)).filterMap fun j=>(o.getD j none).map (j,·)
theorem Xl{m:Nat}{o:Array (Option Nat)}(hz:o.size=m+1){j k:Nat}:(j,k)∈ui m o ↔ o[j]?=some (some k):=by
 unfold ui;rw[List.mem_filterMap];constructor
 ·rintro⟨i,hi,e⟩;obtain⟨k',e1,e2⟩:=eF.mp e;injection e2 with e2 e3
  subst e2 e3;have pU:i<o.size:=by rw[hz];exact bN.mp hi
  unfold fJ at e1;rw[dif_pos pU] at e1;rw[cF pU];exact congrArg some e1
 ·intro e;obtain⟨h1,h2⟩:=bP.mp e;refine⟨j,bN.mpr (by omega),?_⟩;unfold fJ;rw[dif_pos h1];show md _ (o[j])=_;rw[h2];rfl
theorem S1{m:Nat}{o:Array (Option Nat)}:((ui m o).map (·.1)).Pairwise (·<·):=by
 have e:(ui m o).map (·.1)=(aF (m+1)).filter fun j=>(o.getD j none).isSome:=by
  unfold ui;rw[List.map_filterMap,←List.filterMap_eq_filter]
  congr 1
  funext j
  show md (fun x=>x.1) (md (fun x=>(j,x)) (o.getD j none))=_;cases e:o.getD j none with
  |none=>simp[Option.guard,e]
  |some v=>simp[Option.guard,e]
 rw[e];exact fo.sublist gi
theorem Zw{α β:Type}{f:α->Option β}{g:α->β}:∀{l:List α},(∀x∈l,f x=some (g x))->l.filterMap f=l.map g
 |[],_=>rfl
 |a::l,h=>by
  rw[fu,h a (by simp),cz];dsimp only
  rw[Zw fun x hx=>h x (by simp[hx])]
theorem S2{t:SetTable}{es:Array (Int×Value)}{wanted:Nat}(hm:uG (dz wanted-1))(hk:es.size<=dz wanted-1) :
  ∃t' o9,t.relaid (es.map (·.1)) wanted=some (t',o9)/\t'.mask=dz wanted-1/\t'.place.size=es.size/\t'.dummies=#[]/\o9.toList.Perm (aF es.size)/\rE t'.place/\Wj t' (o9.filterMap (es[·]?)):=by
 obtain⟨o,a1,a2,a3,a4⟩:=Wk hm (hashes:=es.map (·.1)) (by rw[l6];exact hk);rw[l6] at a3;unfold SetTable.relaid SetTable.laid;generalize dz wanted-1=m at *
 have e:=SS a2;have o7:((ui m o).map (·.2)).Perm (aF es.size):=by rw[←e] at a3;exact a3
 have hl:=o7.length_eq;rw[aE,aS] at hl;refine⟨{ mask:=m,place:=((ui m o).map (·.1)).toArray,dummies:=#[],finger:=t.finger,led:=t.led,moves:=t.movedTo m,plain:=t.plain },((ui m o).map (·.2)).toArray,by rw[a1];rfl,rfl,?_,rfl,o7,?_,?_⟩
 ·show((ui m o).map (·.1)).toArray.size=_;rw[aO,aE];exact hl
 ·rw[sN];exact S1
 ·intro j x hx;have Ap:(j,x)∈((ui m o).map (·.1)).zip ((((ui m o).map (·.2)).toArray.filterMap (es[·]?)).toList):=hx;have ef:(((ui m o).map (·.2)).toArray.filterMap (es[·]?)).toList=((ui m o).map (·.2)).map fun k=>es.getD k (0,.none):=by
   rw[Array.toList_filterMap];show((ui m o).map (·.2)).filterMap (fun k=>es[k]?)=_;refine Zw fun k oU=>?_;have Ba:=bN.mp (o7.mem_iff.mp oU);show es[k]?=some (es.getD k (0,.none));unfold fJ;rw[dif_pos Ba,cF Ba];rfl
  rw[ef,List.zip_map_right,RS] at Ap;obtain⟨⟨j',k⟩,hjk,e2⟩:=bI.mp Ap;injection e2 with e3 e4
  have e3':j'=j:=e3;have e4':es.getD k (0,.none)=x:=e4;subst e3';have ok:=(Xl a2).mp hjk;have Ba:k<es.size:=bN.mp (o7.mem_iff.mp (bI.mpr ⟨_,hjk,rfl⟩));obtain⟨n,n1,n2⟩:=a4 _ _ ok;have eh:(es.map (·.1)).getD k 0=x.1:=by
   rw[←e4'];unfold fJ;rw[dif_pos (by rw[l6];exact Ba),dif_pos Ba];simp
  dsimp only at n1 n2;rw[eh] at n1 n2;refine⟨n,n1,fun n' Ah=>?_⟩;obtain⟨k',oU⟩:=n2 n' Ah;exact bI.mpr ⟨_,(Xl a2).mpr oU,rfl⟩
noncomputable def uI(ks:List (Int×Int))(k:Int×Int):List (Int×Int):=if k∈ks then ks else ks++[k]
noncomputable def Wl(ks:List (Int×Int)):List (Int×Int):=ks.foldl uI []
def zaF(kA:Addr->Int×Int):Value->Int×Int
 |.ref b=>kA b
 |_=>(0,0)
structure SetQS(prog:Program)(w:World)(h:Heap)(a:Addr)(kA:Addr->Int×Int)(bs:Addr->Prop)(ks:List (Int×Int))(es:Array (Int×Value))(ep:Nat)(t:SetTable):Prop where
 at_:h.get? a=some (u6 es ep t)
 el:∀e∈es.toList,∃b,bs b/\e.2=aN b/\e.1=sx (sw prog w) (sw prog w) (kA b)
 pm:(es.toList.map fun e=>zaF kA e.2).Perm ks
 pz:t.place.size=es.size
 dm:t.dummies=#[]
 room:(t.mask=7/\es.size<=4)\/(t.mask=31/\es.size<=18)\/(t.mask=127/\es.size<=60)
 rise:rE t.place
 path:Wj t es
def uj(prog:Program)(w:World)(h:Heap)(a:Addr)(kA:Addr->Int×Int)(bs:Addr->Prop)(ks:List (Int×Int)):Prop:=∃es ep t,SetQS prog w h a kA bs ks es ep t
section
variable{prog:Program}{w:World}{A:Around}{E:VS7}{s:Shared}{a:Addr}{kA:Addr->Int×Int}{bs:Addr->Prop}{ks:List (Int×Int)}
theorem SetQS.mk_{h:Heap}{es ep t}(S:SetQS prog w h a kA bs ks es ep t):uG t.mask:=by
 rcases S.room with ⟨z,_⟩|⟨z,_⟩|⟨z,_⟩
 ·exact .inl z
 ·exact .inr (.inl z)
 ·exact .inr (.inr z)
theorem SetQS.fit{h:Heap}{es ep t}(S:SetQS prog w h a kA bs ks es ep t):t.fits es.size=true:=by
 refine Ym S.dm S.pz ?_;rcases S.room with ⟨z,l⟩|⟨z,l⟩|⟨z,l⟩ <;> rw[z] <;> omega
theorem SetQS.len{h:Heap}{es ep t}(S:SetQS prog w h a kA bs ks es ep t):es.size=ks.length:=by
 have:=S.pm.length_eq;rw[aE,aQ] at this;exact this
theorem uj.keep{h h':Heap}(S:uj prog w h a kA bs ks)(k:∀o,h.get? a=some o->h'.get? a=some o):uj prog w h' a kA bs ks:=by
 obtain⟨es,ep,t,S⟩:=S;exact⟨es,ep,t,{ S with at_:=k _ S.at_ }⟩
set_option maxHeartbeats 1600000 in
theorem UO{es:Array (Int×Value)}{ep:Nat}{t:SetTable}{wanted:Nat}{Q:Unit->Shared->Prop}(ho:s.heap.get? a=some (u6 es ep t))(fit:t.fits es.size=true)(hz:es.size<=60)(hm:uG (dz wanted-1))(hk:es.size<=dz wanted-1)
  (h:∀h' BM t1,cP a s.heap h'->h'.get? a=some (u6 BM (ep+1) t1)->BM.toList.Perm es.toList->t1.mask=dz wanted-1->t1.place.size=es.size->t1.dummies=#[]->rE t1.place->Wj t1 BM->Q () { s with heap:=h' }) :
  wpAny (model prog w) A (setRelay a wanted) Q E s:=by
 obtain⟨t',o9,r1,r2,r3,r4,r6,r7,r8⟩:=S2 (t:=t) (es:=es) (wanted:=wanted) hm hk;have p:=UD (es:=es) r6;have z:(o9.filterMap (es[·]?)).size=es.size:=by have:=p.length_eq;rw[aQ,aQ] at this;exact this
 unfold setRelay;refine aA (ft ho rfl fit ?_);dsimp only
 have w128:dz wanted<=128:=by rcases hm with y|y|y <;> omega
 have zline:=gN;rw[if_neg (by omega)];rw[r1];refine aA ?_;show wpAny _ _ (do
  if(o9.filterMap (es[·]?)).size != es.size then unsupported "internal:set-table-lost-an-element"
  pure (o9.filterMap (es[·]?),t')) _ _ _
 rw[if_neg (by rw[z];simp)];refine aB ?_;dsimp only
 exact Zt ho (by rw[z];omega) fun h' sb hg=>h h' _ _ sb hg p r2 r3 r4 r7 r8
set_option maxHeartbeats 3200000 in
theorem uj.add{b:Addr}{Q:Bool->Shared->Prop}(S:uj prog w s.heap a kA bs ks)(hm:ks.length<60)(hu:A.units+1<ig)(hk:∀b,bs b->rF prog w s.heap (kA b) b)(hb:bs b)
  (h:∀bb h',cP a s.heap h'->uj prog w h' a kA bs (uI ks (kA b))->Q bb { s with heap:=h' }) :
  wpAny (model prog w) A (setAddHashed a (.ref b) (sx (sw prog w) (sw prog w) (kA b))) Q E s:=by
 obtain⟨es,ep,t,S⟩:=S;have lz:=S.len;generalize hhs:sx (sw prog w) (sw prog w) (kA b)=hs;unfold setAddHashed setAddHashedIn;refine bU (aA (ft S.at_ rfl S.fit ?_));dsimp only
 rw[if_neg (by unfold byScan;simp[Value.scannable])];unfold setSearch;have pm:t.place.size<=t.mask:=by rw[S.pz];rcases S.room with ⟨z,l⟩|⟨z,l⟩|⟨z,l⟩ <;> rw[z] <;> omega
 have mem:∀k,k∈ks ↔ ∃e∈es.toList,zaF kA e.2=k:=fun k=>by rw[←S.pm.mem_iff,List.mem_map]
 refine aA (search_any (key:=zaF kA) S.at_ S.fit S.mk_ S.dm hu (hk b hb) (fun e he=>?_) (fun he=>?_) (fun n Fg Dm=>?_) (10*dM t.mask) 0 100000 none rfl rfl (SQ S.mk_ S.dm pm hs) (aG _) ?_ (fun n' Ah=>absurd Ah (gL _)))
 ·obtain⟨c,h1,h2,_⟩:=S.el e he;exact⟨c,h2,by rw[h2];exact hk c h1⟩
 ·dsimp only
  refine aB (h false s.heap (mq a s.heap) ?_);rw[show uI ks (kA b)=ks from if_pos ((mem _).mpr he)];exact⟨es,ep,t,S⟩
 ·have fresh:kA b∉ks:=fun z=>by
   obtain⟨e,he,ek⟩:=(mem _).mp z;obtain⟨c,c1,c2,c3⟩:=S.el e he;have ec:kA c=kA b:=by rw[c2] at ek;exact ek
   have eh:e.1=hs:=by rw[c3,ec,hhs]
   obtain⟨i,hi⟩:=k8.mp he;have Gx:i<es.size:=by have:=(aL.mp hi).1;rwa[aQ] at this
   have Ic:i<t.place.toList.length:=by rw[aQ,S.pz];exact Gx
   obtain⟨m,m1,m2⟩:=S.path _ e (zag (aC Ic) hi);rw[eh] at m1 m2;have Fs:Occ t (itP t.advance m (t.probeStart hs)).j:=by rw[m1];exact fF Ic
   rcases kT m n with c'|c'|c'
   ·obtain⟨i',e',s1,s2,s3⟩:=Dm m c';rw[m1] at s1;have pl:=uf s1;have hi'1:=(bP.mp pl).1;have hpi:t.place[i]?=some t.place.toList[i]:=by rw[←cC];exact aC Ic
    obtain⟨q1,q2⟩:=bP.mp pl;obtain⟨q3,q4⟩:=bP.mp hpi;have ei:i'=i:=by
     rcases kT i' i with z|z|z
     ·have:=S.rise _ _ q3 z;omega
     ·exact z
     ·have:=S.rise _ _ q1 z;omega
    subst ei;rw[cC,s2] at hi;injection hi with hi
    subst hi;exact s3 ⟨eh,by rw[c2];exact ec⟩
   ·subst c';exact UK S.rise S.dm Fg Fs
   ·exact UK S.rise S.dm Fg (m2 n c')
  have hp:UJ t hs (itP t.advance n (t.probeStart hs)).j:=⟨n,rfl,fun n' Ah=>by
   obtain⟨i,_,s1,_⟩:=Dm n' Ah;exact SY s1⟩
  have fw:=Wg Fg;generalize (itP t.advance n (t.probeStart hs)).j=j at Fg hp fw;have es_:uI ks (kA b)=ks++[kA b]:=if_neg fresh;rw[es_] at h;dsimp only
  refine aA (ft S.at_ rfl S.fit ?_);dsimp only
  obtain⟨p1,p2⟩:=zaf S.dm j;have rp:=SN S.rise fw;rw[p1] at rp;rw[p1,p2];have bz:=Wh t.place j;have ez:=uh es (cy t.place j) (hs,aN b) (by rw[←S.pz];exact bz);have tz:=uh t.place (cy t.place j) j bz;rw[S.pz] at tz;have Ie:∀e∈(cY es (cy t.place j) (hs,aN b)).toList,∃b,bs b/\e.2=aN b/\e.1=sx (sw prog w) (sw prog w) (kA b):=fun e he=>by
   rw[dP] at he;rcases bH.mp he with z|z
   ·exact S.el e (List.mem_of_mem_take z)
   ·rcases aK.mp z with z|z
    ·exact⟨b,hb,by rw[z],by rw[z,hhs]⟩
    ·exact S.el e (List.mem_of_mem_drop z)
  have Ig:((cY es (cy t.place j) (hs,aN b)).toList.map fun e=>zaF kA e.2).Perm (ks++[kA b]):=by
   rw[dP];refine((List.perm_middle).map _).trans ?_;rw[gG,cz];refine((lZ _ S.pm)).trans ?_;exact(List.perm_append_singleton (kA b) ks).symm
  have Gy:=S0 (e0:=(hs,aN b)) (j0:=j) S.pz (p:=cy t.place j) (by rw[←S.pz];exact bz) S.path hp;generalize cY es (cy t.place j) (hs,aN b)=BM at ez Ie Ig Gy ⊢;generalize cY t.place (cy t.place j) j=pl1 at tz rp Gy ⊢;have main:∀(t1:SetTable),t1.place=pl1->t1.dummies=#[]->t1.mask=t.mask->Wj t1 BM->wpAny (model prog w) A (do
    storeSet a BM t1
    if !false && t1.tooFull then setRelay a (me (es.size+1))
    return true) Q E s:=by
   intro t1 e1 e2 e3 pq;refine aA (Zt S.at_ (by omega) fun h1 Co g1=>?_);have fl:t1.fill=es.size+1:=by unfold SetTable.fill;rw[e1,e2,tz];rfl
   by_cases c:t1.tooFull=true
   ·rw[c];simp only[kM,Bool.and_self,if_true]
    have c2:t.mask*3<=(es.size+1)*5:=by unfold SetTable.tooFull at c;rw[fl,e3] at c;exact of_decide_eq_true c
    have cs:(es.size=4/\t.mask=7)\/(es.size=18/\t.mask=31):=by
     rcases S.room with ⟨z,l⟩|⟨z,l⟩|⟨z,l⟩
     ·left;omega
     ·right;omega
     ·omega
    have sa:∃mk,dz (me (es.size+1))-1=mk/\uG mk/\es.size+1<=mk/\((mk=31/\es.size+1<=18)\/(mk=127/\es.size+1<=60)):=by
     rcases cs with ⟨z,_⟩|⟨z,_⟩
     ·rw[z];exact⟨31,zci,.inr (.inl rfl),by omega,.inl ⟨rfl,by omega⟩⟩
     ·rw[z];exact⟨127,zcj,.inr (.inr rfl),by omega,.inr ⟨rfl,by omega⟩⟩
    obtain⟨mk,s1,s2,s3,s4⟩:=sa;have f1:t1.fits BM.size=true:=Ym e2 (by rw[e1,tz,ez]) (by rw[ez,e3];omega);refine aA (UO (s:={ s with heap:=h1 }) g1 f1 (by omega) (by rw[s1];exact s2) (by rw[s1,ez];exact s3) fun h2 DH t2 Br g2 Ih m2 z2 d2 r2 q2=>?_);have z3:DH.size=es.size+1:=by have:=Ih.length_eq;rw[aQ,aQ] at this;rw[this,ez]
    refine aB (h true _ (Co.trans Br) ⟨DH,_,t2,g2,fun e he=>Ie e (Ih.mem_iff.mp he),(Ih.map _).trans Ig,by rw[z2,ez,z3],d2,?_,r2,q2⟩);rw[m2,s1,z3];rcases s4 with y|y
    ·exact .inr (.inl y)
    ·exact .inr (.inr y)
   ·rw[lp] at c;rw[c];simp only[io,aY,if_false]
    refine aB (h true _ Co ⟨BM,_,t1,g1,Ie,Ig,by rw[e1,tz,ez],e2,?_,by rw[e1];exact rp,pq⟩);have c2:(es.size+1)*5<t.mask*3:=by unfold SetTable.tooFull at c;rw[fl,e3] at c;exact lm (of_decide_eq_false c)
    rw[e3,ez];rcases S.room with ⟨z,l⟩|⟨z,l⟩|⟨z,l⟩
    ·left;exact⟨z,by omega⟩
    ·right;left;exact⟨z,by omega⟩
    ·right;right;exact⟨z,by omega⟩
  split
  ·refine aA (ST (hk b hb) ?_);simp only[if_true]
   exact main _ rfl S.dm rfl Gy
  ·refine aA (aB ?_);simp only[if_true]
   exact main _ rfl S.dm rfl Gy
 ·show 10*(t.mask+15)<100000;rcases S.mk_ with z|z|z <;> rw[z] <;> decide
end
theorem QS{ks:List (Int×Int)}:(Wl ks).length<=ks.length:=by
 have key:∀(ks acc:List (Int×Int)),(ks.foldl uI acc).length<=acc.length+ks.length:=by
  intro ks;induction ks with
  |nil=>intro acc;exact aG _
  |cons k ks ih =>
   intro acc;rw[lF,cJ];have:=ih (uI acc k);have:(uI acc k).length<=acc.length+1:=by
    unfold uI;split
    ·omega
    ·rw[bD];exact aG _
   omega
 have:=key ks [];rw[eX,lN] at this;exact this
theorem QT{ks:List (Int×Int)}:(Wl ks).length=ks.length ↔ ks.Nodup:=by
 have key:∀(ks acc:List (Int×Int)),acc.Nodup->((ks.foldl uI acc).length=acc.length+ks.length ↔ (acc++ks).Nodup)/\(ks.foldl uI acc).length<=acc.length+ks.length:=by
  intro ks;induction ks with
  |nil=>intro acc h;simp[h]
  |cons k ks ih =>
   intro acc h;rw[lF,cJ];by_cases c:k∈acc
   ·have e:uI acc k=acc:=if_pos c;rw[e];obtain⟨_,i2⟩:=ih acc h;refine⟨⟨fun z=>by omega,fun z=>?_⟩,by omega⟩;rw[List.nodup_append] at z;exact absurd rfl (z.2.2 k c k (by simp))
   ·have e:uI acc k=acc++[k]:=if_neg c;rw[e];have nd:(acc++[k]).Nodup:=gS.mpr ⟨h,by simp,fun x hx y hy z=>by rw[aR.mp hy] at z;exact c (z▸hx)⟩;obtain⟨i1,i2⟩:=ih (acc++[k]) nd;rw[bD,cZ] at i1 i2;rw[dI] at i1;exact⟨⟨fun z=>i1.mp (by omega),fun z=>by have:=i1.mpr z;omega⟩,by omega⟩
 have:=(key ks [] (by simp)).1;rw[eX,lN,fX] at this;exact this
section
variable{prog:Program}{w:World}{A:Around}{E:VS7}{s:Shared}
theorem UP{R:Result->Shared->Prop}{I:Addr}{fp wr:List Addr}{n:Nat}{P:Nat->Value->Prop}{St:Nat->Heap->Prop}(W:Walks prog w A.in1 I fp wr n P St)(S:Addr)(hSf:S∉fp)
  (kA:Addr->Int×Int) (ad:Nat->Addr) (Ii:∀i v,P i v->v=.ref (ad i)) (hb:n<=50) (hu:A.in1.units+1<ig) (had:∀i,i<n->ad i∉S::wr) :
  ∀(k i:Nat) (s:Shared),n-i=k->i<=n->St i s.heap->uj prog w s.heap S kA (fun b=>∃i,i<n/\ad i=b) (Wl ((aF i).map fun i=>kA (ad i)))->(∀i,i<n->rF prog w s.heap (kA (ad i)) (ad i))→
   (∀s',Moved (S::wr) (fun a b=>b=a) s s'->uj prog w s'.heap S kA (fun b=>∃i,i<n/\ad i=b) (Wl ((aF n).map fun i=>kA (ad i)))->R (.ok (.ret .none)) s')→
   iw (model prog w) A (.builtin "set.update.loop" ⟨[.ref S,.ref I],[]⟩) R s:=by
 have WS:=W.toS;have hSw:S∉wr:=fun h=>hSf (W.sub _ h);have Bh:∀b∈wr,b∈S::wr:=fun b hb=>aX _ hb;intro k;induction k with
 |zero =>
  intro i s hk hi AL hS hK hR;have e:i=n:=by omega
  subst e;refine dC F.entry_set_update_loop ?_;rw[Around.under_plainId F.plain_set_update_loop _];show wpAny _ A.in1 (pyNext (.ref I) >>= _) _ _ s;refine aA (WS.done s _ _ AL fun s' hm=>?_);show wpAny _ A.in1 (ret aU) _ _ s';exact aB (hR s' (hm.mono Bh) (hS.keep fun o e=>hm.heap S o hSw e))
 |succ k ih =>
  intro i s hk hi AL hS hK hR;have n5:i<n:=by omega
  refine dC F.entry_set_update_loop ?_;rw[Around.under_plainId F.plain_set_update_loop _];show wpAny _ A.in1 (pyNext (.ref I) >>= _) _ _ s;refine aA (WS.item i s _ _ n5 AL fun v s' hP Ij hm=>?_);obtain rfl:=Ii i v hP;show wpAny _ A.in1 (holding [aN (ad i)] (setAdd S (.ref (ad i))) >>= _) _ _ s';refine aA (bU ?_);have Ik:∀i,i<n->rF prog w s'.heap (kA (ad i)) (ad i):=fun j hj=>(hK j hj).keep fun o e=>hm.heap (ad j) o (fun z=>had j hj (Bh _ z)) e;unfold setAdd;refine bU (aA (VU hu (Ik i n5) ?_));have dl:=QS (ks:=(aF i).map fun i=>kA (ad i));rw[aE,aS] at dl;refine uj.add (s:={ s' with toks:=s'.toks+_ }) (hS.keep fun o e=>hm.heap S o hSw e) (by omega) hu (fun b hb=>?_) ⟨i,n5,rfl⟩ fun bb h' Il h2=>?_
  ·obtain⟨j,hj,rfl⟩:=hb;exact Ik j hj
  have e2:uI (Wl ((aF i).map fun i=>kA (ad i))) (kA (ad i))=Wl ((aF (i+1)).map fun i=>kA (ad i)):=by
   unfold Wl;rw[fB,bZ,iJ];rfl
  rw[e2] at h2;refine aB ⟨mC F.plain_set_update_loop _,ih (i+1) _ (by omega) n5 (WS.frame _ s' _ _ Ij (iR _ _) fun b hb o e=>?_) h2 (fun j hj=>(Ik j hj).keep fun o e=>?_) fun CW Im h3=>?_⟩
  ·rw[Il.2 b (fun h:b=S=>hSf (by rw[←h];exact hb))];exact e
  ·show h'.get? (ad j)=some o;rw[Il.2 (ad j) (fun h:ad j=S=>had j hj (by rw[h];exact bM))];exact e
  ·refine hR CW (Moved.trans WS.gtrans ((hm.mono Bh).then_heap (iR _ _) fun b o hb e=>?_) Im) h3;rw[Il.2 b (fun h:b=S=>hb (by rw[h];exact bM))];exact e
theorem Wm{led:Bool}{h:Heap}{a:Addr}{kA:Addr->Int×Int}{bs:Addr->Prop}(hg:h.get? a=some { cls:=.type "set",dict:=none,data:=.set #[] 0 (.fresh 0 0 led) }):uj prog w h a kA bs [] :=
 ⟨#[],0,_,hg,fun e he=>(by simp at he),nh _,rfl,rfl,.inl ⟨rfl,by simp⟩,fun i j hj _=>absurd hj (by simp[SetTable.fresh]),fun j e h=>by simp[SetTable.fresh] at h⟩
set_option maxHeartbeats 3200000 in
theorem Wn{l:Addr}{items:Array Value}{kA:Addr->Int×Int}{ad:Nat->Addr}{Q:VS7}
  (hh:A.handled=none) (hu:A.units+8<ig) (hl:s.heap.IsList l items) (hi:∀(i:Nat) (v:Value),items[i]?=some v->v=.ref (ad i)) (hk:∀i,i<items.size->rF prog w s.heap (kA (ad i)) (ad i)) (hb:items.size<=50)
  (h:∀(h':Heap) (tk:Nat),uj prog w h' s.heap.objs.size kA (fun b=>∃i,i<items.size/\ad i=b) (Wl ((aF items.size).map fun i=>kA (ad i)))->(∀b o,b<s.heap.objs.size->s.heap.get? b=some o->h'.get? b=some o)->Q (.ref s.heap.objs.size) { s with heap:=h',toks:=tk }) :
  wpAny (model prog w) A (call (.type "set") [.ref l]) Q E s:=by
 obtain⟨c,tl,hmro⟩:=PySem.F.called_set.mro;have hmade:=PySem.F.called_set.made;have Bh:=PySem.F.called_set.sub;refine nA (mV ?_);show wpAny _ _ (callAny (.type "set") _) _ _ _;refine aB ⟨km _ (by decide +kernel),dC PySem.F.entry_type_call ?_⟩;rw[Around.under_plain (weight_type_call_type "set" [.ref l] []) rfl];have h1:=PySem.F.called_set.notType;have h2:=PySem.F.called_set.canCreate;have hct:=PySem.F.typeCall_set_1 (.ref l);repeat (any_goals (first|assumption|wp_step))
 generalize hled:(!w.params.followText "set-order")=led;refine ix (QM (.ref l) (E:=E) (Q₁:=fun obj s₁=>obj=.ref s.heap.objs.size/\s₁={ s with heap:=s.heap.push { cls:=.type "set",dict:=none,data:=.set #[] 0 (.fresh 0 0 led) } }) ⟨rfl,by rw[hled]⟩) fun r s₁ hr=>?_;cases r with
 |error e=>exact hr
 |ok fl =>
  cases fl with
  |ret obj =>
   obtain⟨rfl,rfl⟩:=hr;have hS:(s.heap.push { cls:=.type "set",dict:=none,data:=.set #[] 0 (.fresh 0 0 led) }).get? s.heap.objs.size=some { cls:=.type "set",dict:=none,data:=.set #[] 0 (.fresh 0 0 led) }:=aM _ rfl;have hT:mD { s with heap:=s.heap.push { cls:=.type "set",dict:=none,data:=.set #[] 0 (.fresh 0 0 led) } } (.ref s.heap.objs.size) "set":=⟨_,hS,rfl⟩
   have hli:=PySem.F.called_set.init.lookup;have hbi:=PySem.F.called_set.init.bind (.ref s.heap.objs.size);repeat (any_goals (first|assumption|wp_step))
   refine ix (lA (R:=wants (fun r s₂=>r=.none/\∃h' tk,s₂={ s with heap:=h',toks:=tk }/\uj prog w h' s.heap.objs.size kA (fun b=>∃i,i<items.size/\ad i=b) (Wl ((aF items.size).map fun i=>kA (ad i)))∧
     (∀b o,b<s.heap.objs.size->s.heap.get? b=some o->h'.get? b=some o)) E) PySem.F.called_set.init.plain PySem.F.entry_set_init (check_set_init_1 hT ?_)) fun r₂ s₂ Ct=>?_
   ·obtain⟨ol,EH,hcl,nl,EI⟩:=hl;obtain⟨ocls,Ft,odata,D9⟩:=ol;simp only at hcl EI;subst hcl;subst EI;have Io:(s.heap.push { cls:=.type "set",dict:=none,data:=.set #[] 0 (.fresh 0 0 led) }).get? l=some { cls:=.type "list",dict:=Ft,data:=.seq items nl,slots:=D9 }:=aD _ EH;have hsls:=PySem.F.sub_list_set;have hslf:=PySem.F.sub_list_frozenset;have pd:(cK "list" == cK "dict")=false:=by decide
    have AT:(s.heap.push { cls:=.type "set",dict:=none,data:=.set #[] 0 (.fresh 0 0 led) }).IsList l items:=⟨_,Io,rfl,nl,rfl⟩
    unfold Builtin.«set.__init__» noKeywords Builtin.Frozenset.updateFrom;generalize hPI:pyIter=PI
    wp_walk
    subst hPI;refine gM AT (aA (kH ?_));have hlS:l<s.heap.objs.size:=aP EH;have hz:(s.heap.push { cls:=.type "set",dict:=none,data:=.set #[] 0 (.fresh 0 0 led) }).objs.size=s.heap.objs.size+1:=fM ..;have nI:l≠(s.heap.push { cls:=.type "set",dict:=none,data:=.set #[] 0 (.fresh 0 0 led) }).objs.size:=by rw[hz];exact aW (fm hlS)
    have adl:∀i,i<items.size->ad i<s.heap.objs.size:=fun i pU=>by
     obtain⟨o,_,_,_,ho,_⟩:=hk i pU;exact aP ho
    refine UP (Walks.list (by simp[hh]) _ l nI items) s.heap.objs.size (by rw[hz];simp only[aK,aR,fK,or_false,not_or];exact⟨aW (il _),dB hlS⟩) kA ad (fun i v hv=>hi i v hv) hb ?_ (fun i pU=>by rw[hz];simp only[aK,aR,fK,or_false,not_or];exact⟨aW (adl i pU),aW (fm (adl i pU))⟩) (items.size-0) 0 _ (by omega) (cw _)
     ⟨⟨_,aM _ rfl,rfl,rfl⟩,(AT.push _)⟩ (Wm (aD _ hS)) (fun i pU=>(hk i pU).keep fun o e=>aD _ (aD _ e)) fun s' hm Di=>?_
    ·show A.units+1+1+1+1<ig;omega
    obtain⟨h',g',d',tk',Hd⟩:=s';have eg:g'=s.gens:=hm.gens;have ed:d'=s.drawn:=hm.drawn;have eo:Hd=s.os:=hm.os;subst eg;subst ed;subst eo;refine aB ?_;show wpAny _ _ (ret aU) _ _ _;refine aB ⟨rfl,h',tk',rfl,Di,fun b o hb e=>?_⟩;exact hm.heap b o (by rw[hz];simp only[aK,aR,fK,or_false,not_or];exact⟨aW hb,aW (fm hb)⟩) (aD _ (aD _ e))
   ·cases r₂ with
    |error e=>exact Ct
    |ok fl₂ =>
     cases fl₂ with
     |ret r =>
      obtain⟨rfl,h',tk,rfl,Di,oU⟩:=Ct;repeat (any_goals (first|assumption|wp_step))
      exact h _ _ Di oU
     |_=>exact Ct.elim
  |_=>exact hr.elim
theorem uj.pn{h:Heap}{a:Addr}{kA:Addr->Int×Int}{bs:Addr->Prop}{ks:List (Int×Int)}(S:uj prog w h a kA bs ks):Yn h a ks.length:=by
 obtain⟨es,ep,t,S⟩:=S;refine⟨fun i=>match es[i]? with|some (_,.ref b)=>b|_=>0,es,ep,t,S.at_,fun e he=>?_,S.len,by rw[S.pz,S.len],S.dm,by rw[←S.len];exact S.room⟩;obtain⟨i,hi⟩:=k8.mp he;obtain⟨b,_,e2,_⟩:=S.el e he;have hl:=(aL.mp hi).1;rw[aQ,S.len] at hl;refine⟨i,hl,?_⟩;rw[cC] at hi;have ee:e=(e.1,aN b):=by rw[←e2]
 rw[ee] at hi;rw[hi,e2]
end
section
variable{X:Cx}{K:FG7}
theorem UQ{k:Nat}(hK:X.K=K)(hr:Room k X.A):xG X (.type "set") (fun xs H Q=>∃a vs ks,xs=[V.ref a]/\SqL K H a vs/\yG (PrL K H) vs ks/\ks.length<=50/\∀l,H l=none->Q (.ref l) (upd H l (.ext fun h=>Yn h l (Wl ks).length))):=by
 subst hK;intro nJ s σ H xs us Q I r h;obtain⟨a,vs,ks,rfl,ha,hA,hl,q⟩:=h;obtain⟨u,rfl,ru⟩:=vq r;cases ru;obtain⟨nK,rv,p,hz⟩:=I.list ha;have nR:=rv.length;have al:=hA.len
 let ad:Nat->Addr:=fun i=>match nK[i]? with
  |some (.ref b)=>b
  |_=>0
 obtain⟨kA,hkA⟩:∃kA:Addr->Int×Int,∀b k,rF X.prog X.w s.heap k b->kA b=k:=by
  refine⟨fun b=>Classical.epsilon fun k=>rF X.prog X.w s.heap k b,fun b k hk=>?_⟩;have:=Classical.epsilon_spec (p:=fun k=>rF X.prog X.w s.heap k b) ⟨k,hk⟩;exact this.inj hk
 have key:∀(i:Nat) (v:Value),nK[i]?=some v->v=.ref (ad i)/\∃k,ks[i]?=some k/\rF X.prog X.w s.heap k (ad i):=fun i v hv=>by
  obtain⟨hj,ej⟩:=aL.mp hv;obtain⟨z,Cp,BV⟩:=Z0 rv i hj;rw[ej] at BV;obtain⟨k,hk,b,rfl,hb⟩:=hA.get Cp;obtain rfl:v=aN b:=BV;have e:ad i=b:=by show(match nK[i]? with|some (.ref b)=>b|_=>0)=b;rw[hv]
  rw[e];exact⟨rfl,k,hk,hb.is I⟩
 have BV:nK.toArray.size=ks.length:=by rw[aO,←al];exact nR.symm
 have hks:(aF nK.toArray.size).map (fun i=>kA (ad i))=ks:=by
  refine iU (by rw[aE,aS,BV]) fun i h1 h2=>?_;rw[eG,kr];rw[aE,aS,aO] at h1;obtain⟨_,k,k1,k2⟩:=key i _ (aC h1);rw[hkA _ _ k2];rw[aC h2] at k1;exact(bQ k1).symm
 refine Wn (kA:=kA) (ad:=ad) hr.hd (by have:=hr.un;omega) p.isList (fun i v hv=>(key i v (by simpa using hv)).1) (fun i hi=>?_) (by rw[BV];exact hl) fun h' tk hS kp=>?_
 ·rw[aO] at hi;obtain⟨_,k,k1,k2⟩:=key i _ (aC hi);rw[hkA _ _ k2];exact k2
 ·rw[hks] at hS;exact⟨.ref s.heap.objs.size,_,I.laid (t':=tk) (fun b o eb=>kp b o (aP eb) eb) (aG _) (zT.setP hS.pn),rfl,q _ (I.hok.fresh (aG _))⟩
end
def uJ(h:Heap)(e:Addr):Prop:=∃o vs,h.get? e=some o/\o.data=.fields vs/\vs[2]?=some .none
theorem jk:entryFor table "proto.unchain" = some Builtin.«proto.unchain»:=entryFor_of_fast (by kernel_rfl)
section
variable{prog:Program}{w:World}{A:Around}{E:VS7}{s:Shared}
theorem qw{e x:Addr}{Q:VS7}(hn:uJ s.heap e)(h:Q .none s):wpAny (model prog w) A (runValue (.builtin "proto.unchain" ⟨[.ref x,.ref e,.ref e,.bool false],[]⟩)) Q E s:=by
 obtain⟨o,vs,ho,hd,h2⟩:=hn;refine kH (dC jk ?_);show wpAny _ _ (lx (.ref e) 2 >>= _) _ _ s;refine aA (bS ho hd h2 ?_);exact aB h
end
structure RoomH(k:Nat)(A:Around):Prop where
 dp:A.depth+3*k+5<recursionLimit
 un:A.units+16*k+200<ig
theorem RoomH.mono{j k:Nat}{A:Around}(r:RoomH k A)(h:j<=k):RoomH j A:=⟨by have:=r.dp;omega,by have:=r.un;omega⟩
theorem RoomH.of{k:Nat}{X:Cx}{e:Addr}(r:Room k X.A):RoomH k (handX X e).A:=⟨r.dp,r.un⟩
noncomputable abbrev cxH(P:Program)(w:World)(K:FG7)(mg:Str->Option Value)(base:Heap)(N:List Str)(qual:Str)(scope:Scope)(f:Addr)(cd:Value)(A:Around)(outer:List Env)(s:Shared)(H:Hp):Cx :=
 { ZX CX0 P w K mg base N qual scope f cd A outer s H E0 with calm:=false,xe:=fun _ _=>False }
structure FnOkH(P:Program)(w:World)(K:FG7)(mg:Str->Option Value)(base:Heap)(k:Nat)(f:Addr)(fd:FuncData)(ps:List Str)(sp:Addr->Sp):Prop where
 len:∀e vs H Q E,sp e vs H Q E->vs.length=ps.length
 run:∀(A:Around) (outer:List Env) (s:Shared) (H:Hp) (args:Args) (us:List Value) (vs:List V) (Q:VK) (e:Addr),A.handled=some (.ref e)->RoomH k A->Env0 P w K mg base A outer s H->nj s fd args (ps.zip us)->zP vs us->sp e vs H Q E0→
  iw (model P w) A (.call (.ref f) args) (CR CX0 outer P w H s Q E0) s
section
variable{P:Program}{w:World}{K:FG7}{mg:Str->Option Value}{base:Heap}
theorem Wo{N ps:List Str}{qual:Str}{scope:Scope}{f:Addr}{cd:Value}{A:Around}{outer:List Env}{s s1:Shared}{H:Hp}{us:List Value}{vs:List V}
  (S:FnScope N ps scope) (e0:Env0 P w K mg base A outer s H) (hl:vs.length=ps.length) (r:zP vs us)
  (x:InCallC s s.heap.objs.size (bindL (envOfC qual scope s.heap.objs.size f cd).kindOf (ps.zip us) fun _=>none) (cellsFrom (s.heap.objs.size+1) scope.names []) (bindC (envOfC qual scope s.heap.objs.size f cd).kindOf (ps.zip us) fun _=>none) s1) :
  Inv (cxH P w K mg base N qual scope f cd A outer s H) [] (tm N vs) H s1:=by
 have e1:Env0 P w K mg base { A with handled:=none } outer s H:=⟨e0.frames,e0.mod,e0.bs,e0.bsz,e0.funs,e0.frf,e0.hok,e0.bare⟩
 have I:=jM (CX:=CX0) (E:=E0) (A:={ A with handled:=none }) (f:=f) (cd:=cd) (qual:=qual) S rfl e1 hl r x;exact⟨⟨I.ok.mod,I.ok.kind,I.ok.glob,I.ok.blt,I.ok.above,I.ok.inj,I.ok.has,I.ok.cab,fun z=>(nomatch z),Around.frames_deeper e0.frames,I.ok.stk,I.ok.exf,I.ok.bs,I.ok.bsz,I.ok.noex,I.ok.exfs,I.ok.funs,I.ok.frf⟩,I.os,I.bare,I.base,I.loc,I.cell,I.free,I.freeC,I.pin,I.hok,I.len⟩
theorem zak{k:Nat}{x qual:Str}{st:Stmt}{f:Addr}{fd:FuncData}{N ps:List Str}{sp:Addr->Sp}(F:Fun K x qual st f fd)(S:FnScope N ps (zf st))
  (len:∀e vs H Q E,sp e vs H Q E->vs.length=ps.length)
  (At:∀(og:Value) (A:Around) (outer:List Env) (s:Shared) (H:Hp) (vs:List V) (Q:VK) (E:XK) (e:Addr),A.handled=some (.ref e)->RoomH k A->sp e vs H Q E0→
   ∃t,PSs (cxH P w K mg base N qual (zf st) f og A outer s H) (wE st) t/\t { nx:=fun _ H'=>Q .non H',rt:=Q } (tm N vs) H) :
  FnOkH P w K mg base (k+1) f fd ps sp:=by
 obtain⟨oc,od,kV,AH,pm,an,og,ct,B6,rfl,lk,AK⟩:=F.ex;refine⟨len,fun A outer s H args us vs Q e hh hr e0 hb r BS=>?_⟩;have hl:=len _ _ _ _ _ BS;have KX:K.In s.heap:=e0.mod.kin.keeps fun b o e=>(e0.bs b o e).1;have He:s.heap.NoLimit:=e0.mod.nolimit.keeps fun b o e=>(e0.bs b o e).1;have Cg:∀y∈ps.zip us,(zf st).names.lookup y.1=some .local\/((zf st).names.lookup y.1=some .cell/\((cellsFrom (s.heap.objs.size+1) (zf st).names []).lookup y.1).isSome=true):=fun⟨n,v⟩ hy=>by
  rcases S.par n (lE hy).1 with q|q
  ·exact .inl q
  ·exact .inr ⟨q,kD _ _ _ (.inl q)⟩
 refine codeAny_call_function (by have:=hr.dp;omega) (KX _ _ lk) rfl S.co S.gen rfl (PySem.W.codeRec_of KX AK) (hb _ _ _ _ ?_);refine wpAny_newFunctionEnv_cells S.kind Cg fun env he s1 x=>?_;subst he;refine⟨He.keeps x.toInCall.keep,codeAny_func ?_⟩;obtain⟨t,ht,hq⟩:=At og A outer s H vs Q E0 e hh (hr.mono (fz _)) BS;have I:=Wo (f:=f) (cd:=og) (qual:=qual) S e0 hl r x;refine eM (ht [] s1 (tm N vs) H _ I hq) (fun fl s' hs=>?_) fun e s' hs=>hs.elim;have oE:∀{σ':L2.St} {H':Hp} {v:V} {u:Value},Inv (cxH P w K mg base N qual (zf st) f og A outer s H) [] σ' H' s'->zQ v u->Q v H'->CE outer P w H s Q u s' :=
  fun{σ' H' v u} J rv q=>⟨v,H',J.os,J.bare,J.base,J.hok,rv,q⟩
 cases fl with
 |ret u =>
  obtain⟨v,σ',H',J,rv,q⟩:=hs;exact oE J rv q
 |next =>
  obtain⟨σ',H',J,q⟩:=hs;exact oE (v:=V.non) (u:=aU) J rfl q
 |brk =>
  obtain⟨_,_,_,q⟩:=hs;exact False.elim q
 |cont =>
  obtain⟨_,_,_,q⟩:=hs;exact False.elim q
end
def uK(P:Program)(w:World)(K:FG7)(mg:Str->Option Value)(base:Heap)(k:Nat)(x:Str)(ps:List Str)(sp:Addr->Sp):Prop :=
 ∃(f:Addr) (fd:FuncData),FnOkH P w K mg base k f fd ps sp/\tV K fd ps []/\ii K (.ref f)=true/\mg x=some (.ref f)
theorem uK.mono{P:Program}{w:World}{K:FG7}{mg:Str->Option Value}{base:Heap}{j k:Nat}{x:Str}{ps:List Str}{sp:Addr->Sp}(c:uK P w K mg base j x ps sp)(h:j<=k):uK P w K mg base k x ps sp:=by
 obtain⟨f,fd,F,b,mt⟩:=c;exact⟨f,fd,⟨F.len,fun A outer s H args us vs Q e hh hr=>F.run A outer s H args us vs Q e hh (hr.mono h)⟩,b,mt⟩
section
variable{X:Cx}{k:Nat}{x:Str}{ps:List Str}{sp:Addr->Sp}{e:Expr}{es:List Expr}{t:TA}{pos p:Pos}{e0:Addr}
theorem S3(c:uK X.prog X.w X.K X.mg X.base k x ps sp)(hh:X.A.handled=some (.ref e0))(hr:RoomH k X.A)(hg:Gl X x)
  (ha:PA X (e::es) t) (As:(x == ("__debug__":Str))=false:=by decide) (he:bY (e::es) X.env=(false,eval e X.env)::bY es X.env:=by rfl) (Bp:(lg pos (bY es X.env)).any (·.1)=false:=by rfl) :
  PE X (.Call (.Name x p) (e::es) [] pos) (ZW (sp e0) [] E0 t):=by
 obtain⟨f,fd,F,hb,hk,hm⟩:=c;intro nJ s σ H Q I h;refine dS (vo I hg hm ?_ As);refine lP (h₀:=X.base) I.ok.mod.kin hk (thn (ha pos nJ s σ H _ I h) fun us s1 ⟨vs,H1,I1,r,q⟩=>⟨I1.kIn,?_⟩) he Bp;have q':sp e0 vs H1 Q E0:=by rw[←cS vs];exact q
 have hl:(us++[]).length=ps.length:=by rw[cS,←r.length];exact F.len _ _ _ _ _ q'
 have Gm:=hb s1 us I1.kIn hl;rw[cS] at Gm;refine nA (ix (F.run X.A X.stack s1 H1 ⟨us,[]⟩ us vs Q e0 hh hr I1.env0 Gm r q') fun r s' hq=>?_);cases r with
 |error e=>exact hq.elim
 |ok fl =>
  cases fl with
  |ret u=>exact I1.after hq
  |next=>exact False.elim hq
  |brk=>exact False.elim hq
  |cont=>exact False.elim hq
end
def zbO(f:V->Hp->VK->XK->Prop):Sp:=fun vs H Q E=>∃x,vs=[x]/\f x H Q E
def Jd(f:V->V->Hp->VK->XK->Prop):Sp:=fun vs H Q E=>∃x y,vs=[x,y]/\f x y H Q E
def zal(f:V->V->V->Hp->VK->XK->Prop):Sp:=fun vs H Q E=>∃x y z,vs=[x,y,z]/\f x y z H Q E
theorem S4{f:V->Hp->VK->XK->Prop}{p:Str}:∀vs H Q E,zbO f vs H Q E->vs.length=[p].length:=by rintro vs H Q E ⟨x,rfl,_⟩;rfl
theorem uk{f:V->V->Hp->VK->XK->Prop}{p q:Str}:∀vs H Q E,Jd f vs H Q E->vs.length=[p,q].length:=by rintro vs H Q E ⟨x,y,rfl,_⟩;rfl
theorem tQ{f:V->V->V->Hp->VK->XK->Prop}{p q r:Str}:∀vs H Q E,zal f vs H Q E->vs.length=[p,q,r].length:=by rintro vs H Q E ⟨x,y,z,rfl,_⟩;rfl
noncomputable def xw(l u:Int):PyData->Bool
 |.int i=>decide (l<=i) && decide (i<=u)
 |_=>false
theorem qz{l u:Int}{d:PyData}(h:xw l u d=true):∃i,d=.int i/\l<=i/\i<=u:=by
 cases d with
 |int i =>
  simp only[xw,aJ,decide_eq_true_eq] at h;exact⟨i,rfl,h.1,h.2⟩
 |_=>cases h
def qA(K:FG7):Sp:=sp3 fun x y z H Q=>∃(d:PyData) (m:List Addr) (l u:Int),Od K m H x d/\y=.int l/\z=.int u/\Q (.bl (xw l u d)) H
noncomputable def yt:PyData->Bool
 |.tuple ds=>decide (1<=ds.length) && (decide (ds.length<=16) && ds.all yA)
 |_=>false
noncomputable def WJ(n:Nat):PyData->Bool
 |.tuple [h,b,e]=>xw 0 15 h && (xw 0 ((n:Int)-1) b && uz e)
 |_=>false
noncomputable def RT:PyData->PyData->Bool
 |.int s,.int t=>decide (0<=s) && decide (s<=t)
 |_,_=>false
noncomputable def vg(n:Nat):PyData->Bool
 |.tuple [h,b,e,s,t,a]=>(xw 0 15 h && (xw 0 ((n:Int)-1) b && uz e)) && (yA s && (yA t && (yA a && RT s t)))
 |_=>false
noncomputable def zbA:PyData->Int
 |.tuple (_::.int b::_)=>b
 |_=>-1
noncomputable def Je(n:Nat)(ds:List PyData):Bool:=(aF n).all fun j=>decide ((ds.countP fun d=>decide (zbA d=(j:Int)))<=8)
noncomputable def xk(n:Nat):PyData->Bool
 |.tuple ds=>decide (ds.length<=40) && (ds.all (vg n) && Je n ds)
 |_=>false
def wA:PyData->Nat
 |.tuple ds=>ds.length
 |_=>0
noncomputable def yu(c:Call72):PyData:=.tuple [.int c.hand,.int c.box,qT c.deed,.int c.begun,.int c.ended,.int c.answer]
theorem yL{d:PyData}(h:yA d=true):∃i,d=.int i:=by cases d <;> first|exact⟨_,rfl⟩|cases h
theorem Xm{d:PyData}(h:Vw d=true):∃o:Option Int,d=oD o:=by
 cases d <;> first|exact⟨none,rfl⟩|exact⟨some _,rfl⟩|cases h
theorem UR{d:PyData}(h:uz d=true):∃e:Deed,d=qT e/\e.Ok:=by
 unfold uz at h;split at h
 ·rename_i a l u;rw[aJ,aJ] at h;obtain⟨lo,rfl⟩:=Xm h.1.1;obtain⟨hi,rfl⟩:=Xm h.1.2;refine⟨⟨a,lo,hi⟩,rfl,fun x y hx hy=>?_⟩;have Ap:lo=some x:=hx;have Dz:hi=some y:=hy;subst Ap Dz;have h2:(decide (x<y) || (decide (x=y) && decide (a=0)))=true:=h.2;rw[kh,aJ,decide_eq_true_eq,decide_eq_true_eq,decide_eq_true_eq] at h2;exact h2
 ·cases h
theorem US{n:Nat}{d:PyData}(h:vg n d=true):∃c:Call72,d=yu c/\CallOk72 n c:=by
 unfold vg at h;split at h
 ·rename_i hd b e s t a;simp only[aJ] at h;obtain⟨⟨h1,h2,h3⟩,h4,h5,h6,h7⟩:=h;obtain⟨i1,rfl,a1,a2⟩:=qz h1;obtain⟨i2,rfl,b1,b2⟩:=qz h2;obtain⟨dd,rfl,od⟩:=UR h3;obtain⟨i4,rfl⟩:=yL h4;obtain⟨i5,rfl⟩:=yL h5;obtain⟨i6,rfl⟩:=yL h6;have h8:(decide (0<=i4) && decide (i4<=i5))=true:=h7;rw[aJ,decide_eq_true_eq,decide_eq_true_eq] at h8;exact⟨⟨i1,i2,dd,i4,i5,i6⟩,rfl,⟨a1,a2,b1,by show i2<(n:Int);omega,od,h8.1,h8.2⟩⟩
 ·cases h
theorem UT{K:FG7}{m:List Addr}{H:Hp}{x:V}{o:Option Int}(h:Od K m H x (oD o)):x=ov o:=by
 cases o with
 |none=>exact h.inv_non
 |some i=>exact h.inv_int
theorem S5{K:FG7}{m:List Addr}{H:Hp}{x:V}{c:Call72}(h:Od K m H x (yu c)):yR K H x c:=by
 obtain⟨r,xs,rfl,hs,os⟩:=h.inv_tup;cases os with
 |cons o1 os=>cases os with
  |cons o2 os=>cases os with
   |cons o3 os=>cases os with
    |cons o4 os=>cases os with
     |cons o5 os=>cases os with
      |cons o6 os =>
       cases os;obtain⟨rd,ys,rfl,EF,CS⟩:=(show Od K m H _ (.tuple [.int c.deed.add,oD c.deed.lo,oD c.deed.hi]) from o3).inv_tup;cases CS with
       |cons q1 CS=>cases CS with
        |cons q2 CS=>cases CS with
         |cons q3 CS =>
          cases CS;rw[o1.inv_int,o2.inv_int,o4.inv_int,o5.inv_int,o6.inv_int] at hs;rw[q1.inv_int,UT q2,UT q3] at EF;exact⟨r,rd,rfl,hs,EF⟩
theorem uL{n:Nat}:∀{ds:List PyData},ds.all (vg n)=true->∃cs:List Call72,ds=cs.map yu/\∀c∈cs,CallOk72 n c
 |[],_=>⟨[],rfl,fun _ h=>nomatch h⟩
 |d::ds,h=>by
  rw[fL,aJ] at h;obtain⟨c,rfl,ok⟩:=US h.1;obtain⟨cs,rfl,oks⟩:=uL h.2;refine⟨c::cs,rfl,fun x hx=>?_⟩;rcases aK.mp hx with rfl|hx
  ·exact ok
  ·exact oks x hx
theorem sP{K:FG7}{m:List Addr}{H:Hp}:∀{xs:List V} {cs:List Call72},Ods K m H xs (cs.map yu)->yG (yR K H) xs cs
 |_,[],.nil=>trivial
 |_,_::_,.cons o os=>⟨S5 o,sP os⟩
theorem sQ{n:Nat}{cs:List Call72}:Je n (cs.map yu)=(aF n).all fun j:Nat=>decide (vY (j:Int) cs<=8):=by
 unfold Je vY
 congr 1
 funext j
 rw[mU];rfl
theorem QU{K:FG7}{m:List Addr}{H:Hp}{xs:List V}{d1 d2 d3 d4 d5 d6:PyData}(h:Ods K m H xs [d1,d2,d3,d4,d5,d6]):∃v1 v2 v3 v4 v5 v6,xs=[v1,v2,v3,v4,v5,v6]/\Od K m H v1 d1/\Od K m H v2 d2/\Od K m H v3 d3/\Od K m H v4 d4/\Od K m H v5 d5/\Od K m H v6 d6:=by
 cases h with
 |cons o1 h=>cases h with
  |cons o2 h=>cases h with
   |cons o3 h=>cases h with
    |cons o4 h=>cases h with
     |cons o5 h=>cases h with
      |cons o6 h =>
       cases h;exact⟨_,_,_,_,_,_,rfl,o1,o2,o3,o4,o5,o6⟩
theorem Xn{K:FG7}{m:List Addr}{H:Hp}:∀{xs:List V} {ds:List PyData},Ods K m H xs ds->ds.all yA=true->∃b:List Int,xs=b.map V.int/\b.length=ds.length
 |_,_,.nil,_=>⟨[],rfl,rfl⟩
 |_,_,.cons o os,h=>by
  rw[fL,aJ] at h;obtain⟨i,rfl⟩:=yL h.1;obtain⟨b,rfl,e⟩:=Xn os h.2;rw[o.inv_int];exact⟨i::b,rfl,by rw[cJ,cJ,e]⟩
theorem Wp{K:FG7}{m:List Addr}{H:Hp}{x:V}{d:PyData}(h:Od K m H x d)(hb:yt d=true):∃b,yj K H x b/\wA d=b.length/\b.length<=16/\1<=b.length:=by
 unfold yt at hb;split at hb
 ·rename_i ds;rw[aJ,aJ,decide_eq_true_eq,decide_eq_true_eq] at hb;obtain⟨r,xs,rfl,hs,os⟩:=h.inv_tup;obtain⟨b,rfl,e⟩:=Xn os hb.2.2;exact⟨b,⟨r,rfl,hs⟩,e.symm,by omega,by omega⟩
 ·cases hb
def u7(K:FG7):Sp:=sp1 fun x H Q=>∃d m,Od K m H x d/\wA d<=1000/\∀H',Grow [] H H'->Q (.bl (yt d)) H'
def xM(A:Addr)(K:FG7):Sp:=zbO fun x H Q E=>∃d m,Od K m H x d/\wA d<=1000/\if yt d=true then ∀H',Grow [] H H'->Q .non H' else ∀e H',Grow [] H H'->E (.ref e) (some A) H'
def qB(K:FG7):Sp:=sp2 fun x y H Q=>∃b d m,yj K H x b/\Od K m H y d/\Q (.bl (WJ b.length d)) H
def sR(K:FG7):Sp:=sp2 fun x y H Q=>∃b d m,yj K H x b/\Od K m H y d/\∀H',Grow [] H H'->Q (.bl (vg b.length d)) H'
def jl(A:Addr)(K:FG7):Sp:=Jd fun x y H Q E=>∃(db dc:PyData) (m:List Addr),Od K m H x db/\Od K m H y dc/\wA db<=1000/\wA dc<=1000∧
 if yt db=true then ∀H',Grow [] H H'->Q (.bl (xk (wA db) dc)) H' else ∀e H',Grow [] H H'->E (.ref e) (some A) H'
theorem Wq{cs:List Call72}(c42:cs.length<=42)(bd:∀c∈cs,Cb72 (10 ^ 29) c):GdD 5 4 900000 (.tuple (cs.map w9)):=by
 refine⟨?_,?_,?_⟩
 ·show leDs _ (cs.map w9)=true;rw[wc];intro y hy;obtain⟨c,hc,rfl⟩:=bI.mp hy;exact VG ((bd c hc).mono (by decide))
 ·have:eY (cs.map w9)<=2:=yJ.mpr fun y hy=>by
   obtain⟨v,_,rfl⟩:=bI.mp hy;exact VJ v
  show eY (cs.map w9)+1<=4;omega
 ·have w2:=VE (w:=20000) (ds:=cs.map w9) (fun d h=>by obtain⟨v,_,rfl⟩:=bI.mp h;exact VL v);rw[aE] at w2;have m2:cs.length*(20000+2)<=42*(20000+2):=gQ _ c42;show wtOs (cs.map w9)+3<=900000;omega
structure KdN76(K:FG7)(cs:List Addr)(A:Addr):Prop where
 kk:∀C∈A::cs,ExcK K C
 kq:∀(i:Nat) (C:Addr),cs[i]?=some C->∀(j:Nat) (D:Addr),cs[j]?=some D->dE K (.ref C) (.ref D)=some (decide (i=j))
 kv:∀C∈A::cs,dE K (.ref C) (.type "ValueError")=some true
 kb:∀C∈A::cs,dE K (.ref C) (.ref A)=some true
 up:∀C∈A::cs,eV K C (.ref A)=some true
noncomputable def RU(K:FG7)(cs:List Addr)(A:Addr):Bool :=
 ((aF cs.length).all fun i=>(aF cs.length).all fun j=>dE K (.ref (cs.getD i 0)) (.ref (cs.getD j 0)) == some (i == j)) &&
  (A::cs).all fun C=>dE K (.ref C) (.ref A) == some true && dE K (.ref C) (.type "ValueError") == some true && eV K C (.ref A) == some true
theorem kdN_of76{K:FG7}{cs:List Addr}{A:Addr}(h:RU K cs A=true)(k:∀C∈A::cs,ExcK K C):KdN76 K cs A:=by
 unfold RU at h;simp only[aJ,bR,beq_iff_eq,List.mem_range] at h;obtain⟨h2,h4⟩:=h;refine⟨k,fun i C hi j D hj=>?_,fun C hC=>(h4 C hC).1.2,fun C hC=>(h4 C hC).1.1,fun C hC=>(h4 C hC).2⟩;have Fu:=(aL.mp hi).1;have j16:=(aL.mp hj).1;have:=h2 i Fu j j16;rw[aH,aH,hi,hj] at this;rw[show dE K (.ref C) (.ref D)=some (i == j) from this]
 congr 1
theorem xm{K:FG7}{cs:List Addr}{A C D a:Addr}{i j:Nat}{σ:L2.St}{H:Hp}{Q:VK}(k:KdN76 K cs A)(hc:cs[i]?=some C)(ha:H a=some (ExO a C))(hσ:σ[0]?=some (some (.ref a)))(hj:cs[j]?=some D)(q:Q (.bl (decide (i=j))) H) :
  tCB (JQ K) (XH (WO 0) (XH (tC (V.ref D)) R8)) σ H Q:=⟨_,hσ,a,C,_,_,_,rfl,ha,(fun u r=>r),k.kk C (aX _ (bA hc)),k.kq i C hc j D hj,q⟩
def xa(ks:List Nat)(d:PyData)(ns:List Nat):Prop:=d=.tuple (ns.map fun k:Nat=>bX (k:Int))/\ns.Perm ks
theorem xa.uniq{ks:List Nat}{d:PyData}{ns ms:List Nat}(h:xa ks d ns)(h':xa ks d ms):ns=ms:=by
 have:=h.1.symm.trans h'.1;injection this with this
 exact vz this
theorem UU{d:PyData}(h:qV d=false)(ks:List Nat):¬∃ns,xa ks d ns:=by
 rintro⟨ns,e,_⟩;rw[e] at h;cases h
theorem UV{ks:List Nat}{ds:List PyData}(h:∃ns,xa ks (.tuple ds) ns):ds.all jZ=true:=by
 obtain⟨ns,e,_⟩:=h;injection e with e
 rw[e,iW,bR];intro k _;rfl
theorem Yo{a b:List Nat}(h:(a.map fun k:Nat=>(k:Int)).Perm (b.map fun k:Nat=>(k:Int))):a.Perm b:=by
 have:=h.map iT;rw[de,de,show(iT∘fun k:Nat=>(k:Int))=id from funext fun k=>bL k,ip,ip] at this;exact this
theorem QV:∀{a b:List Int},a.Perm b->a.Pairwise (·<=·)->b.Pairwise (·<=·)->a=b:=fun h h1 h2=>h.eq_of_pairwise (fun _ _ _ _ z1 z2=>Int.le_antisymm z1 z2) h1 h2
theorem UW{ks:List Nat}{zs ms:List Int}(pk:ks.Pairwise (·<·))(hp:ms.Perm zs)(hs:ms.Pairwise (·<=·)):ms=(ks.map fun k:Nat=>(k:Int)) ↔ ∃ns,xa ks (.tuple (zs.map bX)) ns:=by
 constructor
 ·intro e;have hz:zs.Perm (ks.map fun k:Nat=>(k:Int)):=by rw[←e];exact hp.symm
  have h0:∀z∈zs,0<=z:=fun z DZ=>by
   obtain⟨k,_,rfl⟩:=bI.mp (hz.mem_iff.mp DZ);exact gq k
  have ez:(zs.map iT).map (fun k:Nat=>(k:Int))=zs:=by
   rw[de]
   conv=>rhs;rw[←ip zs]
   exact ie fun z DZ=>eO (h0 z DZ)
  refine⟨zs.map iT,?_,Yo (by rw[ez];exact hz)⟩;rw[show(zs.map bX)=((zs.map iT).map (fun k:Nat=>(k:Int))).map bX by rw[ez],de];rfl
 ·rintro⟨ns,e,hn⟩;injection e with e
  have ez:zs=ns.map fun k:Nat=>(k:Int):=by
   have:zs.map bX=(ns.map fun k:Nat=>(k:Int)).map bX:=by rw[e,de];rfl
   exact ko (fun _ _ h=>by injection h) |>.mp this
  refine QV (hp.trans (by rw[ez];exact hn.map _)) hs ?_;rw[kK];exact pk.imp fun h=>by omega
def uM(K:FG7):Sp:=sp2 fun x y H Q=>∃(d:PyData) (m:List Addr) (ks:List Nat),Od K m H x d/\Qw d/\Sc K H y ks/\ks.Pairwise (·<·)/\∀b H',Grow [] H H'->(b=true ↔ ∃ns,xa ks d ns)->Q (.bl b) H'
def qC(b:List Int)(cs:List Call72)(ks:List Nat)(d:PyData):Prop:=∃ns,xa ks d ns/\tq cs ns=true/\vM cs b ns=true
def uN(K:FG7):Sp:=sp4 fun x y z u H Q=>∃(b:List Int) (cs:List Call72) (ks:List Nat) (d:PyData) (m:List Addr),yj K H x b/\zE K H y cs/\Sc K H z ks/\ks.Pairwise (·<·)/\(∀k∈ks,k<cs.length)/\ks.length<=40/\Od K m H u d/\(∀c∈cs,CallOk72 b.length c)/\Qw d/\∀bb H',Grow [] H H'->(bb=true ↔ qC b cs ks d)->Q (.bl bb) H'
def ul(b:List Int)(cs:List Call72)(os:List (List Nat)):Prop:=os.length=b.length/\∀x,x<b.length->(os.getD x []).Perm (vm cs x)/\tq cs (os.getD x [])=true/\vM cs b (os.getD x [])=true
noncomputable def wP(os:List (List Nat)):PyData:=.tuple (os.map fun ns=>.tuple (ns.map fun k:Nat=>bX (k:Int)))
def vG(b:List Int)(cs:List Call72)(d:PyData):Prop:=∃os,d=wP os/\ul b cs os
def RV(d:PyData):Prop:=∀ds,d=.tuple ds->ds.length<64/\∀e∈ds,Qw e
def uO(A:Addr)(K:FG7):Sp:=zal fun x y z H Q E=>∃(b:List Int) (cs:List Call72) (d:PyData) (m:List Addr),yj K H x b/\1<=b.length/\b.length<=16/\zE K H y cs/\Calls72 b.length cs/\Od K m H z d/\RV d∧
 (vG b cs d->∀H',Grow [] H H'->Q .non H')/\(¬vG b cs d->∀e H',Grow [] H H'->E (.ref e) (some A) H')
theorem qD{b:List Int}{cs:List Call72}{ds:List PyData}(hl:ds.length=b.length):vG b cs (.tuple ds) ↔ ∀j,j<b.length->qC b cs (vm cs j) (ds.getD j .none):=by
 constructor
 ·rintro⟨os,e,h1,h2⟩ j hj;injection e with e
  have Dl:j<os.length:=by omega
  have ed:ds.getD j .none=.tuple ((os.getD j []).map fun k:Nat=>bX (k:Int)):=by
   rw[e,aH,bE,aC Dl,aH,aC Dl];rfl
  obtain⟨p1,p2,p3⟩:=h2 j hj;exact⟨_,⟨ed,p1⟩,p2,p3⟩
 ·intro h;have hc:∀j:Nat,∃ns:List Nat,j<b.length->xa (vm cs j) (ds.getD j .none) ns/\tq cs ns=true/\vM cs b ns=true:=fun j=>by
   by_cases hj:j<b.length
   ·obtain⟨ns,hn⟩:=h j hj;exact⟨ns,fun _=>hn⟩
   ·exact⟨[],fun z=>absurd z hj⟩
  obtain⟨f,hf⟩:=Classical.axiomOfChoice hc;have gf:∀x,x<b.length->((aF b.length).map f).getD x []=f x:=fun x hx=>by
   rw[aH,bE,cG hx];rfl
  refine⟨(aF b.length).map f,?_,by rw[aE,aS],fun x hx=>?_⟩
  ·refine congrArg kL (iU (by rw[aE,aE,aS,hl]) fun i g1 g2=>?_);have hi:i<b.length:=by rw[←hl];exact g1
   rw[eG,eG,kr,←(hf i hi).1.1,aH,aC g1];rfl
  ·rw[gf x hx];exact⟨(hf x hx).1.2,(hf x hx).2.1,(hf x hx).2.2⟩
theorem sS{K:FG7}{m:List Addr}{H:Hp}:∀{xs:List V} {os:List (List Nat)},Ods K m H xs (os.map fun ns=>kL (ns.map fun k:Nat=>bX (k:Int)))->yG (yX K H) xs os
 |[],[],_=>trivial
 |[],_::_,h=>by have:=h.length;cases this
 |_::_,[],h=>by have:=h.length;cases this
 |x::xs,o::os,h=>by
  cases h with
  |cons h1 h2=>exact⟨Z7 rfl h1,sS h2⟩
theorem Yp{b:List Int}{cs:List Call72}{os:List (List Nat)}(C:Calls72 b.length cs)(S:xL cs)(R:ul b cs os):Zk b cs (y4 cs (wz cs) os)/\∀x,x<b.length->(y4 cs (wz cs) os).filter (xK cs x)=os.getD x []:=by
 obtain⟨ol,hr⟩:=R;have ok:∀k<cs.length,0<=(cg cs k).box/\(cg cs k).box.toNat<os.length/\(cg cs k).begun<=(cg cs k).ended:=fun k hk=>by rw[ol];exact wg C k hk
 obtain⟨m1,m2,m3⟩:=sv (srt:=wz cs) ok (fun x hx=>(hr x (by omega)).1) (fun x hx=>(hr x (by omega)).2.1) (ql S) (Xe S);refine⟨⟨m2,m3,qZ (fun k hk=>?_) fun x hx=>?_⟩,fun x hx=>m1 x (by omega)⟩
 ·have oU:=bN.mp (m2.mem_iff.mp hk);exact⟨(wg C k oU).1,(wg C k oU).2.1⟩
 ·rw[m1 x (by omega)];exact(hr x hx).2.2
theorem UX{os:List (List Nat)}(h1:os.length<64)(h2:∀o∈os,o.length<64):RV (wP os):=fun ds e=>by
 injection e with e
 rw[←e];refine⟨by rw[aE];exact h1,fun d hd=>?_⟩;obtain⟨o,ho,rfl⟩:=bI.mp hd;exact j4 (h2 o ho)
theorem Wr{K:FG7}{m:List Addr}{H:Hp}{x:V}{d:PyData}{n:Nat}(h:Od K m H x d)(hc:xk n d=true):∃cs,zE K H x cs/\Calls72 n cs/\d=.tuple (cs.map yu):=by
 cases d with
 |tuple ds =>
  have e:xk n (.tuple ds)=(decide (ds.length<=40) && (ds.all (vg n) && Je n ds)):=rfl;rw[e,aJ,aJ,decide_eq_true_eq] at hc;obtain⟨c40,call,few⟩:=hc;obtain⟨cs,rfl,ok⟩:=uL call;obtain⟨r,xs,rfl,hs,os⟩:=h.inv_tup;rw[sQ,bR] at few;rw[aE] at c40;refine⟨cs,⟨r,xs,rfl,hs,sP os⟩,⟨c40,ok,fun b=>?_⟩,rfl⟩;by_cases hb:0<=b/\b<n
  ·have:=few b.toNat (bN.mpr (by omega))
   rw[decide_eq_true_eq,show((b.toNat:Nat):Int)=b by omega] at this;exact this
  ·rw[Sd ok hb];exact cw _
 |_=>cases hc
def Zx(A0 A1:Addr)(db dc:PyData)(H:Hp)(E:XK):Prop:=(yt db=false->∀e H',Grow [] H H'->E (.ref e) (some A0) H')/\(yt db=true->xk (wA db) dc=false->∀e H',Grow [] H H'->E (.ref e) (some A1) H')
def xr(A0 A1:Addr)(K:FG7):Sp:=Jd fun x y H Q E=>∃(db dc:PyData) (m:List Addr),Od K m H x db/\Od K m H y dc/\wA db<=1000/\wA dc<=1000/\Zx A0 A1 db dc H E/\(yt db=true->xk (wA db) dc=true->∀H',Grow [] H H'->Q .non H')
theorem Xo{K:FG7}{m:List Addr}{H:Hp}:∀{xs:List V} {ds:List PyData},Ods K m H xs ds->ds.all yA=true->∃b:List Int,xs=b.map V.int/\ds=b.map bX
 |_,_,.nil,_=>⟨[],rfl,rfl⟩
 |_,_,.cons o os,h=>by
  rw[fL,aJ] at h;obtain⟨i,rfl⟩:=yL h.1;obtain⟨b,rfl,rfl⟩:=Xo os h.2;rw[o.inv_int];exact⟨i::b,rfl,rfl⟩
theorem Ws{K:FG7}{m:List Addr}{H:Hp}{x:V}{d:PyData}(h:Od K m H x d)(hb:yt d=true):∃b,yj K H x b/\wA d=b.length/\b.length<=16/\1<=b.length/\d=.tuple (b.map bX):=by
 unfold yt at hb;split at hb
 ·rename_i ds;rw[aJ,aJ,decide_eq_true_eq,decide_eq_true_eq] at hb;obtain⟨r,xs,rfl,hs,os⟩:=h.inv_tup;obtain⟨b,rfl,rfl⟩:=Xo os hb.2.2;exact⟨b,⟨r,rfl,hs⟩,by show(b.map bX).length=_;rw[aE],by rw[aE] at hb;omega,by rw[aE] at hb;omega,rfl⟩
 ·cases hb
def Zy(K:FG7)(H:Hp)(x y:V)(db dc:PyData)(b:List Int)(cs:List Call72):Prop:=yj K H x b/\1<=b.length/\b.length<=16/\wA db=b.length/\zE K H y cs/\Calls72 b.length cs/\dc=.tuple (cs.map yu)/\db=.tuple (b.map bX)/\yt db=true/\xk (wA db) dc=true
theorem zaG{K:FG7}{m:List Addr}{H:Hp}{x y:V}{db dc:PyData}(hx:Od K m H x db)(hy:Od K m H y dc)(h1:yt db=true)(h2:xk (wA db) dc=true):∃b cs,Zy K H x y db dc b cs:=by
 obtain⟨b,hb,bl,AJ,b1,eb⟩:=Ws hx h1;have h3:=h2;rw[bl] at h2;obtain⟨cs,hc,ok,e⟩:=Wr hy h2;exact⟨b,cs,hb,b1,AJ,bl,hc,ok,e,eb,h1,h3⟩
def sT(A0 A1:Addr)(K:FG7):Sp:=zal fun x y z H Q E=>∃(db dc d:PyData) (m:List Addr),Od K m H x db/\Od K m H y dc/\Od K m H z d/\wA db<=1000/\wA dc<=1000/\Qw d/\Zx A0 A1 db dc H E∧
 (∀b cs,Zy K H x y db dc b cs->∀bb H',Grow [] H H'->(bb=true ↔ qC b cs (aF cs.length) d)->Q (.bl bb) H')
def jm(A0 A1:Addr)(K:FG7):Sp:=Jd fun x y H Q E=>∃(db dc:PyData) (m:List Addr),Od K m H x db/\Od K m H y dc/\wA db<=1000/\wA dc<=1000/\Zx A0 A1 db dc H E∧
 (∀b cs,Zy K H x y db dc b cs->∀v H',Grow [] H H'->((tE cs b).isSome=true->xL cs)->xE K H' v (tE cs b)->Q v H')
noncomputable def sU(A0 A1 A2:Addr)(K:FG7):Sp:=zal fun x y z H Q E=>∃(db dc d:PyData) (m:List Addr),Od K m H x db/\Od K m H y dc/\Od K m H z d/\wA db<=1000/\wA dc<=1000/\RV d/\Zx A0 A1 db dc H E∧
 (∀b cs,Zy K H x y db dc b cs->(∀os,d=wP os->ul b cs os->∀v H',Grow [] H H'->xL cs->yX K H' v (y4 cs (wz cs) os)->Q v H')/\(¬vG b cs d->∀e H',Grow [] H H'->E (.ref e) (some A2) H'))
def um(A0 A1:Addr)(K:FG7):Sp:=Jd fun x y H Q E=>∃(db dc:PyData) (m:List Addr),Od K m H x db/\Od K m H y dc/\wA db<=1000/\wA dc<=1000/\Zx A0 A1 db dc H E∧
 (∀b cs,Zy K H x y db dc b cs->(xB cs->∀H',Grow [] H H'->Q .non H')/\(¬xB cs->∀e H',Grow [] H H'->E (.ref e) (some A1) H'))
noncomputable def uP(A0 A1:Addr)(K:FG7):Sp:=zal fun x y z H Q E=>∃(db dc d:PyData) (m:List Addr),Od K m H x db/\Od K m H y dc/\Od K m H z d/\wA db<=1000/\wA dc<=1000/\Qw d/\Zx A0 A1 db dc H E∧
 (∀b cs,Zy K H x y db dc b cs->(xB cs->∀t H',(t=true ↔ Ux b cs d)->Grow [] H H'->Q (.bl t) H')/\(¬xB cs->∀e H',Grow [] H H'->E (.ref e) (some A1) H'))
noncomputable def sV(A0 A1 A3:Addr)(K:FG7):Sp:=Jd fun x y H Q E=>∃(db dc:PyData) (m:List Addr),Od K m H x db/\Od K m H y dc/\wA db<=1000/\wA dc<=1000/\Zx A0 A1 db dc H E∧
 (∀b cs,Zy K H x y db dc b cs->(xB cs->cs.length<=8->∀v H',Grow [] H H'->xE K H' v (qu cs b)->Q v H')/\(¬xB cs->∀e H',Grow [] H H'->E (.ref e) (some A1) H')/\(xB cs->¬cs.length<=8->∀e H',Grow [] H H'->E (.ref e) (some A3) H'))
def vH(K:FG7):Sp:=sp2 fun x y H Q=>∃(cs:List Call72) (l:Addr) (vs:List V) (os:List (List Nat)),zE K H x cs/\y=.ref l/\(SqL K H l vs\/SqT K H l vs)/\yG (yX K H) vs os/\Calls72 os.length cs/\os.length<=16/\(∀o∈os,o.length<=40)∧
 ∀v H',Grow [] H H'->xL cs->yX K H' v (y4 cs (wz cs) os)->Q v H'
theorem QW{X:Cx}{tg e:Expr}{wi wi':TI}(h1:PI X tg e wi)(h2:PI X tg e wi'):PI X tg e (fun σ H R=>wi σ H R\/wi' σ H R):=fun nJ s σ H R I h=>h.elim (h1 nJ s σ H R I) (h2 nJ s σ H R I)
theorem UY{K:FG7}{a:Addr}{xs:List V}{k:Nat}{te:TE}{Q:VK}{σ:L2.St}{H:Hp}(c:SqL K H a xs\/SqT K H a xs)(Pv:Nat->List V->Hp->Prop)(h0:Pv 0 [] H)(hl:∀i ys H',Pv i ys H'->Grow [] H H')
  (hs:∀i x ys H',xs[i]?=some x->Pv i ys H'->te (σ.set k (some x)) H' fun y H5=>ys.length<sizeLine/\Pv (i+1) (ys++[y]) H5)
  (hd:∀ys H',Pv xs.length ys H'->∀l,H' l=none->Q (.ref l) (upd H' l (.lst ys))):((∃zs,SqL K H a zs)/\wG (Itl K a) σ H (ww k) jR te Q)\/((∃zs,SqT K H a zs)/\wG (Itt K a) σ H (ww k) jR te Q) :=
 c.elim (fun c=>.inl ⟨⟨_,c⟩,uw Pv h0 (fun i ys H' p=>(hl i ys H' p).sqL c) hs hd⟩) fun c=>.inr ⟨⟨_,c⟩,y3 Pv h0 (fun i ys H' p=>(hl i ys H' p).sqT c) hs hd⟩
def tR(K:FG7):Sp:=sp2 fun x y H Q=>∃b cs,yj K H x b/\zE K H y cs/\b.length<=16/\cs.length<=40/\(∀c∈cs,CallOk72 b.length c)∧
 ∀l zs H',Grow [] H H'->H l=none->H' l=some (.lst zs)->JL H' zs ((aF b.length).map (vm cs))->Q (.ref l) H'
structure TurnH(e0:Addr)(P:Program)(w:World)(K:FG7)(tg:Expr)(J:It)(fp:List Addr)(it:Addr)(tn:Nat->Heap->Prop):Prop where
 obj:∀i h,tn i h->∀b∈fp,∃o,h.get? b=some o/\∀v,o.data≠.cell v
 keep:∀i h h',tn i h->(∀b∈fp,∀o,h.get? b=some o->h'.get? b=some o)->tn i h'
 item:∀(X:Cx),X.prog=P->X.w=w->X.K=K->X.A.handled=some (.ref e0)->∀(i:Nat) (nJ:List (Addr×Obj)) (s:Shared) (σ:L2.St) (H:Hp) (E:VS7),Inv X nJ σ H s->(∀b∈fp,tj X nJ H b)->tn i s.heap->J.go i H→
  wpAny (model P w) X.A (pyNext (.ref it)) (fun r s1=>∃u,r=some u∧
   wpAny (model P w) X.A (iE tg (.ref it) u) (fun _ s2=>∃x H',Inv X nJ σ H' s2/\zQ x u/\J.yld i H x H'/\tn (i+1) s2.heap/\∀b∈fp,H' b=none) E s1) E s
 done:∀(X:Cx),X.prog=P->X.w=w->X.K=K->X.A.handled=some (.ref e0)->∀(i:Nat) (nJ:List (Addr×Obj)) (s:Shared) (σ:L2.St) (H:Hp) (E:VS7),Inv X nJ σ H s->(∀b∈fp,tj X nJ H b)->tn i s.heap->J.stop i H→
  wpAny (model P w) X.A (pyNext (.ref it)) (fun r s1=>r=none/\Inv X nJ σ H s1) E s
 self:∀(A:Around) (i:Nat) (s:Shared) (Q:VS7) (E:VS7),tn i s.heap->Q (.ref it) s->wpAny (model P w) A (pyIter (.ref it)) Q E s
def zck(e0:Addr)(X:Cx)(nJ:List (Addr×Obj))(σ:L2.St)(tg:Expr)(R:It->Hp->Prop)(DO:Value)(s2:Shared):Prop :=
 ∃(it:Addr) (fp:List Addr) (tn:Nat->Heap->Prop) (J:It) (H':Hp),DO=.ref it/\Inv X nJ σ H' s2/\TurnH e0 X.prog X.w X.K tg J fp it tn/\tn 0 s2.heap/\(∀b∈fp,tj X nJ H' b)/\R J H'
def PIH(e0:Addr)(X:Cx)(tg iter:Expr)(wi:TI):Prop :=
 ∀(nJ:List (Addr×Obj)) (s:Shared) (σ:L2.St) (H:Hp) (R:It->Hp->Prop),Inv X nJ σ H s->wi σ H R→
  wpAny (model X.prog X.w) X.A (eval iter X.env) (fun v s1=>wpAny (model X.prog X.w) X.A (pyIter v) (zck e0 X nJ σ tg R) X.xe s1) X.xe s
section
variable{X:Cx}{nJ:List (Addr×Obj)}{σ:L2.St}{H2:Hp}{s₂:Shared}{it:Addr}{fp:List Addr}{tn:Nat->Heap->Prop}{J:It}{scope:Scope}{cl:List (Str×Addr)}{N':List Str}{sub:List (Option Nat)}{e0:Addr}
theorem Wt{C D:Addr}{s₀:Shared}{tg:Expr}{pos:Pos}{pN iter:Expr}{pA:List Expr}{g:TG}{tt:TT}{te:TE}{Q:VK}{RR:Value->Addr->Result->Shared->Prop}{W:Nat->Nat->List V->L2.St->Hp->Prop}
  (I:Inv X nJ σ H2 s₂) (hh:X.A.handled=some (.ref e0)) (T:TurnH e0 X.prog X.w X.K tg J fp it tn) (f2:∀b∈fp,tj X nJ H2 b) (Bw:∀b∈fp,b<s₂.heap.objs.size)
  (Ad:∀b o,s₂.heap.get? b=some o->s₀.heap.get? b=some o) (AI:s₀.os=s₂.os) (hD:s₂.heap.objs.size<=D) (hC:s₂.heap.objs.size<=C) (Dc:D≠C)
  (oJ:∀x c,cl.lookup x=some c->X.env.cells.lookup x=some c)
  (hg:PG (cxC X N' scope cl C D fp s₀ H2) tg g) (ht:TH (cxC X N' scope cl C D fp s₀ H2) pA tt) (he:PE (cxC X N' scope cl C D fp s₀ H2) pN te)
  (pS:∀i m ys σ' H',W i m ys σ' H'→
   (J.stop i H'/\∀l,H' l=none->Q (.ref l) (upd H' l (.lst ys)))∨
   (J.go i H'/\∃Nn:List V->L2.St->Hp->Prop,(∀zs σ2 H2,Nn zs σ2 H2->∃m',m'<m/\W (i+1) m' zs σ2 H2)∧
    ∀x H2,J.yld i H' x H2->g x σ' H2 fun σ2 H3=>tt σ2 H3 fun b H4=>if b=true then te σ2 H4 fun y H5=>ys.length<sizeLine/\Nn (ys++[y]) σ2 H5 else Nn ys σ2 H4))
  (DW:∀(D C:Addr) (oC:Obj) (m:Str->Option Value) (s':Shared) (Hf:Hp),Inv X (nJ++[(C,oC)]) σ Hf s'->s'.heap.Ns C m->tj X nJ Hf C->Q (.ref D) Hf->RR (.ref D) C (.ok .next) s')
  (n:Nat) (s:Shared) (h:∃i ys us k σ' H',Inv (cxC X N' scope cl C D fp s₀ H2) nJ σ' H' s/\tn i s.heap/\(∀b∈fp,H' b=none)/\H' D=none∧
   s.heap.get? D=some { cls:=.type "list",data:=.seq (us:List Value).toArray k }/\zP ys us/\ys.length<=sizeLine/\W i n ys σ' H') :
  iw (model X.prog X.w) X.A (.compLoop (.ListComp pN [⟨tg,iter,pA,0⟩] scope pos) 0 (.ref it) (.ref D) (compEnvC scope cl C X.env)) (RR (.ref D) C) s:=by
 have Cj:∀b∈frs X.stack,b<s₂.heap.objs.size:=fun b hb=>by
  rcases aK.mp (I.stkSub b hb) with z|z
  ·rw[z];exact I.lt
  ·exact lm fun q=>I.nofs q z
 have cells:∀x c,cl.lookup x=some c->c<s₂.heap.objs.size:=fun x c e=>let ⟨v,q⟩:=I.cell x c (oJ x c e);q.lt
 have Ck:∀p∈X.pn++nJ,p.1<s₂.heap.objs.size:=fun p hp=>aP (I.pin p hp).1;refine jQ (fun n s=>∃i ys us k σ' H',Inv (cxC X N' scope cl C D fp s₀ H2) nJ σ' H' s/\tn i s.heap/\(∀b∈fp,H' b=none)/\H' D=none∧
   s.heap.get? D=some { cls:=.type "list",data:=.seq (us:List Value).toArray k }/\zP ys us/\ys.length<=sizeLine/\W i n ys σ' H') ?_ n h
 rintro n s ⟨i,ys,us,k,σ',H',I',An,fr,hn,hy,rv,hz,w'⟩;have pD:Inv (cxC X N' scope cl C D fp s₀ H2) (nJ++[(D,{ cls:=.type "list",data:=.seq us.toArray k })]) σ' H' s:=I'.pins_of fun p hp=>by
  rcases bH.mp hp with hp|hp
  ·exact I'.pin p (bG _ hp)
  ·rw[aR.mp hp];exact⟨hy,hn,Dc,fun z=>absurd (aV (Cj _ z) hD) (eU _),fun v z=>by cases z⟩
 have Bx:∀{H'':Hp},(∀b∈fp,H'' b=none)->∀b∈fp,tj (cxC X N' scope cl C D fp s₀ H2) (nJ++[(D,{ cls:=.type "list",data:=.seq us.toArray k })]) H'' b:=fun hz b hb=>by
  refine⟨hz b hb,aW (aV (Bw b hb) hC),fun z=>?_,.inl (aX _ hb),fun x c e=>(f2 b hb).2.2.2.2.1 x c (oJ x c e),fun p hp=>?_⟩
  ·rcases aK.mp (I.stkSub b z) with z|z
   ·exact(f2 b hb).2.1 z
   ·exact(f2 b hb).2.2.1 z
  ·rcases bH.mp hp with hp|hp
   ·exact(f2 b hb).2.2.2.2.2 p (cW _ hp)
   ·rcases bH.mp hp with hp|hp
    ·exact(f2 b hb).2.2.2.2.2 p (bG _ hp)
    ·rw[aR.mp hp];exact dB (aV (Bw b hb) hD)
 rcases pS i n ys σ' H' w' with ⟨stop,q⟩|⟨go,Nn,hN,step⟩
 ·refine thn (T.done (cxC X N' scope cl C D fp s₀ H2) rfl rfl rfl hh i _ s σ' H' (fun _ _=>False) pD (Bx fr) An stop) fun r s1 ⟨hr,I1⟩=>?_;subst hr;have Ho:=(I1.pin (D,{ cls:=.type "list",data:=.seq us.toArray k }) (by simp)).1;obtain⟨m,hm,_⟩:=I1.loc;obtain⟨oC,es,ep,Hq,Hr,_⟩:=id hm;obtain⟨IX,Ao⟩:=YW I Ad AI hD hC Dc f2 I1.unpinned hn Ho rv hz Hq (by intro v z;rw[Hr] at z;cases z);exact DW D C oC m s1 _ IX hm Ao (q D hn)
 ·refine thn (T.item (cxC X N' scope cl C D fp s₀ H2) rfl rfl rfl hh i _ s σ' H' (fun _ _=>False) pD (Bx fr) An go) fun r s1 ⟨u,hr,h4⟩=>?_;subst hr;refine thn h4 fun _ s2 ⟨x5,H5,I5,r5,y5,st5,fr5⟩=>?_;have I5':=I5.pinned (Bx fr5) (T.obj _ _ st5);refine thn (hg _ s2 σ' H5 x5 u _ I5' r5 (step x5 H5 y5)) fun _ s3 ⟨σ6,H6,I6,q6⟩=>?_;refine thn (ht _ s3 σ6 H6 _ I6 q6) fun ok s4 ⟨H7,I7,q7⟩=>?_;have stay:∀{σ7:L2.St} {H7:Hp} {s7:Shared},Inv (cxC X N' scope cl C D fp s₀ H2) (nJ++[(D,{ cls:=.type "list",data:=.seq us.toArray k })]++rO fp s2.heap) σ7 H7 s7→
    (∀b∈fp,∀o,s2.heap.get? b=some o->s7.heap.get? b=some o)/\(∀b∈fp,H7 b=none)/\H7 D=none/\s7.heap.get? D=some { cls:=.type "list",data:=.seq us.toArray k }:=fun{σ7 H7 s7} I7=>by
   have d:=I7.pin (D,{ cls:=.type "list",data:=.seq us.toArray k }) (by simp);refine⟨fun b hb o e=>(I7.pin (b,o) (bG _ (bG _ (xq hb e)))).1,fun b hb=>?_,d.2.1,d.1⟩;obtain⟨o,e,_⟩:=T.obj _ _ st5 b hb;exact(I7.pin (b,o) (bG _ (bG _ (xq hb e)))).2.1
  cases ok with
  |false =>
   rw[if_neg (by decide)] at q7 ⊢;obtain⟨k1,k2,k3,k4⟩:=stay I7;obtain⟨m',hm,w7⟩:=hN ys σ6 H7 q7;exact⟨m',hm,i+1,ys,us,k,σ6,H7,I7.unpinned.unpinned,T.keep _ _ _ st5 k1,k2,k3,k4,rv,hz,w7⟩
  |true =>
   rw[if_pos rfl] at q7 ⊢;refine thn (he _ s4 σ6 H7 _ I7 q7) fun v s5 ⟨y,H8,I8,r8,hl8,n8⟩=>?_;obtain⟨k1,k2,k3,k4⟩:=stay I8;refine wpAny_list_append_plain (l:=D) ⟨k,k4⟩ (fun h' pl sb=>?_) (by rw[aO,←rv.length];exact hz);obtain⟨k',e'⟩:=pl;obtain⟨m',hm,w8⟩:=hN _ σ6 H8 n8;refine⟨m',hm,i+1,ys++[y],us++[v],k',σ6,H8,?_,T.keep _ _ _ (T.keep _ _ _ st5 k1) fun b hb o e=>sb.extBut b o (aW (aV (Bw b hb) hD)) e,k2,k3,?_,rv.append (.cons r8 .nil),?_,w8⟩
   ·exact(I8.unpinned.unpinned).turned (it:=D) (t':=s5.toks) (h':=h') (fun b o hb e=>sb.extBut b o hb e) k3 Dc (.inl (by simp)) (fun x c e=>aW (aV (cells x c e) hD)) (fun p hp=>aW (aV (Ck p hp) hD))
   ·rw[e'];simp
   ·rw[bD];exact hl8
theorem Zz{tg:Expr}{pos:Pos}{pN iter:Expr}{pA:List Expr}{g:TG}{tt:TT}{te:TE}{E:VS7}{Q:VK}{RR:Value->Addr->Result->Shared->Prop}
  (I:Inv X nJ σ H2 s₂) (hh:X.A.handled=some (.ref e0)) (T:TurnH e0 X.prog X.w X.K tg J fp it tn) (st:tn 0 s₂.heap) (f2:∀b∈fp,tj X nJ H2 b)
  (S:CSc X scope N' sub) (oJ:∀x c,cl.lookup x=some c->X.env.cells.lookup x=some c) (pT:∀y∈scope.names,y.2=.free->∃c,cl.lookup y.1=some c)
  (hg:∀C D fp s H,PG (cxC X N' scope cl C D fp s H) tg g) (ht:∀C D fp s H,TH (cxC X N' scope cl C D fp s H) pA tt) (he:∀C D fp s H,PE (cxC X N' scope cl C D fp s H) pN te)
  (hW:wG J (TJ sub σ) H2 g tt te Q)
  (DW:∀(D C:Addr) (oC:Obj) (m:Str->Option Value) (s':Shared) (Hf:Hp),Inv X (nJ++[(C,oC)]) σ Hf s'->s'.heap.Ns C m->tj X nJ Hf C->Q (.ref D) Hf->RR (.ref D) C (.ok .next) s') :
  wpAny (model X.prog X.w) X.A (newList []) (fun acc s₃=>wpAny (model X.prog X.w) X.A (newFunctionEnv scope X.env.globals cl [] X.env.qual none .none (some X.env)) (fun Cm s₄ =>
   iw (model X.prog X.w) X.A (.compStart (.ListComp pN [⟨tg,iter,pA,0⟩] scope pos) 0 (.ref it) acc { Cm with scope:=relabel scope X.env }) (RR acc Cm.locals) s₄) E s₃) E s₂:=by
 obtain⟨W,⟨m0,w0⟩,pS⟩:=hW;refine bF (wpAny_newFunctionEnv S.nocell (by intro y hy;simp at hy) (fun h₁ pf ph=>?_) S.kind);dsimp only at pf ph ⊢;have hC:(s₂.heap.push { cls:=.type "list",dict:=none,data:=.seq ([]:List Value).toArray }).objs.size=s₂.heap.objs.size+1:=fM ..;rw[hC] at pf ph ⊢;have hk:∀b o,(s₂.heap.push { cls:=.type "list",dict:=none,data:=.seq ([]:List Value).toArray }).get? b=some o->h₁.get? b=some o:=fun b o e =>
  ph.extBut b o (by have:=aP e;rw[hC] at this;exact aW this) (aD _ e)
 have Bw:∀b∈fp,b<s₂.heap.objs.size:=fun b hb=>by
  obtain⟨o,e,_⟩:=T.obj _ _ st b hb;exact aP e
 have I0:=rS (tk:=s₂.toks+([]:List (Str×Value)).length) I S oJ pT f2 Bw pf hk;have Hs:h₁.get? s₂.heap.objs.size=some { cls:=.type "list",data:=.seq ([]:List Value).toArray 0 }:=hk _ _ (aM _ rfl);have Bt:iw (model X.prog X.w) X.A (.compLoop (.ListComp pN [⟨tg,iter,pA,0⟩] scope pos) 0 (.ref it) (.ref s₂.heap.objs.size) (compEnvC scope cl (s₂.heap.objs.size+1) X.env)) (RR (.ref s₂.heap.objs.size) (s₂.heap.objs.size+1)) { s₂ with heap:=h₁,toks:=s₂.toks+([]:List (Str×Value)).length } :=
  Wt (s₀:={ s₂ with heap:=s₂.heap.push { cls:=.type "list",dict:=none,data:=.seq ([]:List Value).toArray } }) (C:=s₂.heap.objs.size+1) (D:=s₂.heap.objs.size) I hh T f2 Bw (fun b o e=>aD _ e) rfl (aG _) (fz _) (aW (il _)) oJ (hg _ _ _ _ _) (ht _ _ _ _ _) (he _ _ _ _ _) pS DW m0 _
   ⟨0,[],[],0,TJ sub σ,H2,I0,T.keep _ _ _ st fun b hb o e=>hk b o (aD _ e),fun b hb=>(f2 b hb).1,I.hok.fresh (aG _),Hs,.nil,cw _,w0⟩
 exact codeAny_compStart_list Bt (T.self _ _ _ _ _ (T.keep _ _ _ st fun b hb o e=>hk b o (aD _ e)) Bt)
end
section
variable{X:Cx}{scope:Scope}{N':List Str}{sub:List (Option Nat)}{tg:Expr}{pos:Pos}{pN iter:Expr}{pA:List Expr}{wi:TI}{g:TG}{tt:TT}{te:TE}{e0:Addr}
theorem UZ(S:CSc X scope N' sub)(hh:X.A.handled=some (.ref e0))(hi:PIH e0 X tg iter wi)
  (hg:∀cl C D fp s H,PG (cxC X N' scope cl C D fp s H) tg g) (ht:∀cl C D fp s H,TH (cxC X N' scope cl C D fp s H) pA tt) (he:∀cl C D fp s H,PE (cxC X N' scope cl C D fp s H) pN te)
  (hs:∀x,foldedSetIterable iter X.env x=pure x:=by intro _;rfl):PE X (.ListComp pN [⟨tg,iter,pA,0⟩] scope pos) (Qe wi sub g tt te):=by
 intro nJ s σ H Q I h;obtain⟨cl,Bf,oJ,pT⟩:=S.clos I;rw[eval_ListComp];refine i9 (use:=none) rfl hs Bf S.kind S.names (thn (hi nJ s σ H _ I h) fun v s1 h1=>thn h1 fun DO s2 h2=>?_);obtain⟨it,fp,tn,J,H2,e,I2,T,BR,f2,hW⟩:=h2;subst e;refine Zz (RR:=fun acc C=>compPost (model X.prog X.w) X.A X.xe none (EP X nJ σ Q) acc C) I2 hh T BR f2 S oJ pT (hg cl) (ht cl) (he cl) hW ?_;intro D C oC m s' Hf IX hm Ao q;refine⟨m,hm,fun h' sb=>⟨.ref D,Hf,?_,rfl,q⟩⟩;exact(IX.unpinned).turned (it:=C) (t':=s'.toks) (h':=h') (fun b o hb e=>sb.extBut b o hb e) Ao.1 Ao.2.1 Ao.2.2.2.1 Ao.2.2.2.2.1 Ao.2.2.2.2.2
end
section
variable{prog:Program}{w:World}{A:Around}{E:VS7}{s:Shared}
theorem u8{it l e:Addr}{i:Nat}{items:Array Value}{Q:VS7}(hh:A.handled=some (.ref e))(pd:e≠it)(hn:uJ s.heap e)
  (oh:s.heap.IsListIter it l i) (hl:s.heap.IsList l items) (hx:items[i]?=none)
  (hE:∀h' e,fN it s.heap h'->(∃o,h'.get? e=some o/\o.cls=.type "StopIteration")->E (.ref e) { s with heap:=h' }):wpAny (model prog w) A (cL (.ref it)) Q E s:=by
 obtain⟨o,ho,hc,hd⟩:=id oh;obtain⟨ol,EH,_,nl,EI⟩:=hl;unfold cL;refine aA (cA (name:=dZ "__next__") oh.typeIs slot_listiter_next
  (bW slot_listiter_next oh.typeIs entry_listiter_next ?_ (args_listiter_next _)))
 show wpAny _ _ (lx (.ref it) 0 >>= _) _ _ s;refine aA (bS ho hd (x:=.ref l) rfl ?_);show wpAny _ _ (if(aN l == aU)=true then _ else _) _ _ s;rw[if_neg (show ¬((aN l == aU)=true) from aZ)];show wpAny _ _ (lx (.ref it) 1 >>= _) _ _ s;refine aA (bS ho hd (x:=.int i 0) rfl ?_);show wpAny _ _ (iG (.ref l) >>= _) _ _ s;refine aA (du EH EI ?_);simp only[bL,hx]
 refine aA (iL (aA (cE ho hd (by simp) ?_)));show wpAny _ _ (lU (.type "StopIteration") [] >>= _) _ _ _;refine aA ?_;simp only[lU,lV]
 refine aA (bF ?_ (by size_fits));refine aA (m:=dU _ _) (iM (a:=aU) (by first|rfl|(simp only[dU];rfl)) ?_);refine bF ?_ (by size_fits);simp only[m8]
 refine aA (i8 ?_);first|rw[show A.in1.handled=some (.ref e) from hh]|rw[hh]
 obtain⟨oe,vs,Ip,Iq,h2⟩:=hn;have sb:=cR s.heap it (bV (·.setIfInBounds 0 aU));generalize s.heap.update it (bV (·.setIfInBounds 0 aU))=h1 at sb ⊢;have e1:h1.get? e=some oe:=(sb.2 e pd).trans Ip;have e2:=aD (h:=h1) { cls:=cK "tuple",data:=Data.seq #[] } e1;have lt:=aP e2;have ext:fN it s.heap (h1.push { cls:=cK "tuple",data:=Data.seq #[] }):=sb.extBut.push _;generalize h1.push { cls:=cK "tuple",data:=Data.seq #[] }=Bi at e2 lt ext ⊢;have Ea:aN e≠aN Bi.objs.size:=fun z=>aW lt (nu z);dsimp only
 rw[if_pos (bne_iff_ne.mpr Ea)];generalize hO:({ cls:=cK "StopIteration",data:=Data.fields (#[aN h1.objs.size,aU,aU,aU,gV false,aU]++ownMembersOf (cK "StopIteration") []) }:Obj)=oS;have Eb:oS.data=Data.fields (#[aN h1.objs.size,aU,aU,aU,gV false,aU]++ownMembersOf (cK "StopIteration") []):=by rw[←hO]
 have Ir:oS.cls=cK "StopIteration":=by rw[←hO]
 have e3:=aD (h:=Bi) oS e2;have eS:(Bi.push oS).get? Bi.objs.size=some oS:=aM _ (cN Eb);refine aA (bU (qw ⟨oe,vs,e3,Iq,h2⟩ ?_));refine aA (m:=updateField _ _ _) ?_;refine cE (a:=Bi.objs.size) eS Eb (by rw[kI];exact aV (show 2<6 by decide) (iR 6 _)) (ly ?_);have e5:=cx (bV (·.setIfInBounds 2 (aN e))) eS (cN (cQ Eb _));refine hE _ _ (fun b o' hb pM=>?_) ⟨_,e5,(gP ..).trans Ir⟩;have q:=ext b o' hb pM;exact(cV _ _ (dB (aP q))).trans (aD _ q)
end
theorem uJ.kept{h h':Heap}{e:Addr}(n:uJ h e)(k:∀o,h.get? e=some o->h'.get? e=some o):uJ h' e:=by
 obtain⟨o,vs,a,b,c⟩:=n;exact⟨o,vs,k o a,b,c⟩
theorem Yq{prog:Program}{w:World}{A:Around}{e0:Addr}(hh:A.handled=some (.ref e0))(it l:Addr)(pd:l≠it)(h0:e0≠it)(items:Array Value) :
  Draws prog w A it [it,l,e0] items.size (fun i v=>items[i]?=some v) (fun i h=>h.IsListIter it l i/\h.IsList l items/\uJ h e0) where
 live:=fun _ _ st=>let ⟨o,ho,_⟩:=st.1;⟨o,ho⟩
 frame:=fun _ _ _ st hk=>⟨st.1.at fun o e=>hk it (by simp) o e,st.2.1.at fun o e=>hk l (by simp) o e,st.2.2.kept fun o e=>hk e0 (by simp) o e⟩
 item:=fun i s Q E hi st hQ=>by
  refine wpAny_nextOf_list_item st.1 st.2.1 (x:=items[i]) (by simp[hi]) fun h' Aj Dd=>?_;exact hQ _ h' s.toks (by simp[hi]) ⟨Aj,st.2.1.extBut Dd.extBut pd,st.2.2.kept fun o e=>Dd.extBut _ _ h0 e⟩ Dd
 done:=fun s Q E st hE=>u8 hh h0 st.2.2 st.1 st.2.1 (by simp) hE
theorem Yr{prog:Program}{w:World}{A:Around}{e0:Addr}(hh:A.handled=some (.ref e0))(it l:Addr)(h0:e0≠it)(vs:Array Value){i:Nat}(hv:vs[i]?=none) :
  Draws prog w A it [it,l,e0] i (fun _ _=>True) (fun j h=>j=i/\h.IsListIter it l i/\h.IsList l vs/\uJ h e0) where
 live:=fun _ _ st=>let ⟨o,ho,_⟩:=st.2.1;⟨o,ho⟩
 frame:=fun _ _ _ st hk=>⟨st.1,st.2.1.at (hk it (by simp)),st.2.2.1.at (hk l (by simp)),st.2.2.2.kept fun o e=>hk e0 (by simp) o e⟩
 item:=fun j s Q E hj st hQ=>absurd st.1 (aW hj)
 done:=fun s Q E st hE=>u8 hh h0 st.2.2.2 st.2.1 st.2.2.1 hv hE
noncomputable def zbB(e0:Addr)(K:FG7)(a:Addr):It :=
 ⟨fun i H=>(TZ false K a).go i H/\∃C,H e0=some (ExO e0 C),(TZ false K a).yld,fun i H=>(TZ false K a).stop i H/\∃C,H e0=some (ExO e0 C)⟩
theorem Wu{P:Program}{w:World}{K:FG7}{elts:List Expr}{kt:Nat}{pt:Pos}{e0:Addr}(a e jt:Addr)(CP:e≠jt)(EC:a≠e)(By:a≠jt) :
  TurnH e0 P w K (.Tuple elts kt pt) (zbB e0 K a) [e,jt] e (fun i h=>(∃old,IsEnum h e jt i old)/\vW false h jt a i) where
 obj:=(wS (P:=P) (w:=w) (K:=K) (elts:=elts) (kt:=kt) (pt:=pt) false a e jt CP EC By).obj
 keep:=(wS (P:=P) (w:=w) (K:=K) (elts:=elts) (kt:=kt) (pt:=pt) false a e jt CP EC By).keep
 self:=(wS (P:=P) (w:=w) (K:=K) (elts:=elts) (kt:=kt) (pt:=pt) false a e jt CP EC By).self
 item:=by
  intro X hP hw hK hc i nJ s σ H E I hf st hg;subst hP hw hK;obtain⟨⟨old,he⟩,oh⟩:=st;obtain⟨⟨xs,x,hq,hx⟩,C,hE⟩:=hg;obtain⟨oe,B5,_,ws,Fv,Fw⟩:=(I.hok e0 _ hE).1;have nc:uJ s.heap e0:=⟨oe,ws,B5,Fv,Fw⟩
  have n1:e0≠e:=fun z=>by have:=(hf e (by simp)).1;rw[←z,hE] at this;cases this
  have n2:e0≠jt:=fun z=>by have:=(hf jt (by simp)).1;rw[←z,hE] at this;cases this
  obtain⟨nK,rv,p⟩:=yH I hq;obtain⟨u,hu,ru⟩:=rv.get hx;have n5:i<nK.toArray.size:=by have:=(aL.mp hu).1;simpa using this
  refine wpAny_pyNext_enum_itemD (Yq (A:=X.A.in1) hc jt a By n2 nK.toArray) he ⟨oh,p,nc⟩ n5 CP (by simp[CP,Ne.symm EC,Ne.symm n1]) fun v h1 tk hv Cq Cr hT hsz hk=>?_;have HE:v=u:=by
   have e1:nK.toArray[i]?=some v:=hv;have e2:nK.toArray[i]?=some u:=by simpa using hu
   rw[e1] at e2;exact bQ e2
  subst HE;refine⟨_,rfl,wpAny_letOwnedTupleGo_enum (s:={ s with heap:=h1,toks:=tk+1 }) Cq fun h2 Cs o7=>?_⟩;have Ba:∀b o,b∉[e,jt]->s.heap.get? b=some o->h2.get? b=some o:=fun b o hb q=>by
   have n1:b≠e:=fun z=>hb (by simp[z]);have n2:b≠jt:=fun z=>hb (by simp[z]);exact(o7.2 b n1).trans (hk b o n1 n2 q)
  have eT:s.heap.objs.size≠e:=dB (aP he);have Ca:h2.get? s.heap.objs.size=some { cls:=.type "tuple",data:=.seq #[.int i tk,v] }:=(o7.2 _ eT).trans hT;have hn:H s.heap.objs.size=none:=I.hok.fresh (aG _);have I2:Inv X nJ σ (upd H s.heap.objs.size (.tup [.int i,x])) { s with heap:=h2,toks:=tk+1 }:=tL (s:=s) I Ba hf (aG _) ⟨by show 2<=sizeLine;decide,[.int i tk,v],.cons ⟨_,rfl⟩ (.cons ru .nil),_,Ca,rfl,0,rfl⟩;refine⟨.ref s.heap.objs.size,upd H s.heap.objs.size (.tup [.int i,x]),I2,rfl,⟨_,x,hn,rfl,rfl,fun ys hy=>by rw[xD I hy hq];exact hx⟩,⟨⟨v,by simpa using Cs⟩,?_⟩,fun b hb=>?_⟩
  ·exact Cr.1.at fun o q=>(o7.2 jt (Ne.symm CP)).trans q
  ·have nb:b≠s.heap.objs.size:=by
    obtain⟨oj,B8,_⟩:=oh.obj;simp only[aK,fH,or_false] at hb;rcases hb with rfl|rfl
    ·exact Ne.symm eT
    ·exact aW (aP B8)
   rw[zq nb];exact(hf b hb).1
 done:=by
  intro X hP hw hK hc i nJ s σ H E I hf st hg;subst hP hw hK;obtain⟨⟨old,he⟩,oh⟩:=st;obtain⟨⟨xs,hq,hx⟩,C,hE⟩:=hg;obtain⟨oe,B5,_,ws,Fv,Fw⟩:=(I.hok e0 _ hE).1;have nc:uJ s.heap e0:=⟨oe,ws,B5,Fv,Fw⟩
  have n2:e0≠jt:=fun z=>by have:=(hf jt (by simp)).1;rw[←z,hE] at this;cases this
  obtain⟨nK,rv,p⟩:=yH I hq;have hl:=rv.length;refine wpAny_pyNext_enum_endD (Yr (A:=X.A.in1) hc jt a n2 nK.toArray (i:=i) (by simp;omega)) he ⟨rfl,oh,p,nc⟩ fun h' eb=>⟨rfl,?_⟩
  exact t9 (fp:=[e,jt]) (t':=s.toks) I (fun b o hb q=>eb b o (fun z=>hb (by simp[z])) q) hf
section
variable{X:Cx}{elts:List Expr}{kt:Nat}{pt:Pos}{K:FG7}{e0:Addr}
def zam(e0:Addr)(K:FG7)(ta:TA):TI:=fun σ H R=>ta σ H fun vs H1=>∃a xs,vs=[.ref a]/\SqC false K H1 a xs/\R (zbB e0 K a) H1
theorem S6{a:Expr}{ta:TA}{p pos:Pos}(hK:X.K=K)(hg:Gl X "enumerate")(hm:X.mg "enumerate" = none)(ha:PA X [a] ta)(hs:bY [a] X.env=[(false,eval a X.env)]:=by rfl) :
  PIH e0 X (.Tuple elts kt pt) (.Call (.Name "enumerate" p) [a] [] pos) (zam e0 K ta):=by
 subst hK;intro nJ s σ H R I h;refine Call_ (wo I hg hm RA (cM (thn (ha pos nJ s σ H _ I h) fun us s1 ⟨vs,H1,I1,r1,q1⟩=>?_) hs rfl));obtain⟨t,xs,e,hq,q⟩:=q1;subst e;obtain⟨u,rfl,e1⟩:=vq r1;cases(show u=aN t from e1);obtain⟨nK,rv,p⟩:=yH I1 hq;refine rY p fun h' he oh _ hk=>?_;refine mn he ?_;have lt:t<s1.heap.objs.size:=p.lt;have I2:Inv X nJ σ H1 { s1 with heap:=h' }:=I1.kept (t':=s1.toks) hk;refine⟨s1.heap.objs.size+1,[s1.heap.objs.size+1,s1.heap.objs.size],_,_,H1,rfl,I2,Wu t (s1.heap.objs.size+1) s1.heap.objs.size (Nat.succ_ne_self _) (aW (fm lt)) (aW lt),⟨⟨_,he⟩,oh⟩,fun b hb=>?_,q⟩;simp only[aK,fH,or_false] at hb;rcases hb with rfl|rfl
 ·exact I1.fpOk (fz _) (I1.hok.fresh (fz _))
 ·exact I1.fpOk (aG _) (I1.hok.fresh (aG _))
end
section
variable{prog:Program}{w:World}{A:Around}{E:VS7}{s:Shared}
theorem jn{it t e:Addr}{i:Nat}{items:Array Value}{Q:Option Value->Shared->Prop}(hh:A.handled=some (.ref e))(pd:e≠it)(hn:uJ s.heap e)
  (oh:s.heap.IsTupleIter it t i) (ht:s.heap.IsTuple t items) (hx:items[i]?=none)
  (hQ:∀h',fN it s.heap h'->Q none { s with heap:=h' }):wpAny (model prog w) A (pyNext (.ref it)) Q E s:=by
 obtain⟨o,ho,hc,hd⟩:=id oh;obtain⟨ol,EH,_,nl,EI⟩:=ht;unfold pyNext;refine aA (gY (cA (name:=dZ "__next__") oh.typeIs F.slot_tuple_iterator_next
  (bW F.slot_tuple_iterator_next oh.typeIs F.entry_tuple_iterator_next ?_ (F.args_tuple_iterator_next_1 _))))
 show wpAny _ _ (lx (.ref it) 0 >>= _) _ _ s;refine aA (bS ho hd (x:=.ref t) rfl ?_);show wpAny _ _ (if(aN t == aU)=true then _ else _) _ _ s;rw[if_neg (show ¬((aN t == aU)=true) from aZ)];show wpAny _ _ (lx (.ref it) 1 >>= _) _ _ s;refine aA (bS ho hd (x:=.int i 0) rfl ?_);show wpAny _ _ (iG (.ref t) >>= _) _ _ s;refine aA (du EH EI ?_);simp only[bL,hx]
 refine aA (iL (aA (cE ho hd (by simp) ?_)));show wpAny _ _ (lU (.type "StopIteration") [] >>= _) _ _ _;refine aA ?_;simp only[lU,lV]
 refine aA (bF ?_ (by size_fits));refine aA (m:=dU _ _) (iM (a:=aU) (by first|rfl|(simp only[dU];rfl)) ?_);refine bF ?_ (by size_fits);simp only[m8]
 refine aA (i8 ?_);first|rw[show A.in1.handled=some (.ref e) from hh]|rw[hh]
 obtain⟨oe,vs,Ip,Iq,h2⟩:=hn;have sb:=cR s.heap it (bV (·.setIfInBounds 0 aU));generalize s.heap.update it (bV (·.setIfInBounds 0 aU))=h1 at sb ⊢;have e1:h1.get? e=some oe:=(sb.2 e pd).trans Ip;have e2:=aD (h:=h1) { cls:=cK "tuple",data:=Data.seq #[] } e1;have lt:=aP e2;have ext:fN it s.heap (h1.push { cls:=cK "tuple",data:=Data.seq #[] }):=sb.extBut.push _;generalize h1.push { cls:=cK "tuple",data:=Data.seq #[] }=Bi at e2 lt ext ⊢;have Ea:aN e≠aN Bi.objs.size:=fun z=>aW lt (nu z);dsimp only
 rw[if_pos (bne_iff_ne.mpr Ea)];generalize hO:({ cls:=cK "StopIteration",data:=Data.fields (#[aN h1.objs.size,aU,aU,aU,gV false,aU]++ownMembersOf (cK "StopIteration") []) }:Obj)=oS;have Eb:oS.data=Data.fields (#[aN h1.objs.size,aU,aU,aU,gV false,aU]++ownMembersOf (cK "StopIteration") []):=by rw[←hO]
 have Ir:oS.cls=cK "StopIteration":=by rw[←hO]
 have e3:=aD (h:=Bi) oS e2;have eS:(Bi.push oS).get? Bi.objs.size=some oS:=aM _ (cN Eb);refine aA (bU (qw ⟨oe,vs,e3,Iq,h2⟩ ?_));refine aA (m:=updateField _ _ _) ?_;refine cE (a:=Bi.objs.size) eS Eb (by rw[kI];exact aV (show 2<6 by decide) (iR 6 _)) (ly ?_);have e5:=cx (bV (·.setIfInBounds 2 (aN e))) eS (cN (cQ Eb _));refine aA (fG (T:="StopIteration") (b:=true) ⟨_,e5,(gP ..).trans Ir⟩ l5 ?_);refine aB (hQ _ fun b o' hb pM=>?_);have q:=ext b o' hb pM;exact(cV _ _ (dB (aP q))).trans (aD _ q)
theorem tG{t e:Addr}{items:Array Value}{Q:List Value->Shared->Prop}(hh:A.handled=some (.ref e))(hn:uJ s.heap e)(ht:s.heap.IsTuple t items)
  (hQ:∀h',fN s.heap.objs.size s.heap h'->Q items.toList { s with heap:=h' }):wpAny (model prog w) A (unpackItems (.ref t) items.size none) Q E s:=by
 have n5:t≠s.heap.objs.size:=by obtain⟨o,ho,_⟩:=ht;exact aW (aP ho)
 have Dy:e≠s.heap.objs.size:=by obtain⟨o,_,ho,_⟩:=hn;exact aW (aP ho)
 unfold unpackItems;refine aA ?_
 ·unfold notIterableAtAll;refine aA (gK ht.typeIs F.slot_tuple_iter.lookup ?_);refine aB ?_;simp only[aY,if_false]
  refine aA (bU (lO ht ?_));refine aA (bU (wpAny_draw_tuple n5 items.size 0 _ _ ⟨_,aM _ rfl,rfl,rfl⟩ (ht.push _) (by omega) fun h₁ Aw pK=>?_));have nP:List.take items.size (List.drop 0 items.toList)=items.toList:=by
   rw[kG];exact dv (by simp)
  rw[nP];rw[if_neg (by simp)];have Cu:h₁.IsTuple t items:=(ht.push _).extBut pK.extBut n5;have Fx:uJ h₁ e:=hn.kept fun o q=>pK.extBut _ _ Dy (aD _ q);refine aA (bU (jn hh Dy Fx Aw Cu (by simp) fun h₂ Cv=>?_));simp only[Option.isSome_none,aY,if_false]
  refine aB (hQ h₂ fun b o hb e=>Cv b o hb (pK.extBut b o hb (aD _ e)))
theorem jo{env:Env}{elts:List Expr}{x1}{pos:Pos}{t e:Addr}{items:Array Value}{Q:Unit->Shared->Prop}(hh:A.handled=some (.ref e))(pd:uJ s.heap e)(ht:s.heap.IsTuple t items)
  (hn:(dR elts env).length=items.size) (Cw:(dR elts env).findIdx? (·.1)=none)
  (h:∀h',fN s.heap.objs.size s.heap h'->wpAny (model prog w) A (assignInOrder ((dR elts env).map (·.2)) items.toList) Q E { s with heap:=h' }) :
  wpAny (model prog w) A (mL (.Tuple elts x1 pos) env (.ref t)) Q E s:=by
 rw[assign_Tuple];refine aA (iY ?_);unfold unpack;rw[hn,Cw];exact aA (bU (tG hh pd ht h))
end
def zan(e0:Addr)(K:FG7)(n:Nat)(t:TGs):TG:=fun v σ H Q=>zaT K n t v σ H Q/\∃C,H e0=some (ExO e0 C)
theorem QX{X:Cx}{K:FG7}{e0:Addr}{es:List Expr}{k:Nat}{pos:Pos}{t:TGs}(n:Nat)(h0:X.K=K)(hh:X.A.handled=some (.ref e0))(h:PGs X es t)
  (hn:(dR es X.env).length=n) (AL:(dR es X.env).findIdx? (·.1)=none):PG X (.Tuple es k pos) (zan e0 K n t):=by
 subst h0;intro nJ s σ H v u Q I r ⟨hw,C,hE⟩;obtain⟨a,xs,e1,hq,hl,hw⟩:=hw;subst e1;cases r;obtain⟨nK,rv,ht,hz⟩:=I.tuple hq;obtain⟨oe,B5,_,ws,Fv,Fw⟩:=(I.hok e0 _ hE).1;refine jo hh ⟨oe,ws,B5,Fv,Fw⟩ ht (by simp[hn,←hl,rv.length]) AL fun h' hx=>?_;have I1:Inv X nJ σ H { s with heap:=h' }:=I.kept (t':=s.toks) fun b o e=>hx b o (aW (aP e)) e;exact h nJ _ σ H xs _ Q I1 (by simpa using rv) hw
section
variable{prog:Program}{w:World}{A:Around}{E:VS7}{s:Shared}
theorem sW{it t:Addr}{items:Array Value}(pd:t≠it):∀(n i:Nat) (s:Shared) (Q:List Value->Shared->Prop),s.heap.IsListIter it t i->s.heap.IsList t items->i+n<=items.size→
  (∀h',h'.IsListIter it t (i+n)->cP it s.heap h'->Q ((items.toList.drop i).take n) { s with heap:=h' })->wpAny (model prog w) A (draw (.ref it) n) Q E s
 |0,i,s,Q,oh,_,_,hQ=>by
  show wpAny _ _ (pure []) Q E s;exact aB (by simpa using hQ s.heap oh (mq ..))
 |n+1,i,s,Q,oh,ht,Dy,hQ=>by
  have n5:i<items.size:=by omega
  show wpAny _ _ (pyNext (.ref it) >>= _) Q E s;refine aA (wpAny_pyNext_list_item oh ht (x:=items[i]) (by simp[n5]) fun h₁ Aw pK=>?_);refine aA (bU (sW pd n (i+1) _ _ Aw (ht.extBut pK.extBut pd) (by omega) fun h₂ Ec Fy=>aB ?_));have hd:items.toList.drop i=items[i]::items.toList.drop (i+1):=by simp[List.drop_eq_getElem_cons,n5]
  have:=hQ h₂ (by rw[show i+(n+1)=i+1+n by omega];exact Ec) (pK.trans Fy);rw[hd,List.take_succ_cons] at this;exact this
theorem uo{t:Addr}{items:Array Value}{Q:List Value->Shared->Prop}(hh:A.handled=none)(ht:s.heap.IsList t items)
  (hQ:∀h',fN s.heap.objs.size s.heap h'->Q items.toList { s with heap:=h' }):wpAny (model prog w) A (unpackItems (.ref t) items.size none) Q E s:=by
 have n5:t≠s.heap.objs.size:=by obtain⟨o,ho,_⟩:=ht;exact aW (aP ho)
 unfold unpackItems;refine aA ?_
 ·unfold notIterableAtAll;refine aA (gK ht.typeIs F.slot_list_iter.lookup ?_);refine aB ?_;simp only[aY,if_false]
  refine aA (bU (gM ht ?_));refine aA (bU (sW n5 items.size 0 _ _ ⟨_,aM _ rfl,rfl,rfl⟩ (ht.push _) (by omega) fun h₁ Aw pK=>?_));have nP:List.take items.size (List.drop 0 items.toList)=items.toList:=by
   rw[kG];exact dv (by simp)
  rw[nP];rw[if_neg (by simp)];have Cu:h₁.IsList t items:=(ht.push _).extBut pK.extBut n5;refine aA (bU (wpAny_pyNext_list_end hh Aw Cu (by simp) fun h₂ Cv=>?_));simp only[Option.isSome_none,aY,if_false]
  refine aB (hQ h₂ fun b o hb e=>Cv b o hb (pK.extBut b o hb (aD _ e)))
theorem vI{env:Env}{elts:List Expr}{x1}{pos:Pos}{t:Addr}{items:Array Value}{Q:Unit->Shared->Prop}(hh:A.handled=none)(ht:s.heap.IsList t items)
  (hn:(dR elts env).length=items.size) (Cw:(dR elts env).findIdx? (·.1)=none)
  (h:∀h',fN s.heap.objs.size s.heap h'->wpAny (model prog w) A (assignInOrder ((dR elts env).map (·.2)) items.toList) Q E { s with heap:=h' }) :
  wpAny (model prog w) A (mL (.Tuple elts x1 pos) env (.ref t)) Q E s:=by
 rw[assign_Tuple];refine aA (iY ?_);unfold unpack;rw[hn,Cw];exact aA (bU (uo hh ht h))
end
section
variable{X:Cx}{pos:Pos}
def zao(K:FG7)(n:Nat)(t:TGs):TG:=fun v σ H Q=>∃a xs,v=.ref a/\SqL K H a xs/\xs.length=n/\t xs σ H Q
theorem S7{es:List Expr}{k:Nat}{t:TGs}{n:Nat}(hc:X.calm=true)(h:PGs X es t)
  (hn:(dR es X.env).length=n:=by rfl) (AL:(dR es X.env).findIdx? (·.1)=none:=by rfl):PG X (.Tuple es k pos) (zao X.K n t):=by
 intro nJ s σ H v u Q I r hw;obtain⟨a,xs,e1,hq,hl,hw⟩:=hw;subst e1;cases r;obtain⟨nK,rv,ht,hz⟩:=I.list hq;refine vI (I.ok.hd hc) ht.isList (by simp[hn,←hl,rv.length]) AL fun h' hx=>?_;have I1:Inv X nJ σ H { s with heap:=h' }:=I.kept (t':=s.toks) fun b o e=>hx b o (aW (aP e)) e;exact h nJ _ σ H xs _ Q I1 (by simpa using rv) hw
end
noncomputable def ZQ(i k:Nat):List V:=(aF k).map fun j=>V.bl (decide (i=j))
def vJ(cs:List Addr)(K:FG7)(e:Addr):Sp:=sp1 fun x H Q=>∃(C:Addr) (i:Nat),x=.ref e/\H e=some (ExO e C)/\cs[i]?=some C/\i<16/\∀l H',Grow [] H H'->H' l=some (.lst [.int i])->Q (.ref l) H'
theorem uq(i k:Nat):(ZQ i k).length=k:=by unfold ZQ;rw[aE,aS]
theorem zaH{i k:Nat}{zs:List V}(h:k+zs.length<=1000):(ZQ i k).length+zs.length<=sizeLine:=by rw[uq];exact c7 (zI h)
theorem zap:∀(n i:Nat),((aF n).filter fun j=>decide (i=j))=if i<n then[i] else[]
 |0,i=>by simp
 |n+1,i=>by
  rw[fB,gy,zap n i];by_cases h:i<n
  ·rw[if_pos h,if_pos (by omega)];simp[show ¬i=n by omega]
  ·by_cases h2:i=n
   ·subst h2;simp
   ·rw[if_neg h,if_neg (by omega)];simp[h2]
theorem S8(i:Nat){j k:Nat}(h:j<k):(ZQ i k)[j]?=some (V.bl (decide (i=j))):=by
 unfold ZQ;rw[bE,cG h];rfl
theorem zaq{K:FG7}{e0 l C:Addr}{i:Nat}{H1:Hp}{Q:VK}(hl:H1 l=some (.lst (ZQ i 16++[V.bl false])))(hE:H1 e0=some (ExO e0 C))(Fu:i<16)
  (q:∀p H',Grow [] H1 H'->H' p=some (.lst [V.int (i:Int)])->Q (.ref p) H') :
  wG (zbB e0 K l) [none,none] H1 (zan e0 K 2 (R6 (ww 0) (R6 (ww 1) zbF))) (tB (WO 1)) (WO 0) Q:=by
 refine⟨fun j m ys σ' H'=>m+j=17/\Grow [] H1 H'/\(∃a b,σ'=[a,b])/\ys=((aF j).filter fun z=>decide (z<16/\i=z)).map fun(z:Nat)=>V.int (z:Int),⟨17,rfl,.refl _ _,⟨_,_,rfl⟩,rfl⟩,?_⟩;rintro j m ys σ' H' ⟨hm,g,⟨a,b,rfl⟩,rfl⟩;have AM:=g.keep _ _ (by simp) hl;have Iu:=g.keep _ _ (by simp) hE;have sq:SqC false K H' l (ZQ i 16++[V.bl false]):=SqL.of AM;have len:(ZQ i 16++[V.bl false]).length=17:=by rw[bD,uq];rfl
 by_cases hj:17<=j
 ·have:j=17:=by omega
  subst this;refine .inl ⟨⟨⟨_,sq,by rw[len];exact aG _⟩,C,Iu⟩,fun p hp=>q p _ (g.trans (Grow.new hp _)) ?_⟩;rw[zd];have e1:((aF 17).filter fun z=>decide (z<16/\i=z))=[i]:=by
   have e2:(fun z=>decide (z<16/\i=z))=fun z=>decide (i=z):=by
    funext z
    by_cases h:i=z
    ·subst h;simp[Fu]
    ·simp[h]
   rw[e2,zap,if_pos (by omega)]
  rw[e1];rfl
 have hx:(ZQ i 16++[V.bl false])[j]?=some (V.bl (decide (j<16/\i=j))):=by
  by_cases h:j<16
  ·rw[dL (by rw[uq];exact h),S8 i h];simp[h]
  ·have:j=16:=by omega
   subst this;rw[dF (by rw[uq];exact aG _),uq];simp
 refine .inr ⟨⟨⟨_,_,sq,hx⟩,C,Iu⟩,fun ws σ2 H2=>Grow [] H1 H2/\(∃a b,σ2=[a,b])/\ws=((aF (j+1)).filter fun z=>decide (z<16/\i=z)).map fun(z:Nat)=>V.int (z:Int),fun ws σ2 H2 ⟨a,b,c⟩=>⟨m-1,by omega,by omega,a,b,c⟩,fun x H2 y=>?_⟩;obtain⟨T,v,hT,rfl,rfl,y1⟩:=y;have ev:=y1 _ sq;rw[hx] at ev;cases ev;have gT:=Grow.new (m:=[]) hT (.tup [V.int (j:Int),V.bl (decide (j<16/\i=j))]);have g2:=g.trans gT;refine⟨⟨T,_,rfl,SqT.of zd,rfl,_,_,rfl,_,_,rfl,rfl,?_⟩,C,gT.keep _ _ (by simp) Iu⟩;refine⟨_,rfl,_,rfl,?_⟩;have e1:(aF (j+1)).filter (fun z=>decide (z<16/\i=z))=(aF j).filter (fun z=>decide (z<16/\i=z))++(if decide (j<16/\i=j)=true then[j] else[]):=by
  rw[fB,gy]
  congr 1
  by_cases z:decide (j<16/\i=j)=true
  ·rw[if_pos z];simp only[eE,z,if_true,List.filter_nil]
  ·rw[if_neg z];simp only[eE,z,if_false,List.filter_nil];rfl
 by_cases z:decide (j<16/\i=j)=true
 ·dsimp only;rw[if_pos z];refine⟨_,rfl,?_,g2,⟨_,_,rfl⟩,?_⟩
  ·rw[aE];exact zI (by have:=iI (fun z=>decide (z<16/\i=z)) (aF j);rw[aS] at this;omega)
  ·rw[e1,if_pos z,bZ];rfl
 ·dsimp only;rw[if_neg z];exact⟨g2,⟨_,_,rfl⟩,by rw[e1,if_neg z,cS]⟩
noncomputable def xi(ch:Int)(t0 t1 t2:Bool)(Al:Int)(al:Bool):List V :=
 if t0=false then[.int 0] else if ch=5 then[] else if t1=false\/(al=true/\(ch=3\/ch=4)) then[.int 2] else if ch=4/\8<Al then[.int 1] else if ch=2/\t2=false then[.int 3] else[]
def Xp(_K:FG7):Sp:=sp4 fun x y z w H Q=>∃(ch Al:Int) (l:Addr) (t0 t1 t2 al:Bool),x=.int ch/\y=.ref l/\H l=some (.lst [.bl t0,.bl t1,.bl t2])/\z=.int Al/\w=.bl al∧
 ∀r H',Grow [] H H'->H' r=some (.lst (xi ch t0 t1 t2 Al al))->Q (.ref r) H'
noncomputable def zaI(m:Nat)(es:List Int)(k:Nat):Call72:=⟨(k:Int),((k % m:Nat):Int),⟨1,none,none⟩,(k:Int),(k:Int)+es.getD k 0,((k / m:Nat):Int)⟩
noncomputable def xn(m:Nat)(es:List Int)(n:Nat):List Call72:=(aF n).map (zaI m es)
def ZA(K:FG7):Sp:=sp3 fun x y z H Q=>∃(p:Addr) (n m:Nat),x=.ref p/\Pot H p/\y=.int n/\z=.int m/\1<=m/\m<=16/\n<=40∧
 ∀v (es:List Int) H',Grow [p] H H'->Pot H' p->es.length=n->(∀e∈es,0<=e/\e<3)->zE K H' v (xn m es n)->Q v H'
theorem ZB(m:Nat)(es:List Int)(n:Nat):(xn m es n).length=n:=by unfold xn;rw[aE,aS]
theorem Wv(m:Nat)(es:List Int)(e:Int):xn m (es++[e]) (es.length+1)=xn m es es.length++[⟨(es.length:Int),((es.length % m:Nat):Int),⟨1,none,none⟩,(es.length:Int),(es.length:Int)+e,((es.length / m:Nat):Int)⟩]:=by
 unfold xn;rw[fB,bZ]
 congr 1
 ·refine ie fun k hk=>?_;have:=bN.mp hk;unfold zaI;rw[aH,dL this,←aH]
 ·simp only[cz,lL,zaI]
  rw[aH,dF (aG _),mO];rfl
def ZC(K:FG7):Sp:=sp4 fun x y z w H Q=>∃(ch:Int) (n:Nat) (g:Bool),x=.int ch/\z=.int n/\w=.bl g/\n<=40∧
 (((ch=0\/ch=3)/\y=.bl true)\/(ch=5/\y=.bl g)\/((ch=1\/ch=2\/ch=4)/\∃ns:List Nat,yX K H y ns/\ns.Perm (aF n)))/\∀H',Grow [] H H'->Q (.bl true) H'
def qE(_K:FG7):Sp:=sp2 fun x y H Q=>∃p,x=.ref p/\Pot H p/\y=.int 2/\∀H',Grow [p] H H'->Q (.bl true) H'
section
variable{prog:Program}{w:World}{A:Around}{E:VS7}{s:Shared}
theorem U0(c n:Nat):eJ (some (c:Int)) none 2 (n:Int)=(((min c n:Nat):Int),(n:Int)):=by
 have h1:¬((2:Int)<0):=by omega
 have h2:¬((c:Int)<0):=by omega
 unfold eJ;simp only[h1,h2,if_false]
 refine lQ ?_ rfl;show min (c:Int) (n:Int)=_;omega
theorem U1(c n:Nat)(hc:c<=1):dg ((min c n:Nat):Int) (n:Int) 2=(n+1-c) / 2:=by
 unfold dg;have h1:(2:Int)>0:=by omega
 simp only[h1,if_true]
 split <;> omega
theorem sX{sl:Addr}{vl vu vs:Value}{c n:Nat}{Q:Int×Int×Nat->Shared->Prop}(hc:c<=1)(hs:s.heap.IsSliceOf sl vl vu vs)(pl:ki vl (some (c:Int)))(pu:ki vu none)(ps:ki vs (some 2))
  (h:Q (((min c n:Nat):Int),2,(n+1-c) / 2) s):wpAny (model prog w) A (gu (.ref sl) (pure (n:Int))) Q E s:=by
 obtain⟨os,AI,CY,Bq⟩:=id hs;unfold gu Builtin.Slice.sliceFields;refine aA (aA (bS AI Bq (x:=vl) rfl (aA (bS AI Bq (x:=vu) rfl (aA (bS AI Bq (x:=vs) rfl (aB ?_)))))));refine aA (xT ps ?_);show wpAny _ _ (if((2:Int) == 0)=true then _ else _) _ _ s;rw[if_neg (by decide)];refine aA (xT pl (aA (xT pu (aA (aB ?_)))));show wpAny _ _ (match eJ (some (c:Int)) none 2 (n:Int) with|(lo,hi)=>pure (lo,(2:Int),dg lo hi 2)) _ _ s;rw[U0 c n];show wpAny _ _ (pure (((min c n:Nat):Int),(2:Int),dg ((min c n:Nat):Int) (n:Int) 2)) _ _ s;rw[U1 c n hc];exact aB h
theorem QY(xs:Array Value)(c:Nat)(hc:c<=1):((aF ((xs.size+1-c) / 2)).filterMap fun(m:Nat)=>xs[(((min c xs.size:Nat):Int)+(m:Int)*2).toNat]?).toArray=(vw (wT c xs.size) xs.toList).toArray:=by
 unfold vw wT;rw[kj]
 congr 1
 refine Y0 fun m hm=>?_;have:=bN.mp hm;have e:(((min c xs.size:Nat):Int)+(m:Int)*2).toNat=c+2*m:=by omega
 rw[e];simp
theorem tH{t sl:Addr}{items:Array Value}{vl vu vs:Value}{c:Nat}{Q:VS7}(hc:c<=1)(ht:IsTup s.heap t items)(hs:s.heap.IsSliceOf sl vl vu vs)(pl:ki vl (some (c:Int)))(pu:ki vu none)(ps:ki vs (some 2))
  (h:Q (.ref s.heap.objs.size) { s with heap:=s.heap.push { cls:=.type "tuple",data:=.seq (vw (wT c items.size) items.toList).toArray } })
  (hsz:items.size<=sizeLine):wpAny (model prog w) A (ml (.ref t) (.ref sl)) Q E s:=by
 have pG:sizeOk (.seq (vw (wT c items.size) items.toList).toArray):=by
  show(vw (wT c items.size) items.toList).toArray.size<=sizeLine;rw[aO];exact cH Y1 (cH (tN hc) hsz)
 obtain⟨os,AI,CY,Bq⟩:=id hs;have ET:s.TypeIs (.ref sl) "slice":=⟨os,AI,CY⟩
 unfold ml;try with_reducible refine bU ?_
 first|refine aA (aB ?_)|skip
 refine aA (mm ht.typeIs (by decide) ?_);refine aA (cA (name:=dZ "__getitem__") ht.typeIs dA
  (bW dA ht.typeIs lI ?_ (lR _ _)))
 show wpAny _ _ (gv (.ref t) >>= _) _ _ s;refine aA (tupleItemsOf_ ht ?_);refine aA (iy ET ?_);rw[if_pos (by decide)];refine aA (sX hc hs pl pu ps ?_);have Hg:¬((((min c items.size:Nat):Int) == 0 && (2:Int) == 1 && ((items.size+1-c) / 2) == items.size)=true):=by
  intro q;rw[aJ,aJ] at q;exact absurd q.1.2 (by decide)
 show wpAny _ _ (if(((min c items.size:Nat):Int) == 0 && (2:Int) == 1 && ((items.size+1-c) / 2) == items.size)=true then _ else _) _ _ s;rw[if_neg Hg,QY _ _ hc];first
  |exact aA (m:=cO _) (bF (aB ⟨_,rfl,aB h⟩) pG)
  |exact aA (m:=cO _) (bF (aA (aB (aB ⟨_,rfl,aB h⟩))) pG)
  |exact aA (aA (m:=cO _) (bF (aB (aB ⟨_,rfl,aB h⟩)) pG))
  |exact aA (aA (m:=cO _) (bF (aB ⟨_,rfl,aB h⟩) pG))
end
section
variable{X:Cx}{K:FG7}
def zcl(K:FG7)(te ta tc:TE):TE:=fun σ H Q=>te σ H fun x H1=>ta σ H1 fun y H2=>tc σ H2 fun z H3=>∃(a:Addr) (xs:List V) (c:Nat),x=.ref a/\y=.int c/\c<=1/\z=.int 2/\SqT K H3 a xs/\∀p,H3 p=none->Q (.ref p) (upd H3 p (.tup (vw (wT c xs.length) xs)))
theorem zar{e ea ec:Expr}{te ta tc:TE}{p2 pos:Pos}(hK:X.K=K)(he:PE X e te)(ha:PE X ea ta)(hc:PE X ec tc):PE X (.Subscript e (.Slice (some ea) none (some ec) p2) pos) (zcl K te ta tc):=by
 subst hK;intro nJ s σ H Q I h;refine Subscript_ (thn (he nJ s σ H _ I h) fun v s1 ⟨x,H1,I1,r1,q1⟩=>?_);refine wpAny_Slice (thn (ha nJ s1 σ H1 _ I1 q1) fun vl s2 ⟨y,H2,I2,ry,q2⟩=>thn (xH nJ s2 σ H2 (fun o H3=>o=none/\H3=H2) I2 ⟨rfl,rfl⟩) fun vu s3 ⟨u,H3,I3,pu',q3a,q3⟩=>?_);subst q3a q3;refine thn (hc nJ s3 σ H3 _ I3 q2) fun vs s4 ⟨z,H4,I4,rz,q4⟩=>?_;obtain⟨a,xs,c,rfl,rfl,c1,rfl,hx,q⟩:=q4;cases(show v=aN a from r1);obtain⟨tl,rfl⟩:=(show ∃t,vl=fD (c:Int) t from ry)
 obtain⟨ts,rfl⟩:=(show ∃t,vs=fD 2 t from rz)
 have I5:Inv X nJ σ H4 { s4 with heap:=s4.heap.push { cls:=.type "slice",data:=.fields #[.int (c:Int) tl,vu,.int 2 ts] } }:=I4.kept (t':=s4.toks) fun b ob q=>aD _ q;show wpAny (model X.prog X.w) X.A (subscriptTail e _ (.ref a) (.ref s4.heap.objs.size)) (EP X nJ σ Q) X.xe { s4 with heap:=s4.heap.push { cls:=.type "slice",data:=.fields #[.int (c:Int) tl,vu,.int 2 ts] } };obtain⟨nK,r,ht,hz⟩:=I5.tuple hx;have nR:=r.length;refine tail_any (ops:=[.ref a,.ref s4.heap.objs.size]) ht.typeIs slot_tuple_getitem.lookup ?_ (by with_unfolding_all rfl);refine tH (c:=c) c1 ht (Heap.IsSliceOf.new ..) (.int _ _) pu' (.int _ _) ?_ (by rw[aO] <;> omega);rw[nR] at q;refine⟨.ref _,_,I5.laid (t':=s4.toks) (o:=.tup (vw (wT c nK.length) xs)) (fun b ob q=>aD _ q) (aG _) ?_,rfl,q _ (I5.hok.fresh (aG _))⟩;rw[aO];exact⟨cH Y1 (cH (tN c1) (by omega)),_,T7 r _,_,aM _ rfl,rfl,0,rfl⟩
end
structure G78(n:Nat)(cs:List Call72):Prop where
 len:cs.length=n
 box:∀k<n,(cg cs k).box=((k % 2:Nat):Int)
 deed:∀k<n,(cg cs k).deed=⟨1,none,none⟩
 h0:∀k<n,0<=(cg cs k).hand/\(cg cs k).hand<=15
 b0:∀k<n,0<=(cg cs k).begun/\(cg cs k).begun<=k
 e0:∀k<n,(k:Int)<=(cg cs k).ended
 an:∀k<n,(cg cs k).answer=((k / 2:Nat):Int)
theorem RW{n:Nat}{cs:List Call72}(g:G78 n cs):∀(m k:Nat),k+m=n->tq cs (iq k m)=true
 |0,_,_=>rfl
 |m+1,k,h=>by
  show(!((iq (k+1) m).any fun j=>decide ((cg cs j).ended<(cg cs k).begun)) && tq cs (iq (k+1) m))=true;rw[RW g m (k+1) (by omega),mx,cX,fT];intro j hj;have pO:=List.mem_range'_1.mp hj;have:=g.e0 j (by omega);have:=(g.b0 k (by omega)).2;rw[decide_eq_true_eq];omega
theorem RX{n:Nat}{cs:List Call72}(g:G78 n cs):∀(m k:Nat),k+m=n->vM cs [(((k+1) / 2:Nat):Int),((k / 2:Nat):Int)] (iq k m)=true
 |0,_,_=>rfl
 |m+1,k,h=>by
  show vM cs _ (k::iq (k+1) m)=true;have ih:=RX g m (k+1) (by omega);rw[xu,g.box k (by omega),g.deed k (by omega),g.an k (by omega),bL];have dm:(⟨1,none,none⟩:Deed).mk' ((k / 2:Nat):Int)=((k / 2+1:Nat):Int):=by
   show((k / 2:Nat):Int)+1=_;omega
  rw[dm];rcases Nat.mod_two_eq_zero_or_one k with h2|h2
  ·rw[h2,if_pos (by show(((k+1) / 2:Nat):Int)=_;omega)];rw[show(k+1+1) / 2=k / 2+1 by omega,show(k+1) / 2=k / 2 by omega] at ih;exact ih
  ·rw[h2,if_pos (show[(((k+1) / 2:Nat):Int),((k / 2:Nat):Int)].getD 1 0=((k / 2:Nat):Int) from rfl)];rw[show(k+1+1) / 2=(k+1) / 2 by omega,show(k+1) / 2=k / 2+1 by omega] at ih;rw[show(k+1) / 2=k / 2+1 by omega];exact ih
theorem jp{n:Nat}{cs:List Call72}(g:G78 n cs):Zk [0,0] cs (aF n):=by
 have k1:=RW g n 0 (by omega);have k2:=RX g n 0 (by omega);rw[←iN] at k1 k2;exact⟨by rw[g.len],k1,k2⟩
theorem xN{m n k:Nat}{es:List Int}(h:k<n):cg (xn m es n) k=zaI m es k:=by
 refine yn ?_;unfold xn;rw[bE,cG h];rfl
theorem RY{n:Nat}{es:List Int}(n16:n<=16)(he:∀e∈es,0<=e/\e<3):G78 n (xn 2 es n):=by
 have ge:∀k,0<=es.getD k 0:=fun k=>by
  rw[aH];cases e:es[k]? with
  |none=>exact Int.le_refl _
  |some v=>exact(he v (bA e)).1
 refine⟨ZB ..,fun k h=>congrArg Call72.box (xN h),fun k h=>congrArg Call72.deed (xN h),fun k h=>?_,fun k h=>?_,fun k h=>?_,fun k h=>congrArg Call72.answer (xN h)⟩
 ·rw[xN h];exact⟨by show(0:Int)<=(k:Int);omega,by show(k:Int)<=15;omega⟩
 ·rw[xN h];exact⟨by show(0:Int)<=(k:Int);omega,by show(k:Int)<=k;omega⟩
 ·rw[xN h];have:=ge k;show(k:Int)<=k+es.getD k 0;omega
theorem S9{n:Nat}{es:List Int}:xB (xn 2 es n):=by
 intro i j hi hj h _;rw[ZB] at hi hj;rw[xN hi,xN hj] at h;have:(i:Int)=(j:Int):=h;omega
theorem zas{n:Nat}{cs:List Call72}(g:G78 n cs):∀c∈cs,CallOk72 2 c:=by
 intro c hc;obtain⟨k,hk,rfl⟩:=gh hc;have e:cg cs k=cs[k]:=yn (aC hk);rw[g.len] at hk;rw[←e];have hb:=g.box k hk;have hd:=g.deed k hk;have hh:=g.h0 k hk;have h1:=g.b0 k hk;have h2:=g.e0 k hk;exact⟨hh.1,hh.2,by rw[hb];omega,by rw[hb];omega,(by rw[hd];exact(fun _ _ z=>nomatch z)),h1.1,by omega⟩
theorem QZ{n:Nat}{cs:List Call72}(g:G78 n cs)(n9:n<=9)(b:Int):vY b cs<=8:=by
 have e:cs=(aF n).map (cg cs):=by
  refine gU fun k=>?_;rw[bE];by_cases h:k<n
  ·rw[cG h,aC (by rw[g.len];exact h)];exact congrArg some (yn (aC (by rw[g.len];exact h))).symm
  ·rw[df (by rw[g.len];omega),df (by rw[aS];omega)];rfl
 have h2:vY b cs=(aF n).countP fun k=>decide (((k % 2:Nat):Int)=b):=by
  unfold vY;rw[e,mU];refine List.countP_congr fun k hk=>?_;have hb:=g.box k (bN.mp hk);show decide ((cg cs k).box=b)=true ↔ _;rw[hb]
 rw[h2];by_cases n8:n<=8
 ·have:=List.countP_le_length (p:=fun k:Nat=>decide (((k % 2:Nat):Int)=b)) (l:=aF n);rw[aS] at this;omega
 ·have:n=9:=by omega
  subst this;by_cases b0:b=0
  ·subst b0;decide
  ·rw[List.range_succ_eq_map,List.countP_cons_of_neg (by rw[decide_eq_true_eq];show ¬(((0 % 2:Nat):Int)=b);omega)];have:=List.countP_le_length (p:=fun k:Nat=>decide (((k % 2:Nat):Int)=b)) (l:=(aF 8).map Nat.succ);rw[aE,aS] at this;omega
theorem ur{n:Nat}{cs:List Call72}(g:G78 n cs)(n9:n<=9):Calls72 2 cs:=⟨by rw[g.len];omega,zas g,QZ g n9⟩
theorem RZ{cs:List Call72}{n:Nat}(hh:∀k<n,(cg cs k).hand=(k:Int)):∀(m k:Nat),k+m=n->rq cs (iq k m)=true
 |0,_,_=>rfl
 |m+1,k,h=>by
  show rq cs (k::iq (k+1) m)=true;rw[UH,RZ hh m (k+1) (by omega),mx,cX,fT];intro j hj;have pO:=List.mem_range'_1.mp hj;have h1:=hh j (by omega);have h2:=hh k (by omega);unfold zS;simp only[h1,h2,aJ,decide_eq_true_eq,not_and]
  intro z;omega
theorem Ra{n:Nat}{es:List Int}(n16:n<=16)(he:∀e∈es,0<=e/\e<3):jh [0,0] (xn 2 es n) (aF n):=by
 have f:=jp (RY n16 he);have k:=RZ (cs:=xn 2 es n) (n:=n) (fun k h=>congrArg Call72.hand (xN h)) n 0 (by omega);rw[←iN] at k;exact⟨f.1,k,f.2.2⟩
noncomputable def Ys(cs:List Call72):List Call72:=cs.set (cs.length-1) { cg cs (cs.length-1) with hand:=(cg cs 0).hand,begun:=(cg cs 0).begun }
theorem jq{cs:List Call72}{k:Nat}(h:k<cs.length):cg (Ys cs) k=if k=cs.length-1 then{ cg cs (cs.length-1) with hand:=(cg cs 0).hand,begun:=(cg cs 0).begun } else cg cs k:=by
 unfold Ys cg;by_cases e:k=cs.length-1
 ·rw[if_pos e,e,yw (by omega)]
 ·rw[if_neg e,z7 (fun z=>e z.symm)]
theorem Xq{cs:List Call72}:(Ys cs).length=cs.length:=by unfold Ys;rw[cT]
theorem zat{n:Nat}{cs:List Call72}(g:G78 n cs)(n1:1<=n):G78 n (Ys cs):=by
 have e:cs.length-1=n-1:=by rw[g.len]
 have c:∀k<n,cg (Ys cs) k=if k=n-1 then{ cg cs (n-1) with hand:=(cg cs 0).hand,begun:=(cg cs 0).begun } else cg cs k:=fun k h=>by
  rw[jq (by rw[g.len];exact h),e]
 have h00:=g.h0 0 (by omega);have b00:=g.b0 0 (by omega);refine⟨by rw[Xq,g.len],fun k h=>?_,fun k h=>?_,fun k h=>?_,fun k h=>?_,fun k h=>?_,fun k h=>?_⟩ <;> rw[c k h] <;> by_cases z:k=n-1
 ·rw[if_pos z,z];exact g.box (n-1) (by omega)
 ·rw[if_neg z];exact g.box k h
 ·rw[if_pos z];exact g.deed (n-1) (by omega)
 ·rw[if_neg z];exact g.deed k h
 ·rw[if_pos z];exact h00
 ·rw[if_neg z];exact g.h0 k h
 ·rw[if_pos z];exact⟨b00.1,by have:=b00.2;dsimp only;omega⟩
 ·rw[if_neg z];exact g.b0 k h
 ·rw[if_pos z,z];exact g.e0 (n-1) (by omega)
 ·rw[if_neg z];exact g.e0 k h
 ·rw[if_pos z,z];exact g.an (n-1) (by omega)
 ·rw[if_neg z];exact g.an k h
theorem Rb{n:Nat}{cs:List Call72}(g:G78 n cs)(n2:2<=n):¬xB (Ys cs):=by
 intro o;have l:(Ys cs).length=n:=by rw[Xq,g.len]
 have c0:cg (Ys cs) 0=cg cs 0:=by rw[jq (by rw[g.len];omega),if_neg (by rw[g.len];omega)]
 have c1:cg (Ys cs) (n-1)={ cg cs (n-1) with hand:=(cg cs 0).hand,begun:=(cg cs 0).begun }:=by rw[jq (by rw[g.len];omega),g.len,if_pos rfl]
 have:=o 0 (n-1) (by omega) (by omega) (by rw[c0,c1]) (by rw[c0,c1]);omega
theorem sY{K:FG7}{m:List Addr}{H:Hp}{x:V}{d:PyData}(h:Od K m H x d):∀n:Nat,Ods K m H (cD n x) (cD n d)
 |0=>.nil
 |n+1=>.cons h (sY h n)
section
variable{X:Cx}{K:FG7}
theorem Rc{i k:Int}{n j1 j2:Nat}{x1}{p1 p2 p3 pos:Pos}(hK:X.K=K)(hk:k=(n:Int))(hn:n<=1000):PE X (.BinOp (.Tuple [.Constant (.int i) j1 p1] x1 p2) .Mult (.Constant (.int k) j2 p3) pos) (tOd K .t (.tuple (cD n (.int i)))):=fun nJ s σ H Q I ⟨m,_,_,q⟩ =>
 zR (V1 hK) (yz (za zg zb)) zg nJ s σ H Q I ⟨szl rfl,fun p hp=>⟨p,n,_,rfl,congrArg V.int hk,SqT.of zd,(fun z=>nomatch z),by (rw[cZ,Nat.one_mul];exact c7 (zI hn)),fun r H' g hs=>q _ _ ((Grow.new hp _).trans g) (.tup hs (by
  rw[List.flatten_replicate_singleton];exact sY (.int i) n))⟩⟩
end
noncomputable def Ww:List PyData:=[.none,.tuple [],.list [.int 0,.int 0],.tuple [.int 0,.bool true],.str "00",.tuple (cD 17 (.int 0)),.tuple [.tuple [.int 0,.int 0]],.int 7,.tuple [.int 0,.none],.dict []]
def jr(K:FG7):Sp:=fun vs H Q _=>vs=[]/\∃m:List Addr,(∀b∈m,H b≠none)/\∀l xs H',Grow [] H H'->H' l=some (.lst xs)->Ods K m H' xs Ww->Q (.ref l) H'
theorem ZD{K:FG7}:∀vs H Q E,jr K vs H Q E->vs.length=0:=by
 rintro _ _ _ _ ⟨rfl,_⟩;rfl
theorem Re:∀d∈Ww,yt d=false/\wA d<=1000:=by
 intro d hd;simp only[Ww,aK,fK,or_false] at hd;rcases hd with rfl|rfl|rfl|rfl|rfl|rfl|rfl|rfl|rfl|rfl <;> exact⟨rfl,by decide⟩
section
variable{X:Cx}{K:FG7}{R R':DR}{D D':List PyData}{e e1 e2:Expr}{pos p1 p2:Pos}{j:Nat}
theorem ju(hK:X.K=K)(h1:PE X e1 (tOd K R (.tuple D)))(h2:PE X e2 (tOd K R' (.tuple D')))(hl:D.length+D'.length<=1000):PE X (.BinOp e1 .Add e2 pos) (tOd K (.and R R') (.tuple (D++D'))):=fun nJ s σ H Q I ⟨m,⟨r1,r2⟩,b,q⟩ =>
 zR (wb hK) h1 h2 nJ s σ H Q I ⟨m,r1,b,fun x H1 g1 o1=>⟨m,R'.mono g1 r2,wJ g1 b,fun y H2 g2 o2=>by
  obtain⟨a,xs,rfl,sa,oa⟩:=(o1.grow (g2.wk (m:=m))).inv_tup;obtain⟨c,ys,rfl,sc,oc⟩:=o2.inv_tup;exact⟨a,c,xs,ys,rfl,rfl,sa,sc,by rw[oa.length,oc.length];exact c7 (zI hl),fun p H3 g3 s3=>q _ _ (g1.trans (g2.trans g3)) (.tup s3 ((oa.append oc).grow (g3.wk (m:=m))))⟩⟩⟩
theorem ut(hK:X.K=K)(h1:PE X e1 (tOd K .t (.tuple D)))(h2:PE X e2 (tOd K R' (.tuple D')))(hl:D.length+D'.length<=1000):PE X (.BinOp e1 .Add e2 pos) (tOd K R' (.tuple (D++D'))):=fun nJ s σ H Q I ⟨m,r2,b,q⟩ =>
 ju hK h1 h2 hl nJ s σ H Q I ⟨m,⟨trivial,r2⟩,b,q⟩
theorem wQ(hK:X.K=K)(h1:PE X e1 (tOd K R (.tuple D)))(h2:PE X e2 (tOd K .t (.tuple D')))(hl:D.length+D'.length<=1000):PE X (.BinOp e1 .Add e2 pos) (tOd K R (.tuple (D++D'))):=fun nJ s σ H Q I ⟨m,r2,b,q⟩ =>
 ju hK h1 h2 hl nJ s σ H Q I ⟨m,⟨r2,trivial⟩,b,q⟩
theorem uu{i:Int}(hK:X.K=K)(h:PE X e (tOd K R (.tuple D))):PE X (.Subscript e (.Slice (some (.Constant (.int i) j p1)) none none p2) pos) (tOd K R (.tuple (jF D (some i) none))):=fun nJ s σ H Q I ⟨m,r,b,q⟩ =>
 y6 (xJ hK) h (xt zg) xH nJ s σ H Q I ⟨m,r,b,fun x H1 g1 o1=>by
  obtain⟨a,xs,rfl,sa,oa⟩:=o1.inv_tup;exact⟨_,rfl,a,xs,rfl,sa,fun p H2 g2 s2=>q _ _ (g1.trans g2) (.tup s2 (oa.cut.grow (g2.wk (m:=m))))⟩⟩
theorem uQ{i:Int}(hK:X.K=K)(h:PE X e (tOd K R (.tuple D))):PE X (.Subscript e (.Slice none (some (.Constant (.int i) j p1)) none p2) pos) (tOd K R (.tuple (jF D none (some i)))):=fun nJ s σ H Q I ⟨m,r,b,q⟩ =>
 y6 (xJ hK) h xH (xt zg) nJ s σ H Q I ⟨m,r,b,fun x H1 g1 o1=>by
  obtain⟨a,xs,rfl,sa,oa⟩:=o1.inv_tup;exact⟨_,rfl,a,xs,rfl,sa,fun p H2 g2 s2=>q _ _ (g1.trans g2) (.tup s2 (oa.cut.grow (g2.wk (m:=m))))⟩⟩
theorem U2{k:Int}{n j2:Nat}{d:PyData}{x1}(hK:X.K=K)(h:PE X e (tOd K R d))(hs:bY [e] X.env=(false,eval e X.env)::bY [] X.env)(hk:k=(n:Int))(hn:n<=1000):PE X (.BinOp (.Tuple [e] x1 p1) .Mult (.Constant (.int k) j2 p2) pos) (tOd K R (.tuple (cD n d))):=fun nJ s σ H Q I ⟨m,r,b,q⟩ =>
 zR (V1 hK) (yz (za h zb hs)) zg nJ s σ H Q I ⟨m,r,b,fun x H1 g1 o1=>⟨szl rfl,fun p hp=>⟨p,n,_,rfl,congrArg V.int hk,SqT.of zd,(fun z=>nomatch z),by (rw[cZ,Nat.one_mul];exact c7 (zI hn)),fun r H' g hs=>q _ _ (g1.trans ((Grow.new hp _).trans g)) (.tup hs (by
  rw[List.flatten_replicate_singleton];exact sY ((o1.grow ((Grow.new hp _).wk (m:=m))).grow (g.wk (m:=m))) n))⟩⟩⟩
def zau(K:FG7):List V->Hp->VK->Prop:=fun xs H Q=>∃p ys,xs=[.ref p]/\(SqL K H p ys\/SqT K H p ys)/\∀l,H l=none->l≠sysModules->Q (.ref l) (upd H l (.lst ys))
theorem sZ{c:Expr}(hc:∀t:TA,PA X [e] t->PE X c (tCB (zau K) t))(h:PE X e (tOd K R (.tuple D)))(hs:bY [e] X.env=(false,eval e X.env)::bY [] X.env):PE X c (tOd K R (.list D)):=fun nJ s σ H Q I ⟨m,r,b,q⟩ =>
 hc _ (za h zb hs) nJ s σ H Q I ⟨m,r,b,fun x H1 g1 o=>by
  obtain⟨a,xs,rfl,sa,oa⟩:=o.inv_tup;refine⟨a,xs,rfl,.inr sa,fun l AM hn=>?_⟩;have g:=Grow.new (m:=[]) AM (.lst xs);exact q _ _ (g1.trans g) (.lst zd (Vv (wJ g1 b) AM) hn (oa.grow (g.wk (m:=m))))⟩
theorem xO{i:Int}{d:PyData}(n:Nat)(hK:X.K=K)(h:PE X e (tOd K R (.tuple D)))(hi:i=(n:Int))(hd:D[n]?=some d)(hs:W4 (.Constant (.int i) j p1)):PE X (.Subscript e (.Constant (.int i) j p1) pos) (tOd K R d):=fun nJ s σ H Q I ⟨m,r,b,q⟩ =>
 zU (wH hK) h zg hs nJ s σ H Q I ⟨m,r,b,fun x H1 g1 o1=>by
  obtain⟨a,xs,rfl,sa,oa⟩:=o1.inv_tup;obtain⟨v,hv,ov⟩:=oa.at hd;exact⟨a,xs,i,v,rfl,rfl,sa,by rw[hi];exact zH hv,q _ _ g1 ov⟩⟩
end
noncomputable def yM:List PyData:=[.int 0,.int 0,.tuple [.int 1,.none,.none],.int 0,.int 5,.int 0]
noncomputable def Xr:List PyData:=[.none,.list [.tuple yM],.tuple (cD 9 (.tuple yM)),.tuple [.tuple yM,.none],.tuple [.tuple ([.int 0,.int 2]++jF yM (some 2) none)],.tuple [.tuple (jF yM none (some 3)++[.int 6,.int 5,.int 0])]]
noncomputable def U3:List PyData:=[.tuple [.tuple (jF yM none (some 5))],.str "calls",.int 3,.tuple yM,.tuple [.tuple ([.int 16]++jF yM (some 1) none)],.tuple [.tuple ([.int 0,.int 0,.tuple [.int 1,.int 2,.int 2]]++jF yM (some 3) none)]]
noncomputable def R0:List PyData:=[.tuple [.tuple (jF yM none (some 3)++[.int (-1),.int 5,.int 0])],.tuple [.tuple (jF yM none (some 5)++[.bool true])],.tuple [.list yM],.dict [],.tuple [.tuple ([.int 0,.int (-1)]++jF yM (some 2) none)]]
noncomputable def zav:PyData:=.tuple ((aF 41).map fun k=>.tuple ([.int ((k:Int) % 16),.int 0]++jF yM (some 2) none))
noncomputable def U4:List PyData:=Xr++U3++R0++[zav]
theorem Rf:∀d∈U4,xk 2 d=false/\wA d<=1000/\GdD 10 5 910000 d:=by
 have key:(U4.all fun d=>!xk 2 d && (decide (wA d<=1000) && (leD (10 ^ 30+10) d && (decide (d.depth<=5) && decide (wtO d<=910000)))))=true:=by decide +kernel
 intro d hd;have h:=bR.mp key d hd;rw[aJ,aJ,aJ,aJ,decide_eq_true_eq,decide_eq_true_eq,decide_eq_true_eq,cX] at h;exact⟨h.1,h.2.1,⟨h.2.2.1,h.2.2.2.1,h.2.2.2.2⟩⟩
def Xs(K:FG7):Sp:=sp1 fun x H Q=>∃p,x=.ref p/\Pot H p/\∀v d H',d∈U4->Grow [p] H H'->Pot H' p->Od K [p] H' v d->Q v H'
noncomputable def zA(c n:Nat):List PyData:=(wT c n).map fun k:Nat=>bX (k:Int)
noncomputable def rG(n:Nat):List PyData:=[.none,.tuple [],.list [.tuple (zA 0 n),.tuple (zA 1 n)],.tuple ([.tuple (zA 0 n),.tuple (zA 1 n)]++[.tuple []]),.tuple (jF [.tuple (zA 0 n),.tuple (zA 1 n)] none (some 1)),.tuple [.tuple (zA 0 n),.none],.tuple [.tuple (zA 0 n),.list (zA 1 n)],.int 4,.str "",.dict []]
 ++ [.tuple [.tuple (zA 0 n),.tuple (zA 1 n++[.int 99])],.tuple [.tuple (zA 0 n++jF (zA 0 n) none (some 1)),.tuple (zA 1 n)],.tuple [.tuple [.bool true],.tuple (zA 1 n)],.tuple [.tuple (zA 0 n),.tuple [.int 98]]]
theorem U5{n:Nat}(hn:n=5\/n=9\/n=4\/n=6):(zA 1 n).length+[bX 99].length<=1000:=by rcases hn with rfl|rfl|rfl|rfl <;> decide
theorem U6{n:Nat}(hn:n=5\/n=9\/n=4\/n=6):(zA 0 n).length+(jF (zA 0 n) none (some 1)).length<=1000:=by rcases hn with rfl|rfl|rfl|rfl <;> decide
noncomputable def ZE(n:Nat):PyData->Bool
 |.int i=>decide (0<=i) && decide (i<n)
 |_=>false
noncomputable def wR(n:Nat):PyData->Bool
 |.tuple [.tuple a,.tuple b]=>decide (a.length=(n+1) / 2) && (decide (b.length=n / 2) && (a.all (ZE n) && b.all (ZE n)))
 |_=>false
theorem Rg{n:Nat}(hn:n=5\/n=9\/n=4\/n=6):∀d∈rG n,wR n d=false:=by
 have key:∀n:Nat,(rG n).all (fun d=>!wR n d)=true->∀d∈rG n,wR n d=false:=fun n h d hd=>by
  have:=bR.mp h d hd;rwa[cX] at this
 rcases hn with rfl|rfl|rfl|rfl <;> exact key _ (by decide)
def Xt(K:FG7):Sp:=sp1 fun x H Q=>∃(n:Nat) (m:List Addr),(n=5\/n=9\/n=4\/n=6)/\(∀b∈m,H b≠none)/\Od K m H x (.tuple [.tuple (zA 0 n),.tuple (zA 1 n)])/\∀l xs H',Grow [] H H'->H' l=some (.lst xs)->Ods K m H' xs (rG n)->Q (.ref l) H'
theorem U7{cs:List Call72}{n x:Nat}(g:G78 n cs)(hx:x<2)(n9:n<=9):(aF n).filter (xK cs x)=wT x n:=by
 have e:(aF n).filter (xK cs x)=(aF n).filter fun k=>decide (k % 2=x):=by
  refine List.filter_congr fun k hk=>?_;have:=g.box k (bN.mp hk);show decide ((cg cs k).box=(x:Int))=_;rw[this];by_cases c:k % 2=x
  ·rw[decide_eq_true c,decide_eq_true (by omega)]
  ·rw[decide_eq_false c,decide_eq_false (by omega)]
 rw[e];have key:∀n<10,∀x<2,(aF n).filter (fun k=>decide (k % 2=x))=wT x n:=by decide
 exact key n (by omega) x hx
theorem Xu{n:Nat}{cs:List Call72}(g:G78 n cs)(n9:n<=9):ul [0,0] cs [wT 0 n,wT 1 n]:=by
 refine⟨rfl,fun x hx=>?_⟩;have DC:x<2:=hx;have:=Zl (b:=[0,0]) (x:=x) (ur g n9) (jp g) hx;rw[U7 g DC n9] at this;match x,DC with
 |0,_=>exact this
 |1,_=>exact this
theorem U8{n:Nat}{cs:List Call72}{d:PyData}(g:G78 n cs)(n9:n<=9)(h:wR n d=false):¬vG [0,0] cs d:=by
 rintro⟨os,rfl,hl,hr⟩;match os,hl with
 |[o1,o2],_ =>
  have R:=Xu g n9;have p1:o1.Perm (vm cs 0):=(hr 0 (by decide)).1;have p2:o2.Perm (vm cs 1):=(hr 1 (by decide)).1;have q1:(wT 0 n).Perm (vm cs 0):=(R.2 0 (by decide)).1;have q2:(wT 1 n).Perm (vm cs 1):=(R.2 1 (by decide)).1;have key:wR n (wP [o1,o2])=true:=by
   show(decide ((o1.map fun k:Nat=>bX (k:Int)).length=(n+1) / 2) && (decide ((o2.map fun k:Nat=>bX (k:Int)).length=n / 2) && ((o1.map fun k:Nat=>bX (k:Int)).all (ZE n) && (o2.map fun k:Nat=>bX (k:Int)).all (ZE n))))=true;have l1:o1.length=(n+1) / 2:=by rw[p1.length_eq,←q1.length_eq];unfold wT;rw[aE,aS];rfl
   have l2:o2.length=n / 2:=by rw[p2.length_eq,←q2.length_eq];unfold wT;rw[aE,aS];rfl
   have al:∀(o:List Nat) (x:Nat),o.Perm (vm cs x)->(o.map fun k:Nat=>bX (k:Int)).all (ZE n)=true:=fun o x p=>by
    rw[bR];intro z hz;obtain⟨k,hk,rfl⟩:=bI.mp hz;have:=(y9.mp (p.mem_iff.mp hk)).1;rw[g.len] at this;show(decide ((0:Int)<=(k:Int)) && decide ((k:Int)<n))=true;rw[decide_eq_true (by omega),decide_eq_true (by omega)];rfl
   rw[aE,aE,decide_eq_true l1,decide_eq_true l2,al o1 0 p1,al o2 1 p2];rfl
  rw[key] at h;cases h
def PEs(X:Cx)(σ:L2.St)(e:Expr)(t:TE):Prop:=∀(nJ:List (Addr×Obj)) (s:Shared) (H:Hp) (Q:VK),Inv X nJ σ H s->t σ H Q->wpAny (model X.prog X.w) X.A (eval e X.env) (EP X nJ σ Q) X.xe s
def PSS(X:Cx)(σ:L2.St)(st:Stmt)(t:TS):Prop:=∀(nJ:List (Addr×Obj)) (s:Shared) (H:Hp) (D:Ends),Inv X nJ σ H s->t D σ H->wpAny (model X.prog X.w) X.A (exec st X.env) (SP X nJ D) X.xe s
def zaJ(X:Cx)(σ:L2.St)(st:List Stmt)(t:TS):Prop:=∀(nJ:List (Addr×Obj)) (s:Shared) (H:Hp) (D:Ends),Inv X nJ σ H s->t D σ H->wpAny (model X.prog X.w) X.A (execs st X.env) (SP X nJ D) X.xe s
def Yt(CX:CXT)(X:Cx)(σ:L2.St)(E:XK):Prop:=∀(nJ:List (Addr×Obj)) (H:Hp) (s:Shared) (e:Value) (s':Shared),Inv X nJ σ H s->CX X.stack H s E e s'->X.xe e s'
def U9(X:Cx)(ps:List (Addr×Obj))(σ:L2.St)(E:XK):VS7:=fun e s'=>∃(a T C:Addr) (H:Hp),e=.ref a/\Inv X ps σ H s'/\Trc s'.heap a T (.ref C)/\ApX X ps H a T/\E e (some C) H
theorem xX{X:Cx}{ps:List (Addr×Obj)}{σ:L2.St}{E:XK}(hx:X.ex=[]):Yt (CX1 X.prog X.w) (pinX X ps (U9 X ps σ E)) σ E:=by
 intro nJ H s ex s' I hc;obtain⟨a,T0,C,H',rfl,os,bare,un,hok,trc,e0,t0,ne,nt,q⟩:=hc;have I0:Inv X ps σ H s:=Inv.unpin I;have I1:Inv X ps σ H' s':=I0.call' (ch:=[]) os un hok bare (fun b z=>absurd z (by simp));exact⟨a,T0,C,H',rfl,I1,trc,ApX.of I0 hx ne nt e0 t0,q⟩
section
variable{X:Cx}{CX:CXT}{k:Nat}{f C:Addr}{fd:FuncData}{ps:List Str}{sp:Sp}{Bu:List V}{ds:List Value}{E:XK}{x m:Str}{p pos oW:Pos}{e o:Expr}{es:List Expr}{ta:TE}{t:TA}{σ:L2.St}
theorem Q0{nJ:List (Addr×Obj)}{H:Hp}{s:Shared}{Q:VK}{us:List Value}{vs:List V}(F:FnOk X.prog X.w X.K X.mg X.base CX k f fd ps sp)(hr:Room k X.A)(hb:tV X.K fd ps ds)(hd:zP Bu ds)(hx:Yt CX X σ E)
  (I:Inv X nJ σ H s) (r:zP vs us) (h:sp (vs++Bu) H Q E):wpAny (model X.prog X.w) X.A (call (.ref f) us) (EP X nJ σ Q) X.xe s:=by
 have r2:zP (vs++Bu) (us++ds):=r.append hd;have hl:(us++ds).length=ps.length:=by rw[←r2.length];exact F.len _ _ _ _ h
 refine nA (ix (F.run X.A X.stack s H ⟨us,[]⟩ (us++ds) (vs++Bu) Q E hr I.env0 (hb s us I.kIn hl) r2 h) fun r s' hq=>?_);cases r with
 |error e=>exact hx nJ H s e s' I hq
 |ok fl =>
  cases fl with
  |ret u=>exact I.after hq
  |next=>exact False.elim hq
  |brk=>exact False.elim hq
  |cont=>exact False.elim hq
theorem xY(c:zF X.prog X.w X.K X.mg X.base k x ps sp)(hx:Yt (CX1 X.prog X.w) X σ E)(hr:Room k X.A)(hg:Gl X x)
  (ha:PA X (e::es) t) (As:(x == ("__debug__":Str))=false:=by decide) (he:bY (e::es) X.env=(false,eval e X.env)::bY es X.env:=by rfl) (Bp:(lg pos (bY es X.env)).any (·.1)=false:=by rfl) :
  PEs X σ (.Call (.Name x p) (e::es) [] pos) (ZW sp [] E t):=by
 obtain⟨f,fd,F,hb,hk,hm⟩:=c;intro nJ s H Q I h;refine dS (vo I hg hm ?_ As);refine lP (h₀:=X.base) I.ok.mod.kin hk (thn (ha pos nJ s σ H _ I h) fun us s1 ⟨vs,H1,I1,r,q⟩=>⟨I1.kIn,?_⟩) he Bp;exact Q0 F hr hb .nil hx I1 r q
end
section
variable{X:Cx}{st:Stmt}{nV:List Stmt}{t u:TS}{σ:L2.St}{pos:Pos}{e:Expr}{te:TE}
theorem yU(h1:PSS X σ st t):zaJ X σ [st] t:=by
 intro nJ s H D I h;refine mF (thn (h1 nJ s H D I h) fun f s1 q=>?_);cases f with
 |next=>exact iD q
 |ret v=>exact q
 |brk=>exact q
 |cont=>exact q
theorem ZF{c:Expr}{a b:List Stmt}{tc:TT}(hc:PT X c tc)(ha:zaJ X σ a t)(hb:zaJ X σ b u):PSS X σ (.If c a b pos) (zaR tc t u):=by
 intro nJ s H D I h;refine wpAny_If (thn (hc nJ s σ H _ I h) fun d s1 ⟨H1,I1,q1⟩=>?_);cases d with
 |true=>exact ha nJ s1 H1 D I1 q1
 |false=>exact hb nJ s1 H1 D I1 q1
theorem uR{i:Nat}{x:Str}{pc:Pos}(hN:X.N.Nodup)(hi:X.N[i]?=some x)(hx:Loc X.env.scope x)(he:PEs X σ e te)(hs:mG e (some (.Name x pc)) pos.line X.env=pure false:=by rfl)(hf:X.fn x=true\/X.env.scope.names.lookup x=some .local :=by first|exact .inl rfl|exact .inr rfl|assumption) :
  PSS X σ (.Assign [.Name x pc] e pos) (Jo te (ww i)):=by
 intro nJ s H D I h;refine wpAny_Assign_Name (thn (he nJ s H _ I h) fun v s1 ⟨y,H1,I1,r1,q1⟩=>?_) hs;exact vO I1 hN hi hx r1 (fun s2 I2=>⟨_,H1,I2,q1⟩) hf
end
def zbC(i:Nat)(K:FG7)(B:Addr)(E:XK)(tb:TS)(th:Addr->TS):TS:=fun D σ H=>tb D σ H/\∀(e C':Addr) (H':Hp),H' e=none->E (.ref e) (some C') H'->mroIn K C' (.ref B)=some true/\th e (RJ i D) (σ.set i (some (.ref e))) (upd H' e (ExO e C'))
section
variable{X:Cx}{x y:Str}{C:Addr}{np D7 pos:Pos}{body DI:List Stmt}{b₀:Stmt}{tb:TS}{th:Addr->TS}{E:XK}{i:Nat}{K:FG7}
theorem Q3(hK:X.K=K)(hx:X.ex=[])(Ed:X.stack=X.env::X.outer)(hf:X.env.frame=some X.env.locals)(O:vn X.K X.mg x C)(hg:Gl X x)(hN:X.N.Nodup)(hi:X.N[i]?=some y)(hy:X.env.kindOf y=some .local)(EJ:X.env.scope.names.lookup y=some .local)
  (hB:∀ps σ,zaJ (pinX X ps (U9 X ps σ E)) σ body tb) (hS:∀e,PSs (handX X e) (b₀::DI) (th e)) (As:(x == ("__debug__":Str))=false:=by decide) :
  PS X (.Try body [.ExceptHandler (some (.Name x np)) (some y) (b₀::DI) D7] [] [] pos) (zbC i K C E tb th):=by
 subst hK;intro nJ s σ H D I ⟨hb,hh⟩;refine wpAny_Try_except (eM (hB nJ σ [] s H D (Inv.pinX I) hb) (fun f s1 h1=>?_) (fun ex s1 h1=>?_))
 ·have h2:=SP.unpin h1;cases f with
  |next=>exact iD h2
  |brk=>exact h2
  |cont=>exact h2
  |ret u=>exact h2
 ·obtain⟨a,T,C',H',rfl,I1,trc,ap,q⟩:=h1;have BW:X.A.frames=some (X.env::X.outer):=by rw[←Ed];exact I.ok.frames
  have AL:s1.heap.FunFrames X.base (X.env::X.outer):=by rw[←Ed];exact I1.stack
  refine VW (base:=X.base) (outer:=X.outer) BW AL hf trc fun h2 T2 l=>?_;have l':Lft (frs X.stack) a T T2 (.ref C') s1.heap h2:=by rw[Ed];exact l
  have I2:=Inv.left I1 hx ap l';have I3:Inv (handX X a) nJ σ H' { s1 with heap:=h2 }:=Inv.handX I2;obtain⟨tl,N,nm,q0,bs,hdct,sn,sub,ab,col,dd,k0,k1,k2,k3,k5,mN,hC,hNs,D4,TL⟩:=(O X.base I.mod.kin).obj;obtain⟨oe,vs,oT,ts,he,pQ,_⟩:=id l.trc;have hn:H' a=none:=ap.ha;obtain⟨HP,q2⟩:=hh a C' H' hn q;refine wpAny_handleBy_cons (codeAny_handlers_test (vo (X:=handX X a) I3 hg (O X.base I.mod.kin).bound ?_ As)) (by intro q;cases q);refine ja I2.kIn (I2.bk _ _ hC) he pQ (TL.hasType PySem.F.excBase_ValueError.hasBase) HP (codeAny_handlers_suite_as ?_);refine X2 (s:={ s1 with heap:=h2 }) l.trc fun h3 hk Iv=>?_;have Ca:H' T2=none:=by
   cases r:H' T2 with
   |none=>rfl
   |some o =>
    obtain⟨ob,z⟩:=zT.at (I1.hok T2 o r)
    rw[l.new] at z;cases z
  have ap2:ApX X nJ H' T2 T2:=ApX.of I1 hx l.new l.new Ca Ca;have I4:=Inv.leftK I2 hx ap2 (h2:=h3) (fun b o _ n1 _ ho=>(hk b n1).trans ho) (fun b o _ n1 _ ho=>⟨o.slots,(hk b n1).trans ho⟩);obtain⟨oe3,vs3,oT3,ts3,Fj,Fz,Ee,_,_,_,_,_,hv3⟩:=id Iv;have I5:=Inv.trackX (C:=C') I4 ap Fj Fz Ee hv3;have I6:L2.Inv (handX X a) nJ σ (upd H' a (ExO a C')) { s1 with heap:=h3 }:=Inv.handX I5;refine vO (X:=handX X a) (v:=.ref a) I6 hN hi (.inl EJ) rfl (fun s5 I7=>?_) (.inr EJ);refine eM (hS a nJ s5 _ _ (RJ i D) I7 q2) (fun f s2 h=>?_) (fun _ _ z=>False.elim z);cases f with
  |next =>
   obtain⟨σ2,H2,J,q3⟩:=h;exact ua (Inv.unhand I.ok J) hN hi hy EJ fun s' J'=>⟨_,H2,J',q3⟩
  |brk =>
   obtain⟨σ2,H2,J,q3⟩:=h;exact ua (Inv.unhand I.ok J) hN hi hy EJ fun s' J'=>⟨_,H2,J',q3⟩
  |cont =>
   obtain⟨σ2,H2,J,q3⟩:=h;exact ua (Inv.unhand I.ok J) hN hi hy EJ fun s' J'=>⟨_,H2,J',q3⟩
  |ret u =>
   obtain⟨v,σ2,H2,J,r,q3⟩:=h;exact ua (Inv.unhand I.ok J) hN hi hy EJ fun s' J'=>⟨v,_,H2,J',r,q3⟩
end
theorem jv{st r:TS}{D:Ends}{σ:L2.St}{H:Hp}(Good:L2.St->Hp->Prop)(hc:∀D':Ends,(∀σ' H',Good σ' H'->D'.nx σ' H')->st D' σ H)(hr:∀σ' H',Good σ' H'->r D σ' H'):zaA st r D σ H:=hc _ hr
theorem Xv:∀{a b:Option Int},oD a=oD b->a=b
 |none,none,_=>rfl
 |some a,some b,h=>by injection h with h;rw[h]
theorem Yu{a b:Call72}(h:yu a=yu b):a=b:=by
 obtain⟨a1,a2,⟨a3,a4,a5⟩,a6,a7,a8⟩:=a;obtain⟨b1,b2,⟨b3,b4,b5⟩,b6,b7,b8⟩:=b;have h':[bX a1,.int a2,.tuple [.int a3,oD a4,oD a5],.int a6,.int a7,.int a8]=[bX b1,.int b2,.tuple [.int b3,oD b4,oD b5],.int b6,.int b7,.int b8]:=by injection h
 simp only[List.cons.injEq,PyData.int.injEq,PyData.tuple.injEq,and_true] at h';obtain⟨rfl,rfl,⟨rfl,h4,h5⟩,rfl,rfl,rfl⟩:=h';rw[Xv h4,Xv h5]
theorem Yv{a b:List Call72}(h:kL (a.map yu)=.tuple (b.map yu)):a=b:=by
 injection h with h
 exact(ko fun _ _=>Yu).mp h
theorem Wx{a b:List Int}(h:kL (a.map bX)=.tuple (b.map bX)):a=b:=by
 injection h with h
 exact(ko fun _ _ e=>by injection e).mp h
def wj(n:Nat):PyData:=.tuple ((aF n).map fun k:Nat=>bX (k:Int))
def Xw(db dc dr:PyData)(n:Nat):PyData:=.tuple [db,dc,dr,wj n]
theorem GdD.shows78w{n k w:Nat}{d:PyData}(h:GdD n k w d)(hn:n<=1000000)(hk:k<=60)(hw:w<=16000000):d.showable=true/\d.depth<=60/\d.shown.length<=sizeLine:=by
 have s:=showable_le (zbo hn) h.le;refine⟨s,cH h.dp hk,?_⟩;have:=shown_le s;have:=h.wt;have:(16000000:Nat)<=sizeLine:=by decide
 omega
structure Tr78(K:FG7)(m:List Addr)(H:Hp)(x y z u:V)(db dc dr:PyData)(n:Nat)(al t0 t1 t2:Bool):Prop where
 ob:Od K m H x db
 oc:Od K m H y dc
 od:Od K m H z dr
 ou:yX K H u (aF n)
 lb:wA db<=1000
 lc:wA dc<=1000
 fl:RV dr
 n4:4<=n
 n9:n<=9
 gb:GdD 10 6 910000 db
 gc:GdD 10 6 910000 dc
 gr:GdD 10 6 910000 dr
 e0:yt db=t0
 e1:t0=true->xk (wA db) dc=t1
 gd:t0=true->t1=true->∃cs,db=.tuple [.int 0,.int 0]/\dc=.tuple (cs.map yu)/\G78 n cs/\(al=false->xB cs/\jh [0,0] cs (aF n))/\(al=true->¬xB cs)/\(t2=true->dr=wP [wT 0 n,wT 1 n])/\(t2=false->wR n dr=false)
section
variable{K:FG7}{m:List Addr}{H H':Hp}{x y z u:V}{db dc dr:PyData}{n:Nat}{al t0 t1 t2:Bool}
theorem Tr78.grow(h:Tr78 K m H x y z u db dc dr n al t0 t1 t2)(g:Grow [] H H'):Tr78 K m H' x y z u db dc dr n al t0 t1 t2 :=
 ⟨h.ob.grow (g.wk (m:=m)),h.oc.grow (g.wk (m:=m)),h.od.grow (g.wk (m:=m)),yX.grow h.ou g,h.lb,h.lc,h.fl,h.n4,h.n9,h.gb,h.gc,h.gr,h.e0,h.e1,h.gd⟩
theorem Tr78.shows(h:Tr78 K m H x y z u db dc dr n al t0 t1 t2):(Xw db dc dr n).showable=true/\(Xw db dc dr n).depth<=60/\(Xw db dc dr n).shown.length<=sizeLine:=by
 have gn:GdD 10 6 910000 (wj n):=by
  have key:∀n<10,(leD (10 ^ 30+10) (wj n) && (decide ((wj n).depth<=6) && decide (wtO (wj n)<=910000)))=true:=by decide +kernel
  have k:=key n (by have:=h.n9;omega);rw[aJ,aJ,decide_eq_true_eq,decide_eq_true_eq] at k;exact⟨k.1,k.2.1,k.2.2⟩
 exact GdD.shows78w (h.gb.one.append (h.gc.one.append (h.gr.one.append gn.one))).tup (by decide) (by decide) (by decide)
theorem Tr78.show(h:Tr78 K m H x y z u db dc dr n al t0 t1 t2){t:Addr}(ht:SqT K H t [x,y,z,u]):Od K m H (.ref t) (Xw db dc dr n):=by
 obtain⟨r,rfl,hr⟩:=h.ou;exact .tup ht (.cons h.ob (.cons h.oc (.cons h.od (.cons (wK hr) .nil))))
theorem Tr78.shown(h:Tr78 K m H x y z u db dc dr n al t0 t1 t2):∃D:PyData,D.showable=true/\D.depth<=60/\D.shown.length<=sizeLine/\∀H' t,Grow [] H H'->SqT K H' t [x,y,z,u]->Od K m H' (.ref t) D :=
 ⟨_,h.shows.1,h.shows.2.1,h.shows.2.2,fun _ _ g ht=>(h.grow g).show ht⟩
theorem Tr78.good(h:Tr78 K m H x y z u db dc dr n al t0 t1 t2){H1:Hp}{b:List Int}{cs:List Call72}(g:Zy K H1 x y db dc b cs):t0=true/\t1=true/\b=[0,0]/\G78 n cs/\(al=false->xB cs/\jh [0,0] cs (aF n))/\(al=true->¬xB cs)/\(t2=true->dr=wP [wT 0 n,wT 1 n])/\(t2=false->wR n dr=false):=by
 obtain⟨_,_,_,_,_,_,ec,eb,h1,h2⟩:=g;have z0:t0=true:=h.e0.symm.trans h1;have z1:t1=true:=(h.e1 z0).symm.trans h2;obtain⟨cs',e1,e2,r⟩:=h.gd z0 z1;have:=Yv (ec.symm.trans e2);subst this;exact⟨z0,z1,Wx (eb.symm.trans e1),r⟩
end
def Xx(K:FG7)(H:Hp)(ch:Int)(n:Nat)(g:Bool)(v:V):Prop:=((ch=0\/ch=3)/\v=.bl true)\/(ch=5/\v=.bl g)\/((ch=1\/ch=2\/ch=4)/\∃ns:List Nat,yX K H v ns/\ns.Perm (aF n))
def Wy(K:FG7)(H:Hp)(ch:Int)(n:Nat)(al t0 t1 t2:Bool)(v:V):Prop:=(xi ch t0 t1 t2 n al=[]/\Xx K H ch n t1 v)\/∃(i:Int) (l:Addr),xi ch t0 t1 t2 n al=[.int i]/\v=.ref l/\H l=some (.lst [.int i])
theorem Xx.grow{K:FG7}{H H':Hp}{ch:Int}{n:Nat}{g:Bool}{v:V}(h:Xx K H ch n g v)(gg:Grow [] H H'):Xx K H' ch n g v:=by
 rcases h with h|h|⟨h,ns,h1,h2⟩
 ·exact .inl h
 ·exact .inr (.inl h)
 ·exact .inr (.inr ⟨h,ns,yX.grow h1 gg,h2⟩)
theorem Wy.grow{K:FG7}{H H':Hp}{ch:Int}{n:Nat}{al t0 t1 t2:Bool}{v:V}(h:Wy K H ch n al t0 t1 t2 v)(gg:Grow [] H H'):Wy K H' ch n al t0 t1 t2 v:=by
 rcases h with ⟨h1,h2⟩|⟨i,l,h1,h2,h3⟩
 ·exact .inl ⟨h1,h2.grow gg⟩
 ·exact .inr ⟨i,l,h1,h2,gg.keep _ _ (by simp) h3⟩
def qF(K:FG7):Sp:=sp5 fun c x y z u H Q=>∃(ch:Int) (n:Nat) (al t0 t1 t2:Bool) (db dc dr:PyData) (m:List Addr),c=.int ch/\0<=ch/\ch<=5/\Tr78 K m H x y z u db dc dr n al t0 t1 t2/\∀v H',Grow [] H H'->Wy K H' ch n al t0 t1 t2 v->Q v H'
theorem re{ch:Int}{n:Nat}{al t1 t2:Bool}:xi ch false t1 t2 n al=[.int 0]:=by simp[xi]
theorem Yw{ch:Int}{n:Nat}{al t2:Bool}(h:ch≠5):xi ch true false t2 n al=[.int 2]:=by simp[xi,h]
theorem Xy{ch:Int}{n:Nat}{t2:Bool}(h:ch=0\/ch=1):∀al,xi ch true true t2 n al=[]:=by
 intro al;rcases h with rfl|rfl <;> simp[xi]
theorem qG{n:Nat}{t2:Bool}:∀al,xi 2 true true t2 n al=if t2=false then[.int 3] else[]:=by
 intro al;cases t2 <;> simp[xi]
theorem Ta{ch:Int}{n:Nat}{t2:Bool}(h:ch=3\/ch=4):xi ch true true t2 n true=[.int 2]:=by
 rcases h with rfl|rfl <;> simp[xi]
theorem Tb{n:Nat}{t2:Bool}:xi 3 true true t2 n false=[]:=by simp[xi]
theorem qH{n:Nat}{t2:Bool}:xi 4 true true t2 n false=if 8<n then[.int 1] else[]:=by
 by_cases c:8<n
 ·have:(8:Int)<n:=by omega
  simp[xi,c,this]
 ·have:¬(8:Int)<n:=by omega
  simp[xi,c,this]
theorem Tc{n:Nat}{t1 t2 al:Bool}:xi 5 true t1 t2 n al=[]:=by simp[xi]
def Jf(cs:List Addr)(ch:Int)(n:Nat)(al t0 t1 t2:Bool)(C:Option Addr):Prop:=∃i:Nat,cs[i]?=C/\i<4/\xi ch t0 t1 t2 n al=[.int (i:Int)]
theorem xx{A0 A1 A2 A3:Addr}{cs:List Addr}{K:FG7}{m:List Addr}{H H0:Hp}{x y z u:V}{db dc dr:PyData}{n:Nat}{al t0 t1 t2:Bool}{ch:Int}(h:Tr78 K m H x y z u db dc dr n al t0 t1 t2)(c5:ch≠5)(g0:Grow [] H0 H) :
  Zx A0 A2 db dc H (fun _ C H'=>Jf (A0::A1::A2::A3::cs) ch n al t0 t1 t2 C/\Grow [] H0 H'):=by
 refine⟨fun hb e H' g=>⟨⟨0,rfl,by decide,?_⟩,g0.trans g⟩,fun hb hc e H' g=>⟨⟨2,rfl,by decide,?_⟩,g0.trans g⟩⟩
 ·have:t0=false:=h.e0.symm.trans hb;rw[this];exact re
 ·have e0:t0=true:=h.e0.symm.trans hb;have e1:t1=false:=(h.e1 e0).symm.trans hc;rw[e0,e1];exact Yw c5
section
variable{K:FG7}{m:List Addr}{H H1 H':Hp}{x y z u:V}{db dc dr:PyData}{n:Nat}{al t0 t1 t2:Bool}{b:List Int}{cs:List Call72}
theorem Yx{bb:Bool}(T:Tr78 K m H x y z u db dc dr n al t0 t1 t2)(gd:Zy K H1 x y db dc b cs)(hb:bb=true ↔ qC b cs (aF cs.length) (wj n)):Wy K H' 0 n al t0 t1 t2 (.bl bb):=by
 obtain⟨rfl,rfl,rfl,g,_⟩:=T.good gd;obtain⟨f1,f2,f3⟩:=jp g;have:bb=true:=hb.mpr ⟨aF n,⟨rfl,f1⟩,f2,f3⟩;rw[this];exact .inl ⟨Xy (.inl rfl) al,.inl ⟨.inl rfl,rfl⟩⟩
theorem Wz{v:V}(T:Tr78 K m H x y z u db dc dr n al t0 t1 t2)(gd:Zy K H1 x y db dc b cs)(so:(tE cs b).isSome=true->xL cs)(hv:xE K H' v (tE cs b)):Wy K H' 1 n al t0 t1 t2 v:=by
 obtain⟨rfl,rfl,rfl,g,_⟩:=T.good gd;refine .inl ⟨Xy (.inr rfl) al,.inr (.inr ⟨.inl rfl,?_⟩)⟩;have C:Calls72 ([0,0]:List Int).length cs:=ur g T.n9;cases e:tE cs [0,0] with
 |none=>exact absurd ⟨_,jp g⟩ (X9 C e)
 |some ns =>
  rw[e] at hv;have f:=Wa C (so (by rw[e];rfl)) e;exact⟨ns,hv,by rw[←g.len];exact f.1⟩
theorem Yy{v:V}{os:List (List Nat)}(T:Tr78 K m H x y z u db dc dr n al t0 t1 t2)(gd:Zy K H1 x y db dc b cs)(e:dr=wP os)(ho:ul b cs os)(so:xL cs)(hv:yX K H' v (y4 cs (wz cs) os)):Wy K H' 2 n al t0 t1 t2 v:=by
 obtain⟨rfl,rfl,rfl,g,_,_,_,h2⟩:=T.good gd;have:t2=true:=by
  cases c:t2 with
  |true=>rfl
  |false=>exact absurd ⟨os,e,ho⟩ (U8 g T.n9 (h2 c))
 subst this;have f:=(Yp (b:=[0,0]) (ur g T.n9) so ho).1;exact .inl ⟨qG al,.inr (.inr ⟨.inr (.inl rfl),_,hv,by rw[←g.len];exact f.1⟩)⟩
theorem Td{A0 A1 A2 A3:Addr}{as:List Addr}(T:Tr78 K m H x y z u db dc dr n al t0 t1 t2)(gd:Zy K H1 x y db dc b cs)(hn:¬vG b cs dr):Jf (A0::A1::A2::A3::as) 2 n al t0 t1 t2 (some A3):=by
 obtain⟨rfl,rfl,rfl,g,_,_,h1,_⟩:=T.good gd;have:t2=false:=by
  cases c:t2 with
  |false=>rfl
  |true=>exact absurd ⟨_,h1 c,Xu g T.n9⟩ hn
 subst this;exact⟨3,rfl,by decide,qG al⟩
theorem Xz{A0 A1 A2 A3:Addr}{as:List Addr}{ch:Int}(hc:ch=3\/ch=4)(T:Tr78 K m H x y z u db dc dr n al t0 t1 t2)(gd:Zy K H1 x y db dc b cs)(hn:¬xB cs):Jf (A0::A1::A2::A3::as) ch n al t0 t1 t2 (some A2):=by
 obtain⟨rfl,rfl,rfl,g,h1,_⟩:=T.good gd;have:al=true:=by
  cases c:al with
  |true=>rfl
  |false=>exact absurd (h1 c).1 hn
 subst this;exact⟨2,rfl,by decide,Ta hc⟩
theorem rf(T:Tr78 K m H x y z u db dc dr n al t0 t1 t2)(gd:Zy K H1 x y db dc b cs)(ow:xB cs):al=false/\jh [0,0] cs (aF n):=by
 obtain⟨rfl,rfl,rfl,g,h1,h2,_⟩:=T.good gd;cases c:al with
 |true=>exact absurd ow (h2 c)
 |false=>exact⟨rfl,(h1 c).2⟩
theorem ZG{t:Bool}(T:Tr78 K m H x y z u db dc dr n al t0 t1 t2)(gd:Zy K H1 x y db dc b cs)(ow:xB cs)(ht:t=true ↔ Ux b cs (wj n)):Wy K H' 3 n al t0 t1 t2 (.bl t):=by
 obtain⟨rfl,s⟩:=rf T gd ow;obtain⟨rfl,rfl,rfl,g,_⟩:=T.good gd;have:t=true:=ht.mpr ⟨aF n,⟨rfl,s.1⟩,s.2.1,s.2.2⟩;rw[this];exact .inl ⟨Tb,.inl ⟨.inr rfl,rfl⟩⟩
theorem Yz{v:V}(T:Tr78 K m H x y z u db dc dr n al t0 t1 t2)(gd:Zy K H1 x y db dc b cs)(ow:xB cs)(c8:cs.length<=8)(hv:xE K H' v (qu cs b)):Wy K H' 4 n al t0 t1 t2 v:=by
 obtain⟨rfl,s⟩:=rf T gd ow;obtain⟨rfl,rfl,rfl,g,_⟩:=T.good gd;obtain⟨o,e,so⟩:=UI ⟨_,s⟩;rw[e] at hv;exact .inl ⟨by rw[qH,if_neg (by rw[g.len] at c8;omega)],.inr (.inr ⟨.inr (.inr rfl),o,hv,by rw[←g.len];exact so.1⟩)⟩
theorem Te{A0 A1 A2 A3:Addr}{as:List Addr}(T:Tr78 K m H x y z u db dc dr n al t0 t1 t2)(gd:Zy K H1 x y db dc b cs)(ow:xB cs)(c8:¬cs.length<=8):Jf (A0::A1::A2::A3::as) 4 n al t0 t1 t2 (some A1):=by
 obtain⟨rfl,s⟩:=rf T gd ow;obtain⟨rfl,rfl,rfl,g,_⟩:=T.good gd;exact⟨1,rfl,by decide,by rw[qH,if_pos (by rw[g.len] at c8;omega)];rfl⟩
theorem WA(T:Tr78 K m H x y z u db dc dr n al t0 t1 t2)(h:yt db=true):Wy K H' 5 n al t0 t1 t2 (.bl (xk (wA db) dc)):=by
 have e0:t0=true:=T.e0.symm.trans h;have e1:=T.e1 e0;subst e0;exact .inl ⟨Tc,.inr (.inl ⟨rfl,by rw[e1]⟩)⟩
theorem Rh{A0:Addr}{as:List Addr}(T:Tr78 K m H x y z u db dc dr n al t0 t1 t2)(h:¬yt db=true):Jf (A0::as) 5 n al t0 t1 t2 (some A0):=by
 have e0:t0=false:=by rw[←T.e0];simpa using h
 subst e0;exact⟨0,rfl,by decide,re⟩
end
theorem rg{c n:Nat}(hc:c<=1)(n9:n<=9):vw (wT c n) (zC (aF n))=zC (wT c n):=by
 have key:∀n<10,∀c<2,(wT c n).all (fun k=>decide (k<n))=true:=by decide
 have h:=key n (by omega) c (by omega);rw[bR] at h;unfold vw;have h2:∀l:List Nat,(∀k∈l,k<n)->l.filterMap (fun i=>(zC (aF n))[i]?)=zC l:=by
  intro l;induction l with
  |nil=>exact fun _=>rfl
  |cons a l ih =>
   intro hl;have ha:=hl a (bM ..);rw[ke (b:=V.int (a:Int)) (by unfold zC;rw[bE,cG ha];rfl),ih fun k hk=>hl k (aX _ hk)];rfl
 exact h2 _ fun k hk=>of_decide_eq_true (h k hk)
theorem Q4{cs:List Call72}(h:1<=cs.length):Ys cs=cs.take (cs.length-1)++[{ cg cs (cs.length-1) with hand:=(cg cs 0).hand,begun:=(cg cs 0).begun }]:=by
 unfold Ys;refine gU fun i=>?_;by_cases hi:i<cs.length-1
 ·rw[fb (by omega),dL (by rw[bT];omega),List.getElem?_take,if_pos hi]
 ·by_cases he:i=cs.length-1
  ·subst he;rw[dY (by omega),dF (by rw[bT];omega),bT,lG (by omega),mO];rfl
  ·rw[df (by rw[cT];omega),df (by rw[bD,bT];show _<=i;simp only[cZ];omega)]
theorem Tf{K:FG7}{m:List Addr}{H:Hp}{r a0 a1:Addr}{n:Nat}(h:SqT K H r [.ref a0,.ref a1])(h0:SqT K H a0 (zC (wT 0 n)))(h1:SqT K H a1 (zC (wT 1 n))):Od K m H (.ref r) (.tuple [.tuple (zA 0 n),.tuple (zA 1 n)]) :=
 .tup h (.cons (wK h0) (.cons (wK h1) .nil))
theorem Tg{xs:List V}{v:V}{n:Nat}(hl:xs.length=n+1)(h:xs[n]?=some v):atI xs (-1)=some v:=zbg (j:=n) (by unfold ixN;rw[if_neg (by decide),if_pos (by omega)];congr 1;omega) h
theorem WB{n:Nat}{cs:List Call72}(g:G78 n cs)(n9:n<=9):xk 2 (.tuple (cs.map yu))=true:=by
 have C:=ur g n9;show(decide ((cs.map yu).length<=40) && ((cs.map yu).all (vg 2) && Je 2 (cs.map yu)))=true;rw[sQ,aE,decide_eq_true C.len,mz,aJ,bR,bR];refine⟨fun d hd=>?_,fun j _=>decide_eq_true (C.few _)⟩;obtain⟨c,hc,rfl⟩:=bI.mp hd;obtain⟨k,hk,rfl⟩:=gh hc;have e:cg cs k=cs[k]:=yn (aC hk);have ok:=C.ok _ (fF hk);rw[g.len] at hk;have hd:=g.deed k hk;rw[e] at hd;generalize cs[k]=c at ok hd;obtain⟨a1,a2,a3,a4,a5,a6⟩:=c;have hd:a3=⟨1,none,none⟩:=hd;subst hd;have h0:0<=a1:=ok.h0;have h1:a1<=15:=ok.h1;have h2:0<=a2:=ok.b0;have h3:a2<2:=ok.b1;have h4:0<=a4:=ok.t0;have h5:a4<=a5:=ok.t1;show((decide (0<=a1) && decide (a1<=15)) && ((decide (0<=a2) && decide (a2<=(2:Int)-1)) && true) && (true && (true && (true && (decide (0<=a4) && decide (a4<=a5))))))=true;rw[decide_eq_true h0,decide_eq_true h1,decide_eq_true h2,decide_eq_true (show a2<=(2:Int)-1 by omega),decide_eq_true h4,decide_eq_true h5];rfl
theorem R1{n:Nat}(h:n=5\/n=9\/n=4\/n=6):4<=n/\n<=9:=by omega
theorem Ri:∀d∈Ww,GdD 10 6 910000 d:=by
 have key:(Ww.all fun d=>leD (10 ^ 30+10) d && (decide (d.depth<=6) && decide (wtO d<=910000)))=true:=by decide +kernel
 intro d hd;have h:=bR.mp key d hd;rw[aJ,aJ,decide_eq_true_eq,decide_eq_true_eq] at h;exact⟨h.1,h.2.1,h.2.2⟩
theorem Rj{n:Nat}(hn:n=5\/n=9\/n=4\/n=6):∀d∈rG n,GdD 10 6 910000 d/\RV d:=by
 have key:∀n:Nat,((rG n).all fun d=>leD (10 ^ 30+10) d && (decide (d.depth<=6) && decide (wtO d<=910000)))=true->∀d∈rG n,GdD 10 6 910000 d:=fun n key d hd=>by
  have h:=bR.mp key d hd;rw[aJ,aJ,decide_eq_true_eq,decide_eq_true_eq] at h;exact⟨h.1,h.2.1,h.2.2⟩
 have flk:∀n:Nat,((rG n).all fun d=>match d with
  |.tuple ds=>decide (ds.length<64) && ds.all fun e=>match e with
   |.tuple es=>decide (es.length<64) && es.all fun z=>match z with
    |.dict _=>false
    |_=>true
   |_=>true
  |_=>true)=true->∀d∈rG n,RV d:=fun n key d hd ds e=>by
  have h:=bR.mp key d hd;subst e;dsimp only at h;rw[aJ,decide_eq_true_eq,bR] at h;refine⟨h.1,fun z hz es ez=>?_⟩;have h2:=h.2 z hz;subst ez;dsimp only at h2;rw[aJ,decide_eq_true_eq,bR] at h2;refine⟨h2.1,fun y hy kvs ey=>?_⟩;have h3:=h2.2 y hy;subst ey;cases h3
 rcases hn with rfl|rfl|rfl|rfl <;> exact fun d hd=>⟨key _ (by decide +kernel) d hd,flk _ (by decide +kernel) d hd⟩
theorem Th{n:Nat}(hn:n=5\/n=9\/n=4\/n=6):GdD 10 6 910000 (.tuple [.tuple (zA 0 n),.tuple (zA 1 n)])/\RV (.tuple [.tuple (zA 0 n),.tuple (zA 1 n)]):=by
 have key:∀d:PyData,(leD (10 ^ 30+10) d && (decide (d.depth<=6) && decide (wtO d<=910000)))=true->GdD 10 6 910000 d:=fun d h=>by
  rw[aJ,aJ,decide_eq_true_eq,decide_eq_true_eq] at h;exact⟨h.1,h.2.1,h.2.2⟩
 refine⟨?_,?_⟩
 ·rcases hn with rfl|rfl|rfl|rfl <;> exact key _ (by decide +kernel)
 ·have:=R1 hn;refine UX (os:=[wT 0 n,wT 1 n]) (aI rfl) fun o ho=>?_;rcases aK.mp ho with rfl|ho
  ·have:=tN (c:=0) (n:=n) (by decide);omega
  ·rw[aR.mp ho];have:=tN (c:=1) (n:=n) (by decide);omega
theorem zaw{n:Nat}{cs:List Call72}(g:G78 n cs)(n9:n<=9)(he:∀k<n,(cg cs k).ended<=100):∀c∈cs,Cb72 (10 ^ 29) c:=by
 intro c hc;obtain⟨k,hk,rfl⟩:=gh hc;have e:cg cs k=cs[k]:=yn (aC hk);rw[g.len] at hk;rw[←e];have hb:=g.box k hk;have hd:=g.deed k hk;have hh:=g.h0 k hk;have h1:=g.b0 k hk;have h2:=g.e0 k hk;have h3:=g.an k hk;have h4:=he k hk;refine⟨by omega,by rw[hb];omega,?_,by omega,by omega,by rw[h3];omega⟩;rw[hd];exact⟨⟨by decide,by decide⟩,(fun _ z=>nomatch z),(fun _ z=>nomatch z)⟩
theorem Q5{n:Nat}{es:List Int}(n9:n<=9)(el:es.length=n)(he:∀e∈es,0<=e/\e<3):∀k<n,(cg (xn 2 es n) k).ended<=100:=fun k hk=>by
 rw[xN hk];show(k:Int)+es.getD k 0<=100;have:es.getD k 0<3:=by
  rw[aH,aC (by omega)];exact(he _ (fF _)).2
 omega
theorem Q6{n:Nat}{cs:List Call72}(g:G78 n cs)(he:∀k<n,(cg cs k).ended<=100):∀k<n,(cg (Ys cs) k).ended<=100:=fun k hk=>by
 rw[jq (by rw[g.len];exact hk)];split
 ·rename_i e;subst e;exact he _ hk
 ·exact he k hk
structure C78(n:Nat)(al:Bool)(cs:List Call72):Prop where
 g:G78 n cs
 en:∀k<n,(cg cs k).ended<=100
 o0:al=false->xB cs/\jh [0,0] cs (aF n)
 o1:al=true->¬xB cs
theorem C78.gd{n:Nat}{al:Bool}{cs:List Call72}(h:C78 n al cs)(n9:n<=9):GdD 10 6 910000 (.tuple (cs.map w9)) :=
 (Wq (by rw[h.g.len];omega) (zaw h.g n9 h.en)).mono (by decide) (by decide) (by decide)
theorem zax{n:Nat}{es:List Int}(n9:n<=9)(el:es.length=n)(he:∀e∈es,0<=e/\e<3):C78 n false (xn 2 es n) :=
 ⟨RY (by omega) he,Q5 n9 el he,fun _=>⟨S9,Ra (by omega) he⟩,fun z=>(by cases z)⟩
theorem zay{n:Nat}{cs:List Call72}(h:C78 n false cs)(n2:2<=n):C78 n true (Ys cs) :=
 ⟨zat h.g (by omega),Q6 h.g h.en,fun z=>(by cases z),fun _=>Rb h.g n2⟩
end L3
namespace My
open PySem PySem.Spec PyProof.Rows L2 L3
def top(i:Nat):Stmt:=PySem.Challenge.pw_joinedasks_k78_calls_refused.main.body.getD i (.Pass ⟨0,0,0,0⟩)
section
variable{P:Program}{w:World}{K:FG7}{mg:Str->Option Value}{base:Heap}{n:Nat}{f:Addr}{fd:FuncData}
theorem rh:FnScope ["_law_choice","_law_found","_law_many","_law_are_good"] ["_law_choice","_law_found","_law_many","_law_are_good"] (zf (top 70)):=⟨rfl,rfl,rfl,by decide +kernel,rfl,by decide +kernel,by decide +kernel⟩
theorem rj(F:Fun K "_law_is_told" "_law_is_told" (top 70) f fd)(B:Blt mg)(oZ:mg "sorted" = none)   :
  FnOk P w K mg base CX0 (n+1) f fd ["_law_choice","_law_found","_law_many","_law_are_good"] (ZC K):=by
 refine F.ok rh Z1 (fun og A outer s H vs Q E hr h=>?_);obtain⟨x,y,z,w,rfl,ch,n,g,rfl,rfl,rfl,Iw,Bl,q⟩:=h;refine⟨_,(ze (yB (zw tW (pv 0) (yz (za zg (za zg zb))) (by with_unfolding_all rfl)) (zi (zr (yN JG (pv 1) xz (zy _)))) zz) (ze (yB (zw wx (pv 0) zg (zy _)) (zi (zr (xC (zm (Vg (K:=K) rfl) rfl B.isinstance zo (za (pv 1) (za (wu rfl B.bool Rx) zb))) (wp (yN wx (pv 1) (pv 3) (zy _)))))) zz) (zi (zr (xC (zm (yE (K:=K) rfl) rfl B.isinstance zo (za (pv 1) (za (wu rfl B.tuple yZ) zb))) (wp (yN (Vb hr) (zm (uZ (K:=K) rfl) rfl oZ qM (za (pv 1) zb)) (wI rfl rfl B.list rfl B.range (za (pv 2) zb)) (zy _)))))))),?_⟩;refine⟨_,rfl,szl rfl,fun p hp=>⟨p,_,rfl,.inr (SqT.of zd),rfl,rfl,_,rfl,?_⟩⟩;have gp:=Grow.new (m:=[]) hp (.tup [V.int 0,V.int 3]);dsimp only
 have Ix:inV (V.int ch) [V.int 0,V.int 3]=decide (ch=0\/ch=3):=by
  rw[dh];simp only[inV,eqV,dO,List.any_nil,Bool.or_false,kh,beq_iff_eq,decide_eq_true_eq]
  omega
 rw[if_neg (show ¬(false=true) by decide),Ix];by_cases c:ch=0\/ch=3
 ·rw[if_pos (decide_eq_true c)];rcases Bl with ⟨_,rfl⟩|⟨h5,_⟩|⟨h5,_⟩
  ·exact⟨_,rfl,_,_,rfl,rfl,q _ gp⟩
  ·omega
  ·omega
 ·rw[if_neg (by rw[decide_eq_true_eq];exact c)];refine⟨_,rfl,rfl,_,rfl,?_⟩;dsimp only
  rcases Bl with ⟨h5,_⟩|⟨h5,rfl⟩|⟨h5,ns,⟨r,rfl,hs⟩,per⟩
  ·exact absurd h5 c
  ·rw[if_pos (decide_eq_true (congrArg V.int h5))];refine⟨_,rfl,_,_,"bool",true,rfl,rfl,rfl,_,rfl,_,rfl,_,rfl,(by cases g <;> rfl),?_⟩;rw[decide_eq_true rfl];exact q _ gp
  ·rw[if_neg (by rw[decide_eq_true_eq];intro z;cases z;omega)];have DE:=gp.sqT hs;have hl:ns.length=n:=by rw[per.length_eq,aS]
   refine⟨_,rfl,_,.tuple (ns.map fun k:Nat=>bX (k:Int)),[],_,_,rfl,wK DE,xv _,_,rfl,_,rfl,r,ns.map fun k:Nat=>(k:Int),rfl,by rw[←yf];exact DE,by rw[aE];omega,fun p2 ms FB Ae Ef=>?_⟩;have g2:=Grow.new (m:=[]) FB (.lst (ms.map V.int));refine⟨_,rfl,n,rfl,by omega,fun l AM=>?_⟩;have g3:=Grow.new (m:=[]) AM (.lst ((aF n).map fun i:Nat=>V.int i));refine⟨p2,l,_,_,rfl,rfl,SqL.of (g3.keep _ _ (by simp) zd),SqL.of zd,tP _,qW _,?_⟩;have e:=(Vz (n:=n) Ae Ef).mpr ⟨ns,by rw[de];rfl,per⟩;have ev:t6 (ms.map V.int) ((aF n).map fun i:Nat=>V.int i)=true:=by
    rw[show((aF n).map fun i:Nat=>V.int i)=zC (aF n) from rfl,yf,vT,decide_eq_true e]
   rw[if_neg (by decide),ev];exact q _ (gp.trans (g2.trans g3))
theorem vK:FnScope ["deed","value","add","low","high","result"] ["deed","value"] (zf (top 24)):=⟨rfl,rfl,rfl,by decide +kernel,rfl,by decide +kernel,by decide +kernel⟩
theorem Q7(F:Fun K "made" "made" (top 24) f fd)(B:Blt mg)      :
  FnOk P w K mg base CX0 (n+1) f fd ["deed","value"] (ZZ K):=by
 refine F.ok vK y0 (fun og A outer s H vs Q E hr h=>?_);obtain⟨x,y,rfl,d,v,⟨a,rfl,hs⟩,rfl,q⟩:=h;refine⟨_,(ze (xR (pv 0) (xf rfl (zk (zj (i:=2) vK.nd rfl (bB rfl)) (zk (zj (i:=3) vK.nd rfl (bB rfl)) (zk (zj (i:=4) vK.nd rfl (bB rfl)) yc))))) (ze (zx (i:=5) vK.nd rfl (bB rfl) (zR tT (pv 1) (pv 2))) (ze (yB (PW.pt (wB (YR (WQ (pv 3))) (xF (zw qJ (pv 3) (pv 5) (zy _))))) (zi (zx (i:=5) vK.nd rfl (bB rfl) (pv 3))) zz) (ze (yB (PW.pt (wB (YR (WQ (pv 4))) (xF (zw XE (pv 4) (pv 5) (zy _))))) (zi (zx (i:=5) vK.nd rfl (bB rfl) (pv 4))) zz) (zi (zr (pv 5))))))),?_⟩;obtain⟨ad,lo,hi⟩:=d;refine⟨_,rfl,a,_,rfl,hs,rfl,_,_,rfl,_,_,rfl,_,_,rfl,rfl,?_⟩;refine⟨_,rfl,_,rfl,_,_,rfl,rfl,?_⟩;cases lo with
 |none =>
  refine⟨_,rfl,_,rfl,yQ (yQ ?_)⟩;cases hi with
  |none=>exact⟨_,rfl,_,rfl,yQ (yQ ⟨_,rfl,q⟩)⟩
  |some u =>
   refine⟨_,rfl,_,rfl,y7 ⟨_,rfl,_,rfl,_,_,rfl,rfl,_,rfl,?_⟩⟩;have q':Q (.int (if u<v+ad then u else v+ad)) H:=q;refine Rv (fun c=>?_) (fun c=>?_)
   ·have c':u<v+ad:=of_decide_eq_true c;rw[if_pos c'] at q';exact⟨_,rfl,_,rfl,q'⟩
   ·have c':¬u<v+ad:=fun z=>c (decide_eq_true z);rw[if_neg c'] at q';exact⟨_,rfl,q'⟩
 |some l =>
  refine⟨_,rfl,_,rfl,y7 ⟨_,rfl,_,rfl,_,_,rfl,rfl,_,rfl,?_⟩⟩;have q0:Q (.int (W9 hi (if l>v+ad then l else v+ad))) H:=q;clear q;refine Rv (fun c=>?_) (fun c=>?_)
  ·have c':l>v+ad:=of_decide_eq_true c;rw[if_pos c'] at q0;have q:=q0;refine⟨_,rfl,?_⟩;cases hi with
   |none=>exact⟨_,rfl,_,rfl,yQ (yQ ⟨_,rfl,q⟩)⟩
   |some u =>
    refine⟨_,rfl,_,rfl,y7 ⟨_,rfl,_,rfl,_,_,rfl,rfl,_,rfl,?_⟩⟩;have q':Q (.int (if u<l then u else l)) H:=q;refine Rv (fun c=>?_) (fun c=>?_)
    ·have c':u<l:=of_decide_eq_true c;rw[if_pos c'] at q';exact⟨_,rfl,_,rfl,q'⟩
    ·have c':¬u<l:=fun z=>c (decide_eq_true z);rw[if_neg c'] at q';exact⟨_,rfl,q'⟩
  ·have c':¬l>v+ad:=fun z=>c (decide_eq_true z);rw[if_neg c'] at q0;have q:=q0;cases hi with
   |none=>exact⟨_,rfl,_,rfl,yQ (yQ ⟨_,rfl,q⟩)⟩
   |some u =>
    refine⟨_,rfl,_,rfl,y7 ⟨_,rfl,_,rfl,_,_,rfl,rfl,_,rfl,?_⟩⟩;have q':Q (.int (if u<v+ad then u else v+ad)) H:=q;refine Rv (fun c=>?_) (fun c=>?_)
    ·have c':u<v+ad:=of_decide_eq_true c;rw[if_pos c'] at q';exact⟨_,rfl,_,rfl,q'⟩
    ·have c':¬u<v+ad:=fun z=>c (decide_eq_true z);rw[if_neg c'] at q';exact⟨_,rfl,q'⟩
theorem zJ:FnScope ["board","calls","order","values","number","hand","box","deed","begun","ended","answer"] ["board","calls","order"] (zf (top 39)):=⟨rfl,rfl,rfl,by decide +kernel,rfl,by decide +kernel,by decide +kernel⟩
theorem rk(F:Fun K "are_answered" "are_answered" (top 39) f fd)(B:Blt mg)(oH:zp P w K mg base n "made" ["deed","value"] (ZZ K))     :
  FnOk P w K mg base CX0 (n+1) f fd ["board","calls","order"] (qX K):=by
 refine F.ok zJ t5 (fun og A outer s H vs Q E hr h=>?_);obtain⟨x,y,z,rfl,b,cs,ns,hb,hc,hn,ok,n5,q⟩:=h;refine⟨_,(ze (zx (i:=3) zJ.nd rfl (bB rfl) (yD uY rfl B.list t4 (za (pv 0) zb))) (ze (xS PassesOwn.never rfl (vP (pv 2)) (zj (i:=4) zJ.nd rfl (bB rfl)) (ze (xR (zU yP (pv 1) (pv 4) (fun _ _=>rfl)) (xf rfl (zk (zj (i:=5) zJ.nd rfl (bB rfl)) (zk (zj (i:=6) zJ.nd rfl (bB rfl)) (zk (zj (i:=7) zJ.nd rfl (bB rfl)) (zk (zj (i:=8) zJ.nd rfl (bB rfl)) (zk (zj (i:=9) zJ.nd rfl (bB rfl)) (zk (zj (i:=10) zJ.nd rfl (bB rfl)) yc)))))))) (ze (yB (zw XD (zU zY (pv 3) (pv 6) (fun _ _=>rfl)) (pv 10) (zy _)) (zi (zr xz)) zz) (zi (xR (zn oH hr rfl (za (pv 7) (za (pv 10) zb))) (WR (pv 3) (pv 6) qK)))))) (zi (zr xz)))),?_⟩;obtain⟨rb,rfl,Cy⟩:=id hb;obtain⟨rc,xs,rfl,o8,nP⟩:=id hc;obtain⟨r,rfl,Dn⟩:=id hn;refine⟨_,rfl,rb,_,rfl,.inr Cy,fun l Do=>?_⟩;have g0:=Grow.new (m:=[l]) Do (.lst (b.map V.int));refine⟨_,rfl,r,rfl,⟨_,g0.sqT Dn⟩,ZU (xs:=zC ns) (fun i σ H'=>∃(vs:List Int) (e4 e5 e6 e7 e8 e9 Cd:Option V),σ=[some (.ref rb),some (.ref rc),some (.ref r),some (.ref l),e4,e5,e6,e7,e8,e9,Cd]/\H' l=some (.lst (vs.map V.int))/\vs.length=b.length/\Grow [l] H H'/\vM cs vs (ns.drop i)=vM cs b ns) ⟨b,_,_,_,_,_,_,_,rfl,zd,rfl,g0,rfl⟩ (fun i σ H' _ ⟨_,_,_,_,_,_,_,_,_,_,_,g,_⟩=>g.sqT Dn) ?_ ?_⟩
 ·rintro i x σ H1 hx ⟨vs,e4,e5,e6,e7,e8,e9,Cd,rfl,AT,vl,g1,hk⟩;obtain⟨k,BO,rfl⟩:=wU hx;have oU:=n5 k (bA BO);obtain⟨z,hz,rz,rd,rfl,sz,sd⟩:=nP.getR (aC oU);have o:=ok _ (fF oU);have ec:cg cs k=cs[k]:=yn (aC oU);rw[jX BO,xu,ec] at hk;refine⟨_,rfl,_,rfl,rc,_,_,.ref rz,rfl,rfl,g1.sqT o8,zH hz,rz,_,rfl,g1.sqT sz,rfl,_,_,rfl,_,_,rfl,_,_,rfl,_,_,rfl,_,_,rfl,_,_,rfl,rfl,?_⟩;try dsimp only
  have b0:=o.b0;have b1:=o.b1;have CT:cs[k].box.toNat<vs.length:=by omega
  have Dp:atI (vs.map V.int) cs[k].box=some (.int (vs.getD cs[k].box.toNat 0)):=by
   have:cs[k].box=(cs[k].box.toNat:Int):=by omega
   rw[this];refine zH ?_;rw[bE,aC CT,bL,aH,aC CT];rfl
  refine⟨_,rfl,_,rfl,l,_,_,_,rfl,rfl,SqL.of AT,Dp,_,rfl,rfl,_,rfl,?_⟩;by_cases ha:vs.getD cs[k].box.toNat 0=cs[k].answer
  ·rw[if_pos ha] at hk;refine yW (by rw[decide_eq_true (congrArg V.int ha)];rfl) (wv ?_);refine⟨_,rfl,_,rfl,_,_,rfl,cs[k].deed,cs[k].answer,⟨rd,rfl,g1.sqT sd⟩,rfl,_,rfl,_,rfl,l,_,_,cs[k].box.toNat,rfl,rfl,AT,?_,⟨vs.set cs[k].box.toNat (cs[k].deed.mk' cs[k].answer),_,_,_,_,_,_,_,rfl,?_,by rw[cT,vl],g1.trans (Grow.set AT (by simp) _),hk⟩⟩
   ·exact Qh b0 (by rw[aE];exact CT)
   ·rw[zd,List.map_set]
  ·rw[if_neg ha] at hk;refine wy (by rw[decide_eq_false fun z=>ha (V.int.inj z)];rfl) ?_;have:=q _ (Grow.shrink Do g1);rw[←hk] at this;exact this
 ·rintro σ H1 ⟨vs,e4,e5,e6,e7,e8,e9,Cd,rfl,AT,vl,g1,hk⟩;rw[z6,List.drop_length] at hk;have:=q _ (Grow.shrink Do g1);rw[←hk] at this;exact this
theorem zG:FnScope ["calls","order","latest","number","hand","box","deed","begun","ended","answer"] ["calls","order"] (zf (top 40)):=⟨rfl,rfl,rfl,by decide +kernel,rfl,by decide +kernel,by decide +kernel⟩
theorem rH(F:Fun K "keeps_ahead" "keeps_ahead" (top 40) f fd)(B:Blt mg)      :
  FnOk P w K mg base CX0 (n+1) f fd ["calls","order"] (j3 K):=by
 refine F.ok zG y0 (fun og A outer s H vs Q E hr h=>?_);obtain⟨x,y,rfl,cs,ns,hc,hn,⟨m,ok⟩,n5,_,q⟩:=h;refine⟨_,(ze (zx (i:=2) zG.nd rfl (bB rfl) zg) (ze (xS PassesOwn.never rfl (vP (pv 1)) (zj (i:=3) zG.nd rfl (bB rfl)) (ze (xR (zU yP (pv 0) (pv 3) (fun _ _=>rfl)) (xf rfl (zk (zj (i:=4) zG.nd rfl (bB rfl)) (zk (zj (i:=5) zG.nd rfl (bB rfl)) (zk (zj (i:=6) zG.nd rfl (bB rfl)) (zk (zj (i:=7) zG.nd rfl (bB rfl)) (zk (zj (i:=8) zG.nd rfl (bB rfl)) (zk (zj (i:=9) zG.nd rfl (bB rfl)) yc)))))))) (ze (yB (zw XE (pv 8) (pv 2) (zy _)) (zi (zr xz)) zz) (zi (zx (i:=2) zG.nd rfl (bB rfl) (zm (tU rfl) rfl B.max Qc (za (pv 2) (za (pv 7) zb)))))))) (zi (zr xz)))),?_⟩;obtain⟨rc,xs,rfl,o8,nP⟩:=id hc;obtain⟨r,rfl,Dn⟩:=id hn;refine⟨_,rfl,r,rfl,⟨_,Dn⟩,ZU (xs:=zC ns) (fun i σ H'=>∃(t:Int) (e3 e4 e5 e6 e7 e8 e9:Option V),σ=[some (.ref rc),some (.ref r),some (.int t),e3,e4,e5,e6,e7,e8,e9]/\H'=H/\Jc cs t (ns.drop i)=tq cs ns) ⟨0,_,_,_,_,_,_,_,rfl,rfl,Qv ok n5⟩ (fun i σ H' _ ⟨_,_,_,_,_,_,_,_,_,e,_⟩=>by rw[e];exact Dn) ?_ ?_⟩
 ·rintro i x σ H' hx ⟨t,e3,e4,e5,e6,e7,e8,e9,rfl,rfl,hk⟩;obtain⟨k,BO,rfl⟩:=wU hx;have oU:=n5 k (bA BO);obtain⟨z,hz,rz,rd,rfl,sz,_⟩:=nP.getR (aC oU);refine⟨_,rfl,_,rfl,rc,_,_,.ref rz,rfl,rfl,o8,zH hz,rz,_,rfl,sz,rfl,_,_,rfl,_,_,rfl,_,_,rfl,_,_,rfl,_,_,rfl,_,_,rfl,rfl,?_⟩;try dsimp only
  have ec:cg cs k=cs[k]:=yn (aC oU);rw[jX BO] at hk;unfold Jc at hk;rw[ec] at hk;refine⟨_,rfl,_,rfl,_,_,rfl,rfl,_,rfl,?_⟩;by_cases hb:cs[k].ended<t
  ·rw[if_pos hb] at hk;refine wy (decide_eq_true hb) ?_;have:=q _ (Grow.refl _ _);rw[←hk] at this;exact this
  ·rw[if_neg hb] at hk;exact yW (decide_eq_false hb) (wv ⟨_,rfl,_,rfl,_,_,rfl,⟨_,_,_,_,_,_,_,_,rfl,rfl,hk⟩⟩)
 ·rintro σ H' ⟨t,e3,e4,e5,e6,e7,e8,e9,rfl,rfl,hk⟩;rw[z6,List.drop_length] at hk;have:=q _ (Grow.refl _ _);rw[←hk] at this;exact this
theorem YA:FnScope ["thing"] ["thing"] (zf (top 19)):=⟨rfl,rfl,rfl,by decide +kernel,rfl,by decide +kernel,by decide +kernel⟩
theorem YB(F:Fun K "is_whole" "is_whole" (top 19) f fd)(B:Blt mg)      :
  FnOk P w K mg base CX0 (n+1) f fd ["thing"] (yq K):=by
 refine F.ok YA xI (fun og A outer s H vs Q E hr h=>?_);obtain⟨x,rfl,d,m,hd,q⟩:=h;refine⟨_,(zi (zr (xC (zm (yE (K:=K) rfl) rfl B.isinstance zo (za (pv 0) (za (wu rfl B.int zbf) zb))) (wp (Rk (zm (yE (K:=K) rfl) rfl B.isinstance zo (za (pv 0) (za (wu rfl B.bool Rx) zb)))))))),?_⟩;refine⟨_,rfl,_,d,m,_,_,rfl,hd,Qr,_,rfl,?_⟩;cases d with
 |int i=>exact y7 ⟨_,rfl,_,_,m,_,_,rfl,hd,Y2,_,rfl,q⟩
 |bool b=>exact y7 ⟨_,rfl,_,_,m,_,_,rfl,hd,Y2,_,rfl,q⟩
 |_=>exact yQ q
theorem YC:FnScope ["thing","numbers"] ["thing","numbers"] (zf (top 38)):=⟨rfl,rfl,rfl,by decide +kernel,rfl,by decide +kernel,by decide +kernel⟩
theorem YD(F:Fun K "is_order" "is_order" (top 38) f fd)(B:Blt mg)(oH:zp P w K mg base n "is_whole" ["thing"] (yq K))(oZ:mg "sorted" = none)   :
  FnOk P w K mg base CX0 (n+1) f fd ["thing","numbers"] (uM K):=by
 refine F.ok YC y0 (fun og A outer s H vs Q E hr h=>?_);obtain⟨x,y,rfl,d,m,ks,hd,hl,hn,pk,q⟩:=h;refine⟨_,(ze (yB (PW.pt (tS (yC (zZ (zm (yE (K:=K) rfl) rfl B.isinstance zo (za (pv 0) (za (wu rfl B.tuple yZ) zb))))) (vh (yC (zZ (zm (vS rfl) rfl B.all TF (za (y8 (CSc.of (N':=["number"]) (sub:=[none]) (zf (top 38)) ["thing","numbers"] rfl rfl (by decide +kernel) rfl) rfl (vP (pv 0)) (fun _ _ _ _ _ _=>zj (i:=0) (show(["number"]:List Str).Nodup by decide +kernel) rfl (bB rfl)) (fun _ _ _ _ _ _=>yv) (fun _ _ _ _ _ _=>(zn oH hr rfl (za (pv 0) zb)))) zb))))))) (zi (zr xz)) zz) (zi (zr (yN (Vb hr) (zm (uZ (K:=K) rfl) rfl oZ qM (za (pv 0) zb)) (pv 1) (zy _))))),?_⟩;refine vk (fun b H'=>Grow [] H H'/\(b=true->¬∃ns,xa ks d ns)/\(b=false->∃(r:Addr) (zs:List Int),x=.ref r/\d=.tuple (zs.map bX)/\SqT K H r (zs.map V.int)/\zs.length<64)) (fun Kk hk=>⟨_,rfl,_,d,m,_,_,rfl,hd,xv d,_,rfl,?_⟩) ?_
 ·cases ht:qV d with
  |false=>exact y7 (hk _ _ ⟨Grow.refl _ _,(fun _=>UU ht ks),fun z=>nomatch z⟩)
  |true =>
   obtain⟨r,xs,ds,rfl,rfl,hs,os⟩:=wV hd ht;obtain⟨ED,hnd⟩:=hl ds rfl;have xl:=os.length;refine yQ ⟨_,rfl,r,rfl,⟨_,hs⟩,y3 (xs:=xs) (fun i ys H'=>ys=((ds.take i).map jZ).map V.bl/\H'=H) ⟨rfl,rfl⟩ (fun i ys H' z=>by rw[z.2];exact hs) ?_ ?_⟩
   ·rintro i x ys H' hx ⟨rfl,rfl⟩;obtain⟨e,he,oe⟩:=os.get hx;have hw:yA e=jZ e:=by cases e <;> rfl
    refine⟨_,rfl,_,rfl,e,m,oe,jY (by rw[aE,aE,bT];omega),?_,rfl⟩;rw[hw,im,he,bZ,bZ];rfl
   ·rintro ys H' ⟨rfl,rfl⟩ l AM;rw[xl,dG];refine⟨l,ds.map jZ,rfl,SqL.of zd,_,rfl,hk _ _ ⟨Grow.new AM _,fun z=>?_,fun z=>?_⟩⟩
    ·intro ho;rw[iW,show(ds.all (id∘jZ))=ds.all jZ from rfl,UV ho] at z;cases z
    ·rw[Bool.not_eq_false',iW] at z;obtain⟨zs,rfl⟩:=RF (show ds.all jZ=true from z);rw[qa os] at hs;exact⟨r,zs,rfl,rfl,hs,by rw[aE] at ED;exact ED⟩
 rintro b H1 ⟨g1,hb1,hb2⟩;cases b with
 |true=>exact y7 (q _ _ g1 ⟨(fun z=>nomatch z),fun z=>absurd z (hb1 rfl)⟩)
 |false =>
  obtain⟨r,zs,rfl,rfl,hs,ED⟩:=hb2 rfl;obtain⟨l,rfl,AM⟩:=hn;refine yQ (wv ⟨_,rfl,r,zs,rfl,g1.sqT hs,ED,fun p ms hp Ae Ef=>?_⟩);have gp:=Grow.new (m:=[]) hp (.lst (ms.map V.int));refine⟨_,rfl,p,l,_,_,rfl,rfl,SqL.of zd,(g1.trans gp).sqL AM,tP _,qW _,q _ _ (g1.trans gp) ?_⟩;rw[if_neg (by decide),yf,vT,decide_eq_true_eq];exact UW pk Ae Ef
theorem jw:FnScope ["board","calls","numbers","order"] ["board","calls","numbers","order"] (zf (top 41)):=⟨rfl,rfl,rfl,by decide +kernel,rfl,by decide +kernel,by decide +kernel⟩
theorem jx(F:Fun K "fits_these" "fits_these" (top 41) f fd)(B:Blt mg)(oH:zp P w K mg base n "are_answered" ["board","calls","order"] (qX K))(pP:zp P w K mg base n "keeps_ahead" ["calls","order"] (j3 K))(BB:zp P w K mg base n "is_order" ["thing","numbers"] (uM K))     :
  FnOk P w K mg base CX0 (n+1) f fd ["board","calls","numbers","order"] (uN K):=by
 refine F.ok jw Z1 (fun og A outer s H vs Q E hr h=>?_);obtain⟨x,y,z,u,rfl,b,cs,ks,d,m,hb,hc,hn,pk,klt,k40,hd,ok,hl,q⟩:=h;refine⟨_,(zi (zr (xC (zn BB hr rfl (za (pv 3) (za (pv 2) zb))) (xC (zn pP hr rfl (za (pv 1) (za (pv 3) zb))) (wp (zn oH hr rfl (za (pv 0) (za (pv 1) (za (pv 3) zb))))))))),?_⟩;refine⟨_,rfl,_,rfl,_,_,rfl,d,m,ks,hd,hl,hn,pk,fun b1 H1 g1 h1=>⟨_,rfl,?_⟩⟩;cases b1 with
 |false =>
  refine yQ (q _ _ g1 ⟨(fun z=>nomatch z),fun⟨ns,o,_⟩=>absurd (h1.mpr ⟨ns,o⟩) (by decide)⟩)
 |true =>
  obtain⟨ns,o⟩:=h1.mp rfl;have hN:yX K H u ns:=Z7 o.1 hd;have n5:∀k∈ns,k<cs.length:=fun k hk=>klt k (o.2.mem_iff.mp hk);have nl:ns.length<=40:=by rw[o.2.length_eq];exact k40
  have FC:∀bb:Bool,bb=(tq cs ns && vM cs b ns)->(bb=true ↔ qC b cs ks d):=fun bb e=>by
   rw[e,aJ];exact⟨fun z=>⟨ns,o,z.1,z.2⟩,fun⟨ms,o',z1,z2⟩=>by rw[o.uniq o'];exact⟨z1,z2⟩⟩
  refine y7 ⟨_,rfl,_,rfl,_,_,rfl,cs,ns,g1.calls72 hc,hN.grow g1,⟨_,ok⟩,n5,nl,fun H2 g2=>⟨_,rfl,?_⟩⟩;cases hk:tq cs ns with
  |false=>exact yQ (q _ _ (g1.trans g2) (FC _ (by rw[hk];rfl)))
  |true=>exact y7 ⟨_,rfl,_,rfl,_,rfl,_,_,_,rfl,b,cs,ns,(g1.trans g2).board hb,(g1.trans g2).calls72 hc,hN.grow (g1.trans g2),ok,n5,fun H3 g3=>q _ _ (g1.trans (g2.trans g3)) (FC _ (by rw[hk];rfl))⟩
theorem wl:FnScope ["board","calls","numbers","number","call"] ["board","calls"] (zf (top 35)):=⟨rfl,rfl,rfl,by decide +kernel,rfl,by decide +kernel,by decide +kernel⟩
theorem YE(F:Fun K "by_boxes" "by_boxes" (top 35) f fd)(B:Blt mg)(n6:mg "enumerate" = none)   :
  FnOk P w K mg base CX0 (n+1) f fd ["board","calls"] (tR K):=by
 refine F.ok wl y0 (fun og A outer s H vs Q E hr h=>?_);obtain⟨x,y,rfl,b,cs,hb,hc,AJ,c40,okk,q⟩:=h;refine⟨_,(ze (vU (i:=2) wl.nd rfl rfl (CSc.of (N':=["value"]) (sub:=[none]) (zf (top 35)) ["board","calls","numbers","number","call"] rfl rfl (by decide +kernel) rfl) rfl (vP (pv 0)) (fun _ _ _ _ _ _=>zj (i:=0) (show(["value"]:List Str).Nodup by decide +kernel) rfl (bB rfl)) (fun _ _ _ _ _ _=>yv) (fun _ _ _ _ _ _=>(yO zb))) (ze (xS PassesOwn.never rfl (tM true (K:=K) rfl rfl n6 (za (pv 1) zb)) (xf rfl (zk (zj (i:=3) wl.nd rfl (bB rfl)) (zk (zj (i:=4) wl.nd rfl (bB rfl)) yc))) (zi (xj (W5 fU hJ hV vQ (zU zY (pv 2) (zU yP (pv 4) zg (fun _ _=>rfl)) (fun _ _=>rfl)) (za (pv 3) zb))))) (zi (zr (pv 2))))),?_⟩;obtain⟨rb,rfl,Cy⟩:=id hb;obtain⟨rc,xs,rfl,o8,nP⟩:=id hc;refine yg (fun v H'=>∃(l:Addr) (as:List Addr),v=.ref l/\H' l=some (.lst (as.map V.ref))/\l∉as/\H l=none/\as.length=b.length/\as.Nodup/\(∀a∈as,H a=none/\H' a=some (.lst []))/\Grow [] H H') (fun Kk hk=>⟨_,rfl,rb,rfl,⟨_,Cy⟩,y3 (xs:=b.map V.int) (fun i ys H'=>∃as:List Addr,ys=as.map V.ref/\as.length=i/\as.Nodup/\(∀a∈as,H a=none/\H' a=some (.lst []))/\Grow [] H H') ⟨[],rfl,rfl,lY,(fun a h=>nomatch h),Grow.refl _ _⟩ (fun i ys H' ⟨_,_,_,_,_,g⟩=>g.sqT Cy) ?_ ?_⟩) ?_
 ·rintro i x ys H' hx ⟨as,rfl,al,nd,ha,g⟩;have hi:=(aL.mp hx).1;rw[aE] at hi;refine⟨szl rfl,fun a h0=>⟨jY (by rw[aE];omega),as++[a],by rw[bZ];rfl,by rw[bD,cZ,al],?_,?_,g.trans (Grow.new h0 _)⟩⟩
  ·refine gS.mpr ⟨nd,by simp,fun x hx y hy=>?_⟩;rw[aR.mp hy];rintro rfl;rw[(ha x hx).2] at h0;cases h0
  ·intro x hx;rcases bH.mp hx with hx|hx
   ·exact⟨(ha x hx).1,by rw[zq (zt (ha x hx).2 h0)];exact(ha x hx).2⟩
   ·rw[aR.mp hx];exact⟨g.free (by simp) h0,zd⟩
 ·rintro ys H' ⟨as,rfl,al,nd,ha,g⟩ l hl;rw[aE] at al;refine hk _ _ ⟨l,as,rfl,zd,fun z=>?_,g.free (by simp) hl,al,nd,fun a h=>⟨(ha a h).1,by rw[zq (zt (ha a h).2 hl)];exact(ha a h).2⟩,g.trans (Grow.new hl _)⟩;rw[(ha l z).2] at hl;cases hl
 rintro _ H0 ⟨l,as,rfl,Do,nl,nl0,al,nd,ha,g0⟩;have xl:=nP.len;refine⟨_,rfl,rc,_,rfl,g0.sqT o8,jW (xs:=xs) (fun i σ H'=>∃(Bb:List (List Nat)) (e3 e4:Option V),σ=[some (.ref rb),some (.ref rc),some (.ref l),e3,e4]/\H' l=some (.lst (as.map V.ref))/\Bx72 H' as Bb/\(∀j,j<as.length->Bb.getD j []=(aF i).filter (xK cs j))/\Grow as H0 H') ⟨as.map fun _=>[],_,_,rfl,Do,⟨by rw[aE],fun j a h=>?_⟩,fun j hj=>?_,Grow.refl _ _⟩ (fun i σ H' _ ⟨_,_,_,_,_,_,_,g⟩=>(g.sqT (g0.sqT o8):SqT K H' rc xs)) ?_ ?_⟩
 ·rw[(ha a (bA h)).2,aH,bE,h];rfl
 ·rw[aH,bE,aC hj];rfl
 ·rintro i x σ H1 T hx ⟨Bb,e3,e4,rfl,AT,bx,hn,g1⟩ hT;obtain⟨c,Dq,Cz⟩:=nP.get hx;obtain⟨rz,rd,rfl,sz,_⟩:=(g1.call72 (g0.call72 Cz))
  have gT:=Grow.new (m:=as) hT (.tup [.int i,.ref rz]);have o:=okk c (bA Dq);have b0:=o.b0;have b1:=o.b1;obtain⟨j,hj⟩:∃j:Nat,c.box=j:=⟨c.box.toNat,by omega⟩
  have Gz:j<as.length:=by omega
  have By:as[j]?=some as[j]:=aC Gz;have aT:∀{a:Addr} {o:HO},H1 a=some o->upd H1 T (.tup [.int i,.ref rz]) a=some o:=fun h=>by rw[zq (zt h hT)];exact h
  have nT:(Bb.getD j []).length<=40:=by
   rw[hn j Gz];have h1:=iI (xK cs j) (aF i);have h2:=(aL.mp Dq).1;have h3:=c40;rw[aS] at h1;omega
  refine⟨T,_,rfl,SqT.of zd,rfl,_,_,rfl,_,_,rfl,rfl,?_⟩;refine⟨_,rfl,_,rfl,rz,_,1,.int c.box,rfl,rfl,gT.sqT sz,zH (j:=1) rfl,l,_,_,.ref as[j],rfl,rfl,SqL.of (aT AT),by rw[hj];exact zH (by rw[bE,By];rfl),.inl ⟨rfl,_,SqL.of (aT (bx.at_ j _ By))⟩,_,rfl,as[j],_,_,rfl,rfl,aT (bx.at_ j _ By),jY (by rw[z6];omega),?_⟩;refine⟨Bb.set j (Bb.getD j []++[i]),_,_,rfl,?_,⟨by rw[cT,bx.len],fun j' a' h'=>?_⟩,fun j' pO=>?_,g1.trans (gT.trans (Grow.set (aT (bx.at_ j _ By)) (bA By) _))⟩
  ·rw[zq (fun z=>nl (by rw[z];exact bA By))];exact aT AT
  ·by_cases e:j'=j
   ·subst e;cases h'.symm.trans By;rw[zd,yw (by rw[bx.len];exact Gz),vX];rfl
   ·have ne:a'≠as[j]:=fun z=>e (by
     have h1:as[j']?=as[j]?:=by rw[h',By,z]
     exact(mv (by have:=(aL.mp h').1;exact this) nd).mp h1)
    rw[zq ne,aT (bx.at_ j' a' h'),z7 (fun z=>e z.symm)]
  ·rw[Ul,yn Dq];by_cases e:j'=j
   ·subst e;rw[if_pos hj,yw (by rw[bx.len];exact Gz),hn j' pO]
   ·rw[if_neg (by omega),z7 (fun z=>e z.symm),hn j' pO,cS]
 ·rintro σ H1 ⟨Bb,e3,e4,rfl,AT,bx,hn,g1⟩;rw[xl] at hn;refine⟨_,rfl,q l _ _ (Grow.shrinkL (fun a h=>(ha a h).1) (g0.wk.trans g1)) nl0 AT ?_⟩;have en:Bb=(aF b.length).map (vm cs):=by
   refine gU fun j=>?_;rw[bE];by_cases h:j<b.length
   ·have:=hn j (by omega);rw[aH,aC (by rw[bx.len];omega)] at this;rw[cG h,aC (by rw[bx.len];omega)];exact congrArg some this
   ·rw[df (by rw[bx.len];omega),df (by rw[aS];omega)];rfl
  rw[←en];exact bx.ls
theorem Ti:FnScope ["thing"] ["thing"] (zf (top 22)):=⟨rfl,rfl,rfl,by decide +kernel,rfl,by decide +kernel,by decide +kernel⟩
theorem Tj(F:Fun K "is_end" "is_end" (top 22) f fd)(B:Blt mg)(oH:zp P w K mg base n "is_whole" ["thing"] (yq K))     :
  FnOk P w K mg base CX0 (n+1) f fd ["thing"] (r9 K):=by
 refine F.ok Ti xI (fun og A outer s H vs Q E hr h=>?_);obtain⟨x,rfl,d,m,hd,q⟩:=h;refine⟨_,(zi (zr (Jm (Jl (WP (pv 0))) (wp (zn oH hr rfl (za (pv 0) zb)))))),?_⟩;refine⟨x,rfl,_,rfl,?_⟩;rcases JJ hd with ⟨rfl,rfl⟩|⟨h1,h2⟩
 ·exact y7 q
 ·refine yW (decide_eq_false h1) ⟨_,rfl,_,rfl,d,m,hd,?_⟩;have e:Vw d=yA d:=by cases d <;> first|rfl|exact absurd rfl h2
  rw[←e];exact q
theorem wZ:FnScope ["thing","add","low","high"] ["thing"] (zf (top 23)):=⟨rfl,rfl,rfl,by decide +kernel,rfl,by decide +kernel,by decide +kernel⟩
theorem WC(F:Fun K "is_deed" "is_deed" (top 23) f fd)(B:Blt mg)(oH:zp P w K mg base n "is_end" ["thing"] (r9 K))(pP:zp P w K mg base n "is_whole" ["thing"] (yq K))     :
  FnOk P w K mg base CX0 (n+1) f fd ["thing"] (sg K):=by
 refine F.ok wZ xI (fun og A outer s H vs Q E hr h=>?_);obtain⟨x,rfl,d,m,hd,q⟩:=h;refine⟨_,(ze (yB (PW.pt (tS (yC (zZ (zm (yE (K:=K) rfl) rfl B.isinstance zo (za (pv 0) (za (wu rfl B.tuple yZ) zb))))) (vh (zw XD (zm zv rfl B.len wF (za (pv 0) zb)) zg (zy _))))) (zi (zr xz)) zz) (ze (xR (pv 0) (xf rfl (zk (zj (i:=1) wZ.nd rfl (bB rfl)) (zk (zj (i:=2) wZ.nd rfl (bB rfl)) (zk (zj (i:=3) wZ.nd rfl (bB rfl)) yc))))) (ze (yB (yC (PW.pt (wB (zZ (zn pP hr rfl (za (pv 1) zb))) (wB (zZ (zn oH hr rfl (za (pv 2) zb))) (xF (zZ (zn oH hr rfl (za (pv 3) zb)))))))) (zi (zr xz)) zz) (ze (yB (PW.pt (tS (YR (WP (pv 2))) (vh (YR (WP (pv 3)))))) (zi (zr xz)) zz) (zi (zr (Jm (yN XE (pv 2) (pv 3) (zy _)) (wp (xC (yN wx (pv 2) (pv 3) (zy _)) (wp (yN wx (pv 1) zg (zy _)))))))))))),?_⟩;refine⟨_,rfl,_,d,m,_,_,rfl,hd,Qs,_,rfl,?_⟩;cases ht:zbn d with
 |false=>rw[Qu ht] at q;exact y7 (y7 q)
 |true =>
  refine yQ ?_;cases d with
  |tuple ds =>
   obtain⟨a,xs,rfl,hs,Bq⟩:=hd.inv_tup;refine⟨_,rfl,a,xs,rfl,.inr hs,rfl,_,rfl,?_⟩;by_cases hl:ds.length=3
   ·refine yW (by rw[Bq.length,hl];rfl) ?_;match ds,hl,Bq,hd,q with
    |[d0,d1,d2],_,Bq,hd,q =>
     obtain⟨x0,x1,x2,rfl,o0,o1,o2⟩:=Bq.inv3;refine⟨_,rfl,a,_,rfl,hs,rfl,_,_,rfl,_,_,rfl,_,_,rfl,rfl,?_⟩;refine⟨_,rfl,_,rfl,d0,m,o0,_,rfl,?_⟩;cases h0:yA d0 with
     |false=>rw[Sb h0] at q;exact yQ (y7 q)
     |true =>
      cases d0 with
      |int i =>
       refine y7 ⟨_,rfl,_,rfl,d1,m,o1,_,rfl,?_⟩;rw[Vy] at q;cases h1:Vw d1 with
       |false=>rw[h1] at q;exact yQ (y7 q)
       |true =>
        refine y7 ⟨_,rfl,_,rfl,d2,m,o2,_,rfl,?_⟩;cases h2:Vw d2 with
        |false=>rw[h1,h2] at q;exact y7 q
        |true =>
         rw[h1,h2] at q;refine yQ ?_;cases d1 with
         |none=>obtain rfl:=o1.inv_non;exact⟨_,rfl,_,rfl,y7 (y7 q)⟩
         |int l =>
          obtain rfl:=o1.inv_int;cases d2 with
          |none=>obtain rfl:=o2.inv_non;exact⟨_,rfl,_,rfl,yQ ⟨_,rfl,_,rfl,y7 q⟩⟩
          |int u =>
           obtain rfl:=o2.inv_int;refine⟨_,rfl,_,rfl,yQ ⟨_,rfl,_,rfl,yQ ?_⟩⟩;refine⟨_,rfl,_,rfl,_,_,rfl,rfl,_,rfl,?_⟩;obtain rfl:=o0.inv_int;have q':Q (.bl (decide (l<u) || (decide (l=u) && decide (i=0)))) H:=q;refine Rv (fun c=>?_) (fun c=>?_)
           ·rw[c] at q';exact q'
           ·rw[kO.mpr c] at q';refine⟨_,rfl,_,rfl,rfl,_,rfl,?_⟩;refine Rv (fun d=>?_) (fun d=>?_)
            ·have d':l=u:=V.int.inj (of_decide_eq_true d);refine⟨_,rfl,rfl,?_⟩;rw[decide_eq_true d'] at q';have e:decide (V.int i=V.int 0)=decide (i=0):=by
              by_cases z:i=0
              ·rw[z];rfl
              ·rw[decide_eq_false z,decide_eq_false fun w=>z (V.int.inj w)]
             show Q (.bl (decide (V.int i=V.int 0))) H;rw[e];exact q'
            ·have d':¬l=u:=fun z=>d (decide_eq_true (congrArg V.int z));rw[decide_eq_false d'] at q';exact q'
          |_=>cases h2
         |_=>cases h1
      |_=>cases h0
   ·rw[Vx hl] at q;refine wy ?_ q;rw[decide_eq_false fun z=>hl (by have:=V.int.inj z;have:=Bq.length;omega)];rfl
  |_=>cases ht
theorem ZH:FnScope ["thing","least","greatest"] ["thing","least","greatest"] (zf (top 20)):=⟨rfl,rfl,rfl,by decide +kernel,rfl,by decide +kernel,by decide +kernel⟩
theorem ZI(F:Fun K "is_within" "is_within" (top 20) f fd)(B:Blt mg)(oH:zp P w K mg base n "is_whole" ["thing"] (yq K))     :
  FnOk P w K mg base CX0 (n+1) f fd ["thing","least","greatest"] (qA K):=by
 refine F.ok ZH t5 (fun og A outer s H vs Q E hr h=>?_);obtain⟨x,y,z,rfl,d,m,l,u,hd,rfl,rfl,q⟩:=h;refine⟨_,(zi (zr (xC (zn oH hr rfl (za (pv 0) zb)) (wp (YU ZV ZV (pv 1) (pv 0) (pv 2)))))),?_⟩;refine⟨_,rfl,_,rfl,d,m,hd,_,rfl,?_⟩;cases d with
 |int i =>
  obtain rfl:=hd.inv_int;refine y7 ⟨_,rfl,_,rfl,_,_,rfl,rfl,_,rfl,?_⟩;have q':Q (.bl (decide (l<=i) && decide (i<=u))) H:=q;by_cases c:l<=i
  ·refine wy (decide_eq_true c) ⟨_,rfl,_,_,rfl,rfl,?_⟩;rw[decide_eq_true c] at q';exact q'
  ·refine yW (decide_eq_false c) ?_;rw[decide_eq_false c] at q';exact q'
 |_=>exact yQ q
theorem uv:FnScope ["board","thing","hand","box","deed"] ["board","thing"] (zf (top 30)):=⟨rfl,rfl,rfl,by decide +kernel,rfl,by decide +kernel,by decide +kernel⟩
theorem Tk(F:Fun K "is_ask" "is_ask" (top 30) f fd)(B:Blt mg)(oH:zp P w K mg base n "is_deed" ["thing"] (sg K))(pP:zp P w K mg base n "is_within" ["thing","least","greatest"] (qA K)){oQ:Tok}(Bm:mg "LAST_HAND" = some (.int 15 oQ))  :
  FnOk P w K mg base CX0 (n+1) f fd ["board","thing"] (qB K):=by
 refine F.ok uv y0 (fun og A outer s H vs Q E hr h=>?_);obtain⟨x,y,rfl,b,d,m,hb,hd,q⟩:=h;refine⟨_,(ze (yB (PW.pt (tS (yC (zZ (zm (yE (K:=K) rfl) rfl B.isinstance zo (za (pv 1) (za (wu rfl B.tuple yZ) zb))))) (vh (zw XD (zm zv rfl B.len wF (za (pv 1) zb)) zg (zy _))))) (zi (zr xz)) zz) (ze (xR (pv 1) (xf rfl (zk (zj (i:=2) uv.nd rfl (bB rfl)) (zk (zj (i:=3) uv.nd rfl (bB rfl)) (zk (zj (i:=4) uv.nd rfl (bB rfl)) yc))))) (zi (zr (xC (zn pP hr rfl (za (pv 2) (za zg (za (yb rfl Bm (show zQ (.int 15) (.int 15 oQ) from⟨_,rfl⟩)) zb)))) (xC (zn pP hr rfl (za (pv 3) (za zg (za (zR Rm (zm zv rfl B.len wF (za (pv 0) zb)) zg) zb)))) (wp (zn oH hr rfl (za (pv 4) zb))))))))),?_⟩;obtain⟨rb,rfl,Cy⟩:=id hb;refine vk (fun t H'=>H'=H/\(t=true->WJ b.length d=false)/\(t=false->∃(r:Addr) (v1 v2 v3:V) (d1 d2 d3:PyData),y=.ref r/\d=.tuple [d1,d2,d3]/\SqT K H r [v1,v2,v3]/\Od K m H v1 d1/\Od K m H v2 d2/\Od K m H v3 d3)) (fun Kk hk=>⟨_,rfl,_,d,m,_,_,rfl,hd,xv d,_,rfl,?_⟩) ?_
 ·cases ht:qV d with
  |false=>exact y7 (hk _ _ ⟨rfl,(fun _=>by cases d <;> first|rfl|cases ht),fun z=>nomatch z⟩)
  |true =>
   obtain⟨r,xs,ds,rfl,rfl,hs,os⟩:=wV hd ht;have xl:=os.length;refine yQ ⟨_,rfl,r,_,rfl,.inr hs,rfl,_,rfl,?_⟩;by_cases h3:ds.length=3
   ·match ds,h3,os,xl with
    |[d1,d2,d3],_,os,xl =>
     obtain⟨v1,v2,v3,rfl,o1,o2,o3⟩:=os.inv3;exact hk _ _ ⟨rfl,(fun z=>nomatch z),fun _=>⟨r,v1,v2,v3,d1,d2,d3,rfl,rfl,hs,o1,o2,o3⟩⟩
   ·have e:WJ b.length (.tuple ds)=false:=by
     unfold WJ;split
     ·rename_i z;injection z with z;rw[z] at h3;exact absurd rfl h3
     ·rfl
    exact hk _ _ ⟨rfl,(fun _=>e),fun z=>absurd z (by rw[decide_eq_false fun w=>h3 (by have:=V.int.inj w;omega)];decide)⟩
 rintro t H ⟨rfl,h1,h2⟩;cases t with
 |true=>rw[h1 rfl] at q;exact y7 q
 |false =>
  obtain⟨r,v1,v2,v3,d1,d2,d3,rfl,rfl,hs,o1,o2,o3⟩:=h2 rfl;have e:WJ b.length (.tuple [d1,d2,d3])=(xw 0 15 d1 && (xw 0 ((b.length:Int)-1) d2 && uz d3)):=rfl;rw[e] at q;refine yQ (wv ⟨_,rfl,r,_,rfl,hs,rfl,_,_,rfl,_,_,rfl,_,_,rfl,rfl,?_⟩);refine⟨_,rfl,_,_,_,rfl,d1,m,0,15,o1,rfl,rfl,_,rfl,?_⟩;cases e1:xw 0 15 d1 with
  |false=>rw[e1] at q;exact yQ q
  |true =>
   rw[e1] at q;refine y7 ⟨_,rfl,_,rfl,rb,_,rfl,.inr Cy,_,_,rfl,rfl,_,_,_,rfl,d2,m,0,(b.length:Int)-1,o2,rfl,by rw[aE],_,rfl,?_⟩;cases e2:xw 0 ((b.length:Int)-1) d2 with
   |false=>rw[e2] at q;exact yQ q
   |true=>rw[e2] at q;exact y7 ⟨_,rfl,_,rfl,d3,m,o3,q⟩
theorem w4:FnScope ["board","thing","begun","ended","answer"] ["board","thing"] (zf (top 34)):=⟨rfl,rfl,rfl,by decide +kernel,rfl,by decide +kernel,by decide +kernel⟩
theorem WD(F:Fun K "is_call" "is_call" (top 34) f fd)(B:Blt mg)(oH:zp P w K mg base n "is_whole" ["thing"] (yq K))(pP:zp P w K mg base n "is_ask" ["board","thing"] (qB K))     :
  FnOk P w K mg base CX0 (n+1) f fd ["board","thing"] (sR K):=by
 refine F.ok w4 y0 (fun og A outer s H vs Q E hr h=>?_);obtain⟨x,y,rfl,b,d,m,hb,hd,q⟩:=h;refine⟨_,(ze (yB (PW.pt (tS (yC (zZ (zm (yE (K:=K) rfl) rfl B.isinstance zo (za (pv 1) (za (wu rfl B.tuple yZ) zb))))) (tS (zw XD (zm zv rfl B.len wF (za (pv 1) zb)) zg (zy _)) (vh (yC (zZ (zn pP hr rfl (za (pv 0) (za (y6 (xJ (K:=K) rfl) (pv 1) xH (xt zg)) zb))))))))) (zi (zr xz)) zz) (ze (xR (y6 (xJ (K:=K) rfl) (pv 1) (xt zg) xH) (xf rfl (zk (zj (i:=2) w4.nd rfl (bB rfl)) (zk (zj (i:=3) w4.nd rfl (bB rfl)) (zk (zj (i:=4) w4.nd rfl (bB rfl)) yc))))) (zi (zr (xC (zn oH hr rfl (za (pv 2) zb)) (xC (zn oH hr rfl (za (pv 3) zb)) (xC (zn oH hr rfl (za (pv 4) zb)) (wp (YU ZV ZV zg (pv 2) (pv 3)))))))))),?_⟩;obtain⟨rb,rfl,Cy⟩:=id hb;refine vk (fun t H'=>Grow [] H H'/\(t=true->vg b.length d=false)/\(t=false->∃(r:Addr) (v1 v2 v3 v4 v5 v6:V) (d1 d2 d3 d4 d5 d6:PyData),y=.ref r/\d=.tuple [d1,d2,d3,d4,d5,d6]/\SqT K H r [v1,v2,v3,v4,v5,v6]/\Od K m H v4 d4/\Od K m H v5 d5/\Od K m H v6 d6/\WJ b.length (.tuple [d1,d2,d3])=true)) (fun Kk hk=>⟨_,rfl,_,d,m,_,_,rfl,hd,xv d,_,rfl,?_⟩) ?_
 ·cases ht:qV d with
  |false=>exact y7 (hk _ _ ⟨Grow.refl _ _,(fun _=>by cases d <;> first|rfl|cases ht),fun z=>nomatch z⟩)
  |true =>
   obtain⟨r,xs,ds,rfl,rfl,hs,os⟩:=wV hd ht;have xl:=os.length;refine yQ ⟨_,rfl,r,_,rfl,.inr hs,rfl,_,rfl,?_⟩;by_cases h6:ds.length=6
   ·match ds,h6,os,xl with
    |[d1,d2,d3,d4,d5,d6],_,os,xl =>
     obtain⟨v1,v2,v3,v4,v5,v6,rfl,o1,o2,o3,o4,o5,o6⟩:=QU os;refine yQ ⟨_,rfl,_,rfl,_,rfl,r,_,rfl,hs,fun t1 H1 g1 h1=>⟨_,_,rfl,b,.tuple [d1,d2,d3],m,g1.board hb,.tup (show SqT K H1 t1 [v1,v2,v3] from h1) (.cons (o1.grow g1.wk) (.cons (o2.grow g1.wk) (.cons (o3.grow g1.wk) .nil))),_,rfl,hk _ _ ⟨g1,fun z=>?_,fun z=>?_⟩⟩⟩
     ·have e:WJ b.length (.tuple [d1,d2,d3])=false:=by cases ha:WJ b.length (.tuple [d1,d2,d3]) with|false=>rfl|true=>rw[ha] at z;cases z
      show(WJ b.length (.tuple [d1,d2,d3]) && _)=false;rw[e];rfl
     ·have e:WJ b.length (.tuple [d1,d2,d3])=true:=by cases ha:WJ b.length (.tuple [d1,d2,d3]) with|true=>rfl|false=>rw[ha] at z;cases z
      exact⟨r,v1,v2,v3,v4,v5,v6,d1,d2,d3,d4,d5,d6,rfl,rfl,hs,o4,o5,o6,e⟩
   ·have e:vg b.length (.tuple ds)=false:=by
     unfold vg;split
     ·rename_i z;injection z with z;rw[z] at h6;exact absurd rfl h6
     ·rfl
    exact wy (by rw[decide_eq_false fun w=>h6 (by have:=V.int.inj w;omega)];rfl) (hk _ _ ⟨Grow.refl _ _,(fun _=>e),fun z=>nomatch z⟩)
 rintro t H1 ⟨g1,h1,h2⟩;cases t with
 |true=>have:=q _ g1;rw[h1 rfl] at this;exact y7 this
 |false =>
  obtain⟨r,v1,v2,v3,v4,v5,v6,d1,d2,d3,d4,d5,d6,rfl,rfl,hs,o4,o5,o6,ea⟩:=h2 rfl;have e:vg b.length (.tuple [d1,d2,d3,d4,d5,d6])=(WJ b.length (.tuple [d1,d2,d3]) && (yA d4 && (yA d5 && (yA d6 && RT d4 d5)))):=rfl;rw[e,ea,mz] at q;refine yQ (wv ⟨_,rfl,_,rfl,r,_,rfl,g1.sqT hs,fun t2 H2 g2 h2=>⟨t2,_,rfl,(show SqT K H2 t2 [v4,v5,v6] from h2),rfl,_,_,rfl,_,_,rfl,_,_,rfl,rfl,?_⟩⟩);have G2:=g1.trans g2;have o4':=o4.grow (G2.wk (m:=m));have o5':=o5.grow (G2.wk (m:=m));have o6':=o6.grow (G2.wk (m:=m));have q':=q _ G2;refine⟨_,rfl,_,rfl,d4,m,o4',_,rfl,?_⟩;cases e4:yA d4 with
  |false=>rw[e4] at q';exact yQ q'
  |true =>
   rw[e4] at q';refine y7 ⟨_,rfl,_,rfl,d5,m,o5',_,rfl,?_⟩;cases e5:yA d5 with
   |false=>rw[e5] at q';exact yQ q'
   |true =>
    rw[e5] at q';refine y7 ⟨_,rfl,_,rfl,d6,m,o6',_,rfl,?_⟩;cases e6:yA d6 with
    |false=>rw[e6] at q';exact yQ q'
    |true =>
     rw[e6] at q';obtain⟨s,rfl⟩:=yL e4;obtain⟨t,rfl⟩:=yL e5;obtain rfl:=o4'.inv_int;obtain rfl:=o5'.inv_int;have q2:Q (.bl (decide (0<=s) && decide (s<=t))) H2:=q';refine y7 ⟨_,rfl,_,_,rfl,rfl,_,rfl,?_⟩;by_cases s0:0<=s
     ·rw[decide_eq_true s0] at q2;exact wy (decide_eq_true s0) ⟨_,rfl,_,_,rfl,rfl,q2⟩
     ·rw[decide_eq_false s0] at q2;exact yW (decide_eq_false s0) q2
theorem YF:FnScope ["thing"] ["thing"] (zf (top 28)):=⟨rfl,rfl,rfl,by decide +kernel,rfl,by decide +kernel,by decide +kernel⟩
theorem YG(F:Fun K "is_board" "is_board" (top 28) f fd)(B:Blt mg)(oH:zp P w K mg base n "is_whole" ["thing"] (yq K)){oM:Tok}(AX:mg "MOST_BOXES" = some (.int 16 oM))  :
  FnOk P w K mg base CX0 (n+1) f fd ["thing"] (u7 K):=by
 refine F.ok YF xI (fun og A outer s H vs Q E hr h=>?_);obtain⟨x,rfl,d,m,hd,hl,q⟩:=h;refine⟨_,(ze (yB (PW.pt (tS (yC (zZ (zm (yE (K:=K) rfl) rfl B.isinstance zo (za (pv 0) (za (wu rfl B.tuple yZ) zb))))) (vh (yC (Tx ZV ZV zg (zm zv rfl B.len wF (za (pv 0) zb)) (yb rfl AX (show zQ (.int 16) (.int 16 oM) from⟨_,rfl⟩))))))) (zi (zr xz)) zz) (zi (zr (zm (vS rfl) rfl B.all TF (za (y8 (CSc.of (N':=["value"]) (sub:=[none]) (zf (top 28)) ["thing"] rfl rfl (by decide +kernel) rfl) rfl (vP (pv 0)) (fun _ _ _ _ _ _=>zj (i:=0) (show(["value"]:List Str).Nodup by decide +kernel) rfl (bB rfl)) (fun _ _ _ _ _ _=>yv) (fun _ _ _ _ _ _=>(zn oH hr rfl (za (pv 0) zb)))) zb))))),?_⟩;refine vk (fun b H'=>H'=H/\(b=true->yt d=false)/\(b=false->∃(r:Addr) (xs:List V) (ds:List PyData),x=.ref r/\d=.tuple ds/\SqT K H r xs/\Ods K m H xs ds/\yt d=ds.all yA)) (fun Kk hk=>⟨_,rfl,_,d,m,_,_,rfl,hd,xv d,_,rfl,?_⟩) ?_
 ·cases ht:qV d with
  |false=>exact y7 (hk _ _ ⟨rfl,(fun _=>by cases d <;> first|rfl|cases ht),fun z=>nomatch z⟩)
  |true =>
   obtain⟨r,xs,ds,rfl,rfl,hs,os⟩:=wV hd ht;have xl:=os.length;refine yQ ⟨_,rfl,r,_,rfl,.inr hs,_,_,rfl,rfl,_,rfl,?_⟩;have e:yt (.tuple ds)=(decide (1<=ds.length) && (decide (ds.length<=16) && ds.all yA)):=rfl;by_cases h1:1<=ds.length
   ·refine wy (decide_eq_true (by omega)) ⟨_,_,rfl,rfl,_,rfl,?_⟩;by_cases h2:ds.length<=16
    ·exact hk _ _ ⟨rfl,(fun z=>absurd z (by rw[decide_eq_true (by omega)];decide)),fun _=>⟨r,xs,ds,rfl,rfl,hs,os,by rw[e,decide_eq_true h1,decide_eq_true h2];rfl⟩⟩
    ·exact hk _ _ ⟨rfl,(fun _=>by rw[e,decide_eq_false h2,decide_eq_true h1];rfl),fun z=>absurd z (by rw[decide_eq_false (by omega)];decide)⟩
   ·exact yW (decide_eq_false (by omega)) ⟨_,rfl,hk _ _ ⟨rfl,(fun _=>by rw[e,decide_eq_false h1];rfl),fun z=>nomatch z⟩⟩
 rintro b H ⟨rfl,hb1,hb2⟩;cases b with
 |true=>rw[hb1 rfl] at q;exact y7 (q _ (Grow.refl _ _))
 |false =>
  obtain⟨r,xs,ds,rfl,rfl,hs,os,eb⟩:=hb2 rfl;rw[eb] at q;have xl:=os.length;have AM:ds.length<=1000:=hl;refine yQ (wv ⟨_,rfl,r,rfl,⟨_,hs⟩,y3 (xs:=xs) (fun i ys H'=>ys=((ds.take i).map yA).map V.bl/\H'=H) ⟨rfl,rfl⟩ (fun i ys H' z=>by rw[z.2];exact hs) ?_ ?_⟩)
  ·rintro i x ys H' hx ⟨rfl,rfl⟩;obtain⟨e,he,oe⟩:=os.get hx;refine⟨_,rfl,_,rfl,e,m,oe,jY (by rw[aE,aE,bT];omega),?_,rfl⟩;rw[im,he,bZ,bZ];rfl
  ·rintro ys H' ⟨rfl,rfl⟩ l Do;rw[xl,dG];refine⟨l,ds.map yA,rfl,SqL.of zd,?_⟩;rw[iW];exact q _ (Grow.new Do _)
theorem jy:FnScope ["thing"] ["thing"] (zf (top 29)):=⟨rfl,rfl,rfl,by decide +kernel,rfl,by decide +kernel,by decide +kernel⟩
theorem jz(F:Fun K "need_board" "need_board" (top 29) f fd)(B:Blt mg){A_NoBoard:Addr}(nL:vn K mg "NoBoard" A_NoBoard)(oH:zp P w K mg base n "is_board" ["thing"] (u7 K))     :
  FnOk P w K mg base (CX1 P w) (n+1) f fd ["thing"] (xM A_NoBoard K):=by
 refine Fun.okX F jy S4 (fun og A outer s H vs Q E hr h=>?_);obtain⟨x,rfl,d,m,hd,hl,q⟩:=h;refine⟨_,(zi (yB (yC (zZ (zn oH hr rfl (za (pv 0) zb)))) (zi (wX rfl nL rfl xV uW)) zz)),?_⟩;refine⟨_,rfl,_,rfl,d,m,hd,hl,fun H1 g1=>⟨_,rfl,?_⟩⟩;cases hb:yt d with
 |true =>
  rw[hb,if_pos rfl] at q;exact yQ (q _ g1)
 |false =>
  rw[hb,if_neg (by decide)] at q;exact y7 fun e=>q e _ g1
theorem ZJ:FnScope ["board","thing"] ["board","thing"] (zf (top 36)):=⟨rfl,rfl,rfl,by decide +kernel,rfl,by decide +kernel,by decide +kernel⟩
theorem ZK(F:Fun K "are_calls" "are_calls" (top 36) f fd)(B:Blt mg){A_NoBoard:Addr}(nL:vn K mg "NoBoard" A_NoBoard)(oH:zp P w K mg base n "by_boxes" ["board","calls"] (tR K))(pP:zp P w K mg base n "is_call" ["board","thing"] (sR K))(BB:zF P w K mg base n "need_board" ["thing"] (xM A_NoBoard K)){oF:Tok}(Am:mg "MOST_AT_A_BOX" = some (.int 8 oF)){oN:Tok}(AY:mg "MOST_CALLS" = some (.int 40 oN))  :
  FnOk P w K mg base (CX1 P w) (n+1) f fd ["board","thing"] (jl A_NoBoard K):=by
 refine Fun.okX F ZJ uk (fun og A outer s H vs Q E hr h=>?_);obtain⟨x,y,rfl,db,dc,m,hx,hy,lb,lc,q⟩:=h;refine⟨_,(ze (xj (xp BB (wf fun _ _ _ z=>z) hr rfl (za (pv 0) zb))) (ze (yB (PW.pt (tS (yC (zZ (zm (yE (K:=K) rfl) rfl B.isinstance zo (za (pv 1) (za (wu rfl B.tuple yZ) zb))))) (vh (zw qJ (zm zv rfl B.len wF (za (pv 1) zb)) (yb rfl AY (show zQ (.int 40) (.int 40 oN) from⟨_,rfl⟩)) (zy _))))) (zi (zr xz)) zz) (ze (yB (yC (zZ (zm (vS rfl) rfl B.all TF (za (y8 (CSc.of (N':=["call","board"]) (sub:=[none,some 0]) (zf (top 36)) ["board","thing"] rfl rfl (by decide +kernel) rfl) rfl (vP (pv 1)) (fun _ _ _ _ _ _=>zj (i:=0) (show(["call","board"]:List Str).Nodup by decide +kernel) rfl (bB rfl)) (fun _ _ _ _ _ _=>yv) (fun _ _ _ _ _ _=>(zn pP hr rfl (za (pv 1) (za (pv 0) zb))))) zb)))) (zi (zr xz)) zz) (zi (zr (zm (vS rfl) rfl B.all TF (za (y8 (CSc.of (N':=["numbers"]) (sub:=[none]) (zf (top 36)) ["board","thing"] rfl rfl (by decide +kernel) rfl) rfl (vp (zn oH hr rfl (za (pv 0) (za (pv 1) zb)))) (fun _ _ _ _ _ _=>zj (i:=0) (show(["numbers"]:List Str).Nodup by decide +kernel) rfl (bB rfl)) (fun _ _ _ _ _ _=>yv) (fun _ _ _ _ _ _=>(yN ZV (zm (Vd (K:=K) rfl) rfl B.len wF (za (pv 0) zb)) (yb rfl Am (show zQ (.int 8) (.int 8 oF) from⟨_,rfl⟩)) (zy _)))) zb))))))),?_⟩;refine⟨_,rfl,_,rfl,db,m,hx,lb,?_⟩;cases hbp:yt db with
 |false =>
  rw[hbp,if_neg (by decide)] at q;rw[if_neg (by decide)];exact fun e H' g=>q e H' g
 |true =>
  rw[hbp,if_pos rfl] at q;rw[if_pos rfl];intro H0 g0;obtain⟨b,hb,bl,AJ,b1⟩:=Wp hx hbp;rw[bl] at q;have DA:=g0.board hb;have hy0:=hy.grow (g0.wk (m:=m));try dsimp only
  refine vk (fun t H'=>H'=H0/\(t=true->xk b.length dc=false)/\(t=false->∃(r:Addr) (xs:List V) (ds:List PyData),y=.ref r/\dc=.tuple ds/\SqT K H0 r xs/\Ods K m H0 xs ds/\ds.length<=40)) (fun Kk hk=>⟨_,rfl,_,dc,m,_,_,rfl,hy0,xv dc,_,rfl,?_⟩) ?_
  ·cases ht:qV dc with
   |false=>exact y7 (hk _ _ ⟨rfl,(fun _=>by cases dc <;> first|rfl|cases ht),fun z=>nomatch z⟩)
   |true =>
    obtain⟨r,xs,ds,rfl,rfl,hs,os⟩:=wV hy0 ht;have xl:=os.length;refine yQ ⟨_,rfl,r,_,rfl,.inr hs,_,_,rfl,rfl,_,rfl,hk _ _ ⟨rfl,fun z=>?_,fun z=>⟨r,xs,ds,rfl,rfl,hs,os,?_⟩⟩⟩
    ·have:¬ds.length<=40:=by have:=of_decide_eq_true z;omega
     show(decide (ds.length<=40) && _)=false;rw[decide_eq_false this];rfl
    ·have:=of_decide_eq_false z;omega
  rintro t H0 ⟨rfl,h1,h2⟩;cases t with
  |true=>have:=q _ g0;rw[h1 rfl] at this;exact y7 this
  |false =>
   obtain⟨r,xs,ds,rfl,rfl,hs,os,FD⟩:=h2 rfl;have xl:=os.length;have e:xk b.length (.tuple ds)=(ds.all (vg b.length) && Je b.length ds):=by show(decide (ds.length<=40) && _)=_;rw[decide_eq_true FD];rfl
   rw[e] at q;refine yQ (wv ?_);refine vk (fun t H'=>t=(!ds.all (vg b.length))/\Grow [] H0 H') (fun Kk hk=>⟨_,rfl,r,rfl,⟨_,hs⟩,y3 (xs:=xs) (fun i ys H'=>ys=((ds.take i).map (vg b.length)).map V.bl/\Grow [] H0 H') ⟨rfl,Grow.refl _ _⟩ (fun i ys H' ⟨_,g⟩=>g.sqT hs) ?_ ?_⟩) ?_
   ·rintro i x ys H' Ap ⟨rfl,g'⟩;obtain⟨d,hd,od⟩:=os.get Ap;refine⟨_,rfl,_,rfl,_,_,rfl,b,d,m,(g0.trans g').board hb,od.grow (g'.wk (m:=m)),fun H2 g2=>⟨jY (by rw[aE,aE,bT];omega),?_,g'.trans g2⟩⟩;rw[im,hd,bZ,bZ];rfl
   ·rintro ys H' ⟨rfl,g'⟩ l hl;rw[xl,dG];exact⟨l,ds.map (vg b.length),rfl,SqL.of zd,_,rfl,hk _ _ ⟨by rw[iW];rfl,g'.trans (Grow.new hl _)⟩⟩
   rintro _ H1 ⟨rfl,g1⟩;cases nP:ds.all (vg b.length) with
   |false=>have:=q _ (g0.trans g1);rw[nP] at this;exact y7 this
   |true =>
    rw[nP,mz] at q;obtain⟨cs,rfl,ok⟩:=uL nP;rw[aE] at FD;rw[sQ] at q;have CY:zE K H0 (.ref r) cs:=⟨r,xs,rfl,hs,sP os⟩
    refine yQ (wv ⟨_,rfl,_,rfl,_,_,rfl,b,cs,(g0.trans g1).board hb,g1.calls72 CY,AJ,FD,ok,fun l zs H2 g2 nlx Ai hz=>?_⟩);have nl:((aF b.length).map (vm cs)).length=b.length:=by rw[aE,aS]
    have hn:∀j:Nat,j<b.length->(((aF b.length).map (vm cs)).getD j []).length=vY (j:Int) cs:=fun j hj=>by
     rw[aH,bE,cG hj];exact v9
    refine⟨l,rfl,⟨_,SqL.of Ai⟩,uw (xs:=zs) (fun i ys H'=>ys=((aF i).map fun j:Nat=>decide (vY (j:Int) cs<=8)).map V.bl/\H'=H2) ⟨rfl,rfl⟩ (fun i ys H' z=>by rw[z.2];exact SqL.of Ai) ?_ ?_⟩
    ·rintro i x ys H' Ap ⟨rfl,rfl⟩;have hi:=(aL.mp Ap).1;have zl:=hz.len;obtain⟨ks,D4,a,rfl,hA⟩:=hz.get Ap;have hk:=hn i (by omega);rw[aH,D4] at hk;have oU:ks.length=vY (i:Int) cs:=hk;refine⟨_,rfl,a,_,rfl,.inl (SqL.of hA),_,_,rfl,rfl,jY (by rw[aE,aE,aS];omega),?_,rfl⟩;rw[fB,bZ,bZ];have e8:decide (((zC ks).length:Int)<=8)=decide (vY (i:Int) cs<=8):=by rw[z6,oU,decide_eq_decide];omega
     show _++[V.bl (decide (((zC ks).length:Int)<=8))]=_;rw[e8];rfl
    ·rintro ys H' ⟨rfl,rfl⟩ l' AM;have zl:=hz.len;refine⟨l',_,rfl,SqL.of zd,?_⟩;rw[iW,show zs.length=b.length by omega];exact q _ (g0.trans (g1.trans (g2.trans (Grow.new AM _))))
theorem jA:FnScope ["board","thing"] ["board","thing"] (zf (top 37)):=⟨rfl,rfl,rfl,by decide +kernel,rfl,by decide +kernel,by decide +kernel⟩
theorem jB(F:Fun K "need_calls" "need_calls" (top 37) f fd)(B:Blt mg){A_NoBoard:Addr}{A_NoCalls:Addr}(nL:vn K mg "NoBoard" A_NoBoard)(nO:vn K mg "NoCalls" A_NoCalls)(oH:zF P w K mg base n "are_calls" ["board","thing"] (jl A_NoBoard K))     :
  FnOk P w K mg base (CX1 P w) (n+1) f fd ["board","thing"] (xr A_NoBoard A_NoCalls K):=by
 refine Fun.okX F jA uk (fun og A outer s H vs Q E hr h=>?_);obtain⟨x,y,rfl,db,dc,m,hx,hy,lb,lc,Bl,q⟩:=h;refine⟨_,(zi (yB (yC (zZ (xp oH (wf fun _ _ _ z=>z) hr rfl (za (pv 0) (za (pv 1) zb))))) (zi (wX rfl nO rfl xV uW)) zz)),?_⟩;refine⟨_,rfl,_,rfl,_,_,rfl,db,dc,m,hx,hy,lb,lc,?_⟩;cases hb:yt db with
 |false =>
  rw[if_neg (by decide)];exact fun e H' g=>Bl.1 hb e H' g
 |true =>
  rw[if_pos rfl];intro H' g;refine⟨_,rfl,?_⟩;cases hc:xk (wA db) dc with
  |true=>exact yQ (q hb hc H' g)
  |false=>exact y7 fun e=>Bl.2 hb hc e _ g
theorem Q8:FnScope ["board","calls","order"] ["board","calls","order"] (zf (top 42)):=⟨rfl,rfl,rfl,by decide +kernel,rfl,by decide +kernel,by decide +kernel⟩
theorem Q9(F:Fun K "fits" "fits" (top 42) f fd)(B:Blt mg){A_NoBoard:Addr}{A_NoCalls:Addr}(nL:vn K mg "NoBoard" A_NoBoard)(nO:vn K mg "NoCalls" A_NoCalls)(oH:zp P w K mg base n "fits_these" ["board","calls","numbers","order"] (uN K))(pP:zF P w K mg base n "need_calls" ["board","thing"] (xr A_NoBoard A_NoCalls K))     :
  FnOk P w K mg base (CX1 P w) (n+1) f fd ["board","calls","order"] (sT A_NoBoard A_NoCalls K):=by
 refine Fun.okX F Q8 tQ (fun og A outer s H vs Q E hr h=>?_);obtain⟨x,y,z,rfl,db,dc,d,m,hx,hy,hd,lb,lc,fl,Bl,q⟩:=h;refine⟨_,(ze (xj (xp pP (wf fun _ _ _ z=>z) hr rfl (za (pv 0) (za (pv 1) zb)))) (zi (zr (zn oH hr rfl (za (pv 0) (za (pv 1) (za (wI rfl rfl B.list rfl B.range (za (zm zv rfl B.len wF (za (pv 1) zb)) zb)) (za (pv 2) zb)))))))),?_⟩;refine⟨_,rfl,_,rfl,_,_,rfl,db,dc,m,hx,hy,lb,lc,Bl,fun h1 h2 H1 g1=>?_⟩;obtain⟨b,cs,gd⟩:=zaG hx hy h1 h2
 replace q:=q b cs gd
 obtain⟨hb,b1,AJ,bl,hc,ok,_⟩:=gd;obtain⟨rc,xs,rfl,o8,nP⟩:=id hc;have xl:=nP.len;have cl:=ok.len;refine⟨_,rfl,_,rfl,_,rfl,rc,_,rfl,.inr (g1.sqT o8),xs.length,rfl,by omega,fun l Do=>?_⟩;have gl:=Grow.new (m:=[]) Do (.lst ((aF xs.length).map fun i:Nat=>V.int i));refine⟨_,rfl,_,_,_,_,rfl,b,cs,aF cs.length,d,m,(g1.trans gl).board hb,(g1.trans gl).calls72 hc,⟨l,rfl,?_⟩,fo,(fun k hk=>bN.mp hk),by rw[aS];exact cl,hd.grow (g1.trans gl).wk,ok.ok,fl,fun bb H2 g2 h2=>q _ _ (g1.trans (gl.trans g2)) h2⟩;rw[←xl];exact SqL.of zd
theorem xZ:FnScope ["calls","orders","left","together","ended","number","own"] ["calls","orders"] (zf (top 47)):=⟨rfl,rfl,rfl,by decide +kernel,rfl,by decide +kernel,by decide +kernel⟩
theorem Tl(F:Fun K "merged" "merged" (top 47) f fd)(B:Blt mg)(oZ:mg "sorted" = none)(n6:mg "enumerate" = none)   :
  FnOk P w K mg base CX0 (n+1) f fd ["calls","orders"] (vH K):=by
 refine F.ok xZ y0 (fun og A outer s H vs Q E hr h=>?_);obtain⟨x,y,rfl,cs,l,vs,os,hc,rfl,hl,AI,ok,o16,o40,q⟩:=h;refine⟨_,(ze (vU (i:=2) xZ.nd rfl rfl (CSc.of (N':=["order"]) (sub:=[none]) (zf (top 47)) ["calls","orders","left","together","ended","number","own"] rfl rfl (by decide +kernel) rfl) rfl (QW (vp (pv 1)) (vP (pv 1))) (fun _ _ _ _ _ _=>zj (i:=0) (show(["order"]:List Str).Nodup by decide +kernel) rfl (bB rfl)) (fun _ _ _ _ _ _=>yv) (fun _ _ _ _ _ _=>(yD (XS (K:=K) rfl) rfl B.list t4 (za (pv 0) zb)))) (ze (zx (i:=3) xZ.nd rfl (bB rfl) (yO zb)) (ze (xS PassesOwn.never rfl (vp (zm (Yf (K:=K) rfl) rfl oZ qM (za (y8 (CSc.of (N':=["number","call"]) (sub:=[none,none]) (zf (top 47)) ["calls","orders","left","together","ended","number","own"] rfl rfl (by decide +kernel) rfl) rfl (tM true (K:=K) rfl rfl n6 (za (pv 0) zb)) (fun _ _ _ _ _ _=>Vp (K:=K) 2 rfl rfl (zk (zj (i:=0) (show(["number","call"]:List Str).Nodup by decide +kernel) rfl (bB rfl) (lh rfl)) (zk (zj (i:=1) (show(["number","call"]:List Str).Nodup by decide +kernel) rfl (bB rfl) (lh rfl)) yc)) rfl rfl) (fun _ _ _ _ _ _=>yv) (fun _ _ _ _ _ _=>(yz (za (zU (wH (K:=K) rfl) (pv 1) zg (fun _ _=>rfl)) (za (pv 0) zb))))) zb))) (xf rfl (zk (zj (i:=4) xZ.nd rfl (bB rfl)) (zk (zj (i:=5) xZ.nd rfl (bB rfl)) yc))) (ze (zx (i:=6) xZ.nd rfl (bB rfl) (zU zY (pv 2) (zU yP (zU yP (pv 0) (pv 5) (fun _ _=>rfl)) zg (fun _ _=>rfl)) (fun _ _=>rfl))) (zi (Tq PassesOwn.never (zw tW (pv 5) (pv 6) (by with_unfolding_all rfl)) (zi (xj (W5 fU hJ hV vQ (pv 3) (za (W5 fU PySem.F.slot_list_pop PySem.F.type_list_pop TC (pv 6) (za zg zb)) zb)))))))) (zi (zr (yD xo rfl B.tuple yZ (za (pv 3) zb))))))),?_⟩;obtain⟨rc,xs,rfl,o8,nP⟩:=id hc;have xl:=nP.len;have vl:=AI.len;refine yg (fun v H'=>∃(ll:Addr) (as:List Addr),v=.ref ll/\H' ll=some (.lst (as.map V.ref))/\ll∉as/\H ll=none/\as.Nodup/\(∀a∈as,H a=none)/\Bx72 H' as os/\Grow [] H H') (fun Kk hk=>(UY hl (fun i ys H'=>∃as:List Addr,ys=as.map V.ref/\as.length=i/\as.Nodup/\(∀a∈as,H a=none)/\Bx72 H' as (os.take i)/\Grow [] H H') ⟨[],rfl,rfl,lY,(fun a h=>nomatch h),⟨rfl,fun j a h=>by cases h⟩,Grow.refl _ _⟩ (fun i ys H' ⟨_,_,_,_,_,_,g⟩=>g) ?_ ?_).imp (fun h=>⟨_,rfl,l,rfl,h⟩) fun h=>⟨_,rfl,l,rfl,h⟩) ?_
 ·rintro i v ys H' hv ⟨as,rfl,al,nd,ha,bx,g⟩;obtain⟨o,ho,r,rfl,hr⟩:=AI.get hv;have hi:=(aL.mp hv).1;refine⟨_,rfl,r,_,rfl,.inr (g.sqT hr),fun a h0=>⟨jY (by rw[aE];omega),as++[a],by rw[bZ];rfl,by rw[bD,cZ,al],?_,?_,⟨?_,?_⟩,g.trans (Grow.new h0 _)⟩⟩
  ·refine gS.mpr ⟨nd,by simp,fun x hx y hy=>?_⟩;rw[aR.mp hy];rintro rfl;obtain⟨j,hj⟩:=fS hx;rw[bx.at_ j x hj] at h0;cases h0
  ·intro x hx;rcases bH.mp hx with hx|hx
   ·exact ha x hx
   ·rw[aR.mp hx];exact g.free (by simp) h0
  ·rw[yh ho,bD,bD,bx.len];rfl
  ·rw[yh ho];intro j a' h';have tl:(os.take i).length=as.length:=bx.len;by_cases e:j<as.length
   ·rw[dL e] at h';have:=bx.at_ j a' h';rw[zq (zt this h0),this,aH,aH,dL (by omega)]
   ·have e2:j=as.length:=by
     have:=(aL.mp h').1;rw[bD,cZ] at this;omega
    subst e2;rw[dF (aG _),mO] at h';cases h';rw[zd,aH,dF (by omega),tl,mO];rfl
 ·rintro ys H' ⟨as,rfl,al,nd,ha,bx,g⟩ ll hll;rw[vl,dG] at bx;refine hk _ _ ⟨ll,as,rfl,zd,fun z=>?_,g.free (by simp) hll,nd,ha,⟨bx.len,fun j a h=>?_⟩,g.trans (Grow.new hll _)⟩
  ·obtain⟨j,hj⟩:=fS z;rw[bx.at_ j ll hj] at hll;cases hll
  ·have:=bx.at_ j a h;rw[zq (zt this hll)];exact this
 rintro _ H0 ⟨ll,as,rfl,hll,nll,hll0,nd,ha,bx0,g0⟩;refine yg (fun v H'=>∃lt,v=.ref lt/\H0 lt=none/\H'=upd H0 lt (.lst [])) (fun Kk hk=>⟨szl rfl,fun lt n5=>hk _ _ ⟨lt,rfl,n5,rfl⟩⟩) ?_;rintro _ _ ⟨lt,rfl,n5,rfl⟩;have gt:=Grow.new (m:=[]) n5 (.lst []);have nt:lt≠ll:=fun z=>by rw[z,hll] at n5;cases n5
 have nta:lt∉as:=fun z=>by
  obtain⟨j,hj⟩:=fS z;rw[bx0.at_ j lt hj] at n5;cases n5
 have Iy:=g0.free (by simp) n5;have FE:=gt.keep _ _ (by simp) hll;have GA:Bx72 (upd H0 lt (.lst [])) as os:=⟨bx0.len,fun j a h=>gt.keep _ _ (by simp) (bx0.at_ j a h)⟩
 have Eg:=zd (H:=H0) (a:=lt) (o:=.lst []);have g1:=g0.trans gt;generalize upd H0 lt (.lst [])=H1 at FE GA Eg g1 ⊢;have rl:(xW cs).length=cs.length:=by unfold xW;rw[aE,aS]
 have al:as.length=os.length:=bx0.len.symm;refine⟨_,rfl,rc,_,rfl,g1.sqT o8,rZ (c:=true) (xs:=xs) (fun i ys σ' H'=>(∃e0 e1:Option V,σ'=[e0,e1])/\Grow [] H1 H'/\yG (yj K H') ys ((xW cs).take i)) ⟨⟨_,_,rfl⟩,Grow.refl _ _,trivial⟩ (fun i ys σ' H' z=>((g1.trans z.2.1).sqT o8:SqT K H' rc xs)) ?_ ?_⟩
 ·rintro i v ys σ' H2 T hv ⟨⟨e0,e1,rfl⟩,g2,hy⟩ hT;obtain⟨c,Dq,Cz⟩:=nP.get hv;have hi:=(aL.mp Dq).1;obtain⟨rz,rd,rfl,sz,_⟩:=(g1.trans g2).call72 Cz;have gT:=Grow.new (m:=[]) hT (.tup [.int i,.ref rz]);have CA:=zd (H:=H2) (a:=T) (o:=.tup [.int i,.ref rz]);have szT:=gT.sqT sz;generalize upd H2 T _=H3 at gT CA szT ⊢;refine⟨T,_,rfl,SqT.of CA,rfl,_,_,rfl,_,_,rfl,rfl,?_⟩;refine⟨_,rfl,rz,_,4,.int c.ended,rfl,rfl,szT,zH (j:=4) rfl,_,rfl,szl rfl,fun t ht=>⟨?_,⟨_,_,rfl⟩,g2.trans (gT.trans (Grow.new ht _)),?_⟩⟩
  ·rw[hy.len,bT,rl];exact jY (by have:=ok.len;omega)
  ·rw[yh (x:=[c.ended,(i:Int)]) (by unfold xW;rw[bE,cG hi];show some [(cg cs i).ended,(i:Int)]=_;rw[yn Dq])];refine yG.app (hy.imp fun _ _ z=>(gT.trans (Grow.new ht _)).board z) (yG.one ⟨t,rfl,SqT.of ?_⟩);rw[zd];rfl
 rintro ys σ' H2 ⟨_,g2,hy⟩ l2 Ai;rw[xl,dv (by rw[rl];exact aG _)] at hy;have Iz:=Grow.new (m:=[]) Ai (.lst ys);refine⟨l2,ys,xW cs,rfl,SqL.of zd,hy.imp fun _ _ z=>Iz.board z,Zo,(fun r hr=>by obtain⟨k,_,rfl⟩:=bI.mp hr;exact fun z=>by cases z),by rw[rl];have:=ok.len;omega,fun l3 Cc rows' Bs Ae FF hzs=>?_⟩;have so:xL cs:=⟨rows',Ae,FF⟩
 have es:wz cs=rows'.map fun r=>(r.getD 1 0).toNat:=by unfold wz;rw[sI Ae FF]
 have gn3:=Grow.new (m:=[]) Bs (.lst Cc);have Eh:=zd (H:=upd H2 l2 (.lst ys)) (a:=l3) (o:=.lst Cc);have g3:Grow [] H1 (upd (upd H2 l2 (.lst ys)) l3 (.lst Cc)):=g2.trans (Iz.trans gn3);have Dr:yG (yj K (upd (upd H2 l2 (.lst ys)) l3 (.lst Cc))) Cc rows':=hzs.imp fun _ _ z=>gn3.board z;have n3:∀a,a∈lt::as->l3≠a:=fun a h z=>by
  have k:∀o,H1 a=some o->False:=fun o e=>by
   rw[z,(g2.trans Iz).keep _ _ (by simp) e] at Bs;cases Bs
  rcases aK.mp h with rfl|h
  ·exact k _ Eg
  ·obtain⟨j,hj⟩:=fS h;exact k _ (GA.at_ j a hj)
 generalize upd (upd H2 l2 (.lst ys)) l3 (.lst Cc)=H3 at g3 Eh Dr ⊢;have IA:ll∉lt::as:=fun z=>by
  rcases aK.mp z with z|z
  ·exact nt z.symm
  ·exact nll z
 have IB:∀j,(os.getD j []).length<=40:=fun j=>by
  rw[aH];cases e:os[j]? with
  |none=>exact cw _
  |some o=>exact o40 o (bA e)
 have bx3:Bx72 H3 as os:=⟨GA.len,fun j a h=>g3.keep _ _ (by simp) (GA.at_ j a h)⟩
 refine⟨l3,rfl,⟨_,SqL.of Eh⟩,YS (xs:=Cc) (fun i σ H'=>∃(e4 e5 e6:Option V) (lf:List (List Nat)) (tg:List Nat),σ=[some (.ref rc),some (.ref l),some (.ref ll),some (.ref lt),e4,e5,e6]/\Grow (lt::as) H3 H'/\H' lt=some (.lst (zC tg))/\Bx72 H' as lf/\(((wz cs).take i).foldl (yK cs) (os,[]))=(lf,tg)/\lf.length=os.length/\(∀j,(lf.getD j []).length<=40)/\tg.length<=i*40) ⟨_,_,_,os,[],rfl,Grow.refl _ _,g3.keep _ _ (by simp) Eg,bx3,rfl,rfl,IB,cw _⟩ (fun i σ H' _ z=>by obtain⟨_,_,_,_,_,_,g,_⟩:=z;exact SqL.of (g.keep _ _ (fun z=>n3 _ z rfl) Eh)) ?_ ?_⟩
 ·rintro i v σ H4 hv ⟨e4,e5,e6,lf,tg,rfl,g4,hlt4,bx4,AL,lfl,lf40,tg40⟩;obtain⟨row,Dk,rz,rfl,hrz⟩:=Dr.get hv;obtain⟨k,hk,rfl⟩:=bI.mp (Ae.mem_iff.mp (bA Dk));have oU:k<cs.length:=bN.mp hk;have hsk:(wz cs)[i]?=some k:=by
   rw[es,bE,Dk];show some ((k:Int)).toNat=_;rw[bL]
  have Cr:((wz cs).take (i+1)).foldl (yK cs) (os,[])=yK cs (lf,tg) k:=by rw[yh hsk,iJ,AL];rfl
  obtain⟨zc,IC,rzc,rd,rfl,sz,_⟩:=nP.getR (aC oU);have ec:cg cs k=cs[k]:=yn (aC oU);rw[←ec] at sz;have oc:=Uj ok oU;have b0:=oc.b0;have b1:=oc.b1;generalize hX:(cg cs k).box.toNat=X;have GB:(cg cs k).box=(X:Int):=by rw[←hX];exact(eO b0).symm
  have hXl:X<as.length:=by omega
  have EK:as[X]?=some as[X]:=aC hXl;generalize as[X]=a at EK;have ama:=bA EK;have FG:a≠lt:=fun z=>nta (by rw[←z];exact ama);have G4:Grow (lt::as) H H4:=((g1.trans g3).wk.trans g4)
  have ID:=(g3.trans (Grow.refl _ _)).keep _ _ (by simp) FE;have IE:=g4.keep _ _ IA ID;refine⟨rz,_,rfl,g4.sqT hrz,rfl,_,_,rfl,_,_,rfl,rfl,?_⟩;try dsimp only
  refine yg (fun v H'=>v=.ref a/\H'=H4) (fun Kk hk=>⟨_,rfl,_,rfl,_,rfl,rc,_,_,.ref rzc,rfl,rfl,G4.sqT o8,zH IC,rzc,_,1,.int (cg cs k).box,rfl,rfl,G4.sqT sz,zH (j:=1) rfl,ll,_,_,.ref a,rfl,rfl,SqL.of IE,by rw[GB];exact zH (by rw[bE,EK];rfl),hk _ _ ⟨rfl,rfl⟩⟩) ?_;rintro _ H4 ⟨rfl,rfl⟩;have ms0:yK cs (lf,tg) k=(lf.set X (yS k (lf.getD X []) tg).1,(yS k (lf.getD X []) tg).2):=by
   unfold yK;show(lf.set (cg cs k).box.toNat (yS k (lf.getD (cg cs k).box.toNat []) tg).1,(yS k (lf.getD (cg cs k).box.toNat []) tg).2)=_;rw[hX]
  have lX:X<lf.length:=by omega
  have BV:Cc.length<=40:=by
   have:=Dr.len;have h2:=Ae.length_eq;rw[rl] at h2;have:=ok.len;omega
  refine Tt (fun σ H'=>∃(e4:Option V) (own CB:List Nat),σ=[some (.ref rc),some (.ref l),some (.ref ll),some (.ref lt),e4,some (.int (k:Int)),some (.ref a)]/\Grow (lt::as) H3 H'/\H' lt=some (.lst (zC CB))/\Bx72 H' as (lf.set X own)/\yS k own CB=yS k (lf.getD X []) tg/\own.length+CB.length=(lf.getD X []).length+tg.length/\own.length<=40) (fun _ H'=>match H' a with|some (.lst xs)=>xs.length|_=>0) ⟨_,lf.getD X [],tg,rfl,g4,hlt4,?_,rfl,rfl,lf40 X⟩ ?_ ?_
  ·have e:lf.set X (lf.getD X [])=lf:=by
    refine gU fun j=>?_;by_cases c:X=j
    ·subst c;rw[dY lX,aH,aC lX];rfl
    ·rw[fb c]
   rw[e];exact bx4
  ·rintro σ H5 ⟨e4,own,CB,rfl,g5,hlt5,bx5,Ef,nR,o40'⟩;have pW:H5 a=some (.lst (zC own)):=by
    have:=bx5.at_ X a EK;rwa[yw lX] at this
   refine⟨_,rfl,_,rfl,a,zC own,rfl,.inl (SqL.of pW),rfl,qW own,_,rfl,?_⟩;rw[if_neg (by decide),We];by_cases c:k∈own
   ·rw[decide_eq_true c];refine y7 ?_;cases own with
    |nil=>cases c
    |cons x own =>
     have g6:Grow (lt::as) H5 (upd H5 a (.lst (zC own))):=Grow.set pW (aX _ ama) _;have FH:upd H5 a (.lst (zC own)) lt=some (.lst (zC CB)):=by rw[zq (Ne.symm FG)];exact hlt5
     have g7:Grow (lt::as) (upd H5 a (.lst (zC own))) (upd (upd H5 a (.lst (zC own))) lt (.lst (zC CB++[.int (x:Int)]))):=Grow.set FH (bM ..) _;have ta:upd (upd H5 a (.lst (zC own))) lt (.lst (zC CB++[.int (x:Int)])) a=some (.lst (zC own)):=by rw[zq FG,zd]
     refine⟨_,rfl,.inl ⟨rfl,_,SqL.of hlt5⟩,_,rfl,.inl ⟨rfl,_,SqL.of pW⟩,a,zC (x::own),0,0,.int (x:Int),rfl,rfl,pW,by decide,by decide,PySem.StrLaws.seqIndex_nonneg (by omega) (by rw[z6];simp),rfl,lt,zC CB,.int (x:Int),rfl,rfl,FH,?_,?_⟩
     ·rw[z6];have h1:=lf40 X;have h2:=(aL.mp hv).1;have h3:i*40<=40*40:=gQ 40 (by omega);exact jY (by omega)
     refine⟨⟨e4,own,CB++[x],rfl,g5.trans (g6.trans g7),by rw[zd,vX];rfl,⟨?_,fun j a' h'=>?_⟩,by rw[←Ef,SK c],?_,?_⟩,?_⟩
     ·rw[cT];exact(cT (as:=lf) (i:=X)).symm.trans bx5.len
     ·have na':a'≠lt:=fun z=>nta (by rw[←z];exact bA h');rw[zq na'];by_cases e:j=X
      ·subst e;cases h'.symm.trans EK;rw[zd,yw lX];rfl
      ·have ne:a'≠a:=fun z=>e (by
        have h1:as[j]?=as[X]?:=by rw[h',EK,z]
        exact(mv (aL.mp h').1 nd).mp h1)
       have:=bx5.at_ j a' h';rw[z7 (fun z=>e z.symm)] at this;rw[zq ne,this,z7 (fun z=>e z.symm)]
     ·rw[bD];simp only[cJ,eX] at nR ⊢;omega
     ·rw[cJ] at o40';omega
     ·show(match upd (upd H5 a (.lst (zC own))) lt (.lst (zC CB++[.int (x:Int)])) a with|some (.lst xs)=>xs.length|_=>0)<(match H5 a with|some (.lst xs)=>xs.length|_=>0);rw[ta,pW];show(zC own).length<(zC (x::own)).length;rw[z6,z6];exact il _
   ·rw[decide_eq_false c];refine yQ ?_;rw[Ut c] at Ef;refine⟨_,_,_,lf.set X own,CB,rfl,g5,hlt5,bx5,?_,by rw[cT];exact lfl,fun j=>?_,?_⟩
    ·rw[Cr,ms0,←Ef]
    ·by_cases e:j=X
     ·rw[e,yw lX];exact o40'
     ·rw[z7 (fun z=>e z.symm)];exact lf40 j
    ·have h1:=lf40 X;rw[Nat.add_mul];omega
  ·rintro σ H' Q1 Q2 hQ h;obtain⟨x1,e1,x2,e2,p,ys,f1,hq,f2,f3,k,hk,h⟩:=h;exact⟨x1,e1,x2,e2,p,ys,f1,hq,f2,f3,k,hk,hQ _ _ h⟩
 ·rintro σ H4 ⟨e4,e5,e6,lf,tg,rfl,g4,hlt4,bx4,AL,lfl,lf40,tg40⟩;have zl:Cc.length=(wz cs).length:=by rw[es,aE];exact Dr.len
  rw[zl,dG] at AL;refine⟨_,rfl,lt,_,rfl,.inl ⟨SqL.of hlt4,fun r hr=>q _ _ ?_ so ⟨r,rfl,?_⟩⟩⟩
  ·refine(Grow.shrinkL (fun a h=>?_) (((g1.trans g3).wk.trans g4):Grow (lt::as) H H4)).trans (Grow.new hr _);rcases aK.mp h with rfl|h
   ·exact Iy
   ·exact ha a h
  ·unfold y4;rw[AL];exact SqT.of zd
theorem zD:FnScope ["calls","masks","reached","following","taken","values","order","number","mask","hand","box","deed","begun","ended","answer","may_follow","left"] ["calls","masks","reached"] (zf (top 45)):=⟨rfl,rfl,rfl,by decide +kernel,rfl,by decide +kernel,by decide +kernel⟩
theorem YH(F:Fun K "one_more" "one_more" (top 45) f fd)(B:Blt mg)(oH:zp P w K mg base n "made" ["deed","value"] (ZZ K))     :
  FnOk P w K mg base CX0 (n+1) f fd ["calls","masks","reached"] (Xg P w K):=by
 refine F.ok zD t5 (fun og A outer s H vs Q E hr h=>?_);obtain⟨x,y,z,rfl,cs,m,am,ms,ar,kvs,E,hc,rfl,hm,rfl,Gu,ne,kc,es,ok,ev,few,q⟩:=h;refine⟨_,(ze (zx (i:=3) zD.nd rfl (bB rfl) (SA (P:=P) (w:=w) ptI ptT rfl rfl)) (ze (xS PassesOwn.never rfl (V7 (pv 2)) (xf rfl (zk (xf rfl (zk (zj (i:=4) zD.nd rfl (bB rfl)) (zk (zj (i:=5) zD.nd rfl (bB rfl)) yc))) (zk (zj (i:=6) zD.nd rfl (bB rfl)) yc))) (zi (xS PassesOwn.never rfl (V7 (pv 1)) (xf rfl (zk (zj (i:=7) zD.nd rfl (bB rfl)) (zk (zj (i:=8) zD.nd rfl (bB rfl)) yc))) (ze (xR (zU yP (pv 0) (pv 7) (fun _ _=>rfl)) (xf rfl (zk (zj (i:=9) zD.nd rfl (bB rfl)) (zk (zj (i:=10) zD.nd rfl (bB rfl)) (zk (zj (i:=11) zD.nd rfl (bB rfl)) (zk (zj (i:=12) zD.nd rfl (bB rfl)) (zk (zj (i:=13) zD.nd rfl (bB rfl)) (zk (zj (i:=14) zD.nd rfl (bB rfl)) yc)))))))) (ze (zx (i:=15) zD.nd rfl (bB rfl) (xC (yN wx (zR Rp (zR Jp (pv 4) (pv 7)) zg) zg (zy _)) (wp (yN wx (zR Rp (pv 8) (pv 4)) (pv 8) (zy _))))) (zi (yB (PW.pt (wB (zZ (pv 15)) (xF (zw wx (zU yP (pv 5) (pv 10) (fun _ _=>rfl)) (pv 14) (zy _))))) (ze (zx (i:=16) zD.nd rfl (bB rfl) (zR (wb (K:=K) rfl) (zR (wb (K:=K) rfl) (y6 (xJ (K:=K) rfl) (pv 5) xH (xt (pv 10))) (yz (za (zn oH hr rfl (za (pv 11) (za (pv 14) zb))) zb))) (y6 (xJ (K:=K) rfl) (pv 5) (xt (zR tT (pv 10) zg)) xH))) (zi (SB (p1:=ptI) (p2:=ptT) (P:=P) (w:=w) (K:=K) rfl rfl rfl (Room.u2 hr) (pv 3) (yz (za (zR zaY (pv 4) (zR Ro zg (pv 7))) (za (pv 16) zb))) (zR (wb (K:=K) rfl) (pv 6) (yz (za (pv 7) zb))) rfl))) zz))))))) (zi (zr (pv 3))))),?_⟩;obtain⟨rc,xs,rfl,o8,nP⟩:=id hc;refine yg (fun v H'=>∃d,v=.ref d/\H d=none/\H'=upd H d (ndO ptI ptT P w d [])) (fun Kk hk=>fun d hd=>hk _ _ ⟨d,rfl,hd,rfl⟩) ?_;rintro _ _ ⟨d,rfl,hd,rfl⟩;have g0:=Grow.new (m:=[]) hd (ndO ptI ptT P w d []);have CU:=zd (H:=H) (a:=d) (o:=ndO ptI ptT P w d []);have GC:d≠ar:=fun z=>by rw[z,Gu] at hd;cases hd
 have IF:d≠am:=fun z=>by
  rw[z] at hd;rcases hm with h|⟨o,h⟩ <;> rw[h] at hd <;> cases hd
 have FI:=g0.keep _ _ (by simp) Gu;have GD:Rd (upd H d (ndO ptI ptT P w d [])) am (.dK (yY ms)):=hm.imp (fun z=>g0.keep _ _ (by simp) z) fun⟨o,z⟩=>⟨o,g0.keep _ _ (by simp) z⟩
 generalize upd H d _=H0 at g0 CU FI GD ⊢;refine⟨_,rfl,ar,_,_,rfl,J5 P w ar kvs,.inl FI,fun o H1 IG g1 GE=>?_⟩;have om1:Om73 P w K H am ar d o ms kvs [] H1:=⟨g0.wk.trans (g1.mono (by simp)),IG,GD.imp (fun z=>by rw[GE am ne];exact z) fun⟨o,z⟩=>⟨o,g1.frz _ _ _ z⟩,[],by rw[GE d GC];exact CU,nofun,.nil⟩
 refine J8 (fun i σ H'=>(∃e4 e5 e6,zby σ (some (.ref rc)) (some (.ref am)) (some (.ref ar)) (some (.ref d)) e4 e5 e6)/\Om73 P w K H am ar d o ms kvs ((E.take i).foldl (z8 cs ms) []) H') ⟨⟨_,_,_,_,_,_,_,_,_,_,_,_,_,rfl⟩,om1⟩ (fun i σ H' _ z=>z.2.r) ?_ ?_
 ·rintro i p T σ H2 hp hT ⟨⟨e4,e5,e6,e7,e8,e9,Cd,DF,DG,Fn,Fo,Fp,EG,rfl⟩,om2⟩;rw[bE] at hp;obtain⟨x,hx,rfl⟩:=eF.mp hp;obtain⟨e,he,hk,hn⟩:=es.get hx;obtain⟨v1,v2,hb,hv1,Cb⟩:=kc x (bA hx);rw[hk] at hv1 Cb;obtain rfl:v1=V.int (e.1.1:Int):=hv1;obtain⟨rv,rfl,hrv⟩:=Cb;obtain⟨ro,ero,GF⟩:=hn;rw[ero];have hi:=(aL.mp he).1;have IH:=ev e (bA he);have gT:=Grow.new (m:=[]) hT (.tup [V.ref x.2.1,.ref ro]);have Ei:=om2.grow gT;have CA:=zd (H:=H2) (a:=T) (o:=.tup [V.ref x.2.1,.ref ro]);generalize upd H2 T _=H3 at gT Ei CA ⊢;refine⟨T,_,rfl,SqT.of CA,rfl,_,_,rfl,x.2.1,_,rfl,Ei.g.sqT hb,rfl,_,_,rfl,_,_,rfl,rfl,_,_,rfl,rfl,?_⟩;try dsimp only
  refine⟨_,rfl,am,_,_,rfl,J3 am (yY ms),Ei.m,fun o2 H4 hf4 g4 ho4=>?_⟩;obtain⟨kv3,d1,d2,d3⟩:=Ei.d;have om4:Om73 P w K H am ar d o ms kvs ((E.take i).foldl (z8 cs ms) []) H4:=⟨Ei.g.trans (g4.mono (by simp)),g4.frz _ _ _ Ei.r,.inr ⟨o2,hf4⟩,kv3,by rw[ho4 d IF];exact d1,d2.grow g4,d3.grow g4⟩
  clear d1 d2 d3 Ei om2;refine J8 (fun j σ H'=>zby σ (some (.ref rc)) (some (.ref am)) (some (.ref ar)) (some (.ref d)) (some (.int (e.1.1:Int))) (some (.ref rv)) (some (.ref ro))/\Om73 P w K H am ar d o ms kvs ((ms.take j).foldl (yr cs e) ((E.take i).foldl (z8 cs ms) [])) H'/\H' am=some (.frz o2 (.dK (yY ms)))) ⟨⟨_,_,_,_,_,_,_,_,_,_,rfl⟩,om4,hf4⟩ (fun j σ H' _ z=>z.2.2) ?_ ?_
  ·rintro j p2 T2 σ H5 FB Ca ⟨⟨e7,e8,e9,Cd,DF,DG,Fn,Fo,Fp,EG,rfl⟩,om5,hf5⟩;obtain⟨nM,II,rfl⟩:=SH FB;obtain⟨n,M⟩:=nM;have hj:=(aL.mp II).1;have Ah:n<cs.length:=ok.lt _ (bA II);have IJ:=Grow.new (m:=[]) Ca (.tup [V.int (n:Int),.int ((M:Nat):Int)]);have DJ:=om5.grow IJ;have IK:=IJ.keep _ _ (by simp) hf5;have FJ:=zd (H:=H5) (a:=T2) (o:=.tup [V.int (n:Int),.int ((M:Nat):Int)]);generalize upd H5 T2 _=H6 at IJ DJ FJ IK ⊢;obtain⟨zc,IC,rz,rd,rfl,sz,sd⟩:=nP.getR (aC Ah);have ec:cg cs n=cs[n]:=yn (aC Ah);have oc:CallOk72 m (cg cs n):=ok.ok _ (Y3 Ah);rw[←ec] at sz sd;refine⟨T2,_,rfl,SqT.of FJ,rfl,_,_,rfl,_,_,rfl,rfl,?_⟩;try dsimp only
   refine⟨_,rfl,_,rfl,rc,_,_,.ref rz,rfl,rfl,DJ.g.sqT o8,zH IC,rz,_,rfl,DJ.g.sqT sz,rfl,_,_,rfl,_,_,rfl,_,_,rfl,_,_,rfl,_,_,rfl,_,_,rfl,rfl,?_⟩;try dsimp only
   refine yg (fun v H'=>v=.bl (decide (e.1.1.testBit n=false) && decide (M &&& e.1.1=M))/\H'=H6) (fun Kk hk=>⟨_,rfl,_,rfl,_,_,rfl,rfl,by omega,_,_,rfl,rfl,rfl,_,rfl,?_⟩) ?_
   ·rw[Um];by_cases c1:e.1.1.testBit n=false
    ·rw[decide_eq_true c1];refine y7 ⟨_,rfl,_,rfl,_,_,rfl,rfl,_,rfl,rfl,?_⟩;rw[Uo];exact hk _ _ ⟨by rw[decide_eq_true c1];rfl,rfl⟩
    ·rw[decide_eq_false c1];exact yQ (hk _ _ ⟨by rw[decide_eq_false c1];rfl,rfl⟩)
   rintro _ H6 ⟨rfl,rfl⟩;have tk:(ms.take (j+1)).foldl (yr cs e) ((E.take i).foldl (z8 cs ms) [])=yr cs e ((ms.take j).foldl (yr cs e) ((E.take i).foldl (z8 cs ms) [])) (n,M):=by
    rw[yh II,iJ];rfl
   generalize hF:(ms.take j).foldl (yr cs e) ((E.take i).foldl (z8 cs ms) [])=F at DJ tk;have IL:F.length<E.length*ms.length:=by rw[←hF];exact Wc hi hj
   generalize hc1:(decide (e.1.1.testBit n=false) && decide (M &&& e.1.1=M))=c1;refine⟨_,rfl,c1,rfl,?_⟩;have stay:¬v7 cs e n M=true->zby [some (.ref rc),some (.ref am),some (.ref ar),some (.ref d),some (.int (e.1.1:Int)),some (.ref rv),some (.ref ro),some (.int (n:Int)),some (.int ((M:Nat):Int)),some (.int (cg cs n).hand),some (.int (cg cs n).box),some (.ref rd),some (.int (cg cs n).begun),some (.int (cg cs n).ended),some (.int (cg cs n).answer),some (.bl c1),EG] (some (.ref rc)) (some (.ref am)) (some (.ref ar)) (some (.ref d)) (some (.int (e.1.1:Int))) (some (.ref rv)) (some (.ref ro))/\Om73 P w K H am ar d o ms kvs ((ms.take (j+1)).foldl (yr cs e) ((E.take i).foldl (z8 cs ms) [])) H6/\H6 am=some (.frz o2 (.dK (yY ms))):=fun IM=>by
    refine⟨⟨_,_,_,_,_,_,_,_,_,_,rfl⟩,?_,IK⟩;rw[tk];unfold yr;rw[if_neg IM];exact DJ
   cases c1 with
   |false =>
    refine yQ (yQ ?_);exact stay (fun z=>by
     unfold v7 at z;rw[hc1] at z;cases z)
   |true =>
    refine y7 ?_;have b0:=oc.b0;have b1:=oc.b1;have CT:(cg cs n).box.toNat<e.1.2.length:=by rw[IH.1];omega
    have GB:(cg cs n).box=((cg cs n).box.toNat:Int):=(eO b0).symm;have Dp:atI (e.1.2.map V.int) (cg cs n).box=some (.int (e.1.2.getD (cg cs n).box.toNat 0)):=by
     rw[GB];refine zH ?_;rw[bE,aC CT,bL,aH,aC CT];rfl
    have Ej:=DJ.g.sqT hrv;refine⟨_,rfl,_,rfl,rv,_,_,_,rfl,rfl,Ej,Dp,_,rfl,rfl,_,rfl,?_⟩;by_cases ca:e.1.2.getD (cg cs n).box.toNat 0=(cg cs n).answer
    ·have Gj:v7 cs e n M=true:=by
      unfold v7;rw[hc1,decide_eq_true ca];rfl
     refine wy (decide_eq_true (congrArg V.int ca)) ?_;refine yg (fun v H'=>∃rl,v=.ref rl/\SqT K H' rl ((wM cs e.1.2 n).map V.int)/\Grow [] H6 H') (fun Kk hk=>?_) ?_
     ·refine⟨_,rfl,_,rfl,_,rfl,rv,_,rfl,Ej,fun p1 H7 g7 h7=>⟨_,rfl,_,rfl,_,_,rfl,(cg cs n).deed,(cg cs n).answer,⟨rd,rfl,g7.sqT (DJ.g.sqT sd)⟩,rfl,szl rfl,fun t7 ht7=>?_⟩⟩;have IN:=Grow.new (m:=[]) ht7 (.tup [.int ((cg cs n).deed.mk' (cg cs n).answer)]);have IP:∀lo hi,(jN (e.1.2.map V.int) lo hi).length<=16:=fun lo hi=>by
       have:=vt (e.1.2.map V.int) lo hi;rw[aE,IH.1] at this;exact cH this ok.m16
      refine⟨p1,t7,_,_,rfl,rfl,IN.sqT h7,SqT.of zd,?_,fun p2 H8 g8 h8=>?_⟩
      ·exact zbp (cH (ni (IP _ _) (aG 1)) (by decide))
      refine⟨_,rfl,_,rfl,_,_,rfl,rfl,_,rfl,rv,_,rfl,g8.sqT (IN.sqT (g7.sqT Ej)),fun p3 H9 g9 h9=>⟨p2,p3,_,_,rfl,rfl,g9.sqT h8,h9,?_,fun p4 H10 CV Dt=>hk _ _ ⟨p4,rfl,?_,g7.trans (IN.trans (g8.trans (g9.trans CV)))⟩⟩⟩
      ·rw[bD];exact zbp (cH (ni (ni (IP _ _) (aG 1)) (IP _ _)) (by decide))
      ·have e1:(cg cs n).box+1=(((cg cs n).box.toNat+1:Nat):Int):=by omega
       rw[e1,GB,bL,Qn,Qo,Up CT] at Dt;exact Dt
     rintro _ H7 ⟨rl,rfl,hrl,g7⟩;have om7:=DJ.grow g7;have hf7:=g7.keep _ _ (by simp) IK;refine⟨_,rfl,_,rfl,szl rfl,fun t8 ht8=>?_⟩;have GG:=Grow.new (m:=[]) ht8 (.tup [.int (n:Int)]);have IQ:=GG.sqT (om7.g.sqT GF);refine⟨ro,t8,_,_,rfl,rfl,IQ,SqT.of zd,?_,fun po H9 g9 h9=>?_⟩
     ·rw[z6];exact zbp (by show _+1<=5000;have:=IH.2;omega)
     have om9:=(om7.grow GG).grow g9;have hf9:=g9.keep _ _ (by simp) (GG.keep _ _ (by simp) hf7);refine⟨_,rfl,_,rfl,_,rfl,_,_,rfl,rfl,⟨by omega,by have:=ok.c40;omega,by decide⟩,_,_,rfl,rfl,_,rfl,szl rfl,fun FK Ey=>?_⟩;have GH:=Grow.new (m:=[]) Ey (.tup [.int (iZ (e.1.1:Int) (1*2 ^ ((n:Int)).toNat)),.ref rl]);have CC:=om9.grow GH;have FL:=GH.keep _ _ (by simp) hf9;have CD:=zd (H:=H9) (a:=FK) (o:=.tup [.int (iZ (e.1.1:Int) (1*2 ^ ((n:Int)).toNat)),.ref rl]);have DK:=GH.sqT (g9.sqT (GG.sqT hrl));have Dt:=GH.sqT h9;generalize upd H9 FK _=H10 at CC FL CD DK Dt ⊢;rw[SI] at CD;obtain⟨FM,d1,d2,d3⟩:=CC.d;have FN:KAt ptI ptT K H10 (((e.1.1 |||2 ^ n:Nat):Int),wM cs e.1.2 n) FK:=⟨_,_,SqT.of CD,rfl,rl,rfl,DK⟩
     have IR:yX K H10 (.ref po) (e.2++[n]):=⟨po,rfl,by rw[vX];exact Dt⟩
     refine⟨d,FM,_,FK,rfl,rfl,d1,d2,FN,?_,⟨_,_,_,_,_,_,_,_,_,_,rfl⟩,?_,?_⟩
     ·rw[Paired.length d3];exact aV IL few
     ·have gs:Grow [d] H10 (upd H10 d (ndO ptI ptT P w d (ub FM (((e.1.1 |||2 ^ n:Nat):Int),wM cs e.1.2 n) FK (.ref po)))):=Grow.setE73 d1 (by simp);refine⟨CC.g.trans (gs.mono (by simp)),gs.frz _ _ _ CC.r,CC.m.imp (fun z=>gs.keep _ _ (by simpa using Ne.symm IF) z) (fun⟨o,z⟩=>⟨o,gs.frz _ _ _ z⟩),_,zd,(d2.store FN).grow gs,?_⟩;rw[tk];unfold yr;rw[if_pos Gj];exact(d3.store IR).grow gs
     ·rw[zq (Ne.symm IF)];exact FL
    ·refine yW (decide_eq_false (fun z=>ca (V.int.inj z))) ?_;exact stay (fun z=>by
      unfold v7 at z;rw[decide_eq_false ca,io] at z;cases z)
  ·rintro σ H5 ⟨⟨e7,e8,e9,Cd,DF,DG,Fn,Fo,Fp,EG,rfl⟩,om5,_⟩;rw[aE,show(yY ms).length=ms.length from aE ..,dG] at om5;refine⟨⟨_,_,_,_,_,_,_,_,_,_,_,_,_,rfl⟩,?_⟩;rw[yh he,iJ];exact om5
 ·rintro σ H2 ⟨⟨e4,e5,e6,e7,e8,e9,Cd,DF,DG,Fn,Fo,Fp,EG,rfl⟩,om2⟩;rw[aE,show kvs.length=E.length from Paired.length es,dG] at om2;obtain⟨kv2,d1,d2,d3⟩:=om2.d;exact⟨_,rfl,q d kv2 H2 hd (om2.g.less fun b hb=>by
   simp only[aK,fK,or_false] at hb ⊢;rcases hb with rfl|rfl|rfl
   ·exact .inl (.inl rfl)
   ·exact .inl (.inr rfl)
   ·exact .inr hd) om2.m d1 d2 d3⟩
theorem xy:FnScope ["board","calls","masks","reached","number","orders"] ["board","calls","masks"] (zf (top 46)):=⟨rfl,rfl,rfl,by decide +kernel,rfl,by decide +kernel,by decide +kernel⟩
theorem YI(F:Fun K "order_by" "order_by" (top 46) f fd)(B:Blt mg)(oH:zp P w K mg base n "one_more" ["calls","masks","reached"] (Xg P w K))     :
  FnOk P w K mg base CX0 (n+1) f fd ["board","calls","masks"] (Yi K):=by
 refine F.ok xy t5 (fun og A outer s H vs Q E hr h=>?_);obtain⟨x,y,z,rfl,b,cs,am,ms,hb,hc,rfl,hm,ok,q⟩:=h;refine⟨_,(ze (zx (i:=3) xy.nd rfl (bB rfl) (V5 (p1:=ptI) (p2:=ptT) (P:=P) (w:=w) (K:=K) rfl rfl rfl (Room.u2 hr) (yz (za zg (za (pv 0) zb))) (yz zb))) (ze (xS PassesOwn.never rfl (QI (pv 2)) (zj (i:=4) xy.nd rfl (bB rfl)) (zi (zx (i:=3) xy.nd rfl (bB rfl) (zn oH hr rfl (za (pv 1) (za (pv 2) (za (pv 3) zb))))))) (ze (zx (i:=5) xy.nd rfl (bB rfl) (Yd hr rfl B.list (pv 3))) (zi (zr (x9 (Ty (pv 5) (fun _=>rfl)) (zU zY (pv 5) zg (fun _ _=>rfl)) rN)))))),?_⟩;obtain⟨rb,rfl,Cy⟩:=id hb;obtain⟨rc,xs,rfl,o8,nP⟩:=id hc;refine yg (fun v H'=>∃d kvs,v=.ref d/\H d=none/\H' d=some (ndO ptI ptT P w d kvs)/\NDc ptI ptT K H' kvs/\xh K H' kvs [((0,b),[])]/\Grow [] H H') (fun Kk hk=>fun p hp=>⟨_,rfl,szl rfl,fun tk Ey=>⟨szl rfl,fun te hte=>?_⟩⟩) ?_
 ·have g0:=Grow.new (m:=[]) hp (ndO ptI ptT P w p []);have gk:=Grow.new (m:=[]) Ey (.tup [V.int 0,.ref rb]);have ge:=Grow.new (m:=[]) hte (.tup []);have hp1:upd (upd (upd H p (ndO ptI ptT P w p [])) tk (.tup [V.int 0,.ref rb])) te (.tup []) p=some (ndO ptI ptT P w p []):=ge.keep _ _ (by simp) (gk.keep _ _ (by simp) zd);have gs:Grow [p] (upd (upd (upd H p (ndO ptI ptT P w p [])) tk (.tup [V.int 0,.ref rb])) te (.tup [])) (upd (upd (upd (upd H p (ndO ptI ptT P w p [])) tk (.tup [V.int 0,.ref rb])) te (.tup [])) p (ndO ptI ptT P w p [(((0:Int),b),tk,.ref te)])):=Grow.setE73 hp1 (by simp);have FN:KAt ptI ptT K (upd (upd (upd H p (ndO ptI ptT P w p [])) tk (.tup [V.int 0,.ref rb])) te (.tup [])) ((0:Int),b) tk:=⟨_,_,ge.sqT (SqT.of zd),rfl,rb,rfl,(g0.trans (gk.trans ge)).sqT Cy⟩
  refine⟨hp1,tk,((0:Int),b),rfl,FN,hk _ _ ⟨p,_,rfl,hp,zd,?_,?_,Grow.shrink hp ((g0.trans (gk.trans ge)).wk.trans gs)⟩⟩
  ·intro x hx;rw[aR.mp hx];exact FN.grow gs
  ·exact .cons ⟨rfl,te,rfl,gs.sqT (SqT.of zd)⟩ .nil
 rintro _ H0 ⟨d,kvs0,rfl,hd,CU,kc0,es0,g0⟩;have GC:d≠am:=fun z=>by
  rw[z] at hd;rcases hm with h|⟨o,h⟩ <;> rw[h] at hd <;> cases hd
 have GD:Rd H0 am (.dK (yY ms)):=hm.imp (fun z=>g0.keep _ _ (by simp) z) fun⟨o,z⟩=>⟨o,g0.keep _ _ (by simp) z⟩
 refine⟨_,rfl,am,_,_,rfl,J3 am (yY ms),GD,fun o H1 IG g1 GE=>?_⟩;refine zbw (fun i σ H'=>∃(r:Addr) (kvs:List ((Int×List Int)×Addr×V)) (e4 e5:Option V),σ=[some (.ref rb),some (.ref rc),some (.ref am),some (.ref r),e4,e5]/\Grow [am] H H'/\H' am=some (.frz o (.dK (yY ms)))/\H' r=some (ndO ptI ptT P w r kvs)/\am≠r/\H r=none/\NDc ptI ptT K H' kvs/\xh K H' kvs (vd cs ms b i)) ⟨d,kvs0,_,_,rfl,g0.wk.trans g1,IG,by rw[GE d GC];exact CU,Ne.symm GC,hd,kc0.grow g1,es0.grow g1⟩ (fun i σ H' _ z=>by obtain⟨_,_,_,_,_,_,h,_⟩:=z;exact h) ?_ ?_
 ·rintro i p σ H2 hp ⟨r,kvs,e4,e5,rfl,g2,hf2,hr2,nr,Dn,kc2,DH⟩;have hi:=(aL.mp hp).1;rw[aE,show(yY ms).length=ms.length from aE ..] at hi;have few8:=ok.few;try dsimp only
  refine⟨_,rfl,_,rfl,_,rfl,_,_,_,rfl,cs,b.length,am,ms,r,kvs,vd cs ms b i,⟨rc,xs,rfl,g2.sqT o8,g2.callsR nP⟩,rfl,.inr ⟨o,hf2⟩,rfl,hr2,nr,kc2,DH,ok,SJ (by omega),Us ok.few hi,fun r' Av H3 Ak g3 hm3 hr3 kc3 GI=>⟨r',Av,_,_,rfl,?_,g3.frz _ _ _ hf2,hr3,fun z=>?_,?_,kc3,GI⟩⟩
  ·exact(g2.mono (by simp):Grow [am,r] H H2).trans g3 |>.less fun c hc=>by
    simp only[aK,fK,or_false] at hc ⊢;rcases hc with rfl|rfl
    ·exact .inl rfl
    ·exact .inr Dn
  ·rw[←z,hf2] at Ak;cases Ak
  ·refine g2.free (fun z=>?_) Ak;rw[aR.mp z,hf2] at Ak;cases Ak
 ·rintro σ H2 ⟨r,kvs,e4,e5,rfl,g2,hf2,hr2,nr,Dn,kc2,DH⟩;rw[aE,show(yY ms).length=ms.length from aE ..] at DH;try dsimp only
  have hl:=Paired.length DH;refine yg (fun v H'=>∃l,v=.ref l/\H' l=some (.lst (kvs.map fun x=>x.2.2))/\Grow [am] H H'/\xh K H' kvs (vd cs ms b ms.length)) (fun Kk hk=>⟨_,rfl,r,_,_,rfl,by rw[aE,hl];exact Wd ok.few,J5 P w r kvs,.inl hr2,fun o' H3 hf3 g3 GJ l Bs=>hk _ _ ⟨l,rfl,by rw[zd,de];rfl,?_,?_⟩⟩) ?_
  ·exact((g2.mono (by simp):Grow [am,r] H H2).trans ((g3.mono (by simp)).trans (Grow.new Bs _))).less fun c hc=>by
    simp only[aK,fK,or_false] at hc ⊢;rcases hc with rfl|rfl
    ·exact .inl rfl
    ·exact .inr Dn
  ·exact(DH.grow g3).grow (Grow.new (m:=[]) Bs _)
  rintro _ H3 ⟨l,rfl,Bs,g3,GI⟩;refine⟨_,rfl,_,.inl ⟨_,SqL.of Bs,rfl⟩,?_⟩;unfold j5 at q;generalize vd cs ms b ms.length=E at GI q;cases GI with
  |nil=>exact yQ (q _ _ g3 rfl)
  |@cons x e xs' BQ hx t =>
   refine y7 ⟨_,rfl,l,_,0,x.2.2,rfl,rfl,SqL.of Bs,zH (j:=0) rfl,q _ _ g3 ?_⟩;exact hx.2
theorem WE:FnScope ["numbers"] ["numbers"] (zf (top 43)):=⟨rfl,rfl,rfl,by decide +kernel,rfl,by decide +kernel,by decide +kernel⟩
theorem WF(F:Fun K "as_mask" "as_mask" (top 43) f fd)(B:Blt mg)(FO:mg "sum" = none)   :
  FnOk P w K mg base CX0 (n+1) f fd ["numbers"] (sK K):=by
 refine F.ok WE xI (fun og A outer s H vs Q E hr h=>?_);obtain⟨x,rfl,ns,hn,pw,lt,q⟩:=h;refine⟨_,(zi (zr (zm (Vr rfl) rfl FO zbe (za (y8 (CSc.of (N':=["number"]) (sub:=[none]) (zf (top 43)) ["numbers"] rfl rfl (by decide +kernel) rfl) rfl (vp (pv 0)) (fun _ _ _ _ _ _=>zj (i:=0) (show(["number"]:List Str).Nodup by decide +kernel) rfl (bB rfl)) (fun _ _ _ _ _ _=>yv) (fun _ _ _ _ _ _=>(zR Ro zg (pv 0)))) zb)))),?_⟩;obtain⟨r,rfl,hr⟩:=hn;have Iw:=J9 pw lt;rw[yf] at hr;refine⟨_,rfl,r,rfl,⟨_,hr⟩,XO (fun i=>1*2 ^ i.toNat) hr (by rw[aE];omega) ?_ ?_⟩
 ·rintro i H' R hi g kk;obtain⟨k,hk,rfl⟩:=bI.mp hi;have:=lt k hk;exact⟨_,rfl,_,_,rfl,rfl,⟨by omega,by omega,by decide⟩,kk _ (Grow.refl _ _)⟩
 ·rintro H' l g hl;refine⟨l,_,rfl,SqL.of zd,?_⟩;rw[Zn,Y6 rfl pw];exact q _ (g.trans (Grow.new hl _))
theorem xc:FnScope ["calls","numbers","masks","number","begun"] ["calls","numbers"] (zf (top 44)):=⟨rfl,rfl,rfl,by decide +kernel,rfl,by decide +kernel,by decide +kernel⟩
theorem rJ(F:Fun K "ahead_masks" "ahead_masks" (top 44) f fd)(B:Blt mg)(oH:zp P w K mg base n "as_mask" ["numbers"] (sK K))     :
  FnOk P w K mg base CX0 (n+1) f fd ["calls","numbers"] (qq K):=by
 refine F.ok xc y0 (fun og A outer s H vs Q E hr h=>?_);obtain⟨x,y,rfl,cs,ns,hc,hn,pw,lt,c40,q⟩:=h;refine⟨_,(ze (zx (i:=2) xc.nd rfl (bB rfl) jb) (ze (xS PassesOwn.never rfl (vp (pv 1)) (zj (i:=3) xc.nd rfl (bB rfl)) (ze (zx (i:=4) xc.nd rfl (lh rfl) (zU yP (zU yP (pv 0) (pv 3) (fun _ _=>rfl)) zg (fun _ _=>rfl))) (zi (Ya (Room.u173 hr) (pv 2) (pv 3) (zn oH hr rfl (za (y8 (CSc.of (N':=["other","calls","begun"]) (sub:=[none,some 0,some 4]) (zf (top 44)) ["calls","numbers","masks","number","begun"] rfl rfl (by decide +kernel) rfl) rfl (vp (pv 1)) (fun _ _ _ _ _ _=>zj (i:=0) (show(["other","calls","begun"]:List Str).Nodup by decide +kernel) rfl (bB rfl)) (fun _ _ _ _ _ _=>(qP (zw XE (zU (wH (K:=K) rfl) (zU (wH (K:=K) rfl) (pv 1) (pv 0) (fun _ _=>rfl)) zg (fun _ _=>rfl)) (pv 2) (zy _)))) (fun _ _ _ _ _ _=>(pv 0))) zb)) rfl)))) (zi (zr (pv 2))))),?_⟩;obtain⟨rc,xs,rfl,o8,nP⟩:=id hc;obtain⟨rn,rfl,IS⟩:=hn;have Iw:=J9 pw fun k hk=>aV (lt k hk) c40;have nd:ns.Nodup:=pw.imp fun h=>aW h;refine yg (fun v H'=>∃d,v=.ref d/\H d=none/\H'=upd H d (.dK [])) (fun Kk hk=>fun d hd=>hk _ _ ⟨d,rfl,hd,rfl⟩) ?_;rintro _ _ ⟨d,rfl,hd,rfl⟩;have g0:=Grow.new (m:=[]) hd (.dK []);refine⟨_,rfl,rn,rfl,⟨_,g0.sqL IS⟩,YS (xs:=zC ns) (fun i σ H'=>∃(e3 e4:Option V),σ=[some (.ref rc),some (.ref rn),some (.ref d),e3,e4]/\H' d=some (.dK (yY ((vA cs ns).take i)))/\Grow [d] H H') ⟨_,_,rfl,zd,g0.wk⟩ (fun i σ H' _ z=>by obtain⟨_,_,_,_,g⟩:=z;exact(Grow.shrink hd g).sqL IS) ?_ ?_⟩
 ·rintro i x σ H1 hx ⟨e3,e4,rfl,hd1,g1⟩;obtain⟨k,BO,rfl⟩:=wU hx;have oU:=lt k (bA BO);have hi:=(aL.mp BO).1;obtain⟨z,hz,rz,rd,rfl,sz,sd⟩:=nP.getR (aC oU);have ec:cg cs k=cs[k]:=yn (aC oU);try dsimp only
  refine yg (fun v H'=>v=.int (cg cs k).begun/\H'=H1) (fun Kk hk=>⟨_,rfl,_,rfl,rc,_,_,.ref rz,rfl,rfl,g1.sqT o8,zH hz,rz,_,3,.int cs[k].begun,rfl,rfl,g1.sqT sz,zH (j:=3) rfl,hk _ _ ⟨by rw[ec],rfl⟩⟩) ?_;rintro _ H1 ⟨rfl,rfl⟩;have Ek:=(Grow.shrink hd g1).sqL IS;rw[yf] at Ek;refine⟨_,rfl,rn,rfl,⟨_,Ek⟩,Qk (fun j=>decide ((cg cs j.toNat).ended<(cg cs k).begun)) Ek (by rw[aE];omega) ?_ (fun j H2 R hj g2 kk=>⟨_,rfl,kk _ (Grow.refl _ _)⟩) ?_⟩
  ·rintro j' H2 R hj0 g2 kk;obtain⟨j,hj,rfl⟩:=bI.mp hj0;have pO:=lt j hj;obtain⟨z2,BV,rz2,rd2,rfl,FP,_⟩:=nP.getR (aC pO);have ec2:cg cs j=cs[j]:=yn (aC pO);refine⟨_,rfl,_,rfl,rc,_,_,.ref rz2,rfl,rfl,(g1.trans g2.wk).sqT o8,zH BV,rz2,_,4,.int cs[j].ended,rfl,rfl,(g1.trans g2.wk).sqT FP,zH (j:=4) rfl,_,rfl,_,_,rfl,rfl,_,rfl,?_⟩;rw[←ec2];exact kk _ (Grow.refl _ _)
  ·rintro H2 l g2 hl;have ef:((ns.map fun k:Nat=>(k:Int)).filter fun j=>decide ((cg cs j.toNat).ended<(cg cs k).begun))=(sk cs ns k).map fun k:Nat=>(k:Int):=by
    unfold sk;rw[List.filter_map]
    congr 1
   rw[ef,←yf];have g3:=g2.trans (Grow.new (m:=[]) hl (.lst (zC (sk cs ns k))));have Bs:=zd (H:=H2) (a:=l) (o:=.lst (zC (sk cs ns k)));generalize upd H2 l _=H3 at g3 Bs ⊢;refine⟨_,rfl,sk cs ns k,⟨l,rfl,SqL.of Bs⟩,pw.sublist gi,fun m hm=>aV (lt m (dX.mp hm).1) c40,fun H4 g4=>?_⟩;have hd4:=(g3.trans g4).keep _ _ (by simp) hd1;have nk:k∉((vA cs ns).take i).map (·.1):=by
    rw[nv,sr];intro z;obtain⟨j,hj⟩:=fS z;have Dl:=(aL.mp hj).1;rw[bT] at Dl;rw[i0 (by omega)] at hj;have:=(mv (by omega) nd).mp (hj.trans BO.symm);omega
   have Dp:(vA cs ns)[i]?=some (k,WI (sk cs ns k)):=by
    unfold vA;rw[bE,BO];rfl
   refine⟨_,rfl,_,rfl,d,_,rfl,QC.k (k:=Sum.inl (k:Int)) hd4 ?_,⟨_,_,rfl,?_,g1.trans ((g3.trans g4).wk.trans (Grow.setK73 hd4 (by simp)))⟩⟩
   ·unfold yY;rw[aE,bT,v8];exact jY (by omega)
   ·rw[zd,Xh nk,yh Dp]
 ·rintro σ H1 ⟨e3,e4,rfl,hd1,g1⟩;rw[z6,dv (by rw[v8];exact aG _)] at hd1;exact⟨_,rfl,q d _ hd (Grow.shrink hd g1) hd1⟩
theorem rm:FnScope ["board","calls","orders"] ["board","calls"] (zf (top 48)):=⟨rfl,rfl,rfl,by decide +kernel,rfl,by decide +kernel,by decide +kernel⟩
theorem YJ(F:Fun K "an_order" "an_order" (top 48) f fd)(B:Blt mg){A_NoBoard:Addr}{A_NoCalls:Addr}(nL:vn K mg "NoBoard" A_NoBoard)(nO:vn K mg "NoCalls" A_NoCalls)(oH:zp P w K mg base n "merged" ["calls","orders"] (vH K))(pP:zp P w K mg base n "by_boxes" ["board","calls"] (tR K))(BB:zp P w K mg base n "order_by" ["board","calls","masks"] (Yi K))(El:zp P w K mg base n "ahead_masks" ["calls","numbers"] (qq K))(CF:zF P w K mg base n "need_calls" ["board","thing"] (xr A_NoBoard A_NoCalls K))     :
  FnOk P w K mg base (CX1 P w) (n+1) f fd ["board","calls"] (jm A_NoBoard A_NoCalls K):=by
 refine Fun.okX F rm uk (fun og A outer s H vs Q E hr h=>?_);obtain⟨x,y,rfl,db,dc,m,hx,hy,lb,lc,Bl,q⟩:=h;refine⟨_,(ze (xj (xp CF (wf fun _ _ _ z=>z) hr rfl (za (pv 0) (za (pv 1) zb)))) (ze (vU (i:=2) rm.nd rfl rfl (CSc.of (N':=["numbers","board","calls"]) (sub:=[none,some 0,some 1]) (zf (top 48)) ["board","calls","orders"] rfl rfl (by decide +kernel) rfl) rfl (vp (zn pP hr rfl (za (pv 0) (za (pv 1) zb)))) (fun _ _ _ _ _ _=>zj (i:=0) (show(["numbers","board","calls"]:List Str).Nodup by decide +kernel) rfl (bB rfl)) (fun _ _ _ _ _ _=>yv) (fun _ _ _ _ _ _=>(zn BB hr rfl (za (pv 1) (za (pv 2) (za (zn El hr rfl (za (pv 2) (za (pv 0) zb))) zb)))))) (zi (zr (x9 (zw (Wb (K:=K) rfl hr) rN (pv 2) (by with_unfolding_all rfl)) rN (zn oH hr rfl (za (pv 1) (za (pv 2) zb)))))))),?_⟩;refine⟨_,rfl,_,rfl,_,_,rfl,db,dc,m,hx,hy,lb,lc,Bl,fun h1 h2 H0 g0=>zcd ?_⟩;obtain⟨b,cs,gd⟩:=zaG hx hy h1 h2
 replace q:=q b cs gd
 obtain⟨hb,b1,AJ,bl,hc,ok,_⟩:=gd;refine yg (fun v H'=>∃l vs,v=.ref l/\H' l=some (.lst vs)/\yG (xE K H') vs ((aF b.length).map (yF cs b))/\Grow [] H0 H') (fun Kk hk=>⟨_,rfl,_,rfl,_,_,rfl,b,cs,g0.board hb,g0.calls72 hc,AJ,ok.len,ok.ok,fun lz zs H1 g1 BK hz CT=>⟨lz,rfl,⟨_,SqL.of hz⟩,uw (xs:=zs) (fun i ys H'=>yG (xE K H') ys (((aF b.length).map (yF cs b)).take i)/\Grow [] H1 H') ⟨trivial,Grow.refl _ _⟩ (fun i ys H' z=>SqL.of (z.2.keep _ _ (by simp) hz)) ?_ ?_⟩⟩) ?_
 ·rintro i z ys H2 hzi ⟨hy,g2⟩;obtain⟨ns,AU,az,rfl,haz⟩:=CT.get hzi;rw[bE] at AU;obtain⟨i',pU,rfl⟩:=eF.mp AU;have hi:=(aL.mp pU).1;rw[aS] at hi;rw[cG hi] at pU;obtain rfl:i=i':=bQ pU;have EL:=g1.trans g2;refine⟨_,rfl,_,rfl,_,rfl,_,rfl,_,_,rfl,cs,vm cs i,(g0.trans EL).calls72 hc,⟨az,rfl,SqL.of (g2.keep _ _ (by simp) haz)⟩,VT,fun k hk=>(y9.mp hk).1,ok.len,fun d H3 Ee g3 hd=>?_⟩;refine⟨_,_,_,rfl,b,cs,d,_,(g0.trans (EL.trans g3)).board hb,(g0.trans (EL.trans g3)).calls72 hc,rfl,.inl hd,zaa AJ ok,fun v H4 g4 hv=>⟨?_,?_,g2.trans (Grow.shrink Ee (g3.wk.trans g4))⟩⟩
  ·have:=hy.len;rw[this,bT,aE,aS];exact jY (by omega)
  ·rw[yh (x:=yF cs b i) (by rw[bE,cG hi];rfl)];exact(yG.at73 (Grow.shrink Ee (g3.wk.trans g4)) hy).app (yG.one hv)
 ·rintro ys H2 ⟨hy,g2⟩ l hl;have zl:=CT.len;rw[zl,aE,aS,dv (by rw[aE,aS];exact aG _)] at hy;have gn:=Grow.new (m:=[]) hl (.lst ys);exact hk _ _ ⟨l,ys,rfl,zd,yG.at73 gn hy,g1.trans (g2.trans gn)⟩
 rintro _ H1 ⟨l,vs,rfl,AT,nP,g1⟩;obtain⟨n1,n2⟩:=qr nP;refine⟨_,rfl,rfl,l,vs,rfl,SqL.of AT,n2,_,rfl,?_⟩;rw[n1];have ea:((aF b.length).map (yF cs b)).all nw=(aF b.length).all fun x=>(yF cs b x).isSome:=by rw[iW];rfl
 by_cases c:((aF b.length).all fun x=>(yF cs b x).isSome)=true
 ·rw[ea,c];refine yQ ?_;have hn:=Zp nP (by rw[ea];exact c);rw[de] at hn;have ln:((aF b.length).map (((·.getD []):Option (List Nat)->List Nat)∘yF cs b)).length=b.length:=by rw[aE,aS]
  refine⟨_,rfl,_,rfl,_,_,rfl,cs,l,vs,_,(g0.trans g1).calls72 hc,rfl,.inl (SqL.of AT),hn,by rw[ln];exact ok,by rw[ln];exact AJ,fun o ho=>?_,fun v H2 g2 so hv=>q _ _ (g0.trans (g1.trans g2)) (fun _=>so) ?_⟩
  ·obtain⟨x,hx,rfl⟩:=bI.mp ho;obtain⟨o,eo⟩:=gX.mp (bR.mp c x hx);show((yF cs b x).getD []).length<=40;rw[eo];have h1:=(sJ eo).1.length_eq;have h2:=ok.few x;rw[v9] at h1;show o.length<=40;omega
  ·unfold tE;rw[if_pos c];exact hv
 ·rw[ea,kO.mpr c];refine y7 (q _ _ (g0.trans g1) ?_ ?_)
  ·intro z;unfold tE at z;rw[if_neg c] at z;cases z
  ·unfold tE;rw[if_neg c];rfl
theorem xP:FnScope ["board","calls","thing","numbers","order"] ["board","calls","thing"] (zf (top 57)):=⟨rfl,rfl,rfl,by decide +kernel,rfl,by decide +kernel,by decide +kernel⟩
theorem rK(F:Fun K "need_orders" "need_orders" (top 57) f fd)(B:Blt mg){A_NoOrder:Addr}(oG:vn K mg "NoOrder" A_NoOrder)(oH:zp P w K mg base n "by_boxes" ["board","calls"] (tR K))(pP:zp P w K mg base n "fits_these" ["board","calls","numbers","order"] (uN K))(FQ:mg "zip" = none)   :
  FnOk P w K mg base (CX1 P w) (n+1) f fd ["board","calls","thing"] (uO A_NoOrder K):=by
 refine Fun.okX F xP tQ (fun og A outer s H vs Q E hr h=>?_);obtain⟨x,y,z,rfl,b,cs,d,m,hb,b1,AJ,hc,ok,hd,hl,q1,q2⟩:=h;refine⟨_,(ze (yB (PW.pt (tS (yC (zZ (zm (yE (K:=K) rfl) rfl B.isinstance zo (za (pv 2) (za (wu rfl B.tuple yZ) zb))))) (vh (zw XD (zm zv rfl B.len wF (za (pv 2) zb)) (zm zv rfl B.len wF (za (pv 0) zb)) (zy _))))) (zi (wX rfl oG rfl xV uW)) zz) (zi (xS PassesOwn.leaving rfl (JE (K:=K) rfl rfl FQ (za (zn oH hr rfl (za (pv 0) (za (pv 1) zb))) (za (pv 2) zb))) (xf rfl (zk (zj (i:=3) xP.nd rfl (bB rfl)) (zk (zj (i:=4) xP.nd rfl (bB rfl)) yc))) (zi (yB (yC (zZ (zn pP hr rfl (za (pv 0) (za (pv 1) (za (pv 3) (za (pv 4) zb))))))) (zi (wX rfl oG rfl xV uW)) zz))))),?_⟩;obtain⟨rb,rfl,Cy⟩:=id hb;refine vk (fun t H'=>H'=H/\(t=true->¬vG b cs d)/\(t=false->∃(r:Addr) (xs:List V) (ds:List PyData),z=.ref r/\d=.tuple ds/\SqT K H r xs/\Ods K m H xs ds/\ds.length=b.length)) (fun Kk hk=>⟨_,rfl,_,d,m,_,_,rfl,hd,xv d,_,rfl,?_⟩) ?_
 ·cases ht:qV d with
  |false=>exact y7 (hk _ _ ⟨rfl,(fun _ ⟨os,e,_⟩=>by rw[e] at ht;cases ht),fun z=>nomatch z⟩)
  |true =>
   obtain⟨r,xs,ds,rfl,rfl,hs,os⟩:=wV hd ht;have xl:=os.length;refine yQ ⟨_,rfl,r,_,rfl,.inr hs,_,rfl,rb,_,rfl,.inr Cy,rfl,_,rfl,hk _ _ ⟨rfl,fun t=>?_,fun t=>?_⟩⟩
   ·rintro⟨os,e,h1,_⟩;injection e with e
    have:xs.length=(b.map V.int).length:=by rw[xl,e,aE,aE,h1]
    rw[this] at t;simp at t
   ·refine⟨r,xs,ds,rfl,rfl,hs,os,?_⟩;rw[Bool.not_eq_false',decide_eq_true_eq] at t;injection t with t
    rw[aE] at t;omega
 rintro t H1 ⟨rfl,ht1,HR⟩;cases t with
 |true=>exact y7 fun e=>q2 (ht1 rfl) e _ (Grow.refl _ _)
 |false =>
  obtain⟨r,xs,ds,rfl,rfl,hs,os,dl⟩:=HR rfl;have xl:=os.length;obtain⟨ED,hfl⟩:=hl ds rfl;refine yQ (wv ?_);refine⟨_,rfl,_,rfl,_,_,rfl,b,cs,hb,hc,AJ,ok.len,ok.ok,fun l zs H2 g2 nl Ai bx=>⟨_,rfl,false,true,l,r,rfl,⟨_,SqL.of Ai⟩,⟨_,g2.sqT hs⟩,Qm (c:=false) (d:=true) (xs:=zs) (ys:=xs) (fun i σ H'=>∃(e3 e4:Option V),σ=[some (.ref rb),some y,some (.ref r),e3,e4]/\Grow [] H2 H'/\∀j,j<i->qC b cs (vm cs j) (ds.getD j .none)) ⟨_,_,rfl,Grow.refl _ _,fun j hj=>absurd hj (gL _)⟩ (fun i σ H' z=>by obtain⟨_,_,_,g,_⟩:=z;exact⟨SqL.of (g.keep _ _ (by simp) Ai),((g2.trans g).sqT hs:SqT K _ _ _)⟩) ?_ ?_⟩⟩
  ·rintro i vx vy σ H3 T hx hy ⟨e3,e4,rfl,g3,hyes⟩ hT;obtain⟨ns,AU,al,rfl,hal⟩:=bx.get hx;obtain⟨di,IT,odi⟩:=os.get hy;have hi:i<b.length:=by rw[←dl];exact(aL.mp IT).1
   rw[bE,cG hi] at AU;obtain rfl:vm cs i=ns:=bQ AU;have ed:ds.getD i .none=di:=by rw[aH,IT];rfl
   have gT:=Grow.new (m:=[]) hT (.tup [.ref al,vy]);have CA:=zd (H:=H3) (a:=T) (o:=.tup [.ref al,vy]);have FR:=(g3.trans gT).keep _ _ (by simp) hal;have g4:=g2.trans (g3.trans gT);have g34:=g3.trans gT;generalize upd H3 T _=H4 at gT CA FR g4 g34 ⊢;have few:=ok.few (i:Int);rw[←v9] at few;refine⟨T,_,rfl,SqT.of CA,rfl,_,_,rfl,_,_,rfl,rfl,?_⟩;refine⟨_,rfl,_,rfl,_,rfl,_,rfl,_,_,_,_,rfl,b,cs,vm cs i,di,m,g4.board hb,g4.calls72 hc,⟨al,rfl,SqL.of FR⟩,VT,(fun k hk=>(y9.mp hk).1),by omega,odi.grow (g4.wk (m:=m)),ok.ok,hfl di (bA IT),fun bb H5 g5 Gi=>⟨_,rfl,?_⟩⟩;cases bb with
   |false =>
    refine y7 fun e=>q2 (fun hR=>?_) e _ (g4.trans g5);have:=(qD dl).mp hR i hi;rw[ed] at this;exact absurd (Gi.mpr this) (by decide)
   |true =>
    refine yQ ⟨_,_,rfl,g34.trans g5,fun j hj=>?_⟩;by_cases e:j=i
    ·rw[e,ed];exact Gi.mp rfl
    ·exact hyes j (by omega)
  ·rintro σ H3 ⟨e3,e4,rfl,g3,hyes⟩;refine q1 ((qD dl).mpr fun j hj=>hyes j ?_) H3 (g2.trans g3);have:=bx.len;rw[aE,aS] at this;omega
theorem tI:FnScope ["board","calls","orders"] ["board","calls","orders"] (zf (top 58)):=⟨rfl,rfl,rfl,by decide +kernel,rfl,by decide +kernel,by decide +kernel⟩
theorem tJ(F:Fun K "gone_together" "gone_together" (top 58) f fd)(B:Blt mg){A_NoOrder:Addr}{A_NoBoard:Addr}{A_NoCalls:Addr}(oG:vn K mg "NoOrder" A_NoOrder)(nL:vn K mg "NoBoard" A_NoBoard)(nO:vn K mg "NoCalls" A_NoCalls)(oH:zp P w K mg base n "merged" ["calls","orders"] (vH K))(pP:zF P w K mg base n "need_orders" ["board","calls","thing"] (uO A_NoOrder K))(BB:zF P w K mg base n "need_calls" ["board","thing"] (xr A_NoBoard A_NoCalls K))     :
  FnOk P w K mg base (CX1 P w) (n+1) f fd ["board","calls","orders"] (sU A_NoBoard A_NoCalls A_NoOrder K):=by
 refine Fun.okX F tI tQ (fun og A outer s H vs Q E hr h=>?_);obtain⟨x,y,z,rfl,db,dc,d,m,hx,hy,hd,lb,lc,fl,Bl,q⟩:=h;refine⟨_,(ze (xj (xp BB (wf fun _ _ _ z=>z) hr rfl (za (pv 0) (za (pv 1) zb)))) (ze (xj (xp pP (wf fun _ _ _ z=>z) hr rfl (za (pv 0) (za (pv 1) (za (pv 2) zb))))) (zi (zr (zn oH hr rfl (za (pv 1) (za (pv 2) zb))))))),?_⟩;refine⟨_,rfl,_,rfl,_,_,rfl,db,dc,m,hx,hy,lb,lc,Bl,fun h1 h2 H1 g1=>?_⟩;obtain⟨b,cs,gd⟩:=zaG hx hy h1 h2;obtain⟨q1,q2⟩:=q b cs gd;obtain⟨hb,b1,AJ,bl,hc,ok,_⟩:=gd;refine⟨_,rfl,_,rfl,_,rfl,_,_,_,rfl,b,cs,d,m,g1.board hb,b1,AJ,g1.calls72 hc,ok,hd.grow (g1.wk (m:=m)),fl,fun hR H2 g2=>?_,fun hR e H2 g2=>q2 hR e H2 (g1.trans g2)⟩;obtain⟨os,rfl,ho⟩:=hR;have G2:=g1.trans g2;obtain⟨r,xs,rfl,hs,od⟩:=hd.inv_tup;have hn:yG (yX K H2) xs os:=sS (od.grow (G2.wk (m:=m)));have FS:os.length=b.length:=ho.1;refine⟨_,rfl,_,rfl,_,_,rfl,cs,r,xs,os,G2.calls72 hc,rfl,.inr (G2.sqT hs),hn,by rw[FS];exact ok,by rw[FS];exact AJ,fun o hoo=>?_,fun v H3 g3 so hv=>q1 os rfl ho v H3 (G2.trans g3) so hv⟩;obtain⟨i,hi,e⟩:=gh hoo;have h1:=(ho.2 i (by omega)).1;have e2:os.getD i []=o:=by rw[aH,aC hi];exact e
 rw[e2] at h1;have few:=ok.few (i:Int);rw[←v9] at few;rw[h1.length_eq];omega
theorem zM:FnScope ["calls","order","latest","number","hand","box","deed","begun","ended","answer"] ["calls","order"] (zf (top 52)):=⟨rfl,rfl,rfl,by decide +kernel,rfl,by decide +kernel,by decide +kernel⟩
theorem rL(F:Fun K "keeps_hands" "keeps_hands" (top 52) f fd)(B:Blt mg)      :
  FnOk P w K mg base CX0 (n+1) f fd ["calls","order"] (Uw K):=by
 refine F.ok zM y0 (fun og A outer s H vs Q E hr h=>?_);obtain⟨x,y,rfl,cs,o,hc,ok,ho,olt,o40,q⟩:=h;refine⟨_,(ze (zx (i:=2) zM.nd rfl (bB rfl) jb) (ze (xS PassesOwn.never rfl (vP (pv 1)) (zj (i:=3) zM.nd rfl (bB rfl)) (ze (xR (zU yP (pv 0) (pv 3) (fun _ _=>rfl)) (xf rfl (zk (zj (i:=4) zM.nd rfl (bB rfl)) (zk (zj (i:=5) zM.nd rfl (bB rfl)) (zk (zj (i:=6) zM.nd rfl (bB rfl)) (zk (zj (i:=7) zM.nd rfl (bB rfl)) (zk (zj (i:=8) zM.nd rfl (bB rfl)) (zk (zj (i:=9) zM.nd rfl (bB rfl)) yc)))))))) (ze (yB (zw qJ (Sn (Room.u173 hr) (pv 2) (pv 4) zg ⟨rfl,rfl,rfl,rfl⟩) (pv 7) (zy _)) (zi (zr xz)) zz) (zi (Ya (Room.u173 hr) (pv 2) (pv 4) (pv 7) rfl))))) (zi (zr xz)))),?_⟩;obtain⟨rc,xs,rfl,o8,nP⟩:=id hc;obtain⟨ro,rfl,GF⟩:=id ho;have b0:∀k∈o,0<=(cg cs k).begun:=fun k hk=>ok _ (Y3 (olt k hk));refine yg (fun v H'=>∃d,v=.ref d/\H d=none/\H'=upd H d (.dK [])) (fun Kk hk=>fun d hd=>hk _ _ ⟨d,rfl,hd,rfl⟩) ?_;rintro _ _ ⟨d,rfl,hd,rfl⟩;have g0:=Grow.new (m:=[]) hd (.dK []);refine⟨_,rfl,ro,rfl,⟨_,g0.sqT GF⟩,ZU (xs:=zC o) (fun i σ H'=>∃(e3 e4 e5 e6 e7 e8 e9:Option V) (kvs:List (Key×V)),σ=[some (.ref rc),some (.ref ro),some (.ref d),e3,e4,e5,e6,e7,e8,e9]/\H' d=some (.dK kvs)/\kvs.length<=i/\(∀h:Int,u5 kvs (Sum.inl h)=(ve cs (o.take i) h).map V.int)/\rq cs (o.take i)=true/\Grow [d] H H') ⟨_,_,_,_,_,_,_,[],rfl,zd,aG _,fun h=>rfl,rfl,g0.wk⟩ (fun i σ H' _ z=>by obtain⟨_,_,_,_,_,_,_,_,_,_,_,_,_,g⟩:=z;exact g.sqT GF) ?_ ?_⟩
 ·rintro i v σ H1 hv ⟨e3,e4,e5,e6,e7,e8,e9,kvs,rfl,hd1,kl,hvl,hkh,g1⟩;obtain⟨k,BO,rfl⟩:=wU hv;have hko:=bA BO;have oU:=olt k hko;have hi:=(aL.mp BO).1;obtain⟨z,hz,rz,rd,rfl,sz,sd⟩:=nP.getR (aC oU);have ec:cg cs k=cs[k]:=yn (aC oU);have ks:=Uv hkh (b0 k hko) fun j hj=>b0 j (List.mem_of_mem_take hj);have et:o.take (i+1)=o.take i++[k]:=by rw[im,BO];rfl
  rw[ec] at ks;generalize cs[k]=c at sz sd ec ks;try dsimp only
  refine⟨_,rfl,_,rfl,rc,_,_,.ref rz,rfl,rfl,g1.sqT o8,zH hz,rz,_,rfl,g1.sqT sz,rfl,_,_,rfl,_,_,rfl,_,_,rfl,_,_,rfl,_,_,rfl,_,_,rfl,rfl,?_⟩;try dsimp only
  have hg:=hvl c.hand;refine vk (fun t H'=>t=decide ((ve cs (o.take i) c.hand).getD 0>c.begun)/\H'=H1) (fun Kk hk=>⟨_,rfl,d,rfl,.inl ⟨_,.inl hd1⟩,_,rfl,_,JS.k (k:=Sum.inl c.hand) hd1,?_⟩) ?_
  ·rw[hg];cases e:ve cs (o.take i) c.hand with
   |none=>exact⟨_,rfl,_,_,rfl,rfl,_,rfl,hk _ _ ⟨by rw[e];rfl,rfl⟩⟩
   |some w=>exact⟨_,rfl,_,_,rfl,rfl,_,rfl,hk _ _ ⟨by rw[e];rfl,rfl⟩⟩
  rintro _ H1 ⟨rfl,rfl⟩;by_cases lt:(ve cs (o.take i) c.hand).getD 0>c.begun
  ·rw[decide_eq_true lt] at ks ⊢;have e:rq cs o=false:=by
    cases e:rq cs o with
    |false=>rfl
    |true =>
     rw[←gG (i+1) o,et] at e;have:=SM e;rw[ks] at this;cases this
   have:=q H1 (Grow.shrink hd g1);rw[e] at this;exact y7 this
  ·rw[decide_eq_false lt] at ks ⊢;refine yQ (wv ?_);refine⟨_,rfl,_,rfl,_,rfl,d,_,rfl,QC.k (k:=Sum.inl c.hand) hd1 (jY (by omega)),⟨_,_,_,_,_,_,_,Ze kvs (Sum.inl c.hand) (.int c.begun),rfl,zd,?_,fun h=>?_,by rw[et];exact ks,g1.trans (Grow.setK73 hd1 (by simp))⟩⟩
   ·have:=vE kvs (Sum.inl c.hand) (V.int c.begun);omega
   ·rw[Sj,et,qv,ec];by_cases e:c.hand=h
    ·rw[if_pos e,if_pos (by rw[e])];rfl
    ·rw[if_neg e,if_neg (fun z=>e (Sum.inl.inj z).symm)];exact hvl h
 ·rintro σ H1 ⟨e3,e4,e5,e6,e7,e8,e9,kvs,rfl,hd1,kl,hvl,hkh,g1⟩;rw[z6,dG] at hkh;have:=q H1 (Grow.shrink hd g1);rw[hkh] at this;exact this
theorem x6:FnScope ["board","thing","begins"] ["board","thing"] (zf (top 51)):=⟨rfl,rfl,rfl,by decide +kernel,rfl,by decide +kernel,by decide +kernel⟩
theorem uS(F:Fun K "need_own_times" "need_own_times" (top 51) f fd)(B:Blt mg){A_NoCalls:Addr}{A_NoBoard:Addr}(nO:vn K mg "NoCalls" A_NoCalls)(nL:vn K mg "NoBoard" A_NoBoard)(oH:zF P w K mg base n "need_calls" ["board","thing"] (xr A_NoBoard A_NoCalls K))(FT:mg "set" = none)   :
  FnOk P w K mg base (CX1 P w) (n+1) f fd ["board","thing"] (um A_NoBoard A_NoCalls K):=by
 refine Fun.okX F x6 uk (fun og A outer s H vs Q E hr h=>?_);obtain⟨x,y,rfl,db,dc,m,hx,hy,lb,lc,Bl,q⟩:=h;refine⟨_,(ze (xj (xp oH (wf fun _ _ _ z=>z) hr rfl (za (pv 0) (za (pv 1) zb)))) (ze (vU (i:=2) x6.nd rfl rfl (CSc.of (N':=["call"]) (sub:=[none]) (zf (top 51)) ["board","thing","begins"] rfl rfl (by decide +kernel) rfl) rfl (vP (pv 1)) (fun _ _ _ _ _ _=>zj (i:=0) (show(["call"]:List Str).Nodup by decide +kernel) rfl (bB rfl)) (fun _ _ _ _ _ _=>yv) (fun _ _ _ _ _ _=>(yz (za (zU (wH (K:=K) rfl) (pv 0) zg (fun _ _=>rfl)) (za (zU (wH (K:=K) rfl) (pv 0) zg (fun _ _=>rfl)) zb))))) (zi (yB (zw XD (zm UF rfl B.len wF (za (yD (UQ (K:=K) rfl hr) rfl FT QQ (za (pv 2) zb)) zb)) (zm zv rfl B.len wF (za (pv 2) zb)) (zy _)) (zi (wX rfl nO rfl xV uW)) zz)))),?_⟩;refine⟨_,rfl,_,rfl,_,_,rfl,db,dc,m,hx,hy,lb,lc,Bl,fun h1 h2 H1 g1=>?_⟩;obtain⟨b,cs,gd⟩:=zaG hx hy h1 h2;obtain⟨q1,q2⟩:=q b cs gd;obtain⟨hb,b1,AJ,bl,hc,ok,_⟩:=gd;obtain⟨rc,xs,rfl,o8,nP⟩:=id hc;have xl:=nP.len;have c40:=ok.len;try dsimp only
 refine yg (fun v H'=>∃(l:Addr) (vs:List V),v=.ref l/\H' l=some (.lst vs)/\yG (PrL K H') vs (cs.map Wi)/\Grow [] H1 H') (fun Kk hk=>⟨_,rfl,rc,rfl,⟨_,g1.sqT o8⟩,y3 (xs:=xs) (fun i ys H'=>Grow [] H1 H'/\yG (PrL K H') ys ((cs.take i).map Wi)/\ys.length=i) ⟨Grow.refl _ _,trivial,rfl⟩ (fun i ys H' z=>(g1.trans z.1).sqT o8) ?_ ?_⟩) ?_
 ·rintro i x ys H2 hx ⟨g2,hA,yl⟩;obtain⟨c,B7,rz,rd,rfl,sz,sd⟩:=nP.get hx;have G:=g1.trans g2;refine⟨_,rfl,rz,_,0,.int c.hand,rfl,rfl,G.sqT sz,zH (j:=0) rfl,_,rfl,rz,_,3,.int c.begun,rfl,rfl,G.sqT sz,zH (j:=3) rfl,szl rfl,fun t ht=>?_⟩;have gt:=Grow.new (m:=[]) ht (.tup [.int c.hand,.int c.begun]);refine⟨jY (by have:=(aL.mp hx).1;omega),g2.trans gt,?_,by rw[bD,cZ,yl]⟩;rw[im,B7,bZ];exact yG.app (hA.imp fun _ _ z=>z.grow gt) ⟨⟨t,rfl,_,_,SqT.of zd,rfl,rfl⟩,trivial⟩
 ·rintro ys H2 ⟨g2,hA,yl⟩ l hl;rw[xl,dG] at hA;have gl:=Grow.new (m:=[]) hl (.lst ys);exact hk _ _ ⟨l,ys,rfl,zd,hA.imp fun _ _ z=>z.grow gl,g2.trans gl⟩
 rintro _ H2 ⟨l,vs,rfl,hl,hA,g2⟩;have vl:=hA.len;rw[aE] at vl;have e:(cs.map Wi).length=vs.length:=by rw[aE,vl]
 refine⟨_,rfl,l,vs,cs.map Wi,rfl,SqL.of hl,hA,by rw[aE];omega,fun p hp=>?_⟩;have gp:=Grow.new (m:=[]) hp (.ext fun h=>Yn h p (Wl (cs.map Wi)).length);refine⟨p,(Wl (cs.map Wi)).length,rfl,zd,_,rfl,l,vs,rfl,.inl (SqL.of (gp.keep _ _ (by simp) hl)),rfl,_,rfl,?_⟩;have G:=g1.trans (g2.trans gp);have di:=QT (ks:=cs.map Wi);rw[e] at di;by_cases hn:(cs.map Wi).Nodup
 ·refine yW ?_ (q1 (SW hn) _ G);rw[di.mpr hn];simp
 ·refine wy ?_ fun e=>q2 (fun z=>hn (SV z)) e _ G;have ne:(Wl (cs.map Wi)).length≠vs.length:=fun z=>hn (di.mp z);show(!decide (V.int _=V.int _))=true;rw[decide_eq_false fun z=>ne (by have:=V.int.inj z;omega)];rfl
theorem ZL:FnScope ["board","calls","order"] ["board","calls","order"] (zf (top 53)):=⟨rfl,rfl,rfl,by decide +kernel,rfl,by decide +kernel,by decide +kernel⟩
theorem ZM(F:Fun K "is_serial" "is_serial" (top 53) f fd)(B:Blt mg){A_NoBoard:Addr}{A_NoCalls:Addr}(nL:vn K mg "NoBoard" A_NoBoard)(nO:vn K mg "NoCalls" A_NoCalls)(oH:zp P w K mg base n "are_answered" ["board","calls","order"] (qX K))(pP:zp P w K mg base n "keeps_hands" ["calls","order"] (Uw K))(BB:zp P w K mg base n "is_order" ["thing","numbers"] (uM K))(El:zF P w K mg base n "need_own_times" ["board","thing"] (um A_NoBoard A_NoCalls K))     :
  FnOk P w K mg base (CX1 P w) (n+1) f fd ["board","calls","order"] (uP A_NoBoard A_NoCalls K):=by
 refine Fun.okX F ZL tQ (fun og A outer s H vs Q E hr h=>?_);obtain⟨x,y,z,rfl,db,dc,d,m,hx,hy,hd,lb,lc,hl,Bl,q⟩:=h;refine⟨_,(ze (xj (xp El (wf fun _ _ _ z=>z) hr rfl (za (pv 0) (za (pv 1) zb)))) (ze (yB (yC (zZ (zn BB hr rfl (za (pv 2) (za (wI rfl rfl B.list rfl B.range (za (zm zv rfl B.len wF (za (pv 1) zb)) zb)) zb))))) (zi (zr xz)) zz) (zi (zr (xC (zn pP hr rfl (za (pv 1) (za (pv 2) zb))) (wp (zn oH hr rfl (za (pv 0) (za (pv 1) (za (pv 2) zb)))))))))),?_⟩;refine⟨_,rfl,_,rfl,_,_,rfl,db,dc,m,hx,hy,lb,lc,Bl,fun b cs gd=>?_⟩;obtain⟨q1,q2⟩:=q b cs gd;obtain⟨hb,b1,AJ,bl,hc,ok,_⟩:=gd;clear q;refine⟨fun ow H1 g1=>?_,fun no e H1 g1=>q2 no e H1 g1⟩;obtain⟨rc,xs,rfl,o8,nP⟩:=id hc;have xl:=nP.len;have c40:=ok.len;have q:=q1 ow;try dsimp only
 refine vk (fun c H'=>((!c)=true ↔ ∃ns,uA cs.length d ns)/\Grow [] H1 H') (fun Kk hk=>⟨_,rfl,_,rfl,rc,_,rfl,.inr (g1.sqT o8),xs.length,rfl,by omega,fun l1 AT=>⟨_,_,rfl,d,m,aF cs.length,(hd.grow (g1.wk (m:=m))).grow ((Grow.new AT _).wk (m:=m)),hl,⟨l1,rfl,SqL.of (by rw[zd,xl];rfl)⟩,fo,fun b1 H2 g2 h1=>⟨_,rfl,hk _ _ ⟨by rw[Bool.not_not];exact h1,(Grow.new AT _).trans g2⟩⟩⟩⟩) ?_;rintro c H2 ⟨h1,g2⟩;have G2:=g1.trans g2;cases c with
 |true =>
  refine y7 (q _ _ ⟨(fun z=>nomatch z),fun⟨ns,o,_⟩=>absurd (h1.mpr ⟨ns,o⟩) (by decide)⟩ G2)
 |false =>
  obtain⟨ns,o⟩:=h1.mp rfl;have hN:yX K H z ns:=Z7 o.1 hd;have n5:∀k∈ns,k<cs.length:=fun k hk=>bN.mp (o.2.mem_iff.mp hk);have FC:∀bb:Bool,bb=(rq cs ns && vM cs b ns)->(bb=true ↔ Ux b cs d):=fun bb e=>by
   rw[e,aJ];exact⟨fun z=>⟨ns,o,z.1,z.2⟩,fun⟨ms,o',z1,z2⟩=>by rw[o.uniq o'];exact⟨z1,z2⟩⟩
  refine yQ (wv ?_);refine⟨_,rfl,_,rfl,_,_,rfl,cs,ns,G2.calls72 hc,(fun c hc=>(ok.ok c hc).t0),hN.grow G2,n5,(by rw[o.2.length_eq,aS];exact c40),fun H3 g3=>⟨_,rfl,?_⟩⟩;cases hk:rq cs ns with
  |false=>exact yQ (q _ _ (FC _ (by rw[hk];rfl)) (G2.trans g3))
  |true=>exact y7 ⟨_,rfl,_,rfl,_,rfl,_,_,_,rfl,b,cs,ns,(G2.trans g3).board hb,(G2.trans g3).calls72 hc,hN.grow (G2.trans g3),ok.ok,n5,fun H4 g4=>q _ _ (FC _ (by rw[hk];rfl)) (G2.trans (g3.trans g4))⟩
theorem yy:FnScope ["calls","masks","number","call","hand","begun"] ["calls"] (zf (top 54)):=⟨rfl,rfl,rfl,by decide +kernel,rfl,by decide +kernel,by decide +kernel⟩
theorem jC(F:Fun K "hand_masks" "hand_masks" (top 54) f fd)(B:Blt mg)(oH:zp P w K mg base n "as_mask" ["numbers"] (sK K))(n6:mg "enumerate" = none)   :
  FnOk P w K mg base CX0 (n+1) f fd ["calls"] (Uy K):=by
 refine F.ok yy xI (fun og A outer s H vs Q E hr h=>?_);obtain⟨x,rfl,cs,hc,c40,q⟩:=h;refine⟨_,(ze (zx (i:=1) yy.nd rfl (bB rfl) jb) (ze (xS PassesOwn.never rfl (tM true (K:=K) rfl rfl n6 (za (pv 0) zb)) (xf rfl (zk (zj (i:=2) yy.nd rfl (bB rfl)) (zk (zj (i:=3) yy.nd rfl (bB rfl)) yc))) (ze (xR (yz (za (zU yP (pv 3) zg (fun _ _=>rfl)) (za (zU yP (pv 3) zg (fun _ _=>rfl)) zb))) (xf rfl (zk (zj (i:=4) yy.nd rfl (lh rfl)) (zk (zj (i:=5) yy.nd rfl (lh rfl)) yc)))) (zi (Ya (Room.u173 hr) (pv 1) (pv 2) (zn oH hr rfl (za (y8 (CSc.of (N':=["at","other","hand","begun"]) (sub:=[none,none,some 4,some 5]) (zf (top 54)) ["calls","masks","number","call","hand","begun"] rfl rfl (by decide +kernel) rfl) rfl (tM true (K:=K) rfl rfl n6 (za (pv 0) zb)) (fun _ _ _ _ _ _=>Vp (K:=K) 2 rfl rfl (zk (zj (i:=0) (show(["at","other","hand","begun"]:List Str).Nodup by decide +kernel) rfl (bB rfl) (lh rfl)) (zk (zj (i:=1) (show(["at","other","hand","begun"]:List Str).Nodup by decide +kernel) rfl (bB rfl) (lh rfl)) yc)) rfl rfl) (fun _ _ _ _ _ _=>(qP (PW.pt (wB (zw wx (zU (wH (K:=K) rfl) (pv 1) zg (fun _ _=>rfl)) (pv 2) (zy _)) (xF (zw XE (zU (wH (K:=K) rfl) (pv 1) zg (fun _ _=>rfl)) (pv 3) (zy _))))))) (fun _ _ _ _ _ _=>(pv 0))) zb)) rfl)))) (zi (zr (pv 1))))),?_⟩;obtain⟨rc,xs,rfl,o8,nP⟩:=id hc;have xl:=nP.len;refine yg (fun v H'=>∃d,v=.ref d/\H d=none/\H'=upd H d (.dK [])) (fun Kk hk=>fun d hd=>hk _ _ ⟨d,rfl,hd,rfl⟩) ?_;rintro _ _ ⟨d,rfl,hd,rfl⟩;have g0:=Grow.new (m:=[]) hd (.dK []);refine⟨_,rfl,rc,_,rfl,g0.sqT o8,jW (c:=true) (xs:=xs) (fun i σ H'=>∃(e2 e3 e4 e5:Option V),σ=[some (.ref rc),some (.ref d),e2,e3,e4,e5]/\H' d=some (.dK (yY ((ud (zS cs) (aF cs.length)).take i)))/\Grow [d] H H') ⟨_,_,_,_,rfl,zd,g0.wk⟩ (fun i σ H' _ z=>by obtain⟨_,_,_,_,_,_,g⟩:=z;exact(g.sqT o8:SqT K H' rc xs)) ?_ ?_⟩
 ·rintro i x σ H1 T hv ⟨e2,e3,e4,e5,rfl,hd1,g1⟩ hT;obtain⟨c,Dq,Cz⟩:=nP.get hv;have hi:=(aL.mp Dq).1;have ec:cg cs i=c:=yn Dq;obtain⟨rz,rd,rfl,sz,_⟩:=g1.call72 Cz;have gT:=Grow.new (m:=[]) hT (.tup [.int i,.ref rz]);have CA:=zd (H:=H1) (a:=T) (o:=.tup [.int i,.ref rz]);have Bv:=gT.keep _ _ (by simp) hd1;have g2:=g1.trans gT.wk;have FP:=gT.sqT sz;generalize upd H1 T _=H2 at gT CA Bv g2 FP ⊢;refine⟨T,_,rfl,SqT.of CA,rfl,_,_,rfl,_,_,rfl,rfl,?_⟩;try dsimp only
  refine⟨_,rfl,rz,_,0,.int c.hand,rfl,rfl,FP,zH (j:=0) rfl,_,rfl,rz,_,3,.int c.begun,rfl,rfl,FP,zH (j:=3) rfl,szl rfl,fun tt ht=>⟨tt,_,rfl,SqT.of zd,rfl,_,_,rfl,_,_,rfl,rfl,?_⟩⟩;have gt:=Grow.new (m:=[]) ht (.tup [.int c.hand,.int c.begun]);have Ee:=gt.keep _ _ (by simp) Bv;have g3:=g2.trans gt.wk;generalize upd H2 tt _=H3 at gt Ee g3 ⊢;try dsimp only
  have step:∀j,(aF (j+1)).filter (fun k=>zS cs k i)=(aF j).filter (fun k=>zS cs k i)++if zS cs j i=true then[j] else[]:=fun j=>by
   rw[fB,gy];by_cases c:zS cs j i=true <;> simp[c]
  refine⟨_,rfl,rc,_,rfl,g3.sqT o8,rZ (c:=true) (xs:=xs) (fun j ys σ' H'=>(∃e0 e1:Option V,σ'=[e0,e1,some (.int c.hand),some (.int c.begun)])/\Grow [] H3 H'/\ys=zC ((aF j).filter (fun k=>zS cs k i))) ⟨⟨_,_,rfl⟩,Grow.refl _ _,rfl⟩ (fun j ys σ' H' z=>((g3.trans z.2.1.wk).sqT o8:SqT K H' rc xs)) ?_ ?_⟩
  ·rintro j v ys σ' H4 T4 hv4 ⟨⟨e0,e1,rfl⟩,g4,rfl⟩ hT4;obtain⟨c',hcj,FU⟩:=nP.get hv4;have hj:=(aL.mp hcj).1;obtain⟨GK,rd',rfl,sz',_⟩:=(g3.trans g4.wk).call72 FU;have FV:=Grow.new (m:=[]) hT4 (.tup [.int j,.ref GK]);have FX:=zd (H:=H4) (a:=T4) (o:=.tup [.int j,.ref GK]);have E5:=FV.sqT sz';generalize upd H4 T4 _=H5 at FV FX E5 ⊢;have small:(zC ((aF j).filter (fun k=>zS cs k i))).length<sizeLine:=by
    rw[z6];have:=iI (fun k=>zS cs k i) (aF j);rw[aS] at this;exact jY (by omega)
   have ej:cg cs j=c':=yn hcj;refine⟨T4,_,rfl,SqT.of FX,rfl,_,_,rfl,_,_,rfl,rfl,?_⟩;refine⟨_,rfl,GK,_,0,.int c'.hand,rfl,rfl,E5,zH (j:=0) rfl,_,rfl,rfl,_,rfl,?_⟩;by_cases ch:c'.hand=c.hand
   ·refine wy (decide_eq_true (congrArg V.int ch)) ⟨_,rfl,GK,_,3,.int c'.begun,rfl,rfl,E5,zH (j:=3) rfl,_,rfl,_,_,rfl,rfl,_,rfl,?_⟩;by_cases cb:c'.begun<c.begun
    ·have bf:zS cs j i=true:=by unfold zS;rw[ej,ec,decide_eq_true ch,decide_eq_true cb];rfl
     refine wy (decide_eq_true cb) ⟨_,rfl,small,⟨_,_,rfl⟩,g4.trans FV,?_⟩;rw[step,if_pos bf,vX];rfl
    ·have bf:¬zS cs j i=true:=by unfold zS;rw[ej,ec,decide_eq_false cb,io];exact aZ
     refine yW (decide_eq_false cb) ⟨⟨_,_,rfl⟩,g4.trans FV,?_⟩;rw[step,if_neg bf,cS]
   ·have bf:¬zS cs j i=true:=by unfold zS;rw[ej,ec,decide_eq_false ch,mY];exact aZ
    refine yW (decide_eq_false fun z=>ch (V.int.inj z)) ?_;try dsimp only
    refine yW rfl ⟨⟨_,_,rfl⟩,g4.trans FV,?_⟩;rw[step,if_neg bf,cS]
  ·rintro ys σ' H4 ⟨_,g4,rfl⟩ l hl;rw[xl];have gl:=Grow.new (m:=[]) hl (.lst (zC ((aF cs.length).filter (fun k=>zS cs k i))));refine⟨_,rfl,(aF cs.length).filter (fun k=>zS cs k i),⟨l,rfl,SqL.of zd⟩,fo.sublist gi,(fun k hk=>by have:=bN.mp (dX.mp hk).1;omega),fun H5 g5=>?_⟩;have G:=g4.trans (gl.trans g5);have hd5:=G.keep _ _ (by simp) Ee;have Dp:(ud (zS cs) (aF cs.length))[i]?=some (i,WI ((aF cs.length).filter (fun k=>zS cs k i))):=by
    unfold ud;rw[bE,cG hi];rfl
   have nk:i∉((ud (zS cs) (aF cs.length)).take i).map (·.1):=by
    rw[nv,sM];intro z;obtain⟨j,hj⟩:=fS z;have Dl:=(aL.mp hj).1;rw[bT] at Dl;rw[i0 (by omega),cG (by omega)] at hj;have:=bQ hj;omega
   refine⟨_,rfl,_,rfl,d,_,rfl,QC.k (k:=Sum.inl (i:Int)) hd5 ?_,⟨_,_,_,_,rfl,?_,g3.trans (G.wk.trans (Grow.setK73 hd5 (by simp)))⟩⟩
   ·unfold yY;rw[aE,bT,ue];exact jY (by omega)
   ·rw[zd,Xh nk,yh Dp]
 ·rintro σ H1 ⟨e2,e3,e4,e5,rfl,hd1,g1⟩;rw[xl,dv (by rw[ue,aS];exact aG _)] at hd1;exact⟨_,rfl,q d _ hd (Grow.shrink hd g1) hd1⟩
theorem YK:FnScope ["board","calls"] ["board","calls"] (zf (top 55)):=⟨rfl,rfl,rfl,by decide +kernel,rfl,by decide +kernel,by decide +kernel⟩
theorem YL(F:Fun K "a_serial" "a_serial" (top 55) f fd)(B:Blt mg){A_TooMany:Addr}{A_NoBoard:Addr}{A_NoCalls:Addr}(oV:vn K mg "TooMany" A_TooMany)(nL:vn K mg "NoBoard" A_NoBoard)(nO:vn K mg "NoCalls" A_NoCalls)(oH:zp P w K mg base n "order_by" ["board","calls","masks"] (Yi K))(pP:zp P w K mg base n "hand_masks" ["calls"] (Uy K))(BB:zF P w K mg base n "need_own_times" ["board","thing"] (um A_NoBoard A_NoCalls K)){om:Tok}(pL:mg "MOST_FOR_SERIAL" = some (.int 8 om))  :
  FnOk P w K mg base (CX1 P w) (n+1) f fd ["board","calls"] (sV A_NoBoard A_NoCalls A_TooMany K):=by
 refine Fun.okX F YK uk (fun og A outer s H vs Q E hr h=>?_);obtain⟨x,y,rfl,db,dc,m,hx,hy,lb,lc,Bl,q⟩:=h;refine⟨_,(ze (xj (xp BB (wf fun _ _ _ z=>z) hr rfl (za (pv 0) (za (pv 1) zb)))) (ze (yB (zw qJ (zm zv rfl B.len wF (za (pv 1) zb)) (yb rfl pL (show zQ (.int 8) (.int 8 om) from⟨_,rfl⟩)) (zy _)) (zi (wX rfl oV rfl xV uW)) zz) (zi (zr (zn oH hr rfl (za (pv 0) (za (pv 1) (za (zn pP hr rfl (za (pv 1) zb)) zb)))))))),?_⟩;refine⟨_,rfl,_,rfl,_,_,rfl,db,dc,m,hx,hy,lb,lc,Bl,fun b cs gd=>?_⟩;obtain⟨q1,q2,q3⟩:=q b cs gd;obtain⟨hb,b1,AJ,bl,hc,ok,_⟩:=gd;clear q;refine⟨fun ow H1 g1=>?_,fun no e H1 g1=>q2 no e H1 g1⟩;obtain⟨rc,xs,rfl,o8,nP⟩:=id hc;have xl:=nP.len;try dsimp only
 by_cases c8:cs.length<=8;rotate_left
 ·exact⟨_,rfl,rc,_,rfl,.inr (g1.sqT o8),_,_,rfl,rfl,_,rfl,wy (decide_eq_true (by omega)) fun e=>q3 ow c8 e _ g1⟩
 have q:=q1 ow c8;refine vk (fun c H'=>c=false/\H'=H1) (fun Kk hk=>⟨_,rfl,rc,_,rfl,.inr (g1.sqT o8),_,_,rfl,rfl,_,rfl,hk _ _ ⟨decide_eq_false (by omega),rfl⟩⟩) ?_;rintro _ H1 ⟨rfl,rfl⟩;refine yQ (wv ?_);refine⟨_,rfl,_,rfl,_,rfl,_,rfl,cs,g1.calls72 hc,ok.len,fun d H2 nd g2 hd=>⟨_,_,_,rfl,b,cs,d,_,(g1.trans g2).board hb,(g1.trans g2).calls72 hc,rfl,.inl hd,⟨?_,ok.len,ok.ok,AJ,?_⟩,fun v H3 g3 ho=>?_⟩⟩
 ·intro p hp;obtain⟨n,hn,rfl⟩:=bI.mp hp;exact bN.mp hn
 ·rw[ue,aS];exact c8
 ·exact q v H3 (g1.trans (Grow.shrink nd (g2.wk.trans g3))) ho
theorem yV:FnScope ["_law_e","_law_found"] ["_law_e"] (zf (top 63)):=⟨rfl,rfl,rfl,by decide +kernel,rfl,by decide +kernel,by decide +kernel⟩
theorem rM(F:Fun K "_law_kinds" "_law_kinds" (top 63) f fd)(B:Blt mg){oo:Addr}{nW:Addr}{nS:Addr}{nU:Addr}{nN:Addr}{nX:Addr}{nY:Addr}{nZ:Addr}{oq:Addr}{n0:Addr}{nQ:Addr}{oA:Addr}{A_NoOrder:Addr}{A_NoCalls:Addr}{A_TooMany:Addr}{A_NoBoard:Addr}{A_AskError:Addr}(AZ:mg "NoRow" = some (.ref oo))(Ax:mg "NoText" = some (.ref nW))(pY:mg "NoToken" = some (.ref nS))(p6:mg "NoTable" = some (.ref nU))(oX:mg "NoSettings" = some (.ref nN))(Ay:mg "NoSide" = some (.ref nX))(Az:mg "NoHand" = some (.ref nY))(AA:mg "NoTree" = some (.ref nZ))(A4:mg "NoAsk" = some (.ref oq))(AB:mg "NoDeed" = some (.ref n0))(pi:mg "NoNumber" = some (.ref nQ))(A5:mg "NoNet" = some (.ref oA))(p7:mg "NoOrder" = some (.ref A_NoOrder))(p8:mg "NoCalls" = some (.ref A_NoCalls))(p9:mg "TooMany" = some (.ref A_TooMany))(Aa:mg "NoBoard" = some (.ref A_NoBoard))(kd:KdN76 K [A_NoBoard,A_TooMany,A_NoCalls,A_NoOrder,oA,nQ,n0,oq,nZ,nY,nX,nN,nU,nS,nW,oo] A_AskError)(n6:mg "enumerate" = none)(A6:mg "ValueError" = none) :
  FnOkH P w K mg base (n+1) f fd ["_law_e"] (vJ [A_NoBoard,A_TooMany,A_NoCalls,A_NoOrder,oA,nQ,n0,oq,nZ,nY,nX,nN,nU,nS,nW,oo] K):=by
 refine zak F yV (fun _=>xI) (fun og A outer s H vs Q E e0 hh hr h=>?_);obtain⟨x,rfl,C,i,rfl,ha,hc,Fu,q⟩:=h;refine⟨_,(ze (zx (i:=1) yV.nd rfl (bB rfl) (yO (za (zm (zO (K:=K) rfl) rfl B.isinstance zo (za (pv 0) (za (yb rfl Aa (show zQ (.ref A_NoBoard) (.ref A_NoBoard) from rfl)) zb))) (za (zm (zO (K:=K) rfl) rfl B.isinstance zo (za (pv 0) (za (yb rfl p9 (show zQ (.ref A_TooMany) (.ref A_TooMany) from rfl)) zb))) (za (zm (zO (K:=K) rfl) rfl B.isinstance zo (za (pv 0) (za (yb rfl p8 (show zQ (.ref A_NoCalls) (.ref A_NoCalls) from rfl)) zb))) (za (zm (zO (K:=K) rfl) rfl B.isinstance zo (za (pv 0) (za (yb rfl p7 (show zQ (.ref A_NoOrder) (.ref A_NoOrder) from rfl)) zb))) zb)))))) (ze (zx (i:=1) yV.nd rfl (bB rfl) (zR tX (pv 1) (yO (za (zm (zO (K:=K) rfl) rfl B.isinstance zo (za (pv 0) (za (yb rfl A5 (show zQ (.ref oA) (.ref oA) from rfl)) zb))) (za (zm (zO (K:=K) rfl) rfl B.isinstance zo (za (pv 0) (za (yb rfl pi (show zQ (.ref nQ) (.ref nQ) from rfl)) zb))) (za (zm (zO (K:=K) rfl) rfl B.isinstance zo (za (pv 0) (za (yb rfl AB (show zQ (.ref n0) (.ref n0) from rfl)) zb))) (za (zm (zO (K:=K) rfl) rfl B.isinstance zo (za (pv 0) (za (yb rfl A4 (show zQ (.ref oq) (.ref oq) from rfl)) zb))) zb))))))) (ze (zx (i:=1) yV.nd rfl (bB rfl) (zR tX (pv 1) (yO (za (zm (zO (K:=K) rfl) rfl B.isinstance zo (za (pv 0) (za (yb rfl AA (show zQ (.ref nZ) (.ref nZ) from rfl)) zb))) (za (zm (zO (K:=K) rfl) rfl B.isinstance zo (za (pv 0) (za (yb rfl Az (show zQ (.ref nY) (.ref nY) from rfl)) zb))) (za (zm (zO (K:=K) rfl) rfl B.isinstance zo (za (pv 0) (za (yb rfl Ay (show zQ (.ref nX) (.ref nX) from rfl)) zb))) (za (zm (zO (K:=K) rfl) rfl B.isinstance zo (za (pv 0) (za (yb rfl oX (show zQ (.ref nN) (.ref nN) from rfl)) zb))) zb))))))) (ze (zx (i:=1) yV.nd rfl (bB rfl) (zR tX (pv 1) (yO (za (zm (zO (K:=K) rfl) rfl B.isinstance zo (za (pv 0) (za (yb rfl p6 (show zQ (.ref nU) (.ref nU) from rfl)) zb))) (za (zm (zO (K:=K) rfl) rfl B.isinstance zo (za (pv 0) (za (yb rfl pY (show zQ (.ref nS) (.ref nS) from rfl)) zb))) (za (zm (zO (K:=K) rfl) rfl B.isinstance zo (za (pv 0) (za (yb rfl Ax (show zQ (.ref nW) (.ref nW) from rfl)) zb))) (za (zm (zO (K:=K) rfl) rfl B.isinstance zo (za (pv 0) (za (yb rfl AZ (show zQ (.ref oo) (.ref oo) from rfl)) zb))) zb))))))) (zi (zr (UZ (CSc.of (N':=["_law_k","_law_so"]) (sub:=[none,none]) (zf (top 63)) ["_law_e","_law_found"] rfl rfl (by decide +kernel) rfl) hh (S6 (K:=K) rfl rfl n6 (za (zR tX (pv 1) (yO (za (Rk (zm (zO (K:=K) rfl) rfl B.isinstance zo (za (pv 0) (za (wu rfl A6 Zd) zb)))) zb))) zb)) (fun _ _ _ _ _ _=>QX (K:=K) 2 rfl hh (zk (zj (i:=0) (show(["_law_k","_law_so"]:List Str).Nodup by decide +kernel) rfl (bB rfl) (lh rfl)) (zk (zj (i:=1) (show(["_law_k","_law_so"]:List Str).Nodup by decide +kernel) rfl (bB rfl) (lh rfl)) yc)) rfl rfl) (fun _ _ _ _ _ _=>(qP (zZ (pv 1)))) (fun _ _ _ _ _ _=>(pv 0))))))))),?_⟩
 have hm:=bA hc;refine yg (fun v H'=>∃l,v=.ref l/\H' l=some (.lst (ZQ i 4))/\Grow [] H H') (fun Kk hk=>xm kd hc ha rfl (j:=0) rfl (xm kd hc ha rfl (j:=1) rfl (xm kd hc ha rfl (j:=2) rfl (xm kd hc ha rfl (j:=3) rfl (⟨szl rfl,fun p hp=>hk _ _ ⟨p,rfl,zd,Grow.new hp _⟩⟩))))) ?_;rintro _ H1 ⟨l1,rfl,AT,g1⟩;have GL:=g1.keep _ _ (by simp) ha;refine yg (fun v H'=>∃l,v=.ref l/\H' l=some (.lst (ZQ i 8))/\Grow [] H H') (fun Kk hk=>⟨_,rfl,xm kd hc GL rfl (j:=4) rfl (xm kd hc GL rfl (j:=5) rfl (xm kd hc GL rfl (j:=6) rfl (xm kd hc GL rfl (j:=7) rfl (⟨szl rfl,fun p hp=>⟨l1,p,_,_,rfl,rfl,(Grow.new (m:=[]) hp _).keep _ _ (by simp) AT,zd,zaH (aI rfl),fun p3 FY=>hk _ _ ⟨p3,rfl,zd,g1.trans ((Grow.new hp _).trans (Grow.new FY _))⟩⟩⟩))))⟩) ?_;rintro _ H2 ⟨l2,rfl,Ai,g2⟩;have GM:=g2.keep _ _ (by simp) ha;refine yg (fun v H'=>∃l,v=.ref l/\H' l=some (.lst (ZQ i 12))/\Grow [] H H') (fun Kk hk=>⟨_,rfl,xm kd hc GM rfl (j:=8) rfl (xm kd hc GM rfl (j:=9) rfl (xm kd hc GM rfl (j:=10) rfl (xm kd hc GM rfl (j:=11) rfl (⟨szl rfl,fun p hp=>⟨l2,p,_,_,rfl,rfl,(Grow.new (m:=[]) hp _).keep _ _ (by simp) Ai,zd,zaH (aI rfl),fun p3 FY=>hk _ _ ⟨p3,rfl,zd,g2.trans ((Grow.new hp _).trans (Grow.new FY _))⟩⟩⟩))))⟩) ?_;rintro _ H3 ⟨l3,rfl,Bs,g3⟩;have GN:=g3.keep _ _ (by simp) ha;refine yg (fun v H'=>∃l,v=.ref l/\H' l=some (.lst (ZQ i 16))/\Grow [] H H') (fun Kk hk=>⟨_,rfl,xm kd hc GN rfl (j:=12) rfl (xm kd hc GN rfl (j:=13) rfl (xm kd hc GN rfl (j:=14) rfl (xm kd hc GN rfl (j:=15) rfl (⟨szl rfl,fun p hp=>⟨l3,p,_,_,rfl,rfl,(Grow.new (m:=[]) hp _).keep _ _ (by simp) Bs,zd,zaH (aI rfl),fun p3 FY=>hk _ _ ⟨p3,rfl,zd,g3.trans ((Grow.new hp _).trans (Grow.new FY _))⟩⟩⟩))))⟩) ?_;rintro _ H4 ⟨l4,rfl,hl4,g4⟩;have ha4:=g4.keep _ _ (by simp) ha;refine⟨_,rfl,_,rfl,e0,C,_,_,_,rfl,ha4,(fun u r=>r),kd.kk C (aX _ hm),kd.kv C (aX _ hm),true,rfl,szl rfl,fun p hp=>?_⟩;have gp:=Grow.new (m:=[]) hp (.lst [V.bl (!true)]);refine⟨l4,p,_,_,rfl,rfl,gp.keep _ _ (by simp) hl4,zd,zaH (aI rfl),fun p2 FB=>?_⟩;have g5:=gp.trans (Grow.new (m:=[]) FB (.lst (ZQ i 16++[V.bl (!true)])))
 have hpp:upd (upd H4 p (.lst [V.bl (!true)])) p2 (.lst (ZQ i 16++[V.bl (!true)])) p2=some (.lst (ZQ i 16++[V.bl false])):=zd;refine⟨p2,_,rfl,SqL.of hpp,zaq hpp (g5.keep _ _ (by simp) ha4) Fu fun r H' g h=>q r H' (g4.trans (g5.trans g)) h⟩
theorem zN:FnScope ["_law_choice","_law_board","_law_calls","_law_rows","_law_order","_law_shown","_law_found","_law_e"] ["_law_choice","_law_board","_law_calls","_law_rows","_law_order"] (zf (top 68)):=⟨rfl,rfl,rfl,by decide +kernel,rfl,by decide +kernel,by decide +kernel⟩
theorem jD(F:Fun K "_law_tried" "_law_tried" (top 68) f fd)(B:Blt mg){A_AskError:Addr}{A_NoBoard:Addr}{A_NoCalls:Addr}{A_NoOrder:Addr}{A_TooMany:Addr}{oA:Addr}{nQ:Addr}{n0:Addr}{oq:Addr}{nZ:Addr}{nY:Addr}{nX:Addr}{nN:Addr}{nU:Addr}{nS:Addr}{nW:Addr}{oo:Addr}(pj:vn K mg "AskError" A_AskError)(nL:vn K mg "NoBoard" A_NoBoard)(nO:vn K mg "NoCalls" A_NoCalls)(oG:vn K mg "NoOrder" A_NoOrder)(oV:vn K mg "TooMany" A_TooMany)(kd:KdN76 K [A_NoBoard,A_TooMany,A_NoCalls,A_NoOrder,oA,nQ,n0,oq,nZ,nY,nX,nN,nU,nS,nW,oo] A_AskError)(oH:zF P w K mg base n "fits" ["board","calls","order"] (sT A_NoBoard A_NoCalls K))(pP:zF P w K mg base n "an_order" ["board","calls"] (jm A_NoBoard A_NoCalls K))(BB:zF P w K mg base n "gone_together" ["board","calls","orders"] (sU A_NoBoard A_NoCalls A_NoOrder K))(El:zF P w K mg base n "is_serial" ["board","calls","order"] (uP A_NoBoard A_NoCalls K))(CF:zF P w K mg base n "a_serial" ["board","calls"] (sV A_NoBoard A_NoCalls A_TooMany K))(IU:zF P w K mg base n "are_calls" ["board","thing"] (jl A_NoBoard K))(A7:uK P w K mg base n "_law_kinds" ["_law_e"] (vJ [A_NoBoard,A_TooMany,A_NoCalls,A_NoOrder,oA,nQ,n0,oq,nZ,nY,nX,nN,nU,nS,nW,oo] K))    :
  FnOk P w K mg base CX0 (n+1) f fd ["_law_choice","_law_board","_law_calls","_law_rows","_law_order"] (qF K):=by
 refine F.ok zN Qi (fun og A outer s H vs Q E hr h=>?_);obtain⟨c,x,y,z,u,rfl,ch,n,al,t0,t1,t2,db,dc,dr,m,rfl,c0,c5,T,q⟩:=h;refine⟨_,(@ze _ _ _ _ _ (@zx _ _ 5 _ _ _ _ zN.nd rfl (bB rfl) (@zm _ _ _ _ _ _ _ _ _ (r0 (K:=K) rfl hr) rfl B.repr Rw (@za _ _ _ _ _ (@yz _ _ _ _ _ (@za _ _ _ _ _ (pv 1) (@za _ _ _ _ _ (pv 2) (@za _ _ _ _ _ (pv 3) (@za _ _ _ _ _ (pv 4) zb (by rfl)) (by rfl)) (by rfl)) (by rfl))) zb (by rfl)) (by decide) (by decide) (by rfl) (by rfl)) (by rfl) (by first|exact .inl rfl|exact .inr rfl|assumption)) (@ze _ _ _ _ _ (@Q3 _ _ _ _ _ _ _ _ _ _ _ _ ((fun _ C H'=>Jf [A_NoBoard,A_TooMany,A_NoCalls,A_NoOrder,oA,nQ,n0,oq,nZ,nY,nX,nN,nU,nS,nW,oo] ch n al t0 t1 t2 C/\Grow [] H H')) 7 K rfl rfl rfl rfl pj rfl zN.nd rfl rfl rfl (fun ps σ=>(@yU _ _ _ _ (@ZF _ _ _ _ _ _ _ _ _ (@zw _ _ _ _ _ _ _ _ wx (pv 0) zg (zy _)) (@yU _ _ _ _ (@uR _ _ _ _ _ 6 _ _ zN.nd rfl (bB rfl) (@xY _ _ _ _ _ _ _ _ _ _ _ _ oH (@xX _ _ _ _ rfl) hr rfl (@za _ _ _ _ _ (pv 1) (@za _ _ _ _ _ (pv 2) (@za _ _ _ _ _ (pv 4) zb (by rfl)) (by rfl)) (by rfl)) (by decide) (by rfl) (by rfl)) (by rfl) (by first|exact .inl rfl|exact .inr rfl|assumption))) (@yU _ _ _ _ (@ZF _ _ _ _ _ _ _ _ _ (@zw _ _ _ _ _ _ _ _ wx (pv 0) zg (zy _)) (@yU _ _ _ _ (@uR _ _ _ _ _ 6 _ _ zN.nd rfl (bB rfl) (@xY _ _ _ _ _ _ _ _ _ _ _ _ pP (@xX _ _ _ _ rfl) hr rfl (@za _ _ _ _ _ (pv 1) (@za _ _ _ _ _ (pv 2) zb (by rfl)) (by rfl)) (by decide) (by rfl) (by rfl)) (by rfl) (by first|exact .inl rfl|exact .inr rfl|assumption))) (@yU _ _ _ _ (@ZF _ _ _ _ _ _ _ _ _ (@zw _ _ _ _ _ _ _ _ wx (pv 0) zg (zy _)) (@yU _ _ _ _ (@uR _ _ _ _ _ 6 _ _ zN.nd rfl (bB rfl) (@xY _ _ _ _ _ _ _ _ _ _ _ _ BB (@xX _ _ _ _ rfl) hr rfl (@za _ _ _ _ _ (pv 1) (@za _ _ _ _ _ (pv 2) (@za _ _ _ _ _ (pv 3) zb (by rfl)) (by rfl)) (by rfl)) (by decide) (by rfl) (by rfl)) (by rfl) (by first|exact .inl rfl|exact .inr rfl|assumption))) (@yU _ _ _ _ (@ZF _ _ _ _ _ _ _ _ _ (@zw _ _ _ _ _ _ _ _ wx (pv 0) zg (zy _)) (@yU _ _ _ _ (@uR _ _ _ _ _ 6 _ _ zN.nd rfl (bB rfl) (@xY _ _ _ _ _ _ _ _ _ _ _ _ El (@xX _ _ _ _ rfl) hr rfl (@za _ _ _ _ _ (pv 1) (@za _ _ _ _ _ (pv 2) (@za _ _ _ _ _ (pv 4) zb (by rfl)) (by rfl)) (by rfl)) (by decide) (by rfl) (by rfl)) (by rfl) (by first|exact .inl rfl|exact .inr rfl|assumption))) (@yU _ _ _ _ (@ZF _ _ _ _ _ _ _ _ _ (@zw _ _ _ _ _ _ _ _ wx (pv 0) zg (zy _)) (@yU _ _ _ _ (@uR _ _ _ _ _ 6 _ _ zN.nd rfl (bB rfl) (@xY _ _ _ _ _ _ _ _ _ _ _ _ CF (@xX _ _ _ _ rfl) hr rfl (@za _ _ _ _ _ (pv 1) (@za _ _ _ _ _ (pv 2) zb (by rfl)) (by rfl)) (by decide) (by rfl) (by rfl)) (by rfl) (by first|exact .inl rfl|exact .inr rfl|assumption))) (@yU _ _ _ _ (@uR _ _ _ _ _ 6 _ _ zN.nd rfl (bB rfl) (@xY _ _ _ _ _ _ _ _ _ _ _ _ IU (@xX _ _ _ _ rfl) hr rfl (@za _ _ _ _ _ (pv 1) (@za _ _ _ _ _ (pv 2) zb (by rfl)) (by rfl)) (by decide) (by rfl) (by rfl)) (by rfl) (by first|exact .inl rfl|exact .inr rfl|assumption)))))))))))))) (fun e=>(@zi _ _ _ (@zx _ _ 6 _ _ _ _ zN.nd rfl (bB rfl) (@S3 _ _ _ _ _ _ _ _ _ _ _ A7 rfl (RoomH.of hr) rfl (@za _ _ _ _ _ (pv 7) zb (by rfl)) (by decide) (by rfl) (by rfl)) (by rfl) (by first|exact .inl rfl|exact .inr rfl|assumption)))) (by decide)) (@zi _ _ _ (@zr _ _ _ _ (@x9 _ _ _ _ _ _ _ _ (@zw _ _ _ _ _ _ _ _ wx (@zm _ _ _ _ _ _ _ _ _ (r0 (K:=K) rfl hr) rfl B.repr Rw (@za _ _ _ _ _ (@yz _ _ _ _ _ (@za _ _ _ _ _ (pv 1) (@za _ _ _ _ _ (pv 2) (@za _ _ _ _ _ (pv 3) (@za _ _ _ _ _ (pv 4) zb (by rfl)) (by rfl)) (by rfl)) (by rfl))) zb (by rfl)) (by decide) (by decide) (by rfl) (by rfl)) (pv 5) (zy _)) (pv 6) uW))))),?_⟩
 obtain⟨D,s1,s2,s3,oD⟩:=T.shown;refine yg (fun v H'=>v=.str D.shown/\Grow [] H H') (fun Kk hk=>⟨_,rfl,_,rfl,_,rfl,_,rfl,szl rfl,fun t ht=>⟨_,D,m,rfl,oD _ _ (Grow.new ht _) (SqT.of zd),s1,s2,s3,hk _ _ ⟨rfl,Grow.new ht _⟩⟩⟩) ?_;rintro _ H1 ⟨rfl,g1⟩;have T1:=T.grow g1;generalize hS:D.shown=S at s3;refine jv (fun σ' H'=>∃v e,σ'=[some (.int ch),some x,some y,some z,some u,some (.str S),some v,e]/\Grow [] H H'/\Wy K H' ch n al t0 t1 t2 v) (fun D' nx=>?_) ?_;rotate_left
 ·rintro σ' H2 ⟨v,e,rfl,g2,fd⟩;refine⟨_,rfl,_,rfl,_,rfl,_,rfl,szl rfl,fun t ht=>⟨_,D,m,rfl,oD _ _ (g2.trans (Grow.new ht _)) (SqT.of zd),s1,s2,by rw[hS];exact s3,?_⟩⟩;rw[hS];refine⟨_,rfl,rfl,_,rfl,wy (decide_eq_true rfl) ⟨_,rfl,q _ _ (g2.trans (Grow.new ht _)) (fd.grow (Grow.new ht _))⟩⟩
 have oE:∀v e H',Grow [] H H'->Wy K H' ch n al t0 t1 t2 v->D'.nx [some (.int ch),some x,some y,some z,some u,some (.str S),some v,e] H':=fun v e H' g fd=>nx _ _ ⟨v,e,rfl,g,fd⟩;clear nx q;have Tu:∃r,u=.ref r/\SqT K H1 r (zC (aF n)):=T1.ou;obtain⟨ru,rfl,hru⟩:=Tu;have odu:Od K m H1 (.ref ru) (wj n):=wK hru;have n9:=T1.n9;have flu:Qw (wj n):=j4 (by rw[aS];omega);refine⟨?_,fun e C' H' hn hE=>?_⟩;rotate_left
 ·obtain⟨⟨i,hi,i4,ed⟩,g⟩:=hE;refine⟨kd.up _ (aX _ (bA hi)),_,rfl,_,rfl,C',i,rfl,zd,hi,by omega,fun l H2 g2 Ai=>?_⟩;exact oE (.ref l) _ H2 (g.trans ((Grow.new hn _).trans g2)) (.inr ⟨_,l,ed,rfl,Ai⟩)
 have Em:ch=0\/ch=1\/ch=2\/ch=3\/ch=4\/ch=5:=by omega
 rcases Em with rfl|rfl|rfl|rfl|rfl|rfl
 ·refine⟨_,rfl,rfl,_,rfl,wy (decide_eq_true rfl) ?_⟩;exact⟨_,rfl,_,rfl,_,rfl,_,_,_,rfl,db,dc,_,m,T1.ob,T1.oc,odu,T1.lb,T1.lc,flu,xx T1 (by decide) g1,fun b cs gd bb H' g hb=>oE _ _ H' (g1.trans g) (Yx T1 gd hb)⟩
 ·refine⟨_,rfl,rfl,_,rfl,yW (by decide) ⟨_,rfl,rfl,_,rfl,wy (decide_eq_true rfl) ?_⟩⟩;exact⟨_,rfl,_,rfl,_,_,rfl,db,dc,m,T1.ob,T1.oc,T1.lb,T1.lc,xx T1 (by decide) g1,fun b cs gd v H' g so hv=>oE _ _ H' (g1.trans g) (Wz T1 gd so hv)⟩
 ·refine⟨_,rfl,rfl,_,rfl,yW (by decide) ⟨_,rfl,rfl,_,rfl,yW (by decide) ⟨_,rfl,rfl,_,rfl,wy (decide_eq_true rfl) ?_⟩⟩⟩;exact⟨_,rfl,_,rfl,_,rfl,_,_,_,rfl,db,dc,dr,m,T1.ob,T1.oc,T1.od,T1.lb,T1.lc,T1.fl,xx T1 (by decide) g1,fun b cs gd=>⟨fun os e ho v H' g so hv=>oE _ _ H' (g1.trans g) (Yy T1 gd e ho so hv),fun hn e H' g=>⟨Td T1 gd hn,g1.trans g⟩⟩⟩
 ·refine⟨_,rfl,rfl,_,rfl,yW (by decide) ⟨_,rfl,rfl,_,rfl,yW (by decide) ⟨_,rfl,rfl,_,rfl,yW (by decide) ⟨_,rfl,rfl,_,rfl,wy (decide_eq_true rfl) ?_⟩⟩⟩⟩;exact⟨_,rfl,_,rfl,_,rfl,_,_,_,rfl,db,dc,_,m,T1.ob,T1.oc,odu,T1.lb,T1.lc,flu,xx T1 (by decide) g1,fun b cs gd=>⟨fun ow t H' ht g=>oE _ _ H' (g1.trans g) (ZG T1 gd ow ht),fun no e H' g=>⟨Xz (.inl rfl) T1 gd no,g1.trans g⟩⟩⟩
 ·refine⟨_,rfl,rfl,_,rfl,yW (by decide) ⟨_,rfl,rfl,_,rfl,yW (by decide) ⟨_,rfl,rfl,_,rfl,yW (by decide) ⟨_,rfl,rfl,_,rfl,yW (by decide) ⟨_,rfl,rfl,_,rfl,wy (decide_eq_true rfl) ?_⟩⟩⟩⟩⟩;exact⟨_,rfl,_,rfl,_,_,rfl,db,dc,m,T1.ob,T1.oc,T1.lb,T1.lc,xx T1 (by decide) g1,fun b cs gd=>⟨fun ow c8 v H' g hv=>oE _ _ H' (g1.trans g) (Yz T1 gd ow c8 hv),fun no e H' g=>⟨Xz (.inr rfl) T1 gd no,g1.trans g⟩,fun ow c8 e H' g=>⟨Te T1 gd ow c8,g1.trans g⟩⟩⟩
 ·refine⟨_,rfl,rfl,_,rfl,yW (by decide) ⟨_,rfl,rfl,_,rfl,yW (by decide) ⟨_,rfl,rfl,_,rfl,yW (by decide) ⟨_,rfl,rfl,_,rfl,yW (by decide) ⟨_,rfl,rfl,_,rfl,yW (by decide) ?_⟩⟩⟩⟩⟩;refine⟨_,rfl,_,rfl,_,_,rfl,db,dc,m,T1.ob,T1.oc,T1.lb,T1.lc,?_⟩;split
  ·rename_i hb;exact fun H' g=>oE _ _ H' (g1.trans g) (WA T1 hb)
  ·rename_i hb;exact fun e H' g=>⟨Rh T1 hb,g1.trans g⟩
theorem wm:FnScope ["_law_choice","_law_truths","_law_many","_law_alike","_law_on_board","_law_are_good","_law_are_rows"] ["_law_choice","_law_truths","_law_many","_law_alike"] (zf (top 69)):=⟨rfl,rfl,rfl,by decide +kernel,rfl,by decide +kernel,by decide +kernel⟩
theorem YM(F:Fun K "_law_due" "_law_due" (top 69) f fd)(B:Blt mg)      :
  FnOk P w K mg base CX0 (n+1) f fd ["_law_choice","_law_truths","_law_many","_law_alike"] (Xp K):=by
 refine F.ok wm Z1 (fun og A outer s H vs Q E hr h=>?_);obtain⟨x,y,z,w,rfl,ch,Al,l,t0,t1,t2,al,rfl,rfl,hl,rfl,rfl,q⟩:=h;refine⟨_,(ze (xR (pv 1) (S7 rfl (zk (zj (i:=4) wm.nd rfl (bB rfl)) (zk (zj (i:=5) wm.nd rfl (bB rfl)) (zk (zj (i:=6) wm.nd rfl (bB rfl)) yc))))) (ze (yB (yC (zZ (pv 4))) (zi (zr (yO (za zg zb)))) zz) (ze (yB (zw wx (pv 0) zg (zy _)) (zi (zr (yO zb))) zz) (ze (yB (PW.pt (tS (yC (zZ (pv 5))) (vh (PW.pt (wB (zZ (pv 3)) (xF (zw tW (pv 0) (yz (za zg (za zg zb))) (by with_unfolding_all rfl)))))))) (zi (zr (yO (za zg zb)))) zz) (ze (yB (PW.pt (wB (zw wx (pv 0) zg (zy _)) (xF (zw qJ (pv 2) zg (zy _))))) (zi (zr (yO (za zg zb)))) zz) (zi (zr (x9 (PW.pt (wB (zw wx (pv 0) zg (zy _)) (xF (yC (zZ (pv 6)))))) (yO (za zg zb)) (yO zb))))))))),?_⟩;have oE:∀(ws:List V) (H1:Hp) (p:Addr),Grow [] H H1->H1 p=none->ws=xi ch t0 t1 t2 Al al->Q (.ref p) (upd H1 p (.lst ws)):=fun ws H1 p g hp e=>q p _ (g.trans (Grow.new hp _)) (by rw[zd,e]);clear q;refine⟨_,rfl,l,_,rfl,SqL.of hl,rfl,_,_,rfl,_,_,rfl,_,_,rfl,rfl,?_⟩;refine⟨_,rfl,_,rfl,?_⟩;cases t0 with
 |false=>exact⟨szl rfl,fun p hp=>oE _ _ p (.refl _ _) hp (by simp[xi])⟩
 |true =>
  have d0:xi ch true t1 t2 Al al=if ch=5 then[] else if t1=false\/(al=true/\(ch=3\/ch=4)) then[.int 2] else if ch=4/\8<Al then[.int 1] else if ch=2/\t2=false then[.int 3] else[]:=if_neg (by decide)
  refine⟨_,rfl,rfl,_,rfl,?_⟩;dsimp only
  by_cases c5:ch=5
  ·rw[if_pos (decide_eq_true (congrArg V.int c5))];exact⟨szl rfl,fun p hp=>oE _ _ p (.refl _ _) hp (by rw[d0,if_pos c5])⟩
  ·rw[if_neg (by simpa using c5)];rw[if_neg c5] at d0;have Ix:inV (V.int ch) [V.int 3,V.int 4]=decide (ch=3\/ch=4):=by
    rw[dh];simp only[inV,eqV,dO,List.any_nil,Bool.or_false,kh,beq_iff_eq,decide_eq_true_eq]
    omega
   have IV:∀(T:Bool->Hp->Prop),(∀H1,Grow [] H H1->T (decide (t1=false\/(al=true/\(ch=3\/ch=4)))) H1)->tOr (zaN (tB (WO 5))) (zaM (tB (WO 3)) (Tw (tOp (rIn K false) (WO 0) (zbJ (XH (tC (V.int 3)) (XH (tC (V.int 4)) R8)))))) [some (.int ch),some (.ref l),some (.int Al),some (.bl al),some (.bl true),some (.bl t1),some (.bl t2)] H T:=by
    intro T hT;refine⟨_,rfl,_,rfl,?_⟩;cases t1 with
    |false=>have:=hT H (.refl _ _);rw[decide_eq_true (.inl rfl)] at this;exact this
    |true =>
     refine⟨_,rfl,_,rfl,?_⟩;cases al with
     |false=>have:=hT H (.refl _ _);rw[decide_eq_false (by simp)] at this;exact this
     |true =>
      refine⟨_,rfl,szl rfl,fun p hp=>⟨p,_,rfl,.inr (SqT.of zd),rfl,rfl,_,rfl,?_⟩⟩;have:=hT _ (Grow.new (m:=[]) hp (.tup [V.int 3,V.int 4]));rw[show decide (true=false\/(true=true/\(ch=3\/ch=4)))=inV (V.int ch) [V.int 3,V.int 4] by rw[Ix];simp] at this;exact this
   refine IV _ fun H1 g=>?_;dsimp only
   by_cases c2:t1=false\/(al=true/\(ch=3\/ch=4))
   ·rw[if_pos (decide_eq_true c2)];exact⟨szl rfl,fun p hp=>oE _ _ p g hp (by rw[d0,if_pos c2])⟩
   ·rw[if_neg (by rw[decide_eq_true_eq];exact c2)];rw[if_neg c2] at d0;refine⟨_,rfl,rfl,_,rfl,?_⟩;dsimp only
    have FZ:∀(D:Ends) (H2:Hp),Grow [] H H2->D.rt=Q->xi ch true t1 t2 Al al=(if ch=2/\t2=false then[.int 3] else[])->zbD (tIf (zaM (Tw (tOp rEq (WO 0) (tC (V.int 2)))) (zaN (tB (WO 6)))) (zaZ (XH (tC (V.int 3)) R8)) (zaZ R8)) D [some (.int ch),some (.ref l),some (.int Al),some (.bl al),some (.bl true),some (.bl t1),some (.bl t2)] H2:=by
     intro D H2 g2 eD ed;refine⟨_,rfl,rfl,_,rfl,?_⟩;dsimp only
     rw[eD];by_cases c:ch=2
     ·rw[if_pos (decide_eq_true (congrArg V.int c))];refine⟨_,rfl,_,rfl,?_⟩;cases t2 with
      |false=>exact⟨szl rfl,fun p hp=>oE _ _ p g2 hp (by rw[ed,if_pos ⟨c,rfl⟩])⟩
      |true=>exact⟨szl rfl,fun p hp=>oE _ _ p g2 hp (by rw[ed,if_neg (by simp)])⟩
     ·rw[if_neg (by simpa using c)];exact⟨szl rfl,fun p hp=>oE _ _ p g2 hp (by rw[ed,if_neg (fun z=>c z.1)])⟩
    by_cases c4:ch=4
    ·rw[if_pos (decide_eq_true (congrArg V.int c4))];refine⟨_,rfl,_,_,rfl,rfl,_,rfl,?_⟩;dsimp only
     by_cases c8:8<Al
     ·rw[if_pos (decide_eq_true c8)];exact⟨szl rfl,fun p hp=>oE _ _ p g hp (by rw[d0,if_pos ⟨c4,c8⟩])⟩
     ·rw[if_neg (by simpa using c8)];exact FZ _ H1 g rfl (by rw[d0,if_neg (fun z=>c8 z.2)])
    ·rw[if_neg (by simpa using c4)];exact FZ _ H1 g rfl (by rw[d0,if_neg (fun z=>c4 z.1)])
theorem x8:FnScope ["_law_rows","_law_some"] ["_law_rows"] (zf (top 67)):=⟨rfl,rfl,rfl,by decide +kernel,rfl,by decide +kernel,by decide +kernel⟩
theorem uT(F:Fun K "_law_no_orders" "_law_no_orders" (top 67) f fd)(B:Blt mg)      :
  FnOk P w K mg base CX0 (n+1) f fd ["_law_rows"] (Xt K):=by
 refine F.ok x8 xI (fun og A outer s H vs Q E hr h=>?_);obtain⟨x,rfl,n,m,hn,hm,ox,q⟩:=h;refine⟨_,(@ze _ _ _ _ _ (@zx _ _ 1 _ _ _ _ x8.nd rfl (bB rfl) (@u4 _ K _ _ _ _ (@zh _ _ _ _ _ _ _ u3 (@zh _ _ _ _ _ _ _ (@zK _ _ _ _ _ _ _ zL (by exact aI rfl)) (@zB _ _ _ _ _ _ _ _ (@sZ _ K _ _ _ _ (fun t ht=>@yD _ _ _ _ _ _ _ _ _ (uy (K:=K) rfl) rfl B.list t4 ht (by decide) (by decide) (by rfl) (by rfl)) (@ye _ _ _ _ (.tuple [.tuple (zA 0 n),.tuple (zA 1 n)]) (pv 0)) rfl) (@zB _ _ _ _ _ _ _ _ (@wQ _ K _ _ _ _ _ _ rfl (@ye _ _ _ _ (.tuple [.tuple (zA 0 n),.tuple (zA 1 n)]) (pv 0)) (@zK _ _ _ _ _ _ _ (@zh _ _ _ _ _ _ _ (@zK _ _ _ _ _ _ _ zL (by exact aI rfl)) zL (by rfl)) (by exact aI rfl)) (by first|exact aI rfl|exact U5 hn|exact U6 hn)) (@zB _ _ _ _ _ _ _ _ (@uQ _ K _ _ _ _ _ _ _ _ rfl (@ye _ _ _ _ (.tuple [.tuple (zA 0 n),.tuple (zA 1 n)]) (pv 0))) (@zB _ _ _ _ _ _ _ _ (@zK _ _ _ _ _ _ _ (@zB _ _ _ _ _ _ _ _ (@xO _ K _ _ _ _ _ _ _ _ 0 rfl (@ye _ _ _ _ (.tuple [.tuple (zA 0 n),.tuple (zA 1 n)]) (pv 0)) rfl rfl (fun _ _=>rfl)) (@zh _ _ _ _ _ _ _ u3 zL (by rfl)) (by rfl)) (by exact aI rfl)) (@zB _ _ _ _ _ _ _ _ (@zK _ _ _ _ _ _ _ (@zB _ _ _ _ _ _ _ _ (@xO _ K _ _ _ _ _ _ _ _ 0 rfl (@ye _ _ _ _ (.tuple [.tuple (zA 0 n),.tuple (zA 1 n)]) (pv 0)) rfl rfl (fun _ _=>rfl)) (@zX _ _ _ _ _ (@sZ _ K _ _ _ _ (fun t ht=>@yD _ _ _ _ _ _ _ _ _ (uy (K:=K) rfl) rfl B.list t4 ht (by decide) (by decide) (by rfl) (by rfl)) (@xO _ K _ _ _ _ _ _ _ _ 1 rfl (@ye _ _ _ _ (.tuple [.tuple (zA 0 n),.tuple (zA 1 n)]) (pv 0)) rfl rfl (fun _ _=>rfl)) rfl) (by rfl)) (by rfl)) (by exact aI rfl)) (@zh _ _ _ _ _ _ _ zW (@zh _ _ _ _ _ _ _ Vu (@zh _ _ _ _ _ _ _ (Z5 (K:=K)) zL sf) (by rfl)) (by rfl)) (by rfl)) (by rfl)) (by rfl)) (by rfl)) (by rfl)) (by rfl)) (by rfl)) (by exact aI rfl)) (by rfl) (by first|exact .inl rfl|exact .inr rfl|assumption)) (@zi _ _ _ (@zr _ _ _ _ (@zR _ _ _ _ _ _ _ _ tX (pv 1) (@u4 _ K _ _ _ _ (@zB _ _ _ _ _ _ _ _ (@zK _ _ _ _ _ _ _ (@zB _ _ _ _ _ _ _ _ (@xO _ K _ _ _ _ _ _ _ _ 0 rfl (@ye _ _ _ _ (.tuple [.tuple (zA 0 n),.tuple (zA 1 n)]) (pv 0)) rfl rfl (fun _ _=>rfl)) (@zX _ _ _ _ _ (@wQ _ K _ _ _ _ _ _ rfl (@xO _ K _ _ _ _ _ _ _ _ 1 rfl (@ye _ _ _ _ (.tuple [.tuple (zA 0 n),.tuple (zA 1 n)]) (pv 0)) rfl rfl (fun _ _=>rfl)) (@zK _ _ _ _ _ _ _ (@zh _ _ _ _ _ _ _ zW zL (by rfl)) (by exact aI rfl)) (by first|exact aI rfl|exact U5 hn|exact U6 hn)) (by rfl)) (by rfl)) (by exact aI rfl)) (@zB _ _ _ _ _ _ _ _ (@zK _ _ _ _ _ _ _ (@zB _ _ _ _ _ _ _ _ (@ju _ K _ _ _ _ _ _ _ rfl (@xO _ K _ _ _ _ _ _ _ _ 0 rfl (@ye _ _ _ _ (.tuple [.tuple (zA 0 n),.tuple (zA 1 n)]) (pv 0)) rfl rfl (fun _ _=>rfl)) (@uQ _ K _ _ _ _ _ _ _ _ rfl (@xO _ K _ _ _ _ _ _ _ _ 0 rfl (@ye _ _ _ _ (.tuple [.tuple (zA 0 n),.tuple (zA 1 n)]) (pv 0)) rfl rfl (fun _ _=>rfl))) (by first|exact aI rfl|exact U5 hn|exact U6 hn)) (@zX _ _ _ _ _ (@xO _ K _ _ _ _ _ _ _ _ 1 rfl (@ye _ _ _ _ (.tuple [.tuple (zA 0 n),.tuple (zA 1 n)]) (pv 0)) rfl rfl (fun _ _=>rfl)) (by rfl)) (by rfl)) (by exact aI rfl)) (@zB _ _ _ _ _ _ _ _ (@zK _ _ _ _ _ _ _ (@zh _ _ _ _ _ _ _ (@zK _ _ _ _ _ _ _ (@zh _ _ _ _ _ _ _ Qp zL (by rfl)) (by exact aI rfl)) (@zX _ _ _ _ _ (@xO _ K _ _ _ _ _ _ _ _ 1 rfl (@ye _ _ _ _ (.tuple [.tuple (zA 0 n),.tuple (zA 1 n)]) (pv 0)) rfl rfl (fun _ _=>rfl)) (by rfl)) (by rfl)) (by exact aI rfl)) (@zX _ _ _ _ _ (@zK _ _ _ _ _ _ _ (@zB _ _ _ _ _ _ _ _ (@xO _ K _ _ _ _ _ _ _ _ 0 rfl (@ye _ _ _ _ (.tuple [.tuple (zA 0 n),.tuple (zA 1 n)]) (pv 0)) rfl rfl (fun _ _=>rfl)) (@zh _ _ _ _ _ _ _ (@zK _ _ _ _ _ _ _ (@zh _ _ _ _ _ _ _ zW zL (by rfl)) (by exact aI rfl)) zL (by rfl)) (by rfl)) (by exact aI rfl)) (by rfl)) (by rfl)) (by rfl)) (by rfl)) (by exact aI rfl)))))),?_⟩
 refine yg (fun v H'=>∃l xs,v=.ref l/\H' l=some (.lst xs)/\Ods K m H' xs [.none,.tuple [],.list [.tuple (zA 0 n),.tuple (zA 1 n)],.tuple ([.tuple (zA 0 n),.tuple (zA 1 n)]++[.tuple []]),.tuple (jF [.tuple (zA 0 n),.tuple (zA 1 n)] none (some 1)),.tuple [.tuple (zA 0 n),.none],.tuple [.tuple (zA 0 n),.list (zA 1 n)],.int 4,.str "",.dict []]/\Grow [] H H') (fun Kk hk=>⟨m,?_,hm,fun x H' g o=>?_⟩) ?_
 ·repeat' first|exact⟨_,rfl,ox⟩|exact trivial|refine⟨?_,?_⟩
 ·obtain⟨l,xs,rfl,hl,_,_,os⟩:=o.inv_lst;exact hk _ _ ⟨l,xs,rfl,hl,os,g⟩
 rintro _ H2 ⟨l2,xs2,rfl,Ai,os2,g2⟩;have ox2:=ox.grow (g2.wk (m:=m));have IW:=wJ g2 hm;refine⟨_,rfl,m,?_,IW,fun x H' g o=>?_⟩
 ·repeat' first|exact⟨_,rfl,ox2⟩|exact trivial|refine⟨?_,?_⟩
 obtain⟨l,xs,rfl,hl,_,_,os⟩:=o.inv_lst;refine⟨l2,l,_,_,rfl,rfl,g.keep _ _ (by simp) Ai,hl,by rw[os2.length,os.length];exact c7 (zI (aI rfl)),fun r Ak=>q r _ _ (g2.trans (g.trans (Grow.new Ak _))) zd ?_⟩;exact((os2.grow (g.wk (m:=m))).append os).grow ((Grow.new Ak _).wk (m:=m))
theorem u9:FnScope ["_law_pot_here","_law_many","_law_digit"] ["_law_pot_here","_law_many"] (zf (top 62)):=⟨rfl,rfl,rfl,by decide +kernel,rfl,by decide +kernel,by decide +kernel⟩
theorem ZN(F:Fun K "_law_take" "_law_take" (top 62) f fd)(B:Blt mg)      :
  FnOk P w K mg base CX0 (n+1) f fd ["_law_pot_here","_law_many"] (qQ K):=by
 refine F.ok u9 y0 (fun og A outer s H vs Q E hr h=>?_);obtain⟨x,y,rfl,a,m,rfl,rfl,⟨p0,p1,hp,h0⟩,hm,IW,q⟩:=h;refine⟨_,(ze (yB (zw qJ (zU zY (pv 0) zg (fun _ _=>rfl)) zg (zy _)) (ze (zx (i:=2) u9.nd rfl (bB rfl) (zR uX (zU zY (pv 0) zg (fun _ _=>rfl)) (pv 1))) (ze (xR (zR qO (zU zY (pv 0) zg (fun _ _=>rfl)) (pv 1)) (WR (pv 0) zg qK)) (zi (zr (pv 2))))) zz) (ze (xR (zR uX (zR tT (zR qN (zU zY (pv 0) zg (fun _ _=>rfl)) zg) zg) zg) (WR (pv 0) zg qK)) (zi (zr (zR uX (zR qO (zR uX (zR qN (zU zY (pv 0) zg (fun _ _=>rfl)) (zU zY (pv 0) zg (fun _ _=>rfl))) zg) zg) (pv 1)))))),?_⟩;refine⟨_,rfl,a,_,_,_,rfl,rfl,SqL.of hp,rfl,_,_,rfl,rfl,_,rfl,?_⟩;refine Rv (fun c=>?_) (fun c=>?_)
 ·refine⟨_,rfl,a,_,_,_,rfl,rfl,SqL.of hp,rfl,_,rfl,p0,m,rfl,rfl,hm,?_⟩;refine⟨_,rfl,a,_,_,_,rfl,rfl,SqL.of hp,rfl,_,rfl,p0,m,rfl,rfl,⟨hm,IW⟩,_,rfl,a,_,0,0,rfl,rfl,hp,rfl,?_⟩;exact⟨_,rfl,q _ _ (iF _ (by omega)) (gE _ hm) (Grow.set hp (by simp) _) ⟨p0 / m,p1,zd,Int.ediv_nonneg h0 (by omega)⟩⟩
 ·refine⟨_,rfl,a,_,_,_,rfl,rfl,SqL.of hp,rfl,p1,48271,rfl,rfl,Va ⟨by decide,by decide⟩,_,_,rfl,rfl,_,_,rfl,rfl,(by show(0:Int)<2147483647;decide),_,rfl,a,_,1,1,rfl,rfl,hp,rfl,?_⟩;have b0:0<=(p1*48271+12345) % 2147483647:=iF _ (by decide);have b1:(p1*48271+12345) % 2147483647<2147483647:=gE _ (by decide);refine⟨_,rfl,a,_,_,_,rfl,rfl,SqL.of zd,rfl,_,rfl,a,_,_,_,rfl,rfl,SqL.of zd,rfl,(p1*48271+12345) % 2147483647,(p1*48271+12345) % 2147483647,rfl,rfl,Va ⟨by omega,by omega⟩,_,_,rfl,rfl,(by show(0:Int)<2147483629;decide),_,_,rfl,rfl,⟨by decide,by decide⟩,_,rfl,_,_,rfl,rfl,hm,?_⟩;exact q _ _ (iF _ (by omega)) (gE _ hm) (Grow.set hp (by simp) _) ⟨p0,(p1*48271+12345) % 2147483647,zd,h0⟩
theorem yi:FnScope ["_law_pot_here","_law_one","_law_some"] ["_law_pot_here"] (zf (top 66)):=⟨rfl,rfl,rfl,by decide +kernel,rfl,by decide +kernel,by decide +kernel⟩
theorem tK(F:Fun K "_law_no_calls" "_law_no_calls" (top 66) f fd)(B:Blt mg)(oH:zp P w K mg base n "_law_take" ["_law_pot_here","_law_many"] (qQ K))     :
  FnOk P w K mg base CX0 (n+1) f fd ["_law_pot_here"] (Xs K):=by
 refine F.ok yi xI (fun og A outer s H vs Q E hr h=>?_);obtain⟨x,rfl,p,rfl,pp,q⟩:=h;refine⟨_,(@ze _ _ _ _ _ (@zx _ _ 1 _ _ _ _ yi.nd rfl (lh rfl) (@zK _ K _ _ _ _ _ (@zh _ _ _ _ _ _ _ zW (@zh _ _ _ _ _ _ _ zW (@zh _ _ _ _ _ _ _ (@zK _ _ _ _ _ _ _ (@zh _ _ _ _ _ _ _ zW (@zh _ _ _ _ _ _ _ u3 (@zh _ _ _ _ _ _ _ u3 zL (by rfl)) (by rfl)) (by rfl)) (by exact aI rfl)) (@zh _ _ _ _ _ _ _ zW (@zh _ _ _ _ _ _ _ zW (@zh _ _ _ _ _ _ _ zW zL (by rfl)) (by rfl)) (by rfl)) (by rfl)) (by rfl)) (by rfl)) (by exact aI rfl)) (by rfl) (by first|exact .inl rfl|exact .inr rfl|assumption)) (@ze _ _ _ _ _ (@zx _ _ 2 _ _ _ _ yi.nd rfl (bB rfl) (@u4 _ K _ _ _ _ (@zh _ _ _ _ _ _ _ u3 (@zB _ _ _ _ _ _ _ _ (@u4 _ _ _ _ _ _ (@zX _ _ _ _ _ (@ye _ _ _ _ (.tuple yM) (pv 1)) (by rfl)) (by exact aI rfl)) (@zB _ _ _ _ _ _ _ _ (@U2 _ K _ _ _ _ _ _ 9 _ _ _ rfl (@ye _ _ _ _ (.tuple yM) (pv 1)) rfl rfl (by decide)) (@zB _ _ _ _ _ _ _ _ (@zK _ _ _ _ _ _ _ (@zB _ _ _ _ _ _ _ _ (@ye _ _ _ _ (.tuple yM) (pv 1)) (@zh _ _ _ _ _ _ _ u3 zL (by rfl)) (by rfl)) (by exact aI rfl)) (@zB _ _ _ _ _ _ _ _ (@zK _ _ _ _ _ _ _ (@zX _ _ _ _ _ (@ut _ K _ _ _ _ _ _ rfl (@zK _ _ _ _ _ _ _ (@zh _ _ _ _ _ _ _ zW (@zh _ _ _ _ _ _ _ zW zL (by rfl)) (by rfl)) (by exact aI rfl)) (@uu _ K _ _ _ _ _ _ _ _ rfl (@ye _ _ _ _ (.tuple yM) (pv 1))) (by decide)) (by rfl)) (by exact aI rfl)) (@zX _ _ _ _ _ (@zK _ _ _ _ _ _ _ (@zX _ _ _ _ _ (@wQ _ K _ _ _ _ _ _ rfl (@uQ _ K _ _ _ _ _ _ _ _ rfl (@ye _ _ _ _ (.tuple yM) (pv 1))) (@zK _ _ _ _ _ _ _ (@zh _ _ _ _ _ _ _ zW (@zh _ _ _ _ _ _ _ zW (@zh _ _ _ _ _ _ _ zW zL (by rfl)) (by rfl)) (by rfl)) (by exact aI rfl)) (by decide)) (by rfl)) (by exact aI rfl)) (by rfl)) (by rfl)) (by rfl)) (by rfl)) (by rfl)) (by rfl)) (by exact aI rfl)) (by rfl) (by first|exact .inl rfl|exact .inr rfl|assumption)) (@ze _ _ _ _ _ (@zx _ _ 2 _ _ _ _ yi.nd rfl (bB rfl) (@zR _ _ _ _ _ _ _ _ tX (pv 2) (@u4 _ K _ _ _ _ (@zB _ _ _ _ _ _ _ _ (@zK _ _ _ _ _ _ _ (@zX _ _ _ _ _ (@uQ _ K _ _ _ _ _ _ _ _ rfl (@ye _ _ _ _ (.tuple yM) (pv 1))) (by rfl)) (by exact aI rfl)) (@zh _ _ _ _ _ _ _ Vu (@zh _ _ _ _ _ _ _ zW (@zB _ _ _ _ _ _ _ _ (@ye _ _ _ _ (.tuple yM) (pv 1)) (@zB _ _ _ _ _ _ _ _ (@zK _ _ _ _ _ _ _ (@zX _ _ _ _ _ (@ut _ K _ _ _ _ _ _ rfl (@zK _ _ _ _ _ _ _ (@zh _ _ _ _ _ _ _ zW zL (by rfl)) (by exact aI rfl)) (@uu _ K _ _ _ _ _ _ _ _ rfl (@ye _ _ _ _ (.tuple yM) (pv 1))) (by decide)) (by rfl)) (by exact aI rfl)) (@zX _ _ _ _ _ (@zK _ _ _ _ _ _ _ (@zX _ _ _ _ _ (@ut _ K _ _ _ _ _ _ rfl (@zK _ _ _ _ _ _ _ (@zh _ _ _ _ _ _ _ zW (@zh _ _ _ _ _ _ _ zW (@zh _ _ _ _ _ _ _ (@zK _ _ _ _ _ _ _ (@zh _ _ _ _ _ _ _ zW (@zh _ _ _ _ _ _ _ zW (@zh _ _ _ _ _ _ _ zW zL (by rfl)) (by rfl)) (by rfl)) (by exact aI rfl)) zL (by rfl)) (by rfl)) (by rfl)) (by exact aI rfl)) (@uu _ K _ _ _ _ _ _ _ _ rfl (@ye _ _ _ _ (.tuple yM) (pv 1))) (by decide)) (by rfl)) (by exact aI rfl)) (by rfl)) (by rfl)) (by rfl)) (by rfl)) (by rfl)) (by rfl)) (by exact aI rfl))) (by rfl) (by first|exact .inl rfl|exact .inr rfl|assumption)) (@ze _ _ _ _ _ (@zx _ _ 2 _ _ _ _ yi.nd rfl (bB rfl) (@zR _ _ _ _ _ _ _ _ tX (pv 2) (@u4 _ K _ _ _ _ (@zB _ _ _ _ _ _ _ _ (@zK _ _ _ _ _ _ _ (@zX _ _ _ _ _ (@wQ _ K _ _ _ _ _ _ rfl (@uQ _ K _ _ _ _ _ _ _ _ rfl (@ye _ _ _ _ (.tuple yM) (pv 1))) (@zK _ _ _ _ _ _ _ (@zh _ _ _ _ _ _ _ RE (@zh _ _ _ _ _ _ _ zW (@zh _ _ _ _ _ _ _ zW zL (by rfl)) (by rfl)) (by rfl)) (by exact aI rfl)) (by decide)) (by rfl)) (by exact aI rfl)) (@zB _ _ _ _ _ _ _ _ (@zK _ _ _ _ _ _ _ (@zX _ _ _ _ _ (@wQ _ K _ _ _ _ _ _ rfl (@uQ _ K _ _ _ _ _ _ _ _ rfl (@ye _ _ _ _ (.tuple yM) (pv 1))) (@zK _ _ _ _ _ _ _ (@zh _ _ _ _ _ _ _ Qp zL (by rfl)) (by exact aI rfl)) (by decide)) (by rfl)) (by exact aI rfl)) (@zB _ _ _ _ _ _ _ _ (@zK _ _ _ _ _ _ _ (@zX _ _ _ _ _ (@sZ _ K _ _ _ _ (fun t ht=>@yD _ _ _ _ _ _ _ _ _ (uy (K:=K) rfl) rfl B.list t4 ht (by decide) (by decide) (by rfl) (by rfl)) (@ye _ _ _ _ (.tuple yM) (pv 1)) rfl) (by rfl)) (by exact aI rfl)) (@zh _ _ _ _ _ _ _ (Z5 (K:=K)) (@zX _ _ _ _ _ (@zK _ _ _ _ _ _ _ (@zX _ _ _ _ _ (@ut _ K _ _ _ _ _ _ rfl (@zK _ _ _ _ _ _ _ (@zh _ _ _ _ _ _ _ zW (@zh _ _ _ _ _ _ _ RE zL (by rfl)) (by rfl)) (by exact aI rfl)) (@uu _ K _ _ _ _ _ _ _ _ rfl (@ye _ _ _ _ (.tuple yM) (pv 1))) (by decide)) (by rfl)) (by exact aI rfl)) (by rfl)) sf) (by rfl)) (by rfl)) (by rfl)) (by exact aI rfl))) (by rfl) (by first|exact .inl rfl|exact .inr rfl|assumption)) (@ze _ _ _ _ _ (@xj _ _ _ _ (@W5 _ _ _ _ _ _ _ _ _ _ _ _ fU hJ hV vQ (pv 2) (@za _ _ _ _ _ (@yD _ _ _ _ _ _ _ _ _ xo rfl B.tuple yZ (@za _ _ _ _ _ (@y8 _ _ _ _ _ _ _ _ _ _ _ _ _ (CSc.of (N':=["_law_k","_law_one"]) (sub:=[none,some 1]) (zf (top 66)) ["_law_pot_here","_law_one","_law_some"] rfl rfl (by decide +kernel) rfl) rfl (@wC _ _ _ _ _ _ rfl B.range (@za _ _ _ _ _ zg zb (by rfl)) (by rfl)) (fun _ _ _ _ _ _=>zj (i:=0) (show(["_law_k","_law_one"]:List Str).Nodup by decide +kernel) rfl (bB rfl)) (fun _ _ _ _ _ _=>yv) (fun _ _ _ _ _ _=>(@zR _ _ _ _ _ _ _ _ (wb (K:=K) rfl) (@yz _ _ _ _ _ (@za _ _ _ _ _ (@zR _ _ _ _ _ _ _ _ uX (pv 0) zg) (@za _ _ _ _ _ zg zb (by rfl)) (by rfl))) (@y6 _ _ _ _ _ _ _ _ _ _ (xJ (K:=K) rfl) (pv 1) (@xt _ _ _ zg) xH))) (by intro _;rfl)) zb (by rfl)) (by decide) (by decide) (by rfl) (by rfl)) zb (by rfl)) (by rfl) (by rfl) (by rfl) (by rfl) (by rfl)) (by rfl)) (@zi _ _ _ (@zr _ _ _ _ (@zU _ _ _ _ _ _ _ zY (pv 2) (@zn _ _ _ _ _ _ _ _ _ _ oH hr rfl (@za _ _ _ _ _ (pv 0) (@za _ _ _ _ _ (@zm _ _ _ _ _ _ _ _ _ zv rfl B.len wF (@za _ _ _ _ _ (pv 2) zb (by rfl)) (by decide) (by decide) (by rfl) (by rfl)) zb (by rfl)) (by rfl)) (by decide) (by rfl) (by rfl)) (fun _ _=>rfl))))))))),?_⟩
 have hm:∀{H':Hp},Pot H' p->∀b∈[p],H' b≠none:=fun pp b hb=>by
  rw[aR.mp hb];obtain⟨u0,u1,e,_⟩:=pp;rw[e];exact fun z=>nomatch z
 refine yg (fun v H'=>Od K [p] H' v (.tuple yM)/\Grow [] H H') (fun Kk hk=>⟨[p],trivial,hm pp,fun x H' g o=>hk _ _ ⟨o,g⟩⟩) ?_;rintro v1 H1 ⟨o1,g1⟩;have En:=pp.grow g1;refine yg (fun v H'=>∃l xs,v=.ref l/\H' l=some (.lst xs)/\Ods K [p] H' xs Xr/\Grow [] H1 H') (fun Kk hk=>⟨[p],?_,hm En,fun x H' g o=>?_⟩) ?_
 ·repeat' first|exact⟨_,rfl,o1⟩|exact trivial|refine⟨?_,?_⟩
 ·obtain⟨l,xs,rfl,hl,_,_,os⟩:=o.inv_lst;exact hk _ _ ⟨l,xs,rfl,hl,os,g⟩
 rintro _ H2 ⟨l2,xs2,rfl,Ai,os2,g2⟩;have BP:=En.grow g2;have o2:=o1.grow (g2.wk (m:=[p]));refine yg (fun v H'=>∃l xs,v=.ref l/\H' l=some (.lst xs)/\Ods K [p] H' xs (Xr++U3)/\Grow [] H2 H') (fun Kk hk=>⟨_,rfl,[p],?_,hm BP,fun x H' g o=>?_⟩) ?_
 ·repeat' first|exact⟨_,rfl,o2⟩|exact trivial|refine⟨?_,?_⟩
 ·obtain⟨l,xs,rfl,hl,_,_,os⟩:=o.inv_lst;refine⟨l2,l,_,_,rfl,rfl,g.keep _ _ (by simp) Ai,hl,by rw[os2.length,os.length];exact c7 (zI (by decide)),fun r Ak=>hk _ _ ⟨r,_,rfl,zd,?_,g.trans (Grow.new Ak _)⟩⟩;exact((os2.grow (g.wk (m:=[p]))).append os).grow ((Grow.new Ak _).wk (m:=[p]))
 rintro _ H3 ⟨l3,xs3,rfl,Bs,CS,g3⟩;have GO:=BP.grow g3;have o3:=o2.grow (g3.wk (m:=[p]));refine yg (fun v H'=>∃l xs,v=.ref l/\l≠p/\H3 l=none/\H' l=some (.lst xs)/\Ods K [l,p] H' xs (Xr++U3++R0)/\Od K [l,p] H' v1 (.tuple yM)/\Grow [] H3 H') (fun Kk hk=>⟨_,rfl,[p],?_,hm GO,fun x H' g o=>?_⟩) ?_
 ·repeat' first|exact⟨_,rfl,o3⟩|exact trivial|refine⟨?_,?_⟩
 ·obtain⟨l,xs,rfl,hl,_,_,os⟩:=o.inv_lst;refine⟨l3,l,_,_,rfl,rfl,g.keep _ _ (by simp) Bs,hl,by rw[CS.length,os.length];exact c7 (zI (by decide)),fun r Ak=>hk _ _ ⟨r,_,rfl,fun z=>?_,g.free (by simp) Ak,zd,?_,?_,g.trans (Grow.new Ak _)⟩⟩
  ·exact wW (GO.grow g) Ak (by rw[z];simp)
  ·exact(((CS.grow (g.wk (m:=[p]))).append os).more Ak).grow ((Grow.new Ak _).wk (m:=[r,p]))
  ·exact((o3.grow (g.wk (m:=[p]))).more Ak).grow ((Grow.new Ak _).wk (m:=[r,p]))
 rintro _ H4 ⟨l4,xs4,rfl,n4,f4,hl4,os4,o4,g4⟩;have pp4:=GO.grow g4;obtain⟨r1,IY,rfl,sr1,or1⟩:=o4.inv_tup;refine⟨_,rfl,.inl ⟨rfl,_,SqL.of hl4⟩,_,rfl,by decide,by decide,qS (fun i ys H'=>Grow [] H4 H'/\Ods K [l4,p] H' ys ((aF i).map fun k:Nat=>kL ([.int ((k:Int) % 16),.int 0]++jF yM (some 2) none))) ⟨Grow.refl _ _,.nil⟩ ?_ ?_⟩
 ·rintro i ys H' hi ⟨g,os⟩;have i41:i<41:=by omega
  have or':=or1.grow (g.wk (m:=[l4,p]));refine⟨_,rfl,_,_,rfl,rfl,(by show(0:Int)<16;decide),szl rfl,fun t ht=>⟨_,rfl,_,rfl,r1,IY,rfl,(g.trans (Grow.new ht _)).sqT sr1,fun p' H5 g5 s5=>?_⟩⟩;have gt:=Grow.new (m:=[]) ht (.tup [V.int ((0+(i:Int)) % 16),V.int 0]);have o5:=(or'.grow (gt.wk (m:=[l4,p]))).grow (g5.wk (m:=[l4,p]));have st:=g5.sqT (SqT.of (K:=K) (zd (H:=H') (a:=t) (o:=.tup [V.int ((0+(i:Int)) % 16),V.int 0])));refine⟨t,p',_,_,rfl,rfl,st,s5,?_,fun r H6 g6 s6=>⟨?_,g.trans (gt.trans (g5.trans g6)),?_⟩⟩
  ·have:=vt IY (some (2:Int)) none;have e:IY.length=6:=or1.length;exact c7 (zI (by show 2+_<=1000;omega))
  ·rw[os.length,aE,aS];exact zI (by omega)
  ·rw[fB,bZ];refine(os.grow ((gt.trans (g5.trans g6)).wk (m:=[l4,p]))).append (.cons (.tup s6 ?_) .nil);rw[kU];exact(Ods.append (.cons (.int _) (.cons (.int 0) .nil)) o5.cut).grow (g6.wk (m:=[l4,p]))
 rintro ys H5 ⟨g5,os5⟩ l hl;refine⟨l,ys,rfl,.inl ⟨SqL.of zd,fun t ht=>?_⟩⟩;have g6:=(Grow.new (m:=[]) hl (.lst ys)).trans (Grow.new ht (.tup ys));have st:SqT K (upd (upd H5 l (.lst ys)) t (.tup ys)) t ys:=SqT.of zd;generalize upd (upd H5 l (.lst ys)) t (.tup ys)=H6 at g6 st ⊢;have G:=g5.trans g6;have IZ:=pp4.grow G;have hl6:=G.keep _ _ (by simp) hl4;have os6:=(os4.grow (G.wk (m:=[l4,p]))).append (.cons (Od.tup st (os5.grow (g6.wk (m:=[l4,p])))) .nil);refine⟨l4,_,_,rfl,rfl,hl6,?_,?_⟩
 ·rw[os4.length];exact zI (by decide)
 have g7:Grow [l4] H6 (upd H6 l4 (.lst (xs4++[V.ref t]))):=Grow.set hl6 (by simp) _;have I9:upd H6 l4 (.lst (xs4++[V.ref t])) l4=some (.lst (xs4++[V.ref t])):=zd;have G7:Grow [] H3 (upd H6 l4 (.lst (xs4++[V.ref t]))):=Grow.shrink f4 ((g4.trans G).wk.trans g7);have pp7:=GO.grow G7;have Ka:Ods K [p] (upd H6 l4 (.lst (xs4++[V.ref t]))) (xs4++[V.ref t]) U4:=(os6.grow (g7.mono (by simp))).less (by simp);generalize upd H6 l4 (.lst (xs4++[V.ref t]))=H7 at I9 G7 pp7 Ka ⊢;have xl:(xs4++[V.ref t]).length=18:=Ka.length;refine⟨_,rfl,_,rfl,_,rfl,l4,_,rfl,.inl (SqL.of I9),_,_,rfl,p,18,rfl,by rw[xl];rfl,pp7,by decide,by decide,fun v H8 v0 v1 g8 F0=>?_⟩;obtain⟨d,hd,od⟩:=Ka.get (i:=v.toNat) (x:=(xs4++[V.ref t]).getD v.toNat .non) (by rw[aH,aC (by omega)];rfl);have nl4:l4∉[p]:=fun z=>n4 (aR.mp z);refine⟨l4,_,v,_,rfl,rfl,SqL.of (g8.keep _ _ nl4 I9),?_,q _ d H8 (bA hd) (((g1.trans (g2.trans (g3.trans G7))).wk).trans g8) F0 (od.grow g8)⟩;have ev:v=((v.toNat:Nat):Int):=by omega
 rw[ev,bL];exact zH (by rw[aH,aC (by omega)];rfl)
theorem uU:FnScope [] [] (zf (top 65)):=⟨rfl,rfl,rfl,by decide +kernel,rfl,by decide +kernel,by decide +kernel⟩
theorem uV(F:Fun K "_law_no_boards" "_law_no_boards" (top 65) f fd)(B:Blt mg)      :
  FnOk P w K mg base CX0 (n+1) f fd [] (jr K):=by
 refine F.ok uU ZD (fun og A outer s H vs Q E hr h=>?_);obtain⟨rfl,m,hm,q⟩:=h;refine⟨_,(@zi _ _ _ (@zr _ _ _ _ (@u4 _ K _ _ _ _ (@zh _ _ _ _ _ _ _ u3 (@zh _ _ _ _ _ _ _ (@zK _ _ _ _ _ _ _ zL (by exact aI rfl)) (@zh _ _ _ _ _ _ _ (@u4 _ _ _ _ _ _ (@zh _ _ _ _ _ _ _ zW (@zh _ _ _ _ _ _ _ zW zL (by rfl)) (by rfl)) (by exact aI rfl)) (@zh _ _ _ _ _ _ _ (@zK _ _ _ _ _ _ _ (@zh _ _ _ _ _ _ _ zW (@zh _ _ _ _ _ _ _ Qp zL (by rfl)) (by rfl)) (by exact aI rfl)) (@zh _ _ _ _ _ _ _ Vu (@zh _ _ _ _ _ _ _ (Rc (n:=17) rfl rfl (by decide)) (@zh _ _ _ _ _ _ _ (@zK _ _ _ _ _ _ _ (@zh _ _ _ _ _ _ _ (@zK _ _ _ _ _ _ _ (@zh _ _ _ _ _ _ _ zW (@zh _ _ _ _ _ _ _ zW zL (by rfl)) (by rfl)) (by exact aI rfl)) zL (by rfl)) (by exact aI rfl)) (@zh _ _ _ _ _ _ _ zW (@zh _ _ _ _ _ _ _ (@zK _ _ _ _ _ _ _ (@zh _ _ _ _ _ _ _ zW (@zh _ _ _ _ _ _ _ u3 zL (by rfl)) (by rfl)) (by exact aI rfl)) (@zh _ _ _ _ _ _ _ (Z5 (K:=K)) zL sf) (by rfl)) (by rfl)) (by rfl)) (by rfl)) (by rfl)) (by rfl)) (by rfl)) (by rfl)) (by rfl)) (by exact aI rfl)))),?_⟩;refine⟨m,trivial,hm,fun x H' g od=>?_⟩;obtain⟨l,xs,rfl,hl,_,_,os⟩:=od.inv_lst;exact q l xs H' g hl os
theorem tf:FnScope ["_law_pot_here","_law_many","_law_boxes","_law_calls"] ["_law_pot_here","_law_many","_law_boxes"] (zf (top 64)):=⟨rfl,rfl,rfl,by decide +kernel,rfl,by decide +kernel,by decide +kernel⟩
theorem ZO(F:Fun K "_law_good" "_law_good" (top 64) f fd)(B:Blt mg)(oH:zp P w K mg base n "_law_take" ["_law_pot_here","_law_many"] (qQ K))     :
  FnOk P w K mg base CX0 (n+1) f fd ["_law_pot_here","_law_many","_law_boxes"] (ZA K):=by
 refine F.ok tf t5 (fun og A outer s H vs Q E hr h=>?_);obtain⟨x,y,z,rfl,p,n,m,rfl,pp,rfl,rfl,m1,m16,Iw,q⟩:=h;refine⟨_,(ze (vU (i:=3) tf.nd rfl rfl (CSc.of (N':=["_law_k","_law_boxes","_law_pot_here"]) (sub:=[none,some 2,some 0]) (zf (top 64)) ["_law_pot_here","_law_many","_law_boxes","_law_calls"] rfl rfl (by decide +kernel) rfl) rfl (wC rfl B.range (za (pv 1) zb)) (fun _ _ _ _ _ _=>zj (i:=0) (show(["_law_k","_law_boxes","_law_pot_here"]:List Str).Nodup by decide +kernel) rfl (bB rfl)) (fun _ _ _ _ _ _=>yv) (fun _ _ _ _ _ _=>(yz (za (pv 0) (za (zR uX (pv 0) (pv 1)) (za (yz (za zg (za rN (za rN zb)))) (za (pv 0) (za (zR tT (pv 0) (zn oH hr rfl (za (pv 2) (za zg zb)))) (za (zR qO (pv 0) (pv 1)) zb))))))))) (zi (zr (yD xo rfl B.tuple yZ (za (pv 3) zb))))),?_⟩;refine yg (fun v H'=>∃(l:Addr) (ys:List V) (es:List Int),v=.ref l/\H' l=some (.lst ys)/\es.length=n/\(∀e∈es,0<=e/\e<3)/\yG (yR K H') ys (xn m es n)/\Grow [p] H H'/\Pot H' p) (fun Kk hk=>⟨_,rfl,_,rfl,by omega,by omega,qS (fun i ys H'=>∃es:List Int,es.length=i/\ys.length=i/\(∀e∈es,0<=e/\e<3)/\yG (yR K H') ys (xn m es i)/\Grow [p] H H'/\Pot H' p) ⟨[],rfl,rfl,(fun _ h=>nomatch h),trivial,Grow.refl _ _,pp⟩ ?_ ?_⟩) ?_
 ·rintro i ys H' hi ⟨es,el,yl,eb,rel,g,DL⟩;refine⟨_,rfl,_,rfl,_,rfl,_,_,rfl,rfl,by omega,szl rfl,fun rd Da=>?_⟩;have nrd:=wW DL Da;have g1:=Grow.new (m:=[]) Da (.tup [V.int 1,V.non,V.non]);refine⟨_,rfl,_,rfl,_,rfl,_,_,rfl,p,3,rfl,rfl,DL.grow g1,by decide,by decide,fun e H2 e0 e1 g2 BP=>?_⟩;refine⟨_,_,rfl,rfl,_,rfl,_,rfl,_,_,rfl,rfl,⟨by omega,Int.lt_of_le_of_lt (b:=100) (by omega) (by decide)⟩,szl rfl,fun r hr=>?_⟩;have g3:=Grow.new (m:=[p]) hr (.tup [V.int (0+(i:Int)),V.int ((0+(i:Int)) % m),V.ref rd,V.int (0+(i:Int)),V.int (0+(i:Int)+e),V.int ((0+(i:Int)) / m)]);have Bv:=(g2.trans g3).keep _ _ nrd (zd (H:=H') (a:=rd) (o:=.tup [V.int 1,V.non,V.non]));have G:=g1.wk.trans (g2.trans g3);refine⟨jY (by omega),es++[e],by rw[bD,cZ,el],by rw[bD,cZ,yl],fun v hv=>?_,?_,g.trans G,BP.grow (Grow.new hr _)⟩
  ·rcases bH.mp hv with hv|hv
   ·exact eb v hv
   ·rw[aR.mp hv];omega
  ·subst el;rw[Wv];refine(G.callsR rel).app (.one ⟨r,rd,rfl,SqT.of ?_,SqT.of Bv⟩);rw[zd];show some (HO.tup _)=some (HO.tup _);simp only[kU,Call72.vs,Int.natCast_emod,Int.natCast_ediv]
 ·rintro ys H' ⟨es,el,yl,eb,rel,g,DL⟩ l hl;have gl:=Grow.new (m:=[]) hl (.lst ys);exact hk _ _ ⟨l,ys,es,rfl,zd,el,eb,gl.callsR rel,g.trans gl.wk,DL.grow gl⟩
 rintro _ H1 ⟨l,ys,es,rfl,hl,el,eb,rel,g,En⟩;refine⟨_,rfl,l,_,rfl,.inl ⟨SqL.of hl,fun t ht=>?_⟩⟩;have gt:=Grow.new (m:=[]) ht (.tup ys);exact q _ es _ (g.trans gt.wk) (En.grow gt) el eb ⟨t,ys,rfl,SqT.of zd,gt.callsR rel⟩
theorem zu:FnScope ["_law_pot_here","_law_boxes","_law_many","_law_calls","_law_order","_law_rows","_law_alike","_law_board","_law_truths","_law_some","_law_choice","_law_due_here","_law_found"] ["_law_pot_here","_law_boxes"] (zf (top 71)):=⟨rfl,rfl,rfl,by decide +kernel,rfl,by decide +kernel,by decide +kernel⟩
theorem jE(F:Fun K "_law_right" "_law_right" (top 71) f fd)(B:Blt mg)(oH:zp P w K mg base n "_law_is_told" ["_law_choice","_law_found","_law_many","_law_are_good"] (ZC K))(pP:zp P w K mg base n "_law_tried" ["_law_choice","_law_board","_law_calls","_law_rows","_law_order"] (qF K))(BB:zp P w K mg base n "_law_due" ["_law_choice","_law_truths","_law_many","_law_alike"] (Xp K))(El:zp P w K mg base n "_law_no_orders" ["_law_rows"] (Xt K))(CF:zp P w K mg base n "_law_take" ["_law_pot_here","_law_many"] (qQ K))(IU:zp P w K mg base n "_law_no_calls" ["_law_pot_here"] (Xs K))(qc6:zp P w K mg base n "_law_no_boards" [] (jr K))(qc7:zp P w K mg base n "_law_good" ["_law_pot_here","_law_many","_law_boxes"] (ZA K))     :
  FnOk P w K mg base CX0 (n+1) f fd ["_law_pot_here","_law_boxes"] (qE K):=by
 refine F.ok zu y0 (fun og A outer s H vs Q E hr h=>?_);obtain⟨x,y,rfl,p,rfl,pp,rfl,q⟩:=h;refine⟨_,(ze (zx (i:=2) zu.nd rfl (bB rfl) (zU zY (yO (za zg (za zg (za zg (za zg zb))))) (zn CF hr rfl (za (pv 0) (za zg zb))) (fun _ _=>rfl))) (ze (zx (i:=3) zu.nd rfl (bB rfl) (zn qc7 hr rfl (za (pv 0) (za (pv 2) (za (pv 1) zb))))) (ze (zx (i:=4) zu.nd rfl (lh rfl) (Yb rfl rfl B.tuple rfl B.range (za (pv 2) zb))) (ze (zx (i:=5) zu.nd rfl (bB rfl) (yD xo rfl B.tuple yZ (za (y8 (CSc.of (N':=["_law_box","_law_order","_law_boxes"]) (sub:=[none,some 4,some 1]) (zf (top 71)) ["_law_pot_here","_law_boxes","_law_many","_law_calls","_law_order","_law_rows","_law_alike","_law_board","_law_truths","_law_some","_law_choice","_law_due_here","_law_found"] rfl rfl (by decide +kernel) rfl) rfl (wC rfl B.range (za (pv 1) zb)) (fun _ _ _ _ _ _=>zj (i:=0) (show(["_law_box","_law_order","_law_boxes"]:List Str).Nodup by decide +kernel) rfl (bB rfl)) (fun _ _ _ _ _ _=>yv) (fun _ _ _ _ _ _=>(zar (K:=K) rfl (pv 1) (pv 0) (pv 2)))) zb))) (ze (zx (i:=6) zu.nd rfl (bB rfl) (yN wx (zn CF hr rfl (za (pv 0) (za zg zb))) zg (zy _))) (ze (yB (zZ (pv 6)) (zi (zx (i:=3) zu.nd rfl (bB rfl) (zR (wb (K:=K) rfl) (y6 (xJ (K:=K) rfl) (pv 3) xH (xt (Tv YT zg))) (yz (za (zR (wb (K:=K) rfl) (zR (wb (K:=K) rfl) (zR (wb (K:=K) rfl) (yz (za (zU yP (zU yP (pv 3) zg (fun _ _=>rfl)) zg (fun _ _=>rfl)) zb)) (y6 (xJ (K:=K) rfl) (zU yP (pv 3) (Tv YT zg) (fun _ _=>rfl)) (xt zg) (xt zg))) (yz (za (zU yP (zU yP (pv 3) zg (fun _ _=>rfl)) zg (fun _ _=>rfl)) zb))) (y6 (xJ (K:=K) rfl) (zU yP (pv 3) (Tv YT zg) (fun _ _=>rfl)) (xt zg) xH)) zb))))) zz) (ze (zx (i:=7) zu.nd rfl (bB rfl) (yz (za zg (za zg zb)))) (ze (zx (i:=8) zu.nd rfl (bB rfl) (yO (za (yN qJ (zn CF hr rfl (za (pv 0) (za zg zb))) zg (zy _)) (za (yN qJ (zn CF hr rfl (za (pv 0) (za zg zb))) zg (zy _)) (za (yN qJ (zn CF hr rfl (za (pv 0) (za zg zb))) zg (zy _)) zb))))) (ze (zx (i:=9) zu.nd rfl (bB rfl) (yO (za (zU zY (UG qc6 hr rfl) (zn CF hr rfl (za (pv 0) (za zg zb))) (fun _ _=>rfl)) (za (zn IU hr rfl (za (pv 0) zb)) zb)))) (ze (xj (W5 fU hJ hV vQ (pv 9) (za (zU zY (zn El hr rfl (za (pv 5) zb)) (zn CF hr rfl (za (pv 0) (za zg zb))) (fun _ _=>rfl)) zb))) (ze (zx (i:=7) zu.nd rfl (bB rfl) (x9 (zZ (zU zY (pv 8) zg (fun _ _=>rfl))) (pv 7) (zU zY (pv 9) zg (fun _ _=>rfl)))) (ze (zx (i:=3) zu.nd rfl (bB rfl) (x9 (zZ (zU zY (pv 8) zg (fun _ _=>rfl))) (pv 3) (zU zY (pv 9) zg (fun _ _=>rfl)))) (ze (zx (i:=5) zu.nd rfl (bB rfl) (x9 (zZ (zU zY (pv 8) zg (fun _ _=>rfl))) (pv 5) (zU zY (pv 9) zg (fun _ _=>rfl)))) (ze (xS PassesOwn.never rfl (wC rfl B.range (za zg zb)) (zj (i:=10) zu.nd rfl (bB rfl)) (ze (zx (i:=11) zu.nd rfl (bB rfl) (zn BB hr rfl (za (pv 10) (za (pv 8) (za (pv 2) (za (pv 6) zb)))))) (ze (zx (i:=12) zu.nd rfl (bB rfl) (zn pP hr rfl (za (pv 10) (za (pv 7) (za (pv 3) (za (pv 5) (za (pv 4) zb))))))) (zi (yB (PW.pt (tS (PW.pt (wB (zw (T3 (K:=K) rfl hr) (pv 11) (yO zb) (zy _)) (xF (zw (Jy hr) (pv 12) (pv 11) (zy _))))) (vh (PW.pt (wB (zw (Vb hr) (pv 11) (yO zb) (zy _)) (xF (yC (zZ (zn oH hr rfl (za (pv 10) (za (pv 12) (za (pv 2) (za (zU zY (pv 8) zg (fun _ _=>rfl)) zb))))))))))))) (zi (zr xz)) zz))))) (zi (zr xz)))))))))))))))),?_⟩
 refine yg (fun v H'=>∃n:Nat,v=.int n/\(n=5\/n=9\/n=4\/n=6)/\Grow [p] H H'/\Pot H' p) (fun Kk hk=>⟨szl rfl,fun l hl=>?_⟩) ?_
 ·have np:=wW pp hl;have gl:=Grow.new (m:=[]) hl (.lst [V.int 5,.int 9,.int 4,.int 6]);refine⟨_,rfl,_,_,rfl,p,4,rfl,rfl,pp.grow gl,by decide,by decide,fun v H2 v0 v1 g2 BP=>?_⟩;have Ai:=g2.keep _ _ np (zd (H:=H) (a:=l) (o:=.lst [V.int 5,.int 9,.int 4,.int 6]));have e:v=0\/v=1\/v=2\/v=3:=by omega
  rcases e with rfl|rfl|rfl|rfl
  ·exact⟨l,_,_,_,rfl,rfl,SqL.of Ai,rfl,hk _ _ ⟨5,rfl,by decide,gl.wk.trans g2,BP⟩⟩
  ·exact⟨l,_,_,_,rfl,rfl,SqL.of Ai,rfl,hk _ _ ⟨9,rfl,by decide,gl.wk.trans g2,BP⟩⟩
  ·exact⟨l,_,_,_,rfl,rfl,SqL.of Ai,rfl,hk _ _ ⟨4,rfl,by decide,gl.wk.trans g2,BP⟩⟩
  ·exact⟨l,_,_,_,rfl,rfl,SqL.of Ai,rfl,hk _ _ ⟨6,rfl,by decide,gl.wk.trans g2,BP⟩⟩
 rintro _ H1 ⟨n,rfl,hn,g1,En⟩;obtain⟨n4,n9⟩:=R1 hn;refine yg (fun v H'=>∃cs,zE K H' v cs/\C78 n false cs/\Grow [p] H H'/\Pot H' p) (fun Kk hk=>⟨_,rfl,_,rfl,_,rfl,_,_,_,rfl,p,n,2,rfl,En,rfl,rfl,by decide,by decide,by omega,fun v es H' g DL el eb hc=>hk _ _ ⟨_,hc,zax n9 el eb,g1.trans g,DL⟩⟩) ?_;rintro vc H2 ⟨cs0,B7,C0,g2,BP⟩;refine yg (fun v H'=>∃r,v=.ref r/\SqT K H' r (zC (aF n))/\Grow [] H2 H') (fun Kk hk=>⟨_,rfl,n,rfl,by omega,fun r Ak=>hk _ _ ⟨r,rfl,SqT.of zd,Grow.new Ak _⟩⟩) ?_;rintro _ H3 ⟨ro,rfl,GJ,g3⟩;refine yg (fun v H'=>Od K [p] H' v (.tuple [.tuple (zA 0 n),.tuple (zA 1 n)])/\Grow [] H3 H') (fun Kk hk=>⟨_,rfl,_,rfl,by decide,by decide,qS (fun i ys H'=>Grow [] H3 H'/\∃as:List Addr,ys=as.map V.ref/\as.length=i/\∀j a,as[j]?=some a->SqT K H' a (zC (wT j n))) ⟨Grow.refl _ _,[],rfl,rfl,(fun j a z=>by cases z)⟩ ?_ ?_⟩) ?_
 ·rintro i ys H' hi ⟨g,as,rfl,al,has⟩;have i2:i<2:=by omega
  refine⟨_,rfl,_,rfl,_,rfl,ro,_,i,rfl,?_,by omega,rfl,g.sqT GJ,fun a ha=>?_⟩
  ·show V.int (0+(i:Int))=_;rw[kU]
  have ga:=Grow.new (m:=[]) ha (.tup (vw (wT i (zC (aF n)).length) (zC (aF n))));refine⟨?_,g.trans ga,as++[a],by rw[bZ];rfl,by rw[bD,al];rfl,fun j b hb=>?_⟩
  ·rw[aE,al];exact jY (by omega)
  by_cases hj:j<i
  ·rw[dL (by omega)] at hb;exact ga.sqT (has j b hb)
  ·rw[dF (by omega)] at hb;have e:j-as.length=0:=by
    cases z:j-as.length with
    |zero=>rfl
    |succ k=>rw[z] at hb;cases hb
   rw[e] at hb;cases hb;have:j=i:=by omega
   subst this;have h2:=SqT.of (K:=K) (zd (H:=H') (a:=a) (o:=.tup (vw (wT j (zC (aF n)).length) (zC (aF n)))));rw[z6,aS,rg (by omega) n9] at h2;rw[z6,aS,rg (by omega) n9];exact h2
 ·rintro ys H' ⟨g,as,rfl,al,has⟩ l hl;refine⟨l,_,rfl,.inl ⟨SqL.of zd,fun t ht=>?_⟩⟩;have gt:=(Grow.new (m:=[]) hl (.lst (as.map V.ref))).trans (Grow.new ht (.tup (as.map V.ref)));obtain⟨a0,a1,rfl⟩:∃a0 a1,as=[a0,a1]:=by
   match as,al with
   |[a0,a1],_=>exact⟨a0,a1,rfl⟩
  exact hk _ _ ⟨Tf (SqT.of zd) (gt.sqT (has 0 a0 rfl)) (gt.sqT (has 1 a1 rfl)),g.trans gt⟩
 rintro vr H4 ⟨or4,g4⟩;refine yg (fun v H'=>∃al:Bool,v=.bl al/\Grow [p] H4 H'/\Pot H' p) (fun Kk hk=>⟨_,rfl,_,_,rfl,p,4,rfl,rfl,BP.grow (g3.trans g4),by decide,by decide,fun v H' v0 v1 g DL=>⟨rfl,hk _ _ ⟨_,rfl,g,DL⟩⟩⟩) ?_;rintro _ H5 ⟨al,rfl,g5,pp5⟩;have G25:Grow [p] H2 H5:=(g3.trans g4).wk.trans g5;have Kb:=G25.calls72 B7;refine jv (fun σ' H'=>∃v cs,σ'=[some (.ref p),some (.int 2),some (.int n),some v,some (.ref ro),some vr,some (.bl al),none,none,none,none,none,none]/\zE K H' v cs/\C78 n al cs/\Grow [] H5 H') (fun D' nx=>?_) ?_
 ·cases al with
  |false=>exact⟨_,rfl,_,rfl,yQ (nx _ _ ⟨vc,cs0,rfl,Kb,C0,Grow.refl _ _⟩)⟩
  |true =>
   refine⟨_,rfl,_,rfl,y7 ?_⟩;obtain⟨rc,xs,rfl,src,all⟩:=Kb;have cl:=C0.g.len;have xl:=all.len;rw[cl] at xl;obtain⟨z0,BK,q0,rd0,rfl,sq0,sd0⟩:=all.getR (i:=0) (k:=cg cs0 0) (by rw[aC (by omega)];exact congrArg some (yn (aC (by omega))).symm);obtain⟨z9,hz9,q9,rd9,rfl,sq9,sd9⟩:=all.getR (i:=cs0.length-1) (k:=cg cs0 (cs0.length-1)) (by rw[aC (by omega)];exact congrArg some (yn (aC (by omega))).symm);have at0:atI xs 0=some (.ref q0):=zH (j:=0) BK;have at9:atI xs (-1)=some (.ref q9):=Tg (n:=cs0.length-1) (by omega) hz9;have F1:jN xs none (some (-1))=xs.take (xs.length-1):=Sr (by omega);refine⟨_,rfl,_,rfl,_,rfl,rc,xs,rfl,src,fun p1 H6 g6 s6=>?_⟩;refine⟨_,rfl,rc,xs,0,_,rfl,rfl,g6.sqT src,at0,q0,_,0,_,rfl,rfl,g6.sqT sq0,rfl,szl rfl,fun tA hA=>?_⟩;have gA:=Grow.new (m:=[]) hA (.tup [V.int (cg cs0 0).hand]);have sA:=SqT.of (K:=K) (zd (H:=H6) (a:=tA) (o:=.tup [V.int (cg cs0 0).hand]));have Kc:=g6.trans gA;refine⟨_,rfl,_,rfl,rc,xs,_,_,rfl,rfl,Kc.sqT src,at9,_,rfl,_,rfl,q9,_,rfl,Kc.sqT sq9,fun pB HB gB sB=>⟨tA,pB,_,_,rfl,rfl,gB.sqT sA,sB,szl rfl,fun pAB H7 g7 s7=>?_⟩⟩;have G7:=Kc.trans (gB.trans g7);refine⟨_,rfl,rc,xs,0,_,rfl,rfl,G7.sqT src,at0,q0,_,3,_,rfl,rfl,G7.sqT sq0,rfl,szl rfl,fun tC hC=>?_⟩;have gC:=Grow.new (m:=[]) hC (.tup [V.int (cg cs0 0).begun]);have sC:=SqT.of (K:=K) (zd (H:=H7) (a:=tC) (o:=.tup [V.int (cg cs0 0).begun]));refine⟨pAB,tC,_,_,rfl,rfl,gC.sqT s7,sC,szl rfl,fun pC H8 g8 s8=>?_⟩;have G8:=G7.trans (gC.trans g8);refine⟨_,rfl,_,rfl,rc,xs,_,_,rfl,rfl,G8.sqT src,at9,_,rfl,q9,_,rfl,G8.sqT sq9,fun pD HD gD sD=>⟨pC,pD,_,_,rfl,rfl,gD.sqT s8,sD,szl rfl,fun pE H9 g9 s9=>⟨szl rfl,fun tF hF=>?_⟩⟩⟩;have G9:=G8.trans (gD.trans g9);have gF:=Grow.new (m:=[]) hF (.tup [V.ref pE]);have sF:=SqT.of (K:=K) (zd (H:=H9) (a:=tF) (o:=.tup [V.ref pE]));have G6F:Grow [] H6 _:=gA.trans (gB.trans (g7.trans (gC.trans (g8.trans (gD.trans (g9.trans gF))))));refine⟨p1,tF,_,_,rfl,rfl,G6F.sqT s6,sF,?_,fun pZ H10 CV s10=>nx _ _ ⟨.ref pZ,Ys cs0,rfl,?_,zay C0 (by omega),G9.trans (gF.trans CV)⟩⟩
   ·rw[F1,bT];exact c7 (zI (by show _+1<=1000;omega))
   have GT:=G9.trans (gF.trans CV);rw[Q4 (by omega)];rw[F1,show xs.length-1=cs0.length-1 by omega] at s10;refine⟨pZ,_,rfl,s10,(GT.callsR all).take.app (yG.one ⟨pE,rd9,rfl,?_,GT.sqT sd9⟩)⟩;exact(gF.trans CV).sqT s9
 rintro σ6 H6 ⟨vc6,cs,rfl,hc6,C6,g6⟩;have IZ:=pp5.grow g6;have G46:Grow [p] H4 H6:=g5.trans g6.wk;have Kd:=or4.grow G46;have ho6:=(g4.wk.trans G46).sqT GJ;have oc6:Od K [p] H6 vc6 (.tuple (cs.map w9)):=XW hc6;have G06:Grow [p] H H6:=g2.trans (G25.trans g6.wk);clear G46 G25 g6 or4 GJ hc6 g5 pp5 g4 g3 B7 BP g2 g1 En C0 Kb;have hm:∀{H':Hp},Pot H' p->∀b∈[p],H' b≠none:=fun pp b hb=>by
  rw[aR.mp hb];obtain⟨u0,u1,e,_⟩:=pp;rw[e];exact fun z=>nomatch z
 refine yg (fun v H'=>Od K [p] H' v (.tuple [.int 0,.int 0])/\Grow [] H6 H') (fun Kk hk=>⟨szl rfl,fun t ht=>hk _ _ ⟨.tup (SqT.of zd) (.cons (.int 0) (.cons (.int 0) .nil)),Grow.new ht _⟩⟩) ?_;rintro vb H7 ⟨ob7,g7⟩;refine yg (fun v H'=>∃(l:Addr) (t0 t1 t2:Bool),v=.ref l/\l≠p/\H' l=some (.lst [.bl t0,.bl t1,.bl t2])/\Grow [p] H7 H'/\Pot H' p) (fun Kk hk=>⟨_,rfl,_,_,rfl,p,3,rfl,rfl,IZ.grow g7,by decide,by decide,fun v0 Ha _ _ ga Eo=>⟨_,_,rfl,rfl,_,rfl,_,_,rfl,p,3,rfl,rfl,Eo,by decide,by decide,fun v1 Hb _ _ gb F2=>⟨_,_,rfl,rfl,_,rfl,_,_,rfl,p,3,rfl,rfl,F2,by decide,by decide,fun v2 Hc _ _ gc EM=>⟨_,_,rfl,rfl,szl rfl,fun l hl=>hk _ _ ⟨l,_,_,_,rfl,(fun z=>wW EM hl (by rw[z];simp)),zd,(ga.trans (gb.trans gc)).trans (Grow.new (m:=[p]) hl _),EM.grow (Grow.new hl _)⟩⟩⟩⟩⟩) ?_;rintro _ H8 ⟨l8,t0,t1,t2,rfl,n8,hl8,g8,F0⟩;refine yg (fun v H'=>∃(l:Addr) (x0 x1:V) (d0 d1:PyData),v=.ref l/\l≠p/\H8 l=none/\H' l=some (.lst [x0,x1])/\d0∈Ww/\d1∈U4/\Od K [l,p] H' x0 d0/\Od K [l,p] H' x1 d1/\Grow [p] H8 H'/\Pot H' p) (fun Kk hk=>⟨rfl,[p],hm F0,fun ln xs Ha ga hln os=>?_⟩) ?_
 ·have Eo:=F0.grow ga;have Ke:ln≠p:=fun z=>by
   subst z;obtain⟨u0,u1,e,_⟩:=Eo;rw[hln] at e;cases e;cases os.length
  refine⟨_,rfl,_,_,rfl,p,10,rfl,rfl,Eo,by decide,by decide,fun v Hb v0 v1 gb F2=>?_⟩;have xl:xs.length=10:=os.length;have hx:xs[v.toNat]?=some (xs.getD v.toNat .non):=by rw[aH,aC (by omega)];rfl
  obtain⟨d0,CU,GP⟩:=os.get hx;refine⟨ln,xs,v,xs.getD v.toNat .non,rfl,rfl,SqL.of (gb.keep _ _ (by simpa using Ke) hln),?_,_,rfl,_,rfl,p,rfl,F2,fun vN dN Hc hdN gc EM odN=>⟨szl rfl,fun l hl=>hk _ _ ⟨l,_,_,d0,dN,rfl,(fun z=>wW EM hl (by rw[z];simp)),?_,zd,bA CU,hdN,?_,?_,(ga.wk.trans (gb.trans gc)).trans (Grow.new (m:=[p]) hl _),EM.grow (Grow.new hl _)⟩⟩⟩
  ·have ev:v=((v.toNat:Nat):Int):=by omega
   rw[ev,bL];exact zH hx
  ·exact(ga.wk.trans (gb.trans gc)).free (wW EM hl) hl
  ·exact((GP.grow (gb.trans gc)).more hl).grow ((Grow.new hl _).wk (m:=[l,p]))
  ·exact(odN.more hl).grow ((Grow.new hl _).wk (m:=[l,p]))
 rintro _ H9 ⟨l9,x0,x1,d0,d1,rfl,n9p,f9,hl9,CU,hd1,GP,od1,g9,pp9⟩;have CG:∀a∈[p],a∈[l9,p]:=fun a h=>by rw[aR.mp h];simp
 have or9:Od K [l9,p] H9 vr (.tuple [.tuple (zA 0 n),.tuple (zA 1 n)]):=(((Kd.grow (g7.wk (m:=[p]))).grow g8).more f9).grow (g9.mono CG);refine jv (fun σ' H'=>∃(x2:V) (d2:PyData),σ'=[some (.ref p),some (.int 2),some (.int n),some vc6,some (.ref ro),some vr,some (.bl al),some vb,some (.ref l8),some (.ref l9),none,none,none]/\H' l9=some (.lst [x0,x1,x2])/\Od K [p] H' x0 d0/\Od K [p] H' x1 d1/\Od K [p] H' x2 d2/\d2∈rG n/\Grow [p] H8 H'/\Pot H' p) (fun D' nx=>?_) ?_
 ·have hm9:∀b∈[l9,p],H9 b≠none:=fun b hb=>by
   rcases aK.mp hb with rfl|hb
   ·rw[hl9];exact fun z=>nomatch z
   ·exact hm pp9 b hb
  refine⟨_,rfl,.inl ⟨rfl,_,SqL.of hl9⟩,_,rfl,_,rfl,n,[l9,p],hn,hm9,or9,fun lo xs Ha ga EX os=>?_⟩;have Eo:=pp9.grow ga;have Ke:lo≠p:=fun z=>by
   subst z;obtain⟨u0,u1,e,_⟩:=Eo;rw[EX] at e;cases e;cases os.length
  refine⟨_,rfl,_,_,rfl,p,14,rfl,rfl,Eo,by decide,by decide,fun v Hb v0 v1 gb F2=>?_⟩;have xl:xs.length=14:=os.length;have hx:xs[v.toNat]?=some (xs.getD v.toNat .non):=by rw[aH,aC (by omega)];rfl
  obtain⟨d2,Bv,od2⟩:=os.get hx;have DM:Grow [p] H9 Hb:=ga.wk.trans gb;have F3:l9∉[p]:=by simpa using n9p
  refine⟨lo,xs,v,xs.getD v.toNat .non,rfl,rfl,SqL.of (gb.keep _ _ (by simpa using Ke) EX),?_,l9,_,_,rfl,rfl,DM.keep _ _ F3 hl9,szl rfl,nx _ _ ⟨_,d2,rfl,zd,?_,?_,?_,bA Bv,?_,?_⟩⟩
  ·have ev:v=((v.toNat:Nat):Int):=by omega
   rw[ev,bL];exact zH hx
  ·exact((GP.grow (DM.mono CG)).grow (Grow.set (DM.keep _ _ F3 hl9) (by simp) _)).less (by simp)
  ·exact((od1.grow (DM.mono CG)).grow (Grow.set (DM.keep _ _ F3 hl9) (by simp) _)).less (by simp)
  ·exact((od2.grow (gb.mono CG)).grow (Grow.set (DM.keep _ _ F3 hl9) (by simp) _)).less (by simp)
  ·refine Grow.shrinkTo (m:=[l9,p]) (fun a ha=>?_) (((g9.trans DM).mono CG).trans (Grow.set (DM.keep _ _ F3 hl9) (by simp) _));rcases aK.mp ha with rfl|ha
   ·exact .inr f9
   ·exact .inl ha
  ·obtain⟨u0,u1,e,z⟩:=F2;exact⟨u0,u1,by rw[zq (fun z=>n9p z.symm)];exact e,z⟩
 rintro _ H10 ⟨x2,d2,rfl,hl10,oa0,oa1,oa2,Bv,CV,pp10⟩;have BZ:=CV.keep _ _ (by simpa using n8) hl8;have G610:Grow [p] H6 H10:=g7.wk.trans (g8.trans CV);have F4:=(ob7.grow g8).grow CV;have F5:=oc6.grow G610;have F6:=Kd.grow G610;have F7:=G610.sqT ho6;have G:=G06.trans G610;clear or9 GP od1 hl9 f9 g9 CV g8 g7 G06 G610 ob7 oc6 Kd ho6 hl8 pp9 F0 IZ;obtain⟨nb0,lb0⟩:=Re d0 CU;obtain⟨nc1,lc1,gc1⟩:=Rf d1 hd1;obtain⟨gw2,fl2⟩:=Rj hn d2 Bv;obtain⟨gwr,flr⟩:=Th hn;have nr2:=Rg hn d2 Bv;refine yg (fun v H'=>H10=H'/\∃db,Od K [p] H10 v db/\wA db<=1000/\GdD 10 6 910000 db/\yt db=t0/\(t0=true->db=.tuple [.int 0,.int 0])) (fun Kk hk=>⟨_,rfl,l8,_,0,_,rfl,rfl,SqL.of BZ,rfl,_,rfl,?_⟩) ?_
 ·cases t0 with
  |true=>exact y7 ⟨_,rfl,hk _ _ ⟨rfl,_,F4,by decide,⟨by decide +kernel,by decide,by decide⟩,rfl,fun _=>rfl⟩⟩
  |false=>exact yQ ⟨_,rfl,_,_,0,_,rfl,rfl,SqL.of hl10,rfl,hk _ _ ⟨rfl,d0,oa0,lb0,Ri d0 CU,nb0,fun z=>(by cases z)⟩⟩
 rintro vB _ ⟨rfl,db,oB,lB,gB,eB,eB2⟩;refine yg (fun v H'=>H10=H'/\∃dc,Od K [p] H10 v dc/\wA dc<=1000/\GdD 10 6 910000 dc/\xk 2 dc=t1/\(t1=true->dc=.tuple (cs.map yu))) (fun Kk hk=>⟨_,rfl,l8,_,1,_,rfl,rfl,SqL.of BZ,rfl,_,rfl,?_⟩) ?_
 ·cases t1 with
  |true=>exact y7 ⟨_,rfl,hk _ _ ⟨rfl,_,F5,by show(cs.map w9).length<=1000;rw[aE,C6.g.len];omega,C6.gd n9,WB C6.g n9,fun _=>rfl⟩⟩
  |false=>exact yQ ⟨_,rfl,_,_,1,_,rfl,rfl,SqL.of hl10,rfl,hk _ _ ⟨rfl,d1,oa1,lc1,gc1.mono (by decide) (by decide) (by decide),nc1,fun z=>(by cases z)⟩⟩
 rintro vC _ ⟨rfl,dc,oC,lC,gC,eC,eC2⟩;refine yg (fun v H'=>H10=H'/\∃dr,Od K [p] H10 v dr/\GdD 10 6 910000 dr/\RV dr/\(t2=true->dr=wP [wT 0 n,wT 1 n])/\(t2=false->wR n dr=false)) (fun Kk hk=>⟨_,rfl,l8,_,2,_,rfl,rfl,SqL.of BZ,rfl,_,rfl,?_⟩) ?_
 ·cases t2 with
  |true=>exact y7 ⟨_,rfl,hk _ _ ⟨rfl,_,F6,gwr,flr,fun _=>rfl,fun z=>(by cases z)⟩⟩
  |false=>exact yQ ⟨_,rfl,_,_,2,_,rfl,rfl,SqL.of hl10,rfl,hk _ _ ⟨rfl,d2,oa2,gw2,fl2,fun z=>(by cases z),fun _=>nr2⟩⟩
 rintro vR _ ⟨rfl,dr,oR,gR,flR,eR,eR2⟩;have T:Tr78 K [p] H10 vB vC vR (.ref ro) db dc dr n al t0 t1 t2:=by
  refine⟨oB,oC,oR,⟨ro,rfl,F7⟩,lB,lC,flR,n4,n9,gB,gC,gR,eB,fun z=>?_,fun z1 z2=>⟨cs,eB2 z1,eC2 z2,C6.g,C6.o0,C6.o1,eR,eR2⟩⟩;rw[eB2 z];exact eC
 clear oB oC oR F7 lB lC flR gB gC gR eB eB2 eC eC2 eR eR2 oa0 oa1 oa2 F4 F5 F6 hl10 gwr gw2 flr fl2 nr2 gc1 lc1 nc1 lb0 nb0 CU hd1 Bv;refine⟨_,rfl,by decide,by decide,?_⟩;refine jG (fun i σ H'=>∃Cd DF DG:Option V,σ=[some (.ref p),some (.int 2),some (.int n),some vC,some (.ref ro),some vR,some (.bl al),some vB,some (.ref l8),some (.ref l9),Cd,DF,DG]/\Grow [] H10 H') ⟨_,_,_,rfl,Grow.refl _ _⟩ ?_ ?_;rotate_left
 ·rintro σ H' ⟨_,_,_,rfl,g⟩;exact q _ (G.trans g.wk)
 rintro i σ H11 hi ⟨Cd,DF,DG,rfl,g11⟩;have i6:i<6:=by omega
 try dsimp only
 refine yg (fun v H'=>∃r,v=.ref r/\H' r=some (.lst (xi (i:Int) t0 t1 t2 n al))/\Grow [] H10 H') (fun Kk hk=>⟨_,rfl,_,rfl,_,rfl,_,rfl,_,_,_,_,rfl,(i:Int),n,l8,t0,t1,t2,al,by rw[kU],rfl,g11.keep _ _ (by simp) BZ,rfl,rfl,fun r H' g Ak=>hk _ _ ⟨r,rfl,Ak,g11.trans g⟩⟩) ?_;rintro _ H12 ⟨rd,rfl,Da,EL⟩;refine yg (fun v H'=>Wy K H' (i:Int) n al t0 t1 t2 v/\Grow [] H12 H') (fun Kk hk=>⟨_,rfl,_,rfl,_,rfl,_,rfl,_,rfl,_,_,_,_,_,rfl,(i:Int),n,al,t0,t1,t2,db,dc,dr,[p],by rw[kU],by omega,by omega,T.grow EL,fun v H' g fd=>hk _ _ ⟨fd,g⟩⟩) ?_;rintro vf H13 ⟨fd,g13⟩;have CH:=g13.keep _ _ (by simp) Da;have G13:=EL.trans g13;have hl813:=G13.keep _ _ (by simp) BZ;try dsimp only
 refine⟨_,rfl,szl rfl,fun le Dy=>?_⟩;have F8:=Grow.new (m:=[]) Dy (.lst []);have F9:=zd (H:=H13) (a:=le) (o:=.lst []);have AC:=F8.keep _ _ (by simp) CH;rcases fd with ⟨ed,told⟩|⟨k,lf,ed,rfl,hlf⟩
 ·rw[ed] at AC CH;refine⟨rd,le,_,rfl,rfl,SqL.of AC,SqL.of F9,_,rfl,?_⟩;refine⟨_,rfl,szl rfl,fun l2 Ai=>?_⟩;have g2:=Grow.new (m:=[]) Ai (.lst []);have G15:=G13.trans (F8.trans g2);refine⟨rd,l2,[],[],rfl,rfl,SqL.of (g2.keep _ _ (by simp) AC),SqL.of zd,rfl,rfl,_,rfl,?_⟩;refine⟨_,rfl,_,rfl,_,rfl,_,rfl,l8,_,1,_,rfl,rfl,SqL.of (G15.keep _ _ (by simp) BZ),rfl,_,_,_,_,rfl,(i:Int),n,t1,by rw[kU],rfl,rfl,by omega,told.grow (F8.trans g2),fun H16 g16=>⟨_,rfl,?_⟩⟩;exact yQ ⟨_,_,_,rfl,G15.trans g16⟩
 ·rw[ed] at AC CH;refine⟨rd,le,_,rfl,rfl,SqL.of AC,SqL.of F9,_,rfl,?_⟩;refine⟨_,rfl,_,rfl,lf,rd,[.int k],[.int k],rfl,rfl,SqL.of (F8.keep _ _ (by simp) hlf),SqL.of AC,rfl,rfl,_,rfl,?_⟩;have e1:(if true then !t6 [V.int k] [V.int k] else t6 [V.int k] [V.int k])=false:=by
   have:=vT (xs:=[k]) (ys:=[k]);rw[show t6 [V.int k] [V.int k]=true from this.trans (decide_eq_true rfl)];rfl
  refine yW e1 ⟨_,rfl,szl rfl,fun l2 Ai=>?_⟩;have g2:=Grow.new (m:=[]) Ai (.lst []);have G15:=G13.trans (F8.trans g2);refine⟨rd,l2,[.int k],[],rfl,rfl,SqL.of (g2.keep _ _ (by simp) AC),SqL.of zd,rfl,rfl,_,rfl,?_⟩;exact yQ ⟨_,_,_,rfl,G15⟩
theorem WG:FnScope ["_law_script","_law_k"] ["_law_script","_law_k"] (zf (top 60)):=⟨rfl,rfl,rfl,by decide +kernel,rfl,by decide +kernel,by decide +kernel⟩
theorem WH(F:Fun K "_law_at" "_law_at" (top 60) f fd)(B:Blt mg)      :
  FnOk P w K mg base CX0 (n+1) f fd ["_law_script","_law_k"] (VA K):=by
 refine F.ok WG y0 (fun og A outer s H vs Q E hr h=>?_);obtain⟨x,y,rfl,a,ns,k,rfl,rfl,hs,k0,q⟩:=h;refine⟨_,(ze (yB (zw XE (pv 1) (zm zv rfl B.len wF (za (pv 0) zb)) (zy _)) (zi (zr (zU zY (pv 0) (pv 1) (fun _ _=>rfl)))) zz) (zi (zr zg))),?_⟩;refine⟨_,rfl,_,rfl,a,_,rfl,.inl hs.sq,_,_,rfl,rfl,_,rfl,?_⟩;refine Rv (fun c=>?_) (fun c=>?_)
 ·have c':k<((ns.map V.int).length:Int):=of_decide_eq_true c;rw[aE] at c';have hk:k.toNat<ns.length:=by omega
  have ek:k=((k.toNat:Nat):Int):=by omega
  have Dp:atI (ns.map V.int) k=some (.int ns[k.toNat]):=by
   have z:atI (ns.map V.int) ((k.toNat:Nat):Int)=some (.int ns[k.toNat]):=zH (by rw[bE,aC hk];rfl);rw[←ek] at z;exact z
  exact⟨_,rfl,_,rfl,a,_,_,_,rfl,rfl,hs.sq,Dp,q _ (.inr (fF hk))⟩
 ·exact q 0 (.inl rfl)
theorem vL:FnScope ["_law_script","_law_k","_law_cell","_law_seed"] ["_law_script","_law_k"] (zf (top 61)):=⟨rfl,rfl,rfl,by decide +kernel,rfl,by decide +kernel,by decide +kernel⟩
theorem YN(F:Fun K "_law_pot" "_law_pot" (top 61) f fd)(B:Blt mg)(oH:zp P w K mg base n "_law_at" ["_law_script","_law_k"] (VA K))     :
  FnOk P w K mg base CX0 (n+1) f fd ["_law_script","_law_k"] (Ry K):=by
 refine F.ok vL y0 (fun og A outer s H vs Q E hr h=>?_);obtain⟨x,y,rfl,a,ns,k,rfl,rfl,hs,k0,k1,q⟩:=h;refine⟨_,(ze (zx (i:=2) vL.nd rfl (bB rfl) (zn oH hr rfl (za (pv 0) (za (pv 1) zb)))) (ze (zx (i:=3) vL.nd rfl (bB rfl) (zR uX (zR Rn (zR tT (zR qN (zR tT (zR uX (pv 2) zg) zg) (zR tT (zR qN zg (pv 1)) zg)) zg) zg) zg)) (zi (zr (yO (za (zm (tU rfl) rfl B.max Qc (za zg (za (zR Rm (pv 2) (zR Rn zg zg)) zb))) (za (pv 3) zb))))))),?_⟩;refine⟨_,rfl,_,rfl,_,_,rfl,a,ns,k,rfl,rfl,hs,k0,fun c _=>?_⟩;have c0:0<=c % 2147483629:=iF _ (by decide);have c1:c % 2147483629<2147483629:=gE _ (by decide);have m0:0<=(c % 2147483629+11)*(977*k+131):=Int.mul_nonneg (by omega) (by omega);have m1:(c % 2147483629+11)*(977*k+131)<=2147483640*1000000:=Int.mul_le_mul (by omega) (by omega) (by omega) (by decide);refine⟨_,rfl,_,_,rfl,rfl,(by show(0:Int)<2147483629;decide),_,_,rfl,rfl,_,rfl,_,_,rfl,rfl,JA ⟨by decide,by decide⟩,_,_,rfl,rfl,_,_,rfl,rfl,Va ⟨by omega,by omega⟩,_,_,rfl,rfl,_,_,rfl,rfl,⟨by decide,by decide,by omega⟩,_,_,rfl,rfl,(by show(0:Int)<2147483647;decide),?_⟩;refine⟨_,rfl,_,_,rfl,rfl,⟨by decide,by decide,by decide⟩,_,_,rfl,rfl,_,_,rfl,_,rfl,szl rfl,fun p hp=>?_⟩;refine q p _ hp (Grow.new hp _) ⟨_,_,zd,?_⟩;split <;> omega
theorem R3:FnScope ["_law_script","_law_k"] ["_law_script"] (zf (top 72)):=⟨rfl,rfl,rfl,by decide +kernel,rfl,by decide +kernel,by decide +kernel⟩
theorem zaz(F:Fun K "law" "law" (top 72) f fd)(B:Blt mg)(oH:zp P w K mg base n "_law_right" ["_law_pot_here","_law_boxes"] (qE K))(pP:zp P w K mg base n "_law_pot" ["_law_script","_law_k"] (Ry K))     :
  FnOk P w K mg base CX0 (n+1) f fd ["_law_script"] (YX K):=by
 refine F.ok R3 xI (fun og A outer s H vs Q E hr h=>?_);obtain⟨x,rfl,a,ns,rfl,hs,h63,q⟩:=h;refine⟨_,(ze (xS PassesOwn.never rfl (wC rfl B.range (za (zm (tU rfl) rfl B.max Qc (za zg (za (zm (WY rfl) rfl B.min zbd (za zg (za (zm zv rfl B.len wF (za (pv 0) zb)) zb))) zb))) zb)) (zj (i:=1) R3.nd rfl (bB rfl)) (zi (yB (yC (zZ (zn oH hr rfl (za (zn pP hr rfl (za (pv 0) (za (pv 1) zb))) (za zg zb))))) (zi (zr xz)) zz))) (zi (zr xz))),?_⟩;have hl:(ns.map V.int).length=ns.length:=aE ..;refine⟨_,rfl,a,_,rfl,.inl hs.sq,_,_,rfl,_,_,rfl,_,rfl,?_,?_,?_⟩
 ·split <;> split <;> omega
 ·rw[hl];split <;> split <;> omega
 refine jG (fun i σ H'=>∃(e1:Option V),σ=[some (.ref a),e1]/\Grow [] H H') ⟨_,rfl,Grow.refl _ _⟩ ?_ ?_;rotate_left
 ·rintro σ H1 ⟨e1,rfl,g⟩;exact q H1
 rintro i σ H1 hi ⟨e1,rfl,g⟩;have i63:i<1000:=by
  have pU:=hi;revert pU;split <;> split <;> omega
 try dsimp only
 refine⟨_,rfl,_,rfl,_,_,rfl,a,ns,_,rfl,rfl,g.scr hs,by omega,by omega,fun p H2 hp g2 BP=>⟨_,_,rfl,p,rfl,BP,rfl,fun H3 g3=>⟨_,rfl,yQ ⟨_,rfl,?_⟩⟩⟩⟩;exact g.trans (Grow.shrink hp (g2.wk.trans g3))
end
theorem Ja:∀{us:List Value},us.length=0->us=[]
 |[],_=>rfl
theorem xQ:∀{us:List Value},us.length=1->∃x0,us=[x0]
 |[x0],_=>⟨x0,rfl⟩
theorem yk:∀{us:List Value},us.length=2->∃x0,∃x1,us=[x0,x1]
 |[x0,x1],_=>⟨x0,x1,rfl⟩
theorem wn:∀{us:List Value},us.length=3->∃x0,∃x1,∃x2,us=[x0,x1,x2]
 |[x0,x1,x2],_=>⟨x0,x1,x2,rfl⟩
theorem YO:∀{us:List Value},us.length=4->∃x0,∃x1,∃x2,∃x3,us=[x0,x1,x2,x3]
 |[x0,x1,x2,x3],_=>⟨x0,x1,x2,x3,rfl⟩
theorem Jb:∀{us:List Value},us.length=5->∃x0,∃x1,∃x2,∃x3,∃x4,us=[x0,x1,x2,x3,x4]
 |[x0,x1,x2,x3,x4],_=>⟨x0,x1,x2,x3,x4,rfl⟩
def FA(K:FG7)(x:Str)(t:Stmt)(f:Addr)(d:FuncData):Prop:=bJ K bC x=some (some (.ref f))/\Fun K x x t f d
theorem FA.cl{P:Program}{w:World}{K:FG7}{h base:Heap}{mg:Str->Option Value}{x:Str}{t:Stmt}{f:Addr}{d:FuncData}{k:Nat}{ps:List Str}{sp:Sp}(a:FA K x t f d)(X:K.In h)(G:h.Ns bC mg)(F:FnOk P w K mg base CX0 k f d ps sp)(b:tV K d ps []):zp P w K mg base k x ps sp:=⟨_,_,F,b,a.2.kp,bK X G a.1⟩
theorem all_mk{l:mQ}{w:World}{K:FG7}{h:Heap}{mg:Str->Option Value}{fa f1 f2 f3 f4 f5 f6 f7 f8 f9 f10 f11 f12 f13 f14 f15 f16 f17 f18 f19 f20 f21 f22 f23 f24 f25 f26 f27 f28 f29 f30 f31 f32 f33 f34 f35 f36 f37 f38 f39 f40 f41 f42 f43:Addr}(X:K.In h)(G:h.Ns bC mg)(hfa:mg "law" = some (.ref fa))
    {d1 d2 d3 d4 d5 d6 d7 d8 d9 d10 d11 d12 d13 d14 d15 d16 d17 d18 d19 d20 d21 d22 d23 d24 d25 d26 d27 d28 d29 d30 d31 d32 d33 d34 d35 d36 d37 d38 d39 FD d41 d42 d43:FuncData}
    {A_AskError:Addr} (Af:bJ K bC "AskError" = some (some (.ref A_AskError)))
    {oq:Addr} (CI:bJ K bC "NoAsk" = some (some (.ref oq)))
    {A_NoBoard:Addr} (AD:bJ K bC "NoBoard" = some (some (.ref A_NoBoard)))
    {A_NoCalls:Addr} (AE:bJ K bC "NoCalls" = some (some (.ref A_NoCalls)))
    {n0:Addr} (B0:bJ K bC "NoDeed" = some (some (.ref n0)))
    {nY:Addr} (B1:bJ K bC "NoHand" = some (some (.ref nY)))
    {oA:Addr} (CJ:bJ K bC "NoNet" = some (some (.ref oA)))
    {nQ:Addr} (Bn:bJ K bC "NoNumber" = some (some (.ref nQ)))
    {A_NoOrder:Addr} (AF:bJ K bC "NoOrder" = some (some (.ref A_NoOrder)))
    {oo:Addr} (CK:bJ K bC "NoRow" = some (some (.ref oo)))
    {nN:Addr} (AO:bJ K bC "NoSettings" = some (some (.ref nN)))
    {nX:Addr} (B2:bJ K bC "NoSide" = some (some (.ref nX)))
    {nU:Addr} (BC:bJ K bC "NoTable" = some (some (.ref nU)))
    {nW:Addr} (B3:bJ K bC "NoText" = some (some (.ref nW)))
    {nS:Addr} (BD:bJ K bC "NoToken" = some (some (.ref nS)))
    {nZ:Addr} (B4:bJ K bC "NoTree" = some (some (.ref nZ)))
    {A_TooMany:Addr} (AG:bJ K bC "TooMany" = some (some (.ref A_TooMany)))
    (Bo:iH K A_AskError veM "ValueError.__new__" = true)
    (BE:iH K A_NoBoard veM "ValueError.__new__" = true)
    (BF:iH K A_NoCalls veM "ValueError.__new__" = true)
    (BG:iH K A_NoOrder veM "ValueError.__new__" = true)
    (BH:iH K A_TooMany veM "ValueError.__new__" = true)
    (kd:KdN76 K [A_NoBoard,A_TooMany,A_NoCalls,A_NoOrder,oA,nQ,n0,oq,nZ,nY,nX,nN,nU,nS,nW,oo] A_AskError)
 (h1:FA K "_law_is_told" ((top 70)) f1 d1)
 (h2:FA K "made" ((top 24)) f2 d2)
 (h3:FA K "are_answered" ((top 39)) f3 d3)
 (h4:FA K "keeps_ahead" ((top 40)) f4 d4)
 (h5:FA K "is_whole" ((top 19)) f5 d5)
 (h6:FA K "is_order" ((top 38)) f6 d6)
 (h7:FA K "fits_these" ((top 41)) f7 d7)
 (h8:FA K "by_boxes" ((top 35)) f8 d8)
 (h9:FA K "is_end" ((top 22)) f9 d9)
 (Dt:FA K "is_deed" ((top 23)) f10 d10)
 (Kf:FA K "is_within" ((top 20)) f11 d11)
 (Kg:FA K "is_ask" ((top 30)) f12 d12)
 (Kh:FA K "is_call" ((top 34)) f13 d13)
 (Ki:FA K "is_board" ((top 28)) f14 d14)
 (GQ:FA K "need_board" ((top 29)) f15 d15)
 (GR:FA K "are_calls" ((top 36)) f16 d16)
 (GS:FA K "need_calls" ((top 37)) f17 d17)
 (GU:FA K "fits" ((top 42)) f18 d18)
 (Kj:FA K "merged" ((top 47)) f19 d19)
 (Kl:FA K "one_more" ((top 45)) f20 d20)
 (Km:FA K "order_by" ((top 46)) f21 d21)
 (Kn:FA K "as_mask" ((top 43)) f22 d22)
 (Ko:FA K "ahead_masks" ((top 44)) f23 d23)
 (GV:FA K "an_order" ((top 48)) f24 d24)
 (GW:FA K "need_orders" ((top 57)) f25 d25)
 (GX:FA K "gone_together" ((top 58)) f26 d26)
 (Kp:FA K "keeps_hands" ((top 52)) f27 d27)
 (GY:FA K "need_own_times" ((top 51)) f28 d28)
 (GZ:FA K "is_serial" ((top 53)) f29 d29)
 (Kq:FA K "hand_masks" ((top 54)) f30 d30)
 (G0:FA K "a_serial" ((top 55)) f31 d31)
 (G1:FA K "_law_kinds" ((top 63)) f32 d32)
 (Kr:FA K "_law_tried" ((top 68)) f33 d33)
 (Ks:FA K "_law_due" ((top 69)) f34 d34)
 (Kt:FA K "_law_no_orders" ((top 67)) f35 d35)
 (Ku:FA K "_law_take" ((top 62)) f36 d36)
 (Kv:FA K "_law_no_calls" ((top 66)) f37 d37)
 (Kw:FA K "_law_no_boards" ((top 65)) f38 d38)
 (Kx:FA K "_law_good" ((top 64)) f39 d39)
 (Ky:FA K "_law_right" ((top 71)) f40 FD)
 (Kz:FA K "_law_at" ((top 60)) f41 d41)
 (KA:FA K "_law_pot" ((top 61)) f42 d42)
 (KB:FA K "law" ((top 72)) f43 d43)
    {oQ:Tok} (A8:bJ K bC "LAST_HAND" = some (some (.int 15 oQ)))
    {oF:Tok} (Ab:bJ K bC "MOST_AT_A_BOX" = some (some (.int 8 oF)))
    {oM:Tok} (AQ:bJ K bC "MOST_BOXES" = some (some (.int 16 oM)))
    {oN:Tok} (AR:bJ K bC "MOST_CALLS" = some (some (.int 40 oN)))
    {om:Tok} (pr:bJ K bC "MOST_FOR_SERIAL" = some (some (.int 8 om)))
    (AS:bJ K bC "ValueError" = some none)
    (oO:bJ K bC "enumerate" = some none)
    (Ep:bJ K bC "set" = some none)
    (Ac:bJ K bC "sorted" = some none)
    (Er:bJ K bC "sum" = some none)
    (Es:bJ K bC "zip" = some none)
    (F':bJ K bC "abs" = some none)
    (Ga:bJ K bC "len" = some none)
    (Gb:bJ K bC "max" = some none)
    (Gc:bJ K bC "min" = some none)
    (CL:bJ K bC "divmod" = some none)
    (Et:bJ K bC "repr" = some none)
    (A9:bJ K bC "isinstance" = some none)
    (Gd:bJ K bC "all" = some none)
    (Du:bJ K bC "range" = some none)
    (Ge:bJ K bC "int" = some none)
    (Eu:bJ K bC "bool" = some none)
    (Gf:bJ K bC "str" = some none)
    (Dv:bJ K bC "tuple" = some none)
    (Ev:bJ K bC "list" = some none)
    (Ew:bJ K bC "dict" = some none)
    :
    ∃fd:FuncData,(∀(s:Shared) (v:Value),nj s fd ⟨[v],[]⟩ [("_law_script",v)])/\∀base:Heap,K.In base->base.Ns bC mg->FnOk l.prog w K mg base CX0 12 fa fd ["_law_script"] (YX K):=by
  have e:=hfa.symm.trans (bK X G KB.1);cases e;have b15:=GQ.2.binds (ps:=["thing"]) fun _ _ _ _ _ _ us hl=>by obtain⟨_,rfl⟩:=xQ hl;rfl
  have AJ:=GR.2.binds (ps:=["board","thing"]) fun _ _ _ _ _ _ us hl=>by obtain⟨_,_,rfl⟩:=yk hl;rfl
  have b17:=GS.2.binds (ps:=["board","thing"]) fun _ _ _ _ _ _ us hl=>by obtain⟨_,_,rfl⟩:=yk hl;rfl
  have b18:=GU.2.binds (ps:=["board","calls","order"]) fun _ _ _ _ _ _ us hl=>by obtain⟨_,_,_,rfl⟩:=wn hl;rfl
  have b24:=GV.2.binds (ps:=["board","calls"]) fun _ _ _ _ _ _ us hl=>by obtain⟨_,_,rfl⟩:=yk hl;rfl
  have b25:=GW.2.binds (ps:=["board","calls","thing"]) fun _ _ _ _ _ _ us hl=>by obtain⟨_,_,_,rfl⟩:=wn hl;rfl
  have b26:=GX.2.binds (ps:=["board","calls","orders"]) fun _ _ _ _ _ _ us hl=>by obtain⟨_,_,_,rfl⟩:=wn hl;rfl
  have b28:=GY.2.binds (ps:=["board","thing"]) fun _ _ _ _ _ _ us hl=>by obtain⟨_,_,rfl⟩:=yk hl;rfl
  have b29:=GZ.2.binds (ps:=["board","calls","order"]) fun _ _ _ _ _ _ us hl=>by obtain⟨_,_,_,rfl⟩:=wn hl;rfl
  have b31:=G0.2.binds (ps:=["board","calls"]) fun _ _ _ _ _ _ us hl=>by obtain⟨_,_,rfl⟩:=yk hl;rfl
  have b32:=G1.2.binds (ps:=["_law_e"]) fun _ _ _ _ _ _ us hl=>by obtain⟨_,rfl⟩:=xQ hl;rfl
  have pj:vn K mg "AskError" A_AskError:=excC_of (bK X G Af) Bo;have nL:vn K mg "NoBoard" A_NoBoard:=excC_of (bK X G AD) BE;have nO:vn K mg "NoCalls" A_NoCalls:=excC_of (bK X G AE) BF;have oG:vn K mg "NoOrder" A_NoOrder:=excC_of (bK X G AF) BG;have oV:vn K mg "TooMany" A_TooMany:=excC_of (bK X G AG) BH;have v_AskError:mg "AskError" = some (.ref A_AskError):=bK X G Af;have A4:mg "NoAsk" = some (.ref oq):=bK X G CI;have Aa:mg "NoBoard" = some (.ref A_NoBoard):=bK X G AD;have p8:mg "NoCalls" = some (.ref A_NoCalls):=bK X G AE;have AB:mg "NoDeed" = some (.ref n0):=bK X G B0;have Az:mg "NoHand" = some (.ref nY):=bK X G B1;have A5:mg "NoNet" = some (.ref oA):=bK X G CJ;have pi:mg "NoNumber" = some (.ref nQ):=bK X G Bn;have p7:mg "NoOrder" = some (.ref A_NoOrder):=bK X G AF;have AZ:mg "NoRow" = some (.ref oo):=bK X G CK;have oX:mg "NoSettings" = some (.ref nN):=bK X G AO;have Ay:mg "NoSide" = some (.ref nX):=bK X G B2;have p6:mg "NoTable" = some (.ref nU):=bK X G BC;have Ax:mg "NoText" = some (.ref nW):=bK X G B3;have pY:mg "NoToken" = some (.ref nS):=bK X G BD;have AA:mg "NoTree" = some (.ref nZ):=bK X G B4;have p9:mg "TooMany" = some (.ref A_TooMany):=bK X G AG;have B:Blt mg:=⟨bO X G F',bO X G Ga,bO X G Gb,bO X G Gc,bO X G CL,bO X G Et,bO X G A9,bO X G Gd,bO X G Du,bO X G Ge,bO X G Eu,bO X G Gf,bO X G Dv,bO X G Ev,bO X G Ew⟩
  obtain⟨oc,od,kV,dc,pm,an,cd,ct,sl,rfl,lk,hc⟩:=KB.2.ex;refine⟨iQ "law" "law" (tZ (top 72)) (wE (top 72)) (zf (top 72)) .none kV dc pm an cd ct,fun s v=>.of_eq rfl,fun base _ _=>?_⟩;have C1:zp l.prog w K mg base 1 _ _ _:=h1.cl X G (rj h1.2 B     (bO X G Ac)  ) (h1.2.binds fun _ _ _ _ _ _ us hl=>by obtain⟨_,_,_,_,rfl⟩:=YO hl;rfl);have C2:zp l.prog w K mg base 1 _ _ _:=h2.cl X G (Q7 h2.2 B       ) (h2.2.binds fun _ _ _ _ _ _ us hl=>by obtain⟨_,_,rfl⟩:=yk hl;rfl);have C3:zp l.prog w K mg base 2 _ _ _:=h3.cl X G (rk h3.2 B    (C2.mono (by decide))   ) (h3.2.binds fun _ _ _ _ _ _ us hl=>by obtain⟨_,_,_,rfl⟩:=wn hl;rfl);have C4:zp l.prog w K mg base 1 _ _ _:=h4.cl X G (rH h4.2 B       ) (h4.2.binds fun _ _ _ _ _ _ us hl=>by obtain⟨_,_,rfl⟩:=yk hl;rfl);have C5:zp l.prog w K mg base 1 _ _ _:=h5.cl X G (YB h5.2 B       ) (h5.2.binds fun _ _ _ _ _ _ us hl=>by obtain⟨_,rfl⟩:=xQ hl;rfl);have C6:zp l.prog w K mg base 2 _ _ _:=h6.cl X G (YD h6.2 B    (C5.mono (by decide)) (bO X G Ac)  ) (h6.2.binds fun _ _ _ _ _ _ us hl=>by obtain⟨_,_,rfl⟩:=yk hl;rfl);have C7:zp l.prog w K mg base 3 _ _ _:=h7.cl X G (jx h7.2 B    (C3.mono (by decide)) (C4.mono (by decide)) (C6.mono (by decide))   ) (h7.2.binds fun _ _ _ _ _ _ us hl=>by obtain⟨_,_,_,_,rfl⟩:=YO hl;rfl);have C8:zp l.prog w K mg base 1 _ _ _:=h8.cl X G (YE h8.2 B     (bO X G oO)  ) (h8.2.binds fun _ _ _ _ _ _ us hl=>by obtain⟨_,_,rfl⟩:=yk hl;rfl);have C9:zp l.prog w K mg base 2 _ _ _:=h9.cl X G (Tj h9.2 B    (C5.mono (by decide))   ) (h9.2.binds fun _ _ _ _ _ _ us hl=>by obtain⟨_,rfl⟩:=xQ hl;rfl);have C10:zp l.prog w K mg base 3 _ _ _:=Dt.cl X G (WC Dt.2 B    (C9.mono (by decide)) (C5.mono (by decide))   ) (Dt.2.binds fun _ _ _ _ _ _ us hl=>by obtain⟨_,rfl⟩:=xQ hl;rfl);have C11:zp l.prog w K mg base 2 _ _ _:=Kf.cl X G (ZI Kf.2 B    (C5.mono (by decide))   ) (Kf.2.binds fun _ _ _ _ _ _ us hl=>by obtain⟨_,_,_,rfl⟩:=wn hl;rfl);have C12:zp l.prog w K mg base 4 _ _ _:=Kg.cl X G (Tk Kg.2 B    (C10.mono (by decide)) (C11.mono (by decide))  (bK X G A8) ) (Kg.2.binds fun _ _ _ _ _ _ us hl=>by obtain⟨_,_,rfl⟩:=yk hl;rfl)
  have C13:zp l.prog w K mg base 5 _ _ _:=Kh.cl X G (WD Kh.2 B    (C5.mono (by decide)) (C12.mono (by decide))   ) (Kh.2.binds fun _ _ _ _ _ _ us hl=>by obtain⟨_,_,rfl⟩:=yk hl;rfl);have C14:zp l.prog w K mg base 2 _ _ _:=Ki.cl X G (YG Ki.2 B    (C5.mono (by decide))  (bK X G AQ) ) (Ki.2.binds fun _ _ _ _ _ _ us hl=>by obtain⟨_,rfl⟩:=xQ hl;rfl);have C15:zF l.prog w K mg base 3 "need_board" ["thing"] (xM A_NoBoard K):=⟨_,_,jz (P:=l.prog) (w:=w) (base:=base) (n:=2) GQ.2 B nL   (C14.mono (by decide))   ,b15,GQ.2.kp,bK X G GQ.1⟩
  have C16:zF l.prog w K mg base 6 "are_calls" ["board","thing"] (jl A_NoBoard K):=⟨_,_,ZK (P:=l.prog) (w:=w) (base:=base) (n:=5) GR.2 B nL   (C8.mono (by decide)) (C13.mono (by decide)) (C15.mono (by decide))  (bK X G Ab) (bK X G AR) ,AJ,GR.2.kp,bK X G GR.1⟩
  have C17:zF l.prog w K mg base 7 "need_calls" ["board","thing"] (xr A_NoBoard A_NoCalls K):=⟨_,_,jB (P:=l.prog) (w:=w) (base:=base) (n:=6) GS.2 B nL nO   (C16.mono (by decide))   ,b17,GS.2.kp,bK X G GS.1⟩
  have C18:zF l.prog w K mg base 8 "fits" ["board","calls","order"] (sT A_NoBoard A_NoCalls K):=⟨_,_,Q9 (P:=l.prog) (w:=w) (base:=base) (n:=7) GU.2 B nL nO   (C7.mono (by decide)) (C17.mono (by decide))   ,b18,GU.2.kp,bK X G GU.1⟩
  have C19:zp l.prog w K mg base 1 _ _ _:=Kj.cl X G (Tl Kj.2 B     (bO X G Ac) (bO X G oO)  ) (Kj.2.binds fun _ _ _ _ _ _ us hl=>by obtain⟨_,_,rfl⟩:=yk hl;rfl);have C20:zp l.prog w K mg base 2 _ _ _:=Kl.cl X G (YH Kl.2 B    (C2.mono (by decide))   ) (Kl.2.binds fun _ _ _ _ _ _ us hl=>by obtain⟨_,_,_,rfl⟩:=wn hl;rfl);have C21:zp l.prog w K mg base 3 _ _ _:=Km.cl X G (YI Km.2 B    (C20.mono (by decide))   ) (Km.2.binds fun _ _ _ _ _ _ us hl=>by obtain⟨_,_,_,rfl⟩:=wn hl;rfl);have C22:zp l.prog w K mg base 1 _ _ _:=Kn.cl X G (WF Kn.2 B     (bO X G Er)  ) (Kn.2.binds fun _ _ _ _ _ _ us hl=>by obtain⟨_,rfl⟩:=xQ hl;rfl);have C23:zp l.prog w K mg base 2 _ _ _:=Ko.cl X G (rJ Ko.2 B    (C22.mono (by decide))   ) (Ko.2.binds fun _ _ _ _ _ _ us hl=>by obtain⟨_,_,rfl⟩:=yk hl;rfl);have C24:zF l.prog w K mg base 8 "an_order" ["board","calls"] (jm A_NoBoard A_NoCalls K):=⟨_,_,YJ (P:=l.prog) (w:=w) (base:=base) (n:=7) GV.2 B nL nO   (C19.mono (by decide)) (C8.mono (by decide)) (C21.mono (by decide)) (C23.mono (by decide)) (C17.mono (by decide))   ,b24,GV.2.kp,bK X G GV.1⟩
  have C25:zF l.prog w K mg base 4 "need_orders" ["board","calls","thing"] (uO A_NoOrder K):=⟨_,_,rK (P:=l.prog) (w:=w) (base:=base) (n:=3) GW.2 B oG   (C8.mono (by decide)) (C7.mono (by decide)) (bO X G Es)  ,b25,GW.2.kp,bK X G GW.1⟩
  have C26:zF l.prog w K mg base 8 "gone_together" ["board","calls","orders"] (sU A_NoBoard A_NoCalls A_NoOrder K):=⟨_,_,tJ (P:=l.prog) (w:=w) (base:=base) (n:=7) GX.2 B oG nL nO   (C19.mono (by decide)) (C25.mono (by decide)) (C17.mono (by decide))   ,b26,GX.2.kp,bK X G GX.1⟩
  have C27:zp l.prog w K mg base 1 _ _ _:=Kp.cl X G (rL Kp.2 B       ) (Kp.2.binds fun _ _ _ _ _ _ us hl=>by obtain⟨_,_,rfl⟩:=yk hl;rfl);have C28:zF l.prog w K mg base 8 "need_own_times" ["board","thing"] (um A_NoBoard A_NoCalls K):=⟨_,_,uS (P:=l.prog) (w:=w) (base:=base) (n:=7) GY.2 B nO nL   (C17.mono (by decide)) (bO X G Ep)  ,b28,GY.2.kp,bK X G GY.1⟩
  have C29:zF l.prog w K mg base 9 "is_serial" ["board","calls","order"] (uP A_NoBoard A_NoCalls K):=⟨_,_,ZM (P:=l.prog) (w:=w) (base:=base) (n:=8) GZ.2 B nL nO   (C3.mono (by decide)) (C27.mono (by decide)) (C6.mono (by decide)) (C28.mono (by decide))   ,b29,GZ.2.kp,bK X G GZ.1⟩
  have C30:zp l.prog w K mg base 2 _ _ _:=Kq.cl X G (jC Kq.2 B    (C22.mono (by decide)) (bO X G oO)  ) (Kq.2.binds fun _ _ _ _ _ _ us hl=>by obtain⟨_,rfl⟩:=xQ hl;rfl);have C31:zF l.prog w K mg base 9 "a_serial" ["board","calls"] (sV A_NoBoard A_NoCalls A_TooMany K):=⟨_,_,YL (P:=l.prog) (w:=w) (base:=base) (n:=8) G0.2 B oV nL nO   (C21.mono (by decide)) (C30.mono (by decide)) (C28.mono (by decide))  (bK X G pr) ,b31,G0.2.kp,bK X G G0.1⟩
  have D32:uK l.prog w K mg base 1 "_law_kinds" ["_law_e"] (vJ [A_NoBoard,A_TooMany,A_NoCalls,A_NoOrder,oA,nQ,n0,oq,nZ,nY,nX,nN,nU,nS,nW,oo] K):=⟨_,_,rM (P:=l.prog) (w:=w) (base:=base) (n:=0) G1.2 B  AZ Ax pY p6 oX Ay Az AA A4 AB pi A5 p7 p8 p9 Aa kd  (bO X G oO) (bO X G AS)  ,b32,G1.2.kp,bK X G G1.1⟩
  have C33:zp l.prog w K mg base 10 _ _ _:=Kr.cl X G (jD Kr.2 B pj nL nO oG oV  kd (C18.mono (by decide)) (C24.mono (by decide)) (C26.mono (by decide)) (C29.mono (by decide)) (C31.mono (by decide)) (C16.mono (by decide)) (D32.mono (by decide))   ) (Kr.2.binds fun _ _ _ _ _ _ us hl=>by obtain⟨_,_,_,_,_,rfl⟩:=Jb hl;rfl);have C34:zp l.prog w K mg base 1 _ _ _:=Ks.cl X G (YM Ks.2 B       ) (Ks.2.binds fun _ _ _ _ _ _ us hl=>by obtain⟨_,_,_,_,rfl⟩:=YO hl;rfl);have C35:zp l.prog w K mg base 1 _ _ _:=Kt.cl X G (uT Kt.2 B       ) (Kt.2.binds fun _ _ _ _ _ _ us hl=>by obtain⟨_,rfl⟩:=xQ hl;rfl);have C36:zp l.prog w K mg base 1 _ _ _:=Ku.cl X G (ZN Ku.2 B       ) (Ku.2.binds fun _ _ _ _ _ _ us hl=>by obtain⟨_,_,rfl⟩:=yk hl;rfl);have C37:zp l.prog w K mg base 2 _ _ _:=Kv.cl X G (tK Kv.2 B    (C36.mono (by decide))   ) (Kv.2.binds fun _ _ _ _ _ _ us hl=>by obtain⟨_,rfl⟩:=xQ hl;rfl);have C38:zp l.prog w K mg base 1 _ _ _:=Kw.cl X G (uV Kw.2 B       ) (Kw.2.binds fun _ _ _ _ _ _ us hl=>by obtain⟨rfl⟩:=Ja hl;rfl);have C39:zp l.prog w K mg base 2 _ _ _:=Kx.cl X G (ZO Kx.2 B    (C36.mono (by decide))   ) (Kx.2.binds fun _ _ _ _ _ _ us hl=>by obtain⟨_,_,_,rfl⟩:=wn hl;rfl);have C40:zp l.prog w K mg base 11 _ _ _:=Ky.cl X G (jE Ky.2 B    (C1.mono (by decide)) (C33.mono (by decide)) (C34.mono (by decide)) (C35.mono (by decide)) (C36.mono (by decide)) (C37.mono (by decide)) (C38.mono (by decide)) (C39.mono (by decide))   ) (Ky.2.binds fun _ _ _ _ _ _ us hl=>by obtain⟨_,_,rfl⟩:=yk hl;rfl);have C41:zp l.prog w K mg base 1 _ _ _:=Kz.cl X G (WH Kz.2 B       ) (Kz.2.binds fun _ _ _ _ _ _ us hl=>by obtain⟨_,_,rfl⟩:=yk hl;rfl);have C42:zp l.prog w K mg base 2 _ _ _:=KA.cl X G (YN KA.2 B    (C41.mono (by decide))   ) (KA.2.binds fun _ _ _ _ _ _ us hl=>by obtain⟨_,_,rfl⟩:=yk hl;rfl);exact zaz (P:=l.prog) (w:=w) (base:=base) (n:=11) KB.2 B    (C40.mono (by decide)) (C42.mono (by decide))
theorem walk{l:mQ}{q:Program}{pH:List Str}{XP:(Str->Option Value)->Heap->Prop}{YP:World->Heap->Prop}{d:DefRec}{K:Params->FG7}(hn:l.most=some 63)(EV:d.params.defaults=[])
  (hY:∀(w:World) (h:Heap),YP w h->(K w.params).In h)
  (F:∀(w:World) (mg:Str->Option Value) (fa:Addr) (h:Heap),(K w.params).In h->h.Ns bC mg->mg d.name=some (.ref fa)→
   ∃fd:FuncData,(∀(s:Shared) (u:Value),nj s fd ⟨[u],[]⟩ [("_law_script",u)])/\∀base:Heap,(K w.params).In base->base.Ns bC mg->FnOk l.prog w (K w.params) mg base CX0 12 fa fd ["_law_script"] (YX (K w.params))) :
  nq q pH XP YP l.row.toRowW d [] (fun f vs=>PySem.call f vs) :=
 L2.walk_of (n:=63) (k:=12) (x:="_law_script") (CX:=fun _=>CX0) (sp:=fun w=>YX (K w.params)) hn (by decide) EV ⟨rfl,by decide,by decide,rfl⟩ hY F (fun _ _ a ns hl hO hS=>⟨_,rfl,a,ns,rfl,Scr.of hO hS,hl,fun _=>rfl⟩) fun _ _ _ _ _ z=>z
theorem walkX{q:Program}{pH:List Str}{XP:(Str->Option Value)->Heap->Prop}{K:Params->FG7}{as:List Addr}{n t:Nat}{r:PySem.W.RowW}{d:DefRec}{kwd:List (Str×Expr)}{run:Value->List Value->Sem Value}
  (e:∀P,as=(K P).map (·.1)) (W:nq q pH XP (PySem.W.InK K) r d kwd run):PySem.W.WalkX q pH XP (PySem.W.X.obsZ as) (PySem.W.X.valZ K n t) r d kwd run :=
 fun w s₀ s₁ mg mb G Y a o pm cd AH dV kV h2 h3 h4 h5 h6 h7 args Ch as' L BU EW Da EU EX =>
  W w s₀ s₁ mg mb G (PySem.W.InK.keeps w s₀.heap s₁.heap (PySem.W.X.z_facts e Y).2.1 L.keeps) a o pm cd AH dV kV h2 h3 h4 h5 h6 h7 args Ch as' BU EW Da EU EX
end My
open PySem PySem.W PyProof.Rows
namespace PySem.W.Fast
def tw7666590095660031383:=()
def tw4158597743876961408:=()
def tw3877656816616053805:=()
def tw15383372460443684236:=()
def tw10985803632146909467:=()
def tw10688106626018624739:=()
def tw11666566520109917461:=()
def tw13689680269582734926:=()
def tw5849412234965573038:=()
def tw17361865463871757241:=()
def tw8305912164829290903:=()
def tw16423612755849436038:=()
def tw13325543872787249120:=()
def tw8137946611835033748:=()
def tw18381727772202849279:=()
def tw6737864986243287555:=()
def tw12990258141984114696:=()
def tw9623117849527766112:=()
def tw15880101279323339097:=()
def tw16051190851740481951:=()
def tw8991102672292903842:=()
def tw5043162583198033632:=()
def tw11561352881474293446:=()
def tw15155090201955844133:=()
def tw7342821171013365368:=()
def tw6495400257246064249:=()
def tw12342644671869721052:=()
def tw16208745446292107636:=()
def tw17114195645722992294:=()
def tw15937784694361670013:=()
def tw8313811380440389793:=()
def tw8743723472856444854:=()
def tw18233190668265315623:=()
def tw10781315814280452441:=()
def tw12307010978813065378:=()
def tw13916785752546103104:=()
def tw2035524123624419614:=()
def tw2531249641976689857:=()
def tw6659498249252956329:=()
def tw5835276335186171443:=()
def tw6055198274545197053:=()
def tw16785255258964147903:=()
def tw16028309916203835282:=()
def tw14750208580951895501:=()
def tw12797159145641702287:=()
def tw5634910855858310869:=()
def tw14388657151235277108:=()
def tw11557239391304646764:=()
def tw1373646162913116479:=()
def tw3166847287328448900:=()
def tw1449319631569585924:=()
def tw14445160371858147194:=()
def tw1487313245344220571:=()
def tw17402593849113618800:=()
def tw5957128181921407738:=()
def tw1424849411077994376:=()
def tw5295243823579068159:=()
def tw763738284365699370:=()
def tw7631705522812203335:=()
def tw3623503524477876268:=()
def tw4575155481692201176:=()
def tw16468678309329414202:=()
def tw12465540431643327726:=()
def tw2626422678054637268:=()
def tw4044120988578406615:=()
def tw3290449655287257274:=()
def tw6572457490709322236:=()
def tw15100470438891900351:=()
def tw13659346723845044678:=()
def tw6793004267221712663:=()
def tw7789725228717516127:=()
def tw4954834282342031618:=()
def tw10748154802841457698:=()
def tw9174931449324874137:=()
def tw12073228161635813338:=()
def tw14036696926316938502:=()
def tw7697013291129850104:=()
def tw4108563480295572722:=()
def tw9842116667749746226:=()
def tw4245086449150257016:=()
def tw3728677699761672138:=()
def tw9318839874295259979:=()
def tw8701688278139181451:=()
def tw11331730250826330773:=()
def tw3547926679882399539:=()
def tw17422523378765700156:=()
def tw10840759498731717195:=()
def tw14193291902119767293:=()
def tw1372849245310314802:=()
def tw11911007760965307112:=()
def tw3796314853875273214:=()
def tw12648170987386941896:=()
def tw76411918295744280:=()
def tw1277341729482207899:=()
def tw16905116780336935093:=()
def tw9410266748809140006:=()
def tw9262674597490098346:=()
def tw16650164146366809001:=()
def tw16480684438534577485:=()
def tw11241142735505627487:=()
def tw3327320916913621431:=()
def tw15377191874709762935:=()
def tw4767433800299553219:=()
def tw18025246595662975342:=()
def tw10843925194642771755:=()
def tw7365427173461380118:=()
def tw2993977591862789521:=()
def tw11763881930896290929:=()
def tw4954763655072372444:=()
def tw128963732772830736:=()
def tw12969526443073846831:=()
def tw15987574601421016689:=()
def tw16485638389894487323:=()
def tw15671995055589525062:=()
def tw259217216553648680:=()
def tw791311311602662859:=()
def tw13018184351474603903:=()
def tw14668247024777125516:=()
def tw3254339132273955866:=()
def tw12152427471170358621:=()
end PySem.W.Fast
set_option maxRecDepth 100000 in
theorem PySem.Challenge.cw_joinedasks_k78_calls_refused_holds : PySem.Challenge.rw_joinedasks_k78_calls_refused.Holds := by
 w_on;o_law;z_head;(case hw=>w_witness2)
 refine My.walkX (fun _=>by kernel_rfl) (My.walk (l:=PySem.Challenge.rw_joinedasks_k78_calls_refused) rfl rfl (fun w h Y=>Y) ?F);case F =>
  intro w mg fa h KX G hmg;refine' My.all_mk KX G hmg ?aa ?ab ?ac ?ad ?ae ?af ?ag ?ah ?ai ?aj ?ak ?al ?am ?an ?ao ?ap ?aq ?ar ?as ?au ?av ?aw ?ax ?ay ?az ?a0 ?a1 ?a2 ?a3 ?a4 ?a5 ?a6 ?a7 ?a8 ?a9 ?ba ?bb ?bc ?bd ?be ?bf ?bg ?bh ?bi ?bj ?bk ?bl ?bm ?bn ?bo ?bp ?bq ?br ?bs ?bt ?bu ?bv ?bw ?bx ?bz ?b0 ?b1 ?b2 ?b3 ?b4 ?b5 ?b6 ?b7 ?b8 ?b9 ?ca ?cb ?cc ?cd ?ce ?cf ?cg ?ch ?ci ?cj ?ck ?cl ?cm ?cn ?co ?cp ?cq ?cr ?cs ?ct ?cu ?cv
  (case aa|ab|ac|ad|ae|af|ag|ah|ai|aj|ak|al|am|an|ao|ap|aq=>k_is)
  (case ar|as|au|av|aw=>kernel_rfl)
  (case ax=>exact L3.kdN_of76 (by kernel_rfl) (fun C h=>by simp only[aK,fK,or_false] at h;rcases h with rfl|rfl|rfl|rfl|rfl|rfl|rfl|rfl|rfl|rfl|rfl|rfl|rfl|rfl|rfl|rfl|rfl <;> exact⟨by kernel_rfl,by kernel_rfl,by kernel_rfl,by kernel_rfl,by kernel_rfl⟩))
  (case ay|az|a0|a1|a2|a3|a4|a5|a6|a7|a8|a9|ba|bb|bc|bd|be|bf|bg|bh|bi|bj|bk|bl|bm|bn|bo|bp|bq|br|bs|bt|bu|bv|bw|bx|bz|b0|b1|b2|b3|b4|b5=>exact⟨by k_is,L2.fun_mk (by k_is) (by k_is) (by k_is)⟩)
  (case b6|b7|b8|b9|ca|cb|cc|cd|ce|cf|cg|ch|ci|cj|ck|cl|cm|cn|co|cp|cq|cr|cs|ct|cu|cv=>k_is)

