import PyProof.Rows.All
import Wide.All
import OpenK.AllK
import Wide.FinOn
import Lean
import PyProof.EqAt
import PyProof.EqKinds
import PyProof.TupleCall
import PyProof.NeKinds
import PyProof.FString
import PyProof.InstNe
import PySem.Challenge.RW_seamhall_k58_whole_fitted
open PySem renaming wpAny_bind→aft,Addr→afK,Value→afL,Shared→afN,starEach→afP,wpAny_pure→afQ,wpAny→afS,mainGlobals→afU,Expr→afV,Program→afZ,Heap→af2,World→af4,Around→af5,Stmt→af7,mem_of_lookup→agd,wpAny_field→agf,boot_len→agh,cellsFrom→agj,compareOp→agn,backTo→ago,Spec→agv,FuncData→agx,keywordEach→agz,Env→agA,wpAny_setField_rec→agB,wpAny_callSpecial?_slot→agG,wpAny_seqItems→agI,wpAny_mono→agL,rawInt→agN,wpAny_call_entry→agT,backToKw→agW,wpAny_Call_Name_kw→agX,wpAny_truthy_bool→ag2,binaryOp→ag4,swapsWith→ag6,wpAny_newObj_type→aha,Builtin→ahg,wpAny_holding→aho,Scope→ahp,wpAny_loadPart'→aht,bootBuiltins→ahv,behindInMarks→ahw,wpAny_onRaise→ahy,storeName→ahB,sizeLine_eq→ahC,wpAny_of_eq→ahE,wpAny_rule→ahG,cLine→ahH,codeAny_mono→ahI,attributeBase→ahK,wpAny_call→ahP,wpAny_letGo→ahR,wpAny_passesOwn→ahV,Keyword→ahW,swapsWithSole→ahZ,swappedStores→ah0,bindArgs→ah1,wpAny_attempt→ah3,assignEach→ah5,Arguments→ah8,sliceBounds→ah9,NameKind→aic,IsZip→aik,foldedSetIterable→aiw,standAt→aix,getMethod→aiE,builtinsNs→aiG,call_meets→aiK,wpAny_execs_nil→aiS,pushCells_keeps→aiV,TriplesOk→aiY,wpAny_typeOf→ai1,codeAny→ai4,wpAny_setField→ai5,wpAny_pyIter_rangeiter→ajc,IsPart→aje,callWith→ajk,wpAny_isInstance→ajn,wpAny_pyIter_zip→ajo,checkBuiltinCall→ajp,codeAmong→ajt,BindsTo→ajv,getItem→ajw,Operator→ajN,newFunctionEnv→ajP,wpAny_newTuple→ajQ,IsRangeIter→ajT,wpAny_standAt→aj4,evalPart_none→aj7,wpAny_sequenceKey→akf,wpAny_pyIter_list→akh,typeIs_int→akm,call→ako,closureFor→akp,concat_meets→akv,noFill_tuple_add→akx,seqSlot_of→akI
open PySem.W renaming Frag→afM,nsIn→afW,kitOne→afX,findIn→af8,keepIn→agg,mg_of→agq,fnOf→agy,mg_none_of→agC,codeIn→ahd,emptyDict→ahh,instObj→ahF,kia_one→ahJ,mroIn→ahL,callWith_K→ahS,specialIn→ah4,takesIn→aiu,cellsFrom_some→aiv,InstAt→aiy,plainGet→aiH,looks_findIn→aiI,clsIn→aiO,isFn→aiZ,tabObj→ai2,exmOne→ai6,hasDictIn→aja,excIn→aji,kp_binds→ajs,methodCall_KW→aju,plainGet_of→ajI,callWith_KW→ajK,lookIn→ajO,methodObj→akd,plainOver→ake,takerIn→akN,makesIn→akO,OpenLaw→akR,CodeHd→akY,noTabs→akZ
open List renaming replicate→afO,range→afR,length_cons→afY,mem_cons→af9,mem_cons_self→agl,getElem?_range→agr,append_nil→ags,length_replicate→agt,getElem?_append_right→agu,eq_nil_of_length_eq_zero→agE,mem_of_getElem?→agF,mem_append_right→agH,getElem?_append_left→agJ,length_set→agM,map_map→agP,length_singleton→agR,mem_map→agV,not_mem_nil→agZ,replicate_succ→ag0,lookup_append→ag7,getElem?_eq_getElem→ahe,getElem?_replicate→ahf,append_assoc→ahi,map_congr_left→ahj,length_nil→ahk,map_append→ahl,flatten_cons→ahr,lookup→ahD,lookup_cons→ahN,range_succ_eq_map→ahQ,toArray→ahT,pairwise_cons→ahU,forIn_cons→ahX,all_cons→ah2,range_eq_range'→ah7,range'→aia,map_nil→aif,filterMap_cons→aij,mem_singleton→aip,nil_append→ais,getElem?_eq_none→aiB,length_take→aiJ,range'_succ→aiL,mem_flatMap→aiM,length→aiP,mem_append→aiR,nodup_cons→aiT,getElem?_zip_eq_some→aiX,getElem?_cons_succ→ai9,ext_getElem?→ajb,take_of_length_le→ajf,zipIdx_cons→ajm,cons_append→ajq,mem_filter→ajy,mem_append_left→ajz,of_mem_zip→ajB,zipIdx_nil→ajG,mem_of_mem_take→ajH,getElem_append→ajL,mem_map_of_mem→ajM,forIn_nil→ajR,any_cons→aj9,nodup_append→aki,flatMap_cons→akj,foldl→akn,drop_eq_getElem_cons→akq,getElem_inj→aks,getElem?_take_of_lt→aku,length_drop→akz,all_eq_true→akB,drop_length→akD,take_length→akH,range'_eq_map_range→akK,length_eq_zero_iff→akM,getD→akP,range_succ→akQ,mem_range→akU,drop_zero→akX,zip_map'→ak4,sum_cons→ak6
open Ne renaming symm→afT
open PySem.Value renaming ref→af0,type→af3,none→agi,builtin→ahA,int→aiC,str→ajW,bool→akl
open Bool renaming false_ne_true→af6,false_eq_true→agO,and_eq_true→agY,not_true→ajj,false_and→akV,and_false→akW,and_self→ak7
open Or renaming inr→aga,inl→agp
open Option.some renaming inj→agb
open PySem.Builtin.SmallTypes renaming nextOf→agc,ownedTupleIsFree→agk,ownedTupleHandOut→agQ
open False renaming elim→agm
open PySem.Heap renaming size_push→agw,get?_update_other→ag8,SameBut→ahb,get?_update_self→aiA,get?_update_ne→aiQ,ExtBut→ajV
open Nat renaming ne_of_lt→agD,lt_irrefl→agS,zero_le→ahO,le_add_right→aii,le_of_ble_eq_true→aiz,min_eq_left→ajC,ne_of_gt→akt,sub_zero→akG,le_refl→akS,le_succ→akT
open PyProof.Rows renaming callWith_type1→agK,slot_tuple_getitem→ag3,envOfC→ag9,boot_tuple→ahq,boot_isinstance→ahY,IntsAre→aib,seqObj→aiq,AllBare→ai3,boot_max→ajr,sortedHeap→ajF,boot_min→ajS,assignInOrder_cons→ajX,subscriptTail→aj8
open PySem.NameKind renaming free→agU,cell→ail
open PySem.Builtin.Range renaming rangeFitsLong→ag1,rangeSize→ai7
open Int renaming eq_ofNat_of_zero_le→ag5,toNat_natCast→ahs,natCast_nonneg→aio,emod_lt_of_pos→air,emod_nonneg→aiW,ofNat_le→aky
open Option renaming isSome_iff_exists→ahc,bind_some→ajl,map_some→ajE,getD_none→akA,getD_some→akC
open PySem.Str renaming ofString→ahm
open PySem.Builtin.List renaming listTooLong→ahn,listSubscript?→aj2,listAllItems→akr
open PySem.PassesOwn renaming never→ahu,leaving→akk
open PySem.Obj renaming mapSeq→ahx,mapFields→ain,data_mapFields→ait,isFreed_of_fields→ajx
open Array renaming getElem?_eq_some_iff→ahz,length_toList→ahM,getD_eq_getD_getElem?→aj0,getD→ak2
open PySem.Builtin.Slice renaming slicePlaces→ah6,sliceAdjust→aiU,sliceApplied→aj5
open PySem.Builtin.Tuple renaming tupleExact→aie,tupleItemsOf→aj6,tupleTooMany→akb
open PySem.Data renaming cell→aiD,fields→ajU,seq→ak3
open PySem.F renaming slot_range_reversed→aiF,excBase_ValueError→aiN,args_tuple_add_2→ai0,entry_tuple_add→ai8,slot_tuple_add→ajd,slot_list_iadd→ajh,attrBase_ValueError→aj1,plain_reversed_new→akc,slot_list_append→akE,type_list_append→akF,plainAttrs_list→akL,slot_tuple_lt→ak0
open PySem.Shared renaming heap→ajg
open True renaming intro→ajA
open ForInStep renaming yield→ajD
open PySem.Heap.SameBut renaming update→ajJ
open PySem.Heap.IsSliceOf renaming new→ajY
open PySem.SeqAt.EqAt renaming int_int→ajZ,int_str→ak9,str_int→ala
open PySem.Calls renaming Name_function_global→aj3
open List.Pairwise renaming nil→akg
open PySem.AutoSeq1 renaming idx_int→akJ
open Prod renaming ext→ak1
open List.cons renaming inj→ak5
open PySem.EntryCells renaming newEntry→ak8
open PySem.Around renaming under→alb
set_option linter.all false
open PySem.W renaming handedIn→w0a,findObj→w0b,looks_mroIn→w0c,fnX→w0d,WalkO→w0e
local macro_rules|`(())=>`(by first|omega|(simp;done)|(simp;omega))
local macro_rules(kind:=Lean.Parser.Term.structInst)|`({})=>`(by decide +kernel)
local macro_rules|`(⟨⟩)=>`(by kernel_rfl)
def z9p{c:Prop}{_:Decidable c}(h:c){α}{t e:α}:ite c t e=t:=if_pos h
def z9n{c:Prop}{_:Decidable c}(h:¬c){α}{t e:α}:ite c t e=e:=if_neg h
def z9t{p}{_:Decidable p}(h:p):decide p=true:=decide_eq_true h
def z9f{p}{_:Decidable p}(h:¬p):decide p=false:=decide_eq_false h
def z9o{p}{_:Decidable p}(h:decide p=true):p:=of_decide_eq_true h
local macro_rules|`(tactic|show $t)=>`(tactic|refine $t)
def rp:Nat->Lean.Term->Lean.MacroM (Lean.TSyntax `rcasesPat)
 |n+1,t=>match t with
  |`(⟨$xs,*⟩)=>do
   let ys<-xs.getElems.mapM λy=>do`(Lean.Parser.Tactic.rcasesPatLo|$(<-rp n y):rcasesPat)
   `(rcasesPat|⟨$ys,*⟩)
  |`(_)=>`(rcasesPat|_)
  |`($x:ident)=>`(rcasesPat|$x:ident)
  |_=>Lean.Macro.throwUnsupported
 |_,_=>Lean.Macro.throwUnsupported
local macro_rules|`(tactic|let $t:term:=$e)=>do`(tactic|obtain $(<-rp 9 t):rcasesPat:=$e)
noncomputable section
set_option bootstrap.genMatcherCode false
set_option compiler.extract_closed false
set_option Elab.async false
set_option linter.all false
set_option maxRecDepth 100000
set_option maxHeartbeats 4000000
theorem z0b{a b c:Nat}(h:a≤b)(k:b≤c):a≤c:=Nat.le_trans h k
theorem z0d{a b c:Nat}(h:a<b)(k:b≤c):a<c:=Nat.lt_of_lt_of_le h k
theorem z0e{a b:Nat}(h:a<b):a≤b:=Nat.le_of_lt h
theorem z0g(a:Nat):a≤a:=akS a
theorem z1a{h:PySem.Heap}{a:PySem.Addr}{o':PySem.Obj}(o:PySem.Obj)(e:h.get? a=some o'):(h.push o).get? a=some o':=PySem.Heap.get?_push_of_some o e
theorem z1b{α:Type _}{i:Nat}{a:α}{l:List α}(h:l[i]?=some a):∃h:i<l.length,l[i]=a:=List.getElem?_eq_some_iff.mp h
theorem z1c{α:Type _}{as:List α}:as.toArray.size=as.length:=List.size_toArray
theorem z1d{α:Type _}{as bs:List α}:(as++bs).length=as.length+bs.length:=List.length_append
theorem z1e{α:Type _}{l:List α}{i j:Nat}(h:i ≠ j){a:α}:(l.set i a)[j]?=l[j]?:=List.getElem?_set_ne h
theorem z1f(h:PySem.Heap){o:PySem.Obj}(e:o.isFreed=false):(h.push o).get? h.objs.size=some o:=PySem.Heap.get?_push_size h e
theorem z1g{α:Type _}{β:Type _}{as:List α}(f:α→β):(as.map f).length=as.length:=List.length_map f
theorem z1h{α:Type _}{β:Type _}{f:α→β}{a:α}{l:List α}:(a :: l).map f=f a :: l.map f:=rfl
theorem z2a{α:Type _}{l:List α}{i:Nat}{a:α}(h:i<l.length):(l.set i a)[i]?=some a:=List.getElem?_set_self h
theorem z2b{α:Type _}{β:Type _}{f:α→β}{l:List α}{i:Nat}:(l.map f)[i]?=Option.map f l[i]?:=List.getElem?_map
theorem z2c{h:PySem.Heap}{a:PySem.Addr}{o:PySem.Obj}(e:h.get? a=some o):a<h.objs.size:=PySem.Heap.lt_size e
theorem z2d{n:Nat}:(afR n).length=n:=List.length_range
theorem z2e{m n:Nat}(h:m ∈ afR n):m<n:=akU.mp h
theorem z2f{α:Type _}(y:α){a:α}{l:List α}(h:a ∈ l):a ∈ y :: l:=List.mem_cons_of_mem y h
namespace L2
open PySem PySem.Spec PyProof.Rows
variable{C:afK}{A:af5}{CX:CXT}{e tg:afV}{o:HO}{h base:af2}{H:Hp}{pins:List (afK×Obj)}{kw:List (Str×afL)}{ch:List afK}{outer:List Env}{body:List af7}{ps N:List Str}{us:List afL}{M:Model}{k t':Nat}{P:afZ}{K:afM}{r:R2}{s:afN}{σ:St}{mg:Str->Option afL}{te:TE}{E Q:afL->afN->Prop}{f:afL->afL->Sem afL}{w:af4}
abbrev Key:=Sum Int Str
def keyIs:Key->afL->Bool
 | .inl k,v=>Value.isInt k v
 | .inr x,v=>Value.isStrOf x v
def keyH(w:af4):Key->Int
 | .inl k=>hashInt k
 | .inr x=>hashStr w x
theorem keyIs_shape:∀{k:Key} {v:afL},keyIs k v=true->(∃i t,k=Sum.inl i/\v=aiC i t)\/(∃x t,k=Sum.inr x/\v=ajW x t)
 | .inl i,v,h=>by
  let⟨t,e⟩:=Value.isInt_shape (k:=i) (v:=v) h;show .inl ⟨i,t,rfl,e⟩
 | .inr x,v,h=>by
  let⟨t,e⟩:=Value.isStrOf_shape (x:=x) (v:=v) h;show .inr ⟨x,t,rfl,e⟩
theorem keyIs_int(i:Int)(t:Tok):keyIs (.inl i) (.int i t)=true:=by simp[keyIs,Value.isInt]
theorem keyIs_str(x:Str)(t:Tok):keyIs (.inr x) (.str x t)=true:=by simp[keyIs,Value.isStrOf]
theorem key_ll(a b:Int):decide ((Sum.inl a:Key)=Sum.inl b)=(a ==b):=by
 by_cases e:a=b
 .subst e;simp
 .have h:¬(Sum.inl a:Key)=Sum.inl b:=λq=>e (Sum.inl.inj q);rw[z9f h];show (beq_eq_false_iff_ne.mpr e).symm
theorem key_rr(a b:Str):decide ((Sum.inr a:Key)=Sum.inr b)=decide (a=b):=by
 by_cases e:a=b
 .subst e;simp
 .have h:¬(Sum.inr a:Key)=Sum.inr b:=λq=>e (Sum.inr.inj q);rw[z9f h,z9f e]
theorem key_lr(a:Int)(b:Str):decide ((Sum.inl a:Key)=Sum.inr b)=false:=z9f (λq=>nomatch q)
theorem key_rl(a:Str)(b:Int):decide ((Sum.inr a:Key)=Sum.inl b)=false:=z9f (λq=>nomatch q)
def mixKind(prog:afZ)(w:af4):PySem.KeyKind prog w Key where
 is:=keyIs
 hash:=keyH w
 inj :=λv a b ha hb=>by
  rcases keyIs_shape ha with⟨i,t,rfl,rfl⟩ |⟨x,t,rfl,rfl⟩
  .rcases keyIs_shape hb with⟨j,u,rfl,e⟩ |⟨y,u,rfl,e⟩
   .injection e with e1 _;rw[e1]
   .show nomatch e
  .rcases keyIs_shape hb with⟨j,u,rfl,e⟩ |⟨y,u,rfl,e⟩
   .show nomatch e
   .injection e with e1 _;rw[e1]
 byValue:=λk v h=>by
  rcases keyIs_shape h with⟨i,t,rfl,rfl⟩ |⟨x,t,rfl,rfl⟩ <;> rfl
 pyHash:=λhv h=>by
  rcases keyIs_shape hv with⟨i,t,rfl,rfl⟩ |⟨x,t,rfl,rfl⟩
  .show wpAny_pyHash_int h
  .show wpAny_pyHash_str h
 eqBool:=λhu hv h=>by
  rcases keyIs_shape hu with⟨i,t,rfl,rfl⟩ |⟨x,t,rfl,rfl⟩
  .rcases keyIs_shape hv with⟨j,u,rfl,rfl⟩ |⟨y,u,rfl,rfl⟩
   .rw[key_ll] at h;show wpAny_eqBool_int h
   .rw[key_lr] at h;show ak9 i t y u _ _ _ _ h
  .rcases keyIs_shape hv with⟨j,u,rfl,rfl⟩ |⟨y,u,rfl,rfl⟩
   .rw[key_rl] at h;show ala x t j u _ _ _ _ h
   .rw[key_rr] at h;show wpAny_eqBool_str h
 «strs»:=λk x t v h=>by
  rcases keyIs_shape h with⟨i,u,rfl,e⟩ |⟨y,u,rfl,e⟩
  .show nomatch e
  .injection e with e1 _;subst e1;cases v <;> rfl
theorem mixKind_int(prog:afZ)(w:af4)(i:Int)(t:Tok):(mixKind prog w).is (.inl i) (.int i t)=true:=keyIs_int i t
theorem mixKind_str(prog:afZ)(w:af4)(x:Str)(t:Tok):(mixKind prog w).is (.inr x) (.str x t)=true:=keyIs_str x t
inductive V where
 |non |bl (b:Bool) |int (i:Int) |str (x:Str) |byt (b:Array UInt8) |flt (b:UInt64) |ref (a:afK) |ty (n:String)
 deriving DecidableEq
def RelV:V->afL->Prop
 | .non,u=>u=agi
 | .bl b,u=>u=akl b
 | .int i,u=>∃t,u=aiC i t
 | .str x,u=>∃t,u=ajW x t
 | .byt b,u=>∃t,u=Value.bytes b t
 | .flt b,u=>∃t,u=Value.float b t
 | .ref a,u=>u=af0 a
 | .ty n,u=>u=af3 n
abbrev Vals:List V->List afL->Prop:=Paired RelV
theorem Vals.length{xs:List V}(r:Vals xs us):xs.length=us.length:=Paired.length r
theorem Vals.get:∀{xs:List V} {us:List afL} {i:Nat} {x:V},Vals xs us->xs[i]?=some x->∃u,us[i]?=some u/\RelV x u
 |_,_,_,_,.nil,e=>by simp at e
 |_,_,0,_,.cons r _,e=>by simp at e;subst e;show⟨_,rfl,r⟩
 | _,_,i+1,x,.cons _ t,e=>by
  let⟨u,h1,h2⟩:=Vals.get (i:=i) (x:=x) t (by simpa using e);show⟨u,by simpa using h1,h2⟩
theorem Vals.append:∀{xs ys:List V} {us ws:List afL},Vals xs us->Vals ys ws->Vals (xs++ys) (us++ws)
 :=by
 intro xs ys us ws h q
 induction h with
 |nil=>show q
 |cons r t ih=>show .cons r ih
theorem Vals.take:∀{xs:List V} {us:List afL} (n:Nat),Vals xs us->Vals (xs.take n) (us.take n)
 |_,_,0,_=> .nil
 |_,_,_+1,.nil=> .nil
 |_,_,n+1,.cons r t=> .cons r (Vals.take n t)
theorem Vals.drop:∀{xs:List V} {us:List afL} (n:Nat),Vals xs us->Vals (xs.drop n) (us.drop n)
 |_,_,0,r=>r
 |_,_,_+1,.nil=> .nil
 |_,_,n+1,.cons _ t=>Vals.drop n t
def RelO:Option V->Option afL->Prop
 |some v,some u=>RelV v u
 |none,none=>True
 |_,_=>False
def KV{κ:Type}:List (κ×V)->List (κ×afL)->Prop:=Paired λ(p:κ×V) (q:κ×afL)=>p.1=q.1/\RelV p.2 q.2
def kV:Key->V
 | .inl i=> .int i
 | .inr x=> .str x
inductive HO where
 /-- a list -/
 |lst (xs:List V)
 /-- a tuple (never changes) -/
 |tup (xs:List V)
 /-- a dict whose keys are ints and texts;one whose keys are tuples of ints and texts (the empty one is both) -/
 |dK (kvs:List (Key×V)) |dT (kvs:List (List Key×V))
 /-- a set of ints:its members,its size -/
 |set (S:Int->Bool) (n:Nat)
 /-- an instance of the class at C,its dict at dx,its attributes -/
 |ins (C dx:afK) (fs:List (Str×V))
 /-- the dict of the instance at x -/
 |own (x:afK)
 /-- the dict of an exception -/
 |xd (fs:List (Str×V))
 /-- a bound method,f of x -/
 |met (f x:afK)
 /-- a range object lo,lo+1,.. below hi -/
 |rng (lo hi:Int)
 /-- a thing that is known to the object (the script;a dict while a loop walks it):read,never written while it is so -/
 |frz (o:Obj) (u:HO)
 /-- a code object's table -/
 |tbl (ps:Array afL)
 /-- any other thing,by what is true of its one object (a def of one's own:SetO a S n:=HO.ext λh=> ..) -/
 |ext (φ:af2->Prop)
abbrev Hp:=afK->Option HO
def upd(H:Hp)(a:afK)(o:HO):Hp:=λb=>if b=a then some o else H b
theorem upd_same{a:afK}:upd H a o a=some o:=by unfold upd;rw[z9p rfl]
theorem upd_ne{a b:afK}(h:b≠a):upd H a o b=H b:=by unfold upd;rw[z9n h]
theorem ne_of_none{a b:afK}(h:H a=some o)(h':H b=none):a≠b:=by
 intro e;subst e;rw[h] at h';cases h'
def yp(h:af2)(a:afK)(items:Array afL):Prop:=∃o,h.get? a=some o/\o.cls= .type "tuple"/\o.dict=none/\∃n,o.data= .seq items n
theorem yp.tup{a:afK}{items:Array afL}(x:yp h a items):IsTup h a items:=let⟨o,e,c,_,d⟩:=x;⟨o,e,c,d⟩
theorem yp.new(h:af2)(items:Array afL):yp (h.push {cls:= .type "tuple",data:= .seq items}) h.objs.size items:=⟨_,z1f _ rfl,rfl,rfl,_,rfl⟩
section
variable(P:afZ)(w:af4)
def ObjOk(H:Hp)(h:af2)(a:afK):HO->Prop
 | .lst xs=>xs.length<=sizeLine/\∃(its:List afL) (n:Nat),Vals xs its/\h.get? a=some {cls:= .type "list",data:= .seq its.toArray n}
 | .tup xs=>xs.length<=sizeLine/\∃its:List afL,Vals xs its/\yp h a its.toArray
 | .dK kvs=>kvs.length<=sizeLine/\(a ==sysModules)=false/\∃vs,KV kvs vs/\h.DictOf (mixKind P w) a vs
 | .dT kvs=>kvs.length<=sizeLine/\(a ==sysModules)=false/\∃xs:List (List Key×afK×afL),
   Paired (λ(p:List Key×V) (q:List Key×afK×afL)=>p.1=q.1/\H q.2.1=some (.tup (p.1.map kV))/\RelV p.2 q.2.2) kvs xs/\
   ∃o es ep,h.get? a=some o/\o.ExactDict/\o.data= .dict es ep/\es.toList=xs.map (entryOfKey (tupleKind (mixKind P w)))/\(xs.map (·.1)).Nodup
 | .set S n=>h.SetOf (intKind P w) a S n
 | .ins C dx fs=>H dx=some (.own a)/\fs.length<=1000/\dx≠a/\h.get? a=some (ahF C dx)/\
   ∃mA,h.Ns1 dx mA/\(∀f,RelO (fs.lookup f) (mA f))/\PySem.Within mA (fs.map (·.1))
 | .own _=>∃o,h.get? a=some o
 | .xd fs=>∃mA,h.Ns1 a mA/\∀f,RelO (fs.lookup f) (mA f)
 | .rng lo hi=>∃t u v,h.get? a=some {cls:= .type "range",data:= .fields #[.int lo t,.int hi u,.int 1 v]}
 | .frz o u=>h.get? a=some o/\ObjOk H h a u
 | .tbl ps=>∃qs:Array afL,h.get? a=some (ai2 qs)/\aiY qs.toList/\∀pos cv,ajt pos qs.toList=some cv->∃c oc vs q t tq,cv= .ref c/\H c=some (.frz oc (.own c))/\oc.data= .fields vs/\vs[1]?=some (.str q t)/\ps[0]?=some (.str q tq)
 | .met f x=>h.get? a=some (akd (.ref f) (.ref x))
 | .ext φ=>φ h/\(∃o,h.get? a=some o)/\∀h1 h2:af2,φ h1->(∀o,h1.get? a=some o->h2.get? a=some o)->φ h2
def HOk(H:Hp)(h:af2):Prop:=∀a o,H a=some o->ObjOk P w H h a o
end
section
variable{P:afZ}{w:af4}{H H':Hp}{h h':af2}{a:afK}{o:HO}
theorem ObjOk.lt(x:ObjOk P w H h a o):a<h.objs.size:=by
 cases o with
 |lst xs=>let⟨_,_,_,_,e⟩:=x;show z2c e
 |tup xs=>let⟨_,_,_,_,e,_⟩:=x;show z2c e
 |dK kvs=>let⟨_,_,_,_,o,_,_,e,_⟩:=x;show z2c e
 |dT kvs=>let⟨_,_,_,_,o,_,_,e,_⟩:=x;show z2c e
 |set S n=>let⟨o,_,_,_,e,_⟩:=x;show z2c e
 |ins C dx fs=>let⟨_,_,_,e,_⟩:=x;show z2c e
 |own y=>let⟨_,e⟩:=x;show z2c e
 |xd fs=>let⟨_,⟨_,_,_,e,_⟩,_⟩:=x;show z2c e
 |rng lo hi=>let⟨_,_,_,e⟩:=x;show z2c e
 |frz ob u=>let⟨e,_⟩:=x;show z2c e
 |tbl ps=>let⟨_,e,_⟩:=x;show z2c e
 |met f y=>show z2c (show h.get? a=some _ from x)
 |ext φ=>let⟨_,⟨_,e⟩,_⟩:=x;show z2c e
theorem Paired.mapP{α β:Type}{F G:α->β->Prop}:∀{l₁:List α} {l₂:List β},Paired F l₁ l₂->(∀a b,F a b->G a b)->Paired G l₁ l₂
 :=by
 intro l₁ l₂ h f
 induction h with
 |nil=>show .nil
 |cons r t ih=>show .cons (f _ _ r) ih
theorem ObjOk.stay(x:ObjOk P w H h a o)(k:∀b u,(b=a\/H b=some (.own a))->h.get? b=some u->h'.get? b=some u)
  (ho:∀b,H b=some (.own a)->H' b=some (.own a))(ht:∀b xs,H b=some (.tup xs)->H' b=some (.tup xs))(hz:∀b o u,(∃vs,o.data= .fields vs)->H b=some (.frz o u)->H' b=some (.frz o u)):ObjOk P w H' h' a o:=by
 induction o with
 |lst xs=>let⟨z,its,n,r,e⟩:=x;show⟨z,its,n,r,k _ _ (.inl rfl) e⟩
 |tup xs=>let⟨z,its,r,ob,e,c⟩:=x;show⟨z,its,r,ob,k _ _ (.inl rfl) e,c⟩
 |dK kvs=>let⟨z,y,vs,r,ob,es,ep,e,c⟩:=x;show⟨z,y,vs,r,ob,es,ep,k _ _ (.inl rfl) e,c⟩
 | dT kvs=>
  let⟨z,y,xs,r,ob,es,ep,e,c⟩:=x;show⟨z,y,xs,Paired.mapP r λp q z=>⟨z.1,ht _ _ z.2.1,z.2.2⟩,ob,es,ep,k _ _ (.inl rfl) e,c⟩
 |set S n=>let⟨ob,es,ep,t,e,c⟩:=x;show⟨ob,es,ep,t,k _ _ (.inl rfl) e,c⟩
 | ins C dx fs=>
  let⟨d,z,ne,e,mA,⟨od,es,ep,e2,c⟩,r⟩:=x;show⟨ho _ d,z,ne,k _ _ (.inl rfl) e,mA,⟨od,es,ep,k _ _ (.inr d) e2,c⟩,r⟩
 |own y=>let⟨ob,e⟩:=x;show⟨ob,k _ _ (.inl rfl) e⟩
 |xd fs=>let⟨mA,⟨od,es,ep,e,c⟩,r⟩:=x;show⟨mA,⟨od,es,ep,k _ _ (.inl rfl) e,c⟩,r⟩
 |rng lo hi=>let⟨t,u,v,e⟩:=x;show⟨t,u,v,k _ _ (.inl rfl) e⟩
 |frz ob u ih=>let⟨e,q⟩:=x;show⟨k _ _ (.inl rfl) e,ih q⟩
 | tbl ps=>
  let⟨qs,e,tr,al⟩:=x;show⟨qs,k a _ (.inl rfl) e,tr,λp cv z=>by
   let⟨c,oc,vs,q,t,tq,e1,e2,e3,r⟩:=al p cv z;show⟨c,oc,vs,q,t,tq,e1,hz _ _ _ ⟨vs,e3⟩ e2,e3,r⟩⟩
 | met f y=>
  have e:h.get? a=some (akd (.ref f) (.ref y)):=x;show h'.get? a=some (akd (.ref f) (.ref y));show k a _ (.inl rfl) e
 |ext φ=>let⟨p,⟨o,e⟩,st⟩:=x;show⟨st _ _ p λo q=>k _ _ (.inl rfl) q,⟨o,k _ _ (.inl rfl) e⟩,st⟩
theorem HOk.lt(x:HOk P w H h)(e:H a=some o):a<h.objs.size:=(x a o e).lt
theorem HOk.fresh(x:HOk P w H h)(e:h.objs.size<=a):H a=none:=by
 cases q:H a with
 |none=>rfl
 |some u=>show absurd (z0d (x.lt q) e) (agS _)
theorem HOk.kept(x:HOk P w H h)(k:∀b u,h.get? b=some u->h'.get? b=some u):HOk P w H h':=λa o e=>
 (x a o e).stay (λb u _ q=>k b u q) (λ_ q=>q) (λ_ _ q=>q) λ_ _ _ _ q=>q
theorem HOk.laid(x:HOk P w H h)(k:∀b u,h.get? b=some u->h'.get? b=some u)(hp:h.objs.size<=a)(new:ObjOk P w (upd H a o) h' a o):HOk P w (upd H a o) h':=λb u e=>by
 have hn:=x.fresh hp;by_cases hb:b=a
 .subst hb;rw[upd_same] at e;cases e;show new
 .rw[upd_ne hb] at e;show (x b u e).stay (λc v _ q=>k c v q) (λc q=>by rw[upd_ne (ne_of_none q hn)];show q) (λc xs q=>by rw[upd_ne (ne_of_none q hn)];show q) λc _ _ _ q=>by rw[upd_ne (ne_of_none q hn)];show q
end
def Rd(H:Hp)(a:afK)(u:HO):Prop:=H a=some u\/∃o,H a=some (.frz o u)
theorem Rd.ok{a:afK}{u:HO}(r:Rd H a u)(x:HOk P w H h):ObjOk P w H h a u:=by
 rcases r with r |⟨o,r⟩
 .show x a u r
 .let⟨_,q⟩:=x a _ r;show q
def Mut:Option HO->Prop
 |some (.lst _)=>True
 |some (.dK _)=>True
 |some (.dT _)=>True
 |some (.set _ _)=>True
 |some (.ins _ _ _)=>True
 |some (.ext _)=>True
 |_=>False
section
variable{P:afZ}{w:af4}{H:Hp}{h h':af2}{x e:afK}{o':HO}
theorem HOk.write(ok:HOk P w H h)(mu:Mut (H x))(he:e=x\/H e=some (.own x))(k:∀b u,b≠e->h.get? b=some u->h'.get? b=some u)(heo:∃u,h'.get? e=some u)
  (new:ObjOk P w (upd H x o') h' x o'):HOk P w (upd H x o') h':=λb u q=>by
 have nown:∀c y,H c=some (.own y)->c≠x:=λc y r z=>by subst z;rw[r] at mu;show mu
 have ntup:∀c xs,H c=some (.tup xs)->c≠x:=λc xs r z=>by subst z;rw[r] at mu;show mu
 by_cases hb:b=x
 .subst hb;rw[upd_same] at q;cases q;show new
 .rw[upd_ne hb] at q;by_cases hbe:b=e
  .have q':H b=some (.own x):=by
    rcases he with z |z
    .show absurd (hbe.trans z) hb
    .rw[hbe];show z
   rw[q] at q';cases q';let⟨v,hv⟩:=heo;show⟨v,by rw[hbe];show hv⟩
  .show (ok b u q).stay (λc v hc r=>k c v ?_ r) (λc r=>by rw[upd_ne (nown c b r)];show r) (λc xs r=>by rw[upd_ne (ntup c xs r)];show r) λc o1 u1 _ r=>by rw[upd_ne (λz=>by rw[z] at r;rw[r] at mu;show mu)];show r
   rcases hc with rfl |hc
   .show hbe
   .rintro rfl
    rcases he with z |z
    .show nown c b hc z
    .rw[hc] at z;cases z;show hb rfl
end
structure Un(fs ex:List afK)(H H':Hp)(h h':af2):Prop where
 keep:∀b o,h.get? b=some o->H b=none->b∉fs->b∉ex->h'.get? b=some o
 slot:∀b o,h.get? b=some o->H b=none->b∈fs->b∉ex->∃sl,h'.get? b=some {o with slots:=sl}
 free:∀b o,h.get? b=some o->H b=none->b∉ex->H' b=none
 there:∀b o,h.get? b=some o->b∉ex->∃o',h'.get? b=some o'
 tups:∀b xs,H b=some (.tup xs)->H' b=some (.tup xs)
 frzs:∀b o u,H b=some (.frz o u)->H' b=some (.frz o u)
 tbls:∀b ps,H b=some (.tbl ps)->∃more,H' b=some (.tbl (ps++more))
section
variable{fs fs' ex ex':List afK}{H H1 H2:Hp}{h h1 h2 h':af2}{a x e:afK}{o:HO}
theorem Un.any(u:Un fs ex H H1 h h1){b:afK}{ob:Obj}(q:h.get? b=some ob)(n:H b=none)(hx:b∉ex):∃sl,h1.get? b=some {ob with slots:=sl}:=by
 by_cases hb:b∈fs
 .show u.slot b ob q n hb hx
 .show⟨ob.slots,u.keep b ob q n hb hx⟩
theorem Un.kept(k:∀b u,h.get? b=some u->h'.get? b=some u):Un fs ex H H h h':=
 ⟨λb ob q _ _ _=>k b ob q,λb ob q _ _ _=>⟨ob.slots,k b ob q⟩,λ_ _ _ n _=>n,λb ob q _=>⟨ob,k b ob q⟩,λ_ _ q=>q,λ_ _ _ q=>q,λ_ ps q=>⟨#[],by rw[q];simp⟩⟩
theorem Un.refl:Un fs ex H H h h:=Un.kept λ_ _ q=>q
theorem Un.laid(k:∀b u,h.get? b=some u->h'.get? b=some u)(hp:h.objs.size<=a)(hn:H a=none):Un fs ex H (upd H a o) h h' where
 keep:=λb u q _ _ _=>k b u q
 slot:=λb u q _ _ _=>⟨u.slots,k b u q⟩
 free:=λb u q n _=>by rw[upd_ne (agD (z0d (z2c q) hp))];show n
 there:=λb u q _=>⟨u,k b u q⟩
 tups:=λb xs q=>by rw[upd_ne (ne_of_none q hn)];show q
 frzs:=λb u xs q=>by rw[upd_ne (ne_of_none q hn)];show q
 tbls:=λb ps q=>⟨#[],by rw[upd_ne (ne_of_none q hn),q];simp⟩
theorem Un.write(mu:Mut (H x))(he:e=x\/H e=some (.own x))(k:∀b u,b≠e->h.get? b=some u->h'.get? b=some u)(heo:∃u,h'.get? e=some u):Un fs ex H (upd H x o) h h':=by
 have hx:∀b,H b=none->b≠x:=λb n z=>by subst z;rw[n] at mu;show mu
 have hb:∀b,H b=none->b≠e:=λb n z=>by
  subst z;rcases he with r |r
  .show hx b n r
  .rw[n] at r;cases r
 have hm:∀b u,H b=some u->¬Mut (some u)->b≠x:=λb u q nm z=>by subst z;rw[q] at mu;show nm mu
 show⟨λb u q n _ _=>k b u (hb b n) q,λb u q n _ _=>⟨u.slots,k b u (hb b n) q⟩,λb u q n _=>by rw[upd_ne (hx b n)];show n,λb u q _=>?_,
  λb xs q=>by rw[upd_ne (hm b _ q λz=>z)];show q,λb u xs q=>by rw[upd_ne (hm b _ q λz=>z)];show q,λb ps q=>⟨#[],by rw[upd_ne (hm b _ q λz=>z),q];simp⟩⟩
 by_cases hbe:b=e
 .subst hbe;show heo
 .show⟨u,k b u hbe q⟩
end
def trk(h:af2)(H:Hp):List afK:=(afR h.objs.size).filter λa=>(H a).isSome
def hidT(h:af2)(H:Hp):af2:=PySem.W.hideAll h (trk h H)
theorem hidT_size(h:af2)(H:Hp):(hidT h H).objs.size=h.objs.size:=PySem.W.hideAll_size _ _
theorem hidT_get{b:afK}{o:Obj}(e:h.get? b=some o)(n:H b=none):(hidT h H).get? b=some o:=
 PySem.W.hideAll_get _ e λhm=>by
  have q:(H b).isSome=true:=(ajy.mp hm).2;rw[n] at q;simp at q
theorem of_hidT{b:afK}{o:Obj}(e:(hidT h H).get? b=some o):h.get? b=some o/\H b=none:=by
 have e':h.get? b=some o:=PySem.W.of_hideAll (trk h H) e;show⟨e',?_⟩;cases q:H b with
 |none=>rfl
 | some x=>
  have hm:b∈trk h H:=ajy.mpr ⟨akU.mpr (z2c e'),by simp[q]⟩;have z:(hidT h H).get? b=none:=PySem.W.hideAll_none (trk h H) hm;rw[z] at e;cases e
def allNews(g h:af2)(L:afK):List (afK×Obj):=(afR h.objs.size).filterMap λa=>if a=L\/(g.get? a).isSome=true then none else (h.get? a).map λo=>(a,o)
def rest(g h:af2)(L d:afK):List (afK×Obj):=(allNews g h L).filter λp=>decide (p.1≠d)
structure Mod(K:afM)(mg:Str->Option afL)(base:af2):Prop where
 kin:K.In base
 glob:base.Ns afU mg
 blt:∃mb,base.Ns aiG mb/\∀x:Str,x≠"__name__"->mb x=ahv x
 nolimit:base.NoLimit
structure Cx where
 prog:afZ
 w:af4
 K:afM
 mg:Str->Option afL
 base:af2
 A:af5
 N:List Str
 s₀:afN
 H₀:Hp
 env:Env
 outer:List Env
 stack:List Env
 ex:List afK
 fn:Str->Bool
 calm:Bool
 pn:List (afK×Obj)
 xe:afL->afN->Prop
def frs(l:List Env):List afK:=l.filterMap (·.frame)
abbrev Cx.fs(X:Cx):List afK:=frs X.outer
def Vis(sc:ahp)(x:Str):Prop:=sc.names.lookup x=some .local\/sc.names.lookup x=some .cell\/sc.names.lookup x=some .free
def Loc(sc:ahp)(x:Str):Prop:=sc.names.lookup x=some .local\/sc.names.lookup x=some .cell
def Look(env:Env)(h:af2)(m:Str->Option afL)(x:Str)(u:afL):Prop:=
 (env.kindOf x=some .local/\m x=some u)\/((env.kindOf x=some .cell\/env.kindOf x=some .free)/\∃c,env.cells.lookup x=some c/\h.IsCell c (some u))
structure Cx.Ok(X:Cx):Prop where
 mod:Mod X.K X.mg X.base
 kind:X.env.scope.kind= .function
 glob:X.env.globals=afU
 blt:X.env.builtins=aiG
 above:X.s₀.heap.objs.size<=X.env.locals
 inj:∀x y c,X.env.cells.lookup x=some c->X.env.cells.lookup y=some c->x=y
 has:∀x,(X.env.kindOf x=some .cell\/X.env.kindOf x=some .free)->∃c,X.env.cells.lookup x=some c
 cab:∀x c,X.fn x=true->X.env.cells.lookup x=some c->X.s₀.heap.objs.size<=c
 hd:X.calm=true->X.A.handled=none
 frames:X.A.frames=some X.stack
 stk:X.stack=X.outer\/(X.stack=X.env::X.outer/\X.env.frame=some X.env.locals)
 exf:∀b∈X.ex,b≠X.env.locals/\∀x c,X.env.cells.lookup x=some c->c≠b
 bs:∀b o,X.base.get? b=some o->X.s₀.heap.get? b=some o/\X.H₀ b=none
 bsz:X.base.objs.size<=X.s₀.heap.objs.size
 noex:∀b o,X.base.get? b=some o->b∉X.ex
 exfs:∀b∈X.ex,b∉X.fs
 funs:X.s₀.heap.FunFrames X.base X.outer
 frf:∀b∈X.fs,X.H₀ b=none
structure Inv(X:Cx)(pins:List (afK×Obj))(σ:List (Option V))(H:Hp)(s:afN):Prop where
 ok:X.Ok
 os:s.os=X.s₀.os
 bare:ai3 s.gens
 base:Un X.fs X.ex X.H₀ H X.s₀.heap s.heap
 loc:∃m,s.heap.Ns X.env.locals m/\∀(i:Nat) (x:Str) (v:V),X.N[i]?=some x->σ[i]?=some (some v)->Vis X.env.scope x->∃u,RelV v u/\Look X.env s.heap m x u
 cell:∀x c,X.env.cells.lookup x=some c->∃v,s.heap.IsCell c v
 free:H X.env.locals=none
 freeC:∀x c,X.env.cells.lookup x=some c->H c=none
 pin:∀p∈X.pn++pins,s.heap.get? p.1=some p.2/\H p.1=none/\p.1≠X.env.locals/\p.1∉X.fs/\∀v,p.2.data≠.cell v
 hok:HOk X.prog X.w H s.heap
 len:σ.length=X.N.length
section
variable{X:Cx}{pins:List (afK×Obj)}{σ:List (Option V)}{H H':Hp}{s:afN}{h':af2}
theorem Cx.Ok.nofr(ok:X.Ok){b:afK}{o:Obj}(e:X.base.get? b=some o):b∉X.fs:=λhb=>by
 have:=(ok.funs.mem hb).1;rw[e] at this;cases this
theorem Inv.bs(I:Inv X pins σ H s):∀b o,X.base.get? b=some o->s.heap.get? b=some o/\H b=none:=λb o e=>
 ⟨I.base.keep b o (I.ok.bs b o e).1 (I.ok.bs b o e).2 (I.ok.nofr e) (I.ok.noex b o e),I.base.free b o (I.ok.bs b o e).1 (I.ok.bs b o e).2 (I.ok.noex b o e)⟩
theorem Inv.bk(I:Inv X pins σ H s):∀b o,X.base.get? b=some o->s.heap.get? b=some o:=λb o e=>(I.bs b o e).1
theorem Inv.mod(I:Inv X pins σ H s):Mod X.K X.mg X.base:=I.ok.mod
theorem Inv.kIn(I:Inv X pins σ H s):X.K.In s.heap:=I.ok.mod.kin.keeps I.bk
theorem Inv.lt(I:Inv X pins σ H s):X.env.locals<s.heap.objs.size:=let⟨_,hn,_⟩:=I.loc;hn.lt
theorem Inv.sz(I:Inv X pins σ H s):X.s₀.heap.objs.size<=s.heap.objs.size:=z0b I.ok.above (z0e I.lt)
theorem Inv.nofs(I:Inv X pins σ H s){a:afK}(h:s.heap.objs.size<=a):a∉X.fs:=λhb=>by
 let⟨_,o,ho,_⟩:=I.ok.funs.mem hb;show absurd (z0d (z2c ho) (z0b I.sz h)) (agS _)
theorem Inv.cne(I:Inv X pins σ H s):∀x c,X.env.cells.lookup x=some c->c≠X.env.locals:=λx c e z=>by
 let⟨v,o,ho,hd⟩:=I.cell x c e;let⟨m,⟨o',es,ep,ho',hd',_⟩,_⟩:=I.loc;rw[z,ho'] at ho;cases ho;rw[hd'] at hd;cases hd
theorem Inv.funs(I:Inv X pins σ H s):s.heap.FunFrames X.base X.outer:=by
 have all:∀(l:List Env),(∀b∈frs l,b∈X.fs)->X.s₀.heap.FunFrames X.base l->s.heap.FunFrames X.base l:=by
  intro l
  induction l with
  |nil=>intro _ _;trivial
  | cons env r ih=>
   intro hs hl;let⟨hk,⟨L,o,hf,hn,ho,hd⟩,hr⟩:=hl;have hL:L∈X.fs:=hs L (by unfold frs;rw[aij,hf];show agl);let⟨sl,e⟩:=I.base.slot L o ho (I.ok.frf L hL) hL λz=>I.ok.exfs L z hL;show⟨hk,⟨L,_,hf,hn,e,hd⟩,ih (λb hb=>hs b (by unfold frs;rw[aij,hf];show z2f _ hb)) hr⟩
 show all X.outer (λ_ hb=>hb) I.ok.funs
theorem Inv.stack(I:Inv X pins σ H s):s.heap.FunFrames X.base X.stack:=by
 rcases I.ok.stk with e |⟨e,hf⟩
 .rw[e];show I.funs
 .rw[e];let⟨m,hn,_⟩:=I.loc;show .cons (by rw[I.ok.kind];decide) hf hn ?_ I.funs;show Heap.get?_none_of_le (z0b I.ok.bsz I.ok.above)
theorem Inv.stkSub(I:Inv X pins σ H s):∀b∈frs X.stack,b∈X.env.locals::X.fs:=λb hb=>by
 rcases I.ok.stk with e |⟨e,hf⟩
 .rw[e] at hb;show z2f _ hb
 .rw[e] at hb;unfold frs at hb;rw[aij,hf] at hb;show hb
theorem Inv.stkFree(I:Inv X pins σ H s):∀b∈frs X.stack,H b=none:=λb hb=>by
 rcases af9.mp (I.stkSub b hb) with e |hb
 .rw[e];show I.free
 .let⟨_,o,ho,_⟩:=I.ok.funs.mem hb;show I.base.free b o ho (I.ok.frf b hb) λz=>I.ok.exfs b z hb
theorem Inv.step{g':Array GenState}{d':Drawn}(I:Inv X pins σ H s)
  (hch:∀b∈ch,(b∈X.ex\/X.s₀.heap.objs.size<=b)/\b≠X.env.locals/\(∀x c,X.env.cells.lookup x=some c->c≠b)/\∀p∈X.pn++pins,p.1≠b)
  (keep:∀b o,b≠X.env.locals->b∉X.fs->b∉ch->s.heap.get? b=some o->H b=none->h'.get? b=some o)
  (slot:∀b o,b≠X.env.locals->b∈X.fs->b∉ch->s.heap.get? b=some o->H b=none->∃sl,h'.get? b=some {o with slots:=sl})(free:∀b o,b∉ch->s.heap.get? b=some o->H b=none->H' b=none)
  (there:∀b o,b∉ch->s.heap.get? b=some o->∃o',h'.get? b=some o')
  (tups:∀b xs,H b=some (.tup xs)->H' b=some (.tup xs))(frzs:∀b o u,H b=some (.frz o u)->H' b=some (.frz o u))(tbls:∀b ps,H b=some (.tbl ps)->∃more,H' b=some (.tbl (ps++more)))
  (ns:∀m,s.heap.Ns X.env.locals m->h'.Ns X.env.locals m)(hok:HOk X.prog X.w H' h')(hg:ai3 g'):
  Inv X pins σ H' {s with heap:=h',gens:=g',drawn:=d',toks:=t'}:=by
 have neL:∀b o,X.s₀.heap.get? b=some o->b≠X.env.locals:=λb o e=>agD (z0d (z2c e) I.ok.above);have neC:∀b o,X.s₀.heap.get? b=some o->b∉X.ex->b∉ch:=λb o e hx hb=>by
  rcases (hch b hb).1 with z |z
  .show hx z
  .show absurd (z0d (z2c e) z) (agS _)
 have cellK:∀x c,X.env.cells.lookup x=some c->∀v,s.heap.IsCell c v->h'.IsCell c v:=λx c e v ⟨o,ho,hd⟩=>by
  have nch:c∉ch:=λz=>(hch c z).2.2.1 x c e rfl;by_cases hc:c∈X.fs
  .let⟨sl,q⟩:=slot c o (I.cne x c e) hc nch ho (I.freeC x c e);show⟨_,q,hd⟩
  .show⟨o,keep c o (I.cne x c e) hc nch ho (I.freeC x c e),hd⟩
 show⟨I.ok,I.os,hg,⟨λb o e n hb hx=>?_,λb o e n hb hx=>?_,λb o e n hx=>?_,λb o e hx=>?_,λb xs e=>tups b xs (I.base.tups b xs e),λb o xs e=>frzs b o xs (I.base.frzs b o xs e),λb ps e=>?_⟩,?_,λx c e=>?_,?_,λx c e=>?_,λp hp=>?_,hok,I.len⟩
 .show keep b o (neL b o e) hb (neC b o e hx) (I.base.keep b o e n hb hx) (I.base.free b o e n hx)
 .let⟨sl,e1⟩:=I.base.slot b o e n hb hx;let⟨sl',e2⟩:=slot b _ (neL b o e) hb (neC b o e hx) e1 (I.base.free b o e n hx);show⟨sl',e2⟩
 .let⟨o',e1⟩:=I.base.there b o e hx;show free b o' (neC b o e hx) e1 (I.base.free b o e n hx)
 .let⟨o',e1⟩:=I.base.there b o e hx;show there b o' (neC b o e hx) e1
 .let⟨m1,e1⟩:=I.base.tbls b ps e;let⟨m2,e2⟩:=tbls b _ e1;show⟨m1++m2,by rw[e2,Array.append_assoc]⟩
 .let⟨m,hn,hl⟩:=I.loc;show⟨m,ns m hn,λi x v e1 e2 e3=>?_⟩;let⟨u,r,l⟩:=hl i x v e1 e2 e3;show⟨u,r,?_⟩;rcases l with l |⟨k,c,e,z⟩
  .show .inl l
  .show .inr ⟨k,c,e,cellK x c e _ z⟩
 .let⟨v,z⟩:=I.cell x c e;show⟨v,cellK x c e v z⟩
 .let⟨m,⟨o,_,_,ho,_⟩,_⟩:=I.loc;show free _ o (λz=>(hch _ z).2.1 rfl) ho I.free
 .let⟨v,o,ho,hd⟩:=I.cell x c e;show free c o (λz=>(hch c z).2.2.1 x c e rfl) ho (I.freeC x c e)
 .let⟨e,n,ne,nf,d⟩:=I.pin p hp;have nch:p.1∉ch:=λz=>(hch p.1 z).2.2.2 p hp rfl;show⟨keep p.1 p.2 ne nf nch e n,free p.1 p.2 nch e n,ne,nf,d⟩
theorem Inv.un(I:Inv X pins σ H s)(u:Un X.fs [] H H' s.heap h')(hok:HOk X.prog X.w H' h'):Inv X pins σ H' {s with heap:=h',toks:=t'}:=by
 let⟨m,⟨o,es,ep,ho,r⟩,_⟩:=id I.loc;let⟨sl,hL⟩:=u.any ho I.free ();show I.step (g':=s.gens) (d':=s.drawn) (ch:=[]) (λ_ z=>nomatch z) (λb o _ hb _ e n=>u.keep b o e n hb ()) (λb o _ hb _ e n=>u.slot b o e n hb ()) (λb o _ e n=>u.free b o e n ()) (λb o _ e=>u.there b o e ()) u.tups u.frzs u.tbls (λm' hm=>by
  let⟨o',es',ep',ho',r'⟩:=hm;rw[ho] at ho';cases ho';show⟨_,es',ep',hL,r'⟩) hok I.bare
theorem Inv.call{g':Array GenState}{d':Drawn}(I:Inv X pins σ H s)(u:Un (frs X.stack) ch H H' s.heap h')(hok:HOk X.prog X.w H' h')(hg:ai3 g')
  (hch:∀b∈ch,(b∈X.ex\/X.s₀.heap.objs.size<=b)/\b≠X.env.locals/\(∀x c,X.env.cells.lookup x=some c->c≠b)/\∀p∈X.pn++pins,p.1≠b):
  Inv X pins σ H' {s with heap:=h',gens:=g',drawn:=d',toks:=t'}:=by
 let⟨m,⟨o,es,ep,ho,r⟩,_⟩:=id I.loc;let⟨sl,hL⟩:=u.any ho I.free λz=>(hch _ z).2.1 rfl;show I.step (ch:=ch) hch (λb o hL hb hc e n=>u.keep b o e n (λz=>(af9.mp (I.stkSub b z)).elim hL hb) hc) (λb o _ _ hc e n=>u.any e n hc) (λb o hc e n=>u.free b o e n hc) (λb o hc e=>u.there b o e hc) u.tups u.frzs u.tbls (λm' hm=>by
  let⟨o',es',ep',ho',r'⟩:=hm;rw[ho] at ho';cases ho';show⟨_,es',ep',hL,r'⟩) hok hg
theorem Inv.turned{it:afK}(I:Inv X pins σ H s)(k:∀b o,b≠it->s.heap.get? b=some o->h'.get? b=some o)(hn:H it=none)(hL:it≠X.env.locals)
  (h1:it∈X.ex\/X.s₀.heap.objs.size<=it)(h2:∀x c,X.env.cells.lookup x=some c->c≠it)(h3:∀p∈X.pn++pins,p.1≠it):Inv X pins σ H {s with heap:=h',toks:=t'}:=by
 have nit:∀b u,H b=some u->b≠it:=λb u e z=>by rw[z,hn] at e;cases e
 show I.step (g':=s.gens) (d':=s.drawn) (ch:=[it]) (λb hb=>?_) (λb o _ _ hc e _=>k b o (λz=>hc (by simp[z])) e) (λb o _ _ hc e _=>⟨o.slots,k b o (λz=>hc (by simp[z])) e⟩) (λ_ _ _ _ n=>n)
  (λb o hc e=>⟨o,k b o (λz=>hc (by simp[z])) e⟩) (λ_ _ e=>e) (λ_ _ _ e=>e) (λb ps e=>⟨#[],by rw[e];simp⟩) (λm hm=>?_) (λb u e=>?_) I.bare
 .have e:b=it:=by simpa using hb
  subst e;show⟨h1,hL,h2,h3⟩
 .let⟨o,es,ep,ho,r⟩:=hm;show⟨o,es,ep,k _ o (afT hL) ho,r⟩
 .show (I.hok b u e).stay (λc v hc q=>k c v ?_ q) (λ_ q=>q) (λ_ _ q=>q) λ_ _ _ _ q=>q;rcases hc with z |z
  .rw[z];show nit b u e
  .show nit c _ z
theorem Inv.tok(I:Inv X pins σ H s)(t:Nat):Inv X pins σ H {s with toks:=t}:=I.un (h':=s.heap) (t':=t) Un.refl I.hok
theorem Inv.kept(I:Inv X pins σ H s)(k:∀b u,s.heap.get? b=some u->h'.get? b=some u):Inv X pins σ H {s with heap:=h',toks:=t'}:=I.un (Un.kept k) (I.hok.kept k)
theorem Inv.laid{a:afK}(I:Inv X pins σ H s)(k:∀b u,s.heap.get? b=some u->h'.get? b=some u)(hp:s.heap.objs.size<=a)(new:ObjOk X.prog X.w (upd H a o) h' a o):
  Inv X pins σ (upd H a o) {s with heap:=h',toks:=t'}:=I.un (Un.laid k hp (I.hok.fresh hp)) (I.hok.laid k hp new)
theorem Inv.write{x e:afK}(I:Inv X pins σ H s)(mu:Mut (H x))(he:e=x\/H e=some (.own x))(k:∀b u,b≠e->s.heap.get? b=some u->h'.get? b=some u)(heo:∃u,h'.get? e=some u)
  (new:ObjOk X.prog X.w (upd H x o) h' x o):Inv X pins σ (upd H x o) {s with heap:=h',toks:=t'}:=I.un (Un.write mu he k heo) (I.hok.write mu he k heo new)
theorem Inv.pins_of{pins':List (afK×Obj)}(I:Inv X pins σ H s)(h:∀p∈pins',s.heap.get? p.1=some p.2/\H p.1=none/\p.1≠X.env.locals/\p.1∉X.fs/\∀v,p.2.data≠.cell v):Inv X pins' σ H s:=
 ⟨I.ok,I.os,I.bare,I.base,I.loc,I.cell,I.free,I.freeC,λp hp=>(aiR.mp hp).elim (λz=>I.pin p (ajz _ z)) (h p),I.hok,I.len⟩
theorem nodup_ix(hN:N.Nodup){i j:Nat}{x:Str}(a:N[i]?=some x)(b:N[j]?=some x):i=j:=by
 let⟨h1,e1⟩:=z1b a;let⟨h2,e2⟩:=z1b b;show (aks hN).mp (e1.trans e2.symm)
theorem store_ok2{i:Nat}{x:Str}{v:V}{u:afL}{Q:Unit->afN->Prop}(I:Inv X pins σ H s)(hN:X.N.Nodup)(hi:X.N[i]?=some x)(hx:Loc X.env.scope x)(r:RelV v u)
  (h:∀s',Inv X pins (σ.set i (some v)) H s'->(∃a,ahb a s.heap s'.heap/\(a=X.env.locals\/X.env.cells.lookup x=some a))->Q Unit.unit s')(hf:X.fn x=true\/X.env.scope.names.lookup x=some .local:=by first |show .inl rfl |show .inr rfl |assumption):afS M A (ahB X.env x u) Q E s:=by
 let⟨m,hn,hl⟩:=id I.loc;have hcls:(X.env.scope.kind == .class || (X.env.scope.kind == .module && X.env.locals !=X.env.globals))=false:=by rw[I.ok.kind];rfl
 have hiσ:i<σ.length:=by rw[I.len];show (z1b hi).1
 have cne:=I.cne;have tracked:∀{a:afK} {h':af2},(∃o,s.heap.get? a=some o/\H a=none)->ahb a s.heap h'->HOk X.prog X.w H h':=λ{a h'} ha hs b ob e=>by
  let⟨_,_,hfree⟩:=ha;show (I.hok b ob e).stay (λc w' hc q=>(hs.2 c ?_).trans q) (λ_ q=>q) (λ_ _ q=>q) λ_ _ _ _ q=>q
  rintro rfl
  rcases hc with rfl |hc
  .rw[hfree] at e;cases e
  .rw[hfree] at hc;cases hc
 rcases hx with hk |hk
 .show wpAny_storeName_local hk hn (λh' hn' hs=>?_) hcls;let⟨oL,_,_,hoL,_⟩:=id hn;show h _ ⟨I.ok,I.os,I.bare,⟨λb o e n hb hx=>?_,λb o e n hb hx=>?_,I.base.free,λb o e hx=>?_,I.base.tups,I.base.frzs,I.base.tbls⟩,⟨_,hn',λj y v' e1 e2 e3=>?_⟩,λy c e=>?_,I.free,I.freeC,λp hp=>?_,tracked ⟨oL,hoL,I.free⟩ hs,by simpa using I.len⟩ ⟨_,hs,.inl rfl⟩
  .show (hs.2 b (agD (z0d (z2c e) I.ok.above))).trans (I.base.keep b o e n hb hx)
  .let⟨sl,e1⟩:=I.base.slot b o e n hb hx;show⟨sl,(hs.2 b (agD (z0d (z2c e) I.ok.above))).trans e1⟩
  .let⟨o',e1⟩:=I.base.there b o e hx;show⟨o',(hs.2 b (agD (z0d (z2c e) I.ok.above))).trans e1⟩
  .by_cases hj:j=i
   .subst hj;rw[hi] at e1;cases e1;rw[z2a hiσ] at e2;cases e2;show⟨u,r,.inl ⟨hk,()⟩⟩
   .rw[z1e (afT hj)] at e2;let⟨u',r',q⟩:=hl j y v' e1 e2 e3;show⟨u',r',?_⟩;rcases q with⟨k,e⟩ |⟨k,c,e,z⟩
    .show .inl ⟨k,?_⟩;have:y≠x:=λe=>hj (nodup_ix hN e1 (e▸hi));simp[this,e]
    .show .inr ⟨k,c,e,z.sameBut hs (cne y c e)⟩
  .let⟨w',z⟩:=I.cell y c e;show⟨w',z.sameBut hs (cne y c e)⟩
  .let⟨e,n,ne,nf,d⟩:=I.pin p hp;show⟨(hs.2 p.1 ne).trans e,n,ne,nf,d⟩
 .have hfn:X.fn x=true:=by
   rcases hf with z |z
   .show z
   .rw[z] at hk;cases hk
  let⟨c,hc⟩:=I.ok.has x (.inl hk);let⟨w',z⟩:=I.cell x c hc;show wpAny_storeName_cell I.ok.kind hk hc z (λh' hc' hs=>?_);let⟨oc,hoc,hocd⟩:=id z;show h {s with heap:=h'} ⟨I.ok,I.os,I.bare,⟨λb o e n hb hx=>?_,λb o e n hb hx=>?_,I.base.free,λb o e hx=>?_,I.base.tups,I.base.frzs,I.base.tbls⟩,⟨m,hn.sameBut hs (afT (cne x c hc)),λj y v' e1 e2 e3=>?_⟩,λy c' e=>?_,I.free,I.freeC,λp hp=>?_,tracked ⟨oc,hoc,I.freeC x c hc⟩ hs,by simpa using I.len⟩ ⟨c,hs,.inr hc⟩
  .show (hs.2 b (agD (z0d (z2c e) (I.ok.cab x c hfn hc)))).trans (I.base.keep b o e n hb hx)
  .let⟨sl,e1⟩:=I.base.slot b o e n hb hx;show⟨sl,(hs.2 b (agD (z0d (z2c e) (I.ok.cab x c hfn hc)))).trans e1⟩
  .let⟨o',e1⟩:=I.base.there b o e hx;show⟨o',(hs.2 b (agD (z0d (z2c e) (I.ok.cab x c hfn hc)))).trans e1⟩
  .by_cases hj:j=i
   .subst hj;rw[hi] at e1;cases e1;rw[z2a hiσ] at e2;cases e2;show⟨u,r,.inr ⟨.inl hk,c,hc,hc'⟩⟩
   .rw[z1e (afT hj)] at e2;let⟨u',r',q⟩:=hl j y v' e1 e2 e3;show⟨u',r',?_⟩;rcases q with q |⟨k,c',e,z'⟩
    .show .inl q
    .show .inr ⟨k,c',e,z'.sameBut hs ?_⟩
     rintro rfl
     show hj (nodup_ix hN e1 (I.ok.inj _ _ _ e hc▸hi))
  .by_cases hcc:c'=c
   .subst hcc;show⟨_,hc'⟩
   .let⟨w2,z2⟩:=I.cell y c' e;show⟨w2,z2.sameBut hs hcc⟩
  .let⟨e,n,ne,nf,d⟩:=I.pin p hp;show⟨(hs.2 p.1 ?_).trans e,n,ne,nf,d⟩;intro q;rw[q,hoc] at e;have q':oc=p.2:=agb e;show d w' (by rw[<-q'];show hocd)
theorem store_ok{i:Nat}{x:Str}{v:V}{u:afL}{Q:Unit->afN->Prop}(I:Inv X pins σ H s)(hN:X.N.Nodup)(hi:X.N[i]?=some x)(hx:Loc X.env.scope x)(r:RelV v u)
  (h:∀s',Inv X pins (σ.set i (some v)) H s'->Q Unit.unit s')(hf:X.fn x=true\/X.env.scope.names.lookup x=some .local:=by first |show .inl rfl |show .inr rfl |assumption):afS M A (ahB X.env x u) Q E s:=
 store_ok2 I hN hi hx r (λs' I' _=>h s' I') hf
theorem Inv.call'{s':afN}(I:Inv X pins σ H s)(ho:s'.os=s.os)(u:Un (frs X.stack) ch H H' s.heap s'.heap)(hok:HOk X.prog X.w H' s'.heap)(hg:ai3 s'.gens)
  (hch:∀b∈ch,(b∈X.ex\/X.s₀.heap.objs.size<=b)/\b≠X.env.locals/\(∀x c,X.env.cells.lookup x=some c->c≠b)/\∀p∈X.pn++pins,p.1≠b):Inv X pins σ H' s':=by
 let⟨h',g',d',t',o'⟩:=s';have e:o'=s.os:=ho;subst e;show I.call (g':=g') (t':=t') (d':=d') u hok hg hch
end
abbrev XK:=afL->Option afK->Hp->Prop
abbrev St:=List (Option V)
abbrev VK:=V->Hp->Prop
abbrev TE:=St->Hp->VK->Prop
abbrev TT:=St->Hp->(Bool->Hp->Prop)->Prop
abbrev TA:=St->Hp->(List V->Hp->Prop)->Prop
structure Ends where
 nx:St->Hp->Prop
 rt:VK
 bk:St->Hp->Prop:=λ_ _=>False
 ct:St->Hp->Prop:=λ_ _=>False
abbrev TS:=Ends->St->Hp->Prop
inductive EP (X:Cx) (pins:List (afK×Obj)) (σ:St) (Q:VK) (u:afL) (s':afN):Prop
 |mk (v:V) (H':Hp) (I:Inv X pins σ H' s') (r:RelV v u) (q:Q v H'):EP X pins σ Q u s'
inductive TP (X:Cx) (pins:List (afK×Obj)) (σ:St) (Q:Bool->Hp->Prop) (b:Bool) (s':afN):Prop
 |mk (H':Hp) (I:Inv X pins σ H' s') (q:Q b H'):TP X pins σ Q b s'
inductive AP (X:Cx) (pins:List (afK×Obj)) (σ:St) (Q:List V->Hp->Prop) (us:List afL) (s':afN):Prop
 |mk (vs:List V) (H':Hp) (I:Inv X pins σ H' s') (r:Vals vs us) (q:Q vs H'):AP X pins σ Q us s'
inductive U0 (X:Cx) (pins:List (afK×Obj)) (D:St->Hp->Prop) (s':afN):Prop
 |mk (σ':St) (H':Hp) (I:Inv X pins σ' H' s') (d:D σ' H'):U0 X pins D s'
inductive SPr (X:Cx) (pins:List (afK×Obj)) (D:V->Hp->Prop) (u:afL) (s':afN):Prop
 |mk (v:V) (σ':St) (H':Hp) (I:Inv X pins σ' H' s') (r:RelV v u) (d:D v H'):SPr X pins D u s'
def SP(X:Cx)(pins:List (afK×Obj))(D:Ends)(f:Flow)(s':afN):Prop:=
 match f with
 | .next=>U0 X pins D.nx s'
 | .brk=>U0 X pins D.bk s'
 | .cont=>U0 X pins D.ct s'
 | .ret u=>SPr X pins D.rt u s'
def PE(X:Cx)(e:afV)(t:TE):Prop:=
 ∀(pins:List (afK×Obj)) (s:afN) (σ:St) (H:Hp) (Q:VK),Inv X pins σ H s->t σ H Q->afS (model X.prog X.w) X.A (eval e X.env) (EP X pins σ Q) X.xe s
def PT(X:Cx)(e:afV)(t:TT):Prop:=
 ∀(pins:List (afK×Obj)) (s:afN) (σ:St) (H:Hp) (Q:Bool->Hp->Prop),Inv X pins σ H s->t σ H Q->afS (model X.prog X.w) X.A (isTrue e X.env (eval e X.env)) (TP X pins σ Q) X.xe s
def PW(X:Cx)(e:afV)(t:TT):Prop:=
 ∀(whole:Sem afL) (pins:List (afK×Obj)) (s:afN) (σ:St) (H:Hp) (Q:Bool->Hp->Prop),Inv X pins σ H s->t σ H Q->afS (model X.prog X.w) X.A (isTrue e X.env whole) (TP X pins σ Q) X.xe s
def PA(X:Cx)(es:List afV)(t:TA):Prop:=
 ∀(pos:Pos) (pins:List (afK×Obj)) (s:afN) (σ:St) (H:Hp) (Q:List V->Hp->Prop),Inv X pins σ H s->t σ H Q->afS (model X.prog X.w) X.A (spliced (ago pos (afP es X.env))) (AP X pins σ Q) X.xe s
def PS(X:Cx)(st:af7)(t:TS):Prop:=
 ∀(pins:List (afK×Obj)) (s:afN) (σ:St) (H:Hp) (D:Ends),Inv X pins σ H s->t D σ H->afS (model X.prog X.w) X.A (exec st X.env) (SP X pins D) X.xe s
def PSs(X:Cx)(st:List af7)(t:TS):Prop:=
 ∀(pins:List (afK×Obj)) (s:afN) (σ:St) (H:Hp) (D:Ends),Inv X pins σ H s->t D σ H->afS (model X.prog X.w) X.A (execs st X.env) (SP X pins D) X.xe s
theorem thn{α:Type}{t:Sem α}{Q Q':α->afN->Prop}(h:afS M A t Q E s)(hQ:∀a s,Q a s->Q' a s):afS M A t Q' E s:=agL h hQ λ_ _ x=>x
section
variable{X:Cx}
theorem bin{a b:afV}{ta tb:TE}(ha:PE X a ta)(hb:PE X b tb){R:V->V->Hp->Prop}(I:Inv X pins σ H s)(h:ta σ H λx H1=>tb σ H1 λy H2=>R x y H2)
  {α:Type}{Q:α->afN->Prop}{f:afL->afL->Sem α}
  (hf:∀v u s2 x y H2,Inv X pins σ H2 s2->RelV x v->RelV y u->R x y H2->afS (model X.prog X.w) X.A (f v u) Q X.xe s2):
  afS (model X.prog X.w) X.A (eval a X.env) (λv s₁=>afS (model X.prog X.w) X.A (eval b X.env) (λu s₂=>afS (model X.prog X.w) X.A (f v u) Q X.xe s₂) X.xe s₁) X.xe s:=by
 show thn (ha pins s σ H _ I h) λv s1 bB=>?_;let⟨x,H1,I1,r1,q1⟩:=bB;show thn (hb pins s1 σ H1 _ I1 q1) λu s2 bB=>?_;let⟨y,H2,I2,r2,q2⟩:=bB;show hf v u s2 x y H2 I2 r1 r2 q2
def tVar(i:Nat):TE:=λσ H Q=>∃v,σ[i]?=some (some v)/\Q v H
def tC(v:V):TE:=λ_ H Q=>Q v H
theorem pe_var{i:Nat}{x:Str}{pos:Pos}(hN:X.N[i]?=some x)(hv:Vis X.env.scope x)(hd:(x ==("__debug__" :Str))=false:=by decide)(hcd:(x ==("__classdict__" :Str))=false:=by decide):PE X (.Name x pos) (tVar i):=by
 intro pins s σ H Q I h;let⟨v,e,h⟩:=h;let⟨m,hn,hl⟩:=I.loc;let⟨u,r,l⟩:=hl i x v hN e hv;have fin:EP X pins σ Q u s:=⟨v,H,I,r,h⟩;rcases l with⟨hk,hm⟩ |⟨hk,c,hc,hcell⟩
 .show wpAny_Name (wpAny_loadName_local I.ok.kind hk hn hm fin) hd
 .rcases hk with hk |hk
  .show wpAny_Name (wpAny_loadName_cell I.ok.kind hk hc hcell fin) hd
  .show wpAny_Name (wpAny_loadName_free I.ok.kind hk hc hcell fin hcd) hd
theorem pe_int{i j pos}:PE X (.Constant (.int i) j pos) (tC (.int i)):=λ_ _ _ H _ I h=>wpAny_Constant_int ⟨.int i,H,I.tok _,⟨_,rfl⟩,h⟩
theorem pe_bl{b j pos}:PE X (.Constant (.bool b) j pos) (tC (.bl b)):=λ_ _ _ H _ I h=>Constant_bool ⟨.bl b,H,I,rfl,h⟩
theorem pe_non{j pos}:PE X (.Constant .none j pos) (tC .non):=λ_ _ _ H _ I h=>Constant_none ⟨.non,H,I,rfl,h⟩
theorem pe_str{x j pos}:PE X (.Constant (.str x) j pos) (tC (.str x)):=λ_ _ _ H _ I h=>Calls.Constant_str ⟨.str x,H,I.tok _,⟨_,rfl⟩,h⟩
def Gl(X:Cx)(x:Str):Prop:=X.env.kindOf x=some .globalImplicit
theorem ld_glob{x:Str}{u:afL}{pos:Pos}(I:Inv X pins σ H s)(hg:Gl X x)(hm:X.mg x=some u)(h:Q u s)
  (hd:(x ==("__debug__" :Str))=false:=by decide):afS (model X.prog X.w) X.A (eval (.Name x pos) X.env) Q E s:=
 aj3 I.ok.kind hg (Calls.loadGlobal_global (by rw[I.ok.glob];show I.mod.glob.keeps I.bk) hm h) hd
theorem ld_blt{x:Str}{u:afL}{pos:Pos}(I:Inv X pins σ H s)(hg:Gl X x)(hm:X.mg x=none)(hv:ahv x=some u)(h:Q u s)
  (hn:x≠"__name__" :=by decide)(hd:(x ==("__debug__" :Str))=false:=by decide):afS (model X.prog X.w) X.A (eval (.Name x pos) X.env) Q E s:=by
 let⟨mb,h1,h2⟩:=I.mod.blt;show aj3 I.ok.kind hg (Calls.loadGlobal_builtin (by rw[I.ok.glob];show I.mod.glob.keeps I.bk) hm (by rw[I.ok.blt];show h1.keeps I.bk) ((h2 x hn).trans hv) h) hd
theorem pe_glob{x:Str}{v:V}{u:afL}{pos:Pos}(hg:Gl X x)(hm:X.mg x=some u)(r:RelV v u)(hd:(x ==("__debug__" :Str))=false:=by decide):PE X (.Name x pos) (tC v):=
 λ_ _ _ H _ I h=>ld_glob I hg hm ⟨v,H,I,r,h⟩ hd
theorem pe_bltn{x:Str}{v:V}{u:afL}{pos:Pos}(hg:Gl X x)(hm:X.mg x=none)(hv:ahv x=some u)(r:RelV v u)(hn:x≠"__name__" :=by decide)(hd:(x ==("__debug__" :Str))=false:=by decide):PE X (.Name x pos) (tC v):=
 λ_ _ _ H _ I h=>ld_blt I hg hm hv ⟨v,H,I,r,h⟩ hn hd
variable{a b:afV}{ta tb:TE}{pos:Pos}
def PC(X:Cx)(op:CmpOp)(a b:afV)(t:TE):Prop:=
 ∀(pins:List (afK×Obj)) (s:afN) (σ:St) (H:Hp) (Q:VK),Inv X pins σ H s->t σ H Q->
  afS (model X.prog X.w) X.A (eval a X.env) (λv s₁=>afS (model X.prog X.w) X.A (eval b X.env) (λu s₂=>afS (model X.prog X.w) X.A (agn op v u) (EP X pins σ Q) X.xe s₂) X.xe s₁) X.xe s
theorem nobehind(b:afV){op:CmpOp}(h:op≠.In)(h2:op≠.NotIn):ahw op b=false:=by
 have e1:(op ==CmpOp.In)=false:=by cases op <;> first |rfl |show absurd rfl h
 have e2:(op ==CmpOp.NotIn)=false:=by cases op <;> first |rfl |show absurd rfl h2
 cases b <;> simp[ahw,e1,e2]
def tB(t:TE):TT:=λσ H Q=>t σ H λx H1=>∃c,x= .bl c/\Q c H1
theorem pt_cmp{op:CmpOp}{t:TE}(h:PC X op a b t)(h1:ahw op b=false:=by first |show nobehind _ {} {} |rfl):PT X (.Compare a [op] [b] pos) (tB t):=by
 intro pins s σ H Q I hw;show wpAny_isTrue_Compare1 (thn (h pins s σ H _ I hw) λv s1 h1=>thn h1 λu s2 h2=>thn h2 λc s3 ⟨x,H1,I1,r1,q1⟩=>?_) h1;let⟨d,rfl,q⟩:=q1;cases r1;show ag2 ⟨H1,I1,q⟩
theorem pt_val{t:TE}(h:PE X e t)(he:∀whole,isTrue e X.env whole=(do let v <-whole;aix e.pos;holding [v] (truthy v)):=by intro _;rfl):PT X e (tB t):=by
 intro pins s σ H Q I hw;show isTrue_plain (thn (h pins s σ H _ I hw) λv s1 ⟨x,H1,I1,r1,q1⟩=>?_) (he _);let⟨d,rfl,q⟩:=q1;cases r1;show ag2 ⟨H1,I1,q⟩
variable{tA tB':TT}{rest:List afV}
def tAnd(t u:TT):TT:=λσ H Q=>t σ H λc H1=>if c=true then u σ H1 Q else Q false H1
def tOr(t u:TT):TT:=λσ H Q=>t σ H λc H1=>if c=true then Q true H1 else u σ H1 Q
def tNot(t:TT):TT:=λσ H Q=>t σ H λc H1=>Q (!c) H1
theorem pw_and1(ha:PT X a tA):PW X (.BoolOp .And [a] pos) tA:=by
 intro wh pins s σ H Q I h;show isTrue_and (thn (ha pins s σ H Q I h) λc s1 e=>?_);cases c with
 |true=>show isTrue_and_nil e
 |false=>show e
theorem pw_or1(ha:PT X a tA):PW X (.BoolOp .Or [a] pos) tA:=by
 intro wh pins s σ H Q I h;show isTrue_or (thn (ha pins s σ H Q I h) λc s1 e=>?_);cases c with
 |false=>show isTrue_or_nil e
 |true=>show e
theorem pw_and(ha:PT X a tA)(hb:PW X (.BoolOp .And (b::rest) pos) tB'):PW X (.BoolOp .And (a::b::rest) pos) (tAnd tA tB'):=by
 intro wh pins s σ H Q I h;show isTrue_and (thn (ha pins s σ H _ I h) λc s1 bB=>?_);let⟨H1,I1,q1⟩:=bB;cases c with
 |true=>show hb wh pins s1 σ H1 Q I1 q1
 |false=>show⟨H1,I1,q1⟩
theorem pw_or(ha:PT X a tA)(hb:PW X (.BoolOp .Or (b::rest) pos) tB'):PW X (.BoolOp .Or (a::b::rest) pos) (tOr tA tB'):=by
 intro wh pins s σ H Q I h;show isTrue_or (thn (ha pins s σ H _ I h) λc s1 bB=>?_);let⟨H1,I1,q1⟩:=bB;cases c with
 |true=>show⟨H1,I1,q1⟩
 |false=>show hb wh pins s1 σ H1 Q I1 q1
theorem pt_not(ha:PT X a tA):PT X (.UnaryOp .Not a pos) (tNot tA):=by
 intro pins s σ H Q I h;show isTrue_not (thn (ha pins s σ H (λc H1=>Q (!c) H1) I h) λc s1 hz=>?_);let⟨H1,I1,q1⟩:=hz;show⟨H1,I1,q1⟩
def tAndV(ta tb:TE):TE:=λσ H Q=>ta σ H λx H1=>∃c,x= .bl c/\if c=true then tb σ H1 Q else Q (.bl false) H1
def tNotV(ta:TE):TE:=λσ H Q=>ta σ H λx H1=>∃c,x= .bl c/\Q (.bl (!c)) H1
theorem pe_one{op}{t:TE}(h:PE X a t):PE X (.BoolOp op [a] pos) t:=λpins s σ H Q I hw=>BoolOp_one (h pins s σ H Q I hw)
theorem pe_and(ha:PE X a ta)(hb:PE X (.BoolOp .And (b::rest) pos) tb):PE X (.BoolOp .And (a::b::rest) pos) (tAndV ta tb):=by
 intro pins s σ H Q I h;show BoolOp_and (thn (ha pins s σ H _ I h) λv s1 bB=>?_);let⟨x,H1,I1,r1,q1⟩:=bB;let⟨c,rfl,q1⟩:=q1;cases r1;show ag2 ?_;cases c with
 |true=>show hb pins s1 σ H1 Q I1 q1
 |false=>show⟨.bl false,H1,I1,rfl,q1⟩
theorem pe_not(ha:PE X a ta):PE X (.UnaryOp .Not a pos) (tNotV ta):=by
 intro pins s σ H Q I h;show UnaryOp_ (thn (ha pins s σ H _ I h) λv s1 bB=>?_);let⟨x,H1,I1,r1,q1⟩:=bB;let⟨c,rfl,q1⟩:=q1;cases r1;show not_of (ag2 ⟨.bl (!c),H1,I1,rfl,q1⟩)
def tIf(t:TT)(ta tb:TE):TE:=λσ H Q=>t σ H λc H1=>if c=true then ta σ H1 Q else tb σ H1 Q
theorem pe_ifExp{c:afV}(hc:PT X c tA)(ha:PE X a ta)(hb:PE X b tb):PE X (.IfExp c a b pos) (tIf tA ta tb):=by
 intro pins s σ H Q I h;show wpAny_IfExp (thn (hc pins s σ H _ I h) λd s1 bB=>?_);let⟨H1,I1,q1⟩:=bB;cases d with
 |true=>show ha pins s1 σ H1 Q I1 q1
 |false=>show hb pins s1 σ H1 Q I1 q1
end
def SqL(K:afM)(H:Hp)(a:afK)(xs:List V):Prop:=
 Rd H a (.lst xs)\/
  ∃(o:Obj) (its:Array afL) (n:Nat),K.lookup a=some o/\o.cls= .type "list"/\o.dict=none/\o.data= .seq its n/\its.size<=sizeLine/\Vals xs its.toList
def SqT(K:afM)(H:Hp)(a:afK)(xs:List V):Prop:=
 Rd H a (.tup xs)\/
  ∃(o:Obj) (its:Array afL) (n:Nat),K.lookup a=some o/\o.cls= .type "tuple"/\o.dict=none/\o.data= .seq its n/\its.size<=sizeLine/\Vals xs its.toList
def absV:afL->Option V
 | .none=>some .non
 | .bool b=>some (.bl b)
 | .int i _=>some (.int i)
 | .str x _=>some (.str x)
 | .bytes b _=>some (.byt b)
 | .float b _=>some (.flt b)
 | .ref a=>some (.ref a)
 | .type n=>some (.ty n)
 |_=>none
theorem RelV.abs{x:V}{u:afL}(r:RelV x u):absV u=some x:=by
 cases x with
 |non=>cases r;rfl
 |bl _=>cases r;rfl
 |int _=>let⟨t,rfl⟩:=r;rfl
 |str _=>let⟨t,rfl⟩:=r;rfl
 |byt _=>let⟨t,rfl⟩:=r;rfl
 |flt _=>let⟨t,rfl⟩:=r;rfl
 |ref _=>cases r;rfl
 |ty _=>cases r;rfl
theorem RelV.inj{x y:V}{u:afL}(r:RelV x u)(q:RelV y u):x=y:=agb (r.abs.symm.trans q.abs)
theorem Vals.inj:∀{xs ys:List V} {us:List afL},Vals xs us->Vals ys us->xs=ys
 :=by
 intro xs ys us h
 induction h generalizing ys with
 |nil=>intro q;cases q;rfl
 |cons r t ih=>intro q;cases q with |cons r' t'=>rw[r.inj r',ih t']
section
variable{X:Cx}{pins:List (afK×Obj)}{σ:St}{H:Hp}{s:afN}{a:afK}{xs ys:List V}
theorem SqL.of(h:H a=some (.lst xs)):SqL K H a xs:= .inl (.inl h)
theorem SqT.of(h:H a=some (.tup xs)):SqT K H a xs:= .inl (.inl h)
theorem Inv.list(I:Inv X pins σ H s)(h:SqL X.K H a xs):∃its:List afL,Vals xs its/\PlainL s.heap a its.toArray/\xs.length<=sizeLine:=by
 rcases h with h |⟨o,its,n,hk,hc,hd,hs,hz,r⟩
 .let⟨z,its,n,r,e⟩:=h.ok I.hok;show⟨its,r,⟨_,n,e,rfl,rfl,rfl⟩,z⟩
 .show⟨its.toList,r,⟨o,n,I.kIn a o hk,hc,hd,by simpa using hs⟩,?_⟩;have e:=r.length;simp only[ahM] at e;omega
theorem Inv.tuple(I:Inv X pins σ H s)(h:SqT X.K H a xs):∃its:List afL,Vals xs its/\IsTup s.heap a its.toArray/\xs.length<=sizeLine:=by
 rcases h with h |⟨o,its,n,hk,hc,_,hs,hz,r⟩
 .let⟨z,its,r,p⟩:=h.ok I.hok;show⟨its,r,p.tup,z⟩
 .show⟨its.toList,r,⟨o,I.kIn a o hk,hc,n,by simpa using hs⟩,?_⟩;have e:=r.length;simp only[ahM] at e;omega
theorem Inv.list_inj(I:Inv X pins σ H s)(h:SqL X.K H a xs)(h':SqL X.K H a ys):xs=ys:=by
 let⟨its,r,⟨o,n,e,_,_,d⟩,_⟩:=I.list h;let⟨its',r',⟨o',n',e',_,_,d'⟩,_⟩:=I.list h';rw[e] at e';cases e';rw[d] at d';injection d' with d1 _;have:its=its':=by simpa using congrArg Array.toList d1
 subst this;show r.inj r'
theorem Inv.tuple_inj(I:Inv X pins σ H s)(h:SqT X.K H a xs)(h':SqT X.K H a ys):xs=ys:=by
 let⟨its,r,⟨o,e,_,n,d⟩,_⟩:=I.tuple h;let⟨its',r',⟨o',e',_,n',d'⟩,_⟩:=I.tuple h';rw[e] at e';cases e';rw[d] at d';injection d' with d1 _;have:its=its':=by simpa using congrArg Array.toList d1
 subst this;show r.inj r'
end
abbrev Cx.wish(X:Cx)(E:afL->afN->Prop):Cx:={X with xe:=E}
abbrev Cx.nox(X:Cx):Cx:=X.wish λ_ _=>False
theorem Cx.Ok.wish{X:Cx}(ok:X.Ok)(E:afL->afN->Prop):(X.wish E).Ok:=
 ⟨ok.mod,ok.kind,ok.glob,ok.blt,ok.above,ok.inj,ok.has,ok.cab,ok.hd,ok.frames,ok.stk,ok.exf,ok.bs,ok.bsz,ok.noex,ok.exfs,ok.funs,ok.frf⟩
theorem Cx.Ok.unwish{X:Cx}(ok:(X.wish E).Ok):X.Ok:=
 ⟨ok.mod,ok.kind,ok.glob,ok.blt,ok.above,ok.inj,ok.has,ok.cab,ok.hd,ok.frames,ok.stk,ok.exf,ok.bs,ok.bsz,ok.noex,ok.exfs,ok.funs,ok.frf⟩
section
variable{X:Cx}{pins:List (afK×Obj)}{σ:St}{H:Hp}{s:afN}{E:afL->afN->Prop}
theorem Inv.wish(I:Inv X pins σ H s)(E:afL->afN->Prop):Inv (X.wish E) pins σ H s:=⟨I.ok.wish E,I.os,I.bare,I.base,I.loc,I.cell,I.free,I.freeC,I.pin,I.hok,I.len⟩
theorem Inv.unwish(I:Inv (X.wish E) pins σ H s):Inv X pins σ H s:=⟨I.ok.unwish,I.os,I.bare,I.base,I.loc,I.cell,I.free,I.freeC,I.pin,I.hok,I.len⟩
theorem SP.unwish{D:Ends}{f:Flow}{s':afN}(h:SP (X.wish E) pins D f s'):SP X pins D f s':=by
 cases f with
 |next=>let⟨σ',H',I,q⟩:=h;show⟨σ',H',I.unwish,q⟩
 |brk=>let⟨σ',H',I,q⟩:=h;show⟨σ',H',I.unwish,q⟩
 |cont=>let⟨σ',H',I,q⟩:=h;show⟨σ',H',I.unwish,q⟩
 |ret u=>let⟨v,σ',H',I,r,q⟩:=h;show⟨v,σ',H',I.unwish,r,q⟩
theorem PSs.nox{st:List af7}{t:TS}(h:PSs X.nox st t):PSs X st t:=λpins s σ H D I hw=>
 agL (h pins s σ H D (I.wish _) hw) (λ_ _ q=>q.unwish) λ_ _ z=>agm z
end
section
variable{X:Cx}{st:af7}{rest:List af7}{t u:TS}{e:afV}{te:TE}{pos:Pos}
def tNext:TS:=λD σ H=>D.nx σ H
def tSeq(t u:TS):TS:=λD σ H=>t {D with nx:=u D} σ H
theorem pss_nil:PSs X [] tNext:=λ_ _ σ H _ I h=>aiS ⟨σ,H,I,h⟩
theorem pss_cons(h1:PS X st t)(h2:PSs X rest u):PSs X (st::rest) (tSeq t u):=by
 intro pins s σ H D I h;show wpAny_execs_cons (thn (h1 pins s σ H {D with nx:=u D} I h) λf s1 q=>?_);cases f with
 | next=>
  let⟨σ',H',I',q⟩:=q;show h2 pins s1 σ' H' D I' q
 |ret v=>show q
 |brk=>show q
 |cont=>show q
theorem pss_one(h1:PS X st t):PSs X [st] t:=by
 intro pins s σ H D I h;show wpAny_execs_cons (thn (h1 pins s σ H D I h) λf s1 q=>?_);cases f with
 |next=>show aiS q
 |ret v=>show q
 |brk=>show q
 |cont=>show q
theorem Inv.quiet(I:Inv X pins σ H s):interactive X.env=false:=by simp[interactive,I.ok.kind]
def tDrop(te:TE):TS:=λD σ H=>te σ H λ_ H1=>D.nx σ H1
theorem ps_expr(he:PE X e te)(hs:ag6 e none pos.line X.env=pure false:=by rfl):PS X (.Expr e pos) (tDrop te):=by
 intro pins s σ H D I h;show wpAny_Expr_any (thn (he pins s σ H _ I h) λv s1 ⟨x,H1,I1,r1,q1⟩=>⟨σ,H1,I1,q1⟩) I.quiet hs
def tRet(te:TE):TS:=λD σ H=>te σ H D.rt
theorem ps_ret(he:PE X e te):PS X (.Return (some e) pos) (tRet te):=by
 intro pins s σ H D I h;show wpAny_Return_some (thn (he pins s σ H _ I h) λv s1 ⟨x,H1,I1,r1,q1⟩=>⟨x,σ,H1,I1,r1,q1⟩)
def tIfS(c:TT)(t u:TS):TS:=λD σ H=>c σ H λb H1=>if b=true then t D σ H1 else u D σ H1
theorem ps_if{c:afV}{a b:List af7}{tc:TT}(hc:PT X c tc)(ha:PSs X a t)(hb:PSs X b u):PS X (.If c a b pos) (tIfS tc t u):=by
 intro pins s σ H D I h;show wpAny_If (thn (hc pins s σ H _ I h) λd s1 bB=>?_);let⟨H1,I1,q1⟩:=bB;cases d with
 |true=>show ha pins s1 σ H1 D I1 q1
 |false=>show hb pins s1 σ H1 D I1 q1
end
abbrev TG:=V->St->Hp->(St->Hp->Prop)->Prop
abbrev TGs:=List V->St->Hp->(St->Hp->Prop)->Prop
def PG(X:Cx)(target:afV)(t:TG):Prop:=
 ∀(pins:List (afK×Obj)) (s:afN) (σ:St) (H:Hp) (v:V) (u:afL) (Q:St->Hp->Prop),Inv X pins σ H s->RelV v u->t v σ H Q->
  afS (model X.prog X.w) X.A (assign target X.env u) (λ_ s'=>U0 X pins Q s') X.xe s
def PGs(X:Cx)(ts:List afV)(t:TGs):Prop:=
 ∀(pins:List (afK×Obj)) (s:afN) (σ:St) (H:Hp) (vs:List V) (us:List afL) (Q:St->Hp->Prop),Inv X pins σ H s->Vals vs us->t vs σ H Q->
  afS (model X.prog X.w) X.A (assignInOrder ((ah5 ts X.env).map (·.2)) us) (λ_ s'=>U0 X pins Q s') X.xe s
abbrev TIp:=V->V->Hp->VK->Prop
def PIp(X:Cx)(op:ajN)(t:TIp):Prop:=
 ∀(pins:List (afK×Obj)) (s:afN) (σ:St) (H:Hp) (x y:V) (v u:afL) (Q:VK),Inv X pins σ H s->RelV x v->RelV y u->t x y H Q->
  afS (model X.prog X.w) X.A (inplaceOp op v u) (EP X pins σ Q) X.xe s
section
variable{X:Cx}{pos:Pos}
def gName(i:Nat):TG:=λv σ H Q=>Q (σ.set i (some v)) H
theorem pg_name{i:Nat}{x:Str}(hN:X.N.Nodup)(hi:X.N[i]?=some x)(hx:Loc X.env.scope x)(hf:X.fn x=true\/X.env.scope.names.lookup x=some .local:=by first |show .inl rfl |show .inr rfl |assumption):PG X (.Name x pos) (gName i):=by
 intro pins s σ H v u Q I r h;show wpAny_assign_Name (store_ok I hN hi hx r (λs' I'=>⟨_,H,I',h⟩) hf)
def gNil:TGs:=λvs σ H Q=>vs=[]/\Q σ H
def gCons(t:TG)(u:TGs):TGs:=λvs σ H Q=>∃v r,vs=v::r/\t v σ H λσ' H'=>u r σ' H' Q
theorem pgs_nil:PGs X [] gNil:=by
 intro pins s σ H vs us Q I r h;let⟨e,h⟩:=h;subst e;cases r;show assignInOrder_nil ⟨σ,H,I,h⟩
theorem pgs_cons{es:List afV}{t:TG}{u:TGs}(h1:PG X e t)(h2:PGs X es u)
  (hs:(ah5 (e::es) X.env).map (·.2)=assign e X.env::(ah5 es X.env).map (·.2):=by rfl):PGs X (e::es) (gCons t u):=by
 intro pins s σ H vs us Q I r h;let⟨v,vr,e1,h⟩:=h;subst e1;cases r with
 | cons r rr=>
  rw[hs];show ajX (thn (h1 pins s σ H _ _ _ I r h) λ_ s1 bB=>?_);let⟨σ1,H1,I1,q1⟩:=bB;show h2 pins s1 σ1 H1 _ _ Q I1 rr q1
def gTup(K:afM)(n:Nat)(t:TGs):TG:=λv σ H Q=>∃a xs,v= .ref a/\SqT K H a xs/\xs.length=n/\t xs σ H Q
theorem pg_tup{es:List afV}{t:TGs}{n:Nat}(hc:X.calm=true)(h:PGs X es t)
  (hn:(ah5 es X.env).length=n:=by rfl)(hst:(ah5 es X.env).findIdx? (·.1)=none:=by rfl):PG X (.Tuple es k pos) (gTup X.K n t):=by
 intro pins s σ H v u Q I r hw;let⟨a,xs,e1,hq,hl,hw⟩:=hw;subst e1;cases r;let⟨its,rv,ht,hz⟩:=I.tuple hq;show assign_Tuple_tuple (I.ok.hd hc) ht (by simp[hn,<-hl,rv.length]) hst λh' hx=>?_;have I1:Inv X pins σ H {s with heap:=h'}:=I.kept (t':=s.toks) λb o e=>hx b o (agD (z2c e)) e;show h pins _ σ H xs _ Q I1 (by simpa using rv) hw
def tAsg(te:TE)(g:TG):TS:=λD σ H=>te σ H λx H1=>g x σ H1 D.nx
theorem ps_asg{g:TG}(he:PE X e te)(hg:PG X tg g)(hs:ahZ [tg] e pos.line X.env=pure false:=by rfl)(hw:ah0 [tg] e X.env=pure none:=by rfl)
  (h1:(ah5 [tg] X.env).map (·.2)=[assign tg X.env]:=by rfl):PS X (.Assign [tg] e pos) (tAsg te g):=by
 intro pins s σ H D I h;show wpAny_Assign_stores (thn (he pins s σ H _ I h) λv s1 ⟨x,H1,I1,r1,q1⟩=>?_) hs hw;rw[h1];show thn (hg pins s1 σ H1 x v _ I1 r1 q1) λ_ s2 q=>q
theorem ps_set{i:Nat}{x:Str}{pos':Pos}(hN:X.N.Nodup)(hi:X.N[i]?=some x)(hx:Loc X.env.scope x)(he:PE X e te)(hs:ag6 e (some (.Name x pos')) pos.line X.env=pure false:=by rfl)(hf:X.fn x=true\/X.env.scope.names.lookup x=some .local:=by first |show .inl rfl |show .inr rfl |assumption):
  PS X (.Assign [.Name x pos'] e pos) (tAsg te (gName i)):=by
 intro pins s σ H D I h;show wpAny_Assign_Name (thn (he pins s σ H _ I h) λv s1 ⟨y,H1,I1,r1,q1⟩=>?_) hs;show store_ok I1 hN hi hx r1 (λs2 I2=>⟨_,H1,I2,q1⟩) hf
def tPar(i j:Nat)(ta:TA):TS:=λD σ H=>ta σ H λvs H1=>∃v w,vs=[v,w]/\D.nx ((σ.set i (some v)).set j (some w)) H1
theorem ps_par{i j:Nat}{x y:Str}{a b:afV}{ta:TA}{px py pt:Pos}{kt k2 pt2}(hc:X.calm=true)(hN:X.N.Nodup)(hi:X.N[i]?=some x)(hj:X.N[j]?=some y)(hij:i≠j)
  (hx:X.env.scope.names.lookup x=some .local)(hy:X.env.scope.names.lookup y=some .local)(ha:PA X [a,b] ta)
  (hw:ah0 [.Tuple [.Name x px,.Name y py] kt pt] (.Tuple [a,b] k2 pt2) X.env=pure (some [x,y]))
  (hs:ahZ [.Tuple [.Name x px,.Name y py] kt pt] (.Tuple [a,b] k2 pt2) pos.line X.env=pure false:=by rfl):
  PS X (.Assign [.Tuple [.Name x px,.Name y py] kt pt] (.Tuple [a,b] k2 pt2) pos) (tPar i j ta):=by
 intro pins s σ H D I h;rw[exec_Assign_arm];show aft (aj4 ?_);rw[hs];show aft (afQ ?_);rw[z9n {}];show aft (Tuple_ (thn (ha _ pins s σ H _ I h) λus s1 bB=>?_));let⟨vs,H1,I1,r1,q1⟩:=bB;let⟨v,w,e1,q1⟩:=q1;subst e1;obtain⟨u1,u2,rfl,rv,rw'⟩:∃u1 u2,us=[u1,u2]/\RelV v u1/\RelV w u2:=by
  cases r1 with
  | cons p q=>
   cases q with
   | cons p' q'=>
    cases q';show⟨_,_,rfl,p,p'⟩
 show aha ?_ (by show 2<=sizeLine;decide);have I2:Inv X pins σ H1 {s1 with heap:=s1.heap.push {cls:= .type "tuple",data:= .seq [u1,u2].toArray}}:=I1.kept (t':=s1.toks) λb o e=>z1a _ e;rw[hw];show aft (afQ ?_);show afS (model X.prog X.w) X.A (do rule "assign.swapped-stores";let items <-unpackItems (.ref s1.heap.objs.size) 2 none;assignInOrder [λv=>bindName X.env y v,λv=>bindName X.env x v] items.reverse;pure Flow.next) _ _ _;show aft (ahG (aft (unpackItems_tuple (items:= #[u1,u2]) (I.ok.hd hc) (IsTup.new s1.heap _) λh' hx'=>?_)));have I3:=I2.kept (h':=h') (t':=s1.toks) λb o e=>hx' b o (agD (z2c e)) e;show afS _ _ (assignInOrder [λv=>bindName X.env y v,λv=>bindName X.env x v] [u2,u1] >>=λ_=>pure Flow.next) _ _ _;show aft (ajX (wpAny_bindName (store_ok I3 hN hj (.inl hy) rw' (λs2 I4=>?_) (.inr hy))));show ajX (wpAny_bindName (store_ok I4 hN hi (.inl hx) rv (λs3 I5=>assignInOrder_nil (afQ ?_)) (.inr hx)));rw[List.set_comm _ _ (afT hij)] at I5;show⟨_,H1,I5,q1⟩
def tAug(i:Nat)(te:TE)(ti:TIp):TS:=λD σ H=>∃x,σ[i]?=some (some x)/\te σ H λy H1=>ti x y H1 λz H2=>D.nx (σ.set i (some z)) H2
theorem ps_aug{i:Nat}{x:Str}{op:ajN}{ti:TIp}{pos':Pos}(hN:X.N.Nodup)(hi:X.N[i]?=some x)(hx:Loc X.env.scope x)(he:PE X e te)(ho:PIp X op ti)(hf:X.fn x=true\/X.env.scope.names.lookup x=some .local:=by first |show .inl rfl |show .inr rfl |assumption):
  PS X (.AugAssign (.Name x pos') op e pos) (tAug i te ti):=by
 intro pins s σ H D I h;let⟨v,e1,h⟩:=h;let⟨m,hn,hl⟩:=I.loc;have vis:Vis X.env.scope x:=by rcases hx with k |k;show .inl k;show .inr (.inl k)
 let⟨u,r,l⟩:=hl i x v hi e1 vis;show wpAny_AugAssign_Name ?_;have go:afS (model X.prog X.w) X.A (eval e X.env) (λw s₂=>afS (model X.prog X.w) X.A (inplaceOp op u w) (λr s₃=>afS (model X.prog X.w) X.A (ahB X.env x r) (λ_=>SP X pins D .next) X.xe s₃) X.xe s₂) X.xe s:=by
  show thn (he pins s σ H _ I h) λw s1 bB=>?_;let⟨y,H1,I1,r1,q1⟩:=bB;show thn (ho pins s1 σ H1 v y u w _ I1 r r1 q1) λz s2 bB=>?_;let⟨zv,H2,I2,r2,q2⟩:=bB;show store_ok I2 hN hi hx r2 (λs3 I3=>⟨_,H2,I3,q2⟩) hf
 rcases l with⟨hk,hm⟩ |⟨hk,c,hc,hcell⟩
 .show wpAny_loadName_local I.ok.kind hk hn hm go
 .rcases hk with hk |hk
  .show wpAny_loadName_cell I.ok.kind hk hc hcell go
  .rcases hx with k |k
   .have:X.env.scope.names.lookup x=some .free:=hk;rw[k] at this;cases this
   .have:X.env.scope.names.lookup x=some .free:=hk;rw[k] at this;cases this
def ipI(f:Int->Int->Int):TIp:=λx y H Q=>∃i j,x= .int i/\y= .int j/\Q (.int (f i j)) H
theorem ip_add:PIp X .Add (ipI λi j=>i+j):=by
 intro pins s σ H x y v u Q I r1 r2 h;let⟨i,j,e1,e2,q⟩:=h;subst e1;subst e2;let⟨t,rfl⟩:=r1;let⟨t',rfl⟩:=r2;show iadd_int ⟨.int _,H,I.tok _,⟨_,rfl⟩,q⟩
end
section
variable{X:Cx}{pos:Pos}
def tWhile(c:TT)(tb:TS):TS:=λD σ H=>∃W:Nat->St->Hp->Prop,(∃m,W m σ H)/\∀m σ H,W m σ H->
 c σ H λb H1=>if b=true then ∃N:St->Hp->Prop,(∀σ' H',N σ' H'->∃m',m'<m/\W m' σ' H')/\tb {D with nx:=N,ct:=N,bk:=D.nx} σ H1 else D.nx σ H1
theorem ps_while{c:afV}{tc:TT}{tb:TS}(hp:PassesOwn (model X.prog X.w) X.A X.env X.xe)(hc:PT X c tc)(hb:PSs X body tb):PS X (.While c body [] pos) (tWhile tc tb):=by
 intro pins s σ H D I h;let⟨W,⟨m0,w0⟩,turn⟩:=h;show wpAny_While (codeAny_whileLoop (λn s'=>∃σ' H',Inv X pins σ' H' s'/\W n σ' H') ?_ m0 ⟨σ,H,I,w0⟩)
 rintro n s1 ⟨σ1,H1,I1,w1⟩
 show ahV hp (thn (hc pins s1 σ1 H1 _ I1 (turn n σ1 H1 w1)) λb s2 bB=>?_);let⟨H2,I2,q2⟩:=bB;cases b with
 | true=>
  let⟨N,hN,q2⟩:=q2;rw[z9p rfl];show ahV hp (thn (hb pins s2 σ1 H2 _ I2 q2) λf s3 q3=>?_);cases f with
  | next=>
   let⟨σ3,H3,I3,n3⟩:=q3;let⟨m',hm,w3⟩:=hN σ3 H3 n3;show⟨m',hm,σ3,H3,I3,w3⟩
  | cont=>
   let⟨σ3,H3,I3,n3⟩:=q3;let⟨m',hm,w3⟩:=hN σ3 H3 n3;show⟨m',hm,σ3,H3,I3,w3⟩
  |brk=>show q3
  |ret v=>show q3
 | false=>
  rw[z9n af6];show aiS ⟨σ1,H2,I2,q2⟩
end
structure It where
 go:Nat->Hp->Prop
 yld:Nat->Hp->V->Hp->Prop
 stop:Nat->Hp->Prop
def FpOk(X:Cx)(pins:List (afK×Obj))(H:Hp)(b:afK):Prop:=
 H b=none/\b≠X.env.locals/\b∉X.fs/\(b∈X.ex\/X.s₀.heap.objs.size<=b)/\(∀x c,X.env.cells.lookup x=some c->c≠b)/\∀p∈X.pn++pins,p.1≠b
theorem Inv.fpOk{X:Cx}{H':Hp}{b:afK}(I:Inv X pins σ H s)(hb:s.heap.objs.size<=b)(hn:H' b=none):FpOk X pins H' b:=by
 show⟨hn,akt (z0d I.lt hb),I.nofs hb,.inr (z0b I.sz hb),λx c e z=>?_,λp hp z=>?_⟩
 .let⟨v,q⟩:=I.cell x c e;show absurd (z0d q.lt (by rw[z];show hb)) (agS _)
 .show absurd (z0d (z2c (I.pin p hp).1) (by rw[z];show hb)) (agS _)
inductive abp (X:Cx) (pins:List (afK×Obj)) (σ:St) (H:Hp) (J:It) (tn:Nat->af2->Prop) (fp:List afK) (i:Nat) (u:afL) (s2:afN):Prop
 |mk (x:V) (H':Hp) (I:Inv X pins σ H' s2) (r:RelV x u) (y:J.yld i H x H') (st:tn (i+1) s2.heap) (f:∀b∈fp,H' b=none):abp X pins σ H J tn fp i u s2
structure Turn(P:afZ)(w:af4)(K:afM)(tg:afV)(J:It)(fp:List afK)(it:afK)(tn:Nat->af2->Prop):Prop where
 mem:it∈fp
 obj:∀i h,tn i h->∀b∈fp,∃o,h.get? b=some o/\∀v,o.data≠.cell v
 keep:∀i h h',tn i h->(∀b∈fp,∀o,h.get? b=some o->h'.get? b=some o)->tn i h'
 item:∀(X:Cx),X.prog=P->X.w=w->X.K=K->X.calm=true->∀(i:Nat) (pins:List (afK×Obj)) (s:afN) (σ:St) (H:Hp) (E:afL->afN->Prop),Inv X pins σ H s->(∀b∈fp,FpOk X pins H b)->tn i s.heap->J.go i H->
  afS (model P w) X.A (pyNext (.ref it)) (λr s1=>∃u,r=some u/\
   afS (model P w) X.A (letOwnedTupleGo tg (.ref it) u) (λ_ s2=>abp X pins σ H J tn fp i u s2) E s1) E s
 done:∀(X:Cx),X.prog=P->X.w=w->X.K=K->X.calm=true->∀(i:Nat) (pins:List (afK×Obj)) (s:afN) (σ:St) (H:Hp) (E:afL->afN->Prop),Inv X pins σ H s->(∀b∈fp,FpOk X pins H b)->tn i s.heap->J.stop i H->
  afS (model P w) X.A (pyNext (.ref it)) (λr s1=>r=none/\Inv X pins σ H s1) E s
 self:∀(A:af5) (i:Nat) (s:afN) (Q:afL->afN->Prop) (E:afL->afN->Prop),tn i s.heap->Q (.ref it) s->afS (model P w) A (pyIter (.ref it)) Q E s
abbrev TI:=St->Hp->(It->Hp->Prop)->Prop
inductive PIE (X:Cx) (pins:List (afK×Obj)) (σ:St) (tg:afV) (R:It->Hp->Prop) (itv:afL) (s2:afN):Prop
 |mk (it:afK) (fp:List afK) (tn:Nat->af2->Prop) (J:It) (H':Hp) (e:itv= .ref it) (I:Inv X pins σ H' s2) (T:Turn X.prog X.w X.K tg J fp it tn) (st:tn 0 s2.heap) (f:∀b∈fp,FpOk X pins H' b) (r:R J H'):PIE X pins σ tg R itv s2
def PI(X:Cx)(tg iter:afV)(wi:TI):Prop:=
 ∀(pins:List (afK×Obj)) (s:afN) (σ:St) (H:Hp) (R:It->Hp->Prop),Inv X pins σ H s->wi σ H R->
  afS (model X.prog X.w) X.A (eval iter X.env) (λv s1=>afS (model X.prog X.w) X.A (pyIter v) (PIE X pins σ tg R) X.xe s1) X.xe s
theorem go_of{it:afK}{u:afL}{o:Obj}{n:String}{vs:Array afL}{Q:Unit->afN->Prop}(ho:s.heap.get? it=some o)(hc:o.cls= .type n)(hd:o.data= .fields vs)
  (hn:["enumerate","zip","dict_itemiterator","dict_reverseitemiterator","odict_iterator","itertools.zip_longest","itertools.pairwise"].contains n=false)(hQ:Q Unit.unit s):afS M A (letOwnedTupleGo tg (.ref it) u) Q E s:=by
 unfold letOwnedTupleGo;cases tg <;> first
  |show afQ hQ
  | (cases u <;> first
    |show afQ hQ
    | (show aft (wpAny_load ho ?_)
       rw[hc,hd];show afS M A (if (["enumerate","zip","dict_itemiterator","dict_reverseitemiterator","odict_iterator","itertools.zip_longest","itertools.pairwise"].contains n && vs[0]? ==some (agN _))=true then _ else _) Q E s;rw[z9n (by intro h;rw[hn,akV] at h;cases h)];show afQ hQ))
def Itl(K:afM)(a:afK):It:=
 ⟨λi H=>∃xs x,SqL K H a xs/\xs[i]?=some x,λi H x H'=>H'=H/\∀xs,SqL K H a xs->xs[i]?=some x,λi H=>∃xs,SqL K H a xs/\xs.length<=i⟩
def Itt(K:afM)(a:afK):It:=
 ⟨λi H=>∃xs x,SqT K H a xs/\xs[i]?=some x,λi H x H'=>H'=H/\∀xs,SqT K H a xs->xs[i]?=some x,λi H=>∃xs,SqT K H a xs/\xs.length<=i⟩
def Itr(lo:Int)(n:Nat):It:=⟨λi _=>i<n,λi H x H'=>H'=H/\x= .int (lo+i),λi _=>n<=i⟩
theorem turn_list(a it:afK):Turn P w K tg (Itl K a) [it] it (λi h=>h.IsListIter it a i) where
 mem:=()
 obj:=λi h st b hb=>by
  have e:b=it:=by simpa using hb
  subst e;let⟨o,e,c,d⟩:=st;show⟨o,e,λv z=>by rw[d] at z;cases z⟩
 keep:=λi h h' st k=>st.at λo e=>k it () o e
 item:=by
  intro X hP hw hK hc i pins s σ H E I hf st hg;subst hP hw hK;let⟨xs,x,hq,hx⟩:=hg;let⟨its,rv,p,hz⟩:=I.list hq;let⟨u,hu,ru⟩:=rv.get hx;let⟨f0,f1,f2,f3,f4,f5⟩:=hf it ();show wpAny_pyNext_list_item st p.isList (x:=u) (by simpa using hu) λh' st' sb=>?_;have I1:Inv X pins σ H {s with heap:=h'}:=I.turned (t':=s.toks) (λb o hb e=>(sb.2 b hb).trans e) f0 f1 f3 f4 f5;let⟨o,e,c,d⟩:=id st';show⟨u,rfl,go_of (s:={s with heap:=h'}) e c d {} ⟨x,H,I1,ru,⟨rfl,λys hy=>by rw[I.list_inj hy hq];show hx⟩,st',λb hb=>(hf b hb).1⟩⟩
 done:=by
  intro X hP hw hK hc i pins s σ H E I hf st hg;subst hP hw hK;let⟨xs,hq,hx⟩:=hg;let⟨its,rv,p,hz⟩:=I.list hq;let⟨f0,f1,f2,f3,f4,f5⟩:=hf it ();have hl:=rv.length;show wpAny_pyNext_list_end (I.ok.hd hc) st p.isList () λh' eb=>⟨rfl,I.turned (t':=s.toks) (λb o hb e=>eb b o hb e) f0 f1 f3 f4 f5⟩
 self:=λ_ _ _ _ _ st h=>wpAny_pyIter_listiter st h
theorem turn_tuple(a it:afK):Turn P w K tg (Itt K a) [it] it (λi h=>h.IsTupleIter it a i) where
 mem:=()
 obj:=λi h st b hb=>by
  have e:b=it:=by simpa using hb
  subst e;let⟨o,e,c,d⟩:=st;show⟨o,e,λv z=>by rw[d] at z;cases z⟩
 keep:=λi h h' st k=>st.at λo e=>k it () o e
 item:=by
  intro X hP hw hK hc i pins s σ H E I hf st hg;subst hP hw hK;let⟨xs,x,hq,hx⟩:=hg;let⟨its,rv,p,hz⟩:=I.tuple hq;let⟨u,hu,ru⟩:=rv.get hx;let⟨f0,f1,f2,f3,f4,f5⟩:=hf it ();show wpAny_pyNext_tuple_item st (show s.heap.IsTuple a its.toArray from p) (x:=u) (by simpa using hu) λh' st' sb=>?_;have I1:Inv X pins σ H {s with heap:=h'}:=I.turned (t':=s.toks) (λb o hb e=>(sb.2 b hb).trans e) f0 f1 f3 f4 f5;let⟨o,e,c,d⟩:=id st';show⟨u,rfl,go_of (s:={s with heap:=h'}) e c d {} ⟨x,H,I1,ru,⟨rfl,λys hy=>by rw[I.tuple_inj hy hq];show hx⟩,st',λb hb=>(hf b hb).1⟩⟩
 done:=by
  intro X hP hw hK hc i pins s σ H E I hf st hg;subst hP hw hK;let⟨xs,hq,hx⟩:=hg;let⟨its,rv,p,hz⟩:=I.tuple hq;let⟨f0,f1,f2,f3,f4,f5⟩:=hf it ();have hl:=rv.length;show wpAny_pyNext_tuple_end (I.ok.hd hc) st (show s.heap.IsTuple a its.toArray from p) () λh' eb=>⟨rfl,I.turned (t':=s.toks) (λb o hb e=>eb b o hb e) f0 f1 f3 f4 f5⟩
 self:=λ_ _ _ _ _ st h=>wpAny_pyIter_tupleiter st h
theorem turn_range(it:afK)(lo:Int)(n:Nat):Turn P w K tg (Itr lo n) [it] it (λi h=>ajT h it (lo+(i:Nat)*1) ((n:Int) - (i:Nat)) 1) where
 mem:=()
 obj :=λi h st b hb=>by
  have e:b=it:=by simpa using hb
  subst e;show⟨_,st,λv z=>by
   have z':ajU _=aiD v:=z;cases z'⟩
 keep:=λi h h' st k=>k it () _ st
 item:=by
  intro X hP hw hK hc i pins s σ H E I hf st hg;subst hP hw hK;let⟨f0,f1,f2,f3,f4,f5⟩:=hf it ();have W:=Walks.range (prog:=X.prog) (w:=X.w) (I.ok.hd hc) it lo 1 n;show W.item i s _ _ hg st λv h' tk hv st' kk=>?_;let⟨t,rfl⟩:=hv;have I1:Inv X pins σ H {s with heap:=h',toks:=tk}:=I.turned (λb o hb e=>kk b o (by simpa using hb) e) f0 f1 f3 f4 f5;show⟨_,rfl,go_of (s:={s with heap:=h',toks:=tk}) (n:= "range_iterator") st' rfl rfl {} ⟨.int (lo+i),H,I1,⟨t,?_⟩,⟨rfl,rfl⟩,st',λb hb=>(hf b hb).1⟩⟩;rw[Int.mul_one]
 done:=by
  intro X hP hw hK hc i pins s σ H E I hf st hg;subst hP hw hK;let⟨f0,f1,f2,f3,f4,f5⟩:=hf it ();show wpAny_pyNext_range_end (I.ok.hd hc) st (by have:n<=i:=hg;omega) λh' eb=>⟨rfl,I.turned (t':=s.toks) (λb o hb e=>eb b o hb e) f0 f1 f3 f4 f5⟩
 self:=λ_ _ _ _ _ st h=>ajc st h
section
variable{X:Cx}{tg:afV}
theorem range_it{R:It->Hp->Prop}{lo hi:Int}{t u v:Tok}{tk:Nat}(I:Inv X pins σ H s)(h1: -(2^62)<=lo)(h2:lo<2^62)(h3: -(2^62)<=hi)(h4:hi<2^62)
  (q:R (Itr lo (hi - lo).toNat) H):afS (model X.prog X.w) X.A (pyIter (.ref s.heap.objs.size)) (PIE X pins σ tg R) E {s with heap:=s.heap.push {cls:= .type "range",data:= .fields #[.int lo t,.int hi u,.int 1 v]},toks:=tk}:=by
 show wpAny_pyIter_range (IsRange.new ..) (small_one h1 h2 h3 h4) ?_;have I1:Inv X pins σ H {s with heap:=s.heap.push {cls:= .type "range",data:= .fields #[.int lo t,.int hi u,.int 1 v]},toks:=tk}:=I.kept λb o e=>z1a _ e;show⟨(s.heap.push {cls:= .type "range",data:= .fields #[.int lo t,.int hi u,.int 1 v]}).objs.size,[(s.heap.push {cls:= .type "range",data:= .fields #[.int lo t,.int hi u,.int 1 v]}).objs.size],_,_,H,rfl,
  I1.kept (t':=tk) λb o e=>z1a _ e,turn_range _ lo (hi - lo).toNat,?_,λb hb=>?_,q⟩
 .have e1:lo+((0:Nat):Int)*1=lo:=()
  have e2:(((hi - lo).toNat:Nat):Int) - ((0:Nat):Int)=ai7 lo hi 1:=by rw[rangeSize_one];split <;> omega
  show ajT _ _ (lo+((0:Nat):Int)*1) ((((hi - lo).toNat:Nat):Int) - ((0:Nat):Int)) 1;rw[e1,e2];show z1f _ rfl
 .have e:b=(s.heap.push {cls:= .type "range",data:= .fields #[.int lo t,.int hi u,.int 1 v]}).objs.size:=by simpa using hb
  subst e;show I1.fpOk (z0g _) (I1.hok.fresh (z0g _))
def iRng1(ta:TA):TI:=λσ H R=>ta σ H λvs H1=>∃j:Int,vs=[.int j]/\-(2^62)<=j/\j<2^62/\R (Itr 0 j.toNat) H1
theorem pi_range1{a:afV}{ta:TA}{p pos:Pos}(hg:Gl X "range")(hm:X.mg "range" =none)(ha:PA X [a] ta)(hs:afP [a] X.env=[(false,eval a X.env)]:=by rfl):PI X tg (.Call (.Name "range" p) [a] [] pos) (iRng1 ta):=by
 intro pins s σ H R I h;show Call_ (ld_blt I hg hm boot_range (agK (thn (ha pos pins s σ H _ I h) λus s1 ⟨vs,H1,I1,r1,q1⟩=>?_) hs rfl));let⟨j,e,q1,q2,q⟩:=q1;subst e;cases r1 with
 | cons r rr=>
  cases rr;let⟨t,rfl⟩:=r;show call_range_1 (range_it I1 () () q1 q2 (by simpa using q))
def tFor(wi:TI)(g:TG)(tb:TS):TS:=λD σ H=>wi σ H λJ H1=>∃W:Nat->Nat->St->Hp->Prop,(∃m,W 0 m σ H1)/\∀i m σ H,W i m σ H->
 (J.stop i H/\D.nx σ H)\/(J.go i H/\∃N:St->Hp->Prop,(∀σ' H',N σ' H'->∃m',m'<m/\W (i+1) m' σ' H')/\∀x H',J.yld i H x H'->g x σ H' λσ2 H2=>tb {D with nx:=N,ct:=N,bk:=D.nx} σ2 H2)
def pinsAt(fp:List afK)(h:af2):List (afK×Obj):=fp.filterMap λb=>(h.get? b).map λo=>(b,o)
theorem mem_pinsAt{fp:List afK}{b:afK}{o:Obj}(hb:b∈fp)(e:h.get? b=some o):(b,o)∈pinsAt fp h:=List.mem_filterMap.mpr ⟨b,hb,by rw[e];rfl⟩
theorem of_pinsAt{fp:List afK}{p:afK×Obj}(hp:p∈pinsAt fp h):p.1∈fp/\h.get? p.1=some p.2:=by
 let⟨b,hb,e⟩:=List.mem_filterMap.mp hp;cases q:h.get? b with
 |none=>rw[q] at e;cases e
 | some o=>
  rw[q] at e;have e':(b,o)=p:=agb e;subst e';show⟨hb,q⟩
theorem Inv.pinned{fp:List afK}(I:Inv X pins σ H s)(hf:∀b∈fp,FpOk X pins H b)(ho:∀b∈fp,∃o,s.heap.get? b=some o/\∀v,o.data≠.cell v):Inv X (pins++pinsAt fp s.heap) σ H s:=
 I.pins_of λp hp=>(aiR.mp hp).elim (λz=>I.pin p (agH _ z)) λz=>by
  let⟨hb,e⟩:=of_pinsAt z;let⟨f0,f1,f2,_⟩:=hf p.1 hb;let⟨o,e',d⟩:=ho p.1 hb;rw[e] at e';cases e';show⟨e,f0,f1,f2,d⟩
theorem Inv.unpinned{pl:List (afK×Obj)}(I:Inv X (pins++pl) σ H s):Inv X pins σ H s:=I.pins_of λp hp=>I.pin p (agH _ (ajz _ hp))
inductive Z7 (X:Cx) (pins:List (afK×Obj)) (tn:Nat->af2->Prop) (fp:List afK) (W:Nat->Nat->St->Hp->Prop) (n:Nat) (s':afN):Prop
 |mk (i:Nat) (σ':St) (H':Hp) (I:Inv X pins σ' H' s') (st:tn i s'.heap) (fr:∀b∈fp,H' b=none) (w:W i n σ' H'):Z7 X pins tn fp W n s'
theorem ps_for{iter:afV}{wi:TI}{g:TG}{tb:TS}{pos:Pos}(hp:PassesOwn (model X.prog X.w) X.A X.env X.xe)(hc:X.calm=true)(hi:PI X tg iter wi)(hg:PG X tg g)(hb:PSs X body tb)
  (hs:∀x,aiw iter X.env x=pure x:=by intro _;rfl):PS X (.For tg iter body [] pos) (tFor wi g tb):=by
 intro pins s σ H D I h;show wpAny_For (thn (hi pins s σ H _ I h) λv s1 h1=>thn h1 λitv s2 h2=>?_) hs;let⟨it,fp,tn,J,H2,e,I2,T,st2,f2,W,⟨m0,w0⟩,turn⟩:=h2;subst e;have stat:∀{H':Hp},(∀b∈fp,H' b=none)->∀b∈fp,FpOk X pins H' b:=λhn b hb=>⟨hn b hb,(f2 b hb).2⟩;show codeAny_forLoop_any (λn s'=>Z7 X pins tn fp W n s') ?_ m0 ⟨0,σ,H2,I2,st2,λb hb=>(f2 b hb).1,w0⟩
 rintro n s3 ⟨i,σ3,H3,I3,st3,fr3,w3⟩
 rcases turn i n σ3 H3 w3 with⟨stop,qn⟩ |⟨go,N,hN,step⟩
 .show ahV hp (thn (T.done X rfl rfl rfl hc i pins s3 σ3 H3 X.xe I3 (stat fr3) st3 stop) λr s4 bB=>?_);let⟨hr,I4⟩:=bB;subst hr;show aiS ⟨σ3,H3,I4,qn⟩
 .show ahV hp (thn (T.item X rfl rfl rfl hc i pins s3 σ3 H3 X.xe I3 (stat fr3) st3 go) λr s4 bB=>?_);let⟨u,hr,h4⟩:=bB;subst hr;show ahV hp (thn h4 λ_ s5 bB=>?_);let⟨x,H5,I5,r5,y5,st5,fr5⟩:=bB;have I5':=I5.pinned (stat fr5) (T.obj _ _ st5);show ahV hp (thn (hg _ s5 σ3 H5 x u _ I5' r5 (step x H5 y5)) λ_ s6 bB=>?_);let⟨σ6,H6,I6,q6⟩:=bB;show ahV hp (thn (hb _ s6 σ6 H6 _ I6 q6) λf s7 q7=>?_);have again:∀{σ7:St} {H7:Hp},Inv X (pins++pinsAt fp s5.heap) σ7 H7 s7->N σ7 H7->∃m,m<n/\Z7 X pins tn fp W m s7:=λ{σ7 H7} I7 n7=>by
   let⟨m',hm,w7⟩:=hN σ7 H7 n7;show⟨m',hm,i+1,σ7,H7,I7.unpinned,T.keep _ _ _ st5 λb hb o e=>(I7.pin (b,o) (agH _ (agH _ (mem_pinsAt hb e)))).1,λb hb=>?_,w7⟩;let⟨o,e,d⟩:=T.obj _ _ st5 b hb;show (I7.pin (b,o) (agH _ (agH _ (mem_pinsAt hb e)))).2.1
  cases f with
  |next=>let⟨σ7,H7,I7,n7⟩:=q7;show again I7 n7
  |cont=>let⟨σ7,H7,I7,n7⟩:=q7;show again I7 n7
  |brk=>let⟨σ7,H7,I7,q7⟩:=q7;show⟨σ7,H7,I7.unpinned,q7⟩
  |ret v=>let⟨x7,σ7,H7,I7,r7,q7⟩:=q7;show⟨x7,σ7,H7,I7.unpinned,r7,q7⟩
end
abbrev R2:=V->V->Hp->VK->Prop
def OpR(X:Cx)(f:afL->afL->Sem afL)(r:R2):Prop:=
 ∀(pins:List (afK×Obj)) (s:afN) (σ:St) (H:Hp) (x y:V) (v u:afL) (Q:VK),Inv X pins σ H s->RelV x v->RelV y u->r x y H Q->
  afS (model X.prog X.w) X.A (f v u) (EP X pins σ Q) X.xe s
def UnR(X:Cx)(f:afL->Sem afL)(r:V->Hp->VK->Prop):Prop:=
 ∀(pins:List (afK×Obj)) (s:afN) (σ:St) (H:Hp) (x:V) (v:afL) (Q:VK),Inv X pins σ H s->RelV x v->r x H Q->
  afS (model X.prog X.w) X.A (f v) (EP X pins σ Q) X.xe s
def CallR(X:Cx)(f:afL)(r:List V->Hp->VK->Prop):Prop:=
 ∀(pins:List (afK×Obj)) (s:afN) (σ:St) (H:Hp) (xs:List V) (us:List afL) (Q:VK),Inv X pins σ H s->Vals xs us->r xs H Q->
  afS (model X.prog X.w) X.A (call f us) (EP X pins σ Q) X.xe s
def TruR(X:Cx)(r:V->Hp->(Bool->Hp->Prop)->Prop):Prop:=
 ∀(pins:List (afK×Obj)) (s:afN) (σ:St) (H:Hp) (x:V) (v:afL) (Q:Bool->Hp->Prop),Inv X pins σ H s->RelV x v->r x H Q->
  afS (model X.prog X.w) X.A (truthy v) (TP X pins σ Q) X.xe s
def tOp(r:R2)(ta tb:TE):TE:=λσ H Q=>ta σ H λx H1=>tb σ H1 λy H2=>r x y H2 Q
def tUn(r:V->Hp->VK->Prop)(ta:TE):TE:=λσ H Q=>ta σ H λx H1=>r x H1 Q
def rI(C:Int->Int->Prop)(g:Int->Int->V):R2:=λx y H Q=>∃i j,x= .int i/\y= .int j/\C i j/\Q (g i j) H
def rI0(g:Int->Int->V):R2:=λx y H Q=>∃i j,x= .int i/\y= .int j/\Q (g i j) H
def rU(g:Int->V):V->Hp->VK->Prop:=λx H Q=>∃i,x= .int i/\Q (g i) H
section
variable{X:Cx}{a b c:afV}{ta tb tc:TE}{pos:Pos}
theorem binT(ha:PE X a ta)(hb:PE X b tb){R:V->V->Hp->Prop}(I:Inv X pins σ H s)
  (h:ta σ H λx H1=>tb σ H1 λy H2=>R x y H2)
  (hf:∀v u s2 x y H2,Inv X pins σ H2 s2->RelV x v->RelV y u->R x y H2->afS (model X.prog X.w) X.A (f v u) Q X.xe s2):
  afS (model X.prog X.w) X.A (eval a X.env) (λv s₁=>afS (model X.prog X.w) X.A (eval b X.env) (λu s₂=>afS (model X.prog X.w) X.A (f v u) Q X.xe s₂) X.xe s₁) X.xe s:=by
 show thn (ha pins s σ H _ I h) λv s1 bB=>?_;let⟨x,H1,I1,r1,q1⟩:=bB;show thn (hb pins s1 σ H1 _ I1 q1) λu s2 bB=>?_;let⟨y,H2,I2,r2,q2⟩:=bB;show hf v u s2 x y H2 I2 r1 r2 q2
theorem pe_op{op:ajN}(ho:OpR X (ag4 op) r)(ha:PE X a ta)(hb:PE X b tb):PE X (.BinOp a op b pos) (tOp r ta tb):=by
 intro pins s σ H Q I h;show wpAny_BinOp (binT ha hb I h λv u s2 x y H2 I2 rx ry q=>ho pins s2 σ H2 x y v u Q I2 rx ry q)
theorem pe_un{op:UnaryOp}{r:V->Hp->VK->Prop}(ho:UnR X (unaryOp op) r)(ha:PE X a ta):PE X (.UnaryOp op a pos) (tUn r ta):=by
 intro pins s σ H Q I h;show UnaryOp_ (thn (ha pins s σ H _ I h) λv s1 ⟨x,H1,I1,r1,q1⟩=>ho pins s1 σ H1 x v Q I1 r1 q1)
theorem opI{C:Int->Int->Prop}{g:Int->Int->Int}
  (rule:∀(i j:Int) (t u:Tok) (s:afN) (Q:afL->afN->Prop) (E:afL->afN->Prop),C i j->Q (.int (g i j) s.toks) {s with toks:=s.toks+1}->afS (model X.prog X.w) X.A (f (.int i t) (.int j u)) Q E s):
  OpR X f (rI C λi j=> .int (g i j)):=by
 intro pins s σ H x y v u Q I rx ry h;let⟨i,j,rfl,rfl,hc,q⟩:=h;let⟨t,rfl⟩:=rx;let⟨t',rfl⟩:=ry;show rule i j t t' s _ _ hc ⟨.int (g i j),H,I.tok _,⟨_,rfl⟩,q⟩
theorem opI0{g:Int->Int->Int}
  (rule:∀(i j:Int) (t u:Tok) (s:afN) (Q:afL->afN->Prop) (E:afL->afN->Prop),Q (.int (g i j) s.toks) {s with toks:=s.toks+1}->afS (model X.prog X.w) X.A (f (.int i t) (.int j u)) Q E s):
  OpR X f (rI0 λi j=> .int (g i j)):=by
 intro pins s σ H x y v u Q I rx ry h;let⟨i,j,rfl,rfl,q⟩:=h;let⟨t,rfl⟩:=rx;let⟨t',rfl⟩:=ry;show rule i j t t' s _ _ ⟨.int (g i j),H,I.tok _,⟨_,rfl⟩,q⟩
theorem opB0{g:Int->Int->Bool}
  (rule:∀(i j:Int) (t u:Tok) (s:afN) (Q:afL->afN->Prop) (E:afL->afN->Prop),Q (.bool (g i j)) s->afS (model X.prog X.w) X.A (f (.int i t) (.int j u)) Q E s):
  OpR X f (rI0 λi j=> .bl (g i j)):=by
 intro pins s σ H x y v u Q I rx ry h;let⟨i,j,rfl,rfl,q⟩:=h;let⟨t,rfl⟩:=rx;let⟨t',rfl⟩:=ry;show rule i j t t' s _ _ ⟨.bl (g i j),H,I,rfl,q⟩
def CPow(i j:Int):Prop:=0<=j/\j<=1000000/\i.natAbs<2^64
def CMul(i j:Int):Prop:=(-(2^64)<i/\i<2^64)\/(-(2^64)<j/\j<2^64)
theorem CMul.ok{i j:Int}(h:CMul i j):IntMulOk i j:=by
 rcases h with⟨h1,h2⟩ |⟨h1,h2⟩
 .show .of_left (intBits_le_64 h1 h2)
 .show .of_right (intBits_le_64 h1 h2)
theorem op_add:OpR X (ag4 .Add) (rI0 λi j=> .int (i+j)):=opI0 λ_ _ _ _ _ _ _ q=>add_int q
theorem op_sub:OpR X (ag4 .Sub) (rI0 λi j=> .int (i - j)):=opI0 λ_ _ _ _ _ _ _ q=>sub_int q
theorem op_mul:OpR X (ag4 .Mult) (rI CMul λi j=> .int (i*j)):=opI λ_ _ _ _ _ _ _ hc q=>mul_int q hc.ok
theorem op_mod:OpR X (ag4 .Mod) (rI (λ_ j=>0<j) λi j=> .int (i % j)):=opI λi j _ _ _ _ _ hc q=>by
 have h1:(0:Int)<j:=hc;show mod_int' () (by rw[Int.fmod_eq_emod_of_nonneg i ()];show q)
theorem op_pow:OpR X (ag4 .Pow) (rI CPow λi j=> .int (i^j.toNat)):=opI λ_ _ _ _ _ _ _ hc q=>pow_int_small hc.1 hc.2.1 hc.2.2 q
theorem unI{f:afL->Sem afL}{g:Int->Int}
  (rule:∀(i:Int) (t:Tok) (s:afN) (Q:afL->afN->Prop) (E:afL->afN->Prop),Q (.int (g i) s.toks) {s with toks:=s.toks+1}->afS (model X.prog X.w) X.A (f (.int i t)) Q E s):
  UnR X f (rU λi=> .int (g i)):=by
 intro pins s σ H x v Q I rx h;let⟨i,rfl,q⟩:=h;let⟨t,rfl⟩:=rx;show rule i t s _ _ ⟨.int (g i),H,I.tok _,⟨_,rfl⟩,q⟩
theorem un_neg:UnR X (unaryOp .USub) (rU λi=> .int (-i)):=unI λ_ _ _ _ _ q=>neg_int q
end
section
variable{X:Cx}{a b c:afV}{ta tb tc:TE}{pos:Pos}
theorem fin_bl{Q:VK}{k k':Bool}(I:Inv X pins σ H s)(q:Q (.bl k) H)(e:k=k'):EP X pins σ Q (.bool k') s:=by
 subst e;show⟨.bl k,H,I,rfl,q⟩
theorem op_lt:OpR X (agn .Lt) (rI0 λi j=> .bl (decide (i<j))):=opB0 λ_ _ _ _ _ _ _ q=>lt_int q
theorem op_le:OpR X (agn .LtE) (rI0 λi j=> .bl (decide (i<=j))):=opB0 λ_ _ _ _ _ _ _ q=>le_int q
theorem op_gt:OpR X (agn .Gt) (rI0 λi j=> .bl (decide (j<i))):=opB0 λ_ _ _ _ _ _ _ q=>gt_int q
theorem op_ge:OpR X (agn .GtE) (rI0 λi j=> .bl (decide (j<=i))):=opB0 λ_ _ _ _ _ _ _ q=>ge_int q
theorem op_isN:OpR X (agn .Is) (λx y H Q=>y= .non/\Q (.bl (decide (x= .non))) H):=by
 intro pins s σ H x y v u Q I rx ry h;let⟨rfl,q⟩:=h;cases ry;show is_none_gen (fin_bl I q ?_);cases x <;> first
  |(cases rx;rfl)
  |(let⟨t,rfl⟩:=rx;rfl)
theorem op_notN:OpR X (agn .IsNot) (λx y H Q=>y= .non/\Q (.bl (!decide (x= .non))) H):=by
 intro pins s σ H x y v u Q I rx ry h;let⟨rfl,q⟩:=h;cases ry;show isnot_none_gen (fin_bl I q ?_);cases x <;> first
  |(cases rx;rfl)
  |(let⟨t,rfl⟩:=rx;rfl)
theorem OpR.or{r':R2}(h:OpR X f r)(h':OpR X f r'):OpR X f (λx y H Q=>r x y H Q\/r' x y H Q):=by
 intro pins s σ H x y v u Q I rx ry q;rcases q with q |q
 .show h pins s σ H x y v u Q I rx ry q
 .show h' pins s σ H x y v u Q I rx ry q
theorem nomark(b:afV){op:CmpOp}(h:op≠.In:=by decide)(h2:op≠.NotIn:=by decide):ahw op b=false:=by
 have e1:(op ==CmpOp.In)=false:=by cases op <;> first |rfl |show absurd rfl h
 have e2:(op ==CmpOp.NotIn)=false:=by cases op <;> first |rfl |show absurd rfl h2
 cases b <;> simp[ahw,e1,e2]
theorem pe_cmpR{op:CmpOp}(ho:OpR X (agn op) r)(ha:PE X a ta)(hb:PE X b tb)(hm:ahw op b=false):PE X (.Compare a [op] [b] pos) (tOp r ta tb):=by
 intro pins s σ H Q I h;show wpAny_Compare1 (binT ha hb I h λv u s2 x y H2 I2 rx ry q=>ho pins s2 σ H2 x y v u Q I2 rx ry q) hm
def tTest(t:TE):TT:=λσ H Q=>t σ H λx H'=>∃k,x= .bl k/\Q k H'
theorem pt_cmpR{op:CmpOp}(ho:OpR X (agn op) r)(ha:PE X a ta)(hb:PE X b tb)(hm:ahw op b=false):PT X (.Compare a [op] [b] pos) (tTest (tOp r ta tb)):=by
 intro pins s σ H Q I h;show wpAny_isTrue_Compare1 (thn (ha pins s σ H _ I h) λv s1 ⟨x,H1,I1,r1,q1⟩=>thn (hb pins s1 σ H1 _ I1 q1) λu s2 ⟨y,H2,I2,r2,q2⟩=>
  thn (ho pins s2 σ H2 x y v u _ I2 r1 r2 q2) λc s3 ⟨z,H3,I3,r3,k,e,q3⟩=>?_) hm
 subst e;cases r3;show ag2 ⟨H3,I3,q3⟩
def tChain(r r':R2)(ta tb tc:TE):TE:=λσ H Q=>ta σ H λx H1=>tb σ H1 λy H2=>r x y H2 λz H3=>∃k,z= .bl k/\
 (if k=true then tc σ H3 λw' H4=>r' y w' H4 Q else Q (.bl false) H3)
theorem pe_chain{op op':CmpOp}{r':R2}(ho:OpR X (agn op) r)(ho':OpR X (agn op') r')(ha:PE X a ta)(hb:PE X b tb)(hc:PE X c tc)
  (hm:lastMarks [op,op'] [b,c]=false:=by with_unfolding_all rfl):PE X (.Compare a [op,op'] [b,c] pos) (tChain r r' ta tb tc):=by
 intro pins s σ H Q I h;show Compare_chain (thn (ha pins s σ H _ I h) λv s1 ⟨x,H1,I1,r1,q1⟩=>chain_link (thn (hb pins s1 σ H1 _ I1 q1) λu s2 ⟨y,H2,I2,r2,q2⟩=>
  thn (ho pins s2 σ H2 x y v u _ I2 r1 r2 q2) λd s3 ⟨z,H3,I3,r3,k,e,q3⟩=>?_)) hm
 subst e;cases r3;show ag2 ?_;cases k with
 |false=>show ite_ff ⟨.bl false,H3,I3,rfl,q3⟩
 |true=>show ite_tt (chain_last (thn (hc pins s3 σ H3 _ I3 q3) λw' s4 ⟨z',H4,I4,r4,q4⟩=>ho' pins s4 σ H4 y z' u w' Q I4 r2 r4 q4))
theorem pt_chain{op op':CmpOp}{r':R2}(ho:OpR X (agn op) r)(ho':OpR X (agn op') r')(ha:PE X a ta)(hb:PE X b tb)(hc:PE X c tc)
  (hm:lastMarks [op,op'] [b,c]=false:=by with_unfolding_all rfl):PT X (.Compare a [op,op'] [b,c] pos) (tTest (tChain r r' ta tb tc)):=by
 intro pins s σ H Q I h;show isTrue_chain (thn (ha pins s σ H _ I h) λv s1 ⟨x,H1,I1,r1,q1⟩=>test_link (thn (hb pins s1 σ H1 _ I1 q1) λu s2 ⟨y,H2,I2,r2,q2⟩=>
  thn (ho pins s2 σ H2 x y v u _ I2 r1 r2 q2) λd s3 ⟨z,H3,I3,r3,k,e,q3⟩=>?_)) hm
 subst e;cases r3;show ag2 ?_;cases k with
 | false=>
  let⟨k',e',q'⟩:=q3;cases e';show ite_ff ⟨H3,I3,q'⟩
 | true=>
  show ite_tt (test_last (thn (hc pins s3 σ H3 _ I3 q3) λw' s4 ⟨z',H4,I4,r4,q4⟩=>thn (ho' pins s4 σ H4 y z' u w' _ I4 r2 r4 q4) λd' s5 bB=>?_));let⟨z2,H5,I5,r5,k2,e2,q5⟩:=bB;subst e2;cases r5;show ag2 ⟨H5,I5,q5⟩
def TruV(K:afM)(x:V)(H:Hp)(k:Bool):Prop:=
 match x with
 | .non=>k=false
 | .bl b=>k=b
 | .int i=>k=(i !=0)
 | .str y=>y.length<=sizeLine/\k=((y.length:Int) !=0)
 | .byt y=>y.size<=sizeLine/\k=((y.size:Int) !=0)
 | .ref p=>(∃xs,SqL K H p xs/\k= !xs.isEmpty)\/(∃xs,SqT K H p xs/\k= !xs.isEmpty)\/∃kvs,H p=some (.dK kvs)/\k= !kvs.isEmpty
 |_=>False
theorem isEmpty_kv{κ:Type}{kvs:List (κ×V)}{vs:List (κ×afL)}(r:KV kvs vs):(!vs.isEmpty)= !kvs.isEmpty:=by
 cases r <;> rfl
theorem isEmpty_of{xs:List V}{its:List afL}(r:Vals xs its):(!its.toArray.isEmpty)= !xs.isEmpty:=by
 cases r <;> simp
theorem line63:(sizeLine:Nat)<2^63:=by rw[ahC];decide
theorem tru_ok:TruR X (λx H Q=>∃k,TruV X.K x H k/\Q k H):=by
 intro pins s σ H x v Q I rx h;let⟨k,e,q⟩:=h;have hl:=line63;have hs:sizeLine=16777216:=ahC;cases x with
 | non=>
  cases rx;have e':k=false:=e;subst e';show truthy_none ⟨H,I,q⟩
 | bl b=>
  cases rx;have e':k=b:=e;subst e';show ag2 ⟨H,I,q⟩
 | int i=>
  let⟨t,rfl⟩:=rx;have e':k=(i !=0):=e;subst e';show PySem.P.truthy_int ⟨H,I,q⟩
 | str y=>
  let⟨t,rfl⟩:=rx;obtain⟨hy,e'⟩:y.length<=sizeLine/\k=((y.length:Int) !=0):=e;subst e';show PySem.P.truthy_str () ⟨H,I.tok _,q⟩
 | byt y=>
  let⟨t,rfl⟩:=rx;obtain⟨hy,e'⟩:y.size<=sizeLine/\k=((y.size:Int) !=0):=e;subst e';show PySem.W.truthy_bytes () ⟨H,I.tok _,q⟩
 | ref p=>
  cases rx;have e':(∃xs,SqL X.K H p xs/\k= !xs.isEmpty)\/(∃xs,SqT X.K H p xs/\k= !xs.isEmpty)\/∃kvs,H p=some (.dK kvs)/\k= !kvs.isEmpty:=e;rcases e' with⟨xs,hx,e'⟩ |⟨xs,hx,e'⟩ |⟨kvs,hx,e'⟩
  .subst e';let⟨its,r,pl,hz⟩:=I.list hx;have hlen:=r.length;show wpAny_truthy_list pl.isList (by simp only[z1c];omega) ⟨H,I.tok _,by rw[isEmpty_of r];show q⟩
  .subst e';let⟨its,r,pl,hz⟩:=I.tuple hx;have hlen:=r.length;show truthy_tuple pl (by simp only[z1c];omega) ⟨H,I.tok _,by rw[isEmpty_of r];show q⟩
  .subst e';obtain⟨hz,hS,vs,r,m⟩:kvs.length<=sizeLine/\(p ==sysModules)=false/\∃vs,KV kvs vs/\s.heap.DictOf (mixKind X.prog X.w) p vs:=I.hok p _ hx;have hlen:kvs.length=vs.length:=Paired.length r;show wpAny_truthy_dict hS m () ⟨H,I.tok _,by rw[isEmpty_kv r];show q⟩
 |_=>show (show False from e).elim
theorem pt_truth(ha:PE X a ta)(he:∀whole,isTrue a X.env whole=(do let v <-whole;aix a.pos;holding [v] (truthy v))):
  PT X a (λσ H Q=>ta σ H λx H'=>∃k,TruV X.K x H' k/\Q k H'):=by
 intro pins s σ H Q I h;show isTrue_plain (thn (ha pins s σ H _ I h) λv s1 ⟨x,H1,I1,r1,q1⟩=>tru_ok pins s1 σ H1 x v Q I1 r1 q1) (he _)
theorem vals1{x:V}(r:Vals [x] us):∃u,us=[u]/\RelV x u:=by
 cases r with
 |cons r1 r2=>cases r2;show⟨_,rfl,r1⟩
theorem vals2{x y:V}(r:Vals [x,y] us):∃u w',us=[u,w']/\RelV x u/\RelV y w':=by
 cases r with
 | cons r1 r2=>
  cases r2 with
  |cons r3 r4=>cases r4;show⟨_,_,rfl,r1,r3⟩
theorem call_abs:CallR X (.builtin "abs") (λxs H Q=>∃i,xs=[.int i]/\Q (.int (if i<0 then -i else i)) H):=by
 intro pins s σ H xs us Q I r h;let⟨i,rfl,q⟩:=h;let⟨u,rfl,t,rfl⟩:=vals1 r;show call_abs_int λu tk=>⟨.int (if i<0 then -i else i),H,I.tok _,⟨_,rfl⟩,q⟩
theorem call_max2(hc:X.calm=true):CallR X (.builtin "max") (λxs H Q=>∃i j,xs=[.int i,.int j]/\Q (.int (if j > i then j else i)) H):=by
 intro pins s σ H xs us Q I r h;let⟨i,j,rfl,q⟩:=h;let⟨u,w',rfl,⟨t,rfl⟩,⟨t',rfl⟩⟩:=vals2 r;show max_two_ints (I.ok.hd hc) λh' tk k=>⟨_,H,I.kept k,?_,q⟩;by_cases hj:j > i
 .rw[z9p hj,z9p hj];show⟨_,rfl⟩
 .rw[z9n hj,z9n hj];show⟨_,rfl⟩
theorem call_min2(hc:X.calm=true):CallR X (.builtin "min") (λxs H Q=>∃i j,xs=[.int i,.int j]/\Q (.int (if j<i then j else i)) H):=by
 intro pins s σ H xs us Q I r h;let⟨i,j,rfl,q⟩:=h;let⟨u,w',rfl,⟨t,rfl⟩,⟨t',rfl⟩⟩:=vals2 r;show min_two_ints (I.ok.hd hc) λh' tk k=>⟨_,H,I.kept k,?_,q⟩;by_cases hj:j<i
 .rw[z9p hj,z9p hj];show⟨_,rfl⟩
 .rw[z9n hj,z9n hj];show⟨_,rfl⟩
end
structure ObjM(h:af2)(x dx C:afK)(mA:Str->Option afL):Prop where
 obj:h.get? x=some (ahF C dx)
 ns:h.Ns1 dx mA
 ne:dx≠x
theorem lookIn_ns{dx:afK}{mA:Str->Option afL}(n:h.Ns1 dx mA):∃od,h.get? dx=some od/\∀name,ajO name od=some (mA name):=by
 let⟨o,es,ep,ho,hd,hk,_,hm⟩:=n;show⟨o,ho,λname=>?_⟩;have e:=hm name;unfold nsFind findBy at e;rw[<-Array.find?_toList] at e;unfold ajO;rw[hd]
 dsimp only
 split
 .rename_i y q;rw[q] at e;show congrArg some e
 .rename_i q;rw[q] at e;have a:es.toList.any (·.refKey)=false:=by
   rw[List.any_eq_false];intro y hy;let⟨z,t,hkey⟩:=hk y (Array.mem_toList_iff.mp hy);simp[DictEntry.refKey,hkey]
  have a':¬es.toList.any (·.refKey)=true:=by rw[a];show af6
  rw[z9n a'];show congrArg some e
theorem ObjM.look{x dx:afK}{mA:Str->Option afL}(I:ObjM h x dx C mA):∃od,aiy h x (ahF C dx) C (some od)/\∀name,ajO name od=some (mA name):=
 let⟨od,ho,hl⟩:=lookIn_ns I.ns
 ⟨od,⟨I.obj,rfl,rfl,ho⟩,hl⟩
section
variable{prog:afZ}{w:af4}{A:af5}{E:afL->afN->Prop}{s:afN}{K:afM}{x dx C f:afK}{mA:Str->Option afL}{name:Str}{v:afL}
theorem get_map{expr:Bool}(X:K.In s.heap)(I:ObjM s.heap x dx C mA)(hg:aiH K C name=true)(hh:aja K C=true)
  (ha:af8 K (.ref C) name=some none)(hv:mA name=some v)(hv':w0a v=true)(h:Q v {s with toks:=s.toks+1}):
  afS (model prog w) A (getAttr (.ref x) name expr) Q E s:=by
 let⟨od,J,hl⟩:=I.look;show PySem.W.get_value X J (ajI hg).1 (PySem.W.findObj_own hh ha rfl (by rw[hl,hv])) hv' h
theorem get_meth{pl:Sem Bool}{Q:afL×List afL->afN->Prop}(X:K.In s.heap)(I:ObjM s.heap x dx C mA)(hg:aiH K C name=true)
  (hf:af8 K (.ref C) name=some (some (.ref f)))(ht:aiZ K (.ref f)=true)(hv:mA name=none)(h:Q (.ref f,[.ref x]) s):
  afS (model prog w) A (aiE (.ref x) name pl) Q E s:=by
 let⟨od,J,hl⟩:=I.look;show PySem.W.method_fn X J (ajI hg).1 (ajI hg).2 hf (beq_iff_eq.mp ht) (by show (ajO name od).map (·.isSome)=some false;rw[hl,hv];rfl) h
theorem set_map{ns:List Str}{Q:Unit->afN->Prop}(X:K.In s.heap)(I:ObjM s.heap x dx C mA)
  (hs:af8 K (.ref C) "__setattr__" =some (some (.builtin "object.__setattr__")))(hp:ake K C=true)(ht:akN K C name=some none)(hh:aja K C=true)
  (hw:PySem.Within mA ns)(hsz:ns.length<=sizeLine)
  (h:∀h',ObjM h' x dx C (λy=>if y=name then some v else mA y)->ahb dx s.heap h'->Q Unit.unit {s with heap:=h',toks:=s.toks+2}):
  afS (model prog w) A (setAttr (.ref x) name v) Q E s:=by
 let⟨od,J,hl⟩:=I.look;show PySem.W.set_plain X J hs (PySem.W.osa_open (s:={s with toks:=s.toks+1}) (r:=none) X J hp ht λb=>?_);let⟨cd,hc,hd'⟩:=PySem.W.any_some hh;have hx:s.heap.get? x=some ⟨.ref C,some dx,.plain,#[]⟩:=I.obj;show aft (afQ (aft (aft (wpAny_loadPart hx (aft (PySem.W.Looks.here (s:={s with toks:=s.toks+1}) (PySem.W.looks_clsIn X hc) ?_))))));rw[hd'];show afQ (a:=some dx) (aft (afQ (aft ?_)));show wpAny_nsSet1 (s:={s with toks:=s.toks+1}) I.ns λh' hn2 hs2=>?_;let⟨oD,esD,epD,hoD,hdD,hcD⟩:=hn2.count (PySem.Within.cons name v hw);show aft (wpAny_lookBehind hoD (by rw[hdD];show pastItsLine_dict (z0b hcD (by rw[afY];omega))) ?_);show afQ (h _ ⟨(hs2.2 _ (afT I.ne)).trans I.obj,hn2,I.ne⟩ hs2)
theorem make_map{R:Result->afN->Prop}{vs:List afL}(X:K.In s.heap)(hm:akO K C=true)
  (hi:af8 K (.ref C) "__init__" =some (some (.ref f)))(hf:PySem.W.typeIn K (.ref f)=some (.type "function"))
  (h:ai4 (model prog w) (A.under (.builtin "type.__call__" ⟨.ref C::vs,kw⟩)) (.call (.ref f) ⟨.ref (s.heap.objs.size+1)::vs,kw⟩) (PySem.W.InitBack (s.heap.objs.size+1) R)
   {s with heap:=(s.heap.push ahh).push (ahF C s.heap.objs.size)}):
  ai4 (model prog w) A (.call (.ref C) ⟨vs,kw⟩) R s:=by
 let⟨hh,g,d,t,os⟩:=s;show PySem.W.make_core (PySem.W.makes_of X hm) (aiI X hi) (λself=>PySem.W.bind_fn X self hf) (.inl rfl) h
end
def putF(f:Str)(v:V):List (Str×V)->List (Str×V)
 |[]=>[(f,v)]
 |(g,x)::r=>if g=f then (g,v)::r else (g,x)::putF f v r
theorem lookup_putF(f g:Str)(v:V):∀fs:List (Str×V),(putF f v fs).lookup g=if g=f then some v else fs.lookup g
 | []=>by
  show ahD g [(f,v)]=_;by_cases h:g=f
  .have hb:(g ==f)=true:=beq_iff_eq.mpr h;simp only[ahD,hb,z9p h]
  .have hb:(g ==f)=false:=beq_eq_false_iff_ne.mpr h;simp only[ahD,hb,z9n h]
 | (k, x)::r=>by
  have ih:=lookup_putF f g v r;rw[show putF f v ((k,x)::r)=(if k=f then (k,v)::r else (k,x)::putF f v r) from rfl];by_cases hk:k=f
  .rw[z9p hk];by_cases h:g=k
   .have hb:(g ==k)=true:=beq_iff_eq.mpr h;simp only[ahD,hb,z9p (h.trans hk)]
   .have hb:(g ==k)=false:=beq_eq_false_iff_ne.mpr h;simp only[ahD,hb,z9n (λe:g=f=>h (e.trans hk.symm))]
  .rw[z9n hk];by_cases h:g=k
   .have hb:(g ==k)=true:=beq_iff_eq.mpr h;simp only[ahD,hb,z9n (λe:g=f=>hk (h.symm.trans e))]
   .have hb:(g ==k)=false:=beq_eq_false_iff_ne.mpr h;simp only[ahD,hb];show ih
theorem keys_putF(f:Str)(v:V):∀fs:List (Str×V),f∈(putF f v fs).map (·.1)/\∀g,g∈fs.map (·.1)->g∈(putF f v fs).map (·.1)
 |[]=>⟨by simp[putF],λg h=>by simp at h⟩
 | (k, x)::r=>by
  let⟨i1,i2⟩:=keys_putF f v r;rw[show putF f v ((k,x)::r)=(if k=f then (k,v)::r else (k,x)::putF f v r) from rfl];by_cases hk:k=f
  .rw[z9p hk];subst hk;show⟨(),λg h=>by simpa using h⟩
  .rw[z9n hk];show⟨?_,λg h=>?_⟩
   .rw[z1h];show z2f _ i1
   .rw[z1h] at h |-;rcases af9.mp h with e |e
    .show af9.mpr (.inl e)
    .show z2f _ (i2 g e)
theorem length_putF(f:Str)(v:V):∀fs:List (Str×V),(putF f v fs).length<=fs.length+1
 |[]=>by simp[putF]
 | (k,x)::r=>by
  have ih:=length_putF f v r;rw[show putF f v ((k,x)::r)=(if k=f then (k,v)::r else (k,x)::putF f v r) from rfl];by_cases hk:k=f
  .rw[z9p hk,afY,afY];omega
  .rw[z9n hk,afY,afY];omega
theorem RelO.some_of{v:V}{o:Option afL}(r:RelO (some v) o):∃u,o=some u/\RelV v u:=by
 cases o with
 |none=>show (show False from r).elim
 |some u=>show⟨u,rfl,r⟩
theorem RelO.none_of{o:Option afL}(r:RelO none o):o=none:=by
 cases o with
 |none=>rfl
 |some u=>show (show False from r).elim
theorem handed_of{v:V}{u:afL}(r:RelV v u):w0a u=true:=by
 cases v with
 |non=>cases (show u=agi from r);rfl
 |bl b=>cases (show u=akl b from r);rfl
 |int i=>let⟨t,e⟩:=(show ∃t,u=aiC i t from r);cases e;rfl
 |str x=>let⟨t,e⟩:=(show ∃t,u=ajW x t from r);cases e;rfl
 |byt b=>let⟨t,e⟩:=(show ∃t,u=Value.bytes b t from r);cases e;rfl
 |flt b=>let⟨t,e⟩:=(show ∃t,u=Value.float b t from r);cases e;rfl
 |ref a=>cases (show u=af0 a from r);rfl
 |ty n=>cases (show u=af3 n from r);rfl
section
variable{P:afZ}{w:af4}{H H':Hp}{h h':af2}{a C dx:afK}{fs fs':List (Str×V)}
theorem ins_get(hok:HOk P w H h)(e:H a=some (.ins C dx fs)):∃mA,ObjM h a dx C mA/\(∀f,RelO (fs.lookup f) (mA f))/\PySem.Within mA (fs.map (·.1))/\fs.length<=1000/\H dx=some (.own a):=by
 let⟨d,z,ne,ob,mA,n,r,q⟩:=(show ObjOk P w H h a (.ins C dx fs) from hok a _ e);show⟨mA,⟨ob,n,ne⟩,r,q,z,d⟩
end
structure Cls(K:afM)(C:afK):Prop where
 pg:aiH K C Str.empty=true
 hd:aja K C=true
 po:ake K C=true
 sa:af8 K (.ref C) "__setattr__" =some (some (.builtin "object.__setattr__"))
theorem Cls.get(c:Cls K C)(f:Str):aiH K C f=true:=c.pg
def NoAttr(K:afM)(C:afK)(f:Str):Prop:=af8 K (.ref C) f=some none
theorem NoAttr.taker{f:Str}(n:NoAttr K C f):akN K C f=some none:=by
 unfold akN;rw[show af8 K (.ref C) f=some none from n];rfl
structure Meth(K:afM)(C:afK)(m:Str)(f:afK):Prop where
 at_:af8 K (.ref C) m=some (some (.ref f))
 fn:aiZ K (.ref f)=true
 kp:agg K (.ref f)=true
section
variable{X:Cx}{pins:List (afK×Obj)}{σ:St}{H:Hp}{s:afN}{a C dx:afK}{fs:List (Str×V)}{f:Str}{v:V}{A:af5}{E:afL->afN->Prop}
theorem getattr_ok{b:Bool}(I:Inv X pins σ H s)(e:H a=some (.ins C dx fs))(c:Cls X.K C)(n:NoAttr X.K C f)(l:fs.lookup f=some v)
  (h:∀u s',Inv X pins σ H s'->RelV v u->Q u s'):afS (model X.prog X.w) A (getAttr (.ref a) f b) Q E s:=by
 let⟨mA,O,r,_,_,_⟩:=ins_get I.hok e;let⟨u,hu,ru⟩:=RelO.some_of (v:=v) (o:=mA f) (by rw[<-l];show r f);show get_map I.kIn O (c.get f) c.hd n hu (handed_of ru) (h u _ (I.tok _) ru)
theorem getmeth_ok{m:Str}{g:afK}{pl:Sem Bool}{Q:afL×List afL->afN->Prop}(I:Inv X pins σ H s)(e:H a=some (.ins C dx fs))(c:Cls X.K C)(k:Meth X.K C m g)(l:fs.lookup m=none)
  (h:Q (.ref g,[.ref a]) s):afS (model X.prog X.w) A (aiE (.ref a) m pl) Q E s:=by
 let⟨mA,O,r,_,_,_⟩:=ins_get I.hok e;have hn:mA m=none:=RelO.none_of (by rw[<-l];show r m);show get_meth I.kIn O (c.get m) k.at_ k.fn hn h
theorem setattr_ok{y:V}{u:afL}{Q:Unit->afN->Prop}(I:Inv X pins σ H s)(e:H a=some (.ins C dx fs))(c:Cls X.K C)(n:NoAttr X.K C f)(hl:fs.length<1000)(ry:RelV y u)
  (h:∀s',Inv X pins σ (upd H a (.ins C dx (putF f y fs))) s'->Q Unit.unit s'):afS (model X.prog X.w) A (setAttr (.ref a) f u) Q E s:=by
 let⟨mA,O,r,wi,_,ho⟩:=ins_get I.hok e;have hz:(fs.map (·.1)).length<=sizeLine:=by rw[z1g,ahC];omega
 show set_map I.kIn O c.sa c.po n.taker c.hd wi hz λh' O' sb=>h _ ?_;have hd:∃o,h'.get? dx=some o:=let⟨o,_,_,e',_⟩:=O'.ns;⟨o,e'⟩
 show I.write (x:=a) (e:=dx) (by rw[e];show ajA) (.inr ho) (λb q hb z=>(sb.2 b hb).trans z) hd ?_;show⟨by rw[upd_ne O.ne];show ho,?_,O.ne,O'.obj,_,O'.ns,λg=>?_,λg hg=>?_⟩
 .have:=length_putF f y fs;omega
 .show RelO ((putF f y fs).lookup g) (if g=f then some u else mA g);rw[lookup_putF];by_cases q:g=f
  .rw[z9p q,z9p q];show ry
  .rw[z9n q,z9n q];show r g
 .by_cases q:g=f
  .rw[q];show (keys_putF f y fs).1
  .show (keys_putF f y fs).2 g (wi g λz=>hg ?_);show (if g=f then some u else mA g)=none;rw[z9n q];show z
theorem Inv.made(I:Inv X pins σ H s):Inv X pins σ (upd (upd H s.heap.objs.size (.own (s.heap.objs.size+1))) (s.heap.objs.size+1) (.ins C s.heap.objs.size []))
  {s with heap:=(s.heap.push ahh).push (ahF C s.heap.objs.size)}:=by
 have e1:(s.heap.push ahh).get? s.heap.objs.size=some ahh:=z1f s.heap rfl;have e2:((s.heap.push ahh).push (ahF C s.heap.objs.size)).get? (s.heap.objs.size+1)=some (ahF C s.heap.objs.size):=by
  have:=z1f (s.heap.push ahh) (o:=ahF C s.heap.objs.size) rfl
  rwa [agw] at this
 have e3:(s.heap.push ahh).Ns s.heap.objs.size (λ_=>none):=⟨ahh,#[],_,e1,rfl,(λe he=>absurd he ()),λ_=>rfl⟩;have I1:=I.laid (a:=s.heap.objs.size) (o:= .own (s.heap.objs.size+1)) (h':=s.heap.push ahh) (t':=s.toks) (λb u q=>z1a _ q) (z0g _) ⟨_,e1⟩;show I1.laid (a:=s.heap.objs.size+1) (o:= .ins C s.heap.objs.size []) (t':=s.toks) (λb u q=>z1a _ q) (Nat.le_of_eq (agw _ _)) ?_;have ne:s.heap.objs.size≠s.heap.objs.size+1:=agD (Nat.lt_succ_self _);show⟨by rw[upd_ne ne,upd_same],ahO _,ne,e2,λ_=>none,(Heap.Ns1.of_empty e3).at λo q=>z1a _ q,λ_=>ajA,λy hy=>absurd rfl hy⟩
theorem attr_of{prog:afZ}{env:Env}{f:Str}{pos:Pos}{s:afN}(hb:ahK e f env (eval e env)=eval e env)
  (h:afS (model prog w) A (eval e env) (λo s₁=>afS (model prog w) A (getAttr o f true) Q E s₁) E s):afS (model prog w) A (eval (.Attribute e f pos) env) Q E s:=
 Attribute_any_ h (by rw[arm_eval_Attribute,hb])
end
def tFld(K:afM)(ta:TE)(f:Str):TE:=λσ H Q=>ta σ H λx H1=>∃a C dx fs v,x= .ref a/\H1 a=some (.ins C dx fs)/\Cls K C/\NoAttr K C f/\fs.lookup f=some v/\Q v H1
def sFld(K:afM)(ta tv:TE)(f:Str):TS:=λD σ H=>tv σ H λy H1=>ta σ H1 λx H2=>∃a C dx fs,x= .ref a/\H2 a=some (.ins C dx fs)/\Cls K C/\NoAttr K C f/\fs.length<1000/\
 D.nx σ (upd H2 a (.ins C dx (putF f y fs)))
def InOp(X:Cx)(op:ajN)(rd:V->V->Hp->VK->Prop):Prop:=
 ∀(pins:List (afK×Obj)) (s:afN) (σ:St) (H:Hp) (x y:V) (u v:afL) (Q:VK),Inv X pins σ H s->RelV x u->RelV y v->rd x y H Q->afS (model X.prog X.w) X.A (inplaceOp op u v) (EP X pins σ Q) X.xe s
def sFldAug(K:afM)(ta tv:TE)(rd:V->V->Hp->VK->Prop)(f:Str):TS:=λD σ H=>ta σ H λx H1=>∃a C dx fs v,x= .ref a/\H1 a=some (.ins C dx fs)/\Cls K C/\NoAttr K C f/\fs.lookup f=some v/\
 tv σ H1 λy H2=>rd v y H2 λz H3=>∃dx' fs',H3 a=some (.ins C dx' fs')/\fs'.length<1000/\D.nx σ (upd H3 a (.ins C dx' (putF f z fs')))
section
variable{X:Cx}{o e value:afV}{f:Str}{pos pos' tpos:Pos}{ta tv:TE}
theorem pe_fld(he:PE X e ta)(hb:ahK e f X.env (eval e X.env)=eval e X.env):PE X (.Attribute e f pos) (tFld X.K ta f):=by
 intro pins s σ H Q I h;show attr_of hb (thn (he pins s σ H _ I h) λu s1 bB=>?_);let⟨x,H1,I1,rx,a,C,dx,fs,v,ex,ea,c,n,l,q⟩:=bB;subst ex;obtain rfl:u=af0 a:=rx;show getattr_ok I1 ea c n l λu' s2 I2 ru=>⟨v,H1,I2,ru,q⟩
theorem ps_fld(ha:PE X o ta)(hv:PE X value tv)(hs:ag6 value (some (.Attribute o f pos')) pos.line X.env=pure false):PS X (.Assign [.Attribute o f pos'] value pos) (sFld X.K ta tv f):=by
 intro pins s σ H D I h;show plainObj_wpAny_Assign_Attribute (thn (hv pins s σ H _ I h) λu s1 ⟨y,H1,I1,ry,q⟩=>thn (ha pins s1 σ H1 _ I1 q) λov s2 ⟨x,H2,I2,rx,a,C,dx,fs,ex,ea,c,n,l,q2⟩=>?_) hs;subst ex;obtain rfl:ov=af0 a:=rx;show setattr_ok I2 ea c n l ry λs3 I3=>⟨σ,_,I3,q2⟩
theorem ps_fldaug{op:ajN}{rd:V->V->Hp->VK->Prop}(ha:PE X o ta)(hv:PE X value tv)(hop:InOp X op rd):PS X (.AugAssign (.Attribute o f tpos) op value pos) (sFldAug X.K ta tv rd f):=by
 intro pins s σ H D I h;show wpAny_AugAssign_AttributeAny (thn (ha pins s σ H _ I h) λov s1 bB=>?_);let⟨x,H1,I1,rx,a,C,dx,fs,v,ex,ea,c,n,l,q⟩:=bB;subst ex;obtain rfl:ov=af0 a:=rx;show getattr_ok I1 ea c n l λu s2 I2 ru=>thn (hv pins s2 σ H1 _ I2 q) λw3 s3 ⟨y,H2,I3,ry,q3⟩=>thn (hop pins s3 σ H2 v y u w3 _ I3 ru ry q3) λw4 s4 bB=>?_;let⟨z,H3,I4,rz,dx',fs',ea',l',q4⟩:=bB;show setattr_ok I4 ea' c n l' rz λs5 I5=>⟨σ,_,I5,q4⟩
def rAdd:V->V->Hp->VK->Prop:=λx y H Q=>∃i j,x= .int i/\y= .int j/\Q (.int (i+j)) H
theorem in_add:InOp X .Add rAdd:=by
 rintro pins s σ H x y u v Q I rx ry ⟨i,j,rfl,rfl,q⟩
 let⟨t,rfl⟩:=(show ∃t,u=aiC i t from rx);let⟨t',rfl⟩:=(show ∃t',v=aiC j t' from ry);show PyProof.Rows.iadd_int ⟨.int (i+j),H,I.tok _,⟨_,rfl⟩,q⟩
theorem methcall_of{pl:Sem Bool}{m:Str}{apos:Pos}{args:List afV}(he:PE X e te)(I:Inv X pins σ H s)
  (h:te σ H λx H1=>∃a C dx fs g,x= .ref a/\H1 a=some (.ins C dx fs)/\Cls X.K C/\Meth X.K C m g/\fs.lookup m=none/\
   ∀s1,Inv X pins σ H1 s1->afS (model X.prog X.w) X.A (ajk pos (.ref g) [.ref a] (ago pos (afP args X.env)) (agW pos (agz [] X.env))) Q X.xe s1)
  (ht:eval (.Call (.Attribute e m apos) args [] pos) X.env=(do
   let ov <-eval e X.env
   aix apos.atName
   let (f,first) <-holding [ov] (aiE ov m pl)
   ajk pos f first (ago pos (afP args X.env)) (agW pos (agz [] X.env)))):
  afS (model X.prog X.w) X.A (eval (.Call (.Attribute e m apos) args [] pos) X.env) Q X.xe s:=by
 show aju (pl:=pl) (thn (he pins s σ H _ I h) λu s1 ⟨x,H1,I1,rx,a,C,dx,fs,g,ex,ea,c,k,l,q⟩=>?_) ht;subst ex;obtain rfl:u=af0 a:=rx;show getmeth_ok I1 ea c k l (q s1 I1)
end
section
variable{X:Cx}{pins:List (afK×Obj)}{σ:St}{H:Hp}{s:afN}{A:af5}{E:afL->afN->Prop}{Q:afL->afN->Prop}{c:afL}{b:Bool}
end
structure Room(k:Nat)(A:af5):Prop where
 hd:A.handled=none
 dp:A.depth+3*k+5<recursionLimit
 un:A.units+16*k+200<ahH
theorem Room.mono{j:Nat}(r:Room k A)(h:j<=k):Room j A:=⟨r.hd,by have:=r.dp;omega,by have:=r.un;omega⟩
theorem Room.deeper(r:Room (k+1) A)(env:Env):Room k (A.deeper env):=
 ⟨r.hd,by have:=r.dp;show A.depth+1+3*k+5<_;omega,by have:=r.un;show A.units+3+16*k+200<_;omega⟩
theorem Room.in1(r:Room (k+1) A):Room k A.in1:=
 ⟨r.hd,by have:=r.dp;show A.depth+3*k+5<_;omega,by have:=r.un;show A.units+1+16*k+200<_;omega⟩
theorem make_depth:(A.under (.builtin "type.__call__" ⟨.ref C::us,kw⟩)).depth=A.depth+1:=by
 first |rfl |simp[alb,Code.weight,Code.isCreation,Code.isGuard,Code.isCaller,Code.frames,Code.isFrame,guardIds]
theorem make_units:(A.under (.builtin "type.__call__" ⟨.ref C::us,kw⟩)).units=A.units+1:=by
 first |rfl |simp[alb,Code.cUnits,Code.frames,Code.isFrame]
theorem Room.make(r:Room (k+1) A)(C:afK)(us:List afL)(kw:List (Str×afL)):Room k (A.under (.builtin "type.__call__" ⟨.ref C::us,kw⟩)):=
 ⟨r.hd,by have:=r.dp;rw[make_depth];omega,by have:=r.un;rw[make_units];omega⟩
theorem Room.depth(r:Room k A):A.depth<recursionLimit:=by have:=r.dp;omega
theorem Room.units(r:Room k A):A.units+64<ahH:=by have:=r.un;omega
def tNil:TA:=λ_ H Q=>Q [] H
def tCons(ta:TE)(tr:TA):TA:=λσ H Q=>ta σ H λx H1=>tr σ H1 λxs H2=>Q (x::xs) H2
section
variable{X:Cx}{e:afV}{es:List afV}{te:TE}{t:TA}{pos:Pos}
theorem pa_nil:PA X [] tNil:=λ_ _ _ _ H Q I h=>Calls.spliced_nil ⟨[],H,I,.nil,h⟩
theorem pa_cons(ha:PE X e te)(hr:PA X es t)(hs:afP (e::es) X.env=(false,eval e X.env)::afP es X.env:=by rfl):PA X (e::es) (tCons te t):=by
 intro pos pins s σ H Q I h;rw[hs];show afS _ _ (spliced ((false,eval e X.env)::ago pos (afP es X.env))) _ _ s;show Calls.spliced_cons (thn (ha pins s σ H _ I h) λu s1 bB=>?_);let⟨x,H1,I1,r1,q1⟩:=bB;show thn (hr pos pins s1 σ H1 _ I1 q1) λus s2 bB=>?_;let⟨xs,H2,I2,r2,q2⟩:=bB;show⟨x::xs,H2,I2,.cons r1 r2,q2⟩
def tTup(t:TA):TE:=λσ H Q=>t σ H λxs H1=>xs.length<=sizeLine/\∀p,H1 p=none->Q (.ref p) (upd H1 p (.tup xs))
def tLst(t:TA):TE:=λσ H Q=>t σ H λxs H1=>xs.length<=sizeLine/\∀p,H1 p=none->Q (.ref p) (upd H1 p (.lst xs))
theorem pe_tup{x1}(h:PA X es t):PE X (.Tuple es x1 pos) (tTup t):=by
 intro pins s σ H Q I hq;show wpAny_Tuple_spliced (thn (h pos pins s σ H _ I hq) λus s1 ⟨xs,H1,I1,r,z,q⟩=>⟨by rw[<-r.length];show z,?_⟩);have hf:H1 s1.heap.objs.size=none:=I1.hok.fresh (z0g _);show⟨.ref s1.heap.objs.size,upd H1 s1.heap.objs.size (.tup xs),I1.laid (t':=s1.toks) (λb u e=>z1a _ e) (z0g _) ?_,rfl,q _ hf⟩;show⟨z,us,r,⟨_,z1f _ rfl,rfl,rfl,_,rfl⟩⟩
theorem pe_lst(h:PA X es t):PE X (.List es pos) (tLst t):=by
 intro pins s σ H Q I hq;show wpAny_List_spliced (thn (h pos pins s σ H _ I hq) λus s1 ⟨xs,H1,I1,r,z,q⟩=>⟨by rw[<-r.length];show z,?_⟩);have hf:H1 s1.heap.objs.size=none:=I1.hok.fresh (z0g _);show⟨.ref s1.heap.objs.size,upd H1 s1.heap.objs.size (.lst xs),I1.laid (t':=s1.toks) (λb u e=>z1a _ e) (z0g _) ?_,rfl,q _ hf⟩;show⟨z,us,0,r,z1f _ rfl⟩
end
abbrev Sp:=List V->Hp->VK->XK->Prop
abbrev CXT:=List Env->Hp->afN->XK->afL->afN->Prop
structure Env0(P:afZ)(w:af4)(K:afM)(mg:Str->Option afL)(base:af2)(A:af5)(outer:List Env)(s:afN)(H:Hp):Prop where
 frames:A.frames=some outer
 mod:Mod K mg base
 bs:∀b o,base.get? b=some o->s.heap.get? b=some o/\H b=none
 bsz:base.objs.size<=s.heap.objs.size
 funs:s.heap.FunFrames base outer
 frf:∀b∈frs outer,H b=none
 hok:HOk P w H s.heap
 bare:ai3 s.gens
inductive CE (outer:List Env) (P:afZ) (w:af4) (H:Hp) (s:afN) (Q:VK) (u:afL) (s':afN):Prop
 |mk (v:V) (H':Hp) (os:s'.os=s.os) (bare:ai3 s'.gens) (un:Un (frs outer) [] H H' s.heap s'.heap) (hok:HOk P w H' s'.heap) (r:RelV v u) (q:Q v H'):CE outer P w H s Q u s'
def CR(CX:CXT)(outer:List Env)(P:afZ)(w:af4)(H:Hp)(s:afN)(Q:VK)(E:XK)(r:Result)(s':afN):Prop:=
 match r with
 | .ok (.ret u)=>CE outer P w H s Q u s'
 | .ok _=>False
 | .error e=>CX outer H s E e s'
structure FnOk(P:afZ)(w:af4)(K:afM)(mg:Str->Option afL)(base:af2)(CX:CXT)(k:Nat)(f:afK)(fd:agx)(ps:List Str)(sp:Sp):Prop where
 len:∀vs H Q E,sp vs H Q E->vs.length=ps.length
 run:∀(A:af5) (outer:List Env) (s:afN) (H:Hp) (args:Args) (us:List afL) (vs:List V) (Q:VK) (E:XK),Room k A->Env0 P w K mg base A outer s H->ajv s fd args (ps.zip us)->Vals vs us->sp vs H Q E->
  ai4 (model P w) A (.call (.ref f) args) (CR CX outer P w H s Q E) s
theorem FnOk.mono{j:Nat}{f:afK}{fd:agx}{sp:Sp}(F:FnOk P w K mg base CX j f fd ps sp)(h:j<=k):
  FnOk P w K mg base CX k f fd ps sp:=⟨F.len,λA outer s H args us vs Q E hr=>F.run A outer s H args us vs Q E (hr.mono h)⟩
theorem Env0.make(e:Env0 P w K mg base A outer s H)(C:afK)(us:List afL)(kw:List (Str×afL)):
  Env0 P w K mg base (A.under (.builtin "type.__call__" ⟨.ref C::us,kw⟩)) outer s H:=⟨by first |show e.frames |(simpa[alb,Code.envs,Code.isFrame,pushEnvs] using e.frames),e.mod,e.bs,e.bsz,e.funs,e.frf,e.hok,e.bare⟩
theorem Env0.in1(e:Env0 P w K mg base A outer s H):
  Env0 P w K mg base A.in1 outer s H:=⟨e.frames,e.mod,e.bs,e.bsz,e.funs,e.frf,e.hok,e.bare⟩
section
variable{X:Cx}{pins:List (afK×Obj)}{σ:St}{H:Hp}{s s':afN}
theorem Inv.env0(I:Inv X pins σ H s):Env0 X.prog X.w X.K X.mg X.base X.A X.stack s H:=
 ⟨I.ok.frames,I.ok.mod,I.bs,z0b I.ok.bsz I.sz,I.stack,I.stkFree,I.hok,I.bare⟩
theorem Inv.after{Q:VK}{u:afL}(I:Inv X pins σ H s)(h:CE X.stack X.prog X.w H s Q u s'):EP X pins σ Q u s':=by
 let⟨v,H',os,bare,un,hok,r,q⟩:=h;let⟨hh,g,d,t,os'⟩:=s';obtain rfl:os'=s.os:=os;show⟨v,H',I.call (h':=hh) (g':=g) (d':=d) (t':=t) (ch:=[]) un hok bare (λb z=>absurd z ()),r,q⟩
end
def tCall(sp:Sp)(dvs:List V)(E:XK)(t:TA):TE:=λσ H Q=>t σ H λvs H1=>sp (vs++dvs) H1 Q E
def tMeth(C:afK)(m:Str)(sp:Sp)(dvs:List V)(E:XK)(ta:TE)(t:TA):TE:=λσ H Q=>ta σ H λx H1=>∃a dx fs,x= .ref a/\H1 a=some (.ins C dx fs)/\fs.lookup m=none/\
 t σ H1 λvs H2=>sp (x::(vs++dvs)) H2 Q E
def Binds(K:afM)(fd:agx)(ps:List Str)(ds:List afL):Prop:=
 ∀(s:afN) (us:List afL),K.In s.heap->(us++ds).length=ps.length->ajv s fd ⟨us,[]⟩ (ps.zip (us++ds))
theorem Binds.all{fd:agx}(h:∀us:List afL,us.length=ps.length->ah1 fd ⟨us,[]⟩=pure (ps.zip us)):Binds K fd ps []:=λs us _ hl=>by
 rw[ags] at hl |-;show .of_eq (h us hl)
def Passes(CX:CXT)(X:Cx)(E:XK):Prop:=∀(pins:List (afK×Obj)) (σ:St) (H:Hp) (s:afN) (e:afL) (s':afN),Inv X pins σ H s->CX X.stack H s E e s'->X.xe e s'
section
variable{X:Cx}{CX:CXT}{k:Nat}{f C:afK}{fd:agx}{ps:List Str}{sp:Sp}{dvs:List V}{ds:List afL}{E:XK}{x m:Str}{p pos apos:Pos}{e o:afV}{es:List afV}{ta:TE}{t:TA}
theorem run_fn{Q:VK}{vs:List V}(F:FnOk X.prog X.w X.K X.mg X.base CX k f fd ps sp)(hr:Room k X.A)(hb:Binds X.K fd ps ds)(hd:Vals dvs ds)(hx:Passes CX X E)
  (I:Inv X pins σ H s)(r:Vals vs us)(h:sp (vs++dvs) H Q E):afS (model X.prog X.w) X.A (call (.ref f) us) (EP X pins σ Q) X.xe s:=by
 have r2:Vals (vs++dvs) (us++ds):=r.append hd;have hl:(us++ds).length=ps.length:=by rw[<-r2.length];show F.len _ _ _ _ h
 show ahP (ahI (F.run X.A X.stack s H ⟨us,[]⟩ (us++ds) (vs++dvs) Q E hr I.env0 (hb s us I.kIn hl) r2 h) λr s' hq=>?_);cases r with
 |error e=>show hx pins σ H s e s' I hq
 | ok fl=>
  cases fl with
  |ret u=>show I.after hq
  |next=>show agm hq
  |brk=>show agm hq
  |cont=>show agm hq
theorem pe_call(F:FnOk X.prog X.w X.K X.mg X.base CX k f fd ps sp)(hr:Room k X.A)(hg:Gl X x)(hm:X.mg x=some (.ref f))(hk:agg X.K (.ref f)=true)(hb:Binds X.K fd ps ds)(hd:Vals dvs ds)(hx:Passes CX X E)
  (ha:PA X (e::es) t)(hdb:(x ==("__debug__" :Str))=false:=by decide)(he:afP (e::es) X.env=(false,eval e X.env)::afP es X.env:=by rfl)(hpl:(ago pos (afP es X.env)).any (·.1)=false:=by rfl):
  PE X (.Call (.Name x p) (e::es) [] pos) (tCall sp dvs E t):=by
 intro pins s σ H Q I h;show agX (ld_glob I hg hm ?_ hdb);show ahS (h₀:=X.base) I.ok.mod.kin hk (thn (ha pos pins s σ H _ I h) λus s1 ⟨vs,H1,I1,r,q⟩=>⟨I1.kIn,?_⟩) he hpl;show run_fn F hr hb hd hx I1 r q
theorem pe_meth{pl:Sem Bool}(he:PE X o ta)(c:Cls X.K C)(hm:Meth X.K C m f)(F:FnOk X.prog X.w X.K X.mg X.base CX k f fd ps sp)(hr:Room k X.A)(hb:Binds X.K fd ps ds)(hd:Vals dvs ds)(hx:Passes CX X E)(ha:PA X (e::es) t)
  (hst:afP (e::es) X.env=(false,eval e X.env)::afP es X.env:=by rfl)(hpl:(ago pos (afP es X.env)).any (·.1)=false:=by rfl)
  (ht:eval (.Call (.Attribute o m apos) (e::es) [] pos) X.env=(do
   let ov <-eval o X.env
   aix apos.atName
   let (f,first) <-holding [ov] (aiE ov m pl)
   ajk pos f first (ago pos (afP (e::es) X.env)) (agW pos (agz [] X.env))):=by rfl):
  PE X (.Call (.Attribute o m apos) (e::es) [] pos) (tMeth C m sp dvs E ta t):=by
 intro pins s σ H Q I h;show aju (pl:=pl) (thn (he pins s σ H _ I h) λu s1 ⟨x,H1,I1,rx,a,dx,fs,ex,ea,l,q⟩=>?_) ht;subst ex;obtain rfl:u=af0 a:=rx;show getmeth_ok I1 ea c hm l ?_;show ahS (first:=[.ref a]) (h₀:=X.base) I.ok.mod.kin hm.kp (thn (ha pos pins s1 σ H1 _ I1 q) λus s2 ⟨vs,H2,I2,r,q2⟩=>⟨I2.kIn,?_⟩) hst hpl;show run_fn (us:= .ref a::us) (vs:= .ref a::vs) F hr hb hd hx I2 (.cons rfl r) q2
theorem pe_meth0{pl:Sem Bool}(he:PE X o ta)(c:Cls X.K C)(hm:Meth X.K C m f)(F:FnOk X.prog X.w X.K X.mg X.base CX k f fd ps sp)(hr:Room k X.A)(hb:Binds X.K fd ps ds)(hd:Vals dvs ds)(hx:Passes CX X E)
  (ht:eval (.Call (.Attribute o m apos) [] [] pos) X.env=(do
   let ov <-eval o X.env
   aix apos.atName
   let (f,first) <-holding [ov] (aiE ov m pl)
   ajk pos f first (ago pos (afP [] X.env)) (agW pos (agz [] X.env))):=by rfl):
  PE X (.Call (.Attribute o m apos) [] [] pos) (tMeth C m sp dvs E ta tNil):=by
 intro pins s σ H Q I h;show aju (pl:=pl) (thn (he pins s σ H _ I h) λu s1 ⟨x,H1,I1,rx,a,dx,fs,ex,ea,l,q⟩=>?_) ht;subst ex;obtain rfl:u=af0 a:=rx;show getmeth_ok I1 ea c hm l ?_;show PySem.W.callWith_K0 (first:=[.ref a]) I1.kIn hm.kp (run_fn (us:=[.ref a]) (vs:=[.ref a]) F hr hb hd hx I1 (.cons rfl .nil) q)
structure Mk(K:afM)(C f:afK):Prop where
 makes:akO K C=true
 init:af8 K (.ref C) "__init__" =some (some (.ref f))
 fn:aiZ K (.ref f)=true
 kp:agg K (.ref C)=true
end
def PK(X:Cx)(kws:List ahW)(t:TA):Prop:=
 ∀(pos:Pos) (pins:List (afK×Obj)) (s:afN) (σ:St) (H:Hp) (Q:List V->Hp->Prop),Inv X pins σ H s->t σ H Q->afS (model X.prog X.w) X.A (evalAll ((agW pos (agz kws X.env)).map (·.2))) (AP X pins σ Q) X.xe s
section
variable{X:Cx}{CX:CXT}{k:Nat}{f C:afK}{fd:agx}{ps ks:List Str}{sp:Sp}{E:XK}{x m:Str}{p pos apos kpos:Pos}{e o:afV}{es:List afV}{kws:List ahW}{te ta:TE}{t tk:TA}{nm:Option Str}
theorem pk_nil:PK X [] tNil:=λ_ _ _ _ H Q I h=>wpAny_evalAll_nil ⟨[],H,I,.nil,h⟩
theorem pk_cons(ha:PE X e te)(hr:PK X kws t):PK X (⟨nm,e,kpos⟩::kws) (tCons te t):=by
 intro pos pins s σ H Q I h;show afS _ _ (evalAll ((do let v <-eval e X.env;aix pos;pure v)::(agW pos (agz kws X.env)).map (·.2))) _ _ s;show wpAny_evalAll_cons (aft (thn (ha pins s σ H _ I h) λu s1 ⟨x,H1,I1,r1,q1⟩=>aft (aj4 (afQ ?_))));show thn (hr pos pins s1 σ H1 _ I1 q1) λus s2 bB=>?_;let⟨xs,H2,I2,r2,q2⟩:=bB;show⟨x::xs,H2,I2,.cons r1 r2,q2⟩
variable{g:List afL->List afL->List afL}{gV:List V->List V->List V}
end
structure FnScope(N P:List Str)(sc:ahp):Prop where
 kind:sc.kind= .function
 co:sc.isCoroutine=false
 gen:sc.isGenerator=false
 nd:N.Nodup
 pre:N.take P.length=P
 par:∀x∈P,sc.names.lookup x=some .local\/sc.names.lookup x=some .cell
 nofree:∀y∈sc.names,y.2≠.free
theorem bindL_out{kindOf:Str->Option aic}{x:Str}:∀{binds:List (Str×afL)} {m:Str->Option afL},(∀v,(x,v)∉binds)->bindL kindOf binds m x=m x
 |[],_,_=>rfl
 | (n,v)::r,m,h=>by
  unfold bindL;rw[bindL_out λw hw=>h w (z2f _ hw)];split
  .have:x≠n:=by rintro rfl;show h v agl
   simp[this]
  .rfl
theorem bindC_out{kindOf:Str->Option aic}{x:Str}:∀{binds:List (Str×afL)} {m:Str->Option afL},(∀v,(x,v)∉binds)->bindC kindOf binds m x=m x
 |[],_,_=>rfl
 | (n,v)::r,m,h=>by
  unfold bindC;rw[bindC_out λw hw=>h w (z2f _ hw)];split
  .rfl
  .have:x≠n:=by rintro rfl;show h v agl
   simp[this]
theorem bindL_get{kindOf:Str->Option aic}{x:Str}{v:afL}:∀{P:List Str} {vs:List afL} {i:Nat} {m:Str->Option afL},P.Nodup->P[i]?=some x->vs[i]?=some v->kindOf x=some .local->
  bindL kindOf (P.zip vs) m x=some v
 |[],_,_,_,_,h,_,_=>by simp at h
 |_::_,[],_,_,_,_,h,_=>by simp at h
 | p::P,w::vs,0,m,nd,h1,h2,hk=>by
  simp at h1 h2;subst h1;subst h2;show bindL kindOf ((p,w)::P.zip vs) m p=_;unfold bindL;rw[bindL_out λv hv=>(aiT.mp nd).1 (ajB hv).1,z9p hk];simp
 | p::P,w::vs,i+1,m,nd,h1,h2,hk=>by
  show bindL kindOf ((p,w)::P.zip vs) m x=_;unfold bindL;show bindL_get (i:=i) (aiT.mp nd).2 (by simpa using h1) (by simpa using h2) hk
theorem bindC_get{kindOf:Str->Option aic}{x:Str}{v:afL}:∀{P:List Str} {vs:List afL} {i:Nat} {m:Str->Option afL},P.Nodup->P[i]?=some x->vs[i]?=some v->kindOf x≠some .local->
  bindC kindOf (P.zip vs) m x=some v
 |[],_,_,_,_,h,_,_=>by simp at h
 |_::_,[],_,_,_,_,h,_=>by simp at h
 | p::P,w::vs,0,m,nd,h1,h2,hk=>by
  simp at h1 h2;subst h1;subst h2;show bindC kindOf ((p,w)::P.zip vs) m p=_;unfold bindC;rw[bindC_out λv hv=>(aiT.mp nd).1 (ajB hv).1,z9n hk];simp
 | p::P,w::vs,i+1,m,nd,h1,h2,hk=>by
  show bindC kindOf ((p,w)::P.zip vs) m x=_;unfold bindC;show bindC_get (i:=i) (aiT.mp nd).2 (by simpa using h1) (by simpa using h2) hk
def start(N:List Str)(vs:List V):St:=vs.map some++afO (N.length - vs.length) none
def cxOf(CX:CXT)(P:afZ)(w:af4)(K:afM)(mg:Str->Option afL)(base:af2)(N:List Str)(qual:Str)(scope:ahp)(f:afK)(cd:afL)(A:af5)(outer:List Env)(s:afN)(H:Hp)(E:XK):Cx where
 prog:=P
 w:=w
 K:=K
 mg:=mg
 base:=base
 A:=A.deeper (ag9 qual scope s.heap.objs.size f cd)
 N:=N
 s₀:=s
 H₀:=H
 env:=ag9 qual scope s.heap.objs.size f cd
 outer:=outer
 stack:=ag9 qual scope s.heap.objs.size f cd::outer
 ex:=[]
 calm:=true
 fn:=λ_=>true
 pn:=[]
 xe:=λe s'=>afS (model P w) (A.deeper (ag9 qual scope s.heap.objs.size f cd)) (leaving (ag9 qual scope s.heap.objs.size f cd) e) (λ_ s''=>CX outer H s E e s'') (λe' s''=>CX outer H s E e' s'') s'
theorem cell_has{sc:ahp}{n:Nat}{x:Str}(h:sc.names.lookup x=some .cell):∃c,(agj n sc.names []).lookup x=some c:=by
 have q:=aiv sc.names n [] (.inl h);show ahc.mp q
theorem inv_start{qual:Str}{scope:ahp}{f:afK}{cd:afL}{s1:afN}{E:XK}{vs:List V}
  (S:FnScope N ps scope)(hd:A.handled=none)(e0:Env0 P w K mg base A outer s H)(hl:vs.length=ps.length)(r:Vals vs us)
  (x:InCallC s s.heap.objs.size (bindL (ag9 qual scope s.heap.objs.size f cd).kindOf (ps.zip us) λ_=>none) (agj (s.heap.objs.size+1) scope.names []) (bindC (ag9 qual scope s.heap.objs.size f cd).kindOf (ps.zip us) λ_=>none) s1):
  Inv (cxOf CX P w K mg base N qual scope f cd A outer s H E) [] (start N vs) H s1:=by
 have hpl:ps.length<=N.length:=by have:=congrArg aiP S.pre;rw[aiJ] at this;omega
 let⟨h1,tk,rfl,hk⟩:=x.done;have noA:∀b:afK,b∉(cxOf CX P w K mg base N qual scope f cd A outer s H E).ex:=λb z=>absurd (show b∈([]:List afK) from z) ();show⟨⟨e0.mod,S.kind,rfl,rfl,z0g _,λy z c h1 h2=>?_,λy hy=>?_,λy c _ h=>?_,λ_=>hd,Around.frames_deeper e0.frames,.inr ⟨rfl,rfl⟩,λb z=>absurd z (noA b),e0.bs,e0.bsz,λb _ _=>noA b,λb z=>absurd z (noA b),e0.funs,e0.frf⟩,
  rfl,e0.bare,Un.kept hk,⟨_,x.toInCall.ns,λi y v h1 h2 h3=>?_⟩,λy c h=>⟨_,x.cell y c h⟩,e0.hok.fresh (z0g _),λy c h=>?_,λp hp=>absurd (show p∈([]:List (afK×Obj)) from hp) (),e0.hok.kept hk,?_⟩
 .show name_of_addr x.apart (agd h1) (agd h2)
 .have hy:scope.names.lookup y=some .cell\/scope.names.lookup y=some .free:=hy;rcases hy with hy |hy
  .show cell_has hy
  .show absurd rfl (S.nofree _ (agd hy))
 .show z0e (x.above y c (agd h))
 .have hi:i<vs.length:=by
   unfold start at h2;by_cases hi:i<vs.length
   .show hi
   .rw[agu (by simpa using hi)] at h2;rw[ahf] at h2;split at h2 <;> cases h2
  have ha:vs[i]?=some v:=by
   unfold start at h2;rw[agJ (by simpa using hi),z2b] at h2;cases e:vs[i]? with
   |none=>rw[e] at h2;cases h2
   |some a=>rw[e] at h2;cases h2;rfl
  let⟨u,hu,rv⟩:=r.get ha;have hp:ps[i]?=some y:=by
   rw[<-S.pre,aku ()];show h1
  have ndP:ps.Nodup:=by rw[<-S.pre];show S.nd.sublist (List.take_sublist _ _)
  show⟨u,rv,?_⟩;rcases S.par y (agF hp) with k |k
  .show .inl ⟨k,bindL_get ndP hp hu k⟩
  .let⟨c,e⟩:=cell_has (n:=s.heap.objs.size+1) k;show .inr ⟨.inl k,c,e,?_⟩;have q:=x.cell y c e;rw[bindC_get ndP hp hu (by show scope.names.lookup y≠_;rw[k];decide)] at q;show q
 .show e0.hok.fresh (z0e (x.above y c (agd h)))
 .unfold start;show _=N.length;rw[z1d,z1g,agt];omega
theorem fn_of{f:afK}{name qual:Str}{params:ah8}{scope:ahp}{dV kV doc pm cdv ct oc:afL}{an od:Option afK}
  {osl:Array (Option afL)}{sp:Sp}(lk:K.lookup f=some ⟨oc,od,.func (agy name qual params body scope dV kV doc pm an cdv ct),osl⟩)(hcd:ahd K cdv qual=true)(S:FnScope N ps scope)
  (len:∀vs H Q E,sp vs H Q E->vs.length=ps.length)
  (hbody:∀(A:af5) (outer:List Env) (s:afN) (H:Hp) (vs:List V) (Q:VK) (E:XK),Room k (A.deeper (ag9 qual scope s.heap.objs.size f cdv))->sp vs H Q E->
   ∃t,PSs (cxOf CX P w K mg base N qual scope f cdv A outer s H E) body t/\t {nx:=λ_ H'=>Q .non H',rt:=Q} (start N vs) H):
  FnOk P w K mg base CX (k+1) f (agy name qual params body scope dV kV doc pm an cdv ct) ps sp:=by
 show⟨len,λA outer s H args us vs Q E hr e0 hb r hsp=>?_⟩;have hl:=len _ _ _ _ hsp;have KX:K.In s.heap:=e0.mod.kin.keeps λb o e=>(e0.bs b o e).1;have lim:s.heap.NoLimit:=e0.mod.nolimit.keeps λb o e=>(e0.bs b o e).1;have hkind:∀y∈ps.zip us,scope.names.lookup y.1=some .local\/(scope.names.lookup y.1=some .cell/\((agj (s.heap.objs.size+1) scope.names []).lookup y.1).isSome=true):=λ⟨n,v⟩ hy=>by
  rcases S.par n (ajB hy).1 with q |q
  .show .inl q
  .show .inr ⟨q,aiv _ _ _ (.inl q)⟩
 show codeAny_call_function hr.depth (KX _ _ lk) rfl S.co S.gen rfl (PySem.W.codeRec_of KX hcd) (hb _ _ _ _ ?_);show wpAny_newFunctionEnv_cells S.kind hkind λenv he s1 x=>?_;subst he;show⟨lim.keeps x.toInCall.keep,codeAny_func ?_⟩;let⟨t,ht,hq⟩:=hbody A outer s H vs Q E (hr.deeper _) hsp;have I:Inv (cxOf CX P w K mg base N qual scope f cdv A outer s H E) [] (start N vs) H s1:=inv_start S hr.hd e0 hl r x;show agL (ht [] s1 (start N vs) H _ I hq) (λfl s' hs=>?_) λe s' hs=>hs;have fin:∀{σ':St} {H':Hp} {v:V} {u:afL},Inv (cxOf CX P w K mg base N qual scope f cdv A outer s H E) [] σ' H' s'->RelV v u->Q v H'->CE outer P w H s Q u s':=
  λ{σ' H' v u} J rv q=>⟨v,H',J.os,J.bare,J.base,J.hok,rv,q⟩
 cases fl with
 | ret u=>
  let⟨v,σ',H',J,rv,q⟩:=hs;show fin J rv q
 | next=>
  let⟨σ',H',J,q⟩:=hs;show fin (v:=V.non) (u:=agi) J rfl q
 | brk=>
  let⟨_,_,_,q⟩:=hs;show agm q
 | cont=>
  let⟨_,_,_,q⟩:=hs;show agm q
section
variable{X:Cx}{x:Str}{p pos:Pos}{e:afV}{es:List afV}{t:TA}{id T:String}{r:List V->Hp->VK->Prop}
def tCB(r:List V->Hp->VK->Prop)(t:TA):TE:=λσ H Q=>t σ H λvs H1=>r vs H1 Q
theorem pe_callB(hc:CallR X (.builtin id) r)(hg:Gl X x)(hm:X.mg x=none)(hv:ahv x=some (.builtin id))(ha:PA X (e::es) t)(hn:x≠"__name__" :=by decide)(hdb:(x ==("__debug__" :Str))=false:=by decide)
  (he:afP (e::es) X.env=(false,eval e X.env)::afP es X.env:=by rfl)(hpl:(ago pos (afP es X.env)).any (·.1)=false:=by rfl):PE X (.Call (.Name x p) (e::es) [] pos) (tCB r t):=by
 intro pins s σ H Q I h;show agX (ld_blt I hg hm hv ?_ hn hdb);show PyProof.Rows.callWith_builtin1 (thn (ha pos pins s σ H _ I h) λus s1 ⟨vs,H1,I1,r1,q1⟩=>hc pins s1 σ H1 vs us Q I1 r1 q1) he hpl
theorem pe_callTy(hc:CallR X (.type T) r)(hg:Gl X x)(hm:X.mg x=none)(hv:ahv x=some (.type T))(ha:PA X (e::es) t)(hn:x≠"__name__" :=by decide)(hdb:(x ==("__debug__" :Str))=false:=by decide)
  (he:afP (e::es) X.env=(false,eval e X.env)::afP es X.env:=by rfl)(hpl:(ago pos (afP es X.env)).any (·.1)=false:=by rfl):PE X (.Call (.Name x p) (e::es) [] pos) (tCB r t):=by
 intro pins s σ H Q I h;show agX (ld_blt I hg hm hv ?_ hn hdb);show agK (thn (ha pos pins s σ H _ I h) λus s1 ⟨vs,H1,I1,r1,q1⟩=>hc pins s1 σ H1 vs us Q I1 r1 q1) he hpl
end
end L2
namespace HT
open PySem PyProof.Rows
section
open PySem.SeqAt
open PySem.AutoSeq1 (wpAny_loadPart')
open PySem.MeetsSeq PySem.MeetsSeq2 PySem.MeetsSeq3
end
section
variable{prog:afZ}{w:af4}{A:af5}{E:afL->afN->Prop}{s:afN}
theorem cat_tup{t b:afK}{vs ws:List afL}{Q:afL->afN->Prop}(ht:IsTup s.heap t vs.toArray)(hb:IsTup s.heap b ws.toArray)(hv:vs≠[])
  (h1:ws=[]->Q (.ref t) s)(h2:ws≠[]->Q (.ref s.heap.objs.size) {s with heap:=s.heap.push {cls:= .type "tuple",data:= .seq (vs++ws).toArray}})
  (hsz:vs.length+ws.length<=sizeLine):afS (model prog w) A (ag4 .Add (.ref t) (.ref b)) Q E s:=by
 let⟨⟨cls,dd,data,sl⟩,ho,hc,n,hd⟩:=id ht;let⟨⟨cls2,dd2,data2,sl2⟩,ho2,hc2,n2,hd2⟩:=id hb;simp only at hc hd hc2 hd2;subst hc hd hc2 hd2;have e:vs.toArray++ws.toArray=(vs++ws).toArray:=()
 by_cases hw:ws=[]
 .show akv ⟨_,ho,rfl⟩ ⟨_,ho2,rfl⟩ akx seq_tuple_add ajd ai8 (ai0 _ _)
   (tuple_addW1 t b vs.toArray ws.toArray n n2 dd dd2 sl sl2 (by simpa using hv) (by simp[hw])) ⟨ho,ho2,h1 hw⟩
 .show akv ⟨_,ho,rfl⟩ ⟨_,ho2,rfl⟩ akx seq_tuple_add ajd ai8 (ai0 _ _)
   (tuple_addW2 t b vs.toArray ws.toArray n n2 dd dd2 sl sl2 (by simpa using hv) (by simpa using hw) (by rw[z1c,z1c];show hsz)) ⟨ho,ho2,?_⟩
  rw[e];show h2 hw
def sIx(n d:Nat):Option Int->Nat
 |none=>d
 |some v=>if v<0 then (v+(n:Int)).toNat else min v.toNat n
theorem sIx_le(n d:Nat)(hd:d<=n)(o:Option Int):sIx n d o<=n:=by
 cases o with
 |none=>show hd
 | some v=>
  show (if v<0 then (v+(n:Int)).toNat else min v.toNat n)<=n;by_cases hv:v<0
  .rw[z9p hv];omega
  .rw[z9n hv];show Nat.min_le_right _ _
theorem Xx(a b:Nat):((min a b:Nat):Int)=min (a:Int) (b:Int):=by
 rcases Nat.le_total a b with h |h
 .rw[ajC h,Int.min_eq_left (aky.mpr h)]
 .rw[Nat.min_eq_right h,Int.min_eq_right (aky.mpr h)]
theorem adi{i:Int}(n:Nat)(h:i<0):max 0 (min (i+(n:Int)) (n:Int))=(((i+(n:Int)).toNat:Nat):Int):=by
 rw[Int.min_eq_left (),Int.max_comm];show (Int.ofNat_toNat _).symm
theorem adk(k n:Nat):max 0 (min (k:Int) (n:Int))=((min (k:Int).toNat n:Nat):Int):=by
 rw[Int.max_eq_right (Int.le_min.mpr ⟨aio _,aio _⟩)];show (Xx k n).symm
theorem clip_eq(v:Int)(n d:Nat):(if v<0 then max (v+(n:Int)) 0 else min v (n:Int))=((sIx n d (some v):Nat):Int):=by
 show (if v<0 then max (v+(n:Int)) 0 else min v (n:Int))=(((if v<0 then (v+(n:Int)).toNat else min v.toNat n):Nat):Int);by_cases hv:v<0
 .simp only[z9p hv];show (Int.ofNat_toNat _).symm
 .simp only[z9n hv];let⟨k,rfl⟩:=ag5 (Int.not_lt.mp hv);show (Xx k n).symm
theorem adjust_gen(lo hi:Option Int)(n:Nat):aiU lo hi 1 (n:Int)=(((sIx n 0 lo:Nat):Int),((sIx n n hi:Nat):Int)):=by
 have h1:¬((1:Int)<0):=()
 unfold aiU;simp only[h1,if_false];show ak1 ?_ ?_
 .cases lo with
  |none=>rfl
  |some v=>show clip_eq v n 0
 .cases hi with
  |none=>rfl
  |some v=>show clip_eq v n n
theorem places_gen(i j:Nat):ah6 (i:Int) (j:Int) 1=j - i:=by
 unfold ah6;have h1:(1:Int) > 0:=()
 simp only[h1,if_true,Int.ediv_one];split <;> omega
theorem slicePart_{v:afL}{o:Option Int}{Q:Option Int->afN->Prop}(p:aje v o)(h:Q o s):afS (model prog w) A (Builtin.Slice.slicePartIndex v) Q E s:=by
 cases p with
 |none=>show slicePart_none h
 |int i t=>show slicePart_int h
theorem sliceApplied_gen{sl:afK}{vl vu:afL}{lo hi:Option Int}{n:Nat}{Q:Int×Int×Nat->afN->Prop}(hs:s.heap.IsSliceOf sl vl vu .none)(pl:aje vl lo)(pu:aje vu hi)
  (h:Q (((sIx n 0 lo:Nat):Int),1,sIx n n hi - sIx n 0 lo) s):afS (model prog w) A (aj5 (.ref sl) (pure (n:Int))) Q E s:=by
 let⟨os,hos,hcs,hds⟩:=id hs;unfold aj5 Builtin.Slice.sliceFields;show aft (aft (agf hos hds (x:=vl) rfl (aft (agf hos hds (x:=vu) rfl (aft (agf hos hds (x:= .none) rfl (afQ ?_)))))));show aft (slicePart_none ?_);show afS _ _ (if ((1:Int) ==0)=true then _ else _) _ _ s;rw[z9n {}];show aft (slicePart_ pl (aft (slicePart_ pu (aft (afQ ?_)))));show afS _ _ (match aiU lo hi 1 (n:Int) with |(lo,hi)=>pure (lo,(1:Int),ah6 lo hi 1)) _ _ s;rw[adjust_gen lo hi n];show afS _ _ (pure (((sIx n 0 lo:Nat):Int),(1:Int),ah6 ((sIx n 0 lo:Nat):Int) ((sIx n n hi:Nat):Int) 1)) _ _ s;rw[places_gen];show afQ h
theorem pick_gen(xs:Array afL)(i k:Nat):((afR k).filterMap λ(m:Nat)=>xs[((i:Int)+(m:Int)*1).toNat]?).toArray=((xs.toList.drop i).take k).toArray:=by
 have e:(λ(m:Nat)=>xs[((i:Int)+(m:Int)*1).toNat]?)=λm=>xs[i+m]?:=by
  funext m;have:((i:Int)+(m:Int)*1).toNat=i+m:=()
  rw[this]
 rw[e];have:=pick_run xs i k;rw[List.filterMap_map] at this;have e2:((λx=>xs[x]?) ∘ λx=>i+x)=λm=>xs[i+m]?:=rfl;rw[e2] at this;rw[this]
theorem getItem_tuple_cut{t sl:afK}{items:Array afL}{vl vu:afL}{lo hi:Option Int}{Q:afL->afN->Prop}(ht:IsTup s.heap t items)(hs:s.heap.IsSliceOf sl vl vu .none)(pl:aje vl lo)(pu:aje vu hi)
  (hw:¬(sIx items.size 0 lo=0/\sIx items.size items.size hi=items.size))
  (h:Q (.ref s.heap.objs.size) {s with heap:=s.heap.push {cls:= .type "tuple",data:= .seq ((items.toList.drop (sIx items.size 0 lo)).take (sIx items.size items.size hi - sIx items.size 0 lo)).toArray}})
  (hsz:items.size<=sizeLine):afS (model prog w) A (ajw (.ref t) (.ref sl)) Q E s:=by
 have htake:sizeOk (.seq ((items.toList.drop (sIx items.size 0 lo)).take (sIx items.size items.size hi - sIx items.size 0 lo)).toArray):=by
  show ((items.toList.drop (sIx items.size 0 lo)).take (sIx items.size items.size hi - sIx items.size 0 lo)).toArray.size<=sizeLine;rw[z1c,aiJ,akz,ahM];omega
 have hj:sIx items.size items.size hi<=items.size:=sIx_le _ _ (z0g _) hi;let⟨os,hos,hcs,hds⟩:=id hs;have hTs:s.TypeIs (.ref sl) "slice" :=⟨os,hos,hcs⟩;unfold ajw
 try with_reducible show aho ?_
 first |show aft (afQ ?_) |skip
 show aft (akf ht.typeIs {} ?_);show aft (agG (name:=ahm "__getitem__") ht.typeIs ag3
  (agT ag3 ht.typeIs entry_tuple_getitem ?_ (args_tuple_getitem _ _)))
 show afS _ _ (aj6 (.ref t) >>=_) _ _ s;show aft (tupleItemsOf_ ht ?_);show aft (ai1 hTs ?_);rw[z9p {}];show aft (sliceApplied_gen hs pl pu ?_);have hno:¬((((sIx items.size 0 lo:Nat):Int) ==0 && (1:Int) ==1 && (sIx items.size items.size hi - sIx items.size 0 lo) ==items.size)=true):=by
  intro q;rw[agY,agY] at q;have q1:((sIx items.size 0 lo:Nat):Int)=0:=eq_of_beq q.1.1;have q2:sIx items.size items.size hi - sIx items.size 0 lo=items.size:=eq_of_beq q.2;show hw ⟨(),()⟩
 show afS _ _ (if (((sIx items.size 0 lo:Nat):Int) ==0 && (1:Int) ==1 && (sIx items.size items.size hi - sIx items.size 0 lo) ==items.size)=true then _ else _) _ _ s;rw[z9n hno,pick_gen]
 first
  |show aft (m:=aie _) (aha (afQ ⟨_,rfl,afQ h⟩) htake)
  |show aft (m:=aie _) (aha (aft (afQ (afQ ⟨_,rfl,afQ h⟩))) htake)
  |show aft (aft (m:=aie _) (aha (afQ (afQ ⟨_,rfl,afQ h⟩)) htake))
  |show aft (aft (m:=aie _) (aha (afQ ⟨_,rfl,afQ h⟩) htake))
end
end HT
namespace L2
open PySem PySem.Spec PyProof.Rows
variable{s:afN}
abbrev TO:=St->Hp->(Option Int->Hp->Prop)->Prop
def PO(X:Cx)(e:Option afV)(t:TO):Prop:=
 ∀(pins:List (afK×Obj)) (s:afN) (σ:St) (H:Hp) (Q:Option Int->Hp->Prop),Inv X pins σ H s->t σ H Q->
  afS (model X.prog X.w) X.A (evalPart e X.env) (λu s'=>∃o H',Inv X pins σ H' s'/\aje u o/\Q o H') X.xe s
def tNoPart:TO:=λ_ H Q=>Q none H
def tPart(t:TE):TO:=λσ H Q=>t σ H λx H1=>∃i,x= .int i/\Q (some i) H1
section
variable{X:Cx}{e:afV}{te:TE}{lo hi:Option afV}{tl th:TO}{pos p2:Pos}
theorem po_none:PO X none tNoPart:=by
 intro pins s σ H Q I h;rw[aj7];show afQ ⟨none,H,I,.none,h⟩
theorem po_some(h:PE X e te):PO X (some e) (tPart te):=by
 intro pins s σ H Q I hw;rw[evalPart_some];show thn (h pins s σ H _ I hw) λu s1 bB=>?_;let⟨x,H1,I1,r1,q1⟩:=bB;let⟨i,rfl,q⟩:=q1;let⟨t,rfl⟩:=r1;show⟨some i,H1,I1,.int i t,q⟩
def SlR(X:Cx)(r:V->Option Int->Option Int->Hp->VK->Prop):Prop:=
 ∀(pins:List (afK×Obj)) (s:afN) (σ:St) (H:Hp) (x:V) (v vl vu:afL) (lo hi:Option Int) (sl:afK) (Q:VK),Inv X pins σ H s->RelV x v->s.heap.IsSliceOf sl vl vu .none->aje vl lo->aje vu hi->r x lo hi H Q->
  ∃T id,typeLookup (.type T) "__getitem__" =pure (some (.builtin id))/\s.TypeIs v T/\afS (model X.prog X.w) X.A (ajw v (.ref sl)) (EP X pins σ Q) X.xe s
theorem SlR.or{r r':V->Option Int->Option Int->Hp->VK->Prop}(h:SlR X r)(h':SlR X r'):SlR X (λx lo hi H Q=>r x lo hi H Q\/r' x lo hi H Q):=by
 intro pins s σ H x v vl vu lo hi sl Q I rx hs pl pu q;rcases q with q |q
 .show h pins s σ H x v vl vu lo hi sl Q I rx hs pl pu q
 .show h' pins s σ H x v vl vu lo hi sl Q I rx hs pl pu q
def tSl(r:V->Option Int->Option Int->Hp->VK->Prop)(te:TE)(tl th:TO):TE:=λσ H Q=>te σ H λx H1=>tl σ H1 λl H2=>th σ H2 λu H3=>r x l u H3 Q
theorem pe_slice{r:V->Option Int->Option Int->Hp->VK->Prop}(hr:SlR X r)(he:PE X e te)(hl:PO X lo tl)(hu:PO X hi th):PE X (.Subscript e (.Slice lo hi none p2) pos) (tSl r te tl th):=by
 intro pins s σ H Q I h;show Subscript_ (thn (he pins s σ H _ I h) λv s1 bB=>?_);let⟨x,H1,I1,r1,q1⟩:=bB;show wpAny_Slice (thn (hl pins s1 σ H1 _ I1 q1) λvl s2 ⟨l,H2,I2,pl,q2⟩=>thn (hu pins s2 σ H2 _ I2 q2) λvu s3 bB=>?_);let⟨u,H3,I3,pu,q3⟩:=bB;rw[aj7];show afQ ?_;have I4:Inv X pins σ H3 {s3 with heap:=s3.heap.push {cls:= .type "slice",data:= .fields #[vl,vu,.none]}}:=I3.kept (t':=s3.toks) λb ob q=>z1a _ q;let⟨T,id,hT,ht,hg⟩:=hr pins {s3 with heap:=s3.heap.push {cls:= .type "slice",data:= .fields #[vl,vu,.none]}} σ H3 x v vl vu l u s3.heap.objs.size Q I4 r1 (ajY ..) pl pu q3;show afS (model X.prog X.w) X.A (aj8 e (.Slice lo hi none p2) v (.ref s3.heap.objs.size)) (EP X pins σ Q) X.xe {s3 with heap:=s3.heap.push {cls:= .type "slice",data:= .fields #[vl,vu,.none]}};show tail_any (ops:=[.ref s3.heap.objs.size,v]) ht hT hg (by with_unfolding_all rfl)
def cutV(xs:List V)(lo hi:Option Int):List V:=(xs.drop (HT.sIx xs.length 0 lo)).take (HT.sIx xs.length xs.length hi - HT.sIx xs.length 0 lo)
theorem cutV_length(xs:List V)(lo hi:Option Int):(cutV xs lo hi).length<=xs.length:=by
 unfold cutV;rw[aiJ,akz];omega
def rSlT(K:afM):V->Option Int->Option Int->Hp->VK->Prop:=λx lo hi H Q=>∃a xs,x= .ref a/\SqT K H a xs/\
 ¬(HT.sIx xs.length 0 lo=0/\HT.sIx xs.length xs.length hi=xs.length)/\∀p,H p=none->Q (.ref p) (upd H p (.tup (cutV xs lo hi)))
theorem sl_tup:SlR X (rSlT X.K):=by
 intro pins s σ H x v vl vu lo hi sl Q I rx hs pl pu h;let⟨a,xs,rfl,hx,hw,q⟩:=h;cases rx;let⟨its,r,ht,hz⟩:=I.tuple hx;have hlen:its.toArray.size=xs.length:=by rw[z1c];show r.length.symm
 show⟨"tuple",_,ag3.lookup,ht.typeIs,?_⟩;show HT.getItem_tuple_cut ht hs pl pu (by rw[hlen];show hw) ?_ (by rw[hlen];show hz);rw[hlen];show⟨.ref s.heap.objs.size,_,I.laid (t':=s.toks) (o:= .tup (cutV xs lo hi)) (λb ob q=>z1a _ q) (z0g _) ?_,rfl,q _ (I.hok.fresh (z0g _))⟩;show⟨z0b (cutV_length xs lo hi) hz,_,(r.drop (HT.sIx xs.length 0 lo)).take (HT.sIx xs.length xs.length hi - HT.sIx xs.length 0 lo),yp.new _ _⟩
def rCatT(K:afM):R2:=λx y H Q=>∃a b xs ys,x= .ref a/\y= .ref b/\SqT K H a xs/\SqT K H b ys/\xs≠[]/\xs.length+ys.length<=sizeLine/\
 (ys=[]->Q (.ref a) H)/\(ys≠[]->∀p,H p=none->Q (.ref p) (upd H p (.tup (xs++ys))))
theorem Vals.nil_iff{xs:List V}{us:List afL}(r:Vals xs us):us=[]↔xs=[]:=by
 cases r with
 |nil=>simp
 |cons _ _=>simp
theorem op_catT:OpR X (ag4 .Add) (rCatT X.K):=by
 intro pins s σ H x y v u Q I rx ry h;let⟨a,b,xs,ys,rfl,rfl,ha,hb,hx,hz,q1,q2⟩:=h;cases rx;cases ry;let⟨its,r1,p1,_⟩:=I.tuple ha;let⟨its2,r2,p2,_⟩:=I.tuple hb;show HT.cat_tup p1 p2 (λz=>hx (r1.nil_iff.mp z)) (λz=>⟨.ref a,H,I,rfl,q1 (r2.nil_iff.mp z)⟩) (λz=>?_) (by rw[<-r1.length,<-r2.length];show hz);show⟨.ref s.heap.objs.size,_,I.laid (t':=s.toks) (o:= .tup (xs++ys)) (λb ob q=>z1a _ q) (z0g _) ?_,rfl,q2 (λw=>z (r2.nil_iff.mpr w)) _ (I.hok.fresh (z0g _))⟩;show⟨by rw[z1d];show hz,_,r1.append r2,yp.new _ _⟩
end
def ixN(n:Nat)(i:Int):Option Nat:=if 0<=i then (if i<n then some i.toNat else none) else if -(n:Int)<=i then some (i+n).toNat else none
def atI{α:Type}(xs:List α)(i:Int):Option α:=(ixN xs.length i).bind λj=>xs[j]?
theorem ixN_seq{n:Nat}{i:Int}{j:Nat}(h:ixN n i=some j):seqIndex? i n=some j/\j<n/\-(n:Int)<=i/\i<n:=by
 unfold ixN at h;by_cases h0:0<=i
 .rw[z9p h0] at h;by_cases h1:i<n
  .rw[z9p h1] at h;have e:i.toNat=j:=agb h;show⟨by rw[seqIndex_of h0 h1,e],(),(),h1⟩
  .rw[z9n h1] at h;cases h
 .rw[z9n h0] at h;by_cases h1: -(n:Int)<=i
  .rw[z9p h1] at h;have e:(i+n).toNat=j:=agb h;show⟨by rw[seqIndex_neg () h1,e],(),h1,()⟩
  .rw[z9n h1] at h;cases h
theorem atI_get{α:Type}{xs:List α}{i:Int}{v:α}(h:atI xs i=some v):∃j,seqIndex? i xs.length=some j/\xs[j]?=some v/\j<xs.length/\-(xs.length:Int)<=i/\i<xs.length:=by
 unfold atI at h;cases e:ixN xs.length i with
 |none=>rw[e] at h;cases h
 | some j=>
  rw[e] at h;let⟨h1,h2,h3,h4⟩:=ixN_seq e;show⟨j,h1,h,h2,h3,h4⟩
def PlainIx(b:afV):Prop:=∀o i,subscripted b false o i=operate [o,i] (ajw o i)
def IxR(X:Cx)(r:R2):Prop:=
 ∀(value slice:afV) (pins:List (afK×Obj)) (s:afN) (σ:St) (H:Hp) (x y:V) (v u:afL) (Q:VK),Inv X pins σ H s->RelV x v->RelV y u->r x y H Q->
  subscripted slice false v u=operate [v,u] (ajw v u)->afS (model X.prog X.w) X.A (aj8 value slice v u) (EP X pins σ Q) X.xe s
def MtR(X:Cx)(id:String)(r:V->List V->Hp->VK->Prop):Prop:=
 ∀(pins:List (afK×Obj)) (s:afN) (σ:St) (H:Hp) (x:V) (xs:List V) (v:afL) (us:List afL) (Q:VK),Inv X pins σ H s->RelV x v->Vals xs us->r x xs H Q->
  afS (model X.prog X.w) X.A (call (.builtin id) (v::us)) (EP X pins σ Q) X.xe s
section
variable{X:Cx}{a b:afV}{ta tb:TE}{pos:Pos}
theorem IxR.or{r r':R2}(h:IxR X r)(h':IxR X r'):IxR X (λx y H Q=>r x y H Q\/r' x y H Q):=by
 intro value slice pins s σ H x y v u Q I rx ry q hs;rcases q with q |q
 .show h value slice pins s σ H x y v u Q I rx ry q hs
 .show h' value slice pins s σ H x y v u Q I rx ry q hs
theorem pe_ix{r:R2}(hr:IxR X r)(ha:PE X a ta)(hb:PE X b tb)(hs:PlainIx b):PE X (.Subscript a b pos) (tOp r ta tb):=by
 intro pins s σ H Q I h;show Subscript_ (binT ha hb I h λv u s2 x y H2 I2 rx ry q=>hr a b pins s2 σ H2 x y v u Q I2 rx ry q (hs _ _))
def rIxL(K:afM):R2:=λx y H Q=>∃p xs i v,x= .ref p/\y= .int i/\SqL K H p xs/\atI xs i=some v/\Q v H
def rIxT(K:afM):R2:=λx y H Q=>∃p xs i v,x= .ref p/\y= .int i/\SqT K H p xs/\atI xs i=some v/\Q v H
def rIxS:R2:=λx y H Q=>∃z i c,x= .str z/\y= .int i/\z.length<=sizeLine/\atI z.cps.toList i=some c/\Q (.str ⟨#[c]⟩) H
theorem ix_list:IxR X (rIxL X.K):=by
 intro value slice pins s σ H x y v u Q I rx ry h hs;let⟨p,xs,i,z,rfl,rfl,hq,he,q⟩:=h;cases rx;let⟨t,rfl⟩:=ry;let⟨its,r,pl,hz⟩:=I.list hq;let⟨j,h1,h2,h3,h4,h5⟩:=atI_get he;let⟨w,ew,rw'⟩:=r.get h2;have hl:=r.length;have hn:=line63;have fin:EP X pins σ Q w s:=⟨z,H,I,rw',q⟩;by_cases h0:0<=i
 .have hj:i.toNat=j:=by
   rw[seqIndex_of h0 h5] at h1;show agb h1
  show item_listR pl.isList h0 () (by rw[hj];simpa using ew) fin hs
 .have hj:(i+(its.toArray.size:Int)).toNat=j:=by
   rw[seqIndex_neg () h4] at h1;rw[z1c,<-hl];show agb h1
  show subscriptTail_builtinR (x:=w) pl.isList.typeIs slot_list_getitem.lookup
   (wpAny_getItem_list_neg (Q:=λr s'=>r=w/\EP X pins σ Q r s') pl.isList () (by rw[z1c] <;> omega) () (by rw[hj];simpa using ew) ⟨rfl,fin⟩) hs
theorem ix_tup:IxR X (rIxT X.K):=by
 intro value slice pins s σ H x y v u Q I rx ry h hs;let⟨p,xs,i,z,rfl,rfl,hq,he,q⟩:=h;cases rx;let⟨t,rfl⟩:=ry;let⟨its,r,pl,hz⟩:=I.tuple hq;let⟨j,h1,h2,h3,h4,h5⟩:=atI_get he;let⟨w,ew,rw'⟩:=r.get h2;have hl:=r.length;have hn:=line63;have fin:EP X pins σ Q w s:=⟨z,H,I,rw',q⟩;show subscriptTail_builtinR (x:=w) pl.typeIs slot_tuple_getitem.lookup
  (getItem_tuple (j:=j) (Q:=λr s'=>r=w/\EP X pins σ Q r s') pl () () (by rw[z1c,<-hl];show h1) (by simpa using ew) ⟨rfl,fin⟩) hs
theorem ix_str:IxR X rIxS:=by
 intro value slice pins s σ H x y v u Q I rx ry h hs;let⟨z,i,c,rfl,rfl,hz,he,q⟩:=h;let⟨t,rfl⟩:=rx;let⟨t',rfl⟩:=ry;let⟨j,h1,h2,h3,h4,h5⟩:=atI_get he;have hl:z.cps.toList.length=z.length:=by simp[Str.length]
 rw[hl] at h1 h4 h5;have hn:=line63;show tail_any (typeIs_str s z t) slot_str_getitem.lookup (getItem_str (c:=c) (by
  have e1:decide (i < -(2^63:Int))=false:=z9f ();have e2:decide (i>=2^63)=false:=z9f ();rw[e1,e2,Bool.or_false]) (by rw[h1];simpa using h2) ⟨.str ⟨#[c]⟩,H,I.tok _,⟨_,rfl⟩,q⟩) hs
def rIx(K:afM):R2:=λx y H Q=>rIxL K x y H Q\/rIxT K x y H Q\/rIxS x y H Q
theorem ix_seq:IxR X (rIx X.K):=ix_list.or (ix_tup.or ix_str)
theorem Inv.lst{pins:List (afK×Obj)}{σ:St}{H:Hp}{p:afK}{xs:List V}(I:Inv X pins σ H s)(h:H p=some (.lst xs)):
  ∃(its:List afL) (n:Nat),Vals xs its/\s.heap.get? p=some {cls:= .type "list",data:= .seq its.toArray n}/\xs.length<=sizeLine:=by
 let⟨z,its,n,r,e⟩:=I.hok p _ h;show⟨its,n,r,e,z⟩
theorem slice_bounds(lo hi:Option Int)(n:Nat):(ah9 lo hi none n).1=((HT.sIx n 0 lo:Nat):Int)/\(ah9 lo hi none n).2.1=((HT.sIx n n hi:Nat):Int)/\(ah9 lo hi none n).2.2=1:=by
 show⟨?_,?_,rfl⟩
 .cases lo with
  |none=>simp[ah9,HT.sIx]
  | some i=>
   simp only[ah9,HT.sIx,akA,show (1:Int) > 0 by decide,if_true];by_cases h:i<0
   .simp only[h,if_true];show HT.adi n h
   .simp only[h,if_false];let⟨k,rfl⟩:=ag5 (Int.not_lt.mp h);show HT.adk k n
 .cases hi with
  |none=>simp[ah9,HT.sIx]
  | some i=>
   simp only[ah9,HT.sIx,akA,show (1:Int) > 0 by decide,if_true];by_cases h:i<0
   .simp only[h,if_true];show HT.adi n h
   .simp only[h,if_false];let⟨k,rfl⟩:=ag5 (Int.not_lt.mp h);show HT.adk k n
theorem slicePick_cut(its:List afL)(lo hi:Option Int):slicePick its.toArray lo hi none=((its.drop (HT.sIx its.length 0 lo)).take (HT.sIx its.length its.length hi - HT.sIx its.length 0 lo)).toArray:=by
 let⟨h1,h2,h3⟩:=slice_bounds lo hi its.toArray.size;unfold slicePick;rw[h1,h2,h3];simp only[sliceRange_one,pick_run,z1c] <;> rfl
def rSlL(K:afM):V->Option Int->Option Int->Hp->VK->Prop:=λx lo hi H Q=>∃a xs,x= .ref a/\SqL K H a xs/\∀p,H p=none->Q (.ref p) (upd H p (.lst (cutV xs lo hi)))
theorem sl_list:SlR X (rSlL X.K):=by
 intro pins s σ H x v vl vu lo hi sl Q I rx hs pl pu h;let⟨a,xs,rfl,hx,q⟩:=h;cases rx;let⟨its,r,ht,hz⟩:=I.list hx;have hlen:=r.length;show⟨"list",_,slot_list_getitem.lookup,ht.isList.typeIs,?_⟩;show wpAny_getItem_list_slice ht.isList hs pl pu .none () ?_ (by rw[z1c] <;> omega);rw[slicePick_cut,<-hlen];show⟨.ref s.heap.objs.size,_,I.laid (t':=s.toks) (o:= .lst (cutV xs lo hi)) (λb ob q=>z1a _ q) (z0g _) ?_,rfl,q _ (I.hok.fresh (z0g _))⟩;show⟨z0b (cutV_length xs lo hi) hz,_,0,(r.drop (HT.sIx xs.length 0 lo)).take (HT.sIx xs.length xs.length hi - HT.sIx xs.length 0 lo),z1f _ rfl⟩
def flatV:V->Bool
 | .non=>true
 | .bl _=>true
 | .int _=>true
 | .str _=>true
 |_=>false
def eqV:V->V->Bool
 | .non,.non=>true
 | .bl a,.bl b=>a ==b
 | .bl a,.int b=>(if a then 1 else 0) ==b
 | .int a,.bl b=>a ==(if b then 1 else 0)
 | .int a,.int b=>a ==b
 | .str a,.str b=>a ==b
 |_,_=>false
theorem eqAt_V{A:af5}{y x:V}{u v:afL}(ry:RelV y u)(rx:RelV x v)(fy:flatV y=true)(fx:flatV x=true):SeqAt.EqAt A s u v (eqV y x):=by
 cases y with
 | non=>
  cases ry;cases x with
  |non=>cases rx;show SeqAt.EqAt.same _
  |bl b=>cases rx;show SeqAt.EqAt.none_bool b
  |int b=>let⟨t,rfl⟩:=rx;show SeqAt.EqAt.none_int b t
  |str b=>let⟨t,rfl⟩:=rx;show SeqAt.EqAt.none_str b t
  |_=>show absurd (show false=true from fx) af6
 | bl a=>
  cases ry;cases x with
  |non=>cases rx;show SeqAt.EqAt.bool_none a
  |bl b=>cases rx;show SeqAt.EqAt.bool_bool a b
  |int b=>let⟨t,rfl⟩:=rx;show SeqAt.EqAt.bool_int a b t
  |str b=>let⟨t,rfl⟩:=rx;show SeqAt.EqAt.bool_str a b t
  |_=>show absurd (show false=true from fx) af6
 | int a=>
  let⟨t',rfl⟩:=ry;cases x with
  |non=>cases rx;show SeqAt.EqAt.int_none a t'
  |bl b=>cases rx;show SeqAt.EqAt.int_bool a t' b
  |int b=>let⟨t,rfl⟩:=rx;show ajZ a t' b t
  |str b=>let⟨t,rfl⟩:=rx;show ak9 a t' b t
  |_=>show absurd (show false=true from fx) af6
 | str a=>
  let⟨t',rfl⟩:=ry;cases x with
  |non=>cases rx;show SeqAt.EqAt.str_none a t'
  |bl b=>cases rx;show SeqAt.EqAt.str_bool a t' b
  |int b=>let⟨t,rfl⟩:=rx;show ala a t' b t
  |str b=>let⟨t,rfl⟩:=rx;show SeqAt.EqAt.str_str a t' b t
  |_=>show absurd (show false=true from fx) af6
 |_=>show absurd (show false=true from fy) af6
def eqU(x:V)(u:afL):Bool:=match u with
 | .none=>eqV .non x
 | .bool b=>eqV (.bl b) x
 | .int i _=>eqV (.int i) x
 | .str z _=>eqV (.str z) x
 |_=>false
theorem eqU_of{x y:V}{u:afL}(r:RelV y u)(f:flatV y=true):eqU x u=eqV y x:=by
 cases y with
 |non=>cases r;rfl
 |bl b=>cases r;rfl
 |int i=>let⟨t,rfl⟩:=r;rfl
 |str z=>let⟨t,rfl⟩:=r;rfl
 |_=>show absurd (show false=true from f) af6
theorem any_eqU{x:V}:∀{xs:List V} {us:List afL},Vals xs us->xs.all flatV=true->us.any (eqU x)=xs.any λy=>eqV y x
 |_,_,.nil,_=>rfl
 | y::xs,u::us,.cons r t,f=>by
  rw[ah2,agY] at f;rw[aj9,aj9,eqU_of r f.1,any_eqU t f.2]
theorem mem_eqAt{A:af5}{s:afN}{x:V}{v:afL}(rx:RelV x v)(fx:flatV x=true):∀{xs:List V} {us:List afL},Vals xs us->xs.all flatV=true->∀u∈us,SeqAt.EqAt A s u v (eqU x u)
 |_,_,.nil,_=>λu hu=>by cases hu
 | y::xs,u::us,.cons r t,f=>λu' hu=>by
  rw[ah2,agY] at f;rcases af9.mp hu with rfl |hu
  .rw[eqU_of r f.1];show eqAt_V r rx f.1 fx
  .show mem_eqAt rx fx t f.2 u' hu
def inV(x:V)(xs:List V):Bool:=xs.any λy=>eqV y x
def rIn(K:afM)(neg:Bool):R2:=λx y H Q=>∃p xs,y= .ref p/\(SqL K H p xs\/SqT K H p xs)/\flatV x=true/\xs.all flatV=true/\Q (.bl (if neg then !inV x xs else inV x xs)) H
theorem op_in_seq:OpR X (agn .In) (rIn X.K false):=by
 intro pins s σ H x y v u Q I rx ry h;let⟨p,xs,rfl,hq,fx,fs,q⟩:=h;cases ry;rcases hq with hq |hq
 .let⟨its,r,pl,hz⟩:=I.list hq;show SeqAt.in_listAt (eqU x) pl.isList (λw hw=>mem_eqAt rx fx r fs w (by simpa using hw)) ⟨.bl _,H,I,rfl,?_⟩;rw[show its.toArray.any (eqU x)=its.any (eqU x) by simp,any_eqU r fs];show q
 .let⟨its,r,pl,hz⟩:=I.tuple hq;show SeqAt.in_tupleAt (eqU x) pl (λw hw=>mem_eqAt rx fx r fs w (by simpa using hw)) ⟨.bl _,H,I,rfl,?_⟩;rw[show its.toArray.any (eqU x)=its.any (eqU x) by simp,any_eqU r fs];show q
theorem call_len_seq:CallR X (.builtin "len") (λxs H Q=>∃p ys,xs=[.ref p]/\(SqL X.K H p ys\/SqT X.K H p ys)/\Q (.int ys.length) H):=by
 intro pins s σ H xs us Q I r h;let⟨p,ys,rfl,hq,q⟩:=h;let⟨u,rfl,rx⟩:=vals1 r;cases rx;have hn:=line63;rcases hq with hq |hq
 .let⟨its,r',pl,hz⟩:=I.list hq;have hlen:=r'.length;show Calls.call_len_list pl.isList (by simp only[z1c] <;> omega) ⟨.int ys.length,H,I.tok _,⟨s.toks+1,by rw[z1c,hlen]⟩,q⟩
 .let⟨its,r',pl,hz⟩:=I.tuple hq;have hlen:=r'.length;show len_tuple pl (by simp only[z1c] <;> omega) ⟨.int ys.length,H,I.tok _,⟨s.toks+1,by rw[z1c,hlen]⟩,q⟩
theorem call_tuple_of:CallR X (.type "tuple") (λxs H Q=>∃p ys,xs=[.ref p]/\((SqL X.K H p ys/\∀l,H l=none->Q (.ref l) (upd H l (.tup ys)))\/(SqT X.K H p ys/\Q (.ref p) H))):=by
 intro pins s σ H xs us Q I r h;let⟨p,ys,rfl,h⟩:=h;let⟨u,rfl,rx⟩:=vals1 r;cases rx;rcases h with⟨hq,q⟩ |⟨hq,q⟩
 .let⟨its,r',pl,hz⟩:=I.list hq;have hlen:=r'.length;show call_tuple_list pl.isList (λh' kp=>?_) (by simp only[z1c] <;> omega);have I1:Inv X pins σ H {s with heap:=h'}:=I.kept (t':=s.toks) kp;have I2:Inv X pins σ (upd H h'.objs.size (.tup ys)) {s with heap:=h'.push {cls:= .type "tuple",data:= .seq its.toArray}}:=
   I1.laid (t':=s.toks) (λb o e=>z1a _ e) (z0g _) (show ObjOk X.prog X.w _ _ _ (.tup ys) from⟨hz,its,r',yp.new _ _⟩)
  show⟨.ref h'.objs.size,_,I2,rfl,q _ (I1.hok.fresh (z0g _))⟩
 .let⟨its,r',pl,hz⟩:=I.tuple hq;show call_tuple_same pl ⟨.ref p,H,I,rfl,q⟩
def tyV(K:afM)(T:String)(x:V)(H:Hp):Prop:=match x with
 | .str _=>T= "str"
 | .int _=>T= "int"
 | .ref p=>(T= "list"/\∃xs,SqL K H p xs)\/(T= "tuple"/\∃xs,SqT K H p xs)\/
   (T= "dict"/\((∃kvs,H p=some (.dK kvs))\/∃kvs,H p=some (.dT kvs)))\/(T= "set"/\∃S n,H p=some (.set S n))
 |_=>False
theorem tyV_is{pins:List (afK×Obj)}{σ:St}{H:Hp}{T:String}{x:V}{v:afL}(I:Inv X pins σ H s)(r:RelV x v)(ty:tyV X.K T x H):
  s.TypeIs v T/\∀a,v= .ref a->∃ob,s.heap.get? a=some ob/\ob.dict=none:=by
 cases x with
 | str z=>
  let⟨t,rfl⟩:=r;cases (show T= "str" from ty);show⟨typeIs_str s z t,λ_ e=>nomatch e⟩
 | int i=>
  let⟨t,rfl⟩:=r;cases (show T= "int" from ty);show⟨akm s i t,λ_ e=>nomatch e⟩
 | ref p =>
  cases r;rcases ty with⟨rfl,xs,hq⟩ |⟨rfl,xs,h |⟨o,its,n,hk,hc,hd,_⟩⟩ |⟨rfl,hk⟩ |⟨rfl,S,n,hk⟩
  .let⟨its,_,pl,_⟩:=I.list hq;show⟨pl.isList.typeIs,λa e=>?_⟩;cases e;let⟨o,n,e,c,hd,_⟩:=pl;show⟨o,e,hd⟩
  .let⟨_,its,_,o,e1,c1,d1,_⟩:=h.ok I.hok;show⟨⟨o,e1,c1⟩,λa e=>?_⟩;cases e;show⟨o,e1,d1⟩
  .show⟨⟨o,I.kIn p o hk,hc⟩,λa e=>?_⟩;cases e;show⟨o,I.kIn _ o hk,hd⟩
  .have z:∃o,s.heap.get? p=some o/\o.ExactDict:=by
    rcases hk with⟨kvs,hk⟩ |⟨kvs,hk⟩
    .let⟨_,_,_,_,o,_,_,e,ex,_⟩:=I.hok p _ hk;show⟨o,e,ex⟩
    .let⟨_,_,_,_,o,_,_,e,ex,_⟩:=I.hok p _ hk;show⟨o,e,ex⟩
   let⟨o,e,ex⟩:=z;show⟨⟨o,e,ex.1⟩,λa e2=>?_⟩;cases e2;show⟨o,e,ex.2.1⟩
  .let⟨o,_,_,_,e,ex,_⟩:=I.hok p _ hk;show⟨⟨o,e,ex.1⟩,λa e2=>?_⟩;cases e2;show⟨o,e,ex.2.1⟩
 |_=>show agm ty
def tBM(K:afM)(T:String)(r:V->List V->Hp->VK->Prop)(to:TE)(t:TA):TE:=λσ H Q=>to σ H λx H1=>tyV K T x H1/\t σ H1 λxs H2=>r x xs H2 Q
variable{o e:afV}{es:List afV}{to:TE}{t:TA}{name:Str}{apos cpos:Pos}{T id:String}{r:V->List V->Hp->VK->Prop}
theorem pe_bm(pa:PlainAttrs T)(slot:Slot T name id)(hty:typeOf (.builtin id)=pure (.type "method_descriptor"))(hm:MtR X id r)(ho:PE X o to)(ha:PA X (e::es) t)
  (hbase:ahK o name X.env (eval o X.env)=eval o X.env:=by rfl)
  (hfew:((ago cpos (afP (e::es) X.env)).all (λx=> !x.1) && (agW cpos (agz [] X.env)).all (λx=>x.1.isSome)
   && decide ((e::es).length+([]:List ahW).length+(if ([]:List ahW).isEmpty then 0 else 1)<30))=true:=by rfl)
  (hline:(apos.endLine ==cpos.line)=true:=by rfl) (hs:afP (e::es) X.env=(false,eval e X.env)::afP es X.env:=by rfl) (hplain:(ago cpos (afP es X.env)).any (·.1)=false:=by rfl):
  PE X (.Call (.Attribute o name apos) (e::es) [] cpos) (tBM X.K T r to t):=by
 intro pins s σ H Q I h;show wpAny_Call_method_late hbase hfew hline rfl (thn (ho pins s σ H _ I h) λv s1 bB=>?_);let⟨x,H1,I1,r1,ty,q1⟩:=bB;let⟨h1,h2⟩:=tyV_is I1 r1 ty;show⟨T,id,pa,slot,hty,h1,h2,?_⟩;have hA:=ha cpos pins s1 σ H1 _ I1 q1;rw[hs] at hA |-;show Calls.callWith_builtin (by show (false || (ago cpos (afP es X.env)).any (·.1))=false;rw[hplain] <;> rfl) (Calls.evalArgs_plain ?_);show thn hA λus s2 bB=>?_;let⟨vs,H2,I2,r2,q2⟩:=bB;show hm pins s2 σ H2 x vs v us Q I2 r1 r2 q2
end
def MtM(X:Cx)(id:String)(r:V->List V->Hp->VK->Prop):Prop:=
 ∀(pins:List (afK×Obj)) (s:afN) (σ:St) (H:Hp) (x:V) (xs:List V) (v:afL) (us:List afL) (Q:VK),Inv X pins σ H s->RelV x v->Vals xs us->r x xs H Q->
  afS (model X.prog X.w) X.A (call (.builtin id) (v::us)) (EP X pins σ Q) X.xe s
theorem Vals.one:∀{x:V} {us:List afL},Vals [x] us->∃u,us=[u]/\RelV x u
 | _,_,h=>by
  cases h with
  |cons r t=>cases t;show⟨_,rfl,r⟩
theorem Vals.rep{xs:List V}{us:List afL}(h:Vals xs us):∀k:Nat,Vals (afO k xs).flatten (afO k us).flatten
 |0=> .nil
 | k+1=>by
  rw[ag0,ag0,ahr,ahr];show Vals.append h (Vals.rep h k)
theorem foldl_rep(its:List afL):∀(k:Nat) (acc:List afL),
  akn (λx1 x2=>x1++x2) acc.toArray (afO k its.toArray)=(acc++(afO k its).flatten).toArray
 |0,acc=>()
 | k +1,acc=>by
  have e:acc.toArray++its.toArray=(acc++its).toArray:=()
  have e2:(acc++its)++(afO k its).flatten=acc++(afO (k+1) its).flatten:=by
   rw[ag0,ahr,ahi]
  rw[<-e2,<-foldl_rep its k (acc++its),<-e,ag0,List.foldl_cons]
section
variable{X:Cx}{pins:List (afK×Obj)}{σ:St}{H:Hp}{s:afN}{l b:afK}{xs ys zs:List V}
theorem Inv.lset{its its':List afL}{n:Nat}{f:Array afL->Array afL}{t':Nat}(I:Inv X pins σ H s)(hH:H l=some (.lst xs))
  (e:s.heap.get? l=some {cls:= .type "list",data:= .seq its.toArray n})(hf:f its.toArray=its'.toArray)(hv:Vals ys its')(hz:ys.length<=sizeLine):
  Inv X pins σ (upd H l (.lst ys)) {s with heap:=s.heap.update l (ahx f),toks:=t'}:=by
 have q:=PySem.IsL.update e f;rw[hf] at q;show I.write (x:=l) (e:=l) (by rw[hH];show trivial) (.inl rfl) (λb' u hb hu=>(ag8 s.heap (ahx f) (afT hb)).trans hu) ⟨_,q⟩ ?_;show⟨hz,its',_,hv,q⟩
theorem Inv.lnew{its:List afL}{t':Nat}(I:Inv X pins σ H s)(hv:Vals ys its)(hz:ys.length<=sizeLine):
  Inv X pins σ (upd H s.heap.objs.size (.lst ys)) {s with heap:=s.heap.push {cls:= .type "list",data:= .seq its.toArray},toks:=t'}:=
 I.laid (λ_ _ q=>z1a _ q) (z0g _) ⟨hz,its,0,hv,z1f _ rfl⟩
theorem Inv.fresh(I:Inv X pins σ H s):H s.heap.objs.size=none:=I.hok.fresh (z0g _)
theorem Inv.lstM(I:Inv X pins σ H s)(hH:H l=some (.lst xs)):xs.length<=sizeLine/\∃(its:List afL) (n:Nat),Vals xs its/\xs.length=its.length/\s.heap.get? l=some {cls:= .type "list",data:= .seq its.toArray n}:=by
 let⟨z,its,n,r,e⟩:=I.hok l _ hH;show⟨z,its,n,r,r.length,e⟩
theorem notLongL{n:Nat}(h:n<=sizeLine):ahn n=false:=by
 unfold ahn;show z9f ()
end
section
variable{X:Cx}
def rAppend:V->List V->Hp->VK->Prop:=λx vs H Q=>∃l xs y,x= .ref l/\vs=[y]/\H l=some (.lst xs)/\xs.length<sizeLine/\Q .non (upd H l (.lst (xs++[y])))
theorem mt_append:MtM X "list.append" rAppend:=by
 intro pins s σ H x vs v us Q I rx rv h;let⟨l,xs,y,rfl,rfl,hH,hz,q⟩:=h;cases rx;let⟨u,rfl,ru⟩:=rv.one;let⟨z,its,n,r,hl,e⟩:=I.lstM hH;show aiK F.slot_list_append ⟨_,e,rfl⟩ F.entry_list_append (F.args_list_append_2 _ _) (PySem.list_append l its.toArray n u (by rw[z1c];omega)) ⟨e,?_⟩;show⟨.non,_,I.lset (its':=its++[u]) hH e () (r.append (.cons ru .nil)) ?_,rfl,q⟩;rw[z1d,agR];omega
theorem len_rep{α:Type}(xs:List α)(k:Nat):(afO k xs).flatten.length=k*xs.length:=by
 induction k with
 |zero=>simp
 |succ k ih=>rw[ag0,ahr,z1d,ih,Nat.succ_mul,Nat.add_comm]
end
section
variable{prog:afZ}{w:af4}{A:af5}{E:afL->afN->Prop}{s:afN}
theorem splice_eq(its its2:List afL)(a c:Nat):its.toArray.extract 0 a++its2.toArray++its.toArray.extract c its.toArray.size=(its.take a++its2++its.drop c).toArray:=by
 apply Array.toList_inj.mp
 first
  | (simp
     show ajf ())
  |simp[ajf]
  |simp
end
section
variable{X:Cx}
end
section
variable{κ:Type}[DecidableEq κ]
end
theorem kV_is{P:afZ}{w:af4}{k:Key}{u:afL}(r:RelV (kV k) u):(mixKind P w).is k u=true:=by
 cases k with
 |inl i=>let⟨t,e⟩:=(show ∃t,u=aiC i t from r);subst e;show mixKind_int P w i t
 |inr x=>let⟨t,e⟩:=(show ∃t,u=ajW x t from r);subst e;show mixKind_str P w x t
section
variable{P:afZ}{w:af4}{H:Hp}{h:af2}{a:afK}
end
section
variable{X:Cx}{pins:List (afK×Obj)}{σ:St}{H:Hp}{s:afN}{a:afK}{y v:V}{u r:afL}{o:Option V}{A:af5}{E:afL->afN->Prop}
end
section
variable{X:Cx}{pins:List (afK×Obj)}{σ:St}{H:Hp}{s:afN}{a:afK}{kvs:List (Key×V)}{k:Key}{u:afL}{A:af5}{E:afL->afN->Prop}
end
def NoSl(i:afV):Prop:=∀ov iv,subscripted i false ov iv=operate [ov,iv] (ajw ov iv)
theorem subD_of{prog:afZ}{w:af4}{A:af5}{E:afL->afN->Prop}{env:Env}{value slice:afV}{pos:Pos}{T id:String}{Q:afL->afN->Prop}
  (hl:typeLookup (.type T) "__getitem__" =pure (some (.builtin id)))(hs:NoSl slice)
  (h:afS (model prog w) A (eval value env) (λo s₁=>afS (model prog w) A (eval slice env) (λi s₂=>s₂.TypeIs o T/\afS (model prog w) A (ajw o i) Q E s₂) E s₁) E s):
  afS (model prog w) A (eval (.Subscript value slice pos) env) Q E s:=by
 show Subscript_ (agL h (λo s₁ h₁=>agL h₁ (λi s₂ h₂=>?_) λ_ _ x=>x) λ_ _ x=>x);let⟨hT,h₂⟩:=h₂;unfold aj8;show aft ?_;rw[getitemInPython_of_ne hT.not_modules];show aft (wpAny_specialOf hT hl ?_);have fin:afS (model prog w) A (subscripted slice false o i) (λr s₃=>afS (model prog w) A (letTemporaryGo value o r >>=λ_=>pure r) Q E s₃) E s₂:=by
  rw[hs o i];show wpAny_operating (agL h₂ (λr s₃ h₃=>aft (wpAny_letTemporaryGo (afQ h₃))) λ_ _ x=>x)
 first
  |show afQ (aft fin)
  |show aft (afQ (aft fin))
  |show aft fin
section
variable{X:Cx}{o i e value:afV}{pos pos' tpos:Pos}{td ty tv:TE}
end
section
variable{X:Cx}{pos:Pos}
end
section
variable{X:Cx}{pins:List (afK×Obj)}{σ:St}{H:Hp}{s:afN}{a:afK}{y d:V}{u r:afL}{o:Option V}{A:af5}{E:afL->afN->Prop}
end
section
variable{X:Cx}{o e f:afV}{apos cpos:Pos}{td ty tx:TE}
end
section
variable{X:Cx}{pins:List (afK×Obj)}{σ:St}{H:Hp}{s:afN}{a:afK}{kvs:List (Key×V)}{A:af5}{E:afL->afN->Prop}
end
section
variable{X:Cx}{pins:List (afK×Obj)}{σ:St}{H:Hp}{s:afN}{a:afK}{y:V}{u:afL}{A:af5}{E:afL->afN->Prop}
end
end L2
namespace Att
open PySem PySem.W PySem.Calls PyProof.Rows
theorem ints_of_wellAll{P:Params}{h:af2}:∀(ns:List Int) (vs:List afL),WellAll P h vs (ns.map WData.int)->aib vs ns:=by
 intro ns
 induction ns with
 | nil=>
  intro vs w;rw[aif] at w;cases w;show .nil
 | cons n ns ih=>
  intro vs w;rw[z1h] at w;cases w with
  | cons a b=>
   cases a;show .cons _ _ (ih _ b)
theorem script_of{l:OpenLaw}{n:Nat}(hn:l.most=some n){P:Params}{h:af2}{args:List WData}{vals:List afL}
  (hpre:l.row.toRowW.claim.pre args=true)(hwl:WellAll P h vals args):
  ∃a vs ns,vals=[af0 a]/\args=[WData.list (ns.map WData.int)]/\h.get? a=some {cls:= .type "list",data:= .seq vs.toArray}/\aib vs ns/\ns.length<=n:=by
 have hsh:WShape.hasAll [] args [.list .int]=true:=(pre_splitW hpre).1;have hc:l.pre.holds [] {args:=args}=true:=(pre_splitW hpre).2;let⟨d,r,rfl,h1,h2⟩:=hasAllW_cons hsh;obtain rfl:=hasAllW_nil h2;let⟨xs,rfl,h3⟩:=hasW_list h1;let⟨ns,rfl⟩:=items_int h3;have hlen:ns.length<=n:=by
  unfold OpenLaw.pre at hc;have h4:(WTm.not (.lt (.lit (.int (n:Int))) (.len (.arg 0)))).holds [] {args:=[.list (ns.map .int)]}=true:=by
   have h4:=(holds_andW hc).1;rw[hn] at h4;show h4
  have h5:=condW_of h4 (w_not (w_lt w_lit (w_len_list (w_arg rfl))));rw[z1g] at h5;show Nat.le_of_not_lt λq=>?_;have q':(n:Int)<((ns.length:Nat):Int):=()
  first
   |(rw[z9t q'] at h5;show absurd h5 {})
   |(simp at h5;omega)
 cases hwl with
 | cons w1 w2=>
  cases w2;cases w1 with
  |list ho hall=>show⟨_,_,ns,rfl,rfl,ho,ints_of_wellAll ns _ hall,hlen⟩
theorem post_true(l:OpenLaw)(args:List WData):l.row.toRowW.claim.post args (.bool true) args=true:=
 postW_of (r:=l.row.toRowW) (X:=(true ==true))
  (show WShape.has [] (.bool true) .bool=true by first |rfl |decide |simp[WShape.has,WShape.arms,WShape.armsAll])
  (show (WTm.eq .res (.lit (.bool true))).value [] {args:=args,res:=some (.bool true),after:=args}=some (.bool (true ==true)) from w_eq_bool (w_res rfl) w_lit) rfl
theorem attach_call{l:OpenLaw}{n:Nat}{q:afZ}{loose:List Str}{XP:(Str->Option afL)->af2->Prop}{YP:af4->af2->Prop}{d:DefRec}
  (hn:l.most=some n)(hdf:d.params.defaults=[])
  (call:∀(w:af4) (s₀ s₁:afN) (mg mb:Str->Option afL) (fa:afK) (o:Obj) (pm cd doc:afL) (a:afK) (vs:List afL) (ns:List Int),
   Ground q loose [] XP w s₀ mg mb s₁.heap->YP w s₁.heap->
   s₁.heap.get? fa=some o->o.data= .func (docDef d.name d.params d.body d.scope pm cd doc)->s₁.heap.CodeRec cd d.name->mg d.name=some (.ref fa)->
   s₁.heap.get? a=some {cls:= .type "list",data:= .seq vs.toArray}->aib vs ns->ns.length<=n->s₁.gens= #[]->
   ai4 (model l.prog w) callerA (.call (.ref fa) ⟨[.ref a],[]⟩) (λr s'=>r= .ok (.ret (.bool true))/\OldK s₁.heap s'.heap/\s'.os=s₁.os/\ai3 s'.gens) s₁):
  WalkO q loose XP YP l.row.toRowW d [] (λf vs=>ako f vs):=by
 intro w s₀ s₁ mg mb G Y fa o pm cd doc dV kV ho hd hcd hD hmg hg args vals as hpre hlay hrd hwl hlo;obtain rfl:dV= .none:=Dflts.none hD hdf;obtain rfl:kV= .none:=Dflts.noKw hD;let⟨a,vs,ns,rfl,rfl,hobj,hints,hlen⟩:=script_of hn hpre hwl;show enter_call (ahI (call w s₀ s₁ mg mb fa o pm cd doc a vs ns G Y ho (fd_plain hd) hcd hmg hobj hints hlen hg) λr s' hq=>?_);let⟨rfl,h2,h3,h4⟩:=hq;show⟨.inl ⟨.bool true,.bool true,[],rfl,λ_=>rfl,.bool true,post_true l _,λ_=>⟨akg,λ_ hm=>(nomatch hm)⟩⟩,h2,h3,h4⟩
section
variable{prog:afZ}{w:af4}{A:af5}{E:afL->afN->Prop}{s:afN}{K:Frag}
end
end Att
namespace L2
open PySem PySem.Spec PyProof.Rows
theorem vals_ints:∀{vs:List afL} {ns:List Int},aib vs ns->Vals (ns.map V.int) vs
 :=by
 intro vs ns h
 induction h with
 |nil=>show .nil
 |cons n t h ih=>show .cons ⟨t,rfl⟩ ih
def defArgs(s:af7):ah8:=match s with
 | .FunctionDef _ a _ _ _ _ _ _ _ _=>a
 |_=>{posonlyargs:=[],args:=[],vararg:=none,kwonlyargs:=[],kw_defaults:=[],kwarg:=none,defaults:=[]}
def defBody(s:af7):List af7:=match s with
 | .FunctionDef _ _ b _ _ _ _ _ _ _=>b
 |_=>[]
def defScope(s:af7):ahp:=match s with
 | .FunctionDef _ _ _ _ _ _ sc _ _ _=>sc
 |_=>{kind:= .function,names:=[],isGenerator:=false,isCoroutine:=false}
abbrev CX0:CXT:=λ_ _ _ _ _ _=>False
abbrev E0:XK:=λ_ _ _=>False
theorem pass0{X:Cx}:Passes CX0 X E0:=λ_ _ _ _ _ _ _ h=>h.elim
inductive abq (K:afM) (x qual:Str) (st:af7) (f:afK) (fd:agx):Prop
 |mk (oc:afL) (od:Option afK) (kV doc pm:afL) (an:Option afK) (cdv ct:afL) (osl:Array (Option afL)) (e:fd=agy x qual (defArgs st) (defBody st) (defScope st) .none kV doc pm an cdv ct) (lk:K.lookup f=some ⟨oc,od,.func fd,osl⟩) (hcd:ahd K cdv qual=true):abq K x qual st f fd
structure Fun(K:afM)(x qual:Str)(st:af7)(f:afK)(fd:agx):Prop where
 ex:abq K x qual st f fd
 kp:agg K (.ref f)=true
section
variable{P:afZ}{w:af4}{K:afM}{mg:Str->Option afL}{base:af2}
theorem Fun.ok{x qual:Str}{st:af7}{f:afK}{fd:agx}{N ps:List Str}{k:Nat}{sp:Sp}(F:Fun K x qual st f fd)(S:FnScope N ps (defScope st))(len:∀vs H Q E,sp vs H Q E->vs.length=ps.length)
  (hbody:∀(cdv:afL) (A:af5) (outer:List Env) (s:afN) (H:Hp) (vs:List V) (Q:VK) (E:XK),Room k (A.deeper (ag9 qual (defScope st) s.heap.objs.size f cdv))->sp vs H Q E->
   ∃t,PSs (cxOf CX0 P w K mg base N qual (defScope st) f cdv A outer s H E).nox (defBody st) t/\t {nx:=λ_ H'=>Q .non H',rt:=Q} (start N vs) H):FnOk P w K mg base CX0 (k+1) f fd ps sp:=by
 let⟨oc,od,kV,doc,pm,an,cdv,ct,osl,rfl,lk,hcd⟩:=F.ex;show fn_of lk hcd S len λA outer s H vs Q E hr hsp=>?_;let⟨t,h,q⟩:=hbody cdv A outer s H vs Q E hr hsp;show⟨t,h.nox,q⟩
theorem Fun.binds{x qual:Str}{st:af7}{f:afK}{fd:agx}{ps:List Str}(F:Fun K x qual st f fd)
  (h:∀(kV doc pm:afL) (an:Option afK) (cdv ct:afL) (us:List afL),us.length=ps.length->ah1 (agy x qual (defArgs st) (defBody st) (defScope st) .none kV doc pm an cdv ct) ⟨us,[]⟩=pure (ps.zip us)):Binds K fd ps []:=by
 let⟨oc,od,kV,doc,pm,an,cdv,ct,osl,rfl,lk,hcd⟩:=F.ex;show .all (h kV doc pm an cdv ct)
theorem fun_mk{x qual:Str}{st:af7}{f:afK}{oc:afL}{od an:Option afK}{osl:Array (Option afL)}{kV doc pm cdv ct:afL}(l:K.lookup f=some ⟨oc,od,.func (agy x qual (defArgs st) (defBody st) (defScope st) .none kV doc pm an cdv ct),osl⟩)
  (c:ahd K cdv qual=true)(k:agg K (.ref f)=true):Fun K x qual st f (agy x qual (defArgs st) (defBody st) (defScope st) .none kV doc pm an cdv ct):=⟨⟨oc,od,kV,doc,pm,an,cdv,ct,osl,rfl,l,c⟩,k⟩
end
section
variable{X:Cx}
end
def Same(H H':Hp):Prop:=∀b o,H b=some o->H' b=some o
theorem Same.refl(H:Hp):Same H H:=λ_ _ h=>h
theorem Same.trans{H H1 H2:Hp}(a:Same H H1)(b:Same H1 H2):Same H H2:=λc o h=>b c o (a c o h)
theorem Same.free{H H':Hp}(e:Same H H'){l:afK}(h:H' l=Option.none):H l=Option.none:=by
 cases q:H l with
 |none=>rfl
 | some o=>
  rw[e l o q] at h;cases h
section
variable{κ:Type}[DecidableEq κ]
end
end L2
namespace Pu
open PySem PySem.Spec L2
open PyProof.Rows hiding St
inductive D where
 |non |bl (b:Bool) |int (i:Int) |str (x:Str) |tup (xs:List D) |lst (xs:List D)
structure Dk where
 m:D
 pg:List D
 n:Int
inductive R (α:Type) where
 |bad |ok (a:α) |err (c:Str)
namespace R
def bind{α β:Type}(r:R α)(k:α->R β):R β:=match r with
 | .ok a=>k a
 | .err c=> .err c
 | .bad=> .bad
@[simp] theorem aR {α β:Type} (a:α) (k:α->R β):(R.ok a).bind k=k a:=rfl
end R
mutual
def Rep(K:afM)(O:afK->Prop)(H:Hp):D->V->Prop
 | .non,v=>v= .non
 | .bl b,v=>v= .bl b
 | .int i,v=>v= .int i
 | .str x,v=>v= .str x
 | .tup ds,v=>∃a xs,v= .ref a/\SqT K H a xs/\aM K O H ds xs
 | .lst ds,v=>∃a xs,v= .ref a/\SqL K H a xs/\¬O a/\aM K O H ds xs
def aM(K:afM)(O:afK->Prop)(H:Hp):List D->List V->Prop
 |[],xs=>xs=[]
 |d::ds,xs=>∃x r,xs=x::r/\Rep K O H d x/\aM K O H ds r
end
abbrev vK(u:V)(l:afK)(n:Int):List (Str×V):=[("manner",u),("pages",.ref l),("at",.int n)]
abbrev jc(K:afM)(C:afK):Prop:=afW K afU "Desk" =some (some (.ref C))
structure Ext(O:afK->Prop)(H H':Hp):Prop where
 tup:∀b xs,Rd H b (.tup xs)->Rd H' b (.tup xs)
 lst:∀b xs,¬O b->Rd H b (.lst xs)->Rd H' b (.lst xs)
 ins:∀b C dx fs,¬O b->H b=some (.ins C dx fs)->H' b=some (.ins C dx fs)
section
variable{K:afM}{O O':afK->Prop}{H H':Hp}
theorem SqL.ext(e:Ext O H H'){a:afK}{xs:List V}(n:¬O a)(h:SqL K H a xs):SqL K H' a xs:=by
 rcases h with h |h
 .show .inl (e.lst _ _ n h)
 .show .inr h
theorem SqT.ext(e:Ext O H H'){a:afK}{xs:List V}(h:SqT K H a xs):SqT K H' a xs:=by
 rcases h with h |h
 .show .inl (e.tup _ _ h)
 .show .inr h
mutual
theorem Rep.ext(e:Ext O H H')(o:∀b xs,¬O b->SqL K H b xs->¬O' b):∀(d:D) (v:V),Rep K O H d v->Rep K O' H' d v
 | .non,_,h=>by simpa only[Rep] using h
 | .bl _,_,h=>by simpa only[Rep] using h
 | .int _,_,h=>by simpa only[Rep] using h
 | .str _,_,h=>by simpa only[Rep] using h
 | .tup ds,v,h=>by
  simp only[Rep] at h |-;let⟨a,xs,e1,h1,h2⟩:=h;show⟨a,xs,e1,SqT.ext e h1,aM.ext e o ds xs h2⟩
 | .lst ds,v,h=>by
  simp only[Rep] at h |-;let⟨a,xs,e1,h1,h2,h3⟩:=h;show⟨a,xs,e1,SqL.ext e h2 h1,o _ _ h2 h1,aM.ext e o ds xs h3⟩
theorem aM.ext(e:Ext O H H')(o:∀b xs,¬O b->SqL K H b xs->¬O' b):∀(ds:List D) (xs:List V),aM K O H ds xs->aM K O' H' ds xs
 |[],xs,h=>by simpa only[aM] using h
 | d::ds,xs,h=>by
  simp only[aM] at h |-;let⟨x,r,e1,h1,h2⟩:=h;show⟨x,r,e1,Rep.ext e o d x h1,aM.ext e o ds r h2⟩
end
end
structure cT(K:afM)(O:afK->Prop)(H:Hp)(O':afK->Prop)(H':Hp):Prop where
 ext:Ext O H H'
 new:∀a,O' a->O a\/(H a=none/\K.lookup a=none)
 dom:∀a,H' a=none->H a=none
section
variable{K:afM}{O O1 O2:afK->Prop}{H H1 H2:Hp}
theorem Rd.some{a:afK}{u:HO}(h:Rd H a u):H a≠none:=by
 rcases h with h |⟨o,h⟩ <;> rw[h] <;> simp
theorem cT.out(r:cT K O H O1 H1)(b:afK)(xs:List V)(n:¬O b)(h:SqL K H b xs):¬O1 b:=λz=>by
 rcases r.new b z with z |⟨z1,z2⟩
 .show n z
 .rcases h with h |⟨o,_,_,h,_⟩
  .show Rd.some h z1
  .rw[z2] at h;cases h
theorem cT.outI(r:cT K O H O1 H1)(b C dx:afK)(fs:List (Str×V))(n:¬O b)(h:H b=some (.ins C dx fs)):¬O1 b:=λz=>by
 rcases r.new b z with z |⟨z1,z2⟩
 .show n z
 .rw[h] at z1;cases z1
theorem cT.refl:cT K O H O H:=⟨⟨λ_ _ h=>h,λ_ _ _ h=>h,λ_ _ _ _ _ h=>h⟩,λ_ h=> .inl h,λ_ h=>h⟩
theorem cT.trans(r:cT K O H O1 H1)(q:cT K O1 H1 O2 H2):cT K O H O2 H2 where
 ext:=⟨λb xs h=>q.ext.tup b xs (r.ext.tup b xs h),λb xs n h=>q.ext.lst b xs (r.out b xs n (.inl h)) (r.ext.lst b xs n h),λb C dx fs n h=>q.ext.ins b C dx fs (r.outI b C dx fs n h) (r.ext.ins b C dx fs n h)⟩
 new:=λa z=>(q.new a z).elim (r.new a) λw=> .inr ⟨r.dom a w.1,w.2⟩
 dom:=λa z=>r.dom a (q.dom a z)
theorem Same.rd(s:Same H H1){a:afK}{u:HO}(h:Rd H a u):Rd H1 a u:=by
 rcases h with h |⟨o,h⟩
 .show .inl (s _ _ h)
 .show .inr ⟨o,s _ _ h⟩
theorem Same.cI(s:Same H H1):cT K O H O H1:=⟨⟨λ_ _ h=>Same.rd s h,λ_ _ _ h=>Same.rd s h,λ_ _ _ _ _ h=>s _ _ h⟩,λ_ h=> .inl h,λ_ h=>s.free h⟩
theorem Rep.go(r:cT K O H O1 H1){d:D}{v:V}(h:Rep K O H d v):Rep K O1 H1 d v:=Rep.ext r.ext r.out d v h
theorem aM.go(r:cT K O H O1 H1){d:List D}{v:List V}(h:aM K O H d v):aM K O1 H1 d v:=aM.ext r.ext r.out d v h
theorem Rep.same(s:Same H H1){d:D}{v:V}(h:Rep K O H d v):Rep K O H1 d v:=h.go (Same.cI s)
theorem aM.same(s:Same H H1){d:List D}{v:List V}(h:aM K O H d v):aM K O H1 d v:=h.go (Same.cI s)
theorem Rep.fewer(w:∀a,O1 a->O a){d:D}{v:V}(h:Rep K O H d v):Rep K O1 H d v:=Rep.ext ⟨λ_ _ h=>h,λ_ _ _ h=>h,λ_ _ _ _ _ h=>h⟩ (λb _ n _ z=>n (w b z)) d v h
theorem aM.fewer(w:∀a,O1 a->O a){d:List D}{v:List V}(h:aM K O H d v):aM K O1 H d v:=aM.ext ⟨λ_ _ h=>h,λ_ _ _ h=>h,λ_ _ _ _ _ h=>h⟩ (λb _ n _ z=>n (w b z)) d v h
theorem aM.nil:aM K O H [] []:=by simp only[aM]
theorem aM.cons{d:D}{v:V}{ds:List D}{vs:List V}(h:Rep K O H d v)(t:aM K O H ds vs):aM K O H (d::ds) (v::vs):=by simp only[aM];show⟨v,vs,rfl,h,t⟩
theorem aM.cons_inv{d:D}{ds:List D}{vs:List V}(h:aM K O H (d::ds) vs):∃x r,vs=x::r/\Rep K O H d x/\aM K O H ds r:=by simpa only[aM] using h
theorem aM.nil_inv{vs:List V}(h:aM K O H [] vs):vs=[]:=by simpa only[aM] using h
theorem aM.length:∀{ds:List D} {vs:List V},aM K O H ds vs->ds.length=vs.length
 |[],vs,h=>by rw[h.nil_inv];rfl
 | d::ds,vs,h=>by
  let⟨x,r,rfl,_,t⟩:=h.cons_inv;simp[aM.length t]
theorem aM.get:∀{ds:List D} {vs:List V} {i:Nat} {d:D},aM K O H ds vs->ds[i]?=some d->∃v,vs[i]?=some v/\Rep K O H d v
 |[],_,_,_,_,e=>by simp at e
 | d::ds,vs,i,d',h,e=>by
  let⟨x,r,rfl,h1,t⟩:=h.cons_inv;cases i with
  |zero=>simp at e;subst e;show⟨x,rfl,h1⟩
  |succ i=>simpa using aM.get t (i:=i) (by simpa using e)
theorem aM.bJ{ds:List D}{vs:List V}{i:Nat}{v:V}(h:aM K O H ds vs)(e:vs[i]?=some v):∃d,ds[i]?=some d/\Rep K O H d v:=by
 have hl:=h.length;have hi:i<ds.length:=by rw[hl];show (z1b e).1
 let⟨v',e',r⟩:=h.get (i:=i) (d:=ds[i]) (by simp[hi]);rw[e] at e';cases e';show⟨_,by simp[hi],r⟩
theorem aM.append:∀{ds es:List D} {vs ws:List V},aM K O H ds vs->aM K O H es ws->aM K O H (ds++es) (vs++ws)
 |[],_,vs,_,h,t=>by rw[h.nil_inv];show t
 | d::ds,es,vs,ws,h,t=>by
  let⟨x,r,rfl,h1,h2⟩:=h.cons_inv;show .cons h1 (aM.append h2 t)
theorem aM.reverse:∀{ds:List D} {vs:List V},aM K O H ds vs->aM K O H ds.reverse vs.reverse
 |[],vs,h=>by rw[h.nil_inv];show .nil
 | d::ds,vs,h=>by
  let⟨x,r,rfl,h1,h2⟩:=h.cons_inv;simp only[List.reverse_cons];show h2.reverse.append (.cons h1 .nil)
theorem aM.drop:∀{ds:List D} {vs:List V} (n:Nat),aM K O H ds vs->aM K O H (ds.drop n) (vs.drop n)
 |_,_,0,h=>h
 |[],vs,n+1,h=>by rw[h.nil_inv];show .nil
 | d::ds,vs,n+1,h=>by
  let⟨x,r,rfl,h1,h2⟩:=h.cons_inv;show h2.drop n
theorem aM.take:∀{ds:List D} {vs:List V} (n:Nat),aM K O H ds vs->aM K O H (ds.take n) (vs.take n)
 |_,_,0,_=>by simpa using aM.nil
 |[],vs,n+1,h=>by rw[h.nil_inv];show .nil
 | d::ds,vs,n+1,h=>by
  let⟨x,r,rfl,h1,h2⟩:=h.cons_inv;show .cons h1 (h2.take n)
theorem Rep.int{i:Int}{v:V}(h:Rep K O H (.int i) v):v= .int i:=by simpa only[Rep] using h
theorem Rep.bl{b:Bool}{v:V}(h:Rep K O H (.bl b) v):v= .bl b:=by simpa only[Rep] using h
theorem Rep.non{v:V}(h:Rep K O H .non v):v= .non:=by simpa only[Rep] using h
theorem Rep.str{x:Str}{v:V}(h:Rep K O H (.str x) v):v= .str x:=by simpa only[Rep] using h
theorem Rep.tup{ds:List D}{v:V}(h:Rep K O H (.tup ds) v):∃a xs,v= .ref a/\SqT K H a xs/\aM K O H ds xs:=by simpa only[Rep] using h
theorem Rep.lst{ds:List D}{v:V}(h:Rep K O H (.lst ds) v):∃a xs,v= .ref a/\SqL K H a xs/\¬O a/\aM K O H ds xs:=by simpa only[Rep] using h
theorem cg(i:Int):Rep K O H (.int i) (.int i):=by simp only[Rep]
theorem dO(b:Bool):Rep K O H (.bl b) (.bl b):=by simp only[Rep]
theorem lC:Rep K O H .non .non:=by simp only[Rep]
theorem Ed(x:Str):Rep K O H (.str x) (.str x):=by simp only[Rep]
theorem gA{ds:List D}{a:afK}{xs:List V}(h:SqT K H a xs)(r:aM K O H ds xs):Rep K O H (.tup ds) (.ref a):=by simp only[Rep];show⟨a,xs,rfl,h,r⟩
theorem lD{ds:List D}{a:afK}{xs:List V}(h:SqL K H a xs)(n:¬O a)(r:aM K O H ds xs):Rep K O H (.lst ds) (.ref a):=by simp only[Rep];show⟨a,xs,rfl,h,n,r⟩
end
inductive Ob where
 |exc (c:Str) |fn (a:afK)
inductive Ent where
 |val (d:D) |lst (ds:List D) |wL (kvs:List (Key×D)) |obj (t:Ob) |rws (rows:List (List D)) |bU (g:Option (afK×afK)) (k:Dk) |eU (k:Dk)
def Ent.own:Ent->Bool
 | .val _=>false
 | .obj _=>false
 | .eU _=>false
 |_=>true
def Ent.Qt:Ent->Bool
 | .val _=>true
 |_=>false
theorem Kp{e:Ent}(h:e.Qt=true):e.own=false:=by cases e <;> first |rfl |cases h
abbrev ao:=List (Option Ent)
def aeM(K:afM)(O:afK->Prop)(H:Hp)(kvs:List (Key×D))(ys:List (Key×V)):Prop:=kvs.map (·.1)=ys.map (·.1)/\aM K O H (kvs.map (·.2)) (ys.map (·.2))
def qQ(K:afM)(H:Hp):Ob->V->Prop
 | .exc c,v=>∃a o C,v= .ref a/\H a=some (.frz o (.own a))/\o.cls= .ref C/\o.dict=none/\(∃vs,o.data= .fields vs)/\afW K afU c=some (some (.ref C))
 | .fn a,v=>v= .ref a/\∃o fd,H a=some (.frz o (.own a))/\o.data= .func fd
structure V9(K:afM)(O:afK->Prop)(H:Hp)(rows:List (List D))(a:afK)(rs:List afK):Prop where
 at_:H a=some (.lst (rs.map V.ref))
 oa:O a
 nd:(a::rs).Nodup
 len:rs.length=rows.length
 row:∀(i:Nat) r row,rs[i]?=some r->rows[i]?=some row->O r/\∃xs,H r=some (.lst xs)/\aM K O H row xs
structure oY(K:afM)(O:afK->Prop)(H:Hp)(k:Dk)(a C dx l:afK)(xs:List V)(u:V):Prop where
 at_:H a=some (.ins C dx (vK u l k.n))
 cl:jc K C
 oa:O a
 pl:H l=some (.lst xs)
 ol:O l
 mn:Rep K O H k.m u
 HW:aM K O H k.pg xs
def d9(K:afM)(O:afK->Prop)(H:Hp)(k:Dk)(v:V):Prop:=∃a C dx l xs u,v= .ref a/\H a=some (.ins C dx (vK u l k.n))/\jc K C/\¬O a/\SqL K H l xs/\¬O l/\Rep K O H k.m u/\aM K O H k.pg xs
theorem d9.go{K:afM}{O O1:afK->Prop}{H H1:Hp}(r:cT K O H O1 H1){k:Dk}{v:V}:d9 K O H k v->d9 K O1 H1 k v
 |⟨a,C,dx,l,xs,u,e1,h1,hc,n1,h2,n2,h3,h4⟩=>⟨a,C,dx,l,xs,u,e1,r.ext.ins _ _ _ _ n1 h1,hc,r.outI _ _ _ _ n1 h1,SqL.ext r.ext n2 h2,r.out _ _ n2 h2,h3.go r,h4.go r⟩
def fM(K:afM)(O:afK->Prop)(H:Hp):Ent->V->Prop
 | .val d,v=>Rep K O H d v
 | .lst ds,v=>∃a xs,v= .ref a/\O a/\H a=some (.lst xs)/\aM K O H ds xs
 | .wL kvs,v=>∃a ys,v= .ref a/\O a/\H a=some (.dK ys)/\aeM K O H kvs ys
 | .obj t,v=>qQ K H t v
 | .rws rows,v=>∃a rs,v= .ref a/\V9 K O H rows a rs
 | .bU g k,v=>∃a C dx l xs u,v= .ref a/\(∀p,g=some p->p=(a,l))/\oY K O H k a C dx l xs u
 | .eU k,v=>d9 K O H k v
def fH(H:Hp):Ent->V->afK->Prop
 | .rws _,v,r=>∃(a:afK) (rs:List afK),v= .ref a/\H a=some (.lst (rs.map V.ref))/\r∈rs
 | .bU _ _,v,r=>∃a C dx u n,v= .ref a/\H a=some (.ins C dx (vK u r n))
 |_,_,_=>False
def Wa(H:Hp)(ρ:ao)(σ:St):Prop:=∀(i j:Nat) (e e':Ent) (v v':V) (r:afK),i≠j->ρ[i]?=some (some e)->σ[i]?=some (some v)->fH H e v r->ρ[j]?=some (some e')->e'.own=true->σ[j]?=some (some v')->v'≠.ref r/\¬fH H e' v' r
structure Env(K:afM)(O:afK->Prop)(H:Hp)(ρ:ao)(σ:St):Prop where
 get:∀(i:Nat) e,ρ[i]?=some (some e)->∃v,σ[i]?=some (some v)/\fM K O H e v
 sep:∀(i j:Nat) e e' v,i≠j->ρ[i]?=some (some e)->ρ[j]?=some (some e')->e.own=true->e'.own=true->σ[i]?=some (some v)->σ[j]?=some (some v)->False
 jY:Wa H ρ σ
structure In(X:Cx)(O:afK->Prop)(H:Hp)(ρ:ao)(σ:St):Prop where
 env:Env X.K O H ρ σ
 al:∀a,O a->∃o,H a=some o
 len:σ.length=X.N.length
 iH:ρ.length=X.N.length
section
variable{X:Cx}{O:afK->Prop}{H H1:Hp}{ρ:ao}{σ:St}{K:afM}
theorem qQ.fz(s:∀b o u,H b=some (.frz o u)->H1 b=some (.frz o u)):∀{t:Ob} {v:V},qQ K H t v->qQ K H1 t v
 | .exc _,_,z=>by
  let⟨a,o,C,e,h,q,n⟩:=z;show⟨a,o,C,e,s _ _ _ h,q,n⟩
 | .fn _,_,z=>by
  let⟨e,o,fd,h,q⟩:=z;show⟨e,o,fd,s _ _ _ h,q⟩
theorem qQ.same(s:Same H H1){t:Ob}{v:V}(h:qQ K H t v):qQ K H1 t v:=h.fz λ_ _ _ q=>s _ _ q
theorem T6{rs rs':List afK}(h:rs.map V.ref=rs'.map V.ref):rs=rs':=(List.map_inj_right λ_ _ e=>V.ref.inj e).mp h
theorem V9.same(s:Same H H1){rows:List (List D)}{a:afK}{rs:List afK}(h:V9 K O H rows a rs):V9 K O H1 rows a rs:=⟨s _ _ h.at_,h.oa,h.nd,h.len,λi r row e1 e2=>let⟨o,xs,q,r'⟩:=h.row i r row e1 e2;⟨o,xs,s _ _ q,r'.same s⟩⟩
theorem fM.same(s:Same H H1):∀{e:Ent} {v:V},fM K O H e v->fM K O H1 e v
 | .val d,v,h=>Rep.same s h
 | .lst ds,v,z=>by
  let⟨a,xs,e,o,h,r⟩:=z;show⟨a,xs,e,o,s _ _ h,r.same s⟩
 | .wL kvs,v,z=>by
  let⟨a,xs,e,o,h,k,r⟩:=z;show⟨a,xs,e,o,s _ _ h,k,r.same s⟩
 | .obj t,v,h=>qQ.same s h
 | .rws rows,v,⟨a,rs,e,h⟩=>⟨a,rs,e,h.same s⟩
 | .bU g k,v,⟨a,C,dx,l,xs,u,e,hg,h⟩=>⟨a,C,dx,l,xs,u,e,hg,s _ _ h.at_,h.cl,h.oa,s _ _ h.pl,h.ol,h.mn.same s,h.HW.same s⟩
 | .eU k,v,h=>d9.go (Same.cI s) h
theorem fH.eq{e:Ent}{v:V}{r:afK}(w:∀a,v= .ref a->H1 a=H a)(h:fH H1 e v r):fH H e v r:=by
 cases e with
 |rws rows=>let⟨a,rs,e1,e2,e3⟩:=h;show⟨a,rs,e1,by rw[<-w a e1];show e2,e3⟩
 |bU g k=>let⟨a,C,dx,u,n',e1,e2⟩:=h;show⟨a,C,dx,u,n',e1,by rw[<-w a e1];show e2⟩
 |val d=>show h
 |lst ds=>show h
 |wL kvs=>show h
 |obj t=>show h
 |eU k=>show h
theorem fH.own{e:Ent}{v:V}{r:afK}(h:fH H e v r):e.own=true:=by cases e <;> first |rfl |show h.elim
theorem fM.at{e:Ent}{v:V}(h:fM K O H e v)(ho:e.own=true):∃a,v= .ref a/\O a/\∃o,H a=some o:=by
 cases e with
 |val d=>cases ho
 |obj t=>cases ho
 |eU k=>cases ho
 |lst ds=>let⟨a,xs,e1,o1,e2,_⟩:=h;show⟨a,e1,o1,_,e2⟩
 |wL kvs=>let⟨a,xs,e1,o1,e2,_⟩:=h;show⟨a,e1,o1,_,e2⟩
 |rws rows=>let⟨a,rs,e1,R⟩:=h;show⟨a,e1,R.oa,_,R.at_⟩
 |bU g k=>let⟨a,C,dx,l,xs,u,e1,_,R⟩:=h;show⟨a,e1,R.oa,_,R.at_⟩
theorem fM.inn{e:Ent}{v:V}{r:afK}(h:fM K O H e v)(i:fH H e v r):O r/\∃xs,H r=some (.lst xs):=by
 cases e with
 | rws rows=>
  let⟨a,rs,e1,R⟩:=h;let⟨a',rs',e2,q,m⟩:=i;rw[e1] at e2;cases e2;have q':=R.at_;rw[q] at q';rw[T6 (HO.lst.inj (agb q'))] at m;let⟨n,hn⟩:=List.mem_iff_getElem?.mp m;have hl:=R.len;have hn':=(z1b hn).1;let⟨o1,xs,e3,_⟩:=R.row n r _ hn (ahe ());show⟨o1,xs,e3⟩
 | bU g k=>
  let⟨a,C,dx,l,xs,u,e1,_,R⟩:=h;let⟨a',C',dx',u',n',e2,q⟩:=i;rw[e1] at e2;cases e2;have q':=R.at_;rw[q] at q';cases q';show⟨R.ol,xs,R.pl⟩
 |val d=>show i.elim
 |lst ds=>show i.elim
 |wL kvs=>show i.elim
 |obj t=>show i.elim
 |eU k=>show i.elim
theorem fM.aeN(s:Same H H1){e:Ent}{v:V}(h:fM K O H e v)(ho:e.own=true):∀a,v= .ref a->H1 a=H a:=λa ea=>by
 let⟨b,e1,_,o,q⟩:=h.at ho;rw[e1] at ea;cases ea;rw[q,s _ _ q]
theorem Wa.of(h:Wa H ρ σ)(w:∀(i:Nat) (e:Ent) (v:V) (r:afK),ρ[i]?=some (some e)->σ[i]?=some (some v)->fH H1 e v r->fH H e v r):Wa H1 ρ σ:=λi j e e' v v' r hij hi hs ha hj ho hv=>let q:=h i j e e' v v' r hij hi hs (w i e v r hi hs ha) hj ho hv;⟨q.1,λz=>q.2 (w j e' v' r hj hv z)⟩
theorem Env.back(E:Env K O H ρ σ)(s:Same H H1){i:Nat}{e:Ent}{v:V}{r:afK}(hi:ρ[i]?=some (some e))(hs:σ[i]?=some (some v))(h:fH H1 e v r):fH H e v r:=by
 let⟨v',q,R⟩:=E.get i _ hi;rw[q] at hs;cases hs;show h.eq (R.aeN s h.own)
theorem oZ{p:afK}{u o:HO}(hO:O p)(hu:H p=some u)(hm:Mut (some u)):cT K O H O (upd H p o):=by
 have k:∀b,b≠p->∀{w:HO},Rd H b w->Rd (upd H p o) b w:=λb nb w h=>by
  rcases h with h |⟨q,h⟩
  .show .inl (by rw[upd_ne nb];show h)
  .show .inr ⟨q,by rw[upd_ne nb];show h⟩
 have nO:∀b,¬O b->b≠p:=λb n z=>n (by rw[z];show hO);show⟨⟨λb xs h=>k b (λz=>?_) h,λb xs n h=>k b (nO b n) h,λb C dx fs n h=>by rw[upd_ne (nO b n)];show h⟩,λa z=> .inl z,λa z=>?_⟩
 .subst z;rcases h with h |⟨_,h⟩ <;> rw[hu] at h <;> cases h <;> show hm
 .by_cases ea:a=p
  .rw[ea,upd_same] at z;cases z
  .rw[upd_ne ea] at z;show z
theorem fM.keep{O':afK->Prop}{H':Hp}{e:Ent}{v:V}(h:fM K O H e v)(r:cT K O H O' H')(fz:∀b o u,H b=some (.frz o u)->H' b=some (.frz o u))(w:∀b,e.own=true->v= .ref b\/fH H e v b->H' b=H b/\(O b->O' b)):fM K O' H' e v:=by
 cases e with
 |val d=>show Rep.go r h
 |obj t=>show qQ.fz fz h
 | lst ds=>
  let⟨a,xs,e1,o1,e2,q⟩:=h;let⟨w1,w2⟩:=w a rfl (.inl e1);show⟨a,xs,e1,w2 o1,w1.trans e2,q.go r⟩
 | wL kvs=>
  let⟨a,xs,e1,o1,e2,k,q⟩:=h;let⟨w1,w2⟩:=w a rfl (.inl e1);show⟨a,xs,e1,w2 o1,w1.trans e2,k,q.go r⟩
 | rws rows=>
  let⟨a,rs,e1,R⟩:=h;let⟨w1,w2⟩:=w a rfl (.inl e1);show⟨a,rs,e1,w1.trans R.at_,w2 R.oa,R.nd,R.len,λn x row z1 z2=>?_⟩;let⟨o1,xs,z3,z4⟩:=R.row n x row z1 z2;let⟨w3,w4⟩:=w x rfl (.inr ⟨a,rs,e1,R.at_,agF z1⟩);show⟨w4 o1,xs,w3.trans z3,z4.go r⟩
 |eU k=>show d9.go r h
 | bU g k=>
  let⟨a,C,dx,l,xs,u,e1,hg,R⟩:=h;let⟨w1,w2⟩:=w a rfl (.inl e1);let⟨w3,w4⟩:=w l rfl (.inr ⟨a,C,dx,u,k.n,e1,R.at_⟩);show⟨a,C,dx,l,xs,u,e1,hg,w1.trans R.at_,R.cl,w2 R.oa,w3.trans R.pl,w4 R.ol,R.mn.go r,R.HW.go r⟩
theorem fM.has{e:Ent}{v:V}{b:afK}(h:fM K O H e v)(ho:e.own=true)(w:v= .ref b\/fH H e v b):O b/\∃o,H b=some o:=by
 rcases w with w |w
 .let⟨a,e1,o1,q⟩:=h.at ho;rw[e1] at w;cases w;show⟨o1,q⟩
 .let⟨o1,xs,q⟩:=h.inn w;show⟨o1,_,q⟩
theorem fM.abr{O':afK->Prop}{H':Hp}{e:Ent}{v:V}(h:fM K O H e v)(s:Same H H')(r:cT K O H O' H')(wO:∀a,O a->O' a):fM K O' H' e v:=h.keep r (λ_ _ _ z=>s _ _ z) λb ho w=>by
 let⟨o1,o,q⟩:=h.has ho w;show⟨(s _ _ q).trans q.symm,wO b⟩
theorem Env.same(E:Env K O H ρ σ)(s:Same H H1):Env K O H1 ρ σ:=⟨λj e h=>let⟨v,h1,h2⟩:=E.get j e h;⟨v,h1,h2.same s⟩,E.sep,E.jY.of λi e v r hi hs ha=>E.back s hi hs ha⟩
theorem In.same(i:In X O H ρ σ)(s:Same H H1):In X O H1 ρ σ:=
 ⟨i.env.same s,λa h=>let⟨o,q⟩:=i.al a h;⟨o,s _ _ q⟩,i.len,i.iH⟩
end
def Exc(h:af2)(e C:afK)(T:Option afK):Prop:=∃(oe:Obj) (vs:Array afL),h.get? e=some oe/\oe.cls= .ref C/\oe.dict=none/\oe.data= .fields vs/\match T with
 |none=>vs[1]?=some agi
 |some t=>vs[1]?=some (.ref t)/\t≠e/\∃(ot:Obj) (ts:Array afL),h.get? t=some ot/\ot.data= .fields ts/\ts[3]?=some agi
structure zT(P:afZ)(w:af4)(fs:List afK)(H:Hp)(s:afN)(a C:afK)(T:Option afK)(s':afN)(H':Hp):Prop where
 same:Same H H'
 un:Un fs [] H H' s.heap s'.heap
 hok:HOk P w H' s'.heap
 os:s'.os=s.os
 bare:ai3 s'.gens
 exc:Exc s'.heap a C T
 na:s.heap.get? a=none
 ha:H' a=none
 nt:∀t,T=some t->s.heap.get? t=none/\H' t=none
def HY(X:Cx)(c:Str)(σ:St)(H:Hp):Prop:=∀(H1:Hp) (pins:List (afK×Obj)) (s:afN) (a C:afK) (T:Option afK) (s':afN) (H':Hp),Same H H1->Inv X pins σ H1 s->
 afW X.K afU c=some (some (.ref C))->zT X.prog X.w (frs X.stack) H1 s a C T s' H'->X.xe (.ref a) s'
theorem HY.same{X:Cx}{c:Str}{σ:St}{H H1:Hp}(h:HY X c σ H)(s:Same H H1):HY X c σ H1:=λH2 pins s0 a C T s' H' s2=>h H2 pins s0 a C T s' H' (s.trans s2)
def good{α β:Type}(X:Cx)(Rl:(afK->Prop)->Hp->α->β->Prop)(O:afK->Prop)(r:R α)(σ:St)(H:Hp)(Q:β->Hp->Prop):Prop:=match r with
 | .ok a=>∀b H',Same H H'->Rl O H' a b->Q b H'
 | .err c=>HY X c σ H
 | .bad=>False
theorem good.same{α β:Type}{X:Cx}{Rl:(afK->Prop)->Hp->α->β->Prop}{O:afK->Prop}{r:R α}{σ:St}{H H1:Hp}{Q:β->Hp->Prop}(h:good X Rl O r σ H Q)(s:Same H H1):good X Rl O r σ H1 Q:=by
 cases r with
 |ok a=>show λb H' s' q=>h b H' (s.trans s') q
 |err c=>show HY.same (show HY X c σ H from h) s
 |bad=>show h
inductive TGd {α β:Type} (X:Cx) (Rl:(afK->Prop)->Hp->α->β->Prop) (f:ao->R α) (σ:St) (H:Hp) (Q:β->Hp->Prop):Prop
 |mk (ρ:ao) (O:afK->Prop) (j:In X O H ρ σ) (g:good X Rl O (f ρ) σ H Q):TGd X Rl f σ H Q
def tG{α β:Type}(X:Cx)(Rl:(afK->Prop)->Hp->α->β->Prop)(f:ao->R α):St->Hp->(β->Hp->Prop)->Prop:=λσ H Q=>TGd X Rl f σ H Q
abbrev rB:(afK->Prop)->Hp->Bool->Bool->Prop:=λ_ _ a b=>a=b
abbrev rD(X:Cx):(afK->Prop)->Hp->D->V->Prop:=λO H d v=>Rep X.K O H d v
abbrev wM(X:Cx):(afK->Prop)->Hp->List D->List V->Prop:=λO H d v=>aM X.K O H d v
def DE(X:Cx)(e:afV)(f:ao->R D):Prop:=PE X e (tG X (rD X) f)
def DT(X:Cx)(e:afV)(f:ao->R Bool):Prop:=PT X e (tG X rB f)
def DW(X:Cx)(e:afV)(f:ao->R Bool):Prop:=PW X e (tG X rB f)
def DA(X:Cx)(es:List afV)(f:ao->R (List D)):Prop:=PA X es (tG X (wM X) f)
theorem PE.imp{X:Cx}{e:afV}{t t':TE}(h:PE X e t)(w:∀σ H Q,t' σ H Q->t σ H Q):PE X e t':=λpins s σ H Q I q=>h pins s σ H Q I (w σ H Q q)
theorem PT.imp{X:Cx}{e:afV}{t t':TT}(h:PT X e t)(w:∀σ H Q,t' σ H Q->t σ H Q):PT X e t':=λpins s σ H Q I q=>h pins s σ H Q I (w σ H Q q)
theorem PW.imp{X:Cx}{e:afV}{t t':TT}(h:PW X e t)(w:∀σ H Q,t' σ H Q->t σ H Q):PW X e t':=λwh pins s σ H Q I q=>h wh pins s σ H Q I (w σ H Q q)
theorem PA.imp{X:Cx}{e:List afV}{t t':TA}(h:PA X e t)(w:∀σ H Q,t' σ H Q->t σ H Q):PA X e t':=λpos pins s σ H Q I q=>h pos pins s σ H Q I (w σ H Q q)
section
variable{X:Cx}{O:afK->Prop}{H:Hp}{ρ:ao}{σ:St}
theorem go{α β γ δ:Type}{Rl:(afK->Prop)->Hp->α->β->Prop}{Rm:(afK->Prop)->Hp->γ->δ->Prop}{f:ao->R α}{g:α->R γ}{Q:δ->Hp->Prop}{Q':β->Hp->Prop}
  (i:In X O H ρ σ)(h:good X Rm O ((f ρ).bind g) σ H Q)
  (k:∀a b H1,f ρ= .ok a->Same H H1->Rl O H1 a b->In X O H1 ρ σ->good X Rm O (g a) σ H1 Q->Q' b H1):tG X Rl f σ H Q':=by
 show⟨ρ,O,i,?_⟩;cases e:f ρ with
 |ok a=>rw[e] at h;show λb H1 s r=>k a b H1 e s r (i.same s) (good.same h s)
 |err c=>rw[e] at h;show h
 |bad=>rw[e] at h;show h
theorem fin{α β:Type}{Rl:(afK->Prop)->Hp->α->β->Prop}{a:α}{b:β}{Q:β->Hp->Prop}(h:good X Rl O (.ok a) σ H Q)(r:Rl O H a b):Q b H:=h b H (Same.refl H) r
end
end Pu
namespace Pu
open PySem PySem.Spec L2
open PyProof.Rows hiding St
variable{p:afK}{O O0:afK->Prop}{X Y:Cx}{d:D}{l:D->D->R D}{H H0:Hp}{ds:List D}{u:List D->ao->R ao}{N caps ts:List Str}{xs:List V}{n i:Nat}{px:Pos}{K:afM}{ρ:ao}{scope sc:ahp}{σ:St}{α:Type}
theorem Same.upd{o:HO}(h:H p=none):Same H (L2.upd H p o):=λb u e=>by
 rw[upd_ne (ne_of_none e h)];show e
theorem Rep.sW(h:H p=none)(r:aM X.K O H ds xs):Rep X.K O (upd H p (.tup xs)) (.tup ds) (.ref p):=
 gA (SqT.of upd_same) (r.same (Same.upd h))
theorem In.tE(i:In X O H ρ σ)(h:H p=none):¬O p:=λz=>by
 let⟨o,e⟩:=i.al p z;rw[h] at e;cases e
theorem Rep.o7(h:H p=none)(n:¬O p)(r:aM X.K O H ds xs):Rep X.K O (upd H p (.lst xs)) (.lst ds) (.ref p):=
 lD (SqL.of upd_same) n (r.same (Same.upd h))
section
variable{X:Cx}{a b c:afV}{f g h:ao->R D}{pos:Pos}
def bJ(ρ:ao)(i:Nat):R D:=match ρ[i]? with
 |some (some (.val d))=> .ok d
 |_=> .bad
theorem dv(i:Nat){x:Str}{pos:Pos}(hN:X.N[i]?=some x:=by rfl)(hv:Vis X.env.scope x:=by first |show agp rfl |show aga (agp rfl) |show aga (aga rfl))(hd:(x ==("__debug__" :Str))=false:=by decide)(hcd:(x ==("__classdict__" :Str))=false:=by decide):
  DE X (.Name x pos) (λρ=>bJ ρ i):=by
 show PE.imp (pe_var hN hv hd hcd) λσ H Q h=>?_;let⟨ρ,O,j,h⟩:=h;have h:good X (rD X) O (bJ ρ i) σ H Q:=h;unfold bJ at h;split at h
 .rename_i d e;let⟨v,e1,r⟩:=j.env.get i _ e;show⟨v,e1,fin h r⟩
 .show h.elim
theorem Kq{e:afV}{v:V}(h:PE X e (tC v))(r:∀O H,Rep X.K O H d v):DE X e (λ_=> .ok d):=PE.imp h λσ H Q h=>by
 let⟨ρ,O,j,h⟩:=h;show fin h (r O H)
theorem aJ{i:Int}{j pos}:DE X (.Constant (.int i) j pos) (λ_=> .ok (.int i)):=Kq pe_int λ_ _=>cg i
theorem j9{i:Bool}{j pos}:DE X (.Constant (.bool i) j pos) (λ_=> .ok (.bl i)):=Kq pe_bl λ_ _=>dO i
theorem lK{j pos}:DE X (.Constant .none j pos) (λ_=> .ok .non):=Kq pe_non λ_ _=>lC
theorem gF{x:Str}{j pos}:DE X (.Constant (.str x) j pos) (λ_=> .ok (.str x)):=Kq pe_str λ_ _=>Ed x
theorem jU{x:Str}{i:Int}{t:Tok}{pos:Pos}(hg:Gl X x)(hm:X.mg x=some (.int i t))(hd:(x ==("__debug__" :Str))=false:=by decide):DE X (.Name x pos) (λ_=> .ok (.int i)):=
 Kq (pe_glob (v:= .int i) hg hm ⟨t,rfl⟩ hd) λ_ _=>cg i
def iY(X:Cx)(o:afL->afL->Sem afL)(k:D->D->R D):Prop:=∃r:R2,OpR X o r/\
 ∀(ρ:ao) (O:afK->Prop) (σ:St) (H:Hp) (Q:VK) (x y:V) (dx dy:D),In X O H ρ σ->Rep X.K O H dx x->Rep X.K O H dy y->good X (rD X) O (k dx dy) σ H Q->r x y H Q
def bin(f g:ao->R D)(k:D->D->R D):ao->R D:=λρ=>(f ρ).bind λx=>(g ρ).bind λy=>k x y
theorem Ia{r:R2}{k:D->D->R D}{Q:VK}
  (hr:∀(ρ:ao) (O:afK->Prop) (σ:St) (H:Hp) (Q:VK) (x y:V) (dx dy:D),In X O H ρ σ->Rep X.K O H dx x->Rep X.K O H dy y->good X (rD X) O (k dx dy) σ H Q->r x y H Q)
  (h:tG X (rD X) (bin f g k) σ H Q):tOp r (tG X (rD X) f) (tG X (rD X) g) σ H Q:=by
 let⟨ρ,O,j,h⟩:=h;show go j h λdx x H1 e1 s1 r1 j1 h1=>?_;show go j1 h1 λdy y H2 e2 s2 r2 j2 h2=>hr ρ O σ H2 Q x y dx dy j2 (r1.same s2) r2 h2
theorem aP{op:ajN}{k:D->D->R D}(ho:iY X (ag4 op) k)(ha:DE X a f)(hb:DE X b g):DE X (.BinOp a op b pos) (bin f g k):=by
 let⟨r,ho,hr⟩:=ho;show PE.imp (pe_op ho ha hb) λσ H Q h=>Ia hr h
theorem wN{op:CmpOp}{k:D->D->R D}(ho:iY X (agn op) k)(ha:DE X a f)(hb:DE X b g)(hm:ahw op b=false:=by show nomark _):DE X (.Compare a [op] [b] pos) (bin f g k):=by
 let⟨r,ho,hr⟩:=ho;show PE.imp (pe_cmpR ho ha hb hm) λσ H Q h=>Ia hr h
def asB:D->R Bool
 | .bl b=> .ok b
 |_=> .bad
def bW(f:ao->R D):ao->R Bool:=λρ=>(f ρ).bind asB
theorem yq{t:TE}{k:ao->R D}{Q:Bool->Hp->Prop}(w:∀Q,tG X (rD X) k σ H Q->t σ H Q)(h:tG X rB (bW k) σ H Q):tTest t σ H Q:=by
 show w _ ?_;let⟨ρ,O,j,h⟩:=h;show go j h λd x H1 e1 s1 r1 j1 h1=>?_;cases d with
 |bl b=>show⟨b,r1.bl,fin h1 rfl⟩
 |_=>show h1.elim
theorem bO{op:CmpOp}{k:D->D->R D}(ho:iY X (agn op) k)(ha:DE X a f)(hb:DE X b g)(hm:ahw op b=false:=by show nomark _):DT X (.Compare a [op] [b] pos) (bW (bin f g k)):=by
 let⟨r,ho,hr⟩:=ho;show PT.imp (pt_cmpR ho ha hb hm) λσ H Q h=>yq (λQ h=>Ia hr h) h
theorem tH{e:afV}(h:DE X e f)(he:∀whole,isTrue e X.env whole=(do let v <-whole;aix e.pos;holding [v] (truthy v)):=by intro _;rfl):DT X e (bW f):=
 PT.imp (pt_val h he) λσ H Q h=>yq (t:=tG X (rD X) f) (λQ h=>h) h
def iD(k:Int->Int->R D):D->D->R D
 | .int i,.int j=>k i j
 |_,_=> .bad
theorem Ef{o:afL->afL->Sem afL}{C:Int->Int->Prop}{g:Int->Int->V}{k:Int->Int->R D}(ho:OpR X o (rI C g))(hk:∀i j,k i j= .bad\/∃d,k i j= .ok d/\C i j/\∀K O H,Rep K O H d (g i j)):iY X o (iD k):=by
 show⟨_,ho,λρ O σ H Q x y dx dy j0 rx ry h=>?_⟩;cases dx <;> cases dy <;> first
  |show h.elim
  |skip
 rename_i i j;rcases hk i j with e |⟨d,e,c,r⟩
 .have h':good X (rD X) O (k i j) σ H Q:=h;rw[e] at h';show h'.elim
 .have h':good X (rD X) O (k i j) σ H Q:=h;rw[e] at h';show⟨i,j,rx.int,ry.int,c,fin h' (r _ _ _)⟩
theorem tK{o:afL->afL->Sem afL}{g:Int->Int->V}{k:Int->Int->R D}(ho:OpR X o (rI0 g))(hk:∀i j,∃d,k i j= .ok d/\∀K O H,Rep K O H d (g i j)):iY X o (iD k):=by
 show⟨_,ho,λρ O σ H Q x y dx dy j0 rx ry h=>?_⟩;cases dx <;> cases dy <;> first
  |show h.elim
  |skip
 rename_i i j;let⟨d,e,r⟩:=hk i j;have h':good X (rD X) O (k i j) σ H Q:=h;rw[e] at h';show⟨i,j,rx.int,ry.int,fin h' (r _ _ _)⟩
def fX:D->D->R D:=iD λi j=> .ok (.int (i - j))
def iI:D->D->R D:=iD λi j=>if (-(2^64)<i/\i<2^64)\/(-(2^64)<j/\j<2^64) then .ok (.int (i*j)) else .bad
def gY:D->D->R D:=iD λi j=>if 0<j/\j<2^64 then .ok (.int (i / j)) else .bad
def gC:D->D->R D:=iD λi j=>if 0<j then .ok (.int (i % j)) else .bad
def vL:D->D->R D:=iD λi j=>if 0<=j/\j<=1000000/\i.natAbs<2^64 then .ok (.int (i^j.toNat)) else .bad
def ltI:D->D->R D:=iD λi j=> .ok (.bl (decide (i<j)))
def Av:D->D->R D:=iD λi j=> .ok (.bl (decide (i<=j)))
def qz:D->D->R D:=iD λi j=> .ok (.bl (decide (j<i)))
def Xy:D->D->R D:=iD λi j=> .ok (.bl (decide (j<=i)))
theorem fJ:iY X (ag4 .Sub) fX:=tK op_sub λi j=>⟨_,rfl,λ_ _ _=>cg _⟩
theorem Ib:iY X (agn .Lt) ltI:=tK op_lt λi j=>⟨_,rfl,λ_ _ _=>dO _⟩
theorem rZ:iY X (agn .LtE) Av:=tK op_le λi j=>⟨_,rfl,λ_ _ _=>dO _⟩
theorem Eh:iY X (agn .Gt) qz:=tK op_gt λi j=>⟨_,rfl,λ_ _ _=>dO _⟩
theorem aeO:iY X (agn .GtE) Xy:=tK op_ge λi j=>⟨_,rfl,λ_ _ _=>dO _⟩
theorem Ei{c:Prop}[Decidable c](d:D){P:D->Prop}(hP:c->P d):(if c then R.ok d else R.bad)=R.bad\/∃d',(if c then R.ok d else R.bad)=R.ok d'/\c/\P d':=by
 by_cases h:c
 .show .inr ⟨d,by rw[z9p h],h,hP h⟩
 .show .inl (by rw[z9n h])
theorem qC:iY X (ag4 .Mult) iI:=Ef op_mul λi j=>Ei (.int (i*j)) (P:=λd=>∀K O H,Rep K O H d (.int (i*j))) λ_ _ _ _=>cg _
theorem Xz{j:Int}(h0:0<j)(h:j<2^64):j.natAbs.log2<9000:=by
 have h1:j.natAbs≠0:=()
 have h2:j.natAbs<2^64:=()
 have h3:j.natAbs.log2<64:=(Nat.log2_lt h1).mpr h2;omega
theorem Z8:OpR X (ag4 .FloorDiv) (rI (λ_ j=>0<j/\j<2^64) λi j=> .int (i / j)):=opI λi j _ _ _ _ _ hc q=>by
 show floordiv_int (by have:=hc.1;omega) ?_ (.inl (PyProof.noPylong_of_log2 (Xz hc.1 hc.2)));rw[Int.fdiv_eq_ediv_of_nonneg _ (by have:=hc.1;omega)];show q
theorem qD:iY X (ag4 .FloorDiv) gY:=Ef Z8 λi j=>Ei (.int (i / j)) (P:=λd=>∀K O H,Rep K O H d (.int (i / j))) λ_ _ _ _=>cg _
theorem qF:iY X (ag4 .Mod) gC:=Ef op_mod λi j=>Ei (.int (i % j)) (P:=λd=>∀K O H,Rep K O H d (.int (i % j))) λ_ _ _ _=>cg _
theorem XC:iY X (ag4 .Pow) vL:=Ef op_pow λi j=>Ei (.int (i^j.toNat)) (P:=λd=>∀K O H,Rep K O H d (.int (i^j.toNat))) λ_ _ _ _=>cg _
def Ie(f g h:ao->R D)(k l:D->D->R D):ao->R D:=λρ=>(f ρ).bind λx=>(g ρ).bind λy=>(k x y).bind λz=>match z with
 | .bl true=>(h ρ).bind λw=>l y w
 | .bl false=> .ok (.bl false)
 |_=> .bad
def qR(f g:ao->R D):ao->R D:=λρ=>(f ρ).bind λx=>match x with
 | .bl true=>g ρ
 | .bl false=> .ok (.bl false)
 |_=> .bad
def adl(f:ao->R D):ao->R D:=λρ=>(f ρ).bind λx=>match x with
 | .bl b=> .ok (.bl (!b))
 |_=> .bad
variable{rest:List afV}
theorem tL{op}(h:DE X a f):DE X (.BoolOp op [a] pos) f:=pe_one h
theorem nP(ha:DE X a f)(hb:DE X (.BoolOp .And (b::rest) pos) g):DE X (.BoolOp .And (a::b::rest) pos) (qR f g):=by
 show PE.imp (pe_and ha hb) λσ H Q h=>?_;let⟨ρ,O,j,h⟩:=h;show go j h λd x H1 e1 s1 r1 j1 h1=>?_;cases d with
 | bl k=>
  cases k with
  |true=>show⟨true,r1.bl,by rw[z9p rfl];show⟨ρ,O,j1,h1⟩⟩
  |false=>show⟨false,r1.bl,by rw[z9n af6];show fin h1 (dO _)⟩
 |_=>show h1.elim
theorem adn(ha:DE X a f):DE X (.UnaryOp .Not a pos) (adl f):=by
 show PE.imp (pe_not ha) λσ H Q h=>?_;let⟨ρ,O,j,h⟩:=h;show go j h λd x H1 e1 s1 r1 j1 h1=>?_;cases d with
 |bl k=>show⟨k,r1.bl,fin h1 (dO _)⟩
 |_=>show h1.elim
def o8(f g:ao->R Bool):ao->R Bool:=λρ=>(f ρ).bind λx=>if x=true then g ρ else .ok false
def U3(f g:ao->R Bool):ao->R Bool:=λρ=>(f ρ).bind λx=>if x=true then .ok true else g ρ
def o9(f:ao->R Bool):ao->R Bool:=λρ=>(f ρ).bind λx=> .ok (!x)
variable{p q:ao->R Bool}
theorem U4(ha:DT X a p):DW X (.BoolOp .And [a] pos) p:=pw_and1 ha
theorem Qu(ha:DT X a p):DW X (.BoolOp .Or [a] pos) p:=pw_or1 ha
theorem XD(ha:DT X a p)(hb:DW X (.BoolOp .And (b::rest) pos) q):DW X (.BoolOp .And (a::b::rest) pos) (o8 p q):=by
 show PW.imp (pw_and ha hb) λσ H Q h=>?_;let⟨ρ,O,j,h⟩:=h;show go j h λd x H1 e1 s1 r1 j1 h1=>?_;subst r1;cases d with
 |true=>rw[z9p rfl] at h1 |-;show⟨ρ,O,j1,h1⟩
 |false=>rw[z9n af6] at h1 |-;show fin h1 rfl
theorem Wb(ha:DT X a p)(hb:DW X (.BoolOp .Or (b::rest) pos) q):DW X (.BoolOp .Or (a::b::rest) pos) (U3 p q):=by
 show PW.imp (pw_or ha hb) λσ H Q h=>?_;let⟨ρ,O,j,h⟩:=h;show go j h λd x H1 e1 s1 r1 j1 h1=>?_;subst r1;cases d with
 |true=>rw[z9p rfl] at h1 |-;show fin h1 rfl
 |false=>rw[z9n af6] at h1 |-;show⟨ρ,O,j1,h1⟩
theorem DW.dt{e:afV}(h:DW X e p):DT X e p:=h _
theorem lM(ha:DT X a p):DT X (.UnaryOp .Not a pos) (o9 p):=by
 show PT.imp (pt_not ha) λσ H Q h=>?_;let⟨ρ,O,j,h⟩:=h;show go j h λd x H1 e1 s1 r1 j1 h1=>?_;subst r1;show fin h1 rfl
def MP(c:ao->R Bool)(f g:ao->R D):ao->R D:=λρ=>(c ρ).bind λx=>if x=true then f ρ else g ρ
theorem abt(hc:DT X c p)(ha:DE X a f)(hb:DE X b g):DE X (.IfExp c a b pos) (MP p f g):=by
 show PE.imp (pe_ifExp hc ha hb) λσ H Q h=>?_;let⟨ρ,O,j,h⟩:=h;show go j h λd x H1 e1 s1 r1 j1 h1=>?_;subst r1;cases d with
 |true=>rw[z9p rfl] at h1 |-;show⟨ρ,O,j1,h1⟩
 |false=>rw[z9n af6] at h1 |-;show⟨ρ,O,j1,h1⟩
def ak(f:ao->R D)(g:ao->R (List D)):ao->R (List D):=λρ=>(f ρ).bind λx=>(g ρ).bind λxs=> .ok (x::xs)
variable{es:List afV}{fa:ao->R (List D)}
theorem aq:DA X [] (λ_=> .ok []):=PA.imp pa_nil λσ H Q h=>by
 let⟨ρ,O,j,h⟩:=h;show fin h .nil
theorem aj(ha:DE X a f)(hr:DA X es fa)(hs:afP (a::es) X.env=(false,eval a X.env)::afP es X.env:=by rfl):DA X (a::es) (ak f fa):=by
 show PA.imp (pa_cons ha hr hs) λσ H Q h=>?_;let⟨ρ,O,j,h⟩:=h;show go j h λd x H1 e1 s1 r1 j1 h1=>?_;show go j1 h1 λds xs H2 e2 s2 r2 j2 h2=>fin h2 (.cons (r1.same s2) r2)
def cap(k:List D->D)(ds:List D):R D:=if ds.length<=1000000 then .ok (k ds) else .bad
theorem eO:1000000<=sizeLine:=by rw[ahC];decide
def cU(fa:ao->R (List D)):ao->R D:=λρ=>(fa ρ).bind (cap .tup)
def jZ(fa:ao->R (List D)):ao->R D:=λρ=>(fa ρ).bind (cap .lst)
theorem cC{x1}(h:DA X es fa):DE X (.Tuple es x1 pos) (cU fa):=by
 show PE.imp (pe_tup h) λσ H Q h=>?_;let⟨ρ,O,j,h⟩:=h;show go j h λds xs H1 e1 s1 r1 j1 h1=>?_;unfold cap at h1;split at h1
 .rename_i hl;show⟨by rw[<-r1.length];show z0b hl eO,λp hp=>h1 _ _ (Same.upd hp) (Rep.sW hp r1)⟩
 .show h1.elim
theorem jd(h:DA X es fa):DE X (.List es pos) (jZ fa):=by
 show PE.imp (pe_lst h) λσ H Q h=>?_;let⟨ρ,O,j,h⟩:=h;show go j h λds xs H1 e1 s1 r1 j1 h1=>?_;unfold cap at h1;split at h1
 .rename_i hl;show⟨by rw[<-r1.length];show z0b hl eO,λp hp=>h1 _ _ (Same.upd hp) (Rep.o7 hp (j1.tE hp) r1)⟩
 .show h1.elim
def bQ:D->D->R D
 | .tup ds,.int i=>match atI ds i with |some d=> .ok d |none=> .bad
 | .lst ds,.int i=>match atI ds i with |some d=> .ok d |none=> .bad
 |_,_=> .bad
theorem aM.atI{K:afM}{O:afK->Prop}{H:Hp}{ds:List D}{vs:List V}{i:Int}{d:D}(r:aM K O H ds vs)(e:atI ds i=some d):∃v,atI vs i=some v/\Rep K O H d v:=by
 unfold L2.atI at e |-;rw[r.length] at e;cases q:ixN vs.length i with
 |none=>rw[q] at e;cases e
 | some k=>
  rw[q] at e;let⟨v,h1,h2⟩:=r.get (i:=k) (d:=d) e;show⟨v,h1,h2⟩
theorem bH(ha:DE X a f)(hb:DE X b g)(hs:PlainIx b:=by show λ_ _=>rfl):DE X (.Subscript a b pos) (bin f g bQ):=by
 show PE.imp (pe_ix ix_seq ha hb hs) λσ H Q h=>Ia (λρ O σ H Q x y dx dy j0 rx ry h=>?_) h;cases dx <;> cases dy <;> first
  |show h.elim
  |skip
 .rename_i ds i;let⟨p,xs,rfl,hq,r⟩:=rx.tup;have h':good X (rD X) O (match L2.atI ds i with |some d=>R.ok d |none=>R.bad) σ H Q:=h;cases e:L2.atI ds i with
  |none=>rw[e] at h';show h'.elim
  | some d=>
   rw[e] at h';let⟨v,e1,rv⟩:=r.atI e;show .inr (.inl ⟨p,xs,i,v,rfl,ry.int,hq,e1,fin h' rv⟩)
 .rename_i ds i;let⟨p,xs,rfl,hq,_,r⟩:=rx.lst;have h':good X (rD X) O (match L2.atI ds i with |some d=>R.ok d |none=>R.bad) σ H Q:=h;cases e:L2.atI ds i with
  |none=>rw[e] at h';show h'.elim
  | some d=>
   rw[e] at h';let⟨v,e1,rv⟩:=r.atI e;show .inl ⟨p,xs,i,v,rfl,ry.int,hq,e1,fin h' rv⟩
def CallD(X:Cx)(u:afL)(k:List D->R D):Prop:=∃r:List V->Hp->VK->Prop,CallR X u r/\
 ∀(ρ:ao) (O:afK->Prop) (σ:St) (H:Hp) (Q:VK) (xs:List V) (ds:List D),In X O H ρ σ->aM X.K O H ds xs->good X (rD X) O (k ds) σ H Q->r xs H Q
def aD(k:List D->R D)(fa:ao->R (List D)):ao->R D:=λρ=>(fa ρ).bind k
variable{x:Str}{pp:Pos}{k:List D->R D}{id T:String}
theorem aV(hc:CallD X (.builtin id) k)(hg:Gl X x)(hm:X.mg x=none)(hv:ahv x=some (.builtin id))(ha:DA X (a::es) fa)(hn:x≠"__name__" :=by decide)(hdb:(x ==("__debug__" :Str))=false:=by decide)
  (he:afP (a::es) X.env=(false,eval a X.env)::afP es X.env:=by rfl)(hpl:(ago pos (afP es X.env)).any (·.1)=false:=by rfl):DE X (.Call (.Name x pp) (a::es) [] pos) (aD k fa):=by
 let⟨r,hc,hr⟩:=hc;show PE.imp (pe_callB hc hg hm hv ha hn hdb he hpl) λσ H Q h=>?_;let⟨ρ,O,j,h⟩:=h;show go j h λds xs H1 e1 s1 r1 j1 h1=>hr ρ O σ H1 Q xs ds j1 r1 h1
theorem gZ(hc:CallD X (.type T) k)(hg:Gl X x)(hm:X.mg x=none)(hv:ahv x=some (.type T))(ha:DA X (a::es) fa)(hn:x≠"__name__" :=by decide)(hdb:(x ==("__debug__" :Str))=false:=by decide)
  (he:afP (a::es) X.env=(false,eval a X.env)::afP es X.env:=by rfl)(hpl:(ago pos (afP es X.env)).any (·.1)=false:=by rfl):DE X (.Call (.Name x pp) (a::es) [] pos) (aD k fa):=by
 let⟨r,hc,hr⟩:=hc;show PE.imp (pe_callTy hc hg hm hv ha hn hdb he hpl) λσ H Q h=>?_;let⟨ρ,O,j,h⟩:=h;show go j h λds xs H1 e1 s1 r1 j1 h1=>hr ρ O σ H1 Q xs ds j1 r1 h1
end
section
variable{X:Cx}{a b c:afV}{f g h:ao->R D}{pos:Pos}
theorem M4{r r':R2}{k:D->D->R D}{Q:VK}
  (hr:∀(ρ:ao) (O:afK->Prop) (σ:St) (H:Hp) (Q:VK) (x y:V) (dx dy:D),In X O H ρ σ->Rep X.K O H dx x->Rep X.K O H dy y->good X (rD X) O (k dx dy) σ H Q->r x y H Q)
  (hl:∀(ρ:ao) (O:afK->Prop) (σ:St) (H:Hp) (Q:VK) (x y:V) (dx dy:D),In X O H ρ σ->Rep X.K O H dx x->Rep X.K O H dy y->good X (rD X) O (l dx dy) σ H Q->r' x y H Q)
  (q:tG X (rD X) (Ie f g h k l) σ H Q):tChain r r' (tG X (rD X) f) (tG X (rD X) g) (tG X (rD X) h) σ H Q:=by
 let⟨ρ,O,j,q⟩:=q;show go j q λdx x H1 e1 s1 r1 j1 h1=>?_;show go j1 h1 λdy y H2 e2 s2 r2 j2 h2=>?_;have r1':=r1.same s2;cases e3:k dx dy with
 |bad=>rw[e3] at h2;show h2.elim
 |err n=>rw[e3] at h2;show hr ρ O σ H2 _ x y dx dy j2 r1' r2 (by rw[e3];show h2)
 | ok z=>
  rw[e3] at h2;show hr ρ O σ H2 _ x y dx dy j2 r1' r2 ?_;rw[e3];intro v H3 s3 r3;have j3:=j2.same s3;cases z with
  | bl t=>
   show⟨t,r3.bl,?_⟩;cases t with
   | true=>
    rw[z9p rfl];show go j3 (good.same h2 s3) λdw w H4 e4 s4 r4 j4 h4=>hl ρ O σ H4 Q y w dy dw j4 (r2.same (s3.trans s4)) r4 h4
   | false=>
    rw[z9n af6];show fin (good.same h2 s3) (dO _)
  |_=>show h2.elim
theorem GR{op op':CmpOp}{k:D->D->R D}(ho:iY X (agn op) k)(ho':iY X (agn op') l)(ha:DE X a f)(hb:DE X b g)(hc:DE X c h)
  (hm:lastMarks [op,op'] [b,c]=false:=by with_unfolding_all rfl):DE X (.Compare a [op,op'] [b,c] pos) (Ie f g h k l):=by
 let⟨r,ho,hr⟩:=ho;let⟨r',ho',hr'⟩:=ho';show PE.imp (pe_chain ho ho' ha hb hc hm) λσ H Q q=>M4 hr hr' q
theorem Z9{op op':CmpOp}{k:D->D->R D}(ho:iY X (agn op) k)(ho':iY X (agn op') l)(ha:DE X a f)(hb:DE X b g)(hc:DE X c h)
  (hm:lastMarks [op,op'] [b,c]=false:=by with_unfolding_all rfl):DT X (.Compare a [op,op'] [b,c] pos) (bW (Ie f g h k l)):=by
 let⟨r,ho,hr⟩:=ho;let⟨r',ho',hr'⟩:=ho';show PT.imp (pt_chain ho ho' ha hb hc hm) λσ H Q q=>yq (λQ q=>M4 hr hr' q) q
end
def YAt(K:afM)(O:afK->Prop)(J:It)(xs:List D)(H:Hp):Prop:=
 ∀i:Nat,(∀d,xs[i]?=some d->J.go i H/\∀x H',J.yld i H x H'->Same H H'/\Rep K O H' d x)/\(xs.length<=i->J.stop i H)
def YR(K:afM)(O:afK->Prop)(H:Hp)(J:It)(xs:List D):Prop:=∀O' H',cT K O H O' H'->YAt K O' J xs H'
abbrev rIt(X:Cx):(afK->Prop)->Hp->List D->It->Prop:=λO H xs J=>YR X.K O H J xs
def DI(X:Cx)(tg iter:afV)(fi:ao->R (List D)):Prop:=PI X tg iter (tG X (rIt X) fi)
theorem PI.imp{tg e:afV}{t t':TI}(h:PI X tg e t)(w:∀σ H Q,t' σ H Q->t σ H Q):PI X tg e t':=λpins s σ H Q I q=>h pins s σ H Q I (w σ H Q q)
section
variable{X:Cx}{tg:afV}
def afc(K:afM)(tl:TE):TI:=λσ H R=>tl σ H λx H1=>∃a,x= .ref a/\(((∃xs,SqL K H1 a xs)/\R (Itl K a) H1)\/((∃xs,SqT K H1 a xs)/\R (Itt K a) H1))
theorem ado{l:afV}{tl:TE}(hl:PE X l tl):PI X tg l (afc X.K tl):=by
 intro pins s σ H R I h;show thn (hl pins s σ H _ I h) λv s1 bB=>?_;let⟨x,H1,I1,r1,q1⟩:=bB;let⟨a,e,q⟩:=q1;subst e;cases r1;have fp:∀b∈[s1.heap.objs.size],FpOk X pins H1 b:=λb hb=>by
  have e:b=s1.heap.objs.size:=by simpa using hb
  subst e;show I1.fpOk (z0g _) (I1.hok.fresh (z0g _))
 rcases q with⟨⟨xs,hq⟩,q⟩ |⟨⟨xs,hq⟩,q⟩
 .let⟨its,rv,p,hz⟩:=I1.list hq;show akh p.isList ?_;show⟨s1.heap.objs.size,[s1.heap.objs.size],_,_,H1,rfl,I1.kept (t':=s1.toks) λb o e=>z1a _ e,turn_list a _,⟨_,z1f _ rfl,rfl,rfl⟩,fp,q⟩
 .let⟨its,rv,p,hz⟩:=I1.tuple hq;show wpAny_pyIter_tuple (show s1.heap.IsTuple a its.toArray from p) ?_;show⟨s1.heap.objs.size,[s1.heap.objs.size],_,_,H1,rfl,I1.kept (t':=s1.toks) λb o e=>z1a _ e,turn_tuple a _,⟨_,z1f _ rfl,rfl,rfl⟩,fp,q⟩
def dD:D->R (List D)
 | .tup ds=> .ok ds
 | .lst ds=> .ok ds
 |_=> .bad
theorem YR.lst{a:afK}(h:SqL K H a xs)(n:¬O a)(r:aM K O H ds xs):YR K O H (Itl K a) ds:=by
 intro O' H' q;have h':SqL K H' a xs:=SqL.ext q.ext n h;have r':=r.go q;intro i;show⟨λd e=>?_,λe=>⟨xs,h',by rw[<-r.length];show e⟩⟩;let⟨v,e1,rv⟩:=r'.get e;show⟨⟨xs,v,h',e1⟩,λx H2 y=>?_⟩;let⟨eH,y⟩:=y;subst eH;have:=y xs h';rw[e1] at this;cases this;show⟨Same.refl _,rv⟩
theorem YR.tup{a:afK}(h:SqT K H a xs)(r:aM K O H ds xs):YR K O H (Itt K a) ds:=by
 intro O' H' q;have h':SqT K H' a xs:=SqT.ext q.ext h;have r':=r.go q;intro i;show⟨λd e=>?_,λe=>⟨xs,h',by rw[<-r.length];show e⟩⟩;let⟨v,e1,rv⟩:=r'.get e;show⟨⟨xs,v,h',e1⟩,λx H2 y=>?_⟩;let⟨eH,y⟩:=y;subst eH;have:=y xs h';rw[e1] at this;cases this;show⟨Same.refl _,rv⟩
def fY(f:ao->R D):ao->R (List D):=λρ=>(f ρ).bind dD
theorem fK{l:afV}{f:ao->R D}(h:DE X l f):DI X tg l (fY f):=by
 show PI.imp (ado h) λσ H Q q=>?_;let⟨ρ,O,j,q⟩:=q;show go j q λd x H1 e1 s1 r1 j1 h1=>?_;cases d with
 | tup ds=>
  let⟨a,xs,rfl,hq,r⟩:=r1.tup;show⟨a,rfl,.inr ⟨⟨xs,hq⟩,fin h1 (YR.tup hq r)⟩⟩
 | lst ds=>
  let⟨a,xs,rfl,hq,n,r⟩:=r1.lst;show⟨a,rfl,.inl ⟨⟨xs,hq⟩,fin h1 (YR.lst hq n r)⟩⟩
 |_=>show h1.elim
def upto(lo:Int)(n:Nat):List D:=(afR n).map λ(i:Nat)=>D.int (lo+(i:Int))
theorem YR.rng(lo:Int)(n:Nat):YR K O H (Itr lo n) (upto lo n):=by
 intro O' H' q i;have hl:(upto lo n).length=n:=by simp[upto]
 show⟨λd e=>?_,λe=>by rw[hl] at e;show e⟩;have hi:i<n:=by rw[<-hl];show (z1b e).1
 have e2:d=D.int (lo+(i:Int)):=by
  simp only[upto,z2b,agr hi] at e;show (agb e).symm
 subst e2;show⟨hi,λx H2 y=>?_⟩;let⟨eH,y⟩:=y;subst eH;subst y;show⟨Same.refl _,cg _⟩
def mO:List D->R (List D)
 |[.int j]=>if -(2^62)<=j/\j<2^62 then .ok (upto 0 j.toNat) else .bad
 |_=> .bad
theorem aM.one(r:aM K O H [d] xs):∃x,xs=[x]/\Rep K O H d x:=by
 let⟨x,t,rfl,h1,h2⟩:=r.cons_inv;rw[h2.nil_inv];show⟨x,rfl,h1⟩
theorem aM.two{e:D}(r:aM K O H [d,e] xs):∃x y,xs=[x,y]/\Rep K O H d x/\Rep K O H e y:=by
 let⟨x,t,rfl,h1,h2⟩:=r.cons_inv;let⟨y,rfl,h3⟩:=h2.one;show⟨x,y,rfl,h1,h3⟩
variable{a b:afV}{fa:ao->R (List D)}{p pos:Pos}
theorem ju(hg:Gl X "range")(hm:X.mg "range" =none)(ha:DA X [a] fa)(hs:afP [a] X.env=[(false,eval a X.env)]:=by rfl):DI X tg (.Call (.Name "range" p) [a] [] pos) (λρ=>(fa ρ).bind mO):=by
 show PI.imp (pi_range1 hg hm ha hs) λσ H Q q=>?_;let⟨ρ,O,j,q⟩:=q;show go j q λds xs H1 e1 s1 r1 j1 h1=>?_;unfold mO at h1;split at h1
 .let⟨x,rfl,rx⟩:=r1.one;split at h1
  .rename_i i hi;show⟨i,by rw[rx.int],hi.1,hi.2,fin h1 (YR.rng 0 i.toNat)⟩
  .show h1.elim
 .show h1.elim
end
inductive DGp (X:Cx) (gt:D->ao->R ao) (v:V) (σ:St) (H:Hp) (Q:St->Hp->Prop):Prop
 |mk (ρ:ao) (O:afK->Prop) (d:D) (ρ':ao) (j:In X O H ρ σ) (r:Rep X.K O H d v) (e:gt d ρ= .ok ρ') (q:∀σ',In X O H ρ' σ'->Q σ' H):DGp X gt v σ H Q
def DG(X:Cx)(tg:afV)(gt:D->ao->R ao):Prop:=PG X tg λv σ H Q=>DGp X gt v σ H Q
inductive adp (X:Cx) (gt:List D->ao->R ao) (vs:List V) (σ:St) (H:Hp) (Q:St->Hp->Prop):Prop
 |mk (ρ:ao) (O:afK->Prop) (ds:List D) (ρ':ao) (j:In X O H ρ σ) (r:aM X.K O H ds vs) (e:gt ds ρ= .ok ρ') (q:∀σ',In X O H ρ' σ'->Q σ' H):adp X gt vs σ H Q
def DGs(X:Cx)(ts:List afV)(gt:List D->ao->R ao):Prop:=PGs X ts λvs σ H Q=>adp X gt vs σ H Q
section
variable{X:Cx}{pos:Pos}
theorem In.set(j:In X O H ρ σ)(hi:i<X.N.length){v:V}(r:Rep X.K O H d v):In X O H (ρ.set i (some (.val d))) (σ.set i (some v)):=by
 have h1:i<ρ.length:=by rw[j.iH];show hi
 have h2:i<σ.length:=by rw[j.len];show hi
 show⟨⟨λk e q=>?_,λk l e e' u hkl qk ql ok ol sk sl=>?_,λk l e e' u u' r hkl qk sk ha ql ol sl=>?_⟩,j.al,by rw[agM];show j.len,by rw[agM];show j.iH⟩
 .by_cases hk:k=i
  .subst hk;rw[z2a h1] at q;cases q;show⟨v,z2a h2,r⟩
  .rw[z1e (afT hk)] at q;let⟨u,q1,q2⟩:=j.env.get k e q;show⟨u,by rw[z1e (afT hk)];show q1,q2⟩
 .have hk:k≠i:=λz=>by subst z;rw[z2a h1] at qk;cases qk;cases ok
  have hl:l≠i:=λz=>by subst z;rw[z2a h1] at ql;cases ql;cases ol
  rw[z1e (afT hk)] at qk sk;rw[z1e (afT hl)] at ql sl;show j.env.sep k l e e' u hkl qk ql ok ol sk sl
 .have hk:k≠i:=λz=>by subst z;rw[z2a h1] at qk;cases qk;show ha
  have hl:l≠i:=λz=>by subst z;rw[z2a h1] at ql;cases ql;cases ol
  rw[z1e (afT hk)] at qk sk;rw[z1e (afT hl)] at ql sl;show j.env.jY k l e e' u u' r hkl qk sk ha ql ol sl
def aL(i:Nat)(d:D)(ρ:ao):R ao:= .ok (ρ.set i (some (.val d)))
theorem bx(i:Nat){x:Str}(hN:X.N.Nodup)(hi:X.N[i]?=some x:=by rfl)(hx:Loc X.env.scope x:=by first |show agp rfl |show aga rfl)(hf:X.fn x=true\/X.env.scope.names.lookup x=some .local:=by first |show .inl rfl |show .inr rfl):DG X (.Name x pos) (aL i):=by
 intro pins s σ H v u Q I r h;let⟨ρ,O,d,ρ',j,rd,e,q⟩:=h;cases e;show pg_name hN hi hx hf pins s σ H v u Q I r (q _ (j.set (z1b hi).1 rd))
def nilG:List D->ao->R ao
 |[],ρ=> .ok ρ
 |_,_=> .bad
def bf(t:D->ao->R ao)(u:List D->ao->R ao):List D->ao->R ao
 |d::ds,ρ=>(t d ρ).bind λρ'=>u ds ρ'
 |_,_=> .bad
theorem jV:DGs X [] nilG:=by
 intro pins s σ H vs us Q I r h;let⟨ρ,O,ds,ρ',j,rd,e,q⟩:=h;cases ds with
 |nil=>cases e;show pgs_nil pins s σ H vs us Q I r ⟨rd.nil_inv,q _ j⟩
 |cons d ds=>cases e
theorem bM{e:afV}{es:List afV}{t:D->ao->R ao}(h1:DG X e t)(h2:DGs X es u)
  (hs:(ah5 (e::es) X.env).map (·.2)=assign e X.env::(ah5 es X.env).map (·.2):=by rfl):DGs X (e::es) (bf t u):=by
 intro pins s σ H vs us Q I r h;let⟨ρ,O,ds,ρ',j,rd,e,q⟩:=h;cases ds with
 |nil=>cases e
 | cons d ds=>
  let⟨x,xs,rfl,rx,rxs⟩:=rd.cons_inv;have e':(t d ρ).bind (λρ'=>u ds ρ')= .ok ρ':=e;cases q1:t d ρ with
  |bad=>rw[q1] at e';cases e'
  |err c=>rw[q1] at e';cases e'
  | ok ρ1=>
   rw[q1] at e';show pgs_cons h1 h2 hs pins s σ H _ us Q I r ⟨x,xs,rfl,ρ,O,d,ρ1,j,rx,q1,λσ1 j1=>?_⟩;show⟨ρ1,O,ds,ρ',j1,rxs,e',q⟩
def dR(u:List D->ao->R ao):D->ao->R ao
 | .tup ds,ρ=>u ds ρ
 |_,_=> .bad
def dU(n:Nat)(u:List D->ao->R ao):List D->ao->R ao:=λds ρ=>if ds.length=n then u ds ρ else .bad
theorem lN{es:List afV}{k:Nat}(hc:X.calm=true)(h:DGs X es u)
  (hn:(ah5 es X.env).length=n:=by rfl)(hst:(ah5 es X.env).findIdx? (·.1)=none:=by rfl):DG X (.Tuple es k pos) (dR (dU n u)):=by
 intro pins s σ H v w Q I r q;let⟨ρ,O,d,ρ',j,rd,e,q⟩:=q;cases d with
 | tup ds=>
  let⟨a,xs,rfl,hq,rs⟩:=rd.tup;have e':(if ds.length=n then u ds ρ else .bad)= .ok ρ':=e;by_cases hl:ds.length=n
  .rw[z9p hl] at e';show pg_tup hc h hn hst pins s σ H _ w Q I r ⟨a,xs,rfl,hq,by rw[<-rs.length];show hl,ρ,O,ds,ρ',j,rs,e',q⟩
  .rw[z9n hl] at e';cases e'
 |_=>cases e
end
def mQ(x:Str):List Str->Nat
 |[]=>0
 |y::r=>if x=y then 0 else mQ x r+1
theorem pq{x:Str}:∀{N:List Str},x∈N->N[mQ x N]?=some x
 |[],h=>by simp at h
 | y ::r,h=>by
  unfold mQ;by_cases e:x=y
  .rw[z9p e,e];rfl
  .rw[z9n e];rcases af9.mp h with z |z
   .show absurd z e
   .simpa using pq z
def pull{α:Type}(N caps:List Str)(n:Nat)(l:List (Option α)):List (Option α):=afO n none++caps.map λx=>(l[mQ x N]?).join
theorem yt(N caps:List Str)(n:Nat)(l:List (Option α)):(pull N caps n l).length=n+caps.length:=by simp[pull]
theorem join_some{o:Option (Option α)}{a:α}(h:o.join=some a):o=some (some a):=by
 cases o with
 |none=>cases h
 |some o=>show congrArg some h
theorem mR{l:List (Option α)}{a:α}(h:(pull N caps n l)[i]?=some (some a)):∃j x,i=n+j/\caps[j]?=some x/\l[mQ x N]?=some (some a):=by
 unfold pull at h;by_cases hi:i<n
 .rw[agJ (by simpa using hi),ahf,z9p hi] at h;cases h
 .rw[agu (by simpa using hi),agt,z2b] at h;cases e:caps[i - n]? with
  |none=>rw[e] at h;cases h
  | some x=>
   rw[e] at h;show⟨i - n,x,(),e,join_some (agb h)⟩
theorem wQ{l:List (Option α)}{j:Nat}{x:Str}(h:caps[j]?=some x):(pull N caps n l)[n+j]?=some (l[mQ x N]?).join:=by
 unfold pull;rw[agu (),agt,z2b,show n+j - n=j by omega,h];rfl
def eV(sc:ahp):List Str:=(sc.names.filter λx=>decide (x.2= .free)).map (·.1)
def Qv(outer sc:ahp)(ts N:List Str):Bool:=
 decide (sc.kind= .function) && sc.names.all (λx=>(!decide (x.2= .local)) || decide (sc.names.lookup x.1=some .local)) && sc.names.all (λx=>(!decide (x.2= .cell)) || decide (sc.names.lookup x.1=some .cell)) &&
  (eV sc).all (λx=>(decide (outer.names.lookup x=some .cell) || decide (outer.names.lookup x=some .free)) && decide (x∈N) && decide (sc.names.lookup x=some .free)) && decide (ts++eV sc).Nodup
structure Ej(outer sc:ahp)(ts N:List Str):Prop where
 kind:sc.kind= .function
 loc:∀x∈sc.names,x.2= .local->sc.names.lookup x.1=some .local
 cel:∀x∈sc.names,x.2= .cell->sc.names.lookup x.1=some .cell
 out:∀x∈eV sc,outer.names.lookup x=some .cell\/outer.names.lookup x=some .free
 mem:∀x∈eV sc,x∈N
 M5:∀x∈eV sc,sc.names.lookup x=some .free
 nd:(ts++eV sc).Nodup
theorem aeP{outer:ahp}(h:Qv outer sc ts N=true):Ej outer sc ts N:=by
 unfold Qv at h;simp only[agY,akB,decide_eq_true_eq,Bool.or_eq_true,Bool.not_eq_true',decide_eq_false_iff_not] at h;let⟨⟨⟨⟨h1,h2⟩,h3⟩,h4⟩,h5⟩:=h;show⟨h1,λx hx e=>(h2 x hx).resolve_left λn=>n e,λx hx e=>(h3 x hx).resolve_left λn=>n e,λx hx=>(h4 x hx).1.1,λx hx=>(h4 x hx).1.2,λx hx=>(h4 x hx).2,h5⟩
def ig(cs:List (Str×afK)):List (Str×aic)->List (Str×afK)->List (Str×afK)
 |[],acc=>acc
 |(n,k)::r,acc=>if k= .free then ig cs r ((n,(cs.lookup n).getD 0)::acc) else ig cs r acc
theorem Wc{env:agA}(h:∀x∈scope.names,x.2= .free->∃c,env.cells.lookup x.1=some c):akp scope env=pure (ig env.cells scope.names []):=by
 unfold akp;have all:∀(l:List (Str×aic)) (acc:List (Str×afK)),(∀x∈l,x.2= .free->∃c,env.cells.lookup x.1=some c)->
   (forIn l acc λx r=>match x with |(name,kind)=>if (kind ==agU)=true then do let a <-cellOf env name;pure (ajD ((name,a)::r)) else pure (ajD r):Sem (List (Str×afK)))=pure (ig env.cells l acc):=by
  intro l
  induction l with
  |nil=>intro acc _;rfl
  | cons x r ih=>
   intro acc hx;let⟨n,k⟩:=x;rw[ahX];unfold ig;by_cases hk:k= .free
   .let⟨c,hc⟩:=hx (n,k) agl hk;have hc:env.cells.lookup n=some c:=hc;have e1:cellOf env n=pure c:=by unfold cellOf;rw[hc]
    subst hk;simp only[e1,hc,akC,beq_self_eq_true,if_true,pure_bind];show ih _ λy hy=>hx y (z2f _ hy)
   .have e2:(k ==agU)=false:=by simpa using hk
    simp only[e2,agO,if_false,pure_bind,hk];show ih _ λy hy=>hx y (z2f _ hy)
 simpa using all scope.names [] h
theorem lO(cs:List (Str×afK)):∀(l:List (Str×aic)) (acc:List (Str×afK)),ig cs l acc=ig cs l []++acc
 |[],acc=>rfl
 | (n,k)::r,acc=>by
  unfold ig;split
  .rw[lO cs r (_::acc),lO cs r [_]];simp
  .show lO cs r acc
theorem tO(cs:List (Str×afK)):∀(l:List (Str×aic)) {n:Str} {c:afK},(n,c)∈ig cs l []->(n,agU)∈l/\c=(cs.lookup n).getD 0
 |[],_,_,h=>by simp[ig] at h
 | (m, k)::r,n,c,h=>by
  unfold ig at h;split at h
  .rename_i hk;rw[lO] at h;rcases aiR.mp h with h |h
   .let⟨h1,h2⟩:=tO cs r h;show⟨z2f _ h1,h2⟩
   .have e:=aip.mp h;cases e;subst hk;show⟨agl,rfl⟩
  .let⟨h1,h2⟩:=tO cs r h;show⟨z2f _ h1,h2⟩
theorem GX(cs:List (Str×afK)):∀(l:List (Str×aic)) {n:Str},(n,agU)∈l->((ig cs l []).lookup n).isSome=true
 |[],_,h=>by simp at h
 | (m, k)::r,n,h=>by
  unfold ig;split
  .rename_i hk;rw[lO,ag7];rcases af9.mp h with e |h
   .cases e;simp[ahN]
   .simp[GX cs r h]
  .rename_i hk;rcases af9.mp h with e |h
   .cases e;show absurd rfl hk
   .show GX cs r h
theorem dZ:∀(l:List (Str×aic)) (n:Nat) (acc:List (Str×afK)),agj n l acc=agj n l []++acc
 |[],_,_=>rfl
 | (m,k)::r,n,acc=>by
  unfold agj;split
  .rw[dZ r _ (_::acc),dZ r _ [_]];simp
  .show dZ r n acc
theorem jM:∀(l:List (Str×aic)) (n:Nat) {x:Str} {c:afK},(x,c)∈agj n l []->(x,ail)∈l/\n<=c
 |[],_,_,_,h=>by simp[agj] at h
 | (m, k)::r,n,x,c,h=>by
  unfold agj at h;split at h
  .rename_i hk;rw[dZ] at h;rcases aiR.mp h with h |h
   .let⟨h1,h2⟩:=jM r _ h;show⟨z2f _ h1,()⟩
   .have e:=aip.mp h;cases e;have:k= .cell:=by simpa using hk
    subst this;show⟨agl,z0g _⟩
  .let⟨h1,h2⟩:=jM r _ h;show⟨z2f _ h1,h2⟩
section
variable{M:Model}{A:af5}{E:afL->afN->Prop}{s:afN}
theorem XF{globals:afK}{cl:List (Str×afK)}{qual:Str}{env:agA}{Q:agA->afN->Prop}
  (hQ:Q (newEnv scope s.heap.objs.size globals (agj (s.heap.objs.size+1) scope.names cl) qual none .none (some env) aiG) {s with heap:=pushCells (s.heap.push {cls:= .type "dict",data:= .dict #[]}) scope.names}):
  afS M A (ajP scope globals cl [] qual none .none (some env)) Q E s:=by
 simp only[ajP,Option.isSome_some,if_true];show aft (wpAny_alloc ?_);show aft (wpAny_layCells _ (λname kind cells=>by cases hkc:kind ==ail <;> simp[hkc]) _ _ _ _ ?_);rw[show ({s with heap:=s.heap.push {cls:= .type "dict",data:= .dict #[]}}:afN).heap.objs.size=s.heap.objs.size+1 from agw ..];show aft (afQ (afQ hQ))
end
def gG(scope:ahp)(env:agA)(C:afK):agA:=
 {scope:=relabel scope env,locals:=C,globals:=env.globals,cells:=agj (C+1) scope.names (ig env.cells scope.names []),qual:=env.qual,func:=none,code:=env.code,frame:=env.frame,builtins:=env.builtins}
def dB(X:Cx)(scope:ahp)(ts:List Str)(C:afK)(s:afN)(H:Hp)(ex:List afK):Cx where
 prog:=X.prog
 w:=X.w
 K:=X.K
 mg:=X.mg
 base:=X.base
 A:=X.A
 N:=ts++eV scope
 s₀:=s
 H₀:=H
 env:=gG scope X.env C
 outer:=X.stack
 stack:=X.stack
 ex:=ex
 fn:=λx=>decide (scope.names.lookup x=some .cell)
 calm:=X.calm
 pn:=[]
 xe:=λ_ _=>False
theorem pA{scope:ahp}{env:agA}{x:Str}:∀{names:List (Str×aic)},
  (names.map λ(n,k)=>if (k ==agU && env.scope.kind == .function && env.kindOf n ==some .cell) then (n,ail) else (n,k)).lookup x =
   (names.lookup x).map λk=>if (k ==agU && env.scope.kind == .function && env.kindOf x ==some .cell) then .cell else k
 |[]=>rfl
 | (n, k)::r=>by
  have ih:= @pA scope env x r;rw[z1h];show ahD x ((if (k ==agU && env.scope.kind == .function && env.kindOf n ==some .cell)=true then (n,ail) else (n,k))::_)=_;cases hx:x ==n with
  | true=>
   have e:x=n:=by simpa using hx
   subst e;by_cases hc:(k ==agU && env.scope.kind == .function && env.kindOf x ==some .cell)=true
   .rw[z9p hc];simp only[ahN,beq_self_eq_true,ajE,hc,if_true]
   .rw[z9n hc];simp only[ahN,beq_self_eq_true,ajE,hc,if_false] <;> rfl
  | false=>
   by_cases hc:(k ==agU && env.scope.kind == .function && env.kindOf n ==some .cell)=true
   .rw[z9p hc];simp only[ahN,hx];show ih
   .rw[z9n hc];simp only[ahN,hx];show ih
theorem tQ{x:Str}(h:(x,agU)∈sc.names):x∈eV sc:=agV.mpr ⟨(x,.free),ajy.mpr ⟨h,()⟩,rfl⟩
theorem abF{x:Str}(h:x∈eV sc):(x,agU)∈sc.names:=by
 let⟨⟨n,k⟩,h1,h2⟩:=agV.mp h;let⟨h3,h4⟩:=ajy.mp h1;have h4:k=agU:=by simpa using h4
 subst h4;have h2:n=x:=h2;subst h2;show h3
section
variable{X:Cx}{scope:ahp}{ts:List Str}{C:afK}
theorem kj(B:Ej X.env.scope scope ts X.N)(has:∀x,(X.env.kindOf x=some .cell\/X.env.kindOf x=some .free)->∃c,X.env.cells.lookup x=some c){x:Str}{c:afK}(h:(gG scope X.env C).cells.lookup x=some c):
  (scope.names.lookup x=some .cell/\@LE.le Nat _ (C+1) c)\/(x∈eV scope/\X.env.cells.lookup x=some c):=by
 have h:(agj (C+1) scope.names (ig X.env.cells scope.names [])).lookup x=some c:=h;rw[dZ,ag7] at h;cases e:(agj (C+1) scope.names []).lookup x with
 | some c'=>
  rw[e] at h;have e2:c'=c:=by simpa using h
  subst e2;let⟨h1,h2⟩:=jM _ _ (agd e);show .inl ⟨B.cel _ h1 rfl,h2⟩
 | none=>
  rw[e] at h;have h:(ig X.env.cells scope.names []).lookup x=some c:=by simpa using h
  let⟨h1,h2⟩:=tO _ _ (agd h);have hx:=tQ h1;let⟨c',hc'⟩:=has x (B.out x hx);rw[hc'] at h2;have h2:c=c':=h2;subst h2;show .inr ⟨hx,hc'⟩
theorem Qw(B:Ej X.env.scope scope ts X.N){x:Str}{c:afK}(hx:x∈eV scope)(hc:X.env.cells.lookup x=some c)(has:∀x,(X.env.kindOf x=some .cell\/X.env.kindOf x=some .free)->∃c,X.env.cells.lookup x=some c):(gG scope X.env C).cells.lookup x=some c:=by
 have hs:=GX X.env.cells scope.names (abF hx);let⟨c',e⟩:=ahc.mp hs;have hl:∃d,(gG scope X.env C).cells.lookup x=some d:=by
  show ∃d,(agj (C+1) scope.names (ig X.env.cells scope.names [])).lookup x=some d;rw[dZ,ag7,e];cases (agj (C+1) scope.names []).lookup x with
  |none=>show⟨c',rfl⟩
  |some d=>show⟨d,rfl⟩
 let⟨d,hd⟩:=hl;rcases kj B has hd with⟨h1,_⟩ |⟨_,h2⟩
 .rw[B.M5 x hx] at h1;cases h1
 .rw[hc] at h2;cases h2;show hd
theorem aac(B:Ej X.env.scope scope ts X.N){x:Str}(hx:x∈eV scope):(gG scope X.env C).kindOf x=some .cell\/(gG scope X.env C).kindOf x=some .free:=by
 show (relabel scope X.env).names.lookup x=some .cell\/(relabel scope X.env).names.lookup x=some .free;have e:(relabel scope X.env).names.lookup x=(scope.names.lookup x).map λk=>if (k ==agU && X.env.scope.kind == .function && X.env.kindOf x ==some .cell) then .cell else k:=pA (scope:=scope);rw[e,B.M5 x hx];simp only[ajE];split
 .show .inl rfl
 .show .inr rfl
end
def zU{α:Type}:R α->R α
 | .err _=> .bad
 | .ok a=> .ok a
 | .bad=> .bad
@[simp] theorem Ih {α:Type} (a:α):zU (R.ok a)= .ok a:=rfl
def j5(k:D->R (Option D)):List D->R (List D)
 |[]=> .ok []
 |x::xs=>(zU (k x)).bind λo=>(j5 k xs).bind λds=> .ok (o.toList++ds)
def pB(gt:D->ao->R ao)(ft:ao->R Bool)(fe:ao->R D)(ρ:ao)(x:D):R (Option D):=
 (gt x ρ).bind λρ1=>(ft ρ1).bind λb=>if b=true then (fe ρ1).bind λd=> .ok (some d) else .ok none
def yu:Option Ent->Option Ent
 |some (.val d)=>some (.val d)
 |_=>none
def Ek(n:Nat)(caps:List Nat)(ρ:ao):ao:=afO n none++caps.map λk=>((ρ.map yu)[k]?).join
def bY(n:Nat)(caps:List Nat)(fi:ao->R (List D))(gt:D->ao->R ao)(ft:ao->R Bool)(fe:ao->R D):ao->R D:=
 λρ=>(fi ρ).bind λxs=>(j5 (pB gt ft fe (Ek n caps ρ)) xs).bind (cap .lst)
def wR(n:Nat)(gt:D->ao->R ao):Prop:=∀d ρ ρ',gt d ρ= .ok ρ'->∀i,n<=i->ρ'[i]?=ρ[i]?
def El(n:Nat)(gt:List D->ao->R ao):Prop:=∀d ρ ρ',gt d ρ= .ok ρ'->∀i,n<=i->ρ'[i]?=ρ[i]?
theorem aW(h:i<n):wR n (aL i):=λd ρ ρ' e j hj=>by
 cases e;rw[z1e ()]
theorem gM:El n nilG:=λd ρ ρ' e j hj=>by
 cases d with
 |nil=>cases e;rfl
 |cons _ _=>cases e
theorem bD{t:D->ao->R ao}(h1:wR n t)(h2:El n u):El n (bf t u):=λd ρ ρ' e j hj=>by
 cases d with
 |nil=>cases e
 | cons d ds=>
  have e':(t d ρ).bind (λρ'=>u ds ρ')= .ok ρ':=e;cases q:t d ρ with
  |ok ρ1=>rw[q] at e';rw[h2 ds ρ1 ρ' e' j hj,h1 d ρ ρ1 q j hj]
  |err c=>rw[q] at e';cases e'
  |bad=>rw[q] at e';cases e'
theorem gO{m:Nat}(h:El n u):wR n (dR (dU m u)):=λd ρ ρ' e j hj=>by
 cases d with
 | tup ds=>
  have e':(if ds.length=m then u ds ρ else .bad)= .ok ρ':=e;by_cases hl:ds.length=m
  .rw[z9p hl] at e';show h ds ρ ρ' e' j hj
  .rw[z9n hl] at e';cases e'
 |_=>cases e
def XH(Y:Cx)(ifs:List afV)(ft:ao->R Bool):Prop:=∀(pins:List (afK×Obj)) (s:afN) (σ:St) (H:Hp) (Q:Bool->Hp->Prop),Inv Y pins σ H s->tG Y rB ft σ H Q->
 afS (model Y.prog Y.w) Y.A (forIn ifs true λc r=>if r=true then do let ok <-isTrue c Y.env (eval c Y.env);pure (ajD ok) else pure (ajD r)) (TP Y pins σ Q) Y.xe s
theorem cA:XH Y [] (λ_=> .ok true):=λpins s σ H Q I h=>by
 let⟨ρ,O,j,h⟩:=h;show wpAny_tests_nil ⟨H,I,fin h rfl⟩
theorem abG{c:afV}{p:ao->R Bool}(hc:DT Y c p):XH Y [c] p:=λpins s σ H Q I h=>wpAny_tests_one (hc pins s σ H Q I h)
theorem XJ{k:D->R (Option D)}{x:D}{xs:List D}{all:List D}(h:j5 k (x::xs)= .ok all):∃o rest,k x= .ok o/\j5 k xs= .ok rest/\all=o.toList++rest:=by
 have h:(zU (k x)).bind (λo=>(j5 k xs).bind λds=> .ok (o.toList++ds))= .ok all:=h;cases e:k x with
 |bad=>rw[e] at h;cases h
 |err c=>rw[e] at h;cases h
 | ok o=>
  rw[e] at h;cases e2:j5 k xs with
  |bad=>rw[e2] at h;cases h
  |err c=>rw[e2] at h;cases h
  | ok rest=>
   rw[e2] at h;cases h;show⟨o,rest,rfl,rfl,rfl⟩
theorem Ii{k:D->R (Option D)}:∀{xs:List D} {c:Str},j5 k xs≠.err c
 |[],c=>λh=>by cases h
 | x ::xs,c=>λh=>by
  have h:(zU (k x)).bind (λo=>(j5 k xs).bind λds=> .ok (o.toList++ds))= .err c:=h;cases e:k x with
  |bad=>rw[e] at h;cases h
  |err c=>rw[e] at h;cases h
  | ok o=>
   rw[e] at h;cases e2:j5 k xs with
   |bad=>rw[e2] at h;cases h
   |err c'=>show Ii e2
   |ok rest=>rw[e2] at h;cases h
section
variable{X:Cx}
theorem Wd{o:Option Ent}{e:Ent}(h:yu o=some e):o=some e/\e.Qt=true:=by
 cases o with
 |none=>cases h
 | some e'=>
  cases e' with
  |val d=>cases h;show⟨rfl,rfl⟩
  |lst _=>cases h
  |wL _=>cases h
  |rws _=>cases h
  |bU _ _=>cases h
  |eU _=>cases h
  |obj _=>cases h
theorem tR{e:Ent}(h:(ρ.map yu)[i]?=some (some e)):ρ[i]?=some (some e)/\e.Qt=true:=by
 rw[z2b] at h;cases q:ρ[i]? with
 |none=>rw[q] at h;cases h
 | some o=>
  rw[q] at h;let⟨h1,h2⟩:=Wd (agb h);rw[h1];show⟨rfl,h2⟩
theorem In.vals(j:In X O H ρ σ):In X O H (ρ.map yu) σ:=
 ⟨⟨λi e h=>j.env.get i e (tR h).1,λi k e e' v hik hi hk=>j.env.sep i k e e' v hik (tR hi).1 (tR hk).1,λi k e e' v v' r hik hi _ ha=>by have z:=Kp (tR hi).2;rw[ha.own] at z;cases z⟩,j.al,j.len,by rw[z1g];show j.iH⟩
theorem Wf{ks:List Nat}(h:caps.map (λx=>mQ x N)=ks):pull N caps n (ρ.map yu)=Ek n ks ρ:=by
 unfold pull Ek;rw[<-h,agP];rfl
theorem abH{pins:List (afK×Obj)}{s:afN}{fp:List afK}(I:Inv X pins σ H s)(B:Ej X.env.scope scope ts X.N)
  (hf:∀b∈fp,FpOk X pins H b)(ho:∀b∈fp,b<s.heap.objs.size){h4:af2}{C:Nat}(hC:C=s.heap.objs.size+1)
  (e4:h4=pushCells ((s.heap.push {cls:= .type "list",dict:=none,data:= .seq ([]:List afL).toArray}).push {cls:= .type "dict",data:= .dict #[]}) scope.names):
  Inv (dB X scope ts C s H fp) [] (pull X.N (eV scope) ts.length σ) (upd H s.heap.objs.size (.lst [])) {s with heap:=h4}:=by
 have hD:H s.heap.objs.size=none:=I.hok.fresh (z0g _);have abu:∀b o,(s.heap.push {cls:= .type "list",dict:=none,data:= .seq ([]:List afL).toArray}).get? b=some o->h4.get? b=some o:=λb o e=>by
  rw[e4];show aiV _ _ b o (z1a _ e)
 have keep:∀b o,s.heap.get? b=some o->h4.get? b=some o:=λb o e=>abu b o (z1a _ e);have sz3:(s.heap.push {cls:= .type "list",dict:=none,data:= .seq ([]:List afL).toArray}).objs.size=s.heap.objs.size+1:=agw ..;have hns:h4.Ns C λ_=>none:=by
  rw[e4,hC,<-sz3];show (Heap.Ns.new _ (.type "dict")).keeps (aiV _ _)
 have ok:=cellsFrom_ok scope.names ((s.heap.push {cls:= .type "list",dict:=none,data:= .seq ([]:List afL).toArray}).push {cls:= .type "dict",data:= .dict #[]}) (C+1) [] ⟨λ_ _ hm=>(nomatch hm),akg⟩ (by rw[agw,sz3,hC];show z0g _);rw[agw,sz3,<-hC,<-e4] at ok;have abI:∀x c,(gG scope X.env C).cells.lookup x=some c->scope.names.lookup x=some .cell->h4.IsCell c none:=λx c h hk=>by
  have h:(agj (C+1) scope.names (ig X.env.cells scope.names [])).lookup x=some c:=h;rw[dZ,ag7] at h;cases e:(agj (C+1) scope.names []).lookup x with
  | some c'=>
   rw[e] at h;have e2:c'=c:=by simpa using h
   subst e2;show (ok.empty x c' (agd e)).1
  | none=>
   rw[e] at h;have h:(ig X.env.cells scope.names []).lookup x=some c:=by simpa using h
   have:=B.M5 x (tQ (tO _ _ (agd h)).1);rw[hk] at this;cases this
 have Wg:∀x (c:Nat),X.env.cells.lookup x=some c->c<s.heap.objs.size:=λx c e=>by
  let⟨v,q⟩:=I.cell x c e;show q.lt
 have adq:∀x c,(gG scope X.env C).cells.lookup x=some c->∃v,h4.IsCell c v:=λx c h=>by
  rcases kj B I.ok.has h with⟨h1,_⟩ |⟨_,h2⟩
  .show⟨_,abI x c h h1⟩
  .let⟨v,q⟩:=I.cell x c h2;show⟨v,q.keeps keep⟩
 show⟨⟨I.ok.mod,B.kind,I.ok.glob,I.ok.blt,by show @LE.le Nat _ s.heap.objs.size C;omega,?inj,?has,?cab,I.ok.hd,I.ok.frames,.inl rfl,?exf,I.bs,z0b I.ok.bsz I.sz,?noex,?exfs,I.stack,I.stkFree⟩,
  rfl,I.bare,Un.laid keep (z0g _) hD,⟨_,hns,?loc⟩,adq,?free,?freeC,λp hp=>absurd (show p∈([]:List (afK×Obj)) from hp) (),I.hok.laid keep (z0g _) ?new,?len⟩
 case inj=>
  intro x y c h1 h2;have h1:(gG scope X.env C).cells.lookup x=some c:=h1;have h2:(gG scope X.env C).cells.lookup y=some c:=h2;rcases kj B I.ok.has h1 with⟨a1,a2⟩ |⟨a1,a2⟩ <;> rcases kj B I.ok.has h2 with⟨b1,b2⟩ |⟨b1,b2⟩
  .-- both its own
   have look:∀z,(gG scope X.env C).cells.lookup z=some c->scope.names.lookup z=some .cell->(z,c)∈agj (C+1) scope.names []:=λz h hk=>by
    have h:(agj (C+1) scope.names (ig X.env.cells scope.names [])).lookup z=some c:=h;rw[dZ,ag7] at h;cases e:(agj (C+1) scope.names []).lookup z with
    | some c'=>
     rw[e] at h;have e2:c'=c:=by simpa using h
     subst e2;show agd e
    | none=>
     rw[e] at h;have h:(ig X.env.cells scope.names []).lookup z=some c:=by simpa using h
     have:=B.M5 z (tQ (tO _ _ (agd h)).1);rw[hk] at this;cases this
   show name_of_addr ok.apart (look x h1 a1) (look y h2 b1)
  .have:=Wg y c b2;omega
  .have:=Wg x c a2;omega
  .show I.ok.inj x y c a2 b2
 case has=>
  intro x hx;have hx:(relabel scope X.env).names.lookup x=some .cell\/(relabel scope X.env).names.lookup x=some .free:=hx;have hx:(scope.names.map λ(n,k)=>if (k ==agU && X.env.scope.kind == .function && X.env.kindOf n ==some .cell) then (n,ail) else (n,k)).lookup x=some .cell\/(scope.names.map λ(n,k)=>if (k ==agU && X.env.scope.kind == .function && X.env.kindOf n ==some .cell) then (n,ail) else (n,k)).lookup x=some .free:=hx;rw[pA (scope:=scope)] at hx;cases e:scope.names.lookup x with
  |none=>rw[e] at hx;rcases hx with z |z <;> cases z
  | some k=>
   rw[e] at hx;by_cases hk:k= .free
   .subst hk;have hm:=tQ (agd e);let⟨c,hc⟩:=I.ok.has x (B.out x hm);show⟨c,Qw B hm hc I.ok.has⟩
   .have hk':(k ==agU)=false:=by simpa using hk
    simp only[ajE,hk',akV,agO,if_false] at hx;have hc:k= .cell:=by
     rcases hx with z |z
     .show agb z
     .show absurd (agb z) hk
    subst hc;have q:=aiv scope.names (C+1) (ig X.env.cells scope.names []) (.inl e);show ahc.mp q
 case cab=>
  intro x c hfn h;have h:(gG scope X.env C).cells.lookup x=some c:=h;have hfn:scope.names.lookup x=some .cell:=z9o hfn;rcases kj B I.ok.has h with⟨_,a2⟩ |⟨a1,_⟩
  .show @LE.le Nat _ s.heap.objs.size c;omega
  .rw[B.M5 x a1] at hfn;cases hfn
 case exf=>
  intro b hb;have hb:b∈fp:=hb;have hl: @LT.lt Nat _ b s.heap.objs.size:=ho b hb;show⟨by show @Ne Nat b C;omega,λx c h=>?_⟩;rcases kj B I.ok.has h with⟨_,a2⟩ |⟨_,a2⟩
  .show @Ne Nat c b;omega
  .show (hf b hb).2.2.2.2.1 x c a2
 case noex=>
  intro b o e hb;have hb:b∈fp:=hb;rcases (hf b hb).2.2.2.1 with z |z
  .show I.ok.noex b o e z
  .show absurd (z0d (z2c e) (z0b I.ok.bsz z)) (agS _)
 case exfs=>
  intro b hb hz;have hb:b∈fp:=hb;have hz:b∈frs X.stack:=hz;rcases af9.mp (I.stkSub b hz) with z |z
  .show (hf b hb).2.1 z
  .show (hf b hb).2.2.1 z
 case loc=>
  intro i x v h1 h2 h3;have h1:(ts++eV scope)[i]?=some x:=h1;let⟨k,y,e1,e2,e3⟩:=mR h2;have hy:x=y:=by
   rw[e1,agu (),show ts.length+k - ts.length=k by omega,e2] at h1;show (agb h1).symm
  subst hy;have hm:x∈eV scope:=agF e2;let⟨m,_,hl⟩:=I.loc;have vis:Vis X.env.scope x:=by
   rcases B.out x hm with z |z
   .show .inr (.inl z)
   .show .inr (.inr z)
  let⟨u,ru,lk⟩:=hl (mQ x X.N) x v (pq (B.mem x hm)) e3 vis;show⟨u,ru,.inr ⟨aac B hm,?_⟩⟩;rcases lk with⟨z,_⟩ |⟨_,c,hc,q⟩
  .have z:X.env.scope.names.lookup x=some .local:=z;rcases B.out x hm with z' |z' <;> rw[z] at z' <;> cases z'
  .show⟨c,Qw B hm hc I.ok.has,q.keeps keep⟩
 case free=>
  show upd H s.heap.objs.size (.lst []) C=none;rw[upd_ne (show @Ne Nat C s.heap.objs.size by omega)];show I.hok.fresh (show @LE.le Nat _ s.heap.objs.size C by omega)
 case freeC=>
  intro x c h;rcases kj B I.ok.has h with⟨_,a2⟩ |⟨_,a2⟩
  .rw[upd_ne (show @Ne Nat c s.heap.objs.size by omega)];show I.hok.fresh (show @LE.le Nat _ s.heap.objs.size c by omega)
  .have:=Wg x c a2;rw[upd_ne (show @Ne Nat c s.heap.objs.size by omega)];show I.freeC x c a2
 case new=>
  show⟨ahO _,[],0,.nil,abu _ _ (z1f _ rfl)⟩
 case len=>
  show (pull X.N (eV scope) ts.length σ).length=(ts++eV scope).length;rw[yt,z1d]
theorem adt{s:afN}{fp:List afK}{C:afK}(B:Ej X.env.scope scope ts X.N)(j:In X O H ρ σ):In (dB X scope ts C s H fp) O H (pull X.N (eV scope) ts.length ρ) (pull X.N (eV scope) ts.length σ):=by
 show⟨⟨λi e h=>?_,λi k e e' v hik hi hk oi ok si sk=>?_,λi k e e' v v' r hik hi si ha hk ok sk=>?_⟩,j.al,?_,?_⟩
 .let⟨m,x,rfl,e1,e2⟩:=mR h;let⟨v,e3,r⟩:=j.env.get _ e e2;show⟨v,by rw[wQ e1,e3];rfl,r⟩
 .let⟨m,x,rfl,e1,e2⟩:=mR hi;let⟨m',x',rfl,e1',e2'⟩:=mR hk;have hx:x≠x':=λz=>by
   subst z;have nd:=(aki.mp B.nd).2.1;show hik (by rw[nodup_ix nd e1 e1'])
  have hm:=B.mem x (agF e1);have hm':=B.mem x' (agF e1');have hne:mQ x X.N≠mQ x' X.N:=λz=>by
   have q1:=pq hm;have q2:=pq hm';rw[z,q2] at q1;show hx (agb q1).symm
  rw[wQ e1] at si;rw[wQ e1'] at sk;show j.env.sep _ _ e e' v hne e2 e2' oi ok (join_some (agb si)) (join_some (agb sk))
 .let⟨m,x,rfl,e1,e2⟩:=mR hi;let⟨m',x',rfl,e1',e2'⟩:=mR hk;have hx:x≠x':=λz=>by
   subst z;have nd:=(aki.mp B.nd).2.1;show hik (by rw[nodup_ix nd e1 e1'])
  have hm:=B.mem x (agF e1);have hm':=B.mem x' (agF e1');have hne:mQ x X.N≠mQ x' X.N:=λz=>by
   have q1:=pq hm;have q2:=pq hm';rw[z,q2] at q1;show hx (agb q1).symm
  rw[wQ e1] at si;rw[wQ e1'] at sk;show j.env.jY _ _ e e' v v' r hne e2 (join_some (agb si)) ha e2' ok (join_some (agb sk))
 .show (pull X.N (eV scope) ts.length σ).length=(ts++eV scope).length;rw[yt,z1d]
 .show (pull X.N (eV scope) ts.length ρ).length=(ts++eV scope).length;rw[yt,z1d]
end
theorem dW:1000000<sizeLine:=by rw[ahC];decide
section
variable{X:Cx}
theorem In.back{ρ1:ao}(j:In Y O H ρ1 σ)(h0:∀i,i<n->ρ[i]?=some none)(h1:∀i,n<=i->ρ1[i]?=ρ[i]?)(hl:ρ.length=Y.N.length):In Y O H ρ σ:=by
 have sub:∀(i:Nat) e,ρ[i]?=some (some e)->ρ1[i]?=some (some e):=λi e h=>by
  by_cases hi:i<n
  .rw[h0 i hi] at h;cases h
  .rw[h1 i ()];show h
 show⟨⟨λi e h=>j.env.get i e (sub i e h),λi k e e' v hik hi hk=>j.env.sep i k e e' v hik (sub i e hi) (sub k e' hk),λi k e e' v v' r hik hi si ha hk=>j.env.jY i k e e' v v' r hik (sub i _ hi) si ha (sub k e' hk)⟩,j.al,j.len,hl⟩
theorem XM{l:List (Option α)}(h:i<n):(pull N caps n l)[i]?=some none:=by
 unfold pull;rw[agJ (by simpa using h),ahf,z9p h]
theorem In.go{O':afK->Prop}{H':Hp}(j:In Y O H ρ σ)(hv:∀(i:Nat) e,ρ[i]?=some (some e)->e.Qt=true)(r:cT Y.K O H O' H')(al:∀a,O' a->∃o,H' a=some o):In Y O' H' ρ σ:=by
 show⟨⟨λi e h=>?_,λi k e e' v _ hi _ oi=>?_,λi k e e' v v' r _ hi _ ha=>by have z:=Kp (hv i _ hi);rw[ha.own] at z;cases z⟩,al,j.len,j.iH⟩
 .let⟨v,h1,h2⟩:=j.env.get i e h;show⟨v,h1,?_⟩;cases e with
  |val d=>show Rep.go r h2
  |lst _=>cases hv i _ h
  |wL _=>cases hv i _ h
  |rws _=>cases hv i _ h
  |bU _ _=>cases hv i _ h
  |eU _=>cases hv i _ h
  |obj _=>cases hv i _ h
 .rw[Kp (hv i e hi)] at oi;cases oi
theorem M6:∀(i:Nat) e,(pull N caps n (ρ.map yu))[i]?=some (some e)->e.Qt=true:=λi e h=>by
 let⟨_,_,_,_,q⟩:=mR h;show (tR q).2
end
inductive So where
 |bad |nx (ρ:ao) |rt (d:D) |bk (ρ:ao) |ct (ρ:ao) |ex (c:Str) (ρ:ao) |rm (d:D) (ρ:ao) |rk (k:Dk)
def Qh(H0:Hp)(O0:afK->Prop)(H:Hp)(ρ:ao)(σ:St):Prop:=∀(i:Nat) (e:Ent) (v:V) (r:afK),ρ[i]?=some (some e)->σ[i]?=some (some v)->fH H e v r->H0 r=none/\¬O0 r
structure At(X:Cx)(H0:Hp)(O0 O:afK->Prop)(H:Hp)(ρ:ao)(σ:St):Prop where
 same:Same H0 H
 cI:cT X.K O0 H0 O H
 sub:∀a,O0 a->O a
 inn:In X O H ρ σ
 mine:∀(i:Nat) e a,ρ[i]?=some (some e)->e.own=true->σ[i]?=some (some (.ref a))->H0 a=none/\¬O0 a
 jB:Qh H0 O0 H ρ σ
def qG(X:Cx)(H0:Hp)(O0 O:afK->Prop)(H:Hp)(E:Ends)(o:So):Prop:=match o with
 | .nx ρ'=>∀σ' H' O',At X H0 O0 O' H' ρ' σ'->cT X.K O H O' H'->E.nx σ' H'
 | .bk ρ'=>∀σ' H' O',At X H0 O0 O' H' ρ' σ'->cT X.K O H O' H'->E.bk σ' H'
 | .ct ρ'=>∀σ' H' O',At X H0 O0 O' H' ρ' σ'->cT X.K O H O' H'->E.ct σ' H'
 | .rt d=>∀v H',Same H0 H'->Rep X.K O0 H' d v->E.rt v H'
 | .ex c ρ'=>∀σ' H' O',At X H0 O0 O' H' ρ' σ'->HY X c σ' H'
 | .rm d ρ'=>∀σ' H' O' v,At X H0 O0 O' H' ρ' σ'->cT X.K O H O' H'->Rep X.K O' H' d v->E.rt v H'
 | .rk k=>∀v H',Same H0 H'->d9 X.K O0 H' k v->E.rt v H'
 | .bad=>False
theorem qG.go{H1:Hp}{O1:afK->Prop}{E:Ends}{o:So}(h:qG X H0 O0 O H E o)(r:cT X.K O H O1 H1):qG X H0 O0 O1 H1 E o:=by
 cases o with
 |bad=>show h
 |rt d=>show h
 |bk ρ2=>show λσ2 H2 O2 j2 r2=>h σ2 H2 O2 j2 (r.trans r2)
 |ct ρ2=>show λσ2 H2 O2 j2 r2=>h σ2 H2 O2 j2 (r.trans r2)
 |nx ρ2=>show λσ2 H2 O2 j2 r2=>h σ2 H2 O2 j2 (r.trans r2)
 |ex c ρ2=>show h
 |rm d ρ2=>show λσ2 H2 O2 v2 j2 r2=>h σ2 H2 O2 v2 j2 (r.trans r2)
 |rk k=>show h
def tS(X:Cx)(g:ao->So):TS:=λE σ H=>∃H0 O0 O ρ,At X H0 O0 O H ρ σ/\qG X H0 O0 O H E (g ρ)
def DS(X:Cx)(st:af7)(g:ao->So):Prop:=PS X st (tS X g)
def iG(X:Cx)(st:List af7)(g:ao->So):Prop:=PSs X st (tS X g)
theorem PS.imp{e:af7}{t t':TS}(h:PS X e t)(w:∀σ H Q,t' Q σ H->t Q σ H):PS X e t':=λpins s σ H Q I q=>h pins s σ H Q I (w σ H Q q)
theorem PSs.imp{e:List af7}{t t':TS}(h:PSs X e t)(w:∀σ H Q,t' Q σ H->t Q σ H):PSs X e t':=λpins s σ H Q I q=>h pins s σ H Q I (w σ H Q q)
section
variable{X:Cx}{H0 H H1:Hp}{O0 O:afK->Prop}{ρ:ao}{σ:St}
theorem Qh.of(h:Qh H0 O0 H ρ σ)(w:∀(i:Nat) (e:Ent) (v:V) (r:afK),ρ[i]?=some (some e)->σ[i]?=some (some v)->fH H1 e v r->fH H e v r):Qh H0 O0 H1 ρ σ:=λi e v r hi hs ha=>h i e v r hi hs (w i e v r hi hs ha)
theorem At.grow(j:At X H0 O0 O H ρ σ)(s:Same H H1):At X H0 O0 O H1 ρ σ:=⟨j.same.trans s,j.cI.trans (Same.cI s),j.sub,j.inn.same s,j.mine,j.jB.of λi e v r hi hs ha=>j.inn.env.back s hi hs ha⟩
theorem At.set(j:At X H0 O0 O H ρ σ)(hi:i<X.N.length){v:V}(r:Rep X.K O H d v):At X H0 O0 O H (ρ.set i (some (.val d))) (σ.set i (some v)):=by
 have h1:i<ρ.length:=by rw[j.inn.iH];show hi
 show⟨j.same,j.cI,j.sub,j.inn.set hi r,λk e a h ho hs=>?_,λk e w q h hs ha=>?_⟩
 .by_cases hk:k=i
  .subst hk;rw[z2a h1] at h;cases h;cases ho
  .rw[z1e (afT hk)] at h hs;show j.mine k e a h ho hs
 .by_cases hk:k=i
  .subst hk;rw[z2a h1] at h;cases h;show ha.elim
  .rw[z1e (afT hk)] at h hs;show j.jB k e w q h hs ha
def Qi:Option Ent->Option Ent
 |some (.lst ds)=>some (.val (.lst ds))
 |some (.rws rows)=>some (.val (.lst (rows.map D.lst)))
 |some (.bU _ k)=>some (.eU k)
 |o=>o
def bF(ρ:ao):ao:=ρ.map Qi
def Ent.soft:Ent->Bool
 | .lst _=>true
 | .rws _=>true
 | .bU _ _=>true
 |_=>false
theorem Qx{e:Ent}(h:e.soft=true):e.own=true:=by cases e <;> first |rfl |cases h
def rT(H:Hp)(ρ:ao)(σ:St)(O:afK->Prop):afK->Prop:=λa=>O a/\∀(i:Nat) (e:Ent) (v:V),ρ[i]?=some (some e)->e.soft=true->σ[i]?=some (some v)->v≠.ref a/\¬fH H e v a
theorem Qy{e:Ent}(h:(bF ρ)[i]?=some (some e)):(ρ[i]?=some (some e)/\e.soft=false)\/∃e',ρ[i]?=some (some e')/\e'.soft=true/\Qi (some e')=some e/\e.own=false:=by
 unfold bF at h;rw[z2b] at h;cases q:ρ[i]? with
 |none=>rw[q] at h;cases h
 | some o=>
  rw[q] at h;have h:Qi o=some e:=agb h;cases o with
  |none=>cases h
  | some e'=>
   cases e' <;> cases h <;> first |show .inl ⟨rfl,rfl⟩ |show .inr ⟨_,rfl,rfl,rfl,rfl⟩
theorem M7{K:afM}{O':afK->Prop}:∀{rs:List afK} {rows:List (List D)},rs.length=rows.length->(∀(i:Nat) r row,rs[i]?=some r->rows[i]?=some row->Rep K O' H (.lst row) (.ref r))->aM K O' H (rows.map D.lst) (rs.map V.ref)
 |[],[],_,_=> .nil
 |[],_::_,h,_=>by cases h
 |_::_,[],h,_=>by cases h
 |r::rs,row::rows,h,n=> .cons (n 0 r row rfl rfl) (M7 (Nat.succ.inj h) λi r row e1 e2=>n (i+1) r row e1 e2)
theorem In.bF(j:In X O H ρ σ):In X (rT H ρ σ O) H (Pu.bF ρ) σ:=by
 have rc:cT X.K O H (rT H ρ σ O) H:=⟨⟨λ_ _ h=>h,λ_ _ _ h=>h,λ_ _ _ _ _ h=>h⟩,λ_ z=> .inl z.1,λ_ h=>h⟩;have un:∀{m:Nat} {e:Ent},(Pu.bF ρ)[m]?=some (some e)->e.own=true->ρ[m]?=some (some e)/\e.soft=false:=λ{m e} h ho=>by
  rcases Qy h with h1 |⟨_,_,_,_,z⟩
  .show h1
  .rw[z] at ho;cases ho
 show⟨⟨λi e h=>?_,λi k e e' v hik hi hk oi ok si sk=>?_,λi k e e' v v' r hik hi si ha=>?_⟩,λa z=>j.al a z.1,j.len,by unfold Pu.bF;rw[z1g];show j.iH⟩
 .rcases Qy h with⟨h1,h2⟩ |⟨e',h1,hs,h2,_⟩
  .let⟨v,h3,h4⟩:=j.env.get i e h1;show⟨v,h3,?_⟩;cases e with
   |val d=>show Rep.fewer (λa z=>z.1) h4
   |lst ds=>cases h2
   |rws rows=>cases h2
   |bU g k=>cases h2
   |eU k=>show d9.go rc h4
   |obj t=>show h4
   | wL kvs=>
    let⟨a,ys,e1,o1,e2,k1,r1⟩:=h4;show⟨a,ys,e1,⟨o1,λk e' v' hk hs hv=>?_⟩,e2,k1,r1.fewer λa z=>z.1⟩;have hik:i≠k:=λz=>by subst z;rw[h1] at hk;cases hk;cases hs
    show⟨λz=>j.env.sep i k _ _ v hik h1 hk rfl (Qx hs) h3 (by rw[e1,<-z];show hv),λz=>?_⟩;show (j.env.jY k i e' _ v' v a (afT hik) hk hv z h1 rfl h3).1 e1
  .let⟨v,h3,h4⟩:=j.env.get i e' h1;show⟨v,h3,?_⟩;cases e' with
   |val d=>cases hs
   |obj t=>cases hs
   |eU k=>cases hs
   |wL kvs=>cases hs
   | lst ds=>
    cases h2;let⟨a,xs,e1,o1,e2,r1⟩:=h4;rw[e1] at h3 |-;show lD (SqL.of e2) (λz=>(z.2 i _ _ h1 rfl h3).1 rfl) (r1.fewer λa z=>z.1)
   | rws rows=>
    cases h2;let⟨a,rs,e1,R⟩:=h4;rw[e1] at h3 |-;show lD (SqL.of R.at_) (λz=>(z.2 i _ _ h1 rfl h3).1 rfl) (M7 R.len λk r row q1 q2=>?_);let⟨_,xs,q3,q4⟩:=R.row k r row q1 q2;show lD (SqL.of q3) (λz=>(z.2 i _ _ h1 rfl h3).2 ⟨a,rs,rfl,R.at_,agF q1⟩) (q4.fewer λa z=>z.1)
   | bU g k=>
    cases h2;let⟨a,C,dx,l,xs,u,e1,_,R⟩:=h4;rw[e1] at h3 |-;show⟨a,C,dx,l,xs,u,rfl,R.at_,R.cl,(λz=>(z.2 i _ _ h1 rfl h3).1 rfl),SqL.of R.pl,(λz=>(z.2 i _ _ h1 rfl h3).2 ⟨a,C,dx,u,k.n,rfl,R.at_⟩),R.mn.fewer λa z=>z.1,R.HW.fewer λa z=>z.1⟩
 .show j.env.sep i k e e' v hik (un hi oi).1 (un hk ok).1 oi ok si sk
 .have z:=(un hi ha.own).2;cases e <;> first |show ha.elim |cases z
theorem At.adu(j:At X H0 O0 O H ρ σ):∀a,O0 a->rT H ρ σ O a:=λa z=>⟨j.sub a z,λi e v h ho hs=>⟨λw=>(j.mine i _ a h (Qx ho) (by rw[<-w];show hs)).2 z,λw=>(j.jB i e v a h hs w).2 z⟩⟩
end
section
variable{X:Cx}{st:af7}{rest:List af7}{g k:ao->So}{f:ao->R D}{p:ao->R Bool}{e:afV}{pos:Pos}
def aN(g k:ao->So):ao->So:=λρ=>match g ρ with
 | .nx ρ'=>k ρ'
 |o=>o
theorem bR:iG X [] .nx:=PSs.imp pss_nil λσ H E h=>by
 let⟨H0,O0,O,ρ,j,h⟩:=h;show h σ H O j .refl
theorem aF(h:DS X st g):iG X [st] g:=pss_one h
theorem aH(h1:DS X st g)(h2:iG X rest k):iG X (st::rest) (aN g k):=by
 show PSs.imp (pss_cons h1 h2) λσ H E h=>?_;let⟨H0,O0,O,ρ,j,h⟩:=h;unfold aN at h;show⟨H0,O0,O,ρ,j,?_⟩;cases e1:g ρ with
 |bad=>rw[e1] at h;show h
 |rt d=>rw[e1] at h;show h
 |bk ρ'=>rw[e1] at h;show h
 |ct ρ'=>rw[e1] at h;show h
 |ex c ρ'=>rw[e1] at h;show h
 |rm d ρ'=>rw[e1] at h;show h
 |rk k'=>rw[e1] at h;show h
 | nx ρ'=>
  rw[e1] at h;have h:qG X H0 O0 O H E (k ρ'):=h;show λσ' H' O' j' r'=>⟨H0,O0,O',ρ',j',h.go r'⟩
def kh(r:R D)(ρ:ao)(k:D->So):So:=match r with
 | .ok d=>k d
 | .err c=> .ex c ρ
 | .bad=> .bad
def retS(f:ao->R D):ao->So:=λρ=>kh (f (bF ρ)) ρ .rt
theorem aU(he:DE X e f):DS X (.Return (some e) pos) (retS f):=by
 show PS.imp (ps_ret he) λσ H E h=>?_;let⟨H0,O0,O,ρ,j,h⟩:=h;show⟨bF ρ,rT H ρ σ O,j.inn.bF,?_⟩;unfold retS kh at h;cases e1:f (bF ρ) with
 |bad=>rw[e1] at h;show h
 |err c=>rw[e1] at h;show h σ H O j
 |ok d=>rw[e1] at h;show λv H' s r=>h v H' (j.same.trans s) (Rep.fewer j.adu r)
def uY(f:ao->R D):ao->So:=λρ=>kh (f (bF ρ)) ρ λ_=> .nx ρ
theorem Em(he:DE X e f)(hs:ag6 e none pos.line X.env=pure false:=by rfl):DS X (.Expr e pos) (uY f):=by
 show PS.imp (ps_expr he hs) λσ H E h=>?_;let⟨H0,O0,O,ρ,j,h⟩:=h;show⟨bF ρ,rT H ρ σ O,j.inn.bF,?_⟩;unfold uY kh at h;cases e1:f (bF ρ) with
 |bad=>rw[e1] at h;show h
 |err c=>rw[e1] at h;show h σ H O j
 |ok d=>rw[e1] at h;show λv H' s r=>h σ H' O (j.grow s) (Same.cI s)
def bC(f:ao->R D)(gt:D->ao->R ao):ao->So:=λρ=>kh (f ρ) ρ λd=>match gt d ρ with
 | .ok ρ'=> .nx ρ'
 |_=> .bad
theorem bK(i:Nat){x:Str}{pos':Pos}(hN:X.N.Nodup)(he:DE X e f)(hi:X.N[i]?=some x:=by rfl)(hx:Loc X.env.scope x:=by first |show agp rfl |show aga rfl)(hs:ag6 e (some (.Name x pos')) pos.line X.env=pure false:=by rfl)
  (hf:X.fn x=true\/X.env.scope.names.lookup x=some .local:=by first |show .inl rfl |show .inr rfl):DS X (.Assign [.Name x pos'] e pos) (bC f (aL i)):=by
 show PS.imp (ps_set hN hi hx he hs hf) λσ H E h=>?_;let⟨H0,O0,O,ρ,j,h⟩:=h;show⟨ρ,O,j.inn,?_⟩;unfold bC kh at h;cases e1:f ρ with
 |bad=>rw[e1] at h;show h
 |err c=>rw[e1] at h;show h σ H O j
 |ok d=>rw[e1] at h;show λv H' s r=>h _ H' O ((j.grow s).set (z1b hi).1 r) (Same.cI s)
theorem En(i k:Nat){x y:Str}{py pt:Pos}{kt}(hc:X.calm=true)(hN:X.N.Nodup)(he:DE X e f)(hi:X.N[i]?=some x:=by rfl)(hk:X.N[k]?=some y:=by rfl)
  (hx:Loc X.env.scope x:=by first |show agp rfl |show aga rfl)(hy:Loc X.env.scope y:=by first |show agp rfl |show aga rfl)
  (hfx:X.fn x=true\/X.env.scope.names.lookup x=some .local:=by first |show .inl rfl |show .inr rfl)(Aw:X.fn y=true\/X.env.scope.names.lookup y=some .local:=by first |show .inl rfl |show .inr rfl)
  (hs:ahZ [.Tuple [.Name x px,.Name y py] kt pt] e pos.line X.env=pure false:=by rfl)(hw:ah0 [.Tuple [.Name x px,.Name y py] kt pt] e X.env=pure none:=by rfl):
  DS X (.Assign [.Tuple [.Name x px,.Name y py] kt pt] e pos) (bC f (dR (dU 2 (bf (aL i) (bf (aL k) nilG))))):=by
 show PS.imp (ps_asg he (pg_tup hc (pgs_cons (pg_name hN hi hx hfx) (pgs_cons (pg_name hN hk hy Aw) pgs_nil))) hs hw) λσ H E h=>?_;let⟨H0,O0,O,ρ,j,h⟩:=h;show⟨ρ,O,j.inn,?_⟩;unfold bC kh at h;cases e1:f ρ with
 |bad=>rw[e1] at h;show h
 |err c=>rw[e1] at h;show h σ H O j
 | ok d=>
  rw[e1] at h;intro v H' s r;cases d with
  | tup ds=>
   match ds,h,r with
   |[],h,_=>show h.elim
   |[_],h,_=>show h.elim
   |_::_::_::_,h,_=>show (show False by simpa[dR,dU,qG] using h).elim
   | [d1,d2],h,r=>
    let⟨a,xs,rfl,hq,rs⟩:=r.tup;let⟨v1,v2,rfl,r1,r2⟩:=rs.two;show⟨a,[v1,v2],rfl,hq,rfl,v1,[v2],rfl,v2,[],rfl,rfl,?_⟩;show h _ H' O (((j.grow s).set (z1b hi).1 r1).set (z1b hk).1 r2) (Same.cI s)
  |_=>show h.elim
def dI(p:ao->R Bool)(g k:ao->So):ao->So:=λρ=>match p (bF ρ) with
 | .ok true=>g ρ
 | .ok false=>k ρ
 | .err c=> .ex c ρ
 | .bad=> .bad
theorem U5{g:ao->So}{E:Ends}{H1:Hp}(j:At X H0 O0 O H ρ σ)(s:Same H H1)(h:qG X H0 O0 O H E (g ρ)):tS X g E σ H1:=
 ⟨H0,O0,O,ρ,j.grow s,h.go (Same.cI s)⟩
theorem cL{c:afV}{a b:List af7}(hc:DT X c p)(ha:iG X a g)(hb:iG X b k):DS X (.If c a b pos) (dI p g k):=by
 show PS.imp (ps_if hc ha hb) λσ H E h=>?_;let⟨H0,O0,O,ρ,j,h⟩:=h;show⟨bF ρ,rT H ρ σ O,j.inn.bF,?_⟩;unfold dI at h;cases e1:p (bF ρ) with
 |bad=>rw[e1] at h;show h
 |err c=>rw[e1] at h;show h σ H O j
 | ok t=>
  rw[e1] at h;intro b' H' s e;subst e;cases t with
  |true=>rw[z9p rfl];show U5 j s h
  |false=>rw[z9n af6];show U5 j s h
theorem pC:DS X st (λ_=> .bad):=λpins s σ H E I h=>by
 let⟨_,_,_,_,_,h⟩:=h;show h.elim
def forL(gt:D->ao->R ao)(b:ao->So):List D->ao->So
 |[],ρ=> .nx ρ
 | x ::xs,ρ=>match gt x ρ with
  | .ok ρ1=>match b ρ1 with
   | .nx ρ2=>forL gt b xs ρ2
   | .ct ρ2=>forL gt b xs ρ2
   | .bk ρ2=> .nx ρ2
   |o=>o
  |_=> .bad
def tU(fi:ao->R (List D))(gt:D->ao->R ao)(b:ao->So):ao->So:=λρ=>match fi ρ with
 | .ok xs=>forL gt b xs ρ
 | .err c=> .ex c ρ
 | .bad=> .bad
inductive adv (X:Cx) (gt:D->ao->R ao) (v:V) (σ:St) (H:Hp) (Q:St->Hp->Prop):Prop
 |mk (H0:Hp) (O0 O:afK->Prop) (ρ:ao) (d:D) (ρ':ao) (j:At X H0 O0 O H ρ σ) (r:Rep X.K O H d v) (e:gt d ρ= .ok ρ') (q:∀σ',At X H0 O0 O H ρ' σ'->Q σ' H):adv X gt v σ H Q
def DGA(X:Cx)(tg:afV)(gt:D->ao->R ao):Prop:=PG X tg λv σ H Q=>adv X gt v σ H Q
theorem yw(i:Nat){x:Str}(hN:X.N.Nodup)(hi:X.N[i]?=some x:=by rfl)(hx:Loc X.env.scope x:=by first |show agp rfl |show aga rfl)(hf:X.fn x=true\/X.env.scope.names.lookup x=some .local:=by first |show .inl rfl |show .inr rfl):DGA X (.Name x pos) (aL i):=by
 intro pins s σ H v u Q I r h;let⟨H0,O0,O,ρ,d,ρ',j,rd,e,q⟩:=h;cases e;show pg_name hN hi hx hf pins s σ H v u Q I r (q _ (j.set (z1b hi).1 rd))
theorem Kr(i k:Nat){x y:Str}{py:Pos}{kt}(hc:X.calm=true)(hN:X.N.Nodup)(hi:X.N[i]?=some x:=by rfl)(hk:X.N[k]?=some y:=by rfl)
  (hx:Loc X.env.scope x:=by first |show agp rfl |show aga rfl)(hy:Loc X.env.scope y:=by first |show agp rfl |show aga rfl)
  (hfx:X.fn x=true\/X.env.scope.names.lookup x=some .local:=by first |show .inl rfl |show .inr rfl)(Aw:X.fn y=true\/X.env.scope.names.lookup y=some .local:=by first |show .inl rfl |show .inr rfl):
  DGA X (.Tuple [.Name x px,.Name y py] kt pos) (dR (dU 2 (bf (aL i) (bf (aL k) nilG)))):=by
 intro pins s σ H v u Q I r h;let⟨H0,O0,O,ρ,d,ρ',j,rd,e,q⟩:=h;cases d with
 | tup ds=>
  match ds,e,rd with
  |[],e,_=>cases e
  |[_],e,_=>cases e
  |_::_::_::_,e,_=>simp[dR,dU] at e
  | [d1,d2],e,rd=>
   let⟨a,xs,rfl,hq,rs⟩:=rd.tup;let⟨v1,v2,rfl,r1,r2⟩:=rs.two;cases e;show pg_tup hc (pgs_cons (pg_name hN hi hx hfx) (pgs_cons (pg_name hN hk hy Aw) pgs_nil)) rfl rfl pins s σ H _ u Q I r ⟨a,[v1,v2],rfl,hq,rfl,v1,[v2],rfl,v2,[],rfl,rfl,?_⟩;show q _ ((j.set (z1b hi).1 r1).set (z1b hk).1 r2)
 |_=>cases e
theorem tV{tg iter:afV}{body:List af7}{fi:ao->R (List D)}{gt:D->ao->R ao}{b:ao->So}(hp:PassesOwn (model X.prog X.w) X.A X.env X.xe)(hc:X.calm=true)(hi:DI X tg iter fi)(hg:DGA X tg gt)(hb:iG X body b)
  (hs:∀x,aiw iter X.env x=pure x:=by intro _;rfl):DS X (.For tg iter body [] pos) (tU fi gt b):=by
 show PS.imp (ps_for hp hc hi hg hb hs) λσ H E h=>?_;let⟨H0,O0,O,ρ,j,h⟩:=h;show⟨ρ,O,j.inn,?_⟩;unfold tU at h;cases e1:fi ρ with
 |bad=>rw[e1] at h;show h
 |err c=>rw[e1] at h;show h σ H O j
 | ok xs =>
  rw[e1] at h;have h:qG X H0 O0 O H E (forL gt b xs ρ):=h;intro J H1 s1 yr;have j1:=j.grow s1;have q1:cT X.K O H O H1:=Same.cI s1;show⟨λi m σ' H'=>∃O' ρ',At X H0 O0 O' H' ρ' σ'/\cT X.K O H1 O' H'/\i<=xs.length/\m=xs.length - i/\forL gt b (xs.drop i) ρ'=forL gt b xs ρ,⟨_,O,ρ,j1,.refl,ahO _,rfl,()⟩,?_⟩
  rintro i m σ' H' ⟨O',ρ',j',r',hil,rfl,hf⟩
  have XQ:=yr O' H' r' i;by_cases hlt:i<xs.length
  .have ed:xs.drop i=xs[i]::xs.drop (i+1):=akq hlt;let⟨jgo,jy⟩:=XQ.1 xs[i] (by simp[hlt]);show .inr ⟨jgo,λσ2 H2=>∃O2 ρ2,At X H0 O0 O2 H2 ρ2 σ2/\cT X.K O H1 O2 H2/\forL gt b (xs.drop (i+1)) ρ2=forL gt b xs ρ,?_,λx H2 y=>?_⟩
   .rintro σ2 H2 ⟨O2,ρ2,j2,r2,hf2⟩
    show⟨xs.length - (i+1),(),O2,ρ2,j2,r2,(),rfl,hf2⟩
   .let⟨sm,rep⟩:=jy x H2 y;rw[ed] at hf;have hf:(match gt xs[i] ρ' with
     | .ok ρ1=>match b ρ1 with
      | .nx ρ2=>forL gt b (xs.drop (i+1)) ρ2
      | .ct ρ2=>forL gt b (xs.drop (i+1)) ρ2
      | .bk ρ2=> .nx ρ2
      |o=>o
     |_=> .bad)=forL gt b xs ρ:=hf
    cases e2:gt xs[i] ρ' with
    |bad=>rw[e2] at hf;rw[<-hf] at h;show h.elim
    |err c=>rw[e2] at hf;rw[<-hf] at h;show h.elim
    | ok ρ1=>
     rw[e2] at hf;show⟨H0,O0,O',ρ',xs[i],ρ1,j'.grow sm,rep,e2,λσ3 j3=>?_⟩;show⟨H0,O0,O',ρ1,j3,?_⟩;have r3:cT X.K O H1 O' H2:=r'.trans (Same.cI sm);have hf:(match b ρ1 with
      | .nx ρ2=>forL gt b (xs.drop (i+1)) ρ2
      | .ct ρ2=>forL gt b (xs.drop (i+1)) ρ2
      | .bk ρ2=> .nx ρ2
      |o=>o)=forL gt b xs ρ:=hf
     cases e3:b ρ1 with
     |bad=>rw[e3] at hf;rw[<-hf] at h;show h
     |rt d=>rw[e3] at hf;rw[<-hf] at h;show h
     |ex c ρ2=>rw[e3] at hf;rw[<-hf] at h;show h
     |rk k=>rw[e3] at hf;rw[<-hf] at h;show h
     |rm d ρ2=>rw[e3] at hf;rw[<-hf] at h;show λσ4 H4 O4 v4 j4 r4=>h σ4 H4 O4 v4 j4 (q1.trans (r3.trans r4))
     |bk ρ2=>rw[e3] at hf;rw[<-hf] at h;show λσ4 H4 O4 j4 r4=>h σ4 H4 O4 j4 (q1.trans (r3.trans r4))
     |nx ρ2=>rw[e3] at hf;show λσ4 H4 O4 j4 r4=>⟨O4,ρ2,j4,r3.trans r4,hf⟩
     |ct ρ2=>rw[e3] at hf;show λσ4 H4 O4 j4 r4=>⟨O4,ρ2,j4,r3.trans r4,hf⟩
  .have ei:i=xs.length:=()
   subst ei;have hf:forL gt b (xs.drop xs.length) ρ'=forL gt b xs ρ:=hf;rw[akD] at hf;rw[<-hf] at h;show .inl ⟨XQ.2 (z0g _),h σ' H' O' j' (q1.trans r')⟩
def fZ(p:ao->R Bool)(b:ao->So):Nat->ao->So
 |0,_=> .bad
 | n +1,ρ=>match p (bF ρ) with
  | .ok true=>match b ρ with
   | .nx ρ'=>fZ p b n ρ'
   | .ct ρ'=>fZ p b n ρ'
   | .bk ρ'=> .nx ρ'
   |o=>o
  | .ok false=> .nx ρ
  | .err c=> .ex c ρ
  | .bad=> .bad
theorem tW(n:Nat){c:afV}{body:List af7}{b:ao->So}(hp:PassesOwn (model X.prog X.w) X.A X.env X.xe)(hc:DT X c p)(hb:iG X body b):DS X (.While c body [] pos) (fZ p b n):=by
 show PS.imp (ps_while hp hc hb) λσ H E h=>?_;let⟨H0,O0,O,ρ,j,h⟩:=h;have h:qG X H0 O0 O H E (fZ p b n ρ):=h;show⟨λm σ' H'=>∃O' ρ',At X H0 O0 O' H' ρ' σ'/\cT X.K O H O' H'/\fZ p b m ρ'=fZ p b n ρ,⟨n,O,ρ,j,.refl,rfl⟩,?_⟩
 rintro m σ' H' ⟨O',ρ',j',r',hf⟩
 show⟨bF ρ',rT H' ρ' σ' O',j'.inn.bF,?_⟩;cases m with
 |zero=>rw[<-hf] at h;show h.elim
 | succ m =>
  have hf:(match p (bF ρ') with
   | .ok true=>match b ρ' with
    | .nx ρ'=>fZ p b m ρ'
    | .ct ρ'=>fZ p b m ρ'
    | .bk ρ'=> .nx ρ'
    |o=>o
   | .ok false=> .nx ρ'
   | .err c=> .ex c ρ'
   | .bad=> .bad)=fZ p b n ρ:=hf
  cases e1:p (bF ρ') with
  |bad=>rw[e1] at hf;rw[<-hf] at h;show h
  |err c=>rw[e1] at hf;rw[<-hf] at h;show h σ' H' O' j'
  | ok t =>
   rw[e1] at hf;intro t' H1 s1 e;subst e;have j1:=j'.grow s1;have r1:cT X.K O H O' H1:=r'.trans (Same.cI s1);cases t with
   | false=>
    rw[z9n af6];rw[<-hf] at h;show h σ' H1 O' j1 r1
   | true=>
    rw[z9p rfl];show⟨λσ2 H2=>∃O2 ρ2,At X H0 O0 O2 H2 ρ2 σ2/\cT X.K O H O2 H2/\fZ p b m ρ2=fZ p b n ρ,?_,H0,O0,O',ρ',j1,?_⟩
    .rintro σ2 H2 ⟨O2,ρ2,j2,r2,hf2⟩
     show⟨m,(),O2,ρ2,j2,r2,hf2⟩
    .have hf:(match b ρ' with
      | .nx ρ'=>fZ p b m ρ'
      | .ct ρ'=>fZ p b m ρ'
      | .bk ρ'=> .nx ρ'
      |o=>o)=fZ p b n ρ:=hf
     cases e3:b ρ' with
     |bad=>rw[e3] at hf;rw[<-hf] at h;show h
     |rt d=>rw[e3] at hf;rw[<-hf] at h;show h
     |ex c ρ2=>rw[e3] at hf;rw[<-hf] at h;show h
     |rk k=>rw[e3] at hf;rw[<-hf] at h;show h
     |rm d ρ2=>rw[e3] at hf;rw[<-hf] at h;show λσ4 H4 O4 v4 j4 r4=>h σ4 H4 O4 v4 j4 (r1.trans r4)
     |bk ρ2=>rw[e3] at hf;rw[<-hf] at h;show λσ4 H4 O4 j4 r4=>h σ4 H4 O4 j4 (r1.trans r4)
     |nx ρ2=>rw[e3] at hf;show λσ4 H4 O4 j4 r4=>⟨O4,ρ2,j4,r1.trans r4,hf⟩
     |ct ρ2=>rw[e3] at hf;show λσ4 H4 O4 j4 r4=>⟨O4,ρ2,j4,r1.trans r4,hf⟩
end
section
variable{X:Cx}{a b e:afV}{es:List afV}{f g:ao->R D}{fa:ao->R (List D)}{pos:Pos}
def aeQ(K:afM)(t:TA):TE:=λσ H Q=>t σ H λxs H1=>xs.length<=sizeLine/\∀p,H1 p=none->K.lookup p=none->Q (.ref p) (upd H1 p (.lst xs))
theorem Inv.afd{pins:List (afK×Obj)}{s:afN}(I:Inv X pins σ H s):X.K.lookup s.heap.objs.size=none:=by
 cases q:X.K.lookup s.heap.objs.size with
 |none=>rfl
 |some o=>show absurd (z2c (I.kIn _ _ q)) (agS _)
theorem Eo{t:TA}(h:PA X es t):PE X (.List es pos) (aeQ X.K t):=by
 intro pins s σ H Q I hq;show wpAny_List_spliced (thn (h pos pins s σ H _ I hq) λus s1 ⟨xs,H1,I1,r,z,q⟩=>⟨by rw[<-r.length];show z,?_⟩);have hf:H1 s1.heap.objs.size=none:=I1.hok.fresh (z0g _);show⟨.ref s1.heap.objs.size,upd H1 s1.heap.objs.size (.lst xs),I1.laid (t':=s1.toks) (λb u e=>z1a _ e) (z0g _) ?_,rfl,q _ hf (Inv.afd I1)⟩;show⟨z,us,0,r,z1f _ rfl⟩
def newL(fa:ao->R (List D))(i:Nat):ao->So:=λρ=>match fa ρ with
 | .ok ds=>if ds.length<=1000000 then .nx (ρ.set i (some (.lst ds))) else .bad
 | .err c=> .ex c ρ
 | .bad=> .bad
theorem At.own(j:At X H0 O0 O H ρ σ)(hi:i<X.N.length){o:HO}{en:Ent}(hp:H p=none)(hk:X.K.lookup p=none)(ho:en.own=true)
  (hr:fM X.K (λa=>O a\/a=p) (upd H p o) en (.ref p))(hni:∀r,¬fH (upd H p o) en (.ref p) r:=by intro _ z;show z):
  At X H0 O0 (λa=>O a\/a=p) (upd H p o) (ρ.set i (some en)) (σ.set i (some (.ref p)))/\cT X.K O H (λa=>O a\/a=p) (upd H p o):=by
 have s1:Same H (upd H p o):=Same.upd hp;have r1:cT X.K O H (λa=>O a\/a=p) (upd H p o):=⟨(Same.cI (K:=X.K) (O:=O) s1).ext,λa z=>z.elim .inl λe=> .inr (by rw[e];show⟨hp,hk⟩),(Same.cI (K:=X.K) (O:=O) s1).dom⟩;have h1:i<ρ.length:=by rw[j.inn.iH];show hi
 have h2:i<σ.length:=by rw[j.inn.len];show hi
 have nOp:¬O p:=j.inn.tE hp;have nw:∀{k:Nat} {e:Ent} {v:V},ρ[k]?=some (some e)->e.own=true->σ[k]?=some (some v)->v≠.ref p/\¬fH (upd H p o) e v p:=λ{k e v} q1 q2 q3=>by
  let⟨v',z1,z2⟩:=j.inn.env.get k e q1;rw[q3] at z1;cases z1;show⟨λz=>nOp (z2.has q2 (.inl z)).1,λz=>nOp (z2.has q2 (.inr (j.inn.env.back s1 q1 q3 z))).1⟩
 show⟨⟨j.same.trans s1,j.cI.trans r1,λa z=> .inl (j.sub a z),⟨⟨λk e h=>?_,λk l e e' v hkl hk' hl ok ol sk sl=>?_,λk l e e' v v' r hkl hk' sk ha hl ol sl=>?_⟩,λa z=>?_,by rw[agM];show j.inn.len,by rw[agM];show j.inn.iH⟩,λk e a h hoo hs=>?_,λk e v r h hs ha=>?_⟩,r1⟩
 .by_cases hki:k=i
  .subst hki;rw[z2a h1] at h;cases h;show⟨.ref p,z2a h2,hr⟩
  .rw[z1e (afT hki)] at h;let⟨v,q1,q2⟩:=j.inn.env.get k e h;show⟨v,by rw[z1e (afT hki)];show q1,q2.abr s1 r1 λa z=> .inl z⟩
 .by_cases hki:k=i
  .subst hki;rw[z2a h2] at sk;cases sk;rw[z1e hkl] at hl sl;show (nw hl ol sl).1 rfl
  .rw[z1e (afT hki)] at hk' sk;by_cases hli:l=i
   .subst hli;rw[z2a h2] at sl;cases sl;show (nw hk' ok sk).1 rfl
   .rw[z1e (afT hli)] at hl sl;show j.inn.env.sep k l e e' v hkl hk' hl ok ol sk sl
 .by_cases hki:k=i
  .subst hki;rw[z2a h1] at hk';rw[z2a h2] at sk;cases hk';cases sk;show (hni r ha).elim
  .rw[z1e (afT hki)] at hk' sk;by_cases hli:l=i
   .subst hli;rw[z2a h2] at sl;rw[z2a h1] at hl;cases sl;cases hl;show⟨λz=>by cases z;show (nw hk' ha.own sk).2 ha,hni r⟩
   .rw[z1e (afT hli)] at hl sl;have q:=j.inn.env.jY k l e e' v v' r hkl hk' sk (j.inn.env.back s1 hk' sk ha) hl ol sl;show⟨q.1,λz=>q.2 (j.inn.env.back s1 hl sl z)⟩
 .rcases z with z |z
  .let⟨u,q⟩:=j.inn.al a z;show⟨u,s1 _ _ q⟩
  .rw[z];show⟨o,upd_same⟩
 .by_cases hki:k=i
  .subst hki;rw[z2a h2] at hs;cases hs;show⟨j.same.free hp,λz=>nOp (j.sub _ z)⟩
  .rw[z1e (afT hki)] at h hs;show j.mine k e a h hoo hs
 .by_cases hki:k=i
  .subst hki;rw[z2a h1] at h;rw[z2a h2] at hs;cases h;cases hs;show (hni r ha).elim
  .rw[z1e (afT hki)] at h hs;show j.jB k e v r h hs (j.inn.env.back s1 h hs ha)
theorem sX(i:Nat){x:Str}{pos' p2:Pos}(hN:X.N.Nodup)(ha:DA X es fa)(hi:X.N[i]?=some x:=by rfl)(hx:Loc X.env.scope x:=by first |show agp rfl |show aga rfl)(hs:ag6 (.List es p2) (some (.Name x pos')) pos.line X.env=pure false:=by rfl)
  (hf:X.fn x=true\/X.env.scope.names.lookup x=some .local:=by first |show .inl rfl |show .inr rfl):DS X (.Assign [.Name x pos'] (.List es p2) pos) (newL fa i):=by
 show PS.imp (ps_set hN hi hx (Eo ha) hs hf) λσ H E h=>?_;let⟨H0,O0,O,ρ,j,h⟩:=h;show⟨ρ,O,j.inn,?_⟩;unfold newL at h;cases e1:fa ρ with
 |bad=>rw[e1] at h;show h
 |err c=>rw[e1] at h;show h σ H O j
 | ok ds=>
  rw[e1] at h;intro vs H1 s1 r1;by_cases hl:ds.length<=1000000
  .simp only[z9p hl] at h;show⟨by rw[<-r1.length];show z0b hl eO,λp hp hk=>?_⟩;let⟨j2,r2⟩:=(j.grow s1).own (z1b hi).1 (o:= .lst vs) (en:= .lst ds) hp hk rfl ⟨p,vs,rfl,.inr rfl,upd_same,r1.go ⟨(Same.cI (K:=X.K) (O:=O) (Same.upd hp)).ext,λa z=>z.elim .inl λe=> .inr (by rw[e];show⟨hp,hk⟩),(Same.cI (K:=X.K) (O:=O) (Same.upd hp)).dom⟩⟩;show h _ _ _ j2 ((Same.cI s1).trans r2)
  .simp only[z9n hl] at h;show h.elim
theorem At.chg(j:At X H0 O0 O H ρ σ){e0 en:Ent}{u o:HO}(hi:ρ[i]?=some (some e0))(h0:e0.own=true)(hp:σ[i]?=some (some (.ref p)))(hO:O p)(hu:H p=some u)(hm:Mut (some u))(ho:en.own=true)
  (hr:cT X.K O H O (upd H p o)->fM X.K O (upd H p o) en (.ref p))(hni:∀r,fH (upd H p o) en (.ref p) r->fH H e0 (.ref p) r:=by intro _ z;show z.elim):At X H0 O0 O (upd H p o) (ρ.set i (some en)) σ/\cT X.K O H O (upd H p o):=by
 have r1:cT X.K O H O (upd H p o):=oZ hO hu hm;have h1:i<ρ.length:=(z1b hi).1;let⟨hH0,hO0⟩:=j.mine i e0 p hi h0 hp;have nv:∀{k:Nat} {e:Ent} {v:V},k≠i->ρ[k]?=some (some e)->e.own=true->σ[k]?=some (some v)->v≠.ref p:=λ{k e v} hki q1 q2 q3 w=>by
  subst w;show j.inn.env.sep k i e e0 _ hki q1 hi q2 h0 q3 hp
 have un:∀{m:Nat} {x:Ent},(ρ.set i (some en))[m]?=some (some x)->x.own=true->∃y,ρ[m]?=some (some y)/\y.own=true/\∀{v:V} {r:afK},σ[m]?=some (some v)->fH (upd H p o) x v r->fH H y v r:=λ{m x} h ho'=>by
  by_cases hmi:m=i
  .subst hmi;rw[z2a h1] at h;cases h;show⟨e0,hi,h0,λq z=>by rw[hp] at q;cases q;show hni _ z⟩
  .rw[z1e (afT hmi)] at h;show⟨x,h,ho',λq z=>z.eq λa ea=>upd_ne λw=>nv hmi h ho' q (by rw[ea,w])⟩
 show⟨⟨λb q z=>?_,j.cI.trans r1,j.sub,⟨⟨λk e h=>?_,λk l e e' v hkl hk' hl ok ol sk sl=>?_,λk l e e' v v' r hkl hk' sk ha hl ol sl=>?_⟩,λa z=>?_,j.inn.len,by rw[agM];show j.inn.iH⟩,λk e a h hoo hs=>?_,λk e v r h hs ha=>?_⟩,r1⟩
 .rw[upd_ne (ne_of_none z hH0)];show j.same _ _ z
 .by_cases hki:k=i
  .subst hki;rw[z2a h1] at h;cases h;show⟨_,hp,hr r1⟩
  .rw[z1e (afT hki)] at h;let⟨v,q1,q2⟩:=j.inn.env.get k e h;show⟨v,q1,q2.keep r1 (λb o' u hb=>?_) λb ho w=>⟨upd_ne λz=>?_,id⟩⟩
   .rw[upd_ne λz=>by rw[z,hu] at hb;cases hb;show hm];show hb
   .subst z;rcases w with w |w
    .show nv hki h ho q1 w
    .show (j.inn.env.jY k i e e0 v _ _ hki h q1 w hi h0 hp).1 rfl
 .let⟨y,hy,oy,_⟩:=un hk' ok;let⟨y',hy',Qz,_⟩:=un hl ol;show j.inn.env.sep k l y y' v hkl hy hy' oy Qz sk sl
 .let⟨y,hy,oy,wy⟩:=un hk' ha.own;let⟨y',hy',Qz,wy'⟩:=un hl ol;have q:=j.inn.env.jY k l y y' v v' r hkl hy sk (wy sk ha) hy' Qz sl;show⟨q.1,λz=>q.2 (wy' sl z)⟩
 .by_cases ea:a=p
  .rw[ea];show⟨o,upd_same⟩
  .let⟨w,q⟩:=j.inn.al a z;show⟨w,by rw[upd_ne ea];show q⟩
 .let⟨y,hy,oy,_⟩:=un h hoo;show j.mine k y a hy oy hs
 .let⟨y,hy,_,wy⟩:=un h ha.own;show j.jB k y v r hy hs (wy hs ha)
def tX(i:Nat)(f:ao->R D):ao->So:=λρ=>kh (zU (f ρ)) ρ λd=>match ρ[i]? with
 |some (some (.lst ds))=>if ds.length<1000000 then .nx (ρ.set i (some (.lst (ds++[d])))) else .bad
 |_=> .bad
theorem Ij(i:Nat){x:Str}{apos cpos:Pos}(he:DE X e f)(hN:X.N[i]?=some x:=by rfl)(hv:Vis X.env.scope x:=by first |show agp rfl |show aga (agp rfl) |show aga (aga rfl))
  (hd:(x ==("__debug__" :Str))=false:=by decide)(hcd:(x ==("__classdict__" :Str))=false:=by decide)
  (hbase:ahK (.Name x px) "append" X.env (eval (.Name x px) X.env)=eval (.Name x px) X.env:=by rfl)
  (hfew:((ago cpos (afP [e] X.env)).all (λx=> !x.1) && (agW cpos (agz [] X.env)).all (λx=>x.1.isSome)
   && decide ([e].length+([]:List ahW).length+(if ([]:List ahW).isEmpty then 0 else 1)<30))=true:=by rfl)
  (hline:(apos.endLine ==cpos.line)=true:=by rfl) (hs1:afP [e] X.env=(false,eval e X.env)::afP [] X.env:=by rfl) (hplain:(ago cpos (afP [] X.env)).any (·.1)=false:=by rfl)
  (hs:ag6 (.Call (.Attribute (.Name x px) "append" apos) [e] [] cpos) none pos.line X.env=pure false:=by rfl):
  DS X (.Expr (.Call (.Attribute (.Name x px) "append" apos) [e] [] cpos) pos) (tX i f):=by
 show PS.imp (ps_expr (pe_bm akL akE akF mt_append (pe_var hN hv hd hcd) (pa_cons he pa_nil hs1) hbase hfew hline hs1 hplain) hs) λσ H E h=>?_;let⟨H0,O0,O,ρ,j,h⟩:=h;unfold tX kh at h;cases e1:f ρ with
 |bad=>rw[e1] at h;show h.elim
 |err c=>rw[e1] at h;show h.elim
 | ok d =>
  rw[e1] at h;cases e2:ρ[i]? with
  |none=>simp only[e2] at h;show h.elim
  | some oe=>
   cases oe with
   |none=>simp only[e2] at h;show h.elim
   | some en=>
    cases en with
    |val _=>simp only[e2] at h;show h.elim
    |wL _=>simp only[e2] at h;show h.elim
    |rws _=>simp only[e2] at h;show h.elim
    |bU _ _=>simp only[e2] at h;show h.elim
    |eU _=>simp only[e2] at h;show h.elim
    |obj _=>simp only[e2] at h;show h.elim
    | lst ds=>
     simp only[e2] at h;by_cases hl:ds.length<1000000
     .simp only[z9p hl] at h;let⟨v,hv1,a,xs,rfl,hO,hH,rs⟩:=j.inn.env.get i _ e2;show⟨.ref a,hv1,.inl ⟨rfl,xs,SqL.of hH⟩,?_⟩;show⟨ρ,O,j.inn,?_⟩;rw[e1];intro w H1 s1 rw1;have j1:=j.grow s1;let⟨_,hv2,a2,xs2,e3,hO2,hH2,Ik⟩:=j1.inn.env.get i _ e2;rw[hv1] at hv2;cases hv2;cases e3;have hlen:=Ik.length;show⟨a,xs2,w,rfl,rfl,hH2,by have:=dW;omega,?_⟩;let⟨j2,r2⟩:=j1.chg (o:= .lst (xs2++[w])) (en:= .lst (ds++[d])) e2 rfl hv1 hO2 hH2 trivial rfl λr=>⟨a,xs2++[w],rfl,hO2,upd_same,(Ik.append (.cons rw1 .nil)).go r⟩;show h _ _ _ j2 ((Same.cI s1).trans r2)
     .simp only[z9n hl] at h;show h.elim
end
inductive SpD (K:afM) (n:Nat) (F:List D->R D) (vs:List V) (H:Hp) (Q:VK):Prop
 | mk (O:afK->Prop) (ds:List D) (r:aM K O H ds vs) (hl:ds.length=n) (al:∀a,O a->∃o,H a=some o) (h:match F ds with
  | .ok d=>∀v H',Same H H'->Rep K O H' d v->Q v H'
  |_=>False):SpD K n F vs H Q
def QB(K:afM)(n:Nat)(F:List D->R D):Sp:=λvs H Q _=>SpD K n F vs H Q
def cj(n:Nat)(g:ao->So)(ds:List D):R D:=match g (ds.map (λd=>some (.val d))++afO n none) with
 | .rt d=> .ok d
 | .nx _=> .ok .non
 | .ex c _=> .err c
 |_=> .bad
section
variable{P:afZ}{w:af4}{K:afM}{mg:Str->Option afL}{base:af2}
theorem iJ{K:afM}{vs:List V}(r:aM K O H ds vs)(m:Nat)(i:Nat)(e:Ent)(h:(ds.map (λd=>some (Ent.val d))++afO m none)[i]?=some (some e)):∃v,(vs.map some++afO m none)[i]?=some (some v)/\fM K O H e v/\e.own=false:=by
 by_cases hi:i<ds.length
 .rw[agJ (by simpa using hi),z2b] at h;cases q:ds[i]? with
  |none=>rw[q] at h;cases h
  | some d=>
   rw[q] at h;cases h;let⟨v,e1,rv⟩:=r.get q;show⟨v,by rw[agJ (by rw[z1g,<-r.length];show hi),z2b,e1];rfl,rv,rfl⟩
 .rw[agu (by simpa using hi),ahf] at h;split at h <;> cases h
theorem fnD{x qual:Str}{st:af7}{f:afK}{fd:agx}{ps:List Str}{k m:Nat}{g:ao->So}{F:List D->R D}(Fn:Fun K x qual st f fd)(S:FnScope N ps (defScope st))(hn:ps.length=n)(hm:N.length=n+m)
  (hb:∀(cdv:afL) (A:af5) (outer:List agA) (s:afN) (H:Hp) (E:XK),Room k (A.deeper (ag9 qual (defScope st) s.heap.objs.size f cdv))->iG (cxOf CX0 P w K mg base N qual (defScope st) f cdv A outer s H E).nox (defBody st) g)
  (hF:∀ds d,ds.length=n->F ds= .ok d->cj m g ds= .ok d):FnOk P w K mg base CX0 (k+1) f fd ps (QB K n F):=by
 show Fn.ok S (λvs H Q E h=>?_) (λcdv A outer s H vs Q E hr h=>?_)
 .let⟨O,ds,r,hl,_⟩:=h;rw[hn,<-hl,r.length]
 .let⟨O,ds,r,hl,al,h⟩:=h;show⟨_,hb cdv A outer s H E hr,H,O,O,ds.map (λd=>some (.val d))++afO m none,?_,?_⟩
  .have hst:L2.start N vs=vs.map some++afO m none:=by
    unfold L2.start;rw[show N.length - vs.length=m by rw[<-r.length];omega]
   show⟨Same.refl _,.refl,λ_ z=>z,⟨⟨λi e q=>?_,λi k e e' v _ hi _ oi=>?_,λi k e e' v v' w _ hi _ ha=>by let⟨_,_,_,h3⟩:=iJ r m i _ hi;rw[ha.own] at h3;cases h3⟩,al,?_,?_⟩,λi e a q ho=>?_,λi e v w q _ ha=>by let⟨_,_,_,h3⟩:=iJ r m i _ q;rw[ha.own] at h3;cases h3⟩
   .let⟨v,h1,h2,_⟩:=iJ r m i e q;show⟨v,by rw[hst];show h1,h2⟩
   .let⟨_,_,_,h3⟩:=iJ r m i e hi;rw[h3] at oi;cases oi
   .show (L2.start N vs).length=N.length;rw[hst,z1d,z1g,agt,<-r.length];omega
   .show (ds.map (λd=>some (Ent.val d))++afO m none).length=N.length;rw[z1d,z1g,agt];omega
   .let⟨_,_,_,h3⟩:=iJ r m i e q;rw[h3] at ho;cases ho
  .cases e:F ds with
   |bad=>rw[e] at h;show h.elim
   |err c=>rw[e] at h;show h.elim
   | ok d=>
    rw[e] at h;have q:=hF ds d hl e;unfold cj at q;cases e2:g (ds.map (λd=>some (.val d))++afO m none) with
    | rt d'=>
     rw[e2] at q;cases q;show λv H' s' r'=>h v H' s' r'
    | nx ρ'=>
     rw[e2] at q;cases q;show λσ' H' O' j' _=>h .non H' j'.same lC
    |bk _=>rw[e2] at q;cases q
    |ct _=>rw[e2] at q;cases q
    |ex _ _=>rw[e2] at q;cases q
    |rm _ _=>rw[e2] at q;cases q
    |rk _=>rw[e2] at q;cases q
    |bad=>rw[e2] at q;cases q
end
section
variable{X:Cx}{k n:Nat}{f:afK}{fd:agx}{ps:List Str}{F:List D->R D}{x:Str}{p pos:Pos}{e:afV}{es:List afV}{fa:ao->R (List D)}
def aO(F:List D->R D)(n:Nat)(ds:List D):R D:=if ds.length=n then zU (F ds) else .bad
theorem abJ(G:FnOk X.prog X.w X.K X.mg X.base CX0 k f fd ps (QB X.K n F))(hr:Room k X.A)(hg:Gl X x)(hm:X.mg x=some (.ref f))(hk:agg X.K (.ref f)=true)(hb:Binds X.K fd ps [])
  (ha:DA X (e::es) fa)(hdb:(x ==("__debug__" :Str))=false:=by decide)(he:afP (e::es) X.env=(false,eval e X.env)::afP es X.env:=by rfl)(hpl:(ago pos (afP es X.env)).any (·.1)=false:=by rfl):
  DE X (.Call (.Name x p) (e::es) [] pos) (aD (aO F n) fa):=by
 show PE.imp (pe_call (dvs:=[]) G hr hg hm hk hb .nil pass0 ha hdb he hpl) λσ H Q h=>?_;let⟨ρ,O,j,h⟩:=h;show go j h λds vs H1 e1 s1 r1 j1 h1=>?_;unfold aO at h1;by_cases hl:ds.length=n
 .rw[z9p hl] at h1;rw[ags];show⟨O,ds,r1,hl,j1.al,?_⟩;cases q:F ds with
  |ok d=>rw[q] at h1;show h1
  |err c=>rw[q] at h1;show h1
  |bad=>rw[q] at h1;show h1
 .rw[z9n hl] at h1;show h1.elim
end
section
variable{X:Cx}
def cH:List D->R D
 |[.tup ds]=> .ok (.int ds.length)
 |[.lst ds]=> .ok (.int ds.length)
 |_=> .bad
theorem cR:CallD X (.builtin "len") cH:=by
 show⟨_,call_len_seq,λρ O σ H Q xs ds j r h=>?_⟩;unfold cH at h;split at h
 .let⟨x,rfl,rx⟩:=r.one;let⟨a,ys,rfl,hq,rs⟩:=rx.tup;show⟨a,ys,rfl,.inr hq,by rw[<-rs.length];show fin h (cg _)⟩
 .let⟨x,rfl,rx⟩:=r.one;let⟨a,ys,rfl,hq,_,rs⟩:=rx.lst;show⟨a,ys,rfl,.inl hq,by rw[<-rs.length];show fin h (cg _)⟩
 .show h.elim
def mU:List D->R D
 |[.tup ds]=> .ok (.tup ds)
 |[.lst ds]=> .ok (.tup ds)
 |_=> .bad
theorem iu:CallD X (.type "tuple") mU:=by
 show⟨_,call_tuple_of,λρ O σ H Q xs ds j r h=>?_⟩;unfold mU at h;split at h
 .let⟨x,rfl,rx⟩:=r.one;let⟨a,ys,rfl,hq,rs⟩:=rx.tup;show⟨a,ys,rfl,.inr ⟨hq,fin h (gA hq rs)⟩⟩
 .let⟨x,rfl,rx⟩:=r.one;let⟨a,ys,rfl,hq,_,rs⟩:=rx.lst;show⟨a,ys,rfl,.inl ⟨hq,λl hl=>h _ _ (Same.upd hl) (Rep.sW hl rs)⟩⟩
 .show h.elim
def boolsOf:List D->Option (List Bool)
 |[]=>some []
 | .bl b::r=>(boolsOf r).map (b:: ·)
 |_=>none
def intsOf:List D->Option (List Int)
 |[]=>some []
 | .int i::r=>(intsOf r).map (i:: ·)
 |_=>none
theorem U6{K:afM}{O:afK->Prop}{H:Hp}:∀{ds:List D} {bs:List Bool} {vs:List V},boolsOf ds=some bs->aM K O H ds vs->vs=bs.map V.bl
 |[],bs,vs,e,r=>by cases e;show r.nil_inv
 | d ::ds,bs,vs,e,r=>by
  cases d with
  | bl b=>
   have e:(boolsOf ds).map (b:: ·)=some bs:=e;cases q:boolsOf ds with
   |none=>rw[q] at e;cases e
   | some l=>
    rw[q] at e;cases e;let⟨x,t,rfl,rx,rt⟩:=r.cons_inv;rw[rx.bl,U6 q rt];rfl
  |_=>cases e
theorem QC:∀{bs:List Bool} {us:List afL},Vals (bs.map V.bl) us->LSm.BoolsAre us bs
 |[],_,.nil=> .nil
 |b::bs,_,.cons r t=>by cases r;show .cons b (QC t)
theorem XR(hc:X.calm=true):CallR X (.builtin "all") (λxs H Q=>∃p,∃bs:List Bool,xs=[.ref p]/\SqL X.K H p (bs.map V.bl)/\Q (.bl (bs.all id)) H):=by
 intro pins s σ H xs us Q I r h;let⟨p,bs,rfl,hq,q⟩:=h;let⟨u,rfl,rx⟩:=vals1 r;cases rx;let⟨its,r',pl,hz⟩:=I.list hq;have hb:=QC r';have hl:=pl.isList;have hlt:p<s.heap.objs.size:=by let⟨_,e,_⟩:=hl;show z2c e
 show call_all_walk (akh hl ?_);show⟨s.heap.objs.size,[s.heap.objs.size,p],[s.heap.objs.size],its.toArray.size,_,_,λi=>(bs[i]?).getD true,rfl,Walks.list (A:=X.A.in1) (I.ok.hd hc) _ p (agD hlt) its.toArray,
  ⟨⟨_,z1f _ rfl,rfl,rfl⟩,hl.push _⟩,λi v s' Q' E' hP hQ=>?_,λh' tk hk=>?_⟩
 .let⟨b,e,rfl⟩:=hb.get i v (by simpa using hP);simp only[e,akC] at hQ;show ag2 hQ
 .have e:((afR its.toArray.size).all λi=>(bs[i]?).getD true)=bs.all id:=by
   rw[z1c,hb.length];show LSm.range_all bs
  rw[e];show⟨.bl _,H,I.kept (LSm.kept_iter hk),rfl,q⟩
def yx:List D->R D
 | [.lst ds]=>match boolsOf ds with
  |some bs=> .ok (.bl (bs.all id))
  |none=> .bad
 |_=> .bad
theorem Ax(hc:X.calm=true):CallD X (.builtin "all") yx:=by
 show⟨_,XR hc,λρ O σ H Q xs ds j r h=>?_⟩;unfold yx at h;split at h
 .rename_i ds;let⟨x,rfl,rx⟩:=r.one;let⟨a,ys,rfl,hq,_,rs⟩:=rx.lst;cases e:boolsOf ds with
  |none=>rw[e] at h;show h.elim
  | some bs=>
   rw[e] at h;have ey:=U6 e rs;subst ey;show⟨a,bs,rfl,hq,fin h (dO _)⟩
 .show h.elim
def kI:D->String
 | .non=> "NoneType"
 | .bl _=> "bool"
 | .int _=> "int"
 | .str _=> "str"
 | .tup _=> "tuple"
 | .lst _=> "list"
theorem XS(T:String)(ans:String->Bool)(hk:∀d:D,afX X.K (.type (kI d)) (.type T)=some (ans (kI d))):
  CallR X (.builtin "isinstance") (λxs H Q=>∃x O d,xs=[x,.ty T]/\Rep X.K O H d x/\Q (.bl (ans (kI d))) H):=by
 intro pins s σ H xs us Q I r h;let⟨x,O,d,rfl,rd,q⟩:=h;let⟨u,u2,rfl,rx,r2⟩:=vals2 r;cases r2;have e:=hk d;have fin':∀tk,EP X pins σ Q (.bool (ans (kI d))) {s with toks:=tk}:=λtk=>⟨.bl _,H,I.tok _,rfl,q⟩;cases d with
 | non=>
  cases rd.non;cases (show u=agi from rx);show ahJ PySem.W.kitx_none I.kIn ajA e (λz=>nomatch z) fin'
 | bl b=>
  cases rd.bl;cases (show u=akl b from rx);show ahJ PySem.W.kitx_bool I.kIn ajA e (λz=>nomatch z) fin'
 | int i=>
  cases rd.int;let⟨t,z⟩:=(show ∃t,u=aiC i t from rx);cases z;show ahJ PySem.W.kitx_int I.kIn ajA e (λz=>nomatch z) fin'
 | str y=>
  cases rd.str;let⟨t,z⟩:=(show ∃t,u=ajW y t from rx);cases z;show ahJ PySem.W.kitx_str I.kIn ajA e (λz=>nomatch z) fin'
 | tup ds=>
  let⟨a,ys,rfl,hq,_⟩:=rd.tup;cases (show u=af0 a from rx);let⟨its,_,pl,_⟩:=I.tuple hq;let⟨o,h1,h2,_⟩:=pl;show ahJ PySem.W.kitx_tuple I.kIn ⟨o,h1,h2⟩ e (λz=>nomatch z) fin'
 | lst ds=>
  let⟨a,ys,rfl,hq,_,_⟩:=rd.lst;cases (show u=af0 a from rx);let⟨its,_,pl,_⟩:=I.list hq;let⟨o,n,h1,h2,_⟩:=pl;show ahJ PySem.W.kitx_list I.kIn ⟨o,h1,h2⟩ e (λz=>nomatch z) fin'
def Ep(ans:String->Bool)(f:ao->R D):ao->R D:=λρ=>(f ρ).bind λd=> .ok (.bl (ans (kI d)))
theorem wU{T:String}{ans:String->Bool}{x y:Str}{e:afV}{f:ao->R D}{p p2 pos:Pos}(hk:∀d:D,afX X.K (.type (kI d)) (.type T)=some (ans (kI d)))(he:DE X e f)
  (hg:Gl X x)(hm:X.mg x=none)(hv:ahv x=some (.builtin "isinstance"))(hgy:Gl X y)(hmy:X.mg y=none)(hvy:ahv y=some (.type T))(hn:x≠"__name__" :=by decide)(hdb:(x ==("__debug__" :Str))=false:=by decide)
  (hny:y≠"__name__" :=by decide)(hdy:(y ==("__debug__" :Str))=false:=by decide)
  (hs:afP [e,.Name y p2] X.env=(false,eval e X.env)::afP [.Name y p2] X.env:=by rfl)(hs2:afP [.Name y p2] X.env=(false,eval (.Name y p2) X.env)::afP [] X.env:=by rfl)(hpl:(ago pos (afP [.Name y p2] X.env)).any (·.1)=false:=by rfl):
  DE X (.Call (.Name x p) [e,.Name y p2] [] pos) (Ep ans f):=by
 show PE.imp (pe_callB (XS T ans hk) hg hm hv (pa_cons he (pa_cons (pe_bltn (v:= .ty T) hgy hmy hvy rfl hny hdy) pa_nil hs2) hs) hn hdb hs hpl) λσ H Q h=>?_;let⟨ρ,O,j,h⟩:=h;show go j h λd v H1 e1 s1 r1 j1 h1=>?_;show⟨v,O,d,rfl,r1,fin h1 (dO _)⟩
end
mutual
def dF:D->D->Bool
 | .non,.non=>true
 | .bl a,.bl b=>a ==b
 | .bl a,.int b=>(if a then 1 else 0) ==b
 | .int a,.bl b=>a ==(if b then 1 else 0)
 | .int a,.int b=>a ==b
 | .str a,.str b=>a ==b
 | .tup a,.tup b=>qT a b
 | .lst a,.lst b=>qT a b
 |_,_=>false
def qT:List D->List D->Bool
 |[],[]=>true
 |x::xs,y::ys=>dF x y && qT xs ys
 |_,_=>false
end
mutual
def dep:D->Nat
 | .tup a=>deps a+1
 | .lst a=>deps a+1
 |_=>0
def deps:List D->Nat
 |[]=>0
 |x::xs=>max (dep x) (deps xs)
end
theorem pD:∀{ds:List D} {d:D},d∈ds->dep d<=deps ds
 |[],_,h=>by simp at h
 | x::xs,d,h=>by
  rw[deps];rcases af9.mp h with e |h
  .subst e;show Nat.le_max_left _ _
  .show z0b (pD h) (Nat.le_max_right _ _)
theorem je(a b:Bool):dF (.bl a) (.bl b)=(a ==b):=rfl
theorem jf(a:Bool)(b:Int):dF (.bl a) (.int b)=((if a then 1 else 0) ==b):=rfl
theorem jg(a:Int)(b:Bool):dF (.int a) (.bl b)=(a ==(if b then 1 else 0)):=rfl
theorem jh(a b:Int):dF (.int a) (.int b)=(a ==b):=rfl
theorem ji(a b:Str):dF (.str a) (.str b)=(a ==b):=rfl
theorem fL(a b:List D):dF (.tup a) (.tup b)=qT a b:=rfl
theorem dJ(a b:List D):dF (.lst a) (.lst b)=qT a b:=rfl
mutual
theorem GZ:∀d:D,dF d d=true
 | .non=>rfl
 | .bl a=>by simp[je,jf,jg,jh,ji,fL,dJ]
 | .int a=>by simp[je,jf,jg,jh,ji,fL,dJ]
 | .str a=>by simp[je,jf,jg,jh,ji,fL,dJ]
 | .tup a=>by rw[fL];show qH a
 | .lst a=>by rw[dJ];show qH a
theorem qH:∀d:List D,qT d d=true
 |[]=>rfl
 |x::xs=>by rw[qT,GZ x,qH xs];rfl
end
theorem tY:∀{xs ys:List D},xs.length≠ys.length->qT xs ys=false
 |[],[],h=>absurd rfl h
 |[],_::_,_=>rfl
 |_::_,[],_=>rfl
 | x::xs,y::ys,h=>by
  rw[qT,tY (xs:=xs) (ys:=ys) (λe=>h (by simp[e])),akW]
theorem tZ:∀{xs ys:List D},xs.length=ys.length->qT xs ys=(afR xs.length).all λi=>dF (xs.getD i .non) (ys.getD i .non)
 |[],[],_=>rfl
 |[],_::_,h=>by simp at h
 |_::_,[],h=>by simp at h
 | x::xs,y::ys,h=>by
  rw[qT,tZ (xs:=xs) (ys:=ys) (by simpa using h),afY,ahQ,ah2,List.all_map];rfl
end Pu
namespace Pu
open PySem PySem.Spec L2
open PyProof.Rows hiding St
open PySem.SeqAt
variable{A:af5}{d:D}{u u':afL}
inductive LkT (X:Cx) (O:afK->Prop) (H:Hp) (s:afN) (ds:List D) (u:afL):Prop
 |mk (a:afK) (xs:List V) (its:List afL) (e:u=af0 a) (q:SqT X.K H a xs) (v:Vals xs its) (p:s.heap.IsTuple a its.toArray) (r:aM X.K O H ds xs):LkT X O H s ds u
inductive LkL (X:Cx) (O:afK->Prop) (H:Hp) (s:afN) (ds:List D) (u:afL):Prop
 |mk (a:afK) (xs:List V) (its:List afL) (e:u=af0 a) (q:SqL X.K H a xs) (v:Vals xs its) (p:s.heap.IsList a its.toArray) (r:aM X.K O H ds xs):LkL X O H s ds u
def Lk(X:Cx)(O:afK->Prop)(H:Hp)(s:afN):D->afL->Prop
 | .non,u=>u=agi
 | .bl b,u=>u=akl b
 | .int i,u=>∃t,u=aiC i t
 | .str x,u=>∃t,u=ajW x t
 | .tup ds,u=>LkT X O H s ds u
 | .lst ds,u=>LkL X O H s ds u
section
variable{X:Cx}{pins:List (afK×Obj)}{σ:St}{H:Hp}{s:afN}{O O':afK->Prop}
theorem uZ(I:Inv X pins σ H s){v:V}(r:Rep X.K O H d v)(q:RelV v u):Lk X O H s d u:=by
 cases d with
 |non=>cases r.non;show q
 |bl b=>cases r.bl;show q
 |int i=>cases r.int;show q
 |str x=>cases r.str;show q
 | tup ds=>
  let⟨a,xs,rfl,hq,rs⟩:=r.tup;cases (show u=af0 a from q);let⟨its,rv,p,_⟩:=I.tuple hq;show⟨a,xs,its,rfl,hq,rv,p,rs⟩
 | lst ds=>
  let⟨a,xs,rfl,hq,_,rs⟩:=r.lst;cases (show u=af0 a from q);let⟨its,rv,p,_⟩:=I.list hq;show⟨a,xs,its,rfl,hq,rv,p.isList,rs⟩
theorem isTuple_list{a:afK}{p q:Array afL}(h1:s.heap.IsTuple a p)(h2:s.heap.IsList a q):False:=ne_of_list_tuple h2 h1 rfl
mutual
theorem Rep.inj(I:Inv X pins σ H s):∀(d e:D) (v:V),Rep X.K O H d v->Rep X.K O' H e v->d=e
 | .non,e,v,r,q=>by
  cases r.non;cases e with
  |non=>rfl
  |bl _=>cases q.bl
  |int _=>cases q.int
  |str _=>cases q.str
  |tup _=>let⟨_,_,z,_⟩:=q.tup;cases z
  |lst _=>let⟨_,_,z,_⟩:=q.lst;cases z
 | .bl b,e,v,r,q=>by
  cases r.bl;cases e with
  |non=>cases q.non
  |bl _=>cases q.bl;rfl
  |int _=>cases q.int
  |str _=>cases q.str
  |tup _=>let⟨_,_,z,_⟩:=q.tup;cases z
  |lst _=>let⟨_,_,z,_⟩:=q.lst;cases z
 | .int b,e,v,r,q=>by
  cases r.int;cases e with
  |non=>cases q.non
  |bl _=>cases q.bl
  |int _=>cases q.int;rfl
  |str _=>cases q.str
  |tup _=>let⟨_,_,z,_⟩:=q.tup;cases z
  |lst _=>let⟨_,_,z,_⟩:=q.lst;cases z
 | .str b,e,v,r,q=>by
  cases r.str;cases e with
  |non=>cases q.non
  |bl _=>cases q.bl
  |int _=>cases q.int
  |str _=>cases q.str;rfl
  |tup _=>let⟨_,_,z,_⟩:=q.tup;cases z
  |lst _=>let⟨_,_,z,_⟩:=q.lst;cases z
 | .tup ds,e,v,r,q=>by
  let⟨a,xs,rfl,hq,rs⟩:=r.tup;cases e with
  |non=>cases q.non
  |bl _=>cases q.bl
  |int _=>cases q.int
  |str _=>cases q.str
  | tup es=>
   let⟨b,ys,z,hq',rs'⟩:=q.tup;cases z;cases I.tuple_inj hq hq';rw[aM.inj I ds es xs rs rs']
  | lst es=>
   let⟨b,ys,z,hq',_,rs'⟩:=q.lst;cases z;let⟨_,_,p1,_⟩:=I.tuple hq;let⟨_,_,p2,_⟩:=I.list hq';show (isTuple_list p1 p2.isList).elim
 | .lst ds,e,v,r,q=>by
  let⟨a,xs,rfl,hq,_,rs⟩:=r.lst;cases e with
  |non=>cases q.non
  |bl _=>cases q.bl
  |int _=>cases q.int
  |str _=>cases q.str
  | tup es=>
   let⟨b,ys,z,hq',rs'⟩:=q.tup;cases z;let⟨_,_,p1,_⟩:=I.tuple hq';let⟨_,_,p2,_⟩:=I.list hq;show (isTuple_list p1 p2.isList).elim
  | lst es=>
   let⟨b,ys,z,hq',_,rs'⟩:=q.lst;cases z;cases I.list_inj hq hq';rw[aM.inj I ds es xs rs rs']
theorem aM.inj(I:Inv X pins σ H s):∀(ds es:List D) (vs:List V),aM X.K O H ds vs->aM X.K O' H es vs->ds=es
 | [],es,vs,r,q=>by
  rw[r.nil_inv] at q;cases es with
  |nil=>rfl
  |cons e es=>let⟨_,_,z,_⟩:=q.cons_inv;cases z
 | d ::ds,es,vs,r,q=>by
  let⟨x,t,rfl,rx,rt⟩:=r.cons_inv;cases es with
  |nil=>cases q.nil_inv
  | cons e es=>
   let⟨_,_,z,qx,qt⟩:=q.cons_inv;cases z;rw[Rep.inj I d e x rx qx,aM.inj I ds es t rt qt]
end
theorem pF{ds es:List D}{xs ys:List V}{its jts:List afL}(r1:aM X.K O H ds xs)(r2:aM X.K O' H es ys)(v1:Vals xs its)(v2:Vals ys jts)
  (ih:∀d∈ds,∀(e:D) (v w:V) (u u':afL),Rep X.K O H d v->Rep X.K O' H e w->RelV v u->RelV w u'->EqAt A s u u' (dF d e)):
  ∀j (h1:j<its.toArray.size) (h2:j<jts.toArray.size),EqAt A s its.toArray[j] jts.toArray[j] (dF (ds.getD j .non) (es.getD j .non)):=by
 intro j h1 h2;have e1:its[j]?=some its.toArray[j]:=()
 have e2:jts[j]?=some jts.toArray[j]:=()
 have l1:=v1.length;have l2:=v2.length;have k1:=r1.length;have k2:=r2.length;simp only[z1c] at h1 h2;obtain⟨v,ev,rv⟩:∃v,xs[j]?=some v/\RelV v its.toArray[j]:=by
  have hj:j<xs.length:=()
  let⟨u,eu,ru⟩:=v1.get (i:=j) (x:=xs[j]) (by simp[hj]);rw[e1] at eu;cases eu;show⟨_,by simp[hj],ru⟩
 obtain⟨w,ew,rw'⟩:∃v,ys[j]?=some v/\RelV v jts.toArray[j]:=by
  have hj:j<ys.length:=()
  let⟨u,eu,ru⟩:=v2.get (i:=j) (x:=ys[j]) (by simp[hj]);rw[e2] at eu;cases eu;show⟨_,by simp[hj],ru⟩
 let⟨d,ed,rd⟩:=r1.bJ ev;let⟨e,ee,re⟩:=r2.bJ ew;have g1:ds.getD j .non=d:=by simp[akP,ed]
 have g2:es.getD j .non=e:=by simp[akP,ee]
 rw[g1,g2];show ih d (agF ed) e v w _ _ rd re rv rw'
theorem G3{ds es:List D}{n m:Nat}(hn:ds.length=n)(hm:es.length=m):((afR (min n m)).all (λj=>dF (ds.getD j .non) (es.getD j .non)) && n ==m)=qT ds es:=by
 by_cases h:n=m
 .subst h;rw[Nat.min_self,beq_self_eq_true,Bool.and_true,tZ (by rw[hn,hm]),hn]
 .rw[tY (by rw[hn,hm];show h),show (n ==m)=false by simpa using h,akW]
theorem QD(I:Inv X pins σ H s)(hu:A.units<ahH){e:D}(h1:Lk X O H s d u)(h2:Lk X O' H s e u')
  (ih:∀c∈(match d with | .tup ds=>ds | .lst ds=>ds |_=>[]),∀(e:D) (v w:V) (u u':afL),Rep X.K O H c v->Rep X.K O' H e w->RelV v u->RelV w u'->EqAt A.in1 s u u' (dF c e)):EqAt A s u u' (dF d e):=by
 cases d with
 | non=>
  cases h1;cases e with
  | non=>
   cases h2;show EqAt.same _
  | bl b=>
   cases h2;show EqAt.none_bool _
  | int b=>
   let⟨t2,rfl⟩:=h2;show EqAt.none_int _ _
  | str b=>
   let⟨t2,rfl⟩:=h2;show EqAt.none_str _ _
  | tup es=>
   let⟨p2,ys,jts,rfl,hq2,v2,hp2,r2⟩:=h2;show EqAt.none_tuple hp2 hu
  | lst es=>
   let⟨p2,ys,jts,rfl,hq2,v2,hp2,r2⟩:=h2;show EqAt.none_list hp2 hu
 | bl a=>
  cases h1;cases e with
  | non=>
   cases h2;show EqAt.bool_none _
  | bl b=>
   cases h2;show EqAt.bool_bool _ _
  | int b=>
   let⟨t2,rfl⟩:=h2;show EqAt.bool_int _ _ _
  | str b=>
   let⟨t2,rfl⟩:=h2;show EqAt.bool_str _ _ _
  | tup es=>
   let⟨p2,ys,jts,rfl,hq2,v2,hp2,r2⟩:=h2;show EqAt.bool_tuple _ hp2 hu
  | lst es=>
   let⟨p2,ys,jts,rfl,hq2,v2,hp2,r2⟩:=h2;show EqAt.bool_list _ hp2 hu
 | int a=>
  let⟨t1,rfl⟩:=h1;cases e with
  | non=>
   cases h2;show EqAt.int_none _ _
  | bl b=>
   cases h2;show EqAt.int_bool _ _ _
  | int b=>
   let⟨t2,rfl⟩:=h2;show EqAt.int_int _ _ _ _
  | str b=>
   let⟨t2,rfl⟩:=h2;show EqAt.int_str _ _ _ _
  | tup es=>
   let⟨p2,ys,jts,rfl,hq2,v2,hp2,r2⟩:=h2;show EqAt.int_tuple _ _ hp2 hu
  | lst es=>
   let⟨p2,ys,jts,rfl,hq2,v2,hp2,r2⟩:=h2;show EqAt.int_list _ _ hp2 hu
 | str a=>
  let⟨t1,rfl⟩:=h1;cases e with
  | non=>
   cases h2;show EqAt.str_none _ _
  | bl b=>
   cases h2;show EqAt.str_bool _ _ _
  | int b=>
   let⟨t2,rfl⟩:=h2;show EqAt.str_int _ _ _ _
  | str b=>
   let⟨t2,rfl⟩:=h2;show EqAt.str_str _ _ _ _
  | tup es=>
   let⟨p2,ys,jts,rfl,hq2,v2,hp2,r2⟩:=h2;show EqAt.str_tuple _ _ hp2 hu
  | lst es=>
   let⟨p2,ys,jts,rfl,hq2,v2,hp2,r2⟩:=h2;show EqAt.str_list _ _ hp2 hu
 | tup ds=>
  let⟨p1,xs,its,rfl,hq1,v1,hp1,r1⟩:=h1;cases e with
  | non=>
   cases h2;show EqAt.tuple_none hp1 hu
  | bl b=>
   cases h2;show EqAt.tuple_bool _ hp1 hu
  | int b=>
   let⟨t2,rfl⟩:=h2;show EqAt.tuple_int _ _ hp1 hu
  | str b=>
   let⟨t2,rfl⟩:=h2;show EqAt.tuple_str _ _ hp1 hu
  | tup es=>
   let⟨p2,ys,jts,rfl,hq2,v2,hp2,r2⟩:=h2;by_cases hne:p1=p2
   .subst hne;cases I.tuple_inj hq1 hq2;rw[fL,aM.inj I ds es xs r1 r2,qH];show EqAt.same _
   .have q:=EqAt.of_refs hne (RcAt.tuples hp1 hp2 hu (pF r1 r2 v1 v2 ih));simp only[z1c] at q;rw[G3 (r1.length.trans v1.length) (r2.length.trans v2.length)] at q;rw[fL];show q
  | lst es=>
   let⟨p2,ys,jts,rfl,hq2,v2,hp2,r2⟩:=h2;show EqAt.tuple_list hp1 hp2 hu
 | lst ds=>
  let⟨p1,xs,its,rfl,hq1,v1,hp1,r1⟩:=h1;cases e with
  | non=>
   cases h2;show EqAt.list_none hp1 hu
  | bl b=>
   cases h2;show EqAt.list_bool _ hp1 hu
  | int b=>
   let⟨t2,rfl⟩:=h2;show EqAt.list_int _ _ hp1 hu
  | str b=>
   let⟨t2,rfl⟩:=h2;show EqAt.list_str _ _ hp1 hu
  | tup es=>
   let⟨p2,ys,jts,rfl,hq2,v2,hp2,r2⟩:=h2;show EqAt.list_tuple hp1 hp2 hu
  | lst es=>
   let⟨p2,ys,jts,rfl,hq2,v2,hp2,r2⟩:=h2;by_cases hne:p1=p2
   .subst hne;cases I.list_inj hq1 hq2;rw[dJ,aM.inj I ds es xs r1 r2,qH];show EqAt.same _
   .by_cases hz:ds.length=es.length
    .have q:=EqAt.of_refs hne (RcAt.lists hp1 hp2 (by simp only[z1c];rw[<-v1.length,<-v2.length,<-r1.length,<-r2.length];show hz) hu (pF r1 r2 v1 v2 ih));rw[z1c,<-v1.length,<-r1.length,<-tZ hz] at q;rw[dJ];show q
    .rw[dJ,tY hz];show EqAt.of_refs hne (RcAt.lists_lengths hp1 hp2 (by simp only[z1c];rw[<-v1.length,<-v2.length,<-r1.length,<-r2.length];simpa using hz) hu)
theorem aad(I:Inv X pins σ H s)(hu:A.units<ahH){e:D}(h1:Lk X O H s d u)(h2:Lk X O' H s e u')
  (ih:∀c∈(match d with | .tup ds=>ds | .lst ds=>ds |_=>[]),∀(e:D) (v w:V) (u u':afL),Rep X.K O H c v->Rep X.K O' H e w->RelV v u->RelV w u'->EqAt A.in1 s u u' (dF c e)):RcAt A s u u' (dF d e):=by
 cases d with
 | non=>
  cases h1;cases e with
  | non=>
   cases h2;show RcAt.none_none
  | bl b=>
   cases h2;show RcAt.none_bool _
  | int b=>
   let⟨t2,rfl⟩:=h2;show RcAt.none_int _ _
  | str b=>
   let⟨t2,rfl⟩:=h2;show RcAt.none_str _ _
  | tup es=>
   let⟨p2,ys,jts,rfl,hq2,v2,hp2,r2⟩:=h2;show RcAt.none_tuple hp2 hu
  | lst es=>
   let⟨p2,ys,jts,rfl,hq2,v2,hp2,r2⟩:=h2;show RcAt.none_list hp2 hu
 | bl a=>
  cases h1;cases e with
  | non=>
   cases h2;show RcAt.bool_none _
  | bl b=>
   cases h2;show RcAt.bool_bool _ _
  | int b=>
   let⟨t2,rfl⟩:=h2;show RcAt.bool_int _ _ _
  | str b=>
   let⟨t2,rfl⟩:=h2;show RcAt.bool_str _ _ _
  | tup es=>
   let⟨p2,ys,jts,rfl,hq2,v2,hp2,r2⟩:=h2;show RcAt.bool_tuple _ hp2 hu
  | lst es=>
   let⟨p2,ys,jts,rfl,hq2,v2,hp2,r2⟩:=h2;show RcAt.bool_list _ hp2 hu
 | int a=>
  let⟨t1,rfl⟩:=h1;cases e with
  | non=>
   cases h2;show RcAt.int_none _ _
  | bl b=>
   cases h2;show RcAt.int_bool _ _ _
  | int b=>
   let⟨t2,rfl⟩:=h2;show RcAt.int_int _ _ _ _
  | str b=>
   let⟨t2,rfl⟩:=h2;show RcAt.int_str _ _ _ _
  | tup es=>
   let⟨p2,ys,jts,rfl,hq2,v2,hp2,r2⟩:=h2;show RcAt.int_tuple _ _ hp2 hu
  | lst es=>
   let⟨p2,ys,jts,rfl,hq2,v2,hp2,r2⟩:=h2;show RcAt.int_list _ _ hp2 hu
 | str a=>
  let⟨t1,rfl⟩:=h1;cases e with
  | non=>
   cases h2;show RcAt.str_none _ _
  | bl b=>
   cases h2;show RcAt.str_bool _ _ _
  | int b=>
   let⟨t2,rfl⟩:=h2;show RcAt.str_int _ _ _ _
  | str b=>
   let⟨t2,rfl⟩:=h2;show RcAt.str_str _ _ _ _
  | tup es=>
   let⟨p2,ys,jts,rfl,hq2,v2,hp2,r2⟩:=h2;show RcAt.str_tuple _ _ hp2 hu
  | lst es=>
   let⟨p2,ys,jts,rfl,hq2,v2,hp2,r2⟩:=h2;show RcAt.str_list _ _ hp2 hu
 | tup ds=>
  let⟨p1,xs,its,rfl,hq1,v1,hp1,r1⟩:=h1;cases e with
  | non=>
   cases h2;show RcAt.tuple_none hp1 hu
  | bl b=>
   cases h2;show RcAt.tuple_bool _ hp1 hu
  | int b=>
   let⟨t2,rfl⟩:=h2;show RcAt.tuple_int _ _ hp1 hu
  | str b=>
   let⟨t2,rfl⟩:=h2;show RcAt.tuple_str _ _ hp1 hu
  | tup es=>
   let⟨p2,ys,jts,rfl,hq2,v2,hp2,r2⟩:=h2;have q:=RcAt.tuples hp1 hp2 hu (pF r1 r2 v1 v2 ih);simp only[z1c] at q;rw[G3 (r1.length.trans v1.length) (r2.length.trans v2.length)] at q;rw[fL];show q
  | lst es=>
   let⟨p2,ys,jts,rfl,hq2,v2,hp2,r2⟩:=h2;show RcAt.tuple_list hp1 hp2 hu
 | lst ds=>
  let⟨p1,xs,its,rfl,hq1,v1,hp1,r1⟩:=h1;cases e with
  | non=>
   cases h2;show RcAt.list_none hp1 hu
  | bl b=>
   cases h2;show RcAt.list_bool _ hp1 hu
  | int b=>
   let⟨t2,rfl⟩:=h2;show RcAt.list_int _ _ hp1 hu
  | str b=>
   let⟨t2,rfl⟩:=h2;show RcAt.list_str _ _ hp1 hu
  | tup es=>
   let⟨p2,ys,jts,rfl,hq2,v2,hp2,r2⟩:=h2;show RcAt.list_tuple hp1 hp2 hu
  | lst es=>
   let⟨p2,ys,jts,rfl,hq2,v2,hp2,r2⟩:=h2;by_cases hz:ds.length=es.length
   .have q:=RcAt.lists hp1 hp2 (by simp only[z1c];rw[<-v1.length,<-v2.length,<-r1.length,<-r2.length];show hz) hu (pF r1 r2 v1 v2 ih);rw[z1c,<-v1.length,<-r1.length,<-tZ hz] at q;rw[dJ];show q
   .rw[dJ,tY hz];show RcAt.lists_lengths hp1 hp2 (by simp only[z1c];rw[<-v1.length,<-v2.length,<-r1.length,<-r2.length];simpa using hz) hu
theorem aae(I:Inv X pins σ H s)(hu:A.units<ahH){e:D}(h1:Lk X O H s d u)(h2:Lk X O' H s e u')
  (ih:∀c∈(match d with | .tup ds=>ds | .lst ds=>ds |_=>[]),∀(e:D) (v w:V) (u u':afL),Rep X.K O H c v->Rep X.K O' H e w->RelV v u->RelV w u'->EqAt A.in1 s u u' (dF c e)):RcNeAt A s u u' (!dF d e):=by
 cases d with
 | non=>
  cases h1;cases e with
  | non=>
   cases h2;show RcNeAt.none_none
  | bl b=>
   cases h2;show RcNeAt.none_bool _
  | int b=>
   let⟨t2,rfl⟩:=h2;show RcNeAt.none_int _ _
  | str b=>
   let⟨t2,rfl⟩:=h2;show RcNeAt.none_str _ _
  | tup es=>
   let⟨p2,ys,jts,rfl,hq2,v2,hp2,r2⟩:=h2;show RcNeAt.none_tuple hp2 hu
  | lst es=>
   let⟨p2,ys,jts,rfl,hq2,v2,hp2,r2⟩:=h2;show RcNeAt.none_list hp2 hu
 | bl a=>
  cases h1;cases e with
  | non=>
   cases h2;show RcNeAt.bool_none _
  | bl b=>
   cases h2;show RcNeAt.bool_bool _ _
  | int b=>
   let⟨t2,rfl⟩:=h2;show RcNeAt.bool_int _ _ _
  | str b=>
   let⟨t2,rfl⟩:=h2;show RcNeAt.bool_str _ _ _
  | tup es=>
   let⟨p2,ys,jts,rfl,hq2,v2,hp2,r2⟩:=h2;show RcNeAt.bool_tuple _ hp2 hu
  | lst es=>
   let⟨p2,ys,jts,rfl,hq2,v2,hp2,r2⟩:=h2;show RcNeAt.bool_list _ hp2 hu
 | int a=>
  let⟨t1,rfl⟩:=h1;cases e with
  | non=>
   cases h2;show RcNeAt.int_none _ _
  | bl b=>
   cases h2;show RcNeAt.int_bool _ _ _
  | int b=>
   let⟨t2,rfl⟩:=h2;show RcNeAt.int_int _ _ _ _
  | str b=>
   let⟨t2,rfl⟩:=h2;show RcNeAt.int_str _ _ _ _
  | tup es=>
   let⟨p2,ys,jts,rfl,hq2,v2,hp2,r2⟩:=h2;show RcNeAt.int_tuple _ _ hp2 hu
  | lst es=>
   let⟨p2,ys,jts,rfl,hq2,v2,hp2,r2⟩:=h2;show RcNeAt.int_list _ _ hp2 hu
 | str a=>
  let⟨t1,rfl⟩:=h1;cases e with
  | non=>
   cases h2;show RcNeAt.str_none _ _
  | bl b=>
   cases h2;show RcNeAt.str_bool _ _ _
  | int b=>
   let⟨t2,rfl⟩:=h2;show RcNeAt.str_int _ _ _ _
  | str b=>
   let⟨t2,rfl⟩:=h2;show RcNeAt.str_str _ _ _ _
  | tup es=>
   let⟨p2,ys,jts,rfl,hq2,v2,hp2,r2⟩:=h2;show RcNeAt.str_tuple _ _ hp2 hu
  | lst es=>
   let⟨p2,ys,jts,rfl,hq2,v2,hp2,r2⟩:=h2;show RcNeAt.str_list _ _ hp2 hu
 | tup ds=>
  let⟨p1,xs,its,rfl,hq1,v1,hp1,r1⟩:=h1;cases e with
  | non=>
   cases h2;show RcNeAt.tuple_none hp1 hu
  | bl b=>
   cases h2;show RcNeAt.tuple_bool _ hp1 hu
  | int b=>
   let⟨t2,rfl⟩:=h2;show RcNeAt.tuple_int _ _ hp1 hu
  | str b=>
   let⟨t2,rfl⟩:=h2;show RcNeAt.tuple_str _ _ hp1 hu
  | tup es=>
   let⟨p2,ys,jts,rfl,hq2,v2,hp2,r2⟩:=h2;have q:=RcNeAt.tuples hp1 hp2 hu (pF r1 r2 v1 v2 ih);simp only[z1c] at q;rw[G3 (r1.length.trans v1.length) (r2.length.trans v2.length)] at q;rw[fL];show q
  | lst es=>
   let⟨p2,ys,jts,rfl,hq2,v2,hp2,r2⟩:=h2;show RcNeAt.tuple_list hp1 hp2 hu
 | lst ds=>
  let⟨p1,xs,its,rfl,hq1,v1,hp1,r1⟩:=h1;cases e with
  | non=>
   cases h2;show RcNeAt.list_none hp1 hu
  | bl b=>
   cases h2;show RcNeAt.list_bool _ hp1 hu
  | int b=>
   let⟨t2,rfl⟩:=h2;show RcNeAt.list_int _ _ hp1 hu
  | str b=>
   let⟨t2,rfl⟩:=h2;show RcNeAt.list_str _ _ hp1 hu
  | tup es=>
   let⟨p2,ys,jts,rfl,hq2,v2,hp2,r2⟩:=h2;show RcNeAt.list_tuple hp1 hp2 hu
  | lst es=>
   let⟨p2,ys,jts,rfl,hq2,v2,hp2,r2⟩:=h2;by_cases hz:ds.length=es.length
   .have q:=RcNeAt.lists hp1 hp2 (by simp only[z1c];rw[<-v1.length,<-v2.length,<-r1.length,<-r2.length];show hz) hu (pF r1 r2 v1 v2 ih);rw[z1c,<-v1.length,<-r1.length,<-tZ hz] at q;rw[dJ];show q
   .rw[dJ,tY hz];show RcNeAt.lists_lengths hp1 hp2 (by simp only[z1c];rw[<-v1.length,<-v2.length,<-r1.length,<-r2.length];simpa using hz) hu
theorem G4(I:Inv X pins σ H s):∀(n:Nat) (A:af5) (d:D),dep d<=n->A.units+n<ahH->∀(e:D) (v w:V) (u u':afL),Rep X.K O H d v->Rep X.K O' H e w->RelV v u->RelV w u'->EqAt A s u u' (dF d e):=by
 intro n
 induction n with
 | zero=>
  intro A d hd hu e v w u u' r1 r2 q1 q2;show QD I () (uZ I r1 q1) (uZ I r2 q2) λc hc=>?_;cases d with
  |tup ds=>rw[dep] at hd;omega
  |lst ds=>rw[dep] at hd;omega
  |_=>simp at hc
 | succ n ihn=>
  intro A d hd hu e v w u u' r1 r2 q1 q2;show QD I () (uZ I r1 q1) (uZ I r2 q2) λc hc=>?_;have hc':dep c<=n:=by
   cases d with
   |tup ds=>rw[dep] at hd;have:=pD (ds:=ds) hc;omega
   |lst ds=>rw[dep] at hd;have:=pD (ds:=ds) hc;omega
   |_=>simp at hc
  show ihn A.in1 c hc' (by show A.units+1+n<ahH;omega)
end
def gP(d e:D):R D:=if dep d<=40 then .ok (.bl (dF d e)) else .bad
def uc(d e:D):R D:=if dep d<=40 then .ok (.bl (!dF d e)) else .bad
section
variable{X:Cx}
theorem adw(hu:X.A.units+60<ahH):OpR X (agn .Eq) (λx y H Q=>∃O O' d e,Rep X.K O H d x/\Rep X.K O' H e y/\dep d<=40/\Q (.bl (dF d e)) H):=by
 intro pins s σ H x y v u Q I rx ry h;let⟨O,O',d,e,r1,r2,hd,q⟩:=h;show aad I (show X.A.units<ahH by omega) (uZ I r1 rx) (uZ I r2 ry) (λc hc=>?_) X.prog X.w X.xe _ ⟨.bl _,H,I,rfl,q⟩;have hc':dep c<=40:=by
  cases d with
  |tup ds=>rw[dep] at hd;have:=pD (ds:=ds) hc;omega
  |lst ds=>rw[dep] at hd;have:=pD (ds:=ds) hc;omega
  |_=>simp at hc
 show G4 I 40 X.A.in1 c hc' (by show X.A.units+1+40<ahH;omega)
theorem adx(hu:X.A.units+60<ahH):OpR X (agn .NotEq) (λx y H Q=>∃O O' d e,Rep X.K O H d x/\Rep X.K O' H e y/\dep d<=40/\Q (.bl (!dF d e)) H):=by
 intro pins s σ H x y v u Q I rx ry h;let⟨O,O',d,e,r1,r2,hd,q⟩:=h;show aae I (show X.A.units<ahH by omega) (uZ I r1 rx) (uZ I r2 ry) (λc hc=>?_) X.prog X.w X.xe _ ⟨.bl _,H,I,rfl,q⟩;have hc':dep c<=40:=by
  cases d with
  |tup ds=>rw[dep] at hd;have:=pD (ds:=ds) hc;omega
  |lst ds=>rw[dep] at hd;have:=pD (ds:=ds) hc;omega
  |_=>simp at hc
 show G4 I 40 X.A.in1 c hc' (by show X.A.units+1+40<ahH;omega)
theorem jC(hu:X.A.units+60<ahH):iY X (agn .Eq) gP:=by
 show⟨_,adw hu,λρ O σ H Q x y dx dy j rx ry h=>?_⟩;unfold gP at h;by_cases hd:dep dx<=40
 .rw[z9p hd] at h;show⟨O,O,dx,dy,rx,ry,hd,fin h (dO _)⟩
 .rw[z9n hd] at h;show h.elim
theorem u5(hu:X.A.units+60<ahH):iY X (agn .NotEq) uc:=by
 show⟨_,adx hu,λρ O σ H Q x y dx dy j rx ry h=>?_⟩;unfold uc at h;by_cases hd:dep dx<=40
 .rw[z9p hd] at h;show⟨O,O,dx,dy,rx,ry,hd,fin h (dO _)⟩
 .rw[z9n hd] at h;show h.elim
end
end Pu
namespace Pu
open PySem PySem.Spec L2
open PyProof.Rows hiding St
section
variable{prog:afZ}{w:af4}{A:af5}{E:afL->afN->Prop}{s:afN}
end
section
variable{X:Cx}{e:afV}{te:TE}{pos p2 p3 p4:Pos}{j:Nat}{f:ao->R D}
theorem Vals.rev{xs:List V}{us:List afL}(h:Vals xs us):Vals xs.reverse us.reverse:=by
 induction h with
 |nil=>show .nil
 | cons r _ ih=>
  simp only[List.reverse_cons];show ih.append (.cons r .nil)
def afH:D->R D
 | .tup ds=> .ok (.tup ds.reverse)
 |_=> .bad
def fD:D->D->R D
 | .int i,.int j=> .ok (.int (i+j))
 | .tup xs,.tup ys=>if 0<xs.length/\xs.length+ys.length<=1000000 then .ok (.tup (xs++ys)) else .bad
 |_,_=> .bad
theorem jN:iY X (ag4 .Add) fD:=by
 show⟨_,OpR.or op_add op_catT,λρ O σ H Q x y dx dy j0 rx ry h=>?_⟩;cases dx <;> cases dy <;> first
  |show h.elim
  |skip
 .rename_i i j;show .inl ⟨i,j,rx.int,ry.int,fin h (cg _)⟩
 .rename_i xs ys;have h:good X (rD X) O (if 0<xs.length/\xs.length+ys.length<=1000000 then .ok (.tup (xs++ys)) else .bad) σ H Q:=h;by_cases hc:0<xs.length/\xs.length+ys.length<=1000000
  .rw[z9p hc] at h;let⟨a,us,rfl,ha,r1⟩:=rx.tup;let⟨b,ws,rfl,hb,r2⟩:=ry.tup;show .inr ⟨a,b,us,ws,rfl,rfl,ha,hb,λz=>?_,?_,λz=>?_,λz l hl=>?_⟩
   .have h1:=r1.length;have h2:=hc.1;rw[z] at h1;rw[h1] at h2;show agS _ h2
   .rw[<-r1.length,<-r2.length];show z0b hc.2 eO
   .subst z;have:ys=[]:=agE r2.length;subst this;rw[ags] at h;show fin h (gA ha r1)
   .show h _ _ (Same.upd hl) (Rep.sW hl (r1.append r2))
  .rw[z9n hc] at h;show h.elim
end
section
variable{K:afM}{O:afK->Prop}{H:Hp}
end
section
variable{X:Cx}{e e1 e2:afV}{f g:ao->R D}{pos:Pos}
end
end Pu
namespace Pu
open PySem PySem.W PyProof.Rows
variable{p:Array Nat}
def Sat{α:Type}(n:Nat)(lt:Nat->Nat->Bool):KasT α->(α->Prop)->Prop
 | .ret a,Q=>Q a
 | .ask i j k,Q=>i<n/\j<n/\Sat n lt (k (lt i j)) Q
section
variable{n:Nat}{lt:Nat->Nat->Bool}
theorem Sat.bind{α β:Type}{f:α->KasT β}{Q:β->Prop}:∀{t:KasT α},Sat n lt t (λa=>Sat n lt (f a) Q)->Sat n lt (t.bind f) Q
 | .ret _,h=>h
 | .ask i j k,h=>⟨h.1,h.2.1,Sat.bind h.2.2⟩
theorem Sat.mono{α:Type}{Q Q':α->Prop}(w:∀a,Q a->Q' a):∀{t:KasT α},Sat n lt t Q->Sat n lt t Q'
 | .ret _,h=>w _ h
 | .ask _ _ _,h=>⟨h.1,h.2.1,Sat.mono w h.2.2⟩
theorem Sat.wp{α:Type}{cmp:Nat->Nat->(Bool->afN->Prop)->afN->Prop}{s:afN}{P:α->Prop}{Q:α->afN->Prop}(hc:∀i j C,i<n->j<n->C (lt i j) s->cmp i j C s)(hQ:∀a,P a->Q a s):
  ∀{t:KasT α},Sat n lt t P->t.kasWp cmp Q s
 | .ret _,h=>hQ _ h
 | .ask i j k,h=>hc i j _ h.1 h.2.1 (Sat.wp hc hQ h.2.2)
structure Ord(n:Nat)(lt:Nat->Nat->Bool):Prop where
 tr:∀a b c,a<n->b<n->c<n->lt a b=true->lt b c=true->lt a c=true
 tot:∀a b,a<n->b<n->a≠b->lt a b=false->lt b a=true
structure Pm(n:Nat)(p:Array Nat):Prop where
 size:p.size=n
 perm:p.toList.Perm (afR n)
theorem Pm.bd(h:Pm n p){i:Nat}(hi:i<n):p.getD i 0<n:=by
 have hs:i<p.size:=by rw[h.size];show hi
 have:p.getD i 0=p[i]:=by simp[ak2,hs]
 rw[this];have hm:p[i]∈p.toList:=()
 show z2e (h.perm.mem_iff.mp hm)
theorem Pm.ne(h:Pm n p){i j:Nat}(hi:i<n)(hj:j<n)(hij:i≠j):p.getD i 0≠p.getD j 0:=by
 have hs:i<p.size:=by rw[h.size];show hi
 have hs2:j<p.size:=by rw[h.size];show hj
 have e1:p.getD i 0=p.toList[i]'(by simpa using hs):=by simp[ak2,hs]
 have e2:p.getD j 0=p.toList[j]'(by simpa using hs2):=by simp[ak2,hs2]
 rw[e1,e2];have nd:p.toList.Nodup:=h.perm.nodup_iff.mpr List.nodup_range;intro z;show hij ((aks nd).mp z)
theorem Pm.of{q:Array Nat}(h:Pm n p)(w:q.Perm p):Pm n q:=
 ⟨by rw[<-h.size];show w.size_eq,(Array.perm_iff_toList_perm.mp w).trans h.perm⟩
def S(lt:Nat->Nat->Bool)(p:Array Nat)(k:Nat):Prop:=∀i j,i<j->j<k->lt (p.getD i 0) (p.getD j 0)=true
def De(lt:Nat->Nat->Bool)(p:Array Nat)(k:Nat):Prop:=∀i j,i<j->j<k->lt (p.getD j 0) (p.getD i 0)=true
theorem S.one:S lt p 1:=λi j h1 h2=>()
theorem S.ext(o:Ord n lt)(h:Pm n p){a:Nat}(ha:1<=a)(hn:a<n)(s:S lt p a)(e:lt (p.getD (a - 1) 0) (p.getD a 0)=true):S lt p (a+1):=λi j h1 h2=>by
 by_cases hj:j<a
 .show s i j h1 hj
 .have ej:j=a:=()
  subst ej;by_cases hi:i=j - 1
  .rw[hi];show e
  .show o.tr _ _ _ (h.bd ()) (h.bd ()) (h.bd hn) (s i (j - 1) () ()) e
theorem De.ext(o:Ord n lt)(h:Pm n p){a:Nat}(ha:1<=a)(hn:a<n)(s:De lt p a)(e:lt (p.getD a 0) (p.getD (a - 1) 0)=true):De lt p (a+1):=λi j h1 h2=>by
 by_cases hj:j<a
 .show s i j h1 hj
 .have ej:j=a:=()
  subst ej;by_cases hi:i=j - 1
  .rw[hi];show e
  .show o.tr _ _ _ (h.bd hn) (h.bd ()) (h.bd ()) e (s i (j - 1) () ())
theorem Ks(o:Ord n lt){p:Array Nat}(h:Pm n p):∀(f a:Nat),1<=a->a+f<=n->S lt p a->Sat n lt (kas_asc p f a) (λm=>a<=m/\m<=a+f/\S lt p m/\(m<a+f->lt (p.getD m 0) (p.getD (m - 1) 0)=true))
 |0,a,h1,h2,s=>⟨z0g _,z0g _,s,λz=>absurd z ()⟩
 | f +1,a,h1,h2,s=>by
  show⟨h.bd (),h.bd (),?_⟩;cases e:lt (p.getD a 0) (p.getD (a - 1) 0) with
  |true=>show⟨z0g _,(),s,λ_=>e⟩
  | false=>
   have e':=o.tot _ _ (h.bd ()) (h.bd ()) (h.ne (i:=a) (j:=a - 1) () () ()) e;show Sat n lt (kas_asc p f (a+1)) _;show Sat.mono (λm ⟨m1,m2,m3,m4⟩=>⟨(),(),m3,λz=>m4 ()⟩) (Ks o h f (a+1) () () (S.ext o h h1 () s e'))
theorem QF(o:Ord n lt){p:Array Nat}(h:Pm n p):∀(f a:Nat),1<=a->a+f<=n->De lt p a->Sat n lt (kas_desc f p a 0) (λr=>r.1=p/\r.2.2=0/\a<=r.2.1/\r.2.1<=a+f/\De lt p r.2.1)
 |0,a,h1,h2,s=>⟨rfl,rfl,z0g _,z0g _,s⟩
 | f +1,a,h1,h2,s=>by
  show⟨h.bd (),h.bd (),?_⟩;cases e:lt (p.getD a 0) (p.getD (a - 1) 0) with
  | true=>
   show Sat n lt (kas_desc f p (a+1) 0) _;show Sat.mono (λr ⟨m1,m2,m3,m4,m5⟩=>⟨m1,m2,(),(),m5⟩) (QF o h f (a+1) () () (De.ext o h h1 () s e))
  | false=>
   have e':=o.tot _ _ (h.bd ()) (h.bd ()) (h.ne (i:=a) (j:=a - 1) () () ()) e;show⟨h.bd (),h.bd (),?_⟩;rw[e'];show⟨rfl,rfl,z0g _,aii _ _,s⟩
theorem Er{q:Array Nat}{i j:Nat}(h:p[i]?=q[j]?):p.getD i 0=q.getD j 0:=by
 rw[aj0,aj0,h]
theorem X3(o:Ord n lt)(h:Pm n p){m:Nat}(h1:1<=m)(h2:m<=n)(s:De lt p m):Sat n lt (kas_tail3 m n p) (λr=>Pm n r.2/\1<=r.1/\r.1<=n/\S lt r.2 r.1):=by
 have hq:Pm n (kas_rev p 0 m):=h.of (mirror_perm _ _ _ _);have hs:S lt (kas_rev p 0 m) m:=λi j hij hj=>by
  have g:∀k,k<m->(kas_rev p 0 m).getD k 0=p.getD (m - 1 - k) 0:=λk hk=>by
   apply Er;show (mirror p 0 m ((m - 0) / 2))[k]?=_;rw[getElem?_mirror_all (by rw[h.size];show h2),z9p ⟨(),hk⟩];congr 1;omega
  rw[g i (),g j hj];show s (m - 1 - j) (m - 1 - i) () ()
 show Sat.bind (Sat.mono (λk ⟨k1,k2,k3,_⟩=>⟨hq,(),(),k3⟩) (Ks o hq (n - m) m h1 () hs))
theorem X4(o:Ord n lt)(h:Pm n p)(hn:1<=n):Sat n lt (kas_count n p) (λr=>Pm n r.2/\1<=r.1/\r.1<=n/\S lt r.2 r.1):=by
 show Sat.bind (Sat.mono (λm ⟨m1,m2,m3,m4⟩=>?_) (Ks o h (n - 1) 1 (z0g _) () S.one));by_cases e:m=n
 .rw[z9p (by simp[e])];show⟨h,m1,(),m3⟩
 .rw[z9n (by simp[e])];by_cases hm:m > 1
  .rw[z9p hm];show⟨h.bd (),h.bd (),?_⟩;rw[m3 0 (m - 1) () ()];show⟨h,m1,(),m3⟩
  .rw[z9n hm];have em:m=1:=()
   subst em;have e0:=m4 ();have d2:De lt p 2:=De.ext o h (a:=1) (z0g _) () (λi j a1 a2=>()) e0;show Sat.bind (Sat.mono (λr ⟨r1,r2,r3,r4,r5⟩=>?_) (QF o h (n - (1+1)) (1+1) () () d2));rw[z9n (),r1];show X3 o h () () r5
theorem Ay(o:Ord n lt){p:Array Nat}(h:Pm n p){k:Nat}(hk:k<n)(s:S lt p k):∀(f l r:Nat),l<=r->r<=k->r - l<=f->(∀i,i<l->lt (p.getD i 0) (p.getD k 0)=true)->(∀i,r<=i->i<k->lt (p.getD k 0) (p.getD i 0)=true)->
  Sat n lt (kas_place p k f l r) (λm=>m<=k/\(∀i,i<m->lt (p.getD i 0) (p.getD k 0)=true)/\∀i,m<=i->i<k->lt (p.getD k 0) (p.getD i 0)=true)
 |0,l,r,h1,h2,h3,hl,hr=>⟨(),hl,λi a b=>hr i () b⟩
 | f+1,l,r,h1,h2,h3,hl,hr=>by
  unfold kas_place;by_cases hlr:l>=r
  .rw[z9p hlr];show⟨(),hl,λi a b=>hr i () b⟩
  .rw[z9n hlr];have hm:(l+r) / 2<k:=()
   show⟨h.bd hk,h.bd (),?_⟩;cases e:lt (p.getD k 0) (p.getD ((l+r) / 2) 0) with
   | true=>
    show Ay o h hk s f l ((l+r) / 2) () () () hl λi a b=>?_;by_cases hi:i=(l+r) / 2
    .rw[hi];show e
    .show o.tr _ _ _ (h.bd hk) (h.bd ()) (h.bd ()) e (s _ _ () b)
   | false=>
    have e':=o.tot _ _ (h.bd hk) (h.bd ()) (h.ne (i:=k) (j:=(l+r) / 2) hk () ()) e;show Ay o h hk s f ((l+r) / 2+1) r () h2 () (λi a=>?_) hr;by_cases hi:i=(l+r) / 2
    .rw[hi];show e'
    .show o.tr _ _ _ (h.bd ()) (h.bd ()) (h.bd hk) (s i ((l+r) / 2) () hm) e'
theorem U7(o:Ord n lt):∀(f:Nat) (p:Array Nat) (k:Nat),Pm n p->S lt p k->k+f<=n->Sat n lt (kas_bin f p k) (λq=>Pm n q/\S lt q (k+f))
 |0,p,k,h,s,_=>⟨h,s⟩
 | f+1, p, k,h,s,hk=>by
  show Sat.bind (Sat.mono (λl ⟨l1,l2,l3⟩=>?_) (Ay o h () s k 0 k (ahO _) (z0g _) () (λi a=>()) λi a b=>()));have hq:Pm n (bubble p k (k - l)):=h.of (bubble_perm _ _ _);have g:∀i,(bubble p k (k - l)).getD i 0=if i=l then p.getD k 0 else if l<i/\i<=k then p.getD (i - 1) 0 else p.getD i 0:=λi=>by
   have e:=getElem?_bubble (xs:=p) (src:=k) (by rw[h.size];omega) (k - l) () i;rw[show k - (k - l)=l by omega] at e;by_cases c1:i=l
   .rw[z9p c1] at e |-;show Er e
   .rw[z9n c1] at e |-;by_cases c2:l<i/\i<=k
    .rw[z9p c2] at e |-;show Er e
    .rw[z9n c2] at e |-;show Er e
  have hs : S lt (bubble p k (k - l)) (k+1):=λi j hij hj=>by
   rw[g i,g j];by_cases c1:i=l
   .rw[z9p c1,z9n (),z9p ⟨(),()⟩];show l3 (j - 1) () ()
   .rw[z9n c1];by_cases c2:l<i/\i<=k
    .rw[z9p c2,z9n (),z9p ⟨(),()⟩];show s (i - 1) (j - 1) () ()
    .rw[z9n c2];have hil:i<l:=()
     by_cases c3:j=l
     .rw[z9p c3];show l2 i hil
     .rw[z9n c3];by_cases c4:l<j/\j<=k
      .rw[z9p c4];by_cases c5:i=j - 1
       .omega
       .show s i (j - 1) () ()
      .rw[z9n c4];show s i j hij ()
  have:=U7 o f (bubble p k (k - l)) (k+1) hq hs ();show Sat.mono (λq ⟨q1,q2⟩=>⟨q1,by rw[show k+(f+1)=k+1+f by omega];show q2⟩) this
theorem aaf(o:Ord n lt)(hn:1<=n):Sat n lt (kas_sort n) (λq=>Pm n q/\S lt q n):=by
 have h0:Pm n (ahT (afR n)):=⟨(),()⟩;show Sat.bind (Sat.mono (λr ⟨r1,r2,r3,r4⟩=>?_) (X4 o h0 hn));by_cases hr:r.1<n
 .rw[z9p hr];have e:max r.1 1=r.1:=()
  rw[e];show Sat.mono (λq ⟨q1,q2⟩=>⟨q1,?_⟩) (U7 o (n - r.1) r.2 r.1 r1 r4 ());rw[show r.1+(n - r.1)=n by omega] at q2;show q2
 .rw[z9n hr];have e:r.1=n:=()
  rw[e] at r4;show⟨r1,r4⟩
end
end Pu
namespace Pu
open PySem PySem.Spec PySem.W L2
open PyProof.Rows hiding St
variable{vs:List afL}
theorem Il{h:af2}{a b:afK}{out:Array afL}{o:Obj}(hb:b≠a)(e:h.get? b=some o):(ajF h a vs out).get? b=some o:=by
 unfold ajF;rw[aiQ _ _ _ _ hb];show z1a _ (z1a _ (by rw[aiQ _ _ _ _ hb];show e))
theorem sortedHeap_at{h:af2}{a:afK}{out:Array afL}{n:Nat}(e:h.get? a=some (aiq "list" vs.toArray n)):∃c,(ajF h a vs out).get? a=some (aiq "list" out c):=by
 unfold ajF;have h1:=get?_update_seq e (λ_=>(#[]:Array afL));show⟨_,get?_update_seq (z1a _ (z1a _ h1)) λ_=>out⟩
theorem X5(vs:List afL)(h:vs.length<2):(vs.toArray.zip vs.toArray).map (·.2)=ahT ((ahT (afR vs.length)).toList.map λi=>vs.getD i agi):=by
 match vs,h with
 |[],_=>simp
 |[v],_=>simp[akQ]
 |_::_::_,h=>show absurd h ()
section
variable{prog:afZ}{w:af4}{A:af5}{E:afL->afN->Prop}{s:afN}
theorem abK{a:afK}{n:Nat}{P:PySem.Fin->afN->Prop}{lt:Nat->Nat->Bool}{kk:SortKind}(ho:s.heap.get? a=some (aiq "list" vs.toArray n))(h64:vs.length<64)(od:Ord vs.length lt)
  (kind:2<=vs.length->∀h':af2,(∀b ob,b≠a->s.heap.get? b=some ob->h'.get? b=some ob)->∀Q:SortKind->afN->Prop,Q kk {s with heap:=h'}->afS (model prog w) A (keyKind' vs.toArray) Q (λ_ _=>False) {s with heap:=h'})
  (ask:∀h':af2,(∀b ob,b≠a->s.heap.get? b=some ob->h'.get? b=some ob)->∀i j C,i<vs.length->j<vs.length->C (lt i j) {s with heap:=h'}->kas_ask prog w A kk vs i j C {s with heap:=h'})
  (h:∀q:Array Nat,Pm vs.length q->S lt q vs.length->P (.done (.ret .none)) {s with heap:=ajF s.heap a vs (ahT (q.toList.map λi=>vs.getD i agi))}):
  afS (model prog w) A (ahg.«list.sort» ⟨[.ref a],[]⟩) P E s:=by
 rw[list_sort_plain];have ha:a<s.heap.objs.size:=z2c ho;show aft (listItems_at ho rfl ?_);show aft (listUpdate_at ho rfl ?_ (by rw[z1c,ahC];omega) (ahO _));obtain⟨e1,ho1⟩:∃e1,(s.heap.update a (ahx λ_=>(#[]:Array afL))).get? a=some (aiq "list" #[] e1):=⟨_,get?_update_seq ho (λ_=> #[])⟩;show aft (seqEpoch_at ho1 rfl ?_);show aft (ajQ ?_ (by show vs.length<=_;rw[ahC];omega));show aft (wpAny_newList ?_ (ahO _));show aho ?_
 generalize hh6:((s.heap.update a (ahx λ_=>(#[]:Array afL))).push (aiq "tuple" vs.toArray 0)).push (aiq "list" #[] 0)=h6
 have ho6:h6.get? a=some (aiq "list" #[] e1):=by
  rw[<-hh6];show z1a _ (z1a _ ho1)
 have keep:∀b ob,b≠a->s.heap.get? b=some ob->h6.get? b=some ob:=λb ob hb e=>by
  rw[<-hh6];show z1a _ (z1a _ (by rw[aiQ _ _ _ _ hb];show e))
 have hsh:∀out:Array afL,ajF s.heap a vs out=h6.update a (ahx λ_=>out):=λout=>by rw[<-hh6];rfl
 show afS (model prog w) A _ P E {s with heap:=h6}
 dsimp only
 have hsz:vs.toArray.size=vs.length:=()
 by_cases h2:vs.toArray.size<2
 .rw[z9p h2,z9p h2];show aft (afQ ?_);rw[StateT.run_pure];show aft (afQ ?_)
  dsimp only
  show aft (seqEpoch_at ho6 rfl ?_);show aft (listUpdate_at ho6 rfl ?_ (ahO _) (by show (((pairsOf vs)).map (·.2)).size<=_;rw[Array.size_map,pairsOf_size,ahC];omega));simp only[bne_self_eq_false,agO,if_false];have q:=h (ahT (afR vs.length)) ⟨(),()⟩ (λi j h1 h3=>());rw[hsh] at q;have eo:(arrOf (SortSt.mk' general' (vs.toArray.zip vs.toArray) #[] 7 none)).map (·.2)=ahT ((ahT (afR vs.length)).toList.map λi=>vs.getD i agi):=by
   show (vs.toArray.zip vs.toArray).map (·.2)=_;show X5 vs (by rw[<-hsz];show h2)
  show afQ ?_;show P _ {s with heap:=h6.update a (ahx λ_=>(arrOf (SortSt.mk' general' (vs.toArray.zip vs.toArray) #[] 7 none)).map (·.2))};rw[eo];show q
 .rw[z9n h2,z9n h2];have h2':2<=vs.length:=by rw[hsz] at h2;omega
  show aft (agL (kind h2' h6 keep (λκ s'=>κ=kk/\s'={s with heap:=h6}) ⟨rfl,rfl⟩) (λκ s0 hk=>?_) λ_ _ x=>x.elim);let⟨rfl,rfl⟩:=hk;have wp:(kas_sort vs.length).kasWp (kas_ask prog w A κ vs) (λp s''=>(Pm vs.length p/\S lt p vs.length)/\s''={s with heap:=h6}) {s with heap:=h6}:=
   Sat.wp (ask h6 keep) (λp hp=>⟨hp,rfl⟩) (aaf od ())
  show aft (agL (kat_run (Q:=λst' s'=>∃p:Array Nat,p.size=vs.length/\arrOf st'=p.map (kas_item (vs.toArray.zip vs.toArray))/\failedOf st'=none/\(Pm vs.length p/\S lt p vs.length)/\s'={s with heap:=h6})
   rfl h2' h64 (λp' st' s' a1 a2 a3 a4=>⟨p',a1,a2,a3,a4⟩) wp) ?_ λ_ _ e=>e)
  rintro⟨PUnit.unit,st'⟩ s' ⟨p,hp,har,hf,⟨hpm,hps⟩,rfl⟩
  dsimp only
  have hout:=kat_snds rfl har;rw[hout];show aft (seqEpoch_at ho6 rfl ?_);show aft (listUpdate_at ho6 rfl ?_ (ahO _) (by show (ahT (p.toList.map λi=>vs.getD i agi)).size<=_;rw[z1c,z1g,ahM,hp,ahC];omega));rw[hf];simp only[bne_self_eq_false,agO,if_false];have q:=h p hpm hps;rw[hsh] at q;show afQ q
end
section
variable{prog:afZ}{w:af4}{A:af5}{E:afL->afN->Prop}{s:afN}
end
section
variable{X:Cx}{pins:List (afK×Obj)}{σ:St}{H:Hp}{s:afN}
end
theorem U8:∀as:List afK,Vals (as.map V.ref) (as.map af0)
 |[]=> .nil
 |a::as=> .cons rfl (U8 as)
section
variable{X:Cx}
end
section
variable{X:Cx}
end
end Pu
namespace Pu
open PySem PySem.Spec L2
open PyProof.Rows hiding St
section
variable{X:Cx}{a b:afV}{es:List afV}{f g:ao->R D}{fa:ao->R (List D)}{pos:Pos}
def Az(i k:Nat)(f g:ao->R D):ao->So:=λρ=>kh (f ρ) ρ λd=>kh (g ρ) ρ λe=> .nx ((ρ.set i (some (.val d))).set k (some (.val e)))
theorem Im(i k:Nat){x y:Str}{px py pt:Pos}{kt k2 pt2}(hc:X.calm=true)(hN:X.N.Nodup)(ha:DE X a f)(hb:DE X b g)(hi:X.N[i]?=some x:=by rfl)(hk:X.N[k]?=some y:=by rfl)(hik:i≠k:=by decide)
  (hx:X.env.scope.names.lookup x=some .local:=by rfl)(hy:X.env.scope.names.lookup y=some .local:=by rfl)
  (h1:afP [a,b] X.env=(false,eval a X.env)::afP [b] X.env:=by rfl)(h2:afP [b] X.env=(false,eval b X.env)::afP [] X.env:=by rfl)
  (hw:ah0 [.Tuple [.Name x px,.Name y py] kt pt] (.Tuple [a,b] k2 pt2) X.env=pure (some [x,y]):=by rfl)
  (hs:ahZ [.Tuple [.Name x px,.Name y py] kt pt] (.Tuple [a,b] k2 pt2) pos.line X.env=pure false:=by rfl):
  DS X (.Assign [.Tuple [.Name x px,.Name y py] kt pt] (.Tuple [a,b] k2 pt2) pos) (Az i k f g):=by
 show PS.imp (ps_par hc hN hi hk hik hx hy (pa_cons ha (pa_cons hb pa_nil h2) h1) hw hs) λσ H E h=>?_;let⟨H0,O0,O,ρ,j,h⟩:=h;show⟨ρ,O,j.inn,?_⟩;unfold Az kh at h;cases e1:f ρ with
 |bad=>rw[e1] at h;show h
 |err c=>rw[e1] at h;show h σ H O j
 | ok d=>
  rw[e1] at h;intro v H1 s1 rv;have j1:=j.grow s1;show⟨ρ,O,j1.inn,?_⟩;cases e2:g ρ with
  |bad=>simp only[e2] at h;show h
  |err c=>simp only[e2] at h;show HY.same (h σ H O j) s1
  | ok e=>
   simp only[e2] at h;intro w H2 s2 rw2;show⟨v,w,rfl,?_⟩;show h _ H2 O (((j1.grow s2).set (z1b hi).1 (rv.same s2)).set (z1b hk).1 rw2) ((Same.cI s1).trans (Same.cI s2))
def QG(i k:Nat)(f:ao->R D)(fa:ao->R (List D)):ao->So:=λρ=>kh (f ρ) ρ λd=>match fa ρ with
 | .ok ds=>if ds.length<=1000000 then .nx ((ρ.set i (some (.val d))).set k (some (.lst ds))) else .bad
 |_=> .bad
theorem abL(i k:Nat){x y:Str}{px py pt p3:Pos}{kt k2 pt2}(hc:X.calm=true)(hN:X.N.Nodup)(ha:DE X a f)(hb:DA X es fa)(hi:X.N[i]?=some x:=by rfl)(hk:X.N[k]?=some y:=by rfl)
  (hx:Loc X.env.scope x:=by first |show agp rfl |show aga rfl)(hy:Loc X.env.scope y:=by first |show agp rfl |show aga rfl)
  (hfx:X.fn x=true\/X.env.scope.names.lookup x=some .local:=by first |show .inl rfl |show .inr rfl)(Aw:X.fn y=true\/X.env.scope.names.lookup y=some .local:=by first |show .inl rfl |show .inr rfl)
  (h1:afP [a,.List es p3] X.env=(false,eval a X.env)::afP [.List es p3] X.env:=by rfl)(h2:afP [.List es p3] X.env=(false,eval (.List es p3) X.env)::afP [] X.env:=by rfl)
  (hs:ahZ [.Tuple [.Name x px,.Name y py] kt pt] (.Tuple [a,.List es p3] k2 pt2) pos.line X.env=pure false:=by rfl)(hw:ah0 [.Tuple [.Name x px,.Name y py] kt pt] (.Tuple [a,.List es p3] k2 pt2) X.env=pure none:=by rfl):
  DS X (.Assign [.Tuple [.Name x px,.Name y py] kt pt] (.Tuple [a,.List es p3] k2 pt2) pos) (QG i k f fa):=by
 show PS.imp (ps_asg (pe_tup (pa_cons ha (pa_cons (Eo hb) pa_nil h2) h1)) (pg_tup hc (pgs_cons (pg_name hN hi hx hfx) (pgs_cons (pg_name hN hk hy Aw) pgs_nil))) hs hw) λσ H E h=>?_;let⟨H0,O0,O,ρ,j,h⟩:=h;show⟨ρ,O,j.inn,?_⟩;unfold QG kh at h;cases e1:f ρ with
 |bad=>rw[e1] at h;show h
 |err c=>rw[e1] at h;show h σ H O j
 | ok d=>
  rw[e1] at h;intro v H1 s1 rv;have j1:=j.grow s1;show⟨ρ,O,j1.inn,?_⟩;cases e2:fa ρ with
  |bad=>simp only[e2] at h;show h
  |err c=>simp only[e2] at h;show h.elim
  | ok ds=>
   simp only[e2] at h;by_cases hl:ds.length<=1000000
   .simp only[z9p hl] at h;intro vs H2 s2 rvs;show⟨by rw[<-rvs.length];show z0b hl eO,λp hp hpk=>?_⟩;show⟨by show 2<=sizeLine;decide,λt ht=>?_⟩;show⟨t,[v,.ref p],rfl,SqT.of upd_same,rfl,v,[.ref p],rfl,.ref p,[],rfl,rfl,?_⟩;have j2:=(j1.grow s2).set (z1b hi).1 (rv.same s2);let⟨j3,r3⟩:=j2.own (z1b hk).1 (o:= .lst vs) (en:= .lst ds) hp hpk rfl ⟨p,vs,rfl,.inr rfl,upd_same,rvs.go ⟨(Same.cI (K:=X.K) (O:=O) (Same.upd hp)).ext,λa z=>z.elim .inl λe=> .inr (by rw[e];show⟨hp,hpk⟩),(Same.cI (K:=X.K) (O:=O) (Same.upd hp)).dom⟩⟩;have s4:Same (upd H2 p (.lst vs)) (upd (upd H2 p (.lst vs)) t (.tup [v,.ref p])):=Same.upd ht;show h _ _ _ (j3.grow s4) ((((Same.cI s1).trans (Same.cI s2)).trans r3).trans (Same.cI s4))
   .simp only[z9n hl] at h;show h.elim
end
def Es(s:String):Bool:=s == "int" || s == "bool"
def yC(s:String):Bool:=s == "bool"
def jw(s:String):Bool:=s == "tuple"
def QH(s:String):Bool:=s == "list"
def fV(P:afZ)(w:af4)(K:afM)(mg:Str->Option afL)(base:af2)(k:Nat)(x:Str)(n:Nat)(F:List D->R D):Prop:=
 ∃f fd ps,FnOk P w K mg base CX0 k f fd ps (QB K n F)/\mg x=some (.ref f)/\agg K (.ref f)=true/\Binds K fd ps []
theorem bA{X:Cx}{k n m:Nat}{F:List D->R D}{x:Str}{p pos:Pos}{e:afV}{es:List afV}{fa:ao->R (List D)}(G:fV X.prog X.w X.K X.mg X.base k x n F)(hr:Room m X.A)(hkm:k<=m)(ha:DA X (e::es) fa)(hg:Gl X x:=by rfl)
  (hdb:(x ==("__debug__" :Str))=false:=by decide)(he:afP (e::es) X.env=(false,eval e X.env)::afP es X.env:=by rfl)(hpl:(ago pos (afP es X.env)).any (·.1)=false:=by rfl):
  DE X (.Call (.Name x p) (e::es) [] pos) (aD (aO F n) fa):=by
 let⟨f,fd,ps,ok,hm,hk,hb⟩:=G;show abJ ok (hr.mono hkm) hg hm hk hb ha hdb he hpl
theorem dg{A:af5}{k:Nat}(hr:Room k A):A.units+60<ahH:=by have:=hr.un;omega
theorem ady{P:afZ}{w:af4}{K:afM}{mg:Str->Option afL}{base:af2}{x qual:Str}{st:af7}{f:afK}{fd:agx}{N ps:List Str}{k n m:Nat}{g:ao->So}(Fn:Fun K x qual st f fd)(hmg:mg x=some (.ref f))(hb:Binds K fd ps [])(S:FnScope N ps (defScope st))(hn:ps.length=n)(hm:N.length=n+m)
  (hbody:∀(cdv:afL) (A:af5) (outer:List agA) (s:afN) (H:Hp) (E:XK),Room k (A.deeper (ag9 qual (defScope st) s.heap.objs.size f cdv))->iG (cxOf CX0 P w K mg base N qual (defScope st) f cdv A outer s H E).nox (defBody st) g):
  fV P w K mg base (k+1) x n (cj m g):=⟨f,fd,ps,fnD Fn S hn hm hbody λds d _ e=>e,hmg,Fn.kp,hb⟩
theorem sp_law{K:afM}{F:List D->R D}{H:Hp}{a:afK}{ns:List Int}{E:XK}(hS:SqL K H a (ns.map V.int))(hF:F [.lst (ns.map D.int)]= .ok (.bl true)):QB K 1 F [.ref a] H (λv _=>v= .bl true) E:=by
 show⟨λ_=>False,[.lst (ns.map D.int)],.cons (lD hS (λz=>z) ?_) .nil,rfl,λa z=>z.elim,?_⟩
 .have:∀l:List Int,aM K (λ_=>False) H (l.map D.int) (l.map V.int):=by
   intro l
   induction l with
   |nil=>show .nil
   |cons i l ih=>show .cons (cg i) ih
  show this ns
 .rw[hF];show λv H' _ r=>r.bl
end Pu
namespace Pu
open PySem PySem.Spec L2
variable{d:D}{gt:D->ao->R ao}{i j:Int}{xs:List D}{ρ:ao}{α:Type}
theorem U9{α:Type}{k:D->R (Option D)}{c h:α->D}:∀{l:List α},(∀a∈l,k (c a)= .ok (some (h a)))->j5 k (l.map c)= .ok (l.map h)
 |[],_=>rfl
 | a::l,q=>by
  rw[z1h,j5,q a (),Ih,R.aR,U9 λb hb=>q b (by simp[hb])];rfl
theorem Io{α:Type}{c:α->Bool}:∀{l:List α},boolsOf (l.map λa=> .bl (c a))=some (l.map c)
 |[]=>rfl
 | a::l=>by
  rw[z1h,boolsOf,Io];rfl
theorem M8{α:Type}{c:α->Int}:∀{l:List α},intsOf (l.map λa=> .int (c a))=some (l.map c)
 |[]=>rfl
 | a::l=>by
  rw[z1h,intsOf,M8];rfl
theorem wV{α:Type}{c:α->D}{n:Nat}:∀{l:List α},(∀a∈l,dep (c a)<=n)->deps (l.map c)<=n
 |[],_=>by rw[aif,deps];omega
 | a::l,h=>by
  rw[z1h,deps];have:=h a ();have:=wV (l:=l) λb hb=>h b (by simp[hb]);omega
theorem mV{e:D}(h:d=e)(hd:dep d<=40):uc d e= .ok (.bl false):=by
 subst h;rw[uc,z9p hd,GZ];rfl
theorem yD{e:D}(h:d=e)(hd:dep d<=40):gP d e= .ok (.bl true):=by
 subst h;rw[gP,z9p hd,GZ]
theorem all_true{l:List α}:(l.map λ_=>true).all id=true:=by
 induction l with
 |nil=>rfl
 |cons a l ih=>rw[z1h,ah2,ih];rfl
theorem atI_nat{xs:List α}{j:Nat}(h:j<xs.length):atI xs (j:Int)=some xs[j]:=by
 unfold atI ixN;rw[z9p (),z9p (),ahs,ajl,ahe h]
theorem Ku{xs:List α}(h0:0<=i)(h1:i<xs.length):∃x∈xs,atI xs i=some x:=by
 let⟨j,rfl⟩:=ag5 h0;have hj:j<xs.length:=()
 show⟨xs[j],List.getElem_mem hj,atI_nat hj⟩
theorem cJ{n:Nat}{caps:List Nat}{fi:ao->R (List D)}{ft:ao->R Bool}{fe:ao->R D}{c h:α->D}{l:List α}(e1:fi ρ= .ok (l.map c))(hl:l.length<=1000000)
  (e2:∀a∈l,pB gt ft fe (Ek n caps ρ) (c a)= .ok (some (h a))):bY n caps fi gt ft fe ρ= .ok (.lst (l.map h)):=by
 rw[bY,e1,R.aR,U9 e2,R.aR,cap,z9p (by rw[z1g];show hl)]
def look:List (Int×Int)->Int->Int
 |[],_=>0
 |(k,v)::r,c=>if k=c then v else look r c
abbrev keys(ps:List (Int×Int)):List Int:=ps.map (·.1)
section
variable{ρ ρ':ao}{f g:ao->R D}{fa:ao->R (List D)}{p q:ao->R Bool}{x y d:D}{xs ds:List D}{r:R D}{k:D->D->R D}{c:List D->R D}{n:Nat}{F:List D->R D}{o:So}{s t:ao->So}{gt:D->ao->R ao}{b:Bool}
theorem aZ(e:fa ρ= .ok ds)(h:c ds=r):aD c fa ρ=r:=by rw[aD,e];show h
theorem aY(e:fa ρ= .ok ds)(h:F ds= .ok d)(hl:ds.length=n:=by rfl):aD (aO F n) fa ρ= .ok d:=by rw[aD,e,R.aR,aO,z9p hl,h];rfl
theorem aB(e1:f ρ= .ok x)(e2:fa ρ= .ok xs):ak f fa ρ= .ok (x::xs):=by rw[ak,e1,R.aR,e2];rfl
theorem au(e:f ρ= .ok x):ak f (λ_=> .ok []) ρ= .ok [x]:=aB e rfl
theorem aA(e1:f ρ= .ok x)(e2:g ρ= .ok y)(h:k x y=r):bin f g k ρ=r:=by rw[bin,e1,R.aR,e2];show h
theorem Ba(e1:f ρ= .ok (.bl true))(e2:g ρ=r):qR f g ρ=r:=by rw[qR,e1];show e2
theorem QJ{h:ao->R D}{l:D->D->R D}{z:D}(e1:f ρ= .ok x)(e2:g ρ= .ok y)(e3:k x y= .ok (.bl true))(e4:h ρ= .ok z)(e5:l y z=r):Ie f g h k l ρ=r:=by
 rw[Ie,e1,R.aR,e2,R.aR,e3,R.aR];show (h ρ).bind _=_;rw[e4];show e5
theorem cO(e:fa ρ= .ok ds)(h:ds.length<=1000000:=by show aiz rfl):cU fa ρ= .ok (.tup ds):=by rw[cU,e,R.aR,cap,z9p h]
theorem iw(e:fa ρ= .ok ds)(h:ds.length<=1000000:=by show aiz rfl):jZ fa ρ= .ok (.lst ds):=by rw[jZ,e,R.aR,cap,z9p h]
theorem m7(e:f ρ= .ok (.tup ds)):fY f ρ= .ok ds:=by rw[fY,e];rfl
theorem m8(e:f ρ= .ok (.lst ds)):fY f ρ= .ok ds:=by rw[fY,e];rfl
theorem qI{m:Nat}(e:fa ρ= .ok [.int (m:Int)])(h:m<2^62):(λρ=>(fa ρ).bind mO) ρ= .ok ((afR m).map λ(i:Nat)=>D.int (i:Int)):=by
 show (fa ρ).bind mO=_;rw[e,R.aR,mO,z9p ⟨by have:(0:Int)<=m:=aio m;omega,()⟩];simp[upto]
theorem cX{ρ1:ao}(e1:gt x ρ= .ok ρ1)(e2:f ρ1= .ok d):pB gt (λ_=> .ok true) f ρ x= .ok (some d):=by
 rw[pB,e1,R.aR,R.aR,z9p rfl,e2];rfl
theorem aX(e:f ρ= .ok (.bl b)):bW f ρ= .ok b:=by rw[bW,e];rfl
theorem lR(e:p ρ= .ok b):o9 p ρ= .ok (!b):=by rw[o9,e];rfl
theorem X6(e1:p ρ= .ok false)(e2:q ρ= .ok b):U3 p q ρ= .ok b:=by rw[U3,e1,R.aR,z9n {}];show e2
theorem Et(e1:p ρ= .ok true)(e2:q ρ= .ok b):o8 p q ρ= .ok b:=by rw[o8,e1,R.aR,z9p rfl];show e2
theorem Va(e1:p ρ= .ok false):o8 p q ρ= .ok false:=by rw[o8,e1,R.aR,z9n {}]
theorem dN{i:Nat}(h:xs[i]?=some d):bQ (.tup xs) (.int (i:Int))= .ok d:=by
 let⟨hi,e⟩:=z1b h;rw[bQ,atI_nat hi,e]
theorem Bb{i:Nat}(h:xs[i]?=some d):bQ (.lst xs) (.int (i:Int))= .ok d:=by
 let⟨hi,e⟩:=z1b h;rw[bQ,atI_nat hi,e]
theorem aK(e1:s ρ= .nx ρ')(e2:t ρ'=o):aN s t ρ=o:=by rw[aN,e1];show e2
theorem bh(e:f (bF ρ)= .ok d):retS f ρ= .rt d:=by rw[retS,e];rfl
theorem bw(e:f ρ= .ok d)(e2:gt d ρ= .ok ρ'):bC f gt ρ= .nx ρ':=by rw[bC,e];show (match gt d ρ with | .ok ρ'=>So.nx ρ' |_=> .bad)=_;rw[e2]
theorem Eu(e:f (bF ρ)= .ok d):uY f ρ= .nx ρ:=by rw[uY,e];rfl
theorem eX(e:p (bF ρ)= .ok true)(e2:s ρ=o):dI p s t ρ=o:=by rw[dI,e];show e2
theorem bV(e:p (bF ρ)= .ok false)(e2:t ρ=o):dI p s t ρ=o:=by rw[dI,e];show e2
theorem cP{m:Nat}(e:s (ds.map (λd=>some (.val d))++afO m none)= .rt d):cj m s ds= .ok d:=by rw[cj,e]
theorem Qj{m:Nat}(e:s (ds.map (λd=>some (.val d))++afO m none)= .nx ρ):cj m s ds= .ok .non:=by rw[cj,e]
theorem nQ(h:(-(2^64)<i/\i<2^64)\/(-(2^64)<j/\j<2^64)):iI (.int i) (.int j)= .ok (.int (i*j)):=by
 show (if _ then _ else _)=_;rw[z9p h]
theorem lU(h:0<j/\j<2^64):gY (.int i) (.int j)= .ok (.int (i / j)):=by
 show (if _ then _ else _)=_;rw[z9p h]
theorem nR(h:0<j):gC (.int i) (.int j)= .ok (.int (i % j)):=by
 show (if _ then _ else _)=_;rw[z9p h]
theorem Kv{l:List α}:yx [.lst (l.map λ_=> .bl true)]= .ok (.bl true):=by
 have:=Io (c:=λ_:α=>true) (l:=l);rw[yx,this];show R.ok (D.bl _)=_;rw[all_true]
end
def Kw:ao->So:=(aN (bC (bin (λ_=> .ok (.int 7)) (λρ=>bJ ρ 1) iI) (aL 3)) (aN (dI (bW (bin (λρ=>bJ ρ 0) (jZ (λ_=> .ok [])) uc)) (aN (bC (bin (λρ=>bJ ρ 0) (bin (λρ=>bJ ρ 1) (aD cH (ak (λρ=>bJ ρ 0) (λ_=> .ok []))) gC) bQ) (aL 3)) (aN (bC (bin (λρ=>bJ ρ 1) (aD cH (ak (λρ=>bJ ρ 0) (λ_=> .ok []))) gY) (aL 4)) (aN (dI (o8 (bW (bin (λρ=>bJ ρ 3) (bin (λ_=> .ok (.int 10)) (λ_=> .ok (.int 18)) vL) Xy)) (bW (bin (λρ=>bJ ρ 4) (λ_=> .ok (.int 60)) ltI))) (aN (bC (bin (λρ=>bJ ρ 3) (bin (λ_=> .ok (.int 10)) (λ_=> .ok (.int 18)) vL) gY) (aL 5)) (aN (fZ (o8 (bW (bin (λρ=>bJ ρ 5) (λ_=> .ok (.int 0)) qz)) (bW (bin (λρ=>bJ ρ 4) (λ_=> .ok (.int 0)) qz))) (aN (bC (bin (λρ=>bJ ρ 5) (λ_=> .ok (.int 1000000)) gY) (aL 5)) (bC (bin (λρ=>bJ ρ 4) (λ_=> .ok (.int 1)) fX) (aL 4))) 64) (dI (bW (bin (λρ=>bJ ρ 5) (λ_=> .ok (.int 0)) qz)) (retS (bin (bin (λρ=>bJ ρ 5) (λ_=> .ok (.int 1000000)) gC) (λρ=>bJ ρ 2) gC)) So.nx))) So.nx) (bC (bin (λρ=>bJ ρ 3) (bin (λ_=> .ok (.int 6553)) (bin (λρ=>bJ ρ 1) (aD cH (ak (λρ=>bJ ρ 0) (λ_=> .ok []))) gY) iI) fD) (aL 3))))) So.nx) (aN (bC (bin (bin (bin (bin (λρ=>bJ ρ 3) (λ_=> .ok (.int 2147483563)) gC) (λ_=> .ok (.int 69069)) iI) (bin (λ_=> .ok (.int 104723)) (bin (λρ=>bJ ρ 1) (λ_=> .ok (.int 1)) fD) iI) fD) (λ_=> .ok (.int 2147483563)) gC) (aL 3)) (aN (bC (bin (bin (bin (λρ=>bJ ρ 3) (λρ=>bJ ρ 3) iI) (bin (λρ=>bJ ρ 3) (λ_=> .ok (.int 3)) gY) fD) (λ_=> .ok (.int 2147483399)) gC) (aL 3)) (retS (bin (bin (bin (bin (bin (λρ=>bJ ρ 3) (λρ=>bJ ρ 3) iI) (bin (λρ=>bJ ρ 3) (λ_=> .ok (.int 7)) gY) fD) (λ_=> .ok (.int 2147483647)) gC) (λ_=> .ok (.int 11)) gY) (λρ=>bJ ρ 2) gC))))))
def tailD:ao->So:=(aN (bC (bin (bin (bin (bin (λρ=>bJ ρ 3) (λ_=> .ok (.int 2147483563)) gC) (λ_=> .ok (.int 69069)) iI) (bin (λ_=> .ok (.int 104723)) (bin (λρ=>bJ ρ 1) (λ_=> .ok (.int 1)) fD) iI) fD) (λ_=> .ok (.int 2147483563)) gC) (aL 3)) (aN (bC (bin (bin (bin (λρ=>bJ ρ 3) (λρ=>bJ ρ 3) iI) (bin (λρ=>bJ ρ 3) (λ_=> .ok (.int 3)) gY) fD) (λ_=> .ok (.int 2147483399)) gC) (aL 3)) (retS (bin (bin (bin (bin (bin (λρ=>bJ ρ 3) (λρ=>bJ ρ 3) iI) (bin (λρ=>bJ ρ 3) (λ_=> .ok (.int 7)) gY) fD) (λ_=> .ok (.int 2147483647)) gC) (λ_=> .ok (.int 11)) gY) (λρ=>bJ ρ 2) gC))))
def adz:ao->So:=(dI (o8 (bW (bin (λρ=>bJ ρ 3) (bin (λ_=> .ok (.int 10)) (λ_=> .ok (.int 18)) vL) Xy)) (bW (bin (λρ=>bJ ρ 4) (λ_=> .ok (.int 60)) ltI))) (aN (bC (bin (λρ=>bJ ρ 3) (bin (λ_=> .ok (.int 10)) (λ_=> .ok (.int 18)) vL) gY) (aL 5)) (aN (fZ (o8 (bW (bin (λρ=>bJ ρ 5) (λ_=> .ok (.int 0)) qz)) (bW (bin (λρ=>bJ ρ 4) (λ_=> .ok (.int 0)) qz))) (aN (bC (bin (λρ=>bJ ρ 5) (λ_=> .ok (.int 1000000)) gY) (aL 5)) (bC (bin (λρ=>bJ ρ 4) (λ_=> .ok (.int 1)) fX) (aL 4))) 64) (dI (bW (bin (λρ=>bJ ρ 5) (λ_=> .ok (.int 0)) qz)) (retS (bin (bin (λρ=>bJ ρ 5) (λ_=> .ok (.int 1000000)) gC) (λρ=>bJ ρ 2) gC)) So.nx))) So.nx)
def wcD:ao->R Bool:=(o8 (bW (bin (λρ=>bJ ρ 5) (λ_=> .ok (.int 0)) qz)) (bW (bin (λρ=>bJ ρ 4) (λ_=> .ok (.int 0)) qz)))
def wbD:ao->So:=(aN (bC (bin (λρ=>bJ ρ 5) (λ_=> .ok (.int 1000000)) gY) (aL 5)) (bC (bin (λρ=>bJ ρ 4) (λ_=> .ok (.int 1)) fX) (aL 4)))
section
variable{S s0 s1 s2 s3 x y:Option Ent}{k m c:Int}
theorem tail_eq(hm:0<m):∃v,tailD [S,some (.val (.int k)),some (.val (.int m)),some (.val (.int c)),x,y]= .rt (.int v)/\0<=v/\v<m:=by
 show⟨_,aK (bw (aA (aA (aA (aA rfl rfl (nR ())) rfl (nQ (.inr ⟨(),()⟩))) (aA rfl (aA rfl rfl rfl) (nQ (.inl ⟨(),()⟩))) rfl) rfl (nR ())) rfl)
  (aK (bw (aA (aA (aA rfl rfl (nQ (.inl ?b1))) (aA rfl rfl (lU ⟨(),()⟩)) rfl) rfl (nR ())) rfl)
  (bh (aA (aA (aA (aA (aA rfl rfl (nQ (.inl ?b2))) (aA rfl rfl (lU ⟨(),()⟩)) rfl) rfl (nR ())) rfl (lU ⟨(),()⟩)) rfl (nR hm)))),aiW _ (),air _ hm⟩
 case b1=>
  have h1:=aiW (c % 2147483563*69069+104723*(k+1)) (b:=2147483563) ();have h2:=air (c % 2147483563*69069+104723*(k+1)) (b:=2147483563) ();constructor <;> omega
 case b2=>
  generalize (c % 2147483563*69069+104723*(k+1)) % 2147483563=z
  have h1:=aiW (z*z+z / 3) (b:=2147483399) ();have h2:=air (z*z+z / 3) (b:=2147483399) ();constructor <;> omega
theorem yE:qz (.int i) (.int j)= .ok (.bl (decide (j<i))):=rfl
theorem QK:∀{n:Nat} {t r:Int},0<=t->t<n->∃t' r',fZ wcD wbD n [s0,s1,s2,s3,some (.val (.int t)),some (.val (.int r))]= .nx [s0,s1,s2,s3,some (.val (.int t')),some (.val (.int r'))]
 |0,t,r,h0,h1=>()
 | n+1,t,r,h0,h1=>by
  rw[fZ];by_cases hr:0<r
  .by_cases ht:0<t
   .let⟨t',r',e⟩:=QK (n:=n) (t:=t - 1) (r:=r / 1000000) () ();show⟨t',r',?_⟩;have e1:wcD (bF [s0,s1,s2,s3,some (.val (.int t)),some (.val (.int r))])= .ok true:=Et (aX (aA rfl rfl (by rw[yE,z9t hr]))) (aX (aA rfl rfl (by rw[yE,z9t ht])));have e2:wbD [s0,s1,s2,s3,some (.val (.int t)),some (.val (.int r))]= .nx [s0,s1,s2,s3,some (.val (.int (t - 1))),some (.val (.int (r / 1000000)))]:=aK (bw (aA rfl rfl (lU ⟨(),()⟩)) rfl) (bw (aA rfl rfl rfl) rfl);simp only[e1,e2];show e
   .show⟨t,r,?_⟩;have e1:wcD (bF [s0,s1,s2,s3,some (.val (.int t)),some (.val (.int r))])= .ok false:=Et (aX (aA rfl rfl (by rw[yE,z9t hr]))) (aX (aA rfl rfl (by rw[yE,z9f ht])));simp only[e1]
  .show⟨t,r,?_⟩;have e1:wcD (bF [s0,s1,s2,s3,some (.val (.int t)),some (.val (.int r))])= .ok false:=Va (aX (aA rfl rfl (by rw[yE,z9f hr])));simp only[e1]
theorem Ir:vL (.int 10) (.int 18)= .ok (.int 1000000000000000000):=by
 unfold vL iD;simp only[];rw[z9p ⟨{},{},{}⟩];rfl
theorem adA{t:Int}(hm:0<m)(ht:0<=t):(∃t' x',adz [S,some (.val (.int k)),some (.val (.int m)),some (.val (.int c)),some (.val (.int t)),x]= .nx [S,some (.val (.int k)),some (.val (.int m)),some (.val (.int c)),some (.val (.int t')),x'])\/
  ∃v,adz [S,some (.val (.int k)),some (.val (.int m)),some (.val (.int c)),some (.val (.int t)),x]= .rt (.int v)/\0<=v/\v<m:=by
 by_cases h1:1000000000000000000<=c
 .by_cases h2:t<60
  .have e:(o8 (bW (bin (λρ=>bJ ρ 3) (bin (λ_=> .ok (.int 10)) (λ_=> .ok (.int 18)) vL) Xy)) (bW (bin (λρ=>bJ ρ 4) (λ_=> .ok (.int 60)) ltI))) (bF [S,some (.val (.int k)),some (.val (.int m)),some (.val (.int c)),some (.val (.int t)),x])= .ok true:=
    Et (aX (aA rfl (aA rfl rfl Ir) (by show R.ok (D.bl (decide _))=_;rw[z9t h1]))) (aX (aA rfl rfl (by show R.ok (D.bl (decide _))=_;rw[z9t h2])))
   let⟨t',r',ew⟩:=QK (s0:=S) (s1:=some (.val (.int k))) (s2:=some (.val (.int m))) (s3:=some (.val (.int c))) (n:=64) (t:=t) (r:=c / 1000000000000000000) ht ();by_cases h3:0<r'
   .show .inr ⟨_,eX e (aK (bw (aA rfl (aA rfl rfl Ir) (lU ⟨(),()⟩)) rfl) (aK ew (eX (aX (aA rfl rfl (by rw[yE,z9t h3]))) (bh (aA (aA rfl rfl (nR ())) rfl (nR hm)))))),aiW _ (),air _ hm⟩
   .show .inl ⟨t',some (.val (.int r')),eX e (aK (bw (aA rfl (aA rfl rfl Ir) (lU ⟨(),()⟩)) rfl) (aK ew (bV (aX (aA rfl rfl (by rw[yE,z9f h3]))) rfl)))⟩
  .show .inl ⟨t,x,bV (Et (aX (aA rfl (aA rfl rfl Ir) (by show R.ok (D.bl (decide _))=_;rw[z9t h1]))) (aX (aA rfl rfl (by show R.ok (D.bl (decide _))=_;rw[z9f h2])))) rfl⟩
 .show .inl ⟨t,x,bV (Va (aX (aA rfl (aA rfl rfl Ir) (by show R.ok (D.bl (decide _))=_;rw[z9f h1])))) rfl⟩
end
theorem jj{s t:ao->So}(e1:s ρ= .rt d):aN s t ρ= .rt d:=by rw[aN,e1]
theorem Bc(h:atI xs i=some d):bQ (.lst xs) (.int i)= .ok d:=by rw[bQ,h]
theorem aag{ns:List Int}{k m:Int}(hl:ns.length<=1000000)(hk:0<=k)(hm:0<m):∃v,cj 3 Kw [.lst (ns.map .int),.int k,.int m]= .ok (.int v)/\0<=v/\v<m:=by
 have hd:dep (.lst (ns.map .int))<=40:=by
  rw[dep];have:=wV (c:=D.int) (n:=0) (l:=ns) (λa _=>by simp[dep]);omega
 cases ns with
 | nil=>
  let⟨v,e,h⟩:=tail_eq (S:=some (.val (.lst []))) (k:=k) (c:=7*k) (x:=none) (y:=none) hm;show⟨v,cP (aK (bw (aA rfl rfl (nQ (.inl ⟨(),()⟩))) rfl) (aK (bV (aX (aA rfl (iw rfl) (mV rfl hd))) rfl) e)),h⟩
 | cons a ns=>
  have hn:uc (.lst ((a::ns).map .int)) (.lst [])= .ok (.bl true):=by
   rw[uc,z9p hd];rfl
  have hlen:(0:Int)<(((a::ns).map D.int).length:Int):=by rw[z1g,afY];omega
  have hlen2:(((a::ns).map D.int).length:Int)<2^64:=by rw[z1g];omega
  let⟨d,hd1,hd2⟩:=Ku (xs:=(a::ns).map D.int) (i:=k % (((a::ns).map D.int).length:Int)) (aiW _ ()) (air _ hlen);obtain⟨c,-,rfl⟩:=agV.mp hd1;have ht:0<=k / (((a::ns).map D.int).length:Int):=Int.ediv_nonneg hk ()
  generalize hL:(((a::ns).map D.int).length:Int)=L at *
  have Iu:∀(S x1 x2 x3 x4 x5:Option Ent),S=some (Ent.val (.lst ((a::ns).map D.int)))->aD cH (ak (λρ=>bJ ρ 0) (λ_=> .ok [])) [S,x1,x2,x3,x4,x5]= .ok (.int L):=by
   intro S x1 x2 x3 x4 x5 e;subst e;rw[<-hL];show aZ (au rfl) rfl
  rcases adA (S:=some (.val (.lst ((a::ns).map .int)))) (k:=k) (m:=m) (c:=c) (x:=none) hm ht with⟨t',x',e⟩ |⟨v,e,h⟩
  .let⟨v,e2,h⟩:=tail_eq (S:=some (.val (.lst ((a::ns).map .int)))) (k:=k) (c:=c+6553*(k / L)) (x:=some (.val (.int t'))) (y:=x') hm;show⟨v,cP (aK (bw (aA rfl rfl (nQ (.inl ⟨(),()⟩))) rfl) (aK (eX (aX (aA rfl (iw rfl) hn))
    (aK (bw (aA rfl (aA rfl (Iu _ _ _ _ _ _ rfl) (nR hlen)) (Bc hd2)) rfl) (aK (bw (aA rfl (Iu _ _ _ _ _ _ rfl) (lU ⟨hlen,hlen2⟩)) rfl) (aK e (bw (aA rfl (aA rfl (aA rfl (Iu _ _ _ _ _ _ rfl) (lU ⟨hlen,hlen2⟩)) (nQ (.inl ⟨(),()⟩))) rfl) rfl))))) e2)),h⟩
  .show⟨v,cP (aK (bw (aA rfl rfl (nQ (.inl ⟨(),()⟩))) rfl) (jj (eX (aX (aA rfl (iw rfl) hn))
    (aK (bw (aA rfl (aA rfl (Iu _ _ _ _ _ _ rfl) (nR hlen)) (Bc hd2)) rfl) (aK (bw (aA rfl (Iu _ _ _ _ _ _ rfl) (lU ⟨hlen,hlen2⟩)) rfl) (jj e)))))),h⟩
theorem kJ{ρ1 ρ2:ao}{b:ao->So}{x:D}{o:So}(e1:gt x ρ= .ok ρ1)(e2:b ρ1= .nx ρ2)(e3:forL gt b xs ρ2=o):forL gt b (x::xs) ρ=o:=by
 rw[forL];simp only[e1,e2];show e3
theorem ud{fi:ao->R (List D)}{b:ao->So}{o:So}(e1:fi ρ= .ok xs)(e2:forL gt b xs ρ=o):tU fi gt b ρ=o:=by
 rw[tU,e1];show e2
theorem abM{i k:Nat}{f:ao->R D}{fa:ao->R (List D)}{ds:List D}(e1:f ρ= .ok d)(e2:fa ρ= .ok ds)(h:ds.length<=1000000:=by show aiz rfl):QG i k f fa ρ= .nx ((ρ.set i (some (.val d))).set k (some (.lst ds))):=by
 unfold QG;rw[e1];simp only[kh,e2];rw[z9p h]
theorem wW{i k:Nat}{f g:ao->R D}{e:D}(e1:f ρ= .ok d)(e2:g ρ= .ok e):Az i k f g ρ= .nx ((ρ.set i (some (.val d))).set k (some (.val e))):=by
 unfold Az;rw[e1];simp only[kh,e2]
def dr(ns:List Int)(k m:Int):Int:=match cj 3 Kw [.lst (ns.map .int),.int k,.int m] with
 | .ok (.int v)=>v
 |_=>0
theorem su{ns:List Int}{k m:Int}(hl:ns.length<=1000000)(hk:0<=k)(hm:0<m):cj 3 Kw [.lst (ns.map .int),.int k,.int m]= .ok (.int (dr ns k m))/\0<=dr ns k m/\dr ns k m<m:=by
 let⟨v,e,h⟩:=aag hl hk hm;have:dr ns k m=v:=by rw[dr,e]
 rw[this];show⟨e,h⟩
end Pu
namespace Pu
open PySem PySem.Spec L2
open PyProof.Rows hiding St
variable{l it l1 l2 z i1 i2 f l3 C i3:afK}{O O0:afK->Prop}{params:ah8}{xs:Array afL}{t t1 t2 t3:Bool}{tg iter elt:afV}{fd:agx}{h h' b0:af2}{H:Hp}{ts:List (afK×Str)}{clos:List (Str×afK)}{u6 ifs:List afV}{outer:List agA}{body:List af7}{N ps:List Str}{zs vs:List V}{k i n:Nat}{pos pp pos':Pos}{P:afZ}{env:agA}{K:afM}{ρ:ao}{ft:ao->R Bool}{scope:ahp}{σ:St}{st:af7}{qual name y:Str}{mg:Str->Option afL}{ta:TA}{α:Type}{Q:afL->afN->Prop}{w:af4}
section
variable{X:Cx}
def yF:List D->R D
 |[.int i]=> .ok (.int (if i<0 then -i else i))
 |_=> .bad
theorem Iv:CallD X (.builtin "abs") yF:=by
 show⟨_,call_abs,λρ O σ H Q xs ds j r h=>?_⟩;unfold yF at h;split at h
 .rename_i i;let⟨x,rfl,rx⟩:=r.one;show⟨i,by rw[rx.int],fin h (cg _)⟩
 .show h.elim
def maxD:List D->R D
 |[.int i,.int j]=> .ok (.int (if j > i then j else i))
 |_=> .bad
theorem qJ(hc:X.calm=true):CallD X (.builtin "max") maxD:=by
 show⟨_,call_max2 hc,λρ O σ H Q xs ds j r h=>?_⟩;unfold maxD at h;split at h
 .rename_i i k;let⟨x,y,rfl,rx,ry⟩:=r.two;show⟨i,k,by rw[rx.int,ry.int],fin h (cg _)⟩
 .show h.elim
def minD:List D->R D
 |[.int i,.int j]=> .ok (.int (if j<i then j else i))
 |_=> .bad
theorem uf(hc:X.calm=true):CallD X (.builtin "min") minD:=by
 show⟨_,call_min2 hc,λρ O σ H Q xs ds j r h=>?_⟩;unfold minD at h;split at h
 .rename_i i k;let⟨x,y,rfl,rx,ry⟩:=r.two;show⟨i,k,by rw[rx.int,ry.int],fin h (cg _)⟩
 .show h.elim
def Iw:D->Bool
 | .non=>true
 |_=>false
theorem Vb{d:D}{v:V}(r:Rep K O H d v):decide (v= .non)=Iw d:=by
 cases d with
 |non=>rw[r.non];rfl
 |bl b=>rw[r.bl];rfl
 |int i=>rw[r.int];rfl
 |str x=>rw[r.str];rfl
 |tup ds=>let⟨a,xs,rfl,_⟩:=r.tup;rfl
 |lst ds=>let⟨a,xs,rfl,_⟩:=r.lst;rfl
def isD:D->D->R D
 |d,.non=> .ok (.bl (Iw d))
 |_,_=> .bad
def QL:D->D->R D
 |d,.non=> .ok (.bl (!Iw d))
 |_,_=> .bad
theorem Qk:iY X (agn .Is) isD:=by
 show⟨_,op_isN,λρ O σ H Q x y dx dy j0 rx ry h=>?_⟩;cases dy with
 |non=>show⟨ry.non,by rw[Vb rx];show fin (a:=D.bl (Iw dx)) h (dO _)⟩
 |_=>cases dx <;> show h.elim
theorem aah:iY X (agn .IsNot) QL:=by
 show⟨_,op_notN,λρ O σ H Q x y dx dy j0 rx ry h=>?_⟩;cases dy with
 |non=>show⟨ry.non,by rw[Vb rx];show fin (a:=D.bl (!Iw dx)) h (dO _)⟩
 |_=>cases dx <;> show h.elim
theorem abN:OpR X (ag4 .Add) (λx y H Q=>∃a b ys,x= .ref a/\y= .ref b/\SqT X.K H a []/\SqT X.K H b ys/\Q (.ref b) H):=by
 intro pins s σ H x y v u Q I rx ry h;let⟨a,b,ys,rfl,rfl,ha,hb,q⟩:=h;cases rx;cases ry;let⟨its,r1,p1,_⟩:=I.tuple ha;let⟨its2,r2,p2,_⟩:=I.tuple hb;cases r1;let⟨⟨cls,dd,data,sl⟩,ho,hc,n,hd⟩:=id p1;let⟨⟨cls2,dd2,data2,sl2⟩,ho2,hc2,n2,hd2⟩:=id p2;simp only at hc hd hc2 hd2;subst hc hd hc2 hd2;show akv ⟨_,ho,rfl⟩ ⟨_,ho2,rfl⟩ akx seq_tuple_add ajd ai8 (ai0 _ _)
   (tuple_addW0 a b _ _ n n2 dd dd2 sl sl2 rfl) ⟨ho,ho2,⟨.ref b,H,I,rfl,q⟩⟩
def afe:D->R D
 | .int i=> .ok (.int (-i))
 |_=> .bad
def adB(f:ao->R D):ao->R D:=λρ=>(f ρ).bind afe
theorem adC{e:afV}{f:ao->R D}(he:DE X e f):DE X (.UnaryOp .USub e pos) (adB f):=by
 show PE.imp (pe_un un_neg he) λσ H Q h=>?_;let⟨ρ,O,j,h⟩:=h;show go j h λd v H1 e1 s1 r1 j1 h1=>?_;cases d with
 |int i=>show⟨i,r1.int,fin h1 (cg _)⟩
 |_=>show h1.elim
theorem abO:OpR X (ag4 .Add) (λx y H Q=>∃a b xs ys,x= .ref a/\y= .ref b/\SqL X.K H a xs/\SqL X.K H b ys/\xs.length+ys.length<=sizeLine/\∀p,H p=none->Q (.ref p) (upd H p (.lst (xs++ys)))):=by
 intro pins s σ H x y v u Q I rx ry h;let⟨a,b,xs,ys,rfl,rfl,ha,hb,hz,q⟩:=h;cases rx;cases ry;let⟨its,r1,p1,_⟩:=I.list ha;let⟨its2,r2,p2,_⟩:=I.list hb;let⟨⟨cls,dd,data,sl⟩,n,ho,hc,hdd,hd⟩:=id p1;let⟨⟨cls2,dd2,data2,sl2⟩,n2,ho2,hc2,afI,hd2⟩:=id p2;simp only at hc hd hc2 hd2;subst hc hd hc2 hd2;show akv ⟨_,ho,rfl⟩ ⟨_,ho2,rfl⟩ noFill_list_add seq_list_add PySem.F.slot_list_add PySem.F.entry_list_add (PySem.F.args_list_add_2 _ _)
   (list_addW a b _ _ n n2 dd dd2 sl sl2 (by rw[z1c,z1c,<-r1.length,<-r2.length];show hz)) ⟨ho,ho2,?_⟩
 have ea:its.toArray++its2.toArray=(its++its2).toArray:=()
 rw[ea];show⟨.ref _,_,I.lnew (t':=s.toks) (r1.append r2) (by rw[z1d];omega),rfl,q _ I.fresh⟩
def dX:D->D->R D
 | .int i,.int j=> .ok (.int (i+j))
 | .tup xs,.tup ys=>if xs.length+ys.length<=1000000 then .ok (.tup (xs++ys)) else .bad
 | .lst xs,.lst ys=>if xs.length+ys.length<=1000000 then .ok (.lst (xs++ys)) else .bad
 |_,_=> .bad
theorem c7:iY X (ag4 .Add) dX:=by
 show⟨_,OpR.or op_add (OpR.or op_catT (OpR.or abN abO)),λρ O σ H Q x y dx dy j0 rx ry h=>?_⟩;cases dx <;> cases dy <;> first
  |show h.elim
  |skip
 .rename_i i j;show .inl ⟨i,j,rx.int,ry.int,fin h (cg _)⟩
 .rename_i xs ys;have h:good X (rD X) O (if xs.length+ys.length<=1000000 then .ok (.tup (xs++ys)) else .bad) σ H Q:=h;by_cases hc:xs.length+ys.length<=1000000
  .rw[z9p hc] at h;let⟨a,us,rfl,ha,r1⟩:=rx.tup;let⟨b,ws,rfl,hb,r2⟩:=ry.tup;by_cases hx:us=[]
   .subst hx;have:xs=[]:=agE r1.length;subst this;show .inr (.inr (.inl ⟨a,b,ws,rfl,rfl,ha,hb,fin h (gA hb r2)⟩))
   .show .inr (.inl ⟨a,b,us,ws,rfl,rfl,ha,hb,hx,?_,λz=>?_,λz l hl=>?_⟩)
    .rw[<-r1.length,<-r2.length];show z0b hc eO
    .subst z;have:ys=[]:=agE r2.length;subst this;rw[ags] at h;show fin h (gA ha r1)
    .show h _ _ (Same.upd hl) (Rep.sW hl (r1.append r2))
  .rw[z9n hc] at h;show h.elim
 .rename_i xs ys;have h:good X (rD X) O (if xs.length+ys.length<=1000000 then .ok (.lst (xs++ys)) else .bad) σ H Q:=h;by_cases hc:xs.length+ys.length<=1000000
  .rw[z9p hc] at h;let⟨a,us,rfl,ha,_,r1⟩:=rx.lst;let⟨b,ws,rfl,hb,_,r2⟩:=ry.lst;show .inr (.inr (.inr ⟨a,b,us,ws,rfl,rfl,ha,hb,?_,λl hl=>?_⟩))
   .rw[<-r1.length,<-r2.length];show z0b hc eO
   .show h _ _ (Same.upd hl) (Rep.o7 hl (j0.tE hl) (r1.append r2))
  .rw[z9n hc] at h;show h.elim
end
section
variable{prog:afZ}{w:af4}{A:af5}{E:afL->afN->Prop}{s:afN}
open HT in
theorem Ar{t sl:afK}{items:Array afL}{vl vu:afL}{lo hi:Option Int}(ht:IsTup s.heap t items)(hs:s.heap.IsSliceOf sl vl vu .none)(pl:aje vl lo)(pu:aje vu hi)
  (hw:sIx items.size 0 lo=0/\sIx items.size items.size hi=items.size)(h:Q (.ref t) s):afS (model prog w) A (ajw (.ref t) (.ref sl)) Q E s:=by
 let⟨os,hos,hcs,hds⟩:=id hs;have hTs:s.TypeIs (.ref sl) "slice" :=⟨os,hos,hcs⟩;unfold ajw
 try with_reducible show aho ?_
 first |show aft (afQ ?_) |skip
 show aft (akf ht.typeIs {} ?_);show aft (agG (name:=ahm "__getitem__") ht.typeIs ag3
  (agT ag3 ht.typeIs entry_tuple_getitem ?_ (args_tuple_getitem _ _)))
 show afS _ _ (aj6 (.ref t) >>=_) _ _ s;show aft (tupleItemsOf_ ht ?_);show aft (ai1 hTs ?_);rw[z9p {}];show aft (sliceApplied_gen hs pl pu ?_);show afS _ _ (if (((sIx items.size 0 lo:Nat):Int) ==0 && (1:Int) ==1 && (sIx items.size items.size hi - sIx items.size 0 lo) ==items.size)=true then _ else _) _ _ s;rw[z9p (by rw[hw.1,hw.2];simp)];show aft (m:=Builtin.Tuple.tupleIsExact _) (aft (ai1 ht.typeIs (afQ ?_)));rw[z9p (beq_self_eq_true _)]
 first
  |show aft (afQ (afQ ⟨_,rfl,afQ h⟩))
  |show aft (ahG (afQ ⟨_,rfl,afQ h⟩))
end
section
variable{X:Cx}{e e1:afV}{lo hi:Option afV}{f f1:ao->R D}{fl fu:ao->R (Option Int)}{pos p2:Pos}
def afg(K:afM):V->Option Int->Option Int->Hp->VK->Prop:=λx lo hi H Q=>∃a xs,x= .ref a/\SqT K H a xs/\
 (HT.sIx xs.length 0 lo=0/\HT.sIx xs.length xs.length hi=xs.length)/\Q (.ref a) H
theorem abP:SlR X (afg X.K):=by
 intro pins s σ H x v vl vu lo hi sl Q I rx hs pl pu h;let⟨a,xs,rfl,hx,hw,q⟩:=h;cases rx;let⟨its,r,ht,hz⟩:=I.tuple hx;have hlen:its.toArray.size=xs.length:=by rw[z1c];show r.length.symm
 show⟨"tuple",_,ag3.lookup,ht.typeIs,Ar ht hs pl pu (by rw[hlen];show hw) ⟨.ref a,H,I,rfl,q⟩⟩
abbrev afh:(afK->Prop)->Hp->Option Int->Option Int->Prop:=λ_ _ a b=>a=b
def Vc(X:Cx)(lo:Option afV)(fo:ao->R (Option Int)):Prop:=PO X lo (tG X afh fo)
theorem PO.imp{t t':TO}(h:PO X lo t)(w:∀σ H Q,t' σ H Q->t σ H Q):PO X lo t':=λpins s σ H Q I q=>h pins s σ H Q I (w σ H Q q)
theorem pG:Vc X none (λ_=> .ok none):=by
 show PO.imp po_none λσ H Q h=>?_;let⟨ρ,O,j,h⟩:=h;show fin h rfl
def Iz:D->R (Option Int)
 | .int i=> .ok (some i)
 |_=> .bad
theorem kO(h:DE X e1 f1):Vc X (some e1) (λρ=>(f1 ρ).bind Iz):=by
 show PO.imp (po_some h) λσ H Q h=>?_;let⟨ρ,O,j,h⟩:=h;show go j h λd v H1 e1 s1 r1 j1 h1=>?_;cases d with
 |int i=>show⟨i,r1.int,fin h1 rfl⟩
 |_=>show h1.elim
def jk(ds:List D)(lo hi:Option Int):List D:=(ds.drop (HT.sIx ds.length 0 lo)).take (HT.sIx ds.length ds.length hi - HT.sIx ds.length 0 lo)
def QM(d:D)(lo hi:Option Int):R D:=match d with
 | .tup ds=> .ok (.tup (jk ds lo hi))
 |_=> .bad
def nU(f:ao->R D)(fl fu:ao->R (Option Int)):ao->R D:=λρ=>(f ρ).bind λd=>(fl ρ).bind λl=>(fu ρ).bind λu=>QM d l u
theorem yG(he:DE X e f)(hl:Vc X lo fl)(hu:Vc X hi fu):DE X (.Subscript e (.Slice lo hi none p2) pos) (nU f fl fu):=by
 show PE.imp (pe_slice (SlR.or sl_tup abP) he hl hu) λσ H Q h=>?_;let⟨ρ,O,j,h⟩:=h;show go j h λd v H1 e1 s1 r1 j1 h1=>?_;show go j1 h1 λl l' H2 e2 s2 r2 j2 h2=>?_;show go j2 h2 λu u' H3 e3 s3 r3 j3 h3=>?_;have r2:l=l':=r2;have r3:u=u':=r3;subst r2 r3;cases d with
 | tup ds=>
  have r1':=(r1.same s2).same s3;let⟨a,xs,rfl,hq,rs⟩:=r1'.tup;have hlen:=rs.length;by_cases hw:HT.sIx xs.length 0 l=0/\HT.sIx xs.length xs.length u=xs.length
  .show .inr ⟨a,xs,rfl,hq,hw,?_⟩;have e:jk ds l u=ds:=by
    unfold jk;rw[hlen,hw.1,hw.2,akX,akG,<-hlen,akH]
   have h3:good X (rD X) O (.ok (.tup (jk ds l u))) σ H3 Q:=h3;rw[e] at h3;show fin h3 (gA hq rs)
  .show .inl ⟨a,xs,rfl,hq,hw,λp hp=>?_⟩;show h3 _ _ (Same.upd hp) (Rep.sW hp ?_);unfold jk cutV;rw[hlen];show (rs.drop _).take _
 |_=>show h3.elim
end
def pickK{α:Type}(z:α)(sel:List (Sum Nat α))(ws:List α):List α:=sel.map λ
 | .inl i=>ws.getD i z
 | .inr c=>c
inductive Sel:List (Sum Nat afL)->List (Sum Nat V)->List (Sum Nat D)->Prop
 |nil:Sel [] [] []
 |at (i:Nat) {a b c}:Sel a b c->Sel (.inl i::a) (.inl i::b) (.inl i::c)
 |non {a b c}:Sel a b c->Sel (.inr .none::a) (.inr .non::b) (.inr .non::c)
 |str (x:Str) (t:Tok) {a b c}:Sel a b c->Sel (.inr (.str x t)::a) (.inr (.str x)::b) (.inr (.str x)::c)
 |int (x:Int) (t:Tok) {a b c}:Sel a b c->Sel (.inr (.int x t)::a) (.inr (.int x)::b) (.inr (.int x)::c)
 |bl (x:Bool) {a b c}:Sel a b c->Sel (.inr (.bool x)::a) (.inr (.bl x)::b) (.inr (.bl x)::c)
theorem X7{ws:List afL}(r:Vals zs ws)(i:Nat):RelV (zs.getD i .non) (ws.getD i .none):=by
 induction r generalizing i with
 |nil=>show rfl
 | cons h _ ih=>
  cases i with
  |zero=>show h
  |succ i=>show ih i
theorem Sel.vals{a b c}(s:Sel a b c){ws:List afL}(r:Vals zs ws):Vals (pickK .non b zs) (pickK .none a ws):=by
 induction s with
 |nil=>show .nil
 | «at» i _ ih=>show .cons (X7 r i) ih
 |non _ ih=>show .cons rfl ih
 |str x t _ ih=>show .cons ⟨t,rfl⟩ ih
 |int x t _ ih=>show .cons ⟨t,rfl⟩ ih
 |bl x _ ih=>show .cons rfl ih
section
variable{K:afM}{O:afK->Prop}{H:Hp}
theorem M9:∀{ds:List D} {zs:List V},aM K O H ds zs->∀i:Nat,Rep K O H (ds.getD i .non) (zs.getD i .non)
 |[],zs,r,i=>by rw[r.nil_inv];show lC
 | d::ds,zs,r,i=>by
  let⟨x,t,rfl,h1,h2⟩:=r.cons_inv;cases i with
  |zero=>show h1
  |succ i=>show M9 h2 i
theorem Sel.reps{a b c}(s:Sel a b c){ds:List D}(r:aM K O H ds zs):aM K O H (pickK .non c ds) (pickK .non b zs):=by
 induction s with
 |nil=>show .nil
 | «at» i _ ih=>show .cons (M9 r i) ih
 |non _ ih=>show .cons lC ih
 |str x t _ ih=>show .cons (Ed x) ih
 |int x t _ ih=>show .cons (cg x) ih
 |bl x _ ih=>show .cons (dO x) ih
end
section
variable{X:Cx}{k n:Nat}{f:afK}{fd:agx}{ps ks:List Str}{F:List D->R D}{x:Str}{p pos kpos:Pos}{e:afV}{es:List afV}{kws:List ahW}{fa fk:ao->R (List D)}{fe:ao->R D}{nm:Option Str}
def DK(X:Cx)(kws:List ahW)(fk:ao->R (List D)):Prop:=PK X kws (tG X (wM X) fk)
theorem PK.imp{t t':TA}(h:PK X kws t)(w:∀σ H Q,t' σ H Q->t σ H Q):PK X kws t':=λpos pins s σ H Q I q=>h pos pins s σ H Q I (w σ H Q q)
theorem wX:DK X [] (λ_=> .ok []):=by
 show PK.imp pk_nil λσ H Q h=>?_;let⟨ρ,O,j,h⟩:=h;show fin h .nil
theorem sY(he:DE X e fe)(hr:DK X kws fk):DK X (⟨nm,e,kpos⟩::kws) (ak fe fk):=by
 show PK.imp (pk_cons he hr) λσ H Q h=>?_;let⟨ρ,O,j,h⟩:=h;show go j h λd v H1 e1 s1 r1 j1 h1=>?_;show go j1 h1 λds vs H2 e2 s2 r2 j2 h2=>?_;show fin h2 (.cons (r1.same s2) r2)
theorem u9{z:α}{sel:List (Sum Nat α)}{ws:List α}:(pickK z sel ws).length=sel.length:=by unfold pickK;rw[z1g]
def KB(K:afM)(fd:agx)(ps ks:List Str)(sel:List (Sum Nat afL)):Prop:=∀(s:afN) (us ws:List afL),K.In s.heap->us.length+sel.length=ps.length->ws.length=ks.length->ajv s fd ⟨us,ks.zip ws⟩ (ps.zip (us++pickK .none sel ws))
def Ql(F:List D->R D)(n m:Nat)(sel:List (Sum Nat D))(fa fk:ao->R (List D)):ao->R D:=λρ=>(fa ρ).bind λds=>(fk ρ).bind λzs=>if zs.length=m then aO F n (ds++pickK .non sel zs) else .bad
end
section
variable{X:Cx}{k n:Nat}{f:afK}{fd:agx}{ps:List Str}{F:List D->R D}{x:Str}{p pos:Pos}{e:afV}{es:List afV}{fa:ao->R (List D)}
end
theorem len0{l:List α}(h:l.length=0):l=[]:=agE h
theorem lJ{l:List α}(h:l.length=n+1):∃a m,l=a::m/\m.length=n:=by
 cases l with
 |nil=>simp at h
 |cons a m=>show⟨a,m,rfl,by simpa using h⟩
section
variable{X:Cx}{k m n:Nat}{fd:agx}{ps ks:List Str}{F:List D->R D}{x:Str}{p pos:Pos}{e:afV}{es:List afV}{kws:List ahW}{fa fk:ao->R (List D)}
end
section
variable{K:afM}{kV doc pm cdv ct:afL}{an:Option afK}{body:List af7}{scope:ahp}{d:afK}{t:Tok}{q:Pos}
def X8(q:Pos):ah8:={posonlyargs:=[],args:=[⟨"p",none,q⟩],vararg:=none,kwonlyargs:=[⟨"manner",none,q⟩,⟨"marks",none,q⟩],kw_defaults:=[some (.Constant (.str "worth") 0 q),some (.Constant .none 0 q)],kwarg:=none,defaults:=[]}
example:KB K (agy "f" "f" (X8 q) body scope .none kV doc pm an cdv ct) ["p","manner","marks"] ["marks","manner"] [.inl 1,.inl 0]:=by
 intro s us ws i hl hw;have hl1:us.length=1:=by simpa using hl
 clear hl
 let⟨u,us',rfl,hl2⟩:=lJ hl1
 clear hl1
 cases len0 hl2;let⟨w1,ws1,rfl,hw1⟩:=lJ hw
 clear hw
 let⟨w2,ws2,rfl,hw2⟩:=lJ hw1
 clear hw1
 cases len0 hw2;show .of_eq rfl
end
section
variable{X:Cx}
end
mutual
def eN:D->Bool
 | .tup ds=>cY ds
 | .lst _=>false
 |_=>true
def cY:List D->Bool
 |[]=>true
 |d::ds=>eN d && cY ds
end
section
variable{K:afM}{O O':afK->Prop}{H:Hp}
mutual
theorem G5:∀{d:D} {v:V},eN d=true->Rep K O H d v->Rep K O' H d v
 | .non,v,_,r=>by rw[r.non];show lC
 | .bl b,v,_,r=>by rw[r.bl];show dO _
 | .int i,v,_,r=>by rw[r.int];show cg _
 | .str x,v,_,r=>by rw[r.str];show Ed _
 | .tup ds,v,h,r=>by
  let⟨a,xs,rfl,hq,rs⟩:=r.tup;show gA hq (m9 (by rw[eN] at h;show h) rs)
 | .lst ds,v,h,r=>by rw[eN] at h;cases h
theorem m9:∀{ds:List D} {vs:List V},cY ds=true->aM K O H ds vs->aM K O' H ds vs
 |[],vs,_,r=>by rw[r.nil_inv];show .nil
 | d::ds,vs,h,r=>by
  let⟨x,t,rfl,h1,h2⟩:=r.cons_inv;rw[cY,agY] at h;show .cons (G5 h.1 h1) (m9 h.2 h2)
end
end
section
variable{X:Cx}{e:afV}{f:ao->R D}{pos:Pos}
end
section
variable{prog:afZ}{w:af4}{A:af5}{E:afL->afN->Prop}{s:afN}{t:afK}
end
section
variable{X:Cx}
end
theorem G6:fillsNumberSlot (.type "tuple") "mul" =pure false:=
 PySem.fillsNumberSlot_seq (id:= "tuple.__mul__") (r:=some (.builtin "tuple.__rmul__")) F.slot_tuple_mul.lookup {} F.slot_tuple_rmul.lookup {}
theorem QS:seqRepeat? (.type "tuple")=pure (some (.builtin "tuple.__mul__")):=by
 unfold seqRepeat?;rw[akI (T:= "tuple") (name:= "__mul__") (id:= "tuple.__mul__") F.slot_tuple_mul.lookup {},akI (T:= "tuple") (name:= "__rmul__") (id:= "tuple.__rmul__") F.slot_tuple_rmul.lookup {}];rfl
theorem Ky(a:Int)(t:Tok)(l:afK)(items:Array afL)(n:Nat)(dd:Option afK)(sl:Array (Option afL)):
  Meets (ahg.«int.__rmul__» ⟨[.int a t,.ref l],[]⟩) (λ_ R s=>s.heap.get? l=some {cls:= .type "tuple",dict:=dd,data:= .seq items n,slots:=sl}/\R (.ok (.ret Value.notImplemented)) s):=
 .of_wp λprog w A R s h=>by let⟨hp,g,d,tk,os⟩:=s;let⟨hl,h⟩:=h;wp_walk;show⟨_,rfl,h⟩
theorem Wh(l:afK)(items:Array afL)(n:Nat)(dd:Option afK)(sl:Array (Option afL))(t:Tok):
  Meets (ahg.«tuple.__mul__» ⟨[.ref l,.int 1 t],[]⟩) (λ_ R s=>s.heap.get? l=some {cls:= .type "tuple",dict:=dd,data:= .seq items n,slots:=sl}/\R (.ok (.ret (.ref l))) {s with heap:=s.heap,toks:=s.toks}):=
 .of_wp λprog w A R s h=>by let⟨hp,g,d,tk,os⟩:=s;let⟨hl,h⟩:=h;have f1:=akJ;have hc0:(items.isEmpty || (1:Int) ==1)=true:=();unfold ahg.«tuple.__mul__»;wp_walk using aht hl;show⟨_,rfl,h⟩
theorem Wi(l:afK)(items:Array afL)(n:Nat)(dd:Option afK)(sl:Array (Option afL))(k:Int)(t:Tok)(hf:¬(decide (k < -(2^63)) || decide (k>=2^63))=true)(hc0:¬(items.isEmpty || k ==1)=true)(hc1:¬(decide (k<=0) || items.isEmpty)=true)
  (hc2:¬(items.size:Int)*k > (2^63 - 1) / 8)(hc3:¬akb ((items.size:Int)*k)=true)(hsz:sizeOk (.seq (akn (λx1 x2=>x1++x2) #[] (afO k.toNat items)))):
  Meets (ahg.«tuple.__mul__» ⟨[.ref l,.int k t],[]⟩) (λ_ R s=>s.heap.get? l=some {cls:= .type "tuple",dict:=dd,data:= .seq items n,slots:=sl}/\R (.ok (.ret (.ref s.heap.objs.size))) {s with heap:=s.heap.push {cls:=af3 "tuple",data:=ak3 (akn (λx1 x2=>x1++x2) #[] (afO k.toNat items))},toks:=s.toks}):=
 .of_wp λprog w A R s h=>by
  let⟨hp,g,d,tk,os⟩:=s;let⟨hl,h⟩:=h;have f1:=akJ;unfold ahg.«tuple.__mul__»
  wp_walk using aht hl
  show wpAny_ite_false (by simpa using hf) ?_
  wp_walk using aht hl
  show wpAny_ite_false (by simpa using hc2) ?_
  wp_walk using aht hl
  show wpAny_ite_false (by simpa[sizeOk] using hsz) ?_
  wp_walk using aht hl
  show⟨_,rfl,h⟩
section
variable{X:Cx}
theorem abQ:OpR X (ag4 .Mult) (λx y H Q=>∃a k xs,x= .ref a/\y= .int k/\SqT X.K H a xs/\xs≠[]/\1<=k/\k<2^63/\xs.length*k.toNat<=sizeLine/\(k=1->Q (.ref a) H)/\
  (k≠1->∀p,H p=none->Q (.ref p) (upd H p (.tup (afO k.toNat xs).flatten)))):=by
 intro pins s σ H x y v u Q I rx ry h;let⟨a,k,xs,rfl,rfl,hq,hx,h1,h2,hz,q1,q2⟩:=h;cases rx;let⟨t,rfl⟩:=ry;let⟨its,r,p1,_⟩:=I.tuple hq;let⟨⟨cls,dd,data,sl⟩,ho,hc,n,hd⟩:=id p1;simp only at hc hd;subst hc hd;have hlen:=r.length;have hne:its≠[]:=λz=>hx (by rw[z] at r;cases r;rfl);have hpos:0<its.length:=by cases its with |nil=>show absurd rfl hne |cons _ _=>simp
 have hemp:its.toArray.isEmpty=false:=by cases its with |nil=>show absurd rfl hne |cons _ _=>simp
 show wpAny_binaryOp_repeat_ref (T:= "tuple") (U:= "int") {} ⟨_,ho,rfl⟩ (λs'=>akm s' k t) G6 F.fills_int_mul F.slot_int_rmul QS F.slot_int_index.lookup
  (aiK F.slot_int_rmul (akm s k t) F.entry_int_rmul (F.args_int_rmul_2 _ _) (Ky k t a its.toArray n dd sl) ⟨ho,rfl,⟨_,ho,rfl⟩,?_⟩)
 by_cases hk:k=1
 .subst hk;show aiK F.slot_tuple_mul ⟨_,ho,rfl⟩ F.entry_tuple_mul (F.args_tuple_mul_2 _ _) (Wh a its.toArray n dd sl t) ⟨ho,⟨.ref a,H,I,rfl,q1 rfl⟩⟩
 .have hmul:(its.toArray.size:Int)*k=((xs.length*k.toNat:Nat):Int):=by
   rw[z1c,<-hlen,Int.natCast_mul,Int.toNat_of_nonneg ()]
  have hnew:akn (λx1 x2=>x1++x2) #[] (afO k.toNat its.toArray)=(afO k.toNat its).flatten.toArray:=by
   have:=foldl_rep its k.toNat [];rw[ais] at this;show this
  have hs:sizeOk (.seq (akn (λx1 x2=>x1++x2) #[] (afO k.toNat its.toArray))):=by
   rw[hnew];show (afO k.toNat its).flatten.toArray.size<=sizeLine;rw[z1c,len_rep,<-hlen,Nat.mul_comm];show hz
  have hbig:(sizeLine:Nat)<=(2^63 - 1) / 8:={}
  show aiK F.slot_tuple_mul ⟨_,ho,rfl⟩ F.entry_tuple_mul (F.args_tuple_mul_2 _ _) (Wi a its.toArray n dd sl k t () (by rw[hemp];simp[hk]) (by rw[hemp];simp;omega) (by rw[hmul];omega) (by rw[hmul];unfold akb;intro z;have z:=z9o z;omega) hs) ⟨ho,?_⟩;rw[hnew];show⟨.ref s.heap.objs.size,_,I.laid (t':=s.toks) (o:= .tup (afO k.toNat xs).flatten) (λb ob q=>z1a _ q) (z0g _) ?_,rfl,q2 hk _ (I.hok.fresh (z0g _))⟩;show⟨by rw[len_rep,Nat.mul_comm];show hz,_,r.rep k.toNat,yp.new _ _⟩
theorem G7{K:afM}{O:afK->Prop}{H:Hp}{ds:List D}{xs:List V}(r:aM K O H ds xs):∀k:Nat,aM K O H (afO k ds).flatten (afO k xs).flatten
 |0=> .nil
 |k+1=>by rw[ag0,ag0,ahr,ahr];show r.append (G7 r k)
def Bd:D->D->R D
 | .int i,.int j=>iI (.int i) (.int j)
 | .tup ds,.int k=>if ds≠[]/\1<=k/\k<2^63/\ds.length*k.toNat<=1000000 then .ok (.tup (afO k.toNat ds).flatten) else .bad
 |_,_=> .bad
theorem Ew:iY X (ag4 .Mult) Bd:=by
 let⟨r0,o0,c0⟩:=qC (X:=X);show⟨_,OpR.or o0 abQ,λρ O σ H Q x y dx dy j0 rx ry h=>?_⟩;cases dx <;> cases dy <;> first
  |show h.elim
  |skip
 .show .inl (c0 ρ O σ H Q x y _ _ j0 rx ry h)
 .rename_i ds k;have h:good X (rD X) O (if ds≠[]/\1<=k/\k<2^63/\ds.length*k.toNat<=1000000 then .ok (.tup (afO k.toNat ds).flatten) else .bad) σ H Q:=h;by_cases hc:ds≠[]/\1<=k/\k<2^63/\ds.length*k.toNat<=1000000
  .rw[z9p hc] at h;let⟨a,us,rfl,ha,r1⟩:=rx.tup;let⟨h0,h1,h2,h3⟩:=hc;show .inr ⟨a,k,us,rfl,ry.int,ha,λz=>h0 (by have:=r1.length;rw[z] at this;show agE this),h1,h2,by rw[<-r1.length];show z0b h3 eO,λz=>?_,λz l hl=>?_⟩
   .subst z;have e:(afO (1:Int).toNat ds).flatten=ds:=()
    rw[e] at h;show fin h (gA ha r1)
   .show h _ _ (Same.upd hl) (Rep.sW hl (G7 r1 _))
  .rw[z9n hc] at h;show h.elim
end
def gH:D->Bool
 | .tup _=>false
 | .lst _=>false
 |_=>true
def vD:D->V
 | .non=> .non
 | .bl b=> .bl b
 | .int i=> .int i
 | .str x=> .str x
 |_=> .non
section
variable{K:afM}{O:afK->Prop}{H:Hp}
theorem Vd{d:D}{v:V}(f:gH d=true)(r:Rep K O H d v):v=vD d:=by
 cases d with
 |non=>show r.non
 |bl b=>show r.bl
 |int i=>show r.int
 |str x=>show r.str
 |tup _=>cases f
 |lst _=>cases f
theorem QT:∀{ds:List D} {vs:List V},ds.all gH=true->aM K O H ds vs->vs=ds.map vD
 |[],vs,_,r=>r.nil_inv
 | d::ds,vs,f,r=>by
  let⟨x,t,rfl,h1,h2⟩:=r.cons_inv;rw[ah2,agY] at f;rw[Vd f.1 h1,QT f.2 h2];rfl
theorem Yb{d:D}(f:gH d=true):flatV (vD d)=true:=by cases d <;> first |rfl |cases f
theorem aeR{a b:D}(fa:gH a=true)(fb:gH b=true):eqV (vD a) (vD b)=dF a b:=by
 cases a <;> cases b <;> first |rfl |(simp[gH] at fa;done) |(simp[gH] at fb;done) |(rw[dJ];rfl) |(simp[vD,eqV,je,jf,jg,jh,ji,fL,dJ])
theorem abv{d:D}(fd:gH d=true):∀{ds:List D},ds.all gH=true->inV (vD d) (ds.map vD)=ds.any λy=>dF y d
 |[],_=>rfl
 | y::ds,f=>by
  rw[ah2,agY] at f;have ih:=abv fd f.2;unfold inV at ih |-;rw[z1h,aj9,aj9,aeR f.1 fd,ih]
theorem Ve:∀{ds:List D},ds.all gH=true->(ds.map vD).all flatV=true
 |[],_=>rfl
 | y::ds,f=>by
  rw[ah2,agY] at f;rw[z1h,ah2,Yb f.1,Ve f.2];rfl
end
def QV:D->Option (List D)
 | .tup ds=>some ds
 | .lst ds=>some ds
 |_=>none
def IK(neg:Bool)(d s:D):R D:=match QV s with
 |some ds=>if gH d=true/\ds.all gH=true then .ok (.bl (if neg then !(ds.any λy=>dF y d) else ds.any λy=>dF y d)) else .bad
 |none=> .bad
section
variable{X:Cx}
theorem in_of{neg:Bool}{ρ:ao}{Q:VK}{x y:V}{dx dy:D}(rx:Rep X.K O H dx x)(ry:Rep X.K O H dy y)(h:good X (rD X) O (IK neg dx dy) σ H Q):rIn X.K neg x y H Q:=by
 unfold IK at h;cases e:QV dy with
 |none=>rw[e] at h;show h.elim
 | some ds=>
  rw[e] at h;have h:good X (rD X) O (if gH dx=true/\ds.all gH=true then .ok (.bl (if neg then !(ds.any λy=>dF y dx) else ds.any λy=>dF y dx)) else .bad) σ H Q:=h;by_cases hc:gH dx=true/\ds.all gH=true
  .rw[z9p hc] at h;have key:∃p xs,y= .ref p/\(SqL X.K H p xs\/SqT X.K H p xs)/\aM X.K O H ds xs:=by
    cases dy with
    | tup ds'=>
     cases e;let⟨a,xs,rfl,hq,rs⟩:=ry.tup;show⟨a,xs,rfl,.inr hq,rs⟩
    | lst ds'=>
     cases e;let⟨a,xs,rfl,hq,_,rs⟩:=ry.lst;show⟨a,xs,rfl,.inl hq,rs⟩
    |_=>cases e
   let⟨p,xs,rfl,hq,rs⟩:=key;have e1:=Vd hc.1 rx;have e2:=QT hc.2 rs;subst e1 e2;show⟨p,_,rfl,hq,Yb hc.1,Ve hc.2,?_⟩;rw[abv hc.1 hc.2];show fin h (dO _)
  .rw[z9n hc] at h;show h.elim
theorem aeS:iY X (agn .In) (IK false):=⟨_,op_in_seq,λρ O σ H Q x y dx dy j0 rx ry h=>in_of (ρ:=ρ) rx ry h⟩
end
def jO:Bool->af2->afK->afK->Nat->Prop
 |true,h,it,l,k=>h.IsTupleIter it l k
 |false,h,it,l,k=>h.IsListIter it l k
def jP:Bool->af2->afK->Array afL->Prop
 |true,h,l,xs=>h.IsTuple l xs
 |false,h,l,xs=>h.IsList l xs
def itC(t:Bool):String:=if t then "tuple_iterator" else "list_iterator"
def Sq:Bool->afM->Hp->afK->List V->Prop
 |true,K,H,a,xs=>SqT K H a xs
 |false,K,H,a,xs=>SqL K H a xs
theorem jO.of(x:jO t h it l k)(q:∀o,h.get? it=some o->h'.get? it=some o):jO t h' it l k:=by
 cases t <;> (let⟨o,e,r⟩:=x;show⟨o,q o e,r⟩)
theorem jO.obj(x:jO t h it l k):∃o,h.get? it=some o/\∀v,o.data≠.cell v:=by
 cases t <;> (let⟨o,e,c,d⟩:=x;show⟨o,e,λv z=>by rw[d] at z;cases z⟩)
theorem jO.new(e:h.get? it=some {cls:= .type (itC t),data:= .fields #[.ref l,.int 0 0]}):jO t h it l 0:=by
 cases t <;> show⟨_,e,rfl,rfl⟩
theorem jP.of(x:jP t h l xs)(q:∀o,h.get? l=some o->h'.get? l=some o):jP t h' l xs:=by
 cases t <;> (let⟨o,e,r⟩:=x;show⟨o,q o e,r⟩)
section
variable{prog:afZ}{w:af4}{A:af5}{E:afL->afN->Prop}{s:afN}
theorem nextT{v:afL}(hit:s.heap.IsTupleIter it l i)(hl:s.heap.IsTuple l xs)(hv:xs[i]?=some v)
  (hQ:∀h',h'.IsTupleIter it l (i+1)->ahb it s.heap h'->Q v {s with heap:=h'}):afS (model prog w) A (agc (.ref it)) Q E s:=by
 have ty:=hit.typeIs;let⟨o,g,c,dt⟩:=hit;let⟨p,gp,_,m,dp⟩:=hl;unfold agc;show aft (agG (name:=ahm "__next__") ty F.slot_tuple_iterator_next (agT F.slot_tuple_iterator_next ty F.entry_tuple_iterator_next ?_ (F.args_tuple_iterator_next_1 _)));show afS _ _ (field (.ref it) 0 >>=_) _ _ s;show aft (agf g dt (x:= .ref l) rfl ?_);show afS _ _ (if (af0 l ==agi)=true then _ else _) _ _ s;rw[z9n (show ¬((af0 l ==agi)=true) from af6)];show afS _ _ (field (.ref it) 1 >>=_) _ _ s;show aft (agf g dt (x:= .int i 0) rfl ?_);show afS _ _ (seqItems? (.ref l) >>=_) _ _ s;show aft (agI gp dp ?_);simp only[ahs,hv];show aft (ai5 g dt () (afQ ⟨v,rfl,afQ (hQ _ ⟨_,aiA _ g (ajx (ait dt _)),(Obj.cls_mapFields ..).trans c,?_⟩ (ajJ ..))⟩));rw[ait dt];simp[agN]
theorem aai(hh:A.handled=none)(hit:s.heap.IsTupleIter it l i)(hl:s.heap.IsTuple l xs)(hv:xs[i]?=none)
  (hE:∀h' e,ajV it s.heap h'->(∃o,h'.get? e=some o/\o.cls= .type "StopIteration")->E (.ref e) {s with heap:=h'}):afS (model prog w) A (agc (.ref it)) Q E s:=by
 have ty:=hit.typeIs;let⟨o,g,c,dt⟩:=hit;let⟨p,gp,_,m,dp⟩:=hl;unfold agc;show aft (agG (name:=ahm "__next__") ty F.slot_tuple_iterator_next (agT F.slot_tuple_iterator_next ty F.entry_tuple_iterator_next ?_ (F.args_tuple_iterator_next_1 _)));show afS _ _ (field (.ref it) 0 >>=_) _ _ s;show aft (agf g dt (x:= .ref l) rfl ?_);show afS _ _ (if (af0 l ==agi)=true then _ else _) _ _ s;rw[z9n (show ¬((af0 l ==agi)=true) from af6)];show afS _ _ (field (.ref it) 1 >>=_) _ _ s;show aft (agf g dt (x:= .int i 0) rfl ?_);show afS _ _ (seqItems? (.ref l) >>=_) _ _ s;show aft (agI gp dp ?_);simp only[ahs,hv];show aft (ahG (aft (ai5 g dt () ?_)));show afS _ _ (newExc (.type "StopIteration") [] >>=_) _ _ _;show aft ?_;simp only[newExc,newTuple];show aft (aha ?_ (by size_fits));show aft (m:=firstArgMember _ _) (ahE (a:=agi) (by first |(simp only[firstArgMember];rfl) |rfl) ?_);show aha ?_ (by size_fits);simp only[raiseNew];show aft (wpAny_handled ?_);first |rw[show A.in1.handled=none from hh] |rw[hh]
 show aft (afQ (wpAny_throw (hE _ _ (((ajJ ..).extBut.push _).push _) ⟨_,z1f _ rfl,rfl⟩)))
theorem sy{v:afL}(hit:jO t s.heap it l i)(hl:jP t s.heap l xs)(hv:xs[i]?=some v)
  (hQ:∀h',jO t h' it l (i+1)->ahb it s.heap h'->Q v {s with heap:=h'}):afS (model prog w) A (agc (.ref it)) Q E s:=by
 cases t with
 |true=>show nextT hit hl hv hQ
 |false=>show wpAny_nextOf_list_item hit hl hv hQ
theorem pH(hh:A.handled=none)(hit:jO t s.heap it l i)(hl:jP t s.heap l xs)(hv:xs[i]?=none)
  (hE:∀h' e,ajV it s.heap h'->(∃o,h'.get? e=some o/\o.cls= .type "StopIteration")->E (.ref e) {s with heap:=h'}):afS (model prog w) A (agc (.ref it)) Q E s:=by
 cases t with
 |true=>show aai hh hit hl hv hE
 |false=>show wpAny_nextOf_list_end hh hit hl hv hE
theorem vd(hl:jP t s.heap l xs)(hQ:Q (.ref s.heap.objs.size) {s with heap:=s.heap.push {cls:= .type (itC t),data:= .fields #[.ref l,.int 0 0]}}):
  afS (model prog w) A (pyIter (.ref l)) Q E s:=by
 cases t with
 |true=>show wpAny_pyIter_tuple hl hQ
 |false=>show akh hl hQ
theorem qK{T:afK}{arr:Array afL}{x:afL}{Q:Unit->afN->Prop}(hT:s.heap.get? T=some {cls:= .type "tuple",data:= .seq arr})
  (h:∀h',h'.get? T=some {cls:= .type "tuple",data:= .seq (arr.setIfInBounds k x)}->ahb T s.heap h'->Q Unit.unit {s with heap:=h'})(hs:arr.size<=sizeLine:=by size_fits):afS (model prog w) A (updateSeq T (·.setIfInBounds k x)) Q E s:=by
 show wpAny_updateSeq (hz:=hs) (_hz':=by simpa using Nat.le_succ_of_le hs) hT rfl (h _ (by rw[aiA _ hT rfl];simp[ahx]) (ajJ ..))
end
section
variable{X:Cx}{pins:List (afK×Obj)}{σ:St}{H:Hp}{s:afN}
theorem _root_.L2.Inv.fp{b:afK}(I:Inv X pins σ H s)(f:FpOk X pins H b)(sb:ahb b s.heap h'):Inv X pins σ H {s with heap:=h'}:=
 I.turned (t':=s.toks) (λc o hc e=>(sb.2 c hc).trans e) f.1 f.2.1 f.2.2.2.1 f.2.2.2.2.1 f.2.2.2.2.2
theorem _root_.L2.Inv.fpE{b:afK}(I:Inv X pins σ H s)(f:FpOk X pins H b)(sb:ajV b s.heap h'):Inv X pins σ H {s with heap:=h'}:=
 I.turned (t':=s.toks) (λc o hc e=>sb c o hc e) f.1 f.2.1 f.2.2.2.1 f.2.2.2.2.1 f.2.2.2.2.2
theorem _root_.L2.FpOk.upd{b p:afK}{o:HO}(f:FpOk X pins H b)(n:b≠p):FpOk X pins (L2.upd H p o) b:=⟨by rw[upd_ne n];show f.1,f.2⟩
theorem _root_.L2.Inv.sq{xs:List V}(I:Inv X pins σ H s)(q:Sq t X.K H l xs):∃its:List afL,Vals xs its/\jP t s.heap l its.toArray:=by
 cases t with
 |true=>let⟨its,r,p,_⟩:=I.tuple q;show⟨its,r,p⟩
 |false=>let⟨its,r,p,_⟩:=I.list q;show⟨its,r,p.isList⟩
theorem _root_.L2.Inv.wY{xs ys:List V}(I:Inv X pins σ H s)(q:Sq t X.K H l xs)(r:Sq t X.K H l ys):xs=ys:=by
 cases t with
 |true=>show I.tuple_inj q r
 |false=>show I.list_inj q r
end
abbrev iz(h:af2)(T:afK)(arr:Array afL):Prop:=h.get? T=some {cls:= .type "tuple",data:= .seq arr}
structure Z2(h:af2)(z TI TO i1 i2:afK)(t1 t2:Bool)(l1 l2:afK)(k:Nat):Prop where
 z:aik h z TI TO .none
 ti:iz h TI #[.ref i1,.ref i2]
 to:∃a b,iz h TO #[a,b]
 s1:jO t1 h i1 l1 k
 s2:jO t2 h i2 l2 k
structure Z3(h:af2)(z TI TO i1 i2 i3:afK)(t1 t2 t3:Bool)(l1 l2 l3:afK)(k:Nat):Prop where
 z:aik h z TI TO .none
 ti:iz h TI #[.ref i1,.ref i2,.ref i3]
 to:∃a b c,iz h TO #[a,b,c]
 s1:jO t1 h i1 l1 k
 s2:jO t2 h i2 l2 k
 s3:jO t3 h i3 l3 k
def aaj(K:afM)(t1:Bool)(l1:afK)(t2:Bool)(l2:afK):It:=
 ⟨λi H=>∃xs ys x y,Sq t1 K H l1 xs/\xs[i]?=some x/\Sq t2 K H l2 ys/\ys[i]?=some y,
  λi H v H'=>∃p x y,H p=none/\v= .ref p/\H'=upd H p (.tup [x,y])/\(∀xs,Sq t1 K H l1 xs->xs[i]?=some x)/\∀ys,Sq t2 K H l2 ys->ys[i]?=some y,
  λi H=>∃xs ys,Sq t1 K H l1 xs/\Sq t2 K H l2 ys/\(xs.length<=i\/ys.length<=i)⟩
def aak(K:afM)(t1:Bool)(l1:afK)(t2:Bool)(l2:afK)(t3:Bool)(l3:afK):It:=
 ⟨λi H=>∃xs ys zs x y z,Sq t1 K H l1 xs/\xs[i]?=some x/\Sq t2 K H l2 ys/\ys[i]?=some y/\Sq t3 K H l3 zs/\zs[i]?=some z,
  λi H v H'=>∃p x y z,H p=none/\v= .ref p/\H'=upd H p (.tup [x,y,z])/\(∀xs,Sq t1 K H l1 xs->xs[i]?=some x)/\(∀ys,Sq t2 K H l2 ys->ys[i]?=some y)/\∀zs,Sq t3 K H l3 zs->zs[i]?=some z,
  λi H=>∃xs ys zs,Sq t1 K H l1 xs/\Sq t2 K H l2 ys/\Sq t3 K H l3 zs/\(xs.length<=i\/ys.length<=i\/zs.length<=i)⟩
section
variable{X:Cx}{pins:List (afK×Obj)}{σ:St}{H:Hp}{s:afN}{A':af5}{E:afL->afN->Prop}
theorem Yc:2<=sizeLine:=z0b {} (z0e dW)
theorem aal:3<=sizeLine:=z0b {} (z0e dW)
theorem Yd{TI TO:afK}{xs ys:List V}{x y:V}(I:Inv X pins σ H s)
  (fz:FpOk X pins H z)(fO:FpOk X pins H TO)(f1:FpOk X pins H i1)(f2:FpOk X pins H i2)
  (n1:TI≠z)(n2:TO≠z)(n3:i1≠z)(n4:i2≠z)(n5:TI≠TO)(n6:TI≠i1)(n7:TI≠i2)(n8:TO≠i1)(n9:TO≠i2)(n10:i1≠i2)
  (st:Z2 s.heap z TI TO i1 i2 t1 t2 l1 l2 k)(q1:Sq t1 X.K H l1 xs)(e1:xs[k]?=some x)(q2:Sq t2 X.K H l2 ys)(e2:ys[k]?=some y)
  (hQ:∀h',Inv X pins σ (upd H s.heap.objs.size (.tup [x,y])) {s with heap:=h'}->aik h' z TI TO (agN s.heap.objs.size)->iz h' TI #[.ref i1,.ref i2]->(∃a b,iz h' TO #[a,b])->
   jO t1 h' i1 l1 (k+1)->jO t2 h' i2 l2 (k+1)->Q (.ref s.heap.objs.size) {s with heap:=h'}):
  afS (model X.prog X.w) A' (ahg.«zip.__next__» ⟨[.ref z],[]⟩) (λfin s'=>∃v,fin= .done (.ret v)/\Q v s') E s:=by
 let⟨hz,hTI,⟨a,b,hTO⟩,h1,h2⟩:=st;show afS _ _ (field (.ref z) 2 >>=_) _ _ _;show aft (agf hz rfl (x:= .bool false) rfl ?_);show afS _ _ (field (.ref z) 3 >>=_) _ _ _;show aft (agf hz rfl (x:= .ref TI) rfl ?_);show aft (agI hTI rfl ?_);show afS _ _ (agk (.ref z) >>=_) _ _ _;show aft ?_;unfold agk;show aft (agf hz rfl (x:= .none) rfl (afQ ?_));simp only[if_true];show aft (ahG (aft (agf hz rfl (x:= .ref TO) rfl ?_)));show aft (agB hz () λg1 z1 b1=>?_)
 replace z1:aik g1 z TI TO .ellipsis:=z1
 have I1:=I.fp fz b1;show aft ?_;simp only[ajm,ajG,ahX,ajR];let⟨us,r1,p1⟩:=I1.sq q1;let⟨u,hu,ru⟩:=r1.get e1;show aft (aft (ahy ?_));show afS _ _ (agc (.ref i1) >>=_) _ _ _;show aft (sy (h1.of λo e=>b1.extBut _ _ n3 e) p1 (v:=u) (by simpa using hu) λg2 s12 b2=>afQ ?_);have I2:=I1.fp f1 b2;have o2:iz g2 TO #[a,b]:=b2.extBut _ _ n8 (b1.extBut _ _ n2 hTO);show aft (agI o2 rfl (aft (qK o2 λg3 o3 b3=>aft (ahR (afQ ?_)))))
 replace o3:iz g3 TO #[u,b]:=o3
 have I3:=I2.fp fO b3;let⟨vs,r2,p2⟩:=I3.sq q2;let⟨v,hv,rv⟩:=r2.get e2;show aft (aft (ahy ?_));show afS _ _ (agc (.ref i2) >>=_) _ _ _;show aft (sy (h2.of λo e=>b3.extBut _ _ (afT n9) (b2.extBut _ _ (afT n10) (b1.extBut _ _ n4 e))) p2 (v:=v) (by simpa using hv) λg4 s24 b4=>afQ ?_);have I4:=I3.fp f2 b4;have o4:iz g4 TO #[u,b]:=b4.extBut _ _ n9 o3;show aft (agI o4 rfl (aft (qK o4 λg5 o5 b5=>aft (ahR (afQ (afQ ?_))))))
 replace o5:iz g5 TO #[u,v]:=o5
 have I5:=I4.fp fO b5;show aft (agI o5 rfl (aft (ajQ ?_)));have sz:g5.objs.size=s.heap.objs.size:=by rw[b5.1,b4.1,b3.1,b2.1,b1.1]
 have I6:Inv X pins σ (upd H g5.objs.size (.tup [x,y])) {s with heap:=g5.push {cls:= .type "tuple",data:= .seq #[u,v]}}:=
  I5.laid (t':=s.toks) (λb u e=>z1a _ e) (z0g _) ⟨Yc,[u,v],.cons ru (.cons rv .nil),⟨_,z1f _ rfl,rfl,rfl,_,rfl⟩⟩
 have z5:aik g5 z TI TO .ellipsis:=b5.extBut _ _ (afT n2) (b4.extBut _ _ (afT n4) (b3.extBut _ _ (afT n2) (b2.extBut _ _ (afT n3) z1)));have lt:∀{c o},g5.get? c=some o->c≠g5.objs.size:=λe=>agD (z2c e);show afS _ _ (agQ (.ref z) (.ref g5.objs.size) >>=_) _ _ _;show aft ?_;unfold agQ;show aft (agB (z1a _ z5) () λg7 z7 b7=>?_)
 replace z7:aik g7 z TI TO (agN g5.objs.size):=z7
 have I7:=I6.fp (fz.upd (lt z5)) b7;show agB z7 () λg8 z8 b8=>?_
 replace z8:aik g8 z TI TO (agN g5.objs.size):=z8
 have I8:=I7.fp (fz.upd (lt z5)) b8;have up:∀c o,c≠z->g5.get? c=some o->g8.get? c=some o:=λc o c1 e=>b8.extBut _ _ c1 (b7.extBut _ _ c1 (z1a _ e));show afQ ⟨_,rfl,?_⟩;rw[sz] at I8 z8;show Q (.ref g5.objs.size) _;rw[sz];show hQ g8 I8 z8 (up _ _ n1 (b5.extBut _ _ n5 (b4.extBut _ _ n7 (b3.extBut _ _ n5 (b2.extBut _ _ n6 (b1.extBut _ _ n1 hTI)))))) ⟨u,v,up _ _ n2 o5⟩ ?_ ?_
 .show s12.of λo e=>up _ _ n3 (b5.extBut _ _ (afT n8) (b4.extBut _ _ n10 (b3.extBut _ _ (afT n8) e)))
 .show s24.of λo e=>up _ _ n4 (b5.extBut _ _ (afT n9) e)
theorem aam{TI TO:afK}{xs ys:List V}{Q:Fin->afN->Prop}(hh:A'.handled=none)(I:Inv X pins σ H s)
  (fz:FpOk X pins H z)(fO:FpOk X pins H TO)(f1:FpOk X pins H i1)(f2:FpOk X pins H i2)
  (n1:TI≠z)(n2:TO≠z)(n3:i1≠z)(n4:i2≠z)(n5:TI≠TO)(n6:TI≠i1)(n7:TI≠i2)(n8:TO≠i1)(n9:TO≠i2)(n10:i1≠i2)
  (st:Z2 s.heap z TI TO i1 i2 t1 t2 l1 l2 k)(q1:Sq t1 X.K H l1 xs)(q2:Sq t2 X.K H l2 ys)(en:xs.length<=k\/ys.length<=k)
  (hE:∀h' e,Inv X pins σ H {s with heap:=h'}->(∃o,h'.get? e=some o/\o.cls= .type "StopIteration")->E (.ref e) {s with heap:=h'}):
  afS (model X.prog X.w) A' (ahg.«zip.__next__» ⟨[.ref z],[]⟩) Q E s:=by
 let⟨hz,hTI,⟨a,b,hTO⟩,h1,h2⟩:=st;show afS _ _ (field (.ref z) 2 >>=_) _ _ _;show aft (agf hz rfl (x:= .bool false) rfl ?_);show afS _ _ (field (.ref z) 3 >>=_) _ _ _;show aft (agf hz rfl (x:= .ref TI) rfl ?_);show aft (agI hTI rfl ?_);show afS _ _ (agk (.ref z) >>=_) _ _ _;show aft ?_;unfold agk;show aft (agf hz rfl (x:= .none) rfl (afQ ?_));simp only[if_true];show aft (ahG (aft (agf hz rfl (x:= .ref TO) rfl ?_)));show aft (agB hz () λg1 z1 b1=>?_)
 replace z1:aik g1 z TI TO .ellipsis:=z1
 have I1:=I.fp fz b1;show aft ?_;simp only[ajm,ajG,ahX,ajR];let⟨us,r1,p1⟩:=I1.sq q1;have leave:∀{g g':af2} {e:afK} {c:afK},Inv X pins σ H {s with heap:=g}->aik g z TI TO .ellipsis->FpOk X pins H c->c≠z->ajV c g g'->(∃o,g'.get? e=some o/\o.cls= .type "StopIteration")->
   afS (model X.prog X.w) A' (setField (.ref z) 0 .none) (λ_ s'=>E (.ref e) s') E {s with heap:=g'}:=λ{g g' e c} Ig zg fc nc eb ⟨oe,hoe,hce⟩=>by
  have Ye:aik g' z TI TO .ellipsis:=eb _ _ (afT nc) zg;have hez:e≠z:=λq=>by subst q;rw[Ye] at hoe;cases hoe;simp at hce
  have Ig':Inv X pins σ H {s with heap:=g'}:=Ig.fpE fc eb;show agB Ye () λg'' _ b''=>hE g'' e (Ig'.fp fz b'') ⟨oe,b''.extBut _ _ hez hoe,hce⟩
 show aft (aft (ahy ?_));show afS _ _ (agc (.ref i1) >>=_) _ _ _;have h1':=h1.of (h':=g1) λo e=>b1.extBut _ _ n3 e;by_cases hx:xs.length<=k
 .show aft (pH hh h1' p1 (by have:=r1.length;simp;omega) λg2 e eb ex=>leave I1 z1 f1 n3 eb ex)
 .have hy:ys.length<=k:=by rcases en with h |h;show absurd h hx;show h
  let⟨u,hu,ru⟩:=r1.get (i:=k) (x:=xs[k]'()) (ahe ());show aft (sy h1' p1 (v:=u) (by simpa using hu) λg2 s12 b2=>afQ ?_);have I2:=I1.fp f1 b2;have o2:iz g2 TO #[a,b]:=b2.extBut _ _ n8 (b1.extBut _ _ n2 hTO);show aft (agI o2 rfl (aft (qK o2 λg3 o3 b3=>aft (ahR (afQ ?_)))));have I3:=I2.fp fO b3;let⟨vs,r2,p2⟩:=I3.sq q2;have z3:aik g3 z TI TO .ellipsis:=b3.extBut _ _ (afT n2) (b2.extBut _ _ (afT n3) z1);show aft (aft (ahy ?_));show afS _ _ (agc (.ref i2) >>=_) _ _ _;show aft (pH hh (h2.of λo e=>b3.extBut _ _ (afT n9) (b2.extBut _ _ (afT n10) (b1.extBut _ _ n4 e))) p2 (by have:=r2.length;simp;omega) λg4 e eb ex=>leave I3 z3 f2 n4 eb ex)
end
theorem Yg{kk}{TI TO:afK}
  (n1:TI≠z)(n2:TO≠z)(n3:i1≠z)(n4:i2≠z)(n5:TI≠TO)(n6:TI≠i1)(n7:TI≠i2)(n8:TO≠i1)(n9:TO≠i2)(n10:i1≠i2):
  Turn P w K (.Tuple u6 kk pp) (aaj K t1 l1 t2 l2) [z,TI,TO,i1,i2] z (λi h=>Z2 h z TI TO i1 i2 t1 t2 l1 l2 i) where
 mem:=()
 obj:=λi h st b hb=>by
  let⟨hz,hTI,⟨x,y,hTO⟩,h1,h2⟩:=st;simp only[af9,agZ,or_false] at hb;rcases hb with rfl |rfl |rfl |rfl |rfl
  .show⟨_,hz,λv q=>by have q':ajU _=aiD v:=q;cases q'⟩
  .show⟨_,hTI,λv q=>by have q':ak3 _=aiD v:=q;cases q'⟩
  .show⟨_,hTO,λv q=>by have q':ak3 _=aiD v:=q;cases q'⟩
  .show h1.obj
  .show h2.obj
 keep:=λi h h' st k=>by
  let⟨hz,hTI,⟨x,y,hTO⟩,h1,h2⟩:=st;show⟨k _ () _ hz,k _ () _ hTI,⟨x,y,k _ () _ hTO⟩,h1.of λo e=>k _ () o e,h2.of λo e=>k _ () o e⟩
 item :=by
  intro X hP hw hK hc i pins s σ H E I hf st hg;subst hP hw hK;let⟨xs,ys,x,y,q1,e1,q2,e2⟩:=hg;have hT:s.TypeIs (.ref z) "zip" :=⟨_,st.z,rfl⟩;unfold pyNext;show aft (ah3 (agG (name:=ahm "__next__") hT F.slot_zip_next (agT F.slot_zip_next hT F.entry_zip_next
   (Yd I (hf z ()) (hf TO ()) (hf i1 ()) (hf i2 ()) n1 n2 n3 n4 n5 n6 n7 n8 n9 n10 st q1 e1 q2 e2 λh' I' z' ti' QW s1' s2'=>afQ ⟨_,rfl,?_⟩) (F.args_zip_next_1 _))))
  have hp:H s.heap.objs.size=none:=I.hok.fresh (z0g _);have nz:∀b,b∈[z,TI,TO,i1,i2]->b≠s.heap.objs.size:=λb hb q=>by
   obtain⟨o,e,_⟩:∃o,s.heap.get? b=some o/\True:=by
    let⟨hz,hTI,⟨x,y,hTO⟩,h1,h2⟩:=st;simp only[af9,agZ,or_false] at hb;rcases hb with rfl |rfl |rfl |rfl |rfl
    .show⟨_,hz,trivial⟩
    .show⟨_,hTI,trivial⟩
    .show⟨_,hTO,trivial⟩
    .let⟨o,e,_⟩:=h1.obj;show⟨o,e,trivial⟩
    .let⟨o,e,_⟩:=h2.obj;show⟨o,e,trivial⟩
   show absurd (z2c e) (by rw[q];show agS _)
  show wpAny_letOwnedTupleGo_zip z' λh'' z'' b''=>⟨.ref s.heap.objs.size,upd H s.heap.objs.size (.tup [x,y]),I'.fp ((hf z ()).upd (nz z ())) b'',rfl,⟨_,x,y,hp,rfl,rfl,λxs' q=>by rw[I.wY q q1];show e1,λys' q=>by rw[I.wY q q2];show e2⟩,?_,λb hb=>?_⟩
  .let⟨a,b,QW⟩:=QW;show⟨z'',b''.extBut _ _ n1 ti',⟨a,b,b''.extBut _ _ n2 QW⟩,s1'.of λo e=>b''.extBut _ _ n3 e,s2'.of λo e=>b''.extBut _ _ n4 e⟩
  .rw[upd_ne (nz b hb)];show (hf b hb).1
 done:=by
  intro X hP hw hK hc i pins s σ H E I hf st hg;subst hP hw hK;let⟨xs,ys,q1,q2,en⟩:=hg;have hT:s.TypeIs (.ref z) "zip" :=⟨_,st.z,rfl⟩;unfold pyNext;show aft (ah3 (agG (name:=ahm "__next__") hT F.slot_zip_next (agT F.slot_zip_next hT F.entry_zip_next
   (aam (I.ok.hd hc) I (hf z ()) (hf TO ()) (hf i1 ()) (hf i2 ()) n1 n2 n3 n4 n5 n6 n7 n8 n9 n10 st q1 q2 en λh' e I' ex=>?_) (F.args_zip_next_1 _))))
  let⟨o,ho,ec⟩:=ex;show aft (ajn (T:= "StopIteration") (b:=true) ⟨o,ho,ec⟩ isSubtype_stop (afQ ⟨rfl,I'⟩))
 self:=λ_ _ _ _ _ st h=>ajo st.z h
abbrev itR(t:Bool)(l:afK):Obj:={cls:= .type (itC t),data:= .fields #[.ref l,.int 0 0]}
abbrev Yh(h:af2)(t1:Bool)(l1:afK):af2:=h.push (itR t1 l1)
abbrev zA2(h:af2)(t1:Bool)(l1:afK)(t2:Bool)(l2:afK):af2:=(Yh h t1 l1).push (itR t2 l2)
abbrev zA3(h:af2)(t1:Bool)(l1:afK)(t2:Bool)(l2:afK):af2:=(zA2 h t1 l1 t2 l2).push {cls:= .type "tuple",data:= .seq #[.ref h.objs.size,.ref (Yh h t1 l1).objs.size]}
abbrev zA4(h:af2)(t1:Bool)(l1:afK)(t2:Bool)(l2:afK):af2:=(zA3 h t1 l1 t2 l2).push {cls:= .type "tuple",data:= .seq #[.none,.none]}
abbrev Vf(h:af2)(t1:Bool)(l1:afK)(t2:Bool)(l2:afK):af2:=(zA4 h t1 l1 t2 l2).push {cls:= .type "zip",data:= .fields #[.none,.bool false,.bool false,.ref (zA2 h t1 l1 t2 l2).objs.size,.ref (zA3 h t1 l1 t2 l2).objs.size]}
theorem Wj(t1:Bool)(l1:afK)(t2:Bool)(l2:afK)(xs ys:Array afL):Meets (ahg.«zip.__new__» ⟨[.type "zip",.ref l1,.ref l2],[]⟩)
  (λ_ R s=>jP t1 s.heap l1 xs/\jP t2 s.heap l2 ys/\R (.ok (.ret (.ref (zA4 s.heap t1 l1 t2 l2).objs.size))) {s with heap:=Vf s.heap t1 l1 t2 l2}):=
 .of_wp λprog w A R s h=>by
  let⟨hp,g,d,tk,os⟩:=s;let⟨k1,k2,h⟩:=h;have hsub:=sub_zip;have L1:jP t1 (ajg ⟨hp,g,d,tk,os⟩) l1 xs:=k1;have L2:jP t2 (ajg ⟨Yh hp t1 l1,g,d,tk,os⟩) l2 ys:=k2.of λo e=>z1a _ e
  wp_walk using vd L1,vd L2
  show⟨_,rfl,h⟩
section
variable{prog:afZ}{w:af4}{A:af5}{E:afL->afN->Prop}{s:afN}
theorem Yi{ys:Array afL}(k1:jP t1 s.heap l1 xs)(k2:jP t2 s.heap l2 ys)
  (h:∀h',Z2 h' (s.heap.objs.size+4) (s.heap.objs.size+2) (s.heap.objs.size+3) s.heap.objs.size (s.heap.objs.size+1) t1 t2 l1 l2 0->(∀c o,s.heap.get? c=some o->h'.get? c=some o)->Q (.ref (s.heap.objs.size+4)) {s with heap:=h'}):
  afS (model prog w) A (call (.type "zip") [.ref l1,.ref l2]) Q E s:=by
 show callType_new F.called_zip {} (F.typeCall_zip_2 _ _) (F.newCall_zip_2 _ _) (λobj=>F.args_object_init_3 obj _ _) F.entry_zip_new (Wj t1 l1 t2 l2 xs ys) ⟨k1,k2,?_⟩;have z1:(Yh s.heap t1 l1).objs.size=s.heap.objs.size+1:=agw ..;have z2:(zA2 s.heap t1 l1 t2 l2).objs.size=s.heap.objs.size+2:=by rw[agw,z1]
 have z3:(zA3 s.heap t1 l1 t2 l2).objs.size=s.heap.objs.size+3:=by rw[agw,z2]
 have z4:(zA4 s.heap t1 l1 t2 l2).objs.size=s.heap.objs.size+4:=by rw[agw,z3]
 have a5:(Vf s.heap t1 l1 t2 l2).get? (zA4 s.heap t1 l1 t2 l2).objs.size=some _:=z1f _ rfl;have a4:(Vf s.heap t1 l1 t2 l2).get? (zA3 s.heap t1 l1 t2 l2).objs.size=some _:=z1a _ (z1f _ rfl);have a3:(Vf s.heap t1 l1 t2 l2).get? (zA2 s.heap t1 l1 t2 l2).objs.size=some _:=z1a _ (z1a _ (z1f _ rfl));have a2:(Vf s.heap t1 l1 t2 l2).get? (Yh s.heap t1 l1).objs.size=some (itR t2 l2):=z1a _ (z1a _ (z1a _ (z1f _ rfl)));have a1:(Vf s.heap t1 l1 t2 l2).get? s.heap.objs.size=some (itR t1 l1):=z1a _ (z1a _ (z1a _ (z1a _ (z1f _ rfl))));show _/\_;rw[z2,z3,z4] at a5;rw[z1,z2] at a3;rw[z3] at a4;rw[z1] at a2;rw[z4];show⟨⟨_,a5,rfl⟩,h _ ⟨a5,a3,⟨_,_,a4⟩,.new a1,.new a2⟩ λc o e=>z1a _ (z1a _ (z1a _ (z1a _ (z1a _ e))))⟩
end
theorem Yj:ahv "zip" =some (.type "zip"):={}
section
variable{X:Cx}{u6:List afV}{kk:Nat}{pp:Pos}{a b:afV}{p pos:Pos}
def aeT(K:afM)(ta:TA):TI:=λσ H R=>ta σ H λvs H1=>∃t1 l1 t2 l2,vs=[.ref l1,.ref l2]/\(∃xs,Sq t1 K H1 l1 xs)/\(∃ys,Sq t2 K H1 l2 ys)/\R (aaj K t1 l1 t2 l2) H1
theorem abR (hg:Gl X "zip") (hm:X.mg "zip" =none) (ha:PA X [a,b] ta) (he:starEach [a,b] X.env=(false,eval a X.env)::starEach [b] X.env:=by rfl) (hpl:(backTo pos (starEach [b] X.env)).any (·.1)=false:=by rfl):
    PI X (.Tuple u6 kk pp) (.Call (.Name "zip" p) [a,b] [] pos) (aeT X.K ta):=by
  intro pins s σ H R I h
  show Call_ (ld_blt I hg hm Yj (agK (thn (ha pos pins s σ H _ I h) λus s1 ⟨vs,H1,I1,r1,q1⟩=>?_) he hpl))
  let⟨t1,l1,t2,l2,e,⟨xs,w1⟩,⟨ys,w2⟩,q⟩:=q1
  subst e
  cases r1 with
  | cons r rr=>
    cases rr with
    | cons r' rr=>
      cases rr
      cases r
      cases r'
      let⟨vs1,_,p1⟩:=I1.sq w1
      let⟨vs2,_,p2⟩:=I1.sq w2
      show Yi p1 p2 λh' st k=>ajo st.z ⟨s1.heap.objs.size+4,[s1.heap.objs.size+4,s1.heap.objs.size+2,s1.heap.objs.size+3,s1.heap.objs.size,s1.heap.objs.size+1],_,_,H1,rfl,I1.kept (t':=s1.toks) k,Yg ?_ ?_ ?_ ?_ ?_ ?_ ?_ ?_ ?_ ?_,st,λc hc=>(by
        have hle:s1.heap.objs.size≤c:=by
          simp only[af9,agZ,or_false] at hc
          rcases hc with rfl |rfl |rfl |rfl |rfl <;> first |show akS _ |show aii _ _
        show I1.fpOk hle (I1.hok.fresh hle)),q⟩
      all_goals (show @Ne Nat _ _;omega)
end
def Kz(xs ys:List D):List D:=(xs.zip ys).map λp=> .tup [p.1,p.2]
def Ey(xs ys zs:List D):List D:=(xs.zip (ys.zip zs)).map λp=> .tup [p.1,p.2.1,p.2.2]
def zip2:List D->R (List D)
 |[x,y]=>(dD x).bind λxs=>(dD y).bind λys=> .ok (Kz xs ys)
 |_=> .bad
def Bf:List D->R (List D)
 |[x,y,z]=>(dD x).bind λxs=>(dD y).bind λys=>(dD z).bind λzs=> .ok (Ey xs ys zs)
 |_=> .bad
section
variable{K:afM}{O:afK->Prop}{H:Hp}
structure Src(K:afM)(O:afK->Prop)(H:Hp)(t:Bool)(a:afK)(ds:List D):Prop where
 ex:∃vs,Sq t K H a vs/\aM K O H ds vs
 no:t=false->¬O a
theorem wZ{d:D}{v:V}{ds:List D}(r:Rep K O H d v)(h:dD d= .ok ds):∃t a,v= .ref a/\Src K O H t a ds:=by
 cases d with
 |tup es=>cases h;let⟨a,xs,rfl,q,rs⟩:=r.tup;show⟨true,a,rfl,⟨xs,q,rs⟩,λz=>by cases z⟩
 |lst es=>cases h;let⟨a,xs,rfl,q,n,rs⟩:=r.lst;show⟨false,a,rfl,⟨xs,q,rs⟩,λ_=>n⟩
 |_=>cases h
theorem Src.go{O':afK->Prop}{H':Hp}{a:afK}{ds:List D}(s:Src K O H t a ds)(q:cT K O H O' H'):∃vs,Sq t K H' a vs/\aM K O' H' ds vs:=by
 let⟨vs,h,r⟩:=s.ex;cases t with
 |true=>show⟨vs,SqT.ext q.ext h,r.go q⟩
 |false=>show⟨vs,SqL.ext q.ext (s.no rfl) h,r.go q⟩
theorem aan{xs ys:List D}{d:D}(h:(Kz xs ys)[i]?=some d):∃x y,xs[i]?=some x/\ys[i]?=some y/\d= .tup [x,y]:=by
 unfold Kz at h;rw[z2b] at h;cases e:(xs.zip ys)[i]? with
 |none=>rw[e] at h;cases h
 |some p=>rw[e] at h;cases h;let⟨h1,h2⟩:=aiX.mp e;show⟨_,_,h1,h2,rfl⟩
theorem YR.zip2{a1 a2:afK}{xs ys:List D}(s1:Src K O H t1 a1 xs)(s2:Src K O H t2 a2 ys):YR K O H (aaj K t1 a1 t2 a2) (Kz xs ys):=by
 intro O' H' q i;let⟨v1,q1,r1⟩:=s1.go q;let⟨v2,q2,r2⟩:=s2.go q;show⟨λd e=>?_,λe=>⟨v1,v2,q1,q2,?_⟩⟩
 .let⟨x,y,e1,e2,rfl⟩:=aan e;let⟨u1,g1,w1⟩:=r1.get e1;let⟨u2,g2,w2⟩:=r2.get e2;show⟨⟨v1,v2,u1,u2,q1,g1,q2,g2⟩,λx H2 y=>?_⟩;let⟨p,x1,x2,hp,rfl,rfl,k1,k2⟩:=y;have k1:=k1 _ q1;have k2:=k2 _ q2;rw[g1] at k1;cases k1;rw[g2] at k2;cases k2;show⟨Same.upd hp,gA (SqT.of upd_same) ((aM.cons w1 (.cons w2 .nil)).same (Same.upd hp))⟩
 .rw[<-r1.length,<-r2.length];simp only[Kz,z1g,List.length_zip] at e;omega
end
section
variable{X:Cx}{u6:List afV}{kk:Nat}{pp:Pos}{a b:afV}{p pos:Pos}{fa:ao->R (List D)}
theorem KC(hg:Gl X "zip")(hm:X.mg "zip" =none)(ha:DA X [a,b] fa)(he:afP [a,b] X.env=(false,eval a X.env)::afP [b] X.env:=by rfl)(hpl:(ago pos (afP [b] X.env)).any (·.1)=false:=by rfl):
  DI X (.Tuple u6 kk pp) (.Call (.Name "zip" p) [a,b] [] pos) (λρ=>(fa ρ).bind zip2):=by
 show PI.imp (abR hg hm ha he hpl) λσ H Q q=>?_;let⟨ρ,O,j,q⟩:=q;show go j q λds vs H1 e1 s1 r1 j1 h1=>?_;unfold zip2 at h1;split at h1
 .rename_i x y;let⟨v1,v2,rfl,w1,w2⟩:=r1.two;cases ex:dD x with
  |bad=>rw[ex] at h1;show h1.elim
  |err c=>rw[ex] at h1;cases x <;> cases ex
  | ok xs=>
   cases ey:dD y with
   |bad=>rw[ex,R.aR,ey] at h1;show h1.elim
   |err c=>cases y <;> cases ey
   | ok ys=>
    rw[ex,R.aR,ey,R.aR] at h1;let⟨t1,a1,rfl,c1⟩:=wZ w1 ex;let⟨t2,a2,rfl,c2⟩:=wZ w2 ey;let⟨vs1,k1,_⟩:=c1.ex;let⟨vs2,k2,_⟩:=c2.ex;show⟨t1,a1,t2,a2,rfl,⟨vs1,k1⟩,⟨vs2,k2⟩,fin h1 (YR.zip2 c1 c2)⟩
 .show h1.elim
end
section
variable{X:Cx}{pins:List (afK×Obj)}{σ:St}{H:Hp}{s:afN}{A':af5}{E:afL->afN->Prop}
theorem Yk{TI TO:afK}{xs1 xs2 Nb:List V}{x1 x2 x3:V}(I:Inv X pins σ H s)(fz:FpOk X pins H z)(fO:FpOk X pins H TO)(f1:FpOk X pins H i1)(f2:FpOk X pins H i2)(f3:FpOk X pins H i3)
  (QX:TI≠z)(vf:TO≠z)(QZ:TI≠TO)(zV:i1≠z)(Bg:i2≠z)(Fx:i3≠z)(Yl:TI≠i1)(Ym:TI≠i2)(Yn:TI≠i3)(IV:TO≠i1)(Fy:TO≠i2)(Fz:TO≠i3)(n12:i1≠i2)(n13:i1≠i3)(n23:i2≠i3)
  (st:Z3 s.heap z TI TO i1 i2 i3 t1 t2 t3 l1 l2 l3 k)(q1:Sq t1 X.K H l1 xs1)(q2:Sq t2 X.K H l2 xs2)(q3:Sq t3 X.K H l3 Nb)(e1:xs1[k]?=some x1)(e2:xs2[k]?=some x2)(e3:Nb[k]?=some x3)
  (hQ:∀h',Inv X pins σ (upd H s.heap.objs.size (.tup [x1,x2,x3])) {s with heap:=h'}->aik h' z TI TO (agN s.heap.objs.size)->iz h' TI #[.ref i1,.ref i2,.ref i3]->(∃a b c,iz h' TO #[a,b,c])->
   jO t1 h' i1 l1 (k+1)->jO t2 h' i2 l2 (k+1)->jO t3 h' i3 l3 (k+1)->Q (.ref s.heap.objs.size) {s with heap:=h'}):
  afS (model X.prog X.w) A' (ahg.«zip.__next__» ⟨[.ref z],[]⟩) (λfin s'=>∃v,fin= .done (.ret v)/\Q v s') E s:=by
 let⟨hz,hTI,⟨a1,a2,a3,hTO⟩,h1,h2,h3⟩:=st;show afS _ _ (field (.ref z) 2 >>=_) _ _ _;show aft (agf hz rfl (x:= .bool false) rfl ?_);show afS _ _ (field (.ref z) 3 >>=_) _ _ _;show aft (agf hz rfl (x:= .ref TI) rfl ?_);show aft (agI hTI rfl ?_);show afS _ _ (agk (.ref z) >>=_) _ _ _;show aft ?_;unfold agk;show aft (agf hz rfl (x:= .none) rfl (afQ ?_));simp only[if_true];show aft (ahG (aft (agf hz rfl (x:= .ref TO) rfl ?_)));show aft (agB hz () λc0 z0 b0=>?_)
 replace z0:aik c0 z TI TO .ellipsis:=z0
 have J0:=I.fp fz b0;show aft ?_;simp only[ajm,ajG,ahX,ajR];let⟨Yo,r1,p1⟩:=J0.sq q1;let⟨u1,hu1,ru1⟩:=r1.get e1;show aft (aft (ahy ?_));show afS _ _ (agc (.ref i1) >>=_) _ _ _;show aft (sy (h1.of λo e=>(b0.extBut _ _ zV e)) p1 (v:=u1) (by simpa using hu1) λd1 sd1 vg=>afQ ?_);have Jd1:=J0.fp f1 vg;have od1:iz d1 TO #[a1,a2,a3]:=vg.extBut _ _ IV (b0.extBut _ _ vf hTO);show aft (agI od1 rfl (aft (qK od1 λc1 o1 w6=>aft (ahR (afQ ?_)))))
 replace o1:iz c1 TO #[u1,a2,a3]:=o1
 have J1:=Jd1.fp fO w6;let⟨us2,r2,p2⟩:=J1.sq q2;let⟨u2,hu2,ru2⟩:=r2.get e2;show aft (aft (ahy ?_));show afS _ _ (agc (.ref i2) >>=_) _ _ _;show aft (sy (h2.of λo e=>(w6.extBut _ _ (afT Fy) (vg.extBut _ _ (afT n12) (b0.extBut _ _ Bg e)))) p2 (v:=u2) (by simpa using hu2) λd2 sd2 zW=>afQ ?_);have Jd2:=J1.fp f2 zW;have od2:iz d2 TO #[u1,a2,a3]:=zW.extBut _ _ Fy o1;show aft (agI od2 rfl (aft (qK od2 λc2 o2 Bh=>aft (ahR (afQ ?_)))))
 replace o2:iz c2 TO #[u1,u2,a3]:=o2
 have J2:=Jd2.fp fO Bh;let⟨us3,r3,p3⟩:=J2.sq q3;let⟨u3,hu3,ru3⟩:=r3.get e3;show aft (aft (ahy ?_));show afS _ _ (agc (.ref i3) >>=_) _ _ _;show aft (sy (h3.of λo e=>(Bh.extBut _ _ (afT Fz) (zW.extBut _ _ (afT n23) (w6.extBut _ _ (afT Fz) (vg.extBut _ _ (afT n13) (b0.extBut _ _ Fx e)))))) p3 (v:=u3) (by simpa using hu3) λd3 sd3 Q0=>afQ ?_);have Jd3:=J2.fp f3 Q0;have od3:iz d3 TO #[u1,u2,a3]:=Q0.extBut _ _ Fz o2;show aft (agI od3 rfl (aft (qK od3 λc3 o3 Q6=>aft (ahR (afQ (afQ ?_))))))
 replace o3:iz c3 TO #[u1,u2,u3]:=o3
 have J3:=Jd3.fp fO Q6;show aft (agI o3 rfl (aft (ajQ ?_)));have sz:c3.objs.size=s.heap.objs.size:=by rw[Q6.1,Q0.1,Bh.1,zW.1,w6.1,vg.1,b0.1]
 have J7:Inv X pins σ (upd H c3.objs.size (.tup [x1,x2,x3])) {s with heap:=c3.push {cls:= .type "tuple",data:= .seq #[u1,u2,u3]}}:=
  J3.laid (t':=s.toks) (λb u e=>z1a _ e) (z0g _) ⟨aal,[u1,u2,u3],.cons ru1 (.cons ru2 (.cons ru3 .nil)),⟨_,z1f _ rfl,rfl,rfl,_,rfl⟩⟩
 have zc:aik c3 z TI TO .ellipsis:=(Q6.extBut _ _ (afT vf) (Q0.extBut _ _ (afT Fx) (Bh.extBut _ _ (afT vf) (zW.extBut _ _ (afT Bg) (w6.extBut _ _ (afT vf) (vg.extBut _ _ (afT zV) z0))))));have lt:∀{b o},c3.get? b=some o->b≠c3.objs.size:=λe=>agD (z2c e);show afS _ _ (agQ (.ref z) (.ref c3.objs.size) >>=_) _ _ _;show aft ?_;unfold agQ;show aft (agB (z1a _ zc) () λg7 z7 b7=>?_)
 replace z7:aik g7 z TI TO (agN c3.objs.size):=z7
 have J8:=J7.fp (fz.upd (lt zc)) b7;show agB z7 () λg8 z8 b8=>?_
 replace z8:aik g8 z TI TO (agN c3.objs.size):=z8
 have J9:=J8.fp (fz.upd (lt zc)) b8;have up:∀b o,b≠z->c3.get? b=some o->g8.get? b=some o:=λb o nb e=>b8.extBut _ _ nb (b7.extBut _ _ nb (z1a _ e));show afQ ⟨_,rfl,?_⟩;rw[sz] at J9 z8;show Q (.ref c3.objs.size) _;rw[sz];show hQ g8 J9 z8 (up _ _ QX (Q6.extBut _ _ QZ (Q0.extBut _ _ Yn (Bh.extBut _ _ QZ (zW.extBut _ _ Ym (w6.extBut _ _ QZ (vg.extBut _ _ Yl (b0.extBut _ _ QX hTI)))))))) ⟨u1,u2,u3,up _ _ vf o3⟩ ?_ ?_ ?_
 .show sd1.of λo e=>up _ _ zV (Q6.extBut _ _ (afT IV) (Q0.extBut _ _ n13 (Bh.extBut _ _ (afT IV) (zW.extBut _ _ n12 (w6.extBut _ _ (afT IV) e)))))
 .show sd2.of λo e=>up _ _ Bg (Q6.extBut _ _ (afT Fy) (Q0.extBut _ _ n23 (Bh.extBut _ _ (afT Fy) e)))
 .show sd3.of λo e=>up _ _ Fx (Q6.extBut _ _ (afT Fz) e)
theorem aao{TI TO:afK}{xs1 xs2 Nb:List V}{Q:Fin->afN->Prop}(hh:A'.handled=none)(I:Inv X pins σ H s)(fz:FpOk X pins H z)(fO:FpOk X pins H TO)(f1:FpOk X pins H i1)(f2:FpOk X pins H i2)(f3:FpOk X pins H i3)
  (QX:TI≠z)(vf:TO≠z)(QZ:TI≠TO)(zV:i1≠z)(Bg:i2≠z)(Fx:i3≠z)(Yl:TI≠i1)(Ym:TI≠i2)(Yn:TI≠i3)(IV:TO≠i1)(Fy:TO≠i2)(Fz:TO≠i3)(n12:i1≠i2)(n13:i1≠i3)(n23:i2≠i3)
  (st:Z3 s.heap z TI TO i1 i2 i3 t1 t2 t3 l1 l2 l3 k)(q1:Sq t1 X.K H l1 xs1)(q2:Sq t2 X.K H l2 xs2)(q3:Sq t3 X.K H l3 Nb)(en:xs1.length<=k\/xs2.length<=k\/Nb.length<=k)
  (hE:∀h' e,Inv X pins σ H {s with heap:=h'}->(∃o,h'.get? e=some o/\o.cls= .type "StopIteration")->E (.ref e) {s with heap:=h'}):
  afS (model X.prog X.w) A' (ahg.«zip.__next__» ⟨[.ref z],[]⟩) Q E s:=by
 let⟨hz,hTI,⟨a1,a2,a3,hTO⟩,h1,h2,h3⟩:=st;show afS _ _ (field (.ref z) 2 >>=_) _ _ _;show aft (agf hz rfl (x:= .bool false) rfl ?_);show afS _ _ (field (.ref z) 3 >>=_) _ _ _;show aft (agf hz rfl (x:= .ref TI) rfl ?_);show aft (agI hTI rfl ?_);show afS _ _ (agk (.ref z) >>=_) _ _ _;show aft ?_;unfold agk;show aft (agf hz rfl (x:= .none) rfl (afQ ?_));simp only[if_true];show aft (ahG (aft (agf hz rfl (x:= .ref TO) rfl ?_)));show aft (agB hz () λc0 z0 b0=>?_)
 replace z0:aik c0 z TI TO .ellipsis:=z0
 have J0:=I.fp fz b0;show aft ?_;simp only[ajm,ajG,ahX,ajR];have leave:∀{g g':af2} {e:afK} {c:afK},Inv X pins σ H {s with heap:=g}->aik g z TI TO .ellipsis->FpOk X pins H c->c≠z->ajV c g g'->(∃o,g'.get? e=some o/\o.cls= .type "StopIteration")->
   afS (model X.prog X.w) A' (setField (.ref z) 0 .none) (λ_ s'=>E (.ref e) s') E {s with heap:=g'}:=λ{g g' e c} Ig zg fc nc eb ⟨oe,hoe,hce⟩=>by
  have Ye:aik g' z TI TO .ellipsis:=eb _ _ (afT nc) zg;have hez:e≠z:=λq=>by subst q;rw[Ye] at hoe;cases hoe;simp at hce
  have Ig':Inv X pins σ H {s with heap:=g'}:=Ig.fpE fc eb;show agB Ye () λg'' _ b''=>hE g'' e (Ig'.fp fz b'') ⟨oe,b''.extBut _ _ hez hoe,hce⟩
 let⟨Yo,r1,p1⟩:=J0.sq q1;show aft (aft (ahy ?_));show afS _ _ (agc (.ref i1) >>=_) _ _ _;have h1':=h1.of (h':=c0) λo e=>(b0.extBut _ _ zV e);by_cases hx1:xs1.length<=k
 .show aft (pH hh h1' p1 (by have:=r1.length;simp;omega) λg e eb ex=>leave J0 z0 f1 zV eb ex)
 .let⟨u1,hu1,ru1⟩:=r1.get (i:=k) (x:=xs1[k]'()) (ahe ());show aft (sy h1' p1 (v:=u1) (by simpa using hu1) λd1 sd1 vg=>afQ ?_);have Jd1:=J0.fp f1 vg;have od1:iz d1 TO #[a1,a2,a3]:=vg.extBut _ _ IV (b0.extBut _ _ vf hTO);show aft (agI od1 rfl (aft (qK od1 λc1 o1 w6=>aft (ahR (afQ ?_)))))
  replace o1:iz c1 TO #[u1,a2,a3]:=o1
  have J1:=Jd1.fp fO w6;let⟨us2,r2,p2⟩:=J1.sq q2;show aft (aft (ahy ?_));show afS _ _ (agc (.ref i2) >>=_) _ _ _;have h2':=h2.of (h':=c1) λo e=>(w6.extBut _ _ (afT Fy) (vg.extBut _ _ (afT n12) (b0.extBut _ _ Bg e)));by_cases hx2:xs2.length<=k
  .show aft (pH hh h2' p2 (by have:=r2.length;simp;omega) λg e eb ex=>leave J1 (w6.extBut _ _ (afT vf) (vg.extBut _ _ (afT zV) z0)) f2 Bg eb ex)
  .let⟨u2,hu2,ru2⟩:=r2.get (i:=k) (x:=xs2[k]'()) (ahe ());show aft (sy h2' p2 (v:=u2) (by simpa using hu2) λd2 sd2 zW=>afQ ?_);have Jd2:=J1.fp f2 zW;have od2:iz d2 TO #[u1,a2,a3]:=zW.extBut _ _ Fy o1;show aft (agI od2 rfl (aft (qK od2 λc2 o2 Bh=>aft (ahR (afQ ?_)))))
   replace o2:iz c2 TO #[u1,u2,a3]:=o2
   have J2:=Jd2.fp fO Bh;let⟨us3,r3,p3⟩:=J2.sq q3;show aft (aft (ahy ?_));show afS _ _ (agc (.ref i3) >>=_) _ _ _;have h3':=h3.of (h':=c2) λo e=>(Bh.extBut _ _ (afT Fz) (zW.extBut _ _ (afT n23) (w6.extBut _ _ (afT Fz) (vg.extBut _ _ (afT n13) (b0.extBut _ _ Fx e)))));have hy3:Nb.length<=k:=()
   show aft (pH hh h3' p3 (by have:=r3.length;simp;omega) λg e eb ex=>leave J2 (Bh.extBut _ _ (afT vf) (zW.extBut _ _ (afT Bg) (w6.extBut _ _ (afT vf) (vg.extBut _ _ (afT zV) z0)))) f3 Fx eb ex)
end
theorem Yp{kk}{TI TO:afK}
  (QX:TI≠z)(vf:TO≠z)(QZ:TI≠TO)(zV:i1≠z)(Bg:i2≠z)(Fx:i3≠z)(Yl:TI≠i1)(Ym:TI≠i2)(Yn:TI≠i3)(IV:TO≠i1)(Fy:TO≠i2)(Fz:TO≠i3)(n12:i1≠i2)(n13:i1≠i3)(n23:i2≠i3):
  Turn P w K (.Tuple u6 kk pp) (aak K t1 l1 t2 l2 t3 l3) [z,TI,TO,i1,i2,i3] z (λi h=>Z3 h z TI TO i1 i2 i3 t1 t2 t3 l1 l2 l3 i) where
 mem:=()
 obj:=λi h st b hb=>by
  let⟨hz,hTI,⟨x,y,v,hTO⟩,h1,h2,h3⟩:=st;simp only[af9,agZ,or_false] at hb;rcases hb with rfl |rfl |rfl |rfl |rfl |rfl
  .show⟨_,hz,λv q=>by have q':ajU _=aiD v:=q;cases q'⟩
  .show⟨_,hTI,λv q=>by have q':ak3 _=aiD v:=q;cases q'⟩
  .show⟨_,hTO,λv q=>by have q':ak3 _=aiD v:=q;cases q'⟩
  .show h1.obj
  .show h2.obj
  .show h3.obj
 keep:=λi h h' st k=>by
  let⟨hz,hTI,⟨x,y,v,hTO⟩,h1,h2,h3⟩:=st;show⟨k _ () _ hz,k _ () _ hTI,⟨x,y,v,k _ () _ hTO⟩,h1.of λo e=>k _ () o e,h2.of λo e=>k _ () o e,h3.of λo e=>k _ () o e⟩
 item :=by
  intro X hP hw hK hc i pins s σ H E I hf st hg;subst hP hw hK;let⟨xs1,xs2,Nb,x1,x2,x3,q1,e1,q2,e2,q3,e3⟩:=hg;have hT:s.TypeIs (.ref z) "zip" :=⟨_,st.z,rfl⟩;unfold pyNext;show aft (ah3 (agG (name:=ahm "__next__") hT F.slot_zip_next (agT F.slot_zip_next hT F.entry_zip_next
   (Yk I (hf z ()) (hf TO ()) (hf i1 ()) (hf i2 ()) (hf i3 ()) QX vf QZ zV Bg Fx Yl Ym Yn IV Fy Fz n12 n13 n23 st q1 q2 q3 e1 e2 e3 λh' I' z' ti' QW s1' s2' s3'=>afQ ⟨_,rfl,?_⟩) (F.args_zip_next_1 _))))
  have hp:H s.heap.objs.size=none:=I.hok.fresh (z0g _);have nz:∀b,b∈[z,TI,TO,i1,i2,i3]->b≠s.heap.objs.size:=λb hb q=>by
   obtain⟨o,e,_⟩:∃o,s.heap.get? b=some o/\True:=by
    let⟨hz,hTI,⟨x,y,v,hTO⟩,h1,h2,h3⟩:=st;simp only[af9,agZ,or_false] at hb;rcases hb with rfl |rfl |rfl |rfl |rfl |rfl
    .show⟨_,hz,trivial⟩
    .show⟨_,hTI,trivial⟩
    .show⟨_,hTO,trivial⟩
    .let⟨o,e,_⟩:=h1.obj;show⟨o,e,trivial⟩
    .let⟨o,e,_⟩:=h2.obj;show⟨o,e,trivial⟩
    .let⟨o,e,_⟩:=h3.obj;show⟨o,e,trivial⟩
   show absurd (z2c e) (by rw[q];show agS _)
  show wpAny_letOwnedTupleGo_zip z' λh'' z'' b''=>⟨.ref s.heap.objs.size,upd H s.heap.objs.size (.tup [x1,x2,x3]),I'.fp ((hf z ()).upd (nz z ())) b'',rfl,⟨_,x1,x2,x3,hp,rfl,rfl,λxs' q=>by rw[I.wY q q1];show e1,λxs' q=>by rw[I.wY q q2];show e2,λxs' q=>by rw[I.wY q q3];show e3⟩,?_,λb hb=>?_⟩
  .let⟨a,b,c,QW⟩:=QW;show⟨z'',b''.extBut _ _ QX ti',⟨a,b,c,b''.extBut _ _ vf QW⟩,s1'.of λo e=>b''.extBut _ _ zV e,s2'.of λo e=>b''.extBut _ _ Bg e,s3'.of λo e=>b''.extBut _ _ Fx e⟩
  .rw[upd_ne (nz b hb)];show (hf b hb).1
 done:=by
  intro X hP hw hK hc i pins s σ H E I hf st hg;subst hP hw hK;let⟨xs1,xs2,Nb,q1,q2,q3,en⟩:=hg;have hT:s.TypeIs (.ref z) "zip" :=⟨_,st.z,rfl⟩;unfold pyNext;show aft (ah3 (agG (name:=ahm "__next__") hT F.slot_zip_next (agT F.slot_zip_next hT F.entry_zip_next
   (aao (I.ok.hd hc) I (hf z ()) (hf TO ()) (hf i1 ()) (hf i2 ()) (hf i3 ()) QX vf QZ zV Bg Fx Yl Ym Yn IV Fy Fz n12 n13 n23 st q1 q2 q3 en λh' e I' ex=>?_) (F.args_zip_next_1 _))))
  let⟨o,ho,ec⟩:=ex;show aft (ajn (T:= "StopIteration") (b:=true) ⟨o,ho,ec⟩ isSubtype_stop (afQ ⟨rfl,I'⟩))
 self:=λ_ _ _ _ _ st h=>ajo st.z h
theorem KD(a b c:afL):checkTypeCall "zip" ⟨[a,b,c],[]⟩=pure Unit.unit:=⟨⟩
theorem Oj(a b c:afL):ajp "zip.__new__" ⟨[.type "zip",a,b,c],[]⟩=pure Unit.unit:=⟨⟩
theorem abS(a b c d:afL):argsOk "object.__init__" ⟨[a,b,c,d],[]⟩:=by
 unfold argsOk;rw[signature?_of (id:= "object.__init__") (n:=['_','_','t','i','n','i','_','_']) (o:=['t','c','e','j','b','o']) ⟨⟩ F.owner_object];kernel_rfl
abbrev Yq(h:af2)(t1:Bool)(l1:afK):af2:=h.push (itR t1 l1)
abbrev Yr(h:af2)(t1:Bool)(l1:afK)(t2:Bool)(l2:afK):af2:=(Yq h t1 l1).push (itR t2 l2)
abbrev zB3(h:af2)(t1:Bool)(l1:afK)(t2:Bool)(l2:afK)(t3:Bool)(l3:afK):af2:=(Yr h t1 l1 t2 l2).push (itR t3 l3)
abbrev zB4(h:af2)(t1:Bool)(l1:afK)(t2:Bool)(l2:afK)(t3:Bool)(l3:afK):af2:=(zB3 h t1 l1 t2 l2 t3 l3).push {cls:= .type "tuple",data:= .seq #[.ref h.objs.size,.ref (Yq h t1 l1).objs.size,.ref (Yr h t1 l1 t2 l2).objs.size]}
abbrev zB5(h:af2)(t1:Bool)(l1:afK)(t2:Bool)(l2:afK)(t3:Bool)(l3:afK):af2:=(zB4 h t1 l1 t2 l2 t3 l3).push {cls:= .type "tuple",data:= .seq #[.none,.none,.none]}
abbrev Q7(h:af2)(t1:Bool)(l1:afK)(t2:Bool)(l2:afK)(t3:Bool)(l3:afK):af2:=(zB5 h t1 l1 t2 l2 t3 l3).push {cls:= .type "zip",data:= .fields #[.none,.bool false,.bool false,.ref (zB3 h t1 l1 t2 l2 t3 l3).objs.size,.ref (zB4 h t1 l1 t2 l2 t3 l3).objs.size]}
theorem Wk(t1:Bool)(l1:afK)(t2:Bool)(l2:afK)(t3:Bool)(l3:afK)(xs ys zs:Array afL):Meets (ahg.«zip.__new__» ⟨[.type "zip",.ref l1,.ref l2,.ref l3],[]⟩)
  (λ_ R s=>jP t1 s.heap l1 xs/\jP t2 s.heap l2 ys/\jP t3 s.heap l3 zs/\R (.ok (.ret (.ref (zB5 s.heap t1 l1 t2 l2 t3 l3).objs.size))) {s with heap:=Q7 s.heap t1 l1 t2 l2 t3 l3}):=
 .of_wp λprog w A R s h=>by
  let⟨hp,g,d,tk,os⟩:=s;let⟨k1,k2,k3,h⟩:=h;have hsub:=sub_zip;have L1:jP t1 (ajg ⟨hp,g,d,tk,os⟩) l1 xs:=k1;have L2:jP t2 (ajg ⟨Yq hp t1 l1,g,d,tk,os⟩) l2 ys:=k2.of λo e=>z1a _ e;have L3:jP t3 (ajg ⟨Yr hp t1 l1 t2 l2,g,d,tk,os⟩) l3 zs:=k3.of λo e=>z1a _ (z1a _ e)
  wp_walk using vd L1,vd L2,vd L3
  show⟨_,rfl,h⟩
section
variable{prog:afZ}{w:af4}{A:af5}{E:afL->afN->Prop}{s:afN}
theorem Ys{ys zs:Array afL}(k1:jP t1 s.heap l1 xs)(k2:jP t2 s.heap l2 ys)(k3:jP t3 s.heap l3 zs)
  (h:∀h',Z3 h' (s.heap.objs.size+5) (s.heap.objs.size+3) (s.heap.objs.size+4) s.heap.objs.size (s.heap.objs.size+1) (s.heap.objs.size+2) t1 t2 t3 l1 l2 l3 0->(∀c o,s.heap.get? c=some o->h'.get? c=some o)->Q (.ref (s.heap.objs.size+5)) {s with heap:=h'}):
  afS (model prog w) A (call (.type "zip") [.ref l1,.ref l2,.ref l3]) Q E s:=by
 show callType_new F.called_zip {} (KD _ _ _) (Oj _ _ _) (λobj=>abS obj _ _ _) F.entry_zip_new (Wk t1 l1 t2 l2 t3 l3 xs ys zs) ⟨k1,k2,k3,?_⟩;have z1:(Yq s.heap t1 l1).objs.size=s.heap.objs.size+1:=agw ..;have z2:(Yr s.heap t1 l1 t2 l2).objs.size=s.heap.objs.size+2:=by rw[agw,z1]
 have z3:(zB3 s.heap t1 l1 t2 l2 t3 l3).objs.size=s.heap.objs.size+3:=by rw[agw,z2]
 have z4:(zB4 s.heap t1 l1 t2 l2 t3 l3).objs.size=s.heap.objs.size+4:=by rw[agw,z3]
 have z5:(zB5 s.heap t1 l1 t2 l2 t3 l3).objs.size=s.heap.objs.size+5:=by rw[agw,z4]
 have a6:(Q7 s.heap t1 l1 t2 l2 t3 l3).get? (zB5 s.heap t1 l1 t2 l2 t3 l3).objs.size=some _:=z1f _ rfl;have a5:(Q7 s.heap t1 l1 t2 l2 t3 l3).get? (zB4 s.heap t1 l1 t2 l2 t3 l3).objs.size=some _:=z1a _ (z1f _ rfl);have a4:(Q7 s.heap t1 l1 t2 l2 t3 l3).get? (zB3 s.heap t1 l1 t2 l2 t3 l3).objs.size=some _:=z1a _ (z1a _ (z1f _ rfl));have a3:(Q7 s.heap t1 l1 t2 l2 t3 l3).get? (Yr s.heap t1 l1 t2 l2).objs.size=some (itR t3 l3):=z1a _ (z1a _ (z1a _ (z1f _ rfl)));have a2:(Q7 s.heap t1 l1 t2 l2 t3 l3).get? (Yq s.heap t1 l1).objs.size=some (itR t2 l2):=z1a _ (z1a _ (z1a _ (z1a _ (z1f _ rfl))));have a1:(Q7 s.heap t1 l1 t2 l2 t3 l3).get? s.heap.objs.size=some (itR t1 l1):=z1a _ (z1a _ (z1a _ (z1a _ (z1a _ (z1f _ rfl)))));show _/\_;rw[z3,z4,z5] at a6;rw[z4] at a5;rw[z1,z2,z3] at a4;rw[z2] at a3;rw[z1] at a2;rw[z5];show⟨⟨_,a6,rfl⟩,h _ ⟨a6,a4,⟨_,_,_,a5⟩,.new a1,.new a2,.new a3⟩ λc o e=>z1a _ (z1a _ (z1a _ (z1a _ (z1a _ (z1a _ e)))))⟩
end
section
variable{X:Cx}{u6:List afV}{kk:Nat}{pp:Pos}{a b c:afV}{p pos:Pos}
def aeU(K:afM)(ta:TA):TI:=λσ H R=>ta σ H λvs H1=>∃t1 l1 t2 l2 t3 l3,vs=[.ref l1,.ref l2,.ref l3]/\(∃xs,Sq t1 K H1 l1 xs)/\(∃ys,Sq t2 K H1 l2 ys)/\(∃zs,Sq t3 K H1 l3 zs)/\R (aak K t1 l1 t2 l2 t3 l3) H1
theorem abT (hg:Gl X "zip") (hm:X.mg "zip" =none) (ha:PA X [a,b,c] ta) (he:starEach [a,b,c] X.env=(false,eval a X.env)::starEach [b,c] X.env:=by rfl) (hpl:(backTo pos (starEach [b,c] X.env)).any (·.1)=false:=by rfl):
    PI X (.Tuple u6 kk pp) (.Call (.Name "zip" p) [a,b,c] [] pos) (aeU X.K ta):=by
  intro pins s σ H R I h
  show Call_ (ld_blt I hg hm Yj (agK (thn (ha pos pins s σ H _ I h) λus s1 ⟨vs,H1,I1,r1,q1⟩=>?_) he hpl))
  let⟨t1,l1,t2,l2,t3,l3,e,⟨xs,w1⟩,⟨ys,w2⟩,⟨zs,w3⟩,q⟩:=q1
  subst e
  cases r1 with
  | cons r rr=>
    cases rr with
    | cons r' rr=>
      cases rr with
      | cons r'' rr=>
        cases rr
        cases r
        cases r'
        cases r''
        let⟨vs1,_,p1⟩:=I1.sq w1
        let⟨vs2,_,p2⟩:=I1.sq w2
        let⟨vs3,_,p3⟩:=I1.sq w3
        show Ys p1 p2 p3 λh' st k=>ajo st.z ⟨s1.heap.objs.size+5,[s1.heap.objs.size+5,s1.heap.objs.size+3,s1.heap.objs.size+4,s1.heap.objs.size,s1.heap.objs.size+1,s1.heap.objs.size+2],_,_,H1,rfl,I1.kept (t':=s1.toks) k,Yp ?_ ?_ ?_ ?_ ?_ ?_ ?_ ?_ ?_ ?_ ?_ ?_ ?_ ?_ ?_,st,λc hc=>(by
        have hle:s1.heap.objs.size≤c:=by
          simp only[af9,agZ,or_false] at hc
          rcases hc with rfl |rfl |rfl |rfl |rfl |rfl <;> first |show akS _ |show aii _ _
        show I1.fpOk hle (I1.hok.fresh hle)),q⟩
        all_goals (show @Ne Nat _ _;omega)
end
section
variable{K:afM}{O:afK->Prop}{H:Hp}
theorem aM.three{d e f:D}{xs:List V}(r:aM K O H [d,e,f] xs):∃x y z,xs=[x,y,z]/\Rep K O H d x/\Rep K O H e y/\Rep K O H f z:=by
 let⟨x,t,rfl,h1,h2⟩:=r.cons_inv;let⟨y,z,rfl,h3,h4⟩:=h2.two;show⟨x,y,z,rfl,h1,h3,h4⟩
theorem Yt{xs ys zs:List D}{d:D}(h:(Ey xs ys zs)[i]?=some d):∃x y z,xs[i]?=some x/\ys[i]?=some y/\zs[i]?=some z/\d= .tup [x,y,z]:=by
 unfold Ey at h;rw[z2b] at h;cases e:(xs.zip (ys.zip zs))[i]? with
 |none=>rw[e] at h;cases h
 | some p=>
  rw[e] at h;cases h;let⟨h1,h2⟩:=aiX.mp e;let⟨h3,h4⟩:=aiX.mp h2;show⟨_,_,_,h1,h3,h4,rfl⟩
theorem YR.Bf{a1 a2 a3:afK}{xs ys zs:List D}(s1:Src K O H t1 a1 xs)(s2:Src K O H t2 a2 ys)(s3:Src K O H t3 a3 zs):YR K O H (aak K t1 a1 t2 a2 t3 a3) (Ey xs ys zs):=by
 intro O' H' q i;let⟨v1,q1,r1⟩:=s1.go q;let⟨v2,q2,r2⟩:=s2.go q;let⟨v3,q3,r3⟩:=s3.go q;show⟨λd e=>?_,λe=>⟨v1,v2,v3,q1,q2,q3,?_⟩⟩
 .let⟨x,y,z,e1,e2,e3,rfl⟩:=Yt e;let⟨u1,g1,w1⟩:=r1.get e1;let⟨u2,g2,w2⟩:=r2.get e2;let⟨u3,g3,w3⟩:=r3.get e3;show⟨⟨v1,v2,v3,u1,u2,u3,q1,g1,q2,g2,q3,g3⟩,λx H2 y=>?_⟩;let⟨p,x1,x2,x3,hp,rfl,rfl,k1,k2,k3⟩:=y;have k1:=k1 _ q1;have k2:=k2 _ q2;have k3:=k3 _ q3;rw[g1] at k1;cases k1;rw[g2] at k2;cases k2;rw[g3] at k3;cases k3;show⟨Same.upd hp,gA (SqT.of upd_same) ((aM.cons w1 (.cons w2 (.cons w3 .nil))).same (Same.upd hp))⟩
 .rw[<-r1.length,<-r2.length,<-r3.length];simp only[Ey,z1g,List.length_zip] at e;omega
end
section
variable{X:Cx}{u6:List afV}{kk:Nat}{pp:Pos}{a b c:afV}{p pos:Pos}{fa:ao->R (List D)}
theorem qm{x:D}{c:Str}(h:dD x= .err c):False:=by cases x <;> cases h
theorem abU(hg:Gl X "zip")(hm:X.mg "zip" =none)(ha:DA X [a,b,c] fa)(he:afP [a,b,c] X.env=(false,eval a X.env)::afP [b,c] X.env:=by rfl)(hpl:(ago pos (afP [b,c] X.env)).any (·.1)=false:=by rfl):
  DI X (.Tuple u6 kk pp) (.Call (.Name "zip" p) [a,b,c] [] pos) (λρ=>(fa ρ).bind Bf):=by
 show PI.imp (abT hg hm ha he hpl) λσ H Q q=>?_;let⟨ρ,O,j,q⟩:=q;show go j q λds vs H1 e1 s1 r1 j1 h1=>?_;unfold Bf at h1;split at h1
 .rename_i x y z;let⟨v1,v2,v3,rfl,w1,w2,w3⟩:=r1.three;cases ex:dD x with
  |bad=>rw[ex] at h1;show h1.elim
  |err c=>show (qm ex).elim
  | ok xs=>
   cases ey:dD y with
   |bad=>rw[ex,R.aR,ey] at h1;show h1.elim
   |err c=>show (qm ey).elim
   | ok ys=>
    cases ez:dD z with
    |bad=>rw[ex,R.aR,ey,R.aR,ez] at h1;show h1.elim
    |err c=>show (qm ez).elim
    | ok zs=>
     rw[ex,R.aR,ey,R.aR,ez,R.aR] at h1;let⟨t1,a1,rfl,c1⟩:=wZ w1 ex;let⟨t2,a2,rfl,c2⟩:=wZ w2 ey;let⟨t3,a3,rfl,c3⟩:=wZ w3 ez;let⟨vs1,k1,_⟩:=c1.ex;let⟨vs2,k2,_⟩:=c2.ex;let⟨vs3,k3,_⟩:=c3.ex;show⟨t1,a1,t2,a2,t3,a3,rfl,⟨vs1,k1⟩,⟨vs2,k2⟩,⟨vs3,k3⟩,fin h1 (YR.Bf c1 c2 c3)⟩
 .show h1.elim
end
section
variable{X:Cx}
theorem Vg:∀{ns:List Int} {its:List afL},Vals (ns.map V.int) its->aib its ns
 |[],_,r=>by cases r;show .nil
 | n::ns,_,r=>by
  cases r with
  |cons h t=>let⟨tk,rfl⟩:=h;show .cons n tk (Vg t)
theorem Nf{K:afM}{O:afK->Prop}{H:Hp}:∀{ds:List D} {ns:List Int} {vs:List V},intsOf ds=some ns->aM K O H ds vs->vs=ns.map V.int
 |[],ns,vs,e,r=>by cases e;show r.nil_inv
 | d ::ds,ns,vs,e,r=>by
  let⟨x,t,rfl,h1,h2⟩:=r.cons_inv;cases d with
  | int i=>
   have e:(intsOf ds).map (i:: ·)=some ns:=e;cases q:intsOf ds with
   |none=>rw[q] at e;cases e
   |some l=>rw[q] at e;cases e;rw[h1.int,Nf q h2];rfl
  |_=>cases e
theorem Bj{K:afM}{O:afK->Prop}{H:Hp}:∀{ns:List Int},aM K O H (ns.map D.int) (ns.map V.int)
 |[]=> .nil
 |_::_=> .cons (cg _) Bj
variable{pos:Pos}
end
def Ite(K:afM)(t:Bool)(l:afK):It:=
 ⟨λi H=>∃xs x,Sq t K H l xs/\xs[i]?=some x,
  λi H v H'=>∃p x,H p=none/\v= .ref p/\H'=upd H p (.tup [.int (i:Int),x])/\∀xs,Sq t K H l xs->xs[i]?=some x,
  λi H=>∃xs,Sq t K H l xs/\xs.length<=i⟩
section
variable{X:Cx}{pins:List (afK×Obj)}{σ:St}{H:Hp}{s:afN}{A':af5}{E:afL->afN->Prop}
theorem Yu{e:afK}{xs:List V}{x:V}{old:afL}(I:Inv X pins σ H s)(fe:FpOk X pins H e)(fi:FpOk X pins H it)(ne:e≠it)
  (he:IsEnum s.heap e it k old)(hs:jO t s.heap it l k)(q:Sq t X.K H l xs)(ex:xs[k]?=some x)
  (hQ:∀h' u,Inv X pins σ (upd H s.heap.objs.size (.tup [.int (k:Int),x])) {s with heap:=h',toks:=s.toks+1}->IsEnumOut h' e it ((k:Int)+1) u s.heap.objs.size->jO t h' it l (k+1)->Q (.ref s.heap.objs.size) {s with heap:=h',toks:=s.toks+1}):
  afS (model X.prog X.w) A' (ahg.«enumerate.__next__» ⟨[.ref e],[]⟩) (λfin s'=>∃v,fin= .done (.ret v)/\Q v s') E s:=by
 let⟨us,r1,p1⟩:=I.sq q;let⟨u,hu,ru⟩:=r1.get ex;let⟨hp,g,d,tk,os⟩:=s;show afS _ _ (field (.ref e) 2 >>=_) _ _ _;show aft (agf he rfl (x:= .ref it) rfl ?_);show aft (sy hs p1 (v:=u) (by simpa using hu) λg1 s1 b1=>?_);have I1:=I.fp fi b1
 replace b1:ahb it hp g1:=b1
 have e1:IsEnum g1 e it k old:=(b1.2 e ne).trans he;show afS _ _ (field (.ref e) 3 >>=_) _ _ ⟨g1,g,d,tk,os⟩;show aft (agf e1 rfl (x:=agN k) rfl ?_);show afS _ _ (field (.ref e) 4 >>=_) _ _ ⟨g1,g,d,tk,os⟩;show aft (agf e1 rfl (x:= .none) rfl ?_);show afS _ _ (mkInt k >>=_) _ _ ⟨g1,g,d,tk,os⟩;show aft (wpAny_mkInt ?_);have I1':Inv X pins σ H ⟨g1,g,d,tk+1,os⟩:=Inv.tok (s:=⟨g1,g,d,tk,os⟩) I1 (tk+1);show afS _ _ (setField (.ref e) 3 (agN ((k:Int)+1)) >>=_) _ _ ⟨g1,g,d,tk+1,os⟩;show aft (agB e1 () λg2 e2 b2=>?_);have I2:=I1'.fp fe b2
 replace b2:ahb e g1 g2:=b2
 replace e2:IsEnum g2 e it ((k:Int)+1) old:=e2
 show afS _ _ (setField (.ref e) 4 .none >>=_) _ _ ⟨g2,g,d,tk+1,os⟩;show aft (agB e2 () λg3 e3 b3=>?_);have I3:=I2.fp fe b3
 replace b3:ahb e g2 g3:=b3
 replace e3:IsEnum g3 e it ((k:Int)+1) old:=e3
 show afS _ _ (newTuple [.int k tk,u] >>=_) _ _ ⟨g3,g,d,tk+1,os⟩;show aft (ajQ ?_);have sz:g3.objs.size=hp.objs.size:=by rw[b3.1,b2.1,b1.1]
 have lt:e≠g3.objs.size:=agD (z2c e3);have I4:Inv X pins σ (upd H g3.objs.size (.tup [.int (k:Int),x])) ⟨g3.push {cls:= .type "tuple",data:= .seq #[.int k tk,u]},g,d,tk+1,os⟩:=
  Inv.laid (s:=⟨g3,g,d,tk+1,os⟩) (t':=tk+1) I3 (λb u e=>z1a _ e) (z0g _) ⟨Yc,[.int k tk,u],.cons ⟨tk,rfl⟩ (.cons ru .nil),⟨_,z1f _ rfl,rfl,rfl,_,rfl⟩⟩
 have e4:IsEnum (g3.push {cls:= .type "tuple",data:= .seq #[.int k tk,u]}) e it ((k:Int)+1) old:=z1a _ e3;have s4:jO t (g3.push {cls:= .type "tuple",data:= .seq #[.int k tk,u]}) it l (k+1):=s1.of λo z=>z1a _ (b3.extBut _ _ (afT ne) (b2.extBut _ _ (afT ne) z));show afS _ _ (agk (.ref e) >>=_) _ _ ⟨g3.push {cls:= .type "tuple",data:= .seq #[.int k tk,u]},g,d,tk+1,os⟩
 generalize g3.push {cls:= .type "tuple",data:= .seq #[.int k tk,u]}=g4 at *
 show aft ?_;unfold agk;show aft (agf e4 rfl (x:= .none) rfl (afQ ?_));simp only[if_true];show aft (ahG (aft (agf e4 rfl (x:=old) rfl ?_)));show aft (agB e4 () λg5 e5 b5=>?_);have I5:=I4.fp (fe.upd lt) b5
 replace b5:ahb e g4 g5:=b5
 replace e5:IsEnum g5 e it ((k:Int)+1) u:=e5
 show afS _ _ (agQ (.ref e) (.ref g3.objs.size) >>=_) _ _ ⟨g5,g,d,tk+1,os⟩;show aft ?_;unfold agQ;show aft (agB e5 () λg6 e6 b6=>?_);have I6:=I5.fp (fe.upd lt) b6
 replace b6:ahb e g5 g6:=b6
 replace e6:IsEnumOut g6 e it ((k:Int)+1) u g3.objs.size:=e6
 show agB e6 () λg7 e7 b7=>?_;have I7:=I6.fp (fe.upd lt) b7
 replace b7:ahb e g6 g7:=b7
 replace e7:IsEnumOut g7 e it ((k:Int)+1) u g3.objs.size:=e7
 show aft (ahR (afQ ⟨_,rfl,?_⟩));rw[sz] at I7 e7;show Q (.ref g3.objs.size) _;rw[sz];show hQ g7 u I7 e7 (s4.of λo z=>b7.extBut _ _ (afT ne) (b6.extBut _ _ (afT ne) (b5.extBut _ _ (afT ne) z)))
end
theorem Yv{kk}{e:afK}(ne:e≠it):
  Turn P w K (.Tuple u6 kk pp) (Ite K t l) [e,it] e (λi h=>(∃old,IsEnum h e it i old)/\jO t h it l i) where
 mem:=()
 obj:=λi h st b hb=>by
  let⟨⟨old,he⟩,hs⟩:=st;simp only[af9,agZ,or_false] at hb;rcases hb with rfl |rfl
  .show⟨_,he,λv q=>by have q':ajU _=aiD v:=q;cases q'⟩
  .show hs.obj
 keep:=λi h h' st k=>by
  let⟨⟨old,he⟩,hs⟩:=st;show⟨⟨old,k _ () _ he⟩,hs.of λo z=>k _ () o z⟩
 item :=by
  intro X hP hw hK hc i pins s σ H E I hf st hg;subst hP hw hK;let⟨⟨old,he⟩,hs⟩:=st;let⟨xs,x,q,ex⟩:=hg;have hT:s.TypeIs (.ref e) "enumerate" :=⟨_,he,rfl⟩;have hp:H s.heap.objs.size=none:=I.hok.fresh (z0g _);have nz:∀b,b∈[e,it]->b≠s.heap.objs.size:=λb hb z=>by
   obtain⟨o,eo⟩:∃o,s.heap.get? b=some o:=by
    simp only[af9,agZ,or_false] at hb;rcases hb with rfl |rfl
    .show⟨_,he⟩
    .let⟨o,eo,_⟩:=hs.obj;show⟨o,eo⟩
   show absurd (z2c eo) (by rw[z];show agS _)
  unfold pyNext;show aft (ah3 (agG (name:=ahm "__next__") hT F.slot_enumerate_next (agT F.slot_enumerate_next hT F.entry_enumerate_next
   (Yu I (hf e ()) (hf it ()) ne he hs q ex λh' u I' e' s'=>afQ ⟨_,rfl,?_⟩) (F.args_enumerate_next_1 _))))
  show wpAny_letOwnedTupleGo_enum e' λh'' e'' b''=>⟨.ref s.heap.objs.size,upd H s.heap.objs.size (.tup [.int (i:Int),x]),I'.fp ((hf e ()).upd (nz e ())) b'',rfl,⟨_,x,hp,rfl,rfl,λxs' q'=>by rw[I.wY q' q];show ex⟩,⟨⟨u,by simpa using e''⟩,s'.of λo z=>b''.extBut _ _ (afT ne) z⟩,λb hb=>?_⟩;rw[upd_ne (nz b hb)];show (hf b hb).1
 done:=by
  intro X hP hw hK hc i pins s σ H E I hf st hg;subst hP hw hK;let⟨⟨old,he⟩,hs⟩:=st;let⟨xs,q,en⟩:=hg;let⟨us,r1,p1⟩:=I.sq q;have hT:s.TypeIs (.ref e) "enumerate" :=⟨_,he,rfl⟩;unfold pyNext;show aft (ah3 (agG (name:=ahm "__next__") hT F.slot_enumerate_next (agT F.slot_enumerate_next hT F.entry_enumerate_next ?_ (F.args_enumerate_next_1 _))));show afS _ _ (field (.ref e) 2 >>=_) _ _ _;show aft (agf he rfl (x:= .ref it) rfl ?_);show aft (pH (I.ok.hd hc) hs p1 (by have:=r1.length;simp;omega) λg1 x eb bB=>?_);let⟨o,ho,ec⟩:=bB;show aft (ajn (T:= "StopIteration") (b:=true) ⟨o,ho,ec⟩ isSubtype_stop (afQ ⟨rfl,I.fpE (hf it ()) eb⟩))
 self:=λ_ _ _ _ _ st h=>by
  let⟨⟨old,he⟩,_⟩:=st;show wpAny_pyIter_enum he h
theorem T7(t:Bool)(l:afK)(xs:Array afL):Meets (ahg.«enumerate.__new__» ⟨[.type "enumerate",.ref l],[]⟩)
  (λ_ R s=>jP t s.heap l xs/\R (.ok (.ret (.ref (s.heap.push (itR t l)).objs.size))) {s with heap:=(s.heap.push (itR t l)).push {cls:= .type "enumerate",data:= .fields #[.none,.bool false,.ref s.heap.objs.size,agN 0,.none,.none]}}):=
 .of_wp λprog w A R s h=>by
  let⟨hp,g,d,tk,os⟩:=s;let⟨k1,h⟩:=h;have hsub:=sub_enumerate;have L1:jP t (ajg ⟨hp,g,d,tk,os⟩) l xs:=k1
  wp_walk using vd L1
  show wpAny_stack_any λst=>afQ ?_;split
  .rename_i c _ _ _ _ _;cases (c ==af3 "enumerate") <;> (wp_walk using vd L1;show⟨_,rfl,h⟩)
  .wp_walk using vd L1
   show⟨_,rfl,h⟩
section
variable{prog:afZ}{w:af4}{A:af5}{E:afL->afN->Prop}{s:afN}
theorem Wm(k1:jP t s.heap l xs)
  (h:∀h',IsEnum h' (s.heap.objs.size+1) s.heap.objs.size 0 .none->jO t h' s.heap.objs.size l 0->(∀c o,s.heap.get? c=some o->h'.get? c=some o)->Q (.ref (s.heap.objs.size+1)) {s with heap:=h'}):
  afS (model prog w) A (call (.type "enumerate") [.ref l]) Q E s:=by
 show callType_new F.called_enumerate {} (F.typeCall_enumerate_1 _) (F.newCall_enumerate_1 _) (λobj=>F.args_object_init_2 obj _) F.entry_enumerate_new (T7 t l xs) ⟨k1,?_⟩;have z1:(s.heap.push (itR t l)).objs.size=s.heap.objs.size+1:=agw ..;have a2:((s.heap.push (itR t l)).push {cls:= .type "enumerate",data:= .fields #[.none,.bool false,.ref s.heap.objs.size,agN 0,.none,.none]}).get? (s.heap.push (itR t l)).objs.size=some _:=z1f _ rfl;show _/\_;rw[z1] at a2 |-;show⟨⟨_,a2,rfl⟩,h _ a2 (.new (z1a _ (z1f _ rfl))) λc o e=>z1a _ (z1a _ e)⟩
end
section
variable{X:Cx}{u6:List afV}{kk:Nat}{pp:Pos}{a:afV}{p pos:Pos}{fa:ao->R (List D)}
def aeV(K:afM)(ta:TA):TI:=λσ H R=>ta σ H λvs H1=>∃t l,vs=[.ref l]/\(∃xs,Sq t K H1 l xs)/\R (Ite K t l) H1
theorem abV (hg:Gl X "enumerate") (hm:X.mg "enumerate" =none) (ha:PA X [a] ta) (he:starEach [a] X.env=(false,eval a X.env)::starEach [] X.env:=by rfl) (hpl:(backTo pos (starEach [] X.env)).any (·.1)=false:=by rfl):
    PI X (.Tuple u6 kk pp) (.Call (.Name "enumerate" p) [a] [] pos) (aeV X.K ta):=by
  intro pins s σ H R I h
  show Call_ (ld_blt I hg hm boot_enumerate (agK (thn (ha pos pins s σ H _ I h) λus s1 ⟨vs,H1,I1,r1,q1⟩=>?_) he hpl))
  let⟨t,l,e,⟨xs,w1⟩,q⟩:=q1
  subst e
  cases r1 with
  | cons r rr=>
    cases rr
    cases r
    let⟨vs1,_,p1⟩:=I1.sq w1
    show Wm p1 λh' e' s' k=>wpAny_pyIter_enum e' ⟨s1.heap.objs.size+1,[s1.heap.objs.size+1,s1.heap.objs.size],_,_,H1,rfl,I1.kept (t':=s1.toks) k,Yv ?_,⟨⟨_,e'⟩,s'⟩,λc hc=>(by
        have hle:s1.heap.objs.size≤c:=by
          simp only[af9,agZ,or_false] at hc
          rcases hc with rfl |rfl <;> first |show akS _ |show aii _ _
        show I1.fpOk hle (I1.hok.fresh hle)),q⟩
    all_goals (show @Ne Nat _ _;omega)
def nW:Nat->List D->List D
 |_,[]=>[]
 |n,d::ds=> .tup [.int (n:Int),d]::nW (n+1) ds
theorem Ng:∀{ds:List D} {n i:Nat} {d:D},(nW n ds)[i]?=some d->∃x,ds[i]?=some x/\d= .tup [.int ((n+i:Nat):Int),x]
 |[],_,_,_,h=>by simp[nW] at h
 |x::ds,n,0,d,h=>by simp[nW] at h;show⟨x,rfl,by rw[<-h];rfl⟩
 | x::ds,n,i+1,d,h=>by
  rw[nW,ai9] at h;let⟨y,e1,e2⟩:=Ng h;show⟨y,by rw[ai9];show e1,by rw[e2,show n+1+i=n+(i+1) by omega]⟩
theorem Nh:∀{ds:List D} {n:Nat},(nW n ds).length=ds.length
 |[],_=>rfl
 |_::ds,n=>by rw[nW,afY,Nh,afY]
def vh:List D->R (List D)
 |[x]=>(dD x).bind λxs=> .ok (nW 0 xs)
 |_=> .bad
theorem YR.enum{a:afK}{xs:List D}(s1:Src K O H t a xs):YR K O H (Ite K t a) (nW 0 xs):=by
 intro O' H' q i;let⟨v1,q1,r1⟩:=s1.go q;show⟨λd e=>?_,λe=>⟨v1,q1,?_⟩⟩
 .let⟨x,e1,rfl⟩:=Ng e;let⟨u1,g1,w1⟩:=r1.get e1;show⟨⟨v1,u1,q1,g1⟩,λx H2 y=>?_⟩;let⟨p,x1,hp,rfl,rfl,k1⟩:=y;have k1:=k1 _ q1;rw[g1] at k1;cases k1;rw[Nat.zero_add];show⟨Same.upd hp,gA (SqT.of upd_same) ((aM.cons (cg _) (.cons w1 .nil)).same (Same.upd hp))⟩
 .rw[<-r1.length,<-Nh (n:=0)];show e
theorem KH(hg:Gl X "enumerate")(hm:X.mg "enumerate" =none)(ha:DA X [a] fa)(he:afP [a] X.env=(false,eval a X.env)::afP [] X.env:=by rfl)(hpl:(ago pos (afP [] X.env)).any (·.1)=false:=by rfl):
  DI X (.Tuple u6 kk pp) (.Call (.Name "enumerate" p) [a] [] pos) (λρ=>(fa ρ).bind vh):=by
 show PI.imp (abV hg hm ha he hpl) λσ H Q q=>?_;let⟨ρ,O,j,q⟩:=q;show go j q λds vs H1 e1 s1 r1 j1 h1=>?_;unfold vh at h1;split at h1
 .rename_i x;let⟨v1,rfl,w1⟩:=r1.one;cases ex:dD x with
  |bad=>rw[ex] at h1;show h1.elim
  |err c=>show (qm ex).elim
  | ok xs=>
   rw[ex,R.aR] at h1;let⟨t1,a1,rfl,c1⟩:=wZ w1 ex;let⟨vs1,k1,_⟩:=c1.ex;show⟨t1,a1,rfl,⟨vs1,k1⟩,fin h1 (YR.enum c1)⟩
 .show h1.elim
end
section
variable{prog:afZ}{w:af4}{A:af5}{E:afL->afN->Prop}{s:afN}
end
section
variable{X:Cx}{a:afV}{p pos p2 pos2:Pos}{fa:ao->R (List D)}
def adD(K:afM)(ta:TA):TE:=λσ H Q=>ta σ H λvs H1=>∃j:Int,vs=[.int j]/\0<=j/\j<=1000/\∀q,H1 q=none->Q (.ref q) (upd H1 q (.rng 0 j))
theorem adE(hg:Gl X "range")(hm:X.mg "range" =none)(ha:PA X [a] ta)(hs:afP [a] X.env=[(false,eval a X.env)]:=by rfl):PE X (.Call (.Name "range" p) [a] [] pos) (adD X.K ta):=by
 intro pins s σ H Q I h;show Call_ (ld_blt I hg hm boot_range (agK (thn (ha pos pins s σ H _ I h) λus s1 ⟨vs,H1,I1,r1,q1⟩=>?_) hs rfl));let⟨j,e,h0,h1,q⟩:=q1;subst e;cases r1 with
 | cons r rr=>
  cases rr;let⟨t,rfl⟩:=r;show call_range_1 ?_;show⟨.ref s1.heap.objs.size,upd H1 s1.heap.objs.size (.rng 0 j),I1.laid (λb o e=>z1a _ e) (z0g _) ⟨_,_,_,z1f _ rfl⟩,rfl,q _ (I1.hok.fresh (z0g _))⟩
end
section
variable{X:Cx}{e:afV}{f:ao->R D}{pos:Pos}
def Q8(i:Nat)(f:ao->R D):ao->So:=λρ=>match ρ[i]? with
 | some (some (.val (.int a)))=>kh (f ρ) ρ λd=>match d with
  | .int b=> .nx (ρ.set i (some (.val (.int (a+b)))))
  |_=> .bad
 |_=> .bad
theorem adF(i:Nat){x:Str}(hN:X.N.Nodup)(he:DE X e f)(hi:X.N[i]?=some x:=by rfl)(hx:Loc X.env.scope x:=by first |show agp rfl |show aga rfl)
  (hf:X.fn x=true\/X.env.scope.names.lookup x=some .local:=by first |show .inl rfl |show .inr rfl):DS X (.AugAssign (.Name x pos') .Add e pos) (Q8 i f):=by
 show PS.imp (ps_aug hN hi hx he ip_add hf) λσ H E h=>?_;let⟨H0,O0,O,ρ,j,h⟩:=h;unfold Q8 at h;cases e1:ρ[i]? with
 |none=>simp only[e1] at h;show h.elim
 | some oe =>
  cases oe with
  |none=>simp only[e1] at h;show h.elim
  | some en=>
   cases en with
   |lst _=>simp only[e1] at h;show h.elim
   |wL _=>simp only[e1] at h;show h.elim
   |rws _=>simp only[e1] at h;show h.elim
   |bU _ _=>simp only[e1] at h;show h.elim
   |eU _=>simp only[e1] at h;show h.elim
   |obj _=>simp only[e1] at h;show h.elim
   | val d=>
    cases d with
    | int a=>
     simp only[e1] at h;let⟨v,hv,rv⟩:=j.inn.env.get i _ e1;have rv:v= .int a:=Rep.int (K:=X.K) (O:=O) (H:=H) rv;subst rv;show⟨.int a,hv,ρ,O,j.inn,?_⟩;unfold kh at h;cases e2:f ρ with
     |bad=>rw[e2] at h;show h
     |err c=>rw[e2] at h;show h σ H O j
     | ok d=>
      rw[e2] at h;intro v' H' s r;cases d with
      |int b=>show⟨a,b,rfl,r.int,h _ H' O ((j.grow s).set (z1b hi).1 (cg _)) (Same.cI s)⟩
      |_=>show h.elim
    |_=>simp only[e1] at h;show h.elim
def Wn(K:afM)(mg:Str->Option afL)(x:Str)(ss:List Str):Prop:=∃a,mg x=some (.ref a)/\∀H,SqT K H a (ss.map V.str)
theorem Ni{K:afM}{O:afK->Prop}{H:Hp}:∀{ss:List Str},aM K O H (ss.map D.str) (ss.map V.str)
 |[]=> .nil
 |_::_=> .cons (Ed _) Ni
theorem Vh{x:Str}{ss:List Str}{pos:Pos}(hg:Gl X x)(h:Wn X.K X.mg x ss)(hd:(x ==("__debug__" :Str))=false:=by decide):DE X (.Name x pos) (λ_=> .ok (.tup (ss.map D.str))):=by
 let⟨a,hm,hq⟩:=h;show Kq (pe_glob (v:= .ref a) hg hm rfl hd) λ_ H=>gA (hq H) Ni
end
theorem Vi{x:Str}{ss:List Str}{a:afK}{its:Array afL}{sl:Array (Option afL)}(X:K.In h)(G:h.Ns afU mg)
  (y:afW K afU x=some (some (.ref a)))(l:K.lookup a=some ⟨.type "tuple",none,.seq its n,sl⟩)(hz:its.size<=sizeLine)(hv:Vals (ss.map V.str) its.toList):Wn K mg x ss:=
 ⟨a,agq X G y,λ_=> .inr ⟨_,its,n,l,rfl,rfl,rfl,hz,hv⟩⟩
section
variable{X:Cx}
end
section
variable{X:Cx}
inductive aap (XB:Cx) (K:afM) (O:afK->Prop) (H2:Hp) (Dd:afK) (fp:List afK) (tn:Nat->af2->Prop) (ρ0:ao) (xs:List D) (F:D->R (Option D)) (all:List D) (n:Nat) (s':afN):Prop
 |mk (i:Nat) (σ':St) (H':Hp) (ys:List V) (ds rest:List D) (en:n=xs.length+1 - i) (hil:i<=xs.length) (I:Inv XB [] σ' H' s') (st:tn i s'.heap) (fr:∀b∈fp,H' b=none) (j:In XB O H' ρ0 σ') (sm:Same H2 H') (hD:H' Dd=some (.lst ys)) (rp:aM K O H' ds ys) (hm:j5 F (xs.drop i)= .ok rest) (hr:ds++rest=all):aap XB K O H2 Dd fp tn ρ0 xs F all n s'
theorem Q9{pos2:Pos}{fi:ao->R (List D)}{gt:D->ao->R ao}{fe:ao->R D}(ts:List Str)(caps:List Nat)
  (hc:X.calm=true)(hb:Qv X.env.scope scope ts X.N=true)(hcap:(eV scope).map (λx=>mQ x X.N)=caps)
  (hi:DI X tg iter fi)(hk:wR ts.length gt)(hg:∀C s H ex,(dB X scope ts C s H ex).N.Nodup->DG (dB X scope ts C s H ex) tg gt)(ht:∀C s H ex,XH (dB X scope ts C s H ex) ifs ft)(he:∀C s H ex,DE (dB X scope ts C s H ex) elt fe)
  (hs:∀x,aiw iter X.env x=pure x){use:Option (afL->Sem Unit)}{Qr:afL->afN->Prop}{pins:List (afK×Obj)}{s:afN}{Q:VK}(I:Inv X pins σ H s)(j:In X O H ρ σ)
  (hQ:∀(v:V) (H':Hp) (s5:afN) (C:afK) (m:Str->Option afL) (f:Flow) (acc:afL),Q v H'->Inv X pins σ H' s5->s5.heap.Ns C m->FpOk X pins H' C->RelV v acc->compPost (model X.prog X.w) X.A X.xe use Qr acc C (.ok f) s5)
  (h:good X (rD X) O (bY ts.length caps fi gt ft fe ρ) σ H Q):
  afS (model X.prog X.w) X.A (comprehension (.ListComp elt [⟨tg,iter,ifs,0⟩] scope pos) scope X.env pos2 (newList []) false (eval iter X.env) use) Qr X.xe s:=by
 have B:=aeP hb;show wpAny_comprehension_free (cl:=ig X.env.cells scope.names []) (use:=use) rfl hs (Wc λx hx e=>?_) B.kind B.loc ?_
 .let⟨n,k⟩:=x;have e:k= .free:=e;subst e;show I.ok.has n (B.out n (tQ hx))
 show thn (hi pins s σ H (λJ H1=>∃xs,YR X.K O H1 J xs/\In X O H1 ρ σ/\good X (rD X) O ((j5 (pB gt ft fe (Ek ts.length caps ρ)) xs).bind (cap .lst)) σ H1 Q) I (Pu.go j h λxs J H1 e1 s1 y1 j1 h1=>⟨xs,y1,j1,h1⟩)) λxv s1 h1=>thn h1 λitv s2 h2=>?_;let⟨it,fp,tn,J,H2,e,I2,T,st2,f2,xs,yr,j2,g2⟩:=h2;subst e;rw[<-Wf hcap] at g2
 generalize eρ:pull X.N (eV scope) ts.length (ρ.map yu)=ρ0 at g2
 obtain⟨all,hall,hlen,g3⟩:∃all,j5 (pB gt ft fe ρ0) xs= .ok all/\all.length<=1000000/\good X (rD X) O (.ok (.lst all)) σ H2 Q:=by
  cases e:j5 (pB gt ft fe ρ0) xs with
  |bad=>rw[e] at g2;show g2.elim
  |err c=>show absurd e Ii
  | ok all=>
   rw[e] at g2;have g2:good X (rD X) O (if all.length<=1000000 then .ok (.lst all) else .bad) σ H2 Q:=g2;by_cases hl:all.length<=1000000
   .rw[z9p hl] at g2;show⟨all,rfl,hl,g2⟩
   .rw[z9n hl] at g2;show g2.elim
 have hlt:∀b∈fp,b<s2.heap.objs.size:=λb hb=>by
  let⟨o,e,_⟩:=T.obj 0 _ st2 b hb;show z2c e
 show aha (XF ?_)
 generalize hC:(s2.heap.push {cls:= .type "list",dict:=none,data:= .seq ([]:List afL).toArray}).objs.size=C
 have hC':C=s2.heap.objs.size+1:=by rw[<-hC];show agw ..
 generalize e4:pushCells ((s2.heap.push {cls:= .type "list",dict:=none,data:= .seq ([]:List afL).toArray}).push {cls:= .type "dict",data:= .dict #[]}) scope.names=h4
 show ai4 (model X.prog X.w) X.A (.compStart (.ListComp elt [⟨tg,iter,ifs,0⟩] scope pos) 0 (.ref it) (.ref s2.heap.objs.size) (gG scope X.env C)) (compPost (model X.prog X.w) X.A X.xe use Qr (.ref s2.heap.objs.size) C) {s2 with heap:=h4};have hDn:H2 s2.heap.objs.size=none:=I2.hok.fresh (z0g _);have hOn:¬O s2.heap.objs.size:=j2.tE hDn;have hDk:X.K.lookup s2.heap.objs.size=none:=by
  cases q:X.K.lookup s2.heap.objs.size with
  |none=>rfl
  |some o=>show absurd (z2c (I2.kIn _ _ q)) (agS _)
 have I4:=abH (ts:=ts) I2 B f2 hlt hC' e4.symm;have sD:Same H2 (upd H2 s2.heap.objs.size (.lst [])):=Same.upd hDn;have lρ0:ρ0.length=(ts++eV scope).length:=by rw[<-eρ,yt,z1d]
 generalize eD:s2.heap.objs.size=Dd at *
 have adG:∀{H':Hp},Same H2 H'->cT X.K O H2 (λa=>O a\/a=Dd) H':=λsm=>⟨(Same.cI (K:=X.K) (O:=O) sm).ext,λa z=>z.elim .inl λe=> .inr (by rw[e];show⟨hDn,hDk⟩),(Same.cI (K:=X.K) (O:=O) sm).dom⟩;have alO:∀{H':Hp} {ys:List V},Same H2 H'->H' Dd=some (.lst ys)->∀a,(O a\/a=Dd)->∃o,H' a=some o:=λsm e a z=>z.elim (λq=>let⟨o,h⟩:=j2.al a q;⟨o,sm _ _ h⟩) λq=>by rw[q];show⟨_,e⟩
 have j4:In (dB X scope ts C s2 H2 fp) (λa=>O a\/a=Dd) (upd H2 Dd (.lst [])) ρ0 (pull X.N (eV scope) ts.length σ):=by
  rw[<-eρ];show In.go (adt B j2.vals) M6 (adG sD) (alO sD upd_same)
 have hv0:∀(i:Nat) e,ρ0[i]?=some (some e)->e.Qt=true:=by rw[<-eρ];show M6
 have hn0:∀i,i<ts.length->ρ0[i]?=some none:=by rw[<-eρ];show λi h=>XM h
 have aeW:∀b o,s2.heap.get? b=some o->h4.get? b=some o:=λb o e=>by
  rw[<-e4];show aiV _ _ b o (z1a _ (z1a _ e))
 have st4:tn 0 h4:=T.keep _ _ _ st2 λb _ o e=>aeW b o e;have stat:∀{H':Hp},(∀b∈fp,H' b=none)->∀b∈fp,FpOk (dB X scope ts C s2 H2 fp) [] H' b:=λ{H'} hn b hb=>by
  have hl: @LT.lt Nat _ b Dd:=hlt b hb;let⟨_,a1,a2,a3,a4,_⟩:=f2 b hb;show⟨hn b hb,by show @Ne Nat b C;omega,λz=>?_,.inl hb,λx c h=>?_,λp hp=>absurd (show p∈([]:List (afK×Obj)) from hp) ()⟩
  .rcases af9.mp (I2.stkSub b z) with z |z
   .show a1 z
   .show a2 z
  .rcases kj B I2.ok.has h with⟨_,q⟩ |⟨_,q⟩
   .show @Ne Nat c b;omega
   .show a4 x c q
 have fr4:∀b∈fp,(upd H2 Dd (.lst [])) b=none:=λb hb=>by
  have hl: @LT.lt Nat _ b Dd:=hlt b hb;rw[upd_ne (show @Ne Nat b Dd by omega)];show (f2 b hb).1
 have loop : ∀s0:afN,s0={s2 with heap:=h4}->ai4 (model X.prog X.w) X.A (.compLoop (.ListComp elt [⟨tg,iter,ifs,0⟩] scope pos) 0 (.ref it) (.ref Dd) (gG scope X.env C)) (compPost (model X.prog X.w) X.A X.xe use Qr (.ref Dd) C) s0:=by
  intro s0 e0;show codeAny_loop rfl (λn s'=>aap (dB X scope ts C s2 H2 fp) X.K (λa=>O a\/a=Dd) H2 Dd fp tn ρ0 xs (pB gt ft fe ρ0) all n s') (λn s' hI=>?_) (xs.length+1)
   ⟨0,_,_,[],[],all,rfl,ahO _,e0▸I4,e0▸st4,fr4,j4,sD,upd_same,.nil,by simpa using hall,rfl⟩
  let⟨i,σ',H',ys,ds,rest,rfl,hil,I',st',fr',j',sm',hD',rp',hm',hr'⟩:=hI;show afS (model X.prog X.w) X.A ((compTurn (.ListComp elt [⟨tg,iter,ifs,0⟩] scope pos) 0 (.ref it) (.ref Dd) (gG scope X.env C)).onRaise (λx=>do noteFrame x (gG scope X.env C);theTreesLotGoes x)) _ _ s';show wpAny_noted ?_;rw[compTurn_list];have XQ:=yr _ H' (adG sm') i;show aft (aj4 (aft ?_));by_cases hlt':i<xs.length
  .-- a turn
   have ex:xs[i]?=some xs[i]:=by simp[hlt']
   have ed:xs.drop i=xs[i]::xs.drop (i+1):=akq hlt';rw[ed] at hm';let⟨o,rest',k1,k2,k3⟩:=XJ hm';let⟨jgo,jy⟩:=XQ.1 _ ex;show agL (T.item (dB X scope ts C s2 H2 fp) rfl rfl rfl hc i [] s' σ' H' (λ_ _=>False) I' (stat fr') st' jgo) (λr s4 ⟨u,hr,h4'⟩=>?_) λ_ _ z=>z.elim;subst hr;show aft (agL h4' (λ_ s5 ⟨x,H5,I5,r5,y5,st5,fr5⟩=>?_) λ_ _ z=>z.elim);let⟨vm,afi⟩:=jy x H5 y5;have I5':=I5.pinned (stat fr5) (T.obj _ _ st5);have k1:(gt xs[i] ρ0).bind (λρ1=>(ft ρ1).bind λb=>if b=true then (fe ρ1).bind λd=> .ok (some d) else .ok none)= .ok o:=k1;cases q1:gt xs[i] ρ0 with
   |bad=>rw[q1] at k1;cases k1
   |err c=>rw[q1] at k1;cases k1
   | ok ρ1 =>
    rw[q1] at k1;have k1:(ft ρ1).bind (λb=>if b=true then (fe ρ1).bind λd=> .ok (some d) else .ok none)= .ok o:=k1;show aft (agL (hg C s2 H2 fp B.nd _ s5 σ' H5 x u (λσ6 H6=>H6=H5/\In (dB X scope ts C s2 H2 fp) (λa=>O a\/a=Dd) H5 ρ1 σ6) I5' r5 ⟨ρ0,_,xs[i],ρ1,j'.same vm,afi,q1,λσ6 j6=>⟨rfl,j6⟩⟩) (λ_ s6 ⟨σ6,H6,I6,eH,j6⟩=>?_) λ_ _ z=>(show False from z).elim);subst eH;cases q2:ft ρ1 with
    |bad=>rw[q2] at k1;cases k1
    |err c=>rw[q2] at k1;cases k1
    | ok bb =>
     rw[q2] at k1;have k1:(if bb=true then (fe ρ1).bind λd=>R.ok (some d) else .ok none)= .ok o:=k1;have gtest:tG (dB X scope ts C s2 H2 fp) rB ft σ6 H6 (λb H7=>b=bb/\Same H6 H7):=⟨ρ1,_,j6,by rw[q2];show λb H7 s7 e7=>⟨e7.symm,s7⟩⟩;show aft (agL (ht C s2 H2 fp _ s6 σ6 H6 _ I6 gtest) (λok s7 ⟨H7,I7,ok7,IW⟩=>?_) λ_ _ z=>(show False from z).elim);subst ok7;have back:∀{H8:Hp} {s8:afN} {ys':List V} {ds':List D},Inv (dB X scope ts C s2 H2 fp) ([]++pinsAt fp s5.heap) σ6 H8 s8->Same H2 H8->In (dB X scope ts C s2 H2 fp) (λa=>O a\/a=Dd) H8 ρ0 σ6->H8 Dd=some (.lst ys')->aM X.K (λa=>O a\/a=Dd) H8 ds' ys'->ds'++rest'=all->
       ∃m,m<xs.length+1 - i/\aap (dB X scope ts C s2 H2 fp) X.K (λa=>O a\/a=Dd) H2 Dd fp tn ρ0 xs (pB gt ft fe ρ0) all m s8:=by
      intro H8 s8 ys' ds' I8 Vj j8 hD8 rp8 hr8;show⟨xs.length+1 - (i+1),(),i+1,σ6,H8,ys',ds',rest',rfl,(),I8.unpinned,T.keep _ _ _ st5 λb hb o e=>(I8.pin (b,o) (agH _ (agH _ (mem_pinsAt hb e)))).1,λb hb=>?_,j8,Vj,hD8,rp8,k2,hr8⟩;let⟨o,e,d⟩:=T.obj _ _ st5 b hb;show (I8.pin (b,o) (agH _ (agH _ (mem_pinsAt hb e)))).2.1
     have j60:In (dB X scope ts C s2 H2 fp) (λa=>O a\/a=Dd) H6 ρ0 σ6:=In.back (n:=ts.length) j6 hn0 (λk hk'=>hk _ _ _ q1 k hk') lρ0;cases ok with
     | false=>
      have k1:R.ok none=R.ok o:=k1;cases k1;show afQ ⟨rfl,?_⟩;show back I7 (sm'.trans (vm.trans IW)) (j60.same IW) (IW _ _ (vm _ _ hD')) (rp'.same (vm.trans IW)) ?_;rw[<-hr',k3];rfl
     | true=>
      have k1:(fe ρ1).bind (λd=>R.ok (some d))= .ok o:=k1;cases q3:fe ρ1 with
      |bad=>rw[q3] at k1;cases k1
      |err c=>rw[q3] at k1;cases k1
      | ok d=>
       rw[q3] at k1;have k1:R.ok (some d)=R.ok o:=k1;cases k1;have afj:tG (dB X scope ts C s2 H2 fp) (rD (dB X scope ts C s2 H2 fp)) fe σ6 H7 (λv H8=>Same H7 H8/\Rep X.K (λa=>O a\/a=Dd) H8 d v):=⟨ρ1,_,j6.same IW,by rw[q3];show λv H8 s8 r8=>⟨s8,r8⟩⟩;show aft (aft (agL (he C s2 H2 fp _ s7 σ6 H7 _ I7 afj) (λxv s8 ⟨v8,H8,I8,r8,Vj,afk⟩=>?_) λ_ _ z=>(show False from z).elim));have hD8:H8 Dd=some (.lst ys):=Vj _ _ (IW _ _ (vm _ _ hD'));have rp8:aM X.K (λa=>O a\/a=Dd) H8 ds ys:=rp'.same (vm.trans (IW.trans Vj));have hds:ds++d::rest'=all:=by rw[<-hr',k3];rfl
       have hyl:ys.length<sizeLine:=by
        have:=dW;have e1:=rp8.length;have e2:=congrArg aiP hds;rw[z1d,afY] at e2;omega
       show aft (agL (mt_append (X:=dB X scope ts C s2 H2 fp) _ s8 σ6 H8 (.ref Dd) [v8] (.ref Dd) [xv] (λ_ H9=>H9=upd H8 Dd (.lst (ys++[v8]))) I8 rfl (.cons r8 .nil) ⟨_,ys,v8,rfl,rfl,hD8,hyl,rfl⟩) (λ_ s9 ⟨_,H9,I9,_,eH9⟩=>?_) λ_ _ z=>(show False from z).elim);subst eH9;have afl:Same H2 H8:=sm'.trans (vm.trans (IW.trans Vj));have adH:cT X.K (λa=>O a\/a=Dd) H8 (λa=>O a\/a=Dd) (upd H8 Dd (.lst (ys++[v8]))):=oZ (.inr rfl) hD8 trivial;have sm9:Same H2 (upd H8 Dd (.lst (ys++[v8]))):=λb o e=>by
        rw[upd_ne (ne_of_none e hDn)];show afl _ _ e
       show afQ (afQ ⟨rfl,?_⟩);show back I9 sm9 (In.go (j60.same (IW.trans Vj)) hv0 adH (alO sm9 upd_same)) upd_same ((rp8.append (.cons afk .nil)).go adH) ?_;rw[ahi];show hds
  .-- the end
   have ei:i=xs.length:=()
   subst ei;have hrest:rest=[]:=by
    have hm':j5 (pB gt ft fe ρ0) (xs.drop xs.length)= .ok rest:=hm';rw[akD] at hm';cases hm';rfl
   subst hrest;rw[ags] at hr';subst hr';show agL (T.done (dB X scope ts C s2 H2 fp) rfl rfl rfl hc _ [] s' σ' H' (λ_ _=>False) I' (stat fr') st' (XQ.2 (z0g _))) (λr s5 ⟨hr,I5⟩=>?_) λ_ _ z=>z.elim;subst hr;show afQ ?_;let⟨m,hns,_⟩:=I5.loc;have hCn:H' C=none:=I5.free;have I6:Inv X pins σ H' s5:=by
    show I2.call' (s':=s5) (ch:=fp) I5.os ⟨λb o e n hb hx=>I5.base.keep b o e n hb hx,λb o e n hb hx=>I5.base.slot b o e n hb hx,I5.base.free,λb o e hx=>I5.base.there b o e hx,I5.base.tups,I5.base.frzs,I5.base.tbls⟩ (λb u e=>I5.hok b u e) I5.bare λb hb=>⟨(f2 b hb).2.2.2.1,(f2 b hb).2.1,(f2 b hb).2.2.2.2.1,(f2 b hb).2.2.2.2.2⟩
   show hQ (.ref Dd) H' s5 C m _ (.ref Dd) (g3 _ _ sm' (lD (SqL.of hD') hOn (rp'.fewer λa z=> .inl z))) I6 hns (I2.fpOk (show @LE.le Nat _ _ C by omega) hCn) rfl
 show codeAny_compStart_list (loop _ rfl) (T.self _ 0 _ _ _ st4 (loop _ rfl))
theorem cB{fi:ao->R (List D)}{gt:D->ao->R ao}{fe:ao->R D}(ts:List Str)(caps:List Nat)
  (hc:X.calm=true)(hb:Qv X.env.scope scope ts X.N=true)(hcap:(eV scope).map (λx=>mQ x X.N)=caps)
  (hi:DI X tg iter fi)(hk:wR ts.length gt)(hg:∀C s H ex,(dB X scope ts C s H ex).N.Nodup->DG (dB X scope ts C s H ex) tg gt)(ht:∀C s H ex,XH (dB X scope ts C s H ex) ifs ft)(he:∀C s H ex,DE (dB X scope ts C s H ex) elt fe)
  (hs:∀x,aiw iter X.env x=pure x:=by intro _;rfl):
  DE X (.ListComp elt [⟨tg,iter,ifs,0⟩] scope pos) (bY ts.length caps fi gt ft fe):=by
 intro pins s σ H Q I h;let⟨ρ,O,j,h⟩:=h;rw[eval_ListComp];show Q9 ts caps hc hb hcap hi hk hg ht he hs (use:=none) (Qr:=EP X pins σ Q) I j (λv H' s5 C m f acc hv I6 hns fp rv=>⟨m,hns,λh' sb=>⟨v,H',I6.fp fp sb,rv,hv⟩⟩) h
theorem abW(i:Nat){x:Str}{cpos:Pos}{fi:ao->R (List D)}{gt:D->ao->R ao}{fe:ao->R D}(hN:X.N.Nodup)(ts:List Str)(caps:List Nat)
  (hc:X.calm=true)(hb:Qv X.env.scope scope ts X.N=true)(hcap:(eV scope).map (λx=>mQ x X.N)=caps)
  (hi:DI X tg iter fi)(hk:wR ts.length gt)(hg:∀C s H ex,(dB X scope ts C s H ex).N.Nodup->DG (dB X scope ts C s H ex) tg gt)(ht:∀C s H ex,XH (dB X scope ts C s H ex) ifs ft)(he:∀C s H ex,DE (dB X scope ts C s H ex) elt fe)
  (hix:X.N[i]?=some x:=by rfl)(hx:Loc X.env.scope x:=by first |show agp rfl |show aga rfl)(hf:X.fn x=true\/X.env.scope.names.lookup x=some .local:=by first |show .inl rfl |show .inr rfl)
  (hsw:ag6 (.ListComp elt [⟨tg,iter,ifs,0⟩] scope cpos) (some (.Name x pos')) pos.line X.env=pure true:=by rfl)
  (hs:∀x,aiw iter X.env x=pure x:=by intro _;rfl):
  DS X (.Assign [.Name x pos'] (.ListComp elt [⟨tg,iter,ifs,0⟩] scope cpos) pos) (bC (bY ts.length caps fi gt ft fe) (aL i)):=by
 intro pins s σ H E I h;let⟨H0,O0,O,ρ,j,h⟩:=h;rw[exec_Assign_Name_used _ _ _ _ hsw];show aft (aj4 (aft ?_));show afS _ _ (comprehension (.ListComp elt [⟨tg,iter,ifs,0⟩] scope cpos) scope X.env _ (newList []) false (eval iter X.env) (some (assign (.Name x pos') X.env)) >>=λ_=>pure Unit.unit) _ _ _;unfold bC kh at h;show aft (Q9 (Q:=λv H'=>∃d,bY ts.length caps fi gt ft fe ρ= .ok d/\Same H H'/\Rep X.K O H' d v) (Qr:=λ_ s'=>afS (model X.prog X.w) X.A (pure Unit.unit) (λ_ s1=>afS (model X.prog X.w) X.A (pure Flow.next) (SP X pins E) X.xe s1) X.xe s') ts caps hc hb hcap hi hk hg ht he hs I j.inn ?_ ?_)
 .intro v H' s5 C m f acc hq I5 hns fC rel;let⟨d,ed,sm,rd⟩:=hq;rw[ed] at h;have h:qG X H0 O0 O H E (.nx (ρ.set i (some (.val d)))):=h;let⟨o,es,ep,ho,hd,hr⟩:=hns;have Ip:=I5.pinned (fp:=[C]) (λb hb=>by rw[aip.mp hb];show fC) (λb hb=>by rw[aip.mp hb];show⟨o,ho,λv z=>by rw[hd] at z;cases z⟩);show afS (model X.prog X.w) X.A (assign (.Name x pos') X.env acc) _ X.xe s5;show agL (pg_name hN hix hx hf _ s5 σ H' v acc (λσ' H''=>σ'=σ.set i (some v)/\H''=H') Ip rel ⟨rfl,rfl⟩) (λ_ s6 ⟨σ',H'',I',e1,e2⟩=>?_) λ_ _ z=>z;subst e1 e2;have pn:=(I'.pin (C,o) (agH _ (agH _ (mem_pinsAt (aip.mpr rfl) ho)))).1;show⟨m,⟨o,es,ep,pn,hd,hr⟩,λh' sb=>afQ (afQ ⟨_,H'',(I'.unpinned).fp fC sb,h _ H'' O ((j.grow sm).set (z1b hix).1 rd) (Same.cI sm)⟩)⟩
 .cases e1:bY ts.length caps fi gt ft fe ρ with
  |bad=>rw[e1] at h;show h
  |err c=>rw[e1] at h;show h σ H O j
  |ok d=>show λv H' sm r=>⟨d,rfl,sm,r⟩
end
def okN{α:Type}(F:List D->R α)(n:Nat)(ds:List D):R α:=if ds.length=n then F ds else .bad
def Ez(sub:Str->Str->Bool)(i:Nat)(t:Str):ao->R D:=λρ=>match ρ[i]? with
 |some (some (.obj (.exc c)))=>if sub c c=true then .ok (.bl (sub c t)) else .bad
 |_=> .bad
def Ra(sub:Str->Str->Bool)(t:Str)(i:Nat)(g h:ao->So):ao->So:=λρ=>match g ρ with
 | .ex c ρ1=>if sub c t=true then (match h (ρ1.set i (some (.obj (.exc c)))) with
  | .rt d=> .rt d
  |_=> .bad) else .bad
 |o=>o
def Wo:List D->R (List D)
 |[.lst ds]=> .ok ds.reverse
 |_=> .bad
section
variable{ρ ρ1:ao}{fa:ao->R (List D)}{F:List D->R D}{ds:List D}{n:Nat}{d:D}{c:Str}{f:ao->R D}{gt:D->ao->R ao}{p:ao->R Bool}{s t:ao->So}{o:So}
theorem qL{r:R D}(e1:fa ρ= .ok ds)(e2:F ds=r)(h:ds.length=n:=by rfl):aD (okN F n) fa ρ=r:=by rw[aD,e1,R.aR,okN,z9p h,e2]
theorem Rb{sub:Str->Str->Bool}{t:Str}(h:ρ[i]?=some (some (.obj (.exc c))))(hk:sub c c=true):Ez sub i t ρ= .ok (.bl (sub c t)):=by
 unfold Ez;rw[h];show (if sub c c=true then R.ok (D.bl (sub c t)) else .bad)=_;rw[z9p hk]
theorem adI{sub:Str->Str->Bool}{u:Str}(e1:s ρ= .ex c ρ1)(hs:sub c u=true)(e2:t (ρ1.set i (some (.obj (.exc c))))= .rt d):Ra sub u i s t ρ= .rt d:=by
 unfold Ra;rw[e1];simp only[hs,if_true,e2]
end
structure xg(fs:List afK)(h h':af2)(a C:afK)(T:Option afK)(t':afK):Prop where
 exc:Exc h' a C (some t')
 old:T=some t'\/h.get? t'=none
 keep:∀b o,h.get? b=some o->b≠a->T≠some b->b∉fs->h'.get? b=some o
 slot:∀b o,h.get? b=some o->b∈fs->∃sl,h'.get? b=some {o with slots:=sl}
section
variable{M:Model}{A:af5}{E:afL->afN->Prop}{s:afN}
theorem Bk{h h1 b0 b1:af2}:∀{l:List agA},h.FunFrames b0 l->(∀b∈frs l,b1.get? b=none)->(∀b o,h.get? b=some o->b∈frs l->h1.get? b=some o)->h1.FunFrames b1 l
 |[],_,_,_=>trivial
 | env::r,hl,hn,hs=>by
  let⟨hk,⟨L,o,hf,_,ho,hd⟩,hr⟩:=hl;have e:frs (env::r)=L::frs r:=by unfold frs;rw[aij,hf]
  rw[e] at hn hs;show⟨hk,⟨L,o,hf,hn L agl,hs L o ho agl,hd⟩,Bk hr (λb hb=>hn b (z2f _ hb)) λb o q hb=>hs b o q (z2f _ hb)⟩
theorem Yw{o:Obj}{g:Array afL->Array afL}:(o.mapFields g).dict=o.dict:=by
 let⟨c,d,dt,sl⟩:=o;cases dt <;> rfl
theorem Nj{L a:afK}{oe:Obj}{vs:Array afL}{hd0:afL}{had:Bool}{Q:Unit->afN->Prop}(hfr:A.frames=some (env::outer))(hl:s.heap.FunFrames b0 (env::outer))(hf:env.frame=some L)
  (he:s.heap.get? a=some oe)(hc:oe.cls= .ref C)(hn:oe.dict=none)(hv:oe.data= .fields vs)(hz:1<vs.size)
  (h:∀h' t',xg (frs (env::outer)) s.heap h' a C none t'->Q Unit.unit {s with heap:=h'}):
  afS M A (do let x <-frameOf env;let y <-entryPlaceOf L had;let z <-ak8 hd0 x .none (agN L) .none y;setField (.ref a) 1 z) (λ_ s'=>afS M A (setFlight (.ref a) none) Q E s') E s:=by
 have na:a∉frs (env::outer):=λz=>by
  let⟨_,o',ho',hd'⟩:=hl.mem z;rw[he] at ho';cases ho';show hd' vs hv
 show aft (wpAny_frameOf_fun hfr hl hf λg1 sl1=>aft (wpAny_entryPlaceOf λpl ok=>?_));unfold ak8 newFields;show aft (aha ?_ (ok.sizeOk5 _ _ _ _ _));have e1:g1.get? a=some oe:=(sl1.2.1 a na).trans he
 generalize hob:({cls:= .type "traceback",dict:=none,data:= .fields ([hd0,.ref L,.none,agN L,.none]++(if pl.isEmpty then afO 6 agi else pl)).toArray}:Obj)=ob
 have aaq:ob.data= .fields ([hd0,.ref L,.none,agN L,.none]++(if pl.isEmpty then afO 6 agi else pl)).toArray:=by rw[<-hob]
 have afm:ob.isFreed=false:=by rw[<-hob];rfl
 have e2:(g1.push ob).get? a=some oe:=z1a ob e1;show ai5 e2 hv hz ?_;have nT:g1.objs.size≠a:=akt (z2c e1);have d3:=ait hv (·.setIfInBounds 1 (af0 g1.objs.size));have e3:=aiA (ain (·.setIfInBounds 1 (af0 g1.objs.size))) e2 (ajx d3);have T3:=(ag8 (g1.push ob) (ain (·.setIfInBounds 1 (af0 g1.objs.size))) (afT nT)).trans (z1f g1 afm);unfold setFlight;show aft (agf e3 d3 (x:= .ref g1.objs.size) (by simp[hz]) ?_);rw[z9p (show (af0 g1.objs.size !=agi)=true from by simp)];have hsz:3<(([hd0,.ref L,.none,agN L,.none]++(if pl.isEmpty then afO 6 agi else pl)).toArray).size:=by
  rw[z1c,z1d];show 3<5+_;omega
 show ai5 T3 aaq hsz (h _ g1.objs.size ⟨⟨_,_,(ag8 _ _ nT).trans e3,(Obj.cls_mapFields _ _).trans hc,Yw.trans hn,d3,by simp[hz],nT,_,_,aiA _ T3 (ajx (ait aaq _)),ait aaq _,?_⟩,.inr (Heap.get?_none_of_le (by rw[sl1.1];show z0g _)),λb o hb n1 _ n3=>?_,λb o hb hm=>?_⟩)
 .rw[Array.getElem?_setIfInBounds,z9p rfl,z9p hsz];rfl
 .have q1:g1.get? b=some o:=(sl1.2.1 b n3).trans hb;rw[ag8 _ _ (akt (z2c q1)),ag8 _ _ (afT n1)];show z1a _ q1
 .let⟨sl,q1⟩:=sl1.2.2 b o hb;show⟨sl,?_⟩;rw[ag8 _ _ (akt (z2c q1)),ag8 _ _ (λz=>na (by rw[z];show hm))];show z1a _ q1
theorem Rc{L a:afK}{T:Option afK}{Q:Unit->afN->Prop}(hfr:A.frames=some (env::outer))(hl:s.heap.FunFrames b0 (env::outer))(hf:env.frame=some L)(x:Exc s.heap a C T)
  (h:∀h' t',xg (frs (env::outer)) s.heap h' a C T t'->Q Unit.unit {s with heap:=h'}):afS M A (noteFrame (.ref a) env) (λ_ s2=>afS M A (setFlight (.ref a) none) Q E s2) E s:=by
 let⟨oe,vs,he,hc,hn,hd,hx⟩:=x;unfold noteFrame;simp only[hf];cases T with
 | none=>
  have h1:vs[1]?=some agi:=hx;show aft (agf he hd h1 ?_);rw[z9n {}];show Nj hfr hl hf he hc hn hd (ahz.mp h1).1 h
 | some t=>
  let⟨h1,hne,ot,ts,ht,hdt,h3⟩:=hx;have nt:t∉frs (env::outer):=λz=>by
   let⟨_,o',ho',hd'⟩:=hl.mem z;rw[ht] at ho';cases ho';show hd' ts hdt
  show aft (agf he hd h1 ?_);rw[z9p (show (af0 t !=agi)=true from by simp)];show aft (agf ht hdt h3 ?_);rw[z9n (show ¬((agi ==agN L)=true) from by simp[agN])];show aft (ai5 ht hdt (ahz.mp h3).1 ?_);have other:∀b o,s.heap.get? b=some o->b≠t->(s.heap.update t (ain (·.setIfInBounds 3 agi))).get? b=some o:=λb o q hb=>(ag8 _ _ (afT hb)).trans q;show Nj (s:={s with heap:=s.heap.update t (ain (·.setIfInBounds 3 agi))}) (b0:=b0) hfr (Bk hl (λb hb=>(hl.mem hb).1) λb o q hb=>other b o q λz=>nt (z▸hb)) hf (other a oe he (afT hne)) hc hn hd (ahz.mp h1).1 λh' t' ld=>?_;show h h' t' ⟨ld.exc,?_,λb o q n1 n2 n3=>ld.keep b o (other b o q λz=>n2 (by rw[z])) n1 () n3,λb o q hm=>ld.slot b o (other b o q λz=>nt (z▸hm)) hm⟩;by_cases z:t'=t
  .show .inl (by rw[z])
  .show .inr ?_;rcases ld.old with q |q
   .cases q
   .cases q2:s.heap.get? t' with
    |none=>rfl
    | some o=>
     have q3:=other t' o q2 z;have q:(s.heap.update t (ain (·.setIfInBounds 3 agi))).get? t'=none:=q;rw[q] at q3;cases q3
theorem Yx{L a:afK}{T:Option afK}{Q:Unit->afN->Prop}(hfr:A.frames=some (env::outer))(hl:s.heap.FunFrames b0 (env::outer))(hf:env.frame=some L)(x:Exc s.heap a C T)
  (h:∀h' t',xg (frs (env::outer)) s.heap h' a C T t'->Q Unit.unit {s with heap:=h'}):afS M A (leaving env (.ref a)) Q E s:=by
 unfold leaving;show aft (Rc hfr hl hf x h)
end
section
variable{P:afZ}{w:af4}{fs fs':List afK}{H H' H0:Hp}{s s' s0:afN}{a C:afK}{T:Option afK}{h':af2}{t':afK}
theorem ObjOk.ex{H:Hp}{a:afK}{o:HO}(x:ObjOk P w H h a o):∃ob,h.get? a=some ob:=by
 induction o with
 |lst xs=>let⟨_,_,_,_,e⟩:=x;show⟨_,e⟩
 |tup xs=>let⟨_,_,_,ob,e,_⟩:=x;show⟨_,e⟩
 |dK kvs=>let⟨_,_,_,_,ob,_,_,e,_⟩:=x;show⟨_,e⟩
 |dT kvs=>let⟨_,_,_,_,ob,_,_,e,_⟩:=x;show⟨_,e⟩
 |set S n=>let⟨ob,_,_,_,e,_⟩:=x;show⟨_,e⟩
 |ins C dx fs=>let⟨_,_,_,e,_⟩:=x;show⟨_,e⟩
 |own y=>show x
 |xd fs=>let⟨_,⟨_,_,_,e,_⟩,_⟩:=x;show⟨_,e⟩
 |rng lo hi=>let⟨_,_,_,e⟩:=x;show⟨_,e⟩
 |frz ob u ih=>show⟨_,x.1⟩
 |tbl ps=>let⟨_,e,_⟩:=x;show⟨_,e⟩
 |met f y=>show⟨_,x⟩
 |ext φ=>show x.2.1
theorem G8{b:afK}(x:HOk P w H h)(e:h.get? b=none):H b=none:=by
 cases q:H b with
 |none=>rfl
 | some u=>
  let⟨o,z⟩:=ObjOk.ex (x b u q);rw[e] at z;cases z
theorem xg.hok(ld:xg fs h h' a C T t')(x:HOk P w H h)(ha:H a=none)(ht:∀t,T=some t->H t=none)(hf:∀b∈fs,H b=none):HOk P w H h':=λb u e=>by
 have ne:∀c v,H c=some v->c≠a/\T≠some c/\c∉fs:=λc v q=>⟨λz=>(by rw[z,ha] at q;cases q),λz=>(by rw[ht c z] at q;cases q),λz=>(by rw[hf c z] at q;cases q)⟩;show (x b u e).stay (λc v hc q=>?_) (λ_ q=>q) (λ_ _ q=>q) λ_ _ _ _ q=>q;rcases hc with rfl |hc
 .let⟨n1,n2,n3⟩:=ne _ _ e;show ld.keep _ _ q n1 n2 n3
 .let⟨n1,n2,n3⟩:=ne _ _ hc;show ld.keep _ _ q n1 n2 n3
theorem zT.land(r:zT P w fs H s a C T s' H')(hs:∀b∈fs',b∈fs)(ld:xg fs' s'.heap h' a C T t')(hf:∀b∈fs,H' b=none):zT P w fs H s a C (some t') {s' with heap:=h'} H':=by
 have ne:∀b o,s.heap.get? b=some o->b≠a/\T≠some b:=λb o q=>⟨λz=>(by rw[z,r.na] at q;cases q),λz=>(by rw[(r.nt b z).1] at q;cases q)⟩;have any:∀b o,s.heap.get? b=some o->∀o',s'.heap.get? b=some o'->∃sl,h'.get? b=some {o' with slots:=sl}:=λb o q o' q'=>by
  by_cases hb:b∈fs'
  .show ld.slot b o' q' hb
  .show⟨o'.slots,ld.keep b o' q' (ne b o q).1 (ne b o q).2 hb⟩
 show⟨r.same,⟨λb o q n hb hx=>?_,λb o q n hb hx=>?_,r.un.free,λb o q hx=>?_,r.un.tups,r.un.frzs,r.un.tbls⟩,ld.hok r.hok r.ha (λt z=>(r.nt t z).2) λb hb=>hf b (hs b hb),r.os,r.bare,ld.exc,r.na,r.ha,λt z=>?_⟩
 .show ld.keep b o (r.un.keep b o q n hb hx) (ne b o q).1 (ne b o q).2 λz=>hb (hs b z)
 .let⟨sl,e⟩:=r.un.slot b o q n hb hx;let⟨sl',e'⟩:=any b o q _ e;show⟨sl',e'⟩
 .let⟨o',e⟩:=r.un.there b o q hx;let⟨sl',e'⟩:=any b o q _ e;show⟨_,e'⟩
 .cases z;rcases ld.old with z |z
  .show r.nt t' z
  .show⟨?_,G8 r.hok z⟩;cases q:s.heap.get? t' with
   |none=>rfl
   | some o=>
    let⟨o',e⟩:=r.un.there t' o q ();rw[z] at e;cases e
theorem zT.from{X:Cx}{pins:List (afK×Obj)}(I:Inv X pins σ H s)(hex:X.ex=[])(r:zT X.prog X.w (frs X.stack) H s a C T s' H')(sm:Same X.H₀ H):zT X.prog X.w X.fs X.H₀ X.s₀ a C T s' H':=by
 have J:Inv X pins σ H' s':=I.call' r.os r.un r.hok r.bare λb z=>absurd z ();have b:=J.base;rw[hex] at b;have no:∀c,s.heap.get? c=none->X.s₀.heap.get? c=none:=λc e=>by
  cases q:X.s₀.heap.get? c with
  |none=>rfl
  | some o=>
   let⟨o',e'⟩:=I.base.there c o q (by rw[hex];simp);rw[e] at e';cases e'
 show⟨sm.trans r.same,b,r.hok,J.os,r.bare,r.exc,no a r.na,r.ha,λt z=>⟨no t (r.nt t z).1,(r.nt t z).2⟩⟩
end
def rW(P:afZ)(w:af4):CXT:=λouter H s E e s'=>∃a C T H',e= .ref a/\E (.ref C) none H'/\zT P w (frs outer) H s a C T s' H'
def spX(K:afM)(n:Nat)(F:List D->R D):Sp:=λvs H Q E=>∃O ds,aM K O H ds vs/\ds.length=n/\(∀a,O a->∃o,H a=some o)/\match F ds with
 | .ok d=>∀v H',Same H H'->Rep K O H' d v->Q v H'
 | .err c=>∀C H',afW K afU c=some (some (.ref C))->E (.ref C) none H'
 | .bad=>False
section
variable{P:afZ}{w:af4}{K:afM}{mg:Str->Option afL}{base:af2}
theorem Ja{cdv:afL}{A:af5}{s:afN}{H':Hp}{E:XK}{c:Str}{σ':St}(sm0:Same H H')(h:∀C H',afW K afU c=some (some (.ref C))->E (.ref C) none H'):
  HY (cxOf (rW P w) P w K mg base N qual (defScope st) f cdv A outer s H E) c σ' H':=by
 intro H1 pins s1 a C T s2 H2 sm I hC rs;have J:Inv (cxOf (rW P w) P w K mg base N qual (defScope st) f cdv A outer s H E) pins σ' H2 s2:=I.call' rs.os rs.un rs.hok rs.bare λb z=>absurd z ();have ni:zT P w (frs outer) H s a C T s2 H2:=zT.from I rfl rs (sm0.trans sm);show Yx (b0:=base) (L:=s.heap.objs.size) (outer:=outer) J.ok.frames J.stack rfl rs.exc λh' t' ld=>?_;show⟨a,C,some t',H2,rfl,h C H2 hC,?_⟩;have ne:∀b o,s.heap.get? b=some o->b≠a/\T≠some b:=λb o q=>⟨λz=>(by rw[z,ni.na] at q;cases q),λz=>(by rw[(ni.nt b z).1] at q;cases q)⟩;have nL:∀b o,s.heap.get? b=some o->b≠s.heap.objs.size:=λb o q=>agD (z2c q);have fr:∀b,b∈frs (ag9 qual (defScope st) s.heap.objs.size f cdv::outer)->b=s.heap.objs.size\/b∈frs outer:=λb hb=>af9.mp hb;have fr':∀b,b∈frs outer->b∈frs (ag9 qual (defScope st) s.heap.objs.size f cdv::outer):=λb hb=>z2f _ hb;have hfree:∀b,b∈frs (ag9 qual (defScope st) s.heap.objs.size f cdv::outer)->H2 b=none:=J.stkFree;show⟨ni.same,⟨λb o q n hb hx=>?_,λb o q n hb hx=>?_,ni.un.free,λb o q hx=>?_,ni.un.tups,ni.un.frzs,ni.un.tbls⟩,ld.hok ni.hok ni.ha (λt z=>(ni.nt t z).2) hfree,ni.os,ni.bare,ld.exc,ni.na,ni.ha,λt z=>?_⟩
 .show ld.keep b o (ni.un.keep b o q n hb hx) (ne b o q).1 (ne b o q).2 λz=>(fr b z).elim (nL b o q) hb
 .let⟨sl,e⟩:=ni.un.slot b o q n hb hx;let⟨sl',e'⟩:=ld.slot b _ e (fr' b hb);show⟨sl',e'⟩
 .let⟨o',e⟩:=ni.un.there b o q hx;by_cases hb:b∈frs (ag9 qual (defScope st) s.heap.objs.size f cdv::outer)
  .let⟨sl',e'⟩:=ld.slot b _ e hb;show⟨_,e'⟩
  .show⟨o',ld.keep b o' e (ne b o q).1 (ne b o q).2 hb⟩
 .cases z;rcases ld.old with z |z
  .show ni.nt t' z
  .show⟨?_,G8 ni.hok z⟩;cases q:s.heap.get? t' with
   |none=>rfl
   | some o=>
    let⟨o',e⟩:=ni.un.there t' o q ();rw[z] at e;cases e
theorem fnX{x:Str}{m:Nat}{g:ao->So}(Fn:Fun K x qual st f fd)(S:FnScope N ps (defScope st))(hn:ps.length=n)(hm:N.length=n+m)
  (hb:∀(cdv:afL) (A:af5) (outer:List agA) (s:afN) (H:Hp) (E:XK),Room k (A.deeper (ag9 qual (defScope st) s.heap.objs.size f cdv))->iG (cxOf (rW P w) P w K mg base N qual (defScope st) f cdv A outer s H E) (defBody st) g):
  FnOk P w K mg base (rW P w) (k+1) f fd ps (spX K n (cj m g)):=by
 let⟨oc,od,kV,doc,pm,an,cdv,ct,osl,rfl,lk,hcd⟩:=Fn.ex;show fn_of lk hcd S (λvs H Q E h=>?_) λA outer s H vs Q E hr h=>?_
 .let⟨O,ds,r,hl,_⟩:=h;rw[hn,<-hl,r.length]
 .let⟨O,ds,r,hl,al,h⟩:=h;show⟨_,hb cdv A outer s H E hr,H,O,O,ds.map (λd=>some (.val d))++afO m none,?_,?_⟩
  .have hst:L2.start N vs=vs.map some++afO m none:=by
    unfold L2.start;rw[show N.length - vs.length=m by rw[<-r.length];omega]
   show⟨Same.refl _,.refl,λ_ z=>z,⟨⟨λi e q=>?_,λi k e e' v _ hi _ oi=>?_,λi k e e' v v' w _ hi _ ha=>by let⟨_,_,_,h3⟩:=iJ r m i _ hi;rw[ha.own] at h3;cases h3⟩,al,?_,?_⟩,λi e a q ho=>?_,λi e v w q _ ha=>by let⟨_,_,_,h3⟩:=iJ r m i _ q;rw[ha.own] at h3;cases h3⟩
   .let⟨v,h1,h2,_⟩:=iJ r m i e q;show⟨v,by rw[hst];show h1,h2⟩
   .let⟨_,_,_,h3⟩:=iJ r m i e hi;rw[h3] at oi;cases oi
   .show (L2.start N vs).length=N.length;rw[hst,z1d,z1g,agt,<-r.length];omega
   .show (ds.map (λd=>some (Ent.val d))++afO m none).length=N.length;rw[z1d,z1g,agt];omega
   .let⟨_,_,_,h3⟩:=iJ r m i e q;rw[h3] at ho;cases ho
  .unfold cj at h;cases e2:g (ds.map (λd=>some (.val d))++afO m none) with
   |rt d=>rw[e2] at h;show λv H' s' r'=>h v H' s' r'
   |nx ρ'=>rw[e2] at h;show λσ' H' O' j' _=>h .non H' j'.same lC
   |bk _=>rw[e2] at h;show h.elim
   |ct _=>rw[e2] at h;show h.elim
   |rm _ _=>rw[e2] at h;show h.elim
   |rk _=>rw[e2] at h;show h.elim
   |bad=>rw[e2] at h;show h.elim
   |ex c ρ'=>rw[e2] at h;show λσ' H' O' j'=>Ja j'.same h
end
def Yy(P:afZ)(w:af4)(K:afM)(mg:Str->Option afL)(base:af2)(k:Nat)(x:Str)(n:Nat)(F:List D->R D):Prop:=
 ∃f fd ps,FnOk P w K mg base (rW P w) k f fd ps (spX K n F)/\mg x=some (.ref f)/\agg K (.ref f)=true/\Binds K fd ps []
theorem adJ{base:af2}{x:Str}{m:Nat}{g:ao->So}(Fn:Fun K x qual st f fd)(hmg:mg x=some (.ref f))(hb:Binds K fd ps [])(S:FnScope N ps (defScope st))(hn:ps.length=n)(hm:N.length=n+m)
  (hbody:∀(cdv:afL) (A:af5) (outer:List agA) (s:afN) (H:Hp) (E:XK),Room k (A.deeper (ag9 qual (defScope st) s.heap.objs.size f cdv))->iG (cxOf (rW P w) P w K mg base N qual (defScope st) f cdv A outer s H E) (defBody st) g):
  Yy P w K mg base (k+1) x n (cj m g):=⟨f,fd,ps,fnX Fn S hn hm hbody,hmg,Fn.kp,hb⟩
section
variable{X:Cx}{k n m:Nat}{F:List D->R D}{x:Str}{p pos:Pos}{e:afV}{es:List afV}{fa:ao->R (List D)}
theorem Bl(G:Yy X.prog X.w X.K X.mg X.base k x n F)(hr:Room m X.A)(hkm:k<=m)(ha:DA X (e::es) fa)(hg:Gl X x:=by rfl)
  (hdb:(x ==("__debug__" :Str))=false:=by decide)(he:afP (e::es) X.env=(false,eval e X.env)::afP es X.env:=by rfl)(hpl:(ago pos (afP es X.env)).any (·.1)=false:=by rfl):
  DE X (.Call (.Name x p) (e::es) [] pos) (aD (okN F n) fa):=by
 let⟨f,fd,ps,ok,hm,hk,hb⟩:=G;intro pins s σ H Q I h;let⟨ρ,O,j,h⟩:=h;show agX (ld_glob I hg hm ?_ hdb);have key:tG X (wM X) fa σ H (λvs H1=>∃ds,Same H H1/\aM X.K O H1 ds vs/\In X O H1 ρ σ/\good X (rD X) O (okN F n ds) σ H1 Q):=go j h λds vs H1 e1 s1 r1 j1 h1=>⟨ds,s1,r1,j1,h1⟩;show ahS (h₀:=X.base) I.ok.mod.kin hk (thn (ha pos pins s σ H _ I key) λus s1 ⟨vs,H1,I1,r,q⟩=>⟨I1.kIn,?_⟩) he hpl;let⟨ds,sm,r1,j1,h1⟩:=q;unfold okN at h1;by_cases hl:ds.length=n
 .rw[z9p hl] at h1;have sp:spX X.K n F vs H1 Q λu _ _=>∃c C,F ds= .err c/\u= .ref C/\afW X.K afU c=some (some (.ref C)):=by
   show⟨O,ds,r1,hl,j1.al,?_⟩;cases q:F ds with
   |ok d=>rw[q] at h1;show h1
   |bad=>rw[q] at h1;show h1
   |err c=>show λC _ hC=>⟨c,C,rfl,rfl,hC⟩
  have hll:us.length=ps.length:=by rw[<-r.length];show ok.len _ _ _ _ sp
  have hbb:=hb s1 us I1.kIn (by rw[ags];show hll);rw[ags] at hbb;show ahP (ahI ((ok.mono hkm).run X.A X.stack s1 H1 ⟨us,[]⟩ us vs Q _ hr I1.env0 hbb r sp) λr s' hq=>?_);cases r with
  | error ev=>
   let⟨a,C,T,H',rfl,hE,rs⟩:=hq;let⟨c,C',q,z,hC⟩:=hE;cases z;rw[q] at h1;show h1 H1 pins s1 a C T s' H' (Same.refl _) I1 hC rs
  | ok fl=>
   cases fl with
   |ret u=>show I1.after hq
   |next=>show agm hq
   |brk=>show agm hq
   |cont=>show agm hq
 .rw[z9n hl] at h1;show h1.elim
end
abbrev aar:List afL:=[.type "ValueError",.type "Exception",.type "BaseException",.type "object"]
structure XCl(K:afM)(mg:Str->Option afL)(c:Str)(C:afK):Prop where
 ns:afW K afU c=some (some (.ref C))
 mg:mg c=some (.ref C)
 ex:aji K C aar "ValueError.__new__" =true
theorem adK{bmB:List afL}{newId:String}(X:K.In h)(q:aji K C bmB newId=true):
  ∃bm N nm qn bs hdct sn sub ab col dd k0 k1 k2 k3 k5 mN,h.get? C=some (excClassObj nm qn C N bs bm hdct sn sub ab col dd k0 k1 k2 k3 k5 newId)/\h.Ns N mN/\mN "__init__" =none/\OwnTail h bmB bm:=by
 unfold aji at q;split at q
 .rename_i d0 cd sl0 e0;split at q
  .rename_i C1 b1 a0 a1 a2 a3 n1 a5 e1 e2;simp only[agY,beq_iff_eq,Bool.not_eq_true'] at q;let⟨⟨⟨⟨⟨rfl,rfl⟩,z1⟩,z2⟩,z3⟩,z4⟩:=q;let⟨v1,v2,v3,v4,v5,v6,v7,v8,v9,v10,v11⟩:=cd
   dsimp only at e1 z1 z3 z4
   subst e1 z1;let⟨l0⟩:=sl0;simp only at e2;subst e2;show⟨b1,v4,v1,v5,v2,v6,v7,v8,v9,v10,d0,a0,a1,a2,a3,a5,_,X _ _ e0,.of_isNs (PySem.W.isNs_of_in X z3),PySem.W.nsMap_none_of_in X z3 z4,PySem.W.tail_of_in X z2⟩
  .cases q
 .cases q
section
variable{X:Cx}{c:Str}{C:afK}{np cpos pos:Pos}{e:afV}{fa:ao->R (List D)}
theorem Rf(hc:X.calm=true)(hx:XCl X.K X.mg c C)(ha:DA X [e] fa)(hfa:∀ρ,∃ds,fa ρ= .ok ds/\ds.length<=1000000)(hg:Gl X c:=by rfl)(hdb:(c ==("__debug__" :Str))=false:=by decide)
  (he:afP [e] X.env=(false,eval e X.env)::afP [] X.env:=by rfl)(hpl:(ago cpos (afP [e] X.env)).any (·.1)=false:=by rfl):
  DS X (.Raise (some (.Call (.Name c np) [e] [] cpos)) none pos) (λρ=> .ex c ρ):=by
 intro pins s σ H E I h;let⟨H0,O0,O,ρ,j,h⟩:=h;let⟨bm,N,nm,qn,bs,hdct,sn,sub,ab,col,dd,k0,k1,k2,k3,k5,mN,o1,o2,o3,o4⟩:=adK I.mod.kin hx.ex;let⟨ds,ef,dl⟩:=hfa ρ;have key:tG X (wM X) fa σ H (λvs H1=>ds.length=vs.length/\Same H H1):=⟨ρ,O,j.inn,by rw[ef];show λvs H1 s1 r1=>⟨r1.length,s1⟩⟩;show wpAny_Raise_call_subU (C:=C) (nm:=nm) (q:=qn) (N:=N) (bs:=bs) (bm:=bm) (hdct:=hdct) (sn:=sn) (sub:=sub) (ab:=ab) (col:=col) (dd:=dd) (k0:=k0) (k1:=k1) (k2:=k2) (k3:=k3) (k5:=k5)
  aiN (by rfl) aiN (mN:=mN) (o4.hasType aiN.hasBase) (I.ok.hd hc) hpl o3 (ld_glob I hg hx.mg ⟨rfl,?_⟩ hdb)
 have hA:=ha cpos pins s σ H _ I key;rw[he] at hA |-;show Calls.evalArgs_plain (agL hA (λus s1 ⟨vs,H1,I1,r,hl,sm⟩=>?_) λ_ _ z=>z);show⟨rfl,?_,I1.bk _ _ o1,o2.keeps I1.bk,o4.keeps I1.bk,λh' ev hm=>?_⟩
 .show us.length<=sizeLine;rw[<-r.length,<-hl];show z0b dl eO
 .let⟨t,ht,_,_⟩:=hm.there;show h σ H1 O (j.grow sm) H1 pins s1 ev C none _ H1 (Same.refl _) I1 hx.ns ⟨Same.refl _,Un.kept hm.keeps,I1.hok.kept hm.keeps,rfl,I1.bare,⟨_,_,ht,rfl,rfl,rfl,rfl⟩,hm.new,G8 I1.hok hm.new,λ_ z=>by cases z⟩
end
section
variable{X:Cx}{pins:List (afK×Obj)}{σ:St}{H:Hp}{s:afN}
theorem _root_.L2.Inv.track{a:afK}{o:Obj}(I:Inv X pins σ H s)(ha:H a=none)(ho:s.heap.get? a=some o)(n0:X.s₀.heap.get? a=none)(nL:a≠X.env.locals)(nc:∀x c,X.env.cells.lookup x=some c->c≠a)(np:∀p∈X.pn++pins,p.1≠a):
  Inv X pins σ (upd H a (.frz o (.own a))) s:=by
 have old:∀b u,H b=some u->upd H a (.frz o (.own a)) b=some u:=λb u q=>by rw[upd_ne (ne_of_none q ha)];show q
 show⟨I.ok,I.os,I.bare,⟨I.base.keep,I.base.slot,λb ob q n hx=>?_,I.base.there,λb xs q=>old _ _ (I.base.tups b xs q),λb ob u q=>old _ _ (I.base.frzs b ob u q),λb ps q=>?_⟩,I.loc,I.cell,?_,λx c q=>?_,λp hp=>?_,λb u q=>?_,I.len⟩
 .rw[upd_ne (λz=>by rw[z,n0] at q;cases q)];show I.base.free b ob q n hx
 .let⟨more,e⟩:=I.base.tbls b ps q;show⟨more,old _ _ e⟩
 .rw[upd_ne (afT nL)];show I.free
 .rw[upd_ne (nc x c q)];show I.freeC x c q
 .let⟨e,n,r⟩:=I.pin p hp;show⟨e,by rw[upd_ne (np p hp)];show n,r⟩
 .by_cases hb:b=a
  .subst hb;rw[upd_same] at q;cases q;show⟨ho,o,ho⟩
  .rw[upd_ne hb] at q;show (I.hok b u q).stay (λ_ _ _ z=>z) (λc z=>old _ _ z) (λc xs z=>old _ _ z) λc o u _ z=>old _ _ z
theorem _root_.L2.Inv.gone{m':Str->Option afL}{t':Nat}(I:Inv X pins σ H s)(hn:h'.Ns X.env.locals m')(hs:ahb X.env.locals s.heap h'):Inv X pins (afO X.N.length none) H {s with heap:=h',toks:=t'}:=by
 have to:∀b ob,X.s₀.heap.get? b=some ob->b≠X.env.locals:=λb ob q=>agD (z0d (z2c q) I.ok.above);show⟨I.ok,I.os,I.bare,⟨λb ob q n hb hx=>?_,λb ob q n hb hx=>?_,I.base.free,λb ob q hx=>?_,I.base.tups,I.base.frzs,I.base.tbls⟩,⟨m',hn,λi x v _ e2 _=>?_⟩,λx c q=>?_,I.free,I.freeC,λp hp=>?_,λb u q=>?_,()⟩
 .show (hs.2 b (to b ob q)).trans (I.base.keep b ob q n hb hx)
 .let⟨sl,e⟩:=I.base.slot b ob q n hb hx;show⟨sl,(hs.2 b (to b ob q)).trans e⟩
 .let⟨o',e⟩:=I.base.there b ob q hx;show⟨o',(hs.2 b (to b ob q)).trans e⟩
 .rw[ahf] at e2;split at e2 <;> cases e2
 .let⟨v,z⟩:=I.cell x c q;show⟨v,z.sameBut hs (I.cne x c q)⟩
 .let⟨e,n,ne,r⟩:=I.pin p hp;show⟨(hs.2 p.1 ne).trans e,n,ne,r⟩
 .show (I.hok b u q).stay (λc w' hc z=>(hs.2 c ?_).trans z) (λ_ z=>z) (λ_ _ z=>z) λ_ _ _ _ z=>z
  rintro rfl
  rcases hc with hc |hc
  .rw[<-hc,I.free] at q;cases q
  .rw[I.free] at hc;cases hc
abbrev _root_.L2.Cx.Jb(X:Cx)(a:afK):Cx:={X with A:=X.A.mark (some (.ref a)),calm:=false,xe:=λ_ _=>False}
theorem _root_.L2.Inv.Jb(I:Inv X pins σ H s)(a:afK):Inv (X.Jb a) pins σ H s:=
 ⟨⟨I.ok.mod,I.ok.kind,I.ok.glob,I.ok.blt,I.ok.above,I.ok.inj,I.ok.has,I.ok.cab,λz=>Bool.noConfusion z,I.ok.frames,I.ok.stk,I.ok.exf,I.ok.bs,I.ok.bsz,I.ok.noex,I.ok.exfs,I.ok.funs,I.ok.frf⟩,I.os,I.bare,I.base,I.loc,I.cell,I.free,I.freeC,I.pin,I.hok,I.len⟩
theorem _root_.L2.Inv.afn{a:afK}(ok:X.Ok)(I:Inv (X.Jb a) pins σ H s):Inv X pins σ H s:=⟨ok,I.os,I.bare,I.base,I.loc,I.cell,I.free,I.freeC,I.pin,I.hok,I.len⟩
theorem At.cx{Y:Cx}{H0:Hp}(j:At X H0 O0 O H ρ σ)(hK:Y.K=X.K)(hN:Y.N=X.N):At Y H0 O0 O H ρ σ:=
 ⟨j.same,by rw[hK];show j.cI,j.sub,⟨by rw[hK];show j.inn.env,j.inn.al,by rw[hN];show j.inn.len,by rw[hN];show j.inn.iH⟩,j.mine,j.jB⟩
theorem At.afo{H0:Hp}(j:At X H0 O0 O H ρ σ)(hi:i<X.N.length){t:Ob}{v:V}(r:qQ X.K H t v):At X H0 O0 O H (ρ.set i (some (.obj t))) (σ.set i (some v)):=by
 have h1:i<ρ.length:=by rw[j.inn.iH];show hi
 have h2:i<σ.length:=by rw[j.inn.len];show hi
 show⟨j.same,j.cI,j.sub,⟨⟨λk e q=>?_,λk l e e' u hkl hk hl ok ol sk sl=>?_,λk l e e' u u' r hkl hk sk ha hl ol sl=>?_⟩,j.inn.al,by rw[agM];show j.inn.len,by rw[agM];show j.inn.iH⟩,λk e a q ho hs=>?_,λk e w r q hs ha=>?_⟩
 .by_cases hki:k=i
  .subst hki;rw[z2a h1] at q;cases q;show⟨v,z2a h2,r⟩
  .rw[z1e (afT hki)] at q |-;show j.inn.env.get k e q
 .by_cases hki:k=i
  .subst hki;rw[z2a h1] at hk;cases hk;cases ok
  .by_cases hli:l=i
   .subst hli;rw[z2a h1] at hl;cases hl;cases ol
   .rw[z1e (afT hki)] at hk sk;rw[z1e (afT hli)] at hl sl;show j.inn.env.sep k l e e' u hkl hk hl ok ol sk sl
 .by_cases hki:k=i
  .subst hki;rw[z2a h1] at hk;cases hk;show ha.elim
  .by_cases hli:l=i
   .subst hli;rw[z2a h1] at hl;cases hl;cases ol
   .rw[z1e (afT hki)] at hk sk;rw[z1e (afT hli)] at hl sl;show j.inn.env.jY k l e e' u u' r hkl hk sk ha hl ol sl
 .by_cases hki:k=i
  .subst hki;rw[z2a h1] at q;cases q;cases ho
  .rw[z1e (afT hki)] at q hs;show j.mine k e a q ho hs
 .by_cases hki:k=i
  .subst hki;rw[z2a h1] at q;cases q;show ha.elim
  .rw[z1e (afT hki)] at q hs;show j.jB k e w r q hs ha
end
abbrev _root_.L2.Cx.Vk(X:Cx)(E:afL->afN->Prop)(pn:List (afK×Obj)):Cx:={X with xe:=E,pn:=pn}
section
variable{X:Cx}{pins:List (afK×Obj)}{σ:St}{H:Hp}{s:afN}{E:afL->afN->Prop}
theorem _root_.L2.Inv.Vk(I:Inv X pins σ H s)(E:afL->afN->Prop):Inv (X.Vk E (X.pn++pins)) [] σ H s:=
 ⟨⟨I.ok.mod,I.ok.kind,I.ok.glob,I.ok.blt,I.ok.above,I.ok.inj,I.ok.has,I.ok.cab,I.ok.hd,I.ok.frames,I.ok.stk,I.ok.exf,I.ok.bs,I.ok.bsz,I.ok.noex,I.ok.exfs,I.ok.funs,I.ok.frf⟩,I.os,I.bare,I.base,I.loc,I.cell,I.free,I.freeC,λp hp=>I.pin p (by rw[ags] at hp;show hp),I.hok,I.len⟩
theorem _root_.L2.Inv.vM{p1:List (afK×Obj)}(ok:X.Ok)(I:Inv (X.Vk E (X.pn++pins)) p1 σ H s):Inv X pins σ H s:=
 ⟨ok,I.os,I.bare,I.base,I.loc,I.cell,I.free,I.freeC,λp hp=>I.pin p (ajz _ hp),I.hok,I.len⟩
theorem _root_.L2.SP.vM{D:Ends}{f:Flow}{s':afN}(ok:X.Ok)(h:SP (X.Vk E (X.pn++pins)) [] D f s'):SP X pins D f s':=by
 cases f with
 |next=>let⟨σ',H',I,q⟩:=h;show⟨σ',H',I.vM ok,q⟩
 |brk=>let⟨σ',H',I,q⟩:=h;show⟨σ',H',I.vM ok,q⟩
 |cont=>let⟨σ',H',I,q⟩:=h;show⟨σ',H',I.vM ok,q⟩
 |ret u=>let⟨v,σ',H',I,r,q⟩:=h;show⟨v,σ',H',I.vM ok,r,q⟩
end
section
variable{X:Cx}{t n:Str}{CT:afK}{np hpos pos:Pos}{body suite:List af7}{b₀:af7}{g h:ao->So}{sub:Str->Str->Bool}
theorem adL(i:Nat)(hN:X.N.Nodup)(hst:X.stack=X.env::X.outer)(hfr:X.env.frame=some X.env.locals)(hex:X.ex=[])(hm:X.mg t=some (.ref CT))
  (hx:∀c C,sub c t=true->afW X.K afU c=some (some (.ref C))->ai6 X.K (.ref C) (.ref CT)=some true)
  (hb:∀E pn,iG (X.Vk E pn) body g)(hh:∀a,iG (X.Jb a) (b₀::suite) h)(hg:Gl X t:=by rfl)(hi:X.N[i]?=some n:=by rfl)(hl:X.env.kindOf n=some .local:=by rfl)(hdb:(t ==("__debug__" :Str))=false:=by decide):
  DS X (.Try body [.ExceptHandler (some (.Name t np)) (some n) (b₀::suite) hpos] [] [] pos) (Ra sub t i g h):=by
 intro pins s σ H E I q;let⟨H0,O0,O,ρ,j,q⟩:=q;show wpAny_Try_except ?_;have hin:i<X.N.length:=(z1b hi).1;have hcls:(X.env.scope.kind == .class || (X.env.scope.kind == .module && X.env.locals !=X.env.globals))=false:=by rw[I.ok.kind];rfl
 show agL (hb _ (X.pn++pins) [] s σ H E (I.Vk _) ⟨H0,O0,O,ρ,j.cx rfl rfl,?_⟩) (λf s1 z=>?_) λ_ _ z=>z
 .-- the body's ends
  unfold Ra at q;cases eg:g ρ with
  |bad=>rw[eg] at q;show q
  |nx ρ1=>rw[eg] at q;show λσ' H' O' j' r'=>q σ' H' O' (j'.cx rfl rfl) r'
  |bk ρ1=>rw[eg] at q;show λσ' H' O' j' r'=>q σ' H' O' (j'.cx rfl rfl) r'
  |ct ρ1=>rw[eg] at q;show λσ' H' O' j' r'=>q σ' H' O' (j'.cx rfl rfl) r'
  |rt d=>rw[eg] at q;show q
  |rk k=>rw[eg] at q;show q
  |rm d ρ1=>rw[eg] at q;show λσ' H' O' v j' r'=>q σ' H' O' v (j'.cx rfl rfl) r'
  | ex c ρ1 =>
   rw[eg] at q;simp only at q;by_cases hs:sub c t=true
   .rw[z9p hs] at q;intro σ1 H1' O1 j1 H1 afF s1 a C T s2 H2 sm I1w hC rs;have I1:Inv X pins σ1 H1 s1:=I1w.vM I.ok;have J1:Inv X pins σ1 H2 s2:=I1.call' rs.os rs.un rs.hok rs.bare λb z=>absurd z ();show Rc (b0:=X.base) (outer:=X.outer) (by rw[J1.ok.frames,hst]) (by have:=J1.stack;rwa [hst] at this) hfr rs.exc λh3 t3 ld=>?_;have afp:∀b∈frs (X.env::X.outer),b∈frs X.stack:=λb z=>by rw[hst];show z
    have r3:zT X.prog X.w (frs X.stack) H1 s1 a C (some t3) {s2 with heap:=h3} H2:=zT.land rs afp ld J1.stkFree;have J3:Inv X pins σ1 H2 {s2 with heap:=h3}:=I1.call' r3.os r3.un r3.hok r3.bare λb z=>absurd z ();let⟨oe,vs,x1,x2,x3,x4,x5,x6,ot,ts,y1,y2,y3⟩:=r3.exc;show wpAny_handleBy_cons (codeAny_handlers_test (ld_glob (X:=X.Jb a) (J3.Jb a) hg hm ?_ hdb)) (by intro z;cases z);have LT:PySem.W.Looks (model X.prog X.w) h3 (typeOf (.ref a)) (.ref C):=x2▸(PySem.W.Looks.ld x1).andThen .now;show (PySem.W.exm_one J3.kIn LT (hx c C hs hC)).here ?_;simp only[if_true];show codeAny_handlers_suite_as ?_;show wpAny_setFlight_none x1 x4 x5 y1 y2 (ahz.mp y3).1 ?_;have aeX:h3.update t3 (ain (·.setIfInBounds 3 agi))=h3:=Heap.update_setField_same h3 t3 ot ts 3 agi y1 y2 y3;show afS _ _ _ _ _ {s2 with heap:=h3.update t3 (ain (·.setIfInBounds 3 agi))};rw[aeX];have na1:∀b ob,s1.heap.get? b=some ob->b≠a:=λb ob z e=>by rw[e,rs.na] at z;cases z
    have K3:Inv X pins σ1 (upd H2 a (.frz oe (.own a))) {s2 with heap:=h3}:=by
     show J3.track r3.ha x1 ?_ ?_ (λy cc z=>?_) λp hp=>?_
     .cases z:X.s₀.heap.get? a with
      |none=>rfl
      | some ob=>
       let⟨o',e⟩:=I1.base.there a ob z (by rw[hex];simp);rw[rs.na] at e;cases e
     .intro z;let⟨m,⟨ob,_,_,e,_⟩,_⟩:=I1.loc;show na1 _ _ e z.symm
     .let⟨v,ob,e,_⟩:=I1.cell y cc z;show na1 _ _ e
     .show na1 _ _ (I1.pin p hp).1
    show store_ok (X:=X.Jb a) (v:= .ref a) (K3.Jb a) hN hi (.inl hl) rfl (λs4 J4=>?_) (.inr hl);have jx:At X H0 O0 O1 H1' ρ1 σ1:=j1.cx rfl rfl;have sm3:Same H1' (upd H2 a (.frz oe (.own a))):=(sm.trans rs.same).trans (Same.upd r3.ha);have j4:At (X.Jb a) H0 O0 O1 (upd H2 a (.frz oe (.own a))) (ρ1.set i (some (.obj (.exc c)))) (σ1.set i (some (.ref a))):=
     ((jx.grow sm3).afo (t:= .exc c) (v:= .ref a) hin ⟨a,oe,C,rfl,upd_same,x2,x3,⟨vs,x4⟩,hC⟩).cx rfl rfl
    cases eh:h (ρ1.set i (some (.obj (.exc c)))) with
    | rt d=>
     rw[eh] at q;show agL (hh a pins s4 _ _ {nx:=λ_ _=>False,rt:=E.rt} J4 ⟨H0,O0,O1,_,j4,by rw[eh];show q⟩) (λf s5 z=>?_) λ_ _ z=>z.elim;cases f with
     |next=>let⟨_,_,_,z⟩:=z;show z.elim
     |brk=>let⟨_,_,_,z⟩:=z;show z.elim
     |cont=>let⟨_,_,_,z⟩:=z;show z.elim
     | ret u=>
      let⟨v,σ5,H5,J5,r5,q5⟩:=z;have J5':Inv X pins σ5 H5 s5:=J5.afn I.ok;let⟨m,hn,_⟩:=J5'.loc;show wpAny_nameGoes hl hn hcls λh6 m6 hn6 hs6=>⟨v,_,H5,J5'.gone hn6 hs6,r5,q5⟩
    |bad=>rw[eh] at q;show q.elim
    |nx _=>rw[eh] at q;show q.elim
    |bk _=>rw[eh] at q;show q.elim
    |ct _=>rw[eh] at q;show q.elim
    |rm _ _=>rw[eh] at q;show q.elim
    |rk _=>rw[eh] at q;show q.elim
    |ex _ _=>rw[eh] at q;show q.elim
   .rw[z9n hs] at q;show q.elim
 .cases f with
  |next=>show aiS (z.vM I.ok)
  |brk=>show z.vM I.ok
  |cont=>show z.vM I.ok
  |ret u=>show z.vM I.ok
end
structure FJ(K:afM)(C:afK):Prop where
 g1:af8 K (.ref C) "__getattribute__" =some (some (.builtin "BaseException.__getattribute__"))
 g2:af8 K (.ref C) "__getattr__" =some none
 cl:(aiO K C).isSome=true
 ha:af8 K (.ref C) "__class__" =some (some (.builtin "object.__class__"))
 hn:ah4 K (.builtin "object.__class__") "__get__" =some (some (.builtin "getset_descriptor.__get__"))
 ht:aiu K (.builtin "object.__class__")=some true
 hm:ahL K C (.type "object")=some true
 hb:ahL K C (.type "BaseException")=some true
section
variable{prog:afZ}{w:af4}{A:af5}{E:afL->afN->Prop}{s:afN}{K:afM}{x C:afK}{ox:Obj}{od:Option Obj}
theorem Yz{K:afM}{C:afK}{od:Option Obj}{a g:afL}(hc:(aiO K C).isSome=true)(ha:af8 K (.ref C) name=some (some a))(hg:ah4 K a "__get__" =some (some g))(ht:aiu K a=some true):w0b K C od name=some (.bind g a):=by
 let⟨cd,e⟩:=ahc.mp hc;unfold w0b;rw[e,ajl,ha,ajl];simp[hg,ht]
theorem YB{Q:Option afL->afN->Prop}(X:K.In s.heap)(I:aiy s.heap x ox C od)(F:FJ K C)(h:Q (some (.ref C)) {s with toks:=s.toks+1}):afS (model prog w) A (getAttr? (.ref x) "__class__") Q E s:=by
 let⟨hh,g,d,t,os⟩:=s;have L0:=I.type (M:=model prog w);have L1:=aiI (M:=model prog w) X F.g1;have L2:=aiI (M:=model prog w) X F.g2;have L4:=PySem.W.looks_find (M:=model prog w) X I (Yz (od:=od) F.cl F.ha F.hn F.ht);have LB:=w0c (M:=model prog w) X F.hb;have f3:=aj1.ga.bind (.ref x);unfold getAttr? getAttrBy? getAttrBy;show aft (wpAny_mkText (aft (ah3 (aho (aft (L0.at (aft (L1.at ?_))))))));have hx1:(onTheHeap (af0 C) && ahA "BaseException.__getattribute__" ==ahA "object.__getattribute__")=false:=by
  rw[show (ahA "BaseException.__getattribute__" ==ahA "object.__getattribute__")=false from by decide +kernel];show akW _
 dsimp only
 rw[hx1,z9n af6];unfold getAttrByItsOwn hookBefore;rw[z9p (show onTheHeap (af0 C)=true from rfl)];show aft (L2.at (aft (ah3 (aho ?_))));unfold callGetattribute;rw[akV,z9n af6];unfold boundAndCalled;rw[f3];show aft (afQ ?_);show ahP (codeAny_call_builtin aj1.ga.plain PySem.F.entry_bexc_ga ?_);have hk:builtinKind "BaseException.__getattribute__" =some .slot:={}
 have hsp:splitId "BaseException.__getattribute__" =some ("BaseException","__getattribute__"):={}
 have ha:=PySem.F.args_bexc_ga (.ref x) (.str (ahm "__class__") t);simp only[ajp,hk,hsp,ajq,ais];unfold isInstance;show aft (aft (L0.at (LB.at ?_)));rw[ajj,z9n af6];show ahE (a:=Unit.unit) ha ?_;unfold ahg.«object.__getattribute__»;show aft (afQ ?_);show aft (afQ ?_);show aft (L0.at (aft (L4.at ?_)));show afS _ _ (holding [ahA "object.__class__"] (call (ahA "getset_descriptor.__get__") [ahA "object.__class__",.ref x,.ref C]) >>=ret) _ _ _;show aft (aho (ahP (PySem.W.class_get (s:=⟨hh,g,d,t+1,os⟩) (od:=od) X I F.hm (afQ ?_))));show PySem.W.handed_on rfl (afQ h)
theorem aas(F:FJ K C):PySem.W.KitX K (.ref x) (.ref C) (λh=>aiy h x ox C od) where
 ty:=λ_ _ _ I=>I.type
 it :=λ_ _ X _=>by
  let⟨cd,hcd⟩:=ahc.mp F.cl;unfold aiO at hcd;split at hcd
  .rename_i v1 v2 v3 v4 ho;intro A' Q' E' s' k q;unfold isType loadHead;show aft (wpAny_loadPart (k _ _ (X _ _ ho)) (afQ q))
  .cases hcd
 ne :=λh tp dd its n sl X htp=>by
  let⟨cd,hcd⟩:=ahc.mp F.cl;show Bool.eq_false_iff.mpr λq=>?_;have e:C=tp:=Value.ref.inj (beq_iff_eq.mp q);subst e;unfold aiO at hcd;split at hcd
  .rename_i v1 v2 v3 v4 ho;cases (X _ _ ho).symm.trans htp
  .cases hcd
 ca:=λX I k=>YB X I F k
end
section
variable{X:Cx}{sub:Str->Str->Bool}
theorem Wq{T:Str}{vt:V}{ut:afL}(hut:∀u,RelV vt u->u=ut)(hq:∀c C,sub c c=true->afW X.K afU c=some (some (.ref C))->FJ X.K C/\afX X.K (.ref C) ut=some (sub c T)):
  CallR X (.builtin "isinstance") (λxs H Q=>∃x c,xs=[x,vt]/\sub c c=true/\qQ X.K H (.exc c) x/\Q (.bl (sub c T)) H):=by
 intro pins s σ H xs us Q I r h;let⟨x,c,rfl,hc,⟨a,o,C,rfl,hH,h1,h2,⟨vs,h3⟩,h4⟩,q⟩:=h;let⟨u,u2,rfl,rx,r2⟩:=vals2 r;cases (show u=af0 a from rx);cases hut u2 r2;let⟨F,e⟩:=hq c C hc h4;let⟨ho,_⟩:=I.hok a _ hH;show ahJ (aas (x:=a) (ox:=o) (od:=none) F) I.kIn ⟨ho,h1,by unfold PySem.W.notCls;rw[h3],by rw[h2];trivial⟩ e (λz=>nomatch z) λtk=>⟨.bl _,H,I.tok _,rfl,q⟩
theorem Rg(i:Nat){T n:Str}{vt:V}{ut:afL}{p p1 p2:Pos}(hg:Gl X "isinstance")(hm:X.mg "isinstance" =none)(hT:PE X (.Name T p2) (tC vt))(hut:∀u,RelV vt u->u=ut)
  (hq:∀c C,sub c c=true->afW X.K afU c=some (some (.ref C))->FJ X.K C/\afX X.K (.ref C) ut=some (sub c T))
  (hN:X.N[i]?=some n:=by rfl)(hv:Vis X.env.scope n:=by first |show agp rfl |show aga (agp rfl) |show aga (aga rfl))(hd:(n ==("__debug__" :Str))=false:=by decide)(hcd:(n ==("__classdict__" :Str))=false:=by decide)
  (hs:afP [.Name n p1,.Name T p2] X.env=(false,eval (.Name n p1) X.env)::afP [.Name T p2] X.env:=by rfl)(hs2:afP [.Name T p2] X.env=(false,eval (.Name T p2) X.env)::afP [] X.env:=by rfl)(hpl:(ago pos (afP [.Name T p2] X.env)).any (·.1)=false:=by rfl):
  DE X (.Call (.Name "isinstance" p) [.Name n p1,.Name T p2] [] pos) (Ez sub i T):=by
 show PE.imp (pe_callB (Wq (T:=T) hut hq) hg hm ahY (pa_cons (pe_var hN hv hd hcd) (pa_cons hT pa_nil hs2) hs) {} {} hs hpl) λσ H Q h=>?_;let⟨ρ,O,j,h⟩:=h;unfold Ez at h;cases q:ρ[i]? with
 |none=>rw[q] at h;show h.elim
 | some oe =>
  rw[q] at h;cases oe with
  |none=>show h.elim
  | some en=>
   cases en with
   |val _=>show h.elim
   |lst _=>show h.elim
   |wL _=>show h.elim
   |rws _=>show h.elim
   |bU _ _=>show h.elim
   |eU _=>show h.elim
   | obj t=>
    cases t with
    |fn _=>show h.elim
    | exc c=>
     have h:good X (rD X) O (if sub c c=true then .ok (.bl (sub c T)) else .bad) σ H Q:=h;by_cases hc:sub c c=true
     .rw[z9p hc] at h;let⟨v,hv1,hv2⟩:=j.env.get i _ q;show⟨v,hv1,v,c,rfl,hc,hv2,fin h (dO _)⟩
     .rw[z9n hc] at h;show h.elim
end
def Itv(K:afM)(l:afK)(n:Nat):It:=
 ⟨λi H=>∃xs x,SqL K H l xs/\xs.length=n/\i<n/\xs[n - 1 - i]?=some x,λi H x H'=>H'=H/\∀xs,SqL K H l xs->xs[n - 1 - i]?=some x,λi _=>n<=i⟩
theorem aat:Turn P w K tg (Itv K l n) [it] it (λi h=>i<=n/\h.IsRevIter it l ((n:Int) - 1 - (i:Int))) where
 mem:=()
 obj:=λi h st b hb=>by
  have e:b=it:=by simpa using hb
  subst e;let⟨_,o,e,c,d⟩:=st;show⟨o,e,λv z=>by rw[d] at z;cases z⟩
 keep:=λi h h' st k=>⟨st.1,st.2.at λo e=>k it () o e⟩
 item:=by
  intro X hP hw hK hc i pins s σ H E I hf st hg;subst hP hw hK;let⟨xs,x,hq,hn,hi,hx⟩:=hg;let⟨its,rv,p,hz⟩:=I.list hq;let⟨u,hu,ru⟩:=rv.get hx;let⟨f0,f1,f2,f3,f4,f5⟩:=hf it ();have e1:(n:Int) - 1 - (i:Int)=((n - 1 - i:Nat):Int):=()
  have st1:=st.2;rw[e1] at st1;show wpAny_pyNext_rev_item st1 p.isList (x:=u) (by simpa using hu) λh' st' sb=>?_;have I1:Inv X pins σ H {s with heap:=h'}:=I.turned (t':=s.toks) (λb o hb e=>(sb.2 b hb).trans e) f0 f1 f3 f4 f5;have e2:((n - 1 - i:Nat):Int) - 1=(n:Int) - 1 - ((i+1:Nat):Int):=()
  rw[e2] at st';let⟨o,e,c,d⟩:=id st';show⟨u,rfl,go_of (s:={s with heap:=h'}) e c d {} ⟨x,H,I1,ru,⟨rfl,λys hy=>by rw[I.list_inj hy hq];show hx⟩,⟨hi,st'⟩,λb hb=>(hf b hb).1⟩⟩
 done:=by
  intro X hP hw hK hc i pins s σ H E I hf st hg;subst hP hw hK;have hg:n=i:=Nat.le_antisymm hg st.1;subst hg;let⟨f0,f1,f2,f3,f4,f5⟩:=hf it ();have st1:=st.2;rw[show (n:Int) - 1 - (n:Int)= -1 by omega] at st1;show wpAny_pyNext_rev_end (I.ok.hd hc) st1 λh' eb=>⟨rfl,I.turned (t':=s.toks) (λb o hb e=>eb b o hb e) f0 f1 f3 f4 f5⟩
 self:=λ_ _ _ _ _ st h=>wpAny_pyIter_revIter st.2 h
section
variable{X:Cx}{tg a:afV}{p pos:Pos}{fa:ao->R (List D)}
def afq(K:afM)(ta:TA):TI:=λσ H R=>ta σ H λvs H1=>∃l xs,vs=[.ref l]/\SqL K H1 l xs/\R (Itv K l xs.length) H1
theorem adM(hg:Gl X "reversed")(hm:X.mg "reversed" =none)(ha:PA X [a] ta)(he:afP [a] X.env=(false,eval a X.env)::afP [] X.env:=by rfl)(hpl:(ago pos (afP [] X.env)).any (·.1)=false:=by rfl):
  PI X tg (.Call (.Name "reversed" p) [a] [] pos) (afq X.K ta):=by
 intro pins s σ H R I h;show Call_ (ld_blt I hg hm boot_reversed (agK (thn (ha pos pins s σ H _ I h) λus s1 ⟨vs,H1,I1,r1,q1⟩=>?_) he hpl));let⟨l,xs,e,hq,q⟩:=q1;subst e;cases r1 with
 | cons r rr=>
  cases rr;cases r;let⟨its,rv,p1,hz⟩:=I1.list hq;have hl:its.toArray.size=xs.length:=by rw[z1c,rv.length]
  show call_reversed_list p1.isList ?_;rw[hl];have hit:(s1.heap.push (revObj l ((xs.length:Int) - 1))).IsRevIter s1.heap.objs.size l ((xs.length:Int) - 1):=⟨_,z1f _ rfl,rfl,rfl⟩;show wpAny_pyIter_revIter (s:={s1 with heap:=s1.heap.push (revObj l ((xs.length:Int) - 1))}) hit ?_;show⟨s1.heap.objs.size,[s1.heap.objs.size],_,_,H1,rfl,I1.kept (t':=s1.toks) λb o e=>z1a _ e,aat,⟨ahO _,?_⟩,λb hb=>?_,q⟩
  .rw[show (xs.length:Int) - 1 - ((0:Nat):Int)=(xs.length:Int) - 1 by omega];show hit
  .have e:b=s1.heap.objs.size:=by simpa using hb
   subst e;show I1.fpOk (z0g _) (I1.hok.fresh (z0g _))
theorem YR.rev{a:afK}{ds:List D}{xs:List V}(h:SqL K H a xs)(n:¬O a)(r:aM K O H ds xs):YR K O H (Itv K a xs.length) ds.reverse:=by
 intro O' H' q;have h':SqL K H' a xs:=SqL.ext q.ext n h;have r':=r.go q;intro i;show⟨λd e=>?_,λe=>?_⟩
 .have hi:i<ds.length:=by
   have:=(z1b e).1;simpa using this
  rw[List.getElem?_reverse (by simpa using hi)] at e;have hl:=r.length;let⟨v,e1,rv⟩:=r'.get e;rw[hl] at e1;show⟨⟨xs,v,h',rfl,(),e1⟩,λx H2 y=>?_⟩;let⟨eH,y⟩:=y;subst eH;have:=y xs h';rw[e1] at this;cases this;show⟨Same.refl _,rv⟩
 .show xs.length<=i;rw[<-r.length];simpa using e
theorem adN(hg:Gl X "reversed")(hm:X.mg "reversed" =none)(ha:DA X [a] fa)(he:afP [a] X.env=(false,eval a X.env)::afP [] X.env:=by rfl)(hpl:(ago pos (afP [] X.env)).any (·.1)=false:=by rfl):
  DI X tg (.Call (.Name "reversed" p) [a] [] pos) (λρ=>(fa ρ).bind Wo):=by
 show PI.imp (adM hg hm ha he hpl) λσ H Q q=>?_;let⟨ρ,O,j,q⟩:=q;show go j q λds vs H1 e1 s1 r1 j1 h1=>?_;unfold Wo at h1;split at h1
 .rename_i xs;let⟨v1,rfl,w1⟩:=r1.one;let⟨l,us,rfl,hq,hn,rs⟩:=w1.lst;show⟨l,us,rfl,hq,fin h1 (YR.rev hq hn rs)⟩
 .show h1.elim
end
section
variable{X:Cx}
theorem abX:OpR X (ag4 .Mult) (λx y H Q=>∃a k xs,x= .ref a/\y= .int k/\SqL X.K H a xs/\0<=k/\k<2^63/\xs.length*k.toNat<=1000000/\∀p,H p=none->Q (.ref p) (upd H p (.lst (afO k.toNat xs).flatten))):=by
 intro pins s σ H x y v u Q I rx ry h;let⟨a,k,xs,rfl,rfl,hq,h1,h2,hz,q⟩:=h;cases rx;let⟨t,rfl⟩:=ry;let⟨its,r,p1,_⟩:=I.list hq;let⟨⟨cls,dd,data,sl⟩,ho,hc,n,hd⟩:=id p1.isList;simp only at hc hd;subst hc hd;have hlen:=r.length;have hz':its.toArray.size*k.toNat<=1000000:=by rw[z1c,<-hlen];show hz
 have hz2:its.length*k.toNat<=1000000:=by rw[<-hlen];show hz
 show wpAny_binaryOp_repeat_ref (T:= "list") (U:= "int") {} ⟨_,ho,rfl⟩ (λs'=>akm s' k t) noFill_list_mul F.fills_int_mul F.slot_int_rmul repeat_list F.slot_int_index.lookup
  (aiK F.slot_int_rmul (akm s k t) F.entry_int_rmul (F.args_int_rmul_2 _ _) (lm_int_rmul_list_any k t a its.toArray n dd sl) ⟨ho,rfl,⟨_,ho,rfl⟩,?_⟩)
 show aiK F.slot_list_mul ⟨_,ho,rfl⟩ F.entry_list_mul (F.args_list_mul_2 _ _) (lm_list_mul_any a its.toArray n dd sl k t (by simp[Builtin.List.listFitsIndex];omega) () (by simp[ahn,sizeLine];omega)) ⟨ho,?_⟩;rw[listMul_foldl_if];show⟨.ref s.heap.objs.size,_,I.laid (t':=s.toks) (o:= .lst (afO k.toNat xs).flatten) (λb ob z=>z1a _ z) (z0g _) ?_,rfl,q _ (I.hok.fresh (z0g _))⟩;show⟨by rw[len_rep,Nat.mul_comm];show z0b hz eO,_,_,r.rep k.toNat,z1f _ rfl⟩
end
def Tb(ts:List (afK×Str))(H:Hp):Prop:=∀p∈ts,∃(ps:Array afL) (tq:Tok),H p.1=some (.tbl ps)/\ps[0]?=some (.str p.2 tq)
theorem Tb.un{fs ex:List afK}{H':Hp}(t:Tb ts H)(u:Un fs ex H H' h h'):Tb ts H':=λp hp=>by
 let⟨ps,tq,e,q⟩:=t p hp;let⟨more,e'⟩:=u.tbls _ _ e;show⟨_,tq,e',?_⟩;let⟨hl,_⟩:=ahz.mp q;rw[Array.getElem?_append_left hl];show q
theorem Tb.same{H':Hp}(t:Tb ts H)(s:Same H H'):Tb ts H':=λp hp=>let⟨ps,tq,e,q⟩:=t p hp;⟨ps,tq,s _ _ e,q⟩
theorem Jc{α β:Type}{F:α->β->Prop}:∀{es:List α} {vs:List β} {i:Nat} {e:α},Paired F es vs->es[i]?=some e->∃v,vs[i]?=some v/\F e v
 |_,_,_,_,.nil,h=>by simp at h
 |_,_,0,_,.cons r _,h=>by simp at h;subst h;show⟨_,rfl,r⟩
 | _,_,i+1,e,.cons _ t,h=>by
  let⟨v,h1,h2⟩:=Jc (i:=i) (e:=e) t (by simpa using h);show⟨v,by simpa using h1,h2⟩
theorem Wr{β:Type}{F:α->β->Prop}:∀{es:List α} {vs:List β},Paired F es vs->es.length=vs.length
 :=by
 intro es vs h
 induction h with
 |nil=>rfl
 |cons r t ih=>rw[afY,afY,ih]
theorem Jd{β:Type}{F:α->β->Prop}:∀{es fs:List α} {vs ws:List β},Paired F es vs->Paired F fs ws->Paired F (es++fs) (vs++ws)
 :=by
 intro es fs vs ws h q
 induction h with
 |nil=>show q
 |cons r t ih=>show .cons r ih
abbrev adO(K:afM)(O:afK->Prop)(H:Hp):Ent->V->Prop:=λe v=>fM K O H e v/\e.own=false
theorem nj{K:afM}{O:afK->Prop}{H:Hp}:∀{ds:List D} {vs:List V},aM K O H ds vs->Paired (adO K O H) (ds.map .val) vs
 |[],vs,r=>by rw[r.nil_inv];show .nil
 | d::ds,vs,r=>by
  let⟨x,t,rfl,h1,h2⟩:=r.cons_inv;show .cons ⟨h1,rfl⟩ (nj h2)
theorem pI{X:Cx}{es:List Ent}{m:Nat}(hl:X.N.length=es.length+m)(r:Paired (adO X.K O H) es vs)(al:∀a,O a->∃o,H a=some o):
  At X H O O H (es.map some++afO m none) (vs.map some++afO m none):=by
 have hlen:=Wr r;have get:∀(i:Nat) e,(es.map some++afO m none)[i]?=some (some e)->∃v,(vs.map some++afO m none)[i]?=some (some v)/\fM X.K O H e v/\e.own=false:=λi e q=>by
  by_cases hi:i<es.length
  .rw[agJ (by simpa using hi),z2b] at q;cases z:es[i]? with
   |none=>rw[z] at q;cases q
   | some e'=>
    rw[z] at q;cases q;let⟨v,h1,h2,h3⟩:=Jc r z;show⟨v,by rw[agJ (by rw[z1g,<-hlen];show hi),z2b,h1];rfl,h2,h3⟩
  .rw[agu (by simpa using hi),ahf] at q;split at q <;> cases q
 show⟨Same.refl _,.refl,λ_ z=>z,⟨⟨λi e q=>?_,λi k e e' v _ hi _ oi=>?_,λi k e e' v v' w _ hi _ ha=>by let⟨_,_,_,h3⟩:=get i _ hi;rw[ha.own] at h3;cases h3⟩,al,?_,?_⟩,λi e a q ho=>?_,λi e v w q _ ha=>by let⟨_,_,_,h3⟩:=get i _ q;rw[ha.own] at h3;cases h3⟩
 .let⟨v,h1,h2,_⟩:=get i e q;show⟨v,h1,h2⟩
 .let⟨_,_,_,h3⟩:=get i e hi;rw[h3] at oi;cases oi
 .rw[z1d,z1g,agt,<-hlen];show hl.symm
 .rw[z1d,z1g,agt];show hl.symm
 .let⟨_,_,_,h3⟩:=get i e q;rw[h3] at ho;cases ho
theorem kW{m:Nat}(h:N.length=vs.length+m):L2.start N vs=vs.map some++afO m none:=by
 unfold L2.start;rw[show N.length - vs.length=m by omega]
def spT(ts:List (afK×Str))(K:afM)(n:Nat)(F:List D->R D):Sp:=λvs H Q E=>Tb ts H/\QB K n F vs H Q E
section
variable{P:afZ}{w:af4}{K:afM}{mg:Str->Option afL}{base:af2}
def cZ(m:Nat)(g:ao->So)(es:List Ent):R D:=match g (es.map some++afO m none) with
 | .rt d=> .ok d
 | .nx _=> .ok .non
 |_=> .bad
theorem EY{X:Cx}{m:Nat}{g:ao->So}{es:List Ent}{Q:VK}(h:match cZ m g es with | .ok d=>∀v H',Same H H'->Rep X.K O H' d v->Q v H' |_=>False):
  qG X H O O H {nx:=λ_ H'=>Q .non H',rt:=Q} (g (es.map some++afO m none)):=by
 unfold cZ at h;cases e2:g (es.map some++afO m none) with
 |rt d=>rw[e2] at h;show λv H' s' r'=>h v H' s' r'
 |nx ρ'=>rw[e2] at h;show λσ' H' O' j' _=>h .non H' j'.same lC
 |bk _=>rw[e2] at h;show h.elim
 |ct _=>rw[e2] at h;show h.elim
 |rm _ _=>rw[e2] at h;show h.elim
 |rk _=>rw[e2] at h;show h.elim
 |ex _ _=>rw[e2] at h;show h.elim
 |bad=>rw[e2] at h;show h.elim
theorem fnT{x:Str}{m:Nat}{g:ao->So}(Fn:Fun K x qual st f fd)(S:FnScope N ps (defScope st))(hn:ps.length=n)(hm:N.length=n+m)
  (hb:∀(cdv:afL) (A:af5) (outer:List agA) (s:afN) (H:Hp) (E:XK),fd.code=cdv->Room k (A.deeper (ag9 qual (defScope st) s.heap.objs.size f cdv))->Tb ts H->iG (cxOf CX0 P w K mg base N qual (defScope st) f cdv A outer s H E).nox (defBody st) g):
  FnOk P w K mg base CX0 (k+1) f fd ps (spT ts K n (λds=>cZ m g (ds.map .val))):=by
 let⟨oc,od,kV,doc,pm,an,cdv,ct,osl,rfl,lk,hcd⟩:=Fn.ex;show fn_of lk hcd S (λvs H Q E h=>?_) λA outer s H vs Q E hr h=>?_
 .let⟨_,O,ds,r,hl,_⟩:=h;rw[hn,<-hl,r.length]
 .let⟨hT,O,ds,r,hl,al,h⟩:=h;have rY:N.length=vs.length+m:=by rw[hm,<-hl,r.length]
  show⟨_,(hb cdv A outer s H E rfl hr hT).nox,H,O,O,(ds.map Ent.val).map some++afO m none,?_,EY h⟩;rw[kW rY];show pI (X:=(cxOf CX0 P w K mg base N qual (defScope st) f cdv A outer s H E).nox) (by rw[z1g,r.length];show rY) (nj r) al
end
def Bm(P:afZ)(w:af4)(K:afM)(mg:Str->Option afL)(base:af2)(k:Nat)(x:Str)(n:Nat)(F:List D->R D)(fd:agx)(ps:List Str)(ts:List (afK×Str)):Prop:=
 ∃f,FnOk P w K mg base CX0 k f fd ps (spT ts K n F)/\mg x=some (.ref f)/\agg K (.ref f)=true
section
variable{X:Cx}{k m n:Nat}{fd:agx}{ps ks:List Str}{F:List D->R D}{x:Str}{p pos:Pos}{e:afV}{es:List afV}{kws:List ahW}{fa fk:ao->R (List D)}{ts:List (afK×Str)}
theorem adP(G:Bm X.prog X.w X.K X.mg X.base k x n F fd ps ts)(hT:Tb ts X.H₀)(hr:Room m X.A)(hkm:k<=m)(hb:Binds X.K fd ps [])(ha:DA X (e::es) fa)(hg:Gl X x:=by rfl)
  (hdb:(x ==("__debug__" :Str))=false:=by decide)(he:afP (e::es) X.env=(false,eval e X.env)::afP es X.env:=by rfl)(hpl:(ago pos (afP es X.env)).any (·.1)=false:=by rfl):
  DE X (.Call (.Name x p) (e::es) [] pos) (aD (aO F n) fa):=by
 let⟨f,ok,hm,hk⟩:=G;intro pins s σ H Q I h;show pe_call (dvs:=[]) (ok.mono hkm) hr hg hm hk hb .nil pass0 ha hdb he hpl pins s σ H Q I ?_;let⟨ρ,O,j,h⟩:=h;show go j h λds vs H1 e1 s1 r1 j1 h1=>?_;unfold aO at h1;by_cases hl:ds.length=n
 .rw[z9p hl] at h1;rw[ags];show⟨(hT.un I.base).same s1,O,ds,r1,hl,j1.al,?_⟩;cases q:F ds with
  |ok d=>rw[q] at h1;show h1
  |err c=>rw[q] at h1;show h1
  |bad=>rw[q] at h1;show h1
 .rw[z9n hl] at h1;show h1.elim
theorem abY{sa sb sc}(S:Sel sa sb sc)(G:Bm X.prog X.w X.K X.mg X.base k x n F fd ps ts)(hT:Tb ts X.H₀)(hr:Room m X.A)(hkm:k<=m)(hb:KB X.K fd ps ks sa)
  (ha:DA X (e::es) fa)(hkw:DK X kws fk)(hg:Gl X x:=by rfl)(hall:(agW pos (agz kws X.env)).all (·.1.isSome)=true:=by rfl)(hks:(agW pos (agz kws X.env)).filterMap (·.1)=ks:=by rfl)
  (hdb:(x ==("__debug__" :Str))=false:=by decide)(he:afP (e::es) X.env=(false,eval e X.env)::afP es X.env:=by rfl)
  (hpl:((ago pos (afP (e::es) X.env)).any (·.1) || (agW pos (agz kws X.env)).any (·.1.isNone))=false:=by rfl):
  DE X (.Call (.Name x p) (e::es) kws pos) (Ql F n ks.length sc fa fk):=by
 let⟨f,ok,hm,hk⟩:=G;have G:=ok.mono hkm;intro pins s σ H Q I h;show agX (ld_glob I hg hm ?_ hdb);let⟨ρ,O,j,h⟩:=h;have key:tG X (wM X) fa σ H λvs H1=>tG X (wM X) fk σ H1 λzs H2=>zs.length=ks.length/\spT ts X.K n F (vs++pickK .non sb zs) H2 Q E0:=by
  show go j h λds vs H1 e1 s1 r1 j1 h1=>?_;show go j1 h1 λzd zs H2 e2 s2 r2 j2 h2=>?_;by_cases hz:zd.length=ks.length
  .rw[z9p hz] at h2;unfold aO at h2;by_cases hl:(ds++pickK .non sc zd).length=n
   .rw[z9p hl] at h2;show⟨by rw[<-r2.length];show hz,((hT.un I.base).same s1).same s2,O,_,(r1.same s2).append (S.reps r2),hl,j2.al,?_⟩;cases q:F (ds++pickK .non sc zd) with
    |ok d=>rw[q] at h2;show h2
    |err c=>rw[q] at h2;show h2
    |bad=>rw[q] at h2;show h2
   .rw[z9n hl] at h2;show h2.elim
  .rw[z9n hz] at h2;show h2.elim
 show ajK (h₀:=X.base) I.ok.mod.kin hk hall (thn (ha pos pins s σ H _ I key) λus s1 ⟨vs,H1,I1,r,q⟩=>?_) hpl he;show thn (hkw pos pins s1 σ H1 _ I1 q) λws s2 ⟨zs,H2,I2,rz,q2⟩=>⟨I2.kIn,?_⟩;rw[hks];let⟨hz,q2⟩:=q2;have r2:=r.append (S.vals rz);have hl:(us++pickK .none sa ws).length=ps.length:=by rw[<-r2.length];show G.len _ _ _ _ q2
 show ahP (ahI (G.run X.A X.stack s2 H2 ⟨us,ks.zip ws⟩ _ _ Q E0 hr I2.env0 (hb s2 us ws I2.kIn (by rw[z1d,u9] at hl;show hl) (by rw[<-rz.length];show hz)) r2 q2) λr s' hq=>?_);cases r with
 |error e=>show pass0 pins σ H2 s2 e s' I2 hq
 | ok fl=>
  cases fl with
  |ret u=>show I2.after hq
  |next=>show agm hq
  |brk=>show agm hq
  |cont=>show agm hq
end
theorem T8{a b:Int}{s t:Tok}{c:afL}(l:List afL)(h:aiY l):aiY (l++[.int a s,.int b t,c]):=by
 fun_induction aiY l with
 |case1=>simp[aiY]
 |case2 x1 x2 x3 x4 x5 rest ih=>simp only[ajq,aiY];show ih h
 |case3=>show h.elim
theorem YC{a b:Int}{s t:Tok}{c cv:afL}(l:List afL)(h:aiY l)(e:ajt pos (l++[.int a s,.int b t,c])=some cv):ajt pos l=some cv\/cv=c:=by
 fun_induction aiY l with
 | case1=>
  simp only[ais,ajt] at e;split at e
  .cases e;show .inr rfl
  .cases e
 | case2 x1 x2 x3 x4 x5 rest ih=>
  simp only[ajq,ajt] at e |-;split at e
  .rename_i z;rw[z9p z];show .inl e
  .rename_i z;rw[z9n z];show ih h e
 |case3=>show h.elim
inductive kY (H:Hp) (a:afK) (name qual:Str) (params:ah8) (body:List af7) (scope:ahp) (clos:List (Str×afK)):Prop
 |mk (fo:Obj) (doc pm:afL) (c':afK) (ctv:afL) (oc:Obj) (vs:Array afL) (t:Tok) (h1:H a=some (.frz fo (.own a))) (h2:fo.data= .func (w0d name qual params body scope clos .none .none doc pm none (.ref c') ctv)) (h3:H c'=some (.frz oc (.own c'))) (h4:oc.data= .fields vs) (h5:vs[1]?=some (.str qual t)):kY H a name qual params body scope clos
theorem kY.fz{H':Hp}{a:afK}(h:kY H a name qual params body scope clos)(s:∀b o u,H b=some (.frz o u)->H' b=some (.frz o u)):kY H' a name qual params body scope clos:=
 by
 let⟨fo,doc,pm,c',ctv,oc,vs,t,h1,h2,h3,h4,h5⟩:=h;show⟨fo,doc,pm,c',ctv,oc,vs,t,s _ _ _ h1,h2,s _ _ _ h3,h4,h5⟩
structure qu(base:af2)(mg:Str->Option afL)(c P:afK):Prop where
 code:akY base c P
 blt:∃bm ob,mg "__builtins__" =some (.ref bm)/\bm≠aiG/\base.get? bm=some ob/\ob.cls= .type "module"/\ob.dict=some aiG/\ob.data= .plain
section
variable{X:Cx}{pins:List (afK×Obj)}{σ:St}{H:Hp}{s:afN}
theorem abZ{M:Model}{A:af5}{E:afL->afN->Prop}{line:Nat}{c P:afK}{ps:Array afL}{tq:Tok}
  (I:Inv X pins σ H s)(hB:qu X.base X.mg c P)(hc:X.env.code= .ref c)(e0:H P=some (.tbl ps))(q0:ps[0]?=some (.str qual tq))(hcl:akp scope X.env=pure clos):
  afS M A (makeFunction name qual params (.stmts body) scope X.env [] [] [] pos line) (λv s'=>∃a H1,v= .ref a/\Inv X pins σ H1 s'/\Same H H1/\kY H1 a name qual params body scope clos) E s:=by
 let⟨qs,hP,tr,al⟩:=I.hok P _ e0;have hgs:s.heap.Ns afU X.mg:=I.mod.glob.keeps I.bk;have C:akY s.heap c P:=hB.code.keeps I.bk;let⟨bm,ob,b1,b2,b3,b4,b5,b6⟩:=hB.blt;have hgP:afU≠P:=λq=>by
  let⟨o,es,ep,e,hd,_⟩:=hgs;rw[q,hP] at e;cases e;cases hd
 have hbP:bm≠P:=λq=>by
  have e:=I.bk _ _ b3;rw[q,hP] at e;cases e;cases b4
 have hbG:bm≠afU:=λq=>by
  let⟨o,es,ep,e,hd,_⟩:=I.mod.glob;rw[q,e] at b3;cases b3;rw[hd] at b6;cases b6
 have hbb:s.heap.BuiltinsAt X.mg P:=⟨bm,ob,b1,b2,hbG,hbP,I.bk _ _ b3,b4,b5,b6⟩;cases hf:ajt pos qs.toList with
 | some cv=>
  let⟨c',oc,vs,q,t,tq',rfl,h1,h2,h3,h4⟩:=al pos cv hf;rw[q0] at h4;cases h4;show PySem.W.makeFunction_hit (mg:=X.mg) hcl I.ok.glob hgs hc C hP tr hf hbb λctv doc h' tk hk hsz=>?_;have I1:Inv X pins σ H {s with heap:=h',toks:=tk}:=I.kept (t':=tk) hk;have hn:H h'.objs.size=none:=I1.hok.fresh (z0g _);show⟨h'.objs.size,upd H h'.objs.size (.frz _ (.own h'.objs.size)),rfl,I1.laid (t':=tk) (λb u z=>z1a _ z) (z0g _) ⟨z1f _ rfl,_,z1f _ rfl⟩,Same.upd hn,?_⟩;show⟨_,doc,_,c',ctv,oc,vs,t,upd_same,rfl,by rw[upd_ne (ne_of_none h1 hn)];show h1,h2,h3⟩
 | none =>
  show PySem.W.makeFunction_K (mg:=X.mg) hcl I.ok.glob hgs hc C hP tr hf hgP hbb λc' ctv doc h' tk hx hge hlt hrec htb=>?_;let⟨c2,oc,vs,t,e2,hoc,hd,hv⟩:=hrec;cases e2;have hn:H c'=none:=I.hok.fresh hge;have old:∀b u,H b=some u->upd H c' (.frz oc (.own c')) b=some u:=λb u z=>by rw[upd_ne (ne_of_none z hn)];show z
  have I1 : Inv X pins σ (upd H c' (.frz oc (.own c'))) {s with heap:=h',toks:=tk}:=by
   show I.call' (ch:=[]) rfl ⟨λb o q n _ _=>hx b o (λz=>by rw[z,e0] at n;cases n) q,λb o q n _ _=>⟨o.slots,hx b o (λz=>by rw[z,e0] at n;cases n) q⟩,λb o q n _=>?_,λb o q _=>?_,λb xs q=>old _ _ q,λb o u q=>old _ _ q,λb p q=>⟨#[],by rw[old _ _ q];simp⟩⟩ (λb u q=>?_) I.bare (λb z=>absurd z ())
   .rw[upd_ne (agD (z0d (z2c q) hge))];show n
   .by_cases hb:b=P
    .rw[hb];show⟨_,htb⟩
    .show⟨o,hx b o hb q⟩
   .by_cases hb:b=c'
    .subst hb;rw[upd_same] at q;cases q;show⟨hoc,oc,hoc⟩
    .rw[upd_ne hb] at q;by_cases hp:b=P
     .subst hp;rw[e0] at q;cases q;show⟨_,htb,?_,λp cv z=>?_⟩
      .have:=T8 (a:=pos.line) (s:=0) (b:=pos.col) (t:=0) (c:=af0 c') qs.toList tr;simpa[agN] using this
      .have z':ajt p (qs.toList++[.int pos.line 0,.int pos.col 0,.ref c'])=some cv:=by simpa[agN] using z
       rcases YC _ tr z' with z1 |z1
       .let⟨c3,o3,v3,q3,t3,tq3,y1,y2,y3⟩:=al p cv z1;show⟨c3,o3,v3,q3,t3,tq3,y1,old _ _ y2,y3⟩
       .show⟨c',oc,vs,qual,t,tq,z1,upd_same,hd,hv,q0⟩
     .show (I.hok b u q).stay (λd v hd z=>hx d v (λy=>hd.elim (λx=>hp (x.symm.trans y)) λx=>by rw[y,e0] at x;cases x) z) (λd z=>old _ _ z) (λd xs z=>old _ _ z) λd o u _ z=>old _ _ z
  have hn2:upd H c' (.frz oc (.own c')) h'.objs.size=none:=I1.hok.fresh (z0g _);show⟨h'.objs.size,upd (upd H c' (.frz oc (.own c'))) h'.objs.size (.frz _ (.own h'.objs.size)),rfl,I1.laid (t':=tk) (λb u z=>z1a _ z) (z0g _) ⟨z1f _ rfl,_,z1f _ rfl⟩,(Same.upd hn).trans (Same.upd hn2),?_⟩;show⟨_,doc,_,c',ctv,oc,vs,t,upd_same,rfl,by rw[upd_ne (agD hlt),upd_same],hd,hv⟩
def afr(i:Nat)(name qual:Str)(params:ah8)(body:List af7)(scope:ahp)(clos:List (Str×afK)):TS:=λD σ H=>∀a H1,Same H H1->kY H1 a name qual params body scope clos->D.nx (σ.set i (some (.ref a))) H1
theorem adQ(i:Nat){c P:afK}(hN:X.N.Nodup)(hB:qu X.base X.mg c P)(hT:Tb [(P,qual)] X.H₀)(hc:X.env.code= .ref c)(hcl:akp scope X.env=pure clos)
  (hi:X.N[i]?=some name:=by rfl)(hl:Loc X.env.scope name:=by first |show agp rfl |show aga rfl)(hq:qualnameIn X.env name name=qual:=by rfl)(hd0:params.defaults=[]:=by rfl)(hk0:params.kw_defaults=[]:=by rfl)(ha:annTrees params none X.env=[]:=by rfl)
  (hf:X.fn name=true\/X.env.scope.names.lookup name=some .local:=by first |show .inl rfl |show .inr rfl):PS X (.FunctionDef name params body [] none [] scope none name pos) (afr i name qual params body scope clos):=by
 intro pins s σ H D I h;let⟨ps,tq,e0,q0⟩:=(hT.un I.base) (P,qual) ();show PySem.W.nestDef_K hd0 hk0 ha ?_;rw[hq];show agL (abZ I hB hc e0 q0 hcl) (λv s1 ⟨a,H1,ev,I1,sm,fh⟩=>?_) λ_ _ z=>z;subst ev;show store_ok I1 hN hi hl (v:= .ref a) rfl (λs2 I2=>⟨_,H1,I2,h a H1 sm fh⟩) hf
end
def Bo(P:afZ)(w:af4)(K:afM)(mg:Str->Option afL)(base:af2)(k:Nat)(G:List D->R D)(n:Nat)(a:afK)(H:Hp):Prop:=
 ∀(A:af5) (outer:List agA) (s:afN) (H1:Hp) (us:List afL) (vs:List V) (Q:VK) (E:XK),Room k A->Env0 P w K mg base A outer s H1->(∀b o u,H b=some (.frz o u)->H1 b=some (.frz o u))->Vals vs us->QB K n G vs H1 Q E->
  ai4 (model P w) A (.call (.ref a) ⟨us,[]⟩) (CR CX0 outer P w H1 s Q E) s
def Fb(i a:Nat)(G:List D->R D)(n:Nat)(fa:ao->R (List D)):ao->R D:=λρ=>match ρ[i]? with
 |some (some (.obj (.fn b)))=>if b=a then (fa ρ).bind (aO G n) else .bad
 |_=> .bad
section
variable{X:Cx}{k m n:Nat}{G:List D->R D}{x:Str}{p pos:Pos}{e:afV}{es:List afV}{fa:ao->R (List D)}{a:afK}
theorem Rh(i:Nat)(hc:Bo X.prog X.w X.K X.mg X.base k G n a X.H₀)(hr:Room m X.A)(hkm:k<=m)(ha:DA X (e::es) fa)(hN:X.N[i]?=some x:=by rfl)(hv:Vis X.env.scope x:=by first |show agp rfl |show aga (agp rfl) |show aga (aga rfl))
  (hd:(x ==("__debug__" :Str))=false:=by decide)(hcd:(x ==("__classdict__" :Str))=false:=by decide)(he:afP (e::es) X.env=(false,eval e X.env)::afP es X.env:=by rfl)(hpl:(ago pos (afP es X.env)).any (·.1)=false:=by rfl):
  DE X (.Call (.Name x p) (e::es) [] pos) (Fb i a G n fa):=by
 intro pins s σ H Q I h;let⟨ρ,O,j,h⟩:=h;unfold Fb at h;split at h
 .rename_i b q;by_cases hb:b=a
  .subst hb;rw[z9p rfl] at h;let⟨v,hv1,rfl,o,fd,ho,hod⟩:=j.env.get i _ q;have at':∀{s':afN} {H':Hp},Inv X pins σ H' s'->Same H H'->PySem.W.FnAt b s'.heap:=λ{s' H'} I' sm=>by
    let⟨ho',_⟩:=I'.hok b _ (sm _ _ ho);let⟨v1,v2,v3,v4⟩:=o;have hod:v3= .func fd:=hod;subst hod;show⟨v1,v2,fd,v4,ho'⟩
   show agX (thn (pe_var hN hv hd hcd pins s σ H (λv H1=>v= .ref b/\H1=H) I ⟨_,hv1,rfl,rfl⟩) λu s1 bB=>?_);let⟨v',H1,I1,r1,e1,e2⟩:=bB;subst e1 e2;cases (show u=af0 b from r1);have key:tG X (wM X) fa σ H1 (λvs H2=>Same H1 H2/\QB X.K n G vs H2 Q E0):=by
    show go j h λds vs H2 e1 s2 r2 j2 h2=>⟨s2,?_⟩;unfold aO at h2;by_cases hl:ds.length=n
    .rw[z9p hl] at h2;show⟨O,ds,r2,hl,j2.al,?_⟩;cases q:G ds with
     |ok d=>rw[q] at h2;show h2
     |err c=>rw[q] at h2;show h2
     |bad=>rw[q] at h2;show h2
    .rw[z9n hl] at h2;show h2.elim
   show PySem.W.callWith_F (at' I1 (Same.refl _)) (thn (ha pos pins s1 σ H1 _ I1 key) λus s2 ⟨vs,H2,I2,r,sm,q2⟩=>⟨at' I2 sm,?_⟩) he hpl;show ahP (ahI (hc X.A X.stack s2 H2 us vs Q E0 (hr.mono hkm) I2.env0 I2.base.frzs r q2) λr s' hq=>?_);cases r with
   |error e=>show pass0 pins σ H2 s2 e s' I2 hq
   | ok fl=>
    cases fl with
    |ret u=>show I2.after hq
    |next=>show agm hq
    |brk=>show agm hq
    |cont=>show agm hq
  .rw[z9n hb] at h;show h.elim
 .show h.elim
end
inductive SpS (P:afZ) (w:af4) (mg:Str->Option afL) (base:af2) (k:Nat) (K:afM) (n q:Nat) (F:afK->(List D->R D)->List D->R D) (vs:List V) (H:Hp) (Q:VK):Prop
 | mk (O:afK->Prop) (ds:List D) (xs:List V) (a:afK) (G:List D->R D) (e:vs=xs++[.ref a]) (r:aM K O H ds xs) (hl:ds.length=n) (al:∀b,O b->∃o,H b=some o) (ro:qQ K H (.fn a) (.ref a)) (hc:Bo P w K mg base k G q a H) (h:match F a G ds with
  | .ok d=>∀v H',Same H H'->Rep K O H' d v->Q v H'
  |_=>False):SpS P w mg base k K n q F vs H Q
def spS(P:afZ)(w:af4)(mg:Str->Option afL)(base:af2)(k:Nat)(K:afM)(n q:Nat)(F:afK->(List D->R D)->List D->R D):Sp:=λvs H Q _=>SpS P w mg base k K n q F vs H Q
section
variable{P:afZ}{w:af4}{K:afM}{mg:Str->Option afL}{base:af2}
theorem fnS{x:Str}{kG m q:Nat}{g:afK->(List D->R D)->ao->So}(Fn:Fun K x qual st f fd)(S:FnScope N ps (defScope st))(hn:ps.length=n+1)(hm:N.length=n+1+m)
  (hb:∀(cdv:afL) (A:af5) (outer:List agA) (s:afN) (H:Hp) (E:XK) (a:afK) (G:List D->R D),Room k (A.deeper (ag9 qual (defScope st) s.heap.objs.size f cdv))->Bo P w K mg base kG G q a H->iG (cxOf CX0 P w K mg base N qual (defScope st) f cdv A outer s H E).nox (defBody st) (g a G)):
  FnOk P w K mg base CX0 (k+1) f fd ps (spS P w mg base kG K n q (λa G ds=>cZ m (g a G) (ds.map .val++[.obj (.fn a)]))):=by
 let⟨oc,od,kV,doc,pm,an,cdv,ct,osl,rfl,lk,hcd⟩:=Fn.ex;show fn_of lk hcd S (λvs H Q E h=>?_) λA outer s H vs Q E hr h=>?_
 .let⟨O,ds,xs,a,G,rfl,r,hl,_⟩:=h;rw[hn,z1d,<-r.length,hl];rfl
 .let⟨O,ds,xs,a,G,rfl,r,hl,al,ro,hc,h⟩:=h;have rY:N.length=(xs++[V.ref a]).length+m:=by rw[hm,z1d,<-r.length,hl];rfl
  show⟨_,(hb cdv A outer s H E a G hr hc).nox,H,O,O,(ds.map Ent.val++[Ent.obj (.fn a)]).map some++afO m none,?_,EY h⟩;rw[kW rY];show pI (X:=(cxOf CX0 P w K mg base N qual (defScope st) f cdv A outer s H E).nox) (by rw[z1d,z1g,r.length];rw[z1d] at rY;show rY) (Jd (nj r) (.cons ⟨ro,rfl⟩ .nil)) al
end
def del(H:Hp)(c:afK):Hp:=λb=>if b=c then none else H b
theorem jD{c:afK}:del H c c=none:=z9p rfl
theorem dh{b c:afK}(h:b≠c):del H c b=H b:=z9n h
theorem aau{b c:afK}{u:HO}(h:del H c b=some u):b≠c/\H b=some u:=by
 by_cases e:b=c
 .rw[e,jD] at h;cases h
 .rw[dh e] at h;show⟨e,h⟩
section
variable{P:afZ}{w:af4}{H:Hp}{h:af2}{c:afK}{co:Obj}{u:Option afL}
theorem Vl(x:HOk P w H h)(hc:H c=some (.frz co (.own c)))(hd:co.data= .cell u):HOk P w (del H c) h:=λb v q=>by
 let⟨nb,q⟩:=aau q;show (x b v q).stay (λ_ _ _ z=>z) (λd z=>?_) (λd xs z=>?_) λd o v' hv z=>?_
 .rw[dh (λe=>by rw[e,hc] at z;cases z)];show z
 .rw[dh (λe=>by rw[e,hc] at z;cases z)];show z
 .rw[dh (λe=>by rw[e,hc] at z;cases z;let⟨vs,y⟩:=hv;rw[hd] at y;cases y)];show z
theorem Vm(x:HOk P w H h)(hn:H c=none)(ho:h.get? c=some co):HOk P w (upd H c (.frz co (.own c))) h:=λb v q=>by
 have old:∀b u,H b=some u->upd H c (.frz co (.own c)) b=some u:=λb u z=>by rw[upd_ne (ne_of_none z hn)];show z
 by_cases hb:b=c
 .subst hb;rw[upd_same] at q;cases q;show⟨ho,co,ho⟩
 .rw[upd_ne hb] at q;show (x b v q).stay (λ_ _ _ z=>z) (λd z=>old _ _ z) (λd xs z=>old _ _ z) λd o v' _ z=>old _ _ z
theorem Vn(hc:H c=some (.frz co (.own c))):Ext O H (del H c):=by
 show⟨λb xs z=>?_,λb xs _ z=>?_,λb _ _ _ _ z=>by rw[dh λe=>by rw[e,hc] at z;cases z];show z⟩
 .have nb:b≠c:=λe=>by rcases z with z |⟨o,z⟩ <;> rw[e,hc] at z <;> cases z
  rcases z with z |⟨o,z⟩
  .show .inl (by rw[dh nb];show z)
  .show .inr ⟨o,by rw[dh nb];show z⟩
 .have nb:b≠c:=λe=>by rcases z with z |⟨o,z⟩ <;> rw[e,hc] at z <;> cases z
  rcases z with z |⟨o,z⟩
  .show .inl (by rw[dh nb];show z)
  .show .inr ⟨o,by rw[dh nb];show z⟩
end
section
variable{M:Model}{A:af5}{E:afL->afN->Prop}{s:afN}
theorem Je{env env':agA}(f f':Str×afL->PUnit->Sem (ForInStep PUnit))(hf:∀n v u,f (n,v) u=(do ahB env n v;pure (.yield PUnit.unit)))(hf':∀n v u,f' (n,v) u=(do ahB env' n v;pure (.yield PUnit.unit))):
  ∀binds:List (Str×afL),(∀x∈binds,∀v,ahB env x.1 v=ahB env' x.1 v)->(forIn binds (PUnit.unit:PUnit) f:Sem PUnit)=forIn binds (PUnit.unit:PUnit) f'
 |[],_=>rfl
 | (n,v)::r,h=>by
  rw[ahX,ahX,hf,hf',h (n,v) agl v];simp only[bind_assoc,pure_bind];rw[Je f f' hf hf' r λx hx=>h x (z2f _ hx)]
theorem Vo{n:Str}{v:afL}(hk:env.scope.kind= .function)(h:env.scope.names.lookup n=some .local):ahB env n v=nsSet env.locals n v:=by
 have h:env.kindOf n=some .local:=h;simp[ahB,h,hk]
theorem Vp{n:Str}{v:afL}{d:afK}(hk:env.scope.kind= .function)(h:env.scope.names.lookup n=some .cell)(hd:env.cells.lookup n=some d):ahB env n v=cellSet d (some v):=by
 have h:env.kindOf n=some .cell:=h;simp[ahB,h,hk,cellOf,hd]
theorem T9{globals:afK}{binds:List (Str×afL)}{func:Option afK}{code:afL}{builtins:afK}{Q:agA->afN->Prop}
  (hk:scope.kind= .function)
  (hkind:∀x∈binds,scope.names.lookup x.1=some .local\/(scope.names.lookup x.1=some .cell/\((agj (s.heap.objs.size+1) scope.names []).lookup x.1).isSome=true))
  (hQ:∀s',InCallC s s.heap.objs.size (bindL (λq=>scope.names.lookup q) binds λ_=>none) (agj (s.heap.objs.size+1) scope.names []) (bindC (λq=>scope.names.lookup q) binds λ_=>none) s'->
   Q (newEnv scope s.heap.objs.size globals (agj (s.heap.objs.size+1) scope.names []++clos) qual func code none builtins) s'):
  afS M A (ajP scope globals clos binds qual func code none builtins) Q E s:=by
 simp only[ajP,Option.isSome_none,agO,if_false];show aft (wpAny_alloc ?_);show aft (wpAny_layCells _ (λname kind cells=>by cases hkc:kind ==ail <;> simp[hkc]) _ _ _ _ ?_);have ok:=cellsFrom_ok scope.names (s.heap.push {cls:= .type "frame",data:= .dict #[]}) (s.heap.objs.size+1) [] ⟨λ_ _ hm=>(nomatch hm),akg⟩ (by rw[agw];show z0g _);rw[agw] at ok;rw[show ({s with heap:=s.heap.push {cls:= .type "frame",data:= .dict #[]}}:afN).heap.objs.size=s.heap.objs.size+1 from agw ..];rw[dZ];have eq:=Je (env:=newEnv scope s.heap.objs.size globals (agj (s.heap.objs.size+1) scope.names []++clos) qual func code none builtins) (env':=newEnv scope s.heap.objs.size globals (agj (s.heap.objs.size+1) scope.names []) qual func code none builtins)
  (λx _=>do ahB (newEnv scope s.heap.objs.size globals (agj (s.heap.objs.size+1) scope.names []++clos) qual func code none builtins) x.1 x.2;pure (.yield PUnit.unit))
  (λx _=>do ahB (newEnv scope s.heap.objs.size globals (agj (s.heap.objs.size+1) scope.names []) qual func code none builtins) x.1 x.2;pure (.yield PUnit.unit)) (λ_ _ _=>rfl) (λ_ _ _=>rfl) binds (λx hx v=>by
   rcases hkind x hx with z |⟨z,z2⟩
   .rw[Vo hk z,Vo hk z];rfl
   .let⟨d,hd⟩:=ahc.mp z2;have e1:(agj (s.heap.objs.size+1) scope.names []++clos).lookup x.1=some d:=by rw[ag7,hd];rfl
    rw[Vp hk z e1,Vp hk z hd])
 show aft ?_;show afS M A (forIn binds (PUnit.unit:PUnit) (λx _=>do ahB (newEnv scope s.heap.objs.size globals (agj (s.heap.objs.size+1) scope.names []++clos) qual func code none builtins) x.1 x.2;pure (.yield PUnit.unit))) _ E _;rw[eq];show wpAny_bindParams (s₀:=s) (env:=newEnv scope s.heap.objs.size globals (agj (s.heap.objs.size+1) scope.names []) qual func code none builtins)
  _ (λ_ _ _=>rfl) hk binds (λ_=>none) (λ_=>none) _ _
  ⟨⟨⟨_,_,rfl⟩,(Heap.Ns.new s.heap (.type "frame")).keeps (aiV _ _),λb o e=>aiV _ _ b o (z1a _ e),z0g _⟩,
   λn c hc=>(ok.empty n c (mem_of_lookup hc)).1,ok.apart,λn c hm=>(ok.empty n c hm).2⟩
  hkind λs' x=>afQ (hQ s' x)
end
structure KJ(N P:List Str)(y:Str)(sc:ahp):Prop where
 kind:sc.kind= .function
 co:sc.isCoroutine=false
 gen:sc.isGenerator=false
 nd:N.Nodup
 pre:N.take (P.length+1)=P++[y]
 par:∀x∈P,sc.names.lookup x=some .local\/sc.names.lookup x=some .cell
 M5:sc.names.lookup y=some .free
 only:∀z∈sc.names,z.2= .free->z.1=y
 cel:∀z∈sc.names,z.2= .cell->sc.names.lookup z.1=some .cell
section
variable(P:afZ)(w:af4)(K:afM)(mg:Str->Option afL)(base:af2)(N:List Str)(qual:Str)(scope:ahp)(f:afK)(cd:afL)(A:af5)(outer:List agA)(s:afN)(H:Hp)(y:Str)(c:afK)
abbrev yH:agA:=PySem.W.envX qual scope s.heap.objs.size f cd (agj (s.heap.objs.size+1) scope.names []++[(y,c)])
def yI:Cx where
 prog:=P
 w:=w
 K:=K
 mg:=mg
 base:=base
 A:=A.deeper (yH qual scope f cd s y c)
 N:=N
 s₀:=s
 H₀:=H
 env:=yH qual scope f cd s y c
 outer:=outer
 stack:=yH qual scope f cd s y c::outer
 ex:=[]
 calm:=true
 fn:=λx=>decide (x≠y)
 pn:=[]
 xe:=λ_ _=>False
end
section
variable{P:afZ}{w:af4}{K:afM}{mg:Str->Option afL}{base:af2}
theorem adR{cd:afL}{A:af5}{s s1:afN}{us:List afL}{c:afK}{vy:V}{uy:afL}
  (S:KJ N ps y scope)(hd:A.handled=none)(e0:Env0 P w K mg base A outer s H)(hl:vs.length=ps.length)(r:Vals vs us)(hc:s.heap.IsCell c (some uy))(hy:RelV vy uy)(hHc:H c=none)
  (x:InCallC s s.heap.objs.size (bindL (λq=>scope.names.lookup q) (ps.zip us) λ_=>none) (agj (s.heap.objs.size+1) scope.names []) (bindC (λq=>scope.names.lookup q) (ps.zip us) λ_=>none) s1):
  Inv (yI P w K mg base N qual scope f cd A outer s H y c) [] (start N (vs++[vy])) H s1:=by
 have hpl:ps.length+1<=N.length:=by have:=congrArg aiP S.pre;rw[aiJ,z1d,agR] at this;omega
 let⟨h1,tk,rfl,hk⟩:=x.done;have noA:∀b:afK,b∉(yI P w K mg base N qual scope f cd A outer s H y c).ex:=λb z=>absurd (show b∈([]:List afK) from z) ();have clt:c<s.heap.objs.size:=hc.lt;have cells:∀z d,(yH qual scope f cd s y c).cells.lookup z=some d->((agj (s.heap.objs.size+1) scope.names []).lookup z=some d/\scope.names.lookup z=some .cell)\/(z=y/\d=c):=λz d q=>by
  have q:(agj (s.heap.objs.size+1) scope.names []++[(y,c)]).lookup z=some d:=q;rw[ag7] at q;cases e:(agj (s.heap.objs.size+1) scope.names []).lookup z with
  | some d'=>
   rw[e] at q;have q:d'=d:=by simpa using q
   subst q;let⟨m1,_⟩:=jM _ _ (agd e);show .inl ⟨rfl,S.cel _ m1 rfl⟩
  | none=>
   rw[e] at q;have q:ahD z [(y,c)]=some d:=by simpa using q
   rw[ahN] at q;cases hz:z ==y with
   |true=>rw[hz] at q;cases q;show .inr ⟨by simpa using hz,rfl⟩
   |false=>rw[hz] at q;cases q
 have kept:(yH qual scope f cd s y c).cells.lookup y=some c:=by
  show (agj (s.heap.objs.size+1) scope.names []++[(y,c)]).lookup y=some c;rw[ag7];cases e:(agj (s.heap.objs.size+1) scope.names []).lookup y with
  | some d=>
   let⟨m1,_⟩:=jM _ _ (agd e);have:=S.cel _ m1 rfl;rw[S.M5] at this;cases this
  |none=>simp[ahN]
 show⟨⟨e0.mod,S.kind,rfl,rfl,z0g _,λz z' d h1 h2=>?_,λz hz=>?_,λz d hf h=>?_,λ_=>hd,Around.frames_deeper e0.frames,.inr ⟨rfl,rfl⟩,λb z=>absurd z (noA b),e0.bs,e0.bsz,λb _ _=>noA b,λb z=>absurd z (noA b),e0.funs,e0.frf⟩,
  rfl,e0.bare,Un.kept hk,⟨_,x.toInCall.ns,λi z v h1 h2 h3=>?_⟩,λz d h=>?_,e0.hok.fresh (z0g _),λz d h=>?_,λp hp=>absurd (show p∈([]:List (afK×Obj)) from hp) (),e0.hok.kept hk,?_⟩
 .rcases cells z d h1 with⟨q1,_⟩ |⟨q1,q2⟩ <;> rcases cells z' d h2 with⟨q3,_⟩ |⟨q3,q4⟩
  .show name_of_addr x.apart (agd q1) (agd q3)
  .have:=x.above z d (agd q1);rw[q4] at this;show absurd (Nat.lt_trans clt this) (agS _)
  .have:=x.above z' d (agd q3);rw[q2] at this;show absurd (Nat.lt_trans clt this) (agS _)
  .rw[q1,q3]
 .have hz:scope.names.lookup z=some .cell\/scope.names.lookup z=some .free:=hz;rcases hz with hz |hz
  .let⟨d,e⟩:=cell_has (n:=s.heap.objs.size+1) hz;show⟨d,by show (agj (s.heap.objs.size+1) scope.names []++[(y,c)]).lookup z=some d;rw[ag7,e];rfl⟩
  .have e:=S.only _ (agd hz) rfl;have e:z=y:=e;rw[e];show⟨c,kept⟩
 .have hf:z≠y:=z9o hf;rcases cells z d h with⟨q1,_⟩ |⟨q1,_⟩
  .show z0e (x.above z d (agd q1))
  .show absurd q1 hf
 .have hi:i<vs.length+1:=by
   unfold L2.start at h2;by_cases hi:i<vs.length+1
   .show hi
   .rw[agu (by simpa using hi)] at h2;rw[ahf] at h2;split at h2 <;> cases h2
  have ha:(vs++[vy])[i]?=some v:=by
   unfold L2.start at h2;rw[agJ (by simpa using hi),z2b] at h2;cases e:(vs++[vy])[i]? with
   |none=>rw[e] at h2;cases h2
   |some a=>rw[e] at h2;cases h2;rfl
  have hp:(ps++[y])[i]?=some z:=by
   rw[<-S.pre,aku ()];show h1
  by_cases hiv:i<vs.length
  .rw[agJ hiv] at ha;rw[agJ ()] at hp;let⟨u,hu,rv⟩:=r.get ha;have ndP:ps.Nodup:=by
    have q:(ps++[y]).Nodup:=by rw[<-S.pre];show S.nd.sublist (List.take_sublist _ _)
    show (aki.mp q).1
   show⟨u,rv,?_⟩;rcases S.par z (agF hp) with k |k
   .show .inl ⟨k,bindL_get ndP hp hu k⟩
   .let⟨d,e⟩:=cell_has (n:=s.heap.objs.size+1) k;show .inr ⟨.inl k,d,?_,?_⟩
    .show (agj (s.heap.objs.size+1) scope.names []++[(y,c)]).lookup z=some d;rw[ag7,e];rfl
    .have q:=x.cell z d e;rw[bindC_get ndP hp hu (by rw[k];decide)] at q;show q
  .have ei:i=vs.length:=()
   subst ei;rw[agu (z0g _)] at ha;rw[hl,agu (z0g _)] at hp;have ha:vy=v:=by simpa using ha
   have hp:y=z:=by simpa using hp
   subst ha hp;show⟨uy,hy,.inr ⟨.inr S.M5,c,kept,hc.keeps hk⟩⟩
 .rcases cells z d h with⟨q1,_⟩ |⟨_,q2⟩
  .show⟨_,x.cell z d q1⟩
  .rw[q2];show⟨_,hc.keeps hk⟩
 .rcases cells z d h with⟨q1,_⟩ |⟨_,q2⟩
  .show e0.hok.fresh (z0e (x.above z d (agd q1)))
  .rw[q2];show hHc
 .unfold L2.start;show _=N.length;rw[z1d,z1g,agt,z1d,agR];omega
theorem adS{m:Nat}{g:ao->So}{my:Int}{a c:afK}{co:Obj}{uy:afL}
  (S:KJ N ps y scope)(hn:ps.length=n)(hm:N.length=n+1+m)
  (hbind:∀(doc pm:afL) (cl:List (Str×afK)) (cdv ct:afL) (us:List afL),us.length=ps.length->ah1 (w0d name qual params body scope cl .none .none doc pm none cdv ct) ⟨us,[]⟩=pure (ps.zip us))
  (hb:∀(cdv:afL) (A:af5) (outer:List agA) (s:afN) (H:Hp) (f c:afK),Room k (A.deeper (yH qual scope f cdv s y c))->iG (yI P w K mg base N qual scope f cdv A outer s H y c) body g)
  (fh:kY H a name qual params body scope [(y,c)])(hc:H c=some (.frz co (.own c)))(hcd:co.data= .cell (some uy))(hy:RelV (.int my) uy):
  Bo P w K mg base (k+1) (λds=>cZ m g (ds.map .val++[.val (.int my)])) n a H:=by
 intro A outer s H1 us vs Q E hr e0 hz r sp;let⟨O,ds,rs,hl,al,sp⟩:=sp;have sp:(match cZ m g (ds.map Ent.val++[Ent.val (.int my)]) with | .ok d=>∀v H',Same H1 H'->Rep K O H' d v->Q v H' |_=>False):=sp;let⟨fo,doc,pm,c',ctv,oc,vq,t,f1,f2,f3,f4,f5⟩:=fh.fz hz;have hc1:=hz _ _ _ hc;let⟨hco,_⟩:=e0.hok c _ hc1;let⟨hfo,_⟩:=e0.hok a _ f1;let⟨hoc,_⟩:=e0.hok c' _ f3;have KX:K.In s.heap:=e0.mod.kin.keeps λb o e=>(e0.bs b o e).1;have lim:s.heap.NoLimit:=e0.mod.nolimit.keeps λb o e=>(e0.bs b o e).1;have e1:Env0 P w K mg base A outer s (del H1 c):=⟨e0.frames,e0.mod,λb o e=>⟨(e0.bs b o e).1,by
  by_cases q:b=c
  .rw[q];show jD
  .rw[dh q];show (e0.bs b o e).2⟩,e0.bsz,e0.funs,λb hb=>by
  by_cases q:b=c
  .rw[q];show jD
  .rw[dh q];show e0.frf b hb,Vl e0.hok hc1 hcd,e0.bare⟩
 have hlu:us.length=ps.length:=by rw[<-r.length,<-rs.length,hl,hn]
 have hkind:∀z∈ps.zip us,scope.names.lookup z.1=some .local\/(scope.names.lookup z.1=some .cell/\((agj (s.heap.objs.size+1) scope.names []).lookup z.1).isSome=true):=λ⟨q,v⟩ hy=>by
  rcases S.par q (ajB hy).1 with z |z
  .show .inl z
  .show .inr ⟨z,aiv _ _ _ (.inl z)⟩
 show codeAny_call_function hr.depth hfo f2 S.co S.gen rfl ⟨c',oc,vq,t,rfl,hoc,f4,f5⟩ ?_;rw[hbind doc pm _ _ _ us hlu];show afQ (T9 S.kind hkind λs1 x=>?_);show⟨lim.keeps x.toInCall.keep,codeAny_func ?_⟩;have I:Inv (yI P w K mg base N qual scope a (.ref c') A outer s (del H1 c) y c) [] (start N (vs++[.int my])) (del H1 c) s1:=
  adR S hr.hd e1 (by rw[<-rs.length,hl,hn]) r ⟨co,hco,hcd⟩ hy jD x
 have rY:N.length=(vs++[V.int my]).length+m:=by rw[hm,z1d,<-rs.length,hl];rfl
 have rs':aM K (λb=>O b/\b≠c) (del H1 c) ds vs:=aM.ext (Vn hc1) (λb xs nb _ z=>nb z.1) ds vs rs;have J:At (yI P w K mg base N qual scope a (.ref c') A outer s (del H1 c) y c) (del H1 c) (λb=>O b/\b≠c) (λb=>O b/\b≠c) (del H1 c) ((ds.map Ent.val++[Ent.val (.int my)]).map some++afO m none) (start N (vs++[.int my])):=by
  rw[kW rY];show pI (by show N.length=_;rw[z1d,z1g,rs.length];rw[z1d] at rY;show rY) (Jd (nj rs') (.cons ⟨(cg (K:=K) (O:=λb=>O b/\b≠c) (H:=del H1 c) my:fM K (λb=>O b/\b≠c) (del H1 c) (.val (.int my)) (.int my)),rfl⟩ .nil)) λb z=>?_;let⟨o,q⟩:=al b z.1;show⟨o,by rw[dh z.2];show q⟩
 have run:=hb (.ref c') A outer s (del H1 c) a c (hr.deeper _) [] s1 _ _ {nx:=λ_ H'=>cZ m g (ds.map .val++[.val (.int my)])= .ok .non/\Same (del H1 c) H',rt:=λv H'=>∃d,cZ m g (ds.map .val++[.val (.int my)])= .ok d/\Same (del H1 c) H'/\Rep K (λb=>O b/\b≠c) H' d v} I ⟨_,_,_,_,J,by
  unfold cZ at sp |-;cases e2:g ((ds.map Ent.val++[Ent.val (.int my)]).map some++afO m none) with
  |rt d=>show λv H' s' r'=>⟨d,by simp only[e2],s',r'⟩
  |nx ρ'=>show λσ' H' O' j' _=>⟨by simp only[e2],j'.same⟩
  |bk _=>rw[e2] at sp;show sp.elim
  |ct _=>rw[e2] at sp;show sp.elim
  |rm _ _=>rw[e2] at sp;show sp.elim
  |rk _=>rw[e2] at sp;show sp.elim
  |ex _ _=>rw[e2] at sp;show sp.elim
  |bad=>rw[e2] at sp;show sp.elim⟩
 have cfr:c∉frs outer:=λz=>by rw[e0.frf c z] at hc1;cases hc1
 have fin:∀{σ':St} {H':Hp} {v:V} {u:afL} {s':afN} {d:D},Inv (yI P w K mg base N qual scope a (.ref c') A outer s (del H1 c) y c) [] σ' H' s'->RelV v u->cZ m g (ds.map .val++[.val (.int my)])= .ok d->Same (del H1 c) H'->Rep K (λb=>O b/\b≠c) H' d v->CE outer P w H1 s Q u s':=λ{σ' H' v u s' d} J rv ed sm rd=>by
  have hn':H' c=none:=J.base.free c co hco jD (by simp[yI]);have hc':s'.heap.get? c=some co:=J.base.keep c co hco jD cfr (by simp[yI]);have ol:∀b,b≠c->upd H' c (.frz co (.own c)) b=H' b:=λb z=>upd_ne z;have kIn:K.In s'.heap:=J.kIn;show⟨v,upd H' c (.frz co (.own c)),J.os,J.bare,⟨λb o q nb hb hx=>?_,λb o q nb hb hx=>?_,λb o q nb hx=>?_,λb o q hx=>J.base.there b o q hx,λb xs q=>?_,λb o u q=>?_,λb ps q=>?_⟩,Vm J.hok hn' hc',rv,?_⟩
  .show J.base.keep b o q (show del H1 c b=none by by_cases z:b=c;(rw[z];show jD);rw[dh z];show nb) hb hx
  .show J.base.slot b o q (show del H1 c b=none by by_cases z:b=c;(rw[z];show jD);rw[dh z];show nb) hb hx
  .have nc:b≠c:=λz=>by rw[z,hc1] at nb;cases nb
   rw[ol b nc];show J.base.free b o q (show del H1 c b=none by rw[dh nc];show nb) hx
  .have nc:b≠c:=λz=>by rw[z,hc1] at q;cases q
   rw[ol b nc];show J.base.tups b xs (show del H1 c b=some _ by rw[dh nc];show q)
  .by_cases nc:b=c
   .rw[nc,hc1] at q;cases q;rw[nc,upd_same]
   .rw[ol b nc];show J.base.frzs b o u (show del H1 c b=some _ by rw[dh nc];show q)
  .have nc:b≠c:=λz=>by rw[z,hc1] at q;cases q
   rw[ol b nc];show J.base.tbls b ps (show del H1 c b=some _ by rw[dh nc];show q)
  .rw[ed] at sp;have s2:Same H' (upd H' c (.frz co (.own c))):=Same.upd hn';show sp v _ (λb o q=>?_) ?_
   .by_cases nc:b=c
    .rw[nc,hc1] at q;cases q;rw[nc,upd_same]
    .show s2 _ _ (sm b o (by rw[dh nc];show q))
   .show Rep.ext ⟨λb xs z=>Same.rd s2 z,λb xs _ z=>Same.rd s2 z,λb _ _ _ _ z=>s2 _ _ z⟩ (λb xs nb hq z=>?_) d v rd;by_cases nc:b=c
    .subst nc;rcases hq with (hq |⟨o,hq⟩) |⟨o,its,n',hq,h4,_⟩
     .rw[hn'] at hq;cases hq
     .rw[hn'] at hq;cases hq
     .have:=kIn _ _ hq;rw[hc'] at this;cases this;simp_all
    .show nb ⟨z,nc⟩
 show agL run (λfl s' hs=>?_) λe s' hs=>hs.elim;cases fl with
 | ret u=>
  let⟨v,σ',H',J,rv,d,q1,q2,q3⟩:=hs;show fin J rv q1 q2 q3
 | next=>
  let⟨σ',H',J,q1,q2⟩:=hs;show fin (v:=V.non) (u:=agi) J rfl q1 q2 lC
 |brk=>let⟨_,_,_,q⟩:=hs;show agm q
 |cont=>let⟨_,_,_,q⟩:=hs;show agm q
end
section
variable{X:Cx}{name qual:Str}{params:ah8}{body:List af7}{scope:ahp}{y xS:Str}{c fS:afK}{Ri:agx}{Nk:List Str}{kS kG n q iy:Nat}{FS:afK->(List D->R D)->List D->R D}{GG:Int->List D->R D}{p pos:Pos}{e:afV}{es:List afV}{ta:TA}
inductive abw (K:afM) (name qual:Str) (params:ah8) (body:List af7) (scope:ahp) (y:Str) (c:afK) (iy n:Nat) (FS:afK->(List D->R D)->List D->R D) (GG:Int->List D->R D) (σ:St) (Q:VK) (vs:List V) (H1:Hp):Prop
 |mk (O:afK->Prop) (ds:List D) (xs:List V) (a:afK) (my:Int) (d:D) (e:vs=xs++[.ref a]) (r:aM K O H1 ds xs) (hl:ds.length=n) (al:∀b,O b->∃o,H1 b=some o) (fh:kY H1 a name qual params body scope [(y,c)]) (hσ:σ[iy]?=some (some (.int my))) (hF:∀a,FS a (GG my) ds= .ok d) (hQ:∀v H',Same H1 H'->Rep K O H' d v->Q v H'):abw K name qual params body scope y c iy n FS GG σ Q vs H1
def aeY(K:afM)(name qual:Str)(params:ah8)(body:List af7)(scope:ahp)(y:Str)(c:afK)(iy n:Nat)(FS:afK->(List D->R D)->List D->R D)(GG:Int->List D->R D)(ta:TA):TE:=λσ H Q=>ta σ H λvs H1=>abw K name qual params body scope y c iy n FS GG σ Q vs H1
theorem aav(Sw:FnOk X.prog X.w X.K X.mg X.base CX0 kS fS Ri Nk (spS X.prog X.w X.mg X.base kG X.K n q FS))(hr:Room kS X.A)(hg:Gl X xS)(hm:X.mg xS=some (.ref fS))(hk:agg X.K (.ref fS)=true)(hb:Binds X.K Ri Nk [])
  (aaw:∀my a c H co uy,kY H a name qual params body scope [(y,c)]->H c=some (.frz co (.own c))->co.data= .cell (some uy)->RelV (.int my) uy->Bo X.prog X.w X.K X.mg X.base kG (GG my) q a H)
  (hc:X.env.cells.lookup y=some c)(hyk:X.env.scope.names.lookup y=some .cell)(hfn:X.fn y=true)(hiy:X.N[iy]?=some y)(ha:PA X (e::es) ta)(hdb:(xS ==("__debug__" :Str))=false:=by decide)
  (he:afP (e::es) X.env=(false,eval e X.env)::afP es X.env:=by rfl)(hpl:(ago pos (afP es X.env)).any (·.1)=false:=by rfl):
  PE X (.Call (.Name xS p) (e::es) [] pos) (aeY X.K name qual params body scope y c iy n FS GG ta):=by
 intro pins s σ H Q I h;show agX (ld_glob I hg hm ?_ hdb);show ahS (h₀:=X.base) I.ok.mod.kin hk (thn (ha pos pins s σ H _ I h) λus s1 ⟨vs,H1,I1,r,hq⟩=>⟨I1.kIn,?_⟩) he hpl;let⟨O,ds,xs,a,my,d,rfl,rs,hl,al,fh,hσ,hF,hQ⟩:=hq;let⟨m,hn,hl'⟩:=I1.loc;let⟨uy,ry,look⟩:=hl' iy y (.int my) hiy hσ (.inr (.inl hyk));have hcell:s1.heap.IsCell c (some uy):=by
  rcases look with⟨z,_⟩ |⟨_,c2,z,hz⟩
  .have z:X.env.scope.names.lookup y=some .local:=z;rw[hyk] at z;cases z
  .rw[hc] at z;cases z;show hz
 let⟨co,hco,hcd⟩:=hcell;have hnc:H1 c=none:=I1.freeC y c hc;have cab:X.s₀.heap.objs.size<=c:=I1.ok.cab y c hfn hc;have sm:Same H1 (upd H1 c (.frz co (.own c))):=Same.upd hnc;have nfr:∀b∈frs X.stack,b≠c:=λb hb z=>by
  rcases af9.mp (I1.stkSub b hb) with e |hb'
  .show I1.cne y c hc (z.symm.trans e)
  .let⟨_,o,ho,_⟩:=I1.ok.funs.mem hb';show absurd (z0d (z2c ho) cab) (by rw[z];show agS _)
 have e0:=I1.env0;have e1:Env0 X.prog X.w X.K X.mg X.base X.A X.stack s1 (upd H1 c (.frz co (.own c))):=⟨e0.frames,e0.mod,λb o z=>⟨(e0.bs b o z).1,by
  rw[upd_ne (λw=>by
   have:=z2c (I1.ok.bs b o z).1;rw[w] at this;show absurd (z0d this cab) (agS _))]
  show (e0.bs b o z).2⟩,e0.bsz,e0.funs,λb hb=>by rw[upd_ne (nfr b hb)];show e0.frf b hb,Vm e0.hok hnc hco,e0.bare⟩
 let⟨fo,doc,pm,c',ctv,oc,vq,t,f1,f2,f3,f4,f5⟩:=id fh;have fh1:=fh.fz λb o u z=>sm b _ z;have sp:spS X.prog X.w X.mg X.base kG X.K n q FS (xs++[.ref a]) (upd H1 c (.frz co (.own c))) (λv H'=>Same (upd H1 c (.frz co (.own c))) H'/\Rep X.K O H' d v) E0:=by
  show⟨O,ds,xs,a,GG my,rfl,rs.same sm,hl,λb z=>let⟨o,w⟩:=al b z;⟨o,sm _ _ w⟩,⟨rfl,fo,_,sm _ _ f1,f2⟩,aaw my a c _ co uy fh1 upd_same hcd ry,?_⟩;rw[hF a];show λv H' s' r'=>⟨s',r'⟩
 have hll:us.length=Nk.length:=by rw[<-r.length];show Sw.len _ _ _ _ sp
 have hbb:=hb s1 us I1.kIn (by rw[ags];show hll);rw[ags] at hbb;show ahP (ahI (Sw.run X.A X.stack s1 _ ⟨us,[]⟩ us _ _ E0 hr e1 hbb r sp) λrr s' hq=>?_);cases rr with
 |error ev=>show hq.elim
 | ok fl =>
  cases fl with
  |next=>show agm hq
  |brk=>show agm hq
  |cont=>show agm hq
  | ret u =>
   let⟨v,H',os,bare,un,hok,rv,q1,q2⟩:=hq;have hc':H' c=some (.frz co (.own c)):=un.frzs c co _ upd_same;have up:∀b,b≠c->upd H1 c (.frz co (.own c)) b=H1 b:=λb z=>upd_ne z;have un':Un (frs X.stack) [] H1 (del H' c) s1.heap s'.heap:=by
    show⟨λb o z nb hb hx=>?_,λb o z nb hb hx=>?_,λb o z nb hx=>?_,un.there,λb xs z=>?_,λb o u z=>?_,λb ps z=>?_⟩
    .by_cases bc:b=c
     .subst bc;rw[hco] at z;cases z;show (hok b _ hc').1
     .show un.keep b o z (by rw[up b bc];show nb) hb hx
    .show un.slot b o z (by rw[up b (nfr b hb)];show nb) hb hx
    .by_cases bc:b=c
     .rw[bc];show jD
     .rw[dh bc];show un.free b o z (by rw[up b bc];show nb) hx
    .have bc:=ne_of_none z hnc;rw[dh bc];show un.tups b xs (by rw[up b bc];show z)
    .have bc:=ne_of_none z hnc;rw[dh bc];show un.frzs b o u (by rw[up b bc];show z)
    .have bc:=ne_of_none z hnc;rw[dh bc];show un.tbls b ps (by rw[up b bc];show z)
   have J:Inv X pins σ (del H' c) s':=I1.call' os un' (Vl hok hc' hcd) bare λb z=>absurd z ();show⟨v,del H' c,J,rv,hQ v _ (λb o z=>?_) ?_⟩
   .have bc:=ne_of_none z hnc;rw[dh bc];show q1 b o (by rw[up b bc];show z)
   .show Rep.ext (Vn hc') (λb xs nb _ z=>nb z) d v q2
end
open Classical in
def allOf(f:afK->R D):R D:=if h:∃d,∀a,f a= .ok d then .ok h.choose else .bad
theorem aax{f:afK->R D}{d:D}(h:∀a,f a= .ok d):allOf f= .ok d:=by
 have e:∃d,∀a,f a= .ok d:=⟨d,h⟩;unfold allOf;rw[dif_pos e];have:=e.choose_spec 0;rw[h 0] at this;show this.symm
theorem aay{f:afK->R D}{d:D}(h:allOf f= .ok d)(a:afK):f a= .ok d:=by
 unfold allOf at h;by_cases e:∃d,∀a,f a= .ok d
 .rw[dif_pos e] at h;cases h;show e.choose_spec a
 .rw[dif_neg e] at h;cases h
def Ws(i iy:Nat)(f1 f2 f3:ao->R D)(FS:afK->(List D->R D)->List D->R D)(GG:Int->List D->R D):ao->So:=λρ=>match ρ[i]?,ρ[iy]? with
 | some none,some (some (.val (.int my)))=>(match f1 ρ,f2 ρ,f3 ρ with
  | .ok a,.ok b,.ok d=>(match allOf (λx=>FS x (GG my) [a,b,d]) with
   | .ok r=> .rt r
   |_=> .bad)
  |_,_,_=> .bad)
 |_,_=> .bad
section
variable{X:Cx}{name qual:Str}{params:ah8}{body:List af7}{scope:ahp}{y xS:Str}{c cc P fS:afK}{Ri:agx}{Nk:List Str}{kS kG q:Nat}{FS:afK->(List D->R D)->List D->R D}{GG:Int->List D->R D}{p p4 pos pos2 adT:Pos}{e1 e2 e3:afV}{f1 f2 f3:ao->R D}
theorem In.afs{v:V}(j:In X O H ρ σ)(hn:ρ[i]?=some none):In X O H ρ (σ.set i (some v)):=by
 have ne:∀(k:Nat) e,ρ[k]?=some (some e)->i≠k:=λk e h z=>by rw[<-z,hn] at h;cases h
 show⟨⟨λk e h=>?_,λk l e e' u hkl hk hl ok ol sk sl=>?_,λk l e e' u u' r hkl hk sk ha hl ol sl=>?_⟩,j.al,by rw[agM];show j.len,j.iH⟩
 .rw[z1e (ne k e h)];show j.env.get k e h
 .rw[z1e (ne k e hk)] at sk;rw[z1e (ne l e' hl)] at sl;show j.env.sep k l e e' u hkl hk hl ok ol sk sl
 .rw[z1e (ne k _ hk)] at sk;rw[z1e (ne l e' hl)] at sl;show j.env.jY k l e e' u u' r hkl hk sk ha hl ol sl
theorem aaz(i iy:Nat)(hN:X.N.Nodup)(hB:qu X.base X.mg cc P)(hT:Tb [(P,qual)] X.H₀)(hcode:X.env.code= .ref cc)(Sw:FnOk X.prog X.w X.K X.mg X.base CX0 kS fS Ri Nk (spS X.prog X.w X.mg X.base kG X.K 3 q FS))(hr:Room kS X.A)(hm:X.mg xS=some (.ref fS))(hk:agg X.K (.ref fS)=true)(hb:Binds X.K Ri Nk [])
  (aaw:∀my a c H co uy,kY H a name qual params body scope [(y,c)]->H c=some (.frz co (.own c))->co.data= .cell (some uy)->RelV (.int my) uy->Bo X.prog X.w X.K X.mg X.base kG (GG my) q a H)
  (h1:DE X e1 f1)(h2:DE X e2 f2)(h3:DE X e3 f3)
  (hcl:akp scope X.env=pure [(y,c)])(hc:X.env.cells.lookup y=some c)(hyk:X.env.scope.names.lookup y=some .cell)(hfn:X.fn y=true)(hii:i≠iy)(hnv:Vis X.env.scope name)
  (hiy:X.N[iy]?=some y:=by rfl)(hi:X.N[i]?=some name:=by rfl)(hl:Loc X.env.scope name:=by first |show agp rfl |show aga rfl)(hq:qualnameIn X.env name name=qual:=by rfl)(hd0:params.defaults=[]:=by rfl)(hk0:params.kw_defaults=[]:=by rfl)(ha:annTrees params none X.env=[]:=by rfl)
  (hg:Gl X xS:=by rfl)(hdb:(xS ==("__debug__" :Str))=false:=by decide)(hdn:(name ==("__debug__" :Str))=false:=by decide)(hdc:(name ==("__classdict__" :Str))=false:=by decide)
  (he1:afP [e1,e2,e3,.Name name p4] X.env=(false,eval e1 X.env)::afP [e2,e3,.Name name p4] X.env:=by rfl)(he2:afP [e2,e3,.Name name p4] X.env=(false,eval e2 X.env)::afP [e3,.Name name p4] X.env:=by rfl)
  (he3:afP [e3,.Name name p4] X.env=(false,eval e3 X.env)::afP [.Name name p4] X.env:=by rfl)(he4:afP [.Name name p4] X.env=(false,eval (.Name name p4) X.env)::afP [] X.env:=by rfl)
  (hpl:(ago pos2 (afP [e2,e3,.Name name p4] X.env)).any (·.1)=false:=by rfl)(hf:X.fn name=true\/X.env.scope.names.lookup name=some .local:=by first |show .inl rfl |show .inr rfl):
  iG X [.FunctionDef name params body [] none [] scope none name pos,.Return (some (.Call (.Name xS p) [e1,e2,e3,.Name name p4] [] pos2)) adT] (Ws i iy f1 f2 f3 FS GG):=by
 have A:=pa_cons h1 (pa_cons h2 (pa_cons h3 (pa_cons (pe_var (X:=X) (pos:=p4) hi hnv hdn hdc) pa_nil he4) he3) he2) he1;show PSs.imp (pss_cons (adQ i hN hB hT hcode hcl hi hl hq hd0 hk0 ha hf) (pss_one (ps_ret (aav (iy:=iy) (p:=p) (pos:=pos2) Sw hr hg hm hk hb aaw hc hyk hfn hiy A hdb he1 hpl)))) λσ H E h=>?_;let⟨H0,O0,O,ρ,j,h⟩:=h;intro a H1 sm fh;unfold Ws at h;split at h
 .rename_i my en em;have hil:i<X.N.length:=(z1b hi).1;let⟨v,hv,rv⟩:=j.inn.env.get iy _ em;have rv:v= .int my:=Rep.int (show Rep X.K O H (.int my) v from rv);subst rv;split at h
  .rename_i d1 d2 d3 q1 q2 q3;cases q4:allOf (λx=>FS x (GG my) [d1,d2,d3]) with
   |bad=>rw[q4] at h;show h.elim
   |err _=>rw[q4] at h;show h.elim
   | ok d=>
    rw[q4] at h;have jn:In X O H1 ρ (σ.set i (some (.ref a))):=In.afs (j.inn.same sm) en;show⟨ρ,O,jn,?_⟩;rw[q1];intro v1 H2 s2 r1;show⟨ρ,O,jn.same s2,?_⟩;rw[q2];intro v2 H3 s3 r2;show⟨ρ,O,(jn.same s2).same s3,?_⟩;rw[q3];intro v3 H4 s4 r3;have jl:i<σ.length:=by rw[j.inn.len];show hil
    show⟨.ref a,z2a jl,?_⟩;have s14:Same H1 H4:=(s2.trans s3).trans s4;show⟨O,[d1,d2,d3],[v1,v2,v3],a,my,d,rfl,.cons (r1.same (s3.trans s4)) (.cons (r2.same s4) (.cons r3 .nil)),rfl,(jn.same s14).al,fh.fz λb o u z=>s14 _ _ z,?_,aay q4,λv' H' s' r'=>?_⟩
    .rw[z1e hii];show hv
    .show h v' H' (j.same.trans (sm.trans (s14.trans s'))) (r'.fewer j.sub)
  .show h.elim
 .show h.elim
end
def nq(a:afK)(o:Option HO)(T:afK)(q:Str):Hp:=λb=>if b=T then some (.tbl #[.str q 0]) else if b=a then o else none
theorem YD {mb:Str→Option Value} {fa a c T:Addr} {q:Str} {x:Str} {sp:Sp} {s₁:Shared} {vs:List Value} {ns:List Int}
    (KX:K.In s₁.heap)(hns:s₁.heap.Ns afU mg)(hb:s₁.heap.Ns aiG mb)(hbb:∀x:Str,x≠"__name__"→mb x=ahv x)(hlim:s₁.heap.NoLimit)(hg:s₁.gens= #[])
    (ha:s₁.heap.get? a=some {cls:= .type "list",data:= .seq vs.toArray})(hi:aib vs ns)(hl:ns.length≤sizeLine)(hr:Room k callerA)
    (hC:akY s₁.heap c T)(hT:s₁.heap.get? T=some (ai2 #[]))(hnt:akZ K=true)
    (hbm:∃bm ob,mg "__builtins__" =some (.ref bm)∧bm≠aiG∧s₁.heap.get? bm=some ob∧ob.cls= .type "module"∧ob.dict=some aiG∧ob.data= .plain)
    (F:∀base:af2,K.In base→base.Ns afU mg→qu base mg c T→FnOk P w K mg base CX0 k fa fd [x] sp)(hbind:∀(s:afN) (u:afL),ajv s fd ⟨[u],[]⟩ [(x,u)])
    (hsp:∀H:Hp,Tb [(T,q)] H→SqL K H a (ns.map V.int)→sp [.ref a] H (λv _=>v= .bl true) λ_ _ _=>False):
    ai4 (model P w) callerA (.call (.ref fa) ⟨[.ref a],[]⟩) (λr s'=>r= .ok (.ret (.bool true))∧OldK s₁.heap s'.heap∧s'.os=s₁.os∧ai3 s'.gens) s₁:=by
  have rv:=vals_ints hi
  have lenV:=hi.length
  have aT:a≠T:=λz=>by rw[z,hT] at ha;cases ha
  have core : ∀o:Option HO,(o=none∨o=some (.frz {cls:= .type "list",data:= .seq vs.toArray} (.lst (ns.map V.int))))→SqL K (nq a o T q) a (ns.map V.int)→(o≠none→K.lookup a=none)→
      ai4 (model P w) callerA (.call (.ref fa) ⟨[.ref a],[]⟩) (λr s'=>r= .ok (.ret (.bool true))∧OldK s₁.heap s'.heap∧s'.os=s₁.os∧ai3 s'.gens) s₁:=by
    intro o ho hS hK
    have hH:∀b u,nq a o T q b=some u→(b=T∧u= .tbl #[.str q 0])∨(b=a∧u= .frz {cls:= .type "list",data:= .seq vs.toArray} (.lst (ns.map V.int))∧o≠none):=λb u z=>by
      unfold nq at z
      by_cases h1:b=T
      . rw[z9p h1] at z;cases z;show .inl ⟨h1,rfl⟩
      . rw[z9n h1] at z
        by_cases h2:b=a
        . rw[z9p h2] at z
          rcases ho with ho |ho
          . rw[ho] at z;cases z
          . rw[ho] at z;cases z;show .inr ⟨h2,rfl,by rw[ho];simp⟩
        . rw[z9n h2] at z;cases z
    have hok:HOk P w (nq a o T q) s₁.heap:=λb u z=>by
      rcases hH b u z with⟨rfl,rfl⟩ |⟨rfl,rfl,_⟩
      . show⟨#[],hT,trivial,λp cv y=>by cases y⟩
      . show⟨ha,by rw[List.length_map];show hl,vs,_,rv,ha⟩
    have tb:Tb [(T,q)] (nq a o T q):=λp hp=>by
      have e:p=(T,q):=by simpa using hp
      subst e
      show⟨#[.str q 0],0,z9p rfl,rfl⟩
    have base_of:∀{b:afK} {u:Obj},s₁.heap.get? b=some u→nq a o T q b=none→(hidT s₁.heap (nq a o T q)).get? b=some u:=λe n=>hidT_get e n
    have free:∀{b:afK} {u:Obj},s₁.heap.get? b=some u→u.cls≠.type "list"→u.cls≠.none→nq a o T q b=none:=fun {b u} e n1 n2=>by
      cases z:nq a o T q b with
      |none=>rfl
      | some y=>
        rcases hH b y z with⟨rfl,_⟩ |⟨rfl,_,_⟩
        . rw[hT] at e;cases e;show absurd rfl n2
        . rw[ha] at e;cases e;show absurd rfl n1
    have aeZ:∀{b:afK} {u:Obj} {es:Array DictEntry} {ep:Nat},s₁.heap.get? b=some u→u.data= .dict es ep→nq a o T q b=none:=fun {b u es ep} e d=>by
      cases z:nq a o T q b with
      |none=>rfl
      | some y=>
        rcases hH b y z with⟨rfl,_⟩ |⟨rfl,_,_⟩
        . rw[hT] at e;cases e;cases d
        . rw[ha] at e;cases e;cases d
    have nsK:∀{b:afK} {m:Str→Option afL},s₁.heap.Ns b m→(hidT s₁.heap (nq a o T q)).Ns b m:=fun {b m} ⟨u,es,ep,e,d,r⟩=>⟨u,es,ep,base_of e (aeZ e d),d,r⟩
    have hKb:K.In (hidT s₁.heap (nq a o T q)):=λb u e=>base_of (KX b u e) (by
      cases z:nq a o T q b with
      |none=>rfl
      | some y=>
        rcases hH b y z with⟨rfl,_⟩ |⟨rfl,_,no⟩
        . have e1:=KX b u e
          rw[hT] at e1;cases e1
          have h2:=akB.mp hnt (b,ai2 #[]) (PySem.W.mem_of_lookupK e)
          show absurd (show false=true from h2) af6
        . rw[hK no] at e;cases e)
    have hM:Mod K mg (hidT s₁.heap (nq a o T q)):=⟨hKb,nsK hns,⟨mb,nsK hb,hbb⟩,let⟨mc,h1,h2⟩:=hlim;⟨mc,nsK h1,h2⟩⟩
    have nb:qu (hidT s₁.heap (nq a o T q)) mg c T:=by
      show⟨?_,?_⟩
      . let⟨oc,v,file,tf,flags,tg,inF,text,tt,e1,e2,r⟩:=hC
        show⟨oc,v,file,tf,flags,tg,inF,text,tt,base_of e1 (free e1 (by rw[e2];nofun) (by rw[e2];nofun)),e2,r⟩
      . let⟨bm,ob,b1,b2,b3,b4,r⟩:=hbm
        show⟨bm,ob,b1,b2,base_of b3 (free b3 (by rw[b4];nofun) (by rw[b4];nofun)),b4,r⟩
    have e0:Env0 P w K mg (hidT s₁.heap (nq a o T q)) callerA [] s₁ (nq a o T q):=⟨rfl,hM,λb o e=>of_hidT e,Nat.le_of_eq (hidT_size _ _),trivial,λb hb=>absurd (show b∈([]:List afK) from hb) (),hok,.of_eq hg⟩
    show ahI ((F _ hKb (nsK hns) nb).run callerA [] s₁ (nq a o T q) ⟨[.ref a],[]⟩ [.ref a] [.ref a] _ _ hr e0 (hbind s₁ (.ref a)) (.cons rfl .nil) (hsp _ tb hS)) λr s' h=>?_
    cases r with
    |error e=>show h.elim
    | ok fl =>
      cases fl with
      |next=>show agm h
      |brk=>show agm h
      |cont=>show agm h
      | ret u =>
        let⟨v,H',os,bare,un,hok',r',z⟩:=h
        have z:v= .bl true:=z
        subst z
        obtain rfl:u=akl true:=r'
        have each:∀b o,s₁.heap.get? b=some o→s'.heap.get? b=some o∨(b=T∧o=ai2 #[]∧∃qs,s'.heap.get? b=some (ai2 qs)):=λb ob e=>by
          cases z:nq a o T q b with
          |none=>show .inl (un.keep b ob e z (by intro y;show absurd (show b∈([]:List afK) from y) ()) ())
          | some y=>
            rcases hH b y z with⟨rfl,rfl⟩ |⟨rfl,rfl,_⟩
            . let⟨more,z2⟩:=un.tbls _ _ z
              let⟨qs,e2,_⟩:=hok' _ _ z2
              rw[hT] at e;cases e
              show .inr ⟨rfl,rfl,qs,e2⟩
            . have z2:=un.frzs _ _ _ z
              let⟨e1,_⟩:=hok _ _ z
              let⟨e2,_⟩:=hok' _ _ z2
              rw[e] at e1;cases e1
              show .inl e2
        show⟨rfl,⟨λb ob e=>?_,λb ob e=>?_⟩,os,bare⟩
        . rcases each b ob e with z |⟨rfl,rfl,qs,z⟩
          . show .inl z
          . show .inr (.inl ⟨(hC.tab hT).isCodeTable,rfl,#[],qs,rfl,by rw[Array.empty_append];show z⟩)
        . rcases each b ob e with z |⟨rfl,rfl,qs,z⟩
          . show⟨_,z⟩
          . show⟨_,z⟩
  cases hk:K.lookup a with
  | some o=>
    have e:=KX a o hk
    rw[ha] at e
    cases e
    show core none (.inl rfl) (.inr ⟨_,vs.toArray,_,hk,rfl,rfl,rfl,by rw[List.size_toArray,lenV];show hl,by simpa using rv⟩) λz=>absurd rfl z
  |none=>show core _ (.inr rfl) (.inl (.inr ⟨_,(z9n aT).trans (z9p rfl)⟩)) λ_=>hk
def Bp(K:afM)(mg:Str->Option afL)(x:Str)(c:afK):Prop:=∀f oc od fd osl,mg x=some (.ref f)->K.lookup f=some ⟨oc,od,.func fd,osl⟩->fd.code= .ref c
theorem ae0{l:akR}{p:afZ}{loose:List Str}{XP:(Str->Option afL)->af2->Prop}{YP:af4->af2->Prop}{d:DefRec}{K:Params->afM}{x q:Str}{FL:List D->R D}
  (hn:l.most=some n)(hn2:n<=sizeLine)(hdf:d.params.defaults=[])(hr:Room k callerA)
  (hY:∀(w:af4) (h:af2),YP w h->(K w.params).In h)(hnt:∀w:af4,akZ (K w.params)=true)(hrec:∃dy∈recsOf p,dy.name=y)
  (F:∀(w:af4) (mg:Str->Option afL) (fa:afK) (h:af2),(K w.params).In h->h.Ns afU mg->mg d.name=some (.ref fa)->
   ∃fd:agx,(∀(s:afN) (u:afL),ajv s fd ⟨[u],[]⟩ [(x,u)])/\
    ∀(base:af2) (c T:afK),(K w.params).In base->base.Ns afU mg->qu base mg c T->Bp (K w.params) mg y c->FnOk l.prog w (K w.params) mg base CX0 k fa fd [x] (spT [(T,q)] (K w.params) 1 FL))
  (hL:∀ns:List Int,ns.length<=n->FL [.lst (ns.map D.int)]= .ok (.bl true)):
  w0e p loose XP YP l.row.toRowW d [] (λf vs=>ako f vs):=by
 show Att.attach_call hn hdf λw s₀ s₁ mg mb fa o pm cd doc a vs ns G Y ho hd hcd hmg hobj hints hlen hg=>?_;have KX:=hY w _ Y;let⟨fd,hb,hF⟩:=F w mg fa _ KX G.T.g hmg;let⟨dy,hdy,rfl⟩:=hrec;let⟨f',o',fd',c,T,t1,t2,t3,t4,t5,t6⟩:=G.T.tab dy hdy;have hci:Bp (K w.params) mg dy.name c:=λf oc od fd2 osl e1 e2=>by
  rw[t1] at e1;cases e1;have e3:=KX _ _ e2;rw[t2] at e3;cases e3;cases t3;show t4
 show YD (q:=q) KX G.T.g G.T.b G.T.builtins G.T.nolimit hg hobj hints (z0b hlen hn2) hr (PySem.W.CodeHd.of t5 t6) t6.2 (hnt w) G.T.bmain (λbase h1 h2 h3=>hF base c T h1 h2 h3 hci) hb λH tb hS=>⟨tb,sp_law hS (hL ns hlen)⟩
section
variable{X:Cx}{e lo hi:afV}{f g:ao->R D}{fl fu:ao->R (Option Int)}{pos p2 p3 p4:Pos}
def ab0(d:D)(lo hi:Option Int):R D:=match d with
 | .lst ds=> .ok (.lst (jk ds lo hi))
 |_=> .bad
def nu(f:ao->R D)(fl fu:ao->R (Option Int)):ao->R D:=λρ=>(f ρ).bind λd=>(fl ρ).bind λl=>(fu ρ).bind λu=>ab0 d l u
theorem Bq{lo hi:Option afV}(he:DE X e f)(hl:Vc X lo fl)(hu:Vc X hi fu):DE X (.Subscript e (.Slice lo hi none p2) pos) (nu f fl fu):=by
 show PE.imp (pe_slice sl_list he hl hu) λσ H Q h=>?_;let⟨ρ,O,j,h⟩:=h;show go j h λd v H1 e1 s1 r1 j1 h1=>?_;show go j1 h1 λl l' H2 e2 s2 r2 j2 h2=>?_;show go j2 h2 λu u' H3 e3 s3 r3 j3 h3=>?_;have r2:l=l':=r2;have r3:u=u':=r3;subst r2 r3;cases d with
 | lst ds=>
  have r1':=(r1.same s2).same s3;let⟨a,xs,rfl,hq,hn,rs⟩:=r1'.lst;have hlen:=rs.length;show⟨a,xs,rfl,hq,λp hp=>?_⟩;show h3 _ _ (Same.upd hp) (Rep.o7 hp (j3.tE hp) ?_);unfold jk cutV;rw[hlen];show (rs.drop _).take _
 |_=>show h3.elim
theorem ab1{kk}{te:TE}(he:PE X e te):PE X (.Subscript e (.Slice none none (some (.UnaryOp .USub (.Constant (.int 1) kk p3) p4)) p2) pos) (λσ H Q=>te σ H λx H1=>∃a xs,x= .ref a/\SqL X.K H1 a xs/\∀p,H1 p=none->Q (.ref p) (upd H1 p (.lst xs.reverse))):=by
 intro pins s σ H Q I h;show Subscript_ (thn (he pins s σ H _ I h) λv s1 bB=>?_);let⟨x,H1,I1,r1,q1⟩:=bB;let⟨a,xs,rfl,hq,q⟩:=q1;cases r1;show wpAny_Slice ?_;rw[aj7,evalPart_some];show afQ (afQ ?_);show thn (pe_un (X:=X) un_neg pe_int pins s1 σ H1 (λy H2=>y= .int (-1)/\H2=H1) I1 ⟨1,rfl,rfl,rfl⟩) λvs s2 bB=>?_;let⟨y,H2,I2,r2,ey,eH⟩:=bB;subst ey;subst eH;let⟨t,rfl⟩:=r2;have I4:Inv X pins σ H2 {s2 with heap:=s2.heap.push {cls:= .type "slice",data:= .fields #[.none,.none,.int (-1) t]}}:=I2.kept (t':=s2.toks) λb ob q=>z1a _ q;let⟨its,rv,ht,hz⟩:=I4.list hq;have hlen:=rv.length;show afS (model X.prog X.w) X.A (aj8 e (.Slice none none (some (.UnaryOp .USub (.Constant (.int 1) kk p3) p4)) p2) (.ref a) (.ref s2.heap.objs.size)) (EP X pins σ Q) X.xe {s2 with heap:=s2.heap.push {cls:= .type "slice",data:= .fields #[.none,.none,.int (-1) t]}};show tail_any (ops:=[.ref a,.ref s2.heap.objs.size]) ht.isList.typeIs slot_list_getitem.lookup (wpAny_getItem_list_slice ht.isList (ajY ..) .none .none (.int (-1) t) () ?_ (by rw[z1c];omega)) (by with_unfolding_all rfl);rw[PySem.W.krv_pick];show⟨.ref _,_,I4.laid (t':=s2.toks) (o:= .lst xs.reverse) (λb ob q=>z1a _ q) (z0g _) ?_,rfl,q _ (I4.hok.fresh (z0g _))⟩;show⟨by rw[List.length_reverse];show hz,its.reverse,0,Vals.rev rv,(by have e:its.toArray.toList.reverse=its.reverse:=();rw[e];show z1f _ rfl)⟩
def ae1:D->R D
 | .lst ds=> .ok (.lst ds.reverse)
 |_=> .bad
def Qm(f:ao->R D):ao->R D:=λρ=>(f ρ).bind ae1
theorem ab2{kk}(he:DE X e f):DE X (.Subscript e (.Slice none none (some (.UnaryOp .USub (.Constant (.int 1) kk p3) p4)) p2) pos) (Qm f):=by
 show PE.imp (ab1 he) λσ H Q h=>?_;let⟨ρ,O,j,h⟩:=h;show go j h λd v H1 e1 s1 r1 j1 h1=>?_;cases d with
 | lst ds=>
  let⟨a,xs,rfl,hq,hn,rs⟩:=r1.lst;show⟨a,xs,rfl,hq,λp hp=>h1 _ _ (Same.upd hp) (Rep.o7 hp (j1.tE hp) rs.reverse)⟩
 |_=>show h1.elim
def YF(i:Nat)(f:ao->R D):ao->R D:=λρ=>match ρ[i]? with
 |some (some (.lst ds))=>(f ρ).bind λd=>bQ (.lst ds) d
 |_=> .bad
theorem adU(i:Nat){x:Str}{px:Pos}(hb:DE X e f)(hs:PlainIx e:=by show λ_ _=>rfl)(hN:X.N[i]?=some x:=by rfl)(hv:Vis X.env.scope x:=by first |show agp rfl |show aga (agp rfl) |show aga (aga rfl))
  (hd:(x ==("__debug__" :Str))=false:=by decide)(hcd:(x ==("__classdict__" :Str))=false:=by decide):DE X (.Subscript (.Name x px) e pos) (YF i f):=by
 show PE.imp (pe_ix ix_seq (pe_var hN hv hd hcd) hb hs) λσ H Q h=>?_;let⟨ρ,O,j,h⟩:=h;unfold YF at h;split at h
 .rename_i ds q;let⟨v,hv1,a,xs,rfl,hO,hH,rs⟩:=j.env.get i _ q;show⟨.ref a,hv1,?_⟩;show go j h λd y H1 e1 s1 r1 j1 h1=>?_;cases d with
  | int k=>
   have h':good X (rD X) O (match L2.atI ds k with |some d=>R.ok d |none=>R.bad) σ H1 Q:=h1;cases e2:L2.atI ds k with
   |none=>rw[e2] at h';show h'.elim
   | some d=>
    rw[e2] at h';let⟨v,e3,rv⟩:=(rs.same s1).atI e2;show .inl ⟨a,xs,k,v,rfl,r1.int,SqL.of (s1 _ _ hH),e3,fin h' rv⟩
  |_=>show h1.elim
 .show h.elim
end
section
variable{X:Cx}{pos:Pos}
def Rj(i k:Nat):ao->So:=λρ=>match ρ[i]?,ρ[k]? with
 |some (some (.lst ds)),some (some (.lst es))=>if ds.length<1000000 then .nx ((ρ.set i (some (.lst (ds++[.lst es])))).set k (some (.val (.lst es)))) else .bad
 |_,_=> .bad
theorem At.give{H0:Hp}(j:At X H0 O0 O H ρ σ){es:List D}{b:afK}(hk:ρ[k]?=some (some (.lst es)))(hb:σ[k]?=some (some (.ref b))):
  At X H0 O0 (λa=>O a/\a≠b) H (ρ.set k (some (.val (.lst es)))) σ/\cT X.K O H (λa=>O a/\a≠b) H:=by
 let⟨hH0,hO0⟩:=j.mine k _ b hk rfl hb;have rc:cT X.K O H (λa=>O a/\a≠b) H:=⟨⟨λ_ _ z=>z,λ_ _ _ z=>z,λ_ _ _ _ _ z=>z⟩,λa z=> .inl z.1,λ_ z=>z⟩;have hkl:k<ρ.length:=(z1b hk).1;let⟨v,hv,b',xs,e1,hO,hH,rs⟩:=j.inn.env.get k _ hk;rw[hb] at hv;cases hv;cases e1;have un:∀{m:Nat} {x:Ent},(ρ.set k (some (.val (.lst es))))[m]?=some (some x)->x.own=true->ρ[m]?=some (some x):=λ{m x} h ho=>by
  by_cases hmk:m=k
  .subst hmk;rw[z2a hkl] at h;cases h;cases ho
  .rw[z1e (afT hmk)] at h;show h
 show⟨⟨j.same,j.cI.trans rc,λa z=>⟨j.sub a z,λe=>hO0 (e▸z)⟩,⟨⟨λm e q=>?_,λm l e e' u hml hm hl om ol sm sl=>?_,λm l e e' u u' r hml hm sm ha hl ol sl=>?_⟩,λa z=>j.inn.al a z.1,j.inn.len,by rw[agM];show j.inn.iH⟩,λm e a q ho hs=>?_,λm e v r q hs ha=>?_⟩,rc⟩
 .by_cases hmk:m=k
  .subst hmk;rw[z2a hkl] at q;cases q;show⟨_,hb,lD (SqL.of hH) (λz=>z.2 rfl) (rs.go rc)⟩
  .rw[z1e (afT hmk)] at q;let⟨v,q1,q2⟩:=j.inn.env.get m e q;show⟨v,q1,q2.keep rc (λ_ _ _ z=>z) λc oe w=>⟨rfl,λoc=>⟨oc,λz=>?_⟩⟩⟩;subst z;rcases w with w |w
   .subst w;show j.inn.env.sep m k _ _ _ hmk q hk oe rfl q1 hb
   .show (j.inn.env.jY m k e _ v _ _ hmk q q1 w hk rfl hb).1 rfl
 .show j.inn.env.sep m l e e' u hml (un hm om) (un hl ol) om ol sm sl
 .show j.inn.env.jY m l e e' u u' r hml (un hm ha.own) sm ha (un hl ol) ol sl
 .by_cases hmk:m=k
  .subst hmk;rw[z2a hkl] at q;cases q;cases ho
  .rw[z1e (afT hmk)] at q;show j.mine m e a q ho hs
 .show j.jB m e v r (un q ha.own) hs ha
theorem ab3(i k:Nat){x:Str}{px py apos cpos:Pos}(hik:i≠k)(hN:X.N[i]?=some x:=by rfl)(hNk:X.N[k]?=some y:=by rfl)(hv:Vis X.env.scope x:=by first |show agp rfl |show aga (agp rfl) |show aga (aga rfl))(hvk:Vis X.env.scope y:=by first |show agp rfl |show aga (agp rfl) |show aga (aga rfl))
  (hd:(x ==("__debug__" :Str))=false:=by decide)(hcd:(x ==("__classdict__" :Str))=false:=by decide)(hdk:(y ==("__debug__" :Str))=false:=by decide)(afu:(y ==("__classdict__" :Str))=false:=by decide)
  (hbase:ahK (.Name x px) "append" X.env (eval (.Name x px) X.env)=eval (.Name x px) X.env:=by rfl)
  (hfew:((ago cpos (afP [.Name y py] X.env)).all (λx=> !x.1) && (agW cpos (agz [] X.env)).all (λx=>x.1.isSome)
   && decide ([Expr.Name y py].length+([]:List ahW).length+(if ([]:List ahW).isEmpty then 0 else 1)<30))=true:=by rfl)
  (hline:(apos.endLine ==cpos.line)=true:=by rfl) (hs1:afP [.Name y py] X.env=(false,eval (.Name y py) X.env)::afP [] X.env:=by rfl) (hplain:(ago cpos (afP [] X.env)).any (·.1)=false:=by rfl)
  (hs:ag6 (.Call (.Attribute (.Name x px) "append" apos) [.Name y py] [] cpos) none pos.line X.env=pure false:=by rfl):
  DS X (.Expr (.Call (.Attribute (.Name x px) "append" apos) [.Name y py] [] cpos) pos) (Rj i k):=by
 show PS.imp (ps_expr (pe_bm akL akE akF mt_append (pe_var hN hv hd hcd) (pa_cons (pe_var hNk hvk hdk afu) pa_nil hs1) hbase hfew hline hs1 hplain) hs) λσ H E h=>?_;let⟨H0,O0,O,ρ,j,h⟩:=h;unfold Rj at h;split at h
 .rename_i ds es q1 q2;by_cases hl:ds.length<1000000
  .rw[z9p hl] at h;let⟨v,hv1,a,xs,rfl,hO,hH,rs⟩:=j.inn.env.get i _ q1;let⟨v,hv2,b,ys,rfl,hO2,hH2,Ik⟩:=j.inn.env.get k _ q2;have hab:a≠b:=λz=>j.inn.env.sep i k _ _ _ hik q1 q2 rfl rfl hv1 (by rw[z];show hv2);show⟨.ref a,hv1,.inl ⟨rfl,xs,SqL.of hH⟩,.ref b,hv2,?_⟩;have hlen:=rs.length;show⟨a,xs,.ref b,rfl,rfl,hH,by have:=dW;omega,?_⟩;let⟨j1,r1⟩:=j.give q2 hv2;have q1':(ρ.set k (some (.val (.lst es))))[i]?=some (some (.lst ds)):=by rw[z1e (afT hik)];show q1
   let⟨j2,r2⟩:=j1.chg (o:= .lst (xs++[.ref b])) (en:= .lst (ds++[.lst es])) q1' rfl hv1 ⟨hO,hab⟩ hH trivial rfl λr=>⟨a,xs++[.ref b],rfl,⟨hO,hab⟩,upd_same,by
    have z1:aM X.K (λc=>O c/\c≠b) H (ds++[.lst es]) (xs++[.ref b]):=(rs.go r1).append (.cons (lD (SqL.of hH2) (λz=>z.2 rfl) (Ik.go r1)) .nil);show z1.go r⟩
   rw[List.set_comm _ _ (afT hik)] at j2;show h _ _ _ j2 (r1.trans r2)
  .rw[z9n hl] at h;show h.elim
 .show h.elim
end
section
open PySem
theorem Wt(l b:afK)(items:Array afL)(n:Nat)(items2:Array afL)(n2:Nat)(dd:Option afK)(sl:Array (Option afL))(hs0:¬(!items.isEmpty && ahn (items.size+items2.size))=true)(hs1:items.size<=sizeLine)(hs2:items.size+items2.size<=sizeLine+1):
  Meets (ahg.«list.__iadd__» ⟨[.ref l,.ref b],[]⟩) (λ_ R s=>s.heap.get? l=some {cls:= .type "list",dict:=none,data:= .seq items n,slots:= #[]}/\s.heap.get? b=some {cls:= .type "list",dict:=dd,data:= .seq items2 n2,slots:=sl}/\R (.ok (.ret (af0 l))) {s with heap:=s.heap.update l (ahx λx=>x++items2),toks:=s.toks}):=
 .of_wp λprog w A R s h=>by
  let⟨hp,g,d,tk,os⟩:=s;let⟨hl,hb,h⟩:=h;have f1:=akJ;have f2:=AutoSeq1.sub_tuple_tuple;have f3:=AutoSeq1.sub_list_list;have f4:=AutoSeq1.sub_tuple_list;have f5:=AutoSeq1.sub_list_tuple;
  have hz':(items++items2).size<=sizeLine+1:=by rw[Array.size_append];show hs2
  wp_walk using (wpAny_updateSeq hl rfl (hz:=hs1) (_hz':=hz')),aht hl,aht hb;show⟨_,rfl,h⟩
end
section
variable{X:Cx}{e:afV}{f:ao->R D}{pos:Pos}
theorem ab4:PIp X .Add (λx y H Q=>∃a b xs ys,x= .ref a/\y= .ref b/\H a=some (.lst xs)/\SqL X.K H b ys/\xs.length+ys.length<=1000000/\Q (.ref a) (upd H a (.lst (xs++ys)))):=by
 intro pins s σ H x y v u Q I rx ry h;let⟨a,b,xs,ys,rfl,rfl,ha,hb,hz,q⟩:=h;cases rx;cases ry;let⟨its,n,r,ho,hzl⟩:=I.lst ha;let⟨its2,r2,p2,hz2⟩:=I.list hb;let⟨⟨cls2,dd2,data2,sl2⟩,ho2,hc2,n2,hd2⟩:=id p2.isList;simp only at hc2 hd2;subst hc2 hd2;have l1:=r.length;have l2:=r2.length;have hsl:=dW;have hT:s.TypeIs (.ref a) "list" :=⟨_,ho,rfl⟩;have hT2:s.TypeIs (.ref b) "list" :=⟨_,ho2,rfl⟩;unfold inplaceOp;show aho ?_;have hfi:fillsInplaceSlot (.type "list") "add" (Operator.Add == .Add)=pure false:=by
  unfold fillsInplaceSlot;show (typeLookup (.type "list") (dunderI "add") >>=λfi=>pure (fi.isSome && !isSeqSlot fi))=pure false;rw[ajh.lookup,pure_bind,show isSeqSlot (some (.builtin "list.__iadd__"))=true from by decide +kernel];rfl
 show aft (ai1 hT (aft (ahE hfi ?_)));show afS _ _ (if false=true then _ else _) _ _ s;rw[z9n af6];show aft (binaryOp1_none (nm:= "add") hT hT2 PySem.noFill_list_add ?_);show aft (ahE (akI (T:= "list") (name:=dunderI "add") (id:= "list.__iadd__") ajh.lookup {}) ?_);show aft (ahG ?_);show aiK ajh hT PySem.F.entry_list_iadd (PySem.F.args_list_iadd_2 _ _) (Wt a b its.toArray n its2.toArray n2 dd2 sl2 ?_ (by rw[z1c];omega) (by rw[z1c,z1c];omega)) ⟨ho,ho2,?_⟩
 .rw[z1c,z1c];have:ahn (its.length+its2.length)=false:=by unfold ahn;show z9f ()
  rw[this];simp
 .show⟨.ref a,upd H a (.lst (xs++ys)),I.lset (its':=its++its2) ha ho () (r.append r2) (by rw[z1d];omega),rfl,q⟩
def G9(i:Nat)(f:ao->R D):ao->So:=λρ=>match ρ[i]? with
 | some (some (.lst ds))=>kh (zU (f ρ)) ρ λd=>match d with
  | .lst es=>if ds.length+es.length<=1000000 then .nx (ρ.set i (some (.lst (ds++es)))) else .bad
  |_=> .bad
 |_=> .bad
theorem Vq(i:Nat){x:Str}(hN:X.N.Nodup)(he:DE X e f)(hi:X.N[i]?=some x:=by rfl)(hx:Loc X.env.scope x:=by first |show agp rfl |show aga rfl)
  (hf:X.fn x=true\/X.env.scope.names.lookup x=some .local:=by first |show .inl rfl |show .inr rfl):DS X (.AugAssign (.Name x pos') .Add e pos) (G9 i f):=by
 show PS.imp (ps_aug hN hi hx he ab4 hf) λσ H E h=>?_;let⟨H0,O0,O,ρ,j,h⟩:=h;unfold G9 at h;split at h
 .rename_i ds q;let⟨v,hv1,a,xs,rfl,hO,hH,rs⟩:=j.inn.env.get i _ q;show⟨.ref a,hv1,ρ,O,j.inn,?_⟩;unfold kh at h;cases e1:f ρ with
  |bad=>rw[e1] at h;show h.elim
  |err c=>rw[e1] at h;show h.elim
  | ok d =>
   rw[e1] at h;intro w H1 s1 rw1;cases d with
   | lst es=>
    have h:qG X H0 O0 O H E (if ds.length+es.length<=1000000 then .nx (ρ.set i (some (.lst (ds++es)))) else .bad):=h;by_cases hl:ds.length+es.length<=1000000
    .rw[z9p hl] at h;have j1:=j.grow s1;let⟨b,ys,rfl,hb,hnb,Ik⟩:=rw1.lst;have rs1:=rs.same s1;have hH1:=s1 _ _ hH;show⟨a,b,xs,ys,rfl,rfl,hH1,hb,by rw[<-rs1.length,<-Ik.length];show hl,?_⟩;let⟨j2,r2⟩:=j1.chg (o:= .lst (xs++ys)) (en:= .lst (ds++es)) q rfl hv1 hO hH1 trivial rfl λr=>⟨a,xs++ys,rfl,hO,upd_same,(rs1.append Ik).go r⟩;have eσ:σ.set i (some (V.ref a))=σ:=by
      apply ajb;intro m;by_cases hm:m=i
      .subst hm;rw[z2a (z1b hv1).1,hv1]
      .rw[z1e (afT hm)]
     rw[eσ];show h _ _ _ j2 ((Same.cI s1).trans r2)
    .rw[z9n hl] at h;show h.elim
   |_=>show h.elim
 .show h.elim
end
def Its(lo:Int)(n:Nat)(c:Int):It:=⟨λi _=>i<n,λi H x H'=>H'=H/\x= .int (lo+i*c),λi _=>n<=i⟩
theorem YG(it:afK)(lo:Int)(n:Nat)(c:Int):Turn P w K tg (Its lo n c) [it] it (λi h=>ajT h it (lo+(i:Nat)*c) ((n:Int) - (i:Nat)) c) where
 mem:=()
 obj :=λi h st b hb=>by
  have e:b=it:=by simpa using hb
  subst e;show⟨_,st,λv z=>by
   have z':ajU _=aiD v:=z;cases z'⟩
 keep:=λi h h' st k=>k it () _ st
 item:=by
  intro X hP hw hK hc i pins s σ H E I hf st hg;subst hP hw hK;let⟨f0,f1,f2,f3,f4,f5⟩:=hf it ();have W:=Walks.range (prog:=X.prog) (w:=X.w) (I.ok.hd hc) it lo c n;show W.item i s _ _ hg st λv h' tk hv st' kk=>?_;let⟨t,rfl⟩:=hv;have I1:Inv X pins σ H {s with heap:=h',toks:=tk}:=I.turned (λb o hb e=>kk b o (by simpa using hb) e) f0 f1 f3 f4 f5;show⟨_,rfl,go_of (s:={s with heap:=h',toks:=tk}) (n:= "range_iterator") st' rfl rfl {} ⟨.int (lo+i*c),H,I1,⟨t,rfl⟩,⟨rfl,rfl⟩,st',λb hb=>(hf b hb).1⟩⟩
 done:=by
  intro X hP hw hK hc i pins s σ H E I hf st hg;subst hP hw hK;let⟨f0,f1,f2,f3,f4,f5⟩:=hf it ();show wpAny_pyNext_range_end (I.ok.hd hc) st (by have:n<=i:=hg;omega) λh' eb=>⟨rfl,I.turned (t':=s.toks) (λb o hb e=>eb b o hb e) f0 f1 f3 f4 f5⟩
 self:=λ_ _ _ _ _ st h=>ajc st h
def Br(hi:Int)(n:Nat):List D:=(afR n).map λ(i:Nat)=>D.int (hi - (i:Int))
theorem YR.step(hi:Int)(n:Nat):YR K O H (Its hi n (-1)) (Br hi n):=by
 intro O' H' _;intro i;show⟨λd e=>?_,λe=>?_⟩
 .unfold Br at e;rw[z2b] at e;cases q:(afR n)[i]? with
  |none=>rw[q] at e;cases e
  | some k=>
   rw[q] at e;have hk:i<n/\i=k:=by simpa[agr] using (z1b q)
   let⟨h1,rfl⟩:=hk;cases e;show⟨h1,λx H2 y=>?_⟩;let⟨rfl,rfl⟩:=y;show⟨Same.refl _,by rw[show hi+(i:Int)*(-1)=hi - (i:Int) by omega];show cg _⟩
 .show n<=i;unfold Br at e;simpa using e
section
variable{X:Cx}{tg a b c:afV}{p pos p2 pos2:Pos}{fa:ao->R (List D)}{ta:TA}
def afD:List D->R (List D)
 |[.int i,.int j,.int k]=>if k= -1/\-(2^62)<=i/\i<2^62/\-(2^62)<=j/\j<2^62 then .ok (Br i (i - j).toNat) else .bad
 |_=> .bad
end
section
variable{prog:afZ}{w:af4}{A:af5}{E:afL->afN->Prop}{s:afN}
theorem Jf(r:afK)(j:Int)(t u v:Tok)(h0:0<=j)(h1:j<=1000):Meets (ahg.«range.__reversed__» ⟨[.ref r],[]⟩) (λ_ R s=>IsRange s.heap r 0 j 1 t u v/\R (.ok (.ret (.ref s.heap.objs.size))) {s with heap:=s.heap.push {cls:= .type "range_iterator",data:= .fields #[agN (j - 1),agN j,agN (-1)]}}):=
 .of_wp λprog w A R s h=>by
  let⟨hp,g,d,tk,os⟩:=s;let⟨hr,h⟩:=h;have e1:ai7 0 j 1=j:=by rw[rangeSize_one];split <;> omega
  have e2:(ag1 0 && ag1 j && ag1 1 && ag1 (-1) && ag1 (0 - 1) && ag1 j)=true:=by
   simp only[ag1,agY,decide_eq_true_eq];omega
  have e3:(0:Int)+(j - 1)*1=j - 1:=()
  unfold ahg.«range.__reversed__» Builtin.Range.rangeFields
  wp_walk using aht hr
  rw[e1];simp only[e2,e3,ajj,agO,if_false,if_true];unfold newFields;show aft (aha (afQ ⟨_,rfl,h⟩) (by size_fits))
theorem Jg:isSubtype (.type "range_iterator") (.type "reversed")=pure false:=by rw[isSubtype_type];kernel_rfl
theorem KN{r:afK}{j:Int}{t u v:Tok}{Q₁:afL->afN->Prop}(h0:0<=j)(h1:j<=1000)(hr:IsRange s.heap r 0 j 1 t u v)
  (h:Q₁ (.ref s.heap.objs.size) {s with heap:=s.heap.push {cls:= .type "range_iterator",data:= .fields #[agN (j - 1),agN j,agN (-1)]}}):
  ai4 (model prog w) A (.call (.builtin "reversed.__new__") ⟨[.type "reversed",.ref r],[]⟩) (wants Q₁ E) s:=by
 have hT:s.TypeIs (.ref r) "range" :=⟨_,hr,rfl⟩;show codeAny_of_tree ?_;show afS _ A.in1 (do ajp "reversed.__new__" ⟨[.type "reversed",.ref r],[]⟩;again (.builtin "reversed.__new__" ⟨[.type "reversed",.ref r],[]⟩)) _ _ s;show aft (ahE (PySem.F.newCall_reversed_1 _) (afQ ⟨plainId_quiet akc _,codeAny_builtin PySem.F.entry_reversed_new ?_⟩));rw[Around.under_plainId akc _];unfold ahg.«reversed.__new__»;show aft (ahE (newClass_reversed _) ?_)
 try dsimp only
 show aft (ahE (a:=Unit.unit) (by first |rfl |kernel_rfl) ?_);show aft (ahE (a:=Unit.unit) (by first |rfl |kernel_rfl) ?_)
 try dsimp only
 show aft (wpAny_specialOf hT aiF.lookup ?_)
 try dsimp only
 show aft (ahE (aiF.bind _) ?_)
 try dsimp only
 first
 |rw[z9n (show ¬((ahA "range.__reversed__" ==agi)=true) from af6)]
 |(show afS _ _ (if (ahA "range.__reversed__" ==agi)=true then _ else _) _ _ _;rw[z9n (show ¬((ahA "range.__reversed__" ==agi)=true) from af6)])
 show aft (ahG ?_);show aft (m:=runValue (.call (.builtin "range.__reversed__") ⟨[.ref r],[]⟩)) (show afS _ _ (call (.builtin "range.__reversed__") [.ref r]) _ _ _ from aiK aiF hT PySem.F.entry_range_reversed (PySem.F.args_range_reversed_1 _) (Jf r j t u v h0 h1) ⟨hr,?_⟩)
 first
 |show afQ h
 |show aft (afQ (afQ h))
theorem KQ{r:afK}{j:Int}{t u v:Tok}(h0:0<=j)(h1:j<=1000)(hr:IsRange s.heap r 0 j 1 t u v)
  (h:Q (.ref s.heap.objs.size) {s with heap:=s.heap.push {cls:= .type "range_iterator",data:= .fields #[agN (j - 1),agN j,agN (-1)]}}):afS (model prog w) A (call (.type "reversed") [.ref r]) Q E s:=by
 show callType_other (U:= "range_iterator") (Q₁:=λobj s₁=>obj= .ref s.heap.objs.size/\s₁={s with heap:=s.heap.push {cls:= .type "range_iterator",data:= .fields #[agN (j - 1),agN j,agN (-1)]}}) {} PySem.F.create_reversed ⟨_,_,PySem.F.mro_reversed⟩ PySem.F.made_reversed Jg (PySem.F.typeCall_reversed_1 _) (KN h0 h1 hr ⟨rfl,rfl⟩) ?_
 rintro obj s₁ ⟨rfl,rfl⟩
 show⟨⟨_,z1f _ rfl,rfl⟩,h⟩
end
section
variable{X:Cx}{tg a:afV}{p pos p2 pos2:Pos}{fa:ao->R (List D)}
def Rk:List D->R (List D)
 |[.int j]=>if 0<=j/\j<=1000 then .ok (Br (j - 1) j.toNat) else .bad
 |_=> .bad
theorem ab5(hg:Gl X "reversed")(hm:X.mg "reversed" =none)(hg2:Gl X "range")(hm2:X.mg "range" =none)(ha:DA X [a] fa)(hs:afP [a] X.env=[(false,eval a X.env)]:=by rfl)
  (he:afP [.Call (.Name "range" p2) [a] [] pos2] X.env=(false,eval (.Call (.Name "range" p2) [a] [] pos2) X.env)::afP [] X.env:=by rfl)(hpl:(ago pos (afP [] X.env)).any (·.1)=false:=by rfl):
  DI X tg (.Call (.Name "reversed" p) [.Call (.Name "range" p2) [a] [] pos2] [] pos) (λρ=>(fa ρ).bind Rk):=by
 intro pins s σ H R I h;have A:=pa_cons (adE (p:=p2) (pos:=pos2) hg2 hm2 ha hs) pa_nil he;let⟨ρ,O,jn,h⟩:=h;have key:tCons (adD X.K (tG X (wM X) fa)) tNil σ H (λvs H1=>∃q j,vs=[.ref q]/\H1 q=some (.rng 0 j)/\0<=j/\j<=1000/\R (Its (j - 1) j.toNat (-1)) H1):=by
  show go jn h λds vs H1 e1 s1 r1 j1 h1=>?_;unfold Rk at h1;split at h1
  .rename_i j;by_cases hh:0<=j/\j<=1000
   .rw[z9p hh] at h1;let⟨v,rfl,w⟩:=r1.one;show⟨j,by rw[w.int],hh.1,hh.2,λq hq=>⟨q,j,rfl,upd_same,hh.1,hh.2,h1 _ _ (Same.upd hq) (YR.step _ _)⟩⟩
   .rw[z9n hh] at h1;show h1.elim
  .show h1.elim
 show Call_ (ld_blt I hg hm boot_reversed (agK (thn (A pos pins s σ H _ I key) λus s1 ⟨vs,H1,I1,r1,q1⟩=>?_) he hpl));let⟨q,j,e,hq,h0,h1,q⟩:=q1;subst e;cases r1 with
 | cons r rr=>
  cases rr;cases r;let⟨t,u,v,hr⟩:=I1.hok _ _ hq;show KQ h0 h1 hr ?_;have hit:ajT (s1.heap.push {cls:= .type "range_iterator",data:= .fields #[agN (j - 1),agN j,agN (-1)]}) s1.heap.objs.size (j - 1) j (-1):=z1f _ rfl;show ajc (s:={s1 with heap:=s1.heap.push {cls:= .type "range_iterator",data:= .fields #[agN (j - 1),agN j,agN (-1)]}}) hit ?_;show⟨s1.heap.objs.size,[s1.heap.objs.size],_,_,H1,rfl,I1.kept (t':=s1.toks) λb o e=>z1a _ e,YG _ (j - 1) j.toNat (-1),?_,λb hb=>?_,q⟩
  .show ajT _ _ (j - 1+((0:Nat):Int)*(-1)) (((j.toNat:Nat):Int) - ((0:Nat):Int)) (-1);rw[show j - 1+((0:Nat):Int)*(-1)=j - 1 by simp,show ((j.toNat:Nat):Int) - ((0:Nat):Int)=j by omega];show hit
  .have e:b=s1.heap.objs.size:=by simpa using hb
   subst e;show I1.fpOk (z0g _) (I1.hok.fresh (z0g _))
end
end Pu
namespace Pu
open PySem PySem.Spec PySem.W L2
open PyProof.Rows hiding St
variable{a:afK}{ts:List (List Int)}{ns:List Int}
def f9:List Int->List Int->Bool
 |[],[]=>false
 |[],_::_=>true
 |_::_,[]=>false
 |x::xs,y::ys=>if x=y then f9 xs ys else decide (x<y)
theorem sZ:∀a:List Int,f9 a a=false
 |[]=>rfl
 |x::xs=>by rw[f9,z9p rfl];show sZ xs
theorem nD:∀{a b c:List Int},f9 a b=true->f9 b c=true->f9 a c=true
 |[],[],_,h,_=>by cases h
 |[],_::_,[],_,h=>by cases h
 |[],_::_,_::_,_,_=>rfl
 |_::_,[],_,h,_=>by cases h
 |_::_,_::_,[],_,h=>by cases h
 | x ::a,y::b,z::c,h1,h2=>by
  rw[f9] at h1 h2 |-;by_cases e1:x=y
  .rw[z9p e1] at h1;subst e1;by_cases e2:x=z
   .rw[z9p e2] at h2 |-;show nD h1 h2
   .rw[z9n e2] at h2 |-;show h2
  .rw[z9n e1] at h1;have h1:x<y:=z9o h1;by_cases e2:y=z
   .subst e2;rw[z9n e1];show z9t h1
   .rw[z9n e2] at h2;have h2:y<z:=z9o h2;rw[z9n ()];show z9t ()
theorem Fd:∀{a b:List Int},a≠b->f9 a b=false->f9 b a=true
 |[],[],h,_=>absurd rfl h
 |[],_::_,_,h=>by cases h
 |_::_,[],_,_=>rfl
 | x ::a,y::b,h,e=>by
  rw[f9] at e |-;by_cases e1:x=y
  .subst e1;rw[z9p rfl] at e |-;show Fd (λz=>h (by rw[z])) e
  .rw[z9n e1] at e;rw[z9n (λz=>e1 z.symm)];have e:¬x<y:=of_decide_eq_false e;show z9t ()
section
variable{prog:afZ}{w:af4}{A:af5}{E:afL->afN->Prop}{s:afN}
theorem Ua{b:afK}{oa ob:Obj}{xs ys:Array afL}{na nb:Nat}{ms:List Int}{P:PySem.Fin->afN->Prop}(hoa:s.heap.get? a=some oa)(hda:oa.data= .seq xs na)(hob:s.heap.get? b=some ob)(hcb:ob.cls= .type "tuple")(hdb:ob.data= .seq ys nb)
  (hia:aib xs.toList ns)(hib:aib ys.toList ms)(h:P (.done (.ret (.bool (f9 ns ms)))) s):
  afS (model prog w) A (ahg.«tuple.__lt__» ⟨[.ref a,.ref b],[]⟩) P E s:=by
 have hTb:s.TypeIs (.ref b) "tuple" :=⟨ob,hob,hcb⟩;show afS _ _ (isInstance (.ref b) (.type "tuple") >>=_) _ _ s;show aft (ajn hTb isSubtype_tuple_tuple ?_);simp only[ajj,agO,if_false];show aft (wpAny_tupleItemsOf hoa hda ?_);show aft (wpAny_tupleItemsOf hob hdb ?_);show aft ?_;show wpAny_forIn_list _
  (λrest r s'=>r.1=none/\s'=s/\∃xs' ys' ns' ms',rest=List.zip xs' ys'/\aib xs' ns'/\aib ys' ms'/\f9 ns' ms'=f9 ns ms/\decide (xs'.length<ys'.length)=decide (xs.size<ys.size))
  _ ?_ ?_ _ _ ⟨rfl,rfl,xs.toList,ys.toList,ns,ms,rfl,hia,hib,rfl,()⟩
 .rintro ⟨u,v⟩ rest r s' ⟨hr,rfl,xs',ys',ns',ms',hz,hx',hy',hdec,hlen⟩
  cases hx' with
  |nil=>simp at hz
  | cons k1 t1 hx''=>
   cases hy' with
   |nil=>simp at hz
   | cons k2 t2 hy''=>
    simp only[List.zip_cons_cons,List.cons.injEq,Prod.mk.injEq] at hz;let⟨⟨rfl,rfl⟩,rfl⟩:=hz;show aft (wpAny_eqBool_int ?_);rw[f9] at hdec;by_cases hk:k1=k2
    .subst hk;rw[z9p rfl] at hdec;simp only[beq_self_eq_true,ajj,agO,if_false];show afQ ⟨rfl,rfl,_,_,_,_,rfl,hx'',hy'',hdec,by simpa using hlen⟩
    .rw[z9n hk] at hdec;have e:(k1 ==k2)=false:=by simpa using hk
     rw[e];simp only[Bool.not_false,if_true];rw[<-hdec] at h;show aft (ahG ?_);show aft (m:=richCompare .Lt (.int k1 t1) (.int k2 t2)) (show afS _ _ (agn .Lt (.int k1 t1) (.int k2 t2)) _ _ _ from lt_int ?_)
     first
      |show afQ (afQ h)
      |show aft (afQ (afQ (afQ h)))
      |show aft (afQ (afQ h))
 .rintro⟨r1,r2⟩ s' ⟨hr,rfl,xs',ys',ns',ms',hz,hx',hy',hdec,hlen⟩
  simp only at hr;subst hr;show afQ ?_;have hfin:decide (xs.size<ys.size)=f9 ns ms:=by
   rw[<-hdec,<-hlen];cases hx' with
   | nil=>
    cases hy' with
    |nil=>rfl
    |cons _ _ _=>simp[f9]
   | cons _ _ _=>
    cases hy' with
    |nil=>simp[f9]
    |cons _ _ _=>simp at hz
  show P (.done (.ret (.bool (decide (xs.size<ys.size))))) s';rw[hfin];show h
theorem ab6{b:afK}{oa ob:Obj}{xs ys:Array afL}{na nb:Nat}{ms:List Int}{Q:afL->afN->Prop}(hu:A.units<ahH)(hoa:s.heap.get? a=some oa)(hca:oa.cls= .type "tuple")(hda:oa.data= .seq xs na)(hob:s.heap.get? b=some ob)(hcb:ob.cls= .type "tuple")(hdb:ob.data= .seq ys nb)
  (hia:aib xs.toList ns)(hib:aib ys.toList ms)(h:Q (.bool (f9 ns ms)) s):afS (model prog w) A (agn .Lt (.ref a) (.ref b)) Q E s:=by
 show afS _ _ (richCompare .Lt (.ref a) (.ref b)) _ _ _;show wpAny_richCompare_same_room (op:= .Lt) ⟨oa,hoa,hca⟩ ⟨ob,hob,hcb⟩ ak0
   (agT ak0 ⟨oa,hoa,hca⟩ PySem.F.entry_tuple_lt (Ua hoa hda hob hcb hdb hia hib ⟨_,rfl,(λe=>nomatch e),h⟩) (PySem.F.args_tuple_lt_2 _ _)) hu
end
section
variable{X:Cx}
end
def Hf(p:List Int):List (List Int)->List (List Int)
 |[]=>[p]
 |q::r=>if f9 p q then p::q::r else q::Hf p r
def kZ:List (List Int)->List (List Int)
 |[]=>[]
 |p::r=>Hf p (kZ r)
theorem Bs(p:List Int):∀l,(Hf p l).Perm (p::l)
 |[]=> .refl _
 | q::r=>by
  unfold Hf;split
  .show .refl _
  .show ((Bs p r).cons q).trans (List.Perm.swap p q r)
theorem jz:∀l,(kZ l).Perm l
 |[]=> .refl _
 |p::r=>(Bs p _).trans ((jz r).cons p)
abbrev Jh(l:List (List Int)):Prop:=l.Pairwise λa b=>f9 a b=true
theorem Nm(p:List Int):∀{l:List (List Int)},Jh l->p∉l->Jh (Hf p l)
 |[],_,_=>by unfold Hf;simp
 | q ::r,h,hn=>by
  let⟨h1,h2⟩:=ahU.mp h;unfold Hf;by_cases e:f9 p q=true
  .rw[z9p e];show ahU.mpr ⟨λz hz=>?_,h⟩;rcases af9.mp hz with z1 |z1
   .rw[z1];show e
   .show nD e (h1 z z1)
  .rw[z9n e];have e2:f9 q p=true:=Fd (λz=>hn (by rw[z];show agl)) (by simpa using e);show ahU.mpr ⟨λz hz=>?_,Nm p h2 λz=>hn (z2f _ z)⟩;rcases af9.mp ((Bs p r).mem_iff.mp hz) with z1 |z1
   .rw[z1];show e2
   .show h1 z z1
theorem Bt:∀{l:List (List Int)},l.Nodup->Jh (kZ l)
 |[],_=> .nil
 | p::r,h=>by
  let⟨h1,h2⟩:=aiT.mp h;show Nm p (Bt h2) λz=>h1 ((jz r).mem_iff.mp z)
theorem Ji:∀{a b:List (List Int)},a.Perm b->Jh a->Jh b->a=b
 |[],b,p,_,_=>(List.nil_perm.mp p).symm
 |x::a,[],p,_,_=>absurd (List.perm_nil.mp p) ()
 | x :: a,y::b,p,ha,hb=>by
  have ha':=ahU.mp ha;have hb':=ahU.mp hb;have h1:x=y:=by
   rcases af9.mp (p.mem_iff.mp (agl (a:=x) (l:=a))) with h |h
   .show h
   .rcases af9.mp (p.mem_iff.mpr (agl (a:=y) (l:=b))) with k |k
    .show k.symm
    .have:=nD (ha'.1 y k) (hb'.1 x h);rw[sZ] at this;cases this
  subst h1;rw[Ji ((List.perm_cons x).mp p) ha'.2 hb'.2]
theorem Wu(hn:ts.Nodup){a b:Nat}(ha:a<ts.length)(hb:b<ts.length)(hab:a≠b):ts.getD a []≠ts.getD b []:=by
 simp only[akP,ahe ha,ahe hb,akC];intro z;show hab ((aks hn).mp z)
theorem ab7(hn:ts.Nodup):Ord ts.length (λi j=>f9 (ts.getD i []) (ts.getD j [])):=
 ⟨λa b c _ _ _ h1 h2=>nD h1 h2,λa b ha hb hab h=>Fd (Wu hn ha hb hab) h⟩
theorem Rn(hn:ts.Nodup){q:Array Nat}(h:Pm ts.length q)(hs:S (λi j=>f9 (ts.getD i []) (ts.getD j [])) q ts.length):q.toList.map (λi=>ts.getD i [])=kZ ts:=by
 show Ji ?_ ?_ (Bt hn)
 .have e:(afR ts.length).map (λi=>ts.getD i [])=ts:=by
   apply ajb;intro i;by_cases hi:i<ts.length
   .simp[hi]
   .simp[hi]
  have:=h.perm.map λi=>ts.getD i [];rw[e] at this;show this.trans (jz ts).symm
 .show List.pairwise_iff_getElem.mpr λi j hi hj hij=>?_;have hl:(q.toList.map λi=>ts.getD i []).length=ts.length:=by simp[h.size]
  have:=hs i j hij (by rw[<-hl];show hj);have e:∀(k:Nat) (hk:k<(q.toList.map λi=>ts.getD i []).length),(q.toList.map λi=>ts.getD i [])[k]=ts.getD (q.getD k 0) []:=λk hk=>by
   have hk':k<q.size:=by simpa using hk
   simp[ak2,hk']
  rw[e i hi,e j hj];show this
section
variable{prog:afZ}{w:af4}{A:af5}{E:afL->afN->Prop}{s:afN}
inductive nY (h:af2) (a:afK) (l c:Int) (ps:List Int):Prop
 |mk (o o2:Obj) (n n2:Nat) (t u:Tok) (p:afK) (vs:Array afL) (h1:h.get? a=some o) (h2:o.cls= .type "tuple") (h3:o.data= .seq #[.int l t,.int c u,.ref p] n) (h4:h.get? p=some o2) (h5:o2.cls= .type "tuple") (h6:o2.data= .seq vs n2) (h7:aib vs.toList ps):nY h a l c ps
theorem nY.keeps{h h':af2}{l c:Int}{ps:List Int}(x:nY h a l c ps)(k:∀b o,h.get? b=some o->o.cls= .type "tuple"->h'.get? b=some o):nY h' a l c ps:=
 by
 let⟨o,o2,n,n2,t,u,p,vs,h1,h2,h3,h4,h5,h6,h7⟩:=x;show⟨o,o2,n,n2,t,u,p,vs,k _ _ h1 h2,h2,h3,k _ _ h4 h5,h5,h6,h7⟩
theorem Hg{prog:afZ}{w:af4}:∀{vs:List afL} {ns:List Int},aib vs ns->ItemsAre (intKind prog w) ns vs
 |_,_,.nil=> .nil
 |_,_,.cons n t h=> .cons (intKind_is _ _ _ _) (Hg h)
theorem ab8{x y:afK}{l c l' c':Int}{ps qs:List Int}{Q:Bool->afN->Prop}(hu:A.units<ahH)(hx:nY s.heap x l c ps)(hy:nY s.heap y l' c' qs)(h:Q (f9 (l::c::ps) (l'::c'::qs)) s):
  afS (model prog w) A (keyLt' (tuples' true) (.ref x) (.ref y)) Q E s:=by
 let⟨o,o2,n,n2,t,u,p,vs,h1,h2,h3,h4,h5,h6,h7⟩:=hx;let⟨o',o2',n',n2',t',u',p',vs',g1,g2,g3,g4,g5,g6,g7⟩:=hy;show kat_lt h1 h3 g1 g3 ?_;show KatLex prog w A true (decide (3<3)) Q [(.int l t,.int l' t'),(.int c u,.int c' u'),(.ref p,.ref p')] 0 s;rw[f9,f9] at h;show kat_cons (ajZ l t l' t' prog w _ _ ?_);by_cases e1:l=l'
 .rw[z9p e1] at h;rw[show (l ==l')=true by simpa using e1];show kat_yes (kat_cons (ajZ c u c' u' prog w _ _ ?_));by_cases e2:c=c'
  .rw[z9p e2] at h;rw[show (c ==c')=true by simpa using e2];show kat_yes (kat_cons (wpAny_eqBool_tuple (knd:=intKind prog w) hu ⟨o2,vs,n2,h4,h5,h6,Hg h7⟩ ⟨o2',vs',n2',g4,g5,g6,Hg g7⟩ ?_));by_cases e3:ps=qs
   .rw[e3,sZ] at h;rw[z9t e3];show kat_yes (kat_nil (by simpa using h))
   .rw[z9f e3];show kat_no ?_;show afS (model prog w) A (oneLt' false _ _) Q _ s;show kat_one _ _ (ab6 hu h4 h5 h6 g4 g5 g6 h7 g7 h)
  .rw[z9n e2] at h;rw[show (c ==c')=false by simpa using e2];show kat_no ?_;show afS (model prog w) A (oneLt' false _ _) Q _ s;show kat_one _ _ (lt_int h)
 .rw[z9n e1] at h;rw[show (l ==l')=false by simpa using e1];show kat_no ?_;show afS (model prog w) A (keyLt' oneType' (.int l t) (.int l' t')) Q _ s;show kat_lt_int h
end
theorem Ro{h:af2}:∀(as:List afK),(∀a∈as,∃l c ps,nY h a l c ps)->∃fs,KatTups h (as.map af0) fs/\fs.length=as.length/\∀f∈fs,∃k t,f=aiC k t
 |[],_=>⟨[],.nil,rfl,λf hf=>by simp at hf⟩
 | a::as,hx=>by
  let⟨l,c,ps,o,o2,n,n2,t,u,p,vs,h1,h2,h3,_⟩:=hx a agl;let⟨fs,k1,k2,k3⟩:=Ro as λb hb=>hx b (z2f _ hb);show⟨.int l t::fs,KatTups.cons h1 h2 h3 rfl k1,by simp[k2],λf hf=>?_⟩;rcases af9.mp hf with z |z
  .show⟨l,t,z⟩
  .show k3 f z
section
variable{X:Cx}
def Qn(K:afM)(H:Hp)(a:afK)(ns:List Int):Prop:=∃l c ps p,ns=l::c::ps/\SqT K H a [.int l,.int c,.ref p]/\SqT K H p (ps.map V.int)
theorem ab9{pins:List (afK×Obj)}{σ:St}{H:Hp}{s:afN}(I:Inv X pins σ H s)(h:Qn X.K H a ns):∃l c ps,ns=l::c::ps/\nY s.heap a l c ps:=by
 let⟨l,c,ps,p,rfl,h1,h2⟩:=h;let⟨its,r1,⟨o,ho,hc,n,hd⟩,_⟩:=I.tuple h1;let⟨its2,r2,⟨o2,ho2,hc2,n2,hd2⟩,_⟩:=I.tuple h2;show⟨l,c,ps,rfl,?_⟩;cases r1 with
 | cons a1 r1=>
  cases r1 with
  | cons a2 r1=>
   cases r1 with
   | cons a3 r1=>
    cases r1;let⟨t,rfl⟩:=a1;let⟨u,rfl⟩:=a2;cases a3;show⟨o,o2,n,n2,t,u,p,its2.toArray,ho,hc,hd,ho2,hc2,hd2,by simpa using Vg r2⟩
theorem Wv(hu:X.A.units+2<ahH):CallR X (.builtin "sorted") (λxs H Q=>∃(a:afK) (as:List afK) (ts:List (List Int)),xs=[.ref a]/\SqL X.K H a (as.map V.ref)/\as.length=ts.length/\ts.length<64/\ts.Nodup/\(∀(i:Nat) b t,as[i]?=some b->ts[i]?=some t->Qn X.K H b t)/\
  ∀(B:afK) (bs:List afK),H B=none->bs.length=ts.length->(∀(i:Nat) b t,bs[i]?=some b->(kZ ts)[i]?=some t->b∈as/\∃j:Nat,as[j]?=some b/\ts[j]?=some t)->Q (.ref B) (upd H B (.lst (bs.map V.ref)))):=by
 intro pins s σ H xs us Q I r h;let⟨a,as,ts,rfl,hq,hl,h64,hn,ht,q⟩:=h;let⟨u,rfl,rx⟩:=vals1 r;cases rx;let⟨its,rv,pl,hz⟩:=I.list hq;have hits:its=as.map af0:=by
  have:∀(as:List afK) (its:List afL),Vals (as.map V.ref) its->its=as.map af0:=by
   intro as
   induction as with
   |nil=>intro its r;cases r;rfl
   |cons b as ih=>intro its r;cases r with |cons r1 r2=>cases r1;rw[ih _ r2];rfl
  show this as its rv
 subst hits;have lenV:(as.map af0).length=ts.length:=by rw[z1g,hl]
 show Calls.call_function_entry kind_sorted plain_sorted entry_sorted (args_sorted1 _) ?_;unfold ahg.«sorted»;show aft (m:=checkCount "sorted" 1 1 _) (afQ ?_);show aft (collect_list pl.isList ?_);show aft (wpAny_newList ?_ (by rw[lenV,ahC];omega));have hsz:((s.heap.push (aiq "list" #[] 0)).update s.heap.objs.size (ahx (· ++(as.map af0).toArray))).objs.size=s.heap.objs.size+1:=by
  rw[Heap.size_update,size_push']
 have hB:(((s.heap.push (aiq "list" #[] 0)).update s.heap.objs.size (ahx (· ++(as.map af0).toArray))).push (aiq "list" (as.map af0).toArray 0)).get? (s.heap.objs.size+1)=some (aiq "list" (as.map af0).toArray 0):=by
  rw[<-hsz];show z1f _ rfl
 show afS _ _ _ _ _ {s with heap:=((s.heap.push (aiq "list" #[] 0)).update s.heap.objs.size (ahx (· ++(as.map af0).toArray))).push (aiq "list" (as.map af0).toArray 0)};rw[hsz];have kp:∀b o,s.heap.get? b=some o->(((s.heap.push (aiq "list" #[] 0)).update s.heap.objs.size (ahx (· ++(as.map af0).toArray))).push (aiq "list" (as.map af0).toArray 0)).get? b=some o:=λb o e=>by
  show z1a _ ?_;rw[aiQ _ _ _ _ (agD (z2c e))];show z1a _ e
 have Rp:∀(i:Nat) b,as[i]?=some b->∃l c ps,ts.getD i []=l::c::ps/\nY s.heap b l c ps:=λi b e=>by
  have hi:i<ts.length:=by rw[<-hl];show (z1b e).1
  let⟨l,c,ps,e1,e2⟩:=ab9 I (ht i b ts[i] e (by simp[hi]));show⟨l,c,ps,by simp[hi,e1],e2⟩
 have bne:∀b o,s.heap.get? b=some o->b≠s.heap.objs.size+1:=λb o e=>agD (Nat.lt_succ_of_lt (z2c e));show aft (aho (agT slot_list_sort ⟨_,hB,rfl⟩ entry_list_sort (abK (lt:=λi j=>f9 (ts.getD i []) (ts.getD j [])) (kk:=tuples' true) hB (by rw[lenV];show h64) (by rw[lenV];show ab7 hn) ?kind ?ask λqq hq hqs=>⟨_,rfl,?fin⟩) (args_list_sort _)))
 case kind=>
  intro h2 h6 keep Q' hQ';let⟨fs,kt,fl,fi⟩:=Ro (h:=h6) as λb hb=>by
   let⟨i,hi⟩:=List.mem_iff_getElem?.mp hb;let⟨l,c,ps,_,e⟩:=Rp i b hi;show⟨l,c,ps,e.keeps λd o hd _=>keep d o (bne d o hd) (kp d o hd)⟩
  show kat_kind (T:= .type "int") kt (by rw[fl,hl];rw[lenV] at h2;omega) (λf hf=>by let⟨k,t,rfl⟩:=fi f hf;show .now) rfl hQ'
 case ask=>
  intro h6 keep i j C hi hj hC;rw[lenV] at hi hj;have hi':i<as.length:=()
  have hj':j<as.length:=()
  let⟨l,c,ps,e1,t1⟩:=Rp i as[i] (by simp[hi']);let⟨l',c',ps',e2,t2⟩:=Rp j as[j] (by simp[hj']);unfold kas_ask;rw[show (as.map af0).getD i agi= .ref as[i] by simp[hi'],show (as.map af0).getD j agi= .ref as[j] by simp[hj']];show ab8 ?_ (t1.keeps λd o hd _=>keep d o (bne d o hd) (kp d o hd)) (t2.keeps λd o hd _=>keep d o (bne d o hd) (kp d o hd)) ?_
  .first |show Nat.lt_of_le_of_lt () hu |(show X.A.units+_<ahH;omega)
  .rw[e1,e2] at hC;show hC
 case fin=>
  rw[lenV] at hq hqs;show afQ ⟨_,rfl,?_⟩;have hout:(qq.toList.map λi=>(as.map af0).getD i agi)=(qq.toList.map λi=>as.getD i 0).map af0:=by
   rw[agP];show ahj λi hi=>?_;have hi':i<as.length:=by rw[hl];show z2e (hq.perm.mem_iff.mp hi)
   simp[hi']
  rw[hout];let⟨cc,hFB⟩:=sortedHeap_at (vs:=as.map af0) (out:=ahT ((qq.toList.map λi=>as.getD i 0).map af0)) hB;have hf:H (s.heap.objs.size+1)=none:=I.hok.fresh (akT _);show⟨.ref (s.heap.objs.size+1),upd H (s.heap.objs.size+1) (.lst ((qq.toList.map λi=>as.getD i 0).map V.ref)),I.laid (t':=s.toks) (λb o e=>Il (bne b o e) (kp b o e)) (akT _) ?_,rfl,q _ _ hf ?_ λi b t eb et=>?_⟩
  .show⟨?_,_,cc,U8 _,hFB⟩;rw[z1g,z1g,ahM,hq.size,ahC];omega
  .rw[z1g,ahM,hq.size]
  .rw[<-Rn hn hq hqs] at et;rw[z2b] at eb et;cases ei:qq.toList[i]? with
   |none=>rw[ei] at eb;cases eb
   | some k=>
    rw[ei] at eb et;have eb:as.getD k 0=b:=agb eb;have et:ts.getD k []=t:=agb et;have hk:k<ts.length:=z2e (hq.perm.mem_iff.mp (agF ei));have hk':k<as.length:=()
    have ea:as[k]?=some b:=by simp[akP,hk'] at eb |-;show eb
    show⟨agF ea,k,ea,by simp[akP,hk] at et |-;show et⟩
end
end Pu
namespace Pu
open PySem PySem.Spec L2
open PyProof.Rows hiding St
def iZ:List Int->D
 |l::c::ps=> .tup [.int l,.int c,.tup (ps.map .int)]
 |_=> .non
def xq:D->Option (List Int)
 | .tup [.int l,.int c,.tup ps]=>(intsOf ps).map λns=>l::c::ns
 |_=>none
def pJ:List D->Option (List (List Int))
 |[]=>some []
 | d::ds=>match xq d,pJ ds with
  |some t,some ts=>some (t::ts)
  |_,_=>none
def nZ:List D->R D
 | [.lst ds]=>match pJ ds with
  |some ts=>if ts.length<64/\ts.Nodup then .ok (.lst ((kZ ts).map iZ)) else .bad
  |none=> .bad
 |_=> .bad
theorem Ww(ns:List Int):intsOf (ns.map D.int)=some ns:=by simpa using M8 (c:=λi:Int=>i) (l:=ns)
theorem Rq{l c:Int}{ps:List Int}:xq (iZ (l::c::ps))=some (l::c::ps):=by simp[iZ,xq,Ww]
section
variable{K:afM}{O:afK->Prop}{H:Hp}
theorem aaA{d:D}{v:V}{t:List Int}(e:xq d=some t)(r:Rep K O H d v):∃b,v= .ref b/\Qn K H b t/\Rep K O H (iZ t) v:=by
 unfold xq at e;split at e
 .rename_i l c ps;cases q:intsOf ps with
  |none=>rw[q] at e;cases e
  | some ns=>
   rw[q] at e;cases e;let⟨a,xs,rfl,hq,rs⟩:=r.tup;let⟨v1,v2,v3,rfl,r1,r2,r3⟩:=rs.three;have r1:=r1.int;have r2:=r2.int;subst r1 r2;let⟨p,ys,rfl,hq2,Ik⟩:=r3.tup;have e2:=Nf q Ik;subst e2;show⟨a,rfl,⟨l,c,ns,p,rfl,hq,hq2⟩,gA hq (.cons (cg l) (.cons (cg c) (.cons (gA hq2 Bj) .nil)))⟩
 .cases e
theorem Np:∀{ds:List D} {vs:List V} {ts:List (List Int)},pJ ds=some ts->aM K O H ds vs->∃as:List afK,vs=as.map V.ref/\as.length=ts.length/\∀(i:Nat) b t,as[i]?=some b->ts[i]?=some t->Qn K H b t/\Rep K O H (iZ t) (.ref b)
 | [],vs,ts,e,r=>by
  cases e;show⟨[],r.nil_inv,rfl,λi b t h=>by simp at h⟩
 | d ::ds,vs,ts,e,r=>by
  let⟨x,r',rfl,h1,h2⟩:=r.cons_inv;unfold pJ at e;split at e
  .rename_i t ts' e1 e2;cases e;let⟨b,rfl,h3,h4⟩:=aaA e1 h1;let⟨as,rfl,h5,h6⟩:=Np e2 h2;show⟨b::as,rfl,by simp[h5],λi b' t' eb et=>?_⟩;cases i with
   |zero=>simp at eb et;subst eb et;show⟨h3,h4⟩
   |succ i=>show h6 i b' t' (by simpa using eb) (by simpa using et)
  .cases e
theorem FN:∀{ds:List D} {vs:List V},ds.length=vs.length->(∀(i:Nat) d v,ds[i]?=some d->vs[i]?=some v->Rep K O H d v)->aM K O H ds vs
 |[],[],_,_=> .nil
 |[],_::_,h,_=>by simp at h
 |_::_,[],h,_=>by simp at h
 |d::ds,v::vs,h,p=> .cons (p 0 d v rfl rfl) (FN (by simpa using h) λi d' v' e1 e2=>p (i+1) d' v' (by simpa using e1) (by simpa using e2))
end
section
variable{X:Cx}
theorem Rr(hu:X.A.units+2<ahH):CallD X (.builtin "sorted") nZ:=by
 show⟨_,Wv hu,λρ O σ H Q xs ds j r h=>?_⟩;unfold nZ at h;split at h
 .rename_i es;let⟨x,rfl,rx⟩:=r.one;let⟨a,ys,rfl,hq,hna,rs⟩:=rx.lst;cases e:pJ es with
  |none=>rw[e] at h;show h.elim
  | some ts =>
   rw[e] at h;have h:good X (rD X) O (if ts.length<64/\ts.Nodup then R.ok (.lst ((kZ ts).map iZ)) else .bad) σ H Q:=h;by_cases hl:ts.length<64/\ts.Nodup
   .rw[z9p hl] at h;let⟨as,rfl,h1,h2⟩:=Np e rs;show⟨a,as,ts,rfl,hq,h1,hl.1,hl.2,λi b t eb et=>(h2 i b t eb et).1,λB bs hB hbl hp=>?_⟩;show h _ _ (Same.upd hB) (Rep.o7 hB (j.tE hB) (FN ?_ λi d v ed ev=>?_))
    .rw[z1g,z1g,(jz ts).length_eq,hbl]
    .rw[z2b] at ed ev;cases q1:(kZ ts)[i]? with
     |none=>rw[q1] at ed;cases ed
     | some t=>
      cases q2:bs[i]? with
      |none=>rw[q2] at ev;cases ev
      | some b=>
       rw[q1] at ed;rw[q2] at ev;cases ed;cases ev;let⟨_,k,z1,z2⟩:=hp i b t q2 q1;show (h2 k b t z1 z2).2
   .rw[z9n hl] at h;show h.elim
 .show h.elim
end
section
variable{X:Cx}{e:afV}{f:ao->R D}{pos:Pos}
theorem Vr(i k m:Nat){x y z:Str}{px py pz pt:Pos}{kt}(hc:X.calm=true)(hN:X.N.Nodup)(he:DE X e f)(hi:X.N[i]?=some x:=by rfl)(hk:X.N[k]?=some y:=by rfl)(hm:X.N[m]?=some z:=by rfl)
  (hx:Loc X.env.scope x:=by first |show agp rfl |show aga rfl)(hy:Loc X.env.scope y:=by first |show agp rfl |show aga rfl)(hz:Loc X.env.scope z:=by first |show agp rfl |show aga rfl)
  (hfx:X.fn x=true\/X.env.scope.names.lookup x=some .local:=by first |show .inl rfl |show .inr rfl)(Aw:X.fn y=true\/X.env.scope.names.lookup y=some .local:=by first |show .inl rfl |show .inr rfl)(hfz:X.fn z=true\/X.env.scope.names.lookup z=some .local:=by first |show .inl rfl |show .inr rfl)
  (hs:ahZ [.Tuple [.Name x px,.Name y py,.Name z pz] kt pt] e pos.line X.env=pure false:=by rfl)(hw:ah0 [.Tuple [.Name x px,.Name y py,.Name z pz] kt pt] e X.env=pure none:=by rfl):
  DS X (.Assign [.Tuple [.Name x px,.Name y py,.Name z pz] kt pt] e pos) (bC f (dR (dU 3 (bf (aL i) (bf (aL k) (bf (aL m) nilG)))))):=by
 show PS.imp (ps_asg he (pg_tup hc (pgs_cons (pg_name hN hi hx hfx) (pgs_cons (pg_name hN hk hy Aw) (pgs_cons (pg_name hN hm hz hfz) pgs_nil)))) hs hw) λσ H E h=>?_;let⟨H0,O0,O,ρ,j,h⟩:=h;show⟨ρ,O,j.inn,?_⟩;unfold bC kh at h;cases e1:f ρ with
 |bad=>rw[e1] at h;show h
 |err c=>rw[e1] at h;show h σ H O j
 | ok d=>
  rw[e1] at h;intro v H' s r;cases d with
  | tup ds=>
   match ds,h,r with
   |[],h,_=>show h.elim
   |[_],h,_=>show h.elim
   |[_,_],h,_=>show h.elim
   |_::_::_::_::_,h,_=>show (show False by simpa[dR,dU,qG] using h).elim
   | [d1,d2,d3],h,r=>
    let⟨a,xs,rfl,hq,rs⟩:=r.tup;let⟨v1,v2,v3,rfl,r1,r2,r3⟩:=rs.three;show⟨a,[v1,v2,v3],rfl,hq,rfl,v1,[v2,v3],rfl,v2,[v3],rfl,v3,[],rfl,rfl,?_⟩;show h _ H' O ((((j.grow s).set (z1b hi).1 r1).set (z1b hk).1 r2).set (z1b hm).1 r3) (Same.cI s)
  |_=>show h.elim
end
section
variable{X:Cx}{e:afV}{f:ao->R D}
def afv:D->R Bool
 | .lst ds=> .ok (!ds.isEmpty)
 | .tup ds=> .ok (!ds.isEmpty)
 |_=> .bad
def Rt(f:ao->R D):ao->R Bool:=λρ=>(f ρ).bind afv
theorem aM.empty{K:afM}{O:afK->Prop}{H:Hp}{ds:List D}{vs:List V}(r:aM K O H ds vs):ds.isEmpty=vs.isEmpty:=by
 have:=r.length;cases ds <;> cases vs <;> simp_all
theorem YH(h:DE X e f)(he:∀whole,isTrue e X.env whole=(do let v <-whole;aix e.pos;holding [v] (truthy v)):=by intro _;rfl):DT X e (Rt f):=by
 show PT.imp (pt_truth h he) λσ H Q h=>?_;let⟨ρ,O,j,h⟩:=h;show go j h λd v H1 e1 s1 r1 j1 h1=>?_;cases d with
 | lst ds=>
  let⟨a,xs,rfl,hq,hn,rs⟩:=r1.lst;show⟨!xs.isEmpty,.inl ⟨xs,hq,rfl⟩,by rw[<-rs.empty];show fin h1 rfl⟩
 | tup ds=>
  let⟨a,xs,rfl,hq,rs⟩:=r1.tup;show⟨!xs.isEmpty,.inr (.inl ⟨xs,hq,rfl⟩),by rw[<-rs.empty];show fin h1 rfl⟩
 |_=>show h1.elim
end
theorem YJ{A:af5}{k:Nat}(hr:Room k A):A.units+2<ahH:=by have:=hr.un;omega
def FnS(P:afZ)(w:af4)(K:afM)(mg:Str->Option afL)(base:af2)(k:Nat)(x:Str)(kG n q:Nat)(F:afK->(List D->R D)->List D->R D):Prop:=
 ∃f fd ps,FnOk P w K mg base CX0 k f fd ps (spS P w mg base kG K n q F)/\mg x=some (.ref f)/\agg K (.ref f)=true/\Binds K fd ps []
theorem FQ:∀{xs:List V} {us:List afL},xs.length=us.length->(∀(i:Nat) x u,xs[i]?=some x->us[i]?=some u->RelV x u)->Vals xs us
 |[],[],_,_=> .nil
 |[],_::_,h,_=>by simp at h
 |_::_,[],h,_=>by simp at h
 |x::xs,u::us,h,p=> .cons (p 0 x u rfl rfl) (FQ (by simpa using h) λi d' v' e1 e2=>p (i+1) d' v' (by simpa using e1) (by simpa using e2))
theorem YK{lo:Int}{acc:Array afL}{n:Nat}(h:ItemsOf (λi v=>∃t,v= .int (lo+i*1) t) acc n):Vals ((afR n).map λ(i:Nat)=>V.int (lo+(i:Int))) acc.toList:=by
 show FQ (by simp[h.1]) λi x u e1 e2=>?_;rw[Array.getElem?_toList] at e2;let⟨t,rfl⟩:=h.2 i u e2;rw[z2b] at e1;cases q:(afR n)[i]? with
 |none=>rw[q] at e1;cases e1
 | some k=>
  rw[q] at e1;have hk:i<n/\i=k:=by simpa[agr] using (z1b q)
  let⟨_,rfl⟩:=hk;cases e1;show⟨t,by rw[Int.mul_one]⟩
section
variable{X:Cx}{a b:afV}{p pos p2 pos2:Pos}{fa:ao->R (List D)}{ta:TA}
def ae2(ta:TA):TE:=λσ H Q=>ta σ H λvs H1=>∃i j:Int,vs=[.int i,.int j]/\∀q,H1 q=none->Q (.ref q) (upd H1 q (.rng i j))
theorem acd(hg:Gl X "range")(hm:X.mg "range" =none)(ha:PA X [a,b] ta)(hs:afP [a,b] X.env=[(false,eval a X.env),(false,eval b X.env)]:=by rfl)(hs2:afP [b] X.env=[(false,eval b X.env)]:=by rfl):PE X (.Call (.Name "range" p) [a,b] [] pos) (ae2 ta):=by
 intro pins s σ H Q I h;show Call_ (ld_blt I hg hm boot_range (agK (thn (ha pos pins s σ H _ I h) λus s1 ⟨vs,H1,I1,r1,q1⟩=>?_) (by rw[hs,hs2]) (by rw[hs2];rfl)));let⟨i,j,e,q⟩:=q1;subst e;cases r1 with
 | cons r rr=>
  cases rr with
  | cons r' rr=>
   cases rr;let⟨t,rfl⟩:=r;let⟨t',rfl⟩:=r';show call_range_2 ?_;show⟨.ref s1.heap.objs.size,upd H1 s1.heap.objs.size (.rng i j),I1.laid (λb o e=>z1a _ e) (z0g _) ⟨_,_,_,z1f _ rfl⟩,rfl,q _ (I1.hok.fresh (z0g _))⟩
theorem YL(hc:X.calm=true):CallR X (.type "list") (λxs H Q=>∃(b:afK) (i j:Int),xs=[.ref b]/\H b=some (.rng i j)/\-1000<=i/\i<=1000/\-1000<=j/\j<=1000/\∀B,H B=none->Q (.ref B) (upd H B (.lst ((afR (j - i).toNat).map λ(k:Nat)=>V.int (i+(k:Int)))))):=by
 intro pins s σ H xs us Q I r h;let⟨b,i,j,rfl,hb,h0,h1,h2,h3,q⟩:=h;let⟨u,rfl,rx⟩:=vals1 r;cases rx;let⟨t,u,v,hr⟩:=(show ObjOk X.prog X.w H s.heap b (.rng i j) from I.hok b _ hb);have hn:ai7 i j 1=(((j - i).toNat:Nat):Int):=by rw[rangeSize_one];split <;> omega
 show call_list_range (I.ok.hd hc) hr (small_one () () () ()) hn () λh' tk acc c' hk he hacc=>?_;have hf:H s.heap.objs.size=none:=I.hok.fresh (z0g _);show⟨.ref s.heap.objs.size,_,I.laid (t':=tk) (o:= .lst ((afR (j - i).toNat).map λ(k:Nat)=>V.int (i+(k:Int)))) hk (z0g _) ⟨?_,acc.toList,c',YK hacc,by simpa using he⟩,rfl,q _ hf⟩;rw[z1g,z2d];show z0b () (z0e dW)
theorem Wx{K:afM}{O:afK->Prop}{H:Hp}{lo:Int}{n:Nat}:aM K O H (upto lo n) ((afR n).map λ(i:Nat)=>V.int (lo+(i:Int))):=by
 unfold upto
 generalize afR n=l
 induction l with
 |nil=>show .nil
 |cons x l ih=>show .cons (cg _) ih
def afG:List D->R D
 |[.int j]=>if 0<=j/\j<=1000 then .ok (.lst (upto 0 j.toNat)) else .bad
 |_=> .bad
def Wz:List D->R D
 |[.int i,.int j]=>if -1000<=i/\i<=1000/\-1000<=j/\j<=1000 then .ok (.lst (upto i (j - i).toNat)) else .bad
 |_=> .bad
theorem aaB(hc:X.calm=true)(hg:Gl X "list")(hm:X.mg "list" =none)(hg2:Gl X "range")(hm2:X.mg "range" =none)(ha:DA X [a,b] fa)(hs2:afP [a,b] X.env=[(false,eval a X.env),(false,eval b X.env)]:=by rfl)(hs3:afP [b] X.env=[(false,eval b X.env)]:=by rfl)
  (he:afP [.Call (.Name "range" p) [a,b] [] pos] X.env=(false,eval (.Call (.Name "range" p) [a,b] [] pos) X.env)::afP [] X.env:=by rfl)(hpl:(ago pos2 (afP [] X.env)).any (·.1)=false:=by rfl):
  DE X (.Call (.Name "list" p2) [.Call (.Name "range" p) [a,b] [] pos] [] pos2) (aD Wz fa):=by
 show PE.imp (pe_callTy (YL hc) hg hm boot_list (pa_cons (acd hg2 hm2 ha hs2 hs3) pa_nil he) {} {} he hpl) λσ H Q q=>?_;let⟨ρ,O,j,q⟩:=q;show go j q λds vs H1 e1 s1 r1 j1 h1=>?_;unfold Wz at h1;split at h1
 .rename_i i k;let⟨x,y,rfl,rx,ry⟩:=r1.two;by_cases hi: -1000<=i/\i<=1000/\-1000<=k/\k<=1000
  .rw[z9p hi] at h1;show⟨i,k,by rw[rx.int,ry.int],λq hq=>⟨q,i,k,rfl,upd_same,hi.1,hi.2.1,hi.2.2.1,hi.2.2.2,λB hB=>?_⟩⟩;have s2:Same H1 (upd H1 q (.rng i k)):=Same.upd hq;show h1 _ _ (s2.trans (Same.upd hB)) (Rep.o7 hB ((j1.same s2).tE hB) Wx)
  .rw[z9n hi] at h1;show h1.elim
 .show h1.elim
end
end Pu
namespace Pu
open PySem PySem.Spec PySem.W L2
open PyProof.Rows hiding St
section
variable{prog:afZ}{w:af4}{A:af5}{s:afN}
end
section
variable{X:Cx}
end
end Pu
namespace Pu
open PySem PySem.Spec L2
open PyProof.Rows hiding St
section
variable{X:Cx}{pins:List (afK×Obj)}{σ:St}{H:Hp}{s:afN}
end
section
variable{X:Cx}{qual:Str}{params:ah8}{body:afV}{scope:ahp}{xS:Str}{cc P fS:afK}{Ri:agx}{Nk:List Str}{kS kG q:Nat}{FS:afK->(List D->R D)->List D->R D}{GG:List D->R D}{p p4 pos2 adT:Pos}{e1 e2 e3:afV}{f1 f2 f3:ao->R D}
end
end Pu
namespace Pu
open PySem PySem.Spec PySem.W L2
open PyProof.Rows hiding St
section
variable{prog:afZ}{w:af4}{A:af5}{R:Result->afN->Prop}{I l S:afK}{its:Array afL}{h0:af2}{bt:Nat->Nat->Bool}
end
section
variable{prog:afZ}{w:af4}{A:af5}{E:afL->afN->Prop}{s:afN}{l:afK}{its:Array afL}{bt:Nat->Nat->Bool}{Q:afL->afN->Prop}
end
section
variable{X:Cx}
end
end Pu
namespace Pu
open PySem PySem.Spec PySem.W L2
open PyProof.Rows hiding St
open PySem.SeqAt
section
variable{X:Cx}{e1 e2:afV}{f g:ao->R D}
end
end Pu
namespace Pu
open PySem PySem.Spec L2
open PyProof.Rows hiding St
section
variable{X:Cx}
end
section
variable{X:Cx}{e:afV}{f:ao->R D}{pos:Pos}
end
end Pu
namespace Pu
open PySem PySem.Spec PySem.W L2
open PyProof.Rows hiding St
section
variable{prog:afZ}{w:af4}{A:af5}{E:afL->afN->Prop}{s:afN}
end
section
variable{X:Cx}
end
end Pu
namespace Pu
open PySem PySem.Spec L2
open PyProof.Rows hiding St
def WD{α:Type}(Rl:(afK->Prop)->Hp->α->V->Prop)(ts:List (afK×Str))(K:afM)(n:Nat)(F:List D->R α):Sp:=λvs H Q E=>Tb ts H/\∃O ds,aM K O H ds vs/\ds.length=n/\(∀a,O a->∃o,H a=some o)/\match F ds with
 | .ok d=>∀v H',Same H H'->Rl O H' d v->Q v H'
 | .err c=>∀C H',afW K afU c=some (some (.ref C))->E (.ref C) none H'
 | .bad=>False
section
variable{P:afZ}{w:af4}{K:afM}{mg:Str->Option afL}{base:af2}
end
def Ru{α:Type}(Rl:(afK->Prop)->Hp->α->V->Prop)(P:afZ)(w:af4)(K:afM)(mg:Str->Option afL)(base:af2)(k:Nat)(x:Str)(n:Nat)(F:List D->R α)(fd:agx)(ps:List Str)(ts:List (afK×Str)):Prop:=
 ∃f,FnOk P w K mg base (rW P w) k f fd ps (WD Rl ts K n F)/\mg x=some (.ref f)/\agg K (.ref f)=true
def gb{α:Type}(F:List D->R α)(n m:Nat)(sel:List (Sum Nat D))(fa fk:ao->R (List D)):ao->R α:=λρ=>(fa ρ).bind λds=>(fk ρ).bind λzs=>if zs.length=m then okN F n (ds++pickK .non sel zs) else .bad
section
variable{X:Cx}{k m n:Nat}{f:afK}{fd:agx}{ps ks:List Str}{α:Type}{Rl:(afK->Prop)->Hp->α->V->Prop}{F:List D->R α}{x:Str}{p pos:Pos}{e:afV}{es:List afV}{kws:List ahW}{fa fk:ao->R (List D)}{ts:List (afK×Str)}
theorem YM(ok:FnOk X.prog X.w X.K X.mg X.base (rW X.prog X.w) k f fd ps (WD Rl ts X.K n F))(hr:Room m X.A)(hkm:k<=m){pins:List (afK×Obj)}{σ:St}{H:Hp}{s:afN}{O:afK->Prop}{ρ:ao}{ds:List D}{vs:List V}{us:List afL}{pa:List afL}{kw:List (Str×afL)}{Q:VK}
  (I:Inv X pins σ H s)(hT:Tb ts H)(r1:aM X.K O H ds vs)(r:Vals vs us)(j:In X O H ρ σ)(hb:us.length=ps.length->ajv s fd ⟨pa,kw⟩ (ps.zip us))(h:good X Rl O (okN F n ds) σ H Q):afS (model X.prog X.w) X.A (ako (.ref f) pa kw) (EP X pins σ Q) X.xe s:=by
 unfold okN at h;by_cases hl:ds.length=n
 .rw[z9p hl] at h;have sp:WD Rl ts X.K n F vs H Q λu _ _=>∃c C,F ds= .err c/\u= .ref C/\afW X.K afU c=some (some (.ref C)):=by
   show⟨hT,O,ds,r1,hl,j.al,?_⟩;cases q:F ds with
   |ok d=>rw[q] at h;show h
   |bad=>rw[q] at h;show h
   |err c=>show λC _ hC=>⟨c,C,rfl,rfl,hC⟩
  have hll:us.length=ps.length:=by rw[<-r.length];show ok.len _ _ _ _ sp
  show ahP (ahI ((ok.mono hkm).run X.A X.stack s H ⟨pa,kw⟩ us vs Q _ hr I.env0 (hb hll) r sp) λr s' hq=>?_);cases r with
  | error ev=>
   let⟨a,C,T,H',rfl,hE,rs⟩:=hq;let⟨c,C',q,z,hC⟩:=hE;cases z;rw[q] at h;show h H pins s a C T s' H' (Same.refl _) I hC rs
  | ok fl=>
   cases fl with
   |ret u=>show I.after hq
   |next=>show agm hq
   |brk=>show agm hq
   |cont=>show agm hq
 .rw[z9n hl] at h;show h.elim
theorem ace{sa sb sc}(S:Sel sa sb sc)(G:Ru Rl X.prog X.w X.K X.mg X.base k x n F fd ps ts)(hT:Tb ts X.H₀)(hr:Room m X.A)(hkm:k<=m)(hb:KB X.K fd ps [] sa)
  (ha:DA X (e::es) fa)(hg:Gl X x:=by rfl)(hdb:(x ==("__debug__" :Str))=false:=by decide)(he:afP (e::es) X.env=(false,eval e X.env)::afP es X.env:=by rfl)(hpl:(ago pos (afP es X.env)).any (·.1)=false:=by rfl):
  PE X (.Call (.Name x p) (e::es) [] pos) (tG X Rl (gb F n 0 sc fa (λ_=> .ok []))):=by
 let⟨f,ok,hm,hk⟩:=G;intro pins s σ H Q I h;let⟨ρ,O,j,h⟩:=h;show agX (ld_glob I hg hm ?_ hdb);have key:tG X (wM X) fa σ H (λvs H1=>∃ds,Same H H1/\aM X.K O H1 ds vs/\In X O H1 ρ σ/\good X Rl O (okN F n (ds++pickK .non sc [])) σ H1 Q):=go j h λds vs H1 e1 s1 r1 j1 h1=>⟨ds,s1,r1,j1,h1⟩;show ahS (h₀:=X.base) I.ok.mod.kin hk (thn (ha pos pins s σ H _ I key) λus s1 ⟨vs,H1,I1,r,q⟩=>⟨I1.kIn,?_⟩) he hpl;let⟨ds,sm,r1,j1,h1⟩:=q;show YM ok hr hkm I1 (hT.un I1.base) (r1.append (S.reps .nil)) (r.append (S.vals .nil)) j1 (λhl=>hb s1 us [] I1.kIn (by rw[z1d,u9] at hl;show hl) rfl) h1
theorem acf{sa sb sc}(S:Sel sa sb sc)(G:Ru Rl X.prog X.w X.K X.mg X.base k x n F fd ps ts)(hT:Tb ts X.H₀)(hr:Room m X.A)(hkm:k<=m)(hb:KB X.K fd ps ks sa)
  (ha:DA X (e::es) fa)(hkw:DK X kws fk)(hg:Gl X x:=by rfl)(hall:(agW pos (agz kws X.env)).all (·.1.isSome)=true:=by rfl)(hks:(agW pos (agz kws X.env)).filterMap (·.1)=ks:=by rfl)
  (hdb:(x ==("__debug__" :Str))=false:=by decide)(he:afP (e::es) X.env=(false,eval e X.env)::afP es X.env:=by rfl)
  (hpl:((ago pos (afP (e::es) X.env)).any (·.1) || (agW pos (agz kws X.env)).any (·.1.isNone))=false:=by rfl):
  PE X (.Call (.Name x p) (e::es) kws pos) (tG X Rl (gb F n ks.length sc fa fk)):=by
 let⟨f,ok,hm,hk⟩:=G;intro pins s σ H Q I h;let⟨ρ,O,j,h⟩:=h;show agX (ld_glob I hg hm ?_ hdb);have key:tG X (wM X) fa σ H λvs H1=>tG X (wM X) fk σ H1 λzs H2=>zs.length=ks.length/\∃dd,aM X.K O H2 dd (vs++pickK .non sb zs)/\In X O H2 ρ σ/\good X Rl O (okN F n dd) σ H2 Q:=by
  show go j h λds vs H1 e1 s1 r1 j1 h1=>?_;show go j1 h1 λzd zs H2 e2 s2 r2 j2 h2=>?_;by_cases hz:zd.length=ks.length
  .rw[z9p hz] at h2;show⟨by rw[<-r2.length];show hz,_,(r1.same s2).append (S.reps r2),j2,h2⟩
  .rw[z9n hz] at h2;show h2.elim
 show ajK (h₀:=X.base) I.ok.mod.kin hk hall (thn (ha pos pins s σ H _ I key) λus s1 ⟨vs,H1,I1,r,q⟩=>?_) hpl he;show thn (hkw pos pins s1 σ H1 _ I1 q) λws s2 ⟨zs,H2,I2,rz,q2⟩=>⟨I2.kIn,?_⟩;rw[hks];let⟨hz,dd,r1,j1,h1⟩:=q2;show YM ok hr hkm I2 (hT.un I2.base) r1 (r.append (S.vals rz)) j1 (λhl=>hb s2 us ws I2.kIn (by rw[z1d,u9] at hl;show hl) (by rw[<-rz.length];show hz)) h1
end
section
variable{X:Cx}{tg a b c:afV}{p pos p2 pos2:Pos}{fa:ao->R (List D)}{ta:TA}
end
end Pu
namespace Pu
open PySem PySem.Spec PySem.W L2
open PyProof.Rows hiding St
open PySem.SeqAt
section
variable{X:Cx}{e1 e2:afV}{f g:ao->R D}
theorem aaC{pins:List (afK×Obj)}{σ:St}{H:Hp}{s:afN}{A:af5}{O O':afK->Prop}{d:D}{y:V}{u:afL}(I:Inv X pins σ H s)(re:Rep X.K O' H d y)(ru:RelV y u)(hA:∀(d':D) (v:V) (w:afL),dep d'<=40->Rep X.K O H d' v->RelV v w->EqAt A s w u (dF d' d)):
  ∃e:afL->Bool,∀(ds:List D) (vs:List V) (its:List afL),aM X.K O H ds vs->Vals vs its->(∀d'∈ds,dep d'<=40)->its.map e=ds.map (dF · d)/\∀w∈its,EqAt A s w u (e w):=by
 classical
 have key:∀d' v w,Rep X.K O H d' v->RelV v w->(decide (∃d' v,Rep X.K O H d' v/\RelV v w/\dF d' d=true))=dF d' d:=λd' v w r1 q1=>by
  cases z:dF d' d with
  |true=>show z9t ⟨d',v,r1,q1,z⟩
  | false=>
   show z9f λbB=>?_;let⟨d2,v2,r2,q2,z2⟩:=bB;have ev:v2=v:=RelV.inj q2 q1;subst ev;rw[Rep.inj I d2 d' v2 r2 r1,z] at z2;cases z2
 show⟨λw=>decide (∃d' v,Rep X.K O H d' v/\RelV v w/\dF d' d=true),λds=>?_⟩
 induction ds with
 |nil=>intro vs its r q _;rw[r.nil_inv] at q;cases q;show⟨rfl,λw m=>by cases m⟩
 | cons a ds ih=>
  intro vs its r q hd;let⟨x,t,rfl,h1,h2⟩:=r.cons_inv;cases q with
  | cons q1 q2=>
   let⟨i1,i2⟩:=ih _ _ h2 q2 λd' m=>hd d' (z2f _ m);show⟨by rw[z1h,z1h,i1,key a _ _ h1 q1],λw m=>?_⟩;rcases af9.mp m with rfl |m
   .show EqAt _ _ _ _ (decide _);rw[key a _ _ h1 q1];show hA a _ _ (hd a agl) h1 q1
   .show i2 w m
theorem adV{e:afL->Bool}{d:D}{its:List afL}{ds:List D}(h:its.map e=ds.map (dF · d)):its.any e=ds.any (dF · d):=by
 have a:(its.map e).any id=its.any e:=by rw[List.any_map];rfl
 have b:(ds.map (dF · d)).any id=ds.any (dF · d):=by rw[List.any_map];rfl
 rw[<-a,h,b]
end
end Pu
namespace Pu
open PySem PySem.Spec L2
open PyProof.Rows hiding St
section
variable{X:Cx}
end
end Pu
namespace Pu
open PySem PySem.Spec PySem.W L2
open PyProof.Rows hiding St
section
variable{prog:afZ}{w:af4}{A:af5}{s:afN}
end
section
variable{X:Cx}
end
section
variable{X:Cx}
def Qo(d:D):D->R D
 | .tup ds=>if ds.all (λd'=>decide (dep d'<=40)) then .ok (.bl (!ds.any (dF · d))) else .bad
 |_=> .bad
theorem acg(hu:X.A.units+60<ahH):iY X (agn .NotIn) Qo:=by
 show⟨λx y H Q=>∃(l:afK) (ds:List D) (vs:List V) (O O':afK->Prop) (d:D),y= .ref l/\SqT X.K H l vs/\aM X.K O H ds vs/\Rep X.K O' H d x/\(∀d'∈ds,dep d'<=40)/\Q (.bl (!ds.any (dF · d))) H,?_,?_⟩
 .intro pins s σ H x y v u Q I rx ry h;let⟨l,ds,vs,O,O',d,rfl,hq,rs,re,hd,q⟩:=h;cases ry;let⟨its,r',pl,hz⟩:=I.tuple hq;let⟨e,he⟩:=aaC (A:=X.A.in1) I re rx (O:=O) λd' v' w hd' r q=>G4 I 40 _ d' hd' () d v' x w v r re q rx;let⟨h1,h2⟩:=he ds vs its rs r' hd;show SeqAt.notIn_tupleAt e pl (λw hw=>h2 w (by simpa using hw)) ⟨.bl _,H,I,rfl,?_⟩;rw[show its.toArray.any e=its.any e by simp,adV h1];show q
 .intro ρ O σ H Q x y dx dy j0 rx ry h;cases dy with
  | tup ds=>
   let⟨a,xs,rfl,hq,rs⟩:=ry.tup;have h:good X (rD X) O (if ds.all (λd'=>decide (dep d'<=40)) then .ok (.bl (!ds.any (dF · dx))) else .bad) σ H Q:=h;by_cases hall:ds.all (λd=>decide (dep d<=40))=true
   .rw[z9p hall] at h;show⟨a,ds,xs,O,O,dx,rfl,hq,rs,rx,λd m=>z9o (akB.mp hall d m),fin h (dO _)⟩
   .rw[z9n hall] at h;show h.elim
  |_=>show h.elim
end
end Pu
namespace Pu
open PySem PySem.Spec L2
open PyProof.Rows hiding St
variable{C l a dx:afK}{O:afK->Prop}{X:Cx}{F:Dk->List D->R D}{fd:agx}{base:af2}{H:Hp}{pins:List (afK×Obj)}{ts:List (afK×Str)}{ds:List D}{N ps:List Str}{xs vs:List V}{k n:Nat}{P:afZ}{K:afM}{ρ:ao}{g:ao->So}{σ:St}{st:af7}{qual:Str}{mg:Str->Option afL}{u:V}
section
variable{X:Cx}
end
section
variable{X:Cx}{c x y:Str}{C:afK}{np cpos pos p1 p2 p3 p4:Pos}{k1 k2:Nat}{a b:afV}{f g:ao->R D}
end
section
variable{X:Cx}{H0 H H':Hp}{O0 O:afK->Prop}{ρ:ao}{σ:St}{K:afM}
theorem jc.inj{C':afK}(h:jc K C)(h':jc K C'):C=C':=by
 have:=h.symm.trans h';cases this;rfl
theorem fH.bU{g:Option (afK×afK)}{k k':Dk}{r:afK}(R:oY K O H k a C dx l xs u)(i:fH H (.bU g k') (.ref a) r):r=l:=by
 let⟨a',C',dx',u',n',e,q⟩:=i;cases e;have:=R.at_.symm.trans q;cases this;rfl
theorem At.WK(j:At X H0 O0 O H ρ σ){i:Nat}{g:Option (afK×afK)}{k k':Dk}{dx':afK}{xs':List V}{u':V}(hi:ρ[i]?=some (some (.bU g k)))(hs:σ[i]?=some (some (.ref a)))(R:oY X.K O H k a C dx l xs u)
  (kp:∀b o,b≠a->b≠l->H b=some o->H' b=some o)(R':oY X.K O H' k' a C dx' l xs' u')(hg:∀p,g=some p->p=(a,l)):
  At X H0 O0 O H' (ρ.set i (some (.bU g k'))) σ/\cT X.K O H O H':=by
 have h1:i<ρ.length:=(z1b hi).1;have il:fH H (.bU g k) (.ref a) l:=⟨a,C,dx,u,k.n,rfl,R.at_⟩;let⟨hHa,hOa⟩:=j.mine i _ a hi rfl hs;let⟨hHl,hOl⟩:=j.jB i _ _ l hi hs il;have nO:∀{b:afK},¬O b->b≠a/\b≠l:=λn=>⟨λz=>n (by rw[z];show R.oa),λz=>n (by rw[z];show R.ol)⟩;have nk:∀{b:afK} {w:HO},Rd H b w->(∀C dx fs,w≠.ins C dx fs)->(∀ys,w≠.lst ys)->b≠a/\b≠l:=λ{b w} h n1 n2=>by
  show⟨λz=>?_,λz=>?_⟩ <;> subst z
  .rcases h with h |⟨o,h⟩
   .show n1 _ _ _ (agb (h.symm.trans R.at_))
   .cases h.symm.trans R.at_
  .rcases h with h |⟨o,h⟩
   .show n2 _ (agb (h.symm.trans R.pl))
   .cases h.symm.trans R.pl
 have kr:∀{b:afK} {w:HO},b≠a/\b≠l->Rd H b w->Rd H' b w:=λ{b w} n h=>by
  rcases h with h |⟨o,h⟩
  .show .inl (kp _ _ n.1 n.2 h)
  .show .inr ⟨o,kp _ _ n.1 n.2 h⟩
 have r1:cT X.K O H O H':=by
  show⟨⟨λb ys h=>kr (nk h (λ_ _ _ z=>by cases z) λ_ z=>by cases z) h,λb ys n h=>kr (nO n) h,λb C dx fs n h=>kp _ _ (nO n).1 (nO n).2 h⟩,λb z=> .inl z,λb z=>?_⟩;cases q:H b with
  |none=>rfl
  | some o=>
   by_cases ea:b=a
   .rw[ea,R'.at_] at z;cases z
   .by_cases el:b=l
    .rw[el,R'.pl] at z;cases z
    .rw[kp _ _ ea el q] at z;cases z
 have far:∀{m:Nat} {e:Ent} {v:V} {b:afK},m≠i->ρ[m]?=some (some e)->e.own=true->σ[m]?=some (some v)->v= .ref b\/fH H e v b->b≠a/\b≠l:=λ{m e v b} hm h1 ho h2 w=>by
  rcases w with w |w
  .show⟨λz=>?_,λz=>?_⟩
   .show j.inn.env.sep m i e _ v hm h1 hi ho rfl h2 (by rw[w,z];show hs)
   .show (j.inn.env.jY i m _ e _ v l (afT hm) hi hs il h1 ho h2).1 (by rw[w,z])
  .have q:=j.inn.env.jY m i e _ v _ b hm h1 h2 w hi rfl hs;show⟨λz=>q.1 (by rw[z]),λz=>q.2 (by rw[z];show il)⟩
 have un:∀{m:Nat} {x:Ent},(ρ.set i (some (.bU g k')))[m]?=some (some x)->x.own=true->∃y,ρ[m]?=some (some y)/\y.own=true/\∀{v:V} {r:afK},σ[m]?=some (some v)->fH H' x v r->fH H y v r:=λ{m x} h ho'=>by
  by_cases hmi:m=i
  .subst hmi;rw[z2a h1] at h;cases h;show⟨_,hi,rfl,λq z=>by rw[hs] at q;cases q;rw[fH.bU R' z];show il⟩
  .rw[z1e (afT hmi)] at h;show⟨x,h,ho',λ{v r} q z=>z.eq λb eb=>?_⟩;let⟨v',q1,q2⟩:=j.inn.env.get m x h;rw[q] at q1;cases q1;let⟨_,o,q3⟩:=q2.has ho' (.inl eb);let⟨na,nl⟩:=far hmi h ho' q (.inl eb);rw[q3,kp _ _ na nl q3]
 show⟨⟨λb o z=>kp _ _ (ne_of_none z hHa) (ne_of_none z hHl) (j.same _ _ z),j.cI.trans r1,j.sub,⟨⟨λm e h=>?_,λm n e e' v hmn hm hn om on sm sn=>?_,λm n e e' v v' r hmn hm sm ha hn on sn=>?_⟩,λb z=>?_,j.inn.len,by rw[agM];show j.inn.iH⟩,λm e b h ho hb=>?_,λm e v r h hv ha=>?_⟩,r1⟩
 .by_cases hmi:m=i
  .subst hmi;rw[z2a h1] at h;cases h;show⟨_,hs,a,C,dx',l,xs',u',rfl,hg,R'⟩
  .rw[z1e (afT hmi)] at h;let⟨v,q1,q2⟩:=j.inn.env.get m e h;show⟨v,q1,q2.keep r1 (λb o w hb=>?_) λb ho w=>⟨?_,id⟩⟩
   .show kp _ _ (λz=>by rw[z,R.at_] at hb;cases hb) (λz=>by rw[z,R.pl] at hb;cases hb) hb
   .let⟨na,nl⟩:=far hmi h ho q1 w;let⟨_,o,q3⟩:=q2.has ho w;rw[q3,kp _ _ na nl q3]
 .let⟨y,hy,oy,_⟩:=un hm om;let⟨y',hy',Qz,_⟩:=un hn on;show j.inn.env.sep m n y y' v hmn hy hy' oy Qz sm sn
 .let⟨y,hy,oy,wy⟩:=un hm ha.own;let⟨y',hy',Qz,wy'⟩:=un hn on;have q:=j.inn.env.jY m n y y' v v' r hmn hy sm (wy sm ha) hy' Qz sn;show⟨q.1,λz=>q.2 (wy' sn z)⟩
 .let⟨w,q⟩:=j.inn.al b z;by_cases ea:b=a
  .rw[ea];show⟨_,R'.at_⟩
  .by_cases el:b=l
   .rw[el];show⟨_,R'.pl⟩
   .show⟨w,kp _ _ ea el q⟩
 .let⟨y,hy,oy,_⟩:=un h ho;show j.mine m y b hy oy hb
 .let⟨y,hy,_,wy⟩:=un h ha.own;show j.jB m y v r hy hv (wy hv ha)
theorem At.afw(j:At X H0 O0 O H ρ σ){i:Nat}(hi:i<X.N.length){k:Dk}(sm:Same H H')(fa:H a=none/\X.K.lookup a=none)(fl:H l=none/\X.K.lookup l=none)
  (R:oY X.K (λb=>O b\/b=a\/b=l) H' k a C dx l xs u):
  At X H0 O0 (λb=>O b\/b=a\/b=l) H' (ρ.set i (some (.bU none k))) (σ.set i (some (.ref a)))/\cT X.K O H (λb=>O b\/b=a\/b=l) H':=by
 have r1:cT X.K O H (λb=>O b\/b=a\/b=l) H':=⟨(Same.cI (K:=X.K) (O:=O) sm).ext,λb z=>z.elim .inl λe=> .inr (e.elim (λe=>e▸fa) λe=>e▸fl),(Same.cI (K:=X.K) (O:=O) sm).dom⟩;have h1:i<ρ.length:=by rw[j.inn.iH];show hi
 have h2:i<σ.length:=by rw[j.inn.len];show hi
 have fr:∀{b:afK},b=a\/b=l->H b=none:=λz=>z.elim (λz=>z▸fa.1) λz=>z▸fl.1;have nw:∀{m:Nat} {e:Ent} {v:V} {b:afK},ρ[m]?=some (some e)->e.own=true->σ[m]?=some (some v)->b=a\/b=l->v≠.ref b/\¬fH H' e v b:=λ{m e v b} q1 q2 q3 hb=>by
  let⟨v',z1,z2⟩:=j.inn.env.get m e q1;rw[q3] at z1;cases z1;have key:¬(v= .ref b\/fH H e v b):=λw=>by
   let⟨_,o,z⟩:=z2.has q2 w;rw[fr hb] at z;cases z
  show⟨λz=>key (.inl z),λz=>key (.inr (j.inn.env.back sm q1 q3 z))⟩
 show⟨⟨j.same.trans sm,j.cI.trans r1,λb z=> .inl (j.sub b z),⟨⟨λm e h=>?_,λm n e e' v hmn hm hn om on sm' sn=>?_,λm n e e' v v' r hmn hm sm' ha hn on sn=>?_⟩,λb z=>?_,by rw[agM];show j.inn.len,by rw[agM];show j.inn.iH⟩,λm e b h ho hb=>?_,λm e v r h hv ha=>?_⟩,r1⟩
 .by_cases hmi:m=i
  .subst hmi;rw[z2a h1] at h;cases h;show⟨.ref a,z2a h2,a,C,dx,l,xs,u,rfl,(λ_ z=>by cases z),R⟩
  .rw[z1e (afT hmi)] at h;let⟨v,q1,q2⟩:=j.inn.env.get m e h;show⟨v,by rw[z1e (afT hmi)];show q1,q2.abr sm r1 λb z=> .inl z⟩
 .by_cases hmi:m=i
  .subst hmi;rw[z2a h2] at sm';cases sm';rw[z1e hmn] at hn sn;show (nw hn on sn (.inl rfl)).1 rfl
  .rw[z1e (afT hmi)] at hm sm';by_cases hni:n=i
   .subst hni;rw[z2a h2] at sn;cases sn;show (nw hm om sm' (.inl rfl)).1 rfl
   .rw[z1e (afT hni)] at hn sn;show j.inn.env.sep m n e e' v hmn hm hn om on sm' sn
 .by_cases hmi:m=i
  .subst hmi;rw[z2a h1] at hm;rw[z2a h2] at sm';cases hm;cases sm';rw[fH.bU R ha];rw[z1e hmn] at hn sn;show nw hn on sn (.inr rfl)
  .rw[z1e (afT hmi)] at hm sm';by_cases hni:n=i
   .subst hni;rw[z2a h1] at hn;rw[z2a h2] at sn;cases hn;cases sn;show⟨λz=>by cases z;show (nw hm ha.own sm' (.inl rfl)).2 ha,λz=>?_⟩;rw[fH.bU R z] at ha;show (nw hm ha.own sm' (.inr rfl)).2 ha
   .rw[z1e (afT hni)] at hn sn;have q:=j.inn.env.jY m n e e' v v' r hmn hm sm' (j.inn.env.back sm hm sm' ha) hn on sn;show⟨q.1,λz=>q.2 (j.inn.env.back sm hn sn z)⟩
 .rcases z with z |z |z
  .let⟨w,q⟩:=j.inn.al b z;show⟨w,sm _ _ q⟩
  .rw[z];show⟨_,R.at_⟩
  .rw[z];show⟨_,R.pl⟩
 .by_cases hmi:m=i
  .subst hmi;rw[z2a h2] at hb;cases hb;show⟨j.same.free fa.1,λz=>j.inn.tE fa.1 (j.sub _ z)⟩
  .rw[z1e (afT hmi)] at h hb;show j.mine m e b h ho hb
 .by_cases hmi:m=i
  .subst hmi;rw[z2a h1] at h;rw[z2a h2] at hv;cases h;cases hv;rw[fH.bU R ha];show⟨j.same.free fl.1,λz=>j.inn.tE fl.1 (j.sub _ z)⟩
  .rw[z1e (afT hmi)] at h hv;show j.jB m e v r h hv (j.inn.env.back sm h hv ha)
end
def spM(ts:List (afK×Str))(K:afM)(n:Nat)(F:Dk->List D->R (D×Dk)):Sp:=λvs H Q _=>Tb ts H/\∃O a C dx l xs u k ds ws,vs= .ref a::ws/\oY K O H k a C dx l xs u/\K.lookup a=none/\K.lookup l=none/\aM K O H ds ws/\ds.length=n/\(∀a,O a->∃o,H a=some o)/\match F k ds with
 | .ok r=>∀v H' dx' xs' u',(∀b o,b≠a->b≠l->H b=some o->H' b=some o)->oY K O H' r.2 a C dx' l xs' u'->Rep K O H' r.1 v->Q v H'
 |_=>False
theorem YQ{k:Dk}{m:Nat}(hl:X.N.length=ds.length+1+m)(R:oY X.K O H k a C dx l xs u)(ka:X.K.lookup a=none)(kl:X.K.lookup l=none)(r:aM X.K O H ds vs)(al:∀a,O a->∃o,H a=some o):
  At X (λb=>if b=a\/b=l then none else H b) (λb=>O b/\b≠a/\b≠l) O H (some (.bU (some (a,l)) k)::(ds.map (λd=>some (.val d))++afO m none)) (some (.ref a)::(vs.map some++afO m none)):=by
 have s0:Same (λb=>if b=a\/b=l then none else H b) H:=λb o z=>by
  by_cases q:b=a\/b=l
  .simp only[z9p q] at z;cases z
  .simpa only[z9n q] using z
 have get:∀(i:Nat) e,(some (.bU (some (a,l)) k)::(ds.map (λd=>some (.val d))++afO m none))[i]?=some (some e)->(i=0/\e= .bU (some (a,l)) k)\/(e.own=false/\∃v,(some (V.ref a)::(vs.map some++afO m none))[i]?=some (some v)/\fM X.K O H e v):=λi e q=>by
  cases i with
  |zero=>simp at q;show .inl ⟨rfl,q.symm⟩
  | succ i=>
   let⟨v,h1,h2,h3⟩:=iJ r m i e (by simpa using q);show .inr ⟨h3,v,by simpa using h1,h2⟩
 have own:∀{i:Nat} {e:Ent},(some (.bU (some (a,l)) k)::(ds.map (λd=>some (.val d))++afO m none))[i]?=some (some e)->e.own=true->i=0/\e= .bU (some (a,l)) k:=λ{i e} q ho=>by
  rcases get i e q with z |⟨z,_⟩
  .show z
  .rw[z] at ho;cases ho
 show⟨s0,⟨⟨λb ys h=>Same.rd s0 h,λb ys _ h=>Same.rd s0 h,λb _ _ _ _ h=>s0 _ _ h⟩,λb z=>?_,λb z=>s0.free z⟩,λb z=>z.1,⟨⟨λi e q=>?_,λi j e e' v hij hi hj oi oj=>?_,λi j e e' v v' r hij hi si ha hj oj=>?_⟩,al,?_,?_⟩,λi e b q ho hs=>?_,λi e v r q hs ha=>?_⟩
 .by_cases q:b=a\/b=l
  .show .inr ⟨z9p q,q.elim (λz=>z▸ka) λz=>z▸kl⟩
  .show .inl ⟨z,λw=>q (.inl w),λw=>q (.inr w)⟩
 .rcases get i e q with⟨rfl,rfl⟩ |⟨_,z⟩
  .show⟨.ref a,rfl,a,C,dx,l,xs,u,rfl,(λp z=>by cases z;rfl),R⟩
  .show z
 .show (hij ((own hi oi).1.trans (own hj oj).1.symm)).elim
 .show (hij ((own hi ha.own).1.trans (own hj oj).1.symm)).elim
 .rw[afY,z1d,z1g,agt,<-r.length,hl];omega
 .rw[afY,z1d,z1g,agt,hl];omega
 .let⟨rfl,rfl⟩:=own q ho;cases hs;show⟨z9p (.inl rfl),λz=>z.2.1 rfl⟩
 .let⟨rfl,rfl⟩:=own q ha.own;cases hs;rw[fH.bU R ha];show⟨z9p (.inr rfl),λz=>z.2.2 rfl⟩
def Qp(gh:Option (afK×afK))(d:D)(ρ:ao):R (D×Dk):=match ρ[(0:Nat)]? with
 |some (some (.bU g k))=>if g=gh then .ok (d,k) else .bad
 |_=> .bad
def runM(m:Nat)(g:ao->So)(gh:Option (afK×afK))(k:Dk)(ds:List D):R (D×Dk):=match g (some (.bU gh k)::(ds.map (λd=>some (.val d))++afO m none)) with
 | .rm d ρ'=>Qp gh d ρ'
 | .nx ρ'=>Qp gh .non ρ'
 |_=> .bad
open Classical in
def mW{α:Type}(f:Option (afK×afK)->R α):R α:=if h:∃r,∀g,f g= .ok r then .ok h.choose else .bad
theorem ach{α:Type}{f:Option (afK×afK)->R α}{r:α}(h:mW f= .ok r)(g:Option (afK×afK)):f g= .ok r:=by
 unfold mW at h;by_cases e:∃r,∀g,f g= .ok r
 .rw[dif_pos e] at h;cases h;show e.choose_spec g
 .rw[dif_neg e] at h;cases h
theorem Vs{α:Type}{f:Option (afK×afK)->R α}{r:α}(h:∀g,f g= .ok r):mW f= .ok r:=by
 unfold mW;have e:∃r,∀g,f g= .ok r:=⟨r,h⟩;rw[dif_pos e,<-e.choose_spec none,h none]
theorem oY.fewer{O':afK->Prop}{k:Dk}(R:oY K O' H k a C dx l xs u)(w:∀b,O b->O' b)(oa:O a)(ol:O l):oY K O H k a C dx l xs u:=⟨R.at_,R.cl,oa,R.pl,ol,R.mn.fewer w,R.HW.fewer w⟩
section
variable{P:afZ}{w:af4}{K:afM}{mg:Str->Option afL}{base:af2}
theorem Vt{x:Str}{f:afK}{m:Nat}(Fn:Fun K x qual st f fd)(S:FnScope N ps (defScope st))(hn:ps.length=n+1)(hm:N.length=n+1+m)
  (hb:∀(cdv:afL) (A:af5) (outer:List agA) (s:afN) (H:Hp) (E:XK),Room k (A.deeper (ag9 qual (defScope st) s.heap.objs.size f cdv))->Tb ts H->iG (cxOf CX0 P w K mg base N qual (defScope st) f cdv A outer s H E).nox (defBody st) g):
  FnOk P w K mg base CX0 (k+1) f fd ps (spM ts K n λk ds=>mW λgh=>runM m g gh k ds):=by
 show Fn.ok S (λvs H Q E h=>?_) (λcdv A outer s H vs Q E hr h=>?_)
 .let⟨_,O,a,C,dx,l,xs,u,k,ds,ws,rfl,_,_,_,r,hl,_⟩:=h;rw[hn,afY,<-r.length,hl]
 .obtain ⟨hT, O,a,C,dx,l,xs,u,k,ds,ws,rfl,R,ka,kl,r,hl,al,h⟩:=h;cases e0:(mW λgh=>runM m g gh k ds) with
  |bad=>simp only[e0] at h
  |err c=>simp only[e0] at h
  |ok rr=>
  simp only[e0] at h;have e1:=ach e0 (some (a,l));show⟨_,hb cdv A outer s H E hr hT,λb=>if b=a\/b=l then none else H b,λb=>O b/\b≠a/\b≠l,O,some (.bU (some (a,l)) k)::(ds.map (λd=>some (.val d))++afO m none),?_,?_⟩
  .have hst:L2.start N (.ref a::ws)=some (.ref a)::(ws.map some++afO m none):=by
    rw[kW (m:=m) (by rw[afY,<-r.length,hl,hm])];rfl
   rw[hst];show YQ (X:=(cxOf CX0 P w K mg base N qual (defScope st) f cdv A outer s H E).nox) (by rw[hl];show hm) R ka kl r al
  .have key:∀{d:D} {ρ':ao} {σ':St} {H':Hp} {O':afK->Prop},Qp (some (a,l)) d ρ'= .ok rr->At (cxOf CX0 P w K mg base N qual (defScope st) f cdv A outer s H E).nox (λb=>if b=a\/b=l then none else H b) (λb=>O b/\b≠a/\b≠l) O' H' ρ' σ'->∀v,Rep K O' H' d v->Q v H':=λ{d ρ' σ' H' O'} q j v rv=>by
    unfold Qp at q;split at q
    .rename_i gg k' e;by_cases c:gg=some (a,l)
     .rw[z9p c] at q;cases q;let⟨v0,q1,a',C',dx',l',xs',u',e3,hg,R'⟩:=j.inn.env.get 0 _ e;cases hg _ c;cases jc.inj R.cl R'.cl;have wO:∀b,O b->O' b:=λb z=>by
       by_cases ea:b=a
       .rw[ea];show R'.oa
       .by_cases el:b=l
        .rw[el];show R'.ol
        .show j.sub b ⟨z,ea,el⟩
      show h v H' dx' xs' u' (λb o na nl z=>j.same b o ?_) (R'.fewer wO R.oa R.ol) (rv.fewer wO);rw[z9n (λz=>z.elim na nl)];show z
     .rw[z9n c] at q;cases q
    .cases q
   unfold runM at e1;cases e2:g (some (.bU (some (a,l)) k)::(ds.map (λd=>some (.val d))++afO m none)) with
   |rm d ρ'=>rw[e2] at e1;show λσ' H' O' v j' _ rv=>key e1 j' v rv
   |nx ρ'=>rw[e2] at e1;show λσ' H' O' j' _=>key e1 j' .non lC
   |rt d=>rw[e2] at e1;cases e1
   |bk _=>rw[e2] at e1;cases e1
   |ct _=>rw[e2] at e1;cases e1
   |rk _=>rw[e2] at e1;cases e1
   |ex _ _=>rw[e2] at e1;cases e1
   |bad=>rw[e2] at e1;cases e1
end
structure jE(K:afM)(C:afK):Prop where
 ns:jc K C
 cl:Cls K C
 nm:NoAttr K C "manner"
 np:NoAttr K C "pages"
 na:NoAttr K C "at"
def Nq(P:afZ)(w:af4)(K:afM)(mg:Str->Option afL)(base:af2)(C:afK)(k:Nat)(m:Str)(n:Nat)(F:Dk->List D->R (D×Dk))(ts:List (afK×Str)):Prop:=
 ∃f fd ps,FnOk P w K mg base CX0 k f fd ps (spM ts K n F)/\Meth K C m f/\Binds K fd ps []
section
variable{X:Cx}{C:afK}{k n q:Nat}{F:Dk->List D->R (D×Dk)}{x m:Str}{px apos cpos pos:Pos}{e:afV}{es:List afV}{fa:ao->R (List D)}{ts:List (afK×Str)}
def jF(i:Nat)(F:Dk->List D->R (D×Dk))(n:Nat)(fa:ao->R (List D))(o:D->ao->So):ao->So:=λρ=>match ρ[i]?,fa (bF ρ) with
 | some (some (.bU g k)),.ok ds=>if ds.length=n/\cY ds=true then (match F k ds with
  | .ok r=>o r.1 (ρ.set i (some (.bU g r.2)))
  |_=> .bad) else .bad
 |_,_=> .bad
def tM(X:Cx)(i:Nat)(F:Dk->List D->R (D×Dk))(n:Nat)(fa:ao->R (List D)):TE:=λσ H Q=>∃H0 O0 O ρ g k ds r,At X H0 O0 O H ρ σ/\ρ[i]?=some (some (.bU g k))/\fa (bF ρ)= .ok ds/\ds.length=n/\cY ds=true/\F k ds= .ok r/\
 ∀v H',At X H0 O0 O H' (ρ.set i (some (.bU g r.2))) σ->cT X.K O H O H'->Rep X.K O H' r.1 v->Q v H'
theorem abx{i:Nat}{o:D->ao->So}{E:Ends}(h:tS X (jF i F n fa o) E σ H):tM X i F n fa σ H λv H'=>∃H0 O0 O ρ d,At X H0 O0 O H' ρ σ/\Rep X.K O H' d v/\qG X H0 O0 O H' E (o d ρ):=by
 let⟨H0,O0,O,ρ,j,h⟩:=h;unfold jF at h;split at h
 .rename_i g kk ds e1 e2;by_cases hl:ds.length=n/\cY ds=true
  .rw[z9p hl] at h;cases eF:F kk ds with
   |bad=>rw[eF] at h;show h.elim
   |err c=>rw[eF] at h;show h.elim
   | ok r=>
    rw[eF] at h;show⟨H0,O0,O,ρ,g,kk,ds,r,j,e1,e2,hl.1,hl.2,eF,λv H' j2 r2 rv=>⟨H0,O0,O,_,r.1,j2,rv,qG.go h r2⟩⟩
  .rw[z9n hl] at h;show h.elim
 .show h.elim
theorem Jj{z:Int}(hm:(m == "manner")=false/\(m == "pages")=false/\(m == "at")=false):ahD m (vK u l z)=none:=by
 simp only[vK,ahD,hm.1,hm.2.1,hm.2.2]
theorem ug(i:Nat)(T:jE X.K C)(G:Nq X.prog X.w X.K X.mg X.base C k m n F ts)(hT:Tb ts X.H₀)(hr:Room q X.A)(hkm:k<=q)(ha:DA X (e::es) fa)(hm:(m == "manner")=false/\(m == "pages")=false/\(m == "at")=false:=by decide)
  (hN:X.N[i]?=some x:=by rfl)(hv:Vis X.env.scope x:=by first |show agp rfl |show aga (agp rfl) |show aga (aga rfl))(hd:(x ==("__debug__" :Str))=false:=by decide)(hcd:(x ==("__classdict__" :Str))=false:=by decide)
  (hst:afP (e::es) X.env=(false,eval e X.env)::afP es X.env:=by rfl)(hpl:(ago cpos (afP es X.env)).any (·.1)=false:=by rfl)
  {pl:Sem Bool} (ht:eval (.Call (.Attribute (.Name x px) m apos) (e::es) [] cpos) X.env=(do
   let ov <-eval (.Name x px) X.env
   aix apos.atName
   let (f,first) <-holding [ov] (aiE ov m pl)
   ajk cpos f first (ago cpos (afP (e::es) X.env)) (agW cpos (agz [] X.env))):=by rfl):
  PE X (.Call (.Attribute (.Name x px) m apos) (e::es) [] cpos) (tM X i F n fa):=by
 intro pins s σ H Q I h;let⟨f,fd,ps,ok,fj,hb⟩:=G;let⟨H0,O0,O,ρ,g,kk,ds,r,j,e1,e2,hl,hn,eF,h⟩:=h;let⟨v0,hs,a,C',dx,l,xs,u,rfl,hg,R⟩:=j.inn.env.get i _ e1;cases jc.inj T.ns R.cl;show pe_meth (dvs:=[]) (pe_var hN hv hd hcd) T.cl fj (ok.mono hkm) hr hb .nil pass0 ha hst hpl ht pins s σ H _ I ⟨_,hs,a,dx,_,rfl,R.at_,Jj hm,?_⟩;show⟨bF ρ,rT H ρ σ O,j.inn.bF,?_⟩;rw[e2];intro vs H1 s1 r1;have j1:=j.grow s1;rw[ags];have R1:oY X.K O H1 kk a C dx l xs u:=⟨s1 _ _ R.at_,R.cl,R.oa,s1 _ _ R.pl,R.ol,R.mn.same s1,R.HW.same s1⟩;let⟨hHa,hOa⟩:=j.mine i _ a e1 rfl hs;let⟨hHl,hOl⟩:=j.jB i _ _ l e1 hs ⟨a,C,dx,u,kk.n,rfl,R.at_⟩;have ka:=((j.cI.new a R.oa).resolve_left hOa).2;have kl:=((j.cI.new l R.ol).resolve_left hOl).2;show⟨(hT.un I.base).same s1,O,a,C,dx,l,xs,u,kk,ds,vs,rfl,R1,ka,kl,m9 hn r1,hl,j1.inn.al,?_⟩;rw[eF];intro v H' dx' xs' u' kp R' rv;let⟨j2,r2⟩:=j1.WK e1 hs R1 kp R' hg;show h v H' j2 ((Same.cI s1).trans r2) rv
theorem Bu(i:Nat)(T:jE X.K C)(G:Nq X.prog X.w X.K X.mg X.base C k m 0 F ts)(hT:Tb ts X.H₀)(hr:Room q X.A)(hkm:k<=q)(hm:(m == "manner")=false/\(m == "pages")=false/\(m == "at")=false:=by decide)
  (hN:X.N[i]?=some x:=by rfl)(hv:Vis X.env.scope x:=by first |show agp rfl |show aga (agp rfl) |show aga (aga rfl))(hd:(x ==("__debug__" :Str))=false:=by decide)(hcd:(x ==("__classdict__" :Str))=false:=by decide)
  {pl:Sem Bool} (ht:eval (.Call (.Attribute (.Name x px) m apos) [] [] cpos) X.env=(do
   let ov <-eval (.Name x px) X.env
   aix apos.atName
   let (f,first) <-holding [ov] (aiE ov m pl)
   ajk cpos f first (ago cpos (afP [] X.env)) (agW cpos (agz [] X.env))):=by rfl):
  PE X (.Call (.Attribute (.Name x px) m apos) [] [] cpos) (tM X i F 0 λ_=> .ok []):=by
 intro pins s σ H Q I h;let⟨f,fd,ps,ok,fj,hb⟩:=G;let⟨H0,O0,O,ρ,g,kk,ds,r,j,e1,e2,hl,hn,eF,h⟩:=h;cases e2;let⟨v0,hs,a,C',dx,l,xs,u,rfl,hg,R⟩:=j.inn.env.get i _ e1;cases jc.inj T.ns R.cl;show pe_meth0 (dvs:=[]) (pe_var hN hv hd hcd) T.cl fj (ok.mono hkm) hr hb .nil pass0 ht pins s σ H _ I ⟨_,hs,a,dx,_,rfl,R.at_,Jj hm,?_⟩;let⟨hHa,hOa⟩:=j.mine i _ a e1 rfl hs;let⟨hHl,hOl⟩:=j.jB i _ _ l e1 hs ⟨a,C,dx,u,kk.n,rfl,R.at_⟩;have ka:=((j.cI.new a R.oa).resolve_left hOa).2;have kl:=((j.cI.new l R.ol).resolve_left hOl).2;show⟨hT.un I.base,O,a,C,dx,l,xs,u,kk,[],[],rfl,R,ka,kl,.nil,rfl,j.inn.al,?_⟩;rw[eF];intro v H' dx' xs' u' kp R' rv;let⟨j2,r2⟩:=j.WK e1 hs R kp R' hg;show h v H' j2 r2 rv
variable{ec:afV}
theorem yJ{i:Nat}(h:PE X ec (tM X i F n fa))(hs:ag6 ec none pos.line X.env=pure false:=by rfl):DS X (.Expr ec pos) (jF i F n fa λ_=> .nx):=PS.imp (ps_expr h hs) λσ H E z=>by
 let⟨H0,O0,O,ρ,g,kk,ds,r,j,e1,e2,hl,hn,eF,w⟩:=abx z;show⟨H0,O0,O,ρ,g,kk,ds,r,j,e1,e2,hl,hn,eF,λv H' j2 r2 rv=>let⟨H0',O0',O',ρ',d,j3,_,q⟩:=w v H' j2 r2 rv;q σ H' O' j3 .refl⟩
theorem Fe{i:Nat}(h:PE X ec (tM X i F n fa)):DS X (.Return (some ec) pos) (jF i F n fa .rm):=PS.imp (ps_ret h) λσ H E z=>by
 let⟨H0,O0,O,ρ,g,kk,ds,r,j,e1,e2,hl,hn,eF,w⟩:=abx z;show⟨H0,O0,O,ρ,g,kk,ds,r,j,e1,e2,hl,hn,eF,λv H' j2 r2 rv=>let⟨H0',O0',O',ρ',d,j3,rd,q⟩:=w v H' j2 r2 rv;q σ H' O' v j3 .refl rd⟩
def Rv(f:ao->R D):ao->So:=λρ=>match f (bF ρ) with
 | .ok d=>if eN d=true then .rm d ρ else .bad
 |_=> .bad
theorem aci{f:ao->R D}(he:DE X e f):DS X (.Return (some e) pos) (Rv f):=PS.imp (ps_ret he) λσ H E h=>by
 let⟨H0,O0,O,ρ,j,h⟩:=h;show⟨bF ρ,rT H ρ σ O,j.inn.bF,?_⟩;unfold Rv at h;cases e1:f (bF ρ) with
 |bad=>rw[e1] at h;show h
 |err c=>rw[e1] at h;show h.elim
 | ok d=>
  rw[e1] at h;by_cases hn:eN d=true
  .simp only[z9p hn] at h;show λv H' s r=>h σ H' O v (j.grow s) (Same.cI s) (G5 hn r)
  .simp only[z9n hn] at h;show h.elim
end
abbrev rV(X:Cx):(afK->Prop)->Hp->Dk->V->Prop:=λO H k v=>d9 X.K O H k v
def DV(X:Cx)(e:afV)(f:ao->R Dk):Prop:=PE X e (tG X (rV X) f)
theorem d9.fewer{K:afM}{O O1:afK->Prop}{H:Hp}(w:∀a,O1 a->O a){k:Dk}{v:V}:d9 K O H k v->d9 K O1 H k v
 |⟨a,C,dx,l,xs,u,e1,h1,hc,n1,h2,n2,h3,h4⟩=>⟨a,C,dx,l,xs,u,e1,h1,hc,(λz=>n1 (w _ z)),h2,(λz=>n2 (w _ z)),h3.fewer w,h4.fewer w⟩
section
variable{X:Cx}{C:afK}{o e:afV}{es:List afV}{f:ao->R Dk}{fa:ao->R (List D)}{pos apos cpos px p:Pos}{x m:Str}{k n q:Nat}
def cD(ρ:ao)(i:Nat):R Dk:=match ρ[i]? with
 |some (some (.eU k))=> .ok k
 |_=> .bad
theorem bL(i:Nat)(hN:X.N[i]?=some x:=by rfl)(hv:Vis X.env.scope x:=by first |show agp rfl |show aga (agp rfl) |show aga (aga rfl))(hd:(x ==("__debug__" :Str))=false:=by decide)(hcd:(x ==("__classdict__" :Str))=false:=by decide):
  DV X (.Name x pos) (λρ=>cD ρ i):=by
 show PE.imp (pe_var hN hv hd hcd) λσ H Q h=>?_;let⟨ρ,O,j,h⟩:=h;have h:good X (rV X) O (cD ρ i) σ H Q:=h;unfold cD at h;split at h
 .rename_i d e;let⟨v,e1,r⟩:=j.env.get i _ e;show⟨v,e1,fin h r⟩
 .show h.elim
def iV(f:ao->R Dk)(t:Dk->D):ao->R D:=λρ=>(f ρ).bind λk=> .ok (t k)
theorem Fg(T:jE X.K C)(he:DV X o f)(hb:ahK o "at" X.env (eval o X.env)=eval o X.env:=by rfl):DE X (.Attribute o "at" pos) (iV f λk=> .int k.n):=PE.imp (pe_fld he hb) λσ H Q ⟨ρ,O,j,h⟩=>go j h λk v H1 _ _ r1 _ h1=>by
 let⟨a,C',dx,l,xs,u,rfl,q,hc,_⟩:=r1;cases jc.inj T.ns hc;show⟨a,C,dx,_,_,rfl,q,T.cl,T.na,rfl,fin h1 (cg _)⟩
theorem KR(T:jE X.K C)(he:DV X o f)(hb:ahK o "manner" X.env (eval o X.env)=eval o X.env:=by rfl):DE X (.Attribute o "manner" pos) (iV f Dk.m):=PE.imp (pe_fld he hb) λσ H Q ⟨ρ,O,j,h⟩=>go j h λk v H1 _ _ r1 _ h1=>by
 let⟨a,C',dx,l,xs,u,rfl,q,hc,_,_,_,rm,_⟩:=r1;cases jc.inj T.ns hc;show⟨a,C,dx,_,_,rfl,q,T.cl,T.nm,rfl,fin h1 rm⟩
theorem Fi(T:jE X.K C)(he:DV X o f)(hb:ahK o "pages" X.env (eval o X.env)=eval o X.env:=by rfl):DE X (.Attribute o "pages" pos) (iV f λk=> .lst k.pg):=PE.imp (pe_fld he hb) λσ H Q ⟨ρ,O,j,h⟩=>go j h λk v H1 _ _ r1 _ h1=>by
 let⟨a,C',dx,l,xs,u,rfl,q,hc,_,ql,nl,_,rp⟩:=r1;cases jc.inj T.ns hc;show⟨a,C,dx,_,_,rfl,q,T.cl,T.np,rfl,fin h1 (lD ql nl rp)⟩
def YS(K:afM)(n:Nat)(F:Dk->List D->R D):Sp:=λvs H Q _=>∃O k v0 ds ws,vs=v0::ws/\d9 K O H k v0/\aM K O H ds ws/\ds.length=n/\(∀a,O a->∃o,H a=some o)/\match F k ds with
 | .ok d=>∀v H',Same H H'->Rep K O H' d v->Q v H'
 |_=>False
theorem Nr{w:af4}{x:Str}{f:afK}{k n m:Nat}(Fn:Fun K x qual st f fd)(S:FnScope N ps (defScope st))(hn:ps.length=n+1)(hm:N.length=n+1+m)
  (hb:∀(cdv:afL) (A:af5) (outer:List agA) (s:afN) (H:Hp) (E:XK),Room k (A.deeper (ag9 qual (defScope st) s.heap.objs.size f cdv))->iG (cxOf CX0 P w K mg base N qual (defScope st) f cdv A outer s H E).nox (defBody st) g):
  FnOk P w K mg base CX0 (k+1) f fd ps (YS K n λk ds=>cZ m g (.eU k::ds.map .val)):=by
 show Fn.ok S (λvs H Q E h=>?_) (λcdv A outer s H vs Q E hr h=>?_)
 .let⟨O,k,v0,ds,ws,rfl,_,r,hl,_⟩:=h;rw[hn,afY,<-r.length,hl]
 .let⟨O,k,v0,ds,ws,rfl,rv,r,hl,al,h⟩:=h;have rY:N.length=(v0::ws).length+m:=by rw[hm,<-hl,r.length];rfl
  show⟨_,hb cdv A outer s H E hr,H,O,O,(Ent.eU k::ds.map Ent.val).map some++afO m none,?_,EY h⟩;rw[kW rY];show pI (X:=(cxOf CX0 P w K mg base N qual (defScope st) f cdv A outer s H E).nox) (by rw[afY,z1g,r.length];show rY) (.cons ⟨rv,rfl⟩ (nj r)) al
def Jk(P:afZ)(w:af4)(K:afM)(mg:Str->Option afL)(base:af2)(C:afK)(k:Nat)(m:Str)(n:Nat)(F:Dk->List D->R D):Prop:=
 ∃f fd ps,FnOk P w K mg base CX0 k f fd ps (YS K n F)/\Meth K C m f/\Binds K fd ps []
def cW(F:Dk->List D->R D)(n:Nat)(f:ao->R Dk)(fa:ao->R (List D)):ao->R D:=λρ=>(f ρ).bind λk=>(fa ρ).bind λds=>aO (F k) n ds
theorem Rw{Q:VK}{k:Dk}{v:V}{E:XK}(j:In X O H ρ σ)(r:d9 X.K O H k v)(rs:aM X.K O H ds vs)(h:good X (rD X) O (aO (F k) n ds) σ H Q):YS X.K n F (v::vs) H Q E:=by
 unfold aO at h;by_cases hl:ds.length=n
 .rw[z9p hl] at h;show⟨O,k,v,ds,vs,rfl,r,rs,hl,j.al,?_⟩;cases q:F k ds with
  |ok d=>rw[q] at h;show h
  |err c=>rw[q] at h;show h
  |bad=>rw[q] at h;show h
 .rw[z9n hl] at h;show h.elim
theorem afx(T:jE X.K C)(G:Jk X.prog X.w X.K X.mg X.base C k m n F)(hr:Room q X.A)(hkm:k<=q)(ho:DV X o f)(ha:DA X (e::es) fa)(hm:(m == "manner")=false/\(m == "pages")=false/\(m == "at")=false:=by decide)
  (hst:afP (e::es) X.env=(false,eval e X.env)::afP es X.env:=by rfl)(hpl:(ago cpos (afP es X.env)).any (·.1)=false:=by rfl)
  {pl:Sem Bool} (ht:eval (.Call (.Attribute o m apos) (e::es) [] cpos) X.env=(do
   let ov <-eval o X.env
   aix apos.atName
   let (f,first) <-holding [ov] (aiE ov m pl)
   ajk cpos f first (ago cpos (afP (e::es) X.env)) (agW cpos (agz [] X.env))):=by rfl):
  DE X (.Call (.Attribute o m apos) (e::es) [] cpos) (cW F n f fa):=by
 let⟨f',fd,ps,ok,fj,hb⟩:=G;show PE.imp (pe_meth (dvs:=[]) ho T.cl fj (ok.mono hkm) hr hb .nil pass0 ha hst hpl ht) λσ H Q ⟨ρ,O,j,h⟩=>go j h λk v H1 _ _ r1 j1 h1=>?_;let⟨a,C',dx,l,xs,u,rfl,q1,hc,z⟩:=id r1;cases jc.inj T.ns hc;show⟨a,dx,_,rfl,q1,Jj hm,go j1 h1 λds vs H2 _ s2 r2 j2 h2=>?_⟩;rw[ags];show Rw j2 (d9.go (Same.cI s2) r1) r2 h2
theorem cu(T:jE X.K C)(G:Jk X.prog X.w X.K X.mg X.base C k m 0 F)(hr:Room q X.A)(hkm:k<=q)(ho:DV X o f)(hm:(m == "manner")=false/\(m == "pages")=false/\(m == "at")=false:=by decide)
  {pl:Sem Bool} (ht:eval (.Call (.Attribute o m apos) [] [] cpos) X.env=(do
   let ov <-eval o X.env
   aix apos.atName
   let (f,first) <-holding [ov] (aiE ov m pl)
   ajk cpos f first (ago cpos (afP [] X.env)) (agW cpos (agz [] X.env))):=by rfl):
  DE X (.Call (.Attribute o m apos) [] [] cpos) (cW F 0 f λ_=> .ok []):=by
 let⟨f',fd,ps,ok,fj,hb⟩:=G;show PE.imp (pe_meth0 (dvs:=[]) ho T.cl fj (ok.mono hkm) hr hb .nil pass0 ht) λσ H Q ⟨ρ,O,j,h⟩=>go j h λk v H1 _ _ r1 j1 h1=>?_;let⟨a,C',dx,l,xs,u,rfl,q1,hc,z⟩:=id r1;cases jc.inj T.ns hc;show⟨a,dx,_,rfl,q1,Jj hm,Rw (E:=E0) j1 r1 .nil h1⟩
def adW(P:afZ)(w:af4)(K:afM)(mg:Str->Option afL)(base:af2)(k:Nat)(x:Str)(n:Nat)(F:Dk->List D->R D):Prop:=
 ∃f fd ps,FnOk P w K mg base CX0 k f fd ps (YS K n F)/\mg x=some (.ref f)/\agg K (.ref f)=true/\Binds K fd ps []
theorem aaD(G:adW X.prog X.w X.K X.mg X.base k x n F)(hr:Room q X.A)(hkm:k<=q)(ho:DV X o f)(ha:DA X es fa)(hg:Gl X x:=by rfl)(hdb:(x ==("__debug__" :Str))=false:=by decide)(he:afP (o::es) X.env=(false,eval o X.env)::afP es X.env:=by rfl)(hpl:(ago pos (afP es X.env)).any (·.1)=false:=by rfl):
  DE X (.Call (.Name x p) (o::es) [] pos) (cW F n f fa):=by
 let⟨f',fd,ps,ok,hm,hk,hb⟩:=G;show PE.imp (pe_call (dvs:=[]) (ok.mono hkm) hr hg hm hk hb .nil pass0 (pa_cons ho ha he) hdb he hpl) λσ H Q ⟨ρ,O,j,h⟩=>go j h λk v H1 _ _ r1 j1 h1=>go j1 h1 λds vs H2 _ s2 r2 j2 h2=>?_;show YS X.K n F ((v::vs)++[]) H2 Q E0;rw[ags];show Rw j2 (d9.go (Same.cI s2) r1) r2 h2
end
section
variable{P:afZ}{w:af4}{K:afM}{mg:Str->Option afL}{base:af2}
def yK(m:Nat)(g:ao->So)(ds:List D):R Dk:=match g ((ds.map Ent.val).map some++afO m none) with
 | .rk k=> .ok k
 | .ex c _=> .err c
 |_=> .bad
theorem fnR{x:Str}{f:afK}{m:Nat}(Fn:Fun K x qual st f fd)(S:FnScope N ps (defScope st))(hn:ps.length=n)(hm:N.length=n+m)
  (hb:∀(cdv:afL) (A:af5) (outer:List agA) (s:afN) (H:Hp) (E:XK),Room k (A.deeper (ag9 qual (defScope st) s.heap.objs.size f cdv))->Tb ts H->iG (cxOf (rW P w) P w K mg base N qual (defScope st) f cdv A outer s H E) (defBody st) g):
  FnOk P w K mg base (rW P w) (k+1) f fd ps (WD (λO H k v=>d9 K O H k v) ts K n (yK m g)):=by
 let⟨oc,od,kV,doc,pm,an,cdv,ct,osl,rfl,lk,hcd⟩:=Fn.ex;show fn_of lk hcd S (λvs H Q E h=>?_) λA outer s H vs Q E hr h=>?_
 .let⟨_,O,ds,r,hl,_⟩:=h;rw[hn,<-hl,r.length]
 .let⟨hT,O,ds,r,hl,al,h⟩:=h;have rY:N.length=vs.length+m:=by rw[hm,<-hl,r.length]
  show⟨_,hb cdv A outer s H E hr hT,H,O,O,(ds.map Ent.val).map some++afO m none,?_,?_⟩
  .rw[kW rY];show pI (X:=cxOf (rW P w) P w K mg base N qual (defScope st) f cdv A outer s H E) (by rw[z1g,r.length];show rY) (nj r) al
  .unfold yK at h;cases e2:g ((ds.map Ent.val).map some++afO m none) with
   |rk k=>rw[e2] at h;show λv H' s' r'=>h v H' s' r'
   |ex c ρ'=>rw[e2] at h;show λσ' H' O' j'=>Ja j'.same h
   |rt d=>rw[e2] at h;show h.elim
   |nx _=>rw[e2] at h;show h.elim
   |bk _=>rw[e2] at h;show h.elim
   |ct _=>rw[e2] at h;show h.elim
   |rm _ _=>rw[e2] at h;show h.elim
   |bad=>rw[e2] at h;show h.elim
end
section
variable{X:Cx}{e:afV}{f:ao->R Dk}{pos:Pos}
def aaE(i:Nat):ao->So:=λρ=>match cD (bF ρ) i with
 | .ok k=> .rk k
 |_=> .bad
theorem acj{i:Nat}(he:DV X e (λρ=>cD ρ i)):DS X (.Return (some e) pos) (aaE i):=PS.imp (ps_ret he) λσ H E h=>by
 let⟨H0,O0,O,ρ,j,h⟩:=h;show⟨bF ρ,rT H ρ σ O,j.inn.bF,?_⟩;show good X (rV X) (rT H ρ σ O) (cD (bF ρ) i) σ H E.rt;unfold aaE at h;cases e1:cD (bF ρ) i with
 |bad=>rw[e1] at h;show h.elim
 |err c=>rw[e1] at h;show h.elim
 | ok k=>
  rw[e1] at h;show λv H1 s r=>h v H1 (j.same.trans s) (d9.fewer j.adu r)
theorem At.afy{H0:Hp}{O0:afK->Prop}(j:At X H0 O0 O H ρ σ){i:Nat}(hi:i<X.N.length){en:Ent}{v:V}(r:fM X.K O H en v)(ho:en.own=false):At X H0 O0 O H (ρ.set i (some en)) (σ.set i (some v)):=by
 have h1:i<ρ.length:=by rw[j.inn.iH];show hi
 have h2:i<σ.length:=by rw[j.inn.len];show hi
 have un:∀{m:Nat} {x:Ent} {w:V},(ρ.set i (some en))[m]?=some (some x)->x.own=true->(σ.set i (some v))[m]?=some (some w)->ρ[m]?=some (some x)/\σ[m]?=some (some w):=λ{m x w} h ho' hs=>by
  have hm:m≠i:=λz=>by subst z;rw[z2a h1] at h;cases h;rw[ho] at ho';cases ho'
  rw[z1e (afT hm)] at h hs;show⟨h,hs⟩
 show⟨j.same,j.cI,j.sub,⟨⟨λk e q=>?_,λk l e e' u hkl hk hl ok ol sk sl=>?_,λk l e e' u u' r hkl hk sk ha hl ol sl=>?_⟩,j.inn.al,by rw[agM];show j.inn.len,by rw[agM];show j.inn.iH⟩,λk e a q ho' hs=>?_,λk e w r q hs ha=>?_⟩
 .by_cases hki:k=i
  .subst hki;rw[z2a h1] at q;cases q;show⟨v,z2a h2,r⟩
  .rw[z1e (afT hki)] at q |-;show j.inn.env.get k e q
 .let⟨a1,a2⟩:=un hk ok sk;let⟨b1,b2⟩:=un hl ol sl;show j.inn.env.sep k l e e' u hkl a1 b1 ok ol a2 b2
 .let⟨a1,a2⟩:=un hk ha.own sk;let⟨b1,b2⟩:=un hl ol sl;show j.inn.env.jY k l e e' u u' r hkl a1 a2 ha b1 ol b2
 .let⟨a1,a2⟩:=un q ho' hs;show j.mine k e a a1 ho' a2
 .let⟨a1,a2⟩:=un q ha.own hs;show j.jB k e w r a1 a2 ha
def Vu(r:R Dk)(ρ:ao)(k:Dk->So):So:=match r with
 | .ok d=>k d
 | .err c=> .ex c ρ
 | .bad=> .bad
def Rx(f:ao->R Dk)(i:Nat):ao->So:=λρ=>Vu (f ρ) ρ λk=> .nx (ρ.set i (some (.eU k)))
theorem acn(i:Nat){x:Str}{pos':Pos}(hN:X.N.Nodup)(he:DV X e f)(hi:X.N[i]?=some x:=by rfl)(hx:Loc X.env.scope x:=by first |show agp rfl |show aga rfl)(hs:ag6 e (some (.Name x pos')) pos.line X.env=pure false:=by rfl)
  (hf:X.fn x=true\/X.env.scope.names.lookup x=some .local:=by first |show .inl rfl |show .inr rfl):DS X (.Assign [.Name x pos'] e pos) (Rx f i):=by
 show PS.imp (ps_set hN hi hx he hs hf) λσ H E h=>?_;let⟨H0,O0,O,ρ,j,h⟩:=h;show⟨ρ,O,j.inn,?_⟩;unfold Rx Vu at h;cases e1:f ρ with
 |bad=>rw[e1] at h;show h
 |err c=>rw[e1] at h;show h σ H O j
 | ok k=>
  rw[e1] at h;show λv H' s r=>h _ H' O ((j.grow s).afy (z1b hi).1 (en:= .eU k) r rfl) (Same.cI s)
def Jl(f:ao->R Dk):ao->So:=λρ=>Vu (f ρ) ρ λ_=> .nx ρ
theorem aaF(he:DV X e f)(hs:ag6 e none pos.line X.env=pure false:=by rfl):DS X (.Expr e pos) (Jl f):=PS.imp (ps_expr he hs) λσ H E h=>by
 let⟨H0,O0,O,ρ,j,h⟩:=h;show⟨ρ,O,j.inn,?_⟩;unfold Jl Vu at h;cases e1:f ρ with
 |bad=>rw[e1] at h;show h
 |err c=>rw[e1] at h;show h σ H O j
 | ok k=>
  rw[e1] at h;show λv H' s r=>h σ H' O (j.grow s) (Same.cI s)
end
section
variable{prog:afZ}{w:af4}{A:af5}{E:afL->afN->Prop}{s:afN}
theorem Ub{a:Nat}(ha:a<=n):ah9 (some (a:Int)) none none n=((a:Int),(n:Int),1):=by
 simp only[ah9,akA];rw[z9n (show ¬((a:Int)<0) by omega),z9p (show (1:Int) > 0 by decide),z9p (show (1:Int) > 0 by decide)];congr 1;omega
theorem Ry{b sl:afK}{items new:Array afL}{n2:Nat}{vl:afL}{a:Nat}{Q:Unit->afN->Prop}
  (e:s.heap.get? l=some {cls:= .type "list",data:= .seq items n})(e2:s.heap.get? b=some {cls:= .type "list",data:= .seq new n2})(hne:l≠b)
  (hs:s.heap.IsSliceOf sl vl .none .none)(pl:aje vl (some (a:Int)))(ha:a<=items.size)
  (hsz:items.size+new.size<=sizeLine)(h:Q Unit.unit {s with heap:=s.heap.update l (ahx λxs=>xs.extract 0 a++new++xs.extract items.size xs.size)}):
  afS (model prog w) A (setItem (.ref l) (.ref sl) (.ref b)) Q E s:=by
 have hl:s.heap.IsList l items:=PySem.IsL.isList e;have hb:s.heap.IsList b new:=PySem.IsL.isList e2;let⟨os,hos,hcs,hds⟩:=id hs;have hTs:s.TypeIs (.ref sl) "slice" :=⟨os,hos,hcs⟩;have hsame:Builtin.List.listSameRef (.ref l) (.ref b)=false:=beq_eq_false_iff_ne.mpr hne;have hmax:(max (a:Int) (items.size:Int)).toNat=items.size:=()
 have hz':((λxs:Array afL=>xs.extract 0 a++new++xs.extract items.size xs.size) items).size<=sizeLine+1:=by
  simp only[Array.size_append,Array.size_extract];omega
 unfold setItem;show aho ?_;show aft (akf hl.typeIs {} ?_);show aft (agG (name:=ahm "__setitem__") hl.typeIs slot_list_setitem
  (agT slot_list_setitem hl.typeIs entry_list_setitem ?_ (args_list_setitem _ _ _)))
 show afS _ _ (aj2 (.ref sl) >>=_) _ _ s;show aft ?_;unfold aj2;show aft (wpAny_specialOf hTs slice_no_index ?_);simp only[Option.isNone_none,if_true];show afQ ?_;show afS _ _ (typeOf (.ref sl) >>=_) _ _ s;show aft (ai1 hTs ?_);rw[z9n {}];rw[listSliceParts_eq];show aft (aft (agf hos hds (x:= .none) rfl (aft (wpAny_listPart .none ?_))));rw[z9n (show ¬((rawPart none ==agN 0)=true) from af6)];show aft (agf hos hds (x:=vl) rfl (aft (wpAny_listPart pl ?_)));show aft (agf hos hds (x:= .none) rfl (aft (wpAny_listPart .none (afQ ?_))));simp only[hsame,agO,if_false];show aft (m:=akr (.ref b) "must assign iterable to extended slice") ?_;unfold akr;show aft (ai1 hb.typeIs ?_);simp only[beq_self_eq_true,Bool.true_or,if_true];unfold Builtin.List.listItems;show aft (agI e2 rfl (afQ ?_));show aft (aft (agI e rfl (afQ ?_)));show aft (ahE ((sliceIndices_raw (some (a:Int)) none none items.size ()).trans (congrArg (pure:Int×Int×Int->Sem (Int×Int×Int)) (Ub ha))) ?_);show afS _ _ (if ((1:Int) ==1)=true then _ else _) _ _ s;rw[z9p {}];show aft (ahG ?_);simp only[notLongL hsz,agO,if_false]
 first |show aft (afQ ?_) |skip
 show afS _ _ (updateSeq l (λxs=>xs.extract 0 ((a:Int)).toNat++new++xs.extract (max (a:Int) (items.size:Int)).toNat xs.size) >>=_) _ _ s;rw[hmax,ahs];show aft (wpAny_updateSeq (hz:=z0b (aii _ _) hsz) (_hz':=hz') e rfl ?_);show aft (ahR ?_)
 first
  |show aft (afQ (afQ ⟨.none,rfl,afQ h⟩))
  |show afQ ⟨.none,rfl,afQ h⟩
end
section
variable{X:Cx}{C:afK}{x:Str}{px apos p2 p3 pos cpos:Pos}{e lo:afV}{es:List afV}{fa:ao->R (List D)}{fl:ao->R D}
theorem aaG{s:afN}{b sl:afK}{ys:List V}{a:Int}{vl:afL}{Q:Unit->afN->Prop}(I:Inv X pins σ H s)
  (hH:H l=some (.lst xs))(hB:H b=some (.lst ys))(hne:l≠b)(hs:s.heap.IsSliceOf sl vl .none .none)(ra:RelV (.int a) vl)(h0:0<=a)(hc:a<=xs.length)
  (hz:xs.length+ys.length<=sizeLine)(h:∀s',Inv X pins σ (upd H l (.lst (xs.take a.toNat++ys))) s'->Q Unit.unit s'):
  afS (model X.prog X.w) X.A (setItem (.ref l) (.ref sl) (.ref b)) Q X.xe s:=by
 let⟨ta,rfl⟩:=ra;let⟨z,its,n,r,hl,e⟩:=I.lstM hH;let⟨z2,its2,n2,r2,hl2,e2⟩:=I.lstM hB;let⟨a',rfl⟩:=ag5 h0;simp only[ahs] at h;show Ry (a:=a') e e2 hne hs (.int _ _) (by rw[z1c];omega) (by rw[z1c,z1c];omega) (h _ ?_);show I.lset (its':=its.take a'++its2) (t':=s.toks) hH e ?_ (Vals.append (r.take _) r2) ?_
 .show its.toArray.extract 0 a'++its2.toArray++its.toArray.extract its.toArray.size its.toArray.size=_;rw[splice_eq,z1c,akD,ags]
 .rw[z1d,aiJ];omega
def Rz(i:Nat)(fl:ao->R D)(fa:ao->R (List D)):ao->So:=λρ=>match ρ[i]?,fa (bF ρ),fl (bF ρ) with
 |some (some (.bU g k)),.ok ds,.ok (.int a)=>if cY ds=true/\0<=a/\a<=k.pg.length/\k.pg.length+ds.length<=1000000 then .nx (ρ.set i (some (.bU g ⟨k.m,k.pg.take a.toNat++ds,k.n⟩))) else .bad
 |_,_,_=> .bad
theorem aco(i:Nat)(T:jE X.K C)(hl:DE X lo fl)(ha:DA X es fa)(hN:X.N[i]?=some x:=by rfl)(hv:Vis X.env.scope x:=by first |show agp rfl |show aga (agp rfl) |show aga (aga rfl))(hd:(x ==("__debug__" :Str))=false:=by decide)(hcd:(x ==("__classdict__" :Str))=false:=by decide)
  (hb:ahK (.Name x px) "pages" X.env (eval (.Name x px) X.env)=eval (.Name x px) X.env:=by rfl)
  (hs:ag6 (.List es cpos) (some (.Subscript (.Attribute (.Name x px) "pages" apos) (.Slice (some lo) none none p2) p3)) pos.line X.env=pure false:=by rfl):
  DS X (.Assign [.Subscript (.Attribute (.Name x px) "pages" apos) (.Slice (some lo) none none p2) p3] (.List es cpos) pos) (Rz i fl fa):=by
 intro pins s σ H E I h;let⟨H0,O0,O,ρ,j,h⟩:=h;unfold Rz at h;split at h
 .rename_i g k ds a e1 e2 e3;by_cases c:cY ds=true/\0<=a/\a<=k.pg.length/\k.pg.length+ds.length<=1000000
  .rw[z9p c] at h;let⟨c1,c2,c3,c4⟩:=c;let⟨v0,q0,a0,C',dx,l,xs,u,rfl,hg,R⟩:=j.inn.env.get i _ e1;cases jc.inj T.ns R.cl;have hle:=R.HW.length;have big:=dW;show wpAny_Assign_Subscript (thn (Eo ha pins s σ H (λv H2=>∃b vs H1,v= .ref b/\Same H H1/\H1 b=none/\H2=upd H1 b (.lst vs)/\aM X.K (rT H ρ σ O) H1 ds vs) I ⟨bF ρ,rT H ρ σ O,j.inn.bF,?_⟩) λr s1 ⟨v,H2,I2,rv,b,vs,H1,ev,Vv,fb,eH2,rds⟩=>?_) hs
   .rw[e2];intro vs H1 sm rr;show⟨by rw[<-rr.length];omega,λb fb _=>⟨b,vs,H1,rfl,sm,fb,rfl,rr⟩⟩
   subst ev eH2;cases rv;have smb:Same H1 (upd H1 b (.lst vs)):=Same.upd fb;have YT:=Vv.trans smb;show thn (pe_fld (X:=X) (pos:=apos) (pe_var hN hv hd hcd (pos:=px)) hb pins s1 σ _ (λv H'=>v= .ref l/\H'=upd H1 b (.lst vs)) I2 ⟨_,q0,a0,C,dx,_,_,rfl,YT _ _ R.at_,T.cl,T.np,rfl,rfl,rfl⟩) λu' s2 bB=>?_;let⟨y,H3,I3,ry,ey,eH3⟩:=bB;subst ey eH3;cases ry;show wpAny_Slice ?_;rw[evalPart_some,aj7];show thn (hl pins s2 σ _ (λv H'=>v= .int a/\Same (upd H1 b (.lst vs)) H') I3 ⟨bF ρ,rT H ρ σ O,j.inn.bF.same YT,?_⟩) λul s3 ⟨y,H4,I4,ry,ey,RB⟩=>?_
   .rw[e3];show λv H' sm r=>⟨r.int,sm⟩
   subst ey;show afQ (afQ ?_);have I5:Inv X pins σ H4 {s3 with heap:=s3.heap.push {cls:= .type "slice",data:= .fields #[ul,.none,.none]}}:=I4.kept (t':=s3.toks) λb ob q=>z1a _ q;have vm:=YT.trans RB;have hl5:=vm _ _ R.pl;have nlb:l≠b:=λz=>by
    have:=Vv _ _ R.pl;rw[z,fb] at this;cases this
   have rb:aM X.K O H4 ds vs:=m9 c1 (rds.same (smb.trans RB));show aaG I5 hl5 (RB _ _ upd_same) nlb (ajY ..) ry c2 (by rw[<-hle];show c3) (by rw[<-hle,<-rb.length];omega) λs6 I6=>?_;have rc:cT X.K O H4 O (upd H4 l (.lst (xs.take a.toNat++vs))):=oZ R.ol hl5 trivial;have na:a0≠l:=λz=>by
    have:=R.at_;rw[z,R.pl] at this;cases this
   have R5:oY X.K O H4 k a0 C dx l xs u:=⟨vm _ _ R.at_,R.cl,R.oa,hl5,R.ol,R.mn.same vm,R.HW.same vm⟩;let⟨j2,r2⟩:=(j.grow vm).WK (k':=⟨k.m,k.pg.take a.toNat++ds,k.n⟩) e1 q0 R5 (λb' o _ nl z=>by rw[upd_ne nl];show z) (dx':=dx) (xs':=xs.take a.toNat++vs) (u':=u) ⟨by rw[upd_ne na];show R5.at_,R.cl,R.oa,upd_same,R.ol,R5.mn.go rc,((R5.HW.take _).append rb).go rc⟩ hg;show⟨σ,_,I6,h σ _ O j2 ((Same.cI vm).trans r2)⟩
  .rw[z9n c] at h;show h.elim
 .show h.elim
def WL(i:Nat)(z:Int->Int):ao->So:=λρ=>match ρ[i]? with
 |some (some (.bU g k))=> .nx (ρ.set i (some (.bU g ⟨k.m,k.pg,z k.n⟩)))
 |_=> .bad
theorem acp{op:ajN}{z:Int->Int}{i:Nat}{d:Int}{tg:Pos}{rd:V->V->Hp->VK->Prop}(T:jE X.K C)(hop:InOp X op rd)(hrd:∀n H Q,Q (.int (z n)) H->rd (.int n) (.int d) H Q)(hN:X.N[i]?=some x)(hv:Vis X.env.scope x)(hd:(x ==("__debug__" :Str))=false)(hcd:(x ==("__classdict__" :Str))=false){kk}:
  DS X (.AugAssign (.Attribute (.Name x px) "at" tg) op (.Constant (.int d) kk p2) pos) (WL i z):=by
 show PS.imp (ps_fldaug (pe_var hN hv hd hcd) pe_int hop) λσ H E h=>?_;let⟨H0,O0,O,ρ,j,h⟩:=h;unfold WL at h;split at h
 .rename_i g k e1;let⟨v0,q0,a0,C',dx,l,xs,u,rfl,hg,R⟩:=j.inn.env.get i _ e1;cases jc.inj T.ns R.cl;show⟨_,q0,a0,C,dx,_,_,rfl,R.at_,T.cl,T.na,rfl,hrd _ _ _ ⟨dx,_,R.at_,by show 3<1000;decide,?_⟩⟩;have rc:cT X.K O H O (upd H a0 (.ins C dx (vK u l (z k.n)))):=oZ R.oa R.at_ trivial;have na:l≠a0:=λz=>by
   have:=R.pl;rw[z,R.at_] at this;cases this
  let⟨j2,r2⟩:=j.WK (H':=upd H a0 (.ins C dx (vK u l (z k.n)))) (k':=⟨k.m,k.pg,z k.n⟩) e1 q0 R (λb' o na _ w=>by rw[upd_ne na];show w) (dx':=dx) (xs':=xs) (u':=u) ⟨upd_same,R.cl,R.oa,by rw[upd_ne na];show R.pl,R.ol,R.mn.go rc,R.HW.go rc⟩ hg;show h σ _ O j2 r2
 .show h.elim
theorem acq(i:Nat){d:Int}{tg:Pos}{kk}(T:jE X.K C)(hN:X.N[i]?=some x:=by rfl)(hv:Vis X.env.scope x:=by first |show agp rfl |show aga (agp rfl) |show aga (aga rfl))(hd:(x ==("__debug__" :Str))=false:=by decide)(hcd:(x ==("__classdict__" :Str))=false:=by decide):
  DS X (.AugAssign (.Attribute (.Name x px) "at" tg) .Add (.Constant (.int d) kk p2) pos) (WL i (· +d)):=acp T in_add (λn H Q q=>⟨n,d,rfl,rfl,q⟩) hN hv hd hcd
end
def spI(K:afM)(n:Nat)(F:List D->R Dk):Sp:=λvs H Q E=>∃O x C dx ds ws,vs= .ref x::ws/\H x=some (.ins C dx [])/\jc K C/\aM K O H ds ws/\ds.length=n/\(∀a,O a->∃o,H a=some o)/\K.lookup x=none/\match F ds with
 | .ok k=>∀H' l xs u,(∀b o,b≠x->H b=some o->H' b=some o)->H l=none->K.lookup l=none->H' x=some (.ins C dx (vK u l k.n))->H' l=some (.lst xs)->Rep K O H' k.m u->aM K O H' k.pg xs->Q .non H'
 | .err c=>∀C H',afW K afU c=some (some (.ref C))->E (.ref C) none H'
 | .bad=>False
theorem YW{v0:V}{m:Nat}(hl:X.N.length=ds.length+1+m)(r:aM X.K O H ds vs)(al:∀a,O a->∃o,H a=some o):
  In X O H (none::(ds.map (λd=>some (.val d))++afO m none)) (some v0::(vs.map some++afO m none)):=by
 have get:∀(i:Nat) e,(none::(ds.map (λd=>some (.val d))++afO m none):ao)[i]?=some (some e)->e.own=false/\∃v,(some v0::(vs.map some++afO m none))[i]?=some (some v)/\fM X.K O H e v:=λi e q=>by
  cases i with
  |zero=>simp at q
  | succ i=>
   let⟨v,h1,h2,h3⟩:=iJ r m i e (by simpa using q);show⟨h3,v,by simpa using h1,h2⟩
 show⟨⟨λi e q=>(get i e q).2,λi j e e' v _ hi _ oi=>?_,λi j e e' v v' r _ hi _ ha=>?_⟩,al,?_,?_⟩
 .rw[(get i e hi).1] at oi;cases oi
 .have:=ha.own;rw[(get i e hi).1] at this;cases this
 .rw[afY,z1d,z1g,agt,<-r.length,hl];omega
 .rw[afY,z1d,z1g,agt,hl];omega
def Fj(m:Nat)(f1 f2 f3:ao->R D)(f4:ao->R (List D))(ds:List D):R Dk:=
 let ρ:ao:=none::(ds.map (λd=>some (.val d))++afO m none)
 (f1 ρ).bind λ_=>(f2 ρ).bind λ_=>(zU (f3 ρ)).bind λu=>(zU (f4 ρ)).bind λpg=>if pg.length<=1000 then .ok ⟨u,pg,0⟩ else .bad
section
variable{P:afZ}{w:af4}{K:afM}{mg:Str->Option afL}{base:af2}
theorem fnI{x self:Str}{f:afK}{m:Nat}{e1 e2 e3:afV}{e4:List afV}{f1 f2 f3:ao->R D}{f4:ao->R (List D)}{p1 p2 p3 p4 p5 p6 p7 p8 p9 pa pb pc pd:Pos}{kk}(T:jE K C)(Fn:Fun K x qual st f fd)(S:FnScope N ps (defScope st))(hn:ps.length=n+1)(hm:N.length=n+1+m)
  (hbody:defBody st=[.Expr e1 p1,.Expr e2 p2,.Assign [.Attribute (.Name self p3) "manner" p4] e3 p5,.Assign [.Attribute (.Name self p6) "pages" p7] (.List e4 p8) p9,.Assign [.Attribute (.Name self pa) "at" pb] (.Constant (.int 0) kk pc) pd])
  (hN:N[0]?=some self)(hd:(self ==("__debug__" :Str))=false)(hcd:(self ==("__classdict__" :Str))=false)
  (hb :∀(cdv:afL) (A:af5) (outer:List agA) (s:afN) (H:Hp) (E:XK),Room k (A.deeper (ag9 qual (defScope st) s.heap.objs.size f cdv))->
   let X:=cxOf (rW P w) P w K mg base N qual (defScope st) f cdv A outer s H E
   DE X e1 f1/\DE X e2 f2/\DE X e3 f3/\DA X e4 f4/\Vis X.env.scope self/\ag6 e1 none p1.line X.env=pure false/\ag6 e2 none p2.line X.env=pure false/\ag6 e3 (some (.Attribute (.Name self p3) "manner" p4)) p5.line X.env=pure false/\
    ag6 (.List e4 p8) (some (.Attribute (.Name self p6) "pages" p7)) p9.line X.env=pure false/\ag6 (.Constant (.int 0) kk pc) (some (.Attribute (.Name self pa) "at" pb)) pd.line X.env=pure false):
  FnOk P w K mg base (rW P w) (k+1) f fd ps (spI K n (Fj m f1 f2 f3 f4)):=by
 let⟨oc,od,kV,doc,pm,an,cdv,ct,osl,rfl,lk,afz⟩:=Fn.ex;show fn_of lk afz S (λvs H Q E h=>?_) λA outer s H vs Q E hr h=>?_
 .let⟨O,y,C',dx,ds,ws,rfl,_,_,r,hl,_⟩:=h;rw[hn,afY,<-r.length,hl]
 let⟨O,y,C',dx,ds,ws,rfl,hy,hC,r,hl,al,ky,h⟩:=h;cases jc.inj T.ns hC;let⟨d1,d2,d3,d4,hv,w1,w2,w3,w4,w5⟩:=hb cdv A outer s H E hr;show⟨_,by rw[hbody];show pss_cons (ps_expr d1 w1) (pss_cons (ps_expr d2 w2) (pss_cons (ps_fld (pe_var hN hv hd hcd) d3 w3) (pss_cons (ps_fld (pe_var hN hv hd hcd) (Eo d4) w4) (pss_one (ps_fld (pe_var hN hv hd hcd) pe_int w5))))),?_⟩;have hst:L2.start N (.ref y::ws)=some (.ref y)::(ws.map some++afO m none):=by
  rw[kW (m:=m) (by rw[afY,<-r.length,hl,hm])];rfl
 rw[hst];have r0:aM K (λb=>O b\/b=y) H ds ws:=aM.ext ⟨λ_ _ h=>h,λ_ _ _ h=>h,λ_ _ _ _ _ h=>h⟩ (λb zs nb q z=>z.elim nb λz=>by
  subst z;rcases q with (q |⟨o,q⟩) |⟨o,_,_,q,_⟩
  .rw[hy] at q;cases q
  .rw[hy] at q;cases q
  .rw[ky] at q;cases q) ds ws r
 have al0:∀a,O a\/a=y->∃o,H a=some o:=λa z=>z.elim (al a) λz=>by rw[z];show⟨_,hy⟩
 have Vw:In (cxOf (rW P w) P w K mg base N qual (defScope st) f cdv A outer s H E) (λb=>O b\/b=y) H (none::(ds.map (λd=>some (.val d))++afO m none)) (some (.ref y)::(ws.map some++afO m none)):=YW (by rw[hl];show hm) r0 al0;have hv0:∀(i:Nat) e,(none::(ds.map (λd=>some (Ent.val d))++afO m none):ao)[i]?=some (some e)->e.Qt=true:=λi e q=>by
  cases i with
  |zero=>simp at q
  | succ i=>
   have q:(ds.map (λd=>some (Ent.val d))++afO m none)[i]?=some (some e):=by simpa using q
   rcases aiR.mp (agF q) with z |z
   .let⟨d,_,z⟩:=agV.mp z;cases z;rfl
   .cases (List.mem_replicate.mp z).2
 unfold Fj at h
 dsimp only at h
 generalize eρ:(none::(ds.map (λd=>some (Ent.val d))++afO m none):ao)=ρ at h Vw hv0
 generalize eσ:(some (V.ref y)::(ws.map some++afO m none):St)=σ at Vw
 have s0:σ[0]?=some (some (.ref y)):=by rw[<-eσ];rfl
 show⟨ρ,_,Vw,?_⟩;cases q1:f1 ρ with
 |bad=>rw[q1] at h;show h.elim
 |err c=>rw[q1] at h;show Ja (Same.refl H) h
 |ok d1'=>
 rw[q1] at h;intro v1 H1 Vv _;show⟨ρ,_,Vw.same Vv,?_⟩;cases q2:f2 ρ with
 |bad=>rw[q2] at h;show h.elim
 |err c=>rw[q2] at h;show Ja Vv h
 |ok d2'=>
 rw[q2] at h;intro v2 H2 YT _;have adX:=Vv.trans YT;show⟨ρ,_,Vw.same adX,?_⟩;cases q3:f3 ρ with
 |bad=>rw[q3] at h;show h.elim
 |err c=>rw[q3] at h;show h.elim
 |ok mm=>
 rw[q3] at h;intro u H3 sm3 ru;have WM:=adX.trans sm3;have hy3:=WM _ _ hy;show⟨_,s0,y,C,dx,[],rfl,hy3,T.cl,T.nm,{},?_⟩;have c1:cT K (λb=>O b\/b=y) H3 (λb=>O b\/b=y) (upd H3 y (.ins C dx [("manner",u)])):=oZ (.inr rfl) hy3 trivial;have al1:∀a,O a\/a=y->∃o,upd H3 y (.ins C dx [("manner",u)]) a=some o:=λa z=>by
  by_cases ea:a=y
  .rw[ea];show⟨_,upd_same⟩
  .let⟨o,q⟩:=al0 a z;show⟨o,by rw[upd_ne ea];show WM _ _ q⟩
 show⟨ρ,_,In.go (Vw.same WM) hv0 c1 al1,?_⟩;cases q4:f4 ρ with
 |bad=>rw[q4] at h;show h.elim
 |err c=>rw[q4] at h;show h.elim
 |ok pg=>
 rw[q4] at h;simp only[zU,R.aR] at h;by_cases hp:pg.length<=1000
 .rw[z9p hp] at h;intro vs H4 RB rvs;have big:=dW;show⟨by rw[<-rvs.length];omega,λl fl kl=>?_⟩;have hy4:=RB _ _ (upd_same (H:=H3) (a:=y) (o:= .ins C dx [("manner",u)]));have ny:y≠l:=λz=>by rw[z,fl] at hy4;cases hy4
  have hy5:upd H4 l (.lst vs) y=some (.ins C dx [("manner",u)]):=by rw[upd_ne ny];show hy4
  show⟨_,s0,y,C,dx,[("manner",u)],rfl,hy5,T.cl,T.np,by show 1<1000;decide,?_⟩;show⟨_,s0,y,C,dx,[("manner",u),("pages",.ref l)],rfl,upd_same,T.cl,T.na,by show 2<1000;decide,?_⟩;have c2:cT K (λb=>O b\/b=y) H4 (λb=>O b\/b=y) (upd H4 l (.lst vs)):=Same.cI (Same.upd fl);have c3:cT K (λb=>O b\/b=y) (upd H4 l (.lst vs)) (λb=>O b\/b=y) (upd (upd H4 l (.lst vs)) y (.ins C dx [("manner",u),("pages",.ref l)])):=oZ (.inr rfl) hy5 trivial;have c4:cT K (λb=>O b\/b=y) (upd (upd H4 l (.lst vs)) y (.ins C dx [("manner",u),("pages",.ref l)])) (λb=>O b\/b=y) (upd (upd (upd H4 l (.lst vs)) y (.ins C dx [("manner",u),("pages",.ref l)])) y (.ins C dx (vK u l 0))):=oZ (.inr rfl) upd_same trivial;have cc:=c2.trans (c3.trans c4);have kp:∀b o,b≠y->H b=some o->H4 b=some o:=λb o nb q=>RB _ _ (by rw[upd_ne nb];show WM _ _ q);show h _ l vs u (λb o nb q=>?_) ?_ kl upd_same ?_ ((ru.go (c1.trans ((Same.cI RB).trans cc))).fewer λ_=> .inl) ((rvs.go cc).fewer λ_=> .inl)
  .have nl:b≠l:=λz=>by have:=kp b o nb q;rw[z,fl] at this;cases this
   rw[upd_ne nb,upd_ne nb,upd_ne nl];show kp b o nb q
  .cases q:H l with
   |none=>rfl
   |some o=>rw[kp l o (afT ny) q] at fl;cases fl
  .rw[upd_ne (afT ny),upd_ne (afT ny)];show upd_same
 .rw[z9n hp] at h;show h.elim
end
def FnI(P:afZ)(w:af4)(K:afM)(mg:Str->Option afL)(base:af2)(C:afK)(k:Nat)(n:Nat)(F:List D->R Dk)(fd:agx)(ps:List Str):Prop:=
 ∃f,FnOk P w K mg base (rW P w) k f fd ps (spI K n F)/\Mk K C f
section
variable{X:Cx}{C:afK}{k n q:Nat}{fd:agx}{ps ks:List Str}{F:List D->R Dk}{x y:Str}{p p2 pos cpos:Pos}{e:afV}{es:List afV}{kws:List ahW}{fa fk:ao->R (List D)}
def sE(i:Nat)(f:ao->R Dk):ao->So:=λρ=>Vu (f ρ) ρ λk=>if eN k.m=true/\cY k.pg=true then .nx (ρ.set i (some (.bU none k))) else .bad
def rNew(X:Cx)(H:Hp):(afK->Prop)->Hp->Dk->V->Prop:=λO H' k v=>∃a C dx l xs u,v= .ref a/\H a=none/\X.K.lookup a=none/\H l=none/\X.K.lookup l=none/\H' a=some (.ins C dx (vK u l k.n))/\jc X.K C/\H' l=some (.lst xs)/\Rep X.K O H' k.m u/\aM X.K O H' k.pg xs
theorem YX{m:Nat}(T:jE X.K C)(G:FnI X.prog X.w X.K X.mg X.base C k n F fd ps)(hr:Room m X.A)(hkm:k+1<=m){s:afN}{us:List afL}{pa:List afL}{kw:List (Str×afL)}{Q:VK}
  (I:Inv X pins σ H s)(r1:aM X.K O H ds vs)(r:Vals vs us)(j:In X O H ρ σ)(hb:∀s' z,X.K.In s'.heap->us.length+1=ps.length->ajv s' fd ⟨z::pa,kw⟩ (ps.zip (z::us)))(h:good X (rNew X H) O (okN F n ds) σ H Q):afS (model X.prog X.w) X.A (ako (.ref C) pa kw) (EP X pins σ Q) X.xe s:=by
 let⟨f,ok,M⟩:=G;unfold okN at h;by_cases hl:ds.length=n
 .rw[z9p hl] at h;have fx:H (s.heap.objs.size+1)=none:=I.hok.fresh (akT _);have fd':H s.heap.objs.size=none:=I.hok.fresh (z0g _);have nx:s.heap.objs.size≠s.heap.objs.size+1:=agD (Nat.lt_succ_self _);have kx:X.K.lookup (s.heap.objs.size+1)=none:=by
   cases q:X.K.lookup (s.heap.objs.size+1) with
   |none=>rfl
   |some o=>show absurd (z2c (I.kIn _ _ q)) (Nat.not_lt_of_le (akT _))
  have I2:=Inv.made (C:=C) I;have sm:Same H (upd (upd H s.heap.objs.size (.own (s.heap.objs.size+1))) (s.heap.objs.size+1) (.ins C s.heap.objs.size [])):=(Same.upd fd').trans (Same.upd (by rw[upd_ne (afT nx)];show fx));have sp:spI X.K n F (.ref (s.heap.objs.size+1)::vs) (upd (upd H s.heap.objs.size (.own (s.heap.objs.size+1))) (s.heap.objs.size+1) (.ins C s.heap.objs.size [])) (λv H2=>v= .non/\Q (.ref (s.heap.objs.size+1)) H2) λu _ _=>∃c C,F ds= .err c/\u= .ref C/\afW X.K afU c=some (some (.ref C)):=by
   show⟨O,_,C,_,ds,vs,rfl,upd_same,T.ns,r1.same sm,hl,λa z=>let⟨o,q⟩:=j.al a z;⟨o,sm _ _ q⟩,kx,?_⟩;cases q:F ds with
   |bad=>rw[q] at h;show h
   |err c=>show λC _ hC=>⟨c,C,rfl,rfl,hC⟩
   | ok k=>
    rw[q] at h;intro H' l xs u kp hl0 kl e1 e2 rm rp;show⟨rfl,h _ H' (λb o z=>kp b o (ne_of_none z fx) (sm _ _ z)) ⟨_,C,_,l,xs,u,rfl,fx,kx,sm.free hl0,kl,e1,T.ns,e2,rm,rp⟩⟩
  have r2:Vals (V.ref (s.heap.objs.size+1)::vs) (af0 (s.heap.objs.size+1)::us):= .cons rfl r;have hll:us.length+1=ps.length:=by
   have:=ok.len _ _ _ _ sp;rw[afY,r.length] at this;show this
  show ahP (make_map (f:=f) I.kIn M.makes M.init (beq_iff_eq.mp M.fn) (ahI (ok.run _ X.stack _ _ ⟨af0 (s.heap.objs.size+1)::pa,kw⟩ (af0 (s.heap.objs.size+1)::us) _ _ _ ((hr.mono hkm).make C pa kw)
   (I2.env0.make C pa kw) (hb _ _ I2.kIn hll) r2 sp) λr s' hq'=>?_))
  cases r with
  | error ev=>
   let⟨a,C',T',H',rfl,hE,rs⟩:=hq';let⟨c,C'',q,z,hC⟩:=hE;cases z;rw[q] at h;show h _ pins _ a C' T' s' H' sm I2 hC rs
  | ok fl=>
   cases fl with
   | ret u=>
    let⟨v,H',I3,rv,ev,q3⟩:=I2.after hq';subst ev;show⟨rv,⟨V.ref (s.heap.objs.size+1),H',I3,rfl,q3⟩⟩
   |next=>show agm hq'
   |brk=>show agm hq'
   |cont=>show agm hq'
 .rw[z9n hl] at h;show h.elim
theorem aaH{i:Nat}{f:ao->R Dk}{H0:Hp}{O0:afK->Prop}{E:Ends}(hi:i<X.N.length)(j:At X H0 O0 O H ρ σ)(h:qG X H0 O0 O H E (sE i f ρ)):good X (rNew X H) O (f ρ) σ H λv H'=>E.nx (σ.set i (some v)) H':=by
 unfold sE Vu at h;cases e1:f ρ with
 |bad=>rw[e1] at h;show h
 |err c=>rw[e1] at h;show h σ H O j
 | ok k=>
  rw[e1] at h;by_cases c:eN k.m=true/\cY k.pg=true
  .simp only[z9p c] at h
   rintro v H' sm ⟨a,C,dx,l,xs,u,rfl,fa,ka,fl,kl,e2,hC,e3,rm,rp⟩
   let⟨j2,r2⟩:=j.afw hi sm ⟨fa,ka⟩ ⟨fl,kl⟩ (k:=k) (C:=C) (dx:=dx) (xs:=xs) (u:=u) ⟨e2,hC,.inr (.inl rfl),e3,.inr (.inr rfl),G5 c.1 rm,m9 c.2 rp⟩;show h _ _ _ j2 r2
  .simp only[z9n c] at h;show h.elim
theorem good.mono{α β:Type}{Rl Rm:(afK->Prop)->Hp->α->β->Prop}{r:R α}{Q:β->Hp->Prop}(h:good X Rl O r σ H Q)(w:∀a b H',Same H H'->Rm O H' a b->Rl O H' a b):good X Rm O r σ H Q:=by
 cases r with
 |bad=>show h
 |err c=>show h
 |ok a=>show λb H' s q=>h b H' s (w a b H' s q)
theorem acr{m:Nat}{sa sb sc}(i:Nat)(S:Sel sa sb sc)(T:jE X.K C)(G:FnI X.prog X.w X.K X.mg X.base C k n F fd ps)(hr:Room m X.A)(hkm:k+1<=m)(hb:KB X.K fd ps ks sa)(hN:X.N.Nodup)
  (ha:DA X (e::es) fa)(hkw:DK X kws fk)(hmg:X.mg x=some (.ref C))(hkp:agg X.K (.ref C)=true)(hi:X.N[i]?=some y:=by rfl)(hx:Loc X.env.scope y:=by first |show agp rfl |show aga rfl)
  (hf:X.fn y=true\/X.env.scope.names.lookup y=some .local:=by first |show .inl rfl |show .inr rfl)(hg:Gl X x:=by rfl)(hall:(agW cpos (agz kws X.env)).all (·.1.isSome)=true:=by rfl)(hks:(agW cpos (agz kws X.env)).filterMap (·.1)=ks:=by rfl)
  (hdb:(x ==("__debug__" :Str))=false:=by decide)(he:afP (e::es) X.env=(false,eval e X.env)::afP es X.env:=by rfl)
  (hpl:((ago cpos (afP (e::es) X.env)).any (·.1) || (agW cpos (agz kws X.env)).any (·.1.isNone))=false:=by rfl)
  (hs:ag6 (.Call (.Name x p) (e::es) kws cpos) (some (.Name y p2)) pos.line X.env=pure false:=by rfl):
  DS X (.Assign [.Name y p2] (.Call (.Name x p) (e::es) kws cpos) pos) (sE i (gb F n ks.length sc fa fk)):=by
 have pe:PE X (.Call (.Name x p) (e::es) kws cpos) (λσ H Q=>∃ρ O,In X O H ρ σ/\good X (rNew X H) O (gb F n ks.length sc fa fk ρ) σ H Q):=by
  intro pins s σ H Q I h;let⟨ρ,O,j,h⟩:=h;show agX (ld_glob I hg hmg ?_ hdb);have key:tG X (wM X) fa σ H λvs H1=>tG X (wM X) fk σ H1 λzs H2=>zs.length=ks.length/\Same H H2/\∃dd,aM X.K O H2 dd (vs++pickK .non sb zs)/\In X O H2 ρ σ/\good X (rNew X H) O (okN F n dd) σ H2 Q:=by
   show go j h λds vs H1 e1 s1 r1 j1 h1=>?_;show go j1 h1 λzd zs H2 e2 s2 r2 j2 h2=>?_;by_cases hz:zd.length=ks.length
   .rw[z9p hz] at h2;show⟨by rw[<-r2.length];show hz,s1.trans s2,_,(r1.same s2).append (S.reps r2),j2,h2⟩
   .rw[z9n hz] at h2;show h2.elim
  show ajK (h₀:=X.base) I.ok.mod.kin hkp hall (thn (ha cpos pins s σ H _ I key) λus s1 ⟨vs,H1,I1,r,q⟩=>?_) hpl he;show thn (hkw cpos pins s1 σ H1 _ I1 q) λws s2 ⟨zs,H2,I2,rz,q2⟩=>⟨I2.kIn,?_⟩;rw[hks];let⟨hz,sm,dd,r1,j1,h1⟩:=q2;show YX T G hr hkm I2 r1 (r.append (S.vals rz)) j1 (λs' z hin hl=>?_) (h1.mono λk v H' _ ⟨a,C,dx,l,xs,u,ev,f1,k1,f2,k2,z⟩=>⟨a,C,dx,l,xs,u,ev,sm.free f1,k1,sm.free f2,k2,z⟩);have:=hb s' (z::us) ws hin (by rw[z1d,u9] at hl;rw[afY];omega) (by rw[<-rz.length];show hz);show this
 show PS.imp (ps_set hN hi hx pe hs hf) λσ H E h=>?_;let⟨H0,O0,O,ρ,j,h⟩:=h;show⟨ρ,O,j.inn,aaH (z1b hi).1 j h⟩
end
section
variable{X:Cx}{H0 H:Hp}{O0 O:afK->Prop}{ρ:ao}{σ:St}
theorem At.drop(j:At X H0 O0 O H ρ σ){i:Nat}(hi:i<X.N.length){v:V}:At X H0 O0 O H (ρ.set i none) (σ.set i (some v)):=by
 have h1:i<ρ.length:=by rw[j.inn.iH];show hi
 have un:∀{m:Nat} {x:Ent},(ρ.set i none)[m]?=some (some x)->m≠i/\ρ[m]?=some (some x):=λ{m x} h=>by
  have hm:m≠i:=λz=>by subst z;rw[z2a h1] at h;cases h
  rw[z1e (afT hm)] at h;show⟨hm,h⟩
 have us:∀{m:Nat} {w:V},m≠i->(σ.set i (some v))[m]?=some (some w)->σ[m]?=some (some w):=λ{m w} hm h=>by
  rw[z1e (afT hm)] at h;show h
 show⟨j.same,j.cI,j.sub,⟨⟨λk e q=>?_,λk l e e' u hkl hk hl ok ol sk sl=>?_,λk l e e' u u' r hkl hk sk ha hl ol sl=>?_⟩,j.inn.al,by rw[agM];show j.inn.len,by rw[agM];show j.inn.iH⟩,λk e a q ho hs=>?_,λk e w r q hs ha=>?_⟩
 .let⟨n,q⟩:=un q;rw[z1e (afT n)];show j.inn.env.get k e q
 .show j.inn.env.sep k l e e' u hkl (un hk).2 (un hl).2 ok ol (us (un hk).1 sk) (us (un hl).1 sl)
 .show j.inn.env.jY k l e e' u u' r hkl (un hk).2 (us (un hk).1 sk) ha (un hl).2 ol (us (un hl).1 sl)
 .show j.mine k e a (un q).2 ho (us (un q).1 hs)
 .show j.jB k e w r (un q).2 (us (un q).1 hs) ha
theorem aM.four{d e f g:D}(r:aM K O H [d,e,f,g] xs):∃x y z w,xs=[x,y,z,w]/\Rep K O H d x/\Rep K O H e y/\Rep K O H f z/\Rep K O H g w:=by
 let⟨x,t,rfl,h1,h2⟩:=r.cons_inv;let⟨y,z,w,rfl,h3,h4,h5⟩:=h2.three;show⟨x,y,z,w,rfl,h1,h3,h4,h5⟩
end
def adY(i k m n:Nat)(a b c d:D)(ρ:ao):ao:=(((ρ.set i (some (.val a))).set k (some (.val b))).set m (some (.val c))).set n (some (.val d))
section
variable{X:Cx}{e:afV}{f:ao->R D}{pos:Pos}
def RD(f:ao->R D)(i k m n:Nat):ao->So:=λρ=>match f ρ with
 | .ok (.tup [a,b,c,d])=> .nx (adY i k m n a b c d ρ)
 | .err c=> .ex c ρ
 |_=> .bad
theorem acs(i k m n:Nat){x y z w:Str}{px py pz pw pt:Pos}{kt}(hc:X.calm=true)(hN:X.N.Nodup)(he:DE X e f)(hi:X.N[i]?=some x:=by rfl)(hk:X.N[k]?=some y:=by rfl)(hm:X.N[m]?=some z:=by rfl)(hn:X.N[n]?=some w:=by rfl)
  (hx:Loc X.env.scope x:=by first |show agp rfl |show aga rfl)(hy:Loc X.env.scope y:=by first |show agp rfl |show aga rfl)(hz:Loc X.env.scope z:=by first |show agp rfl |show aga rfl)(hw:Loc X.env.scope w:=by first |show agp rfl |show aga rfl)
  (hfx:X.fn x=true\/X.env.scope.names.lookup x=some .local:=by first |show .inl rfl |show .inr rfl)(Aw:X.fn y=true\/X.env.scope.names.lookup y=some .local:=by first |show .inl rfl |show .inr rfl)(hfz:X.fn z=true\/X.env.scope.names.lookup z=some .local:=by first |show .inl rfl |show .inr rfl)(hfw:X.fn w=true\/X.env.scope.names.lookup w=some .local:=by first |show .inl rfl |show .inr rfl)
  (hs:ahZ [.Tuple [.Name x px,.Name y py,.Name z pz,.Name w pw] kt pt] e pos.line X.env=pure false:=by rfl)(hsw:ah0 [.Tuple [.Name x px,.Name y py,.Name z pz,.Name w pw] kt pt] e X.env=pure none:=by rfl):
  DS X (.Assign [.Tuple [.Name x px,.Name y py,.Name z pz,.Name w pw] kt pt] e pos) (RD f i k m n):=by
 show PS.imp (ps_asg he (pg_tup hc (pgs_cons (pg_name hN hi hx hfx) (pgs_cons (pg_name hN hk hy Aw) (pgs_cons (pg_name hN hm hz hfz) (pgs_cons (pg_name hN hn hw hfw) pgs_nil))))) hs hsw) λσ H E h=>?_;let⟨H0,O0,O,ρ,j,h⟩:=h;show⟨ρ,O,j.inn,?_⟩;unfold RD at h;split at h
 .rename_i a b c d e1;rw[e1];intro v H' s r;let⟨p,xs,rfl,hq,rs⟩:=r.tup;let⟨v1,v2,v3,v4,rfl,r1,r2,r3,r4⟩:=rs.four;show⟨p,[v1,v2,v3,v4],rfl,hq,rfl,v1,[v2,v3,v4],rfl,v2,[v3,v4],rfl,v3,[v4],rfl,v4,[],rfl,rfl,?_⟩;show h _ H' O (((((j.grow s).set (z1b hi).1 r1).set (z1b hk).1 r2).set (z1b hm).1 r3).set (z1b hn).1 r4) (Same.cI s)
 .rename_i c e1;rw[e1];show h σ H O j
 .show h.elim
end
def WQ(P:afZ)(w:af4)(K:afM)(mg:Str->Option afL)(base:af2)(k n:Nat)(ts:List (afK×Str))(tab:Str->Option (List D->R D))(dA:afK):Prop:=
 ∃(o:Obj) (es:Array DictEntry) (ep:Nat) (kvs:List (Key×afL)),K.lookup dA=some o/\o.ExactDict/\o.data= .dict es ep/\KeysOf (mixKind P w) es/\Pairs (mixKind P w) es.toList kvs/\(kvs.map (·.1)).Nodup/\
  ∀x F,tab x=some F->∃f fd ps,valueAt kvs (.inr x)=some (.ref f)/\FnOk P w K mg base CX0 k f fd ps (spT ts K n F)/\agg K (.ref f)=true/\Binds K fd ps []
section
variable{X:Cx}{dA:afK}{q n:Nat}{ts:List (afK×Str)}{tab:Str->Option (List D->R D)}{t o:Str}{e:afV}{fi:ao->R D}{fa:ao->R (List D)}{a:afV}{as:List afV}{rest:List af7}{g:ao->So}{pt po po2 ps1 p1 p2 px py pz pw ptt pc p3:Pos}{kt}
def Jm(io:Nat)(fi:ao->R D)(tab:Str->Option (List D->R D))(fa:ao->R (List D))(n i k m l:Nat):ao->So:=λρ=>match fi (bF ρ),fa (bF (ρ.set io none)) with
 | .ok (.str x),.ok ds=>(match tab x with
  | some F=>if ds.length=n then (match F ds with
   | .ok (.tup [a,b,c,d])=>if cY [a,b,c,d]=true then .nx (adY i k m l a b c d (ρ.set io none)) else .bad
   |_=> .bad) else .bad
  |none=> .bad)
 |_,_=> .bad
theorem aaI(kk:Nat)(io i k m l:Nat){x y z w:Str}(hc:X.calm=true)(hN:X.N.Nodup)(G:WQ X.prog X.w X.K X.mg X.base kk n ts tab dA)(hT:Tb ts X.H₀)(hr:Room q X.A)(YZ:kk<=q)(hm:X.mg t=some (.ref dA))(he:DE X e fi)(ha:DA X (a::as) fa)(hrest:iG X rest g)
  (hg:Gl X t:=by rfl)(hdb:(t ==("__debug__" :Str))=false:=by decide)(hns:NoSl e:=by show λ_ _=>rfl)(hio:X.N[io]?=some o:=by rfl)(hi:X.N[i]?=some x:=by rfl)(hk:X.N[k]?=some y:=by rfl)(hmm:X.N[m]?=some z:=by rfl)(hn:X.N[l]?=some w:=by rfl)
  (ho:Loc X.env.scope o:=by first |show agp rfl |show aga rfl)(hvo:Vis X.env.scope o:=by first |show agp rfl |show aga (agp rfl) |show aga (aga rfl))(hd:(o ==("__debug__" :Str))=false:=by decide)(hcd:(o ==("__classdict__" :Str))=false:=by decide)
  (hx:Loc X.env.scope x:=by first |show agp rfl |show aga rfl)(hy:Loc X.env.scope y:=by first |show agp rfl |show aga rfl)(hz:Loc X.env.scope z:=by first |show agp rfl |show aga rfl)(hw:Loc X.env.scope w:=by first |show agp rfl |show aga rfl)
  (hfo:X.fn o=true\/X.env.scope.names.lookup o=some .local:=by first |show .inl rfl |show .inr rfl)(hfx:X.fn x=true\/X.env.scope.names.lookup x=some .local:=by first |show .inl rfl |show .inr rfl)(Aw:X.fn y=true\/X.env.scope.names.lookup y=some .local:=by first |show .inl rfl |show .inr rfl)(hfz:X.fn z=true\/X.env.scope.names.lookup z=some .local:=by first |show .inl rfl |show .inr rfl)(hfw:X.fn w=true\/X.env.scope.names.lookup w=some .local:=by first |show .inl rfl |show .inr rfl)
  (hst:afP (a::as) X.env=(false,eval a X.env)::afP as X.env:=by rfl)(hpl:(ago pc (afP as X.env)).any (·.1)=false:=by rfl)
  (hs1:ag6 (.Subscript (.Name t pt) e ps1) (some (.Name o po)) p1.line X.env=pure false:=by rfl)
  (hs:ahZ [.Tuple [.Name x px,.Name y py,.Name z pz,.Name w pw] kt ptt] (.Call (.Name o po2) (a::as) [] pc) p2.line X.env=pure false:=by rfl)(hsw:ah0 [.Tuple [.Name x px,.Name y py,.Name z pz,.Name w pw] kt ptt] (.Call (.Name o po2) (a::as) [] pc) X.env=pure none:=by rfl):
  iG X (.Assign [.Name o po] (.Subscript (.Name t pt) e ps1) p1:: .Assign [.Tuple [.Name x px,.Name y py,.Name z pz,.Name w pw] kt ptt] (.Call (.Name o po2) (a::as) [] pc) p2::rest) (aN (Jm io fi tab fa n i k m l) g):=by
 let⟨ob,es,ep,kvs,lk,hex,hdt,hko,hpr,hnd,G⟩:=G;have pe1:PE X (.Subscript (.Name t pt) e ps1) (λσ H Q=>∃ρ O u f,In X O H ρ σ/\fi ρ= .ok (.str u)/\valueAt kvs (.inr u)=some (.ref f)/\∀H',Same H H'->Q (.ref f) H'):=by
  intro pins s σ H Q I h;let⟨ρ,O,u,f,j,e1,e2,h⟩:=h;show subD_of PySem.F.slot_dict_getitem.lookup hns (ld_glob I hg hm ?_ hdb);show thn (he pins s σ H (λv H'=>v= .str u/\Same H H') I ⟨ρ,O,j,by rw[e1];show λv H' sm r=>⟨r.str,sm⟩⟩) λiv s2 bB=>?_;let⟨y,H2,I2,ry,ey,sm⟩:=bB;subst ey;have dd:s2.heap.DictOf (mixKind X.prog X.w) dA kvs:=⟨ob,es,ep,I2.kIn _ _ lk,hex,hdt,hko,hpr,hnd⟩;show⟨⟨ob,I2.kIn _ _ lk,hex.1⟩,wpAny_getItem_of (kV_is (k:= .inr u) ry) dd.mapOf e2 ⟨.ref f,H2,I2.tok _,rfl,h H2 sm⟩⟩
 have pe2:PE X (.Call (.Name o po2) (a::as) [] pc) (λσ H Q=>∃ρ O f fd ps F ds d,σ[io]?=some (some (.ref f))/\In X O H ρ σ/\FnOk X.prog X.w X.K X.mg X.base CX0 kk f fd ps (spT ts X.K n F)/\agg X.K (.ref f)=true/\Binds X.K fd ps []/\fa ρ= .ok ds/\ds.length=n/\F ds= .ok d/\∀v H',Same H H'->Rep X.K O H' d v->Q v H'):=by
  intro pins s σ H Q I h;let⟨ρ,O,f,fd,ps,F,ds,d,hσ,j,ok,hkp,hb,e1,hl,e2,h⟩:=h;show agX (thn (pe_var hio hvo hd hcd pins s σ H (λv H1=>v= .ref f/\H1=H) I ⟨_,hσ,rfl,rfl⟩) λu s1 bB=>?_);let⟨v',H1,I1,r1,ee1,ee2⟩:=bB;subst ee1 ee2;cases (show u=af0 f from r1);show ahS (h₀:=X.base) I.ok.mod.kin hkp (thn (ha pc pins s1 σ H1 (λvs H2=>Same H1 H2/\aM X.K O H2 ds vs) I1 ⟨ρ,O,j,by rw[e1];show λvs H2 sm r=>⟨sm,r⟩⟩) λus s2 ⟨vs,H2,I2,r,sm,rr⟩=>⟨I2.kIn,?_⟩) hst hpl;show run_fn (dvs:=[]) (E:=E0) (ok.mono YZ) hr hb .nil pass0 I2 r ?_;rw[ags];show⟨hT.un I2.base,O,ds,rr,hl,λb z=>let⟨ob,q⟩:=j.al b z;⟨ob,sm _ _ q⟩,?_⟩;rw[e2];show λv H' s3 rv=>h v H' (sm.trans s3) rv
 show PSs.imp (pss_cons (ps_set hN hio ho pe1 hs1 hfo) (pss_cons (ps_asg pe2 (pg_tup hc (pgs_cons (pg_name hN hi hx hfx) (pgs_cons (pg_name hN hk hy Aw) (pgs_cons (pg_name hN hmm hz hfz) (pgs_cons (pg_name hN hn hw hfw) pgs_nil))))) hs hsw) hrest)) λσ H E h=>?_;let⟨H0,O0,O,ρ,j,h⟩:=h;unfold aN Jm at h;have li:=(z1b hio).1;cases e1:fi (bF ρ) with
 |bad=>rw[e1] at h;show h.elim
 |err c=>rw[e1] at h;show h.elim
 |ok du=>
 cases e2:fa (bF (ρ.set io none)) with
 |bad=>rw[e1,e2] at h;cases du <;> show h.elim
 |err c=>rw[e1,e2] at h;cases du <;> show h.elim
 |ok ds=>
 rw[e1,e2] at h;cases du with
 | str u =>
  simp only at h;cases e3:tab u with
  |none=>rw[e3] at h;show h.elim
  | some F =>
   rw[e3] at h;simp only at h;by_cases hl:ds.length=n
   .rw[z9p hl] at h;let⟨f,fd,ps,hva,ok,hkp,hb⟩:=G u F e3;show⟨bF ρ,rT H ρ σ O,u,f,j.inn.bF,e1,hva,λH1 sm=>?_⟩;have j1:=(j.grow sm).drop (v:= .ref f) li;have hσ:(σ.set io (some (V.ref f)))[io]?=some (some (.ref f)):=z2a (by rw[j.inn.len];show li);cases e4:F ds with
    |bad=>rw[e4] at h;show h.elim
    |err c=>rw[e4] at h;show h.elim
    | ok d =>
     rw[e4] at h;show⟨bF (ρ.set io none),rT H1 (ρ.set io none) (σ.set io (some (.ref f))) O,f,fd,ps,F,ds,d,hσ,j1.inn.bF,ok,hkp,hb,e2,hl,e4,λv H' s r=>?_⟩;split at h
     .rename_i ρ' eq;split at eq
      .rename_i da db dc dd' ed;cases ed;by_cases hnl:cY [da,db,dc,dd']=true
       .rw[z9p hnl] at eq;cases eq;let⟨p,xs,rfl,hq,rs⟩:=r.tup;let⟨v1,v2,v3,v4,rfl,r1,r2,r3,r4⟩:=(m9 (O':=O) hnl rs).four;show⟨p,[v1,v2,v3,v4],rfl,hq,rfl,v1,[v2,v3,v4],rfl,v2,[v3,v4],rfl,v3,[v4],rfl,v4,[],rfl,rfl,?_⟩;show⟨H0,O0,O,_,((((j1.grow s).set (z1b hi).1 r1).set (z1b hk).1 r2).set (z1b hmm).1 r3).set (z1b hn).1 r4,?_⟩;show qG.go h ((Same.cI sm).trans (Same.cI s))
       .rw[z9n hnl] at eq;cases eq
      .cases eq
     .rename_i neq;split at h
      .rename_i da db dc dd' ed;by_cases hnl:cY [da,db,dc,dd']=true
       .rw[z9p hnl] at h;cases ed;show (neq _ (z9p hnl)).elim
       .rw[z9n hnl] at h;show h.elim
      .show h.elim
   .rw[z9n hl] at h;show h.elim
 |_=>show h.elim
end
section
variable{prog:afZ}{w:af4}{A:af5}{E:afL->afN->Prop}{s:afN}{K:afM}{x y C f:afK}{ox oy:Obj}{od od':Option Obj}
theorem afA{Q:afL->afN->Prop}(hu:A.units+1<ahH)(X:K.In s.heap)(I:aiy s.heap x ox C od)(J:aiy s.heap y oy C od')(hn:af8 K (.ref C) "__ne__" =some (some (.builtin "object.__ne__")))(hm:ahL K C (.type "object")=some true)
  (he:af8 K (.ref C) "__eq__" =some (some (.ref f)))(hf:aiZ K (.ref f)=true)
  (h:afS (model prog w) A.in1 (call (.ref f) [.ref x,.ref y]) (λv s'=>∃b,v= .bool b/\Q (.bool (!b)) s') E s):afS (model prog w) A (agn .NotEq (.ref x) (.ref y)) Q E s:=by
 have FB:=PySem.F.cmp_object.ne;have L0:=I.type (M:=model prog w);have LB:=w0c (M:=model prog w) X hm;have body:afS (model prog w) A.in1 (ahg.«object.__ne__» ⟨[.ref x,.ref y],[]⟩) (λfn s'=>∃v,fn= .done (.ret v)/\∃b,v= .bool b/\Q (.bool b) s') E s:=by
  unfold ahg.«object.__ne__»;show aft (afQ ?_);show aft (wpAny_cRoomFor hu ?_);show aft (PySem.W.ifBound_K X I he hf (agL h (λv s' hv=>?_) λ_ _ e=>e));let⟨b,rfl,hq⟩:=hv;show aft (ag2 (afQ ⟨_,rfl,_,rfl,hq⟩))
 have one:afS (model prog w) A (tryCompare (.ref x) "__ne__" (.ref y)) (λr s'=>∃v,r=some v/\Q v s') E s:=by
  unfold tryCompare;simp only[callSpecialIfBound?,bindSpecialIfBound?];show aft (aho (aft (aft (aft (L0.here ((aiI X hn).here ?_))))));have fin:∀{R:Option afL->afN->Prop},(∀b s',Q (.bool b) s'->R (some (.bool b)) s')->afS (model prog w) A (call (.builtin "object.__ne__") ([.ref x]++[.ref y]) >>=λv=>pure (some v)) R E s:=λ{R} hR=>by
   show aft (ahP (codeAny_call_builtin FB.plain PySem.F.cmpEntry_ne ?_));simp only[ajp,PySem.F.cmpKind_ne,PySem.F.cmpSplit_ne,ajq,ais];unfold isInstance;show aft (aft (L0.at (LB.at ?_)));rw[ajj,z9n af6];show ahE (a:=Unit.unit) (PySem.F.cmpArgs_ne _ _) ?_;show agL body (λfn s' z=>?_) λ_ _ e=>e;let⟨v,rfl,b,rfl,hq⟩:=z;show afQ (hR _ _ hq)
  simp only[FB.bind];show aft (wpAny_askSetting (wpAny_ite ?_));split
  .show aft (afQ (afQ (by show fin λb s' hq=>afQ ⟨_,rfl,hq⟩)))
  .show wpAny_tryCatch (aft (afQ (afQ (by show fin λb s' hq=>afQ ⟨_,rfl,hq⟩))))
 unfold agn richCompare;simp only[oneThing_ref];show aho (aft (wpAny_cRoomFor (Nat.lt_of_succ_lt hu) ?_));rw[cmpInfo_NotEq]
 dsimp only
 show aft (L0.here (aft (J.type.here ?_)));rw[show (af0 C !=af0 C)=false from by simp];simp only[agO,if_false];show aft (afQ ?_);simp only[agO,if_false];show aft (agL one (λr s' z=>?_) λ_ _ e=>e);let⟨v,rfl,hq⟩:=z;show afQ hq
end
structure RG(K:afM)(C:afK):Prop where
 ha:af8 K (.ref C) "__class__" =some (some (.builtin "object.__class__"))
 hn:ah4 K (.builtin "object.__class__") "__get__" =some (some (.builtin "getset_descriptor.__get__"))
 ht:aiu K (.builtin "object.__class__")=some true
 hm:ahL K C (.type "object")=some true
 ki:afX K (.ref C) (.ref C)=some true
 ne:af8 K (.ref C) "__ne__" =some (some (.builtin "object.__ne__"))
theorem d9.inst{s:afN}{k:Dk}{v:V}(I:Inv X pins σ H s)(T:jE X.K C)(r:d9 X.K O H k v):∃a ox od,v= .ref a/\aiy s.heap a ox C (some od):=by
 let⟨a,C',dx,l,xs,u,rfl,q,hc,_⟩:=r;cases jc.inj T.ns hc;let⟨mA,OM,_⟩:=ins_get I.hok q;let⟨od,IA,_⟩:=OM.look;show⟨a,_,od,rfl,IA⟩
section
variable{X:Cx}{C:afK}{o a b:afV}{f g:ao->R Dk}{x:Str}{p p2 pos:Pos}
theorem WR(T:jE X.K C)(W:RG X.K C):CallR X (.builtin "isinstance") (λxs H Q=>∃x O k,xs=[x,.ref C]/\d9 X.K O H k x/\Q (.bl true) H):=by
 intro pins s σ H xs us Q I r h;let⟨x,O,k,rfl,rd,q⟩:=h;let⟨u,u2,rfl,rx,r2⟩:=vals2 r;cases (show u2=af0 C from r2);let⟨a,ox,od,rfl,IA⟩:=rd.inst I T;cases (show u=af0 a from rx);show ahJ (PySem.W.kitx_own (T.cl.get "__class__") T.cl.hd W.ha W.hn W.ht W.hm) I.kIn IA W.ki (λz=>nomatch z) λtk=>⟨.bl _,H,I.tok _,rfl,q⟩
theorem aaJ(T:jE X.K C)(W:RG X.K C)(he:DV X o f)(hg:Gl X "isinstance")(hm:X.mg "isinstance" =none)(hgx:Gl X x)(hmx:X.mg x=some (.ref C))(hd:(x ==("__debug__" :Str))=false:=by decide)
  (hs:afP [o,.Name x p2] X.env=(false,eval o X.env)::afP [.Name x p2] X.env:=by rfl)(hs2:afP [.Name x p2] X.env=(false,eval (.Name x p2) X.env)::afP [] X.env:=by rfl)(hpl:(ago pos (afP [.Name x p2] X.env)).any (·.1)=false:=by rfl):
  DE X (.Call (.Name "isinstance" p) [o,.Name x p2] [] pos) (iV f λ_=> .bl true):=by
 show PE.imp (pe_callB (WR T W) hg hm ahY (pa_cons he (pa_cons (pe_glob (v:= .ref C) hgx hmx rfl hd) pa_nil hs2) hs) {} {} hs hpl) λσ H Q ⟨ρ,O,j,h⟩=>go j h λk v H1 _ _ r1 _ h1=>?_;show⟨v,O,k,rfl,r1,fin h1 (dO _)⟩
def spE(K:afM)(F:Dk->Dk->R D):Sp:=λvs H Q _=>∃O k l x y,vs=[x,y]/\d9 K O H k x/\d9 K O H l y/\(∀a,O a->∃o,H a=some o)/\match F k l with
 | .ok d=>∀v H',Same H H'->Rep K O H' d v->Q v H'
 |_=>False
theorem fnE{w:af4}{x:Str}{f:afK}{m:Nat}{g:ao->So}(Fn:Fun K x qual st f fd)(S:FnScope N ps (defScope st))(hn:ps.length=2)(hm:N.length=2+m)
  (hb:∀(cdv:afL) (A:af5) (outer:List agA) (s:afN) (H:Hp) (E:XK),Room k (A.deeper (ag9 qual (defScope st) s.heap.objs.size f cdv))->iG (cxOf CX0 P w K mg base N qual (defScope st) f cdv A outer s H E).nox (defBody st) g):
  FnOk P w K mg base CX0 (k+1) f fd ps (spE K λk l=>cZ m g [.eU k,.eU l]):=by
 show Fn.ok S (λvs H Q E h=>?_) (λcdv A outer s H vs Q E hr h=>?_)
 .let⟨O,k,l,x,y,rfl,_⟩:=h;rw[hn];rfl
 .let⟨O,k,l,x,y,rfl,r1,r2,al,h⟩:=h;show⟨_,hb cdv A outer s H E hr,H,O,O,[Ent.eU k,.eU l].map some++afO m none,?_,EY h⟩;rw[kW (m:=m) (by rw[hm];rfl)];show pI (X:=(cxOf CX0 P w K mg base N qual (defScope st) f cdv A outer s H E).nox) (by rw[show (cxOf CX0 P w K mg base N qual (defScope st) f cdv A outer s H E).nox.N=N from rfl,hm];rfl) (.cons ⟨r1,rfl⟩ (.cons ⟨r2,rfl⟩ .nil)) al
def aaK(P:afZ)(w:af4)(K:afM)(mg:Str->Option afL)(base:af2)(C:afK)(k:Nat)(F:Dk->Dk->R D):Prop:=
 ∃f fd ps,FnOk P w K mg base CX0 k f fd ps (spE K F)/\Meth K C "__eq__" f/\Binds K fd ps []
def neB:D->R D
 | .bl b=> .ok (.bl (!b))
 |_=> .bad
def RJ(F:Dk->Dk->R D)(f g:ao->R Dk):ao->R D:=λρ=>(f ρ).bind λk=>(g ρ).bind λl=>(zU (F k l)).bind neB
theorem adZ{F:Dk->Dk->R D}{q:Nat}(T:jE X.K C)(W:RG X.K C)(G:aaK X.prog X.w X.K X.mg X.base C k F)(hr:Room q X.A)(YZ:k+1<=q):
  OpR X (agn .NotEq) (λx y H Q=>∃O k l b,d9 X.K O H k x/\d9 X.K O H l y/\(∀a,O a->∃o,H a=some o)/\F k l= .ok (.bl b)/\∀H',Same H H'->Q (.bl (!b)) H'):=by
 intro pins s σ H x y v u Q I rx ry h;let⟨O,kk,ll,b,r1,r2,al,e,h⟩:=h;let⟨fe,fd,ps,ok,fj,hb⟩:=G;let⟨a,ox,od,rfl,IA⟩:=r1.inst I T;let⟨c,oy,od',rfl,IB⟩:=r2.inst I T;cases (show v=af0 a from rx);cases (show u=af0 c from ry);have hr1:Room k X.A.in1:=(hr.mono YZ).in1;show afA (by have:=hr.units;omega) I.kIn IA IB W.ne W.hm fj.at_ fj.fn ?_;have hvs:Vals [V.ref a,V.ref c] [af0 a,af0 c]:= .cons rfl (.cons rfl .nil);have sp:spE X.K F [.ref a,.ref c] H (λv H'=>v= .bl b/\Same H H') E0:=⟨O,kk,ll,_,_,rfl,r1,r2,al,by rw[e];show λv H' sm rv=>⟨rv.bl,sm⟩⟩;have hl:=ok.len _ _ _ _ sp;show ahP (ahI (ok.run X.A.in1 X.stack s H ⟨[.ref a,.ref c],[]⟩ [.ref a,.ref c] _ _ E0 hr1 I.env0.in1 (by have:=hb s [.ref a,.ref c] I.kIn (by rw[ags];show hl);rwa [ags] at this) hvs sp) λr s' hq=>?_);cases r with
 |error e=>show agm hq
 | ok fl=>
  cases fl with
  | ret u=>
   let⟨v,H',I3,rv,⟨ev,sm⟩⟩:=I.after hq;subst ev;show⟨b,rv,.bl _,H',I3,rfl,h H' sm⟩
  |next=>show agm hq
  |brk=>show agm hq
  |cont=>show agm hq
theorem ad0{F:Dk->Dk->R D}{Q:VK}(h:tG X (rD X) (RJ F f g) σ H Q):tOp (λx y H Q=>∃O k l b,d9 X.K O H k x/\d9 X.K O H l y/\(∀a,O a->∃o,H a=some o)/\F k l= .ok (.bl b)/\∀H',Same H H'->Q (.bl (!b)) H') (tG X (rV X) f) (tG X (rV X) g) σ H Q:=by
 let⟨ρ,O,j,h⟩:=h;show go j h λk x H1 _ _ r1 j1 h1=>go j1 h1 λl y H2 _ s2 r2 j2 h2=>?_;cases e:F k l with
 |bad=>rw[e] at h2;show h2.elim
 |err c=>rw[e] at h2;show h2.elim
 | ok d=>
  rw[e] at h2;cases d with
  |bl b=>show⟨O,k,l,b,d9.go (Same.cI s2) r1,r2,j2.al,e,λH' sm=>h2 _ H' sm (dO _)⟩
  |_=>show h2.elim
theorem ad1{F:Dk->Dk->R D}{q:Nat}(T:jE X.K C)(W:RG X.K C)(G:aaK X.prog X.w X.K X.mg X.base C k F)(hr:Room q X.A)(YZ:k+1<=q)(ha:DV X a f)(hb:DV X b g)(hm:ahw .NotEq b=false:=by show nomark _):DT X (.Compare a [.NotEq] [b] pos) (bW (RJ F f g)):=
 PT.imp (pt_cmpR (adZ T W G hr YZ) ha hb hm) λσ H Q h=>yq (λQ h=>ad0 h) h
end
section
variable{X:Cx}{k m n:Nat}{fd:agx}{ps ks:List Str}{F:List D->R Dk}{x:Str}{p pos:Pos}{e:afV}{es:List afV}{kws:List ahW}{fa fk:ao->R (List D)}{ts:List (afK×Str)}
theorem acu{sa sb sc}(S:Sel sa sb sc)(G:Ru (λO H k v=>d9 X.K O H k v) X.prog X.w X.K X.mg X.base k x n F fd ps ts)(hT:Tb ts X.H₀)(hr:Room m X.A)(hkm:k<=m)(hb:KB X.K fd ps [] sa)
  (ha:DA X (e::es) fa)(hg:Gl X x:=by rfl)(hdb:(x ==("__debug__" :Str))=false:=by decide)(he:afP (e::es) X.env=(false,eval e X.env)::afP es X.env:=by rfl)(hpl:(ago pos (afP es X.env)).any (·.1)=false:=by rfl):
  DV X (.Call (.Name x p) (e::es) [] pos) (gb F n 0 sc fa (λ_=> .ok [])):=ace (Rl:=rV X) S G hT hr hkm hb ha hg hdb he hpl
theorem Fl{sa sb sc}(S:Sel sa sb sc)(G:Ru (λO H k v=>d9 X.K O H k v) X.prog X.w X.K X.mg X.base k x n F fd ps ts)(hT:Tb ts X.H₀)(hr:Room m X.A)(hkm:k<=m)(hb:KB X.K fd ps ks sa)
  (ha:DA X (e::es) fa)(hkw:DK X kws fk)(hg:Gl X x:=by rfl)(hall:(agW pos (agz kws X.env)).all (·.1.isSome)=true:=by rfl)(hks:(agW pos (agz kws X.env)).filterMap (·.1)=ks:=by rfl)
  (hdb:(x ==("__debug__" :Str))=false:=by decide)(he:afP (e::es) X.env=(false,eval e X.env)::afP es X.env:=by rfl)
  (hpl:((ago pos (afP (e::es) X.env)).any (·.1) || (agW pos (agz kws X.env)).any (·.1.isNone))=false:=by rfl):
  DV X (.Call (.Name x p) (e::es) kws pos) (gb F n ks.length sc fa fk):=acf (Rl:=rV X) S G hT hr hkm hb ha hkw hg hall hks hdb he hpl
end
def RK:D->D->R D
 | .lst ds,.int k=>if 0<=k/\k<2^63/\ds.length*k.toNat<=1000000 then .ok (.lst (afO k.toNat ds).flatten) else .bad
 |x,y=>Bd x y
theorem Vx:iY X (ag4 .Mult) RK:=by
 let⟨r0,o0,c0⟩:=Ew (X:=X);show⟨_,OpR.or o0 abX,λρ O σ H Q x y dx dy j0 rx ry h=>?_⟩;cases dx with
 | lst ds=>
  cases dy with
  | int k=>
   have h:good X (rD X) O (if 0<=k/\k<2^63/\ds.length*k.toNat<=1000000 then .ok (.lst (afO k.toNat ds).flatten) else .bad) σ H Q:=h;by_cases hc:0<=k/\k<2^63/\ds.length*k.toNat<=1000000
   .rw[z9p hc] at h;let⟨a,us,rfl,ha,hn,r1⟩:=rx.lst;let⟨h1,h2,h3⟩:=hc;show .inr ⟨a,k,us,rfl,ry.int,ha,h1,h2,by rw[<-r1.length];show h3,λl hl=>h _ _ (Same.upd hl) (Rep.o7 hl (j0.tE hl) (G7 r1 _))⟩
   .rw[z9n hc] at h;show h.elim
  |_=>show h.elim
 |_=>show .inl (c0 ρ O σ H Q x y _ _ j0 rx ry h)
def aaL(x0 x1 x2:Str)(F0 F1 F2:List D->R D)(x:Str):Option (List D->R D):=if x=x0 then some F0 else if x=x1 then some F1 else if x=x2 then some F2 else none
theorem ae3{w:af4}{k0 k1 k2:Nat}{x0 x1 x2 n0 n1 n2:Str}{F0 F1 F2:List D->R D}{fd0 fd1 fd2:agx}{ps0 ps1 ps2:List Str}{dA f0 f1 f2:afK}{h0 h1 h2:Int}{t0 t1 t2:Tok}{ep:Nat}
  (l:K.lookup dA=some ⟨.type "dict",none,.dict #[⟨h0,.str x0 t0,.ref f0⟩,⟨h1,.str x1 t1,.ref f1⟩,⟨h2,.str x2 t2,.ref f2⟩] ep,#[]⟩)(e0:h0=keyH w (.inr x0))(e1:h1=keyH w (.inr x1))(e2:h2=keyH w (.inr x2))(n01:x0≠x1)(n02:x0≠x2)(n12:x1≠x2)
  (G0:Bm P w K mg base k0 n0 n F0 fd0 ps0 ts)(b0:Binds K fd0 ps0 [])(m0:mg n0=some (.ref f0))(G1:Bm P w K mg base k1 n1 n F1 fd1 ps1 ts)(b1:Binds K fd1 ps1 [])(m1:mg n1=some (.ref f1))(G2:Bm P w K mg base k2 n2 n F2 fd2 ps2 ts)(b2:Binds K fd2 ps2 [])(m2:mg n2=some (.ref f2))
  (q0:k0<=k)(q1:k1<=k)(q2:k2<=k):WQ P w K mg base k n ts (aaL x0 x1 x2 F0 F1 F2) dA:=by
 let⟨g0,o0,z0,p0⟩:=G0;let⟨g1,o1,z1,p1⟩:=G1;let⟨g2,o2,z2,p2⟩:=G2;cases m0.symm.trans z0;cases m1.symm.trans z1;cases m2.symm.trans z2;show⟨_,_,ep,[(.inr x0,.ref f0),(.inr x1,.ref f1),(.inr x2,.ref f2)],l,⟨rfl,rfl,rfl⟩,rfl,λe he=>?_,.cons (mixKind_str P w x0 t0) rfl (.cons (mixKind_str P w x1 t1) rfl (.cons (mixKind_str P w x2 t2) rfl .nil)),by simp[n01,n02,n12],λx F e=>?_⟩
 .simp only[List.mem_toArray,af9,agZ,or_false] at he;rcases he with rfl |rfl |rfl
  .show⟨.inr x0,mixKind_str P w x0 t0,e0⟩
  .show⟨.inr x1,mixKind_str P w x1 t1,e1⟩
  .show⟨.inr x2,mixKind_str P w x2 t2,e2⟩
 .unfold aaL at e;have va:∀y:Str,valueAt [((.inr x0:Key),af0 f0),(.inr x1,.ref f1),(.inr x2,.ref f2)] (.inr y)=if x0=y then some (.ref f0) else if x1=y then some (.ref f1) else if x2=y then some (.ref f2) else none:=λy=>by
   unfold valueAt;simp only[List.find?_cons,List.find?_nil,Sum.inr.injEq];by_cases a0:x0=y
   .simp[a0]
   .by_cases a1:x1=y
    .simp[a0,a1]
    .by_cases a2:x2=y <;> simp[a0,a1,a2]
  rw[va];by_cases a0:x=x0
  .rw[z9p a0] at e;cases e;show⟨f0,fd0,ps0,by rw[z9p a0.symm],o0.mono q0,p0,b0⟩
  .rw[z9n a0] at e;by_cases a1:x=x1
   .rw[z9p a1] at e;cases e;show⟨f1,fd1,ps1,by rw[z9n (λz=>a0 z.symm),z9p a1.symm],o1.mono q1,p1,b1⟩
   .rw[z9n a1] at e;by_cases a2:x=x2
    .rw[z9p a2] at e;cases e;show⟨f2,fd2,ps2,by rw[z9n (λz=>a0 z.symm),z9n (λz=>a1 z.symm),z9p a2.symm],o2.mono q2,p2,b2⟩
    .rw[z9n a2] at e;cases e
end Pu
namespace xr
open PySem PySem.Spec L2 Pu
open PyProof.Rows hiding St
abbrev gv(n:Nat):ao->R D:=λρ=>bJ ρ n
abbrev ci(i:Int):ao->R D:=λ_=> .ok (.int i)
abbrev nA:ao->R (List D):=λ_=> .ok []
abbrev tT:ao->R Bool:=λ_=> .ok true
def iB(c t:Str):Bool:=(c == "NoPicture" && (["NoPicture","SeamError","ValueError"]:List Str).contains t) || (c == "NoManner" && (["NoManner","SeamError","ValueError"]:List Str).contains t) || false
theorem Bv{c t:Str}(h:iB c t=true):c= "NoPicture"\/c= "NoManner" :=by
 unfold iB at h;simp only[Bool.or_eq_true,agY,beq_iff_eq,agO,or_false,or_assoc] at h;rcases h with h |h
 .show .inl h.1
 .show .inr (h.1)
def Bw:ao->So:=(aN (bC (bin (ci 7) (gv 1) iI) (aL 3)) (aN (dI (bW (bin (gv 0) (jZ nA) uc)) (aN (bC (bin (gv 0) (bin (gv 1) (aD cH (ak (gv 0) nA)) gC) bQ) (aL 3)) (aN (bC (bin (gv 1) (aD cH (ak (gv 0) nA)) gY) (aL 4)) (aN (dI (o8 (bW (bin (gv 3) (bin (ci 10) (ci 18) vL) Xy)) (bW (bin (gv 4) (ci 60) ltI))) (aN (bC (bin (gv 3) (bin (ci 10) (ci 18) vL) gY) (aL 5)) (aN (fZ (o8 (bW (bin (gv 5) (ci 0) qz)) (bW (bin (gv 4) (ci 0) qz))) (aN (bC (bin (gv 5) (ci 1000000) gY) (aL 5)) (bC (bin (gv 4) (ci 1) fX) (aL 4))) 64) (dI (bW (bin (gv 5) (ci 0) qz)) (retS (bin (bin (gv 5) (ci 1000000) gC) (gv 2) gC)) So.nx))) So.nx) (bC (bin (gv 3) (bin (ci 6553) (bin (gv 1) (aD cH (ak (gv 0) nA)) gY) iI) fD) (aL 3))))) So.nx) (aN (bC (bin (bin (bin (bin (gv 3) (ci 2147483563) gC) (ci 69069) iI) (bin (ci 104723) (bin (gv 1) (ci 1) fD) iI) fD) (ci 2147483563) gC) (aL 3)) (aN (bC (bin (bin (bin (gv 3) (gv 3) iI) (bin (gv 3) (ci 3) gY) fD) (ci 2147483399) gC) (aL 3)) (retS (bin (bin (bin (bin (bin (gv 3) (gv 3) iI) (bin (gv 3) (ci 7) gY) fD) (ci 2147483647) gC) (ci 11) gY) (gv 2) gC))))))
def dG:List D->R D:=cj 3 Bw
def zX:ao->So:=(retS (bin (jZ (ak (λ_=> .ok (.str "worth")) (ak (λ_=> .ok (.str "joins")) nA))) (aD (aO dG 3) (ak (gv 0) (ak (gv 1) (ak (ci 2) nA)))) bQ))
def qU:List D->R D:=cj 0 zX
def Jo:ao->So:=(retS (bin (cU (ak (bin (cU (ak (ci 0) nA)) (aD cH (ak (bin (gv 0) (ci 0) bQ) nA)) Bd) nA)) (aD cH (ak (gv 0) nA)) Bd))
def sG:List D->R D:=cj 0 Jo
def zY:ao->So:=(dI (bW (bin (gv 0) (λ_=> .ok (.tup [.str "worth",.str "joins"])) Qo)) (λρ=> .ex "NoManner" ρ) So.nx)
def mC:List D->R D:=cj 0 zY
def Nt:ao->So:=(retS (qR (Ep jw (gv 0)) (Ie (ci 1) (aD cH (ak (gv 0) nA)) (ci 20) Av Av)))
def qM:List D->R D:=cj 0 Nt
def Jp:ao->So:=(retS (qR (Ep Es (gv 0)) (adl (Ep yC (gv 0)))))
def oh:List D->R D:=cj 0 Jp
def Nu:ao->So:=(retS (qR (aD (aO oh 1) (ak (gv 0) nA)) (Ie (ci 0) (gv 0) (ci 99) Av Av)))
def Bx:List D->R D:=cj 0 Nu
def RL:ao->So:=(retS (qR (aD (aO qM 1) (ak (gv 0) nA)) (aD yx (ak (bY 1 [] (fY (gv 0)) (aL 0) tT (aD (aO Bx 1) (ak (gv 0) nA))) nA))))
def Hh:List D->R D:=cj 0 RL
def BJ:ao->So:=(aN (dI (U3 (o9 (bW (aD (aO qM 1) (ak (gv 0) nA)))) (o9 (bW (aD yx (ak (bY 1 [] (fY (gv 0)) (aL 0) tT (aD (aO Hh 1) (ak (gv 0) nA))) nA))))) (retS (λ_=> .ok (.bl false))) So.nx) (retS (aD yx (ak (bY 1 [0] (fY (gv 0)) (aL 0) tT (bin (aD cH (ak (gv 0) nA)) (aD cH (ak (bin (gv 1) (ci 0) bQ) nA)) gP)) nA))))
def uh:List D->R D:=cj 0 BJ
def xu:ao->So:=(dI (o9 (bW (aD (aO uh 1) (ak (gv 0) nA)))) (λρ=> .ex "NoPicture" ρ) So.nx)
def jm:List D->R D:=cj 0 xu
def cQ:List D->R Dk:=Fj 0 (aD (okN jm 1) (ak (gv 1) nA)) (aD (okN mC 1) (ak (gv 2) nA)) (gv 2) (ak (cU (ak (λ_=> .ok .non) (ak (gv 1) (ak (aD (aO sG 1) (ak (gv 1) nA)) (ak (λ_=> .ok .non) nA))))) nA)
def Jq:ao->So:=(retS (bin (bin (iV (λρ=>cD ρ 0) (λk=> .lst k.pg)) (iV (λρ=>cD ρ 0) (λk=> .int k.n)) bQ) (ci 2) bQ))
def sH(k:Dk)(ds:List D):R D:=cZ 0 Jq (.eU k::ds.map .val)
def BK:ao->So:=(retS (bin (bin (iV (λρ=>cD ρ 0) (λk=> .lst k.pg)) (iV (λρ=>cD ρ 0) (λk=> .int k.n)) bQ) (ci 1) bQ))
def gj(k:Dk)(ds:List D):R D:=cZ 0 BK (.eU k::ds.map .val)
def BL:ao->So:=(aN (Rz 0 (bin (iV (λρ=>cD ρ 0) (λk=> .int k.n)) (ci 1) dX) (ak (gv 1) nA)) (WL 0 (· +1)))
def um(k:Dk)(ds:List D):R (D×Dk):=mW λgh=>runM 0 BL gh k ds
def Y0:ao->So:=(aN (bC (bin (aD cH (ak (gv 0) nA)) (ci 1) fX) (aL 1)) (retS (bY 1 [1,0] (λρ=>((ak (aD cH (ak (gv 0) nA)) nA) ρ).bind mO) (aL 0) tT (aD yF (ak (bin (bin (gv 2) (aD maxD (ak (bin (gv 0) (ci 1) fX) (ak (ci 0) nA))) bQ) (bin (gv 2) (aD minD (ak (bin (gv 0) (ci 1) dX) (ak (gv 1) nA))) bQ) fX) nA)))))
def BP:List D->R D:=cj 1 Y0
def BR:ao->So:=(aN (bC (bin (gv 0) (gv 1) bQ) (aL 2)) (aN (bC (bin (gv 0) (aD maxD (ak (bin (gv 1) (ci 1) fX) (ak (ci 0) nA))) bQ) (aL 3)) (aN (bC (bin (aD cH (ak (gv 2) nA)) (ci 1) fX) (aL 4)) (aN (newL nA 5) (aN (tU (λρ=>((ak (aD (aO BP 1) (ak (gv 2) nA)) nA) ρ).bind vh) (dR (dU 2 (bf (aL 6) (bf (aL 7) nilG)))) (aN (bC (bin (gv 7) (aD yF (ak (bin (bin (gv 3) (gv 6) bQ) (bin (gv 2) (aD maxD (ak (bin (gv 6) (ci 1) fX) (ak (ci 0) nA))) bQ) fX) nA)) dX) (aL 8)) (aN (bC (bin (gv 7) (aD yF (ak (bin (bin (gv 3) (gv 6) bQ) (bin (gv 2) (aD minD (ak (bin (gv 6) (ci 1) dX) (ak (gv 4) nA))) bQ) fX) nA)) dX) (aL 9)) (tX 5 (cU (ak (gv 8) (ak (gv 7) (ak (gv 9) nA)))))))) (retS (gv 5)))))))
def uo:List D->R D:=cj 8 BR
def Nv:ao->So:=(aN (uY (aD (okN jm 1) (ak (gv 0) nA))) (retS (cU (ak (aD cH (ak (bin (gv 0) (ci 0) bQ) nA)) (ak (aD cH (ak (gv 0) nA)) nA)))))
def nF:List D->R D:=cj 0 Nv
def RM:ao->So:=(aN (bC (aD (aO nF 1) (ak (gv 0) nA)) (dR (dU 2 (bf (aL 1) (bf (aL 2) nilG))))) (retS (aD mU (ak (bY 1 [2,0] (λρ=>((ak (gv 1) nA) ρ).bind mO) (aL 0) tT (aD mU (ak (bY 1 [2,0] (λρ=>((ak (gv 1) nA) ρ).bind mO) (aL 0) tT (bin (bin (gv 1) (gv 0) bQ) (gv 2) bQ)) nA))) nA))))
def fQ:List D->R D:=cj 2 RM
def RN:ao->So:=(aN (bC (aD (aO nF 1) (ak (gv 0) nA)) (dR (dU 2 (bf (aL 1) (bf (aL 2) nilG))))) (aN (bC (bY 1 [] (fY (gv 0)) (aL 0) tT (aD (aO BP 1) (ak (gv 0) nA))) (aL 3)) (aN (bC (bY 1 [] (fY (aD (aO fQ 1) (ak (gv 0) nA))) (aL 0) tT (aD (aO BP 1) (ak (gv 0) nA))) (aL 4)) (retS (aD mU (ak (bY 1 [3,4,1] (λρ=>((ak (gv 2) nA) ρ).bind mO) (aL 0) tT (aD mU (ak (bY 1 [1,2,0] (λρ=>((ak (gv 3) nA) ρ).bind mO) (aL 0) tT (bin (bin (bin (gv 1) (gv 3) bQ) (gv 0) bQ) (bin (bin (gv 2) (gv 0) bQ) (gv 3) bQ) dX)) nA))) nA))))))
def Hi:List D->R D:=cj 4 RN
def Vy:ao->So:=(aN (dI (bW (bin (gv 1) (λ_=> .ok (.str "worth")) gP)) (retS (bY 1 [] (fY (aD (aO Hi 1) (ak (gv 0) nA))) (aL 0) tT (bY 1 [] (fY (gv 0)) (aL 0) tT (cU (ak (gv 0) (ak (gv 0) (ak (gv 0) nA))))))) So.nx) (retS (bY 1 [0] (λρ=>((ak (aD cH (ak (gv 0) nA)) nA) ρ).bind mO) (aL 0) tT (aD (aO uo 2) (ak (gv 1) (ak (gv 0) nA))))))
def tu:List D->R D:=cj 0 Vy
def Nx:ao->So:=(retS (bin (bin (gv 0) (gv 2) bQ) (bin (bin (gv 1) (gv 2) fX) (ci 1) dX) bQ))
def nG:List D->R D:=cj 0 Nx
def Y4:ao->So:=(retS (aD Wz (ak (aD maxD (ak (bin (gv 0) (ci 1) fX) (ak (ci 0) nA))) (ak (aD minD (ak (bin (gv 0) (ci 2) dX) (ak (gv 1) nA))) nA))))
def RP:List D->R D:=cj 0 Y4
def onB:ao->So:=(aN (bC (aD (aO nG 3) (ak (gv 1) (ak (gv 2) (ak (gv 4) nA)))) (aL 5)) (G9 3 (bY 3 [5] (fY (bin (gv 0) (gv 4) bQ)) (dR (dU 3 (bf (aL 0) (bf (aL 1) (bf (aL 2) nilG))))) tT (cU (ak (gv 0) (ak (bin (gv 1) (gv 3) dX) (ak (gv 2) nA)))))))
def RQ:ao->So:=(aN (newL nA 3) (aN (tU (fY (aD (aO RP 2) (ak (gv 2) (ak (aD cH (ak (gv 0) nA)) nA)))) (aL 4) onB) (retS (gv 3))))
def yL:List D->R D:=cj 3 RQ
def aby(aG:Nat)(GG:List D->R D):ao->So:=(dI (bW (bin (gv 8) (ci 1) gP)) (bC (jZ nA) (aL 9)) (dI (o9 (Rt (gv 4))) (bC (Fb 3 aG GG 2 (ak (gv 7) (ak (jZ (ak (cU (ak (ci 0) (ak (ci 0) (ak (gv 2) nA)))) nA)) nA))) (aL 9)) (bC (Fb 3 aG GG 2 (ak (gv 7) (ak (aD (aO yL 3) (ak (YF 4 (adB (ci 1))) (ak (bin (gv 0) (bin (gv 5) (ci 1) dX) bQ) (ak (gv 7) nA)))) nA))) (aL 9))))
def abz:ao->So:=(aN (bC (MP (bW (bin (gv 8) (ci 2) gP)) (ci 1) (ci 0)) (aL 10)) (tX 6 (bY 3 [10] (fY (gv 9)) (dR (dU 3 (bf (aL 0) (bf (aL 1) (bf (aL 2) nilG))))) tT (cU (ak (bin (gv 0) (gv 3) fX) (ak (gv 1) (ak (gv 2) nA)))))))
def inW(aG:Nat)(GG:List D->R D):ao->So:=(aN (aby aG GG) abz)
def aaM(aG:Nat)(GG:List D->R D):ao->So:=(aN (newL nA 6) (aN (tU (λρ=>((ak (bin (gv 1) (gv 5) bQ) nA) ρ).bind vh) (dR (dU 2 (bf (aL 7) (bf (aL 8) nilG)))) (inW aG GG)) (Rj 4 6)))
def KY(aG:Nat)(GG:List D->R D):ao->So:=(aN (newL nA 4) (aN (tU (λρ=>((ak (aD cH (ak (gv 1) nA)) nA) ρ).bind Rk) (aL 5) (aaM aG GG)) (retS (Qm (gv 4)))))
def xG(aG:Nat)(GG:List D->R D)(ds:List D):R D:=cZ 7 (KY aG GG) (ds.map .val++[.obj (.fn aG)])
def BW:ao->So:=(retS (bY 3 [0] (fY (nu (aD nZ (ak (gv 1) nA)) (λ_=> .ok none) (λρ=>((gv 2) ρ).bind Iz))) (dR (dU 3 (bf (aL 0) (bf (aL 1) (bf (aL 2) nilG))))) tT (cU (ak (gv 0) (ak (gv 1) (ak (bin (cU (ak (gv 3) nA)) (gv 2) dX) nA))))))
def d7(my:Int)(ds:List D):R D:=cZ 0 BW (ds.map .val++[.val (.int my)])
def vN:ao->So:=(Ws 3 2 ((gv 0):ao->R D) ((gv 1):ao->R D) ((cU nA):ao->R D) xG d7)
def vO(ds:List D):R D:=cZ 1 vN (ds.map .val)
def Jr:ao->So:=(aN (newL nA 2) (aN (tU (λρ=>((ak (bin (gv 1) (ci 0) bQ) nA) ρ).bind vh) (dR (dU 2 (bf (aL 3) (bf (aL 4) nilG)))) (aN (bC (aD (aO nG 3) (ak (bin (gv 0) (ci 0) bQ) (ak (gv 3) (ak (gv 3) nA)))) (aL 5)) (G9 2 (bY 3 [5] (fY (gv 4)) (dR (dU 3 (bf (aL 0) (bf (aL 1) (bf (aL 2) nilG))))) tT (cU (ak (gv 0) (ak (bin (gv 1) (gv 3) dX) (ak (gv 2) nA)))))))) (retS (gv 2))))
def yM:List D->R D:=cj 4 Jr
def zZ:ao->So:=(retS (nu (aD nZ (ak (aD (aO yM 2) (ak (gv 0) (ak (aD (aO vO 3) (ak (gv 0) (ak (gv 1) (ak (gv 2) nA)))) nA))) nA)) (λ_=> .ok none) (λρ=>((gv 2) ρ).bind Iz)))
def qW(ds:List D):R D:=cZ 0 zZ (ds.map .val)
def FW:ao->So:=(aN (bC (aD (aO qW 3) (ak (gv 0) (ak (gv 1) (ak (ci 1) nA)))) (aL 2)) (aN (dI (o9 (Rt (gv 2))) (retS (λ_=> .ok .non)) So.nx) (aN (bC (bin (gv 2) (ci 0) bQ) (dR (dU 3 (bf (aL 3) (bf (aL 4) (bf (aL 5) nilG)))))) (retS (cU (ak (gv 4) (ak (gv 5) nA)))))))
def jW(ds:List D):R D:=cZ 4 FW (ds.map .val)
def FZ:ao->So:=(aN (bC (aD (aO jW 2) (ak (aD (aO tu 2) (ak (gv 0) (ak (gv 2) nA))) (ak (gv 1) nA))) (aL 3)) (aN (dI (bW (bin (gv 3) (λ_=> .ok .non) isD)) (λ_=> .bad) So.nx) (retS (bin (gv 3) (ci 1) bQ))))
def qw(ds:List D):R D:=cZ 1 FZ (ds.map .val)
def Aa:ao->So:=(retS (aD mU (ak (bY 2 [] (λρ=>((ak (gv 0) (ak (gv 1) nA)) ρ).bind zip2) (dR (dU 2 (bf (aL 0) (bf (aL 1) nilG)))) tT (bin (gv 0) (gv 1) bQ)) nA)))
def mD:List D->R D:=cj 0 Aa
def Ny:ao->So:=(retS (aD mU (ak (bY 2 [] (λρ=>((ak (gv 0) (ak (gv 1) nA)) ρ).bind zip2) (dR (dU 2 (bf (aL 0) (bf (aL 1) nilG)))) tT (bin (nU (gv 0) (λ_=> .ok none) (λρ=>((gv 1) ρ).bind Iz)) (nU (gv 0) (λρ=>((bin (gv 1) (ci 1) dX) ρ).bind Iz) (λ_=> .ok none)) dX)) nA)))
def iR:List D->R D:=cj 0 Ny
def Ab:ao->So:=(aN (dI (bW (bin (aD cH (ak (bin (gv 0) (ci 0) bQ) nA)) (ci 1) gP)) (λ_=> .bad) So.nx) (aN (bC (aD (aO qw 3) (ak (gv 0) (ak (gv 1) (ak (gv 2) nA)))) (aL 3)) (retS (cU (ak (aD (aO iR 2) (ak (gv 0) (ak (gv 3) nA))) (ak (aD (aO iR 2) (ak (gv 1) (ak (gv 3) nA))) (ak (gv 3) (ak (aD (aO mD 2) (ak (gv 0) (ak (gv 3) nA))) nA))))))))
def jQ(ds:List D):R D:=cZ 1 Ab (ds.map .val)
def xH:ao->So:=(aN (RD (aD (aO jQ 3) (ak (aD (aO fQ 1) (ak (gv 0) nA)) (ak (aD (aO fQ 1) (ak (gv 1) nA)) (ak (gv 2) nA)))) 3 4 5 6) (retS (cU (ak (aD (aO fQ 1) (ak (gv 3) nA)) (ak (aD (aO fQ 1) (ak (gv 4) nA)) (ak (gv 5) (ak (gv 6) nA)))))))
def lF(ds:List D):R D:=cZ 4 xH (ds.map .val)
def Ac:ao->So:=(aN (bC (aD minD (ak (bin (gv 1) (ci 1) dX) (ak (bin (aD cH (ak (gv 0) nA)) (ci 1) fX) nA))) (aL 2)) (retS (bin (bin (bin (gv 0) (gv 1) bQ) (bin (gv 0) (gv 2) bQ) dX) (ci 2) gY)))
def qX:List D->R D:=cj 1 Ac
def Ad:ao->So:=(retS (aD mU (ak (bY 2 [] (λρ=>((ak (gv 0) (ak (gv 1) nA)) ρ).bind zip2) (dR (dU 2 (bf (aL 0) (bf (aL 1) nilG)))) tT (aD (aO qX 2) (ak (gv 0) (ak (gv 1) nA)))) nA)))
def qY:List D->R D:=cj 0 Ad
def Ae:ao->So:=(retS (aD mU (ak (bY 1 [] (fY (gv 0)) (aL 0) tT (bin (gv 0) (ci 1) dX)) nA)))
def mF:List D->R D:=cj 0 Ae
def BX:ao->So:=(retS (aD mU (ak (bY 3 [] (λρ=>((ak (gv 0) (ak (gv 1) (ak (gv 2) nA))) ρ).bind Bf) (dR (dU 3 (bf (aL 0) (bf (aL 1) (bf (aL 2) nilG))))) tT (bin (bin (nU (gv 0) (λ_=> .ok none) (λρ=>((gv 1) ρ).bind Iz)) (cU (ak (gv 2) nA)) dX) (nU (gv 0) (λρ=>((gv 1) ρ).bind Iz) (λ_=> .ok none)) dX)) nA)))
def eY:List D->R D:=cj 0 BX
def BZ:ao->So:=(aN (dI (bW (bin (aD cH (ak (bin (gv 0) (ci 0) bQ) nA)) (ci 20) gP)) (λ_=> .bad) So.nx) (aN (bC (aD (aO qw 3) (ak (gv 0) (ak (gv 1) (ak (gv 2) nA)))) (aL 3)) (aN (bC (aD (aO mF 1) (ak (gv 3) nA)) (aL 4)) (aN (bC (aD (aO qY 2) (ak (gv 0) (ak (gv 3) nA))) (aL 5)) (retS (cU (ak (aD (aO eY 3) (ak (gv 0) (ak (gv 4) (ak (gv 5) nA)))) (ak (aD (aO eY 3) (ak (gv 1) (ak (gv 4) (ak (bin (cU (ak (ci 0) nA)) (aD cH (ak (gv 3) nA)) Bd) nA)))) (ak (gv 3) (ak (gv 5) nA))))))))))
def ou(ds:List D):R D:=cZ 3 BZ (ds.map .val)
def RT:Str->Option (List D->R D):=aaL "narrow" "flatten" "widen" jQ lF ou
def Af:ao->So:=(aN (Jm 2 (bin (gv 1) (ci 0) bQ) RT (ak (cW gj 0 (λρ=>cD ρ 0) nA) (ak (cW sH 0 (λρ=>cD ρ 0) nA) (ak (iV (λρ=>cD ρ 0) Dk.m) nA))) 3 3 4 5 6) (aN (jF 0 um 1 (ak (cU (ak (gv 1) (ak (gv 3) (ak (gv 4) (ak (cU (ak (bin (gv 1) (ci 0) bQ) (ak (gv 5) (ak (gv 6) nA)))) nA))))) nA) λ_=> .nx) (Rv (gv 5))))
def mH(k:Dk)(ds:List D):R (D×Dk):=mW λgh=>runM 5 Af gh k ds
def Ca:ao->So:=(aN (dI (bW (bin (bin (gv 1) (ci 0) bQ) (λ_=> .ok (.tup [.str "keep",.str "drop",.str "free"])) (IK false))) (λ_=> .bad) So.nx) (jF 0 mH 1 (ak (gv 1) nA) .rm))
def gk(k:Dk)(ds:List D):R (D×Dk):=mW λgh=>runM 0 Ca gh k ds
def Cd:ao->So:=(jF 0 gk 1 (ak (cU (ak (λ_=> .ok (.str "flatten")) nA)) nA) .rm)
def uq(k:Dk)(ds:List D):R (D×Dk):=mW λgh=>runM 0 Cd gh k ds
def Ga:ao->So:=(jF 0 gk 1 (ak (cU (ak (λ_=> .ok (.str "narrow")) nA)) nA) .rm)
def vP(k:Dk)(ds:List D):R (D×Dk):=mW λgh=>runM 0 Ga gh k ds
def Nz:ao->So:=(retS (aD (aO nF 1) (ak (cW gj 0 (λρ=>cD ρ 0) nA) nA)))
def gQ(k:Dk)(ds:List D):R D:=cZ 0 Nz (.eU k::ds.map .val)
def Js:ao->So:=(jF 0 gk 1 (ak (cU (ak (λ_=> .ok (.str "widen")) nA)) nA) .rm)
def yN(k:Dk)(ds:List D):R (D×Dk):=mW λgh=>runM 0 Js gh k ds
def ntT:ao->R Bool:=(bW (bin (bin (cW gQ 0 (λρ=>cD ρ 4) nA) (ci 0) bQ) (aD maxD (ak (gv 1) (ak (ci 1) nA))) qz))
def ntB:ao->So:=(jF 4 vP 0 nA λ_=> .nx)
def wtT:ao->R Bool:=(bW (bin (bin (cW gQ 0 (λρ=>cD ρ 4) nA) (ci 0) bQ) (aD minD (ak (gv 1) (ak (ci 20) nA))) ltI))
def wtB:ao->So:=(jF 4 yN 0 nA λ_=> .nx)
def ftT:ao->R Bool:=(bW (bin (bin (cW gQ 0 (λρ=>cD ρ 4) nA) (ci 1) bQ) (aD maxD (ak (gv 2) (ak (ci 1) nA))) qz))
def ftB:ao->So:=(jF 4 uq 0 nA λ_=> .nx)
def lg:ao->So:=(aN (sE 4 (gb cQ 2 1 [.inl 0] (ak (gv 0) nA) (ak (gv 3) nA))) (aN (fZ ntT ntB 64) (aN (fZ wtT wtB 64) (aN (dI (bW (bin (bin (cW gQ 0 (λρ=>cD ρ 4) nA) (ci 0) bQ) (gv 1) gP)) (fZ ftT ftB 64) So.nx) (aaE 4)))))
def jG:List D->R Dk:=yK 1 lg
def NK:ao->So:=(aN (Ra iB "SeamError" 2 (Jl (gb jG 4 1 [.inl 0] (ak (gv 0) (ak (ci 3) (ak (ci 3) nA))) (ak (gv 1) nA))) (retS (jZ (ak (Ez iB 2 "NoPicture") (ak (Ez iB 2 "NoManner") nA))))) (retS (jZ nA)))
def nH(ds:List D):R D:=cZ 1 NK (ds.map .val)
def xJ:ao->So:=(aN (QG 4 5 (bin (jZ (ak (ci 2) (ak (ci 5) (ak (ci 100) (ak (ci 10) nA))))) (aD (aO dG 3) (ak (gv 0) (ak (gv 1) (ak (ci 4) nA)))) bQ) nA) (aN (tU (λρ=>((ak (gv 3) nA) ρ).bind mO) (aL 6) (tX 5 (aD mU (ak (bY 1 [1,2,4,0,6] (λρ=>((ak (gv 2) nA) ρ).bind mO) (aL 0) tT (aD (aO dG 3) (ak (gv 4) (ak (bin (bin (bin (gv 1) (ci 1) fD) (bin (gv 2) (gv 5) iI) fD) (gv 0) fD) (ak (gv 3) nA))))) nA)))) (retS (aD mU (ak (gv 5) nA)))))
def pK:List D->R D:=cj 3 xJ
def Gb:ao->So:=(retS (aD (aO pK 4) (ak (gv 0) (ak (bin (gv 1) (ci 2) fD) (ak (bin (ci 1) (aD (aO dG 3) (ak (gv 0) (ak (gv 1) (ak (gv 2) nA)))) fD) (ak (bin (ci 1) (aD (aO dG 3) (ak (gv 0) (ak (bin (gv 1) (ci 1) fD) (ak (gv 3) nA)))) fD) nA))))))
def vQ:List D->R D:=cj 0 Gb
def Jt:ao->So:=(retS (bin (bin (iV (λρ=>cD ρ 0) (λk=> .lst k.pg)) (ci 0) bQ) (ci 1) bQ))
def oA(k:Dk)(ds:List D):R D:=cZ 0 Jt (.eU k::ds.map .val)
def vo:ao->So:=(retS (nu (iV (λρ=>cD ρ 0) (λk=> .lst k.pg)) (λρ=>(((ci 1):ao->R D) ρ).bind Iz) (λρ=>((bin (iV (λρ=>cD ρ 0) (λk=> .int k.n)) (ci 1) dX) ρ).bind Iz)))
def iT(k:Dk)(ds:List D):R D:=cZ 0 vo (.eU k::ds.map .val)
def RV:ao->So:=(retS (bY 4 [] (fY (cW iT 0 (λρ=>cD ρ 0) nA)) (dR (dU 4 (bf (aL 0) (bf (aL 1) (bf (aL 2) (bf (aL 3) nilG)))))) tT (gv 0)))
def pL(k:Dk)(ds:List D):R D:=cZ 0 RV (.eU k::ds.map .val)
def Gd:ao->So:=(aN (dI (o9 (bW (iV (λρ=>cD ρ 1) λ_=> .bl true))) (retS (λ_=> .ok (.bl false))) So.nx) (retS (qR (bin (cW oA 0 (λρ=>cD ρ 0) nA) (cW oA 0 (λρ=>cD ρ 1) nA) gP) (qR (bin (iV (λρ=>cD ρ 0) Dk.m) (iV (λρ=>cD ρ 1) Dk.m) gP) (bin (cW pL 0 (λρ=>cD ρ 0) nA) (cW pL 0 (λρ=>cD ρ 1) nA) gP)))))
def vR(k l:Dk):R D:=cZ 0 Gd [.eU k,.eU l]
def NP:ao->So:=(retS (qR (aD (aO oh 1) (ak (gv 0) nA)) (Ie (ci 0) (gv 0) (ci 2) Av Av)))
def NQ:List D->R D:=cj 0 NP
def xK:ao->So:=(retS (qR (Ep jw (gv 0)) (qR (bin (aD cH (ak (gv 0) nA)) (gv 1) gP) (aD yx (ak (bY 1 [] (fY (gv 0)) (aL 0) tT (aD (aO NQ 1) (ak (gv 0) nA))) nA)))))
def xM:List D->R D:=cj 0 xK
def Ju:ao->So:=(aN (dI (U3 (o9 (bW (Ep jw (gv 0)))) (bW (bin (aD cH (ak (gv 0) nA)) (aD cH (ak (gv 1) nA)) uc))) (retS (λ_=> .ok (.bl false))) So.nx) (retS (aD yx (ak (bY 1 [1] (fY (gv 0)) (aL 0) tT (aD (aO xM 2) (ak (gv 0) (ak (aD cH (ak (bin (gv 1) (ci 0) bQ) nA)) nA)))) nA))))
def Jv:List D->R D:=cj 0 Ju
def Ce:ao->So:=(aN (dI (bW (bin (gv 0) (λ_=> .ok .non) isD)) (retS (aD (aO sG 1) (ak (gv 1) nA))) So.nx) (aN (dI (o9 (bW (aD (aO Jv 2) (ak (gv 0) (ak (gv 1) nA))))) (λ_=> .bad) So.nx) (retS (gv 0))))
def oE:List D->R D:=cj 0 Ce
def Cg:ao->So:=(dI (U3 (o9 (bW (aD (aO oh 1) (ak (gv 0) nA)))) (o9 (bW (Ie (gv 1) (gv 0) (gv 2) Av Av)))) (λ_=> .bad) So.nx)
def ur:List D->R D:=cj 0 Cg
def Y5:ao->R Bool:=(bW (bin (aD cH (ak (gv 6) nA)) (gv 1) ltI))
def tkB:ao->So:=(aN (bC (aD (aO jW 2) (ak (aD (aO tu 2) (ak (gv 4) (ak (gv 2) nA))) (ak (gv 5) nA))) (aL 8)) (aN (dI (bW (bin (gv 8) (λ_=> .ok .non) isD)) (retS (λ_=> .ok .non)) So.nx) (aN (bC (gv 8) (dR (dU 2 (bf (aL 9) (bf (aL 10) nilG))))) (aN (tX 6 (cU (ak (gv 10) (ak (aD (aO mD 2) (ak (gv 4) (ak (gv 10) nA))) nA)))) (aN (Q8 7 (gv 9)) (Az 4 5 (aD (aO iR 2) (ak (gv 4) (ak (gv 10) nA))) (aD (aO iR 2) (ak (gv 5) (ak (gv 10) nA)))))))))
def Vz:ao->So:=(aN (Az 4 5 (gv 0) (gv 3)) (aN (newL nA 6) (aN (bC (ci 0) (aL 7)) (aN (fZ Y5 tkB 64) (retS (cU (ak (gv 4) (ak (gv 6) (ak (gv 7) nA)))))))))
def KZ(ds:List D):R D:=cZ 7 Vz (ds.map .val)
def Jw:ao->So:=(aN (uY (aD (okN jm 1) (ak (gv 0) nA))) (aN (uY (aD (okN mC 1) (ak (gv 2) nA))) (aN (bC (aD (aO oE 2) (ak (gv 3) (ak (gv 0) nA))) (aL 4)) (aN (uY (aD (aO ur 3) (ak (gv 1) (ak (ci 1) (ak (aD cH (ak (bin (gv 0) (ci 0) bQ) nA)) nA))))) (retS (aD (aO KZ 4) (ak (gv 0) (ak (bin (aD cH (ak (bin (gv 0) (ci 0) bQ) nA)) (gv 1) fX) (ak (gv 2) (ak (gv 4) nA))))))))))
def yO(ds:List D):R D:=cZ 1 Jw (ds.map .val)
def Jx:ao->So:=(aN (bC (aD (aO yO 4) (ak (gv 0) (ak (gv 1) (ak (gv 2) (ak (gv 3) nA))))) (aL 4)) (aN (dI (bW (bin (gv 4) (λ_=> .ok .non) isD)) (retS (λ_=> .ok .non)) So.nx) (retS (bin (gv 4) (ci 0) bQ))))
def yP(ds:List D):R D:=cZ 1 Jx (ds.map .val)
def Jy:ao->So:=(aN (bC (gv 0) (dR (dU 3 (bf (aL 2) (bf (aL 3) (bf (aL 4) nilG)))))) (aN (dI (bW (bin (gv 2) (λ_=> .ok (.str "narrow")) gP)) (retS (aD (aO eY 3) (ak (gv 1) (ak (gv 3) (ak (gv 4) nA))))) So.nx) (aN (dI (bW (bin (gv 2) (λ_=> .ok (.str "flatten")) gP)) (retS (aD (aO fQ 1) (ak (aD (aO eY 3) (ak (aD (aO fQ 1) (ak (gv 1) nA)) (ak (gv 3) (ak (gv 4) nA)))) nA))) So.nx) (retS (aD (aO iR 2) (ak (gv 1) (ak (aD (aO mF 1) (ak (gv 3) nA)) nA)))))))
def sI:List D->R D:=cj 3 Jy
def Jz:ao->So:=(retS (bY 4 [] (fY (cW iT 0 (λρ=>cD ρ 0) nA)) (dR (dU 4 (bf (aL 0) (bf (aL 1) (bf (aL 2) (bf (aL 3) nilG)))))) (bW (bin (gv 3) (λ_=> .ok .non) QL)) (gv 3)))
def yQ(k:Dk)(ds:List D):R D:=cZ 0 Jz (.eU k::ds.map .val)
def Ge:ao->So:=(aN (bC (cW gj 0 (λρ=>cD ρ 0) nA) (aL 1)) (aN (tU (λρ=>((ak (cW yQ 0 (λρ=>cD ρ 0) nA) nA) ρ).bind Wo) (aL 2) (bC (aD (aO sI 2) (ak (gv 2) (ak (gv 1) nA))) (aL 1))) (retS (gv 1))))
def vU(k:Dk)(ds:List D):R D:=cZ 2 Ge (.eU k::ds.map .val)
def lw4:ao->So:=(dI (bW (bin (aD (aO dG 3) (ak (gv 0) (ak (ci 63) (ak (ci 14) nA)))) (ci 0) gP)) (bC (ci 25) (aL 5)) So.nx)
def lw7:ao->So:=(dI (bW (bin (gv 5) (ci 1) ltI)) (dI (bW (bin (cW gQ 0 (λρ=>cD ρ 7) nA) (cU (ak (ci 1) (ak (gv 4) nA))) uc)) (retS (λ_=> .ok (.bl false))) So.nx) (dI (bW (bin (gv 5) (ci 20) qz)) (dI (bW (bin (cW gQ 0 (λρ=>cD ρ 7) nA) (cU (ak (ci 20) (ak (gv 4) nA))) uc)) (retS (λ_=> .ok (.bl false))) So.nx) (dI (bW (bin (cW gQ 0 (λρ=>cD ρ 7) nA) (cU (ak (gv 8) (ak (aD minD (ak (gv 4) (ak (aD maxD (ak (ci 1) (ak (gv 6) nA))) nA))) nA))) uc)) (retS (λ_=> .ok (.bl false))) So.nx)))
def lw9:ao->R D:=(MP (bW (bin (gv 8) (gv 3) ltI)) (λ_=> .ok (.str "narrow")) (λ_=> .ok (.str "widen")))
def ad2:ao->So:=(dI (bW (bin (gv 9) (bin (bin (jZ (ak (gv 10) nA)) (aD yF (ak (bin (gv 8) (gv 3) fX) nA)) RK) (bin (jZ (ak (λ_=> .ok (.str "flatten")) nA)) (bin (gv 4) (bin (cW gQ 0 (λρ=>cD ρ 7) nA) (ci 1) bQ) fX) RK) dX) uc)) (retS (λ_=> .ok (.bl false))) So.nx)
def ad3:ao->So:=(dI (bW (bin (cW vU 0 (λρ=>cD ρ 7) nA) (gv 1) uc)) (retS (λ_=> .ok (.bl false))) So.nx)
def ad4:ao->So:=(dI (bW (RJ vR (gb jG 4 0 [.inr (.str "worth")] (ak (gv 1) (ak (gv 3) (ak (gv 4) nA))) nA) (gb jG 4 1 [.inl 0] (ak (gv 1) (ak (gv 3) (ak (gv 4) nA))) (ak (λ_=> .ok (.str "worth")) nA)))) (retS (λ_=> .ok (.bl false))) So.nx)
def ad5:ao->So:=(dI (bW (bin (gv 8) (gv 3) Av)) (dI (bW (bin (cW gj 0 (gb jG 4 1 [.inl 0] (ak (gv 1) (ak (gv 8) (ak (gv 4) nA))) (ak (gv 2) nA)) nA) (Ql yP 4 1 [.inl 0,.inr .non] (ak (gv 1) (ak (gv 8) nA)) (ak (gv 2) nA)) uc)) (retS (λ_=> .ok (.bl false))) So.nx) So.nx)
def abA:ao->So:=(aN (Az 1 2 (aD (aO vQ 4) (ak (gv 0) (ak (ci 0) (ak (ci 6) (ak (ci 4) nA))))) (aD (aO qU 2) (ak (gv 0) (ak (ci 60) nA)))) (aN (bC (aD (aO nF 1) (ak (gv 1) nA)) (dR (dU 2 (bf (aL 3) (bf (aL 4) nilG))))) (aN (Az 5 6 (bin (aD (aO dG 3) (ak (gv 0) (ak (ci 61) (ak (ci 12) nA)))) (ci 1) fX) (bin (aD (aO dG 3) (ak (gv 0) (ak (ci 62) (ak (ci 9) nA)))) (ci 1) fX)) (aN lw4 (aN (Rx (gb jG 4 1 [.inl 0] (ak (gv 1) (ak (gv 5) (ak (gv 6) nA))) (ak (gv 2) nA)) 7) (aN (bC (aD maxD (ak (ci 1) (ak (aD minD (ak (ci 20) (ak (gv 5) nA))) nA))) (aL 8)) (aN lw7 (aN (bC (bY 1 [] (fY (cW pL 0 (λρ=>cD ρ 7) nA)) (aL 0) tT (bin (gv 0) (ci 0) bQ)) (aL 9)) (aN (bC lw9 (aL 10)) (aN ad2 (aN ad3 (aN ad4 (aN ad5 (aN (bC (jZ (ak (aD (aO nH 2) (ak (cU (ak (cU (ak (ci 100) nA)) nA)) (ak (λ_=> .ok (.str "plain")) nA))) (ak (aD (aO nH 2) (ak (gv 1) (ak (λ_=> .ok (.str "plain")) nA))) nA))) (aL 11)) (retS (bin (gv 11) (jZ (ak (jZ (ak (λ_=> .ok (.bl true)) (ak (λ_=> .ok (.bl false)) nA))) (ak (jZ (ak (λ_=> .ok (.bl false)) (ak (λ_=> .ok (.bl true)) nA))) nA))) gP))))))))))))))))
def JB(ds:List D):R D:=cZ 11 abA (ds.map .val)
end xr
namespace xr
open PySem PySem.Spec L2 Pu
variable{m j:Int}{ds acc:List D}{F:List D->R D}{cs:List Wy}{x i y k:Nat}{s:Nat->Nat}{e0 e1 e9 e10 e8 e5 e3 e7:Option Ent}{fa:ao->R (List D)}{u:ao->R D}{wd:Str}{a b:Wy}
def row(w:Nat)(f:Nat->Int):D:= .tup ((afR w).map λx=> .int (f x))
def aQ(w h:Nat)(f:Nat->Nat->Int):D:= .tup ((afR h).map λy=>row w (f y))
structure Ok(w h:Nat)(f:Nat->Nat->Int):Prop where
 w1:1<=w
 w2:w<=20
 h1:1<=h
 h2:h<=20
 c:∀y<h,∀x<w,0<=f y x/\f y x<=99
theorem Fo{i:Int}(h:i<=j):Av (.int i) (.int j)= .ok (.bl true):=by
 show R.ok (D.bl (decide (i<=j)))=_;rw[z9t h]
theorem JC(h1:1<=ds.length)(h2:ds.length<=20):qM [.tup ds]= .ok (.bl true):=
 cP (bh (Ba rfl (QJ rfl (aZ (au rfl) rfl) (Fo ()) rfl (Fo ()))))
theorem Gf{i:Int}:oh [.int i]= .ok (.bl true):=rfl
theorem WT{i:Int}(h0:0<=i)(h1:i<=99):Bx [.int i]= .ok (.bl true):=by
 show cP (bh (Ba (aY (au rfl) Gf) (QJ rfl rfl (Fo h0) rfl (Fo h1))))
theorem Y6{w:Nat}{f:Nat->Int}(h1:1<=w)(h2:w<=20)(hc:∀x<w,0<=f x/\f x<=99):Hh [row w f]= .ok (.bl true):=by
 show cP (bh (Ba (aY (au rfl) (JC (by simpa using h1) (by simpa using h2))) (aZ (au (cJ (c:=λx=> .int (f x)) (h:=λ_=> .bl true) (l:=afR w) (m7 rfl) (by rw[z2d];omega) λx hx=>?_)) Kv)));let⟨a,b⟩:=hc x (z2e hx);show cX rfl (aY (au rfl) (WT a b))
section
variable{w h:Nat}{f:Nat->Nat->Int}
theorem Ol(o:Ok w h f):uh [aQ w h f]= .ok (.bl true):=by
 have e1:qM [aQ w h f]= .ok (.bl true):=JC (by simpa using o.h1) (by simpa using o.h2);show cP (aK (bV (X6 (lR (aX (aY (au rfl) e1))) (lR (aX (aZ (au (cJ (c:=λy=>row w (f y)) (h:=λ_=> .bl true) (l:=afR h) (m7 rfl) (by rw[z2d];have:=o.h2;omega) λy hy=>?_)) Kv)))) rfl) (bh (aZ (au (cJ (c:=λy=>row w (f y)) (h:=λ_=> .bl true) (l:=afR h) (m7 rfl) (by rw[z2d];have:=o.h2;omega) λy hy=>?_)) Kv)))
 .show cX rfl (aY (au rfl) (Y6 o.w1 o.w2 (o.c y (z2e hy))))
 .show cX rfl (aA (aZ (au rfl) rfl) (aZ (au (aA rfl rfl (dN (i:=0) (d:=row w (f 0)) ?_))) rfl) (yD ?_ ?_))
  .rw[z2b,agr o.h1];rfl
  .simp
  .simp[dep]
theorem Fp(o:Ok w h f):jm [aQ w h f]= .ok .non:=Qj (bV (lR (aX (aY (au rfl) (Ol o)))) rfl)
theorem size_eq(o:Ok w h f):nF [aQ w h f]= .ok (.tup [.int w,.int h]):=by
 show cP (aK (Eu (qL (au rfl) (Fp o))) (bh (cO (aB (aZ (au (aA rfl rfl (dN (i:=0) (d:=row w (f 0)) ?_))) ?_) (au (aZ (au rfl) ?_))))))
 .rw[z2b,agr o.h1];rfl
 .simp[row,cH]
 .simp[aQ,cH]
theorem lq(o:Ok w h f):fQ [aQ w h f]= .ok (aQ h w λy x=>f x y):=by
 show cP (aK (bw (aY (au rfl) (size_eq o)) rfl) (bh (aZ (au (cJ (c:=λ(x:Nat)=> .int (x:Int)) (h:=λx=>row h λy=>f y x) (l:=afR w) (qI (au rfl) (by have:=o.w2;omega)) (by rw[z2d];have:=o.w2;omega) λx hx=>?_)) rfl)));show cX rfl (aZ (au (cJ (c:=λ(y:Nat)=> .int (y:Int)) (h:=λy=> .int (f y x)) (l:=afR h) (qI (au rfl) (by have:=o.h2;omega)) (by rw[z2d];have:=o.h2;omega) λy hy=>?_)) rfl);show cX rfl (aA (aA rfl rfl (dN (i:=y) (d:=row w (f y)) ?_)) rfl (dN (i:=x) ?_))
 .rw[z2b,agr (z2e hy)];rfl
 .rw[z2b,agr (z2e hx)];rfl
end
def aaN:ao->So:=(tX 5 (aD mU (ak (bY 1 [1,2,4,0,6] (λρ=>((ak (gv 2) nA) ρ).bind mO) (aL 0) tT (aD (aO dG 3) (ak (gv 4) (ak (bin (bin (bin (gv 1) (ci 1) fD) (bin (gv 2) (gv 5) iI) fD) (gv 0) fD) (ak (gv 3) nA))))) nA)))
section
variable{ns:List Int}{a m:Int}{w h:Nat}
def vA(d:D):Option Ent:=some (.val d)
theorem ad6(hns:ns.length<=1000000)(ha:0<=a)(hm:0<m)(hw:w<=20){tl:Option Ent}(hl:acc.length<1000000):
  aaN [vA (.lst (ns.map .int)),vA (.int a),vA (.int (w:Int)),tl,vA (.int m),some (.lst acc),vA (.int (y:Int))] =
   .nx [vA (.lst (ns.map .int)),vA (.int a),vA (.int (w:Int)),tl,vA (.int m),some (.lst (acc++[row w λx=>dr ns (a+1+(w:Int)*(y:Int)+(x:Int)) m])),vA (.int (y:Int))]:=by
 have e:aD mU (ak (bY 1 [1,2,4,0,6] (λρ=>((ak (gv 2) nA) ρ).bind mO) (aL 0) tT (aD (aO dG 3) (ak (gv 4) (ak (bin (bin (bin (gv 1) (ci 1) fD) (bin (gv 2) (gv 5) iI) fD) (gv 0) fD) (ak (gv 3) nA))))) nA)
   [vA (.lst (ns.map .int)),vA (.int a),vA (.int (w:Int)),tl,vA (.int m),some (.lst acc),vA (.int (y:Int))]= .ok (row w λx=>dr ns (a+1+(w:Int)*(y:Int)+(x:Int)) m):=by
  show aZ (au (cJ (c:=λ(x:Nat)=>D.int (x:Int)) (h:=λ(x:Nat)=>D.int (dr ns (a+1+(w:Int)*(y:Int)+(x:Int)) m)) (l:=afR w) (qI (au rfl) ()) (by rw[z2d];omega) λx hx=>?_)) rfl;show cX rfl (aY (aB rfl (aB (aA (aA (aA rfl rfl rfl) (aA rfl rfl (nQ (.inl ⟨(),()⟩))) rfl) rfl rfl) (au rfl))) ?_);have hp:(0:Int)<=(w:Int)*(y:Int):=Int.mul_nonneg () ();show (su hns () hm).1
 unfold aaN tX;rw[e];show (if acc.length<1000000 then So.nx _ else .bad)=_;rw[z9p hl];rfl
theorem RW(hns:ns.length<=1000000)(ha:0<=a)(hm:0<m)(hw:w<=20){tl:Option Ent}:∀{ys:List Nat} {acc:List D} {x:Option Ent},acc.length+ys.length<=1000000->
  ∃x',forL (aL 6) aaN (ys.map λ(y:Nat)=>D.int (y:Int)) [vA (.lst (ns.map .int)),vA (.int a),vA (.int (w:Int)),tl,vA (.int m),some (.lst acc),x] =
   .nx [vA (.lst (ns.map .int)),vA (.int a),vA (.int (w:Int)),tl,vA (.int m),some (.lst (acc++ys.map λ(y:Nat)=>row w λx=>dr ns (a+1+(w:Int)*(y:Int)+(x:Int)) m)),x']
 |[],acc,x,_=>⟨x,by rw[aif,aif,ags];rfl⟩
 | y::ys,acc,x,hl=>by
  rw[afY] at hl;let⟨x',e⟩:=RW hns ha hm hw (tl:=tl) (ys:=ys) (acc:=acc++[row w λx=>dr ns (a+1+(w:Int)*(y:Int)+(x:Int)) m]) (x:=vA (.int (y:Int))) (by rw[z1d];simp only[afY,ahk];omega);show⟨x',?_⟩;rw[ahi] at e;rw[z1h,z1h];show kJ rfl (ad6 hns ha hm hw ()) e
theorem WW(hns:ns.length<=1000000)(ha:0<=a)(hw:w<=20)(hw1:1<=w)(hh:h<=20)(hh1:1<=h):∃f,pK [.lst (ns.map .int),.int a,.int (w:Int),.int (h:Int)]= .ok (aQ w h f)/\Ok w h f:=by
 let⟨e1,h0,h4⟩:=su (k:=a) (m:=4) hns ha ();let⟨d,hd,ed⟩:=Ku (xs:=[D.int 2,.int 5,.int 100,.int 10]) h0 h4;have hm:∃m,d= .int m/\0<m/\m<=100:=by
  simp only[af9,agZ,or_false] at hd;rcases hd with rfl |rfl |rfl |rfl
  .show⟨_,rfl,(),()⟩
  .show⟨_,rfl,(),()⟩
  .show⟨_,rfl,(),()⟩
  .show⟨_,rfl,(),()⟩
 let⟨m,rfl,hm0,hm1⟩:=hm;let⟨x',er⟩:=RW hns ha hm0 hw (tl:=vA (.int (h:Int))) (ys:=afR h) (acc:=[]) (x:=none) (by rw[z2d,ahk];omega);show⟨λy x=>dr ns (a+1+(w:Int)*(y:Int)+(x:Int)) m,cP (aK (ρ':=[vA (.lst (ns.map .int)),vA (.int a),vA (.int (w:Int)),vA (.int (h:Int)),vA (.int m),some (.lst []),none]) ?_ (aK (ud (qI (m:=h) (au rfl) ()) er) (bh (aZ (au (x:= .lst ((afR h).map λ(y:Nat)=>row w λx=>dr ns (a+1+(w:Int)*(y:Int)+(x:Int)) m)) rfl) rfl)))),hw1,hw,hh1,hh,λy hy x hx=>?_⟩
 .show abM (aA (x:= .lst [D.int 2,.int 5,.int 100,.int 10]) (y:= .int (dr ns a 4)) (iw rfl) (aY (aB rfl (aB rfl (au rfl))) e1) (Bc ed)) rfl
 .have hp:(0:Int)<=(w:Int)*(y:Int):=Int.mul_nonneg () ();have:=(su (k:=a+1+(w:Int)*(y:Int)+(x:Int)) (m:=m) hns () hm0).2;show 0<=dr _ _ _/\dr _ _ _<=99;omega
end
section
variable{w h:Nat}{f g:Nat->Nat->Int}
theorem K1:dep (aQ w h f)<=40:=by
 unfold aQ;rw[dep];have:=wV (c:=λy=>row w (f y)) (n:=1) (l:=afR h) (λy _=>by
  unfold row;rw[dep];have:=wV (c:=λx=>D.int (f y x)) (n:=0) (l:=afR w) (λx _=>by simp[dep]);omega)
 omega
theorem Ok.turn(o:Ok w h f):Ok h w (λy x=>f x y):=⟨o.h1,o.h2,o.w1,o.w2,λy hy x hx=>o.c x hx y hy⟩
end
structure pN(w h:Nat)(s:Nat->Nat):Prop where
 lt:∀y<h,s y<w
 st:∀y,y+1<h->s (y+1)<=s y+1/\s y<=s (y+1)+1
abbrev sm(h:Nat)(s:Nat->Nat):D:=row h λy=>((s y:Nat):Int)
section
variable{ρ:ao}{fa:ao->R (List D)}{α:Type}{l:List α}{p q r:α->D}{x y z:D}
theorem K4(e:fa ρ= .ok [x,y])(h1:dD x= .ok (l.map p))(h2:dD y= .ok (l.map q)):(λρ=>(fa ρ).bind zip2) ρ= .ok (l.map λa=> .tup [p a,q a]):=by
 show (fa ρ).bind zip2=_;rw[e,R.aR,zip2,h1,R.aR,h2,R.aR,Kz,ak4,agP];rfl
theorem acv(e:fa ρ= .ok [x,y,z])(h1:dD x= .ok (l.map p))(h2:dD y= .ok (l.map q))(h3:dD z= .ok (l.map r)):(λρ=>(fa ρ).bind Bf) ρ= .ok (l.map λa=> .tup [p a,q a,r a]):=by
 show (fa ρ).bind Bf=_;rw[e,R.aR,Bf,h1,R.aR,h2,R.aR,h3,R.aR,Ey,ak4,ak4,agP];rfl
theorem Y7{n d:Nat}:HT.sIx n d (some (k:Int))=min k n:=by
 show (if (k:Int)<0 then ((k:Int)+(n:Int)).toNat else min (k:Int).toNat n)=min k n;rw[z9n (),ahs]
theorem JD{n d:Nat}:HT.sIx n d none=d:=rfl
theorem acw{n:Nat}(h:n<=ds.length):jk ds none (some (n:Int))=ds.take n:=by
 rw[jk,Y7,JD,ajC h,akG];rfl
theorem Y8{n:Nat}(h:n<=ds.length):jk ds (some (n:Int)) none=ds.drop n:=by
 rw[jk,Y7,JD,ajC h,ajf (by rw[akz];show z0g _)]
theorem VB{f:ao->R D}{fu:ao->R (Option Int)}{n:Nat}(e1:f ρ= .ok (.tup ds))(e2:fu ρ= .ok (some (n:Int)))(h:n<=ds.length):nU f (λ_=> .ok none) fu ρ= .ok (.tup (ds.take n)):=by
 rw[nU,e1,R.aR,R.aR,e2,R.aR,QM,acw h]
theorem NT{f:ao->R D}{fl:ao->R (Option Int)}{n:Nat}(e1:f ρ= .ok (.tup ds))(e2:fl ρ= .ok (some (n:Int)))(h:n<=ds.length):nU f fl (λ_=> .ok none) ρ= .ok (.tup (ds.drop n)):=by
 rw[nU,e1,R.aR,e2,R.aR,R.aR,QM,Y8 h]
theorem Fq{xs ys:List D}(h:xs.length+ys.length<=1000000):dX (.tup xs) (.tup ys)= .ok (.tup (xs++ys)):=by
 rw[dX,z9p h]
theorem acy{xs ys:List D}(h:xs.length+ys.length<=1000000):dX (.lst xs) (.lst ys)= .ok (.lst (xs++ys)):=by
 rw[dX,z9p h]
end
section
variable{w h:Nat}{g:Nat->Int}{n:Nat}{c:Int}
theorem aaO(hn:n<w):((afR w).map λx=>D.int (g x)).take n++((afR w).map λx=>D.int (g x)).drop (n+1)=(afR (w - 1)).map λx=>D.int (if x<n then g x else g (x+1)):=by
 show List.ext_getElem () λi h1 h2=>?_;rw[ajL];by_cases hi:i<n
 .rw[dif_pos ()];simp[hi]
 .rw[dif_neg ()];have e:n+1+(i - min n w)=i+1:=()
  simp[hi,e]
theorem row_more(hn:n<=w):(((afR w).map λx=>D.int (g x)).take n++[D.int c])++((afR w).map λx=>D.int (g x)).drop n=(afR (w+1)).map λx=>D.int (if x<n then g x else if x=n then c else g (x - 1)):=by
 show List.ext_getElem () λi h1 h2=>?_;rw[ajL];by_cases hi:i<n+1
 .rw[dif_pos (),ajL];by_cases hj:i<n
  .rw[dif_pos ()];simp[hj]
  .rw[dif_neg ()];have:i=n:=()
   simp[this]
 .rw[dif_neg ()];have e:n+(i - (min n w+1))=i - 1:=()
  have e1:¬i<n:=()
  have e2:¬i=n:=()
  simp[e,e1,e2]
end
section
variable{w h:Nat}{f:Nat->Nat->Int}{s:Nat->Nat}
theorem len0(o:Ok w h f){ρ:ao}(e:u ρ= .ok (aQ w h f)):aD cH (ak (bin u (ci 0) bQ) nA) ρ= .ok (.int (w:Int)):=by
 show aZ (au (aA e rfl (dN (i:=0) (d:=row w (f 0)) ?_))) ?_
 .rw[z2b,agr o.h1];rfl
 .simp[row,cH]
theorem xO(q:pN w h s)(Gg:h<=20):mD [aQ w h f,sm h s]= .ok (row h λy=>f y (s y)):=by
 show cP (bh (aZ (au (cJ (c:=λy=> .tup [row w (f y),.int ((s y:Nat):Int)]) (h:=λy=> .int (f y (s y))) (l:=afR h) (K4 (aB rfl (au rfl)) rfl rfl) (by rw[z2d];omega) λy hy=>?_)) rfl));show cX rfl (aA rfl rfl (dN (i:=s y) ?_));rw[z2b,agr (q.lt y (z2e hy))];rfl
def less(s:Nat->Nat)(f:Nat->Nat->Int):Nat->Nat->Int:=λy x=>if x<s y then f y x else f y (x+1)
def more(s:Nat->Nat)(c:Nat->Int)(f:Nat->Nat->Int):Nat->Nat->Int:=λy x=>if x<s y then f y x else if x=s y then c y else f y (x - 1)
theorem oF(q:pN w h s)(Gg:h<=20)(w20:w<=20):iR [aQ w h f,sm h s]= .ok (aQ (w - 1) h (less s f)):=by
 show cP (bh (aZ (au (cJ (c:=λy=> .tup [row w (f y),.int ((s y:Nat):Int)]) (h:=λy=>row (w - 1) (less s f y)) (l:=afR h) (K4 (aB rfl (au rfl)) rfl rfl) (by rw[z2d];omega) λy hy=>?_)) rfl));have hs:=q.lt y (z2e hy);show cX rfl (aA (VB (n:=s y) rfl rfl ()) (NT (n:=s y+1) rfl rfl ()) ((Fq ()).trans ?_));rw[aaO hs];rfl
theorem mJ{c:Nat->Int}{u v:D}(q:∀y<h,s y<=w)(Gg:h<=20)(w20:w<=20)(hu:dD u= .ok ((afR h).map λy=> .int ((s y:Nat):Int)))(hv:dD v= .ok ((afR h).map λy=> .int (c y))):
  eY [aQ w h f,u,v]= .ok (aQ (w+1) h (more s c f)):=by
 show cP (bh (aZ (au (cJ (c:=λy=> .tup [row w (f y),.int ((s y:Nat):Int),.int (c y)]) (h:=λy=>row (w+1) (more s c f y)) (l:=afR h) (acv (aB rfl (aB rfl (au rfl))) rfl hu hv) (by rw[z2d];omega) λy hy=>?_)) rfl));have hs:=q y (z2e hy);show cX rfl (aA (aA (VB (n:=s y) rfl rfl ()) (cO (au rfl)) (Fq ())) (NT (n:=s y) rfl rfl ()) ((Fq ()).trans ?_));rw[row_more hs];rfl
def mean(w:Nat)(g:Nat->Int)(n:Nat):Int:=(g n+g (min (n+1) (w - 1))) / 2
theorem acz{g:Nat->Int}{n:Nat}(hn:n<w)(w20:w<=20):qX [row w g,.int (n:Int)]= .ok (.int (mean w g n)):=by
 show cP (aK (bw (d:= .int ((min (n+1) (w - 1):Nat):Int)) (aZ (aB (x:= .int ((n+1:Nat):Int)) (aA rfl rfl rfl) (au (x:= .int ((w - 1:Nat):Int)) (aA (aZ (au rfl) rfl) rfl ?_))) ?_) rfl) (bh (aA (aA (x:= .int (g n)) (y:= .int (g (min (n+1) (w - 1)))) (aA rfl rfl (dN (i:=n) ?_)) (aA rfl rfl (dN (i:=min (n+1) (w - 1)) ?_)) rfl) rfl (lU ⟨(),()⟩))))
 .show R.ok (D.int ((((afR w).map λx=>D.int (g x)).length:Int) - 1))=_;rw[z1g,z2d,show (w:Int) - 1=((w - 1:Nat):Int) by omega]
 .show R.ok (D.int (if ((w - 1:Nat):Int)<((n+1:Nat):Int) then _ else _))=_;congr 2;split <;> omega
 .rw[z2b,agr hn];rfl
 .rw[z2b,agr ()];rfl
theorem aaP(o:Ok w h f)(q:pN w h s):qY [aQ w h f,sm h s]= .ok (row h λy=>mean w (f y) (s y)):=by
 show cP (bh (aZ (au (cJ (c:=λy=> .tup [row w (f y),.int ((s y:Nat):Int)]) (h:=λy=> .int (mean w (f y) (s y))) (l:=afR h) (K4 (aB rfl (au rfl)) rfl rfl) (by rw[z2d];have:=o.h2;omega) λy hy=>?_)) rfl));show cX rfl (aY (aB rfl (au rfl)) (acz (q.lt y (z2e hy)) o.w2))
theorem NZ(Gg:h<=20):mF [sm h s]= .ok (sm h λy=>s y+1):=by
 show cP (bh (aZ (au (cJ (c:=λy=> .int ((s y:Nat):Int)) (h:=λy=> .int ((s y+1:Nat):Int)) (l:=afR h) (m7 rfl) (by rw[z2d];omega) λy hy=>?_)) rfl));show cX rfl (aA rfl rfl rfl)
end
theorem pO{ρ:ao}(e:fa ρ= .ok ds)(h:ds.length<=1000000:=by show aiz rfl):newL fa i ρ= .nx (ρ.set i (some (.lst ds))):=by
 unfold newL;rw[e];show (if _ then _ else _)=_;rw[z9p h]
def pl(ps:List Nat):List D:=ps.map λp=> .int ((p:Nat):Int)
section
variable{ns:List Int}{a:Int}{w h:Nat}{t:Option Ent}
end
section
variable{w h:Nat}{f:Nat->Nat->Int}
end
section
variable{w h:Nat}{f:Nat->Nat->Int}{s:Nat->Nat}{c:Nat->Int}
theorem Ok.less(o:Ok w h f)(h1:1<w):Ok (w - 1) h (less s f):=by
 show⟨(),by have:=o.w2;omega,o.h1,o.h2,λy hy x hx=>?_⟩;unfold xr.less;split
 .show o.c y hy x ()
 .show o.c y hy (x+1) ()
theorem Ok.more(o:Ok w h f)(h1:w<20)(q:∀y<h,s y<=w)(hc:∀y<h,0<=c y/\c y<=99):Ok (w+1) h (more s c f):=by
 show⟨(),(),o.h1,o.h2,λy hy x hx=>?_⟩;have:=q y hy;unfold xr.more;split
 .show o.c y hy x ()
 .split
  .show hc y hy
  .show o.c y hy (x - 1) ()
theorem acA(o:Ok w h f){n:Nat}(hy:y<h)(hn:n<w):0<=mean w (f y) n/\mean w (f y) n<=99:=by
 have a:=o.c y hy n hn;have b:=o.c y hy (min (n+1) (w - 1)) ();unfold mean;omega
end
def ab(i:Int):Int:=if i<0 then -i else i
def gap(n:Nat)(g:Nat->Int)(x:Nat):Int:=ab (g (x - 1) - g (min (x+1) (n - 1)))
def VD(w h:Nat)(f:Nat->Nat->Int)(y x:Nat):Int:=gap w (f y) x+gap h (λy=>f y x) y
section
variable{n w h:Nat}{g:Nat->Int}{f:Nat->Nat->Int}{s:Nat->Nat}{ρ:ao}
theorem K5:cH [row n g]= .ok (.int (n:Int)):=by simp[row,cH]
theorem K6:cH [aQ w h f]= .ok (.int (h:Int)):=by simp[aQ,cH]
theorem ad7{n:Nat}(h1:1<=n):fX (.int (n:Int)) (.int 1)= .ok (.int ((n - 1:Nat):Int)):=by
 show R.ok (D.int ((n:Int) - 1))=_;rw[show (n:Int) - 1=((n - 1:Nat):Int) by omega]
theorem WX:maxD [.int ((x:Int) - 1),.int 0]= .ok (.int ((x - 1:Nat):Int)):=by
 show R.ok (D.int (if (0:Int) > (x:Int) - 1 then 0 else (x:Int) - 1))=_;congr 2;split <;> omega
theorem min1{n:Nat}:minD [.int ((x+1:Nat):Int),.int (n:Int)]= .ok (.int ((min (x+1) n:Nat):Int)):=by
 show R.ok (D.int (if (n:Int)<((x+1:Nat):Int) then (n:Int) else ((x+1:Nat):Int)))=_;congr 2;split <;> omega
theorem xP(hx:x<n):bQ (row n g) (.int (x:Int))= .ok (.int (g x)):=by
 show dN (i:=x) ?_;rw[z2b,agr hx];rfl
theorem RX(hy:y<h):bQ (aQ w h f) (.int (y:Int))= .ok (row w (f y)):=by
 show dN (i:=y) ?_;rw[z2b,agr hy];rfl
theorem oG{α:Type}{p:Nat->D}(hx:x<n):bQ (.lst ((afR n).map p)) (.int (x:Int))= .ok (p x):=by
 show Bb (i:=x) ?_;rw[z2b,agr hx];rfl
theorem K7(h1:1<=n)(Gg:n<=20):BP [row n g]= .ok (.lst ((afR n).map λx=> .int (gap n g x))):=by
 show cP (aK (bw (aA (aZ (au rfl) K5) rfl (ad7 h1)) rfl) (bh (cJ (c:=λ(x:Nat)=>D.int (x:Int)) (h:=λx=> .int (gap n g x)) (l:=afR n) (qI (au (aZ (au rfl) K5)) ()) (by rw[z2d];omega) λx hx=>?_)));have hx:=z2e hx;show cX rfl (aZ (au (aA (x:= .int (g (x - 1))) (y:= .int (g (min (x+1) (n - 1)))) (aA rfl (aZ (aB (aA rfl rfl rfl) (au rfl)) WX) (xP ())) (aA rfl (aZ (aB (x:= .int ((x+1:Nat):Int)) (aA rfl rfl rfl) (au rfl)) min1) (xP ())) rfl)) rfl)
theorem Y9(o:Ok w h f):Hi [aQ w h f]= .ok (aQ w h (VD w h f)):=by
 have Gg:=o.h2;have w20:=o.w2;show cP (aK (bw (aY (au rfl) (size_eq o)) rfl)
  (aK (bw (cJ (c:=λy=>row w (f y)) (h:=λy=> .lst ((afR w).map λx=> .int (gap w (f y) x))) (l:=afR h) (m7 rfl) (by rw[z2d];omega) λy hy=>cX rfl (aY (au rfl) (K7 o.w1 o.w2))) rfl)
  (aK (bw (cJ (c:=λx=>row h λy=>f y x) (h:=λx=> .lst ((afR h).map λy=> .int (gap h (λy=>f y x) y))) (l:=afR w) (m7 (aY (au rfl) (lq o))) (by rw[z2d];omega) λy hy=>cX rfl (aY (au rfl) (K7 o.h1 o.h2))) rfl)
  (bh (aZ (au (cJ (c:=λ(y:Nat)=>D.int (y:Int)) (h:=λy=>row w (VD w h f y)) (l:=afR h) (qI (au rfl) ()) (by rw[z2d];omega) λy hy=>?_)) rfl)))))
 have hy:=z2e hy;show cX rfl (aZ (au (cJ (c:=λ(x:Nat)=>D.int (x:Int)) (h:=λx=> .int (VD w h f y x)) (l:=afR w) (qI (au rfl) ()) (by rw[z2d];omega) λx hx=>?_)) rfl);have hx:=z2e hx;show cX rfl (aA (x:= .int (gap w (f y) x)) (y:= .int (gap h (λy=>f y x) y)) (aA (aA rfl rfl (oG (α:=D) hy)) rfl (oG (α:=D) hx)) (aA (aA rfl rfl (oG (α:=D) hx)) rfl (oG (α:=D) hy)) rfl)
def fW(T:Nat->Int):D:= .tup [.int (T 0),.int (T 1),.int (T 2)]
def tab(w h:Nat)(T:Nat->Nat->Nat->Int):D:= .lst ((afR h).map λy=> .lst ((afR w).map λx=>fW (T y x)))
def xQ(w:Nat)(f:Nat->Nat->Int)(y x i:Nat):Int:=gap w (f y) x+(if i=0 then ab (f (y - 1) x - f y (x - 1)) else if i=1 then 0 else ab (f (y - 1) x - f y (min (x+1) (w - 1))))
def abB:ao->So:=(aN (bC (bin (gv 7) (aD yF (ak (bin (bin (gv 3) (gv 6) bQ) (bin (gv 2) (aD maxD (ak (bin (gv 6) (ci 1) fX) (ak (ci 0) nA))) bQ) fX) nA)) dX) (aL 8)) (aN (bC (bin (gv 7) (aD yF (ak (bin (bin (gv 3) (gv 6) bQ) (bin (gv 2) (aD minD (ak (bin (gv 6) (ci 1) dX) (ak (gv 4) nA))) bQ) fX) nA)) dX) (aL 9)) (tX 5 (cU (ak (gv 8) (ak (gv 7) (ak (gv 9) nA)))))))
theorem RZ{d:D}(e:u ρ= .ok d)(h:ρ[i]?=some (some (.lst ds)))(hl:ds.length<1000000):tX i u ρ= .nx (ρ.set i (some (.lst (ds++[d])))):=by
 unfold tX;rw[e];simp only[Ih,kh,h];rw[z9p hl]
theorem aaQ(h1:1<=w)(hx:x<w)(hl:acc.length<1000000):
  ∃z8 z9,abB [e0,e1,vA (row w (f y)),vA (row w (f (y - 1))),vA (.int ((w - 1:Nat):Int)),some (.lst acc),vA (.int (x:Int)),vA (.int (gap w (f y) x)),e8,e9] =
   .nx [e0,e1,vA (row w (f y)),vA (row w (f (y - 1))),vA (.int ((w - 1:Nat):Int)),some (.lst (acc++[fW (xQ w f y x)])),vA (.int (x:Int)),vA (.int (gap w (f y) x)),z8,z9]:=by
 show⟨_,_,aK (bw (d:= .int (xQ w f y x 0)) (aA (x:= .int (gap w (f y) x)) (y:= .int (ab (f (y - 1) x - f y (x - 1)))) rfl (aZ (au (aA (x:= .int (f (y - 1) x)) (y:= .int (f y (x - 1))) (aA rfl rfl (xP hx)) (aA rfl (aZ (aB (aA rfl rfl rfl) (au rfl)) WX) (xP ())) rfl)) rfl) rfl) rfl)
  (aK (bw (d:= .int (xQ w f y x 2)) (aA (x:= .int (gap w (f y) x)) (y:= .int (ab (f (y - 1) x - f y (min (x+1) (w - 1))))) rfl (aZ (au (aA (x:= .int (f (y - 1) x)) (y:= .int (f y (min (x+1) (w - 1)))) (aA rfl rfl (xP hx)) (aA rfl (aZ (aB (x:= .int ((x+1:Nat):Int)) (aA rfl rfl rfl) (au rfl)) min1) (xP ())) rfl)) rfl) rfl) rfl)
  (RZ (d:=fW (xQ w f y x)) ((cO (aB rfl (aB rfl (au rfl)))).trans ?_) rfl hl))⟩
 have:xQ w f y x 1=gap w (f y) x:=by simp[xQ]
 rw[fW,this]
theorem join_loop(h1:1<=w){y:Nat}{e0 e1:Option Ent}:∀{xs:List Nat} {acc:List D} {e6 e7 e8 e9:Option Ent},(∀x∈xs,x<w)->acc.length+xs.length<=1000->
  ∃z6 z7 z8 z9,forL (dR (dU 2 (bf (aL 6) (bf (aL 7) nilG)))) abB (xs.map λ(x:Nat)=>D.tup [.int (x:Int),.int (gap w (f y) x)]) [e0,e1,vA (row w (f y)),vA (row w (f (y - 1))),vA (.int ((w - 1:Nat):Int)),some (.lst acc),e6,e7,e8,e9] =
   .nx [e0,e1,vA (row w (f y)),vA (row w (f (y - 1))),vA (.int ((w - 1:Nat):Int)),some (.lst (acc++xs.map λx=>fW (xQ w f y x))),z6,z7,z8,z9]
 |[],acc,e6,e7,e8,e9,_,_=>⟨e6,e7,e8,e9,by rw[aif,aif,ags];rfl⟩
 | x::xs,acc,e6,e7,e8,e9,hx,hl=>by
  rw[afY] at hl;let⟨z8,z9,e⟩:=aaQ (f:=f) (y:=y) h1 (hx x ()) (e0:=e0) (e1:=e1) (e8:=e8) (e9:=e9) (acc:=acc) ();let⟨y6,y7,y8,y9,e'⟩:=join_loop h1 (y:=y) (e0:=e0) (e1:=e1) (xs:=xs) (acc:=acc++[fW (xQ w f y x)]) (e6:=vA (.int (x:Int))) (e7:=vA (.int (gap w (f y) x))) (e8:=z8) (e9:=z9) (λz hz=>hx z (by simp[hz])) ();show⟨y6,y7,y8,y9,?_⟩;rw[ahi] at e';rw[z1h,z1h];show kJ rfl e e'
theorem N5{p:Nat->D}:∀{n m:Nat},nW m ((aia m n).map p)=(aia m n).map λ(x:Nat)=>D.tup [.int (x:Int),p x]
 |0,_=>rfl
 |n+1,m=>by rw[aiL,z1h,z1h,nW,N5]
theorem K8{x:D}{n:Nat}{p:Nat->D}(e:fa ρ= .ok [x])(h:dD x= .ok ((afR n).map p)):(λρ=>(fa ρ).bind vh) ρ= .ok ((afR n).map λ(y:Nat)=>D.tup [.int (y:Int),p y]):=by
 show (fa ρ).bind vh=_;rw[e,R.aR,vh,h,R.aR,ah7,N5]
theorem Om(o:Ok w h f)(hy:y<h):uo [aQ w h f,.int (y:Int)]= .ok (.lst ((afR w).map λx=>fW (xQ w f y x))):=by
 have w20:=o.w2;let⟨z6,z7,z8,z9,e⟩:=join_loop (f:=f) (y:=y) o.w1 (e0:=vA (aQ w h f)) (e1:=vA (.int (y:Int))) (xs:=afR w) (acc:=[]) (e6:=none) (e7:=none) (e8:=none) (e9:=none) (λx hx=>z2e hx) (by rw[z2d,ahk];omega);show cP (aK (bw (aA rfl rfl (RX hy)) rfl) (aK (bw (aA rfl (aZ (aB (aA rfl rfl rfl) (au rfl)) WX) (RX ())) rfl) (aK (bw (aA (aZ (au rfl) K5) rfl (ad7 o.w1)) rfl) (aK (pO rfl)
  (aK (ud (K8 (au (aY (au rfl) (K7 o.w1 o.w2))) rfl) e) (bh (d:= .lst ((afR w).map λx=>fW (xQ w f y x))) rfl))))))
theorem VF{a b:Str}:gP (.str a) (.str b)= .ok (.bl (a ==b)):=by
 rw[gP,z9p (by simp[dep])];show R.ok (D.bl (dF (.str a) (.str b)))=_;simp[je,jf,jg,jh,ji,fL,dJ]
def wo3(w h:Nat)(f:Nat->Nat->Int)(y x i:Nat):Int:=VD w h f y x
theorem acB(o:Ok w h f):tu [aQ w h f,.str "worth"]= .ok (tab w h (wo3 w h f)):=by
 have Gg:=o.h2;have w20:=o.w2;show cP (jj (eX (aX (b:=true) (aA rfl rfl VF)) (bh (cJ (c:=λy=>row w (VD w h f y)) (h:=λy=> .lst ((afR w).map λx=>fW (wo3 w h f y x))) (l:=afR h) (m7 (aY (au rfl) (Y9 o))) (by rw[z2d];omega) λy hy=>
  cX rfl (cJ (c:=λx=> .int (VD w h f y x)) (h:=λx=>fW (wo3 w h f y x)) (l:=afR w) (m7 rfl) (by rw[z2d];omega) λx hx=>cX rfl (cO (aB rfl (aB rfl (au rfl)))))))))
theorem acC(o:Ok w h f):tu [aQ w h f,.str "joins"]= .ok (tab w h (xQ w f)):=by
 have Gg:=o.h2;show cP (aK (bV (aX (b:=false) (aA rfl rfl VF)) rfl) (bh (cJ (c:=λ(y:Nat)=>D.int (y:Int)) (h:=λy=> .lst ((afR w).map λx=>fW (xQ w f y x))) (l:=afR h) (qI (au (aZ (au rfl) K6)) ()) (by rw[z2d];omega) λy hy=>
  cX rfl (aY (aB rfl (au rfl)) (Om o (z2e hy))))))
def fare(T:Nat->Nat->Nat->Int)(s:Nat->Nat)(y:Nat):Int:=T y (s y) (s (y - 1)+1 - s y)
def cost(h:Nat)(T:Nat->Nat->Nat->Int)(s:Nat->Nat):Int:=T 0 (s 0) 1+((afR (h - 1)).map λy=>fare T s (y+1)).sum
theorem JF{T:Nat->Int}{p:Nat->D}{a b:Nat}(hb:b<w)(h1:b<=a+1)(h2:a<=b+1)(hp:p b=fW T):nG [.lst ((afR w).map p),.int (a:Int),.int (b:Int)]= .ok (.int (T (a+1 - b))):=by
 show cP (bh (aA (x:=fW T) (y:= .int ((a+1 - b:Nat):Int)) (aA rfl rfl ((oG (α:=D) hb).trans (congrArg R.ok hp))) (aA (aA rfl rfl rfl) rfl ?_) (dN (i:=a+1 - b) ?_)))
 .show R.ok (D.int ((a:Int) - (b:Int)+1))=_;rw[show (a:Int) - (b:Int)+1=((a+1 - b:Nat):Int) by omega]
 .have:a+1 - b=0\/a+1 - b=1\/a+1 - b=2:=()
  rcases this with e |e |e <;> rw[e] <;> rfl
theorem ad8{a b:Int}(h:ρ[i]?=some (some (.val (.int a))))(e:u ρ= .ok (.int b)):Q8 i u ρ= .nx (ρ.set i (some (.val (.int (a+b))))):=by
 unfold Q8;simp only[h];rw[e];rfl
theorem xR{m:Str}(hm:m= "worth"\/m= "joins"):mC [.str m]= .ok .non:=by
 rcases hm with rfl |rfl
 .show Qj (bV (aX (b:=false) (aA rfl rfl (by simp[Qo,dF,dep]))) rfl)
 .show Qj (bV (aX (b:=false) (aA rfl rfl (by simp[Qo,dF,dep]))) rfl)
def tbl(m:Str)(w h:Nat)(f:Nat->Nat->Int):Nat->Nat->Nat->Int:=if m= "worth" then wo3 w h f else xQ w f
end
section
variable{n w h:Nat}{g:Nat->Int}{f:Nat->Nat->Int}{s:Nat->Nat}{c:Int}{m:Str}{ρ:ao}
theorem aaR{n j:Nat}{sel:List (Sum Nat D)}{fk:ao->R (List D)}{zs:List D}{d:D}(e1:fa ρ= .ok ds)(e2:fk ρ= .ok zs)(e3:F (ds++pickK .non sel zs)= .ok d)(hl:(ds++pickK .non sel zs).length=n:=by rfl)(hj:zs.length=j:=by rfl):Ql F n j sel fa fk ρ= .ok d:=by
 rw[Ql,e1,R.aR,e2,R.aR,z9p hj,aO,z9p hl,e3];rfl
theorem VG{c:ao->R Bool}{f g:ao->R D}{r:R D}(e:c ρ= .ok true)(h:f ρ=r):MP c f g ρ=r:=by rw[MP,e,R.aR,z9p rfl,h]
theorem VH{c:ao->R Bool}{f g:ao->R D}{r:R D}(e:c ρ= .ok false)(h:g ρ=r):MP c f g ρ=r:=by rw[MP,e,R.aR,z9n {},h]
end
abbrev Wy:=Int×Int×List Int
def fl(t:Wy):List Int:=t.1::t.2.1::t.2.2
def un(l:List Int):Wy:=(l.getD 0 0,l.getD 1 0,l.drop 2)
theorem WY(t:Wy):un (fl t)=t:=rfl
theorem Za(h:fl a=fl b):a=b:=by have:=congrArg un h;simpa[WY] using this
def gB(t:Wy):D:= .tup [.int t.1,.int t.2.1,.tup (t.2.2.map .int)]
theorem Hj(t:Wy):gB t=iZ (fl t):=rfl
def cM(l:List Wy):D:= .lst (l.map gB)
section
variable{n w h:Nat}{g:Nat->Int}{f:Nat->Nat->Int}{ρ:ao}
theorem VJ{es:List D}(h:ρ[i]?=some (some (.lst ds)))(e:u ρ= .ok (.lst es))(hl:ds.length+es.length<=1000000):G9 i u ρ= .nx (ρ.set i (some (.lst (ds++es)))):=by
 unfold G9;simp only[h,e,Ih,kh];rw[z9p hl]
theorem acD{es:List D}(h:ρ[i]?=some (some (.lst ds)))(h2:ρ[k]?=some (some (.lst es)))(hl:ds.length<1000000):Rj i k ρ= .nx ((ρ.set i (some (.lst (ds++[.lst es])))).set k (some (.val (.lst es)))):=by
 unfold Rj;simp only[h,h2];rw[z9p hl]
theorem R0{a:Nat}{G:List D->R D}{n:Nat}{d:D}(h:ρ[i]?=some (some (.obj (.fn a))))(e:fa ρ= .ok ds)(e2:G ds= .ok d)(hl:ds.length=n:=by rfl):Fb i a G n fa ρ= .ok d:=by
 unfold Fb;simp only[h,e,if_true,R.aR,aO,hl,e2];rfl
theorem ad9{k:Int}{d:D}(h:ρ[i]?=some (some (.lst ds)))(e:u ρ= .ok (.int k))(e2:bQ (.lst ds) (.int k)= .ok d):YF i u ρ= .ok d:=by
 unfold YF;simp only[h,e,R.aR,e2]
theorem Ft(e:u ρ= .ok (.lst ds)):Rt u ρ= .ok (!ds.isEmpty):=by unfold Rt;rw[e];rfl
theorem cV{m:Nat}{s:ao->So}{es:List Ent}{d:D}(e:s (es.map some++afO m none)= .rt d):cZ m s es= .ok d:=by rw[cZ,e]
def nr(w x:Nat):List Nat:=aia (x - 1) (min (x+2) w - (x - 1))
theorem JG{p:Nat}(hx:x<w):p∈nr w x↔p<w/\p<=x+1/\x<=p+1:=by
 unfold nr;rw[List.mem_range'_1,Nat.add_sub_cancel' (Nat.le_min.mpr ⟨z0b (Nat.sub_le x 1) (aii x 2),z0b (Nat.sub_le x 1) (z0e hx)⟩),Nat.lt_min];show⟨λh=>⟨h.2.2,Nat.le_of_lt_succ h.2.1,Nat.le_add_of_sub_le h.1⟩,λh=>⟨Nat.sub_le_of_le_add h.2.2,Nat.lt_succ_of_le h.2.1,h.1⟩⟩
theorem Zb:(nr w x).length<=3:=by unfold nr;rw[List.length_range'];omega
theorem acE(hx:x<w)(hw:w<=20):RP [.int (x:Int),.int (w:Int)]= .ok (.lst ((nr w x).map λ(p:Nat)=>D.int (p:Int))):=by
 have e2:minD [.int ((x+2:Nat):Int),.int (w:Int)]= .ok (.int ((min (x+2) w:Nat):Int)):=by
  show R.ok (D.int (if (w:Int)<((x+2:Nat):Int) then (w:Int) else ((x+2:Nat):Int)))=_;congr 2;by_cases hz:w<x+2
  .rw[z9p (Int.ofNat_lt.mpr hz),Nat.min_eq_right (z0e hz)]
  .rw[z9n (λq=>hz (Int.ofNat_lt.mp q)),ajC (Nat.le_of_not_lt hz)]
 show cP (bh (aZ (aB (x:= .int ((x - 1:Nat):Int)) (aZ (aB (aA rfl rfl rfl) (au rfl)) WX) (au (x:= .int ((min (x+2) w:Nat):Int)) (aZ (aB (x:= .int ((x+2:Nat):Int)) (aA rfl rfl rfl) (au rfl)) e2))) ?_));show (if _ then _ else _)=_;have b1:x - 1<=1000:=z0b (Nat.sub_le x 1) (z0b (z0e hx) (z0b hw {}));have b2:min (x+2) w<=1000:=z0b (Nat.min_le_right _ _) (z0b hw {});rw[z9p ⟨Int.le_trans {} (aio _),aky.mpr b1,Int.le_trans {} (aio _),aky.mpr b2⟩];congr 2;unfold upto nr;rw[Int.toNat_sub,akK,agP];show ahj λi _=>?_;simp
def gq(c:Int)(t:Wy):Wy:=(t.1,t.2.1+c,t.2.2)
def cands(w:Nat)(C:Nat->List Wy)(T:Nat->Nat->Int)(x:Nat):List Wy:=(nr w x).flatMap λp=>(C p).map (gq (T p (x+1 - p)))
variable{C:Nat->List Wy}{T:Nat->Nat->Int}
theorem aea{p:Nat}(hx:x<w)(hp:p∈nr w x)(hC:(C p).length<=1)(hl:acc.length<=1000):
  onB [vA (.lst ((afR w).map λx=>cM (C x))),vA (.lst ((afR w).map λx=>fW (T x))),vA (.int (x:Int)),some (.lst acc),vA (.int (p:Int)),e5] =
   .nx [vA (.lst ((afR w).map λx=>cM (C x))),vA (.lst ((afR w).map λx=>fW (T x))),vA (.int (x:Int)),some (.lst (acc++((C p).map (gq (T p (x+1 - p)))).map gB)),vA (.int (p:Int)),vA (.int (T p (x+1 - p)))]:=by
 let⟨h1,h2,h3⟩:=(JG hx).mp hp;show aK (bw (aY (aB rfl (aB rfl (au rfl))) (JF (T:=T p) (p:=λx=>fW (T x)) h1 () () rfl)) rfl) ?_;show VJ (ds:=acc) rfl (cJ (c:=gB) (h:=λt=>gB (gq (T p (x+1 - p)) t)) (l:=C p) (m8 (aA rfl rfl (oG (α:=D) h1))) () λt ht=>?_) () |>.trans ?_
 .show cX rfl (cO (aB rfl (aB (x:= .int (t.2.1+T p (x+1 - p))) (aA rfl rfl rfl) (au rfl))))
 .rw[agP];rfl
theorem VL{x:Nat}(hx:x<w)(hC:∀p<w,(C p).length<=1):∀{ps:List Nat} {acc:List D} {e4 e5:Option Ent},(∀p∈ps,p∈nr w x)->acc.length+ps.length<=1000->
  ∃z4 z5,forL (aL 4) onB (ps.map λ(p:Nat)=>D.int (p:Int)) [vA (.lst ((afR w).map λx=>cM (C x))),vA (.lst ((afR w).map λx=>fW (T x))),vA (.int (x:Int)),some (.lst acc),e4,e5] =
   .nx [vA (.lst ((afR w).map λx=>cM (C x))),vA (.lst ((afR w).map λx=>fW (T x))),vA (.int (x:Int)),some (.lst (acc++(ps.flatMap λp=>(C p).map (gq (T p (x+1 - p)))).map gB)),z4,z5]
 |[],acc,e4,e5,_,_=>⟨e4,e5,by simp[forL]⟩
 | p::ps,acc,e4,e5,hp,hl=>by
  rw[afY] at hl;have hpn:=hp p ();have hpw:=((JG hx).mp hpn).1;have hc:=hC p hpw;let⟨z4,z5,e⟩:=VL hx hC (ps:=ps) (acc:=acc++((C p).map (gq (T p (x+1 - p)))).map gB) (e4:=vA (.int (p:Int))) (e5:=vA (.int (T p (x+1 - p)))) (λq hq=>hp q (by simp[hq])) ();show⟨z4,z5,kJ rfl (aea hx hpn hc ()) (e.trans ?_)⟩;rw[akj,ahl,ahi]
theorem Zc(hx:x<w)(hw:w<=20)(hC:∀p<w,(C p).length<=1):yL [.lst ((afR w).map λx=>cM (C x)),.lst ((afR w).map λx=>fW (T x)),.int (x:Int)]= .ok (.lst ((cands w C T x).map gB)):=by
 let⟨z4,z5,e⟩:=VL (T:=T) hx hC (ps:=nr w x) (acc:=[]) (e4:=none) (e5:=none) (λp hp=>hp) (by have:=Zb (w:=w) (x:=x);simp;omega);have hlen:cH [.lst ((afR w).map λx=>cM (C x))]= .ok (.int (w:Int)):=by simp[cH]
 show cP (aK (pO rfl) (aK (ud (m8 (aY (aB rfl (au (aZ (au rfl) hlen))) (acE hx hw))) e) (bh rfl)))
end
section
variable{n w h:Nat}{g:Nat->Int}{f:Nat->Nat->Int}{ρ:ao}
theorem Qq{i:Int}:gP (.int i) (.int j)= .ok (.bl (decide (i=j))):=by
 rw[gP,z9p (by simp[dep])];show R.ok (D.bl (dF (.int i) (.int j)))=_;by_cases h:i=j <;> simp[je,jf,jg,jh,ji,fL,dJ,h]
def bN(cs:List Wy):List Wy:=((kZ (cs.map fl)).take 1).map un
def pre(x:Nat)(t:Wy):Wy:=(t.1,t.2.1,(x:Int)::t.2.2)
theorem yR:∀cs:List Wy,pJ (cs.map gB)=some (cs.map fl)
 |[]=>rfl
 | t::cs=>by
  rw[z1h,pJ,yR cs,Hj,show xq (iZ (fl t))=some (fl t) from Rq];rfl
theorem R3:∀l∈kZ (cs.map fl),fl (un l)=l:=λl hl=>by
 let⟨t,_,rfl⟩:=agV.mp ((jz _).mem_iff.mp hl);rw[WY]
theorem yS:∀t∈bN cs,t∈cs:=λt ht=>by
 let⟨l,hl,rfl⟩:=agV.mp ht;have hl:=ajH hl;let⟨t,h1,rfl⟩:=agV.mp ((jz _).mem_iff.mp hl);rw[WY];show h1
theorem sJ:(bN cs).length<=1:=by unfold bN;simp;omega
theorem Ag(hl:cs.length<64)(hn:(cs.map fl).Nodup)(hp:∀t∈cs,t.2.2.length<=100):d7 1 [.int (x:Int),.lst (cs.map gB)]= .ok (cM ((bN cs).map (pre x))):=by
 have e1:nZ [.lst (cs.map gB)]= .ok (.lst ((kZ (cs.map fl)).map iZ)):=by
  rw[nZ,yR];show (if _ then _ else _)=_;rw[z9p ⟨by simpa using hl,hn⟩]
 have e2:jk ((kZ (cs.map fl)).map iZ) none (some 1)=(bN cs).map gB:=by
  have e3:∀{n d:Nat},HT.sIx n d (some 1)=min 1 n:=λ{n d}=>by
   show (if (1:Int)<0 then ((1:Int)+(n:Int)).toNat else min (1:Int).toNat n)=min 1 n;rw[z9n {}];rfl
  rw[jk,e3,JD,akG,akX,<-List.map_take];have e4:∀l:List (List Int),l.take (min 1 (l.map iZ).length)=l.take 1:=λl=>by cases l <;> simp
  rw[e4];unfold bN;rw[agP];show ahj λl hl=>?_;show iZ l=gB (un l);rw[Hj,R3 l (ajH hl)]
 have e5:cM ((bN cs).map (pre x))= .lst ((bN cs).map λt=>gB (pre x t)):=by unfold cM;rw[agP];rfl
 rw[e5];show cV (bh (cJ (c:=gB) (h:=λt=>gB (pre x t)) (l:=bN cs) (m8 (ds:=(bN cs).map gB) ?_) (by have:=sJ (cs:=cs);omega) λt ht=>?_))
 .show nu _ _ _ _=_;unfold nu;rw[aZ (au rfl) e1];show R.ok (D.lst (jk _ none (some 1)))=_;rw[e2]
 .show cX rfl (cO (aB rfl (aB rfl (au (x:= .tup ((((x:Int)::t.2.2)).map .int)) (aA (cO (au rfl)) rfl ?_)))));have:=hp t (yS t ht);show Fq (xs:=[.int (x:Int)]) (ys:=t.2.2.map .int) ()
end
def fG(m:Int):Int:=if m=2 then 1 else 0
def sb(c:Int)(t:Wy):Wy:=(t.1 - c,t.2.1,t.2.2)
def lu(x:Nat)(m:Int)(cs:List Wy):List Wy:=if m=1 then[] else ((bN cs).map (pre x)).map (sb (fG m))
section
variable{w h a y:Nat}{T:Nat->Nat->Nat->Int}{M:Nat->Nat->Int}{ρ:ao}
theorem aaS{l:List Wy}(hl:l.length<=1){e2 e4:Option Ent}(ha:acc.length<=1000):
  abz [e0,e1,e2,e3,e4,e5,some (.lst acc),e7,vA (.int m),vA (cM l),e10]= .nx [e0,e1,e2,e3,e4,e5,some (.lst (acc++[cM (l.map (sb (fG m)))])),e7,vA (.int m),vA (cM l),vA (.int (fG m))]:=by
 have e:(MP (bW (bin (gv 8) (ci 2) gP)) (ci 1) (ci 0)) [e0,e1,e2,e3,e4,e5,some (.lst acc),e7,vA (.int m),vA (cM l),e10]= .ok (.int (fG m)):=by
  unfold fG;by_cases hm:m=2
  .rw[z9p hm];show VG (aX (aA rfl rfl (by rw[Qq,z9t hm]))) rfl
  .rw[z9n hm];show VH (aX (aA rfl rfl (by rw[Qq,z9f hm]))) rfl
 show aK (bw e rfl) ?_;have e2:cM (l.map (sb (fG m)))= .lst (l.map λt=>gB (sb (fG m) t)):=by unfold cM;rw[agP];rfl
 rw[e2];show RZ (ds:=acc) (cJ (c:=gB) (h:=λt=>gB (sb (fG m) t)) (l:=l) (m8 rfl) () λt ht=>?_) rfl ();show cX rfl (cO (aB (x:= .int (t.1 - fG m)) (aA rfl rfl rfl) (aB rfl (au rfl))))
inductive Zd (w:Nat) (T:Nat->Nat->Nat->Int) (y:Nat):List D->(Nat->List Wy)->Prop
 |last:Zd w T y [] λ_=>[(0,0,[])]
 |more (rs:List D) (C:Nat->List Wy):(∀p<w,(C p).length<=1)->Zd w T y (rs++[.lst ((afR w).map λx=>cM (C x))]) (cands w C (T (y+1)))
theorem aaT{rows:List D}{cs:Nat->List Wy}(B:Zd w T y rows cs)(hy:rows≠[]->y+1<h)(hx:x<w)(hw:w<=20)(hl:(cs x).length<64)(hn:((cs x).map fl).Nodup)(hp:∀t∈cs x,t.2.2.length<=100){e6:Option Ent}:
  aby a (d7 1) [vA (tab w h T),e1,vA (.tup []),some (.obj (.fn a)),some (.lst rows),vA (.int (y:Int)),e6,vA (.int (x:Int)),vA (.int m),e9,e10] =
   .nx [vA (tab w h T),e1,vA (.tup []),some (.obj (.fn a)),some (.lst rows),vA (.int (y:Int)),e6,vA (.int (x:Int)),vA (.int m),vA (cM (if m=1 then[] else (bN (cs x)).map (pre x))),e10]:=by
 have th:∀(u:Option Ent),Qi (vA (.int m))=vA (.int m):=λ_=>rfl;by_cases hm:m=1
 .rw[z9p hm];show eX (aX (aA rfl rfl (by rw[Qq,z9t hm]))) (bw (iw rfl) rfl)
 .rw[z9n hm];show bV (aX (aA rfl rfl (by rw[Qq,z9f hm]))) ?_;cases B with
  | last=>
   show eX (lR (Ft (ds:=[]) rfl)) (bw (R0 rfl (aB rfl (au (iw (au (cO (aB rfl (aB rfl (au rfl)))))))) (Ag (cs:=[(0,0,[])]) hl hn hp)) rfl)
  | more rs C hC=>
   have hy:=hy ();show bV (lR (Ft (ds:=rs++[.lst ((afR w).map λx=>cM (C x))]) rfl) |>.trans ()) (bw (R0 rfl (aB rfl (au (aY (aB (x:= .lst ((afR w).map λx=>cM (C x))) (ad9 rfl (k:= -1) rfl ?_) (aB (aA rfl (aA (x:= .int (y:Int)) (y:= .int 1) (r:= .ok (.int ((y+1:Nat):Int))) rfl rfl rfl) (oG (α:=D) hy)) (au rfl))) (Zc (C:=C) (T:=T (y+1)) hx hw hC)))) (Ag hl hn hp)) rfl);rw[bQ];have:L2.atI (rs++[D.lst ((afR w).map λx=>cM (C x))]) (-1)=some (.lst ((afR w).map λx=>cM (C x))):=by
    unfold L2.atI ixN;rw[z9n {},z9p ()];simp only[z1d,agR,ajl];rw[show ((-1:Int)+((rs.length+1:Nat):Int)).toNat=rs.length by omega,agu (z0g _)];simp
   rw[this]
end
def oW(w h:Nat)(T:Nat->Nat->Nat->Int)(M:Nat->Nat->Int):Nat->Nat->List Wy
 |0,_=>[(0,0,[])]
 |k+1,x=>cands w (λp=>lu p (M (h - 1 - k) p) (oW w h T M k p)) (T (h - 1 - k)) x
def oX(w h:Nat)(T:Nat->Nat->Nat->Int)(M:Nat->Nat->Int)(k x:Nat):List Wy:=lu x (M (h - 1 - k) x) (oW w h T M k x)
section
variable{w h a:Nat}{T:Nat->Nat->Nat->Int}{M:Nat->Nat->Int}{ρ:ao}
theorem pP:oW w h T M (k+1) x=cands w (oX w h T M k) (T (h - 1 - k)) x:=rfl
theorem pQ:(lu x m cs).length<=1:=by
 unfold lu;split
 .simp
 .have:=sJ (cs:=cs);simpa using this
theorem mX{t:Wy}(h:t∈lu x m cs):∃u∈cs,t=sb (fG m) (pre x u):=by
 unfold lu at h;split at h
 .simp at h
 .rw[agP] at h;let⟨u,hu,rfl⟩:=agV.mp h;show⟨u,yS u hu,rfl⟩
theorem Hl{α β:Type}{F:α->List β}:∀{l:List α},(∀a∈l,(F a).length<=1)->(l.flatMap F).length<=l.length
 |[],_=>()
 | a::l,h=>by
  rw[akj,z1d,afY];have h1:=h a ();have h2:=Hl (l:=l) λb hb=>h b (by simp[hb]);omega
theorem acF:∀{k x:Nat},(oW w h T M k x).length<64
 |0,_=>by simp[oW]
 | k+1,x=>by
  rw[pP];unfold cands;have:=Hl (F:=λp=>(oX w h T M k p).map (gq (T (h - 1 - k) p (x+1 - p)))) (l:=nr w x) λp _=>by rw[z1g];show pQ
  have h2:=Zb (w:=w) (x:=x);omega
theorem Ze:∀{k x:Nat},∀t∈oW w h T M k x,t.2.2.length=k
 |0,_,t,ht=>by simp[oW] at ht;subst ht;rfl
 | k+1,x,t,ht=>by
  rw[pP] at ht;let⟨p,_,hp⟩:=aiM.mp ht;let⟨u,hu,rfl⟩:=agV.mp hp;let⟨v,hv,rfl⟩:=mX hu;show (((p:Nat):Int)::v.2.2).length=k+1;rw[afY,Ze v hv]
theorem R4:∀{k x:Nat},((oW w h T M k x).map fl).Nodup
 |0,_=>by simp[oW]
 | k +1,x=>by
  rw[pP];unfold cands List.Nodup;rw[List.pairwise_map,List.pairwise_flatMap];show⟨λp _=>?_,?_⟩
  .have hl:((oX w h T M k p).map (gq (T (h - 1 - k) p (x+1 - p)))).length<=1:=by rw[z1g];show pQ
   match (oX w h T M k p).map (gq (T (h - 1 - k) p (x+1 - p))),hl with
   |[],_=>show .nil
   |[_],_=>simp
   |_::_::_,hl=>simp at hl
  .have nd:(nr w x).Nodup:=List.nodup_range';show nd.imp λ{p q} hpq t ht u hu z=>?_;let⟨t',ht',rfl⟩:=agV.mp ht;let⟨u',hu',rfl⟩:=agV.mp hu;let⟨t2,_,rfl⟩:=mX ht';let⟨u2,_,rfl⟩:=mX hu';have:=Za z;have h2:((p:Nat):Int)::t2.2.2=((q:Nat):Int)::u2.2.2:=congrArg (λt:Wy=>t.2.2) this;have h3:((p:Nat):Int)=((q:Nat):Int):=(ak5 h2).1;show hpq ()
def vV(w h:Nat)(T:Nat->Nat->Nat->Int)(M:Nat->Nat->Int)(k:Nat):D:= .lst ((afR w).map λx=>cM (oX w h T M k x))
theorem VN{y:Nat}{rows:List D}{cs:Nat->List Wy}(B:Zd w T y rows cs)(hy:rows≠[]->y+1<h)(hw:w<=20)(hl:∀x,(cs x).length<64)(hn:∀x,((cs x).map fl).Nodup)(hp:∀x,∀t∈cs x,t.2.2.length<=100){e1:Option Ent}:∀{xs:List Nat} {acc:List D} {e7 e8 e9 e10:Option Ent},(∀x∈xs,x<w)->acc.length+xs.length<=1000->
  ∃z7 z8 z9 qN,forL (dR (dU 2 (bf (aL 7) (bf (aL 8) nilG)))) (inW a (d7 1)) (xs.map λ(x:Nat)=>D.tup [.int (x:Int),.int (M y x)]) [vA (tab w h T),e1,vA (.tup []),some (.obj (.fn a)),some (.lst rows),vA (.int (y:Int)),some (.lst acc),e7,e8,e9,e10] =
   .nx [vA (tab w h T),e1,vA (.tup []),some (.obj (.fn a)),some (.lst rows),vA (.int (y:Int)),some (.lst (acc++xs.map λx=>cM (lu x (M y x) (cs x)))),z7,z8,z9,qN]
 |[],acc,e7,e8,e9,e10,_,_=>⟨e7,e8,e9,e10,by simp[forL]⟩
 | x ::xs,acc,e7,e8,e9,e10,hx,hle=>by
  rw[afY] at hle;have hxw:=hx x ();let⟨z7,z8,z9,qN,e⟩:=VN B hy hw hl hn hp (e1:=e1) (xs:=xs) (acc:=acc++[cM (lu x (M y x) (cs x))]) (e7:=vA (.int (x:Int))) (e8:=vA (.int (M y x))) (e9:=vA (cM (if M y x=1 then[] else (bN (cs x)).map (pre x)))) (e10:=vA (.int (fG (M y x)))) (λq hq=>hx q (by simp[hq])) ();show⟨z7,z8,z9,qN,kJ rfl (aK (aaT B hy hxw hw (hl x) (hn x) (hp x)) (aaS ?_ () |>.trans ?_)) (e.trans ?_)⟩
  .split
   .simp
   .have:=sJ (cs:=cs x);simpa using this
  .have:lu x (M y x) (cs x)=(if M y x=1 then[] else (bN (cs x)).map (pre x)).map (sb (fG (M y x))):=by unfold lu;split <;> rfl
   rw[this]
  .rw[z1h,ahi];rfl
def dn(r:Nat):List D:=(afR r).map λ(i:Nat)=>D.int ((r:Int) - 1 - (i:Int))
theorem acG(r:Nat):dn (r+1)=D.int (r:Int)::dn r:=by
 unfold dn;rw[ahQ,z1h,agP];congr 1
 .congr 1;omega
 .show ahj λi _=>?_;show D.int _=D.int _;congr 1;simp only[Nat.succ_eq_add_one];omega
theorem aeb(hk:k<h)(hy:y=h - 1 - k):Zd w T y ((afR k).map (vV w h T M)) (oW w h T M k):=by
 cases k with
 |zero=>show .last
 | succ k=>
  rw[akQ,ahl];have e:oW w h T M (k+1)=cands w (oX w h T M k) (T (y+1)):=by
   funext x;rw[pP,show y+1=h - 1 - k by omega]
  rw[e];show .more _ _ λp _=>pQ
theorem aec(hk:k<h)(hy:y=h - 1 - k)(hh:h<=20)(hw:w<=20){e6:Option Ent}:∃z6 z7 z8 z9 qN,aaM a (d7 1) [vA (tab w h T),vA (aQ w h M),vA (.tup []),some (.obj (.fn a)),some (.lst ((afR k).map (vV w h T M))),vA (.int (y:Int)),e6,e7,e8,e9,e10] =
  .nx [vA (tab w h T),vA (aQ w h M),vA (.tup []),some (.obj (.fn a)),some (.lst ((afR (k+1)).map (vV w h T M))),vA (.int (y:Int)),z6,z7,z8,z9,qN]:=by
 let⟨z7,z8,z9,qN,e⟩:=VN (h:=h) (a:=a) (M:=M) (e1:=vA (aQ w h M)) (aeb (w:=w) (T:=T) (M:=M) hk hy) (λhne=>by
  have:k≠0:=λz=>hne (by rw[z];rfl);omega) hw (λx=>acF) (λx=>R4) (λx t ht=>by rw[Ze t ht];omega) (xs:=afR w) (acc:=[]) (e7:=e7) (e8:=e8) (e9:=e9) (e10:=e10) (λx hx=>z2e hx) ()
 show⟨vA (.lst ([]++(afR w).map λx=>cM (lu x (M y x) (oW w h T M k x)))),z7,z8,z9,qN,aK (pO rfl) (aK (ud (K8 (au (aA rfl rfl (RX ()))) rfl) e) ((acD (ds:=(afR k).map (vV w h T M)) (es:=[]++(afR w).map λx=>cM (lu x (M y x) (oW w h T M k x))) rfl rfl (by rw[z1g,z2d];omega)).trans ?_))⟩;rw[akQ,ahl];have er:((afR w).map λx=>cM (lu x (M y x) (oW w h T M k x)))=(afR w).map λx=>cM (oX w h T M k x):=by
  show ahj λx _=>?_;unfold oX;rw[hy]
 simp only[ais];rw[er];rfl
theorem R6(hh:h<=20)(hw:w<=20):∀{r k:Nat} {e5 e6 e7 e8 e9 e10:Option Ent},k+r=h->∃z5 z6 z7 z8 z9 qN,forL (aL 5) (aaM a (d7 1)) (dn r) [vA (tab w h T),vA (aQ w h M),vA (.tup []),some (.obj (.fn a)),some (.lst ((afR k).map (vV w h T M))),e5,e6,e7,e8,e9,e10] =
  .nx [vA (tab w h T),vA (aQ w h M),vA (.tup []),some (.obj (.fn a)),some (.lst ((afR h).map (vV w h T M))),z5,z6,z7,z8,z9,qN]
 |0,k,e5,e6,e7,e8,e9,e10,hk=>⟨e5,e6,e7,e8,e9,e10,by rw[show k=h by omega];rfl⟩
 | r+1,k,e5,e6,e7,e8,e9,e10,hk=>by
  let⟨y6,y7,y8,y9,y10,e1⟩:=aec (a:=a) (w:=w) (T:=T) (M:=M) (k:=k) (y:=r) () () hh hw (e6:=e6) (e7:=e7) (e8:=e8) (e9:=e9) (e10:=e10);let⟨z5,z6,z7,z8,z9,qN,e2⟩:=R6 hh hw (r:=r) (k:=k+1) (e5:=vA (.int (r:Int))) (e6:=y6) (e7:=y7) (e8:=y8) (e9:=y9) (e10:=y10) ();rw[acG];show⟨z5,z6,z7,z8,z9,qN,kJ rfl e1 e2⟩
theorem aaU(hh:h<=20)(hw:w<=20):xG a (d7 1) [tab w h T,aQ w h M,.tup []]= .ok (.lst ((afR h).map (vV w h T M)).reverse):=by
 let⟨z5,z6,z7,z8,z9,qN,e⟩:=R6 (a:=a) (w:=w) (T:=T) (M:=M) hh hw (r:=h) (k:=0) (e5:=none) (e6:=none) (e7:=none) (e8:=none) (e9:=none) (e10:=none) ();have er:Rk [.int (h:Int)]= .ok (dn h):=by
  show (if _ then _ else _)=_;rw[z9p ()];rfl
 show cV (aK (pO rfl) (aK (ud ?_ e) (bh ?_)))
 .show ((ak (aD cH (ak (gv 1) nA)) nA) _).bind Rk=_;rw[au (aZ (au rfl) K6)];show er
 .show Qm _ _=_;unfold Qm;rfl
end
section
variable{w h:Nat}{T:Nat->Nat->Nat->Int}{M:Nat->Nat->Int}{f:Nat->Nat->Int}{m:Str}{ρ:ao}
theorem acH(hh:h<=20)(hw:w<=20):vO [tab w h T,aQ w h M,.int 1]= .ok (.lst ((afR h).map (vV w h T M)).reverse):=by
 show cV ?_;show (match allOf (λx=>xG x (d7 1) [tab w h T,aQ w h M,.tup []]) with | .ok r=>So.rt r |_=> .bad)=_;rw[aax λa=>aaU hh hw]
theorem Zf{F:Nat->D}:((afR h).map F).reverse=(afR h).map λy=>F (h - 1 - y):=by
 apply ajb;intro i;by_cases hi:i<h
 .rw[List.getElem?_reverse (by simpa using hi),z2b,z2b,agr hi,z1g,z2d,agr ()];rfl
 .rw[aiB (),aiB ()]
theorem mul_one{d:D}(h1:1<=k)(Gg:k<=20):Bd (.tup [d]) (.int (k:Int))= .ok (.tup ((afR k).map λ_=>d)):=by
 rw[Bd,z9p ⟨(),(),(),by simp;omega⟩];congr 2;rw[show ((k:Nat):Int).toNat=k by omega]
 clear h1 Gg
 induction k with
 |zero=>rfl
 |succ k ih=>rw[ag0,ahr,ih,ahQ,z1h,agP];rfl
theorem Gh(o:Ok w h f):sG [aQ w h f]= .ok (aQ w h λ_ _=>0):=
 cP (bh (aA (cO (au (aA (cO (au rfl)) (len0 o rfl) (mul_one o.w1 o.w2)))) (aZ (au rfl) K6) (mul_one o.h1 o.h2)))
theorem Zg(o:Ok w h f):oE [.non,aQ w h f]= .ok (aQ w h λ_ _=>0):=
 cP (jj (eX (aX (b:=true) (aA rfl rfl rfl)) (bh (aY (au rfl) (Gh o)))))
theorem Ho(hm:m= "worth"\/m= "joins")(o:Ok w h f):tu [aQ w h f,.str m]= .ok (tab w h (tbl m w h f)):=by
 rcases hm with rfl |rfl
 .show acB o
 .show acC o
end
abbrev lt(a b:Wy):Bool:=f9 (fl a) (fl b)
section
variable{w h:Nat}{T:Nat->Nat->Nat->Int}{M:Nat->Nat->Int}
theorem Zh{c:Int}:lt (gq c a) (gq c b)=lt a b:=by
 let⟨a1,a2,a3⟩:=a;let⟨b1,b2,b3⟩:=b;simp only[lt,fl,gq,f9];by_cases e1:a1=b1
 .rw[z9p e1,z9p e1];by_cases e:a2=b2
  .rw[z9p (),z9p e]
  .rw[z9n (),z9n e];show decide_eq_decide.mpr ()
 .rw[z9n e1,z9n e1]
theorem ae4{c:Int}:lt (sb c a) (sb c b)=lt a b:=by
 let⟨a1,a2,a3⟩:=a;let⟨b1,b2,b3⟩:=b;simp only[lt,fl,sb,f9];by_cases e:a1=b1
 .rw[z9p (),z9p e]
 .rw[z9n (),z9n e];show decide_eq_decide.mpr ()
theorem aed:lt (pre x a) (pre x b)=lt a b:=by
 let⟨a1,a2,a3⟩:=a;let⟨b1,b2,b3⟩:=b;simp only[lt,fl,pre,f9,if_true]
theorem R7{c:Wy}(h1:lt b a=false)(h2:lt c b=false):lt c a=false:=by
 cases z:lt c a with
 |false=>rfl
 | true=>
  by_cases e:fl b=fl a
  .have h2:f9 (fl c) (fl b)=false:=h2;rw[e] at h2;show h2.symm.trans z |>.symm
  .have:=nD z (Fd e h1);show (this.symm.trans h2)
theorem uw(hn:(cs.map fl).Nodup)(hne:cs≠[]):∃v,bN cs=[v]/\v∈cs/\∀u∈cs,lt u v=false:=by
 have hr:=Bt hn;cases es:kZ (cs.map fl) with
 | nil=>
  have:=(jz (cs.map fl)).length_eq;rw[es,z1g] at this;show absurd (akM.mp this.symm) hne
 | cons l ls=>
  have ef:bN cs=[un l]:=by unfold bN;rw[es];rfl
  rw[es] at hr;let⟨hr1,_⟩:=ahU.mp hr;have hl:l∈kZ (cs.map fl):=by rw[es];show agl
  have hul:fl (un l)=l:=R3 l hl;show⟨un l,ef,yS _ (by rw[ef];show agl),λu hu=>?_⟩;have hm:fl u∈kZ (cs.map fl):=(jz _).mem_iff.mpr (ajM hu);rw[es] at hm;show f9 (fl u) (fl (un l))=false;rw[hul];rcases af9.mp hm with z |z
  .rw[z];show sZ _
  .cases q:f9 (fl u) l with
   |false=>rfl
   |true=>have:=nD q (hr1 _ z);rw[sZ] at this;cases this
def vl(T:Nat->Nat->Nat->Int)(M:Nat->Nat->Int):Nat->List Nat->Wy
 |_,[]=>(0,0,[])
 |y,[x]=>sb (fG (M y x)) (pre x (0,0,[]))
 |y,x::p::l=>sb (fG (M y x)) (pre x (gq (T (y+1) p (x+1 - p)) (vl T M (y+1) (p::l))))
def Pa(w:Nat)(M:Nat->Nat->Int):Nat->List Nat->Prop
 |_,[]=>True
 |y,[x]=>x<w/\M y x≠1
 |y,x::p::l=>x<w/\M y x≠1/\p<=x+1/\x<=p+1/\Pa w M (y+1) (p::l)
theorem Pa.lt{l:List Nat}(h:Pa w M y (x::l)):x<w:=by
 cases l with
 |nil=>show h.1
 |cons p l=>show h.1
theorem Pa.ne{l:List Nat}(h:Pa w M y (x::l)):M y x≠1:=by
 cases l with
 |nil=>show h.2
 |cons p l=>show h.2.1
theorem VP{t:Wy}(h:t∈lu x m cs):m≠1:=λe=>by
 unfold lu at h;rw[z9p e] at h;cases h
theorem Zi{h:Nat}(hk:k+1<h):h - 1 - k=h - 1 - (k+1)+1:=()
theorem N6:∀{k x:Nat} {t:Wy},x<w->k<h->t∈oX w h T M k x->∃l,l.length=k/\Pa w M (h - 1 - k) (x::l)/\t=vl T M (h - 1 - k) (x::l)
 | 0,x,t,hx,hk,ht=>by
  let⟨u,hu,e⟩:=mX ht;have hu:u=(0,0,[]):=by simpa[oW] using hu
  subst hu;show⟨[],rfl,⟨hx,VP ht⟩,e⟩
 | k+1,x,t,hx,hk,ht=>by
  let⟨u,hu,e⟩:=mX ht;have hm:=VP ht;rw[pP] at hu;let⟨p,hp,hu⟩:=aiM.mp hu;let⟨v,hv,rfl⟩:=agV.mp hu;let⟨h1,h2,h3⟩:=(JG hx).mp hp;let⟨l,hl,hP,hvl⟩:=N6 h1 () hv;have ey:h - 1 - k=h - 1 - (k+1)+1:=Zi hk;rw[ey] at hP hvl e;show⟨p::l,by rw[afY,hl],⟨hx,hm,h2,h3,hP⟩,by rw[e,hvl];rfl⟩
theorem N7{v:Wy}(hm:m≠1)(e:bN cs=[v]):lu x m cs=[sb (fG m) (pre x v)]:=by
 unfold lu;rw[z9n hm,e];rfl
theorem N8:∀{k x:Nat} {l:List Nat},l.length=k->k<h->Pa w M (h - 1 - k) (x::l)->∃t∈oX w h T M k x,lt (vl T M (h - 1 - k) (x::l)) t=false
 | 0,x,l,hl,hk,hP=>by
  cases akM.mp hl;let⟨v,ev,hv,_⟩:=uw (R4 (w:=w) (h:=h) (T:=T) (M:=M) (k:=0) (x:=x)) (by simp[oW]);have hv:v=(0,0,[]):=by simpa[oW] using hv
  subst hv;show⟨_,by unfold oX;rw[N7 hP.ne ev];show agl,sZ _⟩
 | k+1,x,l,hl,hk,hP=>by
  cases l with
  |nil=>cases hl
  | cons p l=>
   have ey:h - 1 - k=h - 1 - (k+1)+1:=Zi hk;let⟨hx,hm,h2,h3,hP'⟩:=hP;have hl:l.length=k:=by simpa using hl
   rw[<-ey] at hP';let⟨t,ht,hlt⟩:=N8 hl () hP';have hu:gq (T (h - 1 - k) p (x+1 - p)) t∈oW w h T M (k+1) x:=by
    rw[pP];show aiM.mpr ⟨p,(JG hx).mpr ⟨hP'.lt,h2,h3⟩,ajM ht⟩
   let⟨v,ev,hv,hle⟩:=uw (R4 (w:=w) (h:=h) (T:=T) (M:=M) (k:=k+1) (x:=x)) (List.ne_nil_of_mem hu);show⟨_,by unfold oX;rw[N7 hm ev];show agl,?_⟩;show lt (sb _ (pre x (gq (T (h - 1 - (k+1)+1) p (x+1 - p)) (vl T M (h - 1 - (k+1)+1) (p::l))))) _=false;rw[ae4,aed,<-ey];show R7 (hle _ hu) (by rw[Zh];show hlt)
def topC(w h:Nat)(T:Nat->Nat->Nat->Int)(M:Nat->Nat->Int):List Wy:=(afR w).flatMap λx=>(oX w h T M (h - 1) x).map (gq (T 0 x 1))
theorem aaV:(topC w h T M).length<=w:=by
 have:=Hl (F:=λx=>(oX w h T M (h - 1) x).map (gq (T 0 x 1))) (l:=afR w) λp _=>by rw[z1g];show pQ
 rw[z2d] at this;show this
theorem VR:((topC w h T M).map fl).Nodup:=by
 unfold topC List.Nodup;rw[List.pairwise_map,List.pairwise_flatMap];show⟨λp _=>?_,?_⟩
 .have hl:((oX w h T M (h - 1) p).map (gq (T 0 p 1))).length<=1:=by rw[z1g];show pQ
  match (oX w h T M (h - 1) p).map (gq (T 0 p 1)),hl with
  |[],_=>show .nil
  |[_],_=>simp
  |_::_::_,hl=>simp at hl
 .have nd:(afR w).Nodup:=List.nodup_range;show nd.imp λ{p q} hpq t ht u hu z=>?_;let⟨t',ht',rfl⟩:=agV.mp ht;let⟨u',hu',rfl⟩:=agV.mp hu;let⟨t2,_,rfl⟩:=mX ht';let⟨u2,_,rfl⟩:=mX hu';have:=Za z;have h2:((p:Nat):Int)::t2.2.2=((q:Nat):Int)::u2.2.2:=congrArg (λt:Wy=>t.2.2) this;have h3:((p:Nat):Int)=((q:Nat):Int):=(ak5 h2).1;show hpq ()
def gn(M:Nat->Nat->Int)(h:Nat)(s:Nat->Nat):Int:=((afR h).map λy=>fG (M y (s y))).sum
def wS(T:Nat->Nat->Nat->Int)(M:Nat->Nat->Int)(h:Nat)(s:Nat->Nat):Wy:=(-gn M h s,cost h T s,(afR h).map λy=>((s y:Nat):Int))
structure Ci(w h:Nat)(M:Nat->Nat->Int)(s:Nat->Nat):Prop where
 sm:pN w h s
 ne:∀y<h,M y (s y)≠1
theorem aee{s:Nat->Nat}:∀{k y:Nat},vl T M y ((aia y (k+1)).map s)=(-((aia y (k+1)).map λy=>fG (M y (s y))).sum,((aia (y+1) k).map λy=>fare T s y).sum,(aia y (k+1)).map λy=>((s y:Nat):Int))
 | 0,y=>by
  show (0 - fG (M y (s y)),(0:Int),[((s y:Nat):Int)])=(-(fG (M y (s y))+0),0,[((s y:Nat):Int)]);rw[show 0 - fG (M y (s y))= -(fG (M y (s y))+0) by omega]
 | k +1,y=>by
  have ih:=aee (s:=s) (k:=k) (y:=y+1);rw[aiL (s:=y),z1h,z1h,z1h,ak6];rw[aiL (s:=y+1),z1h,z1h,z1h,ak6] at ih |-;show sb _ (pre _ (gq _ (vl T M (y+1) _)))=_;rw[ih];simp only[sb,pre,gq];show ak1 ?_ (ak1 ?_ rfl)
  .show -_ - fG _= -_;omega
  .rw[z1h,ak6];show _+T (y+1) (s (y+1)) (s y+1 - s (y+1))=T (y+1) (s (y+1)) (s y+1 - s (y+1))+_;rw[Int.add_comm]
theorem aef(h1:1<=h):gq (T 0 (s 0) 1) (vl T M 0 ((afR h).map s))=wS T M h s:=by
 obtain⟨k,rfl⟩:∃k,h=k+1:=⟨h - 1,()⟩;rw[ah7,aee];simp only[gq,wS,gn,cost];show ak1 ?_ (ak1 ?_ ?_)
 .rw[ah7]
 .show ((aia (0+1) k).map λy=>fare T s y).sum+T 0 (s 0) 1=T 0 (s 0) 1+((afR (k+1 - 1)).map λy=>fare T s (y+1)).sum;rw[Int.add_comm,Nat.add_sub_cancel,akK,agP];congr 3;funext i;show fare T s (0+1+i)=fare T s (i+1);rw[show 0+1+i=i+1 by omega]
 .rw[ah7]
theorem aeg{s : Nat -> Nat} : ∀{k y : Nat},Pa w M y ((aia y (k+1)).map s)↔(∀z,y<=z->z<=y+k->s z<w/\M z (s z)≠1)/\∀z,y<=z->z<y+k->s (z+1)<=s z+1/\s z<=s (z+1)+1
 | 0, y => ⟨λ h => ⟨λ z h1 h2 => by have:z=y:=()
                                    subst this;show h,λz h1 h2=>()⟩,λh=>h.1 y (z0g _) (z0g _)⟩
 | k+1,y=>by
  have ih:=aeg (s:=s) (k:=k) (y:=y+1);rw[aiL (s:=y),z1h];rw[aiL (s:=y+1),z1h] at ih |-;constructor
  .rintro⟨h1,h2,h3,h4,h5⟩
   let⟨q1,q2⟩:=ih.mp h5;show⟨λz z1 z2=>?_,λz z1 z2=>?_⟩
   .by_cases e:z=y
    .subst e;show⟨h1,h2⟩
    .show q1 z () ()
   .by_cases e:z=y
    .subst e;show⟨h3,h4⟩
    .show q2 z () ()
  .rintro⟨q1,q2⟩
   have a:=q1 y (z0g _) ();have b:=q2 y (z0g _) ();show⟨a.1,a.2,b.1,b.2,ih.mpr ⟨λz z1 z2=>q1 z () (),λz z1 z2=>q2 z () ()⟩⟩
theorem Zj(h1:1<=h):Pa w M 0 ((afR h).map s)↔Ci w h M s:=by
 obtain⟨k,rfl⟩:∃k,h=k+1:=⟨h - 1,()⟩;rw[ah7,aeg];constructor
 .rintro⟨a,b⟩
  show⟨⟨λy hy=>(a y () ()).1,λy hy=>b y () ()⟩,λy hy=>(a y () ()).2⟩
 .rintro⟨⟨a,b⟩,c⟩
  show⟨λz _ z2=>⟨a z (),c z ()⟩,λz _ z2=>b z ()⟩
theorem acI(l:List Nat):∃s:Nat->Nat,l=(afR l.length).map s:=
 ⟨λy=>l.getD y 0,by
  apply ajb;intro i;rw[z2b];by_cases hi:i<l.length
  .rw[agr hi];simp[hi]
  .rw[aiB (),aiB ()];rfl⟩
theorem acJ(h1:1<=h){t:Wy}(ht:t∈topC w h T M):∃s,Ci w h M s/\t=wS T M h s:=by
 let⟨x,hx,hu⟩:=aiM.mp ht;let⟨u,hv,rfl⟩:=agV.mp hu;let⟨l,hl,hP,rfl⟩:=N6 (k:=h - 1) (h:=h) (z2e hx) () hv;rw[show h - 1 - (h - 1)=0 by omega] at hP |-;let⟨s,hs⟩:=acI (x::l);have hlen:(x::l).length=h:=by rw[afY,hl];omega
 rw[hlen] at hs;have h0:s 0=x:=by
  obtain⟨k,rfl⟩:∃k,h=k+1:=⟨h - 1,()⟩;rw[ahQ,z1h] at hs;show (ak5 hs).1.symm
 rw[hs] at hP |-;show⟨s,(Zj h1).mp hP,?_⟩;rw[<-aef h1,h0]
theorem Zk(h1:1<=h)(q:Ci w h M s):∃t∈topC w h T M,lt (wS T M h s) t=false:=by
 have hP:=(Zj h1).mpr q;rw[<-aef h1];obtain⟨k,rfl⟩:∃k,h=k+1:=⟨h - 1,()⟩;have e:(afR (k+1)).map s=s 0::(afR k).map λy=>s (y+1):=by
  rw[ahQ,z1h,agP];rfl
 rw[e] at hP |-;let⟨t,ht,hl⟩:=N8 (w:=w) (h:=k+1) (T:=T) (M:=M) (k:=k+1 - 1) (x:=s 0) (l:=(afR k).map λy=>s (y+1)) () () (by rw[show k+1 - 1 - (k+1 - 1)=0 by omega];show hP);rw[show k+1 - 1 - (k+1 - 1)=0 by omega] at hl;show⟨_,aiM.mpr ⟨s 0,akU.mpr (q.sm.lt 0 ()),ajM ht⟩,by rw[Zh];show hl⟩
def Bst(w h:Nat)(T:Nat->Nat->Nat->Int)(M:Nat->Nat->Int)(s:Nat->Nat):Prop:=Ci w h M s/\∀s',Ci w h M s'->lt (wS T M h s') (wS T M h s)=false
theorem least(h1:1<=h):(bN (topC w h T M)=[]/\∀s,¬Ci w h M s)\/∃s,bN (topC w h T M)=[wS T M h s]/\Bst w h T M s:=by
 by_cases hne:topC w h T M=[]
 .left;show⟨by rw[hne];rfl,λs q=>?_⟩;let⟨t,ht,_⟩:=Zk (T:=T) h1 q;rw[hne] at ht;cases ht
 .right;let⟨v,ev,hv,hle⟩:=uw VR hne;let⟨s,q,rfl⟩:=acJ h1 hv;show⟨s,ev,q,λs' q'=>?_⟩;let⟨t,ht,hl⟩:=Zk (T:=T) h1 q';show R7 (hle t ht) hl
end
section
variable{w h:Nat}{T:Nat->Nat->Nat->Int}{M:Nat->Nat->Int}{f:Nat->Nat->Int}{m:Str}{ρ:ao}
def aeh:ao->So:=(aN (bC (aD (aO nG 3) (ak (bin (gv 0) (ci 0) bQ) (ak (gv 3) (ak (gv 3) nA)))) (aL 5)) (G9 2 (bY 3 [5] (fY (gv 4)) (dR (dU 3 (bf (aL 0) (bf (aL 1) (bf (aL 2) nilG))))) tT (cU (ak (gv 0) (ak (bin (gv 1) (gv 3) dX) (ak (gv 2) nA)))))))
theorem acK(h1:1<=h){C:Nat->List Wy}(hx:x<w)(hC:(C x).length<=1)(hl:acc.length<=1000):
  aeh [vA (tab w h T),e1,some (.lst acc),vA (.int (x:Int)),vA (cM (C x)),e5]= .nx [vA (tab w h T),e1,some (.lst (acc++((C x).map (gq (T 0 x 1))).map gB)),vA (.int (x:Int)),vA (cM (C x)),vA (.int (T 0 x 1))]:=by
 have e0:nG [.lst ((afR w).map λx=>fW (T 0 x)),.int (x:Int),.int (x:Int)]= .ok (.int (T 0 x 1)):=by
  have:=JF (T:=T 0 x) (p:=λx=>fW (T 0 x)) (a:=x) (b:=x) hx () () rfl
  rwa [show x+1 - x=1 by omega] at this
 show aK (bw (aY (aB (aA rfl rfl (oG (α:=D) (x:=0) h1)) (aB rfl (au rfl))) e0) rfl) ?_;show (VJ (ds:=acc) rfl (cJ (c:=gB) (h:=λt=>gB (gq (T 0 x 1) t)) (l:=C x) (m8 rfl) () λt ht=>?_) ()).trans ?_
 .show cX rfl (cO (aB rfl (aB (x:= .int (t.2.1+T 0 x 1)) (aA rfl rfl rfl) (au rfl))))
 .rw[agP];rfl
theorem R8(h1:1<=h){C:Nat->List Wy}(hC:∀p,(C p).length<=1){e1:Option Ent}:∀{ps:List Nat} {acc:List D} {e3 e4 e5:Option Ent},(∀p∈ps,p<w)->acc.length+ps.length<=1000->
  ∃z3 z4 z5,forL (dR (dU 2 (bf (aL 3) (bf (aL 4) nilG)))) aeh (ps.map λ(p:Nat)=>D.tup [.int (p:Int),cM (C p)]) [vA (tab w h T),e1,some (.lst acc),e3,e4,e5] =
   .nx [vA (tab w h T),e1,some (.lst (acc++(ps.flatMap λp=>(C p).map (gq (T 0 p 1))).map gB)),z3,z4,z5]
 |[],acc,e3,e4,e5,_,_=>⟨e3,e4,e5,by simp[forL]⟩
 | p::ps,acc,e3,e4,e5,hp,hl=>by
  rw[afY] at hl;have hpw:=hp p ();have hc:=hC p;let⟨z3,z4,z5,e⟩:=R8 h1 hC (e1:=e1) (ps:=ps) (acc:=acc++((C p).map (gq (T 0 p 1))).map gB) (e3:=vA (.int (p:Int))) (e4:=vA (cM (C p))) (e5:=vA (.int (T 0 p 1))) (λq hq=>hp q (by simp[hq])) ();show⟨z3,z4,z5,kJ rfl (acK h1 hpw hc ()) (e.trans ?_)⟩;rw[akj,ahl,ahi]
theorem Uc(h1:1<=h)(hw:w<=20):yM [tab w h T,.lst ((afR h).map λy=>vV w h T M (h - 1 - y))]= .ok (.lst ((topC w h T M).map gB)):=by
 let⟨z3,z4,z5,e⟩:=R8 (T:=T) h1 (C:=oX w h T M (h - 1)) (λp=>pQ) (e1:=vA (.lst ((afR h).map λy=>vV w h T M (h - 1 - y)))) (ps:=afR w) (acc:=[]) (e3:=none) (e4:=none) (e5:=none) (λp hp=>z2e hp) ();show cP (aK (pO rfl) (aK (ud (K8 (p:=λp=>cM (oX w h T M (h - 1) p)) (au (aA rfl rfl (oG (α:=D) (x:=0) h1))) rfl) e) (bh rfl)))
theorem W0(hl:cs.length<64)(hn:(cs.map fl).Nodup){v:ao->R (Option Int)}(e:u ρ= .ok (.lst (cs.map gB)))(e0:v ρ= .ok (some 1)):nu (aD nZ (ak u nA)) (λ_=> .ok none) v ρ= .ok (.lst ((bN cs).map gB)):=by
 have e1:nZ [.lst (cs.map gB)]= .ok (.lst ((kZ (cs.map fl)).map iZ)):=by
  rw[nZ,yR];show (if _ then _ else _)=_;rw[z9p ⟨by simpa using hl,hn⟩]
 have e2:jk ((kZ (cs.map fl)).map iZ) none (some 1)=(bN cs).map gB:=by
  have e3:∀{n d:Nat},HT.sIx n d (some 1)=min 1 n:=λ{n d}=>by
   show (if (1:Int)<0 then ((1:Int)+(n:Int)).toNat else min (1:Int).toNat n)=min 1 n;rw[z9n {}];rfl
  rw[jk,e3,JD,akG,akX,<-List.map_take];have e4:∀l:List (List Int),l.take (min 1 (l.map iZ).length)=l.take 1:=λl=>by cases l <;> simp
  rw[e4];unfold bN;rw[agP];show ahj λl hl=>?_;show iZ l=gB (un l);rw[Hj,R3 l (ajH hl)]
 unfold nu;rw[aZ (au e) e1,e0];show R.ok (D.lst (jk _ none (some 1)))=_;rw[e2]
theorem K9(h1:1<=h)(hh:h<=20)(hw:w<=20):qW [tab w h T,aQ w h M,.int 1]= .ok (.lst ((bN (topC w h T M)).map gB)):=by
 have hl:=aaV (w:=w) (h:=h) (T:=T) (M:=M);show cV (bh (W0 () VR (aY (aB rfl (au (aY (aB rfl (aB rfl (au rfl))) ((acH hh hw).trans (by rw[Zf]))))) (Uc h1 hw)) rfl))
def lwD:List Wy->D
 |[]=> .non
 |t::_=> .tup [.int t.2.1,.tup (t.2.2.map .int)]
theorem Cj(h1:1<=h)(hh:h<=20)(hw:w<=20):jW [tab w h T,aQ w h M]= .ok (lwD (bN (topC w h T M))):=by
 have e:=K9 (T:=T) (M:=M) h1 hh hw;have hl:=sJ (cs:=topC w h T M)
 match bN (topC w h T M),e,hl with
 |[],e,_=>show cV (aK (bw (aY (aB rfl (aB rfl (au rfl))) e) rfl) (jj (eX (lR (Ft (ds:=[]) rfl)) (bh rfl))))
 |[t],e,_=>show cV (aK (bw (aY (aB rfl (aB rfl (au rfl))) e) rfl) (aK (bV (lR (Ft (ds:=[gB t]) rfl)) rfl) (aK (bw (d:=gB t) (aA (y:= .int 0) rfl rfl (Bb (i:=0) rfl)) rfl) (bh (cO (aB rfl (au rfl)))))))
 |_::_::_,_,hl=>simp at hl
theorem Zm{α:Type}{k:D->R (Option D)}{c:α->D}{o:α->Option D}:∀{l:List α},(∀a∈l,k (c a)= .ok (o a))->j5 k (l.map c)= .ok (l.filterMap o)
 |[],_=>rfl
 | a::l,h=>by
  rw[z1h,j5,h a (),Ih,R.aR,Zm λb hb=>h b (by simp[hb]),R.aR];cases e:o a with
  |none=>rw[List.filterMap_cons_none e];rfl
  |some d=>rw[List.filterMap_cons_some e];rfl
theorem aei{α:Type}{n:Nat}{caps:List Nat}{fi:ao->R (List D)}{gt:D->ao->R ao}{ft:ao->R Bool}{fe:ao->R D}{ρ:ao}{c:α->D}{o:α->Option D}{l:List α}(e1:fi ρ= .ok (l.map c))(hl:l.length<=1000000)
  (e2:∀a∈l,pB gt ft fe (Ek n caps ρ) (c a)= .ok (o a)):bY n caps fi gt ft fe ρ= .ok (.lst (l.filterMap o)):=by
 rw[bY,e1,R.aR,Zm e2,R.aR,cap,z9p (z0b (List.length_filterMap_le _ _) hl)]
theorem acL{ρ ρ1:ao}{gt:D->ao->R ao}{ft:ao->R Bool}{fe:ao->R D}{x d:D}{b:Bool}(e1:gt x ρ= .ok ρ1)(e2:ft ρ1= .ok b)(e3:fe ρ1= .ok d):pB gt ft fe ρ x= .ok (if b=true then some d else none):=by
 rw[pB,e1,R.aR,e2,R.aR];cases b with
 |true=>rw[z9p rfl,z9p rfl,e3];rfl
 |false=>rw[z9n {},z9n {}]
end
section
variable{ns:List Int}{w h k:Nat}{f M:Nat->Nat->Int}{T:Nat->Nat->Nat->Int}{m:Str}{s:Nat->Nat}{ρ:ao}
theorem aej(hns:ns.length<=1000000):∃w h f,vQ [.lst (ns.map .int),.int 0,.int 6,.int 4]= .ok (aQ w h f)/\Ok w h f/\w<=6/\h<=4:=by
 let⟨e1,h1,h2⟩:=su (k:=0) (m:=6) hns () ();let⟨e2,h3,h4⟩:=su (k:=0+1) (m:=4) hns () ();let⟨w,hw⟩:=ag5 (show 0<=1+dr ns 0 6 by omega);let⟨h,hh⟩:=ag5 (show 0<=1+dr ns (0+1) 4 by omega);let⟨f,e,o⟩:=WW (ns:=ns) (a:=0+2) (w:=w) (h:=h) hns () () () () ();show⟨w,h,f,cP (bh (aY (aB rfl (aB (aA rfl rfl rfl) (aB (aA rfl (aY (aB rfl (aB rfl (au rfl))) e1) (congrArg (λz=>R.ok (D.int z)) hw)) (au (aA rfl (aY (aB rfl (aB (aA rfl rfl rfl) (au rfl))) e2) (congrArg (λz=>R.ok (D.int z)) hh)))))) e)),o,(),()⟩
theorem Zn(hns:ns.length<=1000000):∃m:Str,(m= "worth"\/m= "joins")/\qU [.lst (ns.map .int),.int 60]= .ok (.str m):=by
 let⟨e1,h0,h2⟩:=su (k:=60) (m:=2) hns () ();let⟨d,hd,ed⟩:=Ku (xs:=[D.str "worth",.str "joins"]) h0 h2;simp only[af9,agZ,or_false] at hd;rcases hd with rfl |rfl
 .show⟨"worth",.inl rfl,cP (bh (aA (x:= .lst [D.str "worth",.str "joins"]) (iw rfl) (aY (aB rfl (aB rfl (au rfl))) e1) (Bc ed)))⟩
 .show⟨"joins",.inr rfl,cP (bh (aA (x:= .lst [D.str "worth",.str "joins"]) (iw rfl) (aY (aB rfl (aB rfl (au rfl))) e1) (Bc ed)))⟩
theorem Zo:lwD [wS T M h s]= .tup [.int (cost h T s),sm h s]:=by
 show D.tup [.int (cost h T s),.tup (((afR h).map λy=>((s y:Nat):Int)).map .int)]=_;rw[agP];rfl
theorem W2{p:ao->R Bool}{b:ao->So}{n:Nat}(e:p (bF ρ)= .ok false):fZ p b (n+1) ρ= .nx ρ:=by rw[fZ,e]
theorem R9{p:ao->R Bool}{b:ao->So}{n:Nat}{ρ1:ao}{o:So}(e:p (bF ρ)= .ok true)(e1:b ρ= .nx ρ1)(e2:fZ p b n ρ1=o):fZ p b (n+1) ρ=o:=by rw[fZ,e];simp only[e1,e2]
theorem ae5{p:ao->R Bool}{b:ao->So}{n:Nat}{d:D}(e:p (bF ρ)= .ok true)(e1:b ρ= .rt d):fZ p b (n+1) ρ= .rt d:=by rw[fZ,e];simp only[e1]
end
section
variable{ns:List Int}{w h k:Nat}{f M:Nat->Nat->Int}{T:Nat->Nat->Nat->Int}{m:Str}{s:Nat->Nat}{ρ:ao}
abbrev vp:=(Nat->Nat)×(Nat->Int)
def JH(h:Nat)(p:vp):D:= .tup [sm h p.1,row h p.2]
def bld:(Nat->Nat->Int)->List vp->(Nat->Nat->Int)
 |f,[]=>f
 |f,p::r=>bld (more p.1 p.2 f) r
section
variable{p:vp}
theorem Sd{l:List D}{n:Nat}(h:∀d∈l,dep d<=n):deps l<=n:=by
 have:=wV (c:=id) (n:=n) (l:=l) h
 rwa [List.map_id] at this
end
def Go(m:Str)(h:Nat):Nat->Nat->(Nat->Nat->Int)->(Nat->Nat->Int)->Option (List vp)->Prop
 |0,_,_,_,r=>r=some []
 |k+1,w,f,M,r=>(bN (topC w h (tbl m w h f) M)=[]/\(∀s,¬Ci w h M s)/\r=none)\/∃s r',Ci w h M s/\bN (topC w h (tbl m w h f) M)=[wS (tbl m w h f) M h s]/\Go m h k (w - 1) (less s f) (less s M) r'/\r=r'.map ((s,λy=>f y (s y)):: ·)
def JK:(Nat->Nat->Int)->List vp->Nat->Nat->Int
 |f,[]=>f
 |f,p::L=>JK (less p.1 f) L
def tot(m:Str)(h:Nat):Nat->(Nat->Nat->Int)->List vp->Int
 |_,_,[]=>0
 |w,f,p::L=>cost h (tbl m w h f) p.1+tot m h (w - 1) (less p.1 f) L
theorem W3(h1:1<=h):∀{k w:Nat} {f M:Nat->Nat->Int},∃r,Go m h k w f M r
 |0,w,f,M=>⟨_,rfl⟩
 | k +1,w,f,M=>by
  rcases least (w:=w) (T:=tbl m w h f) (M:=M) h1 with⟨e,q⟩ |⟨s,e,q,_⟩
  .show⟨none,.inl ⟨e,q,rfl⟩⟩
  .let⟨r,g⟩:=W3 h1 (k:=k) (w:=w - 1) (f:=less s f) (M:=less s M);show⟨_,.inr ⟨s,r,q,e,g,rfl⟩⟩
theorem Oa:less s (λ_ _=>(0:Int))=λ_ _=>0:=by funext y x;unfold less;split <;> rfl
theorem La:∀{k w:Nat} {f M:Nat->Nat->Int} {r:Option (List vp)},k<w->(∀y<h,∀x<w,M y x≠1)->Go m h k w f M r->∃L,r=some L
 |0,w,f,M,r,_,_,g=>⟨_,g⟩
 | k +1,w,f,M,r,hk,z,g=>by
  rcases g with⟨_,q,_⟩ |⟨s,r',q,_,g,e⟩
  .show absurd ⟨⟨λy hy=>by show 0<w;omega,λy hy=>by show 0<=0+1/\0<=0+1;omega⟩,λy hy=>z y hy 0 ()⟩ (q λ_=>0)
  .let⟨L,rfl⟩:=La () (λy hy x hx=>by unfold less;split;show z _ hy _ ();show z _ hy _ ()) g;show⟨_,e⟩
def tkD(m:Str)(w h k:Nat)(f:Nat->Nat->Int):Option (List vp)->D
 |none=> .non
 |some L=> .tup [aQ (w - k) h (JK f L),.lst (L.map (JH h)),.int (tot m h w f L)]
section
variable(hm:m= "worth"\/m= "joins")(o:Ok w h f)
include hm o
theorem abC:jW [tab w h (tbl m w h f),aQ w h M]= .ok (lwD (bN (topC w h (tbl m w h f) M))):=Cj o.h1 o.h2 o.w2
theorem aaW(e:bN (topC w h (tbl m w h f) M)=[]):tkB [e0,e1,vA (.str m),e3,vA (aQ w h f),vA (aQ w h M),some (.lst acc),e7,e8,e9,e10]= .rt .non:=by
 have el:=abC (M:=M) hm o;rw[e] at el;show aK (bw (aY (aB (aY (aB rfl (au rfl)) (Ho hm o)) (au rfl)) el) rfl) (jj (eX (aX (aA rfl rfl rfl)) (bh rfl)))
theorem Zq(q:Ci w h M s)(e:bN (topC w h (tbl m w h f) M)=[wS (tbl m w h f) M h s]){t:Int}(hl:acc.length<=1000):tkB [e0,e1,vA (.str m),e3,vA (aQ w h f),vA (aQ w h M),some (.lst acc),vA (.int t),e8,e9,e10] =
  .nx [e0,e1,vA (.str m),e3,vA (aQ (w - 1) h (less s f)),vA (aQ (w - 1) h (less s M)),some (.lst (acc++[JH h (s,λy=>f y (s y))])),vA (.int (t+cost h (tbl m w h f) s)),vA (.tup [.int (cost h (tbl m w h f) s),sm h s]),vA (.int (cost h (tbl m w h f) s)),vA (sm h s)]:=by
 have el:=abC (M:=M) hm o;rw[e,Zo] at el;show aK (bw (aY (aB (aY (aB rfl (au rfl)) (Ho hm o)) (au rfl)) el) rfl) (aK (bV (aX (aA rfl rfl rfl)) rfl) (aK (bw rfl rfl) (aK (RZ (ds:=acc) (d:=JH h (s,λy=>f y (s y))) (cO (aB rfl (au (aY (aB rfl (au rfl)) (xO q.sm o.h2))))) rfl ()) (aK (ad8 (a:=t) (b:=cost h (tbl m w h f) s) rfl rfl) ?_))));show wW (aY (aB rfl (au rfl)) (oF q.sm o.h2 o.w2)) (aY (aB rfl (au rfl)) (oF q.sm o.h2 o.w2))
end
theorem Zr{e2 e4:Option Ent}{K:Nat}:Y5 (bF [e0,vA (.int (K:Int)),e2,e3,e4,e5,some (.lst acc),e7,e8,e9,e10])= .ok (decide (acc.length<K)):=by
 show aX (aA (aZ (au rfl) rfl) rfl ?_);show R.ok (D.bl (decide ((acc.length:Int)<(K:Int))))=_;rw[decide_eq_decide.mpr (by omega:(acc.length:Int)<(K:Int)↔acc.length<K)]
theorem V0(hm:m= "worth"\/m= "joins"){e0 e3:Option Ent}:∀{k w n K:Nat} {f M:Nat->Nat->Int} {r:Option (List vp)} {acc:List D} {t:Int} {e8 e9 e10:Option Ent},Go m h k w f M r->Ok w h f->k<w->k<n->acc.length+k=K->K<=500->
  match (generalizing:=false) r with
  |none=>fZ Y5 tkB n [e0,vA (.int (K:Int)),vA (.str m),e3,vA (aQ w h f),vA (aQ w h M),some (.lst acc),vA (.int t),e8,e9,e10]= .rt .non
  | some L=>∃z5 z8 z9 qN,fZ Y5 tkB n [e0,vA (.int (K:Int)),vA (.str m),e3,vA (aQ w h f),vA (aQ w h M),some (.lst acc),vA (.int t),e8,e9,e10] =
    .nx [e0,vA (.int (K:Int)),vA (.str m),e3,vA (aQ (w - k) h (JK f L)),z5,some (.lst (acc++L.map (JH h))),vA (.int (t+tot m h w f L)),z8,z9,qN]
 | 0,w,n,K,f,M,r,acc,t,e8,e9,e10,g,o,hw,hn,hK,hb=>by
  obtain⟨n,rfl⟩:∃j,n=j+1:=⟨n - 1,()⟩;have g:r=some []:=g;subst g;show⟨vA (aQ w h M),e8,e9,e10,?_⟩;rw[W2 (by rw[Zr,z9f ()]),aif,ags,JK,tot,Int.add_zero];rfl
 | k+1,w,n,K,f,M,r,acc,t,e8,e9,e10,g,o,hw,hn,hK,hb=>by
  obtain⟨n,rfl⟩:∃j,n=j+1:=⟨n - 1,()⟩;have et:∀e8 e9 e10,Y5 (bF [e0,vA (.int (K:Int)),vA (.str m),e3,vA (aQ w h f),vA (aQ w h M),some (.lst acc),vA (.int t),e8,e9,e10])= .ok true:=λ_ _ _=>by rw[Zr,z9t ()]
  rcases g with⟨e,_,rfl⟩ |⟨s,r',q,e,g,rfl⟩
  .show ae5 (et _ _ _) (aaW hm o e)
  .have ih:=V0 hm (e0:=e0) (e3:=e3) (n:=n) (K:=K) (acc:=acc++[JH h (s,λy=>f y (s y))]) (t:=t+cost h (tbl m w h f) s) (e8:=vA (.tup [.int (cost h (tbl m w h f) s),sm h s])) (e9:=vA (.int (cost h (tbl m w h f) s))) (e10:=vA (sm h s)) g (o.less ()) () () (by rw[z1d,agR];omega) hb;cases r' with
   |none=>show R9 (et _ _ _) (Zq hm o q e ()) ih
   | some L=>
    let⟨z5,z8,z9,qN,e'⟩:=ih;show⟨z5,z8,z9,qN,R9 (et _ _ _) (Zq hm o q e ()) ?_⟩;rw[e',ahi,Int.add_assoc,show w - (k+1)=w - 1 - k by omega];rfl
theorem aaX{r:Option (List vp)}(hm:m= "worth"\/m= "joins")(o:Ok w h f)(hk:k<w)(g:Go m h k w f M r):KZ [aQ w h f,.int (k:Int),.str m,aQ w h M]= .ok (tkD m w h k f r):=by
 have ow:=o.w2;have e:=V0 hm (e0:=vA (aQ w h f)) (e3:=vA (aQ w h M)) (n:=64) (K:=k) (acc:=[]) (t:=0) (e8:=none) (e9:=none) (e10:=none) g o hk () (by rw[ahk];omega) ();cases r with
 |none=>show cV (aK (wW rfl rfl) (aK (pO rfl) (aK (bw rfl rfl) (jj e))))
 | some L=>
  let⟨z5,z8,z9,qN,e⟩:=e;rw[ais,Int.zero_add] at e;show cV (aK (wW rfl rfl) (aK (pO rfl) (aK (bw rfl rfl) (aK e (bh (cO (aB rfl (aB rfl (au rfl)))))))))
end
section
variable{ns:List Int}{w h k:Nat}{f M:Nat->Nat->Int}{T:Nat->Nat->Nat->Int}{m:Str}{s:Nat->Nat}{ρ:ao}
theorem Oo{n:Nat}(h1:1<=i)(h2:i<=n):ur [.int (i:Int),.int 1,.int (n:Int)]= .ok .non:=
 Qj (bV (X6 (lR (b:=true) (aX (aY (au rfl) Gf))) (lR (b:=true) (aX (QJ rfl rfl (Fo ()) rfl (Fo ()))))) rfl)
def nwD(low h:Nat)(f:Nat->Nat->Int):Option (List vp)->D
 |none=> .non
 |some L=>aQ low h (JK f L)
section
variable{low:Nat}{d:D}{r:Option (List vp)}(hm:m= "worth"\/m= "joins")(o:Ok w h f)(hd:oE [d,aQ w h f]= .ok (aQ w h M))(h1:1<=low)(h2:low<=w)(g:Go m h (w - low) w f M r)
include hm o hd h1 h2 g
theorem Ud:yO [aQ w h f,.int (low:Int),.str m,d]= .ok (tkD m w h (w - low) f r):=by
 show cV (aK (Eu (qL (au rfl) (Fp o))) (aK (Eu (qL (au rfl) (xR hm))) (aK (bw (aY (aB rfl (au rfl)) hd) rfl) (aK (Eu (aY (aB rfl (aB rfl (au (len0 o rfl)))) (Oo h1 h2))) (bh (aY (aB rfl (aB (x:= .int ((w - low:Nat):Int)) (aA (len0 o rfl) rfl ?_) (aB rfl (au rfl)))) (aaX hm o () g)))))));show R.ok (D.int ((w:Int) - (low:Int)))=_;rw[show (w:Int) - (low:Int)=((w - low:Nat):Int) by omega]
theorem Ue:yP [aQ w h f,.int (low:Int),.str m,d]= .ok (nwD low h f r):=by
 have e:=Ud hm o hd h1 h2 g;cases r with
 |none=>show cV (aK (bw (aY (aB rfl (aB rfl (aB rfl (au rfl)))) e) rfl) (jj (eX (aX (aA rfl rfl rfl)) (bh rfl))))
 | some L=>
  rw[tkD,show w - (w - low)=low by omega] at e;show cV (aK (bw (aY (aB rfl (aB rfl (aB rfl (au rfl)))) e) rfl) (aK (bV (aX (aA rfl rfl rfl)) rfl) (bh (aA rfl rfl (dN (i:=0) rfl)))))
end
end
section
variable{ns:List Int}{w h k:Nat}{f M:Nat->Nat->Int}{T:Nat->Nat->Nat->Int}{m:Str}{s:Nat->Nat}{ρ:ao}
section
variable{i n:Nat}{F:Dk->List D->R (D×Dk)}{G:Dk->List D->R D}{fa:ao->R (List D)}{fk:ao->R Dk}{o:D->ao->So}{g:Option (afK×afK)}{kk:Dk}{ds:List D}{r:D×Dk}{d:D}
theorem pR(e0:ρ[i]?=some (some (.bU g kk)))(e1:fa (bF ρ)= .ok ds)(e2:F kk ds= .ok r)(hl:ds.length=n:=by rfl)(hn:cY ds=true:=by rfl):jF i F n fa o ρ=o r.1 (ρ.set i (some (.bU g r.2))):=by
 unfold jF;rw[e0,e1];simp only[hl,hn,and_self,if_true,e2]
theorem cF(e0:fk ρ= .ok kk)(e1:fa ρ= .ok ds)(e2:G kk ds= .ok d)(hl:ds.length=n:=by rfl):cW G n fk fa ρ= .ok d:=by
 unfold cW;rw[e0,R.aR,e1,R.aR,aO,z9p hl,e2];rfl
theorem oH{t:Dk->D}(e:fk ρ= .ok kk):iV fk t ρ= .ok (t kk):=by rw[iV,e];rfl
theorem Lb{m:Nat}{b:ao->So}(h:∀gh,∃ρ',b (some (.bU gh kk)::(ds.map (λd=>some (.val d))++afO m none))= .rm r.1 (some (.bU gh r.2)::ρ')):(mW λgh=>runM m b gh kk ds)= .ok r:=Vs λgh=>by
 let⟨ρ',e⟩:=h gh;unfold runM;rw[e];show (if gh=gh then R.ok (r.1,r.2) else .bad)=_;rw[z9p rfl]
theorem acM{m:Nat}{b:ao->So}{k':Dk}(h:∀gh,∃ρ',b (some (.bU gh kk)::(ds.map (λd=>some (.val d))++afO m none))= .nx (some (.bU gh k')::ρ')):(mW λgh=>runM m b gh kk ds)= .ok (.non,k'):=Vs λgh=>by
 let⟨ρ',e⟩:=h gh;unfold runM;rw[e];show (if gh=gh then R.ok (D.non,k') else .bad)=_;rw[z9p rfl]
end
theorem Ld{α:Type}{p:α->D}:∀{l:List α},(∀a∈l,eN (p a)=true)->cY (l.map p)=true
 |[],_=>rfl
 |a::l,h=>by rw[z1h,cY,h a (agl ..),Ld λb hb=>h b (z2f _ hb)];rfl
theorem pU{g:Nat->Int}{n:Nat}:eN (row n g)=true:=by rw[row,eN];show Ld λ_ _=>rfl
theorem Le:eN (aQ w h f)=true:=by rw[aQ,eN];show Ld λ_ _=>pU
section
variable{kk:Dk}{n:Nat}{a b c e:D}
theorem V1(hn:kk.n=(n:Int))(hp:kk.pg[n]?=some (.tup [a,b,c,e])):gj kk []= .ok b:=
 cV (bh (aA (aA (oH rfl) (oH rfl) (by rw[hn];show Bb hp)) rfl (dN (i:=1) rfl)))
theorem acN(hn:kk.n=(n:Int))(hp:kk.pg[n]?=some (.tup [a,b,c,e])):sH kk []= .ok c:=
 cV (bh (aA (aA (oH rfl) (oH rfl) (by rw[hn];show Bb hp)) rfl (dN (i:=2) rfl)))
theorem acO(hp:kk.pg[0]?=some (.tup [a,b,c,e])):oA kk []= .ok b:=
 cV (bh (aA (aA (oH rfl) rfl (Bb (i:=0) hp)) rfl (dN (i:=1) rfl)))
theorem W4{p:D}(hn:kk.n+1=(kk.pg.length:Int))(hl:kk.pg.length<=1000)(hp:eN p=true):um kk [p]= .ok (.non,⟨kk.m,kk.pg++[p],kk.n+1⟩):=by
 show acM λgh=>⟨[some (.val p)],?_⟩;show aK (ρ':=[some (.bU gh ⟨kk.m,kk.pg++[p],kk.n⟩),some (.val p)]) ?_ rfl;have e1:(ak (gv 1) nA) (bF [some (.bU gh kk),some (.val p)])= .ok [p]:=rfl;have e2:(bin (iV (λρ=>cD ρ 0) (λk=> .int k.n)) (ci 1) dX) (bF [some (.bU gh kk),some (.val p)])= .ok (.int (kk.n+1)):=rfl;show Rz 0 (bin (iV (λρ=>cD ρ 0) (λk=> .int k.n)) (ci 1) dX) (ak (gv 1) nA) [some (.bU gh kk),some (.val p)]=_;unfold Rz;rw[e1,e2];have hc:cY [p]=true/\0<=kk.n+1/\kk.n+1<=(kk.pg.length:Int)/\kk.pg.length+[p].length<=1000000:=⟨by rw[cY,hp];rfl,(),(),by simp only[agR];omega⟩;show (if _ then So.nx _ else So.bad)=_;rw[z9p hc,hn,ahs,akH];rfl
theorem aaY{n:Nat}{P' M' S C:D}(ht:RT wd=some F)(hn:kk.n=(n:Int))(hp:kk.pg[n]?=some (.tup [a,b,c,e]))(hl:n+1=kk.pg.length)(hb:kk.pg.length<=1000)(hF:F [b,c,kk.m]= .ok (.tup [P',M',S,C]))(h1:eN P'=true)(h2:eN M'=true)(h3:eN S=true)(h4:eN C=true):
  mH kk [.tup [.str wd]]= .ok (S,⟨kk.m,kk.pg++[.tup [.tup [.str wd],P',M',.tup [.str wd,S,C]]],kk.n+1⟩):=by
 have hnl:cY [P',M',S,C]=true:=by simp only[cY,h1,h2,h3,h4,ak7]
 show Lb λgh=>⟨[some (.val (.tup [.str wd])),none,some (.val P'),some (.val M'),some (.val S),some (.val C)],?_⟩;show aK (ρ':=[some (.bU gh kk),some (.val (.tup [.str wd])),none,some (.val P'),some (.val M'),some (.val S),some (.val C)]) ?_ ?_
 .show Jm 2 _ RT _ 3 3 4 5 6 [some (.bU gh kk),some (.val (.tup [.str wd])),none,none,none,none,none]=_;have e1:(bin (gv 1) (ci 0) bQ) (bF [some (.bU gh kk),some (.val (.tup [.str wd])),none,none,none,none,none])= .ok (.str wd):=aA rfl rfl (dN (i:=0) rfl);have e2:(ak (cW gj 0 (λρ=>cD ρ 0) nA) (ak (cW sH 0 (λρ=>cD ρ 0) nA) (ak (iV (λρ=>cD ρ 0) Dk.m) nA))) (bF [some (.bU gh kk),some (.val (.tup [.str wd])),none,none,none,none,none])= .ok [b,c,kk.m]:=
   aB (cF rfl rfl (V1 hn hp)) (aB (cF rfl rfl (acN hn hp)) (au (oH rfl)))
  unfold Jm;rw[e1];show (match R.ok (D.str wd),(ak _ _) (bF [some (.bU gh kk),some (.val (.tup [.str wd])),none,none,none,none,none]) with | .ok (.str x),.ok ds=>_ |_,_=>_)=_;rw[e2];simp only[ht,afY,ahk,if_true,hF,hnl];rfl
 .show aK (ρ':=[some (.bU gh ⟨kk.m,kk.pg++[.tup [.tup [.str wd],P',M',.tup [.str wd,S,C]]],kk.n+1⟩),some (.val (.tup [.str wd])),none,some (.val P'),some (.val M'),some (.val S),some (.val C)]) ?_ ?_
  .show (pR (ds:=[.tup [.tup [.str wd],P',M',.tup [.str wd,S,C]]]) rfl (au (cO (aB rfl (aB rfl (aB rfl (au (cO (aB (aA rfl rfl (dN (i:=0) rfl)) (aB rfl (au rfl)))))))))) (W4 () hb ?_) rfl ?_).trans rfl
   all_goals simp only[cY,eN,h1,h2,h3,h4,ak7]
  .show Rv (gv 5) _=_;unfold Rv;show (if eN S=true then So.rm S _ else .bad)=_;rw[z9p h3]
theorem acP{r':D×Dk}(hb:IK false (.str wd) (.tup [.str "keep",.str "drop",.str "free"])= .ok (.bl false))(hg:mH kk [.tup [.str wd]]= .ok r'):gk kk [.tup [.str wd]]= .ok r':=by
 show Lb λgh=>⟨[some (.val (.tup [.str wd]))],?_⟩;show aK (bV (aX (aA (aA rfl rfl (dN (i:=0) rfl)) rfl hb)) rfl) (pR rfl (au rfl) hg)
end
end
section
variable{ns:List Int}{w h k:Nat}{f M:Nat->Nat->Int}{T:Nat->Nat->Nat->Int}{m:Str}{s:Nat->Nat}{ρ:ao}
abbrev Z0:Nat->Nat->Int:=λ_ _=>0
theorem afB(o:Ok w h f):Ci w h Z0 λ_=>0:=⟨⟨λ_ _=>o.w1,λ_ _=>⟨(),()⟩⟩,λ_ _=>by show (0:Int)≠1;decide⟩
theorem V2(o:Ok w h f):∃s,Ci w h Z0 s/\bN (topC w h (tbl m w h f) Z0)=[wS (tbl m w h f) Z0 h s]:=by
 rcases least (w:=w) (T:=tbl m w h f) (M:=Z0) o.h1 with⟨_,q⟩ |⟨s,e,q,_⟩
 .show absurd (afB o) (q _)
 .show⟨s,q,e⟩
theorem Ck(hm:m= "worth"\/m= "joins")(o:Ok w h f)(e:bN (topC w h (tbl m w h f) Z0)=[wS (tbl m w h f) Z0 h s]):qw [aQ w h f,aQ w h Z0,.str m]= .ok (sm h s):=by
 have e1:jW [tab w h (tbl m w h f),aQ w h Z0]= .ok (.tup [.int (cost h (tbl m w h f) s),sm h s]):=by rw[Cj o.h1 o.h2 o.w2,e,Zo]
 show cV (aK (bw (aY (aB (aY (aB rfl (au rfl)) (Ho hm o)) (au rfl)) e1) rfl) (aK (bV (aX (aA rfl rfl rfl)) rfl) (bh (aA rfl rfl (dN (i:=1) rfl)))))
theorem Qs{i:Int}(h:i≠j):gP (.int i) (.int j)= .ok (.bl false):=by
 rw[gP,z9p (by simp[dep])];simp[je,jf,jg,jh,ji,fL,dJ,h]
theorem xT(hm:m= "worth"\/m= "joins")(o:Ok w h f)(h1:1<w)(q:pN w h s)(e:bN (topC w h (tbl m w h f) Z0)=[wS (tbl m w h f) Z0 h s]):
  jQ [aQ w h f,aQ w h Z0,.str m]= .ok (.tup [aQ (w - 1) h (less s f),aQ (w - 1) h Z0,sm h s,row h λy=>f y (s y)]):=by
 have e2:iR [aQ w h Z0,sm h s]= .ok (aQ (w - 1) h Z0):=by rw[oF q o.h2 o.w2,Oa]
 show cV (aK (bV (aX (aA (len0 o rfl) rfl (Qs ()))) rfl) (aK (bw (aY (aB rfl (aB rfl (au rfl))) (Ck hm o e)) rfl) (bh (cO (aB (aY (aB rfl (au rfl)) (oF q o.h2 o.w2)) (aB (aY (aB rfl (au rfl)) e2) (aB rfl (au (aY (aB rfl (au rfl)) (xO q o.h2))))))))))
abbrev tr(f:Nat->Nat->Int):Nat->Nat->Int:=λy x=>f x y
theorem V3(o:Ok w h f):Ok w h Z0:=⟨o.w1,o.w2,o.h1,o.h2,λ_ _ _ _=>by show (0:Int)<=0/\(0:Int)<=99;decide⟩
theorem JL(hm:m= "worth"\/m= "joins")(o:Ok w h f)(h1:1<h)(q:pN h w s)(e:bN (topC h w (tbl m h w (tr f)) Z0)=[wS (tbl m h w (tr f)) Z0 w s]):
  lF [aQ w h f,aQ w h Z0,.str m]= .ok (.tup [aQ w (h - 1) (tr (less s (tr f))),aQ w (h - 1) Z0,sm w s,row w λy=>tr f y (s y)]):=by
 have o2:Ok (h - 1) w (less s (tr f)):=o.turn.less h1;have e2:fQ [aQ w h Z0]= .ok (aQ h w Z0):=lq (V3 o);have e3:fQ [aQ (h - 1) w Z0]= .ok (aQ w (h - 1) Z0):=lq (V3 o2);show cV (aK (ρ':=[some (.val (aQ w h f)),some (.val (aQ w h Z0)),some (.val (.str m)),some (.val (aQ (h - 1) w (less s (tr f)))),some (.val (aQ (h - 1) w Z0)),some (.val (sm w s)),some (.val (row w λy=>tr f y (s y)))]) ?_ (bh (cO (aB (aY (au rfl) (lq o2)) (aB (aY (au rfl) e3) (aB rfl (au rfl)))))));show RD _ 3 4 5 6 _=_;unfold RD;rw[aY (aB (aY (au rfl) (lq o)) (aB (aY (au rfl) e2) (au rfl))) (xT hm o.turn h1 q e)];rfl
theorem Zt{t:Nat->Nat}:more t (λ_=>(0:Int)) Z0=Z0:=by
 funext y x;unfold more;by_cases a:x<t y
 .rw[z9p a]
 .rw[z9n a];by_cases b:x=t y
  .rw[z9p b]
  .rw[z9n b]
theorem Oq(hm:m= "worth"\/m= "joins")(o:Ok w h f)(h1:w<20)(q:pN w h s)(e:bN (topC w h (tbl m w h f) Z0)=[wS (tbl m w h f) Z0 h s]):
  ou [aQ w h f,aQ w h Z0,.str m]= .ok (.tup [aQ (w+1) h (more (λy=>s y+1) (λy=>mean w (f y) (s y)) f),aQ (w+1) h Z0,sm h s,row h λy=>mean w (f y) (s y)]):=by
 have q':∀y<h,(λy=>s y+1) y<=w:=λy hy=>q.lt y hy;have e2:eY [aQ w h Z0,sm h λy=>s y+1,.tup ((afR h).map λ_=> .int 0)]= .ok (aQ (w+1) h Z0):=by
  rw[mJ (s:=λy=>s y+1) (c:=λ_=>0) q' o.h2 o.w2 rfl rfl,Zt]
 have e3:(bin (cU (ak (ci 0) nA)) (aD cH (ak (gv 3) nA)) Bd) [some (.val (aQ w h f)),some (.val (aQ w h Z0)),some (.val (.str m)),some (.val (sm h s)),some (.val (sm h λy=>s y+1)),some (.val (row h λy=>mean w (f y) (s y)))]= .ok (.tup ((afR h).map λ_=> .int 0)):=
  aA (cO (au rfl)) (aZ (r:= .ok (.int (h:Int))) (au rfl) (by simp[row,cH])) (mul_one o.h1 o.h2)
 show cV (aK (bV (aX (aA (len0 o rfl) rfl (Qs ()))) rfl) (aK (bw (aY (aB rfl (aB rfl (au rfl))) (Ck hm o e)) rfl) (aK (bw (aY (au rfl) (NZ o.h2)) rfl) (aK (bw (aY (aB rfl (au rfl)) (aaP o q)) rfl)
  (bh (cO (aB (aY (aB rfl (aB rfl (au rfl))) (mJ (s:=λy=>s y+1) q' o.h2 o.w2 rfl rfl)) (aB (aY (aB rfl (aB rfl (au e3))) e2) (aB rfl (au rfl))))))))))
def Zu(w h:Nat)(f:Nat->Nat->Int):D:= .tup [.non,aQ w h f,aQ w h Z0,.non]
inductive Zv:Str->Nat->Nat->(Nat->Nat->Int)->Nat->Nat->(Nat->Nat->Int)->D->D->Prop
 |nar {w h:Nat} {f:Nat->Nat->Int} {s:Nat->Nat} (q:pN w h s) (h1:1<w):Zv "narrow" w h f (w - 1) h (less s f) (sm h s) (row h λy=>f y (s y))
 |wid {w h:Nat} {f:Nat->Nat->Int} {s:Nat->Nat} {c:Nat->Int} (q:pN w h s) (h1:w<20):Zv "widen" w h f (w+1) h (more (λy=>s y+1) c f) (sm h s) (row h c)
 |fla {w h:Nat} {f:Nat->Nat->Int} {s:Nat->Nat} (q:pN h w s) (h1:1<h):Zv "flatten" w h f w (h - 1) (tr (less s (tr f))) (sm w s) (row w λy=>tr f y (s y))
theorem Lf{g:Nat->Nat->Int}(e:∀y<h,∀x<w,f y x=g y x):aQ w h f=aQ w h g:=by
 unfold aQ row;congr 1;show ahj λy hy=>?_;congr 1;show ahj λx hx=>by rw[e y (z2e hy) x (z2e hx)]
theorem Oc(q:∀y<h,s y<w):∀y<h,∀x<w,more s (λy=>f y (s y)) (less s f) y x=f y x:=λy hy x hx=>by
 unfold more less;by_cases a:x<s y
 .rw[z9p a,z9p a]
 .rw[z9n a];by_cases b:x=s y
  .rw[z9p b,b]
  .rw[z9n b,z9n (),show x - 1+1=x by omega]
theorem Zw{t:Nat->Nat}{c:Nat->Int}:∀y x,less t (more t c f) y x=f y x:=λy x=>by
 unfold less more;by_cases a:x<t y
 .rw[z9p a,z9p a]
 .rw[z9n a,z9n (),z9n (),show x+1 - 1=x by omega]
theorem Sg{a:Str}:gP (.str a) (.str a)= .ok (.bl true):=by rw[gP,z9p (by simp[dep])];simp[je,jf,jg,jh,ji,fL,dJ]
theorem Sh{a b:Str}(h:a≠b):gP (.str a) (.str b)= .ok (.bl false):=by rw[gP,z9p (by simp[dep])];simp[je,jf,jg,jh,ji,fL,dJ,h]
theorem aaZ{w' h':Nat}{f':Nat->Nat->Int}{S C:D}(o:Ok w h f)(o':Ok w' h' f')(t:Zv wd w h f w' h' f' S C):sI [.tup [.str wd,S,C],aQ w' h' f']= .ok (aQ w h f):=by
 cases t with
 | nar q h1=>
  rename_i s;have e:eY [aQ (w - 1) h (less s f),sm h s,row h λy=>f y (s y)]= .ok (aQ w h f):=by
   rw[mJ (s:=s) (c:=λy=>f y (s y)) (λy hy=>by have:=q.lt y hy;omega) o.h2 (by have:=o.w2;omega) rfl rfl,show w - 1+1=w by omega];show congrArg R.ok (Lf (Oc q.lt))
  show cP (aK (bw rfl rfl) (jj (eX (aX (aA rfl rfl Sg)) (bh (aY (aB rfl (aB rfl (au rfl))) e)))))
 | wid q h1=>
  rename_i s c;have e:iR [aQ (w+1) h (more (λy=>s y+1) c f),sm h λy=>s y+1]= .ok (aQ w h f):=by
   rw[oF (s:=λy=>s y+1) ⟨λy hy=>by have:=q.lt y hy;omega,λy hy=>by have:=q.st y hy;omega⟩ o.h2 (),show w+1 - 1=w by omega];show congrArg R.ok (Lf λy _ x _=>Zw y x)
  show cP (aK (bw rfl rfl) (aK (bV (aX (aA rfl rfl (Sh {}))) rfl) (aK (bV (aX (aA rfl rfl (Sh {}))) rfl) (bh (aY (aB rfl (au (aY (au rfl) (NZ o.h2)))) e)))))
 | fla q h1=>
  rename_i s;have o2:Ok (h - 1) w (less s (tr f)):=o.turn.less h1;have e1:fQ [aQ w (h - 1) (tr (less s (tr f)))]= .ok (aQ (h - 1) w (less s (tr f))):=lq o2.turn;have e2:eY [aQ (h - 1) w (less s (tr f)),sm w s,row w λy=>tr f y (s y)]= .ok (aQ h w (tr f)):=by
   rw[mJ (s:=s) (c:=λy=>tr f y (s y)) (λy hy=>by have:=q.lt y hy;omega) o.w2 (by have:=o.h2;omega) rfl rfl,show h - 1+1=h by omega];show congrArg R.ok (Lf (Oc q.lt))
  have e3:fQ [aQ h w (tr f)]= .ok (aQ w h f):=lq o.turn;show cP (aK (bw rfl rfl) (aK (bV (aX (aA rfl rfl (Sh {}))) rfl) (jj (eX (aX (aA rfl rfl Sg)) (bh (aY (au (aY (aB (aY (au rfl) e1) (aB rfl (au rfl))) e2)) e3))))))
abbrev Pr:=Str×D×D×D×D
def stE(q:Pr):D:= .tup [.str q.1,q.2.2.2.1,q.2.2.2.2]
def JM(q:Pr):D:= .tup [.tup [.str q.1],q.2.1,q.2.2.1,stE q]
def dM(m:Str)(w h:Nat)(f:Nat->Nat->Int)(Q:List Pr):Dk:=⟨.str m,Zu w h f::Q.map JM,(Q.length:Int)⟩
inductive Hs (w h:Nat) (f:Nat->Nat->Int):List Pr->Nat->Nat->(Nat->Nat->Int)->Prop
 |nil:Hs w h f [] w h f
 |snoc {Q:List Pr} {w1 h1 w2 h2:Nat} {f1 f2:Nat->Nat->Int} {wd:Str} {S C:D} (p:Hs w h f Q w1 h1 f1) (o:Ok w1 h1 f1) (t:Zv wd w1 h1 f1 w2 h2 f2 S C):Hs w h f (Q++[(wd,aQ w2 h2 f2,aQ w2 h2 Z0,S,C)]) w2 h2 f2
section
variable{Q:List Pr}{w' h':Nat}{f':Nat->Nat->Int}
theorem Hs.last(p:Hs w h f Q w' h' f'):∃a b,(dM m w h f Q).pg[Q.length]?=some (.tup [a,aQ w' h' f',aQ w' h' Z0,b]):=by
 cases p with
 |nil=>show⟨_,_,rfl⟩
 | snoc p o t=>
  rename_i Q w1 h1 f1 wd S C;have e:(dM m w h f (Q++[(wd,aQ w' h' f',aQ w' h' Z0,S,C)])).pg[(Q++[(wd,aQ w' h' f',aQ w' h' Z0,S,C)]).length]?=some (JM (wd,aQ w' h' f',aQ w' h' Z0,S,C)):=by
   rw[z1d,agR];show (Zu w h f::(Q++[_]).map JM)[Q.length+1]?=_;rw[ai9,ahl,agu (by rw[z1g];omega),z1g,Nat.sub_self];rfl
  show⟨_,_,e⟩
theorem Lg(p:Hs w h f Q w' h' f'):gj (dM m w h f Q) []= .ok (aQ w' h' f'):=let⟨_,_,e⟩:=p.last (m:=m);V1 rfl e
theorem mY(p:Hs w h f Q w' h' f')(o:Ok w' h' f'):gQ (dM m w h f Q) []= .ok (.tup [.int w',.int h']):=
 cV (bh (aY (au (cF rfl rfl (Lg p))) (size_eq o)))
theorem acQ{a:D}{l:List D}:jk (a::l) (some 1) (some ((l.length:Int)+1))=l:=by
 unfold jk HT.sIx;simp;rw[z9n (),Nat.add_sub_cancel,akH]
theorem V4:iT (dM m w h f Q) []= .ok (.lst (Q.map JM)):=by
 show cV (bh ?_);show R.ok (D.lst (jk (Zu w h f::Q.map JM) (some 1) (some ((Q.length:Int)+1))))=_;rw[show (Q.length:Int)=((Q.map JM).length:Int) by rw[z1g],acQ]
theorem Ss(hl:Q.length<=1000):pL (dM m w h f Q) []= .ok (.lst (Q.map λq=> .tup [.str q.1])):=
 cV (bh (cJ (c:=JM) (h:=λq=> .tup [.str q.1]) (l:=Q) (m8 (cF rfl rfl V4)) () λq _=>cX rfl rfl))
theorem V5{α:Type}{g:α->D}:∀{l:List α},l.filterMap (λa=>some (g a))=l.map g
 |[]=>rfl
 |a::l=>by rw[aij,V5];rfl
theorem aa0(hl:Q.length<=1000):yQ (dM m w h f Q) []= .ok (.lst (Q.map stE)):=by
 have e:=aei (n:=4) (caps:=[]) (fi:=fY (cW iT 0 (λρ=>cD ρ 0) nA)) (gt:=dR (dU 4 (bf (aL 0) (bf (aL 1) (bf (aL 2) (bf (aL 3) nilG)))))) (ft:=bW (bin (gv 3) (λ_=> .ok .non) QL)) (fe:=λρ=>bJ ρ 3) (ρ:=bF [some (.eU (dM m w h f Q))]) (c:=JM) (o:=λq=>some (stE q)) (l:=Q) (m8 (cF rfl rfl V4)) () λq _=>acL (b:=true) rfl (aX (aA rfl rfl rfl)) rfl;rw[V5] at e;show cV (bh e)
theorem Zx(p:Hs w h f Q w' h' f')(o:Ok w' h' f'):∀{e2:Option Ent},∃z,forL (aL 2) (bC (aD (aO sI 2) (ak (gv 2) (ak (gv 1) nA))) (aL 1)) (Q.map stE).reverse [e0,vA (aQ w' h' f'),e2]= .nx [e0,vA (aQ w h f),z]:=by
 induction p with
 |nil=>show λ{e2}=>⟨e2,rfl⟩
 | snoc p o1 t ih=>
  intro e2;rename_i Q w1 h1 w2 h2 f1 f2 wd S C;let⟨z,e⟩:=ih o1 (e2:=vA (.tup [.str wd,S,C]));show⟨z,?_⟩;rw[ahl,z1h,aif,List.reverse_append,List.reverse_singleton,List.singleton_append];show kJ rfl (bw (aY (aB rfl (au rfl)) (aaZ o1 o t)) rfl) e
theorem Zy(p:Hs w h f Q w' h' f')(o:Ok w' h' f')(hl:Q.length<=1000):vU (dM m w h f Q) []= .ok (aQ w h f):=by
 let⟨z,e⟩:=Zx (e0:=some (.eU (dM m w h f Q))) p o (e2:=none);show cV (aK (bw (cF rfl rfl (Lg p)) rfl) (aK (ud (xs:=(Q.map stE).reverse) ?_ e) (bh rfl)));show ((ak _ _) _).bind Wo=_;rw[au (cF rfl rfl (aa0 hl))];rfl
theorem acR{q:Pr}:(⟨(dM m w h f Q).m,(dM m w h f Q).pg++[JM q],(dM m w h f Q).n+1⟩:Dk)=dM m w h f (Q++[q]):=by
 unfold dM;simp
theorem Lh{P' S C:D}{w2 h2:Nat}{f2:Nat->Nat->Int}(ht:RT wd=some F)(hb:IK false (.str wd) (.tup [.str "keep",.str "drop",.str "free"])= .ok (.bl false))(p:Hs w h f Q w' h' f')(hl:Q.length<=900)
  (hF:F [aQ w' h' f',aQ w' h' Z0,.str m]= .ok (.tup [aQ w2 h2 f2,aQ w2 h2 Z0,S,C]))(h3:eN S=true)(h4:eN C=true):gk (dM m w h f Q) [.tup [.str wd]]= .ok (S,dM m w h f (Q++[(wd,aQ w2 h2 f2,aQ w2 h2 Z0,S,C)])):=by
 let⟨a,b,e⟩:=p.last (m:=m);have lp:(dM m w h f Q).pg.length=Q.length+1:=by unfold dM;simp
 show acP hb ?_;rw[aaY (kk:=dM m w h f Q) ht rfl e lp.symm (by rw[lp];omega) hF Le Le h3 h4];show congrArg (λk=>R.ok (S,k)) (acR (q:=(wd,aQ w2 h2 f2,aQ w2 h2 Z0,S,C)))
theorem Sv{g:ao->So}{kk:Dk}{r:D×Dk}(e:gk kk [.tup [.str wd]]= .ok r):(mW λgh=>runM 0 (jF 0 gk 1 (ak (cU (ak (λ_=> .ok (.str wd)) nA)) nA) .rm) gh kk [])= .ok r:=
 Lb λgh=>⟨[],pR rfl (au (cO (au rfl))) e⟩
variable(hm:m= "worth"\/m= "joins")(p:Hs w h f Q w' h' f')(o:Ok w' h' f')(hl:Q.length<=900)
include hm p o hl
theorem acS(h1:1<w')(q:pN w' h' s)(e:bN (topC w' h' (tbl m w' h' f') Z0)=[wS (tbl m w' h' f') Z0 h' s]):vP (dM m w h f Q) []= .ok (sm h' s,dM m w h f (Q++[(("narrow" :Str),aQ (w' - 1) h' (less s f'),aQ (w' - 1) h' Z0,sm h' s,row h' λy=>f' y (s y))])):=
 Sv (g:=λ_=> .bad) (Lh (wd:= "narrow") (F:=jQ) (P':= .non) rfl (by simp[IK,QV,gH,je,jf,jg,jh,ji,fL,dJ];decide) p hl (xT hm o h1 q e) pU pU)
theorem acT(h1:w'<20)(q:pN w' h' s)(e:bN (topC w' h' (tbl m w' h' f') Z0)=[wS (tbl m w' h' f') Z0 h' s]):yN (dM m w h f Q) []= .ok (sm h' s,dM m w h f (Q++[(("widen" :Str),aQ (w'+1) h' (more (λy=>s y+1) (λy=>mean w' (f' y) (s y)) f'),aQ (w'+1) h' Z0,sm h' s,row h' λy=>mean w' (f' y) (s y))])):=
 Sv (g:=λ_=> .bad) (Lh (wd:= "widen") (F:=ou) (P':= .non) rfl (by simp[IK,QV,gH,je,jf,jg,jh,ji,fL,dJ];decide) p hl (Oq hm o h1 q e) pU pU)
theorem acU(h1:1<h')(q:pN h' w' s)(e:bN (topC h' w' (tbl m h' w' (tr f')) Z0)=[wS (tbl m h' w' (tr f')) Z0 w' s]):uq (dM m w h f Q) []= .ok (sm w' s,dM m w h f (Q++[(("flatten" :Str),aQ w' (h' - 1) (tr (less s (tr f'))),aQ w' (h' - 1) Z0,sm w' s,row w' λy=>tr f' y (s y))])):=
 Sv (g:=λ_=> .bad) (Lh (wd:= "flatten") (F:=lF) (P':= .non) rfl (by simp[IK,QV,gH,je,jf,jg,jh,ji,fL,dJ];decide) p hl (JL hm o h1 q e) pU pU)
end
end
section
variable{ns:List Int}{w h k:Nat}{f M:Nat->Nat->Int}{T:Nat->Nat->Nat->Int}{m:Str}{s:Nat->Nat}{ρ:ao}
section
variable{Q:List Pr}{w' h':Nat}{f':Nat->Nat->Int}{e0 e2 e3:Option Ent}{wd hi T:Int}
theorem JN{i:Int}:qz (.int i) (.int j)= .ok (.bl (decide (j<i))):=rfl
theorem Cm{i:Int}:ltI (.int i) (.int j)= .ok (.bl (decide (i<j))):=rfl
theorem Zz(p:Hs w h f Q w' h' f')(o:Ok w' h' f')(hT:T=max wd 1):ntT (bF [e0,vA (.int wd),e2,e3,some (.bU none (dM m w h f Q))])= .ok (decide (T<(w':Int))):=by
 show aX (aA (x:= .int (w':Int)) (y:= .int T) (aA (cF rfl rfl (mY p o)) rfl (dN (i:=0) rfl)) (aZ (aB rfl (au rfl)) ?_) JN);show R.ok (D.int (if (1:Int) > wd then 1 else wd))=_;congr 2;split <;> omega
theorem ZC(p:Hs w h f Q w' h' f')(o:Ok w' h' f')(hT:T=min wd 20):wtT (bF [e0,vA (.int wd),e2,e3,some (.bU none (dM m w h f Q))])= .ok (decide ((w':Int)<T)):=by
 show aX (aA (x:= .int (w':Int)) (y:= .int T) (aA (cF rfl rfl (mY p o)) rfl (dN (i:=0) rfl)) (aZ (aB rfl (au rfl)) ?_) Cm);show R.ok (D.int (if (20:Int)<wd then 20 else wd))=_;congr 2;split <;> omega
theorem ZD(p:Hs w h f Q w' h' f')(o:Ok w' h' f')(hT:T=max hi 1):ftT (bF [e0,e2,vA (.int hi),e3,some (.bU none (dM m w h f Q))])= .ok (decide (T<(h':Int))):=by
 show aX (aA (x:= .int (h':Int)) (y:= .int T) (aA (cF rfl rfl (mY p o)) rfl (dN (i:=1) rfl)) (aZ (aB rfl (au rfl)) ?_) JN);show R.ok (D.int (if (1:Int) > hi then 1 else hi))=_;congr 2;split <;> omega
theorem Hq{a:Str}{k:Nat}{l:List Str}:l++[a]++afO k a=l++afO (k+1) a:=by rw[ahi,List.singleton_append,<-ag0]
theorem Sx(hm:m= "worth"\/m= "joins")(hT:T=max wd 1):∀{k w' n:Nat} {f':Nat->Nat->Int} {Q:List Pr} {L:List vp},Go m h' k w' f' Z0 (some L)->Hs w h f Q w' h' f'->Ok w' h' f'->k=w' - T.toNat->k<n->Q.length+k<=800->
  ∃Q',fZ ntT ntB n [e0,vA (.int wd),e2,e3,some (.bU none (dM m w h f Q))]= .nx [e0,vA (.int wd),e2,e3,some (.bU none (dM m w h f Q'))]/\Hs w h f Q' (w' - k) h' (JK f' L)/\Ok (w' - k) h' (JK f' L)/\Q'.map (·.1)=Q.map (·.1)++afO k ("narrow" :Str)
 | 0,w',n,f',Q,L,g,p,o,hk,hn,hl=>by
  obtain⟨n,rfl⟩:∃j,n=j+1:=⟨n - 1,()⟩;cases agb g;show⟨Q,W2 (by rw[Zz p o hT,z9f ()]),p,o,()⟩
 | k+1,w',n,f',Q,L,g,p,o,hk,hn,hl=>by
  obtain⟨n,rfl⟩:∃j,n=j+1:=⟨n - 1,()⟩;rcases g with⟨_,_,e⟩ |⟨s,r,q,e,g,er⟩
  .cases e
  .cases r with
   |none=>cases er
   | some L'=>
    cases agb er;rw[Oa] at g;have h1:1<w':=()
    let⟨Q',e1,p1,o1,ew⟩:=Sx hm hT (k:=k) (n:=n) g (p.snoc o (.nar q.sm h1)) (o.less h1) () () (by rw[z1d,agR];omega);show⟨Q',R9 (by rw[Zz p o hT,z9t ()]) (pR rfl rfl (acS hm p o () h1 q.sm e)) e1,?_,?_,?_⟩
    .rw[show w' - (k+1)=w' - 1 - k by omega];show p1
    .rw[show w' - (k+1)=w' - 1 - k by omega];show o1
    .rw[ew,ahl];show Hq
theorem Sy(hm:m= "worth"\/m= "joins")(hT:T=min wd 20):∀{k w' n:Nat} {f':Nat->Nat->Int} {Q:List Pr},Hs w h f Q w' h' f'->Ok w' h' f'->k=(T - (w':Int)).toNat->k<n->Q.length+k<=800->
  ∃Q' f2,fZ wtT wtB n [e0,vA (.int wd),e2,e3,some (.bU none (dM m w h f Q))]= .nx [e0,vA (.int wd),e2,e3,some (.bU none (dM m w h f Q'))]/\Hs w h f Q' (w'+k) h' f2/\Ok (w'+k) h' f2/\Q'.map (·.1)=Q.map (·.1)++afO k ("widen" :Str)/\(k=0->f2=f')
 | 0,w',n,f',Q,p,o,hk,hn,hl=>by
  obtain⟨n,rfl⟩:∃j,n=j+1:=⟨n - 1,()⟩;show⟨Q,f',W2 (by rw[ZC p o hT,z9f ()]),p,o,(),λ_=>rfl⟩
 | k+1,w',n,f',Q,p,o,hk,hn,hl=>by
  obtain⟨n,rfl⟩:∃j,n=j+1:=⟨n - 1,()⟩;let⟨s,q,e⟩:=V2 (m:=m) o;have h1:w'<20:=()
  have hc:∀y<h',0<=mean w' (f' y) (s y)/\mean w' (f' y) (s y)<=99:=λy hy=>acA o hy (q.sm.lt y hy);let⟨Q',f2,e1,p1,o1,ew,_⟩:=Sy hm hT (k:=k) (n:=n) (p.snoc o (.wid (c:=λy=>mean w' (f' y) (s y)) q.sm h1)) (o.more h1 (λy hy=>q.sm.lt y hy) hc) () () (by rw[z1d,agR];omega);show⟨Q',f2,R9 (by rw[ZC p o hT,z9t ()]) (pR rfl rfl (acT hm p o () h1 q.sm e)) e1,?_,?_,?_,λz=>()⟩
  .rw[show w'+(k+1)=w'+1+k by omega];show p1
  .rw[show w'+(k+1)=w'+1+k by omega];show o1
  .rw[ew,ahl];show Hq
theorem SJ(hm:m= "worth"\/m= "joins")(hT:T=max hi 1):∀{k h' n:Nat} {f':Nat->Nat->Int} {Q:List Pr},Hs w h f Q w' h' f'->Ok w' h' f'->k=h' - T.toNat->k<n->Q.length+k<=800->
  ∃Q' f2,fZ ftT ftB n [e0,e2,vA (.int hi),e3,some (.bU none (dM m w h f Q))]= .nx [e0,e2,vA (.int hi),e3,some (.bU none (dM m w h f Q'))]/\Hs w h f Q' w' (h' - k) f2/\Ok w' (h' - k) f2/\Q'.map (·.1)=Q.map (·.1)++afO k ("flatten" :Str)/\(k=0->f2=f')
 | 0,h',n,f',Q,p,o,hk,hn,hl=>by
  obtain⟨n,rfl⟩:∃j,n=j+1:=⟨n - 1,()⟩;show⟨Q,f',W2 (by rw[ZD p o hT,z9f ()]),p,o,(),λ_=>rfl⟩
 | k+1,h',n,f',Q,p,o,hk,hn,hl=>by
  obtain⟨n,rfl⟩:∃j,n=j+1:=⟨n - 1,()⟩;let⟨s,q,e⟩:=V2 (m:=m) o.turn;have h1:1<h':=()
  have o2:Ok w' (h' - 1) (tr (less s (tr f'))):=(o.turn.less h1).turn;let⟨Q',f2,e1,p1,o1,ew,_⟩:=SJ hm hT (k:=k) (n:=n) (p.snoc o (.fla q.sm h1)) o2 () () (by rw[z1d,agR];omega);show⟨Q',f2,R9 (by rw[ZD p o hT,z9t ()]) (pR rfl rfl (acU hm p o () h1 q.sm e)) e1,?_,?_,?_,λz=>()⟩
  .rw[show h' - (k+1)=h' - 1 - k by omega];show p1
  .rw[show h' - (k+1)=h' - 1 - k by omega];show o1
  .rw[ew,ahl];show Hq
theorem acV(hm:m= "worth"\/m= "joins")(o:Ok w h f):cQ [aQ w h f,.str m]= .ok (dM m w h f []):=by
 unfold cQ Fj
 dsimp only
 rw[qL (au rfl) (Fp o),R.aR,qL (au rfl) (xR hm),R.aR];rw[show (zU (bJ (none::([aQ w h f,.str m].map (λd=>some (Ent.val d))++afO 0 none)) 2))= .ok (.str m) from rfl,R.aR];rw[au (cO (aB rfl (aB rfl (aB (aY (au rfl) (Gh o)) (au rfl)))))];rfl
theorem acW{u:ao->R Dk}{kk:Dk}(e:u ρ= .ok kk)(h1:eN kk.m=true)(h2:cY kk.pg=true):sE i u ρ= .nx (ρ.set i (some (.bU none kk))):=by
 unfold sE;rw[e];show (if _ then So.nx _ else .bad)=_;rw[z9p ⟨h1,h2⟩]
theorem yU{F:List D->R Dk}{n j:Nat}{sel:List (Sum Nat D)}{fk:ao->R (List D)}{zs:List D}{r:R Dk}(e1:fa ρ= .ok ds)(e2:fk ρ= .ok zs)(e3:F (ds++pickK .non sel zs)=r)(hl:(ds++pickK .non sel zs).length=n:=by rfl)(hz:zs.length=j:=by rfl):gb F n j sel fa fk ρ=r:=by
 unfold gb;rw[e1,R.aR,e2,R.aR,z9p hz,okN,z9p hl,e3]
theorem abD{i:Int}:gP (.int i) (.int i)= .ok (.bl true):=by rw[gP,z9p (by simp[dep])];simp[je,jf,jg,jh,ji,fL,dJ]
theorem Cp{L:List vp}(hm:m= "worth"\/m= "joins")(o:Ok w h f)(g:Go m h (w - (max wd 1).toNat) w f Z0 (some L)):
  ∃Q w2 h2 f2,jG [aQ w h f,.int wd,.int hi,.str m]= .ok (dM m w h f Q)/\Hs w h f Q w2 h2 f2/\Ok w2 h2 f2/\Q.length<=100/\∃k1 k2 k3,k1=w - (max wd 1).toNat/\k2=(min wd 20 - ((w - k1:Nat):Int)).toNat/\w2=w - k1+k2/\h2=h - k3/\(((w2:Nat):Int)=wd->k3=h - (max hi 1).toNat)/\(((w2:Nat):Int)≠wd->k3=0)/\
   Q.map (·.1)=afO k1 ("narrow" :Str)++afO k2 ("widen" :Str)++afO k3 ("flatten" :Str)/\(k2=0->k3=0->f2=JK f L):=by
 have w20:=o.w2;have Gg:=o.h2;let⟨Q1,e1,p1,o1,ew1⟩:=Sx (h':=h) (e0:=vA (aQ w h f)) (e2:=vA (.int hi)) (e3:=vA (.str m)) (n:=64) hm rfl g .nil o rfl () (by rw[ahk];omega);have l1:Q1.length=w - (max wd 1).toNat:=by have:=congrArg aiP ew1;simpa using this
 have w21:=o1.w2;let⟨Q2,f2,e2,p2,o2,ew2,c2⟩:=Sy (e0:=vA (aQ w h f)) (e2:=vA (.int hi)) (e3:=vA (.str m)) (n:=64) hm (wd:=wd) rfl p1 o1 rfl () ();have l2:Q2.length=Q1.length+(min wd 20 - ((w - (w - (max wd 1).toNat):Nat):Int)).toNat:=by have:=congrArg aiP ew2;simpa using this
 have em:(sE 4 (gb cQ 2 1 [.inl 0] (ak (gv 0) nA) (ak (gv 3) nA))) [vA (aQ w h f),vA (.int wd),vA (.int hi),vA (.str m),none]= .nx [vA (aQ w h f),vA (.int wd),vA (.int hi),vA (.str m),some (.bU none (dM m w h f []))]:=
  acW (yU (au rfl) (au rfl) (acV hm o)) rfl (by show cY [Zu w h f]=true;simp only[cY,Zu,eN,Le,ak7])
 by_cases c:((w - (w - (max wd 1).toNat)+(min wd 20 - ((w - (w - (max wd 1).toNat):Nat):Int)).toNat:Nat):Int)=wd
 .let⟨Q3,f3,e3,p3,o3,ew3,c3⟩:=SJ (hi:=hi) (e0:=vA (aQ w h f)) (e2:=vA (.int wd)) (e3:=vA (.str m)) (n:=64) hm rfl p2 o2 rfl () ();have l3:Q3.length=Q2.length+(h - (max hi 1).toNat):=by have:=congrArg aiP ew3;simpa using this
  have l4:=o2.w2;show⟨Q3,_,_,f3,?_,p3,o3,(),_,_,_,rfl,rfl,rfl,rfl,λ_=>rfl,λz=>absurd c z,by rw[ew3,ew2,ew1];simp,λz1 z2=>by rw[c3 z2,c2 z1]⟩;show yK 1 lg _=_;unfold yK;rw[show lg ((List.map Ent.val [aQ w h f,.int wd,.int hi,.str m]).map some++afO 1 none)= .rk (dM m w h f Q3) from ?_];show aK em (aK e1 (aK e2 (aK (eX (aX (aA (aA (cF rfl rfl (mY p2 o2)) rfl (dN (i:=0) rfl)) rfl (by rw[c];show abD))) e3) rfl)))
 .have l4:=o2.w2;show⟨Q2,_,h,f2,?_,p2,o2,(),_,_,0,rfl,rfl,rfl,rfl,λz=>absurd z c,λ_=>rfl,by rw[ew2,ew1];simp,λz1 _=>c2 z1⟩;show yK 1 lg _=_;unfold yK;rw[show lg ((List.map Ent.val [aQ w h f,.int wd,.int hi,.str m]).map some++afO 1 none)= .rk (dM m w h f Q2) from ?_];show aK em (aK e1 (aK e2 (aK (bV (aX (aA (aA (cF rfl rfl (mY p2 o2)) rfl (dN (i:=0) rfl)) rfl (Qs c))) rfl) rfl)))
end
end
section
variable{ns:List Int}{w h k:Nat}{f M:Nat->Nat->Int}{T:Nat->Nat->Nat->Int}{m:Str}{s:Nat->Nat}{ρ:ao}
theorem aa1{d:D}{k:Nat}:(afO k [d]).flatten=afO k d:=by
 induction k with
 |zero=>rfl
 |succ k ih=>rw[ag0,ahr,ih];rfl
theorem V6{d:D}{k:Nat}(h:k<=1000):RK (.lst [d]) (.int (k:Int))= .ok (.lst (afO k d)):=by
 rw[RK,z9p ⟨(),(),by simp;omega⟩,ahs,aa1]
theorem acX{Q:List Pr}:dep (.lst (Q.map λq=> .tup [.str q.1]))<=40:=by
 rw[dep];have:=Sd (l:=Q.map λq=>D.tup [.str q.1]) (n:=1) λd hd=>by
  let⟨q,_,rfl⟩:=agV.mp hd;simp[dep,deps]
 omega
theorem aa2{l:List Str}:dep (.lst (l.map .str))<=40:=by
 rw[dep];have:=Sd (l:=l.map D.str) (n:=0) λd hd=>by
  let⟨q,_,rfl⟩:=agV.mp hd;simp[dep]
 omega
theorem aek{Q:List Pr}(hl:Q.length<=1000):vR (dM m w h f Q) (dM m w h f Q)= .ok (.bl true):=by
 have eb:oA (dM m w h f Q) []= .ok (aQ w h f):=acO rfl;show cV (aK (bV (lR (b:=true) (aX (oH rfl))) rfl) (bh (Ba (aA (cF rfl rfl eb) (cF rfl rfl eb) (yD rfl K1)) (Ba (aA (oH rfl) (oH rfl) Sg) (aA (cF rfl rfl (Ss hl)) (cF rfl rfl (Ss hl)) (yD rfl acX))))))
theorem acY{u v:ao->R Dk}{F:Dk->Dk->R D}{k l:Dk}{b:Bool}(e1:u ρ= .ok k)(e2:v ρ= .ok l)(e3:F k l= .ok (.bl b)):RJ F u v ρ= .ok (.bl (!b)):=by
 unfold RJ;rw[e1,R.aR,e2,R.aR,e3];rfl
theorem acZ{u:ao->R Dk}{k:Dk}(e:u ρ= .ok k):Rx u i ρ= .nx (ρ.set i (some (.eU k))):=by unfold Rx;rw[e];rfl
theorem ac0{P:D}{c:Str}{a b:Int}(e:cQ [P,.str m]= .err c):jG [P,.int a,.int b,.str m]= .err c:=by
 show yK 1 lg _=_;unfold yK;have em:(sE 4 (gb cQ 2 1 [.inl 0] (ak (gv 0) nA) (ak (gv 3) nA))) [vA P,vA (.int a),vA (.int b),vA (.str m),none]= .ex c [vA P,vA (.int a),vA (.int b),vA (.str m),none]:=by
  unfold sE;rw[yU (au rfl) (au rfl) e];rfl
 rw[show lg ((List.map Ent.val [P,.int a,.int b,.str m]).map some++afO 1 none)= .ex c [vA P,vA (.int a),vA (.int b),vA (.str m),none] from ?_];show aN _ _ [vA P,vA (.int a),vA (.int b),vA (.str m),none]=_;rw[aN,em]
theorem abE{P:D}{c:Str}(e:cQ [P,.str "plain"]= .err c)(h1:iB c "SeamError" =true)(h2:iB c c=true):nH [P,.str "plain"]= .ok (.lst [.bl (iB c "NoPicture"),.bl (iB c "NoManner")]):=by
 have ek:(Jl (gb jG 4 1 [.inl 0] (ak (gv 0) (ak (ci 3) (ak (ci 3) nA))) (ak (gv 1) nA))) [vA P,vA (.str "plain"),none]= .ex c [vA P,vA (.str "plain"),none]:=by
  unfold Jl;rw[yU (aB rfl (aB rfl (au rfl))) (au rfl) (ac0 e)];rfl
 show cV (jj (adI ek h1 (bh (iw (aB (Rb rfl h2) (au (Rb rfl h2)))))))
theorem aa3:cQ [.tup [.tup [.int 100]],.str "plain"]= .err "NoPicture" :=by
 unfold cQ Fj
 dsimp only
 rw[qL (r:= .err "NoPicture") (au rfl) rfl];rfl
theorem aa4(o:Ok w h f):cQ [aQ w h f,.str "plain"]= .err "NoManner" :=by
 unfold cQ Fj
 dsimp only
 rw[qL (au rfl) (Fp o),R.aR,qL (r:= .err "NoManner") (au rfl) rfl];rfl
theorem max_eq{a:Int}:maxD [.int 1,.int a]= .ok (.int (max 1 a)):=by
 show R.ok (D.int (if a > 1 then a else 1))=_;congr 2;split <;> omega
theorem min_eq{a b:Int}:minD [.int a,.int b]= .ok (.int (min a b)):=by
 show R.ok (D.int (if b<a then b else a))=_;congr 2;split <;> omega
section
variable{Q:List Pr}{w2 h2:Nat}{f2:Nat->Nat->Int}{S:Option Ent}{t lo due:Int}{x9 x10 x11:Option Ent}
abbrev Ah(S:Option Ent)(m:Str)(w h:Nat)(f:Nat->Nat->Int)(t lo due:Int)(Q:List Pr)(x9 x10 x11:Option Ent):ao:=[S,vA (aQ w h f),vA (.str m),vA (.int (w:Int)),vA (.int (h:Int)),vA (.int t),vA (.int lo),some (.eU (dM m w h f Q)),vA (.int due),x9,x10,x11]
theorem ael(p:Hs w h f Q w2 h2 f2)(o2:Ok w2 h2 f2)(q1:t<1->w2=1/\h2=h)(q2:20<t->w2=20/\h2=h)(q3:¬t<1->¬20<t->(w2:Int)=due/\(h2:Int)=min (h:Int) (max 1 lo)):lw7 (Ah S m w h f t lo due Q x9 x10 x11)= .nx (Ah S m w h f t lo due Q x9 x10 x11):=by
 have es:=mY (m:=m) p o2;by_cases z1:t<1
 .let⟨rfl,rfl⟩:=q1 z1;show eX (aX (aA rfl rfl (by rw[Cm,z9t z1]))) (bV (aX (aA (cF rfl rfl es) (cO (aB rfl (au rfl))) (Pu.mV rfl (by simp[dep,deps])))) rfl)
 .show bV (aX (aA rfl rfl (by rw[Cm,z9f z1]))) ?_;by_cases z2:20<t
  .let⟨rfl,rfl⟩:=q2 z2;show eX (aX (aA rfl rfl (by rw[JN,z9t z2]))) (bV (aX (aA (cF rfl rfl es) (cO (aB rfl (au rfl))) (Pu.mV rfl (by simp[dep,deps])))) rfl)
  .let⟨y1,y2⟩:=q3 z1 z2;show bV (aX (aA rfl rfl (by rw[JN,z9f z2]))) (bV (aX (aA (cF rfl rfl es) (cO (aB rfl (au (aZ (aB rfl (au (aZ (aB rfl (au rfl)) max_eq))) min_eq)))) (Pu.mV (by rw[y1,y2]) (by simp[dep,deps])))) rfl)
theorem aa5(lQ:Q.length<=100):bY 1 [] (fY (cW pL 0 (λρ=>cD ρ 7) nA)) (aL 0) tT (bin (gv 0) (ci 0) bQ) (Ah S m w h f t lo due Q x9 x10 x11)= .ok (.lst ((Q.map (·.1)).map .str)):=by
 rw[agP];show cJ (c:=λq:Pr=> .tup [.str q.1]) (h:=λq:Pr=> .str q.1) (l:=Q) (m8 (cF rfl rfl (Ss ()))) () λq _=>cX rfl (aA rfl rfl (dN (i:=0) rfl))
theorem aem:lw9 (Ah S m w h f t lo due Q x9 x10 x11)= .ok (.str (if due<(w:Int) then "narrow" else "widen")):=by
 by_cases z:due<(w:Int)
 .rw[z9p z];show VG (aX (aA rfl rfl (by rw[Cm,z9t z]))) rfl
 .rw[z9n z];show VH (aX (aA rfl rfl (by rw[Cm,z9f z]))) rfl
theorem ac1{col:Str}{k3:Nat}(p:Hs w h f Q w2 h2 f2)(o2:Ok w2 h2 f2)(eC:Q.map (·.1)=afO (due - (w:Int)).natAbs col++afO k3 ("flatten" :Str))(lQ:Q.length<=100)(eh:(h:Int) - (h2:Int)=(k3:Int)):
  ad2 (Ah S m w h f t lo due Q (vA (.lst ((Q.map (·.1)).map .str))) (vA (.str col)) x11)= .nx (Ah S m w h f t lo due Q (vA (.lst ((Q.map (·.1)).map .str))) (vA (.str col)) x11):=by
 have hl:Q.length=(due - (w:Int)).natAbs+k3:=by have:=congrArg aiP eC;simpa using this
 have eab:yF [.int (due - (w:Int))]= .ok (.int ((due - (w:Int)).natAbs:Int)):=by
  show R.ok (D.int (if due - (w:Int)<0 then -(due - (w:Int)) else due - (w:Int)))=_;congr 2;split <;> omega
 show bV (aX (aA rfl (aA (aA (iw (au rfl)) (aZ (au (aA rfl rfl rfl)) eab) (V6 ())) (aA (y:= .int (k3:Int)) (iw (au rfl)) (aA rfl (aA (cF rfl rfl (mY p o2)) rfl (dN (i:=1) rfl)) (by rw[<-eh];rfl)) (V6 ())) (acy ())) (Pu.mV ?_ aa2))) rfl;rw[eC,ahl,List.map_replicate,List.map_replicate]
theorem ac2(p:Hs w h f Q w2 h2 f2)(o2:Ok w2 h2 f2)(lQ:Q.length<=100):ad3 (Ah S m w h f t lo due Q x9 x10 x11)= .nx (Ah S m w h f t lo due Q x9 x10 x11):=
 bV (aX (aA (cF rfl rfl (Zy p o2 ())) rfl (Pu.mV rfl K1))) rfl
theorem ac3(o:Ok w h f):ad4 (Ah S m w h f t lo due Q x9 x10 x11)= .nx (Ah S m w h f t lo due Q x9 x10 x11):=by
 let⟨Qe,w4,h4,f4,eE,_,_,lE,_⟩:=Cp (m:= "worth") (wd:=(w:Int)) (hi:=(h:Int)) (L:=[]) (.inl rfl) o (by rw[show w - (max (w:Int) 1).toNat=0 by omega];show rfl);show bV (aX (acY (b:=true) (yU (aB rfl (aB rfl (au rfl))) rfl eE) (yU (aB rfl (aB rfl (au rfl))) (au rfl) eE) (aek ()))) rfl
theorem ac4(hm:m= "worth"\/m= "joins")(o:Ok w h f)(d1:1<=due)(d20:due<=20):ad5 (Ah S m w h f t lo due Q x9 x10 x11)= .nx (Ah S m w h f t lo due Q x9 x10 x11):=by
 have h1:=o.h1;by_cases z:due<=(w:Int)
 .let⟨lw,rfl⟩:=ag5 (show 0<=due by omega);let⟨r5,g5⟩:=W3 (m:=m) h1 (k:=w - lw) (w:=w) (f:=f) (M:=Z0);let⟨L5,rfl⟩:=La () (λ_ _ _ _=>by show (0:Int)≠1;decide) g5;let⟨Q5,w5,h5,f5,eF5,p5,o5,_,j1,j2,j3,ej1,ej2,ew5,eh5,d3a,d3b,_,ef5⟩:=Cp (wd:=(lw:Int)) (hi:=(h:Int)) hm o (by rw[show w - (max (lw:Int) 1).toNat=w - lw by omega];show g5);have en:=Ue hm o (Zg o) (show 1<=lw by omega) () g5;show eX (aX (aA rfl rfl (by show R.ok (D.bl (decide ((lw:Int)<=(w:Int))))=_;rw[z9t z]))) (bV (aX (aA (cF (yU (aB rfl (aB rfl (au rfl))) (au rfl) eF5) rfl (Lg p5)) (aaR (aB rfl (au rfl)) (au rfl) en) (Pu.mV ?_ K1))) rfl);show aQ w5 h5 f5=aQ lw h (JK f L5);have q3:=d3a ();rw[ef5 () (),show w5=lw by omega,show h5=h by omega]
 .show bV (aX (aA rfl rfl (by show R.ok (D.bl (decide (due<=(w:Int))))=_;rw[z9f z]))) rfl
end
theorem ac5(o:Ok w h f)(e:(gv 1) ρ= .ok (aQ w h f)):jZ (ak (aD (aO nH 2) (ak (cU (ak (cU (ak (ci 100) nA)) nA)) (ak (λ_=> .ok (.str "plain")) nA))) (ak (aD (aO nH 2) (ak (gv 1) (ak (λ_=> .ok (.str "plain")) nA))) nA)) ρ= .ok (.lst [.lst [.bl true,.bl false],.lst [.bl false,.bl true]]):=
 iw (aB (aY (aB (cO (au (cO (au rfl)))) (au rfl)) (abE aa3 rfl rfl)) (au (aY (aB e (au rfl)) (abE (aa4 o) rfl rfl))))
end
section
variable{ns:List Int}{w h k:Nat}{f M:Nat->Nat->Int}{T:Nat->Nat->Nat->Int}{m:Str}{s:Nat->Nat}{ρ:ao}
theorem aa6(ns:List Int)(hns:ns.length<=63):JB [.lst (ns.map .int)]= .ok (.bl true):=by
 have hn:ns.length<=1000000:=()
 let⟨w,h,f,e1,o,hw,hh⟩:=aej (ns:=ns) hn;let⟨m,hm,e3⟩:=Zn (ns:=ns) hn;have w1:=o.w1;have h1:=o.h1;let⟨a1,a2,a3⟩:=su (k:=61) (m:=12) hn () ();let⟨b1,b2,b3⟩:=su (k:=62) (m:=9) hn () ();let⟨c1,c2,c3⟩:=su (k:=63) (m:=14) hn () ()
 generalize dr ns 61 12=va at a1 a2 a3
 generalize dr ns 62 9=vb at b1 b2 b3
 generalize dr ns 63 14=vc at c1 c2 c3
 obtain⟨t,ht1,ht2,s4⟩:∃t:Int,-1<=t/\(t<=10\/t=25)/\lw4 [vA (.lst (ns.map .int)),vA (aQ w h f),vA (.str m),vA (.int (w:Int)),vA (.int (h:Int)),vA (.int (va - 1)),vA (.int (vb - 1)),none,none,none,none,none]= .nx [vA (.lst (ns.map .int)),vA (aQ w h f),vA (.str m),vA (.int (w:Int)),vA (.int (h:Int)),vA (.int t),vA (.int (vb - 1)),none,none,none,none,none]:=by
  by_cases z:vc=0
  .show⟨25,(),.inr rfl,eX (aX (aA (aY (aB rfl (aB rfl (au rfl))) c1) rfl (by rw[z];show abD))) rfl⟩
  .show⟨va - 1,(),.inl (),bV (aX (aA (aY (aB rfl (aB rfl (au rfl))) c1) rfl (Qs z))) rfl⟩
 let⟨r0,g0⟩:=W3 (m:=m) h1 (k:=w - (max t 1).toNat) (w:=w) (f:=f) (M:=Z0);let⟨L,rfl⟩:=La () (λ_ _ _ _=>by show (0:Int)≠1;decide) g0;let⟨Q,w2,h2,f2,eF,p,o2,lQ,k1,k2,k3,ek1,ek2,ew2,eh2,c3a,c3b,eW,_⟩:=Cp (wd:=t) (hi:=vb - 1) hm o g0;obtain⟨due,eD⟩:∃due,max 1 (min 20 t)=due:=⟨_,rfl⟩;have eC:Q.map (·.1)=afO (due - (w:Int)).natAbs (if due<(w:Int) then ("narrow" :Str) else "widen")++afO k3 ("flatten" :Str):=by
  by_cases z:due<(w:Int)
  .rw[eW,z9p z,show k2=0 by omega,show k1=(due - (w:Int)).natAbs by omega];simp
  .rw[eW,z9n z,show k1=0 by omega,show k2=(due - (w:Int)).natAbs by omega];simp
 have k3h:k3<=h:=by
  by_cases z:(w2:Int)=t
  .have:=c3a z;omega
  .have:=c3b z;omega
 have s7:=ael (m:=m) (S:=vA (.lst (ns.map .int))) (t:=t) (lo:=vb - 1) (due:=due) (x9:=none) (x10:=none) (x11:=none) p o2 (λz=>⟨(),by have:=c3b ();omega⟩) (λz=>⟨(),by have:=c3b ();omega⟩) (λz1 z2=>⟨(),by have:=c3a ();omega⟩);have hd:aD maxD (ak (ci 1) (ak (aD minD (ak (ci 20) (ak (gv 5) nA))) nA)) [vA (.lst (ns.map .int)),vA (aQ w h f),vA (.str m),vA (.int (w:Int)),vA (.int (h:Int)),vA (.int t),vA (.int (vb - 1)),some (.eU (dM m w h f Q)),none,none,none,none]= .ok (.int due):=by
  rw[<-eD];show aZ (aB rfl (au (aZ (aB rfl (au rfl)) min_eq))) max_eq
 show cV (aK (wW (aY (aB rfl (aB rfl (aB rfl (au rfl)))) e1) (aY (aB rfl (au rfl)) e3)) ?_);show aK (bw (aY (au rfl) (size_eq o)) rfl) ?_;show aK (wW (aA (aY (aB rfl (aB rfl (au rfl))) a1) rfl rfl) (aA (aY (aB rfl (aB rfl (au rfl))) b1) rfl rfl)) ?_;show aK s4 ?_;show aK (acZ (yU (aB rfl (aB rfl (au rfl))) (au rfl) eF)) ?_;show aK (bw hd rfl) ?_;show aK s7 ?_;show aK (bw (aa5 lQ) rfl) ?_;show aK (bw aem rfl) ?_;show aK (ac1 p o2 eC lQ ()) ?_;show aK (ac2 p o2 lQ) ?_;show aK (ac3 o) ?_;show aK (ac4 hm o () ()) ?_;show aK (bw (ac5 o rfl) rfl) ?_;show bh (aA rfl (iw (aB (iw (aB rfl (au rfl))) (au (iw (aB rfl (au rfl)))))) (yD rfl (by simp[dep,deps])))
end
end xr
namespace xr
open PySem PySem.Spec L2 Pu
open PyProof.Rows hiding St
variable{f:afK}{F:agx}{outer:List agA}{ps N:List Str}{us:List afL}{n:Nat}{K:afM}{g:ao->So}{st:af7}{x:Str}{mg:Str->Option afL}{cdv:afL}
def DX(K:afM)(x:Str)(st:af7):Prop:=∃f fd,Fun K x x st f fd/\afW K afU x=some (some (.ref f))
theorem ae6{oc:afL}{od an:Option afK}{osl:Array (Option afL)}{kV doc pm ct:afL}(a:afW K afU x=some (some (.ref f)))(l:K.lookup f=some ⟨oc,od,.func (agy x x (defArgs st) (defBody st) (defScope st) .none kV doc pm an cdv ct),osl⟩)
  (c:ahd K cdv x=true)(k:agg K (.ref f)=true):DX K x st:=⟨f,_,fun_mk l c k,a⟩
def DY(K:afM)(mg:Str->Option afL)(x:Str)(st:af7)(ps:List Str):Prop:=∃f fd,Fun K x x st f fd/\mg x=some (.ref f)/\Binds K fd ps []
theorem dy{h:af2}(X:K.In h)(G:h.Ns afU mg)(q:DX K x st)
  (b:∀(kV doc pm:afL) (an:Option afK) (cdv ct:afL) (us:List afL),us.length=ps.length->ah1 (agy x x (defArgs st) (defBody st) (defScope st) .none kV doc pm an cdv ct) ⟨us,[]⟩=pure (ps.zip us)):DY K mg x st ps:=
 let⟨f,fd,u,a⟩:=q;⟨f,fd,u,agq X G a,u.binds b⟩
section
variable{P:afZ}{w:af4}{K:afM}{mg:Str->Option afL}{base:af2}
theorem gR{k m:Nat}(q:DY K mg x st ps)(S:FnScope N ps (defScope st))(hn:ps.length=n)(hm:N.length=n+m)
  (hb:∀{f:afK} (cdv:afL) (A:af5) (outer:List agA) (s:afN) (H:Hp) (E:XK),Room k (A.deeper (ag9 x (defScope st) s.heap.objs.size f cdv))->iG (cxOf CX0 P w K mg base N x (defScope st) f cdv A outer s H E).nox (defBody st) g):fV P w K mg base (k+1) x n (cj m g):=
 let⟨_,_,Fn,hmg,b⟩:=q;ady Fn hmg b S hn hm hb
def mK(P:afZ)(w:af4)(K:afM)(mg:Str->Option afL)(base:af2)(k:Nat)(x:Str)(n:Nat)(F:List D->R D)(ps:List Str)(ts:List (afK×Str)):Prop:=∃fd,Bm P w K mg base k x n F fd ps ts/\Binds K fd ps []
theorem yV{k m:Nat}{ts:List (afK×Str)}(q:DY K mg x st ps)(S:FnScope N ps (defScope st))(hn:ps.length=n)(hm:N.length=n+m)
  (hb:∀{f:afK} (cdv:afL) (A:af5) (outer:List agA) (s:afN) (H:Hp) (E:XK),True->Room k (A.deeper (ag9 x (defScope st) s.heap.objs.size f cdv))->Tb ts H->iG (cxOf CX0 P w K mg base N x (defScope st) f cdv A outer s H E).nox (defBody st) g):mK P w K mg base (k+1) x n (λds=>cZ m g (ds.map .val)) ps ts:=
 let⟨f,fd,Fn,hmg,b⟩:=q;⟨fd,⟨f,fnT Fn S hn hm λcdv A outer s H E _=>hb cdv A outer s H E trivial,hmg,Fn.kp⟩,b⟩
end
section
variable{X:Cx}{k m n:Nat}{ps:List Str}{F:List D->R D}{x:Str}{p pos:Pos}{e:afV}{es:List afV}{fa:ao->R (List D)}{ts:List (afK×Str)}
theorem jo(G:mK X.prog X.w X.K X.mg X.base k x n F ps ts)(hT:Tb ts X.H₀)(hr:Room m X.A)(hkm:k<=m)(ha:DA X (e::es) fa)(hg:Gl X x:=by rfl)
  (hdb:(x ==("__debug__" :Str))=false:=by decide)(he:afP (e::es) X.env=(false,eval e X.env)::afP es X.env:=by rfl)(hpl:(ago pos (afP es X.env)).any (·.1)=false:=by rfl):
  DE X (.Call (.Name x p) (e::es) [] pos) (aD (aO F n) fa):=let⟨_,g,b⟩:=G;adP g hT hr hkm b ha hg hdb he hpl
end
def DN(K:afM)(C:afK)(x q:Str)(st:af7):Prop:=∃f fd,Fun K x q st f fd/\Meth K C x f
theorem ae7{C:afK}{q:Str}{oc kV doc pm ct:afL}{od an:Option afK}{osl:Array (Option afL)}(a:af8 K (.ref C) x=some (some (.ref f)))(i:aiZ K (.ref f)=true)(l:K.lookup f=some ⟨oc,od,.func (agy x q (defArgs st) (defBody st) (defScope st) .none kV doc pm an cdv ct),osl⟩)(c:ahd K cdv q=true)(p:agg K (.ref f)=true):DN K C x q st:=⟨f,_,fun_mk l c p,a,i,p⟩
def DM(K:afM)(C:afK)(x q:Str)(st:af7)(ps:List Str):Prop:=∃f fd,Fun K x q st f fd/\Meth K C x f/\Binds K fd ps []
theorem dm{C:afK}{q:Str}(h:DN K C x q st)
  (b:∀(kV doc pm:afL) (an:Option afK) (cdv ct:afL) (us:List afL),us.length=ps.length->ah1 (agy x q (defArgs st) (defBody st) (defScope st) .none kV doc pm an cdv ct) ⟨us,[]⟩=pure (ps.zip us)):DM K C x q st ps:=
 let⟨f,fd,u,a⟩:=h;⟨f,fd,u,a,u.binds b⟩
def DQ(w:af4)(K:afM)(mg:Str->Option afL):Prop:=∃(dA f0 f1 f2:afK) (h0 h1 h2:Int) (t0 t1 t2:Tok) (ep:Nat),K.lookup dA=some ⟨.type "dict",none,.dict #[⟨h0,.str "narrow" t0,.ref f0⟩,⟨h1,.str "flatten" t1,.ref f1⟩,⟨h2,.str "widen" t2,.ref f2⟩] ep,#[]⟩/\h0=keyH w (.inr "narrow")/\h1=keyH w (.inr "flatten")/\h2=keyH w (.inr "widen")/\mg "narrow_once" =some (.ref f0)/\mg "flatten_once" =some (.ref f1)/\mg "widen_once" =some (.ref f2)/\mg "SEAM_DEEDS" =some (.ref dA)
theorem aen{P:afZ}{w:af4}{base:af2}{k m:Nat}(q:DY K mg x st ps)(S:FnScope N ps (defScope st))(hn:ps.length=n)(hm:N.length=n+m)
  (hb:∀{f:afK} (cdv:afL) (A:af5) (outer:List agA) (s:afN) (H:Hp) (E:XK),Room k (A.deeper (ag9 x (defScope st) s.heap.objs.size f cdv))->iG (cxOf (rW P w) P w K mg base N x (defScope st) f cdv A outer s H E) (defBody st) g):Yy P w K mg base (k+1) x n (cj m g):=
 let⟨_,_,Fn,hmg,b⟩:=q;adJ Fn hmg b S hn hm hb
theorem Gi(hl:us.length=n+1):∃a u,us=a::u/\u.length=n:=by
 cases us with
 |nil=>cases hl
 |cons a u=>show⟨a,u,rfl,Nat.succ.inj hl⟩
theorem jR(hl:us.length=1)(h:∀a0,ah1 F ⟨[a0],[]⟩=pure (ps.zip [a0])):ah1 F ⟨us,[]⟩=pure (ps.zip us):=by
 let⟨a0,u1,rfl,h1⟩:=Gi hl;cases agE h1;show h a0
theorem nJ(hl:us.length=2)(h:∀a0 a1,ah1 F ⟨[a0,a1],[]⟩=pure (ps.zip [a0,a1])):ah1 F ⟨us,[]⟩=pure (ps.zip us):=by
 let⟨a0,u1,rfl,h1⟩:=Gi hl;let⟨a1,u2,rfl,h2⟩:=Gi h1;cases agE h2;show h a0 a1
theorem Cq(hl:us.length=3)(h:∀a0 a1 a2,ah1 F ⟨[a0,a1,a2],[]⟩=pure (ps.zip [a0,a1,a2])):ah1 F ⟨us,[]⟩=pure (ps.zip us):=by
 let⟨a0,u1,rfl,h1⟩:=Gi hl;let⟨a1,u2,rfl,h2⟩:=Gi h1;let⟨a2,u3,rfl,h3⟩:=Gi h2;cases agE h3;show h a0 a1 a2
theorem ZF(hl:us.length=4)(h:∀a0 a1 a2 a3,ah1 F ⟨[a0,a1,a2,a3],[]⟩=pure (ps.zip [a0,a1,a2,a3])):ah1 F ⟨us,[]⟩=pure (ps.zip us):=by
 let⟨a0,u1,rfl,h1⟩:=Gi hl;let⟨a1,u2,rfl,h2⟩:=Gi h1;let⟨a2,u3,rfl,h3⟩:=Gi h2;let⟨a3,u4,rfl,h4⟩:=Gi h3;cases agE h4;show h a0 a1 a2 a3
def fU:af7->List af7
 | .ClassDef _ _ _ b _ _ _ _ _ _ _=>b
 |_=>[]
def top(i:Nat):af7:=PySem.Challenge.pw_seamhall_k58_whole_fitted.main.body.getD i (.Pass ⟨0,0,0,0⟩)
abbrev ux:af7:=top 74
theorem dH:FnScope ["_law_script","_law_k","_law_many","_law_cell","_law_turn","_law_rest"] ["_law_script","_law_k","_law_many"] (defScope ux):=⟨rfl,rfl,rfl,{},rfl,{},{}⟩
abbrev qZ:af7:=top 77
theorem Li:FnScope ["_law_script","_law_at"] ["_law_script","_law_at"] (defScope qZ):=⟨rfl,rfl,rfl,{},rfl,{},{}⟩
abbrev yW:af7:=top 34
theorem Ug:FnScope ["picture"] ["picture"] (defScope yW):=⟨rfl,rfl,rfl,{},rfl,{},{}⟩
abbrev q8:af7:=top 30
theorem Lj:FnScope ["thing"] ["thing"] (defScope q8):=⟨rfl,rfl,rfl,{},rfl,{},{}⟩
abbrev Cr:af7:=top 16
theorem W5:FnScope ["thing"] ["thing"] (defScope Cr):=⟨rfl,rfl,rfl,{},rfl,{},{}⟩
abbrev yX:af7:=top 14
theorem Uh:FnScope ["thing"] ["thing"] (defScope yX):=⟨rfl,rfl,rfl,{},rfl,{},{}⟩
abbrev Cu:af7:=top 15
theorem W6:FnScope ["thing"] ["thing"] (defScope Cu):=⟨rfl,rfl,rfl,{},rfl,{},{}⟩
abbrev Hr:af7:=top 17
theorem ZG:FnScope ["thing"] ["thing"] (defScope Hr):=⟨rfl,rfl,rfl,{},rfl,{},{}⟩
abbrev uz:af7:=top 18
theorem Ot:FnScope ["thing"] ["thing"] (defScope uz):=⟨rfl,rfl,rfl,{},rfl,{},{}⟩
abbrev pW:af7:=top 19
theorem JQ:FnScope ["thing"] ["thing"] (defScope pW):=⟨rfl,rfl,rfl,{},rfl,{},{}⟩
abbrev d8:af7:=(fU (top 63)).getD 0 (.Pass ⟨0,0,0,0⟩)
theorem Ln:FnScope ["self","picture","manner"] ["self","picture","manner"] (defScope d8):=⟨rfl,rfl,rfl,{},rfl,{},{}⟩
abbrev yZ:af7:=(fU (top 63)).getD 6 (.Pass ⟨0,0,0,0⟩)
theorem Ui:FnScope ["self"] ["self"] (defScope yZ):=⟨rfl,rfl,rfl,{},rfl,{},{}⟩
abbrev uD:af7:=(fU (top 63)).getD 5 (.Pass ⟨0,0,0,0⟩)
theorem Ou:FnScope ["self"] ["self"] (defScope uD):=⟨rfl,rfl,rfl,{},rfl,{},{}⟩
abbrev uE:af7:=(fU (top 63)).getD 12 (.Pass ⟨0,0,0,0⟩)
theorem Ov:FnScope ["self","page"] ["self","page"] (defScope uE):=⟨rfl,rfl,rfl,{},rfl,{},{}⟩
abbrev SM:af7:=top 23
theorem V7:FnScope ["line","last"] ["line"] (defScope SM):=⟨rfl,rfl,rfl,{},rfl,{},{}⟩
abbrev uF:af7:=top 37
theorem fB:FnScope ["picture","y","row","above","last","told","x","gap","from_left","from_right"] ["picture","y"] (defScope uF):=⟨rfl,rfl,rfl,{},rfl,{},{}⟩
abbrev Cv:af7:=top 20
theorem W7:FnScope ["picture"] ["picture"] (defScope Cv):=⟨rfl,rfl,rfl,{},rfl,{},{}⟩
abbrev Ht:af7:=top 21
theorem Od:FnScope ["picture","wide","high"] ["picture"] (defScope Ht):=⟨rfl,rfl,rfl,{},rfl,{},{}⟩
abbrev Hu:af7:=top 24
theorem vB:FnScope ["picture","wide","high","across","down"] ["picture"] (defScope Hu):=⟨rfl,rfl,rfl,{},rfl,{},{}⟩
abbrev Lp:af7:=top 38
theorem aa7:FnScope ["picture","manner"] ["picture","manner"] (defScope Lp):=⟨rfl,rfl,rfl,{},rfl,{},{}⟩
abbrev Cw:af7:=top 39
theorem W8:FnScope ["row","above","place"] ["row","above","place"] (defScope Cw):=⟨rfl,rfl,rfl,{},rfl,{},{}⟩
abbrev SN:af7:=top 36
theorem ac6:FnScope ["place","wide"] ["place","wide"] (defScope SN):=⟨rfl,rfl,rfl,{},rfl,{},{}⟩
abbrev Hv:af7:=top 40
theorem qO:FnScope ["beneath","row","x","told","place","fare"] ["beneath","row","x"] (defScope Hv):=⟨rfl,rfl,rfl,{},rfl,{},{}⟩
abbrev tD:af7:=top 41
theorem jH:FnScope ["table","marks","start","gather","rows","y","row","x","mark","told","lost"] ["table","marks","start","gather"] (defScope tD):=⟨rfl,rfl,rfl,{},rfl,{},{}⟩
abbrev iW:af7:=top 42
theorem Cy:FnScope ["table","marks","many","first_ones"] ["table","marks","many"] (defScope iW):=⟨rfl,rfl,rfl,{},rfl,{},{}⟩
abbrev za:af7:=top 43
theorem lV:FnScope ["table","rows","told","x","cell","fare"] ["table","rows"] (defScope za):=⟨rfl,rfl,rfl,{},rfl,{},{}⟩
abbrev q9:af7:=top 44
theorem Lq:FnScope ["table","marks","many"] ["table","marks","many"] (defScope q9):=⟨rfl,rfl,rfl,{},rfl,{},{}⟩
abbrev vW:af7:=top 45
theorem uG:FnScope ["table","marks","found","less","cost","seam"] ["table","marks"] (defScope vW):=⟨rfl,rfl,rfl,{},rfl,{},{}⟩
abbrev vX:af7:=top 55
theorem Cz:FnScope ["picture","marks","manner","found"] ["picture","marks","manner"] (defScope vX):=⟨rfl,rfl,rfl,{},rfl,{},{}⟩
abbrev rA:af7:=top 47
theorem Lr:FnScope ["picture","seam"] ["picture","seam"] (defScope rA):=⟨rfl,rfl,rfl,{},rfl,{},{}⟩
abbrev CG:af7:=top 48
theorem W9:FnScope ["rows","seam"] ["rows","seam"] (defScope CG):=⟨rfl,rfl,rfl,{},rfl,{},{}⟩
abbrev iK:af7:=top 56
theorem xU:FnScope ["picture","marks","manner","seam"] ["picture","marks","manner"] (defScope iK):=⟨rfl,rfl,rfl,{},rfl,{},{}⟩
abbrev gU:af7:=top 57
theorem vC:FnScope ["picture","marks","manner","left","marked","seam","cells"] ["picture","marks","manner"] (defScope gU):=⟨rfl,rfl,rfl,{},rfl,{},{}⟩
abbrev rC:af7:=top 50
theorem xV:FnScope ["row","place","following"] ["row","place"] (defScope rC):=⟨rfl,rfl,rfl,{},rfl,{},{}⟩
abbrev rE:af7:=top 51
theorem Ls:FnScope ["picture","seam"] ["picture","seam"] (defScope rE):=⟨rfl,rfl,rfl,{},rfl,{},{}⟩
abbrev rF:af7:=top 52
theorem Lw:FnScope ["seam"] ["seam"] (defScope rF):=⟨rfl,rfl,rfl,{},rfl,{},{}⟩
abbrev uH:af7:=top 49
theorem Ow:FnScope ["rows","seam","cells"] ["rows","seam","cells"] (defScope uH):=⟨rfl,rfl,rfl,{},rfl,{},{}⟩
abbrev jq:af7:=top 58
theorem mL:FnScope ["picture","marks","manner","seam","behind","cells"] ["picture","marks","manner"] (defScope jq):=⟨rfl,rfl,rfl,{},rfl,{},{}⟩
abbrev rG:af7:=(fU (top 63)).getD 14 (.Pass ⟨0,0,0,0⟩)
theorem xW:FnScope ["self","deed","once","made","marked","seam","cells"] ["self","deed"] (defScope rG):=⟨rfl,rfl,rfl,{},rfl,{},{}⟩
abbrev uI:af7:=(fU (top 63)).getD 15 (.Pass ⟨0,0,0,0⟩)
theorem Ox:FnScope ["self","deed"] ["self","deed"] (defScope uI):=⟨rfl,rfl,rfl,{},rfl,{},{}⟩
abbrev uJ:af7:=(fU (top 63)).getD 20 (.Pass ⟨0,0,0,0⟩)
theorem Oz:FnScope ["self"] ["self"] (defScope uJ):=⟨rfl,rfl,rfl,{},rfl,{},{}⟩
abbrev vY:af7:=(fU (top 63)).getD 19 (.Pass ⟨0,0,0,0⟩)
theorem SQ:FnScope ["self"] ["self"] (defScope vY):=⟨rfl,rfl,rfl,{},rfl,{},{}⟩
abbrev CJ:af7:=(fU (top 63)).getD 7 (.Pass ⟨0,0,0,0⟩)
theorem Xa:FnScope ["self"] ["self"] (defScope CJ):=⟨rfl,rfl,rfl,{},rfl,{},{}⟩
abbrev zf:af7:=(fU (top 63)).getD 21 (.Pass ⟨0,0,0,0⟩)
theorem Uj:FnScope ["self"] ["self"] (defScope zf):=⟨rfl,rfl,rfl,{},rfl,{},{}⟩
abbrev gD:af7:=top 67
theorem Oe:FnScope ["picture","wide","high","manner","desk"] ["picture","wide","high","manner"] (defScope gD):=⟨rfl,rfl,rfl,{},rfl,{},{}⟩
abbrev CK:af7:=top 78
theorem JR:FnScope ["_law_picture_here","_law_mode","e"] ["_law_picture_here","_law_mode"] (defScope CK):=⟨rfl,rfl,rfl,{},rfl,{},{}⟩
abbrev pX:af7:=top 75
theorem oJ:FnScope ["_law_script","_law_at","_law_broad","_law_tall","_law_most","_law_rows","_law_y"] ["_law_script","_law_at","_law_broad","_law_tall"] (defScope pX):=⟨rfl,rfl,rfl,{},rfl,{},{}⟩
abbrev vZ:af7:=top 76
theorem SX:FnScope ["_law_script","_law_at","_law_broad","_law_tall"] ["_law_script","_law_at","_law_broad","_law_tall"] (defScope vZ):=⟨rfl,rfl,rfl,{},rfl,{},{}⟩
abbrev zj:af7:=(fU (top 63)).getD 4 (.Pass ⟨0,0,0,0⟩)
theorem Uk:FnScope ["self"] ["self"] (defScope zj):=⟨rfl,rfl,rfl,{},rfl,{},{}⟩
abbrev oK:af7:=(fU (top 63)).getD 8 (.Pass ⟨0,0,0,0⟩)
theorem Hw:FnScope ["self"] ["self"] (defScope oK):=⟨rfl,rfl,rfl,{},rfl,{},{}⟩
abbrev Hx:af7:=(fU (top 63)).getD 9 (.Pass ⟨0,0,0,0⟩)
theorem ZJ:FnScope ["self"] ["self"] (defScope Hx):=⟨rfl,rfl,rfl,{},rfl,{},{}⟩
abbrev wg:af7:=(fU (top 63)).getD 1 (.Pass ⟨0,0,0,0⟩)
theorem S5:FnScope ["self","other"] ["self","other"] (defScope wg):=⟨rfl,rfl,rfl,{},rfl,{},{}⟩
abbrev CN:af7:=top 31
theorem Xb:FnScope ["thing"] ["thing"] (defScope CN):=⟨rfl,rfl,rfl,{},rfl,{},{}⟩
abbrev pY:af7:=top 32
theorem JT:FnScope ["thing","wide"] ["thing","wide"] (defScope pY):=⟨rfl,rfl,rfl,{},rfl,{},{}⟩
abbrev zm:af7:=top 33
theorem Ul:FnScope ["thing","picture"] ["thing","picture"] (defScope zm):=⟨rfl,rfl,rfl,{},rfl,{},{}⟩
abbrev uK:af7:=top 35
theorem OD:FnScope ["thing","picture"] ["thing","picture"] (defScope uK):=⟨rfl,rfl,rfl,{},rfl,{},{}⟩
abbrev uL:af7:=top 69
theorem OJ:FnScope ["thing","least","most"] ["thing","least","most"] (defScope uL):=⟨rfl,rfl,rfl,{},rfl,{},{}⟩
abbrev Lx:af7:=top 70
theorem lA:FnScope ["picture","many","manner","marks","left","marked","steps","total","found","cost","seam"] ["picture","many","manner","marks"] (defScope Lx):=⟨rfl,rfl,rfl,{},rfl,{},{}⟩
abbrev zp:af7:=top 71
theorem Gj:FnScope ["picture","wide","manner","marks","marked"] ["picture","wide","manner","marks"] (defScope zp):=⟨rfl,rfl,rfl,{},rfl,{},{}⟩
abbrev gJ:af7:=top 72
theorem Gk:FnScope ["picture","wide","manner","marks","told"] ["picture","wide","manner","marks"] (defScope gJ):=⟨rfl,rfl,rfl,{},rfl,{},{}⟩
abbrev zq:af7:=top 65
theorem Gm:FnScope ["step","picture","word","seam","cells"] ["step","picture"] (defScope zq):=⟨rfl,rfl,rfl,{},rfl,{},{}⟩
abbrev zu:af7:=(fU (top 63)).getD 10 (.Pass ⟨0,0,0,0⟩)
theorem Um:FnScope ["self"] ["self"] (defScope zu):=⟨rfl,rfl,rfl,{},rfl,{},{}⟩
abbrev wj:af7:=top 66
theorem oM:FnScope ["desk","picture","step"] ["desk"] (defScope wj):=⟨rfl,rfl,rfl,{},rfl,{},{}⟩
abbrev sO:af7:=top 79
theorem lW:FnScope ["_law_script","_law_picture_here","_law_mode","_law_broad","_law_tall","_law_there","_law_low","_law_desk","_law_due","_law_words","_law_columns","_law_told"] ["_law_script"] (defScope sO):=⟨rfl,rfl,rfl,{},rfl,{},{}⟩
abbrev iC:af7:=(defBody iW).getD 0 (.Pass ⟨0,0,0,0⟩)
theorem O5:KJ ["x","told","many"] ["x","told"] "many" (defScope iC):=⟨rfl,rfl,rfl,{},rfl,{},{},{},{}⟩
structure Txt(K:afM)(mg:Str->Option afL)(DC:afK):Prop where
 dt:jE K DC
 dq:RG K DC
 dm:mg "Desk" =some (.ref DC)
 dp:agg K (.ref DC)=true
 CP:∃t,mg "FREE" =some (.int 0 t)
 JV:∃t,mg "GONE" =some (.int 2 t)
 S6:∃t,mg "KEPT" =some (.int 1 t)
 wk:∃t,mg "MOST_CELL" =some (.int 99 t)
 lX:∃t,mg "MOST_LONG" =some (.int 20 t)
 wu:Wn K mg "BOX_WORDS" ["keep","drop","free"]
 CQ:Wn K mg "MANNERS" ["worth","joins"]
 Fv:mg "abs" =none
 zx:mg "all" =none
 S7:mg "bool" =none
 lY:mg "enumerate" =none
 Xc:mg "int" =none
 dY:mg "isinstance" =none
 dj:mg "len" =none
 S8:mg "list" =none
 qy:mg "max" =none
 sS:mg "min" =none
 iM:mg "range" =none
 sU:mg "reversed" =none
 zy:mg "sorted" =none
 eZ:mg "tuple" =none
 Fw:mg "zip" =none
 JW:∀d:D,afX K (.type (kI d)) (.type "int")=some (Es (kI d))
 CV:∀d:D,afX K (.type (kI d)) (.type "bool")=some (yC (kI d))
 pZ:∀d:D,afX K (.type (kI d)) (.type "tuple")=some (jw (kI d))
 JX:∀d:D,afX K (.type (kI d)) (.type "list")=some (QH (kI d))
 zA:∃C,XCl K mg "NoManner" C
 wz:∃C,XCl K mg "NoPicture" C
 wA:∃C,mg "SeamError" =some (.ref C)/\∀c C',iB c "SeamError" =true->afW K afU c=some (some (.ref C'))->ai6 K (.ref C') (.ref C)=some true
 oN:∃C,mg "NoManner" =some (.ref C)/\∀c C',iB c c=true->afW K afU c=some (some (.ref C'))->FJ K C'/\afX K (.ref C') (.ref C)=some (iB c "NoManner")
 lZ:∃C,mg "NoPicture" =some (.ref C)/\∀c C',iB c c=true->afW K afU c=some (some (.ref C'))->FJ K C'/\afX K (.ref C') (.ref C)=some (iB c "NoPicture")
abbrev tz(TP:afK):List (afK×Str):=[(TP,"best_ways.<locals>.first_ones")]
structure HX(w:af4)(K:afM)(mg:Str->Option afL)(DC:afK):Prop extends Txt K mg DC where
 uM:DY K mg "_law_drawn" ux ["_law_script","_law_k","_law_many"]
 rH:DY K mg "_law_manner" qZ ["_law_script","_law_at"]
 zB:DY K mg "all_free" yW ["picture"]
 rJ:DY K mg "need_manner" q8 ["thing"]
 CW:DY K mg "is_line" Cr ["thing"]
 zE:DY K mg "is_whole" yX ["thing"]
 CZ:DY K mg "is_cell" Cu ["thing"]
 Hy:DY K mg "is_row" Hr ["thing"]
 uN:DY K mg "is_picture" uz ["thing"]
 qb:DY K mg "need_picture" pW ["thing"]
 zF:DM K DC "marks" "Desk.marks" yZ ["self"]
 uO:DM K DC "picture" "Desk.picture" uD ["self"]
 uP:DM K DC "turn_to" "Desk.turn_to" uE ["self","page"]
 S9:DY K mg "gaps" SM ["line"]
 uQ:DY K mg "join_fares" uF ["picture","y"]
 Dc:DY K mg "size_of" Cv ["picture"]
 Hz:DY K mg "turned" Ht ["picture"]
 HD:DY K mg "worths" Hu ["picture"]
 Ly:DY K mg "fares" Lp ["picture","manner"]
 Df:DY K mg "fare_of" Cw ["row","above","place"]
 Tc:DY K mg "near" SN ["place","wide"]
 HF:DY K mg "onward" Hv ["beneath","row","x"]
 Lz:DY K mg "swept" tD ["table","marks","start","gather"]
 wB:DY K mg "best_ways" iW ["table","marks","many"]
 zG:DY K mg "from_top" za ["table","rows"]
 rK:DY K mg "first_seams" q9 ["table","marks","many"]
 wC:DY K mg "least_way" vW ["table","marks"]
 wD:DY K mg "best_seam" vX ["picture","marks","manner"]
 rM:DY K mg "cells_along" rA ["picture","seam"]
 Dg:DY K mg "without" CG ["rows","seam"]
 O6:DY K mg "narrow_once" iK ["picture","marks","manner"]
 LC:DY K mg "flatten_once" gU ["picture","marks","manner"]
 rN:DY K mg "mean_behind" rC ["row","place"]
 rO:DY K mg "means_along" rE ["picture","seam"]
 rP:DY K mg "seam_behind" rF ["seam"]
 uR:DY K mg "with_cells" uH ["rows","seam","cells"]
 Td:DY K mg "widen_once" jq ["picture","marks","manner"]
 rQ:DM K DC "go_along" "Desk.go_along" rG ["self","deed"]
 uT:DM K DC "do_deed" "Desk.do_deed" uI ["self","deed"]
 uU:DM K DC "flatten" "Desk.flatten" uJ ["self"]
 wF:DM K DC "narrow" "Desk.narrow" vY ["self"]
 Dh:DM K DC "size" "Desk.size" CJ ["self"]
 zH:DM K DC "widen" "Desk.widen" zf ["self"]
 Di:DY K mg "_law_no" CK ["_law_picture_here","_law_mode"]
 qd:DY K mg "_law_picture" pX ["_law_script","_law_at","_law_broad","_law_tall"]
 wG:DY K mg "_law_some" vZ ["_law_script","_law_at","_law_broad","_law_tall"]
 zJ:DM K DC "began" "Desk.began" zj ["self"]
 oO:DM K DC "pages_done" "Desk.pages_done" oK ["self"]
 HJ:DM K DC "log" "Desk.log" Hx ["self"]
 wH:DM K DC "__eq__" "Desk.__eq__" wg ["self","other"]
 Dj:DY K mg "is_mark" CN ["thing"]
 qe:DY K mg "is_marks_row" pY ["thing","wide"]
 zK:DY K mg "is_marks" zm ["thing","picture"]
 uV:DY K mg "full_marks" uK ["thing","picture"]
 uW:DY K mg "need_width" uL ["thing","least","most"]
 LK:DY K mg "taken" Lx ["picture","many","manner","marks"]
 zL:DY K mg "taken_to" zp ["picture","wide","manner","marks"]
 zM:DY K mg "ahead_of" zq ["step","picture"]
 zN:DM K DC "steps" "Desk.steps" zu ["self"]
 wI:DY K mg "origin_of" wj ["desk"]
 O7:∃f fd,Fun K "__init__" "Desk.__init__" d8 f fd/\Mk K DC f/\KB K fd ["self","picture","manner"] ["manner"] [.inl 0]
 aa8:∃f fd,Fun K "fitted" "fitted" gD f fd/\mg "fitted" =some (.ref f)/\KB K fd ["picture","wide","high","manner"] ["manner"] [.inl 0]/\(∃eG,KB K fd ["picture","wide","high","manner"] [] [.inr (.str "worth" eG)])
 Xd:∃f fd,Fun K "narrowed" "narrowed" gJ f fd/\mg "narrowed" =some (.ref f)/\KB K fd ["picture","wide","manner","marks"] ["manner"] [.inl 0,.inr .none]
 ac7:DQ w K mg
structure HB(w:af4)(K:afM)(mg:Str->Option afL)(DC:afK)(base:af2)(cN TP:afK):Prop extends HX w K mg DC where
 hB:qu base mg cN TP
 hC:Bp K mg "best_ways" cN
section
variable{P:afZ}{w:af4}{K:afM}{mg:Str->Option afL}{base:af2}{cN TP:afK}{DC:afK}
theorem O8{c:afK}{A:af5}{s:afN}{H:Hp}(T:Txt K mg DC)(hr:Room 0 (A.deeper (yH "best_ways.<locals>.first_ones" (defScope iC) f cdv s "many" c))):iG (yI P w K mg base ["x","told","many"] "best_ways.<locals>.first_ones" (defScope iC) f cdv A outer s H "many" c) (defBody iC) BW:=by
 show (aF (aU (cB ["less","cost","places"] [0] rfl ⟨⟩ ⟨⟩ (fK (Bq (aV (Rr (YJ hr)) rfl T.zy boot_sorted (aj (dv 1) aq)) pG (kO (dv 2)))) (gO (bD (aW {}) (bD (aW {}) (bD (aW {}) gM)))) (λ_ _ _ _ nd=>lN rfl (bM (bx 0 nd) (bM (bx 1 nd) (bM (bx 2 nd) jV)))) (λ_ _ _ _=>cA) (λ_ _ _ _=>(cC (aj (dv 0) (aj (dv 1) (aj (aP c7 (cC (aj (dv 3) aq)) (dv 2)) aq))))))))
theorem LQ(T:Txt K mg DC)(my:Int)(a c:afK)(H:Hp)(co:Obj)(uy:afL)(fh:kY H a "first_ones" "best_ways.<locals>.first_ones" (defArgs iC) (defBody iC) (defScope iC) [("many",c)])(hc:H c=some (.frz co (.own c)))(hcd:co.data= .cell (some uy))(hy:RelV (.int my) uy):Bo P w K mg base 1 (d7 my) 2 a H:=
 adS (k:=0) (m:=0) O5 rfl rfl (λ_ _ _ _ _ us hl=>nJ hl λ_ _=>rfl) (λcdv A outer s H f c hr=>O8 T  hr) fh hc hcd hy
theorem gw(T:HX w K mg DC):fV P w K mg base 1 "_law_drawn" 3 dG:=
 gR (k:=0) (g:=Bw) T.uM dH rfl rfl λcdv A outer s H E hr=>(aH (bK 3 dH.nd (aP qC aJ (dv 1))) (aH (cL (bO (u5 (dg hr)) (dv 0) (jd aq)) (aH (bK 3 dH.nd (bH (dv 0) (aP qF (dv 1) (aV cR rfl T.dj agh (aj (dv 0) aq))))) (aH (bK 4 dH.nd (aP qD (dv 1) (aV cR rfl T.dj agh (aj (dv 0) aq)))) (aH (cL (DW.dt (XD (bO aeO (dv 3) (aP XC aJ aJ)) (U4 (bO Ib (dv 4) aJ)))) (aH (bK 5 dH.nd (aP qD (dv 3) (aP XC aJ aJ))) (aH (tW 64 ahu (DW.dt (XD (bO Eh (dv 5) aJ) (U4 (bO Eh (dv 4) aJ)))) (aH (bK 5 dH.nd (aP qD (dv 5) aJ)) (aF (bK 4 dH.nd (aP fJ (dv 4) aJ))))) (aF (cL (bO Eh (dv 5) aJ) (aF (aU (aP qF (aP qF (dv 5) aJ) (dv 2)))) bR)))) bR) (aF (bK 3 dH.nd (aP jN (dv 3) (aP qC aJ (aP qD (dv 1) (aV cR rfl T.dj agh (aj (dv 0) aq)))))))))) bR) (aH (bK 3 dH.nd (aP qF (aP jN (aP qC (aP qF (dv 3) aJ) aJ) (aP qC aJ (aP jN (dv 1) aJ))) aJ)) (aH (bK 3 dH.nd (aP qF (aP jN (aP qC (dv 3) (dv 3)) (aP qD (dv 3) aJ)) aJ)) (aF (aU (aP qF (aP qD (aP qF (aP jN (aP qC (dv 3) (dv 3)) (aP qD (dv 3) aJ)) aJ) aJ) (dv 2))))))))
theorem O9(T:HX w K mg DC):fV P w K mg base 2 "_law_manner" 2 qU:=
 gR (k:=1) (g:=zX) T.rH Li rfl rfl λcdv A outer s H E hr=>(aF (aU (bH (jd (aj gF (aj gF aq))) (bA (gw T) hr {} (aj (dv 0) (aj (dv 1) (aj aJ aq)))))))
theorem JZ(T:HX w K mg DC):fV P w K mg base 1 "all_free" 1 sG:=
  gR (k:=0) (g:=Jo) T.zB Ug rfl rfl λcdv A outer s H E hr=>(by
    let⟨ZK,Dl⟩:=T.CP
    show (aF (aU (aP Ew (cC (aj (aP Ew (cC (aj (jU rfl Dl) aq)) (aV cR rfl T.dj agh (aj (bH (dv 0) aJ) aq))) aq)) (aV cR rfl T.dj agh (aj (dv 0) aq))))))
theorem Ai(T:HX w K mg DC):Yy P w K mg base 1 "need_manner" 1 mC:=
  aen (k:=0) (g:=zY) T.rJ Lj rfl rfl λcdv A outer s H E hr=>(by
    let⟨cG,zA⟩:=T.zA
    show (aF (cL (bO (acg (dg hr)) (dv 0) (Vh (ss:=["worth","joins"]) rfl T.CQ) (by rfl)) (aF (Rf rfl zA (aj gF aq) (λ_=>⟨_,rfl,{}⟩))) bR)))
theorem Og(T:HX w K mg DC):fV P w K mg base 1 "is_line" 1 qM:=
  gR (k:=0) (g:=Nt) T.CW W5 rfl rfl λcdv A outer s H E hr=>(by
    let⟨Gn,mj⟩:=T.lX
    show (aF (aU (nP (wU (ans:=jw) T.pZ (dv 0) rfl T.dY ahY rfl T.eZ ahq) (tL (GR rZ rZ aJ (aV cR rfl T.dj agh (aj (dv 0) aq)) (jU rfl mj)))))))
theorem zO(T:HX w K mg DC):fV P w K mg base 1 "is_whole" 1 oh:=
 gR (k:=0) (g:=Jp) T.zE Uh rfl rfl λcdv A outer s H E hr=>(aF (aU (nP (wU (ans:=Es) T.JW (dv 0) rfl T.dY ahY rfl T.Xc boot_int) (tL (adn (wU (ans:=yC) T.CV (dv 0) rfl T.dY ahY rfl T.S7 boot_bool))))))
theorem ZL(T:HX w K mg DC):fV P w K mg base 2 "is_cell" 1 Bx:=
  gR (k:=1) (g:=Nu) T.CZ W6 rfl rfl λcdv A outer s H E hr=>(by
    let⟨aeK,Uo⟩:=T.wk
    show (aF (aU (nP (bA (zO T) hr {} (aj (dv 0) aq)) (tL (GR rZ rZ aJ (dv 0) (jU rfl Uo)))))))
theorem aa9(T:HX w K mg DC):fV P w K mg base 3 "is_row" 1 Hh:=
 gR (k:=2) (g:=RL) T.Hy ZG rfl rfl λcdv A outer s H E hr=>(aF (aU (nP (bA (Og T) hr {} (aj (dv 0) aq)) (tL (aV (Ax rfl) rfl T.zx boot_all (aj (cB ["cell"] [] rfl ⟨⟩ ⟨⟩ (fK (dv 0)) (aW {}) (λ_ _ _ _ nd=>bx 0 nd) (λ_ _ _ _=>cA) (λ_ _ _ _=>(bA (ZL T) hr {} (aj (dv 0) aq)))) aq))))))
theorem Te(T:HX w K mg DC):fV P w K mg base 4 "is_picture" 1 uh:=
 gR (k:=3) (g:=BJ) T.uN Ot rfl rfl λcdv A outer s H E hr=>(aH (cL (DW.dt (Wb (lM (tH (bA (Og T) hr {} (aj (dv 0) aq)))) (Qu (lM (tH (aV (Ax rfl) rfl T.zx boot_all (aj (cB ["row"] [] rfl ⟨⟩ ⟨⟩ (fK (dv 0)) (aW {}) (λ_ _ _ _ nd=>bx 0 nd) (λ_ _ _ _=>cA) (λ_ _ _ _=>(bA (aa9 T) hr {} (aj (dv 0) aq)))) aq))))))) (aF (aU j9)) bR) (aF (aU (aV (Ax rfl) rfl T.zx boot_all (aj (cB ["row"] [0] rfl ⟨⟩ ⟨⟩ (fK (dv 0)) (aW {}) (λ_ _ _ _ nd=>bx 0 nd) (λ_ _ _ _=>cA) (λ_ _ _ _=>(wN (jC (dg hr)) (aV cR rfl T.dj agh (aj (dv 0) aq)) (aV cR rfl T.dj agh (aj (bH (dv 1) aJ) aq))))) aq)))))
theorem qg(T:HX w K mg DC):Yy P w K mg base 5 "need_picture" 1 jm:=
  aen (k:=4) (g:=xu) T.qb JQ rfl rfl λcdv A outer s H E hr=>(by
    let⟨bZ,wz⟩:=T.wz
    show (aF (cL (lM (tH (bA (Te T) hr {} (aj (dv 0) aq)))) (aF (Rf rfl wz (aj gF aq) (λ_=>⟨_,rfl,{}⟩))) bR)))
theorem rR(T:HX w K mg DC):∃fd,FnI P w K mg base DC 6 2 cQ fd ["self","picture","manner"]/\KB K fd ["self","picture","manner"] ["manner"] [.inl 0]:=by
 let⟨f,fd,Fn,M,B⟩:=T.O7;show⟨fd,⟨f,fnI (k:=5) (n:=2) (m:=0) T.dt Fn Ln rfl rfl rfl rfl {} {} (λcdv A outer s H E hr=>⟨(Bl (qg T) hr {} (aj (dv 1) aq)),(Bl (Ai T) hr {} (aj (dv 2) aq)),(dv 2),(aj (cC (aj lK (aj (dv 1) (aj (bA (JZ T) hr {} (aj (dv 1) aq)) (aj lK aq))))) aq),.inl rfl,rfl,rfl,rfl,rfl,rfl⟩),M⟩,B⟩
theorem Xe(T:HX w K mg DC):Jk P w K mg base DC 1 "marks" 0 sH:=by
 let⟨f,fd,Fn,fj,hb⟩:=T.zF;show⟨f,fd,["self"],Nr (k:=0) (n:=0) (m:=0) (g:=Jq) Fn Ui rfl rfl λcdv A outer s H E hr=>((aF (aU (bH (bH (Fi T.dt (bL 0)) (Fg T.dt (bL 0))) aJ)))),fj,hb⟩
theorem oR(T:HX w K mg DC):Jk P w K mg base DC 1 "picture" 0 gj:=by
 let⟨f,fd,Fn,fj,hb⟩:=T.uO;show⟨f,fd,["self"],Nr (k:=0) (n:=0) (m:=0) (g:=BK) Fn Ou rfl rfl λcdv A outer s H E hr=>((aF (aU (bH (bH (Fi T.dt (bL 0)) (Fg T.dt (bL 0))) aJ)))),fj,hb⟩
theorem Tf(T:HB w K mg DC base cN TP):Nq P w K mg base DC 1 "turn_to" 1 um (tz TP):=by
 let⟨f,fd,Fn,fj,hb⟩:=T.uP;show⟨f,fd,["self","page"],Vt (k:=0) (n:=1) (m:=0) (g:=BL) Fn Ov rfl rfl λcdv A outer s H E hr hT=>((aH (aco 0 T.dt (aP c7 (Fg T.dt (bL 0)) aJ) (aj (dv 1) aq)) (aF (acq 0 T.dt)))),fj,hb⟩
theorem Tg(T:HX w K mg DC):fV P w K mg base 1 "gaps" 1 BP:=
 gR (k:=0) (g:=Y0) T.S9 V7 rfl rfl λcdv A outer s H E hr=>(aH (bK 1 V7.nd (aP fJ (aV cR rfl T.dj agh (aj (dv 0) aq)) aJ)) (aF (aU (cB ["at"] [1,0] rfl ⟨⟩ ⟨⟩ (ju rfl T.iM (aj (aV cR rfl T.dj agh (aj (dv 0) aq)) aq)) (aW {}) (λ_ _ _ _ nd=>bx 0 nd) (λ_ _ _ _=>cA) (λ_ _ _ _=>(aV Iv rfl T.Fv boot_abs (aj (aP fJ (bH (dv 2) (aV (qJ rfl) rfl T.qy ajr (aj (aP fJ (dv 0) aJ) (aj aJ aq)))) (bH (dv 2) (aV (uf rfl) rfl T.sS ajS (aj (aP c7 (dv 0) aJ) (aj (dv 1) aq))))) aq)))))))
theorem Ti(T:HX w K mg DC):fV P w K mg base 2 "join_fares" 2 uo:=
 gR (k:=1) (g:=BR) T.uQ fB rfl rfl λcdv A outer s H E hr=>(aH (bK 2 fB.nd (bH (dv 0) (dv 1))) (aH (bK 3 fB.nd (bH (dv 0) (aV (qJ rfl) rfl T.qy ajr (aj (aP fJ (dv 1) aJ) (aj aJ aq))))) (aH (bK 4 fB.nd (aP fJ (aV cR rfl T.dj agh (aj (dv 2) aq)) aJ)) (aH (sX 5 fB.nd aq) (aH (tV ahu rfl (KH rfl T.lY (aj (bA (Tg T) hr {} (aj (dv 2) aq)) aq)) (Kr 6 7 rfl fB.nd) (aH (bK 8 fB.nd (aP c7 (dv 7) (aV Iv rfl T.Fv boot_abs (aj (aP fJ (bH (dv 3) (dv 6)) (bH (dv 2) (aV (qJ rfl) rfl T.qy ajr (aj (aP fJ (dv 6) aJ) (aj aJ aq))))) aq)))) (aH (bK 9 fB.nd (aP c7 (dv 7) (aV Iv rfl T.Fv boot_abs (aj (aP fJ (bH (dv 3) (dv 6)) (bH (dv 2) (aV (uf rfl) rfl T.sS ajS (aj (aP c7 (dv 6) aJ) (aj (dv 4) aq))))) aq)))) (aF (Ij 5 (cC (aj (dv 8) (aj (dv 7) (aj (dv 9) aq))))))))) (aF (aU (dv 5))))))))
theorem vG(T:HX w K mg DC):fV P w K mg base 6 "size_of" 1 nF:=
 gR (k:=5) (g:=Nv) T.Dc W7 rfl rfl λcdv A outer s H E hr=>(aH (Em (Bl (qg T) hr {} (aj (dv 0) aq))) (aF (aU (cC (aj (aV cR rfl T.dj agh (aj (bH (dv 0) aJ) aq)) (aj (aV cR rfl T.dj agh (aj (dv 0) aq)) aq))))))
theorem mZ(T:HX w K mg DC):fV P w K mg base 7 "turned" 1 fQ:=
 gR (k:=6) (g:=RM) T.Hz Od rfl rfl λcdv A outer s H E hr=>(aH (En 1 2 rfl Od.nd (bA (vG T) hr {} (aj (dv 0) aq))) (aF (aU (gZ iu rfl T.eZ ahq (aj (cB ["x"] [2,0] rfl ⟨⟩ ⟨⟩ (ju rfl T.iM (aj (dv 1) aq)) (aW {}) (λ_ _ _ _ nd=>bx 0 nd) (λ_ _ _ _=>cA) (λ_ _ _ _=>(gZ iu rfl T.eZ ahq (aj (cB ["y"] [2,0] rfl ⟨⟩ ⟨⟩ (ju rfl T.iM (aj (dv 1) aq)) (aW {}) (λ_ _ _ _ nd=>bx 0 nd) (λ_ _ _ _=>cA) (λ_ _ _ _=>(bH (bH (dv 1) (dv 0)) (dv 2)))) aq)))) aq)))))
theorem abb(T:HX w K mg DC):fV P w K mg base 8 "worths" 1 Hi:=
 gR (k:=7) (g:=RN) T.HD vB rfl rfl λcdv A outer s H E hr=>(aH (En 1 2 rfl vB.nd (bA (vG T) hr {} (aj (dv 0) aq))) (aH (bK 3 vB.nd (cB ["row"] [] rfl ⟨⟩ ⟨⟩ (fK (dv 0)) (aW {}) (λ_ _ _ _ nd=>bx 0 nd) (λ_ _ _ _=>cA) (λ_ _ _ _=>(bA (Tg T) hr {} (aj (dv 0) aq))))) (aH (bK 4 vB.nd (cB ["column"] [] rfl ⟨⟩ ⟨⟩ (fK (bA (mZ T) hr {} (aj (dv 0) aq))) (aW {}) (λ_ _ _ _ nd=>bx 0 nd) (λ_ _ _ _=>cA) (λ_ _ _ _=>(bA (Tg T) hr {} (aj (dv 0) aq))))) (aF (aU (gZ iu rfl T.eZ ahq (aj (cB ["y"] [3,4,1] rfl ⟨⟩ ⟨⟩ (ju rfl T.iM (aj (dv 2) aq)) (aW {}) (λ_ _ _ _ nd=>bx 0 nd) (λ_ _ _ _=>cA) (λ_ _ _ _=>(gZ iu rfl T.eZ ahq (aj (cB ["x"] [1,2,0] rfl ⟨⟩ ⟨⟩ (ju rfl T.iM (aj (dv 3) aq)) (aW {}) (λ_ _ _ _ nd=>bx 0 nd) (λ_ _ _ _=>cA) (λ_ _ _ _=>(aP c7 (bH (bH (dv 1) (dv 3)) (dv 0)) (bH (bH (dv 2) (dv 0)) (dv 3))))) aq)))) aq)))))))
theorem V8(T:HX w K mg DC):fV P w K mg base 9 "fares" 2 tu:=
 gR (k:=8) (g:=Vy) T.Ly aa7 rfl rfl λcdv A outer s H E hr=>(aH (cL (bO (jC (dg hr)) (dv 1) gF) (aF (aU (cB ["row"] [] rfl ⟨⟩ ⟨⟩ (fK (bA (abb T) hr {} (aj (dv 0) aq))) (aW {}) (λ_ _ _ _ nd=>bx 0 nd) (λ_ _ _ _=>cA) (λ_ _ _ _=>(cB ["worth"] [] rfl ⟨⟩ ⟨⟩ (fK (dv 0)) (aW {}) (λ_ _ _ _ nd=>bx 0 nd) (λ_ _ _ _=>cA) (λ_ _ _ _=>(cC (aj (dv 0) (aj (dv 0) (aj (dv 0) aq)))))))))) bR) (aF (aU (cB ["y"] [0] rfl ⟨⟩ ⟨⟩ (ju rfl T.iM (aj (aV cR rfl T.dj agh (aj (dv 0) aq)) aq)) (aW {}) (λ_ _ _ _ nd=>bx 0 nd) (λ_ _ _ _=>cA) (λ_ _ _ _=>(bA (Ti T) hr {} (aj (dv 1) (aj (dv 0) aq))))))))
theorem Oh(T:HX w K mg DC):fV P w K mg base 1 "fare_of" 3 nG:=
 gR (k:=0) (g:=Nx) T.Df W8 rfl rfl λcdv A outer s H E hr=>(aF (aU (bH (bH (dv 0) (dv 2)) (aP c7 (aP fJ (dv 1) (dv 2)) aJ))))
theorem aeo(T:HX w K mg DC):fV P w K mg base 1 "near" 2 RP:=
 gR (k:=0) (g:=Y4) T.Tc ac6 rfl rfl λcdv A outer s H E hr=>(aF (aU (aaB rfl rfl T.S8 rfl T.iM (aj (aV (qJ rfl) rfl T.qy ajr (aj (aP fJ (dv 0) aJ) (aj aJ aq))) (aj (aV (uf rfl) rfl T.sS ajS (aj (aP c7 (dv 0) aJ) (aj (dv 1) aq))) aq)))))
theorem HN(T:HX w K mg DC):fV P w K mg base 2 "onward" 3 yL:=
 gR (k:=1) (g:=RQ) T.HF qO rfl rfl λcdv A outer s H E hr=>(aH (sX 3 qO.nd aq) (aH (tV ahu rfl (fK (bA (aeo T) hr {} (aj (dv 2) (aj (aV cR rfl T.dj agh (aj (dv 0) aq)) aq)))) (yw 4 qO.nd) (aH (bK 5 qO.nd (bA (Oh T) hr {} (aj (dv 1) (aj (dv 2) (aj (dv 4) aq))))) (aF (Vq 3 qO.nd (cB ["less","cost","rest"] [5] rfl ⟨⟩ ⟨⟩ (fK (bH (dv 0) (dv 4))) (gO (bD (aW {}) (bD (aW {}) (bD (aW {}) gM)))) (λ_ _ _ _ nd=>lN rfl (bM (bx 0 nd) (bM (bx 1 nd) (bM (bx 2 nd) jV)))) (λ_ _ _ _=>cA) (λ_ _ _ _=>(cC (aj (dv 0) (aj (aP c7 (dv 1) (dv 3)) (aj (dv 2) aq)))))))))) (aF (aU (dv 3)))))
theorem abd{A:af5}{s:afN}{H:Hp}{E:XK}(T:Txt K mg DC)(HN:fV P w K mg base 2 "onward" 3 yL){aG:Nat}{GG:List D->R D}(hG:Bo P w K mg base 1 GG 2 aG H)(hr:Room 2 (A.deeper (ag9 "swept" (defScope tD) s.heap.objs.size f cdv))):iG (cxOf CX0 P w K mg base ["table","marks","start","gather","rows","y","row","x","mark","told","lost"] "swept" (defScope tD) f cdv A outer s H E).nox (defBody tD) (KY aG GG):=by
 let⟨aep,Tj⟩:=T.JV;let⟨afE,aer⟩:=T.S6;show (aH (sX 4 jH.nd aq) (aH (tV ahu rfl (ab5 rfl T.sU rfl T.iM (aj (aV cR rfl T.dj agh (aj (dv 1) aq)) aq)) (yw 5 jH.nd) (aH (sX 6 jH.nd aq) (aH (tV ahu rfl (KH rfl T.lY (aj (bH (dv 1) (dv 5)) aq)) (Kr 7 8 rfl jH.nd) (aH (cL (bO (jC (dg hr)) (dv 8) (jU rfl aer)) (aF (bK 9 jH.nd (jd aq))) (aF (cL (lM (YH (dv 4))) (aF (bK 9 jH.nd (Rh 3 hG hr {} (aj (dv 7) (aj (jd (aj (cC (aj aJ (aj aJ (aj (dv 2) aq)))) aq)) aq))))) (aF (bK 9 jH.nd (Rh 3 hG hr {} (aj (dv 7) (aj (bA HN hr {} (aj (adU 4 (adC aJ)) (aj (bH (dv 0) (aP c7 (dv 5) aJ)) (aj (dv 7) aq)))) aq)))))))) (aH (bK 10 jH.nd (abt (bO (jC (dg hr)) (dv 8) (jU rfl Tj)) aJ aJ)) (aF (Ij 6 (cB ["less","cost","rest"] [10] rfl ⟨⟩ ⟨⟩ (fK (dv 9)) (gO (bD (aW {}) (bD (aW {}) (bD (aW {}) gM)))) (λ_ _ _ _ nd=>lN rfl (bM (bx 0 nd) (bM (bx 1 nd) (bM (bx 2 nd) jV)))) (λ_ _ _ _=>cA) (λ_ _ _ _=>(cC (aj (aP fJ (dv 0) (dv 3)) (aj (dv 1) (aj (dv 2) aq))))))))))) (aF (ab3 4 6 {}))))) (aF (aU (ab2 (dv 4))))))
theorem LR(T:HX w K mg DC):FnS P w K mg base 3 "swept" 1 3 2 xG:=by
 let⟨f,fd,Fn,hmg,hb⟩:=T.Lz;show⟨f,fd,["table","marks","start","gather"],fnS (k:=2) (m:=7) (g:=KY) Fn jH rfl rfl λcdv A outer s H E a G hr hG=>abd T.toTxt (HN T) hG hr,hmg,Fn.kp,hb⟩
theorem Tn{cc TP:afK}{A:af5}{s:afN}{H:Hp}{E:XK}(T:Txt K mg DC)(LR:FnS P w K mg base 3 "swept" 1 3 2 xG)(hB:qu base mg cc TP)(hT:Tb [(TP,"best_ways.<locals>.first_ones")] H)(hr:Room 3 (A.deeper (ag9 "best_ways" (defScope iW) s.heap.objs.size f (.ref cc)))):iG (cxOf CX0 P w K mg base ["table","marks","many","first_ones"] "best_ways" (defScope iW) f (.ref cc) A outer s H E).nox (defBody iW) vN:=by
 let⟨fS,Ri,Nk,Sw,hm,hk,hb⟩:=LR;show aaz (c:=s.heap.objs.size+1) (y:= "many") 3 2 Cy.nd hB hT rfl Sw (hr.mono {}) hm hk hb (LQ T ) (dv 0) (dv 1) (cC aq) rfl rfl rfl rfl {} (.inl rfl)
theorem Uq(T:HB w K mg DC base cN TP):mK P w K mg base 4 "best_ways" 3 vO ["table","marks","many"] (tz TP):=by
 let⟨f,fd,Fn,hmg,hb⟩:=T.wB;show⟨fd,⟨f,fnT (k:=3) (m:=1) (g:=vN) Fn Cy rfl rfl λcdv A outer s H E hcd hr hT=>?_,hmg,Fn.kp⟩,hb⟩;have e:fd.code= .ref cN:=by
  let⟨oc,od,kV,doc,pm,an,afJ,ct,osl,e1,lk,_⟩:=Fn.ex;show T.hC f oc od fd osl hmg lk
 cases hcd.symm.trans e;show Tn T.toHX.toTxt (LR T.toHX) T.hB hT hr
theorem Xf(T:HX w K mg DC):fV P w K mg base 2 "from_top" 2 yM:=
 gR (k:=1) (g:=Jr) T.zG lV rfl rfl λcdv A outer s H E hr=>(aH (sX 2 lV.nd aq) (aH (tV ahu rfl (KH rfl T.lY (aj (bH (dv 1) aJ) aq)) (Kr 3 4 rfl lV.nd) (aH (bK 5 lV.nd (bA (Oh T) hr {} (aj (bH (dv 0) aJ) (aj (dv 3) (aj (dv 3) aq))))) (aF (Vq 2 lV.nd (cB ["less","cost","rest"] [5] rfl ⟨⟩ ⟨⟩ (fK (dv 4)) (gO (bD (aW {}) (bD (aW {}) (bD (aW {}) gM)))) (λ_ _ _ _ nd=>lN rfl (bM (bx 0 nd) (bM (bx 1 nd) (bM (bx 2 nd) jV)))) (λ_ _ _ _=>cA) (λ_ _ _ _=>(cC (aj (dv 0) (aj (aP c7 (dv 1) (dv 3)) (aj (dv 2) aq)))))))))) (aF (aU (dv 2)))))
theorem Pb(T:HB w K mg DC base cN TP):mK P w K mg base 5 "first_seams" 3 qW ["table","marks","many"] (tz TP):=
 yV (k:=4) (m:=0) (g:=zZ) T.rK Lq rfl rfl λcdv A outer s H E _ hr hT=>((aF (aU (Bq (aV (Rr (YJ hr)) rfl T.zy boot_sorted (aj (bA (Xf T.toHX) hr {} (aj (dv 0) (aj (jo (Uq T) hT hr {} (aj (dv 0) (aj (dv 1) (aj (dv 2) aq)))) aq))) aq)) pG (kO (dv 2))))))
theorem Gp(T:HB w K mg DC base cN TP):mK P w K mg base 6 "least_way" 2 jW ["table","marks"] (tz TP):=
 yV (k:=5) (m:=4) (g:=FW) T.wC uG rfl rfl λcdv A outer s H E _ hr hT=>((aH (bK 2 uG.nd (jo (Pb T) hT hr {} (aj (dv 0) (aj (dv 1) (aj aJ aq))))) (aH (cL (lM (YH (dv 2))) (aF (aU lK)) bR) (aH (Vr 3 4 5 rfl uG.nd (bH (dv 2) aJ)) (aF (aU (cC (aj (dv 4) (aj (dv 5) aq)))))))))
theorem Gq(T:HB w K mg DC base cN TP):mK P w K mg base 10 "best_seam" 3 qw ["picture","marks","manner"] (tz TP):=
 yV (k:=9) (m:=1) (g:=FZ) T.wD Cz rfl rfl λcdv A outer s H E _ hr hT=>((aH (bK 3 Cz.nd (jo (Gp T) hT hr {} (aj (bA (V8 T.toHX) hr {} (aj (dv 0) (aj (dv 2) aq))) (aj (dv 1) aq)))) (aH (cL (bO Qk (dv 3) lK) (aF pC) bR) (aF (aU (bH (dv 3) aJ))))))
theorem Aj(T:HX w K mg DC):fV P w K mg base 1 "cells_along" 2 mD:=
 gR (k:=0) (g:=Aa) T.rM Lr rfl rfl λcdv A outer s H E hr=>(aF (aU (gZ iu rfl T.eZ ahq (aj (cB ["row","place"] [] rfl ⟨⟩ ⟨⟩ (KC rfl T.Fw (aj (dv 0) (aj (dv 1) aq))) (gO (bD (aW {}) (bD (aW {}) gM))) (λ_ _ _ _ nd=>lN rfl (bM (bx 0 nd) (bM (bx 1 nd) jV))) (λ_ _ _ _=>cA) (λ_ _ _ _=>(bH (dv 0) (dv 1)))) aq))))
theorem qP(T:HX w K mg DC):fV P w K mg base 1 "without" 2 iR:=
 gR (k:=0) (g:=Ny) T.Dg W9 rfl rfl λcdv A outer s H E hr=>(aF (aU (gZ iu rfl T.eZ ahq (aj (cB ["row","place"] [] rfl ⟨⟩ ⟨⟩ (KC rfl T.Fw (aj (dv 0) (aj (dv 1) aq))) (gO (bD (aW {}) (bD (aW {}) gM))) (λ_ _ _ _ nd=>lN rfl (bM (bx 0 nd) (bM (bx 1 nd) jV))) (λ_ _ _ _=>cA) (λ_ _ _ _=>(aP c7 (yG (dv 0) pG (kO (dv 1))) (yG (dv 0) (kO (aP c7 (dv 1) aJ)) pG)))) aq))))
theorem Ak(T:HB w K mg DC base cN TP):mK P w K mg base 11 "narrow_once" 3 jQ ["picture","marks","manner"] (tz TP):=
 yV (k:=10) (m:=1) (g:=Ab) T.O6 xU rfl rfl λcdv A outer s H E _ hr hT=>((aH (cL (bO (jC (dg hr)) (aV cR rfl T.dj agh (aj (bH (dv 0) aJ) aq)) aJ) (aF pC) bR) (aH (bK 3 xU.nd (jo (Gq T) hT hr {} (aj (dv 0) (aj (dv 1) (aj (dv 2) aq))))) (aF (aU (cC (aj (bA (qP T.toHX) hr {} (aj (dv 0) (aj (dv 3) aq))) (aj (bA (qP T.toHX) hr {} (aj (dv 1) (aj (dv 3) aq))) (aj (dv 3) (aj (bA (Aj T.toHX) hr {} (aj (dv 0) (aj (dv 3) aq))) aq))))))))))
theorem Ma(T:HB w K mg DC base cN TP):mK P w K mg base 12 "flatten_once" 3 lF ["picture","marks","manner"] (tz TP):=
 yV (k:=11) (m:=4) (g:=xH) T.LC vC rfl rfl λcdv A outer s H E _ hr hT=>((aH (acs 3 4 5 6 rfl vC.nd (jo (Ak T) hT hr {} (aj (bA (mZ T.toHX) hr {} (aj (dv 0) aq)) (aj (bA (mZ T.toHX) hr {} (aj (dv 1) aq)) (aj (dv 2) aq))))) (aF (aU (cC (aj (bA (mZ T.toHX) hr {} (aj (dv 3) aq)) (aj (bA (mZ T.toHX) hr {} (aj (dv 4) aq)) (aj (dv 5) (aj (dv 6) aq)))))))))
theorem Pg(T:HX w K mg DC):fV P w K mg base 1 "mean_behind" 2 qX:=
 gR (k:=0) (g:=Ac) T.rN xV rfl rfl λcdv A outer s H E hr=>(aH (bK 2 xV.nd (aV (uf rfl) rfl T.sS ajS (aj (aP c7 (dv 1) aJ) (aj (aP fJ (aV cR rfl T.dj agh (aj (dv 0) aq)) aJ) aq)))) (aF (aU (aP qD (aP c7 (bH (dv 0) (dv 1)) (bH (dv 0) (dv 2))) aJ))))
theorem Ph(T:HX w K mg DC):fV P w K mg base 2 "means_along" 2 qY:=
 gR (k:=1) (g:=Ad) T.rO Ls rfl rfl λcdv A outer s H E hr=>(aF (aU (gZ iu rfl T.eZ ahq (aj (cB ["row","place"] [] rfl ⟨⟩ ⟨⟩ (KC rfl T.Fw (aj (dv 0) (aj (dv 1) aq))) (gO (bD (aW {}) (bD (aW {}) gM))) (λ_ _ _ _ nd=>lN rfl (bM (bx 0 nd) (bM (bx 1 nd) jV))) (λ_ _ _ _=>cA) (λ_ _ _ _=>(bA (Pg T) hr {} (aj (dv 0) (aj (dv 1) aq))))) aq))))
theorem Al(T:HX w K mg DC):fV P w K mg base 1 "seam_behind" 1 mF:=
 gR (k:=0) (g:=Ae) T.rP Lw rfl rfl λcdv A outer s H E hr=>(aF (aU (gZ iu rfl T.eZ ahq (aj (cB ["place"] [] rfl ⟨⟩ ⟨⟩ (fK (dv 0)) (aW {}) (λ_ _ _ _ nd=>bx 0 nd) (λ_ _ _ _=>cA) (λ_ _ _ _=>(aP c7 (dv 0) aJ))) aq))))
theorem oU(T:HX w K mg DC):fV P w K mg base 1 "with_cells" 3 eY:=
 gR (k:=0) (g:=BX) T.uR Ow rfl rfl λcdv A outer s H E hr=>(aF (aU (gZ iu rfl T.eZ ahq (aj (cB ["row","place","cell"] [] rfl ⟨⟩ ⟨⟩ (abU rfl T.Fw (aj (dv 0) (aj (dv 1) (aj (dv 2) aq)))) (gO (bD (aW {}) (bD (aW {}) (bD (aW {}) gM)))) (λ_ _ _ _ nd=>lN rfl (bM (bx 0 nd) (bM (bx 1 nd) (bM (bx 2 nd) jV)))) (λ_ _ _ _=>cA) (λ_ _ _ _=>(aP c7 (aP c7 (yG (dv 0) pG (kO (dv 1))) (cC (aj (dv 2) aq))) (yG (dv 0) (kO (dv 1)) pG)))) aq))))
theorem Tp(T:HB w K mg DC base cN TP):mK P w K mg base 11 "widen_once" 3 ou ["picture","marks","manner"] (tz TP):=
  yV (k:=10) (m:=3) (g:=BZ) T.Td mL rfl rfl λcdv A outer s H E _ hr hT=>((by
    let⟨ZK,Dl⟩:=T.CP
    let⟨Gn,mj⟩:=T.lX
    show (aH (cL (bO (jC (dg hr)) (aV cR rfl T.dj agh (aj (bH (dv 0) aJ) aq)) (jU rfl mj)) (aF pC) bR) (aH (bK 3 mL.nd (jo (Gq T) hT hr {} (aj (dv 0) (aj (dv 1) (aj (dv 2) aq))))) (aH (bK 4 mL.nd (bA (Al T.toHX) hr {} (aj (dv 3) aq))) (aH (bK 5 mL.nd (bA (Ph T.toHX) hr {} (aj (dv 0) (aj (dv 3) aq)))) (aF (aU (cC (aj (bA (oU T.toHX) hr {} (aj (dv 0) (aj (dv 4) (aj (dv 5) aq)))) (aj (bA (oU T.toHX) hr {} (aj (dv 1) (aj (dv 4) (aj (aP Ew (cC (aj (jU rfl Dl) aq)) (aV cR rfl T.dj agh (aj (dv 3) aq))) aq)))) (aj (dv 3) (aj (dv 5) aq)))))))))))))
theorem Mf(T:HB w K mg DC base cN TP):∃dA,WQ P w K mg base 12 3 (tz TP) RT dA/\mg "SEAM_DEEDS" =some (.ref dA):=by
 let⟨dA,f0,f1,f2,h0,h1,h2,t0,t1,t2,ep,l,e0,e1,e2,m0,m1,m2,md⟩:=T.ac7;let⟨d0,g0,b0⟩:=Ak (P:=P) T;let⟨d1,g1,b1⟩:=Ma (P:=P) T;let⟨d2,g2,b2⟩:=Tp (P:=P) T;show⟨dA,ae3 l e0 e1 e2 {} {} {} g0 b0 m0 g1 b1 m1 g2 b2 m2 {} {} {},md⟩
theorem Pj(T:HB w K mg DC base cN TP):Nq P w K mg base DC 13 "go_along" 1 mH (tz TP):=by
  let⟨f,fd,Fn,fj,hb⟩:=T.rQ
  show⟨f,fd,["self","deed"],Vt (k:=12) (n:=1) (m:=5) (g:=Af) Fn xW rfl rfl λcdv A outer s H E hr hT=>((by
    let⟨dA,Mf,ac8⟩:=Mf (P:=P) T
    show (aaI 12 2 3 4 5 6 rfl xW.nd Mf hT hr {} ac8 (bH (dv 1) aJ) (aj (cu T.dt (oR T.toHX) hr {} (bL 0)) (aj (cu T.dt (Xe T.toHX) hr {} (bL 0)) (aj (KR T.dt (bL 0)) aq))) (aH (yJ (ug 0 T.dt (Tf T) hT hr {} (aj (cC (aj (dv 1) (aj (dv 3) (aj (dv 4) (aj (cC (aj (bH (dv 1) aJ) (aj (dv 5) (aj (dv 6) aq)))) aq))))) aq))) (aF (aci (dv 5))))))),fj,hb⟩
theorem uX(T:HB w K mg DC base cN TP):Nq P w K mg base DC 14 "do_deed" 1 gk (tz TP):=by
 let⟨f,fd,Fn,fj,hb⟩:=T.uT;show⟨f,fd,["self","deed"],Vt (k:=13) (n:=1) (m:=0) (g:=Ca) Fn Ox rfl rfl λcdv A outer s H E hr hT=>((aH (cL (bO aeS (bH (dv 1) aJ) (Vh (ss:=["keep","drop","free"]) rfl T.wu) (by rfl)) (aF pC) bR) (aF (Fe (ug 0 T.dt (Pj T) hT hr {} (aj (dv 1) aq)))))),fj,hb⟩
theorem Tq(T:HB w K mg DC base cN TP):Nq P w K mg base DC 15 "flatten" 0 uq (tz TP):=by
 let⟨f,fd,Fn,fj,hb⟩:=T.uU;show⟨f,fd,["self"],Vt (k:=14) (n:=0) (m:=0) (g:=Cd) Fn Oz rfl rfl λcdv A outer s H E hr hT=>((aF (Fe (ug 0 T.dt (uX T) hT hr {} (aj (cC (aj gF aq)) aq))))),fj,hb⟩
theorem Ur(T:HB w K mg DC base cN TP):Nq P w K mg base DC 15 "narrow" 0 vP (tz TP):=by
 let⟨f,fd,Fn,fj,hb⟩:=T.wF;show⟨f,fd,["self"],Vt (k:=14) (n:=0) (m:=0) (g:=Ga) Fn SQ rfl rfl λcdv A outer s H E hr hT=>((aF (Fe (ug 0 T.dt (uX T) hT hr {} (aj (cC (aj gF aq)) aq))))),fj,hb⟩
theorem jA(T:HX w K mg DC):Jk P w K mg base DC 7 "size" 0 gQ:=by
 let⟨f,fd,Fn,fj,hb⟩:=T.Dh;show⟨f,fd,["self"],Nr (k:=6) (n:=0) (m:=0) (g:=Nz) Fn Xa rfl rfl λcdv A outer s H E hr=>((aF (aU (bA (vG T) hr {} (aj (cu T.dt (oR T) hr {} (bL 0)) aq))))),fj,hb⟩
theorem Xg(T:HB w K mg DC base cN TP):Nq P w K mg base DC 15 "widen" 0 yN (tz TP):=by
 let⟨f,fd,Fn,fj,hb⟩:=T.zH;show⟨f,fd,["self"],Vt (k:=14) (n:=0) (m:=0) (g:=Js) Fn Uj rfl rfl λcdv A outer s H E hr hT=>((aF (Fe (ug 0 T.dt (uX T) hT hr {} (aj (cC (aj gF aq)) aq))))),fj,hb⟩
theorem jJ(T:HB w K mg DC base cN TP):∃fd,Ru (λO H k v=>d9 K O H k v) P w K mg base 16 "fitted" 4 jG fd ["picture","wide","high","manner"] (tz TP)∧KB K fd ["picture","wide","high","manner"] ["manner"] [.inl 0]∧(∃eG,KB K fd ["picture","wide","high","manner"] [] [.inr (.str "worth" eG)]):=by
  let⟨f,fd,Fn,hmg,B⟩:=T.aa8
  show⟨fd,⟨f,fnR (k:=15) (n:=4) (m:=1) (g:=lg) Fn Oe rfl rfl λcdv A outer s H E hr hT=>((by
    let⟨ac9,rR,iU⟩:=rR T.toHX
    let⟨Gn,mj⟩:=T.lX
    show (aH (acr (ks:=["manner"]) 4 (.at 0 .nil) T.dt rR hr {} iU Oe.nd (aj (dv 0) aq) (sY (dv 3) wX) T.dm T.dp) (aH (tW 64 akk (bO Eh (bH (cu T.dt (jA T.toHX) hr {} (bL 4)) aJ) (aV (qJ rfl) rfl T.qy ajr (aj (dv 1) (aj aJ aq)))) (aF (yJ (Bu 4 T.dt (Ur T) hT hr {})))) (aH (tW 64 akk (bO Ib (bH (cu T.dt (jA T.toHX) hr {} (bL 4)) aJ) (aV (uf rfl) rfl T.sS ajS (aj (dv 1) (aj (jU rfl mj) aq)))) (aF (yJ (Bu 4 T.dt (Xg T) hT hr {})))) (aH (cL (bO (jC (dg hr)) (bH (cu T.dt (jA T.toHX) hr {} (bL 4)) aJ) (dv 1)) (aF (tW 64 akk (bO Eh (bH (cu T.dt (jA T.toHX) hr {} (bL 4)) aJ) (aV (qJ rfl) rfl T.qy ajr (aj (dv 2) (aj aJ aq)))) (aF (yJ (Bu 4 T.dt (Tq T) hT hr {}))))) bR) (aF (acj (bL 4))))))))),hmg,Fn.kp⟩,B⟩
theorem Oi(T:HB w K mg DC base cN TP):mK P w K mg base 17 "_law_no" 2 nH ["_law_picture_here","_law_mode"] (tz TP):=
  yV (k:=16) (m:=1) (g:=NK) T.Di JR rfl rfl λcdv A outer s H E _ hr hT=>((by
    let⟨ZM,jJ,gK,⟨eG,lG⟩⟩:=jJ T
    let⟨aes,Us,Ut⟩:=T.wA
    let⟨Uu,oN,Xh⟩:=T.oN
    let⟨Tr,lZ,Uv⟩:=T.lZ
    show (aH (adL 2 JR.nd rfl rfl rfl Us Ut (λ_ _=>(aF (aaF (Fl (ks:=["manner"]) (.at 0 .nil) jJ hT hr {} gK (aj (dv 0) (aj aJ (aj aJ aq))) (sY (dv 1) wX))))) (λ_=>(aF (aU (jd (aj (Rg 2 rfl T.dY (pe_glob (v:= .ref Tr) rfl lZ rfl {}) (λ_ z=>z) Uv) (aj (Rg 2 rfl T.dY (pe_glob (v:= .ref Uu) rfl oN rfl {}) (λ_ z=>z) Xh) aq))))))) (aF (aU (jd aq))))))
theorem Mg(T:HX w K mg DC):fV P w K mg base 2 "_law_picture" 4 pK:=
 gR (k:=1) (g:=xJ) T.qd oJ rfl rfl λcdv A outer s H E hr=>(aH (abL 4 5 rfl oJ.nd (bH (jd (aj aJ (aj aJ (aj aJ (aj aJ aq))))) (bA (gw T) hr {} (aj (dv 0) (aj (dv 1) (aj aJ aq))))) aq) (aH (tV ahu rfl (ju rfl T.iM (aj (dv 3) aq)) (yw 6 oJ.nd) (aF (Ij 5 (gZ iu rfl T.eZ ahq (aj (cB ["_law_x"] [1,2,4,0,6] rfl ⟨⟩ ⟨⟩ (ju rfl T.iM (aj (dv 2) aq)) (aW {}) (λ_ _ _ _ nd=>bx 0 nd) (λ_ _ _ _=>cA) (λ_ _ _ _=>(bA (gw T) hr {} (aj (dv 4) (aj (aP jN (aP jN (aP jN (dv 1) aJ) (aP qC (dv 2) (dv 5))) (dv 0)) (aj (dv 3) aq)))))) aq))))) (aF (aU (gZ iu rfl T.eZ ahq (aj (dv 5) aq))))))
theorem Uw(T:HX w K mg DC):fV P w K mg base 3 "_law_some" 4 vQ:=
 gR (k:=2) (g:=Gb) T.wG SX rfl rfl λcdv A outer s H E hr=>(aF (aU (bA (Mg T) hr {} (aj (dv 0) (aj (aP jN (dv 1) aJ) (aj (aP jN aJ (bA (gw T) hr {} (aj (dv 0) (aj (dv 1) (aj (dv 2) aq))))) (aj (aP jN aJ (bA (gw T) hr {} (aj (dv 0) (aj (aP jN (dv 1) aJ) (aj (dv 3) aq))))) aq)))))))
theorem J6(T:HX w K mg DC):Jk P w K mg base DC 1 "began" 0 oA:=by
 let⟨f,fd,Fn,fj,hb⟩:=T.zJ;show⟨f,fd,["self"],Nr (k:=0) (n:=0) (m:=0) (g:=Jt) Fn Uk rfl rfl λcdv A outer s H E hr=>((aF (aU (bH (bH (Fi T.dt (bL 0)) aJ) aJ)))),fj,hb⟩
theorem vH(T:HX w K mg DC):Jk P w K mg base DC 1 "pages_done" 0 iT:=by
 let⟨f,fd,Fn,fj,hb⟩:=T.oO;show⟨f,fd,["self"],Nr (k:=0) (n:=0) (m:=0) (g:=vo) Fn Hw rfl rfl λcdv A outer s H E hr=>((aF (aU (Bq (Fi T.dt (bL 0)) (kO aJ) (kO (aP c7 (Fg T.dt (bL 0)) aJ)))))),fj,hb⟩
theorem HS(T:HX w K mg DC):Jk P w K mg base DC 2 "log" 0 pL:=by
 let⟨f,fd,Fn,fj,hb⟩:=T.HJ;show⟨f,fd,["self"],Nr (k:=1) (n:=0) (m:=0) (g:=RV) Fn ZJ rfl rfl λcdv A outer s H E hr=>((aF (aU (cB ["deed","picture","marks","step"] [] rfl ⟨⟩ ⟨⟩ (fK (cu T.dt (vH T) hr {} (bL 0))) (gO (bD (aW {}) (bD (aW {}) (bD (aW {}) (bD (aW {}) gM))))) (λ_ _ _ _ nd=>lN rfl (bM (bx 0 nd) (bM (bx 1 nd) (bM (bx 2 nd) (bM (bx 3 nd) jV))))) (λ_ _ _ _=>cA) (λ_ _ _ _=>(dv 0)))))),fj,hb⟩
theorem Ux(T:HX w K mg DC):aaK P w K mg base DC 3 vR:=by
 let⟨f,fd,Fn,fj,hb⟩:=T.wH;show⟨f,fd,["self","other"],fnE (k:=2) (m:=0) (g:=Gd) Fn S5 rfl rfl λcdv A outer s H E hr=>((aH (cL (lM (tH (aaJ T.dt T.dq (bL 1) rfl T.dY rfl T.dm))) (aF (aU j9)) bR) (aF (aU (nP (wN (jC (dg hr)) (cu T.dt (J6 T) hr {} (bL 0)) (cu T.dt (J6 T) hr {} (bL 1))) (nP (wN (jC (dg hr)) (KR T.dt (bL 0)) (KR T.dt (bL 1))) (tL (wN (jC (dg hr)) (cu T.dt (HS T) hr {} (bL 0)) (cu T.dt (HS T) hr {} (bL 1)))))))))),fj,hb⟩
theorem ZP(T:HX w K mg DC):fV P w K mg base 2 "is_mark" 1 NQ:=
  gR (k:=1) (g:=NP) T.Dj Xb rfl rfl λcdv A outer s H E hr=>(by
    let⟨ZK,Dl⟩:=T.CP
    let⟨aep,Tj⟩:=T.JV
    show (aF (aU (nP (bA (zO T) hr {} (aj (dv 0) aq)) (tL (GR rZ rZ (jU rfl Dl) (dv 0) (jU rfl Tj)))))))
theorem Mh(T:HX w K mg DC):fV P w K mg base 3 "is_marks_row" 2 xM:=
 gR (k:=2) (g:=xK) T.qe JT rfl rfl λcdv A outer s H E hr=>(aF (aU (nP (wU (ans:=jw) T.pZ (dv 0) rfl T.dY ahY rfl T.eZ ahq) (nP (wN (jC (dg hr)) (aV cR rfl T.dj agh (aj (dv 0) aq)) (dv 1)) (tL (aV (Ax rfl) rfl T.zx boot_all (aj (cB ["mark"] [] rfl ⟨⟩ ⟨⟩ (fK (dv 0)) (aW {}) (λ_ _ _ _ nd=>bx 0 nd) (λ_ _ _ _=>cA) (λ_ _ _ _=>(bA (ZP T) hr {} (aj (dv 0) aq)))) aq)))))))
theorem Xi(T:HX w K mg DC):fV P w K mg base 4 "is_marks" 2 Jv:=
 gR (k:=3) (g:=Ju) T.zK Ul rfl rfl λcdv A outer s H E hr=>(aH (cL (DW.dt (Wb (lM (tH (wU (ans:=jw) T.pZ (dv 0) rfl T.dY ahY rfl T.eZ ahq))) (Qu (bO (u5 (dg hr)) (aV cR rfl T.dj agh (aj (dv 0) aq)) (aV cR rfl T.dj agh (aj (dv 1) aq)))))) (aF (aU j9)) bR) (aF (aU (aV (Ax rfl) rfl T.zx boot_all (aj (cB ["row"] [1] rfl ⟨⟩ ⟨⟩ (fK (dv 0)) (aW {}) (λ_ _ _ _ nd=>bx 0 nd) (λ_ _ _ _=>cA) (λ_ _ _ _=>(bA (Mh T) hr {} (aj (dv 0) (aj (aV cR rfl T.dj agh (aj (bH (dv 1) aJ) aq)) aq))))) aq)))))
theorem Tt(T:HX w K mg DC):fV P w K mg base 5 "full_marks" 2 oE:=
 gR (k:=4) (g:=Ce) T.uV OD rfl rfl λcdv A outer s H E hr=>(aH (cL (bO Qk (dv 0) lK) (aF (aU (bA (JZ T) hr {} (aj (dv 1) aq)))) bR) (aH (cL (lM (tH (bA (Xi T) hr {} (aj (dv 0) (aj (dv 1) aq))))) (aF pC) bR) (aF (aU (dv 0)))))
theorem Tv(T:HX w K mg DC):fV P w K mg base 2 "need_width" 3 ur:=
 gR (k:=1) (g:=Cg) T.uW OJ rfl rfl λcdv A outer s H E hr=>(aF (cL (DW.dt (Wb (lM (tH (bA (zO T) hr {} (aj (dv 0) aq)))) (Qu (lM (Z9 rZ rZ (dv 1) (dv 0) (dv 2)))))) (aF pC) bR))
theorem ada(T:HB w K mg DC base cN TP):mK P w K mg base 10 "taken" 4 KZ ["picture","many","manner","marks"] (tz TP):=
 yV (k:=9) (m:=7) (g:=Vz) T.LK lA rfl rfl λcdv A outer s H E _ hr hT=>((aH (Im 4 5 rfl lA.nd (dv 0) (dv 3)) (aH (sX 6 lA.nd aq) (aH (bK 7 lA.nd aJ) (aH (tW 64 ahu (bO Ib (aV cR rfl T.dj agh (aj (dv 6) aq)) (dv 1)) (aH (bK 8 lA.nd (jo (Gp T) hT hr {} (aj (bA (V8 T.toHX) hr {} (aj (dv 4) (aj (dv 2) aq))) (aj (dv 5) aq)))) (aH (cL (bO Qk (dv 8) lK) (aF (aU lK)) bR) (aH (En 9 10 rfl lA.nd (dv 8)) (aH (Ij 6 (cC (aj (dv 10) (aj (bA (Aj T.toHX) hr {} (aj (dv 4) (aj (dv 10) aq))) aq)))) (aH (adF 7 lA.nd (dv 9)) (aF (Im 4 5 rfl lA.nd (bA (qP T.toHX) hr {} (aj (dv 4) (aj (dv 10) aq))) (bA (qP T.toHX) hr {} (aj (dv 5) (aj (dv 10) aq))))))))))) (aF (aU (cC (aj (dv 4) (aj (dv 6) (aj (dv 7) aq)))))))))))
theorem Xj(T:HB w K mg DC base cN TP):mK P w K mg base 11 "taken_to" 4 yO ["picture","wide","manner","marks"] (tz TP):=
 yV (k:=10) (m:=1) (g:=Jw) T.zL Gj rfl rfl λcdv A outer s H E _ hr hT=>((aH (Em (Bl (qg T.toHX) hr {} (aj (dv 0) aq))) (aH (Em (Bl (Ai T.toHX) hr {} (aj (dv 2) aq))) (aH (bK 4 Gj.nd (bA (Tt T.toHX) hr {} (aj (dv 3) (aj (dv 0) aq)))) (aH (Em (bA (Tv T.toHX) hr {} (aj (dv 1) (aj aJ (aj (aV cR rfl T.dj agh (aj (bH (dv 0) aJ) aq)) aq))))) (aF (aU (jo (ada T) hT hr {} (aj (dv 0) (aj (aP fJ (aV cR rfl T.dj agh (aj (bH (dv 0) aJ) aq)) (dv 1)) (aj (dv 2) (aj (dv 4) aq))))))))))))
theorem zP(T:HB w K mg DC base cN TP):∃fd,Bm P w K mg base 12 "narrowed" 4 yP fd ["picture","wide","manner","marks"] (tz TP)/\KB K fd ["picture","wide","manner","marks"] ["manner"] [.inl 0,.inr .none]:=by
 let⟨f,fd,Fn,hmg,B⟩:=T.Xd;show⟨fd,⟨f,fnT (k:=11) (m:=1) (g:=Jx) Fn Gk rfl rfl λcdv A outer s H E _ hr hT=>((aH (bK 4 Gk.nd (jo (Xj T) hT hr {} (aj (dv 0) (aj (dv 1) (aj (dv 2) (aj (dv 3) aq)))))) (aH (cL (bO Qk (dv 4) lK) (aF (aU lK)) bR) (aF (aU (bH (dv 4) aJ)))))),hmg,Fn.kp⟩,B⟩
theorem Xk(T:HX w K mg DC):fV P w K mg base 8 "ahead_of" 2 sI:=
 gR (k:=7) (g:=Jy) T.zM Gm rfl rfl λcdv A outer s H E hr=>(aH (Vr 2 3 4 rfl Gm.nd (dv 0)) (aH (cL (bO (jC (dg hr)) (dv 2) gF) (aF (aU (bA (oU T) hr {} (aj (dv 1) (aj (dv 3) (aj (dv 4) aq)))))) bR) (aH (cL (bO (jC (dg hr)) (dv 2) gF) (aF (aU (bA (mZ T) hr {} (aj (bA (oU T) hr {} (aj (bA (mZ T) hr {} (aj (dv 1) aq)) (aj (dv 3) (aj (dv 4) aq)))) aq)))) bR) (aF (aU (bA (qP T) hr {} (aj (dv 1) (aj (bA (Al T) hr {} (aj (dv 3) aq)) aq))))))))
theorem Xl(T:HX w K mg DC):Jk P w K mg base DC 2 "steps" 0 yQ:=by
 let⟨f,fd,Fn,fj,hb⟩:=T.zN;show⟨f,fd,["self"],Nr (k:=1) (n:=0) (m:=0) (g:=Jz) Fn Um rfl rfl λcdv A outer s H E hr=>((aF (aU (cB ["deed","picture","marks","step"] [] rfl ⟨⟩ ⟨⟩ (fK (cu T.dt (vH T) hr {} (bL 0))) (gO (bD (aW {}) (bD (aW {}) (bD (aW {}) (bD (aW {}) gM))))) (λ_ _ _ _ nd=>lN rfl (bM (bx 0 nd) (bM (bx 1 nd) (bM (bx 2 nd) (bM (bx 3 nd) jV))))) (λ_ _ _ _=>(abG (bO aah (dv 3) lK))) (λ_ _ _ _=>(dv 3)))))),fj,hb⟩
theorem Uy(T:HX w K mg DC):adW P w K mg base 9 "origin_of" 0 vU:=by
 let⟨f,fd,Fn,hmg,hb⟩:=T.wI;show⟨f,fd,["desk"],Nr (k:=8) (n:=0) (m:=2) (g:=Ge) Fn oM rfl rfl λcdv A outer s H E hr=>((aH (bK 1 oM.nd (cu T.dt (oR T) hr {} (bL 0))) (aH (tV ahu rfl (adN rfl T.sU (aj (cu T.dt (Xl T) hr {} (bL 0)) aq)) (yw 2 oM.nd) (aF (bK 1 oM.nd (bA (Xk T) hr {} (aj (dv 2) (aj (dv 1) aq)))))) (aF (aU (dv 1)))))),hmg,Fn.kp,hb⟩
theorem ok_law{fd:agx}(Fn:Fun K "law" "law" sO f fd)(hmg:mg "law" =some (.ref f))(T:HB w K mg DC base cN TP):Bm P w K mg base 18 "law" 1 JB fd ["_law_script"] (tz TP):=
  ⟨f,fnT (k:=17) (m:=11) (g:=abA) Fn lW rfl rfl λcdv A outer s H E _ hr hT=>((by
    let⟨ZM,jJ,gK,⟨eG,lG⟩⟩:=jJ T
    let⟨aeL,zP,lB⟩:=zP T
    show (aH (Im 1 2 rfl lW.nd (bA (Uw T.toHX) hr {} (aj (dv 0) (aj aJ (aj aJ (aj aJ aq))))) (bA (O9 T.toHX) hr {} (aj (dv 0) (aj aJ aq)))) (aH (En 3 4 rfl lW.nd (bA (vG T.toHX) hr {} (aj (dv 1) aq))) (aH (Im 5 6 rfl lW.nd (aP fJ (bA (gw T.toHX) hr {} (aj (dv 0) (aj aJ (aj aJ aq)))) aJ) (aP fJ (bA (gw T.toHX) hr {} (aj (dv 0) (aj aJ (aj aJ aq)))) aJ)) (aH (cL (bO (jC (dg hr)) (bA (gw T.toHX) hr {} (aj (dv 0) (aj aJ (aj aJ aq)))) aJ) (aF (bK 5 lW.nd aJ)) bR) (aH (acn 7 lW.nd (Fl (ks:=["manner"]) (.at 0 .nil) jJ hT hr {} gK (aj (dv 1) (aj (dv 5) (aj (dv 6) aq))) (sY (dv 2) wX))) (aH (bK 8 lW.nd (aV (qJ rfl) rfl T.qy ajr (aj aJ (aj (aV (uf rfl) rfl T.sS ajS (aj aJ (aj (dv 5) aq))) aq)))) (aH (cL (bO Ib (dv 5) aJ) (aF (cL (bO (u5 (dg hr)) (cu T.dt (jA T.toHX) hr {} (bL 7)) (cC (aj aJ (aj (dv 4) aq)))) (aF (aU j9)) bR)) (aF (cL (bO Eh (dv 5) aJ) (aF (cL (bO (u5 (dg hr)) (cu T.dt (jA T.toHX) hr {} (bL 7)) (cC (aj aJ (aj (dv 4) aq)))) (aF (aU j9)) bR)) (aF (cL (bO (u5 (dg hr)) (cu T.dt (jA T.toHX) hr {} (bL 7)) (cC (aj (dv 8) (aj (aV (uf rfl) rfl T.sS ajS (aj (dv 4) (aj (aV (qJ rfl) rfl T.qy ajr (aj aJ (aj (dv 6) aq))) aq))) aq)))) (aF (aU j9)) bR))))) (aH (abW 9 lW.nd ["_law_deed"] [] rfl ⟨⟩ ⟨⟩ (fK (cu T.dt (HS T.toHX) hr {} (bL 7))) (aW {}) (λ_ _ _ _ nd=>bx 0 nd) (λ_ _ _ _=>cA) (λ_ _ _ _=>(bH (dv 0) aJ))) (aH (bK 10 lW.nd (abt (bO Ib (dv 8) (dv 3)) gF gF)) (aH (cL (bO (u5 (dg hr)) (dv 9) (aP c7 (aP Vx (jd (aj (dv 10) aq)) (aV Iv rfl T.Fv boot_abs (aj (aP fJ (dv 8) (dv 3)) aq))) (aP Vx (jd (aj gF aq)) (aP fJ (dv 4) (bH (cu T.dt (jA T.toHX) hr {} (bL 7)) aJ))))) (aF (aU j9)) bR) (aH (cL (bO (u5 (dg hr)) (aaD (Uy T.toHX) hr {} (bL 7) aq) (dv 1)) (aF (aU j9)) bR) (aH (cL (ad1 T.dt T.dq (Ux T.toHX) hr {} (acu (.str _ _ .nil) jJ hT hr {} lG (aj (dv 1) (aj (dv 3) (aj (dv 4) aq)))) (Fl (ks:=["manner"]) (.at 0 .nil) jJ hT hr {} gK (aj (dv 1) (aj (dv 3) (aj (dv 4) aq))) (sY gF wX))) (aF (aU j9)) bR) (aH (cL (bO rZ (dv 8) (dv 3)) (aF (cL (bO (u5 (dg hr)) (cu T.dt (oR T.toHX) hr {} (Fl (ks:=["manner"]) (.at 0 .nil) jJ hT hr {} gK (aj (dv 1) (aj (dv 8) (aj (dv 4) aq))) (sY (dv 2) wX))) (abY (ks:=["manner"]) (.at 0 (.non .nil)) zP hT hr {} lB (aj (dv 1) (aj (dv 8) aq)) (sY (dv 2) wX))) (aF (aU j9)) bR)) bR) (aH (bK 11 lW.nd (jd (aj (jo (Oi T) hT hr {} (aj (cC (aj (cC (aj aJ aq)) aq)) (aj gF aq))) (aj (jo (Oi T) hT hr {} (aj (dv 1) (aj gF aq))) aq)))) (aF (aU (wN (jC (dg hr)) (dv 11) (jd (aj (jd (aj j9 (aj j9 aq))) (aj (jd (aj j9 (aj j9 aq))) aq)))))))))))))))))))))),hmg,Fn.kp⟩
end
theorem all_mk{l:akR}{w:af4}{h:af2}{fa jT iQ gW jr zQ sV Xm DC dA:afK}(X:K.In h)(G:h.Ns afU mg)(hfa:mg "law" =some (.ref fa))
  {Mi xX:Option afK}{Mj:Array (Option afL)}{Ml xY xZ yc qj yd:afL}
  {Mp Mq:Option afK}{Mr:Array (Option afL)}{Ms Mt Mu Mv yg Mw:afL}
  {Ka Kc:Option afK}{Kd:Array (Option afL)}{Ke Kf Kg Kh vI Kl:afL}
  {Pk Pn:Option afK}{Pq:Array (Option afL)}{Px Py Pz PB Am PJ:afL}
  {ZQ Dm:Option afK}{ZR:Array (Option afL)}{ZS Dn Dq Dr vJ Ds:afL}
  {Uz Gr:Option afK}{UG:Array (Option afL)}{UJ Gs Gu Gv wJ Gw:afL}
  {aeu ZV:Option afK}{aev:Array (Option afL)}{aew ZW ZX Z1 Tw Z4:afL}
  {adb:Tok}(CP:afW K afU "FREE" =some (some (.int 0 adb)))
  {ade:Tok}(JV:afW K afU "GONE" =some (some (.int 2 ade)))
  {adf:Tok}(S6:afW K afU "KEPT" =some (some (.int 1 adf)))
  {Tz:Tok}(wk:afW K afU "MOST_CELL" =some (some (.int 99 Tz)))
  {TF:Tok}(lX:afW K afU "MOST_LONG" =some (some (.int 20 TF)))
  {Dt:afK}{TJ:Nat}{TQ:Array (Option afL)}{Mx Mz MF:Tok}(wu:afW K afU "BOX_WORDS" =some (some (.ref Dt)))(UL:K.lookup Dt=some ⟨.type "tuple",none,.seq #[.str "keep" Mx,.str "drop" Mz,.str "free" MF] TJ,TQ⟩)
  {Km:afK}{Xn:Nat}{Xo:Array (Option afL)}{TV TX:Tok}(CQ:afW K afU "MANNERS" =some (some (.ref Km)))(Z5:K.lookup Km=some ⟨.type "tuple",none,.seq #[.str "worth" TV,.str "joins" TX] Xn,Xo⟩)
  (Fv:afW K afU "abs" =some none)
  (zx:afW K afU "all" =some none)
  (S7:afW K afU "bool" =some none)
  (lY:afW K afU "enumerate" =some none)
  (Xc:afW K afU "int" =some none)
  (dY:afW K afU "isinstance" =some none)
  (dj:afW K afU "len" =some none)
  (S8:afW K afU "list" =some none)
  (qy:afW K afU "max" =some none)
  (sS:afW K afU "min" =some none)
  (iM:afW K afU "range" =some none)
  (sU:afW K afU "reversed" =some none)
  (zy:afW K afU "sorted" =some none)
  (eZ:afW K afU "tuple" =some none)
  (Fw:afW K afU "zip" =some none)
  (JW:∀d:D,afX K (.type (kI d)) (.type "int")=some (Es (kI d)))
  (CV:∀d:D,afX K (.type (kI d)) (.type "bool")=some (yC (kI d)))
  (pZ:∀d:D,afX K (.type (kI d)) (.type "tuple")=some (jw (kI d)))
  (JX:∀d:D,afX K (.type (kI d)) (.type "list")=some (QH (kI d)))
  {cG:afK}(lH:afW K afU "NoManner" =some (some (.ref cG)))
  {bZ:afK}(jX:afW K afU "NoPicture" =some (some (.ref bZ)))
  {mq:afK}(UW:afW K afU "SeamError" =some (some (.ref mq)))
  (zR:aji K cG aar "ValueError.__new__" =true)
  (Gx:af8 K (.ref cG) "__getattribute__" =some (some (.builtin "BaseException.__getattribute__")))(Gy:af8 K (.ref cG) "__getattr__" =some none)(Gz:(aiO K cG).isSome=true)(GC:af8 K (.ref cG) "__class__" =some (some (.builtin "object.__class__")))
  (GD:ah4 K (.builtin "object.__class__") "__get__" =some (some (.builtin "getset_descriptor.__get__")))(GF:aiu K (.builtin "object.__class__")=some true)(GJ:ahL K cG (.type "object")=some true)(GK:ahL K cG (.type "BaseException")=some true)
  (oV:ai6 K (.ref cG) (.ref mq)=some true)
  (j7:afX K (.ref cG) (.ref cG)=some true)
  (jK:afX K (.ref cG) (.ref bZ)=some false)
  (wK:aji K bZ aar "ValueError.__new__" =true)
  (Du:af8 K (.ref bZ) "__getattribute__" =some (some (.builtin "BaseException.__getattribute__")))(Dv:af8 K (.ref bZ) "__getattr__" =some none)(Dw:(aiO K bZ).isSome=true)(Dy:af8 K (.ref bZ) "__class__" =some (some (.builtin "object.__class__")))
  (Dz:ah4 K (.builtin "object.__class__") "__get__" =some (some (.builtin "getset_descriptor.__get__")))(DP:aiu K (.builtin "object.__class__")=some true)(DR:ahL K bZ (.type "object")=some true)(Ea:ahL K bZ (.type "BaseException")=some true)
  (nM:ai6 K (.ref bZ) (.ref mq)=some true)
  (jL:afX K (.ref bZ) (.ref cG)=some false)
  (jt:afX K (.ref bZ) (.ref bZ)=some true)
  (Z6:afW K afU "Desk" =some (some (.ref DC)))(aex:aiH K DC Str.empty=true)(aey:aja K DC=true)(aez:ake K DC=true)(aeA:af8 K (.ref DC) "__setattr__" =some (some (.builtin "object.__setattr__")))(aeB:af8 K (.ref DC) "manner" =some none)(aeC:af8 K (.ref DC) "pages" =some none)(aeD:af8 K (.ref DC) "at" =some none)
  (aeE:af8 K (.ref DC) "__class__" =some (some (.builtin "object.__class__")))(aeF:ah4 K (.builtin "object.__class__") "__get__" =some (some (.builtin "getset_descriptor.__get__")))(aeG:aiu K (.builtin "object.__class__")=some true)(aeH:ahL K DC (.type "object")=some true)(abe:afX K (.ref DC) (.ref DC)=some true)(aeI:af8 K (.ref DC) "__ne__" =some (some (.builtin "object.__ne__")))(aeJ:akO K DC=true)(abf:agg K (.ref DC)=true)
  {afC:Nat}{td0 td1 td2:Tok}{hd0 hd1 hd2:Int}(adg:afW K afU "SEAM_DEEDS" =some (some (.ref dA)))(adh:K.lookup dA=some ⟨.type "dict",none,.dict #[⟨hd0,.str "narrow" td0,.ref iQ⟩,⟨hd1,.str "flatten" td1,.ref gW⟩,⟨hd2,.str "widen" td2,.ref jr⟩] afC,#[]⟩)(abg:hd0=keyH w (.inr "narrow"))(abh:hd1=keyH w (.inr "flatten"))(abj:hd2=keyH w (.inr "widen"))
  (uM:DX K "_law_drawn" ux)
  (rH:DX K "_law_manner" qZ)
  (zB:DX K "all_free" yW)
  (rJ:DX K "need_manner" q8)
  (CW:DX K "is_line" Cr)
  (zE:DX K "is_whole" yX)
  (CZ:DX K "is_cell" Cu)
  (Hy:DX K "is_row" Hr)
  (uN:DX K "is_picture" uz)
  (qb:DX K "need_picture" pW)
  (PL:af8 K (.ref DC) "__init__" =some (some (.ref jT)))(PN:aiZ K (.ref jT)=true)(PX:K.lookup jT=some ⟨Ml,Mi,.func (agy "__init__" "Desk.__init__" (defArgs d8) (defBody d8) (defScope d8) .none xY xZ yc xX qj yd),Mj⟩)(P0:ahd K qj "Desk.__init__" =true)(Qa:agg K (.ref jT)=true)
  (zF:DN K DC "marks" "Desk.marks" yZ)
  (uO:DN K DC "picture" "Desk.picture" uD)
  (uP:DN K DC "turn_to" "Desk.turn_to" uE)
  (S9:DX K "gaps" SM)
  (uQ:DX K "join_fares" uF)
  (Dc:DX K "size_of" Cv)
  (Hz:DX K "turned" Ht)
  (HD:DX K "worths" Hu)
  (Ly:DX K "fares" Lp)
  (Df:DX K "fare_of" Cw)
  (Tc:DX K "near" SN)
  (HF:DX K "onward" Hv)
  (Lz:DX K "swept" tD)
  (wB:DX K "best_ways" iW)
  (zG:DX K "from_top" za)
  (rK:DX K "first_seams" q9)
  (wC:DX K "least_way" vW)
  (wD:DX K "best_seam" vX)
  (rM:DX K "cells_along" rA)
  (Dg:DX K "without" CG)
  (Ao:afW K afU "narrow_once" =some (some (.ref iQ)))(Qc:K.lookup iQ=some ⟨Ms,Mp,.func (agy "narrow_once" "narrow_once" (defArgs iK) (defBody iK) (defScope iK) .none Mt Mu Mv Mq yg Mw),Mr⟩)(Qd:ahd K yg "narrow_once" =true)(Qf:agg K (.ref iQ)=true)
  (yh:afW K afU "flatten_once" =some (some (.ref gW)))(MJ:K.lookup gW=some ⟨Ke,Ka,.func (agy "flatten_once" "flatten_once" (defArgs gU) (defBody gU) (defScope gU) .none Kf Kg Kh Kc vI Kl),Kd⟩)(MK:ahd K vI "flatten_once" =true)(MN:agg K (.ref gW)=true)
  (rN:DX K "mean_behind" rC)
  (rO:DX K "means_along" rE)
  (rP:DX K "seam_behind" rF)
  (uR:DX K "with_cells" uH)
  (Eb:afW K afU "widen_once" =some (some (.ref jr)))(TY:K.lookup jr=some ⟨Px,Pk,.func (agy "widen_once" "widen_once" (defArgs jq) (defBody jq) (defScope jq) .none Py Pz PB Pn Am PJ),Pq⟩)(T4:ahd K Am "widen_once" =true)(T5:agg K (.ref jr)=true)
  (rQ:DN K DC "go_along" "Desk.go_along" rG)
  (uT:DN K DC "do_deed" "Desk.do_deed" uI)
  (uU:DN K DC "flatten" "Desk.flatten" uJ)
  (wF:DN K DC "narrow" "Desk.narrow" vY)
  (Dh:DN K DC "size" "Desk.size" CJ)
  (zH:DN K DC "widen" "Desk.widen" zf)
  (abk:afW K afU "fitted" =some (some (.ref zQ)))(abl:K.lookup zQ=some ⟨ZS,ZQ,.func (agy "fitted" "fitted" (defArgs gD) (defBody gD) (defScope gD) .none Dn Dq Dr Dm vJ Ds),ZR⟩)(abm:ahd K vJ "fitted" =true)(abn:agg K (.ref zQ)=true)
  (Di:DX K "_law_no" CK)
  (qd:DX K "_law_picture" pX)
  (wG:DX K "_law_some" vZ)
  (zJ:DN K DC "began" "Desk.began" zj)
  (oO:DN K DC "pages_done" "Desk.pages_done" oK)
  (HJ:DN K DC "log" "Desk.log" Hx)
  (wH:DN K DC "__eq__" "Desk.__eq__" wg)
  (Dj:DX K "is_mark" CN)
  (qe:DX K "is_marks_row" pY)
  (zK:DX K "is_marks" zm)
  (uV:DX K "full_marks" uK)
  (uW:DX K "need_width" uL)
  (LK:DX K "taken" Lx)
  (zL:DX K "taken_to" zp)
  (Xp:afW K afU "narrowed" =some (some (.ref sV)))(Xq:K.lookup sV=some ⟨UJ,Uz,.func (agy "narrowed" "narrowed" (defArgs gJ) (defBody gJ) (defScope gJ) .none Gs Gu Gv Gr wJ Gw),UG⟩)(Xr:ahd K wJ "narrowed" =true)(Xu:agg K (.ref sV)=true)
  (zM:DX K "ahead_of" zq)
  (zN:DN K DC "steps" "Desk.steps" zu)
  (wI:DX K "origin_of" wj)
  (Xv:afW K afU "law" =some (some (.ref Xm)))(ae8:K.lookup Xm=some ⟨aew,aeu,.func (agy "law" "law" (defArgs sO) (defBody sO) (defScope sO) .none ZW ZX Z1 ZV Tw Z4),aev⟩)(ae9:ahd K Tw "law" =true)(afa:agg K (.ref Xm)=true)
  {eG:Tok}
  (iU:KB K (agy "__init__" "Desk.__init__" (defArgs d8) (defBody d8) (defScope d8) .none xY xZ yc xX qj yd) ["self","picture","manner"] ["manner"] [.inl 0])
  (lG:KB K (agy "fitted" "fitted" (defArgs gD) (defBody gD) (defScope gD) .none Dn Dq Dr Dm vJ Ds) ["picture","wide","high","manner"] [] [.inr (.str "worth" eG)])
  (gK:KB K (agy "fitted" "fitted" (defArgs gD) (defBody gD) (defScope gD) .none Dn Dq Dr Dm vJ Ds) ["picture","wide","high","manner"] ["manner"] [.inl 0])
  (lB:KB K (agy "narrowed" "narrowed" (defArgs gJ) (defBody gJ) (defScope gJ) .none Gs Gu Gv Gr wJ Gw) ["picture","wide","manner","marks"] ["manner"] [.inl 0,.inr .none])
  :∃fd:agx,(∀(s:afN) (v:afL),ajv s fd ⟨[v],[]⟩ [("_law_script",v)])/\∀(base:af2) (c TP:afK),K.In base->base.Ns afU mg->qu base mg c TP->Bp K mg "best_ways" c->FnOk l.prog w K mg base CX0 18 fa fd ["_law_script"] (spT [(TP,"best_ways.<locals>.first_ones")] K 1 JB):=by
 have e:=hfa.symm.trans (agq X G Xv);cases e;have Ko:FJ K cG:=⟨Gx,Gy,Gz,GC,GD,GF,GJ,GK⟩;have GQ:FJ K bZ:=⟨Du,Dv,Dw,Dy,Dz,DP,DR,Ea⟩;have wA:∀c C',iB c "SeamError" =true->afW K afU c=some (some (.ref C'))->ai6 K (.ref C') (.ref mq)=some true:=by
  intro c C' h1 h2;rcases Bv h1 with rfl |rfl
  .cases jX.symm.trans h2;show nM
  .cases lH.symm.trans h2;show oV
 have oN:∀c C',iB c c=true->afW K afU c=some (some (.ref C'))->FJ K C'/\afX K (.ref C') (.ref cG)=some (iB c "NoManner"):=by
  intro c C' h1 h2;rcases Bv h1 with rfl |rfl
  .cases jX.symm.trans h2;show⟨GQ,by rw[show iB "NoPicture" "NoManner" =false from by decide];show jL⟩
  .cases lH.symm.trans h2;show⟨Ko,by rw[show iB "NoManner" "NoManner" =true from by decide];show j7⟩
 have lZ:∀c C',iB c c=true->afW K afU c=some (some (.ref C'))->FJ K C'/\afX K (.ref C') (.ref bZ)=some (iB c "NoPicture"):=by
  intro c C' h1 h2;rcases Bv h1 with rfl |rfl
  .cases jX.symm.trans h2;show⟨GQ,by rw[show iB "NoPicture" "NoPicture" =true from by decide];show jt⟩
  .cases lH.symm.trans h2;show⟨Ko,by rw[show iB "NoManner" "NoPicture" =false from by decide];show jK⟩
 have T:Txt K mg DC:=⟨⟨Z6,⟨aex,aey,aez,aeA⟩,aeB,aeC,aeD⟩,⟨aeE,aeF,aeG,aeH,abe,aeI⟩,agq X G Z6,abf,⟨_,agq X G CP⟩,⟨_,agq X G JV⟩,⟨_,agq X G S6⟩,⟨_,agq X G wk⟩,⟨_,agq X G lX⟩,Vi X G wu UL (show 3<=sizeLine from z0b {} (z0e dW)) (.cons ⟨_,rfl⟩ (.cons ⟨_,rfl⟩ (.cons ⟨_,rfl⟩ (.nil)))),Vi X G CQ Z5 (show 2<=sizeLine from z0b {} (z0e dW)) (.cons ⟨_,rfl⟩ (.cons ⟨_,rfl⟩ (.nil))),agC X G Fv,agC X G zx,agC X G S7,agC X G lY,agC X G Xc,agC X G dY,agC X G dj,agC X G S8,agC X G qy,agC X G sS,agC X G iM,agC X G sU,agC X G zy,agC X G eZ,agC X G Fw,JW,CV,pZ,JX,⟨cG,lH,agq X G lH,zR⟩,⟨bZ,jX,agq X G jX,wK⟩,⟨mq,agq X G UW,wA⟩,⟨cG,agq X G lH,oN⟩,⟨bZ,agq X G jX,lZ⟩⟩;have Qg:=fun_mk (st:=d8) PX P0 Qa;have Aq:=fun_mk (st:=iK) Qc Qd Qf;have yj:=fun_mk (st:=gU) MJ MK MN;have Ec:=fun_mk (st:=jq) TY T4 T5;have abo:=fun_mk (st:=gD) abl abm abn;have Xw:=fun_mk (st:=gJ) Xq Xr Xu;have afb:=fun_mk (st:=sO) ae8 ae9 afa;have hX:HX w K mg DC:=⟨T,dy X G uM (λ_ _ _ _ _ _ us hl=>Cq hl λ_ _ _=>rfl),dy X G rH (λ_ _ _ _ _ _ us hl=>nJ hl λ_ _=>rfl),dy X G zB (λ_ _ _ _ _ _ us hl=>jR hl λ_=>rfl),dy X G rJ (λ_ _ _ _ _ _ us hl=>jR hl λ_=>rfl),dy X G CW (λ_ _ _ _ _ _ us hl=>jR hl λ_=>rfl),dy X G zE (λ_ _ _ _ _ _ us hl=>jR hl λ_=>rfl),dy X G CZ (λ_ _ _ _ _ _ us hl=>jR hl λ_=>rfl),dy X G Hy (λ_ _ _ _ _ _ us hl=>jR hl λ_=>rfl),dy X G uN (λ_ _ _ _ _ _ us hl=>jR hl λ_=>rfl),dy X G qb (λ_ _ _ _ _ _ us hl=>jR hl λ_=>rfl),dm zF (λ_ _ _ _ _ _ us hl=>jR hl λ_=>rfl),dm uO (λ_ _ _ _ _ _ us hl=>jR hl λ_=>rfl),dm uP (λ_ _ _ _ _ _ us hl=>nJ hl λ_ _=>rfl),dy X G S9 (λ_ _ _ _ _ _ us hl=>jR hl λ_=>rfl),dy X G uQ (λ_ _ _ _ _ _ us hl=>nJ hl λ_ _=>rfl),dy X G Dc (λ_ _ _ _ _ _ us hl=>jR hl λ_=>rfl),dy X G Hz (λ_ _ _ _ _ _ us hl=>jR hl λ_=>rfl),dy X G HD (λ_ _ _ _ _ _ us hl=>jR hl λ_=>rfl),dy X G Ly (λ_ _ _ _ _ _ us hl=>nJ hl λ_ _=>rfl),dy X G Df (λ_ _ _ _ _ _ us hl=>Cq hl λ_ _ _=>rfl),dy X G Tc (λ_ _ _ _ _ _ us hl=>nJ hl λ_ _=>rfl),dy X G HF (λ_ _ _ _ _ _ us hl=>Cq hl λ_ _ _=>rfl),dy X G Lz (λ_ _ _ _ _ _ us hl=>ZF hl λ_ _ _ _=>rfl),dy X G wB (λ_ _ _ _ _ _ us hl=>Cq hl λ_ _ _=>rfl),dy X G zG (λ_ _ _ _ _ _ us hl=>nJ hl λ_ _=>rfl),dy X G rK (λ_ _ _ _ _ _ us hl=>Cq hl λ_ _ _=>rfl),dy X G wC (λ_ _ _ _ _ _ us hl=>nJ hl λ_ _=>rfl),dy X G wD (λ_ _ _ _ _ _ us hl=>Cq hl λ_ _ _=>rfl),dy X G rM (λ_ _ _ _ _ _ us hl=>nJ hl λ_ _=>rfl),dy X G Dg (λ_ _ _ _ _ _ us hl=>nJ hl λ_ _=>rfl),⟨iQ,_,Aq,agq X G Ao,Aq.binds (λ_ _ _ _ _ _ us hl=>Cq hl λ_ _ _=>rfl)⟩,⟨gW,_,yj,agq X G yh,yj.binds (λ_ _ _ _ _ _ us hl=>Cq hl λ_ _ _=>rfl)⟩,dy X G rN (λ_ _ _ _ _ _ us hl=>nJ hl λ_ _=>rfl),dy X G rO (λ_ _ _ _ _ _ us hl=>nJ hl λ_ _=>rfl),dy X G rP (λ_ _ _ _ _ _ us hl=>jR hl λ_=>rfl),dy X G uR (λ_ _ _ _ _ _ us hl=>Cq hl λ_ _ _=>rfl),⟨jr,_,Ec,agq X G Eb,Ec.binds (λ_ _ _ _ _ _ us hl=>Cq hl λ_ _ _=>rfl)⟩,dm rQ (λ_ _ _ _ _ _ us hl=>nJ hl λ_ _=>rfl),dm uT (λ_ _ _ _ _ _ us hl=>nJ hl λ_ _=>rfl),dm uU (λ_ _ _ _ _ _ us hl=>jR hl λ_=>rfl),dm wF (λ_ _ _ _ _ _ us hl=>jR hl λ_=>rfl),dm Dh (λ_ _ _ _ _ _ us hl=>jR hl λ_=>rfl),dm zH (λ_ _ _ _ _ _ us hl=>jR hl λ_=>rfl),dy X G Di (λ_ _ _ _ _ _ us hl=>nJ hl λ_ _=>rfl),dy X G qd (λ_ _ _ _ _ _ us hl=>ZF hl λ_ _ _ _=>rfl),dy X G wG (λ_ _ _ _ _ _ us hl=>ZF hl λ_ _ _ _=>rfl),dm zJ (λ_ _ _ _ _ _ us hl=>jR hl λ_=>rfl),dm oO (λ_ _ _ _ _ _ us hl=>jR hl λ_=>rfl),dm HJ (λ_ _ _ _ _ _ us hl=>jR hl λ_=>rfl),dm wH (λ_ _ _ _ _ _ us hl=>nJ hl λ_ _=>rfl),dy X G Dj (λ_ _ _ _ _ _ us hl=>jR hl λ_=>rfl),dy X G qe (λ_ _ _ _ _ _ us hl=>nJ hl λ_ _=>rfl),dy X G zK (λ_ _ _ _ _ _ us hl=>nJ hl λ_ _=>rfl),dy X G uV (λ_ _ _ _ _ _ us hl=>nJ hl λ_ _=>rfl),dy X G uW (λ_ _ _ _ _ _ us hl=>Cq hl λ_ _ _=>rfl),dy X G LK (λ_ _ _ _ _ _ us hl=>ZF hl λ_ _ _ _=>rfl),dy X G zL (λ_ _ _ _ _ _ us hl=>ZF hl λ_ _ _ _=>rfl),dy X G zM (λ_ _ _ _ _ _ us hl=>nJ hl λ_ _=>rfl),dm zN (λ_ _ _ _ _ _ us hl=>jR hl λ_=>rfl),dy X G wI (λ_ _ _ _ _ _ us hl=>jR hl λ_=>rfl),⟨jT,_,Qg,⟨aeJ,PL,PN,abf⟩,iU⟩,⟨zQ,_,abo,agq X G abk,gK,⟨_,lG⟩⟩,⟨sV,_,Xw,agq X G Xp,lB⟩,⟨dA,iQ,gW,jr,_,_,_,_,_,_,_,adh,abg,abh,abj,agq X G Ao,agq X G yh,agq X G Eb,agq X G adg⟩⟩
 show⟨agy "law" "law" (defArgs sO) (defBody sO) (defScope sO) .none ZW ZX Z1 ZV Tw Z4,λs v=> .of_eq rfl,λbase cN TP _ _ hB hCI=>?_⟩;let⟨f',ok',hm',_⟩:=ok_law (P:=l.prog) (w:=w) (base:=base) afb (agq X G Xv) ⟨hX,hB,hCI⟩;cases (agq X G Xv).symm.trans hm';show ok'
end xr
namespace xr
open PySem PySem.Spec L2 Pu
theorem walk{l:akR}{q:afZ}{loose:List Str}{XP:(Str->Option afL)->af2->Prop}{YP:af4->af2->Prop}{d:DefRec}{K:Params->afM}(hn:l.most=some 63)(hdf:d.params.defaults=[])
  (hY:∀(w:af4) (h:af2),YP w h->(K w.params).In h)(hnt:∀w:af4,akZ (K w.params)=true)(hrec:∃dy,(PyProof.Rows.recsOf q).find? (λe:DefRec=>e.name ==("best_ways" :Str))=some dy)
  (F:∀(w:af4) (mg:Str->Option afL) (fa:afK) (h:af2),(K w.params).In h->h.Ns afU mg->mg d.name=some (.ref fa)->
   ∃fd:agx,(∀(s:afN) (u:afL),ajv s fd ⟨[u],[]⟩ [("_law_script",u)])/\∀(base:af2) (c T:afK),(K w.params).In base->base.Ns afU mg->qu base mg c T->Bp (K w.params) mg "best_ways" c->FnOk l.prog w (K w.params) mg base CX0 18 fa fd ["_law_script"] (spT [(T,"best_ways.<locals>.first_ones")] (K w.params) 1 JB)):
  w0e q loose XP YP l.row.toRowW d [] (λf vs=>ako f vs):=
 Pu.ae0 (n:=63) (k:=18) (x:= "_law_script") (y:= "best_ways") (q:= "best_ways.<locals>.first_ones") (FL:=JB) hn {} hdf ⟨rfl,{},{}⟩ hY hnt (by let⟨dy,e⟩:=hrec;show⟨dy,List.mem_of_find?_eq_some e,beq_iff_eq.mp (List.find?_some (p:=λe:DefRec=>e.name ==("best_ways" :Str)) e)⟩) F aa6
end xr
namespace PySem.W.Fast
def tw10495618379866656837:=0
def tw9338269312262696436:=0
def tw1432663830315254910:=0
def tw6258519459165123178:=0
def tw15909588591011643702:=0
def tw18337495109325609541:=0
def tw249167807677762324:=0
def tw14068609588629063481:=0
def tw4784175437946984606:=0
def tw6338453022139340438:=0
def tw1735298891259341641:=0
def tw7989487747922778424:=0
def tw14297877596259594834:=0
def tw13771474988879844486:=0
def tw2114296467189558007:=0
def tw5782927619289883324:=0
def tw1962911418690498806:=0
def tw15804095159716515969:=0
def tw11945873920293257609:=0
def tw15114120630230980876:=0
def tw1687882447477346949:=0
def tw8833164574242127561:=0
def tw3603203678308344196:=0
def tw6185865039923380461:=0
def tw2068213755565616907:=0
def tw16996541278466874798:=0
def tw14053939881612687221:=0
def tw2892209682360683520:=0
def tw11392339523630656169:=0
def tw206420977559033909:=0
def tw13718597732922383638:=0
def tw4606476199779869518:=0
def tw11824229955524025190:=0
def tw636199285469631545:=0
def tw16082751322665373359:=0
def tw15408556996688989804:=0
def tw8385041444202094798:=0
def tw9832069283596989060:=0
def tw12127701509255509627:=0
def tw5505919089747635914:=0
def tw2231890383727548246:=0
def tw14062814838126548002:=0
def tw18336051348895793498:=0
def tw7792114423040118740:=0
def tw7411726358998244393:=0
def tw8424760320071975482:=0
def tw794226010734672358:=0
def tw4699023634925930903:=0
def tw7384252722845559890:=0
def tw6782404941413370185:=0
def tw8325353343231558549:=0
def tw12066566535367433701:=0
def tw12124982374205901603:=0
def tw10090294807969228278:=0
def tw3471657392898903518:=0
def tw4168126292715109157:=0
def tw17197299735013468845:=0
def tw6374855118679428981:=0
def tw3079439431030521233:=0
def tw11350557540686297193:=0
def tw16535507245605017178:=0
def tw3763218780806064107:=0
def tw12159558790916144706:=0
def tw12504824471841375806:=0
def tw11375801890048091128:=0
def tw4251644930103091760:=0
def tw11372637967656858392:=0
def tw8086553849587494510:=0
def tw17179614530289273023:=0
def tw8512161032455778808:=0
def tw11750010019218813407:=0
def tw2230382829734907129:=0
def tw9498374330768734462:=0
def tw11382839828157065102:=0
def tw5322573300873628424:=0
def tw13653375401225141552:=0
def tw6372564113411450658:=0
def tw16952785344588094900:=0
def tw7101628361553014987:=0
def tw18365716934640919036:=0
def tw1207464918255724479:=0
def tw3791348585040321590:=0
def tw10510550115271999818:=0
def tw16294288139971798012:=0
def tw18384607695618388469:=0
def tw5875711808586491502:=0
def tw18371898478864865474:=0
def tw13726518072056665851:=0
def tw12713776174401577295:=0
def tw9678536900546209003:=0
def tw17295698369090251597:=0
def tw9776216275622894464:=0
def tw17306885148550940820:=0
def tw9659207842588785031:=0
def tw13455864549563070025:=0
def tw10347727023051551722:=0
def tw17443151284131390761:=0
def tw4351995367625899723:=0
def tw10999167136764075724:=0
def tw15665229708262000501:=0
def tw8736067922350236137:=0
def tw12772741209229726481:=0
def tw895867537763665608:=0
def tw3770467657159861880:=0
def tw9258757282433923073:=0
def tw13329206288159704754:=0
def tw14089973169662716949:=0
def tw11134544998961562185:=0
def tw12062201296350181234:=0
def tw17919903342492996132:=0
def tw1567688992888414089:=0
def tw2394005548804344940:=0
def tw18267045930860774445:=0
def tw18242623973671683551:=0
def tw16705964581649839144:=0
def tw3848298496792421461:=0
def tw6170931827292154954:=0
def tw4402638213241150105:=0
def tw12884991274997248176:=0
def tw10842939050314537814:=0
def tw10630330801586632619:=0
def tw2937908510634990944:=0
def tw8767655617708086839:=0
def tw9318743757414442903:=0
def tw7042369533398782886:=0
def tw5341039486936775774:=0
def tw15141170317872330585:=0
def tw10459684866529477499:=0
def tw6288776374803753409:=0
def tw8305452308891757447:=0
def tw5504620352164234610:=0
def tw15330214835319639236:=0
def tw3956470762696234633:=0
def tw7832900741238023906:=0
def tw12810327476823278450:=0
def tw10521201307152523195:=0
def tw18228542511025178758:=0
def tw18003768490174778391:=0
def tw12549662214393013818:=0
def tw11569557725025302466:=0
def tw4032193358428456758:=0
def tw6875740704335086684:=0
def tw16389662382977226545:=0
def tw3172658062577723506:=0
def tw15882220917583317102:=0
def tw14163233385816930010:=0
def tw7377915640940395120:=0
def tw4962218970326633783:=0
def tw16361685226917682035:=0
def tw14292921363061344106:=0
def tw9875123959047275299:=0
def tw14407950506126137840:=0
def tw1718803059765141633:=0
def tw6229564075859830859:=0
def tw16467891127152723808:=0
def tw7807379929893108092:=0
def tw13459226141944298895:=0
def tw15374920836357812876:=0
def tw6166010881470219015:=0
def tw10623125534103275737:=0
def tw15713695351180170616:=0
def tw7724319674730994161:=0
def tw12656210317534425380:=0
def tw2304583843341884238:=0
def tw8877103097195422691:=0
def tw10286436835594879494:=0
def tw3757400036795906135:=0
def tw660142247907530259:=0
def tw18356285053729588473:=0
def tw7815553302218082685:=0
def tw17634287408659871349:=0
def tw16426675186627976179:=0
def tw6418655777324000986:=0
def tw14113914224219273349:=0
def tw14853004704843804935:=0
def tw2392889055239302291:=0
def tw7947530092709749655:=0
def tw5656649359058810831:=0
def tw3034365137992330160:=0
def tw2294947625015936258:=0
def tw11770434162625179111:=0
def tw7955967614858710875:=0
def tw16748838019485410123:=0
def tw12615884015818446764:=0
def tw700178865060903501:=0
def tw1102865269904206313:=0
def tw10151189189024053277:=0
def tw9175251285413003627:=0
def tw2788163948725262046:=0
def tw12621544074754616045:=0
def tw9950955274761090595:=0
def tw4236479281038820544:=0
def tw8191611696155105721:=0
def tw971883743312652160:=0
def tw12511953355276509933:=0
def tw17027364595050820752:=0
def tw1774720866229296980:=0
def tw7726168162619322069:=0
def tw2037389484682304659:=0
def tw4140830467634244337:=0
def tw5933977711238963062:=0
def tw13940601160246688265:=0
def tw15026619918282116560:=0
def tw17521751969295413364:=0
def tw15073721369528170148:=0
def tw545279834468733789:=0
def tw3483317225384464004:=0
def tw14045912993675189015:=0
def tw8464761115260820873:=0
def tw9229334624462521630:=0
def tw15881646116363175185:=0
def tw1503991956078926933:=0
def tw5226210024633769972:=0
def tw5341106379883650221:=0
def tw5442335274138249566:=0
def tw9623699500970157411:=0
def tw3524053023372152975:=0
def tw3565310964025571636:=0
def tw11352234709210964509:=0
def tw6086146488743934733:=0
def tw3173809994018337991:=0
def tw220133755412952852:=0
def tw9361710094467499513:=0
def tw11976325086297310662:=0
def tw14298471427906893328:=0
def tw18120570739666543723:=0
def tw5238793501834519920:=0
def tw13120486689517902867:=0
def tw10256570275740903873:=0
def tw17321568917403544058:=0
def tw18140096144819570283:=0
def tw2484517055188984677:=0
def tw9743688234705351215:=0
def tw18443974400560374980:=0
def tw12490433425412172890:=0
def tw13738788406775006632:=0
def tw17765442010481742216:=0
def tw16122522547247154585:=0
def tw13539639869249470681:=0
def tw12717450751929464842:=0
def tw7657670132587281658:=0
def tw17289367501678269087:=0
def tw18001979058629616517:=0
def tw7414910784223680008:=0
def tw11682244328346249128:=0
def tw12898418291881259204:=0
def tw13881315837650212649:=0
def tw9051250013825668501:=0
def tw16031190433867416377:=0
def tw10053215621769006825:=0
def tw13069738116002660225:=0
def tw479862721074565555:=0
def tw16447878002409494636:=0
def tw15550006264531496663:=0
def tw628169788602679133:=0
def tw6613484499308368731:=0
def tw3175377362253659590:=0
def tw11354201663461753616:=0
def tw157711140357052033:=0
def tw4112185405832977863:=0
def tw12372648508992708721:=0
def tw695124076093656988:=0
def tw14504686183341750356:=0
def tw15436393687682710721:=0
def tw16152033080285150911:=0
def tw11396530080943448285:=0
def tw10628778805747166456:=0
def tw9585628822880456863:=0
def tw109847887298898395:=0
def tw2815163569179664602:=0
def tw12534260758977351156:=0
def tw1830596574341915273:=0
def tw4674751142158415768:=0
def tw5581752704080926121:=0
def tw7218032379129956466:=0
def tw2580738427734762716:=0
def tw11314977423309284439:=0
def tw16316957686149469754:=0
def tw3439014820661879241:=0
def tw15116773977232829856:=0
def tw13684323959814940166:=0
def tw17925227158348034880:=0
def tw1467279786568179558:=0
def tw6081186370242635491:=0
def tw8635188572554354624:=0
def tw6668682066760746567:=0
def tw13983798647636771849:=0
def tw17121615904095953845:=0
def tw1521050990449690915:=0
def tw2166804317686782518:=0
def tw12931656276392422628:=0
def tw6889900704215061402:=0
def tw7789380654638301281:=0
def tw5076024673053402473:=0
def tw17101183778747458881:=0
def tw635808448223446901:=0
def tw11282864540666542508:=0
def tw4111245146731342844:=0
def tw4489099965523078429:=0
def tw1766851843366126615:=0
def tw179874727246783206:=0
def tw5899575588225241146:=0
def tw11325440845570114849:=0
def tw9678365390973695387:=0
def tw1531381056108174536:=0
def tw11759033715021234356:=0
def tw8579111913150788761:=0
def tw11105587395131868412:=0
def tw16706122497811232565:=0
def tw13677761419770984927:=0
def tw4031592268501307966:=0
def tw9814620746592614934:=0
def tw5801787379243208858:=0
def tw17273090769009734737:=0
def tw4922805257223856153:=0
def tw3091512991905808137:=0
def tw7598666910136702693:=0
def tw4927663814541974030:=0
def tw15772916997593273315:=0
def tw17224426551803743037:=0
def tw1976200168811220165:=0
def tw2025416378843921346:=0
def tw12981050332864710330:=0
def tw7948913674160279515:=0
def tw5276329651470567956:=0
def tw18307370647501470195:=0
def tw3742947495245603214:=0
def tw13643322745237236129:=0
def tw2591893589301208942:=0
def tw7015457883675512351:=0
def tw1775402998950186308:=0
def tw3042721211980359236:=0
def tw432195607099845238:=0
def tw11768144054013780139:=0
def tw10878761792619664599:=0
def tw14248441225909160076:=0
def tw2101593716628276025:=0
def tw16713683745557548439:=0
def tw8127473954665740095:=0
def tw718843867678814266:=0
def tw17315442834131549613:=0
def tw7545208812182808484:=0
def tw18087967801251600819:=0
def tw4185227664090508962:=0
def tw3985872453036739959:=0
def tw17626503289864075266:=0
def tw10297704472340393203:=0
def tw11319947119009253831:=0
def tw5174279832253472086:=0
def tw7545427085084201581:=0
def tw9114029404837733418:=0
def tw8477731701169191229:=0
def tw10213860972581809014:=0
def tw14590245834231649537:=0
def tw804990480441821702:=0
def tw15373189048257308375:=0
def tw9866856895457036636:=0
def tw8678382416020819146:=0
def tw9524800825447282253:=0
def tw3711607828312178844:=0
def tw14796974018469683122:=0
def tw14445065681211742321:=0
def tw10979513831697339958:=0
def tw17968220889716347987:=0
def tw18018756787379974147:=0
def tw11610257791733873646:=0
def tw5266633410195967195:=0
def tw8425433303200992759:=0
def tw15058091563701220853:=0
def tw16705670655882533066:=0
def tw12183498439496787097:=0
def tw12131661167333905665:=0
def tw6294748302609442899:=0
def tw8916502695105350772:=0
def tw9193046408685789818:=0
def tw2152178694939331892:=0
def tw7550511835555315291:=0
def tw10569475819152343407:=0
def tw5787270964239935583:=0
def tw186561986792439195:=0
def tw15478776174677803269:=0
def tw586265888836893946:=0
def tw11513818111620713675:=0
def tw14584404925477481666:=0
def tw17535439943199093096:=0
def tw16440653303897395975:=0
def tw3057029298818418150:=0
def tw16806284959954008585:=0
def tw9620806250755683909:=0
def tw5759932315913767435:=0
def tw11137121596467688145:=0
def tw12914723022484960147:=0
def tw12790823286097986564:=0
def tw16813289421928718531:=0
def tw9725589862026085524:=0
def tw14268999625966483854:=0
def tw18035408775011000213:=0
def tw588364860934825461:=0
def tw16321013232764803922:=0
def tw6754713715238549073:=0
end PySem.W.Fast
open PySem PySem.W PyProof.Rows
set_option bootstrap.genMatcherCode true
set_option compiler.extract_closed true
set_option maxRecDepth 100000 in
set_option maxHeartbeats 0 in
theorem PySem.Challenge.cw_seamhall_k58_whole_fitted_holds : PySem.Challenge.rw_seamhall_k58_whole_fitted.Holds := by
 w_on;o_law;k_head;(case hw=>w_witness2)
 k_fill
 refine xr.walk (l:=PySem.Challenge.rw_seamhall_k58_whole_fitted) rfl rfl (λw h Y=>PySem.W.km_in_of Y) ?nt ?rec ?F
 case nt=>intro w;kernel_rfl
 case rec=>exact⟨_,rfl⟩
 case F=>
  intro w mg fa h KX G hmg
  refine' xr.all_mk KX G hmg ?_ ?_ ?_ ?_ ?_ ?_ ?_ ?_ ?_ ?_ ?_ ?_ ?_ ?_ ?_ ?_ ?_ ?_ ?_ ?_ ?_ ?_ ?_ ?_ ?JW ?CV ?pZ ?JX ?_ ?_ ?_ ?zR ?Gx ?Gy ?Gz ?GC ?GD ?GF ?GJ ?GK ?oV ?j7 ?jK ?wK ?Du ?Dv ?Dw ?Dy ?Dz ?DP ?DR ?Ea ?nM ?jL ?jt ?_ ?aex ?aey ?aez ?aeA ?aeB ?aeC ?aeD ?aeE ?aeF ?aeG ?aeH ?abe ?aeI ?aeJ ?abf ?_ ?_ ?abg ?abh ?abj ?_ ?_ ?_ ?_ ?_ ?_ ?_ ?_ ?_ ?_ ?_ ?_ ?_ ?_ ?_ ?_ ?_ ?_ ?_ ?_ ?_ ?_ ?_ ?_ ?_ ?_ ?_ ?_ ?_ ?_ ?_ ?_ ?_ ?_ ?_ ?_ ?_ ?_ ?_ ?_ ?_ ?_ ?_ ?_ ?_ ?_ ?_ ?_ ?_ ?_ ?_ ?_ ?_ ?_ ?_ ?_ ?_ ?_ ?_ ?_ ?_ ?_ ?_ ?_ ?_ ?_ ?_ ?_ ?_ ?_ ?_ ?_ ?_ ?_ ?_ ?_ ?_ ?_ ?_ ?_ ?_ ?_ ?_ ?_ ?_ ?_ ?iU ?lG ?gK ?lB
  all_goals try first |k_is |(refine' xr.ae6 ?qa ?ql ?qc ?qp;(case qa=>k_is);(case ql=>k_is);(case qc=>k_is);(case qp=>k_is)) |(refine' xr.ae7 ?qa ?qi ?ql ?qc ?qp;(case qa=>k_is);(case qi=>k_is);(case ql=>k_is);(case qc=>k_is);(case qp=>k_is))
  (case JW=>intro d;cases d;(show afX _ (af3 "NoneType") (af3 "int")=some false);kit_is;(show afX _ (af3 "bool") (af3 "int")=some true);kit_is;(show afX _ (af3 "int") (af3 "int")=some true);kit_is;(show afX _ (af3 "str") (af3 "int")=some false);kit_is;(show afX _ (af3 "tuple") (af3 "int")=some false);kit_is;(show afX _ (af3 "list") (af3 "int")=some false);kit_is)
  (case CV=>intro d;cases d;(show afX _ (af3 "NoneType") (af3 "bool")=some false);kit_is;(show afX _ (af3 "bool") (af3 "bool")=some true);kit_is;(show afX _ (af3 "int") (af3 "bool")=some false);kit_is;(show afX _ (af3 "str") (af3 "bool")=some false);kit_is;(show afX _ (af3 "tuple") (af3 "bool")=some false);kit_is;(show afX _ (af3 "list") (af3 "bool")=some false);kit_is)
  (case pZ=>intro d;cases d;(show afX _ (af3 "NoneType") (af3 "tuple")=some false);kit_is;(show afX _ (af3 "bool") (af3 "tuple")=some false);kit_is;(show afX _ (af3 "int") (af3 "tuple")=some false);kit_is;(show afX _ (af3 "str") (af3 "tuple")=some false);kit_is;(show afX _ (af3 "tuple") (af3 "tuple")=some true);kit_is;(show afX _ (af3 "list") (af3 "tuple")=some false);kit_is)
  (case JX=>intro d;cases d;(show afX _ (af3 "NoneType") (af3 "list")=some false);kit_is;(show afX _ (af3 "bool") (af3 "list")=some false);kit_is;(show afX _ (af3 "int") (af3 "list")=some false);kit_is;(show afX _ (af3 "str") (af3 "list")=some false);kit_is;(show afX _ (af3 "tuple") (af3 "list")=some false);kit_is;(show afX _ (af3 "list") (af3 "list")=some true);kit_is)
  (case zR=>k_exc)
  (case j7=>kit_is)
  (case jK=>kit_is)
  (case wK=>k_exc)
  (case jL=>kit_is)
  (case jt=>kit_is)
  (case abe=>kit_is)
  (case abg=>first |rfl |kernel_rfl)
  (case abh=>first |rfl |kernel_rfl)
  (case abj=>first |rfl |kernel_rfl)
  (case iU=>intro s us ws i hl hw;have h0:us.length=2:=(by simp only[afY,ahk] at hl;omega);clear hl;obtain⟨u0,us0,rfl,h1⟩:=Pu.lJ h0;clear h0;obtain⟨u1,Yo,rfl,h2⟩:=Pu.lJ h1;clear h1;cases Pu.len0 h2;have g0:ws.length=1:=hw;clear hw;obtain⟨w0,ws0,rfl,g1⟩:=Pu.lJ g0;clear g0;cases Pu.len0 g1;exact ajs i (λS=>rfl))
  (case lG=>intro s us ws i hl hw;have h0:us.length=3:=(by simp only[afY,ahk] at hl;omega);clear hl;obtain⟨u0,us0,rfl,h1⟩:=Pu.lJ h0;clear h0;obtain⟨u1,Yo,rfl,h2⟩:=Pu.lJ h1;clear h1;obtain⟨u2,us2,rfl,h3⟩:=Pu.lJ h2;clear h2;cases Pu.len0 h3;have g0:ws.length=0:=hw;clear hw;cases Pu.len0 g0;exact ajs i (λS=>rfl))
  (case gK=>intro s us ws i hl hw;have h0:us.length=3:=(by simp only[afY,ahk] at hl;omega);clear hl;obtain⟨u0,us0,rfl,h1⟩:=Pu.lJ h0;clear h0;obtain⟨u1,Yo,rfl,h2⟩:=Pu.lJ h1;clear h1;obtain⟨u2,us2,rfl,h3⟩:=Pu.lJ h2;clear h2;cases Pu.len0 h3;have g0:ws.length=1:=hw;clear hw;obtain⟨w0,ws0,rfl,g1⟩:=Pu.lJ g0;clear g0;cases Pu.len0 g1;exact ajs i (λS=>rfl))
  (case lB=>intro s us ws i hl hw;have h0:us.length=2:=(by simp only[afY,ahk] at hl;omega);clear hl;obtain⟨u0,us0,rfl,h1⟩:=Pu.lJ h0;clear h0;obtain⟨u1,Yo,rfl,h2⟩:=Pu.lJ h1;clear h1;cases Pu.len0 h2;have g0:ws.length=1:=hw;clear hw;obtain⟨w0,ws0,rfl,g1⟩:=Pu.lJ g0;clear g0;cases Pu.len0 g1;exact ajs i (λS=>rfl))
  all_goals first |k_is |kernel_rfl
