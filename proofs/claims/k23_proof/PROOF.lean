import PyProof.Rows.All
import Wide.All
import OpenK.AllK
import Wide.FinOn
import Lean
import PyProof.EqAt
import PyProof.EqKinds
import PyProof.TupleCall
import PyProof.NeKinds
import PyProof.FString
import PySem.Challenge.RW_seamhall_k23_whole_best
open PySem renaming wpAny_bind→afE,Value→afF,Addr→afG,Shared→afH,wpAny_pure→afJ,wpAny→afK,starEach→afL,Program→afQ,Expr→afV,Around→afZ,mainGlobals→af0,World→af2,Heap→af8,Stmt→agl,cellsFrom→agn,compareOp→agr,wpAny_call_entry→ags,rawInt→agx,wpAny_callSpecial?_slot→agz,wpAny_newObj_type→agB,FuncData→agJ,wpAny_field→agN,wpAny_truthy_bool→agP,cLine→agR,backTo→agS,wpAny_setState_of→ag2,wpAny_seqItems→ag4,wpAny_holding→ahc,wpAny_mono→ahf,wpAny_rule→ahg,wpAny_setField_rec→ahk,binaryOp→ahv,Builtin→ahx,Scope→ahz,sizeLine_eq→ahA,wpAny_Call_Name_kw→ahC,wpAny_askSetting→ahE,keywordEach→ahI,wpAny_loadPart'→ahN,codeAny_builtin→ahO,bootBuiltins→ahR,wpAny_isInstance→ahV,wpAny_of_eq→ahW,Arguments→ah6,SetTable→aif,storeName→aii,wpAny_tupleItemsOf→aik,foldedSetIterable→aio,argBest→aiq,behindInMarks→air,wpAny_attempt→ais,plainId_quiet→ait,backToKw→aiw,wpAny_setField→aiy,wpAny_forIn_list→aiA,codeAny_mono→aiF,pickOrder→aiH,wpAny_passesOwn→aiI,wpAny_updateSeq→aiM,bindArgs→aiO,wpAny_pyIter_list→aiQ,ofAClassStatement→aiS,assignEach→aiT,pyNext→aiY,NameKind→aiZ,wpAny_setEntries_of→ai9,Keyword→ajb,wpAny_specialOf→aji,wpAny_letGo→ajl,wpAny_typeOf→aju,firstArgMember→ajy,isSubtype_tuple_tuple→ajz,codeAmong→ajC,wpAny_richCompare_same_room→ajD,builtinsNs→ajE,closureFor→ajF,swapsWithSole→ajH,swappedStores→ajI,codeAny→ajL,sliceBounds→ajM,pushCells_keeps→ajQ,TriplesOk→ajU,swapsWith→ajV,wpAny_eqBool_tuple→ajZ,setsByText→aj5,wpAny_pyNext_list_item→akb,wpAny_pyIter_rangeiter→akc,richCompare→akf,hashByValue→akh,intKind→ako,builtinLookup_eq_fast→akp,wpAny_execs_nil→akr,wpAny_call→aks,IsPart→aku,call_meets→akx,newFunctionEnv→akG,isSubtype_stop→akI,isSubtype_type→akJ,wpAny_fieldsOf→akK,setNext→akL,wpAny_tryCatch→akM,IsRangeIter→akR,eqIsQuiet→akX,wpAny_standAt→ak0,wpAny_onRaise→ak4,setSearchFrom→ala,intKind_is→alh,wpAny_eqBool_int→alm,GenState→aln,concat_meets→alp,noFill_tuple_add→alq
open List renaming range→afI,append_assoc→afM,length_cons→afN,getElem?_append_right→afP,mem_cons→afR,mem_cons_self→afT,replicate→afU,mem_map→afW,mem_singleton→af3,getElem?_append_left→af4,mem_of_mem_take→af5,mem_append_right→af9,getElem?_eq_getElem→aga,pairwise_append→agd,length_take→agg,take_append_drop→agh,append_nil→agi,map_map→agj,mem_append→agk,mem_of_getElem?→ago,eq_nil_of_length_eq_zero→agp,pairwise_cons→agt,getElem?_range→agu,map_append→agw,map_congr_left→agC,filterMap_cons_some→agD,mem_of_mem_drop→agE,mem_flatMap→agG,mem_append_left→agQ,filterMap_cons_none→agT,getD→agZ,flatten_cons→ag9,mem_filter→ahd,lookup_append→ahi,length_nil→ahm,length_drop→aho,not_mem_nil→ahq,drop_eq_getElem_cons→ahr,flatMap_cons→ahs,length_replicate→ahw,perm_append_comm→ahy,mem_range→ahH,length_reverse→ahM,getElem?_eq_none→ahQ,toArray→ahT,range'→ahY,sum_cons→ahZ,drop_zero→ah0,range_eq_range'→ah1,getElem?_replicate→ah2,nodup_cons→ah5,replicate_succ→ah8,take_succ_cons→aia,take_of_length_le→aib,range_succ_eq_map→aic,getElem?_toArray→ail,ext_getElem?→aip,getElem?_cons_succ→aiu,mem_map_of_mem→aiv,lookup_cons→aix,cons_append→aiz,range'_succ→aiC,mem_filterMap→aiE,length_set→aiJ,mem_iff_getElem?→aiK,all_cons→aiP,pairwise_iff_getElem→aiV,take_zero→aiW,take_take→aiX,all_eq_true→ai2,drop_length→ai4,getElem_mem→ai5,take_length→ai6,filterMap_cons→ai8,pairwise_singleton→aja,forIn_cons→ajf,nil_append→ajh,take_sublist→ajp,reverse_perm→ajt,map_nil→ajv,length_singleton→ajw,pairwise_flatMap→ajA,nodup_range→ajG,getD_eq_getElem?_getD→ajK,of_mem_zip→ajO,range_succ→ajS,range'_eq_map_range→aj2,length_eq_zero_iff→aj8,filter_cons_of_pos→aj9,filter_eq_nil_iff→aki,map_take→akj,mem_reverse→akm,filter_cons→akn,foldl_cons→akv,mem_iff_getElem→akC,getElem_of_mem→akE,filter_sublist→akF,length→akS,length_append→akT,zip_cons_cons→akW,any_cons→ak2,setIfInBounds_toArray→ak8,perm_append_singleton→ak9,perm_ext_iff_of_nodup→alb,reverse_cons→ald,nodup_append→ale,foldl→alg,getElem?_take_of_lt→alo,zipIdx_cons→alv,any_eq_true→alz,perm_middle→alB,flatten_nil→alC,map_flatMap→alG,getElem?_cons_zero→alH,filter_cons_of_neg→alI,take_left'→alJ,forIn_nil→alN,drop_drop→alQ,Nodup→alU,nil_perm→alV,perm_nil→alW,take_add→alX
open PyProof.Rows renaming wpS_bind→afO,wpS_pure→afY,callWith_type1→agL,SortSt→ag3,wpS_forRange→ag7,slot_tuple_getitem→aha,seqObj→ahb,boot_tuple→ahu,IntsAre→ahJ,Keyed→ah7,envOfC→aij,wpS_mono→aiB,wpS_modify→aiD,boot_isinstance→ajk,SortKind→ajn,wpS_get→ajN,get?_update_seq→ajR,AllBare→aj3,callWith_builtin1→akt,sortedHeap→akA,wpS_lift→akN,boot_min→akO,boot_all→akP,assignInOrder_cons→akU,gallopOf→alA,recsOf→alZ
open PySem.Value renaming ref→afS,type→af6,none→agv,int→ajB,builtin→ak6,bool→alS
open PySem.SetTable renaming below→afX,bits→agA,runEnd→ahB,sizeAbove→ahD,leap→ahG,Probe→ahK,turns→ahL,insertAt→ah4,grown→aj6,advance→akl,slot→ak7,has→al3
open Bool renaming false_eq_true→af7,false_ne_true→agf,not_true→ag5,and_eq_true→ag6,not_false→aj4,and_false→akH,false_and→alM
open Option.some renaming inj→agb
open Ne renaming symm→agc
open Nat renaming ne_of_lt→agm,lt_irrefl→agX,add_sub_cancel_left→ag0,zero_le→ahp,zero_add→ahF,add_zero→ai7,min_eq_left→ajd,lt_succ_of_lt→ajs,le_of_ble_eq_true→ajx,ne_of_gt→ajW,sub_self→aj0,le_succ→akg,sub_zero→akB,le_refl→akQ,mod_lt→alj,le_of_not_lt→als,le_add_right→alw,lt_trans→alx,succ_pos→alD
open Array renaming length_toList→agq,getElem?_eq_getElem→agO,getElem?_toList→aiN,getD→ajj,getElem?_eq_none→ajm,forIn_toList→aj1,getElem?_eq_some_iff→ak5,toList_push→alf,replicate→alK
open Int renaming eq_ofNat_of_zero_le→agy,toNat_natCast→ah3,emod_lt_of_pos→aiG,natCast_nonneg→aje,emod_nonneg→ajg,ofNat_le→alr,add_comm→alF,mul_nonneg→alR
open PySem.W renaming kas_item→agF
open False renaming elim→agH
open PySem.Builtin.SmallTypes renaming nextOf→agI,ownedTupleIsFree→agV,ownedTupleHandOut→ahU
open Or renaming inr→agK,inl→ag1
open PySem.Heap renaming size_push→agM,get?_update_self→agU,SameBut→ahe,get?_update_ne→ah9,get?_update_other→akd,ExtBut→ake
open PySem.Heap.SameBut renaming update→agW
open PySem.NameKind renaming free→agY,cell→ajc
open PySem.Builtin.Range renaming rangeFitsLong→ag8,rangeSize→aj7
open PySem.Obj renaming mapSeq→ahh,data_mapFields→ahj,isFreed_of_fields→aiL,cls_mapFields→ajq,putSet→akD
open PySem.Around renaming under_plainId→ahl
open PySem.PassesOwn renaming never→ahn
open List.Pairwise renaming map→aht,sublist→akq,nil→alc
open PyProof.Rows.SortSt renaming mk'→ahP
open PySem.Str renaming ofString→ahS
open Prod.mk renaming injEq→ahX
open List.cons renaming inj→aie,injEq→ajT
open PySem.Builtin.Tuple renaming tupleHashOf→ain,tupleExact→ai1,tupleItemsOf→ajJ,tupleTooMany→ak3
open PySem.SetTable.probe renaming go→aiR
open PySem.Builtin.Slice renaming slicePlaces→aiU,sliceAdjust→ajP,sliceApplied→ak1
open Option renaming isSome_iff_exists→ai0,getD_some→ai3,map_some→akz
open PySem.SetTable.layClean renaming free→ajo
open PySem.SetTable.below renaming go→ajr
open PySem.SeqAt.EqAt renaming int_int→ajX,int_str→al0,str_int→al1
open PySem.Builtin.List renaming listTooLong→ajY,listExtendWith→akY,listSameRef→alE
open Prod renaming ext→akk
open ForInStep renaming yield→aky
open PySem.Data renaming cell→akV,fields→alL
open PySem.Calls renaming Name_function_global→akZ,call_function_entry→alk
open PySem.Manifest renaming sig_set_iterator→ali
open PySem.AutoSeq1 renaming idx_int→alu
open PySem.Builtin.Frozenset renaming sizeOf→aly
open List.Perm renaming swap→alP
open True renaming intro→alT
open PySem.Shared renaming TypeIs→alY
open PySem.Heap.IsSliceOf renaming new→al2
open PySem.pickOrder renaming go→al4
set_option linter.all false
open PySem.W renaming Frag→w0a,nsIn→w0b,fnOf→w0c,keepIn→w0d,mg_of→w0e,mg_none_of→w0f,codeIn→w0g,kitOne→w0h,tabObj→w0i,kia_one→w0j,CodeHd→w0k,cellsFrom_some→w0l,tabIn→w0m,methodObj→w0n,noTabs→w0o,OpenLaw→w0p,callWith_K→w0q,callWith_KW→w0r,fnX→w0s,kla_fn→w0t,mem_of_lookupK→w0u,WalkO→w0v,tab_of→w0w
local macro_rules|`(())=>`(by first|omega|(simp;done)|(simp;omega))
local macro_rules(kind:=Lean.Parser.Term.structInst)|`({})=>`(by decide +kernel)
local macro_rules|`(⟨⟩)=>`(by kernel_rfl)
def z9p{c:Prop}{_:Decidable c}(h:c){α}{t e:α}:ite c t e=t:=if_pos h
def z9n{c:Prop}{_:Decidable c}(h:¬c){α}{t e:α}:ite c t e=e:=if_neg h
def z9t{p}{_:Decidable p}(h:p):decide p=true:=decide_eq_true h
def z9f{p}{_:Decidable p}(h:¬p):decide p=false:=decide_eq_false h
def z9o{p}{_:Decidable p}(h:decide p=true):p:=of_decide_eq_true h
local macro_rules|`(tactic|show $t)=>`(tactic|refine $t)
def rp:Nat->Lean.Term->Lean.MacroM (Lean.TSyntax `rcasesPat)
 |n+1,t=>match t with
  |`(⟨$xs,*⟩)=>do
   let ys<-xs.getElems.mapM λy=>do`(Lean.Parser.Tactic.rcasesPatLo|$(<-rp n y):rcasesPat)
   `(rcasesPat|⟨$ys,*⟩)
  |`(_)=>`(rcasesPat|_)
  |`($x:ident)=>`(rcasesPat|$x:ident)
  |_=>Lean.Macro.throwUnsupported
 |_,_=>Lean.Macro.throwUnsupported
local macro_rules|`(tactic|let $t:term:=$e)=>do`(tactic|obtain $(<-rp 9 t):rcasesPat:=$e)
variable{s:afH}{w:af2}{A:afZ}{E:afF->afH->Prop}{prog:afQ}{x:PySem.Str}{K:w0a}{a:afG}{pos:PySem.Pos}{n:Nat}{e:afV}{pins:List (afG×PySem.Obj)}{α:Type}{O:afG->Prop}{es:List afV}{P:afQ}{T:Nat->Nat->Nat->Int}{mg:PySem.Str->Option afF}{i:Nat}{Q:afF->afH->Prop}{fd:agJ}{ns:List Int}{f:Nat->Nat->Int}{Z:Type}{u:afF}{base:af8}{j:Nat}{m:Nat}{M:Nat->Nat->Int}{h:af8}{l:List Nat}{b:afG}{scope:ahz}{t:aif}{o:PySem.Obj}{k:Nat}{pp:PySem.Pos}{yq:List afV}{mask:Nat}{body:List agl}{op:PySem.CmpOp}{ps:List PySem.Str}{ts:List (List Int)}{it:Array ah7}{us:List afF}{params:ah6}{kws:List ajb}{env:PySem.Env}
noncomputable section
set_option bootstrap.genMatcherCode false
set_option compiler.extract_closed false
set_option Elab.async false
set_option linter.all false
set_option maxRecDepth 100000
set_option maxHeartbeats 4000000
theorem z0b{a b c:Nat}(h:a≤b)(k:b≤c):a≤c:=Nat.le_trans h k
theorem z0d{a b c:Nat}(h:a<b)(k:b≤c):a<c:=Nat.lt_of_lt_of_le h k
theorem z0e{a b:Nat}(h:a<b):a≤b:=Nat.le_of_lt h
theorem z0g(a:Nat):a≤a:=akQ a
theorem z1a{h:PySem.Heap}{a:PySem.Addr}{o':PySem.Obj}(o:PySem.Obj)(e:h.get? a=some o'):(h.push o).get? a=some o':=PySem.Heap.get?_push_of_some o e
theorem z1b{α:Type _}{i:Nat}{a:α}{l:List α}(h:l[i]?=some a):∃h:i<l.length,l[i]=a:=List.getElem?_eq_some_iff.mp h
theorem z1c{α:Type _}{as:List α}:as.toArray.size=as.length:=List.size_toArray
theorem z1d{α:Type _}{as bs:List α}:(as++bs).length=as.length+bs.length:=akT
theorem z1e{α:Type _}{l:List α}{i j:Nat}(h:i ≠ j){a:α}:(l.set i a)[j]?=l[j]?:=List.getElem?_set_ne h
theorem z1f(h:PySem.Heap){o:PySem.Obj}(e:o.isFreed=false):(h.push o).get? h.objs.size=some o:=PySem.Heap.get?_push_size h e
theorem z1g{α:Type _}{β:Type _}{as:List α}(f:α→β):(as.map f).length=as.length:=List.length_map f
theorem z1h{α:Type _}{β:Type _}{f:α→β}{a:α}{l:List α}:(a :: l).map f=f a :: l.map f:=rfl
theorem z2a{α:Type _}{l:List α}{i:Nat}{a:α}(h:i<l.length):(l.set i a)[i]?=some a:=List.getElem?_set_self h
theorem z2b{α:Type _}{β:Type _}{f:α→β}{l:List α}{i:Nat}:(l.map f)[i]?=Option.map f l[i]?:=List.getElem?_map
theorem z2c{h:PySem.Heap}{a:PySem.Addr}{o:PySem.Obj}(e:h.get? a=some o):a<h.objs.size:=PySem.Heap.lt_size e
theorem z2d{n:Nat}:(afI n).length=n:=List.length_range
theorem z2e{m n:Nat}(h:m ∈ afI n):m<n:=ahH.mp h
theorem z2f{α:Type _}(y:α){a:α}{l:List α}(h:a ∈ l):a ∈ y :: l:=List.mem_cons_of_mem y h
namespace L2
open PySem PySem.Spec PyProof.Rows
variable{CX:CXT}{e tg:afV}{o:HO}{h base:af8}{H:Hp}{ch:List afG}{ps N:List Str}{M:Model}{t' k:Nat}{r:R2}{σ:St}{t:TE}{Q:Unit->afH->Prop}{f:afF->afF->Sem afF}
abbrev Key:=Sum Int Str
def keyIs:Key->afF->Bool
 | .inl k,v=>Value.isInt k v
 | .inr x,v=>Value.isStrOf x v
def keyH(w:af2):Key->Int
 | .inl k=>hashInt k
 | .inr x=>hashStr w x
theorem keyIs_shape:∀{k:Key} {v:afF},keyIs k v=true->(∃i t,k=Sum.inl i/\v=ajB i t)\/(∃x t,k=Sum.inr x/\v=Value.str x t)
 | .inl i,v,h=>by
  let⟨t,e⟩:=Value.isInt_shape (k:=i) (v:=v) h;show .inl ⟨i,t,rfl,e⟩
 | .inr x,v,h=>by
  let⟨t,e⟩:=Value.isStrOf_shape (x:=x) (v:=v) h;show .inr ⟨x,t,rfl,e⟩
theorem key_ll(a b:Int):decide ((Sum.inl a:Key)=Sum.inl b)=(a ==b):=by
 by_cases e:a=b
 .subst e;simp
 .have h:¬(Sum.inl a:Key)=Sum.inl b:=λq=>e (Sum.inl.inj q);rw[z9f h];show (beq_eq_false_iff_ne.mpr e).symm
theorem key_rr(a b:Str):decide ((Sum.inr a:Key)=Sum.inr b)=decide (a=b):=by
 by_cases e:a=b
 .subst e;simp
 .have h:¬(Sum.inr a:Key)=Sum.inr b:=λq=>e (Sum.inr.inj q);rw[z9f h,z9f e]
theorem key_lr(a:Int)(b:Str):decide ((Sum.inl a:Key)=Sum.inr b)=false:=z9f (λq=>nomatch q)
theorem key_rl(a:Str)(b:Int):decide ((Sum.inr a:Key)=Sum.inl b)=false:=z9f (λq=>nomatch q)
def mixKind(prog:afQ)(w:af2):PySem.KeyKind prog w Key where
 is:=keyIs
 hash:=keyH w
 inj :=λv a b ha hb=>by
  rcases keyIs_shape ha with⟨i,t,rfl,rfl⟩ |⟨x,t,rfl,rfl⟩
  .rcases keyIs_shape hb with⟨j,u,rfl,e⟩ |⟨y,u,rfl,e⟩
   .injection e with e1 _;rw[e1]
   .show nomatch e
  .rcases keyIs_shape hb with⟨j,u,rfl,e⟩ |⟨y,u,rfl,e⟩
   .show nomatch e
   .injection e with e1 _;rw[e1]
 byValue:=λk v h=>by
  rcases keyIs_shape h with⟨i,t,rfl,rfl⟩ |⟨x,t,rfl,rfl⟩ <;> rfl
 pyHash:=λhv h=>by
  rcases keyIs_shape hv with⟨i,t,rfl,rfl⟩ |⟨x,t,rfl,rfl⟩
  .show wpAny_pyHash_int h
  .show wpAny_pyHash_str h
 eqBool:=λhu hv h=>by
  rcases keyIs_shape hu with⟨i,t,rfl,rfl⟩ |⟨x,t,rfl,rfl⟩
  .rcases keyIs_shape hv with⟨j,u,rfl,rfl⟩ |⟨y,u,rfl,rfl⟩
   .rw[key_ll] at h;show alm h
   .rw[key_lr] at h;show al0 i t y u _ _ _ _ h
  .rcases keyIs_shape hv with⟨j,u,rfl,rfl⟩ |⟨y,u,rfl,rfl⟩
   .rw[key_rl] at h;show al1 x t j u _ _ _ _ h
   .rw[key_rr] at h;show wpAny_eqBool_str h
 «strs»:=λk x t v h=>by
  rcases keyIs_shape h with⟨i,u,rfl,e⟩ |⟨y,u,rfl,e⟩
  .show nomatch e
  .injection e with e1 _;subst e1;cases v <;> rfl
inductive V where
 |non |bl (b:Bool) |int (i:Int) |str (x:Str) |byt (b:Array UInt8) |flt (b:UInt64) |ref (a:afG) |ty (n:String)
 deriving DecidableEq
def RelV:V->afF->Prop
 | .non,u=>u=agv
 | .bl b,u=>u=alS b
 | .int i,u=>∃t,u=ajB i t
 | .str x,u=>∃t,u=Value.str x t
 | .byt b,u=>∃t,u=Value.bytes b t
 | .flt b,u=>∃t,u=Value.float b t
 | .ref a,u=>u=afS a
 | .ty n,u=>u=af6 n
abbrev Vals:List V->List afF->Prop:=Paired RelV
theorem Vals.length{xs:List V}(r:Vals xs us):xs.length=us.length:=Paired.length r
theorem Vals.get:∀{xs:List V} {us:List afF} {i:Nat} {x:V},Vals xs us->xs[i]?=some x->∃u,us[i]?=some u/\RelV x u
 |_,_,_,_,.nil,e=>by simp at e
 |_,_,0,_,.cons r _,e=>by simp at e;subst e;show⟨_,rfl,r⟩
 | _,_,i+1,x,.cons _ t,e=>by
  let⟨u,h1,h2⟩:=Vals.get (i:=i) (x:=x) t (by simpa using e);show⟨u,by simpa using h1,h2⟩
theorem Vals.append:∀{xs ys:List V} {us ws:List afF},Vals xs us->Vals ys ws->Vals (xs++ys) (us++ws)
 :=by
 intro xs ys us ws h q
 induction h with
 |nil=>show q
 |cons r t ih=>show .cons r ih
theorem Vals.take:∀{xs:List V} {us:List afF} (n:Nat),Vals xs us->Vals (xs.take n) (us.take n)
 |_,_,0,_=> .nil
 |_,_,_+1,.nil=> .nil
 |_,_,n+1,.cons r t=> .cons r (Vals.take n t)
theorem Vals.drop:∀{xs:List V} {us:List afF} (n:Nat),Vals xs us->Vals (xs.drop n) (us.drop n)
 |_,_,0,r=>r
 |_,_,_+1,.nil=> .nil
 |_,_,n+1,.cons _ t=>Vals.drop n t
def RelO:Option V->Option afF->Prop
 |some v,some u=>RelV v u
 |none,none=>True
 |_,_=>False
def KV{κ:Type}:List (κ×V)->List (κ×afF)->Prop:=Paired λ(p:κ×V) (q:κ×afF)=>p.1=q.1/\RelV p.2 q.2
def kV:Key->V
 | .inl i=> .int i
 | .inr x=> .str x
inductive HO where
 /-- a list -/
 |lst (xs:List V)
 /-- a tuple (never changes) -/
 |tup (xs:List V)
 /-- a dict whose keys are ints and texts;one whose keys are tuples of ints and texts (the empty one is both) -/
 |dK (kvs:List (Key×V)) |dT (kvs:List (List Key×V))
 /-- a set of ints:its members,its size -/
 |set (S:Int->Bool) (n:Nat)
 /-- an instance of the class at C,its dict at dx,its attributes -/
 |ins (C dx:afG) (fs:List (Str×V))
 /-- the dict of the instance at x -/
 |own (x:afG)
 /-- the dict of an exception -/
 |xd (fs:List (Str×V))
 /-- a bound method,f of x -/
 |met (f x:afG)
 /-- a range object lo,lo+1,.. below hi -/
 |rng (lo hi:Int)
 /-- a thing that is known to the object (the script;a dict while a loop walks it):read,never written while it is so -/
 |frz (o:Obj) (u:HO)
 /-- a code object's table -/
 |tbl (ps:Array afF)
 /-- any other thing,by what is true of its one object (a def of one's own:SetO a S n:=HO.ext λh=> ..) -/
 |ext (φ:af8->Prop)
abbrev Hp:=afG->Option HO
def upd(H:Hp)(a:afG)(o:HO):Hp:=λb=>if b=a then some o else H b
theorem upd_same:upd H a o a=some o:=by unfold upd;rw[z9p rfl]
theorem upd_ne{a b:afG}(h:b≠a):upd H a o b=H b:=by unfold upd;rw[z9n h]
theorem ne_of_none{a b:afG}(h:H a=some o)(h':H b=none):a≠b:=by
 intro e;subst e;rw[h] at h';cases h'
def yO(h:af8)(a:afG)(items:Array afF):Prop:=∃o,h.get? a=some o/\o.cls= .type "tuple"/\o.dict=none/\∃n,o.data= .seq items n
theorem yO.tup{items:Array afF}(x:yO h a items):IsTup h a items:=let⟨o,e,c,_,d⟩:=x;⟨o,e,c,d⟩
theorem yO.new(h:af8)(items:Array afF):yO (h.push {cls:= .type "tuple",data:= .seq items}) h.objs.size items:=⟨_,z1f _ rfl,rfl,rfl,_,rfl⟩
section
variable(P:afQ)(w:af2)
def ObjOk(H:Hp)(h:af8)(a:afG):HO->Prop
 | .lst xs=>xs.length<=sizeLine/\∃(its:List afF) (n:Nat),Vals xs its/\h.get? a=some {cls:= .type "list",data:= .seq its.toArray n}
 | .tup xs=>xs.length<=sizeLine/\∃its:List afF,Vals xs its/\yO h a its.toArray
 | .dK kvs=>kvs.length<=sizeLine/\(a ==sysModules)=false/\∃vs,KV kvs vs/\h.DictOf (mixKind P w) a vs
 | .dT kvs=>kvs.length<=sizeLine/\(a ==sysModules)=false/\∃xs:List (List Key×afG×afF),
   Paired (λ(p:List Key×V) (q:List Key×afG×afF)=>p.1=q.1/\H q.2.1=some (.tup (p.1.map kV))/\RelV p.2 q.2.2) kvs xs/\
   ∃o es ep,h.get? a=some o/\o.ExactDict/\o.data= .dict es ep/\es.toList=xs.map (entryOfKey (tupleKind (mixKind P w)))/\(xs.map (·.1)).Nodup
 | .set S n=>h.SetOf (ako P w) a S n
 | .ins C dx fs=>H dx=some (.own a)/\fs.length<=1000/\dx≠a/\h.get? a=some (PySem.W.instObj C dx)/\
   ∃mA,h.Ns1 dx mA/\(∀f,RelO (fs.lookup f) (mA f))/\PySem.Within mA (fs.map (·.1))
 | .own _=>∃o,h.get? a=some o
 | .xd fs=>∃mA,h.Ns1 a mA/\∀f,RelO (fs.lookup f) (mA f)
 | .rng lo hi=>∃t u v,h.get? a=some {cls:= .type "range",data:= .fields #[.int lo t,.int hi u,.int 1 v]}
 | .frz o u=>h.get? a=some o/\ObjOk H h a u
 | .tbl ps=>∃qs:Array afF,h.get? a=some (w0i qs)/\ajU qs.toList/\∀pos cv,ajC pos qs.toList=some cv->∃c oc vs q t tq,cv= .ref c/\H c=some (.frz oc (.own c))/\oc.data= .fields vs/\vs[1]?=some (.str q t)/\ps[0]?=some (.str q tq)
 | .met f x=>h.get? a=some (w0n (.ref f) (.ref x))
 | .ext φ=>φ h/\(∃o,h.get? a=some o)/\∀h1 h2:af8,φ h1->(∀o,h1.get? a=some o->h2.get? a=some o)->φ h2
def HOk(H:Hp)(h:af8):Prop:=∀a o,H a=some o->ObjOk P w H h a o
end
section
variable{H H':Hp}{h h':af8}{o:HO}
theorem ObjOk.lt(x:ObjOk P w H h a o):a<h.objs.size:=by
 cases o with
 |lst xs=>let⟨_,_,_,_,e⟩:=x;show z2c e
 |tup xs=>let⟨_,_,_,_,e,_⟩:=x;show z2c e
 |dK kvs=>let⟨_,_,_,_,o,_,_,e,_⟩:=x;show z2c e
 |dT kvs=>let⟨_,_,_,_,o,_,_,e,_⟩:=x;show z2c e
 |set S n=>let⟨o,_,_,_,e,_⟩:=x;show z2c e
 |ins C dx fs=>let⟨_,_,_,e,_⟩:=x;show z2c e
 |own y=>let⟨_,e⟩:=x;show z2c e
 |xd fs=>let⟨_,⟨_,_,_,e,_⟩,_⟩:=x;show z2c e
 |rng lo hi=>let⟨_,_,_,e⟩:=x;show z2c e
 |frz ob u=>let⟨e,_⟩:=x;show z2c e
 |tbl ps=>let⟨_,e,_⟩:=x;show z2c e
 |met f y=>show z2c (show h.get? a=some _ from x)
 |ext φ=>let⟨_,⟨_,e⟩,_⟩:=x;show z2c e
theorem Paired.mapP{α β:Type}{F G:α->β->Prop}:∀{l₁:List α} {l₂:List β},Paired F l₁ l₂->(∀a b,F a b->G a b)->Paired G l₁ l₂
 :=by
 intro l₁ l₂ h f
 induction h with
 |nil=>show .nil
 |cons r t ih=>show .cons (f _ _ r) ih
theorem ObjOk.stay(x:ObjOk P w H h a o)(k:∀b u,(b=a\/H b=some (.own a))->h.get? b=some u->h'.get? b=some u)
  (ho:∀b,H b=some (.own a)->H' b=some (.own a))(ht:∀b xs,H b=some (.tup xs)->H' b=some (.tup xs))(hz:∀b o u,(∃vs,o.data= .fields vs)->H b=some (.frz o u)->H' b=some (.frz o u)):ObjOk P w H' h' a o:=by
 induction o with
 |lst xs=>let⟨z,its,n,r,e⟩:=x;show⟨z,its,n,r,k _ _ (.inl rfl) e⟩
 |tup xs=>let⟨z,its,r,ob,e,c⟩:=x;show⟨z,its,r,ob,k _ _ (.inl rfl) e,c⟩
 |dK kvs=>let⟨z,y,vs,r,ob,es,ep,e,c⟩:=x;show⟨z,y,vs,r,ob,es,ep,k _ _ (.inl rfl) e,c⟩
 | dT kvs=>
  let⟨z,y,xs,r,ob,es,ep,e,c⟩:=x;show⟨z,y,xs,Paired.mapP r λp q z=>⟨z.1,ht _ _ z.2.1,z.2.2⟩,ob,es,ep,k _ _ (.inl rfl) e,c⟩
 |set S n=>let⟨ob,es,ep,t,e,c⟩:=x;show⟨ob,es,ep,t,k _ _ (.inl rfl) e,c⟩
 | ins C dx fs=>
  let⟨d,z,ne,e,mA,⟨od,es,ep,e2,c⟩,r⟩:=x;show⟨ho _ d,z,ne,k _ _ (.inl rfl) e,mA,⟨od,es,ep,k _ _ (.inr d) e2,c⟩,r⟩
 |own y=>let⟨ob,e⟩:=x;show⟨ob,k _ _ (.inl rfl) e⟩
 |xd fs=>let⟨mA,⟨od,es,ep,e,c⟩,r⟩:=x;show⟨mA,⟨od,es,ep,k _ _ (.inl rfl) e,c⟩,r⟩
 |rng lo hi=>let⟨t,u,v,e⟩:=x;show⟨t,u,v,k _ _ (.inl rfl) e⟩
 |frz ob u ih=>let⟨e,q⟩:=x;show⟨k _ _ (.inl rfl) e,ih q⟩
 | tbl ps=>
  let⟨qs,e,tr,al⟩:=x;show⟨qs,k a _ (.inl rfl) e,tr,λp cv z=>by
   let⟨c,oc,vs,q,t,tq,e1,e2,e3,r⟩:=al p cv z;show⟨c,oc,vs,q,t,tq,e1,hz _ _ _ ⟨vs,e3⟩ e2,e3,r⟩⟩
 | met f y=>
  have e:h.get? a=some (w0n (.ref f) (.ref y)):=x;show h'.get? a=some (w0n (.ref f) (.ref y));show k a _ (.inl rfl) e
 |ext φ=>let⟨p,⟨o,e⟩,st⟩:=x;show⟨st _ _ p λo q=>k _ _ (.inl rfl) q,⟨o,k _ _ (.inl rfl) e⟩,st⟩
theorem HOk.lt(x:HOk P w H h)(e:H a=some o):a<h.objs.size:=(x a o e).lt
theorem HOk.fresh(x:HOk P w H h)(e:h.objs.size<=a):H a=none:=by
 cases q:H a with
 |none=>rfl
 |some u=>show absurd (z0d (x.lt q) e) (agX _)
theorem HOk.kept(x:HOk P w H h)(k:∀b u,h.get? b=some u->h'.get? b=some u):HOk P w H h':=λa o e=>
 (x a o e).stay (λb u _ q=>k b u q) (λ_ q=>q) (λ_ _ q=>q) λ_ _ _ _ q=>q
theorem HOk.laid(x:HOk P w H h)(k:∀b u,h.get? b=some u->h'.get? b=some u)(hp:h.objs.size<=a)(new:ObjOk P w (upd H a o) h' a o):HOk P w (upd H a o) h':=λb u e=>by
 have hn:=x.fresh hp;by_cases hb:b=a
 .subst hb;rw[upd_same] at e;cases e;show new
 .rw[upd_ne hb] at e;show (x b u e).stay (λc v _ q=>k c v q) (λc q=>by rw[upd_ne (ne_of_none q hn)];show q) (λc xs q=>by rw[upd_ne (ne_of_none q hn)];show q) λc _ _ _ q=>by rw[upd_ne (ne_of_none q hn)];show q
end
def Rd(H:Hp)(a:afG)(u:HO):Prop:=H a=some u\/∃o,H a=some (.frz o u)
theorem Rd.ok{u:HO}(r:Rd H a u)(x:HOk P w H h):ObjOk P w H h a u:=by
 rcases r with r |⟨o,r⟩
 .show x a u r
 .let⟨_,q⟩:=x a _ r;show q
def Mut:Option HO->Prop
 |some (.lst _)=>True
 |some (.dK _)=>True
 |some (.dT _)=>True
 |some (.set _ _)=>True
 |some (.ins _ _ _)=>True
 |some (.ext _)=>True
 |_=>False
section
variable{H:Hp}{h h':af8}{x e:afG}{o':HO}
theorem HOk.write(ok:HOk P w H h)(mu:Mut (H x))(he:e=x\/H e=some (.own x))(k:∀b u,b≠e->h.get? b=some u->h'.get? b=some u)(heo:∃u,h'.get? e=some u)
  (new:ObjOk P w (upd H x o') h' x o'):HOk P w (upd H x o') h':=λb u q=>by
 have nown:∀c y,H c=some (.own y)->c≠x:=λc y r z=>by subst z;rw[r] at mu;show mu
 have ntup:∀c xs,H c=some (.tup xs)->c≠x:=λc xs r z=>by subst z;rw[r] at mu;show mu
 by_cases hb:b=x
 .subst hb;rw[upd_same] at q;cases q;show new
 .rw[upd_ne hb] at q;by_cases hbe:b=e
  .have q':H b=some (.own x):=by
    rcases he with z |z
    .show absurd (hbe.trans z) hb
    .rw[hbe];show z
   rw[q] at q';cases q';let⟨v,hv⟩:=heo;show⟨v,by rw[hbe];show hv⟩
  .show (ok b u q).stay (λc v hc r=>k c v ?_ r) (λc r=>by rw[upd_ne (nown c b r)];show r) (λc xs r=>by rw[upd_ne (ntup c xs r)];show r) λc o1 u1 _ r=>by rw[upd_ne (λz=>by rw[z] at r;rw[r] at mu;show mu)];show r
   rcases hc with rfl |hc
   .show hbe
   .rintro rfl
    rcases he with z |z
    .show nown c b hc z
    .rw[hc] at z;cases z;show hb rfl
end
structure Un(fs ex:List afG)(H H':Hp)(h h':af8):Prop where
 keep:∀b o,h.get? b=some o->H b=none->b∉fs->b∉ex->h'.get? b=some o
 slot:∀b o,h.get? b=some o->H b=none->b∈fs->b∉ex->∃sl,h'.get? b=some {o with slots:=sl}
 free:∀b o,h.get? b=some o->H b=none->b∉ex->H' b=none
 there:∀b o,h.get? b=some o->b∉ex->∃o',h'.get? b=some o'
 tups:∀b xs,H b=some (.tup xs)->H' b=some (.tup xs)
 frzs:∀b o u,H b=some (.frz o u)->H' b=some (.frz o u)
 tbls:∀b ps,H b=some (.tbl ps)->∃more,H' b=some (.tbl (ps++more))
section
variable{fs fs' ex ex':List afG}{H H1 H2:Hp}{h h1 h2 h':af8}{a x e:afG}{o:HO}
theorem Un.any(u:Un fs ex H H1 h h1){ob:Obj}(q:h.get? b=some ob)(n:H b=none)(hx:b∉ex):∃sl,h1.get? b=some {ob with slots:=sl}:=by
 by_cases hb:b∈fs
 .show u.slot b ob q n hb hx
 .show⟨ob.slots,u.keep b ob q n hb hx⟩
theorem Un.kept(k:∀b u,h.get? b=some u->h'.get? b=some u):Un fs ex H H h h':=
 ⟨λb ob q _ _ _=>k b ob q,λb ob q _ _ _=>⟨ob.slots,k b ob q⟩,λ_ _ _ n _=>n,λb ob q _=>⟨ob,k b ob q⟩,λ_ _ q=>q,λ_ _ _ q=>q,λ_ ps q=>⟨#[],by rw[q];simp⟩⟩
theorem Un.refl:Un fs ex H H h h:=Un.kept λ_ _ q=>q
theorem Un.laid(k:∀b u,h.get? b=some u->h'.get? b=some u)(hp:h.objs.size<=a)(hn:H a=none):Un fs ex H (upd H a o) h h' where
 keep:=λb u q _ _ _=>k b u q
 slot:=λb u q _ _ _=>⟨u.slots,k b u q⟩
 free:=λb u q n _=>by rw[upd_ne (agm (z0d (z2c q) hp))];show n
 there:=λb u q _=>⟨u,k b u q⟩
 tups:=λb xs q=>by rw[upd_ne (ne_of_none q hn)];show q
 frzs:=λb u xs q=>by rw[upd_ne (ne_of_none q hn)];show q
 tbls:=λb ps q=>⟨#[],by rw[upd_ne (ne_of_none q hn),q];simp⟩
theorem Un.write(mu:Mut (H x))(he:e=x\/H e=some (.own x))(k:∀b u,b≠e->h.get? b=some u->h'.get? b=some u)(heo:∃u,h'.get? e=some u):Un fs ex H (upd H x o) h h':=by
 have hx:∀b,H b=none->b≠x:=λb n z=>by subst z;rw[n] at mu;show mu
 have hb:∀b,H b=none->b≠e:=λb n z=>by
  subst z;rcases he with r |r
  .show hx b n r
  .rw[n] at r;cases r
 have hm:∀b u,H b=some u->¬Mut (some u)->b≠x:=λb u q nm z=>by subst z;rw[q] at mu;show nm mu
 show⟨λb u q n _ _=>k b u (hb b n) q,λb u q n _ _=>⟨u.slots,k b u (hb b n) q⟩,λb u q n _=>by rw[upd_ne (hx b n)];show n,λb u q _=>?_,
  λb xs q=>by rw[upd_ne (hm b _ q λz=>z)];show q,λb u xs q=>by rw[upd_ne (hm b _ q λz=>z)];show q,λb ps q=>⟨#[],by rw[upd_ne (hm b _ q λz=>z),q];simp⟩⟩
 by_cases hbe:b=e
 .subst hbe;show heo
 .show⟨u,k b u hbe q⟩
end
def trk(h:af8)(H:Hp):List afG:=(afI h.objs.size).filter λa=>(H a).isSome
def hidT(h:af8)(H:Hp):af8:=PySem.W.hideAll h (trk h H)
theorem hidT_size(h:af8)(H:Hp):(hidT h H).objs.size=h.objs.size:=PySem.W.hideAll_size _ _
theorem hidT_get{o:Obj}(e:h.get? b=some o)(n:H b=none):(hidT h H).get? b=some o:=
 PySem.W.hideAll_get _ e λhm=>by
  have q:(H b).isSome=true:=(ahd.mp hm).2;rw[n] at q;simp at q
theorem of_hidT{o:Obj}(e:(hidT h H).get? b=some o):h.get? b=some o/\H b=none:=by
 have e':h.get? b=some o:=PySem.W.of_hideAll (trk h H) e;show⟨e',?_⟩;cases q:H b with
 |none=>rfl
 | some x=>
  have hm:b∈trk h H:=ahd.mpr ⟨ahH.mpr (z2c e'),by simp[q]⟩;have z:(hidT h H).get? b=none:=PySem.W.hideAll_none (trk h H) hm;rw[z] at e;cases e
def allNews(g h:af8)(L:afG):List (afG×Obj):=(afI h.objs.size).filterMap λa=>if a=L\/(g.get? a).isSome=true then none else (h.get? a).map λo=>(a,o)
def rest(g h:af8)(L d:afG):List (afG×Obj):=(allNews g h L).filter λp=>decide (p.1≠d)
structure Mod(K:w0a)(mg:Str->Option afF)(base:af8):Prop where
 kin:K.In base
 glob:base.Ns af0 mg
 blt:∃mb,base.Ns ajE mb/\∀x:Str,x≠"__name__"->mb x=ahR x
 nolimit:base.NoLimit
structure Cx where
 prog:afQ
 w:af2
 K:w0a
 mg:Str->Option afF
 base:af8
 A:afZ
 N:List Str
 s₀:afH
 H₀:Hp
 env:Env
 outer:List Env
 stack:List Env
 ex:List afG
 fn:Str->Bool
 calm:Bool
 pn:List (afG×Obj)
 xe:afF->afH->Prop
def frs(l:List Env):List afG:=l.filterMap (·.frame)
abbrev Cx.fs(X:Cx):List afG:=frs X.outer
def Vis(sc:ahz)(x:Str):Prop:=sc.names.lookup x=some .local\/sc.names.lookup x=some .cell\/sc.names.lookup x=some .free
def Loc(sc:ahz)(x:Str):Prop:=sc.names.lookup x=some .local\/sc.names.lookup x=some .cell
def Look(env:Env)(h:af8)(m:Str->Option afF)(x:Str)(u:afF):Prop:=
 (env.kindOf x=some .local/\m x=some u)\/((env.kindOf x=some .cell\/env.kindOf x=some .free)/\∃c,env.cells.lookup x=some c/\h.IsCell c (some u))
structure Cx.Ok(X:Cx):Prop where
 mod:Mod X.K X.mg X.base
 kind:X.env.scope.kind= .function
 glob:X.env.globals=af0
 blt:X.env.builtins=ajE
 above:X.s₀.heap.objs.size<=X.env.locals
 inj:∀x y c,X.env.cells.lookup x=some c->X.env.cells.lookup y=some c->x=y
 has:∀x,(X.env.kindOf x=some .cell\/X.env.kindOf x=some .free)->∃c,X.env.cells.lookup x=some c
 cab:∀x c,X.fn x=true->X.env.cells.lookup x=some c->X.s₀.heap.objs.size<=c
 hd:X.calm=true->X.A.handled=none
 frames:X.A.frames=some X.stack
 stk:X.stack=X.outer\/(X.stack=X.env::X.outer/\X.env.frame=some X.env.locals)
 exf:∀b∈X.ex,b≠X.env.locals/\∀x c,X.env.cells.lookup x=some c->c≠b
 bs:∀b o,X.base.get? b=some o->X.s₀.heap.get? b=some o/\X.H₀ b=none
 bsz:X.base.objs.size<=X.s₀.heap.objs.size
 noex:∀b o,X.base.get? b=some o->b∉X.ex
 exfs:∀b∈X.ex,b∉X.fs
 funs:X.s₀.heap.FunFrames X.base X.outer
 frf:∀b∈X.fs,X.H₀ b=none
structure Inv(X:Cx)(pins:List (afG×Obj))(σ:List (Option V))(H:Hp)(s:afH):Prop where
 ok:X.Ok
 os:s.os=X.s₀.os
 bare:aj3 s.gens
 base:Un X.fs X.ex X.H₀ H X.s₀.heap s.heap
 loc:∃m,s.heap.Ns X.env.locals m/\∀(i:Nat) (x:Str) (v:V),X.N[i]?=some x->σ[i]?=some (some v)->Vis X.env.scope x->∃u,RelV v u/\Look X.env s.heap m x u
 cell:∀x c,X.env.cells.lookup x=some c->∃v,s.heap.IsCell c v
 free:H X.env.locals=none
 freeC:∀x c,X.env.cells.lookup x=some c->H c=none
 pin:∀p∈X.pn++pins,s.heap.get? p.1=some p.2/\H p.1=none/\p.1≠X.env.locals/\p.1∉X.fs/\∀v,p.2.data≠.cell v
 hok:HOk X.prog X.w H s.heap
 len:σ.length=X.N.length
section
variable{X:Cx}{σ:List (Option V)}{H H':Hp}{h':af8}
theorem Cx.Ok.nofr(ok:X.Ok){o:Obj}(e:X.base.get? b=some o):b∉X.fs:=λhb=>by
 have:=(ok.funs.mem hb).1;rw[e] at this;cases this
theorem Inv.bs(I:Inv X pins σ H s):∀b o,X.base.get? b=some o->s.heap.get? b=some o/\H b=none:=λb o e=>
 ⟨I.base.keep b o (I.ok.bs b o e).1 (I.ok.bs b o e).2 (I.ok.nofr e) (I.ok.noex b o e),I.base.free b o (I.ok.bs b o e).1 (I.ok.bs b o e).2 (I.ok.noex b o e)⟩
theorem Inv.bk(I:Inv X pins σ H s):∀b o,X.base.get? b=some o->s.heap.get? b=some o:=λb o e=>(I.bs b o e).1
theorem Inv.mod(I:Inv X pins σ H s):Mod X.K X.mg X.base:=I.ok.mod
theorem Inv.kIn(I:Inv X pins σ H s):X.K.In s.heap:=I.ok.mod.kin.keeps I.bk
theorem Inv.lt(I:Inv X pins σ H s):X.env.locals<s.heap.objs.size:=let⟨_,hn,_⟩:=I.loc;hn.lt
theorem Inv.sz(I:Inv X pins σ H s):X.s₀.heap.objs.size<=s.heap.objs.size:=z0b I.ok.above (z0e I.lt)
theorem Inv.nofs(I:Inv X pins σ H s)(h:s.heap.objs.size<=a):a∉X.fs:=λhb=>by
 let⟨_,o,ho,_⟩:=I.ok.funs.mem hb;show absurd (z0d (z2c ho) (z0b I.sz h)) (agX _)
theorem Inv.cne(I:Inv X pins σ H s):∀x c,X.env.cells.lookup x=some c->c≠X.env.locals:=λx c e z=>by
 let⟨v,o,ho,hd⟩:=I.cell x c e;let⟨m,⟨o',es,ep,ho',hd',_⟩,_⟩:=I.loc;rw[z,ho'] at ho;cases ho;rw[hd'] at hd;cases hd
theorem Inv.funs(I:Inv X pins σ H s):s.heap.FunFrames X.base X.outer:=by
 have all:∀(l:List Env),(∀b∈frs l,b∈X.fs)->X.s₀.heap.FunFrames X.base l->s.heap.FunFrames X.base l:=by
  intro l
  induction l with
  |nil=>intro _ _;trivial
  | cons env r ih=>
   intro hs hl;let⟨hk,⟨L,o,hf,hn,ho,hd⟩,hr⟩:=hl;have hL:L∈X.fs:=hs L (by unfold frs;rw[ai8,hf];show afT);let⟨sl,e⟩:=I.base.slot L o ho (I.ok.frf L hL) hL λz=>I.ok.exfs L z hL;show⟨hk,⟨L,_,hf,hn,e,hd⟩,ih (λb hb=>hs b (by unfold frs;rw[ai8,hf];show z2f _ hb)) hr⟩
 show all X.outer (λ_ hb=>hb) I.ok.funs
theorem Inv.stack(I:Inv X pins σ H s):s.heap.FunFrames X.base X.stack:=by
 rcases I.ok.stk with e |⟨e,hf⟩
 .rw[e];show I.funs
 .rw[e];let⟨m,hn,_⟩:=I.loc;show .cons (by rw[I.ok.kind];decide) hf hn ?_ I.funs;show Heap.get?_none_of_le (z0b I.ok.bsz I.ok.above)
theorem Inv.stkSub(I:Inv X pins σ H s):∀b∈frs X.stack,b∈X.env.locals::X.fs:=λb hb=>by
 rcases I.ok.stk with e |⟨e,hf⟩
 .rw[e] at hb;show z2f _ hb
 .rw[e] at hb;unfold frs at hb;rw[ai8,hf] at hb;show hb
theorem Inv.stkFree(I:Inv X pins σ H s):∀b∈frs X.stack,H b=none:=λb hb=>by
 rcases afR.mp (I.stkSub b hb) with e |hb
 .rw[e];show I.free
 .let⟨_,o,ho,_⟩:=I.ok.funs.mem hb;show I.base.free b o ho (I.ok.frf b hb) λz=>I.ok.exfs b z hb
theorem Inv.step{g':Array aln}{d':Drawn}(I:Inv X pins σ H s)
  (hch:∀b∈ch,(b∈X.ex\/X.s₀.heap.objs.size<=b)/\b≠X.env.locals/\(∀x c,X.env.cells.lookup x=some c->c≠b)/\∀p∈X.pn++pins,p.1≠b)
  (keep:∀b o,b≠X.env.locals->b∉X.fs->b∉ch->s.heap.get? b=some o->H b=none->h'.get? b=some o)
  (slot:∀b o,b≠X.env.locals->b∈X.fs->b∉ch->s.heap.get? b=some o->H b=none->∃sl,h'.get? b=some {o with slots:=sl})(free:∀b o,b∉ch->s.heap.get? b=some o->H b=none->H' b=none)
  (there:∀b o,b∉ch->s.heap.get? b=some o->∃o',h'.get? b=some o')
  (tups:∀b xs,H b=some (.tup xs)->H' b=some (.tup xs))(frzs:∀b o u,H b=some (.frz o u)->H' b=some (.frz o u))(tbls:∀b ps,H b=some (.tbl ps)->∃more,H' b=some (.tbl (ps++more)))
  (ns:∀m,s.heap.Ns X.env.locals m->h'.Ns X.env.locals m)(hok:HOk X.prog X.w H' h')(hg:aj3 g'):
  Inv X pins σ H' {s with heap:=h',gens:=g',drawn:=d',toks:=t'}:=by
 have neL:∀b o,X.s₀.heap.get? b=some o->b≠X.env.locals:=λb o e=>agm (z0d (z2c e) I.ok.above);have neC:∀b o,X.s₀.heap.get? b=some o->b∉X.ex->b∉ch:=λb o e hx hb=>by
  rcases (hch b hb).1 with z |z
  .show hx z
  .show absurd (z0d (z2c e) z) (agX _)
 have cellK:∀x c,X.env.cells.lookup x=some c->∀v,s.heap.IsCell c v->h'.IsCell c v:=λx c e v ⟨o,ho,hd⟩=>by
  have nch:c∉ch:=λz=>(hch c z).2.2.1 x c e rfl;by_cases hc:c∈X.fs
  .let⟨sl,q⟩:=slot c o (I.cne x c e) hc nch ho (I.freeC x c e);show⟨_,q,hd⟩
  .show⟨o,keep c o (I.cne x c e) hc nch ho (I.freeC x c e),hd⟩
 show⟨I.ok,I.os,hg,⟨λb o e n hb hx=>?_,λb o e n hb hx=>?_,λb o e n hx=>?_,λb o e hx=>?_,λb xs e=>tups b xs (I.base.tups b xs e),λb o xs e=>frzs b o xs (I.base.frzs b o xs e),λb ps e=>?_⟩,?_,λx c e=>?_,?_,λx c e=>?_,λp hp=>?_,hok,I.len⟩
 .show keep b o (neL b o e) hb (neC b o e hx) (I.base.keep b o e n hb hx) (I.base.free b o e n hx)
 .let⟨sl,e1⟩:=I.base.slot b o e n hb hx;let⟨sl',e2⟩:=slot b _ (neL b o e) hb (neC b o e hx) e1 (I.base.free b o e n hx);show⟨sl',e2⟩
 .let⟨o',e1⟩:=I.base.there b o e hx;show free b o' (neC b o e hx) e1 (I.base.free b o e n hx)
 .let⟨o',e1⟩:=I.base.there b o e hx;show there b o' (neC b o e hx) e1
 .let⟨m1,e1⟩:=I.base.tbls b ps e;let⟨m2,e2⟩:=tbls b _ e1;show⟨m1++m2,by rw[e2,Array.append_assoc]⟩
 .let⟨m,hn,hl⟩:=I.loc;show⟨m,ns m hn,λi x v e1 e2 e3=>?_⟩;let⟨u,r,l⟩:=hl i x v e1 e2 e3;show⟨u,r,?_⟩;rcases l with l |⟨k,c,e,z⟩
  .show .inl l
  .show .inr ⟨k,c,e,cellK x c e _ z⟩
 .let⟨v,z⟩:=I.cell x c e;show⟨v,cellK x c e v z⟩
 .let⟨m,⟨o,_,_,ho,_⟩,_⟩:=I.loc;show free _ o (λz=>(hch _ z).2.1 rfl) ho I.free
 .let⟨v,o,ho,hd⟩:=I.cell x c e;show free c o (λz=>(hch c z).2.2.1 x c e rfl) ho (I.freeC x c e)
 .let⟨e,n,ne,nf,d⟩:=I.pin p hp;have nch:p.1∉ch:=λz=>(hch p.1 z).2.2.2 p hp rfl;show⟨keep p.1 p.2 ne nf nch e n,free p.1 p.2 nch e n,ne,nf,d⟩
theorem Inv.un(I:Inv X pins σ H s)(u:Un X.fs [] H H' s.heap h')(hok:HOk X.prog X.w H' h'):Inv X pins σ H' {s with heap:=h',toks:=t'}:=by
 let⟨m,⟨o,es,ep,ho,r⟩,_⟩:=id I.loc;let⟨sl,hL⟩:=u.any ho I.free ();show I.step (g':=s.gens) (d':=s.drawn) (ch:=[]) (λ_ z=>nomatch z) (λb o _ hb _ e n=>u.keep b o e n hb ()) (λb o _ hb _ e n=>u.slot b o e n hb ()) (λb o _ e n=>u.free b o e n ()) (λb o _ e=>u.there b o e ()) u.tups u.frzs u.tbls (λm' hm=>by
  let⟨o',es',ep',ho',r'⟩:=hm;rw[ho] at ho';cases ho';show⟨_,es',ep',hL,r'⟩) hok I.bare
theorem Inv.call{g':Array aln}{d':Drawn}(I:Inv X pins σ H s)(u:Un (frs X.stack) ch H H' s.heap h')(hok:HOk X.prog X.w H' h')(hg:aj3 g')
  (hch:∀b∈ch,(b∈X.ex\/X.s₀.heap.objs.size<=b)/\b≠X.env.locals/\(∀x c,X.env.cells.lookup x=some c->c≠b)/\∀p∈X.pn++pins,p.1≠b):
  Inv X pins σ H' {s with heap:=h',gens:=g',drawn:=d',toks:=t'}:=by
 let⟨m,⟨o,es,ep,ho,r⟩,_⟩:=id I.loc;let⟨sl,hL⟩:=u.any ho I.free λz=>(hch _ z).2.1 rfl;show I.step (ch:=ch) hch (λb o hL hb hc e n=>u.keep b o e n (λz=>(afR.mp (I.stkSub b z)).elim hL hb) hc) (λb o _ _ hc e n=>u.any e n hc) (λb o hc e n=>u.free b o e n hc) (λb o hc e=>u.there b o e hc) u.tups u.frzs u.tbls (λm' hm=>by
  let⟨o',es',ep',ho',r'⟩:=hm;rw[ho] at ho';cases ho';show⟨_,es',ep',hL,r'⟩) hok hg
theorem Inv.turned{it:afG}(I:Inv X pins σ H s)(k:∀b o,b≠it->s.heap.get? b=some o->h'.get? b=some o)(hn:H it=none)(hL:it≠X.env.locals)
  (h1:it∈X.ex\/X.s₀.heap.objs.size<=it)(h2:∀x c,X.env.cells.lookup x=some c->c≠it)(h3:∀p∈X.pn++pins,p.1≠it):Inv X pins σ H {s with heap:=h',toks:=t'}:=by
 have nit:∀b u,H b=some u->b≠it:=λb u e z=>by rw[z,hn] at e;cases e
 show I.step (g':=s.gens) (d':=s.drawn) (ch:=[it]) (λb hb=>?_) (λb o _ _ hc e _=>k b o (λz=>hc (by simp[z])) e) (λb o _ _ hc e _=>⟨o.slots,k b o (λz=>hc (by simp[z])) e⟩) (λ_ _ _ _ n=>n)
  (λb o hc e=>⟨o,k b o (λz=>hc (by simp[z])) e⟩) (λ_ _ e=>e) (λ_ _ _ e=>e) (λb ps e=>⟨#[],by rw[e];simp⟩) (λm hm=>?_) (λb u e=>?_) I.bare
 .have e:b=it:=by simpa using hb
  subst e;show⟨h1,hL,h2,h3⟩
 .let⟨o,es,ep,ho,r⟩:=hm;show⟨o,es,ep,k _ o (agc hL) ho,r⟩
 .show (I.hok b u e).stay (λc v hc q=>k c v ?_ q) (λ_ q=>q) (λ_ _ q=>q) λ_ _ _ _ q=>q;rcases hc with z |z
  .rw[z];show nit b u e
  .show nit c _ z
theorem Inv.tok(I:Inv X pins σ H s)(t:Nat):Inv X pins σ H {s with toks:=t}:=I.un (h':=s.heap) (t':=t) Un.refl I.hok
theorem Inv.kept(I:Inv X pins σ H s)(k:∀b u,s.heap.get? b=some u->h'.get? b=some u):Inv X pins σ H {s with heap:=h',toks:=t'}:=I.un (Un.kept k) (I.hok.kept k)
theorem Inv.laid(I:Inv X pins σ H s)(k:∀b u,s.heap.get? b=some u->h'.get? b=some u)(hp:s.heap.objs.size<=a)(new:ObjOk X.prog X.w (upd H a o) h' a o):
  Inv X pins σ (upd H a o) {s with heap:=h',toks:=t'}:=I.un (Un.laid k hp (I.hok.fresh hp)) (I.hok.laid k hp new)
theorem Inv.write{x e:afG}(I:Inv X pins σ H s)(mu:Mut (H x))(he:e=x\/H e=some (.own x))(k:∀b u,b≠e->s.heap.get? b=some u->h'.get? b=some u)(heo:∃u,h'.get? e=some u)
  (new:ObjOk X.prog X.w (upd H x o) h' x o):Inv X pins σ (upd H x o) {s with heap:=h',toks:=t'}:=I.un (Un.write mu he k heo) (I.hok.write mu he k heo new)
theorem Inv.pins_of{pins':List (afG×Obj)}(I:Inv X pins σ H s)(h:∀p∈pins',s.heap.get? p.1=some p.2/\H p.1=none/\p.1≠X.env.locals/\p.1∉X.fs/\∀v,p.2.data≠.cell v):Inv X pins' σ H s:=
 ⟨I.ok,I.os,I.bare,I.base,I.loc,I.cell,I.free,I.freeC,λp hp=>(agk.mp hp).elim (λz=>I.pin p (agQ _ z)) (h p),I.hok,I.len⟩
theorem nodup_ix(hN:N.Nodup){i j:Nat}(a:N[i]?=some x)(b:N[j]?=some x):i=j:=by
 let⟨h1,e1⟩:=z1b a;let⟨h2,e2⟩:=z1b b;show (List.getElem_inj hN).mp (e1.trans e2.symm)
theorem store_ok2{v:V}(I:Inv X pins σ H s)(hN:X.N.Nodup)(hi:X.N[i]?=some x)(hx:Loc X.env.scope x)(r:RelV v u)
  (h:∀s',Inv X pins (σ.set i (some v)) H s'->(∃a,ahe a s.heap s'.heap/\(a=X.env.locals\/X.env.cells.lookup x=some a))->Q Unit.unit s')(hf:X.fn x=true\/X.env.scope.names.lookup x=some .local:=by first |show .inl rfl |show .inr rfl |assumption):afK M A (aii X.env x u) Q E s:=by
 let⟨m,hn,hl⟩:=id I.loc;have hcls:(X.env.scope.kind == .class || (X.env.scope.kind == .module && X.env.locals !=X.env.globals))=false:=by rw[I.ok.kind];rfl
 have hiσ:i<σ.length:=by rw[I.len];show (z1b hi).1
 have cne:=I.cne;have tracked:∀{a:afG} {h':af8},(∃o,s.heap.get? a=some o/\H a=none)->ahe a s.heap h'->HOk X.prog X.w H h':=λ{a h'} ha hs b ob e=>by
  let⟨_,_,hfree⟩:=ha;show (I.hok b ob e).stay (λc w' hc q=>(hs.2 c ?_).trans q) (λ_ q=>q) (λ_ _ q=>q) λ_ _ _ _ q=>q
  rintro rfl
  rcases hc with rfl |hc
  .rw[hfree] at e;cases e
  .rw[hfree] at hc;cases hc
 rcases hx with hk |hk
 .show wpAny_storeName_local hk hn (λh' hn' hs=>?_) hcls;let⟨oL,_,_,hoL,_⟩:=id hn;show h _ ⟨I.ok,I.os,I.bare,⟨λb o e n hb hx=>?_,λb o e n hb hx=>?_,I.base.free,λb o e hx=>?_,I.base.tups,I.base.frzs,I.base.tbls⟩,⟨_,hn',λj y v' e1 e2 e3=>?_⟩,λy c e=>?_,I.free,I.freeC,λp hp=>?_,tracked ⟨oL,hoL,I.free⟩ hs,by simpa using I.len⟩ ⟨_,hs,.inl rfl⟩
  .show (hs.2 b (agm (z0d (z2c e) I.ok.above))).trans (I.base.keep b o e n hb hx)
  .let⟨sl,e1⟩:=I.base.slot b o e n hb hx;show⟨sl,(hs.2 b (agm (z0d (z2c e) I.ok.above))).trans e1⟩
  .let⟨o',e1⟩:=I.base.there b o e hx;show⟨o',(hs.2 b (agm (z0d (z2c e) I.ok.above))).trans e1⟩
  .by_cases hj:j=i
   .subst hj;rw[hi] at e1;cases e1;rw[z2a hiσ] at e2;cases e2;show⟨u,r,.inl ⟨hk,()⟩⟩
   .rw[z1e (agc hj)] at e2;let⟨u',r',q⟩:=hl j y v' e1 e2 e3;show⟨u',r',?_⟩;rcases q with⟨k,e⟩ |⟨k,c,e,z⟩
    .show .inl ⟨k,?_⟩;have:y≠x:=λe=>hj (nodup_ix hN e1 (e▸hi));simp[this,e]
    .show .inr ⟨k,c,e,z.sameBut hs (cne y c e)⟩
  .let⟨w',z⟩:=I.cell y c e;show⟨w',z.sameBut hs (cne y c e)⟩
  .let⟨e,n,ne,nf,d⟩:=I.pin p hp;show⟨(hs.2 p.1 ne).trans e,n,ne,nf,d⟩
 .have hfn:X.fn x=true:=by
   rcases hf with z |z
   .show z
   .rw[z] at hk;cases hk
  let⟨c,hc⟩:=I.ok.has x (.inl hk);let⟨w',z⟩:=I.cell x c hc;show wpAny_storeName_cell I.ok.kind hk hc z (λh' hc' hs=>?_);let⟨oc,hoc,hocd⟩:=id z;show h {s with heap:=h'} ⟨I.ok,I.os,I.bare,⟨λb o e n hb hx=>?_,λb o e n hb hx=>?_,I.base.free,λb o e hx=>?_,I.base.tups,I.base.frzs,I.base.tbls⟩,⟨m,hn.sameBut hs (agc (cne x c hc)),λj y v' e1 e2 e3=>?_⟩,λy c' e=>?_,I.free,I.freeC,λp hp=>?_,tracked ⟨oc,hoc,I.freeC x c hc⟩ hs,by simpa using I.len⟩ ⟨c,hs,.inr hc⟩
  .show (hs.2 b (agm (z0d (z2c e) (I.ok.cab x c hfn hc)))).trans (I.base.keep b o e n hb hx)
  .let⟨sl,e1⟩:=I.base.slot b o e n hb hx;show⟨sl,(hs.2 b (agm (z0d (z2c e) (I.ok.cab x c hfn hc)))).trans e1⟩
  .let⟨o',e1⟩:=I.base.there b o e hx;show⟨o',(hs.2 b (agm (z0d (z2c e) (I.ok.cab x c hfn hc)))).trans e1⟩
  .by_cases hj:j=i
   .subst hj;rw[hi] at e1;cases e1;rw[z2a hiσ] at e2;cases e2;show⟨u,r,.inr ⟨.inl hk,c,hc,hc'⟩⟩
   .rw[z1e (agc hj)] at e2;let⟨u',r',q⟩:=hl j y v' e1 e2 e3;show⟨u',r',?_⟩;rcases q with q |⟨k,c',e,z'⟩
    .show .inl q
    .show .inr ⟨k,c',e,z'.sameBut hs ?_⟩
     rintro rfl
     show hj (nodup_ix hN e1 (I.ok.inj _ _ _ e hc▸hi))
  .by_cases hcc:c'=c
   .subst hcc;show⟨_,hc'⟩
   .let⟨w2,z2⟩:=I.cell y c' e;show⟨w2,z2.sameBut hs hcc⟩
  .let⟨e,n,ne,nf,d⟩:=I.pin p hp;show⟨(hs.2 p.1 ?_).trans e,n,ne,nf,d⟩;intro q;rw[q,hoc] at e;have q':oc=p.2:=agb e;show d w' (by rw[<-q'];show hocd)
theorem store_ok{v:V}(I:Inv X pins σ H s)(hN:X.N.Nodup)(hi:X.N[i]?=some x)(hx:Loc X.env.scope x)(r:RelV v u)
  (h:∀s',Inv X pins (σ.set i (some v)) H s'->Q Unit.unit s')(hf:X.fn x=true\/X.env.scope.names.lookup x=some .local:=by first |show .inl rfl |show .inr rfl |assumption):afK M A (aii X.env x u) Q E s:=
 store_ok2 I hN hi hx r (λs' I' _=>h s' I') hf
theorem Inv.call'{s':afH}(I:Inv X pins σ H s)(ho:s'.os=s.os)(u:Un (frs X.stack) ch H H' s.heap s'.heap)(hok:HOk X.prog X.w H' s'.heap)(hg:aj3 s'.gens)
  (hch:∀b∈ch,(b∈X.ex\/X.s₀.heap.objs.size<=b)/\b≠X.env.locals/\(∀x c,X.env.cells.lookup x=some c->c≠b)/\∀p∈X.pn++pins,p.1≠b):Inv X pins σ H' s':=by
 let⟨h',g',d',t',o'⟩:=s';have e:o'=s.os:=ho;subst e;show I.call (g':=g') (t':=t') (d':=d') u hok hg hch
end
abbrev XK:=afF->Option afG->Hp->Prop
abbrev St:=List (Option V)
abbrev VK:=V->Hp->Prop
abbrev TE:=St->Hp->VK->Prop
abbrev TT:=St->Hp->(Bool->Hp->Prop)->Prop
abbrev TA:=St->Hp->(List V->Hp->Prop)->Prop
structure Ends where
 nx:St->Hp->Prop
 rt:VK
 bk:St->Hp->Prop:=λ_ _=>False
 ct:St->Hp->Prop:=λ_ _=>False
abbrev TS:=Ends->St->Hp->Prop
inductive EP (X:Cx) (pins:List (afG×Obj)) (σ:St) (Q:VK) (u:afF) (s':afH):Prop
 |mk (v:V) (H':Hp) (I:Inv X pins σ H' s') (r:RelV v u) (q:Q v H'):EP X pins σ Q u s'
inductive TP (X:Cx) (pins:List (afG×Obj)) (σ:St) (Q:Bool->Hp->Prop) (b:Bool) (s':afH):Prop
 |mk (H':Hp) (I:Inv X pins σ H' s') (q:Q b H'):TP X pins σ Q b s'
inductive AP (X:Cx) (pins:List (afG×Obj)) (σ:St) (Q:List V->Hp->Prop) (us:List afF) (s':afH):Prop
 |mk (vs:List V) (H':Hp) (I:Inv X pins σ H' s') (r:Vals vs us) (q:Q vs H'):AP X pins σ Q us s'
inductive Ui (X:Cx) (pins:List (afG×Obj)) (D:St->Hp->Prop) (s':afH):Prop
 |mk (σ':St) (H':Hp) (I:Inv X pins σ' H' s') (d:D σ' H'):Ui X pins D s'
inductive SPr (X:Cx) (pins:List (afG×Obj)) (D:V->Hp->Prop) (u:afF) (s':afH):Prop
 |mk (v:V) (σ':St) (H':Hp) (I:Inv X pins σ' H' s') (r:RelV v u) (d:D v H'):SPr X pins D u s'
def SP(X:Cx)(pins:List (afG×Obj))(D:Ends)(f:Flow)(s':afH):Prop:=
 match f with
 | .next=>Ui X pins D.nx s'
 | .brk=>Ui X pins D.bk s'
 | .cont=>Ui X pins D.ct s'
 | .ret u=>SPr X pins D.rt u s'
def PE(X:Cx)(e:afV)(t:TE):Prop:=
 ∀(pins:List (afG×Obj)) (s:afH) (σ:St) (H:Hp) (Q:VK),Inv X pins σ H s->t σ H Q->afK (model X.prog X.w) X.A (eval e X.env) (EP X pins σ Q) X.xe s
def PT(X:Cx)(e:afV)(t:TT):Prop:=
 ∀(pins:List (afG×Obj)) (s:afH) (σ:St) (H:Hp) (Q:Bool->Hp->Prop),Inv X pins σ H s->t σ H Q->afK (model X.prog X.w) X.A (isTrue e X.env (eval e X.env)) (TP X pins σ Q) X.xe s
def PW(X:Cx)(e:afV)(t:TT):Prop:=
 ∀(whole:Sem afF) (pins:List (afG×Obj)) (s:afH) (σ:St) (H:Hp) (Q:Bool->Hp->Prop),Inv X pins σ H s->t σ H Q->afK (model X.prog X.w) X.A (isTrue e X.env whole) (TP X pins σ Q) X.xe s
def PA(X:Cx)(es:List afV)(t:TA):Prop:=
 ∀(pos:Pos) (pins:List (afG×Obj)) (s:afH) (σ:St) (H:Hp) (Q:List V->Hp->Prop),Inv X pins σ H s->t σ H Q->afK (model X.prog X.w) X.A (spliced (agS pos (afL es X.env))) (AP X pins σ Q) X.xe s
def PS(X:Cx)(st:agl)(t:TS):Prop:=
 ∀(pins:List (afG×Obj)) (s:afH) (σ:St) (H:Hp) (D:Ends),Inv X pins σ H s->t D σ H->afK (model X.prog X.w) X.A (exec st X.env) (SP X pins D) X.xe s
def PSs(X:Cx)(st:List agl)(t:TS):Prop:=
 ∀(pins:List (afG×Obj)) (s:afH) (σ:St) (H:Hp) (D:Ends),Inv X pins σ H s->t D σ H->afK (model X.prog X.w) X.A (execs st X.env) (SP X pins D) X.xe s
theorem thn{t:Sem α}{Q Q':α->afH->Prop}(h:afK M A t Q E s)(hQ:∀a s,Q a s->Q' a s):afK M A t Q' E s:=ahf h hQ λ_ _ x=>x
section
variable{X:Cx}
theorem bin{a b:afV}{ta tb:TE}(ha:PE X a ta)(hb:PE X b tb){R:V->V->Hp->Prop}(I:Inv X pins σ H s)(h:ta σ H λx H1=>tb σ H1 λy H2=>R x y H2)
  {α:Type}{Q:α->afH->Prop}{f:afF->afF->Sem α}
  (hf:∀v u s2 x y H2,Inv X pins σ H2 s2->RelV x v->RelV y u->R x y H2->afK (model X.prog X.w) X.A (f v u) Q X.xe s2):
  afK (model X.prog X.w) X.A (eval a X.env) (λv s₁=>afK (model X.prog X.w) X.A (eval b X.env) (λu s₂=>afK (model X.prog X.w) X.A (f v u) Q X.xe s₂) X.xe s₁) X.xe s:=by
 show thn (ha pins s σ H _ I h) λv s1 bQ=>?_;let⟨x,H1,I1,r1,q1⟩:=bQ;show thn (hb pins s1 σ H1 _ I1 q1) λu s2 bQ=>?_;let⟨y,H2,I2,r2,q2⟩:=bQ;show hf v u s2 x y H2 I2 r1 r2 q2
def tVar(i:Nat):TE:=λσ H Q=>∃v,σ[i]?=some (some v)/\Q v H
def tC(v:V):TE:=λ_ H Q=>Q v H
theorem pe_var{pos:Pos}(hN:X.N[i]?=some x)(hv:Vis X.env.scope x)(hd:(x ==("__debug__" :Str))=false:=by decide)(hcd:(x ==("__classdict__" :Str))=false:=by decide):PE X (.Name x pos) (tVar i):=by
 intro pins s σ H Q I h;let⟨v,e,h⟩:=h;let⟨m,hn,hl⟩:=I.loc;let⟨u,r,l⟩:=hl i x v hN e hv;have fin:EP X pins σ Q u s:=⟨v,H,I,r,h⟩;rcases l with⟨hk,hm⟩ |⟨hk,c,hc,hcell⟩
 .show wpAny_Name (wpAny_loadName_local I.ok.kind hk hn hm fin) hd
 .rcases hk with hk |hk
  .show wpAny_Name (wpAny_loadName_cell I.ok.kind hk hc hcell fin) hd
  .show wpAny_Name (wpAny_loadName_free I.ok.kind hk hc hcell fin hcd) hd
theorem pe_int{i j pos}:PE X (.Constant (.int i) j pos) (tC (.int i)):=λ_ _ _ H _ I h=>wpAny_Constant_int ⟨.int i,H,I.tok _,⟨_,rfl⟩,h⟩
theorem pe_bl{b j pos}:PE X (.Constant (.bool b) j pos) (tC (.bl b)):=λ_ _ _ H _ I h=>Constant_bool ⟨.bl b,H,I,rfl,h⟩
theorem pe_non{j pos}:PE X (.Constant .none j pos) (tC .non):=λ_ _ _ H _ I h=>Constant_none ⟨.non,H,I,rfl,h⟩
theorem pe_str{x j pos}:PE X (.Constant (.str x) j pos) (tC (.str x)):=λ_ _ _ H _ I h=>Calls.Constant_str ⟨.str x,H,I.tok _,⟨_,rfl⟩,h⟩
def Gl(X:Cx)(x:Str):Prop:=X.env.kindOf x=some .globalImplicit
theorem ld_glob{pos:Pos}{Q:afF->afH->Prop}(I:Inv X pins σ H s)(hg:Gl X x)(hm:X.mg x=some u)(h:Q u s)
  (hd:(x ==("__debug__" :Str))=false:=by decide):afK (model X.prog X.w) X.A (eval (.Name x pos) X.env) Q E s:=
 akZ I.ok.kind hg (Calls.loadGlobal_global (by rw[I.ok.glob];show I.mod.glob.keeps I.bk) hm h) hd
theorem ld_blt{pos:Pos}{Q:afF->afH->Prop}(I:Inv X pins σ H s)(hg:Gl X x)(hm:X.mg x=none)(hv:ahR x=some u)(h:Q u s)
  (hn:x≠"__name__" :=by decide)(hd:(x ==("__debug__" :Str))=false:=by decide):afK (model X.prog X.w) X.A (eval (.Name x pos) X.env) Q E s:=by
 let⟨mb,h1,h2⟩:=I.mod.blt;show akZ I.ok.kind hg (Calls.loadGlobal_builtin (by rw[I.ok.glob];show I.mod.glob.keeps I.bk) hm (by rw[I.ok.blt];show h1.keeps I.bk) ((h2 x hn).trans hv) h) hd
theorem pe_glob{v:V}{pos:Pos}(hg:Gl X x)(hm:X.mg x=some u)(r:RelV v u)(hd:(x ==("__debug__" :Str))=false:=by decide):PE X (.Name x pos) (tC v):=
 λ_ _ _ H _ I h=>ld_glob I hg hm ⟨v,H,I,r,h⟩ hd
theorem pe_bltn{v:V}{pos:Pos}(hg:Gl X x)(hm:X.mg x=none)(hv:ahR x=some u)(r:RelV v u)(hn:x≠"__name__" :=by decide)(hd:(x ==("__debug__" :Str))=false:=by decide):PE X (.Name x pos) (tC v):=
 λ_ _ _ H _ I h=>ld_blt I hg hm hv ⟨v,H,I,r,h⟩ hn hd
variable{a b:afV}{ta tb:TE}
def PC(X:Cx)(op:CmpOp)(a b:afV)(t:TE):Prop:=
 ∀(pins:List (afG×Obj)) (s:afH) (σ:St) (H:Hp) (Q:VK),Inv X pins σ H s->t σ H Q->
  afK (model X.prog X.w) X.A (eval a X.env) (λv s₁=>afK (model X.prog X.w) X.A (eval b X.env) (λu s₂=>afK (model X.prog X.w) X.A (agr op v u) (EP X pins σ Q) X.xe s₂) X.xe s₁) X.xe s
theorem nobehind(b:afV)(h:op≠.In)(h2:op≠.NotIn):air op b=false:=by
 have e1:(op ==CmpOp.In)=false:=by cases op <;> first |rfl |show absurd rfl h
 have e2:(op ==CmpOp.NotIn)=false:=by cases op <;> first |rfl |show absurd rfl h2
 cases b <;> simp[air,e1,e2]
def tB(t:TE):TT:=λσ H Q=>t σ H λx H1=>∃c,x= .bl c/\Q c H1
theorem pt_cmp(h:PC X op a b t)(h1:air op b=false:=by first |show nobehind _ {} {} |rfl):PT X (.Compare a [op] [b] pos) (tB t):=by
 intro pins s σ H Q I hw;show wpAny_isTrue_Compare1 (thn (h pins s σ H _ I hw) λv s1 h1=>thn h1 λu s2 h2=>thn h2 λc s3 ⟨x,H1,I1,r1,q1⟩=>?_) h1;let⟨d,rfl,q⟩:=q1;cases r1;show agP ⟨H1,I1,q⟩
theorem pt_val(h:PE X e t)(he:∀whole,isTrue e X.env whole=(do let v <-whole;standAt e.pos;holding [v] (truthy v)):=by intro _;rfl):PT X e (tB t):=by
 intro pins s σ H Q I hw;show isTrue_plain (thn (h pins s σ H _ I hw) λv s1 ⟨x,H1,I1,r1,q1⟩=>?_) (he _);let⟨d,rfl,q⟩:=q1;cases r1;show agP ⟨H1,I1,q⟩
variable{tA tB':TT}{rest:List afV}
def tAnd(t u:TT):TT:=λσ H Q=>t σ H λc H1=>if c=true then u σ H1 Q else Q false H1
def tOr(t u:TT):TT:=λσ H Q=>t σ H λc H1=>if c=true then Q true H1 else u σ H1 Q
def tNot(t:TT):TT:=λσ H Q=>t σ H λc H1=>Q (!c) H1
theorem pw_and1(ha:PT X a tA):PW X (.BoolOp .And [a] pos) tA:=by
 intro wh pins s σ H Q I h;show isTrue_and (thn (ha pins s σ H Q I h) λc s1 e=>?_);cases c with
 |true=>show isTrue_and_nil e
 |false=>show e
theorem pw_or1(ha:PT X a tA):PW X (.BoolOp .Or [a] pos) tA:=by
 intro wh pins s σ H Q I h;show isTrue_or (thn (ha pins s σ H Q I h) λc s1 e=>?_);cases c with
 |false=>show isTrue_or_nil e
 |true=>show e
theorem pw_and(ha:PT X a tA)(hb:PW X (.BoolOp .And (b::rest) pos) tB'):PW X (.BoolOp .And (a::b::rest) pos) (tAnd tA tB'):=by
 intro wh pins s σ H Q I h;show isTrue_and (thn (ha pins s σ H _ I h) λc s1 bQ=>?_);let⟨H1,I1,q1⟩:=bQ;cases c with
 |true=>show hb wh pins s1 σ H1 Q I1 q1
 |false=>show⟨H1,I1,q1⟩
theorem pw_or(ha:PT X a tA)(hb:PW X (.BoolOp .Or (b::rest) pos) tB'):PW X (.BoolOp .Or (a::b::rest) pos) (tOr tA tB'):=by
 intro wh pins s σ H Q I h;show isTrue_or (thn (ha pins s σ H _ I h) λc s1 bQ=>?_);let⟨H1,I1,q1⟩:=bQ;cases c with
 |true=>show⟨H1,I1,q1⟩
 |false=>show hb wh pins s1 σ H1 Q I1 q1
theorem pt_not(ha:PT X a tA):PT X (.UnaryOp .Not a pos) (tNot tA):=by
 intro pins s σ H Q I h;show isTrue_not (thn (ha pins s σ H (λc H1=>Q (!c) H1) I h) λc s1 hz=>?_);let⟨H1,I1,q1⟩:=hz;show⟨H1,I1,q1⟩
def tAndV(ta tb:TE):TE:=λσ H Q=>ta σ H λx H1=>∃c,x= .bl c/\if c=true then tb σ H1 Q else Q (.bl false) H1
def tNotV(ta:TE):TE:=λσ H Q=>ta σ H λx H1=>∃c,x= .bl c/\Q (.bl (!c)) H1
theorem pe_one{op}(h:PE X a t):PE X (.BoolOp op [a] pos) t:=λpins s σ H Q I hw=>BoolOp_one (h pins s σ H Q I hw)
theorem pe_and(ha:PE X a ta)(hb:PE X (.BoolOp .And (b::rest) pos) tb):PE X (.BoolOp .And (a::b::rest) pos) (tAndV ta tb):=by
 intro pins s σ H Q I h;show BoolOp_and (thn (ha pins s σ H _ I h) λv s1 bQ=>?_);let⟨x,H1,I1,r1,q1⟩:=bQ;let⟨c,rfl,q1⟩:=q1;cases r1;show agP ?_;cases c with
 |true=>show hb pins s1 σ H1 Q I1 q1
 |false=>show⟨.bl false,H1,I1,rfl,q1⟩
theorem pe_not(ha:PE X a ta):PE X (.UnaryOp .Not a pos) (tNotV ta):=by
 intro pins s σ H Q I h;show UnaryOp_ (thn (ha pins s σ H _ I h) λv s1 bQ=>?_);let⟨x,H1,I1,r1,q1⟩:=bQ;let⟨c,rfl,q1⟩:=q1;cases r1;show not_of (agP ⟨.bl (!c),H1,I1,rfl,q1⟩)
def tIf(t:TT)(ta tb:TE):TE:=λσ H Q=>t σ H λc H1=>if c=true then ta σ H1 Q else tb σ H1 Q
theorem pe_ifExp{c:afV}(hc:PT X c tA)(ha:PE X a ta)(hb:PE X b tb):PE X (.IfExp c a b pos) (tIf tA ta tb):=by
 intro pins s σ H Q I h;show wpAny_IfExp (thn (hc pins s σ H _ I h) λd s1 bQ=>?_);let⟨H1,I1,q1⟩:=bQ;cases d with
 |true=>show ha pins s1 σ H1 Q I1 q1
 |false=>show hb pins s1 σ H1 Q I1 q1
end
def SqL(K:w0a)(H:Hp)(a:afG)(xs:List V):Prop:=
 Rd H a (.lst xs)\/
  ∃(o:Obj) (its:Array afF) (n:Nat),K.lookup a=some o/\o.cls= .type "list"/\o.dict=none/\o.data= .seq its n/\its.size<=sizeLine/\Vals xs its.toList
def SqT(K:w0a)(H:Hp)(a:afG)(xs:List V):Prop:=
 Rd H a (.tup xs)\/
  ∃(o:Obj) (its:Array afF) (n:Nat),K.lookup a=some o/\o.cls= .type "tuple"/\o.dict=none/\o.data= .seq its n/\its.size<=sizeLine/\Vals xs its.toList
def absV:afF->Option V
 | .none=>some .non
 | .bool b=>some (.bl b)
 | .int i _=>some (.int i)
 | .str x _=>some (.str x)
 | .bytes b _=>some (.byt b)
 | .float b _=>some (.flt b)
 | .ref a=>some (.ref a)
 | .type n=>some (.ty n)
 |_=>none
theorem RelV.abs{x:V}(r:RelV x u):absV u=some x:=by
 cases x with
 |non=>cases r;rfl
 |bl _=>cases r;rfl
 |int _=>let⟨t,rfl⟩:=r;rfl
 |str _=>let⟨t,rfl⟩:=r;rfl
 |byt _=>let⟨t,rfl⟩:=r;rfl
 |flt _=>let⟨t,rfl⟩:=r;rfl
 |ref _=>cases r;rfl
 |ty _=>cases r;rfl
theorem RelV.inj{x y:V}(r:RelV x u)(q:RelV y u):x=y:=agb (r.abs.symm.trans q.abs)
theorem Vals.inj:∀{xs ys:List V} {us:List afF},Vals xs us->Vals ys us->xs=ys
 :=by
 intro xs ys us h
 induction h generalizing ys with
 |nil=>intro q;cases q;rfl
 |cons r t ih=>intro q;cases q with |cons r' t'=>rw[r.inj r',ih t']
section
variable{X:Cx}{σ:St}{H:Hp}{xs ys:List V}
theorem SqL.of(h:H a=some (.lst xs)):SqL K H a xs:= .inl (.inl h)
theorem SqT.of(h:H a=some (.tup xs)):SqT K H a xs:= .inl (.inl h)
theorem Inv.list(I:Inv X pins σ H s)(h:SqL X.K H a xs):∃its:List afF,Vals xs its/\PlainL s.heap a its.toArray/\xs.length<=sizeLine:=by
 rcases h with h |⟨o,its,n,hk,hc,hd,hs,hz,r⟩
 .let⟨z,its,n,r,e⟩:=h.ok I.hok;show⟨its,r,⟨_,n,e,rfl,rfl,rfl⟩,z⟩
 .show⟨its.toList,r,⟨o,n,I.kIn a o hk,hc,hd,by simpa using hs⟩,?_⟩;have e:=r.length;simp only[agq] at e;omega
theorem Inv.tuple(I:Inv X pins σ H s)(h:SqT X.K H a xs):∃its:List afF,Vals xs its/\IsTup s.heap a its.toArray/\xs.length<=sizeLine:=by
 rcases h with h |⟨o,its,n,hk,hc,_,hs,hz,r⟩
 .let⟨z,its,r,p⟩:=h.ok I.hok;show⟨its,r,p.tup,z⟩
 .show⟨its.toList,r,⟨o,I.kIn a o hk,hc,n,by simpa using hs⟩,?_⟩;have e:=r.length;simp only[agq] at e;omega
theorem Inv.list_inj(I:Inv X pins σ H s)(h:SqL X.K H a xs)(h':SqL X.K H a ys):xs=ys:=by
 let⟨its,r,⟨o,n,e,_,_,d⟩,_⟩:=I.list h;let⟨its',r',⟨o',n',e',_,_,d'⟩,_⟩:=I.list h';rw[e] at e';cases e';rw[d] at d';injection d' with d1 _;have:its=its':=by simpa using congrArg Array.toList d1
 subst this;show r.inj r'
theorem Inv.tuple_inj(I:Inv X pins σ H s)(h:SqT X.K H a xs)(h':SqT X.K H a ys):xs=ys:=by
 let⟨its,r,⟨o,e,_,n,d⟩,_⟩:=I.tuple h;let⟨its',r',⟨o',e',_,n',d'⟩,_⟩:=I.tuple h';rw[e] at e';cases e';rw[d] at d';injection d' with d1 _;have:its=its':=by simpa using congrArg Array.toList d1
 subst this;show r.inj r'
end
abbrev Cx.wish(X:Cx)(E:afF->afH->Prop):Cx:={X with xe:=E}
abbrev Cx.nox(X:Cx):Cx:=X.wish λ_ _=>False
theorem Cx.Ok.wish{X:Cx}(ok:X.Ok)(E:afF->afH->Prop):(X.wish E).Ok:=
 ⟨ok.mod,ok.kind,ok.glob,ok.blt,ok.above,ok.inj,ok.has,ok.cab,ok.hd,ok.frames,ok.stk,ok.exf,ok.bs,ok.bsz,ok.noex,ok.exfs,ok.funs,ok.frf⟩
theorem Cx.Ok.unwish{X:Cx}(ok:(X.wish E).Ok):X.Ok:=
 ⟨ok.mod,ok.kind,ok.glob,ok.blt,ok.above,ok.inj,ok.has,ok.cab,ok.hd,ok.frames,ok.stk,ok.exf,ok.bs,ok.bsz,ok.noex,ok.exfs,ok.funs,ok.frf⟩
section
variable{X:Cx}{σ:St}{H:Hp}
theorem Inv.wish(I:Inv X pins σ H s)(E:afF->afH->Prop):Inv (X.wish E) pins σ H s:=⟨I.ok.wish E,I.os,I.bare,I.base,I.loc,I.cell,I.free,I.freeC,I.pin,I.hok,I.len⟩
theorem Inv.unwish(I:Inv (X.wish E) pins σ H s):Inv X pins σ H s:=⟨I.ok.unwish,I.os,I.bare,I.base,I.loc,I.cell,I.free,I.freeC,I.pin,I.hok,I.len⟩
theorem SP.unwish{D:Ends}{f:Flow}{s':afH}(h:SP (X.wish E) pins D f s'):SP X pins D f s':=by
 cases f with
 |next=>let⟨σ',H',I,q⟩:=h;show⟨σ',H',I.unwish,q⟩
 |brk=>let⟨σ',H',I,q⟩:=h;show⟨σ',H',I.unwish,q⟩
 |cont=>let⟨σ',H',I,q⟩:=h;show⟨σ',H',I.unwish,q⟩
 |ret u=>let⟨v,σ',H',I,r,q⟩:=h;show⟨v,σ',H',I.unwish,r,q⟩
theorem PE.nox(h:PE X.nox e t):PE X e t:=λpins s σ H Q I hw=>
 ahf (h pins s σ H Q (I.wish _) hw) (λ_ _ ⟨v,H',I',r,q⟩=>⟨v,H',I'.unwish,r,q⟩) λ_ _ z=>agH z
theorem PSs.nox{st:List agl}{t:TS}(h:PSs X.nox st t):PSs X st t:=λpins s σ H D I hw=>
 ahf (h pins s σ H D (I.wish _) hw) (λ_ _ q=>q.unwish) λ_ _ z=>agH z
end
section
variable{X:Cx}{st:agl}{rest:List agl}{t u:TS}{e:afV}{te:TE}
def tNext:TS:=λD σ H=>D.nx σ H
def tSeq(t u:TS):TS:=λD σ H=>t {D with nx:=u D} σ H
theorem pss_nil:PSs X [] tNext:=λ_ _ σ H _ I h=>akr ⟨σ,H,I,h⟩
theorem pss_cons(h1:PS X st t)(h2:PSs X rest u):PSs X (st::rest) (tSeq t u):=by
 intro pins s σ H D I h;show wpAny_execs_cons (thn (h1 pins s σ H {D with nx:=u D} I h) λf s1 q=>?_);cases f with
 | next=>
  let⟨σ',H',I',q⟩:=q;show h2 pins s1 σ' H' D I' q
 |ret v=>show q
 |brk=>show q
 |cont=>show q
theorem pss_one(h1:PS X st t):PSs X [st] t:=by
 intro pins s σ H D I h;show wpAny_execs_cons (thn (h1 pins s σ H D I h) λf s1 q=>?_);cases f with
 |next=>show akr q
 |ret v=>show q
 |brk=>show q
 |cont=>show q
theorem Inv.quiet(I:Inv X pins σ H s):interactive X.env=false:=by simp[interactive,I.ok.kind]
def tDrop(te:TE):TS:=λD σ H=>te σ H λ_ H1=>D.nx σ H1
theorem ps_expr(he:PE X e te)(hs:ajV e none pos.line X.env=pure false:=by rfl):PS X (.Expr e pos) (tDrop te):=by
 intro pins s σ H D I h;show wpAny_Expr_any (thn (he pins s σ H _ I h) λv s1 ⟨x,H1,I1,r1,q1⟩=>⟨σ,H1,I1,q1⟩) I.quiet hs
def tRet(te:TE):TS:=λD σ H=>te σ H D.rt
theorem ps_ret(he:PE X e te):PS X (.Return (some e) pos) (tRet te):=by
 intro pins s σ H D I h;show wpAny_Return_some (thn (he pins s σ H _ I h) λv s1 ⟨x,H1,I1,r1,q1⟩=>⟨x,σ,H1,I1,r1,q1⟩)
def tIfS(c:TT)(t u:TS):TS:=λD σ H=>c σ H λb H1=>if b=true then t D σ H1 else u D σ H1
theorem ps_if{c:afV}{a b:List agl}{tc:TT}(hc:PT X c tc)(ha:PSs X a t)(hb:PSs X b u):PS X (.If c a b pos) (tIfS tc t u):=by
 intro pins s σ H D I h;show wpAny_If (thn (hc pins s σ H _ I h) λd s1 bQ=>?_);let⟨H1,I1,q1⟩:=bQ;cases d with
 |true=>show ha pins s1 σ H1 D I1 q1
 |false=>show hb pins s1 σ H1 D I1 q1
end
abbrev TG:=V->St->Hp->(St->Hp->Prop)->Prop
abbrev TGs:=List V->St->Hp->(St->Hp->Prop)->Prop
def PG(X:Cx)(target:afV)(t:TG):Prop:=
 ∀(pins:List (afG×Obj)) (s:afH) (σ:St) (H:Hp) (v:V) (u:afF) (Q:St->Hp->Prop),Inv X pins σ H s->RelV v u->t v σ H Q->
  afK (model X.prog X.w) X.A (assign target X.env u) (λ_ s'=>Ui X pins Q s') X.xe s
def PGs(X:Cx)(ts:List afV)(t:TGs):Prop:=
 ∀(pins:List (afG×Obj)) (s:afH) (σ:St) (H:Hp) (vs:List V) (us:List afF) (Q:St->Hp->Prop),Inv X pins σ H s->Vals vs us->t vs σ H Q->
  afK (model X.prog X.w) X.A (assignInOrder ((aiT ts X.env).map (·.2)) us) (λ_ s'=>Ui X pins Q s') X.xe s
abbrev TIp:=V->V->Hp->VK->Prop
def PIp(X:Cx)(op:Operator)(t:TIp):Prop:=
 ∀(pins:List (afG×Obj)) (s:afH) (σ:St) (H:Hp) (x y:V) (v u:afF) (Q:VK),Inv X pins σ H s->RelV x v->RelV y u->t x y H Q->
  afK (model X.prog X.w) X.A (inplaceOp op v u) (EP X pins σ Q) X.xe s
section
variable{X:Cx}
def gName(i:Nat):TG:=λv σ H Q=>Q (σ.set i (some v)) H
theorem pg_name(hN:X.N.Nodup)(hi:X.N[i]?=some x)(hx:Loc X.env.scope x)(hf:X.fn x=true\/X.env.scope.names.lookup x=some .local:=by first |show .inl rfl |show .inr rfl |assumption):PG X (.Name x pos) (gName i):=by
 intro pins s σ H v u Q I r h;show wpAny_assign_Name (store_ok I hN hi hx r (λs' I'=>⟨_,H,I',h⟩) hf)
def gNil:TGs:=λvs σ H Q=>vs=[]/\Q σ H
def gCons(t:TG)(u:TGs):TGs:=λvs σ H Q=>∃v r,vs=v::r/\t v σ H λσ' H'=>u r σ' H' Q
theorem pgs_nil:PGs X [] gNil:=by
 intro pins s σ H vs us Q I r h;let⟨e,h⟩:=h;subst e;cases r;show assignInOrder_nil ⟨σ,H,I,h⟩
theorem pgs_cons{t:TG}{u:TGs}(h1:PG X e t)(h2:PGs X es u)
  (hs:(aiT (e::es) X.env).map (·.2)=assign e X.env::(aiT es X.env).map (·.2):=by rfl):PGs X (e::es) (gCons t u):=by
 intro pins s σ H vs us Q I r h;let⟨v,vr,e1,h⟩:=h;subst e1;cases r with
 | cons r rr=>
  rw[hs];show akU (thn (h1 pins s σ H _ _ _ I r h) λ_ s1 bQ=>?_);let⟨σ1,H1,I1,q1⟩:=bQ;show h2 pins s1 σ1 H1 _ _ Q I1 rr q1
def gTup(K:w0a)(n:Nat)(t:TGs):TG:=λv σ H Q=>∃a xs,v= .ref a/\SqT K H a xs/\xs.length=n/\t xs σ H Q
theorem pg_tup{t:TGs}(hc:X.calm=true)(h:PGs X es t)
  (hn:(aiT es X.env).length=n:=by rfl)(hst:(aiT es X.env).findIdx? (·.1)=none:=by rfl):PG X (.Tuple es k pos) (gTup X.K n t):=by
 intro pins s σ H v u Q I r hw;let⟨a,xs,e1,hq,hl,hw⟩:=hw;subst e1;cases r;let⟨its,rv,ht,hz⟩:=I.tuple hq;show assign_Tuple_tuple (I.ok.hd hc) ht (by simp[hn,<-hl,rv.length]) hst λh' hx=>?_;have I1:Inv X pins σ H {s with heap:=h'}:=I.kept (t':=s.toks) λb o e=>hx b o (agm (z2c e)) e;show h pins _ σ H xs _ Q I1 (by simpa using rv) hw
def tAsg(te:TE)(g:TG):TS:=λD σ H=>te σ H λx H1=>g x σ H1 D.nx
theorem ps_asg{te:TE}{g:TG}(he:PE X e te)(hg:PG X tg g)(hs:ajH [tg] e pos.line X.env=pure false:=by rfl)(hw:ajI [tg] e X.env=pure none:=by rfl)
  (h1:(aiT [tg] X.env).map (·.2)=[assign tg X.env]:=by rfl):PS X (.Assign [tg] e pos) (tAsg te g):=by
 intro pins s σ H D I h;show wpAny_Assign_stores (thn (he pins s σ H _ I h) λv s1 ⟨x,H1,I1,r1,q1⟩=>?_) hs hw;rw[h1];show thn (hg pins s1 σ H1 x v _ I1 r1 q1) λ_ s2 q=>q
theorem ps_set{te:TE}{pos':Pos}(hN:X.N.Nodup)(hi:X.N[i]?=some x)(hx:Loc X.env.scope x)(he:PE X e te)(hs:ajV e (some (.Name x pos')) pos.line X.env=pure false:=by rfl)(hf:X.fn x=true\/X.env.scope.names.lookup x=some .local:=by first |show .inl rfl |show .inr rfl |assumption):
  PS X (.Assign [.Name x pos'] e pos) (tAsg te (gName i)):=by
 intro pins s σ H D I h;show wpAny_Assign_Name (thn (he pins s σ H _ I h) λv s1 ⟨y,H1,I1,r1,q1⟩=>?_) hs;show store_ok I1 hN hi hx r1 (λs2 I2=>⟨_,H1,I2,q1⟩) hf
def tPar(i j:Nat)(ta:TA):TS:=λD σ H=>ta σ H λvs H1=>∃v w,vs=[v,w]/\D.nx ((σ.set i (some v)).set j (some w)) H1
theorem ps_par{i j:Nat}{x y:Str}{a b:afV}{ta:TA}{px py pt:Pos}{kt k2 pt2}(hc:X.calm=true)(hN:X.N.Nodup)(hi:X.N[i]?=some x)(hj:X.N[j]?=some y)(hij:i≠j)
  (hx:X.env.scope.names.lookup x=some .local)(hy:X.env.scope.names.lookup y=some .local)(ha:PA X [a,b] ta)
  (hw:ajI [.Tuple [.Name x px,.Name y py] kt pt] (.Tuple [a,b] k2 pt2) X.env=pure (some [x,y]))
  (hs:ajH [.Tuple [.Name x px,.Name y py] kt pt] (.Tuple [a,b] k2 pt2) pos.line X.env=pure false:=by rfl):
  PS X (.Assign [.Tuple [.Name x px,.Name y py] kt pt] (.Tuple [a,b] k2 pt2) pos) (tPar i j ta):=by
 intro pins s σ H D I h;rw[exec_Assign_arm];show afE (ak0 ?_);rw[hs];show afE (afJ ?_);rw[z9n {}];show afE (Tuple_ (thn (ha _ pins s σ H _ I h) λus s1 bQ=>?_));let⟨vs,H1,I1,r1,q1⟩:=bQ;let⟨v,w,e1,q1⟩:=q1;subst e1;obtain⟨u1,u2,rfl,rv,rw'⟩:∃u1 u2,us=[u1,u2]/\RelV v u1/\RelV w u2:=by
  cases r1 with
  | cons p q=>
   cases q with
   | cons p' q'=>
    cases q';show⟨_,_,rfl,p,p'⟩
 show agB ?_ (by show 2<=sizeLine;decide);have I2:Inv X pins σ H1 {s1 with heap:=s1.heap.push {cls:= .type "tuple",data:= .seq [u1,u2].toArray}}:=I1.kept (t':=s1.toks) λb o e=>z1a _ e;rw[hw];show afE (afJ ?_);show afK (model X.prog X.w) X.A (do rule "assign.swapped-stores";let items <-unpackItems (.ref s1.heap.objs.size) 2 none;assignInOrder [λv=>bindName X.env y v,λv=>bindName X.env x v] items.reverse;pure Flow.next) _ _ _;show afE (ahg (afE (unpackItems_tuple (items:= #[u1,u2]) (I.ok.hd hc) (IsTup.new s1.heap _) λh' hx'=>?_)));have I3:=I2.kept (h':=h') (t':=s1.toks) λb o e=>hx' b o (agm (z2c e)) e;show afK _ _ (assignInOrder [λv=>bindName X.env y v,λv=>bindName X.env x v] [u2,u1] >>=λ_=>pure Flow.next) _ _ _;show afE (akU (wpAny_bindName (store_ok I3 hN hj (.inl hy) rw' (λs2 I4=>?_) (.inr hy))));show akU (wpAny_bindName (store_ok I4 hN hi (.inl hx) rv (λs3 I5=>assignInOrder_nil (afJ ?_)) (.inr hx)));rw[List.set_comm _ _ (agc hij)] at I5;show⟨_,H1,I5,q1⟩
def tAug(i:Nat)(te:TE)(ti:TIp):TS:=λD σ H=>∃x,σ[i]?=some (some x)/\te σ H λy H1=>ti x y H1 λz H2=>D.nx (σ.set i (some z)) H2
theorem ps_aug{te:TE}{op:Operator}{ti:TIp}{pos':Pos}(hN:X.N.Nodup)(hi:X.N[i]?=some x)(hx:Loc X.env.scope x)(he:PE X e te)(ho:PIp X op ti)(hf:X.fn x=true\/X.env.scope.names.lookup x=some .local:=by first |show .inl rfl |show .inr rfl |assumption):
  PS X (.AugAssign (.Name x pos') op e pos) (tAug i te ti):=by
 intro pins s σ H D I h;let⟨v,e1,h⟩:=h;let⟨m,hn,hl⟩:=I.loc;have vis:Vis X.env.scope x:=by rcases hx with k |k;show .inl k;show .inr (.inl k)
 let⟨u,r,l⟩:=hl i x v hi e1 vis;show wpAny_AugAssign_Name ?_;have go:afK (model X.prog X.w) X.A (eval e X.env) (λw s₂=>afK (model X.prog X.w) X.A (inplaceOp op u w) (λr s₃=>afK (model X.prog X.w) X.A (aii X.env x r) (λ_=>SP X pins D .next) X.xe s₃) X.xe s₂) X.xe s:=by
  show thn (he pins s σ H _ I h) λw s1 bQ=>?_;let⟨y,H1,I1,r1,q1⟩:=bQ;show thn (ho pins s1 σ H1 v y u w _ I1 r r1 q1) λz s2 bQ=>?_;let⟨zv,H2,I2,r2,q2⟩:=bQ;show store_ok I2 hN hi hx r2 (λs3 I3=>⟨_,H2,I3,q2⟩) hf
 rcases l with⟨hk,hm⟩ |⟨hk,c,hc,hcell⟩
 .show wpAny_loadName_local I.ok.kind hk hn hm go
 .rcases hk with hk |hk
  .show wpAny_loadName_cell I.ok.kind hk hc hcell go
  .rcases hx with k |k
   .have:X.env.scope.names.lookup x=some .free:=hk;rw[k] at this;cases this
   .have:X.env.scope.names.lookup x=some .free:=hk;rw[k] at this;cases this
def ipI(f:Int->Int->Int):TIp:=λx y H Q=>∃i j,x= .int i/\y= .int j/\Q (.int (f i j)) H
theorem ip_add:PIp X .Add (ipI λi j=>i+j):=by
 intro pins s σ H x y v u Q I r1 r2 h;let⟨i,j,e1,e2,q⟩:=h;subst e1;subst e2;let⟨t,rfl⟩:=r1;let⟨t',rfl⟩:=r2;show iadd_int ⟨.int _,H,I.tok _,⟨_,rfl⟩,q⟩
end
section
variable{X:Cx}
def tWhile(c:TT)(tb:TS):TS:=λD σ H=>∃W:Nat->St->Hp->Prop,(∃m,W m σ H)/\∀m σ H,W m σ H->
 c σ H λb H1=>if b=true then ∃N:St->Hp->Prop,(∀σ' H',N σ' H'->∃m',m'<m/\W m' σ' H')/\tb {D with nx:=N,ct:=N,bk:=D.nx} σ H1 else D.nx σ H1
theorem ps_while{c:afV}{tc:TT}{tb:TS}(hp:PassesOwn (model X.prog X.w) X.A X.env X.xe)(hc:PT X c tc)(hb:PSs X body tb):PS X (.While c body [] pos) (tWhile tc tb):=by
 intro pins s σ H D I h;let⟨W,⟨m0,w0⟩,turn⟩:=h;show wpAny_While (codeAny_whileLoop (λn s'=>∃σ' H',Inv X pins σ' H' s'/\W n σ' H') ?_ m0 ⟨σ,H,I,w0⟩)
 rintro n s1 ⟨σ1,H1,I1,w1⟩
 show aiI hp (thn (hc pins s1 σ1 H1 _ I1 (turn n σ1 H1 w1)) λb s2 bQ=>?_);let⟨H2,I2,q2⟩:=bQ;cases b with
 | true=>
  let⟨N,hN,q2⟩:=q2;rw[z9p rfl];show aiI hp (thn (hb pins s2 σ1 H2 _ I2 q2) λf s3 q3=>?_);cases f with
  | next=>
   let⟨σ3,H3,I3,n3⟩:=q3;let⟨m',hm,w3⟩:=hN σ3 H3 n3;show⟨m',hm,σ3,H3,I3,w3⟩
  | cont=>
   let⟨σ3,H3,I3,n3⟩:=q3;let⟨m',hm,w3⟩:=hN σ3 H3 n3;show⟨m',hm,σ3,H3,I3,w3⟩
  |brk=>show q3
  |ret v=>show q3
 | false=>
  rw[z9n agf];show akr ⟨σ1,H2,I2,q2⟩
end
structure It where
 go:Nat->Hp->Prop
 yld:Nat->Hp->V->Hp->Prop
 stop:Nat->Hp->Prop
def FpOk(X:Cx)(pins:List (afG×Obj))(H:Hp)(b:afG):Prop:=
 H b=none/\b≠X.env.locals/\b∉X.fs/\(b∈X.ex\/X.s₀.heap.objs.size<=b)/\(∀x c,X.env.cells.lookup x=some c->c≠b)/\∀p∈X.pn++pins,p.1≠b
theorem Inv.fpOk{X:Cx}{H':Hp}(I:Inv X pins σ H s)(hb:s.heap.objs.size<=b)(hn:H' b=none):FpOk X pins H' b:=by
 show⟨hn,ajW (z0d I.lt hb),I.nofs hb,.inr (z0b I.sz hb),λx c e z=>?_,λp hp z=>?_⟩
 .let⟨v,q⟩:=I.cell x c e;show absurd (z0d q.lt (by rw[z];show hb)) (agX _)
 .show absurd (z0d (z2c (I.pin p hp).1) (by rw[z];show hb)) (agX _)
inductive abC (X:Cx) (pins:List (afG×Obj)) (σ:St) (H:Hp) (J:It) (tn:Nat->af8->Prop) (fp:List afG) (i:Nat) (u:afF) (s2:afH):Prop
 |mk (x:V) (H':Hp) (I:Inv X pins σ H' s2) (r:RelV x u) (y:J.yld i H x H') (st:tn (i+1) s2.heap) (f:∀b∈fp,H' b=none):abC X pins σ H J tn fp i u s2
structure Turn(P:afQ)(w:af2)(K:w0a)(tg:afV)(J:It)(fp:List afG)(it:afG)(tn:Nat->af8->Prop):Prop where
 mem:it∈fp
 obj:∀i h,tn i h->∀b∈fp,∃o,h.get? b=some o/\∀v,o.data≠.cell v
 keep:∀i h h',tn i h->(∀b∈fp,∀o,h.get? b=some o->h'.get? b=some o)->tn i h'
 item:∀(X:Cx),X.prog=P->X.w=w->X.K=K->X.calm=true->∀(i:Nat) (pins:List (afG×Obj)) (s:afH) (σ:St) (H:Hp) (E:afF->afH->Prop),Inv X pins σ H s->(∀b∈fp,FpOk X pins H b)->tn i s.heap->J.go i H->
  afK (model P w) X.A (aiY (.ref it)) (λr s1=>∃u,r=some u/\
   afK (model P w) X.A (letOwnedTupleGo tg (.ref it) u) (λ_ s2=>abC X pins σ H J tn fp i u s2) E s1) E s
 done:∀(X:Cx),X.prog=P->X.w=w->X.K=K->X.calm=true->∀(i:Nat) (pins:List (afG×Obj)) (s:afH) (σ:St) (H:Hp) (E:afF->afH->Prop),Inv X pins σ H s->(∀b∈fp,FpOk X pins H b)->tn i s.heap->J.stop i H->
  afK (model P w) X.A (aiY (.ref it)) (λr s1=>r=none/\Inv X pins σ H s1) E s
 self:∀(A:afZ) (i:Nat) (s:afH) (Q:afF->afH->Prop) (E:afF->afH->Prop),tn i s.heap->Q (.ref it) s->afK (model P w) A (pyIter (.ref it)) Q E s
abbrev TI:=St->Hp->(It->Hp->Prop)->Prop
inductive PIE (X:Cx) (pins:List (afG×Obj)) (σ:St) (tg:afV) (R:It->Hp->Prop) (itv:afF) (s2:afH):Prop
 |mk (it:afG) (fp:List afG) (tn:Nat->af8->Prop) (J:It) (H':Hp) (e:itv= .ref it) (I:Inv X pins σ H' s2) (T:Turn X.prog X.w X.K tg J fp it tn) (st:tn 0 s2.heap) (f:∀b∈fp,FpOk X pins H' b) (r:R J H'):PIE X pins σ tg R itv s2
def PI(X:Cx)(tg iter:afV)(wi:TI):Prop:=
 ∀(pins:List (afG×Obj)) (s:afH) (σ:St) (H:Hp) (R:It->Hp->Prop),Inv X pins σ H s->wi σ H R->
  afK (model X.prog X.w) X.A (eval iter X.env) (λv s1=>afK (model X.prog X.w) X.A (pyIter v) (PIE X pins σ tg R) X.xe s1) X.xe s
theorem go_of{it:afG}{o:Obj}{n:String}{vs:Array afF}(ho:s.heap.get? it=some o)(hc:o.cls= .type n)(hd:o.data= .fields vs)
  (hn:["enumerate","zip","dict_itemiterator","dict_reverseitemiterator","odict_iterator","itertools.zip_longest","itertools.pairwise"].contains n=false)(hQ:Q Unit.unit s):afK M A (letOwnedTupleGo tg (.ref it) u) Q E s:=by
 unfold letOwnedTupleGo;cases tg <;> first
  |show afJ hQ
  | (cases u <;> first
    |show afJ hQ
    | (show afE (wpAny_load ho ?_)
       rw[hc,hd];show afK M A (if (["enumerate","zip","dict_itemiterator","dict_reverseitemiterator","odict_iterator","itertools.zip_longest","itertools.pairwise"].contains n && vs[0]? ==some (agx _))=true then _ else _) Q E s;rw[z9n (by intro h;rw[hn,alM] at h;cases h)];show afJ hQ))
def Itl(K:w0a)(a:afG):It:=
 ⟨λi H=>∃xs x,SqL K H a xs/\xs[i]?=some x,λi H x H'=>H'=H/\∀xs,SqL K H a xs->xs[i]?=some x,λi H=>∃xs,SqL K H a xs/\xs.length<=i⟩
def Itt(K:w0a)(a:afG):It:=
 ⟨λi H=>∃xs x,SqT K H a xs/\xs[i]?=some x,λi H x H'=>H'=H/\∀xs,SqT K H a xs->xs[i]?=some x,λi H=>∃xs,SqT K H a xs/\xs.length<=i⟩
def Itr(lo:Int)(n:Nat):It:=⟨λi _=>i<n,λi H x H'=>H'=H/\x= .int (lo+i),λi _=>n<=i⟩
theorem turn_list(a it:afG):Turn P w K tg (Itl K a) [it] it (λi h=>h.IsListIter it a i) where
 mem:=()
 obj:=λi h st b hb=>by
  have e:b=it:=by simpa using hb
  subst e;let⟨o,e,c,d⟩:=st;show⟨o,e,λv z=>by rw[d] at z;cases z⟩
 keep:=λi h h' st k=>st.at λo e=>k it () o e
 item:=by
  intro X hP hw hK hc i pins s σ H E I hf st hg;subst hP hw hK;let⟨xs,x,hq,hx⟩:=hg;let⟨its,rv,p,hz⟩:=I.list hq;let⟨u,hu,ru⟩:=rv.get hx;let⟨f0,f1,f2,f3,f4,f5⟩:=hf it ();show akb st p.isList (x:=u) (by simpa using hu) λh' st' sb=>?_;have I1:Inv X pins σ H {s with heap:=h'}:=I.turned (t':=s.toks) (λb o hb e=>(sb.2 b hb).trans e) f0 f1 f3 f4 f5;let⟨o,e,c,d⟩:=id st';show⟨u,rfl,go_of (s:={s with heap:=h'}) e c d {} ⟨x,H,I1,ru,⟨rfl,λys hy=>by rw[I.list_inj hy hq];show hx⟩,st',λb hb=>(hf b hb).1⟩⟩
 done:=by
  intro X hP hw hK hc i pins s σ H E I hf st hg;subst hP hw hK;let⟨xs,hq,hx⟩:=hg;let⟨its,rv,p,hz⟩:=I.list hq;let⟨f0,f1,f2,f3,f4,f5⟩:=hf it ();have hl:=rv.length;show wpAny_pyNext_list_end (I.ok.hd hc) st p.isList () λh' eb=>⟨rfl,I.turned (t':=s.toks) (λb o hb e=>eb b o hb e) f0 f1 f3 f4 f5⟩
 self:=λ_ _ _ _ _ st h=>wpAny_pyIter_listiter st h
theorem turn_tuple(a it:afG):Turn P w K tg (Itt K a) [it] it (λi h=>h.IsTupleIter it a i) where
 mem:=()
 obj:=λi h st b hb=>by
  have e:b=it:=by simpa using hb
  subst e;let⟨o,e,c,d⟩:=st;show⟨o,e,λv z=>by rw[d] at z;cases z⟩
 keep:=λi h h' st k=>st.at λo e=>k it () o e
 item:=by
  intro X hP hw hK hc i pins s σ H E I hf st hg;subst hP hw hK;let⟨xs,x,hq,hx⟩:=hg;let⟨its,rv,p,hz⟩:=I.tuple hq;let⟨u,hu,ru⟩:=rv.get hx;let⟨f0,f1,f2,f3,f4,f5⟩:=hf it ();show wpAny_pyNext_tuple_item st (show s.heap.IsTuple a its.toArray from p) (x:=u) (by simpa using hu) λh' st' sb=>?_;have I1:Inv X pins σ H {s with heap:=h'}:=I.turned (t':=s.toks) (λb o hb e=>(sb.2 b hb).trans e) f0 f1 f3 f4 f5;let⟨o,e,c,d⟩:=id st';show⟨u,rfl,go_of (s:={s with heap:=h'}) e c d {} ⟨x,H,I1,ru,⟨rfl,λys hy=>by rw[I.tuple_inj hy hq];show hx⟩,st',λb hb=>(hf b hb).1⟩⟩
 done:=by
  intro X hP hw hK hc i pins s σ H E I hf st hg;subst hP hw hK;let⟨xs,hq,hx⟩:=hg;let⟨its,rv,p,hz⟩:=I.tuple hq;let⟨f0,f1,f2,f3,f4,f5⟩:=hf it ();have hl:=rv.length;show wpAny_pyNext_tuple_end (I.ok.hd hc) st (show s.heap.IsTuple a its.toArray from p) () λh' eb=>⟨rfl,I.turned (t':=s.toks) (λb o hb e=>eb b o hb e) f0 f1 f3 f4 f5⟩
 self:=λ_ _ _ _ _ st h=>wpAny_pyIter_tupleiter st h
theorem turn_range(it:afG)(lo:Int)(n:Nat):Turn P w K tg (Itr lo n) [it] it (λi h=>akR h it (lo+(i:Nat)*1) ((n:Int) - (i:Nat)) 1) where
 mem:=()
 obj :=λi h st b hb=>by
  have e:b=it:=by simpa using hb
  subst e;show⟨_,st,λv z=>by
   have z':alL _=akV v:=z;cases z'⟩
 keep:=λi h h' st k=>k it () _ st
 item:=by
  intro X hP hw hK hc i pins s σ H E I hf st hg;subst hP hw hK;let⟨f0,f1,f2,f3,f4,f5⟩:=hf it ();have W:=Walks.range (prog:=X.prog) (w:=X.w) (I.ok.hd hc) it lo 1 n;show W.item i s _ _ hg st λv h' tk hv st' kk=>?_;let⟨t,rfl⟩:=hv;have I1:Inv X pins σ H {s with heap:=h',toks:=tk}:=I.turned (λb o hb e=>kk b o (by simpa using hb) e) f0 f1 f3 f4 f5;show⟨_,rfl,go_of (s:={s with heap:=h',toks:=tk}) (n:= "range_iterator") st' rfl rfl {} ⟨.int (lo+i),H,I1,⟨t,?_⟩,⟨rfl,rfl⟩,st',λb hb=>(hf b hb).1⟩⟩;rw[Int.mul_one]
 done:=by
  intro X hP hw hK hc i pins s σ H E I hf st hg;subst hP hw hK;let⟨f0,f1,f2,f3,f4,f5⟩:=hf it ();show wpAny_pyNext_range_end (I.ok.hd hc) st (by have:n<=i:=hg;omega) λh' eb=>⟨rfl,I.turned (t':=s.toks) (λb o hb e=>eb b o hb e) f0 f1 f3 f4 f5⟩
 self:=λ_ _ _ _ _ st h=>akc st h
section
variable{X:Cx}{tg:afV}
theorem range_it{R:It->Hp->Prop}{lo hi:Int}{t u v:Tok}{tk:Nat}(I:Inv X pins σ H s)(h1: -(2^62)<=lo)(h2:lo<2^62)(h3: -(2^62)<=hi)(h4:hi<2^62)
  (q:R (Itr lo (hi - lo).toNat) H):afK (model X.prog X.w) X.A (pyIter (.ref s.heap.objs.size)) (PIE X pins σ tg R) E {s with heap:=s.heap.push {cls:= .type "range",data:= .fields #[.int lo t,.int hi u,.int 1 v]},toks:=tk}:=by
 show wpAny_pyIter_range (IsRange.new ..) (small_one h1 h2 h3 h4) ?_;have I1:Inv X pins σ H {s with heap:=s.heap.push {cls:= .type "range",data:= .fields #[.int lo t,.int hi u,.int 1 v]},toks:=tk}:=I.kept λb o e=>z1a _ e;show⟨(s.heap.push {cls:= .type "range",data:= .fields #[.int lo t,.int hi u,.int 1 v]}).objs.size,[(s.heap.push {cls:= .type "range",data:= .fields #[.int lo t,.int hi u,.int 1 v]}).objs.size],_,_,H,rfl,
  I1.kept (t':=tk) λb o e=>z1a _ e,turn_range _ lo (hi - lo).toNat,?_,λb hb=>?_,q⟩
 .have e1:lo+((0:Nat):Int)*1=lo:=()
  have e2:(((hi - lo).toNat:Nat):Int) - ((0:Nat):Int)=aj7 lo hi 1:=by rw[rangeSize_one];split <;> omega
  show akR _ _ (lo+((0:Nat):Int)*1) ((((hi - lo).toNat:Nat):Int) - ((0:Nat):Int)) 1;rw[e1,e2];show z1f _ rfl
 .have e:b=(s.heap.push {cls:= .type "range",data:= .fields #[.int lo t,.int hi u,.int 1 v]}).objs.size:=by simpa using hb
  subst e;show I1.fpOk (z0g _) (I1.hok.fresh (z0g _))
def iRng1(ta:TA):TI:=λσ H R=>ta σ H λvs H1=>∃j:Int,vs=[.int j]/\-(2^62)<=j/\j<2^62/\R (Itr 0 j.toNat) H1
def iRng2(ta:TA):TI:=λσ H R=>ta σ H λvs H1=>∃i j:Int,vs=[.int i,.int j]/\(-(2^62)<=i/\i<2^62/\-(2^62)<=j/\j<2^62)/\R (Itr i (j - i).toNat) H1
theorem pi_range1{a:afV}{ta:TA}{p pos:Pos}(hg:Gl X "range")(hm:X.mg "range" =none)(ha:PA X [a] ta)(hs:afL [a] X.env=[(false,eval a X.env)]:=by rfl):PI X tg (.Call (.Name "range" p) [a] [] pos) (iRng1 ta):=by
 intro pins s σ H R I h;show Call_ (ld_blt I hg hm boot_range (agL (thn (ha pos pins s σ H _ I h) λus s1 ⟨vs,H1,I1,r1,q1⟩=>?_) hs rfl));let⟨j,e,q1,q2,q⟩:=q1;subst e;cases r1 with
 | cons r rr=>
  cases rr;let⟨t,rfl⟩:=r;show call_range_1 (range_it I1 () () q1 q2 (by simpa using q))
theorem pi_range2{a b:afV}{ta:TA}{p pos:Pos}(hg:Gl X "range")(hm:X.mg "range" =none)(ha:PA X [a,b] ta)(hs:afL [a,b] X.env=[(false,eval a X.env),(false,eval b X.env)]:=by rfl)(hs2:afL [b] X.env=[(false,eval b X.env)]:=by rfl):
  PI X tg (.Call (.Name "range" p) [a,b] [] pos) (iRng2 ta):=by
 intro pins s σ H R I h;show Call_ (ld_blt I hg hm boot_range (agL (thn (ha pos pins s σ H _ I h) λus s1 ⟨vs,H1,I1,r1,q1⟩=>?_) (by rw[hs,hs2]) (by rw[hs2];rfl)));let⟨i,j,e,⟨q1,q2,q3,q4⟩,q⟩:=q1;subst e;cases r1 with
 | cons r rr=>
  cases rr with
  | cons r' rr=>
   cases rr;let⟨t,rfl⟩:=r;let⟨t',rfl⟩:=r';show call_range_2 (range_it I1 q1 q2 q3 q4 q)
def tFor(wi:TI)(g:TG)(tb:TS):TS:=λD σ H=>wi σ H λJ H1=>∃W:Nat->Nat->St->Hp->Prop,(∃m,W 0 m σ H1)/\∀i m σ H,W i m σ H->
 (J.stop i H/\D.nx σ H)\/(J.go i H/\∃N:St->Hp->Prop,(∀σ' H',N σ' H'->∃m',m'<m/\W (i+1) m' σ' H')/\∀x H',J.yld i H x H'->g x σ H' λσ2 H2=>tb {D with nx:=N,ct:=N,bk:=D.nx} σ2 H2)
def pinsAt(fp:List afG)(h:af8):List (afG×Obj):=fp.filterMap λb=>(h.get? b).map λo=>(b,o)
theorem mem_pinsAt{fp:List afG}{o:Obj}(hb:b∈fp)(e:h.get? b=some o):(b,o)∈pinsAt fp h:=aiE.mpr ⟨b,hb,by rw[e];rfl⟩
theorem of_pinsAt{fp:List afG}{p:afG×Obj}(hp:p∈pinsAt fp h):p.1∈fp/\h.get? p.1=some p.2:=by
 let⟨b,hb,e⟩:=aiE.mp hp;cases q:h.get? b with
 |none=>rw[q] at e;cases e
 | some o=>
  rw[q] at e;have e':(b,o)=p:=agb e;subst e';show⟨hb,q⟩
theorem Inv.pinned{fp:List afG}(I:Inv X pins σ H s)(hf:∀b∈fp,FpOk X pins H b)(ho:∀b∈fp,∃o,s.heap.get? b=some o/\∀v,o.data≠.cell v):Inv X (pins++pinsAt fp s.heap) σ H s:=
 I.pins_of λp hp=>(agk.mp hp).elim (λz=>I.pin p (af9 _ z)) λz=>by
  let⟨hb,e⟩:=of_pinsAt z;let⟨f0,f1,f2,_⟩:=hf p.1 hb;let⟨o,e',d⟩:=ho p.1 hb;rw[e] at e';cases e';show⟨e,f0,f1,f2,d⟩
theorem Inv.unpinned{pl:List (afG×Obj)}(I:Inv X (pins++pl) σ H s):Inv X pins σ H s:=I.pins_of λp hp=>I.pin p (af9 _ (agQ _ hp))
inductive aav (X:Cx) (pins:List (afG×Obj)) (tn:Nat->af8->Prop) (fp:List afG) (W:Nat->Nat->St->Hp->Prop) (n:Nat) (s':afH):Prop
 |mk (i:Nat) (σ':St) (H':Hp) (I:Inv X pins σ' H' s') (st:tn i s'.heap) (fr:∀b∈fp,H' b=none) (w:W i n σ' H'):aav X pins tn fp W n s'
theorem ps_for{iter:afV}{wi:TI}{g:TG}{tb:TS}{pos:Pos}(hp:PassesOwn (model X.prog X.w) X.A X.env X.xe)(hc:X.calm=true)(hi:PI X tg iter wi)(hg:PG X tg g)(hb:PSs X body tb)
  (hs:∀x,aio iter X.env x=pure x:=by intro _;rfl):PS X (.For tg iter body [] pos) (tFor wi g tb):=by
 intro pins s σ H D I h;show wpAny_For (thn (hi pins s σ H _ I h) λv s1 h1=>thn h1 λitv s2 h2=>?_) hs;let⟨it,fp,tn,J,H2,e,I2,T,st2,f2,W,⟨m0,w0⟩,turn⟩:=h2;subst e;have stat:∀{H':Hp},(∀b∈fp,H' b=none)->∀b∈fp,FpOk X pins H' b:=λhn b hb=>⟨hn b hb,(f2 b hb).2⟩;show codeAny_forLoop_any (λn s'=>aav X pins tn fp W n s') ?_ m0 ⟨0,σ,H2,I2,st2,λb hb=>(f2 b hb).1,w0⟩
 rintro n s3 ⟨i,σ3,H3,I3,st3,fr3,w3⟩
 rcases turn i n σ3 H3 w3 with⟨stop,qn⟩ |⟨go,N,hN,step⟩
 .show aiI hp (thn (T.done X rfl rfl rfl hc i pins s3 σ3 H3 X.xe I3 (stat fr3) st3 stop) λr s4 bQ=>?_);let⟨hr,I4⟩:=bQ;subst hr;show akr ⟨σ3,H3,I4,qn⟩
 .show aiI hp (thn (T.item X rfl rfl rfl hc i pins s3 σ3 H3 X.xe I3 (stat fr3) st3 go) λr s4 bQ=>?_);let⟨u,hr,h4⟩:=bQ;subst hr;show aiI hp (thn h4 λ_ s5 bQ=>?_);let⟨x,H5,I5,r5,y5,st5,fr5⟩:=bQ;have I5':=I5.pinned (stat fr5) (T.obj _ _ st5);show aiI hp (thn (hg _ s5 σ3 H5 x u _ I5' r5 (step x H5 y5)) λ_ s6 bQ=>?_);let⟨σ6,H6,I6,q6⟩:=bQ;show aiI hp (thn (hb _ s6 σ6 H6 _ I6 q6) λf s7 q7=>?_);have again:∀{σ7:St} {H7:Hp},Inv X (pins++pinsAt fp s5.heap) σ7 H7 s7->N σ7 H7->∃m,m<n/\aav X pins tn fp W m s7:=λ{σ7 H7} I7 n7=>by
   let⟨m',hm,w7⟩:=hN σ7 H7 n7;show⟨m',hm,i+1,σ7,H7,I7.unpinned,T.keep _ _ _ st5 λb hb o e=>(I7.pin (b,o) (af9 _ (af9 _ (mem_pinsAt hb e)))).1,λb hb=>?_,w7⟩;let⟨o,e,d⟩:=T.obj _ _ st5 b hb;show (I7.pin (b,o) (af9 _ (af9 _ (mem_pinsAt hb e)))).2.1
  cases f with
  |next=>let⟨σ7,H7,I7,n7⟩:=q7;show again I7 n7
  |cont=>let⟨σ7,H7,I7,n7⟩:=q7;show again I7 n7
  |brk=>let⟨σ7,H7,I7,q7⟩:=q7;show⟨σ7,H7,I7.unpinned,q7⟩
  |ret v=>let⟨x7,σ7,H7,I7,r7,q7⟩:=q7;show⟨x7,σ7,H7,I7.unpinned,r7,q7⟩
end
abbrev R2:=V->V->Hp->VK->Prop
def OpR(X:Cx)(f:afF->afF->Sem afF)(r:R2):Prop:=
 ∀(pins:List (afG×Obj)) (s:afH) (σ:St) (H:Hp) (x y:V) (v u:afF) (Q:VK),Inv X pins σ H s->RelV x v->RelV y u->r x y H Q->
  afK (model X.prog X.w) X.A (f v u) (EP X pins σ Q) X.xe s
def UnR(X:Cx)(f:afF->Sem afF)(r:V->Hp->VK->Prop):Prop:=
 ∀(pins:List (afG×Obj)) (s:afH) (σ:St) (H:Hp) (x:V) (v:afF) (Q:VK),Inv X pins σ H s->RelV x v->r x H Q->
  afK (model X.prog X.w) X.A (f v) (EP X pins σ Q) X.xe s
def CallR(X:Cx)(f:afF)(r:List V->Hp->VK->Prop):Prop:=
 ∀(pins:List (afG×Obj)) (s:afH) (σ:St) (H:Hp) (xs:List V) (us:List afF) (Q:VK),Inv X pins σ H s->Vals xs us->r xs H Q->
  afK (model X.prog X.w) X.A (call f us) (EP X pins σ Q) X.xe s
def TruR(X:Cx)(r:V->Hp->(Bool->Hp->Prop)->Prop):Prop:=
 ∀(pins:List (afG×Obj)) (s:afH) (σ:St) (H:Hp) (x:V) (v:afF) (Q:Bool->Hp->Prop),Inv X pins σ H s->RelV x v->r x H Q->
  afK (model X.prog X.w) X.A (truthy v) (TP X pins σ Q) X.xe s
def tOp(r:R2)(ta tb:TE):TE:=λσ H Q=>ta σ H λx H1=>tb σ H1 λy H2=>r x y H2 Q
def tUn(r:V->Hp->VK->Prop)(ta:TE):TE:=λσ H Q=>ta σ H λx H1=>r x H1 Q
def rI(C:Int->Int->Prop)(g:Int->Int->V):R2:=λx y H Q=>∃i j,x= .int i/\y= .int j/\C i j/\Q (g i j) H
def rI0(g:Int->Int->V):R2:=λx y H Q=>∃i j,x= .int i/\y= .int j/\Q (g i j) H
def rU(g:Int->V):V->Hp->VK->Prop:=λx H Q=>∃i,x= .int i/\Q (g i) H
section
variable{X:Cx}{a b c:afV}{ta tb tc:TE}
theorem binT(ha:PE X a ta)(hb:PE X b tb){R:V->V->Hp->Prop}(I:Inv X pins σ H s)
  (h:ta σ H λx H1=>tb σ H1 λy H2=>R x y H2){Q:afF->afH->Prop}
  (hf:∀v u s2 x y H2,Inv X pins σ H2 s2->RelV x v->RelV y u->R x y H2->afK (model X.prog X.w) X.A (f v u) Q X.xe s2):
  afK (model X.prog X.w) X.A (eval a X.env) (λv s₁=>afK (model X.prog X.w) X.A (eval b X.env) (λu s₂=>afK (model X.prog X.w) X.A (f v u) Q X.xe s₂) X.xe s₁) X.xe s:=by
 show thn (ha pins s σ H _ I h) λv s1 bQ=>?_;let⟨x,H1,I1,r1,q1⟩:=bQ;show thn (hb pins s1 σ H1 _ I1 q1) λu s2 bQ=>?_;let⟨y,H2,I2,r2,q2⟩:=bQ;show hf v u s2 x y H2 I2 r1 r2 q2
theorem pe_op{op:Operator}(ho:OpR X (ahv op) r)(ha:PE X a ta)(hb:PE X b tb):PE X (.BinOp a op b pos) (tOp r ta tb):=by
 intro pins s σ H Q I h;show wpAny_BinOp (binT ha hb I h λv u s2 x y H2 I2 rx ry q=>ho pins s2 σ H2 x y v u Q I2 rx ry q)
theorem pe_un{op:UnaryOp}{r:V->Hp->VK->Prop}(ho:UnR X (unaryOp op) r)(ha:PE X a ta):PE X (.UnaryOp op a pos) (tUn r ta):=by
 intro pins s σ H Q I h;show UnaryOp_ (thn (ha pins s σ H _ I h) λv s1 ⟨x,H1,I1,r1,q1⟩=>ho pins s1 σ H1 x v Q I1 r1 q1)
theorem opI{C:Int->Int->Prop}{g:Int->Int->Int}
  (rule:∀(i j:Int) (t u:Tok) (s:afH) (Q:afF->afH->Prop) (E:afF->afH->Prop),C i j->Q (.int (g i j) s.toks) {s with toks:=s.toks+1}->afK (model X.prog X.w) X.A (f (.int i t) (.int j u)) Q E s):
  OpR X f (rI C λi j=> .int (g i j)):=by
 intro pins s σ H x y v u Q I rx ry h;let⟨i,j,rfl,rfl,hc,q⟩:=h;let⟨t,rfl⟩:=rx;let⟨t',rfl⟩:=ry;show rule i j t t' s _ _ hc ⟨.int (g i j),H,I.tok _,⟨_,rfl⟩,q⟩
theorem opI0{g:Int->Int->Int}
  (rule:∀(i j:Int) (t u:Tok) (s:afH) (Q:afF->afH->Prop) (E:afF->afH->Prop),Q (.int (g i j) s.toks) {s with toks:=s.toks+1}->afK (model X.prog X.w) X.A (f (.int i t) (.int j u)) Q E s):
  OpR X f (rI0 λi j=> .int (g i j)):=by
 intro pins s σ H x y v u Q I rx ry h;let⟨i,j,rfl,rfl,q⟩:=h;let⟨t,rfl⟩:=rx;let⟨t',rfl⟩:=ry;show rule i j t t' s _ _ ⟨.int (g i j),H,I.tok _,⟨_,rfl⟩,q⟩
theorem opB0{g:Int->Int->Bool}
  (rule:∀(i j:Int) (t u:Tok) (s:afH) (Q:afF->afH->Prop) (E:afF->afH->Prop),Q (.bool (g i j)) s->afK (model X.prog X.w) X.A (f (.int i t) (.int j u)) Q E s):
  OpR X f (rI0 λi j=> .bl (g i j)):=by
 intro pins s σ H x y v u Q I rx ry h;let⟨i,j,rfl,rfl,q⟩:=h;let⟨t,rfl⟩:=rx;let⟨t',rfl⟩:=ry;show rule i j t t' s _ _ ⟨.bl (g i j),H,I,rfl,q⟩
def CPow(i j:Int):Prop:=0<=j/\j<=1000000/\i.natAbs<2^64
def CMul(i j:Int):Prop:=(-(2^64)<i/\i<2^64)\/(-(2^64)<j/\j<2^64)
theorem CMul.ok{i j:Int}(h:CMul i j):IntMulOk i j:=by
 rcases h with⟨h1,h2⟩ |⟨h1,h2⟩
 .show .of_left (intBits_le_64 h1 h2)
 .show .of_right (intBits_le_64 h1 h2)
theorem op_add:OpR X (ahv .Add) (rI0 λi j=> .int (i+j)):=opI0 λ_ _ _ _ _ _ _ q=>add_int q
theorem op_sub:OpR X (ahv .Sub) (rI0 λi j=> .int (i - j)):=opI0 λ_ _ _ _ _ _ _ q=>sub_int q
theorem op_mul:OpR X (ahv .Mult) (rI CMul λi j=> .int (i*j)):=opI λ_ _ _ _ _ _ _ hc q=>mul_int q hc.ok
theorem op_mod:OpR X (ahv .Mod) (rI (λ_ j=>0<j) λi j=> .int (i % j)):=opI λi j _ _ _ _ _ hc q=>by
 have h1:(0:Int)<j:=hc;show mod_int' () (by rw[Int.fmod_eq_emod_of_nonneg i ()];show q)
theorem op_pow:OpR X (ahv .Pow) (rI CPow λi j=> .int (i^j.toNat)):=opI λ_ _ _ _ _ _ _ hc q=>pow_int_small hc.1 hc.2.1 hc.2.2 q
theorem unI{f:afF->Sem afF}{g:Int->Int}
  (rule:∀(i:Int) (t:Tok) (s:afH) (Q:afF->afH->Prop) (E:afF->afH->Prop),Q (.int (g i) s.toks) {s with toks:=s.toks+1}->afK (model X.prog X.w) X.A (f (.int i t)) Q E s):
  UnR X f (rU λi=> .int (g i)):=by
 intro pins s σ H x v Q I rx h;let⟨i,rfl,q⟩:=h;let⟨t,rfl⟩:=rx;show rule i t s _ _ ⟨.int (g i),H,I.tok _,⟨_,rfl⟩,q⟩
theorem un_neg:UnR X (unaryOp .USub) (rU λi=> .int (-i)):=unI λ_ _ _ _ _ q=>neg_int q
end
section
variable{X:Cx}{a b c:afV}{ta tb tc:TE}
theorem fin_bl{Q:VK}{k k':Bool}(I:Inv X pins σ H s)(q:Q (.bl k) H)(e:k=k'):EP X pins σ Q (.bool k') s:=by
 subst e;show⟨.bl k,H,I,rfl,q⟩
theorem op_lt:OpR X (agr .Lt) (rI0 λi j=> .bl (decide (i<j))):=opB0 λ_ _ _ _ _ _ _ q=>lt_int q
theorem op_le:OpR X (agr .LtE) (rI0 λi j=> .bl (decide (i<=j))):=opB0 λ_ _ _ _ _ _ _ q=>le_int q
theorem op_gt:OpR X (agr .Gt) (rI0 λi j=> .bl (decide (j<i))):=opB0 λ_ _ _ _ _ _ _ q=>gt_int q
theorem op_ge:OpR X (agr .GtE) (rI0 λi j=> .bl (decide (j<=i))):=opB0 λ_ _ _ _ _ _ _ q=>ge_int q
theorem op_isN:OpR X (agr .Is) (λx y H Q=>y= .non/\Q (.bl (decide (x= .non))) H):=by
 intro pins s σ H x y v u Q I rx ry h;let⟨rfl,q⟩:=h;cases ry;show is_none_gen (fin_bl I q ?_);cases x <;> first
  |(cases rx;rfl)
  |(let⟨t,rfl⟩:=rx;rfl)
theorem OpR.or{r':R2}(h:OpR X f r)(h':OpR X f r'):OpR X f (λx y H Q=>r x y H Q\/r' x y H Q):=by
 intro pins s σ H x y v u Q I rx ry q;rcases q with q |q
 .show h pins s σ H x y v u Q I rx ry q
 .show h' pins s σ H x y v u Q I rx ry q
theorem nomark(b:afV)(h:op≠.In:=by decide)(h2:op≠.NotIn:=by decide):air op b=false:=by
 have e1:(op ==CmpOp.In)=false:=by cases op <;> first |rfl |show absurd rfl h
 have e2:(op ==CmpOp.NotIn)=false:=by cases op <;> first |rfl |show absurd rfl h2
 cases b <;> simp[air,e1,e2]
theorem pe_cmpR(ho:OpR X (agr op) r)(ha:PE X a ta)(hb:PE X b tb)(hm:air op b=false):PE X (.Compare a [op] [b] pos) (tOp r ta tb):=by
 intro pins s σ H Q I h;show wpAny_Compare1 (binT ha hb I h λv u s2 x y H2 I2 rx ry q=>ho pins s2 σ H2 x y v u Q I2 rx ry q) hm
def tTest(t:TE):TT:=λσ H Q=>t σ H λx H'=>∃k,x= .bl k/\Q k H'
theorem pt_cmpR(ho:OpR X (agr op) r)(ha:PE X a ta)(hb:PE X b tb)(hm:air op b=false):PT X (.Compare a [op] [b] pos) (tTest (tOp r ta tb)):=by
 intro pins s σ H Q I h;show wpAny_isTrue_Compare1 (thn (ha pins s σ H _ I h) λv s1 ⟨x,H1,I1,r1,q1⟩=>thn (hb pins s1 σ H1 _ I1 q1) λu s2 ⟨y,H2,I2,r2,q2⟩=>
  thn (ho pins s2 σ H2 x y v u _ I2 r1 r2 q2) λc s3 ⟨z,H3,I3,r3,k,e,q3⟩=>?_) hm
 subst e;cases r3;show agP ⟨H3,I3,q3⟩
def tChain(r r':R2)(ta tb tc:TE):TE:=λσ H Q=>ta σ H λx H1=>tb σ H1 λy H2=>r x y H2 λz H3=>∃k,z= .bl k/\
 (if k=true then tc σ H3 λw' H4=>r' y w' H4 Q else Q (.bl false) H3)
theorem pe_chain{op op':CmpOp}{r':R2}(ho:OpR X (agr op) r)(ho':OpR X (agr op') r')(ha:PE X a ta)(hb:PE X b tb)(hc:PE X c tc)
  (hm:lastMarks [op,op'] [b,c]=false:=by with_unfolding_all rfl):PE X (.Compare a [op,op'] [b,c] pos) (tChain r r' ta tb tc):=by
 intro pins s σ H Q I h;show Compare_chain (thn (ha pins s σ H _ I h) λv s1 ⟨x,H1,I1,r1,q1⟩=>chain_link (thn (hb pins s1 σ H1 _ I1 q1) λu s2 ⟨y,H2,I2,r2,q2⟩=>
  thn (ho pins s2 σ H2 x y v u _ I2 r1 r2 q2) λd s3 ⟨z,H3,I3,r3,k,e,q3⟩=>?_)) hm
 subst e;cases r3;show agP ?_;cases k with
 |false=>show ite_ff ⟨.bl false,H3,I3,rfl,q3⟩
 |true=>show ite_tt (chain_last (thn (hc pins s3 σ H3 _ I3 q3) λw' s4 ⟨z',H4,I4,r4,q4⟩=>ho' pins s4 σ H4 y z' u w' Q I4 r2 r4 q4))
theorem pt_chain{op op':CmpOp}{r':R2}(ho:OpR X (agr op) r)(ho':OpR X (agr op') r')(ha:PE X a ta)(hb:PE X b tb)(hc:PE X c tc)
  (hm:lastMarks [op,op'] [b,c]=false:=by with_unfolding_all rfl):PT X (.Compare a [op,op'] [b,c] pos) (tTest (tChain r r' ta tb tc)):=by
 intro pins s σ H Q I h;show isTrue_chain (thn (ha pins s σ H _ I h) λv s1 ⟨x,H1,I1,r1,q1⟩=>test_link (thn (hb pins s1 σ H1 _ I1 q1) λu s2 ⟨y,H2,I2,r2,q2⟩=>
  thn (ho pins s2 σ H2 x y v u _ I2 r1 r2 q2) λd s3 ⟨z,H3,I3,r3,k,e,q3⟩=>?_)) hm
 subst e;cases r3;show agP ?_;cases k with
 | false=>
  let⟨k',e',q'⟩:=q3;cases e';show ite_ff ⟨H3,I3,q'⟩
 | true=>
  show ite_tt (test_last (thn (hc pins s3 σ H3 _ I3 q3) λw' s4 ⟨z',H4,I4,r4,q4⟩=>thn (ho' pins s4 σ H4 y z' u w' _ I4 r2 r4 q4) λd' s5 bQ=>?_));let⟨z2,H5,I5,r5,k2,e2,q5⟩:=bQ;subst e2;cases r5;show agP ⟨H5,I5,q5⟩
def TruV(K:w0a)(x:V)(H:Hp)(k:Bool):Prop:=
 match x with
 | .non=>k=false
 | .bl b=>k=b
 | .int i=>k=(i !=0)
 | .str y=>y.length<=sizeLine/\k=((y.length:Int) !=0)
 | .byt y=>y.size<=sizeLine/\k=((y.size:Int) !=0)
 | .ref p=>(∃xs,SqL K H p xs/\k= !xs.isEmpty)\/(∃xs,SqT K H p xs/\k= !xs.isEmpty)\/∃kvs,H p=some (.dK kvs)/\k= !kvs.isEmpty
 |_=>False
theorem isEmpty_kv{κ:Type}{kvs:List (κ×V)}{vs:List (κ×afF)}(r:KV kvs vs):(!vs.isEmpty)= !kvs.isEmpty:=by
 cases r <;> rfl
theorem isEmpty_of{xs:List V}{its:List afF}(r:Vals xs its):(!its.toArray.isEmpty)= !xs.isEmpty:=by
 cases r <;> simp
theorem line63:(sizeLine:Nat)<2^63:=by rw[ahA];decide
theorem tru_ok:TruR X (λx H Q=>∃k,TruV X.K x H k/\Q k H):=by
 intro pins s σ H x v Q I rx h;let⟨k,e,q⟩:=h;have hl:=line63;have hs:sizeLine=16777216:=ahA;cases x with
 | non=>
  cases rx;have e':k=false:=e;subst e';show truthy_none ⟨H,I,q⟩
 | bl b=>
  cases rx;have e':k=b:=e;subst e';show agP ⟨H,I,q⟩
 | int i=>
  let⟨t,rfl⟩:=rx;have e':k=(i !=0):=e;subst e';show PySem.P.truthy_int ⟨H,I,q⟩
 | str y=>
  let⟨t,rfl⟩:=rx;obtain⟨hy,e'⟩:y.length<=sizeLine/\k=((y.length:Int) !=0):=e;subst e';show PySem.P.truthy_str () ⟨H,I.tok _,q⟩
 | byt y=>
  let⟨t,rfl⟩:=rx;obtain⟨hy,e'⟩:y.size<=sizeLine/\k=((y.size:Int) !=0):=e;subst e';show PySem.W.truthy_bytes () ⟨H,I.tok _,q⟩
 | ref p=>
  cases rx;have e':(∃xs,SqL X.K H p xs/\k= !xs.isEmpty)\/(∃xs,SqT X.K H p xs/\k= !xs.isEmpty)\/∃kvs,H p=some (.dK kvs)/\k= !kvs.isEmpty:=e;rcases e' with⟨xs,hx,e'⟩ |⟨xs,hx,e'⟩ |⟨kvs,hx,e'⟩
  .subst e';let⟨its,r,pl,hz⟩:=I.list hx;have hlen:=r.length;show wpAny_truthy_list pl.isList (by simp only[z1c];omega) ⟨H,I.tok _,by rw[isEmpty_of r];show q⟩
  .subst e';let⟨its,r,pl,hz⟩:=I.tuple hx;have hlen:=r.length;show truthy_tuple pl (by simp only[z1c];omega) ⟨H,I.tok _,by rw[isEmpty_of r];show q⟩
  .subst e';obtain⟨hz,hS,vs,r,m⟩:kvs.length<=sizeLine/\(p ==sysModules)=false/\∃vs,KV kvs vs/\s.heap.DictOf (mixKind X.prog X.w) p vs:=I.hok p _ hx;have hlen:kvs.length=vs.length:=Paired.length r;show wpAny_truthy_dict hS m () ⟨H,I.tok _,by rw[isEmpty_kv r];show q⟩
 |_=>show (show False from e).elim
theorem pt_truth(ha:PE X a ta)(he:∀whole,isTrue a X.env whole=(do let v <-whole;standAt a.pos;holding [v] (truthy v))):
  PT X a (λσ H Q=>ta σ H λx H'=>∃k,TruV X.K x H' k/\Q k H'):=by
 intro pins s σ H Q I h;show isTrue_plain (thn (ha pins s σ H _ I h) λv s1 ⟨x,H1,I1,r1,q1⟩=>tru_ok pins s1 σ H1 x v Q I1 r1 q1) (he _)
theorem vals1{x:V}(r:Vals [x] us):∃u,us=[u]/\RelV x u:=by
 cases r with
 |cons r1 r2=>cases r2;show⟨_,rfl,r1⟩
theorem vals2{x y:V}(r:Vals [x,y] us):∃u w',us=[u,w']/\RelV x u/\RelV y w':=by
 cases r with
 | cons r1 r2=>
  cases r2 with
  |cons r3 r4=>cases r4;show⟨_,_,rfl,r1,r3⟩
theorem call_abs:CallR X (.builtin "abs") (λxs H Q=>∃i,xs=[.int i]/\Q (.int (if i<0 then -i else i)) H):=by
 intro pins s σ H xs us Q I r h;let⟨i,rfl,q⟩:=h;let⟨u,rfl,t,rfl⟩:=vals1 r;show call_abs_int λu tk=>⟨.int (if i<0 then -i else i),H,I.tok _,⟨_,rfl⟩,q⟩
theorem call_max2(hc:X.calm=true):CallR X (.builtin "max") (λxs H Q=>∃i j,xs=[.int i,.int j]/\Q (.int (if j > i then j else i)) H):=by
 intro pins s σ H xs us Q I r h;let⟨i,j,rfl,q⟩:=h;let⟨u,w',rfl,⟨t,rfl⟩,⟨t',rfl⟩⟩:=vals2 r;show max_two_ints (I.ok.hd hc) λh' tk k=>⟨_,H,I.kept k,?_,q⟩;by_cases hj:j > i
 .rw[z9p hj,z9p hj];show⟨_,rfl⟩
 .rw[z9n hj,z9n hj];show⟨_,rfl⟩
theorem call_min2(hc:X.calm=true):CallR X (.builtin "min") (λxs H Q=>∃i j,xs=[.int i,.int j]/\Q (.int (if j<i then j else i)) H):=by
 intro pins s σ H xs us Q I r h;let⟨i,j,rfl,q⟩:=h;let⟨u,w',rfl,⟨t,rfl⟩,⟨t',rfl⟩⟩:=vals2 r;show min_two_ints (I.ok.hd hc) λh' tk k=>⟨_,H,I.kept k,?_,q⟩;by_cases hj:j<i
 .rw[z9p hj,z9p hj];show⟨_,rfl⟩
 .rw[z9n hj,z9n hj];show⟨_,rfl⟩
end
section
variable{x dx C f:afG}{mA:Str->Option afF}{name:Str}{v:afF}
end
section
variable{H H':Hp}{h h':af8}{a C dx:afG}{fs fs':List (Str×V)}
end
section
variable{X:Cx}{σ:St}{H:Hp}{a C dx:afG}{fs:List (Str×V)}{f:Str}{v:V}
end
section
variable{X:Cx}{o e value:afV}{f:Str}{pos pos' tpos:Pos}{ta tv:TE}
end
section
variable{X:Cx}{σ:St}{H:Hp}{Q:afF->afH->Prop}{c:afF}{b:Bool}
end
structure Room(k:Nat)(A:afZ):Prop where
 hd:A.handled=none
 dp:A.depth+3*k+5<recursionLimit
 un:A.units+16*k+200<agR
theorem Room.mono(r:Room k A)(h:j<=k):Room j A:=⟨r.hd,by have:=r.dp;omega,by have:=r.un;omega⟩
theorem Room.deeper(r:Room (k+1) A)(env:Env):Room k (A.deeper env):=
 ⟨r.hd,by have:=r.dp;show A.depth+1+3*k+5<_;omega,by have:=r.un;show A.units+3+16*k+200<_;omega⟩
theorem Room.depth(r:Room k A):A.depth<recursionLimit:=by have:=r.dp;omega
def tNil:TA:=λ_ H Q=>Q [] H
def tCons(ta:TE)(tr:TA):TA:=λσ H Q=>ta σ H λx H1=>tr σ H1 λxs H2=>Q (x::xs) H2
section
variable{X:Cx}{e:afV}{te:TE}{t:TA}
theorem pa_nil:PA X [] tNil:=λ_ _ _ _ H Q I h=>Calls.spliced_nil ⟨[],H,I,.nil,h⟩
theorem pa_cons(ha:PE X e te)(hr:PA X es t)(hs:afL (e::es) X.env=(false,eval e X.env)::afL es X.env:=by rfl):PA X (e::es) (tCons te t):=by
 intro pos pins s σ H Q I h;rw[hs];show afK _ _ (spliced ((false,eval e X.env)::agS pos (afL es X.env))) _ _ s;show Calls.spliced_cons (thn (ha pins s σ H _ I h) λu s1 bQ=>?_);let⟨x,H1,I1,r1,q1⟩:=bQ;show thn (hr pos pins s1 σ H1 _ I1 q1) λus s2 bQ=>?_;let⟨xs,H2,I2,r2,q2⟩:=bQ;show⟨x::xs,H2,I2,.cons r1 r2,q2⟩
def tTup(t:TA):TE:=λσ H Q=>t σ H λxs H1=>xs.length<=sizeLine/\∀p,H1 p=none->Q (.ref p) (upd H1 p (.tup xs))
def tLst(t:TA):TE:=λσ H Q=>t σ H λxs H1=>xs.length<=sizeLine/\∀p,H1 p=none->Q (.ref p) (upd H1 p (.lst xs))
theorem pe_tup{x1}(h:PA X es t):PE X (.Tuple es x1 pos) (tTup t):=by
 intro pins s σ H Q I hq;show wpAny_Tuple_spliced (thn (h pos pins s σ H _ I hq) λus s1 ⟨xs,H1,I1,r,z,q⟩=>⟨by rw[<-r.length];show z,?_⟩);have hf:H1 s1.heap.objs.size=none:=I1.hok.fresh (z0g _);show⟨.ref s1.heap.objs.size,upd H1 s1.heap.objs.size (.tup xs),I1.laid (t':=s1.toks) (λb u e=>z1a _ e) (z0g _) ?_,rfl,q _ hf⟩;show⟨z,us,r,⟨_,z1f _ rfl,rfl,rfl,_,rfl⟩⟩
theorem pe_lst(h:PA X es t):PE X (.List es pos) (tLst t):=by
 intro pins s σ H Q I hq;show wpAny_List_spliced (thn (h pos pins s σ H _ I hq) λus s1 ⟨xs,H1,I1,r,z,q⟩=>⟨by rw[<-r.length];show z,?_⟩);have hf:H1 s1.heap.objs.size=none:=I1.hok.fresh (z0g _);show⟨.ref s1.heap.objs.size,upd H1 s1.heap.objs.size (.lst xs),I1.laid (t':=s1.toks) (λb u e=>z1a _ e) (z0g _) ?_,rfl,q _ hf⟩;show⟨z,us,0,r,z1f _ rfl⟩
end
abbrev Sp:=List V->Hp->VK->XK->Prop
abbrev CXT:=List Env->Hp->afH->XK->afF->afH->Prop
structure Env0(P:afQ)(w:af2)(K:w0a)(mg:Str->Option afF)(base:af8)(A:afZ)(outer:List Env)(s:afH)(H:Hp):Prop where
 frames:A.frames=some outer
 mod:Mod K mg base
 bs:∀b o,base.get? b=some o->s.heap.get? b=some o/\H b=none
 bsz:base.objs.size<=s.heap.objs.size
 funs:s.heap.FunFrames base outer
 frf:∀b∈frs outer,H b=none
 hok:HOk P w H s.heap
 bare:aj3 s.gens
inductive CE (outer:List Env) (P:afQ) (w:af2) (H:Hp) (s:afH) (Q:VK) (u:afF) (s':afH):Prop
 |mk (v:V) (H':Hp) (os:s'.os=s.os) (bare:aj3 s'.gens) (un:Un (frs outer) [] H H' s.heap s'.heap) (hok:HOk P w H' s'.heap) (r:RelV v u) (q:Q v H'):CE outer P w H s Q u s'
def CR(CX:CXT)(outer:List Env)(P:afQ)(w:af2)(H:Hp)(s:afH)(Q:VK)(E:XK)(r:Result)(s':afH):Prop:=
 match r with
 | .ok (.ret u)=>CE outer P w H s Q u s'
 | .ok _=>False
 | .error e=>CX outer H s E e s'
structure FnOk(P:afQ)(w:af2)(K:w0a)(mg:Str->Option afF)(base:af8)(CX:CXT)(k:Nat)(f:afG)(fd:agJ)(ps:List Str)(sp:Sp):Prop where
 len:∀vs H Q E,sp vs H Q E->vs.length=ps.length
 run:∀(A:afZ) (outer:List Env) (s:afH) (H:Hp) (args:Args) (us:List afF) (vs:List V) (Q:VK) (E:XK),Room k A->Env0 P w K mg base A outer s H->BindsTo s fd args (ps.zip us)->Vals vs us->sp vs H Q E->
  ajL (model P w) A (.call (.ref f) args) (CR CX outer P w H s Q E) s
theorem FnOk.mono{f:afG}{sp:Sp}(F:FnOk P w K mg base CX j f fd ps sp)(h:j<=k):
  FnOk P w K mg base CX k f fd ps sp:=⟨F.len,λA outer s H args us vs Q E hr=>F.run A outer s H args us vs Q E (hr.mono h)⟩
section
variable{X:Cx}{σ:St}{H:Hp}{s s':afH}
theorem Inv.env0(I:Inv X pins σ H s):Env0 X.prog X.w X.K X.mg X.base X.A X.stack s H:=
 ⟨I.ok.frames,I.ok.mod,I.bs,z0b I.ok.bsz I.sz,I.stack,I.stkFree,I.hok,I.bare⟩
theorem Inv.after{Q:VK}(I:Inv X pins σ H s)(h:CE X.stack X.prog X.w H s Q u s'):EP X pins σ Q u s':=by
 let⟨v,H',os,bare,un,hok,r,q⟩:=h;let⟨hh,g,d,t,os'⟩:=s';obtain rfl:os'=s.os:=os;show⟨v,H',I.call (h':=hh) (g':=g) (d':=d) (t':=t) (ch:=[]) un hok bare (λb z=>absurd z ()),r,q⟩
end
def tCall(sp:Sp)(dvs:List V)(E:XK)(t:TA):TE:=λσ H Q=>t σ H λvs H1=>sp (vs++dvs) H1 Q E
def Binds(K:w0a)(fd:agJ)(ps:List Str)(ds:List afF):Prop:=
 ∀(s:afH) (us:List afF),K.In s.heap->(us++ds).length=ps.length->BindsTo s fd ⟨us,[]⟩ (ps.zip (us++ds))
theorem Binds.all(h:∀us:List afF,us.length=ps.length->aiO fd ⟨us,[]⟩=pure (ps.zip us)):Binds K fd ps []:=λs us _ hl=>by
 rw[agi] at hl |-;show .of_eq (h us hl)
def Passes(CX:CXT)(X:Cx)(E:XK):Prop:=∀(pins:List (afG×Obj)) (σ:St) (H:Hp) (s:afH) (e:afF) (s':afH),Inv X pins σ H s->CX X.stack H s E e s'->X.xe e s'
section
variable{X:Cx}{CX:CXT}{k:Nat}{f C:afG}{ps:List Str}{sp:Sp}{dvs:List V}{ds:List afF}{E:XK}{x m:Str}{p pos apos:Pos}{e o:afV}{ta:TE}{t:TA}
theorem run_fn{Q:VK}{vs:List V}(F:FnOk X.prog X.w X.K X.mg X.base CX k f fd ps sp)(hr:Room k X.A)(hb:Binds X.K fd ps ds)(hd:Vals dvs ds)(hx:Passes CX X E)
  (I:Inv X pins σ H s)(r:Vals vs us)(h:sp (vs++dvs) H Q E):afK (model X.prog X.w) X.A (call (.ref f) us) (EP X pins σ Q) X.xe s:=by
 have r2:Vals (vs++dvs) (us++ds):=r.append hd;have hl:(us++ds).length=ps.length:=by rw[<-r2.length];show F.len _ _ _ _ h
 show aks (aiF (F.run X.A X.stack s H ⟨us,[]⟩ (us++ds) (vs++dvs) Q E hr I.env0 (hb s us I.kIn hl) r2 h) λr s' hq=>?_);cases r with
 |error e=>show hx pins σ H s e s' I hq
 | ok fl=>
  cases fl with
  |ret u=>show I.after hq
  |next=>show agH hq
  |brk=>show agH hq
  |cont=>show agH hq
theorem pe_call(F:FnOk X.prog X.w X.K X.mg X.base CX k f fd ps sp)(hr:Room k X.A)(hg:Gl X x)(hm:X.mg x=some (.ref f))(hk:w0d X.K (.ref f)=true)(hb:Binds X.K fd ps ds)(hd:Vals dvs ds)(hx:Passes CX X E)
  (ha:PA X (e::es) t)(hdb:(x ==("__debug__" :Str))=false:=by decide)(he:afL (e::es) X.env=(false,eval e X.env)::afL es X.env:=by rfl)(hpl:(agS pos (afL es X.env)).any (·.1)=false:=by rfl):
  PE X (.Call (.Name x p) (e::es) [] pos) (tCall sp dvs E t):=by
 intro pins s σ H Q I h;show ahC (ld_glob I hg hm ?_ hdb);show w0q (h₀:=X.base) I.ok.mod.kin hk (thn (ha pos pins s σ H _ I h) λus s1 ⟨vs,H1,I1,r,q⟩=>⟨I1.kIn,?_⟩) he hpl;show run_fn F hr hb hd hx I1 r q
end
def PK(X:Cx)(kws:List ajb)(t:TA):Prop:=
 ∀(pos:Pos) (pins:List (afG×Obj)) (s:afH) (σ:St) (H:Hp) (Q:List V->Hp->Prop),Inv X pins σ H s->t σ H Q->afK (model X.prog X.w) X.A (evalAll ((aiw pos (ahI kws X.env)).map (·.2))) (AP X pins σ Q) X.xe s
section
variable{X:Cx}{CX:CXT}{k:Nat}{f C:afG}{ps ks:List Str}{sp:Sp}{E:XK}{x m:Str}{p pos apos kpos:Pos}{e o:afV}{te ta:TE}{t tk:TA}{nm:Option Str}
theorem pk_nil:PK X [] tNil:=λ_ _ _ _ H Q I h=>wpAny_evalAll_nil ⟨[],H,I,.nil,h⟩
theorem pk_cons(ha:PE X e te)(hr:PK X kws t):PK X (⟨nm,e,kpos⟩::kws) (tCons te t):=by
 intro pos pins s σ H Q I h;show afK _ _ (evalAll ((do let v <-eval e X.env;standAt pos;pure v)::(aiw pos (ahI kws X.env)).map (·.2))) _ _ s;show wpAny_evalAll_cons (afE (thn (ha pins s σ H _ I h) λu s1 ⟨x,H1,I1,r1,q1⟩=>afE (ak0 (afJ ?_))));show thn (hr pos pins s1 σ H1 _ I1 q1) λus s2 bQ=>?_;let⟨xs,H2,I2,r2,q2⟩:=bQ;show⟨x::xs,H2,I2,.cons r1 r2,q2⟩
variable{g:List afF->List afF->List afF}{gV:List V->List V->List V}
end
structure FnScope(N P:List Str)(sc:ahz):Prop where
 kind:sc.kind= .function
 co:sc.isCoroutine=false
 gen:sc.isGenerator=false
 nd:N.Nodup
 pre:N.take P.length=P
 par:∀x∈P,sc.names.lookup x=some .local\/sc.names.lookup x=some .cell
 nofree:∀y∈sc.names,y.2≠.free
theorem bindL_out{kindOf:Str->Option aiZ}:∀{binds:List (Str×afF)} {m:Str->Option afF},(∀v,(x,v)∉binds)->bindL kindOf binds m x=m x
 |[],_,_=>rfl
 | (n,v)::r,m,h=>by
  unfold bindL;rw[bindL_out λw hw=>h w (z2f _ hw)];split
  .have:x≠n:=by rintro rfl;show h v afT
   simp[this]
  .rfl
theorem bindC_out{kindOf:Str->Option aiZ}:∀{binds:List (Str×afF)} {m:Str->Option afF},(∀v,(x,v)∉binds)->bindC kindOf binds m x=m x
 |[],_,_=>rfl
 | (n,v)::r,m,h=>by
  unfold bindC;rw[bindC_out λw hw=>h w (z2f _ hw)];split
  .rfl
  .have:x≠n:=by rintro rfl;show h v afT
   simp[this]
theorem bindL_get{kindOf:Str->Option aiZ}{v:afF}:∀{P:List Str} {vs:List afF} {i:Nat} {m:Str->Option afF},P.Nodup->P[i]?=some x->vs[i]?=some v->kindOf x=some .local->
  bindL kindOf (P.zip vs) m x=some v
 |[],_,_,_,_,h,_,_=>by simp at h
 |_::_,[],_,_,_,_,h,_=>by simp at h
 | p::P,w::vs,0,m,nd,h1,h2,hk=>by
  simp at h1 h2;subst h1;subst h2;show bindL kindOf ((p,w)::P.zip vs) m p=_;unfold bindL;rw[bindL_out λv hv=>(ah5.mp nd).1 (ajO hv).1,z9p hk];simp
 | p::P,w::vs,i+1,m,nd,h1,h2,hk=>by
  show bindL kindOf ((p,w)::P.zip vs) m x=_;unfold bindL;show bindL_get (i:=i) (ah5.mp nd).2 (by simpa using h1) (by simpa using h2) hk
theorem bindC_get{kindOf:Str->Option aiZ}{v:afF}:∀{P:List Str} {vs:List afF} {i:Nat} {m:Str->Option afF},P.Nodup->P[i]?=some x->vs[i]?=some v->kindOf x≠some .local->
  bindC kindOf (P.zip vs) m x=some v
 |[],_,_,_,_,h,_,_=>by simp at h
 |_::_,[],_,_,_,_,h,_=>by simp at h
 | p::P,w::vs,0,m,nd,h1,h2,hk=>by
  simp at h1 h2;subst h1;subst h2;show bindC kindOf ((p,w)::P.zip vs) m p=_;unfold bindC;rw[bindC_out λv hv=>(ah5.mp nd).1 (ajO hv).1,z9n hk];simp
 | p::P,w::vs,i+1,m,nd,h1,h2,hk=>by
  show bindC kindOf ((p,w)::P.zip vs) m x=_;unfold bindC;show bindC_get (i:=i) (ah5.mp nd).2 (by simpa using h1) (by simpa using h2) hk
def start(N:List Str)(vs:List V):St:=vs.map some++afU (N.length - vs.length) none
def cxOf(CX:CXT)(P:afQ)(w:af2)(K:w0a)(mg:Str->Option afF)(base:af8)(N:List Str)(qual:Str)(scope:ahz)(f:afG)(cd:afF)(A:afZ)(outer:List Env)(s:afH)(H:Hp)(E:XK):Cx where
 prog:=P
 w:=w
 K:=K
 mg:=mg
 base:=base
 A:=A.deeper (aij qual scope s.heap.objs.size f cd)
 N:=N
 s₀:=s
 H₀:=H
 env:=aij qual scope s.heap.objs.size f cd
 outer:=outer
 stack:=aij qual scope s.heap.objs.size f cd::outer
 ex:=[]
 calm:=true
 fn:=λ_=>true
 pn:=[]
 xe:=λe s'=>afK (model P w) (A.deeper (aij qual scope s.heap.objs.size f cd)) (leaving (aij qual scope s.heap.objs.size f cd) e) (λ_ s''=>CX outer H s E e s'') (λe' s''=>CX outer H s E e' s'') s'
theorem cell_has{sc:ahz}(h:sc.names.lookup x=some .cell):∃c,(agn n sc.names []).lookup x=some c:=by
 have q:=w0l sc.names n [] (.inl h);show ai0.mp q
theorem inv_start{qual:Str}{f:afG}{cd:afF}{outer:List Env}{s1:afH}{E:XK}{vs:List V}
  (S:FnScope N ps scope)(hd:A.handled=none)(e0:Env0 P w K mg base A outer s H)(hl:vs.length=ps.length)(r:Vals vs us)
  (x:InCallC s s.heap.objs.size (bindL (aij qual scope s.heap.objs.size f cd).kindOf (ps.zip us) λ_=>none) (agn (s.heap.objs.size+1) scope.names []) (bindC (aij qual scope s.heap.objs.size f cd).kindOf (ps.zip us) λ_=>none) s1):
  Inv (cxOf CX P w K mg base N qual scope f cd A outer s H E) [] (start N vs) H s1:=by
 have hpl:ps.length<=N.length:=by have:=congrArg akS S.pre;rw[agg] at this;omega
 let⟨h1,tk,rfl,hk⟩:=x.done;have noA:∀b:afG,b∉(cxOf CX P w K mg base N qual scope f cd A outer s H E).ex:=λb z=>absurd (show b∈([]:List afG) from z) ();show⟨⟨e0.mod,S.kind,rfl,rfl,z0g _,λy z c h1 h2=>?_,λy hy=>?_,λy c _ h=>?_,λ_=>hd,Around.frames_deeper e0.frames,.inr ⟨rfl,rfl⟩,λb z=>absurd z (noA b),e0.bs,e0.bsz,λb _ _=>noA b,λb z=>absurd z (noA b),e0.funs,e0.frf⟩,
  rfl,e0.bare,Un.kept hk,⟨_,x.toInCall.ns,λi y v h1 h2 h3=>?_⟩,λy c h=>⟨_,x.cell y c h⟩,e0.hok.fresh (z0g _),λy c h=>?_,λp hp=>absurd (show p∈([]:List (afG×Obj)) from hp) (),e0.hok.kept hk,?_⟩
 .show name_of_addr x.apart (PySem.mem_of_lookup h1) (PySem.mem_of_lookup h2)
 .have hy:scope.names.lookup y=some .cell\/scope.names.lookup y=some .free:=hy;rcases hy with hy |hy
  .show cell_has hy
  .show absurd rfl (S.nofree _ (PySem.mem_of_lookup hy))
 .show z0e (x.above y c (PySem.mem_of_lookup h))
 .have hi:i<vs.length:=by
   unfold start at h2;by_cases hi:i<vs.length
   .show hi
   .rw[afP (by simpa using hi)] at h2;rw[ah2] at h2;split at h2 <;> cases h2
  have ha:vs[i]?=some v:=by
   unfold start at h2;rw[af4 (by simpa using hi),z2b] at h2;cases e:vs[i]? with
   |none=>rw[e] at h2;cases h2
   |some a=>rw[e] at h2;cases h2;rfl
  let⟨u,hu,rv⟩:=r.get ha;have hp:ps[i]?=some y:=by
   rw[<-S.pre,alo ()];show h1
  have ndP:ps.Nodup:=by rw[<-S.pre];show S.nd.sublist (ajp _ _)
  show⟨u,rv,?_⟩;rcases S.par y (ago hp) with k |k
  .show .inl ⟨k,bindL_get ndP hp hu k⟩
  .let⟨c,e⟩:=cell_has (n:=s.heap.objs.size+1) k;show .inr ⟨.inl k,c,e,?_⟩;have q:=x.cell y c e;rw[bindC_get ndP hp hu (by show scope.names.lookup y≠_;rw[k];decide)] at q;show q
 .show e0.hok.fresh (z0e (x.above y c (PySem.mem_of_lookup h)))
 .unfold start;show _=N.length;rw[z1d,z1g,ahw];omega
theorem fn_of{f:afG}{name qual:Str}{dV kV doc pm cdv ct oc:afF}{an od:Option afG}
  {osl:Array (Option afF)}{sp:Sp}(lk:K.lookup f=some ⟨oc,od,.func (w0c name qual params body scope dV kV doc pm an cdv ct),osl⟩)(hcd:w0g K cdv qual=true)(S:FnScope N ps scope)
  (len:∀vs H Q E,sp vs H Q E->vs.length=ps.length)
  (hbody:∀(A:afZ) (outer:List Env) (s:afH) (H:Hp) (vs:List V) (Q:VK) (E:XK),Room k (A.deeper (aij qual scope s.heap.objs.size f cdv))->sp vs H Q E->
   ∃t,PSs (cxOf CX P w K mg base N qual scope f cdv A outer s H E) body t/\t {nx:=λ_ H'=>Q .non H',rt:=Q} (start N vs) H):
  FnOk P w K mg base CX (k+1) f (w0c name qual params body scope dV kV doc pm an cdv ct) ps sp:=by
 show⟨len,λA outer s H args us vs Q E hr e0 hb r hsp=>?_⟩;have hl:=len _ _ _ _ hsp;have KX:K.In s.heap:=e0.mod.kin.keeps λb o e=>(e0.bs b o e).1;have lim:s.heap.NoLimit:=e0.mod.nolimit.keeps λb o e=>(e0.bs b o e).1;have hkind:∀y∈ps.zip us,scope.names.lookup y.1=some .local\/(scope.names.lookup y.1=some .cell/\((agn (s.heap.objs.size+1) scope.names []).lookup y.1).isSome=true):=λ⟨n,v⟩ hy=>by
  rcases S.par n (ajO hy).1 with q |q
  .show .inl q
  .show .inr ⟨q,w0l _ _ _ (.inl q)⟩
 show codeAny_call_function hr.depth (KX _ _ lk) rfl S.co S.gen rfl (PySem.W.codeRec_of KX hcd) (hb _ _ _ _ ?_);show wpAny_newFunctionEnv_cells S.kind hkind λenv he s1 x=>?_;subst he;show⟨lim.keeps x.toInCall.keep,codeAny_func ?_⟩;let⟨t,ht,hq⟩:=hbody A outer s H vs Q E (hr.deeper _) hsp;have I:Inv (cxOf CX P w K mg base N qual scope f cdv A outer s H E) [] (start N vs) H s1:=inv_start S hr.hd e0 hl r x;show ahf (ht [] s1 (start N vs) H _ I hq) (λfl s' hs=>?_) λe s' hs=>hs;have fin:∀{σ':St} {H':Hp} {v:V} {u:afF},Inv (cxOf CX P w K mg base N qual scope f cdv A outer s H E) [] σ' H' s'->RelV v u->Q v H'->CE outer P w H s Q u s':=
  λ{σ' H' v u} J rv q=>⟨v,H',J.os,J.bare,J.base,J.hok,rv,q⟩
 cases fl with
 | ret u=>
  let⟨v,σ',H',J,rv,q⟩:=hs;show fin J rv q
 | next=>
  let⟨σ',H',J,q⟩:=hs;show fin (v:=V.non) (u:=agv) J rfl q
 | brk=>
  let⟨_,_,_,q⟩:=hs;show agH q
 | cont=>
  let⟨_,_,_,q⟩:=hs;show agH q
section
variable{X:Cx}{p pos:Pos}{e:afV}{t:TA}{id T:String}{r:List V->Hp->VK->Prop}
def tCB(r:List V->Hp->VK->Prop)(t:TA):TE:=λσ H Q=>t σ H λvs H1=>r vs H1 Q
theorem pe_callB(hc:CallR X (.builtin id) r)(hg:Gl X x)(hm:X.mg x=none)(hv:ahR x=some (.builtin id))(ha:PA X (e::es) t)(hn:x≠"__name__" :=by decide)(hdb:(x ==("__debug__" :Str))=false:=by decide)
  (he:afL (e::es) X.env=(false,eval e X.env)::afL es X.env:=by rfl)(hpl:(agS pos (afL es X.env)).any (·.1)=false:=by rfl):PE X (.Call (.Name x p) (e::es) [] pos) (tCB r t):=by
 intro pins s σ H Q I h;show ahC (ld_blt I hg hm hv ?_ hn hdb);show akt (thn (ha pos pins s σ H _ I h) λus s1 ⟨vs,H1,I1,r1,q1⟩=>hc pins s1 σ H1 vs us Q I1 r1 q1) he hpl
theorem pe_callTy(hc:CallR X (.type T) r)(hg:Gl X x)(hm:X.mg x=none)(hv:ahR x=some (.type T))(ha:PA X (e::es) t)(hn:x≠"__name__" :=by decide)(hdb:(x ==("__debug__" :Str))=false:=by decide)
  (he:afL (e::es) X.env=(false,eval e X.env)::afL es X.env:=by rfl)(hpl:(agS pos (afL es X.env)).any (·.1)=false:=by rfl):PE X (.Call (.Name x p) (e::es) [] pos) (tCB r t):=by
 intro pins s σ H Q I h;show ahC (ld_blt I hg hm hv ?_ hn hdb);show agL (thn (ha pos pins s σ H _ I h) λus s1 ⟨vs,H1,I1,r1,q1⟩=>hc pins s1 σ H1 vs us Q I1 r1 q1) he hpl
end
end L2
variable{X:L2.Cx}{H:L2.Hp}{σ:L2.St}{v:L2.V}{xs:List L2.V}{ta:L2.TA}{vs:List L2.V}
namespace HT
open PySem PyProof.Rows
section
open PySem.SeqAt
open PySem.AutoSeq1 (wpAny_loadPart')
open PySem.MeetsSeq PySem.MeetsSeq2 PySem.MeetsSeq3
end
theorem cat_tup{t b:afG}{vs ws:List afF}(ht:IsTup s.heap t vs.toArray)(hb:IsTup s.heap b ws.toArray)(hv:vs≠[])
  (h1:ws=[]->Q (.ref t) s)(h2:ws≠[]->Q (.ref s.heap.objs.size) {s with heap:=s.heap.push {cls:= .type "tuple",data:= .seq (vs++ws).toArray}})
  (hsz:vs.length+ws.length<=sizeLine):afK (model prog w) A (ahv .Add (.ref t) (.ref b)) Q E s:=by
 let⟨⟨cls,dd,data,sl⟩,ho,hc,n,hd⟩:=id ht;let⟨⟨cls2,dd2,data2,sl2⟩,ho2,hc2,n2,hd2⟩:=id hb;simp only at hc hd hc2 hd2;subst hc hd hc2 hd2;have e:vs.toArray++ws.toArray=(vs++ws).toArray:=()
 by_cases hw:ws=[]
 .show alp ⟨_,ho,rfl⟩ ⟨_,ho2,rfl⟩ alq seq_tuple_add PySem.F.slot_tuple_add PySem.F.entry_tuple_add (PySem.F.args_tuple_add_2 _ _)
   (tuple_addW1 t b vs.toArray ws.toArray n n2 dd dd2 sl sl2 (by simpa using hv) (by simp[hw])) ⟨ho,ho2,h1 hw⟩
 .show alp ⟨_,ho,rfl⟩ ⟨_,ho2,rfl⟩ alq seq_tuple_add PySem.F.slot_tuple_add PySem.F.entry_tuple_add (PySem.F.args_tuple_add_2 _ _)
   (tuple_addW2 t b vs.toArray ws.toArray n n2 dd dd2 sl sl2 (by simpa using hv) (by simpa using hw) (by rw[z1c,z1c];show hsz)) ⟨ho,ho2,?_⟩
  rw[e];show h2 hw
def sIx(n d:Nat):Option Int->Nat
 |none=>d
 |some v=>if v<0 then (v+(n:Int)).toNat else min v.toNat n
theorem sIx_le(n d:Nat)(hd:d<=n)(o:Option Int):sIx n d o<=n:=by
 cases o with
 |none=>show hd
 | some v=>
  show (if v<0 then (v+(n:Int)).toNat else min v.toNat n)<=n;by_cases hv:v<0
  .rw[z9p hv];omega
  .rw[z9n hv];show Nat.min_le_right _ _
theorem XQ(a b:Nat):((min a b:Nat):Int)=min (a:Int) (b:Int):=by
 rcases Nat.le_total a b with h |h
 .rw[ajd h,Int.min_eq_left (alr.mpr h)]
 .rw[Nat.min_eq_right h,Int.min_eq_right (alr.mpr h)]
theorem adl{i:Int}(n:Nat)(h:i<0):max 0 (min (i+(n:Int)) (n:Int))=(((i+(n:Int)).toNat:Nat):Int):=by
 rw[Int.min_eq_left (),Int.max_comm];show (Int.ofNat_toNat _).symm
theorem adn(k n:Nat):max 0 (min (k:Int) (n:Int))=((min (k:Int).toNat n:Nat):Int):=by
 rw[Int.max_eq_right (Int.le_min.mpr ⟨aje _,aje _⟩)];show (XQ k n).symm
theorem clip_eq(v:Int)(n d:Nat):(if v<0 then max (v+(n:Int)) 0 else min v (n:Int))=((sIx n d (some v):Nat):Int):=by
 show (if v<0 then max (v+(n:Int)) 0 else min v (n:Int))=(((if v<0 then (v+(n:Int)).toNat else min v.toNat n):Nat):Int);by_cases hv:v<0
 .simp only[z9p hv];show (Int.ofNat_toNat _).symm
 .simp only[z9n hv];let⟨k,rfl⟩:=agy (Int.not_lt.mp hv);show (XQ k n).symm
theorem adjust_gen(lo hi:Option Int)(n:Nat):ajP lo hi 1 (n:Int)=(((sIx n 0 lo:Nat):Int),((sIx n n hi:Nat):Int)):=by
 have h1:¬((1:Int)<0):=()
 unfold ajP;simp only[h1,if_false];show akk ?_ ?_
 .cases lo with
  |none=>rfl
  |some v=>show clip_eq v n 0
 .cases hi with
  |none=>rfl
  |some v=>show clip_eq v n n
theorem places_gen(i j:Nat):aiU (i:Int) (j:Int) 1=j - i:=by
 unfold aiU;have h1:(1:Int) > 0:=()
 simp only[h1,if_true,Int.ediv_one];split <;> omega
theorem slicePart_{v:afF}{o:Option Int}{Q:Option Int->afH->Prop}(p:aku v o)(h:Q o s):afK (model prog w) A (Builtin.Slice.slicePartIndex v) Q E s:=by
 cases p with
 |none=>show slicePart_none h
 |int i t=>show slicePart_int h
theorem sliceApplied_gen{sl:afG}{vl vu:afF}{lo hi:Option Int}{Q:Int×Int×Nat->afH->Prop}(hs:s.heap.IsSliceOf sl vl vu .none)(pl:aku vl lo)(pu:aku vu hi)
  (h:Q (((sIx n 0 lo:Nat):Int),1,sIx n n hi - sIx n 0 lo) s):afK (model prog w) A (ak1 (.ref sl) (pure (n:Int))) Q E s:=by
 let⟨os,hos,hcs,hds⟩:=id hs;unfold ak1 Builtin.Slice.sliceFields;show afE (afE (agN hos hds (x:=vl) rfl (afE (agN hos hds (x:=vu) rfl (afE (agN hos hds (x:= .none) rfl (afJ ?_)))))));show afE (slicePart_none ?_);show afK _ _ (if ((1:Int) ==0)=true then _ else _) _ _ s;rw[z9n {}];show afE (slicePart_ pl (afE (slicePart_ pu (afE (afJ ?_)))));show afK _ _ (match ajP lo hi 1 (n:Int) with |(lo,hi)=>pure (lo,(1:Int),aiU lo hi 1)) _ _ s;rw[adjust_gen lo hi n];show afK _ _ (pure (((sIx n 0 lo:Nat):Int),(1:Int),aiU ((sIx n 0 lo:Nat):Int) ((sIx n n hi:Nat):Int) 1)) _ _ s;rw[places_gen];show afJ h
theorem pick_gen(xs:Array afF)(i k:Nat):((afI k).filterMap λ(m:Nat)=>xs[((i:Int)+(m:Int)*1).toNat]?).toArray=((xs.toList.drop i).take k).toArray:=by
 have e:(λ(m:Nat)=>xs[((i:Int)+(m:Int)*1).toNat]?)=λm=>xs[i+m]?:=by
  funext m;have:((i:Int)+(m:Int)*1).toNat=i+m:=()
  rw[this]
 rw[e];have:=pick_run xs i k;rw[List.filterMap_map] at this;have e2:((λx=>xs[x]?) ∘ λx=>i+x)=λm=>xs[i+m]?:=rfl;rw[e2] at this;rw[this]
theorem getItem_tuple_cut{t sl:afG}{items:Array afF}{vl vu:afF}{lo hi:Option Int}(ht:IsTup s.heap t items)(hs:s.heap.IsSliceOf sl vl vu .none)(pl:aku vl lo)(pu:aku vu hi)
  (hw:¬(sIx items.size 0 lo=0/\sIx items.size items.size hi=items.size))
  (h:Q (.ref s.heap.objs.size) {s with heap:=s.heap.push {cls:= .type "tuple",data:= .seq ((items.toList.drop (sIx items.size 0 lo)).take (sIx items.size items.size hi - sIx items.size 0 lo)).toArray}})
  (hsz:items.size<=sizeLine):afK (model prog w) A (getItem (.ref t) (.ref sl)) Q E s:=by
 have htake:sizeOk (.seq ((items.toList.drop (sIx items.size 0 lo)).take (sIx items.size items.size hi - sIx items.size 0 lo)).toArray):=by
  show ((items.toList.drop (sIx items.size 0 lo)).take (sIx items.size items.size hi - sIx items.size 0 lo)).toArray.size<=sizeLine;rw[z1c,agg,aho,agq];omega
 have hj:sIx items.size items.size hi<=items.size:=sIx_le _ _ (z0g _) hi;let⟨os,hos,hcs,hds⟩:=id hs;have hTs:s.TypeIs (.ref sl) "slice" :=⟨os,hos,hcs⟩;unfold getItem
 try with_reducible show ahc ?_
 first |show afE (afJ ?_) |skip
 show afE (wpAny_sequenceKey ht.typeIs {} ?_);show afE (agz (name:=ahS "__getitem__") ht.typeIs aha
  (ags aha ht.typeIs entry_tuple_getitem ?_ (args_tuple_getitem _ _)))
 show afK _ _ (ajJ (.ref t) >>=_) _ _ s;show afE (tupleItemsOf_ ht ?_);show afE (aju hTs ?_);rw[z9p {}];show afE (sliceApplied_gen hs pl pu ?_);have hno:¬((((sIx items.size 0 lo:Nat):Int) ==0 && (1:Int) ==1 && (sIx items.size items.size hi - sIx items.size 0 lo) ==items.size)=true):=by
  intro q;rw[ag6,ag6] at q;have q1:((sIx items.size 0 lo:Nat):Int)=0:=eq_of_beq q.1.1;have q2:sIx items.size items.size hi - sIx items.size 0 lo=items.size:=eq_of_beq q.2;show hw ⟨(),()⟩
 show afK _ _ (if (((sIx items.size 0 lo:Nat):Int) ==0 && (1:Int) ==1 && (sIx items.size items.size hi - sIx items.size 0 lo) ==items.size)=true then _ else _) _ _ s;rw[z9n hno,pick_gen]
 first
  |show afE (m:=ai1 _) (agB (afJ ⟨_,rfl,afJ h⟩) htake)
  |show afE (m:=ai1 _) (agB (afE (afJ (afJ ⟨_,rfl,afJ h⟩))) htake)
  |show afE (afE (m:=ai1 _) (agB (afJ (afJ ⟨_,rfl,afJ h⟩)) htake))
  |show afE (afE (m:=ai1 _) (agB (afJ ⟨_,rfl,afJ h⟩) htake))
end HT
namespace L2
open PySem PySem.Spec PyProof.Rows
abbrev TO:=St->Hp->(Option Int->Hp->Prop)->Prop
def PO(X:Cx)(e:Option afV)(t:TO):Prop:=
 ∀(pins:List (afG×Obj)) (s:afH) (σ:St) (H:Hp) (Q:Option Int->Hp->Prop),Inv X pins σ H s->t σ H Q->
  afK (model X.prog X.w) X.A (evalPart e X.env) (λu s'=>∃o H',Inv X pins σ H' s'/\aku u o/\Q o H') X.xe s
def tNoPart:TO:=λ_ H Q=>Q none H
def tPart(t:TE):TO:=λσ H Q=>t σ H λx H1=>∃i,x= .int i/\Q (some i) H1
theorem intsAre_of:∀{us:List afF},Vals (ns.map V.int) us->ahJ us ns:=by
 induction ns with
 |nil=>intro us r;rw[ajv] at r;cases r;show .nil
 | cons n ns ih=>
  intro us r;rw[z1h] at r;cases r with
  | cons r1 r2=>
   let⟨t,e⟩:=r1;subst e;show .cons n t (ih r2)
section
variable{te:TE}{lo hi:Option afV}{tl th:TO}{pos p2:Pos}
theorem po_none:PO X none tNoPart:=by
 intro pins s σ H Q I h;rw[evalPart_none];show afJ ⟨none,H,I,.none,h⟩
theorem po_some(h:PE X e te):PO X (some e) (tPart te):=by
 intro pins s σ H Q I hw;rw[evalPart_some];show thn (h pins s σ H _ I hw) λu s1 bQ=>?_;let⟨x,H1,I1,r1,q1⟩:=bQ;let⟨i,rfl,q⟩:=q1;let⟨t,rfl⟩:=r1;show⟨some i,H1,I1,.int i t,q⟩
def SlR(X:Cx)(r:V->Option Int->Option Int->Hp->VK->Prop):Prop:=
 ∀(pins:List (afG×Obj)) (s:afH) (σ:St) (H:Hp) (x:V) (v vl vu:afF) (lo hi:Option Int) (sl:afG) (Q:VK),Inv X pins σ H s->RelV x v->s.heap.IsSliceOf sl vl vu .none->aku vl lo->aku vu hi->r x lo hi H Q->
  ∃T id,typeLookup (.type T) "__getitem__" =pure (some (.builtin id))/\s.TypeIs v T/\afK (model X.prog X.w) X.A (getItem v (.ref sl)) (EP X pins σ Q) X.xe s
theorem SlR.or{r r':V->Option Int->Option Int->Hp->VK->Prop}(h:SlR X r)(h':SlR X r'):SlR X (λx lo hi H Q=>r x lo hi H Q\/r' x lo hi H Q):=by
 intro pins s σ H x v vl vu lo hi sl Q I rx hs pl pu q;rcases q with q |q
 .show h pins s σ H x v vl vu lo hi sl Q I rx hs pl pu q
 .show h' pins s σ H x v vl vu lo hi sl Q I rx hs pl pu q
def tSl(r:V->Option Int->Option Int->Hp->VK->Prop)(te:TE)(tl th:TO):TE:=λσ H Q=>te σ H λx H1=>tl σ H1 λl H2=>th σ H2 λu H3=>r x l u H3 Q
theorem pe_slice{r:V->Option Int->Option Int->Hp->VK->Prop}(hr:SlR X r)(he:PE X e te)(hl:PO X lo tl)(hu:PO X hi th):PE X (.Subscript e (.Slice lo hi none p2) pos) (tSl r te tl th):=by
 intro pins s σ H Q I h;show Subscript_ (thn (he pins s σ H _ I h) λv s1 bQ=>?_);let⟨x,H1,I1,r1,q1⟩:=bQ;show wpAny_Slice (thn (hl pins s1 σ H1 _ I1 q1) λvl s2 ⟨l,H2,I2,pl,q2⟩=>thn (hu pins s2 σ H2 _ I2 q2) λvu s3 bQ=>?_);let⟨u,H3,I3,pu,q3⟩:=bQ;rw[evalPart_none];show afJ ?_;have I4:Inv X pins σ H3 {s3 with heap:=s3.heap.push {cls:= .type "slice",data:= .fields #[vl,vu,.none]}}:=I3.kept (t':=s3.toks) λb ob q=>z1a _ q;let⟨T,id,hT,ht,hg⟩:=hr pins {s3 with heap:=s3.heap.push {cls:= .type "slice",data:= .fields #[vl,vu,.none]}} σ H3 x v vl vu l u s3.heap.objs.size Q I4 r1 (al2 ..) pl pu q3;show afK (model X.prog X.w) X.A (subscriptTail e (.Slice lo hi none p2) v (.ref s3.heap.objs.size)) (EP X pins σ Q) X.xe {s3 with heap:=s3.heap.push {cls:= .type "slice",data:= .fields #[vl,vu,.none]}};show tail_any (ops:=[.ref s3.heap.objs.size,v]) ht hT hg (by with_unfolding_all rfl)
def cutV(xs:List V)(lo hi:Option Int):List V:=(xs.drop (HT.sIx xs.length 0 lo)).take (HT.sIx xs.length xs.length hi - HT.sIx xs.length 0 lo)
theorem cutV_length(xs:List V)(lo hi:Option Int):(cutV xs lo hi).length<=xs.length:=by
 unfold cutV;rw[agg,aho];omega
def rSlT(K:w0a):V->Option Int->Option Int->Hp->VK->Prop:=λx lo hi H Q=>∃a xs,x= .ref a/\SqT K H a xs/\
 ¬(HT.sIx xs.length 0 lo=0/\HT.sIx xs.length xs.length hi=xs.length)/\∀p,H p=none->Q (.ref p) (upd H p (.tup (cutV xs lo hi)))
theorem sl_tup:SlR X (rSlT X.K):=by
 intro pins s σ H x v vl vu lo hi sl Q I rx hs pl pu h;let⟨a,xs,rfl,hx,hw,q⟩:=h;cases rx;let⟨its,r,ht,hz⟩:=I.tuple hx;have hlen:its.toArray.size=xs.length:=by rw[z1c];show r.length.symm
 show⟨"tuple",_,aha.lookup,ht.typeIs,?_⟩;show HT.getItem_tuple_cut ht hs pl pu (by rw[hlen];show hw) ?_ (by rw[hlen];show hz);rw[hlen];show⟨.ref s.heap.objs.size,_,I.laid (t':=s.toks) (o:= .tup (cutV xs lo hi)) (λb ob q=>z1a _ q) (z0g _) ?_,rfl,q _ (I.hok.fresh (z0g _))⟩;show⟨z0b (cutV_length xs lo hi) hz,_,(r.drop (HT.sIx xs.length 0 lo)).take (HT.sIx xs.length xs.length hi - HT.sIx xs.length 0 lo),yO.new _ _⟩
def rCatT(K:w0a):R2:=λx y H Q=>∃a b xs ys,x= .ref a/\y= .ref b/\SqT K H a xs/\SqT K H b ys/\xs≠[]/\xs.length+ys.length<=sizeLine/\
 (ys=[]->Q (.ref a) H)/\(ys≠[]->∀p,H p=none->Q (.ref p) (upd H p (.tup (xs++ys))))
theorem Vals.nil_iff(r:Vals xs us):us=[]↔xs=[]:=by
 cases r with
 |nil=>simp
 |cons _ _=>simp
theorem op_catT:OpR X (ahv .Add) (rCatT X.K):=by
 intro pins s σ H x y v u Q I rx ry h;let⟨a,b,xs,ys,rfl,rfl,ha,hb,hx,hz,q1,q2⟩:=h;cases rx;cases ry;let⟨its,r1,p1,_⟩:=I.tuple ha;let⟨its2,r2,p2,_⟩:=I.tuple hb;show HT.cat_tup p1 p2 (λz=>hx (r1.nil_iff.mp z)) (λz=>⟨.ref a,H,I,rfl,q1 (r2.nil_iff.mp z)⟩) (λz=>?_) (by rw[<-r1.length,<-r2.length];show hz);show⟨.ref s.heap.objs.size,_,I.laid (t':=s.toks) (o:= .tup (xs++ys)) (λb ob q=>z1a _ q) (z0g _) ?_,rfl,q2 (λw=>z (r2.nil_iff.mpr w)) _ (I.hok.fresh (z0g _))⟩;show⟨by rw[z1d];show hz,_,r1.append r2,yO.new _ _⟩
end
def ixN(n:Nat)(i:Int):Option Nat:=if 0<=i then (if i<n then some i.toNat else none) else if -(n:Int)<=i then some (i+n).toNat else none
def atI(xs:List α)(i:Int):Option α:=(ixN xs.length i).bind λj=>xs[j]?
theorem ixN_seq{i:Int}(h:ixN n i=some j):seqIndex? i n=some j/\j<n/\-(n:Int)<=i/\i<n:=by
 unfold ixN at h;by_cases h0:0<=i
 .rw[z9p h0] at h;by_cases h1:i<n
  .rw[z9p h1] at h;have e:i.toNat=j:=agb h;show⟨by rw[seqIndex_of h0 h1,e],(),(),h1⟩
  .rw[z9n h1] at h;cases h
 .rw[z9n h0] at h;by_cases h1: -(n:Int)<=i
  .rw[z9p h1] at h;have e:(i+n).toNat=j:=agb h;show⟨by rw[seqIndex_neg () h1,e],(),h1,()⟩
  .rw[z9n h1] at h;cases h
theorem atI_get{xs:List α}{i:Int}{v:α}(h:atI xs i=some v):∃j,seqIndex? i xs.length=some j/\xs[j]?=some v/\j<xs.length/\-(xs.length:Int)<=i/\i<xs.length:=by
 unfold atI at h;cases e:ixN xs.length i with
 |none=>rw[e] at h;cases h
 | some j=>
  rw[e] at h;let⟨h1,h2,h3,h4⟩:=ixN_seq e;show⟨j,h1,h,h2,h3,h4⟩
def PlainIx(b:afV):Prop:=∀o i,subscripted b false o i=operate [o,i] (getItem o i)
def IxR(X:Cx)(r:R2):Prop:=
 ∀(value slice:afV) (pins:List (afG×Obj)) (s:afH) (σ:St) (H:Hp) (x y:V) (v u:afF) (Q:VK),Inv X pins σ H s->RelV x v->RelV y u->r x y H Q->
  subscripted slice false v u=operate [v,u] (getItem v u)->afK (model X.prog X.w) X.A (subscriptTail value slice v u) (EP X pins σ Q) X.xe s
def MtR(X:Cx)(id:String)(r:V->List V->Hp->VK->Prop):Prop:=
 ∀(pins:List (afG×Obj)) (s:afH) (σ:St) (H:Hp) (x:V) (xs:List V) (v:afF) (us:List afF) (Q:VK),Inv X pins σ H s->RelV x v->Vals xs us->r x xs H Q->
  afK (model X.prog X.w) X.A (call (.builtin id) (v::us)) (EP X pins σ Q) X.xe s
section
variable{a b:afV}{ta tb:TE}
theorem IxR.or{r r':R2}(h:IxR X r)(h':IxR X r'):IxR X (λx y H Q=>r x y H Q\/r' x y H Q):=by
 intro value slice pins s σ H x y v u Q I rx ry q hs;rcases q with q |q
 .show h value slice pins s σ H x y v u Q I rx ry q hs
 .show h' value slice pins s σ H x y v u Q I rx ry q hs
theorem pe_ix{r:R2}(hr:IxR X r)(ha:PE X a ta)(hb:PE X b tb)(hs:PlainIx b):PE X (.Subscript a b pos) (tOp r ta tb):=by
 intro pins s σ H Q I h;show Subscript_ (binT ha hb I h λv u s2 x y H2 I2 rx ry q=>hr a b pins s2 σ H2 x y v u Q I2 rx ry q (hs _ _))
def rIxL(K:w0a):R2:=λx y H Q=>∃p xs i v,x= .ref p/\y= .int i/\SqL K H p xs/\atI xs i=some v/\Q v H
def rIxT(K:w0a):R2:=λx y H Q=>∃p xs i v,x= .ref p/\y= .int i/\SqT K H p xs/\atI xs i=some v/\Q v H
def rIxS:R2:=λx y H Q=>∃z i c,x= .str z/\y= .int i/\z.length<=sizeLine/\atI z.cps.toList i=some c/\Q (.str ⟨#[c]⟩) H
theorem ix_list:IxR X (rIxL X.K):=by
 intro value slice pins s σ H x y v u Q I rx ry h hs;let⟨p,xs,i,z,rfl,rfl,hq,he,q⟩:=h;cases rx;let⟨t,rfl⟩:=ry;let⟨its,r,pl,hz⟩:=I.list hq;let⟨j,h1,h2,h3,h4,h5⟩:=atI_get he;let⟨w,ew,rw'⟩:=r.get h2;have hl:=r.length;have hn:=line63;have fin:EP X pins σ Q w s:=⟨z,H,I,rw',q⟩;by_cases h0:0<=i
 .have hj:i.toNat=j:=by
   rw[seqIndex_of h0 h5] at h1;show agb h1
  show item_listR pl.isList h0 () (by rw[hj];simpa using ew) fin hs
 .have hj:(i+(its.toArray.size:Int)).toNat=j:=by
   rw[seqIndex_neg () h4] at h1;rw[z1c,<-hl];show agb h1
  show subscriptTail_builtinR (x:=w) pl.isList.typeIs slot_list_getitem.lookup
   (wpAny_getItem_list_neg (Q:=λr s'=>r=w/\EP X pins σ Q r s') pl.isList () (by rw[z1c] <;> omega) () (by rw[hj];simpa using ew) ⟨rfl,fin⟩) hs
theorem ix_tup:IxR X (rIxT X.K):=by
 intro value slice pins s σ H x y v u Q I rx ry h hs;let⟨p,xs,i,z,rfl,rfl,hq,he,q⟩:=h;cases rx;let⟨t,rfl⟩:=ry;let⟨its,r,pl,hz⟩:=I.tuple hq;let⟨j,h1,h2,h3,h4,h5⟩:=atI_get he;let⟨w,ew,rw'⟩:=r.get h2;have hl:=r.length;have hn:=line63;have fin:EP X pins σ Q w s:=⟨z,H,I,rw',q⟩;show subscriptTail_builtinR (x:=w) pl.typeIs slot_tuple_getitem.lookup
  (getItem_tuple (j:=j) (Q:=λr s'=>r=w/\EP X pins σ Q r s') pl () () (by rw[z1c,<-hl];show h1) (by simpa using ew) ⟨rfl,fin⟩) hs
theorem ix_str:IxR X rIxS:=by
 intro value slice pins s σ H x y v u Q I rx ry h hs;let⟨z,i,c,rfl,rfl,hz,he,q⟩:=h;let⟨t,rfl⟩:=rx;let⟨t',rfl⟩:=ry;let⟨j,h1,h2,h3,h4,h5⟩:=atI_get he;have hl:z.cps.toList.length=z.length:=by simp[Str.length]
 rw[hl] at h1 h4 h5;have hn:=line63;show tail_any (typeIs_str s z t) slot_str_getitem.lookup (getItem_str (c:=c) (by
  have e1:decide (i < -(2^63:Int))=false:=z9f ();have e2:decide (i>=2^63)=false:=z9f ();rw[e1,e2,Bool.or_false]) (by rw[h1];simpa using h2) ⟨.str ⟨#[c]⟩,H,I.tok _,⟨_,rfl⟩,q⟩) hs
def rIx(K:w0a):R2:=λx y H Q=>rIxL K x y H Q\/rIxT K x y H Q\/rIxS x y H Q
theorem ix_seq:IxR X (rIx X.K):=ix_list.or (ix_tup.or ix_str)
theorem Inv.lst{p:afG}(I:Inv X pins σ H s)(h:H p=some (.lst xs)):
  ∃(its:List afF) (n:Nat),Vals xs its/\s.heap.get? p=some {cls:= .type "list",data:= .seq its.toArray n}/\xs.length<=sizeLine:=by
 let⟨z,its,n,r,e⟩:=I.hok p _ h;show⟨its,n,r,e,z⟩
theorem slice_bounds(lo hi:Option Int)(n:Nat):(ajM lo hi none n).1=((HT.sIx n 0 lo:Nat):Int)/\(ajM lo hi none n).2.1=((HT.sIx n n hi:Nat):Int)/\(ajM lo hi none n).2.2=1:=by
 show⟨?_,?_,rfl⟩
 .cases lo with
  |none=>simp[ajM,HT.sIx]
  | some i=>
   simp only[ajM,HT.sIx,Option.getD_none,show (1:Int) > 0 by decide,if_true];by_cases h:i<0
   .simp only[h,if_true];show HT.adl n h
   .simp only[h,if_false];let⟨k,rfl⟩:=agy (Int.not_lt.mp h);show HT.adn k n
 .cases hi with
  |none=>simp[ajM,HT.sIx]
  | some i=>
   simp only[ajM,HT.sIx,Option.getD_none,show (1:Int) > 0 by decide,if_true];by_cases h:i<0
   .simp only[h,if_true];show HT.adl n h
   .simp only[h,if_false];let⟨k,rfl⟩:=agy (Int.not_lt.mp h);show HT.adn k n
theorem slicePick_cut(its:List afF)(lo hi:Option Int):slicePick its.toArray lo hi none=((its.drop (HT.sIx its.length 0 lo)).take (HT.sIx its.length its.length hi - HT.sIx its.length 0 lo)).toArray:=by
 let⟨h1,h2,h3⟩:=slice_bounds lo hi its.toArray.size;unfold slicePick;rw[h1,h2,h3];simp only[sliceRange_one,pick_run,z1c] <;> rfl
def rSlL(K:w0a):V->Option Int->Option Int->Hp->VK->Prop:=λx lo hi H Q=>∃a xs,x= .ref a/\SqL K H a xs/\∀p,H p=none->Q (.ref p) (upd H p (.lst (cutV xs lo hi)))
theorem sl_list:SlR X (rSlL X.K):=by
 intro pins s σ H x v vl vu lo hi sl Q I rx hs pl pu h;let⟨a,xs,rfl,hx,q⟩:=h;cases rx;let⟨its,r,ht,hz⟩:=I.list hx;have hlen:=r.length;show⟨"list",_,slot_list_getitem.lookup,ht.isList.typeIs,?_⟩;show wpAny_getItem_list_slice ht.isList hs pl pu .none () ?_ (by rw[z1c] <;> omega);rw[slicePick_cut,<-hlen];show⟨.ref s.heap.objs.size,_,I.laid (t':=s.toks) (o:= .lst (cutV xs lo hi)) (λb ob q=>z1a _ q) (z0g _) ?_,rfl,q _ (I.hok.fresh (z0g _))⟩;show⟨z0b (cutV_length xs lo hi) hz,_,0,(r.drop (HT.sIx xs.length 0 lo)).take (HT.sIx xs.length xs.length hi - HT.sIx xs.length 0 lo),z1f _ rfl⟩
def flatV:V->Bool
 | .non=>true
 | .bl _=>true
 | .int _=>true
 | .str _=>true
 |_=>false
def eqV:V->V->Bool
 | .non,.non=>true
 | .bl a,.bl b=>a ==b
 | .bl a,.int b=>(if a then 1 else 0) ==b
 | .int a,.bl b=>a ==(if b then 1 else 0)
 | .int a,.int b=>a ==b
 | .str a,.str b=>a ==b
 |_,_=>false
theorem eqAt_V{y x:V}{u v:afF}(ry:RelV y u)(rx:RelV x v)(fy:flatV y=true)(fx:flatV x=true):SeqAt.EqAt A s u v (eqV y x):=by
 cases y with
 | non=>
  cases ry;cases x with
  |non=>cases rx;show SeqAt.EqAt.same _
  |bl b=>cases rx;show SeqAt.EqAt.none_bool b
  |int b=>let⟨t,rfl⟩:=rx;show SeqAt.EqAt.none_int b t
  |str b=>let⟨t,rfl⟩:=rx;show SeqAt.EqAt.none_str b t
  |_=>show absurd (show false=true from fx) agf
 | bl a=>
  cases ry;cases x with
  |non=>cases rx;show SeqAt.EqAt.bool_none a
  |bl b=>cases rx;show SeqAt.EqAt.bool_bool a b
  |int b=>let⟨t,rfl⟩:=rx;show SeqAt.EqAt.bool_int a b t
  |str b=>let⟨t,rfl⟩:=rx;show SeqAt.EqAt.bool_str a b t
  |_=>show absurd (show false=true from fx) agf
 | int a=>
  let⟨t',rfl⟩:=ry;cases x with
  |non=>cases rx;show SeqAt.EqAt.int_none a t'
  |bl b=>cases rx;show SeqAt.EqAt.int_bool a t' b
  |int b=>let⟨t,rfl⟩:=rx;show ajX a t' b t
  |str b=>let⟨t,rfl⟩:=rx;show al0 a t' b t
  |_=>show absurd (show false=true from fx) agf
 | str a=>
  let⟨t',rfl⟩:=ry;cases x with
  |non=>cases rx;show SeqAt.EqAt.str_none a t'
  |bl b=>cases rx;show SeqAt.EqAt.str_bool a t' b
  |int b=>let⟨t,rfl⟩:=rx;show al1 a t' b t
  |str b=>let⟨t,rfl⟩:=rx;show SeqAt.EqAt.str_str a t' b t
  |_=>show absurd (show false=true from fx) agf
 |_=>show absurd (show false=true from fy) agf
def eqU(x:V)(u:afF):Bool:=match u with
 | .none=>eqV .non x
 | .bool b=>eqV (.bl b) x
 | .int i _=>eqV (.int i) x
 | .str z _=>eqV (.str z) x
 |_=>false
theorem eqU_of{x y:V}(r:RelV y u)(f:flatV y=true):eqU x u=eqV y x:=by
 cases y with
 |non=>cases r;rfl
 |bl b=>cases r;rfl
 |int i=>let⟨t,rfl⟩:=r;rfl
 |str z=>let⟨t,rfl⟩:=r;rfl
 |_=>show absurd (show false=true from f) agf
theorem any_eqU{x:V}:∀{xs:List V} {us:List afF},Vals xs us->xs.all flatV=true->us.any (eqU x)=xs.any λy=>eqV y x
 |_,_,.nil,_=>rfl
 | y::xs,u::us,.cons r t,f=>by
  rw[aiP,ag6] at f;rw[ak2,ak2,eqU_of r f.1,any_eqU t f.2]
theorem mem_eqAt{x:V}{v:afF}(rx:RelV x v)(fx:flatV x=true):∀{xs:List V} {us:List afF},Vals xs us->xs.all flatV=true->∀u∈us,SeqAt.EqAt A s u v (eqU x u)
 |_,_,.nil,_=>λu hu=>by cases hu
 | y::xs,u::us,.cons r t,f=>λu' hu=>by
  rw[aiP,ag6] at f;rcases afR.mp hu with rfl |hu
  .rw[eqU_of r f.1];show eqAt_V r rx f.1 fx
  .show mem_eqAt rx fx t f.2 u' hu
def inV(x:V)(xs:List V):Bool:=xs.any λy=>eqV y x
def rIn(K:w0a)(neg:Bool):R2:=λx y H Q=>∃p xs,y= .ref p/\(SqL K H p xs\/SqT K H p xs)/\flatV x=true/\xs.all flatV=true/\Q (.bl (if neg then !inV x xs else inV x xs)) H
theorem op_notIn_seq:OpR X (agr .NotIn) (rIn X.K true):=by
 intro pins s σ H x y v u Q I rx ry h;let⟨p,xs,rfl,hq,fx,fs,q⟩:=h;cases ry;rcases hq with hq |hq
 .let⟨its,r,pl,hz⟩:=I.list hq;show SeqAt.notIn_listAt (eqU x) pl.isList (λw hw=>mem_eqAt rx fx r fs w (by simpa using hw)) ⟨.bl _,H,I,rfl,?_⟩;rw[show its.toArray.any (eqU x)=its.any (eqU x) by simp,any_eqU r fs];show q
 .let⟨its,r,pl,hz⟩:=I.tuple hq;show SeqAt.notIn_tupleAt (eqU x) pl (λw hw=>mem_eqAt rx fx r fs w (by simpa using hw)) ⟨.bl _,H,I,rfl,?_⟩;rw[show its.toArray.any (eqU x)=its.any (eqU x) by simp,any_eqU r fs];show q
theorem call_len_seq:CallR X (.builtin "len") (λxs H Q=>∃p ys,xs=[.ref p]/\(SqL X.K H p ys\/SqT X.K H p ys)/\Q (.int ys.length) H):=by
 intro pins s σ H xs us Q I r h;let⟨p,ys,rfl,hq,q⟩:=h;let⟨u,rfl,rx⟩:=vals1 r;cases rx;have hn:=line63;rcases hq with hq |hq
 .let⟨its,r',pl,hz⟩:=I.list hq;have hlen:=r'.length;show Calls.call_len_list pl.isList (by simp only[z1c] <;> omega) ⟨.int ys.length,H,I.tok _,⟨s.toks+1,by rw[z1c,hlen]⟩,q⟩
 .let⟨its,r',pl,hz⟩:=I.tuple hq;have hlen:=r'.length;show len_tuple pl (by simp only[z1c] <;> omega) ⟨.int ys.length,H,I.tok _,⟨s.toks+1,by rw[z1c,hlen]⟩,q⟩
theorem call_tuple_of:CallR X (.type "tuple") (λxs H Q=>∃p ys,xs=[.ref p]/\((SqL X.K H p ys/\∀l,H l=none->Q (.ref l) (upd H l (.tup ys)))\/(SqT X.K H p ys/\Q (.ref p) H))):=by
 intro pins s σ H xs us Q I r h;let⟨p,ys,rfl,h⟩:=h;let⟨u,rfl,rx⟩:=vals1 r;cases rx;rcases h with⟨hq,q⟩ |⟨hq,q⟩
 .let⟨its,r',pl,hz⟩:=I.list hq;have hlen:=r'.length;show call_tuple_list pl.isList (λh' kp=>?_) (by simp only[z1c] <;> omega);have I1:Inv X pins σ H {s with heap:=h'}:=I.kept (t':=s.toks) kp;have I2:Inv X pins σ (upd H h'.objs.size (.tup ys)) {s with heap:=h'.push {cls:= .type "tuple",data:= .seq its.toArray}}:=
   I1.laid (t':=s.toks) (λb o e=>z1a _ e) (z0g _) (show ObjOk X.prog X.w _ _ _ (.tup ys) from⟨hz,its,r',yO.new _ _⟩)
  show⟨.ref h'.objs.size,_,I2,rfl,q _ (I1.hok.fresh (z0g _))⟩
 .let⟨its,r',pl,hz⟩:=I.tuple hq;show call_tuple_same pl ⟨.ref p,H,I,rfl,q⟩
def tyV(K:w0a)(T:String)(x:V)(H:Hp):Prop:=match x with
 | .str _=>T= "str"
 | .int _=>T= "int"
 | .ref p=>(T= "list"/\∃xs,SqL K H p xs)\/(T= "tuple"/\∃xs,SqT K H p xs)\/
   (T= "dict"/\((∃kvs,H p=some (.dK kvs))\/∃kvs,H p=some (.dT kvs)))\/(T= "set"/\∃S n,H p=some (.set S n))
 |_=>False
theorem tyV_is{T:String}{x:V}{v:afF}(I:Inv X pins σ H s)(r:RelV x v)(ty:tyV X.K T x H):
  s.TypeIs v T/\∀a,v= .ref a->∃ob,s.heap.get? a=some ob/\ob.dict=none:=by
 cases x with
 | str z=>
  let⟨t,rfl⟩:=r;cases (show T= "str" from ty);show⟨typeIs_str s z t,λ_ e=>nomatch e⟩
 | int i=>
  let⟨t,rfl⟩:=r;cases (show T= "int" from ty);show⟨typeIs_int s i t,λ_ e=>nomatch e⟩
 | ref p =>
  cases r;rcases ty with⟨rfl,xs,hq⟩ |⟨rfl,xs,h |⟨o,its,n,hk,hc,hd,_⟩⟩ |⟨rfl,hk⟩ |⟨rfl,S,n,hk⟩
  .let⟨its,_,pl,_⟩:=I.list hq;show⟨pl.isList.typeIs,λa e=>?_⟩;cases e;let⟨o,n,e,c,hd,_⟩:=pl;show⟨o,e,hd⟩
  .let⟨_,its,_,o,e1,c1,d1,_⟩:=h.ok I.hok;show⟨⟨o,e1,c1⟩,λa e=>?_⟩;cases e;show⟨o,e1,d1⟩
  .show⟨⟨o,I.kIn p o hk,hc⟩,λa e=>?_⟩;cases e;show⟨o,I.kIn _ o hk,hd⟩
  .have z:∃o,s.heap.get? p=some o/\o.ExactDict:=by
    rcases hk with⟨kvs,hk⟩ |⟨kvs,hk⟩
    .let⟨_,_,_,_,o,_,_,e,ex,_⟩:=I.hok p _ hk;show⟨o,e,ex⟩
    .let⟨_,_,_,_,o,_,_,e,ex,_⟩:=I.hok p _ hk;show⟨o,e,ex⟩
   let⟨o,e,ex⟩:=z;show⟨⟨o,e,ex.1⟩,λa e2=>?_⟩;cases e2;show⟨o,e,ex.2.1⟩
  .let⟨o,_,_,_,e,ex,_⟩:=I.hok p _ hk;show⟨⟨o,e,ex.1⟩,λa e2=>?_⟩;cases e2;show⟨o,e,ex.2.1⟩
 |_=>show agH ty
def tBM(K:w0a)(T:String)(r:V->List V->Hp->VK->Prop)(to:TE)(t:TA):TE:=λσ H Q=>to σ H λx H1=>tyV K T x H1/\t σ H1 λxs H2=>r x xs H2 Q
variable{o e:afV}{to:TE}{t:TA}{name:Str}{apos cpos:Pos}{T id:String}{r:V->List V->Hp->VK->Prop}
theorem pe_bm(pa:PlainAttrs T)(slot:Slot T name id)(hty:typeOf (.builtin id)=pure (.type "method_descriptor"))(hm:MtR X id r)(ho:PE X o to)(ha:PA X (e::es) t)
  (hbase:attributeBase o name X.env (eval o X.env)=eval o X.env:=by rfl)
  (hfew:((agS cpos (afL (e::es) X.env)).all (λx=> !x.1) && (aiw cpos (ahI [] X.env)).all (λx=>x.1.isSome)
   && decide ((e::es).length+([]:List ajb).length+(if ([]:List ajb).isEmpty then 0 else 1)<30))=true:=by rfl)
  (hline:(apos.endLine ==cpos.line)=true:=by rfl) (hs:afL (e::es) X.env=(false,eval e X.env)::afL es X.env:=by rfl) (hplain:(agS cpos (afL es X.env)).any (·.1)=false:=by rfl):
  PE X (.Call (.Attribute o name apos) (e::es) [] cpos) (tBM X.K T r to t):=by
 intro pins s σ H Q I h;show wpAny_Call_method_late hbase hfew hline rfl (thn (ho pins s σ H _ I h) λv s1 bQ=>?_);let⟨x,H1,I1,r1,ty,q1⟩:=bQ;let⟨h1,h2⟩:=tyV_is I1 r1 ty;show⟨T,id,pa,slot,hty,h1,h2,?_⟩;have hA:=ha cpos pins s1 σ H1 _ I1 q1;rw[hs] at hA |-;show Calls.callWith_builtin (by show (false || (agS cpos (afL es X.env)).any (·.1))=false;rw[hplain] <;> rfl) (Calls.evalArgs_plain ?_);show thn hA λus s2 bQ=>?_;let⟨vs,H2,I2,r2,q2⟩:=bQ;show hm pins s2 σ H2 x vs v us Q I2 r1 r2 q2
end
def MtM(X:Cx)(id:String)(r:V->List V->Hp->VK->Prop):Prop:=
 ∀(pins:List (afG×Obj)) (s:afH) (σ:St) (H:Hp) (x:V) (xs:List V) (v:afF) (us:List afF) (Q:VK),Inv X pins σ H s->RelV x v->Vals xs us->r x xs H Q->
  afK (model X.prog X.w) X.A (call (.builtin id) (v::us)) (EP X pins σ Q) X.xe s
theorem Vals.one:∀{x:V} {us:List afF},Vals [x] us->∃u,us=[u]/\RelV x u
 | _,_,h=>by
  cases h with
  |cons r t=>cases t;show⟨_,rfl,r⟩
theorem Vals.rep(h:Vals xs us):∀k:Nat,Vals (afU k xs).flatten (afU k us).flatten
 |0=> .nil
 | k+1=>by
  rw[ah8,ah8,ag9,ag9];show Vals.append h (Vals.rep h k)
theorem foldl_rep(its:List afF):∀(k:Nat) (acc:List afF),
  alg (λx1 x2=>x1++x2) acc.toArray (afU k its.toArray)=(acc++(afU k its).flatten).toArray
 |0,acc=>()
 | k +1,acc=>by
  have e:acc.toArray++its.toArray=(acc++its).toArray:=()
  have e2:(acc++its)++(afU k its).flatten=acc++(afU (k+1) its).flatten:=by
   rw[ah8,ag9,afM]
  rw[<-e2,<-foldl_rep its k (acc++its),<-e,ah8,akv]
section
variable{l b:afG}{xs ys zs:List V}
theorem Inv.lset{its its':List afF}{f:Array afF->Array afF}{t':Nat}(I:Inv X pins σ H s)(hH:H l=some (.lst xs))
  (e:s.heap.get? l=some {cls:= .type "list",data:= .seq its.toArray n})(hf:f its.toArray=its'.toArray)(hv:Vals ys its')(hz:ys.length<=sizeLine):
  Inv X pins σ (upd H l (.lst ys)) {s with heap:=s.heap.update l (ahh f),toks:=t'}:=by
 have q:=PySem.IsL.update e f;rw[hf] at q;show I.write (x:=l) (e:=l) (by rw[hH];show trivial) (.inl rfl) (λb' u hb hu=>(akd s.heap (ahh f) (agc hb)).trans hu) ⟨_,q⟩ ?_;show⟨hz,its',_,hv,q⟩
theorem Inv.lnew{its:List afF}{t':Nat}(I:Inv X pins σ H s)(hv:Vals ys its)(hz:ys.length<=sizeLine):
  Inv X pins σ (upd H s.heap.objs.size (.lst ys)) {s with heap:=s.heap.push {cls:= .type "list",data:= .seq its.toArray},toks:=t'}:=
 I.laid (λ_ _ q=>z1a _ q) (z0g _) ⟨hz,its,0,hv,z1f _ rfl⟩
theorem Inv.fresh(I:Inv X pins σ H s):H s.heap.objs.size=none:=I.hok.fresh (z0g _)
theorem Inv.lstM(I:Inv X pins σ H s)(hH:H l=some (.lst xs)):xs.length<=sizeLine/\∃(its:List afF) (n:Nat),Vals xs its/\xs.length=its.length/\s.heap.get? l=some {cls:= .type "list",data:= .seq its.toArray n}:=by
 let⟨z,its,n,r,e⟩:=I.hok l _ hH;show⟨z,its,n,r,r.length,e⟩
end
def rAppend:V->List V->Hp->VK->Prop:=λx vs H Q=>∃l xs y,x= .ref l/\vs=[y]/\H l=some (.lst xs)/\xs.length<sizeLine/\Q .non (upd H l (.lst (xs++[y])))
theorem mt_append:MtM X "list.append" rAppend:=by
 intro pins s σ H x vs v us Q I rx rv h;let⟨l,xs,y,rfl,rfl,hH,hz,q⟩:=h;cases rx;let⟨u,rfl,ru⟩:=rv.one;let⟨z,its,n,r,hl,e⟩:=I.lstM hH;show akx F.slot_list_append ⟨_,e,rfl⟩ F.entry_list_append (F.args_list_append_2 _ _) (PySem.list_append l its.toArray n u (by rw[z1c];omega)) ⟨e,?_⟩;show⟨.non,_,I.lset (its':=its++[u]) hH e () (r.append (.cons ru .nil)) ?_,rfl,q⟩;rw[z1d,ajw];omega
theorem len_rep(xs:List α)(k:Nat):(afU k xs).flatten.length=k*xs.length:=by
 induction k with
 |zero=>simp
 |succ k ih=>rw[ah8,ag9,z1d,ih,Nat.succ_mul,Nat.add_comm]
section
variable{κ:Type}[DecidableEq κ]
end
section
variable{y v:V}{u r:afF}{o:Option V}
end
section
variable{kvs:List (Key×V)}{k:Key}
end
section
variable{o i e value:afV}{pos pos' tpos:Pos}{td ty tv:TE}
end
section
variable{y d:V}{u r:afF}{o:Option V}
end
section
variable{o e f:afV}{apos cpos:Pos}{td ty tx:TE}
end
section
variable{kvs:List (Key×V)}
end
section
variable{y:V}
end
end L2
namespace Att
open PySem PySem.W PySem.Calls PyProof.Rows
theorem ints_of_wellAll{P:Params}:∀(ns:List Int) (vs:List afF),WellAll P h vs (ns.map WData.int)->ahJ vs ns:=by
 intro ns
 induction ns with
 | nil=>
  intro vs w;rw[ajv] at w;cases w;show .nil
 | cons n ns ih=>
  intro vs w;rw[z1h] at w;cases w with
  | cons a b=>
   cases a;show .cons _ _ (ih _ b)
theorem script_of{l:OpenLaw}(hn:l.most=some n){P:Params}{args:List WData}{vals:List afF}
  (hpre:l.row.toRowW.claim.pre args=true)(hwl:WellAll P h vals args):
  ∃a vs ns,vals=[afS a]/\args=[WData.list (ns.map WData.int)]/\h.get? a=some {cls:= .type "list",data:= .seq vs.toArray}/\ahJ vs ns/\ns.length<=n:=by
 have hsh:WShape.hasAll [] args [.list .int]=true:=(pre_splitW hpre).1;have hc:l.pre.holds [] {args:=args}=true:=(pre_splitW hpre).2;let⟨d,r,rfl,h1,h2⟩:=hasAllW_cons hsh;obtain rfl:=hasAllW_nil h2;let⟨xs,rfl,h3⟩:=hasW_list h1;let⟨ns,rfl⟩:=items_int h3;have hlen:ns.length<=n:=by
  unfold OpenLaw.pre at hc;have h4:(WTm.not (.lt (.lit (.int (n:Int))) (.len (.arg 0)))).holds [] {args:=[.list (ns.map .int)]}=true:=by
   have h4:=(holds_andW hc).1;rw[hn] at h4;show h4
  have h5:=condW_of h4 (w_not (w_lt w_lit (w_len_list (w_arg rfl))));rw[z1g] at h5;show als λq=>?_;have q':(n:Int)<((ns.length:Nat):Int):=()
  first
   |(rw[z9t q'] at h5;show absurd h5 {})
   |(simp at h5;omega)
 cases hwl with
 | cons w1 w2=>
  cases w2;cases w1 with
  |list ho hall=>show⟨_,_,ns,rfl,rfl,ho,ints_of_wellAll ns _ hall,hlen⟩
theorem post_true(l:OpenLaw)(args:List WData):l.row.toRowW.claim.post args (.bool true) args=true:=
 postW_of (r:=l.row.toRowW) (X:=(true ==true))
  (show WShape.has [] (.bool true) .bool=true by first |rfl |decide |simp[WShape.has,WShape.arms,WShape.armsAll])
  (show (WTm.eq .res (.lit (.bool true))).value [] {args:=args,res:=some (.bool true),after:=args}=some (.bool (true ==true)) from w_eq_bool (w_res rfl) w_lit) rfl
theorem attach_call{l:OpenLaw}{q:afQ}{loose:List Str}{XP:(Str->Option afF)->af8->Prop}{YP:af2->af8->Prop}{d:DefRec}
  (hn:l.most=some n)(hdf:d.params.defaults=[])
  (call:∀(w:af2) (s₀ s₁:afH) (mg mb:Str->Option afF) (fa:afG) (o:Obj) (pm cd doc:afF) (a:afG) (vs:List afF) (ns:List Int),
   Ground q loose [] XP w s₀ mg mb s₁.heap->YP w s₁.heap->
   s₁.heap.get? fa=some o->o.data= .func (docDef d.name d.params d.body d.scope pm cd doc)->s₁.heap.CodeRec cd d.name->mg d.name=some (.ref fa)->
   s₁.heap.get? a=some {cls:= .type "list",data:= .seq vs.toArray}->ahJ vs ns->ns.length<=n->s₁.gens= #[]->
   ajL (model l.prog w) callerA (.call (.ref fa) ⟨[.ref a],[]⟩) (λr s'=>r= .ok (.ret (.bool true))/\OldK s₁.heap s'.heap/\s'.os=s₁.os/\aj3 s'.gens) s₁):
  WalkO q loose XP YP l.row.toRowW d [] (λf vs=>PySem.call f vs):=by
 intro w s₀ s₁ mg mb G Y fa o pm cd doc dV kV ho hd hcd hD hmg hg args vals as hpre hlay hrd hwl hlo;obtain rfl:dV= .none:=Dflts.none hD hdf;obtain rfl:kV= .none:=Dflts.noKw hD;let⟨a,vs,ns,rfl,rfl,hobj,hints,hlen⟩:=script_of hn hpre hwl;show enter_call (aiF (call w s₀ s₁ mg mb fa o pm cd doc a vs ns G Y ho (fd_plain hd) hcd hmg hobj hints hlen hg) λr s' hq=>?_);let⟨rfl,h2,h3,h4⟩:=hq;show⟨.inl ⟨.bool true,.bool true,[],rfl,λ_=>rfl,.bool true,post_true l _,λ_=>⟨alc,λ_ hm=>(nomatch hm)⟩⟩,h2,h3,h4⟩
section
variable{K:Frag}
end
end Att
namespace L2
open PySem PySem.Spec PyProof.Rows
variable{st:agl}{x qual:Str}
theorem vals_ints:∀{vs:List afF} {ns:List Int},ahJ vs ns->Vals (ns.map V.int) vs
 :=by
 intro vs ns h
 induction h with
 |nil=>show .nil
 |cons n t h ih=>show .cons ⟨t,rfl⟩ ih
def defArgs(s:agl):ah6:=match s with
 | .FunctionDef _ a _ _ _ _ _ _ _ _=>a
 |_=>{posonlyargs:=[],args:=[],vararg:=none,kwonlyargs:=[],kw_defaults:=[],kwarg:=none,defaults:=[]}
def defBody(s:agl):List agl:=match s with
 | .FunctionDef _ _ b _ _ _ _ _ _ _=>b
 |_=>[]
def defScope(s:agl):ahz:=match s with
 | .FunctionDef _ _ _ _ _ _ sc _ _ _=>sc
 |_=>{kind:= .function,names:=[],isGenerator:=false,isCoroutine:=false}
abbrev CX0:CXT:=λ_ _ _ _ _ _=>False
abbrev E0:XK:=λ_ _ _=>False
theorem pass0:Passes CX0 X E0:=λ_ _ _ _ _ _ _ h=>h.elim
inductive abD (K:w0a) (x qual:Str) (st:agl) (f:afG) (fd:agJ):Prop
 |mk (oc:afF) (od:Option afG) (kV doc pm:afF) (an:Option afG) (cdv ct:afF) (osl:Array (Option afF)) (e:fd=w0c x qual (defArgs st) (defBody st) (defScope st) .none kV doc pm an cdv ct) (lk:K.lookup f=some ⟨oc,od,.func fd,osl⟩) (hcd:w0g K cdv qual=true):abD K x qual st f fd
structure Fun(K:w0a)(x qual:Str)(st:agl)(f:afG)(fd:agJ):Prop where
 ex:abD K x qual st f fd
 kp:w0d K (.ref f)=true
theorem Fun.ok{f:afG}{N ps:List Str}{sp:Sp}(F:Fun K x qual st f fd)(S:FnScope N ps (defScope st))(len:∀vs H Q E,sp vs H Q E->vs.length=ps.length)
  (hbody:∀(cdv:afF) (A:afZ) (outer:List Env) (s:afH) (H:Hp) (vs:List V) (Q:VK) (E:XK),Room k (A.deeper (aij qual (defScope st) s.heap.objs.size f cdv))->sp vs H Q E->
   ∃t,PSs (cxOf CX0 P w K mg base N qual (defScope st) f cdv A outer s H E).nox (defBody st) t/\t {nx:=λ_ H'=>Q .non H',rt:=Q} (start N vs) H):FnOk P w K mg base CX0 (k+1) f fd ps sp:=by
 let⟨oc,od,kV,doc,pm,an,cdv,ct,osl,rfl,lk,hcd⟩:=F.ex;show fn_of lk hcd S len λA outer s H vs Q E hr hsp=>?_;let⟨t,h,q⟩:=hbody cdv A outer s H vs Q E hr hsp;show⟨t,h.nox,q⟩
theorem Fun.binds{f:afG}(F:Fun K x qual st f fd)
  (h:∀(kV doc pm:afF) (an:Option afG) (cdv ct:afF) (us:List afF),us.length=ps.length->aiO (w0c x qual (defArgs st) (defBody st) (defScope st) .none kV doc pm an cdv ct) ⟨us,[]⟩=pure (ps.zip us)):Binds K fd ps []:=by
 let⟨oc,od,kV,doc,pm,an,cdv,ct,osl,rfl,lk,hcd⟩:=F.ex;show .all (h kV doc pm an cdv ct)
theorem fun_mk{f:afG}{oc:afF}{od an:Option afG}{osl:Array (Option afF)}{kV doc pm cdv ct:afF}(l:K.lookup f=some ⟨oc,od,.func (w0c x qual (defArgs st) (defBody st) (defScope st) .none kV doc pm an cdv ct),osl⟩)
  (c:w0g K cdv qual=true)(k:w0d K (.ref f)=true):Fun K x qual st f (w0c x qual (defArgs st) (defBody st) (defScope st) .none kV doc pm an cdv ct):=⟨⟨oc,od,kV,doc,pm,an,cdv,ct,osl,rfl,l,c⟩,k⟩
theorem pv(i:Nat){pos:Pos}(hN:X.N[i]?=some x:=by rfl)(hv:Vis X.env.scope x:=by first |show ag1 rfl |show agK (ag1 rfl) |show agK (agK rfl))(hd:(x ==("__debug__" :Str))=false:=by decide)
  (hcd:(x ==("__classdict__" :Str))=false:=by decide):PE X (.Name x pos) (tVar i):=pe_var hN hv hd hcd
def Same(H H':Hp):Prop:=∀b o,H b=some o->H' b=some o
theorem Same.refl(H:Hp):Same H H:=λ_ _ h=>h
theorem Same.trans{H H1 H2:Hp}(a:Same H H1)(b:Same H1 H2):Same H H2:=λc o h=>b c o (a c o h)
theorem Same.free{H H':Hp}(e:Same H H'){l:afG}(h:H' l=Option.none):H l=Option.none:=by
 cases q:H l with
 |none=>rfl
 | some o=>
  rw[e l o q] at h;cases h
section
variable{κ:Type}[DecidableEq κ]
end
end L2
namespace Pu
open PySem PySem.Spec L2
open PyProof.Rows hiding St
inductive D where
 |non |bl (b:Bool) |int (i:Int) |str (x:Str) |tup (xs:List D) |lst (xs:List D)
inductive R (α:Type) where
 |bad |ok (a:α) |err (c:Str)
namespace R
def bind{α β:Type}(r:R α)(k:α->R β):R β:=match r with
 | .ok a=>k a
 | .err c=> .err c
 | .bad=> .bad
@[simp] theorem bO {α β:Type} (a:α) (k:α->R β):(R.ok a).bind k=k a:=rfl
end R
mutual
def Rep(K:w0a)(O:afG->Prop)(H:Hp):D->V->Prop
 | .non,v=>v= .non
 | .bl b,v=>v= .bl b
 | .int i,v=>v= .int i
 | .str x,v=>v= .str x
 | .tup ds,v=>∃a xs,v= .ref a/\SqT K H a xs/\aN K O H ds xs
 | .lst ds,v=>∃a xs,v= .ref a/\SqL K H a xs/\¬O a/\aN K O H ds xs
def aN(K:w0a)(O:afG->Prop)(H:Hp):List D->List V->Prop
 |[],xs=>xs=[]
 |d::ds,xs=>∃x r,xs=x::r/\Rep K O H d x/\aN K O H ds r
end
structure Ext(O:afG->Prop)(H H':Hp):Prop where
 tup:∀b xs,Rd H b (.tup xs)->Rd H' b (.tup xs)
 lst:∀b xs,¬O b->Rd H b (.lst xs)->Rd H' b (.lst xs)
section
variable{O O':afG->Prop}{H H':Hp}
theorem SqL.ext(e:Ext O H H')(n:¬O a)(h:SqL K H a xs):SqL K H' a xs:=by
 rcases h with h |h
 .show .inl (e.lst _ _ n h)
 .show .inr h
theorem SqT.ext(e:Ext O H H')(h:SqT K H a xs):SqT K H' a xs:=by
 rcases h with h |h
 .show .inl (e.tup _ _ h)
 .show .inr h
mutual
theorem Rep.ext(e:Ext O H H')(o:∀b xs,¬O b->SqL K H b xs->¬O' b):∀(d:D) (v:V),Rep K O H d v->Rep K O' H' d v
 | .non,_,h=>by simpa only[Rep] using h
 | .bl _,_,h=>by simpa only[Rep] using h
 | .int _,_,h=>by simpa only[Rep] using h
 | .str _,_,h=>by simpa only[Rep] using h
 | .tup ds,v,h=>by
  simp only[Rep] at h |-;let⟨a,xs,e1,h1,h2⟩:=h;show⟨a,xs,e1,SqT.ext e h1,aN.ext e o ds xs h2⟩
 | .lst ds,v,h=>by
  simp only[Rep] at h |-;let⟨a,xs,e1,h1,h2,h3⟩:=h;show⟨a,xs,e1,SqL.ext e h2 h1,o _ _ h2 h1,aN.ext e o ds xs h3⟩
theorem aN.ext(e:Ext O H H')(o:∀b xs,¬O b->SqL K H b xs->¬O' b):∀(ds:List D) (xs:List V),aN K O H ds xs->aN K O' H' ds xs
 |[],xs,h=>by simpa only[aN] using h
 | d::ds,xs,h=>by
  simp only[aN] at h |-;let⟨x,r,e1,h1,h2⟩:=h;show⟨x,r,e1,Rep.ext e o d x h1,aN.ext e o ds r h2⟩
end
end
structure f9(K:w0a)(O:afG->Prop)(H:Hp)(O':afG->Prop)(H':Hp):Prop where
 ext:Ext O H H'
 new:∀a,O' a->O a\/(H a=none/\K.lookup a=none)
 dom:∀a,H' a=none->H a=none
section
variable{O O1 O2:afG->Prop}{H H1 H2:Hp}
theorem Rd.some{u:HO}(h:Rd H a u):H a≠none:=by
 rcases h with h |⟨o,h⟩ <;> rw[h] <;> simp
theorem f9.out(r:f9 K O H O1 H1)(b:afG)(xs:List V)(n:¬O b)(h:SqL K H b xs):¬O1 b:=λz=>by
 rcases r.new b z with z |⟨z1,z2⟩
 .show n z
 .rcases h with h |⟨o,_,_,h,_⟩
  .show Rd.some h z1
  .rw[z2] at h;cases h
theorem f9.refl:f9 K O H O H:=⟨⟨λ_ _ h=>h,λ_ _ _ h=>h⟩,λ_ h=> .inl h,λ_ h=>h⟩
theorem f9.trans(r:f9 K O H O1 H1)(q:f9 K O1 H1 O2 H2):f9 K O H O2 H2 where
 ext:=⟨λb xs h=>q.ext.tup b xs (r.ext.tup b xs h),λb xs n h=>q.ext.lst b xs (r.out b xs n (.inl h)) (r.ext.lst b xs n h)⟩
 new:=λa z=>(q.new a z).elim (r.new a) λw=> .inr ⟨r.dom a w.1,w.2⟩
 dom:=λa z=>r.dom a (q.dom a z)
theorem Same.rd(s:Same H H1){u:HO}(h:Rd H a u):Rd H1 a u:=by
 rcases h with h |⟨o,h⟩
 .show .inl (s _ _ h)
 .show .inr ⟨o,s _ _ h⟩
theorem Same.gb(s:Same H H1):f9 K O H O H1:=⟨⟨λ_ _ h=>Same.rd s h,λ_ _ _ h=>Same.rd s h⟩,λ_ h=> .inl h,λ_ h=>s.free h⟩
theorem Rep.go(r:f9 K O H O1 H1){d:D}(h:Rep K O H d v):Rep K O1 H1 d v:=Rep.ext r.ext r.out d v h
theorem aN.go(r:f9 K O H O1 H1){d:List D}{v:List V}(h:aN K O H d v):aN K O1 H1 d v:=aN.ext r.ext r.out d v h
theorem Rep.same(s:Same H H1){d:D}(h:Rep K O H d v):Rep K O H1 d v:=h.go (Same.gb s)
theorem aN.same(s:Same H H1){d:List D}{v:List V}(h:aN K O H d v):aN K O H1 d v:=h.go (Same.gb s)
theorem Rep.fewer(w:∀a,O1 a->O a){d:D}(h:Rep K O H d v):Rep K O1 H d v:=Rep.ext ⟨λ_ _ h=>h,λ_ _ _ h=>h⟩ (λb _ n _ z=>n (w b z)) d v h
theorem aN.fewer(w:∀a,O1 a->O a){d:List D}{v:List V}(h:aN K O H d v):aN K O1 H d v:=aN.ext ⟨λ_ _ h=>h,λ_ _ _ h=>h⟩ (λb _ n _ z=>n (w b z)) d v h
theorem aN.nil:aN K O H [] []:=by simp only[aN]
theorem aN.cons{d:D}{ds:List D}(h:Rep K O H d v)(t:aN K O H ds vs):aN K O H (d::ds) (v::vs):=by simp only[aN];show⟨v,vs,rfl,h,t⟩
theorem aN.cons_inv{d:D}{ds:List D}(h:aN K O H (d::ds) vs):∃x r,vs=x::r/\Rep K O H d x/\aN K O H ds r:=by simpa only[aN] using h
theorem aN.nil_inv(h:aN K O H [] vs):vs=[]:=by simpa only[aN] using h
theorem aN.length:∀{ds:List D} {vs:List V},aN K O H ds vs->ds.length=vs.length
 |[],vs,h=>by rw[h.nil_inv];rfl
 | d::ds,vs,h=>by
  let⟨x,r,rfl,_,t⟩:=h.cons_inv;simp[aN.length t]
theorem aN.get:∀{ds:List D} {vs:List V} {i:Nat} {d:D},aN K O H ds vs->ds[i]?=some d->∃v,vs[i]?=some v/\Rep K O H d v
 |[],_,_,_,_,e=>by simp at e
 | d::ds,vs,i,d',h,e=>by
  let⟨x,r,rfl,h1,t⟩:=h.cons_inv;cases i with
  |zero=>simp at e;subst e;show⟨x,rfl,h1⟩
  |succ i=>simpa using aN.get t (i:=i) (by simpa using e)
theorem aN.bY{ds:List D}(h:aN K O H ds vs)(e:vs[i]?=some v):∃d,ds[i]?=some d/\Rep K O H d v:=by
 have hl:=h.length;have hi:i<ds.length:=by rw[hl];show (z1b e).1
 let⟨v',e',r⟩:=h.get (i:=i) (d:=ds[i]) (by simp[hi]);rw[e] at e';cases e';show⟨_,by simp[hi],r⟩
theorem aN.append:∀{ds es:List D} {vs ws:List V},aN K O H ds vs->aN K O H es ws->aN K O H (ds++es) (vs++ws)
 |[],_,vs,_,h,t=>by rw[h.nil_inv];show t
 | d::ds,es,vs,ws,h,t=>by
  let⟨x,r,rfl,h1,h2⟩:=h.cons_inv;show .cons h1 (aN.append h2 t)
theorem aN.reverse:∀{ds:List D} {vs:List V},aN K O H ds vs->aN K O H ds.reverse vs.reverse
 |[],vs,h=>by rw[h.nil_inv];show .nil
 | d::ds,vs,h=>by
  let⟨x,r,rfl,h1,h2⟩:=h.cons_inv;simp only[ald];show h2.reverse.append (.cons h1 .nil)
theorem aN.drop:∀{ds:List D} {vs:List V} (n:Nat),aN K O H ds vs->aN K O H (ds.drop n) (vs.drop n)
 |_,_,0,h=>h
 |[],vs,n+1,h=>by rw[h.nil_inv];show .nil
 | d::ds,vs,n+1,h=>by
  let⟨x,r,rfl,h1,h2⟩:=h.cons_inv;show h2.drop n
theorem aN.take:∀{ds:List D} {vs:List V} (n:Nat),aN K O H ds vs->aN K O H (ds.take n) (vs.take n)
 |_,_,0,_=>by simpa using aN.nil
 |[],vs,n+1,h=>by rw[h.nil_inv];show .nil
 | d::ds,vs,n+1,h=>by
  let⟨x,r,rfl,h1,h2⟩:=h.cons_inv;show .cons h1 (h2.take n)
theorem Rep.int{i:Int}(h:Rep K O H (.int i) v):v= .int i:=by simpa only[Rep] using h
theorem Rep.bl{b:Bool}(h:Rep K O H (.bl b) v):v= .bl b:=by simpa only[Rep] using h
theorem Rep.non(h:Rep K O H .non v):v= .non:=by simpa only[Rep] using h
theorem Rep.str(h:Rep K O H (.str x) v):v= .str x:=by simpa only[Rep] using h
theorem Rep.tup{ds:List D}(h:Rep K O H (.tup ds) v):∃a xs,v= .ref a/\SqT K H a xs/\aN K O H ds xs:=by simpa only[Rep] using h
theorem Rep.lst{ds:List D}(h:Rep K O H (.lst ds) v):∃a xs,v= .ref a/\SqL K H a xs/\¬O a/\aN K O H ds xs:=by simpa only[Rep] using h
theorem cD(i:Int):Rep K O H (.int i) (.int i):=by simp only[Rep]
theorem fJ(b:Bool):Rep K O H (.bl b) (.bl b):=by simp only[Rep]
theorem uE:Rep K O H .non .non:=by simp only[Rep]
theorem Kc(x:Str):Rep K O H (.str x) (.str x):=by simp only[Rep]
theorem gM{ds:List D}(h:SqT K H a xs)(r:aN K O H ds xs):Rep K O H (.tup ds) (.ref a):=by simp only[Rep];show⟨a,xs,rfl,h,r⟩
theorem nW{ds:List D}(h:SqL K H a xs)(n:¬O a)(r:aN K O H ds xs):Rep K O H (.lst ds) (.ref a):=by simp only[Rep];show⟨a,xs,rfl,h,n,r⟩
end
inductive Ob where
 |exc (c:Str) |fn (a:afG)
inductive Ent where
 |val (d:D) |lst (ds:List D) |Bt (kvs:List (Key×D)) |obj (t:Ob) |rws (rows:List (List D))
def Ent.own:Ent->Bool
 | .val _=>false
 | .obj _=>false
 |_=>true
def Ent.Uj:Ent->Bool
 | .val _=>true
 |_=>false
theorem abY{e:Ent}(h:e.Uj=true):e.own=false:=by cases e <;> first |rfl |cases h
abbrev aq:=List (Option Ent)
def aeI(K:w0a)(O:afG->Prop)(H:Hp)(kvs:List (Key×D))(ys:List (Key×V)):Prop:=kvs.map (·.1)=ys.map (·.1)/\aN K O H (kvs.map (·.2)) (ys.map (·.2))
def uN(K:w0a)(H:Hp):Ob->V->Prop
 | .exc c,v=>∃a o C,v= .ref a/\H a=some (.frz o (.own a))/\o.cls= .ref C/\o.dict=none/\(∃vs,o.data= .fields vs)/\w0b K af0 c=some (some (.ref C))
 | .fn a,v=>v= .ref a/\∃o fd,H a=some (.frz o (.own a))/\o.data= .func fd
structure O8(K:w0a)(O:afG->Prop)(H:Hp)(rows:List (List D))(a:afG)(rs:List afG):Prop where
 at_:H a=some (.lst (rs.map V.ref))
 oa:O a
 nd:(a::rs).Nodup
 len:rs.length=rows.length
 row:∀(i:Nat) r row,rs[i]?=some r->rows[i]?=some row->O r/\∃xs,H r=some (.lst xs)/\aN K O H row xs
def rT(K:w0a)(O:afG->Prop)(H:Hp):Ent->V->Prop
 | .val d,v=>Rep K O H d v
 | .lst ds,v=>∃a xs,v= .ref a/\O a/\H a=some (.lst xs)/\aN K O H ds xs
 | .Bt kvs,v=>∃a ys,v= .ref a/\O a/\H a=some (.dK ys)/\aeI K O H kvs ys
 | .obj t,v=>uN K H t v
 | .rws rows,v=>∃a rs,v= .ref a/\O8 K O H rows a rs
def V3(H:Hp)(ρ:aq)(σ:St):Prop:=∀(i j:Nat) (rows:List (List D)) (a:afG) (rs:List afG) (e:Ent) (v:V),i≠j->ρ[i]?=some (some (.rws rows))->σ[i]?=some (some (.ref a))->H a=some (.lst (rs.map V.ref))->ρ[j]?=some (some e)->e.own=true->σ[j]?=some (some v)->(∀r∈rs,v≠.ref r)/\∀rows',e≠.rws rows'
structure Env(K:w0a)(O:afG->Prop)(H:Hp)(ρ:aq)(σ:St):Prop where
 get:∀(i:Nat) e,ρ[i]?=some (some e)->∃v,σ[i]?=some (some v)/\rT K O H e v
 sep:∀(i j:Nat) e e' v,i≠j->ρ[i]?=some (some e)->ρ[j]?=some (some e')->e.own=true->e'.own=true->σ[i]?=some (some v)->σ[j]?=some (some v)->False
 rW:V3 H ρ σ
structure In(X:Cx)(O:afG->Prop)(H:Hp)(ρ:aq)(σ:St):Prop where
 env:Env X.K O H ρ σ
 al:∀a,O a->∃o,H a=some o
 len:σ.length=X.N.length
 rY:ρ.length=X.N.length
section
variable{H H1:Hp}{ρ:aq}
theorem uN.fz(s:∀b o u,H b=some (.frz o u)->H1 b=some (.frz o u)):∀{t:Ob} {v:V},uN K H t v->uN K H1 t v
 | .exc _,_,z=>by
  let⟨a,o,C,e,h,q,n⟩:=z;show⟨a,o,C,e,s _ _ _ h,q,n⟩
 | .fn _,_,z=>by
  let⟨e,o,fd,h,q⟩:=z;show⟨e,o,fd,s _ _ _ h,q⟩
theorem uN.same(s:Same H H1){t:Ob}(h:uN K H t v):uN K H1 t v:=h.fz λ_ _ _ q=>s _ _ q
theorem Fj{rs rs':List afG}(h:rs.map V.ref=rs'.map V.ref):rs=rs':=(List.map_inj_right λ_ _ e=>V.ref.inj e).mp h
theorem O8.same(s:Same H H1){rows:List (List D)}{rs:List afG}(h:O8 K O H rows a rs):O8 K O H1 rows a rs:=⟨s _ _ h.at_,h.oa,h.nd,h.len,λi r row e1 e2=>let⟨o,xs,q,r'⟩:=h.row i r row e1 e2;⟨o,xs,s _ _ q,r'.same s⟩⟩
theorem rT.same(s:Same H H1):∀{e:Ent} {v:V},rT K O H e v->rT K O H1 e v
 | .val d,v,h=>Rep.same s h
 | .lst ds,v,z=>by
  let⟨a,xs,e,o,h,r⟩:=z;show⟨a,xs,e,o,s _ _ h,r.same s⟩
 | .Bt kvs,v,z=>by
  let⟨a,xs,e,o,h,k,r⟩:=z;show⟨a,xs,e,o,s _ _ h,k,r.same s⟩
 | .obj t,v,h=>uN.same s h
 | .rws rows,v,⟨a,rs,e,h⟩=>⟨a,rs,e,h.same s⟩
theorem V3.of(h:V3 H ρ σ)(w:∀(i:Nat) (rows:List (List D)) (a:afG) (rs:List afG),ρ[i]?=some (some (.rws rows))->σ[i]?=some (some (.ref a))->H1 a=some (.lst (rs.map V.ref))->H a=some (.lst (rs.map V.ref))):V3 H1 ρ σ:=λi j rows a rs e v hij hi hs ha=>h i j rows a rs e v hij hi hs (w i rows a rs hi hs ha)
theorem Env.rws(E:Env K O H ρ σ){rows:List (List D)}(hi:ρ[i]?=some (some (.rws rows)))(hs:σ[i]?=some (some (.ref a))):∃rs,O8 K O H rows a rs:=by
 let⟨v,q,a',rs,e,r⟩:=E.get i _ hi;rw[q] at hs;cases hs;cases e;show⟨rs,r⟩
theorem Env.back(E:Env K O H ρ σ)(s:Same H H1){rows:List (List D)}{rs:List afG}(hi:ρ[i]?=some (some (.rws rows)))(hs:σ[i]?=some (some (.ref a)))(ha:H1 a=some (.lst (rs.map V.ref))):H a=some (.lst (rs.map V.ref)):=by
 let⟨rs',r⟩:=E.rws hi hs;have:=s _ _ r.at_;rw[ha] at this;rw[r.at_,Fj (HO.lst.inj (agb this))]
theorem Env.same(E:Env K O H ρ σ)(s:Same H H1):Env K O H1 ρ σ:=⟨λj e h=>let⟨v,h1,h2⟩:=E.get j e h;⟨v,h1,h2.same s⟩,E.sep,E.rW.of λi rows a rs hi hs ha=>E.back s hi hs ha⟩
theorem In.same(i:In X O H ρ σ)(s:Same H H1):In X O H1 ρ σ:=
 ⟨i.env.same s,λa h=>let⟨o,q⟩:=i.al a h;⟨o,s _ _ q⟩,i.len,i.rY⟩
end
def Exc(h:af8)(e C:afG)(T:Option afG):Prop:=∃(oe:Obj) (vs:Array afF),h.get? e=some oe/\oe.cls= .ref C/\oe.dict=none/\oe.data= .fields vs/\match T with
 |none=>vs[1]?=some agv
 |some t=>vs[1]?=some (.ref t)/\t≠e/\∃(ot:Obj) (ts:Array afF),h.get? t=some ot/\ot.data= .fields ts/\ts[3]?=some agv
structure Rsd(P:afQ)(w:af2)(fs:List afG)(H:Hp)(s:afH)(a C:afG)(T:Option afG)(s':afH)(H':Hp):Prop where
 same:Same H H'
 un:Un fs [] H H' s.heap s'.heap
 hok:HOk P w H' s'.heap
 os:s'.os=s.os
 bare:aj3 s'.gens
 exc:Exc s'.heap a C T
 na:s.heap.get? a=none
 ha:H' a=none
 nt:∀t,T=some t->s.heap.get? t=none/\H' t=none
def Lh(X:Cx)(c:Str)(σ:St)(H:Hp):Prop:=∀(H1:Hp) (pins:List (afG×Obj)) (s:afH) (a C:afG) (T:Option afG) (s':afH) (H':Hp),Same H H1->Inv X pins σ H1 s->
 w0b X.K af0 c=some (some (.ref C))->Rsd X.prog X.w (frs X.stack) H1 s a C T s' H'->X.xe (.ref a) s'
theorem Lh.same{c:Str}{H H1:Hp}(h:Lh X c σ H)(s:Same H H1):Lh X c σ H1:=λH2 pins s0 a C T s' H' s2=>h H2 pins s0 a C T s' H' (s.trans s2)
def good{α β:Type}(X:Cx)(Rl:(afG->Prop)->Hp->α->β->Prop)(O:afG->Prop)(r:R α)(σ:St)(H:Hp)(Q:β->Hp->Prop):Prop:=match r with
 | .ok a=>∀b H',Same H H'->Rl O H' a b->Q b H'
 | .err c=>Lh X c σ H
 | .bad=>False
theorem good.same{α β:Type}{Rl:(afG->Prop)->Hp->α->β->Prop}{r:R α}{H H1:Hp}{Q:β->Hp->Prop}(h:good X Rl O r σ H Q)(s:Same H H1):good X Rl O r σ H1 Q:=by
 cases r with
 |ok a=>show λb H' s' q=>h b H' (s.trans s') q
 |err c=>show Lh.same (show Lh X c σ H from h) s
 |bad=>show h
inductive TGd {α β:Type} (X:Cx) (Rl:(afG->Prop)->Hp->α->β->Prop) (f:aq->R α) (σ:St) (H:Hp) (Q:β->Hp->Prop):Prop
 |mk (ρ:aq) (O:afG->Prop) (j:In X O H ρ σ) (g:good X Rl O (f ρ) σ H Q):TGd X Rl f σ H Q
def tG{α β:Type}(X:Cx)(Rl:(afG->Prop)->Hp->α->β->Prop)(f:aq->R α):St->Hp->(β->Hp->Prop)->Prop:=λσ H Q=>TGd X Rl f σ H Q
abbrev rB:(afG->Prop)->Hp->Bool->Bool->Prop:=λ_ _ a b=>a=b
abbrev rD(X:Cx):(afG->Prop)->Hp->D->V->Prop:=λO H d v=>Rep X.K O H d v
abbrev Li(X:Cx):(afG->Prop)->Hp->List D->List V->Prop:=λO H d v=>aN X.K O H d v
def DE(X:Cx)(e:afV)(f:aq->R D):Prop:=PE X e (tG X (rD X) f)
def DT(X:Cx)(e:afV)(f:aq->R Bool):Prop:=PT X e (tG X rB f)
def DW(X:Cx)(e:afV)(f:aq->R Bool):Prop:=PW X e (tG X rB f)
def DA(X:Cx)(es:List afV)(f:aq->R (List D)):Prop:=PA X es (tG X (Li X) f)
theorem PE.imp{t t':TE}(h:PE X e t)(w:∀σ H Q,t' σ H Q->t σ H Q):PE X e t':=λpins s σ H Q I q=>h pins s σ H Q I (w σ H Q q)
theorem PT.imp{t t':TT}(h:PT X e t)(w:∀σ H Q,t' σ H Q->t σ H Q):PT X e t':=λpins s σ H Q I q=>h pins s σ H Q I (w σ H Q q)
theorem PW.imp{t t':TT}(h:PW X e t)(w:∀σ H Q,t' σ H Q->t σ H Q):PW X e t':=λwh pins s σ H Q I q=>h wh pins s σ H Q I (w σ H Q q)
theorem PA.imp{e:List afV}{t t':TA}(h:PA X e t)(w:∀σ H Q,t' σ H Q->t σ H Q):PA X e t':=λpos pins s σ H Q I q=>h pos pins s σ H Q I (w σ H Q q)
section
variable{ρ:aq}
theorem go{α β γ δ:Type}{Rl:(afG->Prop)->Hp->α->β->Prop}{Rm:(afG->Prop)->Hp->γ->δ->Prop}{f:aq->R α}{g:α->R γ}{Q:δ->Hp->Prop}{Q':β->Hp->Prop}
  (i:In X O H ρ σ)(h:good X Rm O ((f ρ).bind g) σ H Q)
  (k:∀a b H1,f ρ= .ok a->Same H H1->Rl O H1 a b->In X O H1 ρ σ->good X Rm O (g a) σ H1 Q->Q' b H1):tG X Rl f σ H Q':=by
 show⟨ρ,O,i,?_⟩;cases e:f ρ with
 |ok a=>rw[e] at h;show λb H1 s r=>k a b H1 e s r (i.same s) (good.same h s)
 |err c=>rw[e] at h;show h
 |bad=>rw[e] at h;show h
theorem fin{α β:Type}{Rl:(afG->Prop)->Hp->α->β->Prop}{a:α}{b:β}{Q:β->Hp->Prop}(h:good X Rl O (.ok a) σ H Q)(r:Rl O H a b):Q b H:=h b H (Same.refl H) r
end
end Pu
variable{ρ:Pu.aq}{d:Pu.D}{fa:Pu.aq->Pu.R (List Pu.D)}{ds:List Pu.D}{gt:Pu.D->Pu.aq->Pu.R Pu.aq}{fe:Pu.aq->Pu.R Pu.D}{fi:Pu.aq->Pu.R (List Pu.D)}{ft:Pu.aq->Pu.R Bool}
namespace Pu
open PySem PySem.Spec L2
open PyProof.Rows hiding St
variable{p:afG}{O O0:afG->Prop}{X Y:Cx}{l:D->D->R D}{H H0:Hp}{u:List D->aq->R aq}{N caps ts:List Str}{n i:Nat}{px:Pos}{scope sc:ahz}
theorem Same.upd{o:HO}(h:H p=none):Same H (L2.upd H p o):=λb u e=>by
 rw[upd_ne (ne_of_none e h)];show e
theorem Rep.uF(h:H p=none)(r:aN X.K O H ds xs):Rep X.K O (upd H p (.tup xs)) (.tup ds) (.ref p):=
 gM (SqT.of upd_same) (r.same (Same.upd h))
theorem In.yP(i:In X O H ρ σ)(h:H p=none):¬O p:=λz=>by
 let⟨o,e⟩:=i.al p z;rw[h] at e;cases e
theorem Rep.qd(h:H p=none)(n:¬O p)(r:aN X.K O H ds xs):Rep X.K O (upd H p (.lst xs)) (.lst ds) (.ref p):=
 nW (SqL.of upd_same) n (r.same (Same.upd h))
section
variable{X:Cx}{a b c:afV}{f g h:aq->R D}
def bY(ρ:aq)(i:Nat):R D:=match ρ[i]? with
 |some (some (.val d))=> .ok d
 |_=> .bad
theorem dv(i:Nat){pos:Pos}(hN:X.N[i]?=some x:=by rfl)(hv:Vis X.env.scope x:=by first |show ag1 rfl |show agK (ag1 rfl) |show agK (agK rfl))(hd:(x ==("__debug__" :Str))=false:=by decide)(hcd:(x ==("__classdict__" :Str))=false:=by decide):
  DE X (.Name x pos) (λρ=>bY ρ i):=by
 show PE.imp (pe_var hN hv hd hcd) λσ H Q h=>?_;let⟨ρ,O,j,h⟩:=h;have h:good X (rD X) O (bY ρ i) σ H Q:=h;unfold bY at h;split at h
 .rename_i d e;let⟨v,e1,r⟩:=j.env.get i _ e;show⟨v,e1,fin h r⟩
 .show h.elim
theorem Kd(h:PE X e (tC v))(r:∀O H,Rep X.K O H d v):DE X e (λ_=> .ok d):=PE.imp h λσ H Q h=>by
 let⟨ρ,O,j,h⟩:=h;show fin h (r O H)
theorem aJ{i:Int}{j pos}:DE X (.Constant (.int i) j pos) (λ_=> .ok (.int i)):=Kd pe_int λ_ _=>cD i
theorem mK{i:Bool}{j pos}:DE X (.Constant (.bool i) j pos) (λ_=> .ok (.bl i)):=Kd pe_bl λ_ _=>fJ i
theorem xU{j pos}:DE X (.Constant .none j pos) (λ_=> .ok .non):=Kd pe_non λ_ _=>uE
theorem O9{j pos}:DE X (.Constant (.str x) j pos) (λ_=> .ok (.str x)):=Kd pe_str λ_ _=>Kc x
theorem jj{i:Int}{t:Tok}{pos:Pos}(hg:Gl X x)(hm:X.mg x=some (.int i t))(hd:(x ==("__debug__" :Str))=false:=by decide):DE X (.Name x pos) (λ_=> .ok (.int i)):=
 Kd (pe_glob (v:= .int i) hg hm ⟨t,rfl⟩ hd) λ_ _=>cD i
def jG(X:Cx)(o:afF->afF->Sem afF)(k:D->D->R D):Prop:=∃r:R2,OpR X o r/\
 ∀(ρ:aq) (O:afG->Prop) (σ:St) (H:Hp) (Q:VK) (x y:V) (dx dy:D),In X O H ρ σ->Rep X.K O H dx x->Rep X.K O H dy y->good X (rD X) O (k dx dy) σ H Q->r x y H Q
def bin(f g:aq->R D)(k:D->D->R D):aq->R D:=λρ=>(f ρ).bind λx=>(g ρ).bind λy=>k x y
theorem HD{r:R2}{k:D->D->R D}{Q:VK}
  (hr:∀(ρ:aq) (O:afG->Prop) (σ:St) (H:Hp) (Q:VK) (x y:V) (dx dy:D),In X O H ρ σ->Rep X.K O H dx x->Rep X.K O H dy y->good X (rD X) O (k dx dy) σ H Q->r x y H Q)
  (h:tG X (rD X) (bin f g k) σ H Q):tOp r (tG X (rD X) f) (tG X (rD X) g) σ H Q:=by
 let⟨ρ,O,j,h⟩:=h;show go j h λdx x H1 e1 s1 r1 j1 h1=>?_;show go j1 h1 λdy y H2 e2 s2 r2 j2 h2=>hr ρ O σ H2 Q x y dx dy j2 (r1.same s2) r2 h2
theorem aU{op:Operator}{k:D->D->R D}(ho:jG X (ahv op) k)(ha:DE X a f)(hb:DE X b g):DE X (.BinOp a op b pos) (bin f g k):=by
 let⟨r,ho,hr⟩:=ho;show PE.imp (pe_op ho ha hb) λσ H Q h=>HD hr h
theorem uO{k:D->D->R D}(ho:jG X (agr op) k)(ha:DE X a f)(hb:DE X b g)(hm:air op b=false:=by show nomark _):DE X (.Compare a [op] [b] pos) (bin f g k):=by
 let⟨r,ho,hr⟩:=ho;show PE.imp (pe_cmpR ho ha hb hm) λσ H Q h=>HD hr h
def asB:D->R Bool
 | .bl b=> .ok b
 |_=> .bad
def cC(f:aq->R D):aq->R Bool:=λρ=>(f ρ).bind asB
theorem Gu{t:TE}{k:aq->R D}{Q:Bool->Hp->Prop}(w:∀Q,tG X (rD X) k σ H Q->t σ H Q)(h:tG X rB (cC k) σ H Q):tTest t σ H Q:=by
 show w _ ?_;let⟨ρ,O,j,h⟩:=h;show go j h λd x H1 e1 s1 r1 j1 h1=>?_;cases d with
 |bl b=>show⟨b,r1.bl,fin h1 rfl⟩
 |_=>show h1.elim
theorem cJ{k:D->D->R D}(ho:jG X (agr op) k)(ha:DE X a f)(hb:DE X b g)(hm:air op b=false:=by show nomark _):DT X (.Compare a [op] [b] pos) (cC (bin f g k)):=by
 let⟨r,ho,hr⟩:=ho;show PT.imp (pt_cmpR ho ha hb hm) λσ H Q h=>Gu (λQ h=>HD hr h) h
theorem jH(h:DE X e f)(he:∀whole,isTrue e X.env whole=(do let v <-whole;standAt e.pos;holding [v] (truthy v)):=by intro _;rfl):DT X e (cC f):=
 PT.imp (pt_val h he) λσ H Q h=>Gu (t:=tG X (rD X) f) (λQ h=>h) h
def iD(k:Int->Int->R D):D->D->R D
 | .int i,.int j=>k i j
 |_,_=> .bad
theorem DQ{o:afF->afF->Sem afF}{C:Int->Int->Prop}{g:Int->Int->V}{k:Int->Int->R D}(ho:OpR X o (rI C g))(hk:∀i j,k i j= .bad\/∃d,k i j= .ok d/\C i j/\∀K O H,Rep K O H d (g i j)):jG X o (iD k):=by
 show⟨_,ho,λρ O σ H Q x y dx dy j0 rx ry h=>?_⟩;cases dx <;> cases dy <;> first
  |show h.elim
  |skip
 rename_i i j;rcases hk i j with e |⟨d,e,c,r⟩
 .have h':good X (rD X) O (k i j) σ H Q:=h;rw[e] at h';show h'.elim
 .have h':good X (rD X) O (k i j) σ H Q:=h;rw[e] at h';show⟨i,j,rx.int,ry.int,c,fin h' (r _ _ _)⟩
theorem uP{o:afF->afF->Sem afF}{g:Int->Int->V}{k:Int->Int->R D}(ho:OpR X o (rI0 g))(hk:∀i j,∃d,k i j= .ok d/\∀K O H,Rep K O H d (g i j)):jG X o (iD k):=by
 show⟨_,ho,λρ O σ H Q x y dx dy j0 rx ry h=>?_⟩;cases dx <;> cases dy <;> first
  |show h.elim
  |skip
 rename_i i j;let⟨d,e,r⟩:=hk i j;have h':good X (rD X) O (k i j) σ H Q:=h;rw[e] at h';show⟨i,j,rx.int,ry.int,fin h' (r _ _ _)⟩
def fU:D->D->R D:=iD λi j=> .ok (.int (i - j))
def iT:D->D->R D:=iD λi j=>if (-(2^64)<i/\i<2^64)\/(-(2^64)<j/\j<2^64) then .ok (.int (i*j)) else .bad
def jh:D->D->R D:=iD λi j=>if 0<j/\j<2^64 then .ok (.int (i / j)) else .bad
def fV:D->D->R D:=iD λi j=>if 0<j then .ok (.int (i % j)) else .bad
def wV:D->D->R D:=iD λi j=>if 0<=j/\j<=1000000/\i.natAbs<2^64 then .ok (.int (i^j.toNat)) else .bad
def ltI:D->D->R D:=iD λi j=> .ok (.bl (decide (i<j)))
def xV:D->D->R D:=iD λi j=> .ok (.bl (decide (i<=j)))
def wA:D->D->R D:=iD λi j=> .ok (.bl (decide (j<i)))
def XR:D->D->R D:=iD λi j=> .ok (.bl (decide (j<=i)))
theorem fK:jG X (ahv .Sub) fU:=uP op_sub λi j=>⟨_,rfl,λ_ _ _=>cD _⟩
theorem abE:jG X (agr .Lt) ltI:=uP op_lt λi j=>⟨_,rfl,λ_ _ _=>fJ _⟩
theorem qX:jG X (agr .LtE) xV:=uP op_le λi j=>⟨_,rfl,λ_ _ _=>fJ _⟩
theorem Om:jG X (agr .Gt) wA:=uP op_gt λi j=>⟨_,rfl,λ_ _ _=>fJ _⟩
theorem aeJ:jG X (agr .GtE) XR:=uP op_ge λi j=>⟨_,rfl,λ_ _ _=>fJ _⟩
theorem DR{c:Prop}[Decidable c](d:D){P:D->Prop}(hP:c->P d):(if c then R.ok d else R.bad)=R.bad\/∃d',(if c then R.ok d else R.bad)=R.ok d'/\c/\P d':=by
 by_cases h:c
 .show .inr ⟨d,by rw[z9p h],h,hP h⟩
 .show .inl (by rw[z9n h])
theorem rA:jG X (ahv .Mult) iT:=DQ op_mul λi j=>DR (.int (i*j)) (P:=λd=>∀K O H,Rep K O H d (.int (i*j))) λ_ _ _ _=>cD _
theorem XS{j:Int}(h0:0<j)(h:j<2^64):j.natAbs.log2<9000:=by
 have h1:j.natAbs≠0:=()
 have h2:j.natAbs<2^64:=()
 have h3:j.natAbs.log2<64:=(Nat.log2_lt h1).mpr h2;omega
theorem aaw:OpR X (ahv .FloorDiv) (rI (λ_ j=>0<j/\j<2^64) λi j=> .int (i / j)):=opI λi j _ _ _ _ _ hc q=>by
 show floordiv_int (by have:=hc.1;omega) ?_ (.inl (PyProof.noPylong_of_log2 (XS hc.1 hc.2)));rw[Int.fdiv_eq_ediv_of_nonneg _ (by have:=hc.1;omega)];show q
theorem uQ:jG X (ahv .FloorDiv) jh:=DQ aaw λi j=>DR (.int (i / j)) (P:=λd=>∀K O H,Rep K O H d (.int (i / j))) λ_ _ _ _=>cD _
theorem oN:jG X (ahv .Mod) fV:=DQ op_mod λi j=>DR (.int (i % j)) (P:=λd=>∀K O H,Rep K O H d (.int (i % j))) λ_ _ _ _=>cD _
theorem X3:jG X (ahv .Pow) wV:=DQ op_pow λi j=>DR (.int (i^j.toNat)) (P:=λd=>∀K O H,Rep K O H d (.int (i^j.toNat))) λ_ _ _ _=>cD _
def Fl(f g h:aq->R D)(k l:D->D->R D):aq->R D:=λρ=>(f ρ).bind λx=>(g ρ).bind λy=>(k x y).bind λz=>match z with
 | .bl true=>(h ρ).bind λw=>l y w
 | .bl false=> .ok (.bl false)
 |_=> .bad
def uR(f g:aq->R D):aq->R D:=λρ=>(f ρ).bind λx=>match x with
 | .bl true=>g ρ
 | .bl false=> .ok (.bl false)
 |_=> .bad
def ado(f:aq->R D):aq->R D:=λρ=>(f ρ).bind λx=>match x with
 | .bl b=> .ok (.bl (!b))
 |_=> .bad
variable{rest:List afV}
theorem uT{op}(h:DE X a f):DE X (.BoolOp op [a] pos) f:=pe_one h
theorem rC(ha:DE X a f)(hb:DE X (.BoolOp .And (b::rest) pos) g):DE X (.BoolOp .And (a::b::rest) pos) (uR f g):=by
 show PE.imp (pe_and ha hb) λσ H Q h=>?_;let⟨ρ,O,j,h⟩:=h;show go j h λd x H1 e1 s1 r1 j1 h1=>?_;cases d with
 | bl k=>
  cases k with
  |true=>show⟨true,r1.bl,by rw[z9p rfl];show⟨ρ,O,j1,h1⟩⟩
  |false=>show⟨false,r1.bl,by rw[z9n agf];show fin h1 (fJ _)⟩
 |_=>show h1.elim
theorem adp(ha:DE X a f):DE X (.UnaryOp .Not a pos) (ado f):=by
 show PE.imp (pe_not ha) λσ H Q h=>?_;let⟨ρ,O,j,h⟩:=h;show go j h λd x H1 e1 s1 r1 j1 h1=>?_;cases d with
 |bl k=>show⟨k,r1.bl,fin h1 (fJ _)⟩
 |_=>show h1.elim
def lO(f g:aq->R Bool):aq->R Bool:=λρ=>(f ρ).bind λx=>if x=true then g ρ else .ok false
def xW(f g:aq->R Bool):aq->R Bool:=λρ=>(f ρ).bind λx=>if x=true then .ok true else g ρ
def jz(f:aq->R Bool):aq->R Bool:=λρ=>(f ρ).bind λx=> .ok (!x)
variable{p q:aq->R Bool}
theorem xX(ha:DT X a p):DW X (.BoolOp .And [a] pos) p:=pw_and1 ha
theorem rE(ha:DT X a p):DW X (.BoolOp .Or [a] pos) p:=pw_or1 ha
theorem xY(ha:DT X a p)(hb:DW X (.BoolOp .And (b::rest) pos) q):DW X (.BoolOp .And (a::b::rest) pos) (lO p q):=by
 show PW.imp (pw_and ha hb) λσ H Q h=>?_;let⟨ρ,O,j,h⟩:=h;show go j h λd x H1 e1 s1 r1 j1 h1=>?_;subst r1;cases d with
 |true=>rw[z9p rfl] at h1 |-;show⟨ρ,O,j1,h1⟩
 |false=>rw[z9n agf] at h1 |-;show fin h1 rfl
theorem wB(ha:DT X a p)(hb:DW X (.BoolOp .Or (b::rest) pos) q):DW X (.BoolOp .Or (a::b::rest) pos) (xW p q):=by
 show PW.imp (pw_or ha hb) λσ H Q h=>?_;let⟨ρ,O,j,h⟩:=h;show go j h λd x H1 e1 s1 r1 j1 h1=>?_;subst r1;cases d with
 |true=>rw[z9p rfl] at h1 |-;show fin h1 rfl
 |false=>rw[z9n agf] at h1 |-;show⟨ρ,O,j1,h1⟩
theorem DW.dt(h:DW X e p):DT X e p:=h _
theorem gj(ha:DT X a p):DT X (.UnaryOp .Not a pos) (jz p):=by
 show PT.imp (pt_not ha) λσ H Q h=>?_;let⟨ρ,O,j,h⟩:=h;show go j h λd x H1 e1 s1 r1 j1 h1=>?_;subst r1;show fin h1 rfl
def Lj(c:aq->R Bool)(f g:aq->R D):aq->R D:=λρ=>(c ρ).bind λx=>if x=true then f ρ else g ρ
theorem abF(hc:DT X c p)(ha:DE X a f)(hb:DE X b g):DE X (.IfExp c a b pos) (Lj p f g):=by
 show PE.imp (pe_ifExp hc ha hb) λσ H Q h=>?_;let⟨ρ,O,j,h⟩:=h;show go j h λd x H1 e1 s1 r1 j1 h1=>?_;subst r1;cases d with
 |true=>rw[z9p rfl] at h1 |-;show⟨ρ,O,j1,h1⟩
 |false=>rw[z9n agf] at h1 |-;show⟨ρ,O,j1,h1⟩
def ak(f:aq->R D)(g:aq->R (List D)):aq->R (List D):=λρ=>(f ρ).bind λx=>(g ρ).bind λxs=> .ok (x::xs)
theorem ao:DA X [] (λ_=> .ok []):=PA.imp pa_nil λσ H Q h=>by
 let⟨ρ,O,j,h⟩:=h;show fin h .nil
theorem aj(ha:DE X a f)(hr:DA X es fa)(hs:afL (a::es) X.env=(false,eval a X.env)::afL es X.env:=by rfl):DA X (a::es) (ak f fa):=by
 show PA.imp (pa_cons ha hr hs) λσ H Q h=>?_;let⟨ρ,O,j,h⟩:=h;show go j h λd x H1 e1 s1 r1 j1 h1=>?_;show go j1 h1 λds xs H2 e2 s2 r2 j2 h2=>fin h2 (.cons (r1.same s2) r2)
def cap(k:List D->D)(ds:List D):R D:=if ds.length<=1000000 then .ok (k ds) else .bad
theorem iI:1000000<=sizeLine:=by rw[ahA];decide
def iB(fa:aq->R (List D)):aq->R D:=λρ=>(fa ρ).bind (cap .tup)
def jA(fa:aq->R (List D)):aq->R D:=λρ=>(fa ρ).bind (cap .lst)
theorem eY{x1}(h:DA X es fa):DE X (.Tuple es x1 pos) (iB fa):=by
 show PE.imp (pe_tup h) λσ H Q h=>?_;let⟨ρ,O,j,h⟩:=h;show go j h λds xs H1 e1 s1 r1 j1 h1=>?_;unfold cap at h1;split at h1
 .rename_i hl;show⟨by rw[<-r1.length];show z0b hl iI,λp hp=>h1 _ _ (Same.upd hp) (Rep.uF hp r1)⟩
 .show h1.elim
theorem jJ(h:DA X es fa):DE X (.List es pos) (jA fa):=by
 show PE.imp (pe_lst h) λσ H Q h=>?_;let⟨ρ,O,j,h⟩:=h;show go j h λds xs H1 e1 s1 r1 j1 h1=>?_;unfold cap at h1;split at h1
 .rename_i hl;show⟨by rw[<-r1.length];show z0b hl iI,λp hp=>h1 _ _ (Same.upd hp) (Rep.qd hp (j1.yP hp) r1)⟩
 .show h1.elim
def cA:D->D->R D
 | .tup ds,.int i=>match atI ds i with |some d=> .ok d |none=> .bad
 | .lst ds,.int i=>match atI ds i with |some d=> .ok d |none=> .bad
 |_,_=> .bad
theorem aN.atI{O:afG->Prop}{H:Hp}{i:Int}(r:aN K O H ds vs)(e:atI ds i=some d):∃v,atI vs i=some v/\Rep K O H d v:=by
 unfold L2.atI at e |-;rw[r.length] at e;cases q:ixN vs.length i with
 |none=>rw[q] at e;cases e
 | some k=>
  rw[q] at e;let⟨v,h1,h2⟩:=r.get (i:=k) (d:=d) e;show⟨v,h1,h2⟩
theorem bV(ha:DE X a f)(hb:DE X b g)(hs:PlainIx b:=by show λ_ _=>rfl):DE X (.Subscript a b pos) (bin f g cA):=by
 show PE.imp (pe_ix ix_seq ha hb hs) λσ H Q h=>HD (λρ O σ H Q x y dx dy j0 rx ry h=>?_) h;cases dx <;> cases dy <;> first
  |show h.elim
  |skip
 .rename_i ds i;let⟨p,xs,rfl,hq,r⟩:=rx.tup;have h':good X (rD X) O (match L2.atI ds i with |some d=>R.ok d |none=>R.bad) σ H Q:=h;cases e:L2.atI ds i with
  |none=>rw[e] at h';show h'.elim
  | some d=>
   rw[e] at h';let⟨v,e1,rv⟩:=r.atI e;show .inr (.inl ⟨p,xs,i,v,rfl,ry.int,hq,e1,fin h' rv⟩)
 .rename_i ds i;let⟨p,xs,rfl,hq,_,r⟩:=rx.lst;have h':good X (rD X) O (match L2.atI ds i with |some d=>R.ok d |none=>R.bad) σ H Q:=h;cases e:L2.atI ds i with
  |none=>rw[e] at h';show h'.elim
  | some d=>
   rw[e] at h';let⟨v,e1,rv⟩:=r.atI e;show .inl ⟨p,xs,i,v,rfl,ry.int,hq,e1,fin h' rv⟩
def CallD(X:Cx)(u:afF)(k:List D->R D):Prop:=∃r:List V->Hp->VK->Prop,CallR X u r/\
 ∀(ρ:aq) (O:afG->Prop) (σ:St) (H:Hp) (Q:VK) (xs:List V) (ds:List D),In X O H ρ σ->aN X.K O H ds xs->good X (rD X) O (k ds) σ H Q->r xs H Q
def aD(k:List D->R D)(fa:aq->R (List D)):aq->R D:=λρ=>(fa ρ).bind k
variable{k:List D->R D}{id T:String}
theorem aR(hc:CallD X (.builtin id) k)(hg:Gl X x)(hm:X.mg x=none)(hv:ahR x=some (.builtin id))(ha:DA X (a::es) fa)(hn:x≠"__name__" :=by decide)(hdb:(x ==("__debug__" :Str))=false:=by decide)
  (he:afL (a::es) X.env=(false,eval a X.env)::afL es X.env:=by rfl)(hpl:(agS pos (afL es X.env)).any (·.1)=false:=by rfl):DE X (.Call (.Name x pp) (a::es) [] pos) (aD k fa):=by
 let⟨r,hc,hr⟩:=hc;show PE.imp (pe_callB hc hg hm hv ha hn hdb he hpl) λσ H Q h=>?_;let⟨ρ,O,j,h⟩:=h;show go j h λds xs H1 e1 s1 r1 j1 h1=>hr ρ O σ H1 Q xs ds j1 r1 h1
theorem fW(hc:CallD X (.type T) k)(hg:Gl X x)(hm:X.mg x=none)(hv:ahR x=some (.type T))(ha:DA X (a::es) fa)(hn:x≠"__name__" :=by decide)(hdb:(x ==("__debug__" :Str))=false:=by decide)
  (he:afL (a::es) X.env=(false,eval a X.env)::afL es X.env:=by rfl)(hpl:(agS pos (afL es X.env)).any (·.1)=false:=by rfl):DE X (.Call (.Name x pp) (a::es) [] pos) (aD k fa):=by
 let⟨r,hc,hr⟩:=hc;show PE.imp (pe_callTy hc hg hm hv ha hn hdb he hpl) λσ H Q h=>?_;let⟨ρ,O,j,h⟩:=h;show go j h λds xs H1 e1 s1 r1 j1 h1=>hr ρ O σ H1 Q xs ds j1 r1 h1
end
section
variable{X:Cx}{a b c:afV}{f g h:aq->R D}
theorem Ln{r r':R2}{k:D->D->R D}{Q:VK}
  (hr:∀(ρ:aq) (O:afG->Prop) (σ:St) (H:Hp) (Q:VK) (x y:V) (dx dy:D),In X O H ρ σ->Rep X.K O H dx x->Rep X.K O H dy y->good X (rD X) O (k dx dy) σ H Q->r x y H Q)
  (hl:∀(ρ:aq) (O:afG->Prop) (σ:St) (H:Hp) (Q:VK) (x y:V) (dx dy:D),In X O H ρ σ->Rep X.K O H dx x->Rep X.K O H dy y->good X (rD X) O (l dx dy) σ H Q->r' x y H Q)
  (q:tG X (rD X) (Fl f g h k l) σ H Q):tChain r r' (tG X (rD X) f) (tG X (rD X) g) (tG X (rD X) h) σ H Q:=by
 let⟨ρ,O,j,q⟩:=q;show go j q λdx x H1 e1 s1 r1 j1 h1=>?_;show go j1 h1 λdy y H2 e2 s2 r2 j2 h2=>?_;have r1':=r1.same s2;cases e3:k dx dy with
 |bad=>rw[e3] at h2;show h2.elim
 |err n=>rw[e3] at h2;show hr ρ O σ H2 _ x y dx dy j2 r1' r2 (by rw[e3];show h2)
 | ok z=>
  rw[e3] at h2;show hr ρ O σ H2 _ x y dx dy j2 r1' r2 ?_;rw[e3];intro v H3 s3 r3;have j3:=j2.same s3;cases z with
  | bl t=>
   show⟨t,r3.bl,?_⟩;cases t with
   | true=>
    rw[z9p rfl];show go j3 (good.same h2 s3) λdw w H4 e4 s4 r4 j4 h4=>hl ρ O σ H4 Q y w dy dw j4 (r2.same (s3.trans s4)) r4 h4
   | false=>
    rw[z9n agf];show fin (good.same h2 s3) (fJ _)
  |_=>show h2.elim
theorem yQ{op op':CmpOp}{k:D->D->R D}(ho:jG X (agr op) k)(ho':jG X (agr op') l)(ha:DE X a f)(hb:DE X b g)(hc:DE X c h)
  (hm:lastMarks [op,op'] [b,c]=false:=by with_unfolding_all rfl):DE X (.Compare a [op,op'] [b,c] pos) (Fl f g h k l):=by
 let⟨r,ho,hr⟩:=ho;let⟨r',ho',hr'⟩:=ho';show PE.imp (pe_chain ho ho' ha hb hc hm) λσ H Q q=>Ln hr hr' q
theorem aax{op op':CmpOp}{k:D->D->R D}(ho:jG X (agr op) k)(ho':jG X (agr op') l)(ha:DE X a f)(hb:DE X b g)(hc:DE X c h)
  (hm:lastMarks [op,op'] [b,c]=false:=by with_unfolding_all rfl):DT X (.Compare a [op,op'] [b,c] pos) (cC (Fl f g h k l)):=by
 let⟨r,ho,hr⟩:=ho;let⟨r',ho',hr'⟩:=ho';show PT.imp (pt_chain ho ho' ha hb hc hm) λσ H Q q=>Gu (λQ q=>Ln hr hr' q) q
end
def YAt(K:w0a)(O:afG->Prop)(J:It)(xs:List D)(H:Hp):Prop:=
 ∀i:Nat,(∀d,xs[i]?=some d->J.go i H/\∀x H',J.yld i H x H'->Same H H'/\Rep K O H' d x)/\(xs.length<=i->J.stop i H)
def YR(K:w0a)(O:afG->Prop)(H:Hp)(J:It)(xs:List D):Prop:=∀O' H',f9 K O H O' H'->YAt K O' J xs H'
abbrev rIt(X:Cx):(afG->Prop)->Hp->List D->It->Prop:=λO H xs J=>YR X.K O H J xs
def DI(X:Cx)(tg iter:afV)(fi:aq->R (List D)):Prop:=PI X tg iter (tG X (rIt X) fi)
theorem PI.imp{tg e:afV}{t t':TI}(h:PI X tg e t)(w:∀σ H Q,t' σ H Q->t σ H Q):PI X tg e t':=λpins s σ H Q I q=>h pins s σ H Q I (w σ H Q q)
section
variable{X:Cx}{tg:afV}
def afc(K:w0a)(tl:TE):TI:=λσ H R=>tl σ H λx H1=>∃a,x= .ref a/\(((∃xs,SqL K H1 a xs)/\R (Itl K a) H1)\/((∃xs,SqT K H1 a xs)/\R (Itt K a) H1))
theorem adq{l:afV}{tl:TE}(hl:PE X l tl):PI X tg l (afc X.K tl):=by
 intro pins s σ H R I h;show thn (hl pins s σ H _ I h) λv s1 bQ=>?_;let⟨x,H1,I1,r1,q1⟩:=bQ;let⟨a,e,q⟩:=q1;subst e;cases r1;have fp:∀b∈[s1.heap.objs.size],FpOk X pins H1 b:=λb hb=>by
  have e:b=s1.heap.objs.size:=by simpa using hb
  subst e;show I1.fpOk (z0g _) (I1.hok.fresh (z0g _))
 rcases q with⟨⟨xs,hq⟩,q⟩ |⟨⟨xs,hq⟩,q⟩
 .let⟨its,rv,p,hz⟩:=I1.list hq;show aiQ p.isList ?_;show⟨s1.heap.objs.size,[s1.heap.objs.size],_,_,H1,rfl,I1.kept (t':=s1.toks) λb o e=>z1a _ e,turn_list a _,⟨_,z1f _ rfl,rfl,rfl⟩,fp,q⟩
 .let⟨its,rv,p,hz⟩:=I1.tuple hq;show wpAny_pyIter_tuple (show s1.heap.IsTuple a its.toArray from p) ?_;show⟨s1.heap.objs.size,[s1.heap.objs.size],_,_,H1,rfl,I1.kept (t':=s1.toks) λb o e=>z1a _ e,turn_tuple a _,⟨_,z1f _ rfl,rfl,rfl⟩,fp,q⟩
def lg:D->R (List D)
 | .tup ds=> .ok ds
 | .lst ds=> .ok ds
 |_=> .bad
theorem YR.lst(h:SqL K H a xs)(n:¬O a)(r:aN K O H ds xs):YR K O H (Itl K a) ds:=by
 intro O' H' q;have h':SqL K H' a xs:=SqL.ext q.ext n h;have r':=r.go q;intro i;show⟨λd e=>?_,λe=>⟨xs,h',by rw[<-r.length];show e⟩⟩;let⟨v,e1,rv⟩:=r'.get e;show⟨⟨xs,v,h',e1⟩,λx H2 y=>?_⟩;let⟨eH,y⟩:=y;subst eH;have:=y xs h';rw[e1] at this;cases this;show⟨Same.refl _,rv⟩
theorem YR.tup(h:SqT K H a xs)(r:aN K O H ds xs):YR K O H (Itt K a) ds:=by
 intro O' H' q;have h':SqT K H' a xs:=SqT.ext q.ext h;have r':=r.go q;intro i;show⟨λd e=>?_,λe=>⟨xs,h',by rw[<-r.length];show e⟩⟩;let⟨v,e1,rv⟩:=r'.get e;show⟨⟨xs,v,h',e1⟩,λx H2 y=>?_⟩;let⟨eH,y⟩:=y;subst eH;have:=y xs h';rw[e1] at this;cases this;show⟨Same.refl _,rv⟩
def dB(f:aq->R D):aq->R (List D):=λρ=>(f ρ).bind lg
theorem cT{l:afV}{f:aq->R D}(h:DE X l f):DI X tg l (dB f):=by
 show PI.imp (adq h) λσ H Q q=>?_;let⟨ρ,O,j,q⟩:=q;show go j q λd x H1 e1 s1 r1 j1 h1=>?_;cases d with
 | tup ds=>
  let⟨a,xs,rfl,hq,r⟩:=r1.tup;show⟨a,rfl,.inr ⟨⟨xs,hq⟩,fin h1 (YR.tup hq r)⟩⟩
 | lst ds=>
  let⟨a,xs,rfl,hq,n,r⟩:=r1.lst;show⟨a,rfl,.inl ⟨⟨xs,hq⟩,fin h1 (YR.lst hq n r)⟩⟩
 |_=>show h1.elim
def upto(lo:Int)(n:Nat):List D:=(afI n).map λ(i:Nat)=>D.int (lo+(i:Int))
theorem YR.rng(lo:Int)(n:Nat):YR K O H (Itr lo n) (upto lo n):=by
 intro O' H' q i;have hl:(upto lo n).length=n:=by simp[upto]
 show⟨λd e=>?_,λe=>by rw[hl] at e;show e⟩;have hi:i<n:=by rw[<-hl];show (z1b e).1
 have e2:d=D.int (lo+(i:Int)):=by
  simp only[upto,z2b,agu hi] at e;show (agb e).symm
 subst e2;show⟨hi,λx H2 y=>?_⟩;let⟨eH,y⟩:=y;subst eH;subst y;show⟨Same.refl _,cD _⟩
def lJ:List D->R (List D)
 |[.int j]=>if -(2^62)<=j/\j<2^62 then .ok (upto 0 j.toNat) else .bad
 |_=> .bad
def Gv:List D->R (List D)
 |[.int i,.int j]=>if -(2^62)<=i/\i<2^62/\-(2^62)<=j/\j<2^62 then .ok (upto i (j - i).toNat) else .bad
 |_=> .bad
theorem aN.one(r:aN K O H [d] xs):∃x,xs=[x]/\Rep K O H d x:=by
 let⟨x,t,rfl,h1,h2⟩:=r.cons_inv;rw[h2.nil_inv];show⟨x,rfl,h1⟩
theorem aN.two{e:D}(r:aN K O H [d,e] xs):∃x y,xs=[x,y]/\Rep K O H d x/\Rep K O H e y:=by
 let⟨x,t,rfl,h1,h2⟩:=r.cons_inv;let⟨y,rfl,h3⟩:=h2.one;show⟨x,y,rfl,h1,h3⟩
variable{a b:afV}{p pos:Pos}
theorem gq(hg:Gl X "range")(hm:X.mg "range" =none)(ha:DA X [a] fa)(hs:afL [a] X.env=[(false,eval a X.env)]:=by rfl):DI X tg (.Call (.Name "range" p) [a] [] pos) (λρ=>(fa ρ).bind lJ):=by
 show PI.imp (pi_range1 hg hm ha hs) λσ H Q q=>?_;let⟨ρ,O,j,q⟩:=q;show go j q λds xs H1 e1 s1 r1 j1 h1=>?_;unfold lJ at h1;split at h1
 .let⟨x,rfl,rx⟩:=r1.one;split at h1
  .rename_i i hi;show⟨i,by rw[rx.int],hi.1,hi.2,fin h1 (YR.rng 0 i.toNat)⟩
  .show h1.elim
 .show h1.elim
theorem Lp(hg:Gl X "range")(hm:X.mg "range" =none)(ha:DA X [a,b] fa)(hs:afL [a,b] X.env=[(false,eval a X.env),(false,eval b X.env)]:=by rfl)(hs2:afL [b] X.env=[(false,eval b X.env)]:=by rfl):
  DI X tg (.Call (.Name "range" p) [a,b] [] pos) (λρ=>(fa ρ).bind Gv):=by
 show PI.imp (pi_range2 hg hm ha hs hs2) λσ H Q q=>?_;let⟨ρ,O,j,q⟩:=q;show go j q λds xs H1 e1 s1 r1 j1 h1=>?_;unfold Gv at h1;split at h1
 .let⟨x,y,rfl,rx,ry⟩:=r1.two;split at h1
  .rename_i i k hi;show⟨i,k,by rw[rx.int,ry.int],hi,fin h1 (YR.rng i (k - i).toNat)⟩
  .show h1.elim
 .show h1.elim
end
inductive DGp (X:Cx) (gt:D->aq->R aq) (v:V) (σ:St) (H:Hp) (Q:St->Hp->Prop):Prop
 |mk (ρ:aq) (O:afG->Prop) (d:D) (ρ':aq) (j:In X O H ρ σ) (r:Rep X.K O H d v) (e:gt d ρ= .ok ρ') (q:∀σ',In X O H ρ' σ'->Q σ' H):DGp X gt v σ H Q
def DG(X:Cx)(tg:afV)(gt:D->aq->R aq):Prop:=PG X tg λv σ H Q=>DGp X gt v σ H Q
inductive adt (X:Cx) (gt:List D->aq->R aq) (vs:List V) (σ:St) (H:Hp) (Q:St->Hp->Prop):Prop
 |mk (ρ:aq) (O:afG->Prop) (ds:List D) (ρ':aq) (j:In X O H ρ σ) (r:aN X.K O H ds vs) (e:gt ds ρ= .ok ρ') (q:∀σ',In X O H ρ' σ'->Q σ' H):adt X gt vs σ H Q
def DGs(X:Cx)(ts:List afV)(gt:List D->aq->R aq):Prop:=PGs X ts λvs σ H Q=>adt X gt vs σ H Q
section
variable{X:Cx}
theorem In.set(j:In X O H ρ σ)(hi:i<X.N.length)(r:Rep X.K O H d v):In X O H (ρ.set i (some (.val d))) (σ.set i (some v)):=by
 have h1:i<ρ.length:=by rw[j.rY];show hi
 have h2:i<σ.length:=by rw[j.len];show hi
 show⟨⟨λk e q=>?_,λk l e e' u hkl qk ql ok ol sk sl=>?_,λk l rows a rs e u hkl qk sk ha ql ol sl=>?_⟩,j.al,by rw[aiJ];show j.len,by rw[aiJ];show j.rY⟩
 .by_cases hk:k=i
  .subst hk;rw[z2a h1] at q;cases q;show⟨v,z2a h2,r⟩
  .rw[z1e (agc hk)] at q;let⟨u,q1,q2⟩:=j.env.get k e q;show⟨u,by rw[z1e (agc hk)];show q1,q2⟩
 .have hk:k≠i:=λz=>by subst z;rw[z2a h1] at qk;cases qk;cases ok
  have hl:l≠i:=λz=>by subst z;rw[z2a h1] at ql;cases ql;cases ol
  rw[z1e (agc hk)] at qk sk;rw[z1e (agc hl)] at ql sl;show j.env.sep k l e e' u hkl qk ql ok ol sk sl
 .have hk:k≠i:=λz=>by subst z;rw[z2a h1] at qk;cases qk
  have hl:l≠i:=λz=>by subst z;rw[z2a h1] at ql;cases ql;cases ol
  rw[z1e (agc hk)] at qk sk;rw[z1e (agc hl)] at ql sl;show j.env.rW k l rows a rs e u hkl qk sk ha ql ol sl
def aH(i:Nat)(d:D)(ρ:aq):R aq:= .ok (ρ.set i (some (.val d)))
theorem aY(i:Nat)(hN:X.N.Nodup)(hi:X.N[i]?=some x:=by rfl)(hx:Loc X.env.scope x:=by first |show ag1 rfl |show agK rfl)(hf:X.fn x=true\/X.env.scope.names.lookup x=some .local:=by first |show .inl rfl |show .inr rfl):DG X (.Name x pos) (aH i):=by
 intro pins s σ H v u Q I r h;let⟨ρ,O,d,ρ',j,rd,e,q⟩:=h;cases e;show pg_name hN hi hx hf pins s σ H v u Q I r (q _ (j.set (z1b hi).1 rd))
def nilG:List D->aq->R aq
 |[],ρ=> .ok ρ
 |_,_=> .bad
def aW(t:D->aq->R aq)(u:List D->aq->R aq):List D->aq->R aq
 |d::ds,ρ=>(t d ρ).bind λρ'=>u ds ρ'
 |_,_=> .bad
theorem jK:DGs X [] nilG:=by
 intro pins s σ H vs us Q I r h;let⟨ρ,O,ds,ρ',j,rd,e,q⟩:=h;cases ds with
 |nil=>cases e;show pgs_nil pins s σ H vs us Q I r ⟨rd.nil_inv,q _ j⟩
 |cons d ds=>cases e
theorem cj{t:D->aq->R aq}(h1:DG X e t)(h2:DGs X es u)
  (hs:(aiT (e::es) X.env).map (·.2)=assign e X.env::(aiT es X.env).map (·.2):=by rfl):DGs X (e::es) (aW t u):=by
 intro pins s σ H vs us Q I r h;let⟨ρ,O,ds,ρ',j,rd,e,q⟩:=h;cases ds with
 |nil=>cases e
 | cons d ds=>
  let⟨x,xs,rfl,rx,rxs⟩:=rd.cons_inv;have e':(t d ρ).bind (λρ'=>u ds ρ')= .ok ρ':=e;cases q1:t d ρ with
  |bad=>rw[q1] at e';cases e'
  |err c=>rw[q1] at e';cases e'
  | ok ρ1=>
   rw[q1] at e';show pgs_cons h1 h2 hs pins s σ H _ us Q I r ⟨x,xs,rfl,ρ,O,d,ρ1,j,rx,q1,λσ1 j1=>?_⟩;show⟨ρ1,O,ds,ρ',j1,rxs,e',q⟩
def c7(u:List D->aq->R aq):D->aq->R aq
 | .tup ds,ρ=>u ds ρ
 |_,_=> .bad
def dg(n:Nat)(u:List D->aq->R aq):List D->aq->R aq:=λds ρ=>if ds.length=n then u ds ρ else .bad
theorem lQ{k:Nat}(hc:X.calm=true)(h:DGs X es u)
  (hn:(aiT es X.env).length=n:=by rfl)(hst:(aiT es X.env).findIdx? (·.1)=none:=by rfl):DG X (.Tuple es k pos) (c7 (dg n u)):=by
 intro pins s σ H v w Q I r q;let⟨ρ,O,d,ρ',j,rd,e,q⟩:=q;cases d with
 | tup ds=>
  let⟨a,xs,rfl,hq,rs⟩:=rd.tup;have e':(if ds.length=n then u ds ρ else .bad)= .ok ρ':=e;by_cases hl:ds.length=n
  .rw[z9p hl] at e';show pg_tup hc h hn hst pins s σ H _ w Q I r ⟨a,xs,rfl,hq,by rw[<-rs.length];show hl,ρ,O,ds,ρ',j,rs,e',q⟩
  .rw[z9n hl] at e';cases e'
 |_=>cases e
end
def lR(x:Str):List Str->Nat
 |[]=>0
 |y::r=>if x=y then 0 else lR x r+1
theorem qe:∀{N:List Str},x∈N->N[lR x N]?=some x
 |[],h=>by simp at h
 | y ::r,h=>by
  unfold lR;by_cases e:x=y
  .rw[z9p e,e];rfl
  .rw[z9n e];rcases afR.mp h with z |z
   .show absurd z e
   .simpa using qe z
def pull(N caps:List Str)(n:Nat)(l:List (Option α)):List (Option α):=afU n none++caps.map λx=>(l[lR x N]?).join
theorem yR(N caps:List Str)(n:Nat)(l:List (Option α)):(pull N caps n l).length=n+caps.length:=by simp[pull]
theorem join_some{o:Option (Option α)}{a:α}(h:o.join=some a):o=some (some a):=by
 cases o with
 |none=>cases h
 |some o=>show congrArg some h
theorem nP{l:List (Option α)}{a:α}(h:(pull N caps n l)[i]?=some (some a)):∃j x,i=n+j/\caps[j]?=some x/\l[lR x N]?=some (some a):=by
 unfold pull at h;by_cases hi:i<n
 .rw[af4 (by simpa using hi),ah2,z9p hi] at h;cases h
 .rw[afP (by simpa using hi),ahw,z2b] at h;cases e:caps[i - n]? with
  |none=>rw[e] at h;cases h
  | some x=>
   rw[e] at h;show⟨i - n,x,(),e,join_some (agb h)⟩
theorem xZ{l:List (Option α)}(h:caps[j]?=some x):(pull N caps n l)[n+j]?=some (l[lR x N]?).join:=by
 unfold pull;rw[afP (),ahw,z2b,show n+j - n=j by omega,h];rfl
def eE(sc:ahz):List Str:=(sc.names.filter λx=>decide (x.2= .free)).map (·.1)
def Gw(outer sc:ahz)(ts N:List Str):Bool:=
 decide (sc.kind= .function) && sc.names.all (λx=>(!decide (x.2= .local)) || decide (sc.names.lookup x.1=some .local)) && sc.names.all (λx=>(!decide (x.2= .cell)) || decide (sc.names.lookup x.1=some .cell)) &&
  (eE sc).all (λx=>(decide (outer.names.lookup x=some .cell) || decide (outer.names.lookup x=some .free)) && decide (x∈N) && decide (sc.names.lookup x=some .free)) && decide (ts++eE sc).Nodup
structure Ea(outer sc:ahz)(ts N:List Str):Prop where
 kind:sc.kind= .function
 loc:∀x∈sc.names,x.2= .local->sc.names.lookup x.1=some .local
 cel:∀x∈sc.names,x.2= .cell->sc.names.lookup x.1=some .cell
 out:∀x∈eE sc,outer.names.lookup x=some .cell\/outer.names.lookup x=some .free
 mem:∀x∈eE sc,x∈N
 Lq:∀x∈eE sc,sc.names.lookup x=some .free
 nd:(ts++eE sc).Nodup
theorem aeK{outer:ahz}(h:Gw outer sc ts N=true):Ea outer sc ts N:=by
 unfold Gw at h;simp only[ag6,ai2,decide_eq_true_eq,Bool.or_eq_true,Bool.not_eq_true',decide_eq_false_iff_not] at h;let⟨⟨⟨⟨h1,h2⟩,h3⟩,h4⟩,h5⟩:=h;show⟨h1,λx hx e=>(h2 x hx).resolve_left λn=>n e,λx hx e=>(h3 x hx).resolve_left λn=>n e,λx hx=>(h4 x hx).1.1,λx hx=>(h4 x hx).1.2,λx hx=>(h4 x hx).2,h5⟩
def iU(cs:List (Str×afG)):List (Str×aiZ)->List (Str×afG)->List (Str×afG)
 |[],acc=>acc
 |(n,k)::r,acc=>if k= .free then iU cs r ((n,(cs.lookup n).getD 0)::acc) else iU cs r acc
theorem V4(h:∀x∈scope.names,x.2= .free->∃c,env.cells.lookup x.1=some c):ajF scope env=pure (iU env.cells scope.names []):=by
 unfold ajF;have all:∀(l:List (Str×aiZ)) (acc:List (Str×afG)),(∀x∈l,x.2= .free->∃c,env.cells.lookup x.1=some c)->
   (forIn l acc λx r=>match x with |(name,kind)=>if (kind ==agY)=true then do let a <-cellOf env name;pure (aky ((name,a)::r)) else pure (aky r):Sem (List (Str×afG)))=pure (iU env.cells l acc):=by
  intro l
  induction l with
  |nil=>intro acc _;rfl
  | cons x r ih=>
   intro acc hx;let⟨n,k⟩:=x;rw[ajf];unfold iU;by_cases hk:k= .free
   .let⟨c,hc⟩:=hx (n,k) afT hk;have hc:env.cells.lookup n=some c:=hc;have e1:cellOf env n=pure c:=by unfold cellOf;rw[hc]
    subst hk;simp only[e1,hc,ai3,beq_self_eq_true,if_true,pure_bind];show ih _ λy hy=>hx y (z2f _ hy)
   .have e2:(k ==agY)=false:=by simpa using hk
    simp only[e2,af7,if_false,pure_bind,hk];show ih _ λy hy=>hx y (z2f _ hy)
 simpa using all scope.names [] h
theorem m7(cs:List (Str×afG)):∀(l:List (Str×aiZ)) (acc:List (Str×afG)),iU cs l acc=iU cs l []++acc
 |[],acc=>rfl
 | (n,k)::r,acc=>by
  unfold iU;split
  .rw[m7 cs r (_::acc),m7 cs r [_]];simp
  .show m7 cs r acc
theorem uU(cs:List (Str×afG)):∀(l:List (Str×aiZ)) {n:Str} {c:afG},(n,c)∈iU cs l []->(n,agY)∈l/\c=(cs.lookup n).getD 0
 |[],_,_,h=>by simp[iU] at h
 | (m, k)::r,n,c,h=>by
  unfold iU at h;split at h
  .rename_i hk;rw[m7] at h;rcases agk.mp h with h |h
   .let⟨h1,h2⟩:=uU cs r h;show⟨z2f _ h1,h2⟩
   .have e:=af3.mp h;cases e;subst hk;show⟨afT,rfl⟩
  .let⟨h1,h2⟩:=uU cs r h;show⟨z2f _ h1,h2⟩
theorem Gx(cs:List (Str×afG)):∀(l:List (Str×aiZ)) {n:Str},(n,agY)∈l->((iU cs l []).lookup n).isSome=true
 |[],_,h=>by simp at h
 | (m, k)::r,n,h=>by
  unfold iU;split
  .rename_i hk;rw[m7,ahi];rcases afR.mp h with e |h
   .cases e;simp[aix]
   .simp[Gx cs r h]
  .rename_i hk;rcases afR.mp h with e |h
   .cases e;show absurd rfl hk
   .show Gx cs r h
theorem d8:∀(l:List (Str×aiZ)) (n:Nat) (acc:List (Str×afG)),agn n l acc=agn n l []++acc
 |[],_,_=>rfl
 | (m,k)::r,n,acc=>by
  unfold agn;split
  .rw[d8 r _ (_::acc),d8 r _ [_]];simp
  .show d8 r n acc
theorem lq:∀(l:List (Str×aiZ)) (n:Nat) {x:Str} {c:afG},(x,c)∈agn n l []->(x,ajc)∈l/\n<=c
 |[],_,_,_,h=>by simp[agn] at h
 | (m, k)::r,n,x,c,h=>by
  unfold agn at h;split at h
  .rename_i hk;rw[d8] at h;rcases agk.mp h with h |h
   .let⟨h1,h2⟩:=lq r _ h;show⟨z2f _ h1,()⟩
   .have e:=af3.mp h;cases e;have:k= .cell:=by simpa using hk
    subst this;show⟨afT,z0g _⟩
  .let⟨h1,h2⟩:=lq r _ h;show⟨z2f _ h1,h2⟩
section
variable{M:Model}
theorem X4{globals:afG}{cl:List (Str×afG)}{qual:Str}{Q:PySem.Env->afH->Prop}
  (hQ:Q (newEnv scope s.heap.objs.size globals (agn (s.heap.objs.size+1) scope.names cl) qual none .none (some env) ajE) {s with heap:=pushCells (s.heap.push {cls:= .type "dict",data:= .dict #[]}) scope.names}):
  afK M A (akG scope globals cl [] qual none .none (some env)) Q E s:=by
 simp only[akG,Option.isSome_some,if_true];show afE (wpAny_alloc ?_);show afE (wpAny_layCells _ (λname kind cells=>by cases hkc:kind ==ajc <;> simp[hkc]) _ _ _ _ ?_);rw[show ({s with heap:=s.heap.push {cls:= .type "dict",data:= .dict #[]}}:afH).heap.objs.size=s.heap.objs.size+1 from agM ..];show afE (afJ (afJ hQ))
end
def ig(scope:ahz)(env:PySem.Env)(C:afG):PySem.Env:=
 {scope:=relabel scope env,locals:=C,globals:=env.globals,cells:=agn (C+1) scope.names (iU env.cells scope.names []),qual:=env.qual,func:=none,code:=env.code,frame:=env.frame,builtins:=env.builtins}
def cV(X:Cx)(scope:ahz)(ts:List Str)(C:afG)(s:afH)(H:Hp)(ex:List afG):Cx where
 prog:=X.prog
 w:=X.w
 K:=X.K
 mg:=X.mg
 base:=X.base
 A:=X.A
 N:=ts++eE scope
 s₀:=s
 H₀:=H
 env:=ig scope X.env C
 outer:=X.stack
 stack:=X.stack
 ex:=ex
 fn:=λx=>decide (scope.names.lookup x=some .cell)
 calm:=X.calm
 pn:=[]
 xe:=λ_ _=>False
theorem qg{scope:ahz}:∀{names:List (Str×aiZ)},
  (names.map λ(n,k)=>if (k ==agY && env.scope.kind == .function && env.kindOf n ==some .cell) then (n,ajc) else (n,k)).lookup x =
   (names.lookup x).map λk=>if (k ==agY && env.scope.kind == .function && env.kindOf x ==some .cell) then .cell else k
 |[]=>rfl
 | (n, k)::r=>by
  have ih:= qg (scope:=scope) (names:=r);rw[z1h];show List.lookup x ((if (k ==agY && env.scope.kind == .function && env.kindOf n ==some .cell)=true then (n,ajc) else (n,k))::_)=_;cases hx:x ==n with
  | true=>
   have e:x=n:=by simpa using hx
   subst e;by_cases hc:(k ==agY && env.scope.kind == .function && env.kindOf x ==some .cell)=true
   .rw[z9p hc];simp only[aix,beq_self_eq_true,akz,hc,if_true]
   .rw[z9n hc];simp only[aix,beq_self_eq_true,akz,hc,if_false] <;> rfl
  | false=>
   by_cases hc:(k ==agY && env.scope.kind == .function && env.kindOf n ==some .cell)=true
   .rw[z9p hc];simp only[aix,hx];show ih
   .rw[z9n hc];simp only[aix,hx];show ih
theorem uV(h:(x,agY)∈sc.names):x∈eE sc:=afW.mpr ⟨(x,.free),ahd.mpr ⟨h,()⟩,rfl⟩
theorem abZ(h:x∈eE sc):(x,agY)∈sc.names:=by
 let⟨⟨n,k⟩,h1,h2⟩:=afW.mp h;let⟨h3,h4⟩:=ahd.mp h1;have h4:k=agY:=by simpa using h4
 subst h4;have h2:n=x:=h2;subst h2;show h3
section
variable{X:Cx}{scope:ahz}{ts:List Str}{C:afG}
theorem lV(B:Ea X.env.scope scope ts X.N)(has:∀x,(X.env.kindOf x=some .cell\/X.env.kindOf x=some .free)->∃c,X.env.cells.lookup x=some c){c:afG}(h:(ig scope X.env C).cells.lookup x=some c):
  (scope.names.lookup x=some .cell/\@LE.le Nat _ (C+1) c)\/(x∈eE scope/\X.env.cells.lookup x=some c):=by
 have h:(agn (C+1) scope.names (iU X.env.cells scope.names [])).lookup x=some c:=h;rw[d8,ahi] at h;cases e:(agn (C+1) scope.names []).lookup x with
 | some c'=>
  rw[e] at h;have e2:c'=c:=by simpa using h
  subst e2;let⟨h1,h2⟩:=lq _ _ (PySem.mem_of_lookup e);show .inl ⟨B.cel _ h1 rfl,h2⟩
 | none=>
  rw[e] at h;have h:(iU X.env.cells scope.names []).lookup x=some c:=by simpa using h
  let⟨h1,h2⟩:=uU _ _ (PySem.mem_of_lookup h);have hx:=uV h1;let⟨c',hc'⟩:=has x (B.out x hx);rw[hc'] at h2;have h2:c=c':=h2;subst h2;show .inr ⟨hx,hc'⟩
theorem Pb(B:Ea X.env.scope scope ts X.N){c:afG}(hx:x∈eE scope)(hc:X.env.cells.lookup x=some c)(has:∀x,(X.env.kindOf x=some .cell\/X.env.kindOf x=some .free)->∃c,X.env.cells.lookup x=some c):(ig scope X.env C).cells.lookup x=some c:=by
 have hs:=Gx X.env.cells scope.names (abZ hx);let⟨c',e⟩:=ai0.mp hs;have hl:∃d,(ig scope X.env C).cells.lookup x=some d:=by
  show ∃d,(agn (C+1) scope.names (iU X.env.cells scope.names [])).lookup x=some d;rw[d8,ahi,e];cases (agn (C+1) scope.names []).lookup x with
  |none=>show⟨c',rfl⟩
  |some d=>show⟨d,rfl⟩
 let⟨d,hd⟩:=hl;rcases lV B has hd with⟨h1,_⟩ |⟨_,h2⟩
 .rw[B.Lq x hx] at h1;cases h1
 .rw[hc] at h2;cases h2;show hd
theorem aay(B:Ea X.env.scope scope ts X.N)(hx:x∈eE scope):(ig scope X.env C).kindOf x=some .cell\/(ig scope X.env C).kindOf x=some .free:=by
 show (relabel scope X.env).names.lookup x=some .cell\/(relabel scope X.env).names.lookup x=some .free;have e:(relabel scope X.env).names.lookup x=(scope.names.lookup x).map λk=>if (k ==agY && X.env.scope.kind == .function && X.env.kindOf x ==some .cell) then .cell else k:=qg (scope:=scope);rw[e,B.Lq x hx];simp only[akz];split
 .show .inl rfl
 .show .inr rfl
end
def Pg:R α->R α
 | .err _=> .bad
 | .ok a=> .ok a
 | .bad=> .bad
@[simp] theorem HF {α:Type} (a:α):Pg (R.ok a)= .ok a:=rfl
def lK(k:D->R (Option D)):List D->R (List D)
 |[]=> .ok []
 |x::xs=>(Pg (k x)).bind λo=>(lK k xs).bind λds=> .ok (o.toList++ds)
def qj(gt:D->aq->R aq)(ft:aq->R Bool)(fe:aq->R D)(ρ:aq)(x:D):R (Option D):=
 (gt x ρ).bind λρ1=>(ft ρ1).bind λb=>if b=true then (fe ρ1).bind λd=> .ok (some d) else .ok none
def yS:Option Ent->Option Ent
 |some (.val d)=>some (.val d)
 |_=>none
def Eb(n:Nat)(caps:List Nat)(ρ:aq):aq:=afU n none++caps.map λk=>((ρ.map yS)[k]?).join
def bN(n:Nat)(caps:List Nat)(fi:aq->R (List D))(gt:D->aq->R aq)(ft:aq->R Bool)(fe:aq->R D):aq->R D:=
 λρ=>(fi ρ).bind λxs=>(lK (qj gt ft fe (Eb n caps ρ)) xs).bind (cap .lst)
def rF(n:Nat)(gt:D->aq->R aq):Prop:=∀d ρ ρ',gt d ρ= .ok ρ'->∀i,n<=i->ρ'[i]?=ρ[i]?
def Ec(n:Nat)(gt:List D->aq->R aq):Prop:=∀d ρ ρ',gt d ρ= .ok ρ'->∀i,n<=i->ρ'[i]?=ρ[i]?
theorem aM(h:i<n):rF n (aH i):=λd ρ ρ' e j hj=>by
 cases e;rw[z1e ()]
theorem gC:Ec n nilG:=λd ρ ρ' e j hj=>by
 cases d with
 |nil=>cases e;rfl
 |cons _ _=>cases e
theorem bK{t:D->aq->R aq}(h1:rF n t)(h2:Ec n u):Ec n (aW t u):=λd ρ ρ' e j hj=>by
 cases d with
 |nil=>cases e
 | cons d ds=>
  have e':(t d ρ).bind (λρ'=>u ds ρ')= .ok ρ':=e;cases q:t d ρ with
  |ok ρ1=>rw[q] at e';rw[h2 ds ρ1 ρ' e' j hj,h1 d ρ ρ1 q j hj]
  |err c=>rw[q] at e';cases e'
  |bad=>rw[q] at e';cases e'
theorem gD(h:Ec n u):rF n (c7 (dg m u)):=λd ρ ρ' e j hj=>by
 cases d with
 | tup ds=>
  have e':(if ds.length=m then u ds ρ else .bad)= .ok ρ':=e;by_cases hl:ds.length=m
  .rw[z9p hl] at e';show h ds ρ ρ' e' j hj
  .rw[z9n hl] at e';cases e'
 |_=>cases e
def Ph(Y:Cx)(ifs:List afV)(ft:aq->R Bool):Prop:=∀(pins:List (afG×Obj)) (s:afH) (σ:St) (H:Hp) (Q:Bool->Hp->Prop),Inv Y pins σ H s->tG Y rB ft σ H Q->
 afK (model Y.prog Y.w) Y.A (forIn ifs true λc r=>if r=true then do let ok <-isTrue c Y.env (eval c Y.env);pure (aky ok) else pure (aky r)) (TP Y pins σ Q) Y.xe s
theorem bZ:Ph Y [] (λ_=> .ok true):=λpins s σ H Q I h=>by
 let⟨ρ,O,j,h⟩:=h;show wpAny_tests_nil ⟨H,I,fin h rfl⟩
theorem Ed{c:afV}{p:aq->R Bool}(hc:DT Y c p):Ph Y [c] p:=λpins s σ H Q I h=>wpAny_tests_one (hc pins s σ H Q I h)
theorem X5{k:D->R (Option D)}{x:D}{xs:List D}{all:List D}(h:lK k (x::xs)= .ok all):∃o rest,k x= .ok o/\lK k xs= .ok rest/\all=o.toList++rest:=by
 have h:(Pg (k x)).bind (λo=>(lK k xs).bind λds=> .ok (o.toList++ds))= .ok all:=h;cases e:k x with
 |bad=>rw[e] at h;cases h
 |err c=>rw[e] at h;cases h
 | ok o=>
  rw[e] at h;cases e2:lK k xs with
  |bad=>rw[e2] at h;cases h
  |err c=>rw[e2] at h;cases h
  | ok rest=>
   rw[e2] at h;cases h;show⟨o,rest,rfl,rfl,rfl⟩
theorem HJ{k:D->R (Option D)}:∀{xs:List D} {c:Str},lK k xs≠.err c
 |[],c=>λh=>by cases h
 | x ::xs,c=>λh=>by
  have h:(Pg (k x)).bind (λo=>(lK k xs).bind λds=> .ok (o.toList++ds))= .err c:=h;cases e:k x with
  |bad=>rw[e] at h;cases h
  |err c=>rw[e] at h;cases h
  | ok o=>
   rw[e] at h;cases e2:lK k xs with
   |bad=>rw[e2] at h;cases h
   |err c'=>show HJ e2
   |ok rest=>rw[e2] at h;cases h
section
variable{X:Cx}
theorem V5{o:Option Ent}{e:Ent}(h:yS o=some e):o=some e/\e.Uj=true:=by
 cases o with
 |none=>cases h
 | some e'=>
  cases e' with
  |val d=>cases h;show⟨rfl,rfl⟩
  |lst _=>cases h
  |Bt _=>cases h
  |rws _=>cases h
  |obj _=>cases h
theorem uW{e:Ent}(h:(ρ.map yS)[i]?=some (some e)):ρ[i]?=some (some e)/\e.Uj=true:=by
 rw[z2b] at h;cases q:ρ[i]? with
 |none=>rw[q] at h;cases h
 | some o=>
  rw[q] at h;let⟨h1,h2⟩:=V5 (agb h);rw[h1];show⟨rfl,h2⟩
theorem In.vals(j:In X O H ρ σ):In X O H (ρ.map yS) σ:=
 ⟨⟨λi e h=>j.env.get i e (uW h).1,λi k e e' v hik hi hk=>j.env.sep i k e e' v hik (uW hi).1 (uW hk).1,λi k rows a rs e v hik hi=>by cases (uW hi).2⟩,j.al,j.len,by rw[z1g];show j.rY⟩
theorem V6{ks:List Nat}(h:caps.map (λx=>lR x N)=ks):pull N caps n (ρ.map yS)=Eb n ks ρ:=by
 unfold pull Eb;rw[<-h,agj];rfl
theorem ab0{fp:List afG}(I:Inv X pins σ H s)(B:Ea X.env.scope scope ts X.N)
  (hf:∀b∈fp,FpOk X pins H b)(ho:∀b∈fp,b<s.heap.objs.size){h4:af8}{C:Nat}(hC:C=s.heap.objs.size+1)
  (e4:h4=pushCells ((s.heap.push {cls:= .type "list",dict:=none,data:= .seq ([]:List afF).toArray}).push {cls:= .type "dict",data:= .dict #[]}) scope.names):
  Inv (cV X scope ts C s H fp) [] (pull X.N (eE scope) ts.length σ) (upd H s.heap.objs.size (.lst [])) {s with heap:=h4}:=by
 have hD:H s.heap.objs.size=none:=I.hok.fresh (z0g _);have abG:∀b o,(s.heap.push {cls:= .type "list",dict:=none,data:= .seq ([]:List afF).toArray}).get? b=some o->h4.get? b=some o:=λb o e=>by
  rw[e4];show ajQ _ _ b o (z1a _ e)
 have keep:∀b o,s.heap.get? b=some o->h4.get? b=some o:=λb o e=>abG b o (z1a _ e);have sz3:(s.heap.push {cls:= .type "list",dict:=none,data:= .seq ([]:List afF).toArray}).objs.size=s.heap.objs.size+1:=agM ..;have hns:h4.Ns C λ_=>none:=by
  rw[e4,hC,<-sz3];show (Heap.Ns.new _ (.type "dict")).keeps (ajQ _ _)
 have ok:=cellsFrom_ok scope.names ((s.heap.push {cls:= .type "list",dict:=none,data:= .seq ([]:List afF).toArray}).push {cls:= .type "dict",data:= .dict #[]}) (C+1) [] ⟨λ_ _ hm=>(nomatch hm),alc⟩ (by rw[agM,sz3,hC];show z0g _);rw[agM,sz3,<-hC,<-e4] at ok;have ab1:∀x c,(ig scope X.env C).cells.lookup x=some c->scope.names.lookup x=some .cell->h4.IsCell c none:=λx c h hk=>by
  have h:(agn (C+1) scope.names (iU X.env.cells scope.names [])).lookup x=some c:=h;rw[d8,ahi] at h;cases e:(agn (C+1) scope.names []).lookup x with
  | some c'=>
   rw[e] at h;have e2:c'=c:=by simpa using h
   subst e2;show (ok.empty x c' (PySem.mem_of_lookup e)).1
  | none=>
   rw[e] at h;have h:(iU X.env.cells scope.names []).lookup x=some c:=by simpa using h
   have:=B.Lq x (uV (uU _ _ (PySem.mem_of_lookup h)).1);rw[hk] at this;cases this
 have V7:∀x (c:Nat),X.env.cells.lookup x=some c->c<s.heap.objs.size:=λx c e=>by
  let⟨v,q⟩:=I.cell x c e;show q.lt
 have adu:∀x c,(ig scope X.env C).cells.lookup x=some c->∃v,h4.IsCell c v:=λx c h=>by
  rcases lV B I.ok.has h with⟨h1,_⟩ |⟨_,h2⟩
  .show⟨_,ab1 x c h h1⟩
  .let⟨v,q⟩:=I.cell x c h2;show⟨v,q.keeps keep⟩
 show⟨⟨I.ok.mod,B.kind,I.ok.glob,I.ok.blt,by show @LE.le Nat _ s.heap.objs.size C;omega,?inj,?has,?cab,I.ok.hd,I.ok.frames,.inl rfl,?exf,I.bs,z0b I.ok.bsz I.sz,?noex,?exfs,I.stack,I.stkFree⟩,
  rfl,I.bare,Un.laid keep (z0g _) hD,⟨_,hns,?loc⟩,adu,?free,?freeC,λp hp=>absurd (show p∈([]:List (afG×Obj)) from hp) (),I.hok.laid keep (z0g _) ?new,?len⟩
 case inj=>
  intro x y c h1 h2;have h1:(ig scope X.env C).cells.lookup x=some c:=h1;have h2:(ig scope X.env C).cells.lookup y=some c:=h2;rcases lV B I.ok.has h1 with⟨a1,a2⟩ |⟨a1,a2⟩ <;> rcases lV B I.ok.has h2 with⟨b1,b2⟩ |⟨b1,b2⟩
  .-- both its own
   have look:∀z,(ig scope X.env C).cells.lookup z=some c->scope.names.lookup z=some .cell->(z,c)∈agn (C+1) scope.names []:=λz h hk=>by
    have h:(agn (C+1) scope.names (iU X.env.cells scope.names [])).lookup z=some c:=h;rw[d8,ahi] at h;cases e:(agn (C+1) scope.names []).lookup z with
    | some c'=>
     rw[e] at h;have e2:c'=c:=by simpa using h
     subst e2;show PySem.mem_of_lookup e
    | none=>
     rw[e] at h;have h:(iU X.env.cells scope.names []).lookup z=some c:=by simpa using h
     have:=B.Lq z (uV (uU _ _ (PySem.mem_of_lookup h)).1);rw[hk] at this;cases this
   show name_of_addr ok.apart (look x h1 a1) (look y h2 b1)
  .have:=V7 y c b2;omega
  .have:=V7 x c a2;omega
  .show I.ok.inj x y c a2 b2
 case has=>
  intro x hx;have hx:(relabel scope X.env).names.lookup x=some .cell\/(relabel scope X.env).names.lookup x=some .free:=hx;have hx:(scope.names.map λ(n,k)=>if (k ==agY && X.env.scope.kind == .function && X.env.kindOf n ==some .cell) then (n,ajc) else (n,k)).lookup x=some .cell\/(scope.names.map λ(n,k)=>if (k ==agY && X.env.scope.kind == .function && X.env.kindOf n ==some .cell) then (n,ajc) else (n,k)).lookup x=some .free:=hx;rw[qg (scope:=scope)] at hx;cases e:scope.names.lookup x with
  |none=>rw[e] at hx;rcases hx with z |z <;> cases z
  | some k=>
   rw[e] at hx;by_cases hk:k= .free
   .subst hk;have hm:=uV (PySem.mem_of_lookup e);let⟨c,hc⟩:=I.ok.has x (B.out x hm);show⟨c,Pb B hm hc I.ok.has⟩
   .have hk':(k ==agY)=false:=by simpa using hk
    simp only[akz,hk',alM,af7,if_false] at hx;have hc:k= .cell:=by
     rcases hx with z |z
     .show agb z
     .show absurd (agb z) hk
    subst hc;have q:=w0l scope.names (C+1) (iU X.env.cells scope.names []) (.inl e);show ai0.mp q
 case cab=>
  intro x c hfn h;have h:(ig scope X.env C).cells.lookup x=some c:=h;have hfn:scope.names.lookup x=some .cell:=z9o hfn;rcases lV B I.ok.has h with⟨_,a2⟩ |⟨a1,_⟩
  .show @LE.le Nat _ s.heap.objs.size c;omega
  .rw[B.Lq x a1] at hfn;cases hfn
 case exf=>
  intro b hb;have hb:b∈fp:=hb;have hl: @LT.lt Nat _ b s.heap.objs.size:=ho b hb;show⟨by show @Ne Nat b C;omega,λx c h=>?_⟩;rcases lV B I.ok.has h with⟨_,a2⟩ |⟨_,a2⟩
  .show @Ne Nat c b;omega
  .show (hf b hb).2.2.2.2.1 x c a2
 case noex=>
  intro b o e hb;have hb:b∈fp:=hb;rcases (hf b hb).2.2.2.1 with z |z
  .show I.ok.noex b o e z
  .show absurd (z0d (z2c e) (z0b I.ok.bsz z)) (agX _)
 case exfs=>
  intro b hb hz;have hb:b∈fp:=hb;have hz:b∈frs X.stack:=hz;rcases afR.mp (I.stkSub b hz) with z |z
  .show (hf b hb).2.1 z
  .show (hf b hb).2.2.1 z
 case loc=>
  intro i x v h1 h2 h3;have h1:(ts++eE scope)[i]?=some x:=h1;let⟨k,y,e1,e2,e3⟩:=nP h2;have hy:x=y:=by
   rw[e1,afP (),show ts.length+k - ts.length=k by omega,e2] at h1;show (agb h1).symm
  subst hy;have hm:x∈eE scope:=ago e2;let⟨m,_,hl⟩:=I.loc;have vis:Vis X.env.scope x:=by
   rcases B.out x hm with z |z
   .show .inr (.inl z)
   .show .inr (.inr z)
  let⟨u,ru,lk⟩:=hl (lR x X.N) x v (qe (B.mem x hm)) e3 vis;show⟨u,ru,.inr ⟨aay B hm,?_⟩⟩;rcases lk with⟨z,_⟩ |⟨_,c,hc,q⟩
  .have z:X.env.scope.names.lookup x=some .local:=z;rcases B.out x hm with z' |z' <;> rw[z] at z' <;> cases z'
  .show⟨c,Pb B hm hc I.ok.has,q.keeps keep⟩
 case free=>
  show upd H s.heap.objs.size (.lst []) C=none;rw[upd_ne (show @Ne Nat C s.heap.objs.size by omega)];show I.hok.fresh (show @LE.le Nat _ s.heap.objs.size C by omega)
 case freeC=>
  intro x c h;rcases lV B I.ok.has h with⟨_,a2⟩ |⟨_,a2⟩
  .rw[upd_ne (show @Ne Nat c s.heap.objs.size by omega)];show I.hok.fresh (show @LE.le Nat _ s.heap.objs.size c by omega)
  .have:=V7 x c a2;rw[upd_ne (show @Ne Nat c s.heap.objs.size by omega)];show I.freeC x c a2
 case new=>
  show⟨ahp _,[],0,.nil,abG _ _ (z1f _ rfl)⟩
 case len=>
  show (pull X.N (eE scope) ts.length σ).length=(ts++eE scope).length;rw[yR,z1d]
theorem adv{fp:List afG}{C:afG}(B:Ea X.env.scope scope ts X.N)(j:In X O H ρ σ):In (cV X scope ts C s H fp) O H (pull X.N (eE scope) ts.length ρ) (pull X.N (eE scope) ts.length σ):=by
 show⟨⟨λi e h=>?_,λi k e e' v hik hi hk oi ok si sk=>?_,λi k rows a rs e v hik hi si ha hk ok sk=>?_⟩,j.al,?_,?_⟩
 .let⟨m,x,rfl,e1,e2⟩:=nP h;let⟨v,e3,r⟩:=j.env.get _ e e2;show⟨v,by rw[xZ e1,e3];rfl,r⟩
 .let⟨m,x,rfl,e1,e2⟩:=nP hi;let⟨m',x',rfl,e1',e2'⟩:=nP hk;have hx:x≠x':=λz=>by
   subst z;have nd:=(ale.mp B.nd).2.1;show hik (by rw[nodup_ix nd e1 e1'])
  have hm:=B.mem x (ago e1);have hm':=B.mem x' (ago e1');have hne:lR x X.N≠lR x' X.N:=λz=>by
   have q1:=qe hm;have q2:=qe hm';rw[z,q2] at q1;show hx (agb q1).symm
  rw[xZ e1] at si;rw[xZ e1'] at sk;show j.env.sep _ _ e e' v hne e2 e2' oi ok (join_some (agb si)) (join_some (agb sk))
 .let⟨m,x,rfl,e1,e2⟩:=nP hi;let⟨m',x',rfl,e1',e2'⟩:=nP hk;have hx:x≠x':=λz=>by
   subst z;have nd:=(ale.mp B.nd).2.1;show hik (by rw[nodup_ix nd e1 e1'])
  have hm:=B.mem x (ago e1);have hm':=B.mem x' (ago e1');have hne:lR x X.N≠lR x' X.N:=λz=>by
   have q1:=qe hm;have q2:=qe hm';rw[z,q2] at q1;show hx (agb q1).symm
  rw[xZ e1] at si;rw[xZ e1'] at sk;show j.env.rW _ _ rows a rs e v hne e2 (join_some (agb si)) ha e2' ok (join_some (agb sk))
 .show (pull X.N (eE scope) ts.length σ).length=(ts++eE scope).length;rw[yR,z1d]
 .show (pull X.N (eE scope) ts.length ρ).length=(ts++eE scope).length;rw[yR,z1d]
end
theorem jB:1000000<sizeLine:=by rw[ahA];decide
section
variable{X:Cx}
theorem In.back{ρ1:aq}(j:In Y O H ρ1 σ)(h0:∀i,i<n->ρ[i]?=some none)(h1:∀i,n<=i->ρ1[i]?=ρ[i]?)(hl:ρ.length=Y.N.length):In Y O H ρ σ:=by
 have sub:∀(i:Nat) e,ρ[i]?=some (some e)->ρ1[i]?=some (some e):=λi e h=>by
  by_cases hi:i<n
  .rw[h0 i hi] at h;cases h
  .rw[h1 i ()];show h
 show⟨⟨λi e h=>j.env.get i e (sub i e h),λi k e e' v hik hi hk=>j.env.sep i k e e' v hik (sub i e hi) (sub k e' hk),λi k rows a rs e v hik hi si ha hk=>j.env.rW i k rows a rs e v hik (sub i _ hi) si ha (sub k e hk)⟩,j.al,j.len,hl⟩
theorem X6{l:List (Option α)}(h:i<n):(pull N caps n l)[i]?=some none:=by
 unfold pull;rw[af4 (by simpa using h),ah2,z9p h]
theorem In.go{O':afG->Prop}{H':Hp}(j:In Y O H ρ σ)(hv:∀(i:Nat) e,ρ[i]?=some (some e)->e.Uj=true)(r:f9 Y.K O H O' H')(al:∀a,O' a->∃o,H' a=some o):In Y O' H' ρ σ:=by
 show⟨⟨λi e h=>?_,λi k e e' v _ hi _ oi=>?_,λi k rows a rs e v _ hi=>by cases hv i _ hi⟩,al,j.len,j.rY⟩
 .let⟨v,h1,h2⟩:=j.env.get i e h;show⟨v,h1,?_⟩;cases e with
  |val d=>show Rep.go r h2
  |lst _=>cases hv i _ h
  |Bt _=>cases hv i _ h
  |rws _=>cases hv i _ h
  |obj _=>cases hv i _ h
 .rw[abY (hv i e hi)] at oi;cases oi
theorem Lr:∀(i:Nat) e,(pull N caps n (ρ.map yS))[i]?=some (some e)->e.Uj=true:=λi e h=>by
 let⟨_,_,_,_,q⟩:=nP h;show (uW q).2
end
inductive So where
 |bad |nx (ρ:aq) |rt (d:D) |bk (ρ:aq) |ct (ρ:aq) |ex (c:Str) (ρ:aq)
def Oo(H0:Hp)(O0:afG->Prop)(H:Hp)(ρ:aq)(σ:St):Prop:=∀(i:Nat) (rows:List (List D)) (a:afG) (rs:List afG),ρ[i]?=some (some (.rws rows))->σ[i]?=some (some (.ref a))->H a=some (.lst (rs.map V.ref))->∀r∈rs,H0 r=none/\¬O0 r
structure At(X:Cx)(H0:Hp)(O0 O:afG->Prop)(H:Hp)(ρ:aq)(σ:St):Prop where
 same:Same H0 H
 gb:f9 X.K O0 H0 O H
 sub:∀a,O0 a->O a
 inn:In X O H ρ σ
 mine:∀(i:Nat) e a,ρ[i]?=some (some e)->e.own=true->σ[i]?=some (some (.ref a))->H0 a=none/\¬O0 a
 Ef:Oo H0 O0 H ρ σ
def yc(X:Cx)(H0:Hp)(O0 O:afG->Prop)(H:Hp)(E:Ends)(o:So):Prop:=match o with
 | .nx ρ'=>∀σ' H' O',At X H0 O0 O' H' ρ' σ'->f9 X.K O H O' H'->E.nx σ' H'
 | .bk ρ'=>∀σ' H' O',At X H0 O0 O' H' ρ' σ'->f9 X.K O H O' H'->E.bk σ' H'
 | .ct ρ'=>∀σ' H' O',At X H0 O0 O' H' ρ' σ'->f9 X.K O H O' H'->E.ct σ' H'
 | .rt d=>∀v H',Same H0 H'->Rep X.K O0 H' d v->E.rt v H'
 | .ex c ρ'=>∀σ' H' O',At X H0 O0 O' H' ρ' σ'->Lh X c σ' H'
 | .bad=>False
theorem yc.go{H1:Hp}{O1:afG->Prop}{E:Ends}{o:So}(h:yc X H0 O0 O H E o)(r:f9 X.K O H O1 H1):yc X H0 O0 O1 H1 E o:=by
 cases o with
 |bad=>show h
 |rt d=>show h
 |bk ρ2=>show λσ2 H2 O2 j2 r2=>h σ2 H2 O2 j2 (r.trans r2)
 |ct ρ2=>show λσ2 H2 O2 j2 r2=>h σ2 H2 O2 j2 (r.trans r2)
 |nx ρ2=>show λσ2 H2 O2 j2 r2=>h σ2 H2 O2 j2 (r.trans r2)
 |ex c ρ2=>show h
def tS(X:Cx)(g:aq->So):TS:=λE σ H=>∃H0 O0 O ρ,At X H0 O0 O H ρ σ/\yc X H0 O0 O H E (g ρ)
def DS(X:Cx)(st:agl)(g:aq->So):Prop:=PS X st (tS X g)
def mY(X:Cx)(st:List agl)(g:aq->So):Prop:=PSs X st (tS X g)
theorem PS.imp{e:agl}{t t':TS}(h:PS X e t)(w:∀σ H Q,t' Q σ H->t Q σ H):PS X e t':=λpins s σ H Q I q=>h pins s σ H Q I (w σ H Q q)
theorem PSs.imp{e:List agl}{t t':TS}(h:PSs X e t)(w:∀σ H Q,t' Q σ H->t Q σ H):PSs X e t':=λpins s σ H Q I q=>h pins s σ H Q I (w σ H Q q)
section
variable{X:Cx}{H0 H H1:Hp}{O0 O:afG->Prop}
theorem Oo.of(h:Oo H0 O0 H ρ σ)(w:∀(i:Nat) (rows:List (List D)) (a:afG) (rs:List afG),ρ[i]?=some (some (.rws rows))->σ[i]?=some (some (.ref a))->H1 a=some (.lst (rs.map V.ref))->H a=some (.lst (rs.map V.ref))):Oo H0 O0 H1 ρ σ:=λi rows a rs hi hs ha=>h i rows a rs hi hs (w i rows a rs hi hs ha)
theorem At.grow(j:At X H0 O0 O H ρ σ)(s:Same H H1):At X H0 O0 O H1 ρ σ:=⟨j.same.trans s,j.gb.trans (Same.gb s),j.sub,j.inn.same s,j.mine,j.Ef.of λi rows a rs hi hs ha=>j.inn.env.back s hi hs ha⟩
theorem At.set(j:At X H0 O0 O H ρ σ)(hi:i<X.N.length)(r:Rep X.K O H d v):At X H0 O0 O H (ρ.set i (some (.val d))) (σ.set i (some v)):=by
 have h1:i<ρ.length:=by rw[j.inn.rY];show hi
 show⟨j.same,j.gb,j.sub,j.inn.set hi r,λk e a h ho hs=>?_,λk rows a rs h hs=>?_⟩
 .by_cases hk:k=i
  .subst hk;rw[z2a h1] at h;cases h;cases ho
  .rw[z1e (agc hk)] at h hs;show j.mine k e a h ho hs
 .by_cases hk:k=i
  .subst hk;rw[z2a h1] at h;cases h
  .rw[z1e (agc hk)] at h hs;show j.Ef k rows a rs h hs
def V8:Option Ent->Option Ent
 |some (.lst ds)=>some (.val (.lst ds))
 |some (.rws rows)=>some (.val (.lst (rows.map D.lst)))
 |o=>o
def eF(ρ:aq):aq:=ρ.map V8
def Uk(H:Hp)(ρ:aq)(σ:St)(O:afG->Prop):afG->Prop:=λa=>O a/\(∀(i:Nat) ds,ρ[i]?=some (some (.lst ds))->σ[i]?≠some (some (.ref a)))/\∀(i:Nat) (rows:List (List D)) (b:afG) (rs:List afG),ρ[i]?=some (some (.rws rows))->σ[i]?=some (some (.ref b))->H b=some (.lst (rs.map V.ref))->a∉b::rs
theorem Gy{e:Ent}(h:(eF ρ)[i]?=some (some e)):(ρ[i]?=some (some e)/\(∀ds,e≠.lst ds)/\∀rows,e≠.rws rows)\/(∃ds,ρ[i]?=some (some (.lst ds))/\e= .val (.lst ds))\/∃rows,ρ[i]?=some (some (.rws rows))/\e= .val (.lst (rows.map D.lst)):=by
 unfold eF at h;rw[z2b] at h;cases q:ρ[i]? with
 |none=>rw[q] at h;cases h
 | some o=>
  rw[q] at h;have h:V8 o=some e:=agb h;cases o with
  |none=>cases h
  | some e'=>
   cases e' with
   |val d=>cases h;show .inl ⟨rfl,(λ_ z=>by cases z),(λ_ z=>by cases z)⟩
   |lst ds=>cases h;show .inr (.inl ⟨ds,rfl,rfl⟩)
   |Bt kvs=>cases h;show .inl ⟨rfl,(λ_ z=>by cases z),(λ_ z=>by cases z)⟩
   |obj t=>cases h;show .inl ⟨rfl,(λ_ z=>by cases z),(λ_ z=>by cases z)⟩
   |rws rows=>cases h;show .inr (.inr ⟨rows,rfl,rfl⟩)
theorem Ls{O':afG->Prop}:∀{rs:List afG} {rows:List (List D)},rs.length=rows.length->(∀(i:Nat) r row,rs[i]?=some r->rows[i]?=some row->Rep K O' H (.lst row) (.ref r))->aN K O' H (rows.map D.lst) (rs.map V.ref)
 |[],[],_,_=> .nil
 |[],_::_,h,_=>by cases h
 |_::_,[],h,_=>by cases h
 |r::rs,row::rows,h,n=> .cons (n 0 r row rfl rfl) (Ls (Nat.succ.inj h) λi r row e1 e2=>n (i+1) r row e1 e2)
theorem In.eF(j:In X O H ρ σ):In X (Uk H ρ σ O) H (Pu.eF ρ) σ:=by
 show⟨⟨λi e h=>?_,λi k e e' v hik hi hk oi ok si sk=>?_,λi k rows a rs e v hik hi=>?_⟩,λa z=>j.al a z.1,j.len,by unfold Pu.eF;rw[z1g];show j.rY⟩
 .rcases Gy h with⟨h1,h2,h2'⟩ |⟨ds,h1,rfl⟩ |⟨rows,h1,rfl⟩
  .let⟨v,h3,h4⟩:=j.env.get i e h1;show⟨v,h3,?_⟩;cases e with
   |val d=>show Rep.fewer (λa z=>z.1) h4
   |lst ds=>show absurd rfl (h2 ds)
   |rws rows=>show absurd rfl (h2' rows)
   |obj t=>show h4
   | Bt kvs=>
    let⟨a,ys,e1,o1,e2,k1,r1⟩:=h4;show⟨a,ys,e1,⟨o1,λk ds hk hs=>?_,λk rows b rs hk hs hb hm=>?_⟩,e2,k1,r1.fewer λa z=>z.1⟩
    .by_cases hik:i=k
     .subst hik;rw[h1] at hk;cases hk
     .show j.env.sep i k _ _ v hik h1 hk rfl rfl h3 (by rw[e1];show hs)
    .by_cases hik:i=k
     .subst hik;rw[h1] at hk;cases hk
     .rcases afR.mp hm with z |z
      .show j.env.sep i k _ _ v hik h1 hk rfl rfl h3 (by rw[e1,z];show hs)
      .show (j.env.rW k i rows b rs _ v (agc hik) hk hs hb h1 rfl h3).1 a z e1
  .let⟨v,h3,a,xs,e1,o1,e2,r1⟩:=j.env.get i _ h1;show⟨v,h3,by rw[e1];show nW (SqL.of e2) (λz=>z.2.1 i ds h1 (by rw[<-e1];show h3)) (r1.fewer λa z=>z.1)⟩
  .let⟨v,h3,a,rs,e1,R⟩:=j.env.get i _ h1;show⟨v,h3,?_⟩;have hs:σ[i]?=some (some (.ref a)):=by rw[<-e1];show h3
   rw[e1];show nW (SqL.of R.at_) (λz=>z.2.2 i rows a rs h1 hs R.at_ (afT ..)) (Ls R.len λk r row q1 q2=>?_);let⟨_,xs,q3,q4⟩:=R.row k r row q1 q2;show nW (SqL.of q3) (λz=>z.2.2 i rows a rs h1 hs R.at_ (z2f _ (ago q1))) (q4.fewer λa z=>z.1)
 .have un:∀{m:Nat} {e:Ent},(Pu.eF ρ)[m]?=some (some e)->e.own=true->ρ[m]?=some (some e):=λ{m e} h ho=>by
   rcases Gy h with⟨h1,_⟩ |⟨ds,_,rfl⟩ |⟨rows,_,rfl⟩
   .show h1
   .cases ho
   .cases ho
  show j.env.sep i k e e' v hik (un hi oi) (un hk ok) oi ok si sk
 .rcases Gy hi with⟨_,_,h2⟩ |⟨ds,_,z⟩ |⟨_,_,z⟩
  .show absurd rfl (h2 rows)
  .cases z
  .cases z
theorem At.afd(j:At X H0 O0 O H ρ σ):∀a,O0 a->Uk H ρ σ O a:=λa z=>⟨j.sub a z,λi ds h hs=>(j.mine i _ a h rfl hs).2 z,λi rows b rs h hs hb hm=>by
 rcases afR.mp hm with q |q
 .subst q;show (j.mine i _ _ h rfl hs).2 z
 .show (j.Ef i rows b rs h hs hb a q).2 z⟩
end
section
variable{X:Cx}{st:agl}{rest:List agl}{g k:aq->So}{f:aq->R D}{p:aq->R Bool}
def aQ(g k:aq->So):aq->So:=λρ=>match g ρ with
 | .nx ρ'=>k ρ'
 |o=>o
theorem cP:mY X [] .nx:=PSs.imp pss_nil λσ H E h=>by
 let⟨H0,O0,O,ρ,j,h⟩:=h;show h σ H O j .refl
theorem aL(h:DS X st g):mY X [st] g:=pss_one h
theorem aF(h1:DS X st g)(h2:mY X rest k):mY X (st::rest) (aQ g k):=by
 show PSs.imp (pss_cons h1 h2) λσ H E h=>?_;let⟨H0,O0,O,ρ,j,h⟩:=h;unfold aQ at h;show⟨H0,O0,O,ρ,j,?_⟩;cases e1:g ρ with
 |bad=>rw[e1] at h;show h
 |rt d=>rw[e1] at h;show h
 |bk ρ'=>rw[e1] at h;show h
 |ct ρ'=>rw[e1] at h;show h
 |ex c ρ'=>rw[e1] at h;show h
 | nx ρ'=>
  rw[e1] at h;have h:yc X H0 O0 O H E (k ρ'):=h;show λσ' H' O' j' r'=>⟨H0,O0,O',ρ',j',h.go r'⟩
def lM(r:R D)(ρ:aq)(k:D->So):So:=match r with
 | .ok d=>k d
 | .err c=> .ex c ρ
 | .bad=> .bad
def retS(f:aq->R D):aq->So:=λρ=>lM (f (eF ρ)) ρ .rt
theorem bf(he:DE X e f):DS X (.Return (some e) pos) (retS f):=by
 show PS.imp (ps_ret he) λσ H E h=>?_;let⟨H0,O0,O,ρ,j,h⟩:=h;show⟨eF ρ,Uk H ρ σ O,j.inn.eF,?_⟩;unfold retS lM at h;cases e1:f (eF ρ) with
 |bad=>rw[e1] at h;show h
 |err c=>rw[e1] at h;show h σ H O j
 |ok d=>rw[e1] at h;show λv H' s r=>h v H' (j.same.trans s) (Rep.fewer j.afd r)
def nD(f:aq->R D):aq->So:=λρ=>lM (f (eF ρ)) ρ λ_=> .nx ρ
theorem nY(he:DE X e f)(hs:ajV e none pos.line X.env=pure false:=by rfl):DS X (.Expr e pos) (nD f):=by
 show PS.imp (ps_expr he hs) λσ H E h=>?_;let⟨H0,O0,O,ρ,j,h⟩:=h;show⟨eF ρ,Uk H ρ σ O,j.inn.eF,?_⟩;unfold nD lM at h;cases e1:f (eF ρ) with
 |bad=>rw[e1] at h;show h
 |err c=>rw[e1] at h;show h σ H O j
 |ok d=>rw[e1] at h;show λv H' s r=>h σ H' O (j.grow s) (Same.gb s)
def bF(f:aq->R D)(gt:D->aq->R aq):aq->So:=λρ=>lM (f ρ) ρ λd=>match gt d ρ with
 | .ok ρ'=> .nx ρ'
 |_=> .bad
theorem cu(i:Nat){pos':Pos}(hN:X.N.Nodup)(he:DE X e f)(hi:X.N[i]?=some x:=by rfl)(hx:Loc X.env.scope x:=by first |show ag1 rfl |show agK rfl)(hs:ajV e (some (.Name x pos')) pos.line X.env=pure false:=by rfl)
  (hf:X.fn x=true\/X.env.scope.names.lookup x=some .local:=by first |show .inl rfl |show .inr rfl):DS X (.Assign [.Name x pos'] e pos) (bF f (aH i)):=by
 show PS.imp (ps_set hN hi hx he hs hf) λσ H E h=>?_;let⟨H0,O0,O,ρ,j,h⟩:=h;show⟨ρ,O,j.inn,?_⟩;unfold bF lM at h;cases e1:f ρ with
 |bad=>rw[e1] at h;show h
 |err c=>rw[e1] at h;show h σ H O j
 |ok d=>rw[e1] at h;show λv H' s r=>h _ H' O ((j.grow s).set (z1b hi).1 r) (Same.gb s)
theorem mL(i k:Nat){x y:Str}{py pt:Pos}{kt}(hc:X.calm=true)(hN:X.N.Nodup)(he:DE X e f)(hi:X.N[i]?=some x:=by rfl)(hk:X.N[k]?=some y:=by rfl)
  (hx:Loc X.env.scope x:=by first |show ag1 rfl |show agK rfl)(hy:Loc X.env.scope y:=by first |show ag1 rfl |show agK rfl)
  (hfx:X.fn x=true\/X.env.scope.names.lookup x=some .local:=by first |show .inl rfl |show .inr rfl)(Pj:X.fn y=true\/X.env.scope.names.lookup y=some .local:=by first |show .inl rfl |show .inr rfl)
  (hs:ajH [.Tuple [.Name x px,.Name y py] kt pt] e pos.line X.env=pure false:=by rfl)(hw:ajI [.Tuple [.Name x px,.Name y py] kt pt] e X.env=pure none:=by rfl):
  DS X (.Assign [.Tuple [.Name x px,.Name y py] kt pt] e pos) (bF f (c7 (dg 2 (aW (aH i) (aW (aH k) nilG))))):=by
 show PS.imp (ps_asg he (pg_tup hc (pgs_cons (pg_name hN hi hx hfx) (pgs_cons (pg_name hN hk hy Pj) pgs_nil))) hs hw) λσ H E h=>?_;let⟨H0,O0,O,ρ,j,h⟩:=h;show⟨ρ,O,j.inn,?_⟩;unfold bF lM at h;cases e1:f ρ with
 |bad=>rw[e1] at h;show h
 |err c=>rw[e1] at h;show h σ H O j
 | ok d=>
  rw[e1] at h;intro v H' s r;cases d with
  | tup ds=>
   match ds,h,r with
   |[],h,_=>show h.elim
   |[_],h,_=>show h.elim
   |_::_::_::_,h,_=>show (show False by simpa[c7,dg,yc] using h).elim
   | [d1,d2],h,r=>
    let⟨a,xs,rfl,hq,rs⟩:=r.tup;let⟨v1,v2,rfl,r1,r2⟩:=rs.two;show⟨a,[v1,v2],rfl,hq,rfl,v1,[v2],rfl,v2,[],rfl,rfl,?_⟩;show h _ H' O (((j.grow s).set (z1b hi).1 r1).set (z1b hk).1 r2) (Same.gb s)
  |_=>show h.elim
def eX(p:aq->R Bool)(g k:aq->So):aq->So:=λρ=>match p (eF ρ) with
 | .ok true=>g ρ
 | .ok false=>k ρ
 | .err c=> .ex c ρ
 | .bad=> .bad
theorem Ul{g:aq->So}{E:Ends}{H1:Hp}(j:At X H0 O0 O H ρ σ)(s:Same H H1)(h:yc X H0 O0 O H E (g ρ)):tS X g E σ H1:=
 ⟨H0,O0,O,ρ,j.grow s,h.go (Same.gb s)⟩
theorem dH{c:afV}{a b:List agl}(hc:DT X c p)(ha:mY X a g)(hb:mY X b k):DS X (.If c a b pos) (eX p g k):=by
 show PS.imp (ps_if hc ha hb) λσ H E h=>?_;let⟨H0,O0,O,ρ,j,h⟩:=h;show⟨eF ρ,Uk H ρ σ O,j.inn.eF,?_⟩;unfold eX at h;cases e1:p (eF ρ) with
 |bad=>rw[e1] at h;show h
 |err c=>rw[e1] at h;show h σ H O j
 | ok t=>
  rw[e1] at h;intro b' H' s e;subst e;cases t with
  |true=>rw[z9p rfl];show Ul j s h
  |false=>rw[z9n agf];show Ul j s h
theorem uX:DS X st (λ_=> .bad):=λpins s σ H E I h=>by
 let⟨_,_,_,_,_,h⟩:=h;show h.elim
def forL(gt:D->aq->R aq)(b:aq->So):List D->aq->So
 |[],ρ=> .nx ρ
 | x ::xs,ρ=>match gt x ρ with
  | .ok ρ1=>match b ρ1 with
   | .nx ρ2=>forL gt b xs ρ2
   | .ct ρ2=>forL gt b xs ρ2
   | .bk ρ2=> .nx ρ2
   |o=>o
  |_=> .bad
def nQ(fi:aq->R (List D))(gt:D->aq->R aq)(b:aq->So):aq->So:=λρ=>match fi ρ with
 | .ok xs=>forL gt b xs ρ
 | .err c=> .ex c ρ
 | .bad=> .bad
inductive adw (X:Cx) (gt:D->aq->R aq) (v:V) (σ:St) (H:Hp) (Q:St->Hp->Prop):Prop
 |mk (H0:Hp) (O0 O:afG->Prop) (ρ:aq) (d:D) (ρ':aq) (j:At X H0 O0 O H ρ σ) (r:Rep X.K O H d v) (e:gt d ρ= .ok ρ') (q:∀σ',At X H0 O0 O H ρ' σ'->Q σ' H):adw X gt v σ H Q
def DGA(X:Cx)(tg:afV)(gt:D->aq->R aq):Prop:=PG X tg λv σ H Q=>adw X gt v σ H Q
theorem qm(i:Nat)(hN:X.N.Nodup)(hi:X.N[i]?=some x:=by rfl)(hx:Loc X.env.scope x:=by first |show ag1 rfl |show agK rfl)(hf:X.fn x=true\/X.env.scope.names.lookup x=some .local:=by first |show .inl rfl |show .inr rfl):DGA X (.Name x pos) (aH i):=by
 intro pins s σ H v u Q I r h;let⟨H0,O0,O,ρ,d,ρ',j,rd,e,q⟩:=h;cases e;show pg_name hN hi hx hf pins s σ H v u Q I r (q _ (j.set (z1b hi).1 rd))
theorem yd(i k:Nat){x y:Str}{py:Pos}{kt}(hc:X.calm=true)(hN:X.N.Nodup)(hi:X.N[i]?=some x:=by rfl)(hk:X.N[k]?=some y:=by rfl)
  (hx:Loc X.env.scope x:=by first |show ag1 rfl |show agK rfl)(hy:Loc X.env.scope y:=by first |show ag1 rfl |show agK rfl)
  (hfx:X.fn x=true\/X.env.scope.names.lookup x=some .local:=by first |show .inl rfl |show .inr rfl)(Pj:X.fn y=true\/X.env.scope.names.lookup y=some .local:=by first |show .inl rfl |show .inr rfl):
  DGA X (.Tuple [.Name x px,.Name y py] kt pos) (c7 (dg 2 (aW (aH i) (aW (aH k) nilG)))):=by
 intro pins s σ H v u Q I r h;let⟨H0,O0,O,ρ,d,ρ',j,rd,e,q⟩:=h;cases d with
 | tup ds=>
  match ds,e,rd with
  |[],e,_=>cases e
  |[_],e,_=>cases e
  |_::_::_::_,e,_=>simp[c7,dg] at e
  | [d1,d2],e,rd=>
   let⟨a,xs,rfl,hq,rs⟩:=rd.tup;let⟨v1,v2,rfl,r1,r2⟩:=rs.two;cases e;show pg_tup hc (pgs_cons (pg_name hN hi hx hfx) (pgs_cons (pg_name hN hk hy Pj) pgs_nil)) rfl rfl pins s σ H _ u Q I r ⟨a,[v1,v2],rfl,hq,rfl,v1,[v2],rfl,v2,[],rfl,rfl,?_⟩;show q _ ((j.set (z1b hi).1 r1).set (z1b hk).1 r2)
 |_=>cases e
theorem lZ{tg iter:afV}{b:aq->So}(hp:PassesOwn (model X.prog X.w) X.A X.env X.xe)(hc:X.calm=true)(hi:DI X tg iter fi)(hg:DGA X tg gt)(hb:mY X body b)
  (hs:∀x,aio iter X.env x=pure x:=by intro _;rfl):DS X (.For tg iter body [] pos) (nQ fi gt b):=by
 show PS.imp (ps_for hp hc hi hg hb hs) λσ H E h=>?_;let⟨H0,O0,O,ρ,j,h⟩:=h;show⟨ρ,O,j.inn,?_⟩;unfold nQ at h;cases e1:fi ρ with
 |bad=>rw[e1] at h;show h
 |err c=>rw[e1] at h;show h σ H O j
 | ok xs =>
  rw[e1] at h;have h:yc X H0 O0 O H E (forL gt b xs ρ):=h;intro J H1 s1 yr;have j1:=j.grow s1;have q1:f9 X.K O H O H1:=Same.gb s1;show⟨λi m σ' H'=>∃O' ρ',At X H0 O0 O' H' ρ' σ'/\f9 X.K O H1 O' H'/\i<=xs.length/\m=xs.length - i/\forL gt b (xs.drop i) ρ'=forL gt b xs ρ,⟨_,O,ρ,j1,.refl,ahp _,rfl,()⟩,?_⟩
  rintro i m σ' H' ⟨O',ρ',j',r',hil,rfl,hf⟩
  have X7:=yr O' H' r' i;by_cases hlt:i<xs.length
  .have ed:xs.drop i=xs[i]::xs.drop (i+1):=ahr hlt;let⟨jgo,jy⟩:=X7.1 xs[i] (by simp[hlt]);show .inr ⟨jgo,λσ2 H2=>∃O2 ρ2,At X H0 O0 O2 H2 ρ2 σ2/\f9 X.K O H1 O2 H2/\forL gt b (xs.drop (i+1)) ρ2=forL gt b xs ρ,?_,λx H2 y=>?_⟩
   .rintro σ2 H2 ⟨O2,ρ2,j2,r2,hf2⟩
    show⟨xs.length - (i+1),(),O2,ρ2,j2,r2,(),rfl,hf2⟩
   .let⟨sm,rep⟩:=jy x H2 y;rw[ed] at hf;have hf:(match gt xs[i] ρ' with
     | .ok ρ1=>match b ρ1 with
      | .nx ρ2=>forL gt b (xs.drop (i+1)) ρ2
      | .ct ρ2=>forL gt b (xs.drop (i+1)) ρ2
      | .bk ρ2=> .nx ρ2
      |o=>o
     |_=> .bad)=forL gt b xs ρ:=hf
    cases e2:gt xs[i] ρ' with
    |bad=>rw[e2] at hf;rw[<-hf] at h;show h.elim
    |err c=>rw[e2] at hf;rw[<-hf] at h;show h.elim
    | ok ρ1=>
     rw[e2] at hf;show⟨H0,O0,O',ρ',xs[i],ρ1,j'.grow sm,rep,e2,λσ3 j3=>?_⟩;show⟨H0,O0,O',ρ1,j3,?_⟩;have r3:f9 X.K O H1 O' H2:=r'.trans (Same.gb sm);have hf:(match b ρ1 with
      | .nx ρ2=>forL gt b (xs.drop (i+1)) ρ2
      | .ct ρ2=>forL gt b (xs.drop (i+1)) ρ2
      | .bk ρ2=> .nx ρ2
      |o=>o)=forL gt b xs ρ:=hf
     cases e3:b ρ1 with
     |bad=>rw[e3] at hf;rw[<-hf] at h;show h
     |rt d=>rw[e3] at hf;rw[<-hf] at h;show h
     |ex c ρ2=>rw[e3] at hf;rw[<-hf] at h;show h
     |bk ρ2=>rw[e3] at hf;rw[<-hf] at h;show λσ4 H4 O4 j4 r4=>h σ4 H4 O4 j4 (q1.trans (r3.trans r4))
     |nx ρ2=>rw[e3] at hf;show λσ4 H4 O4 j4 r4=>⟨O4,ρ2,j4,r3.trans r4,hf⟩
     |ct ρ2=>rw[e3] at hf;show λσ4 H4 O4 j4 r4=>⟨O4,ρ2,j4,r3.trans r4,hf⟩
  .have ei:i=xs.length:=()
   subst ei;have hf:forL gt b (xs.drop xs.length) ρ'=forL gt b xs ρ:=hf;rw[ai4] at hf;rw[<-hf] at h;show .inl ⟨X7.2 (z0g _),h σ' H' O' j' (q1.trans r')⟩
def oO(p:aq->R Bool)(b:aq->So):Nat->aq->So
 |0,_=> .bad
 | n +1,ρ=>match p (eF ρ) with
  | .ok true=>match b ρ with
   | .nx ρ'=>oO p b n ρ'
   | .ct ρ'=>oO p b n ρ'
   | .bk ρ'=> .nx ρ'
   |o=>o
  | .ok false=> .nx ρ
  | .err c=> .ex c ρ
  | .bad=> .bad
theorem aaz(n:Nat){c:afV}{b:aq->So}(hp:PassesOwn (model X.prog X.w) X.A X.env X.xe)(hc:DT X c p)(hb:mY X body b):DS X (.While c body [] pos) (oO p b n):=by
 show PS.imp (ps_while hp hc hb) λσ H E h=>?_;let⟨H0,O0,O,ρ,j,h⟩:=h;have h:yc X H0 O0 O H E (oO p b n ρ):=h;show⟨λm σ' H'=>∃O' ρ',At X H0 O0 O' H' ρ' σ'/\f9 X.K O H O' H'/\oO p b m ρ'=oO p b n ρ,⟨n,O,ρ,j,.refl,rfl⟩,?_⟩
 rintro m σ' H' ⟨O',ρ',j',r',hf⟩
 show⟨eF ρ',Uk H' ρ' σ' O',j'.inn.eF,?_⟩;cases m with
 |zero=>rw[<-hf] at h;show h.elim
 | succ m =>
  have hf:(match p (eF ρ') with
   | .ok true=>match b ρ' with
    | .nx ρ'=>oO p b m ρ'
    | .ct ρ'=>oO p b m ρ'
    | .bk ρ'=> .nx ρ'
    |o=>o
   | .ok false=> .nx ρ'
   | .err c=> .ex c ρ'
   | .bad=> .bad)=oO p b n ρ:=hf
  cases e1:p (eF ρ') with
  |bad=>rw[e1] at hf;rw[<-hf] at h;show h
  |err c=>rw[e1] at hf;rw[<-hf] at h;show h σ' H' O' j'
  | ok t =>
   rw[e1] at hf;intro t' H1 s1 e;subst e;have j1:=j'.grow s1;have r1:f9 X.K O H O' H1:=r'.trans (Same.gb s1);cases t with
   | false=>
    rw[z9n agf];rw[<-hf] at h;show h σ' H1 O' j1 r1
   | true=>
    rw[z9p rfl];show⟨λσ2 H2=>∃O2 ρ2,At X H0 O0 O2 H2 ρ2 σ2/\f9 X.K O H O2 H2/\oO p b m ρ2=oO p b n ρ,?_,H0,O0,O',ρ',j1,?_⟩
    .rintro σ2 H2 ⟨O2,ρ2,j2,r2,hf2⟩
     show⟨m,(),O2,ρ2,j2,r2,hf2⟩
    .have hf:(match b ρ' with
      | .nx ρ'=>oO p b m ρ'
      | .ct ρ'=>oO p b m ρ'
      | .bk ρ'=> .nx ρ'
      |o=>o)=oO p b n ρ:=hf
     cases e3:b ρ' with
     |bad=>rw[e3] at hf;rw[<-hf] at h;show h
     |rt d=>rw[e3] at hf;rw[<-hf] at h;show h
     |ex c ρ2=>rw[e3] at hf;rw[<-hf] at h;show h
     |bk ρ2=>rw[e3] at hf;rw[<-hf] at h;show λσ4 H4 O4 j4 r4=>h σ4 H4 O4 j4 (r1.trans r4)
     |nx ρ2=>rw[e3] at hf;show λσ4 H4 O4 j4 r4=>⟨O4,ρ2,j4,r1.trans r4,hf⟩
     |ct ρ2=>rw[e3] at hf;show λσ4 H4 O4 j4 r4=>⟨O4,ρ2,j4,r1.trans r4,hf⟩
end
section
variable{X:Cx}{a b e:afV}{f g:aq->R D}
def aeL(K:w0a)(t:TA):TE:=λσ H Q=>t σ H λxs H1=>xs.length<=sizeLine/\∀p,H1 p=none->K.lookup p=none->Q (.ref p) (upd H1 p (.lst xs))
theorem Inv.afe(I:Inv X pins σ H s):X.K.lookup s.heap.objs.size=none:=by
 cases q:X.K.lookup s.heap.objs.size with
 |none=>rfl
 |some o=>show absurd (z2c (I.kIn _ _ q)) (agX _)
theorem Um{t:TA}(h:PA X es t):PE X (.List es pos) (aeL X.K t):=by
 intro pins s σ H Q I hq;show wpAny_List_spliced (thn (h pos pins s σ H _ I hq) λus s1 ⟨xs,H1,I1,r,z,q⟩=>⟨by rw[<-r.length];show z,?_⟩);have hf:H1 s1.heap.objs.size=none:=I1.hok.fresh (z0g _);show⟨.ref s1.heap.objs.size,upd H1 s1.heap.objs.size (.lst xs),I1.laid (t':=s1.toks) (λb u e=>z1a _ e) (z0g _) ?_,rfl,q _ hf (Inv.afe I1)⟩;show⟨z,us,0,r,z1f _ rfl⟩
def newL(fa:aq->R (List D))(i:Nat):aq->So:=λρ=>match fa ρ with
 | .ok ds=>if ds.length<=1000000 then .nx (ρ.set i (some (.lst ds))) else .bad
 | .err c=> .ex c ρ
 | .bad=> .bad
theorem At.own(j:At X H0 O0 O H ρ σ)(hi:i<X.N.length){o:HO}{en:Ent}(hp:H p=none)(hk:X.K.lookup p=none)(ho:en.own=true)
  (hr:rT X.K (λa=>O a\/a=p) (upd H p o) en (.ref p))(hnr:∀rows,en≠.rws rows:=by intro _ z;cases z):
  At X H0 O0 (λa=>O a\/a=p) (upd H p o) (ρ.set i (some en)) (σ.set i (some (.ref p)))/\f9 X.K O H (λa=>O a\/a=p) (upd H p o):=by
 have s1:Same H (upd H p o):=Same.upd hp;have r1:f9 X.K O H (λa=>O a\/a=p) (upd H p o):=⟨(Same.gb (K:=X.K) (O:=O) s1).ext,λa z=>z.elim .inl λe=> .inr (by rw[e];show⟨hp,hk⟩),(Same.gb (K:=X.K) (O:=O) s1).dom⟩;have h1:i<ρ.length:=by rw[j.inn.rY];show hi
 have h2:i<σ.length:=by rw[j.inn.len];show hi
 have X8:¬O p:=j.inn.yP hp;have old:∀{e:Ent} {v:V},rT X.K O H e v->rT X.K (λa=>O a\/a=p) (upd H p o) e v/\(e.own=true->v≠.ref p):=λ{e v} h=>by
  cases e with
  |val d=>show⟨Rep.go r1 h,λz=>by cases z⟩
  | lst ds=>
   let⟨a,xs,e1,o1,e2,r⟩:=h;show⟨⟨a,xs,e1,.inl o1,s1 _ _ e2,r.go r1⟩,λ_ z=>by rw[e1] at z;cases z;show X8 o1⟩
  |obj t=>show⟨uN.same s1 h,λz=>by cases z⟩
  | Bt kvs=>
   let⟨a,xs,e1,o1,e2,k,r⟩:=h;show⟨⟨a,xs,e1,.inl o1,s1 _ _ e2,k,r.go r1⟩,λ_ z=>by rw[e1] at z;cases z;show X8 o1⟩
  | rws rows=>
   let⟨a,rs,e1,R⟩:=h;show⟨⟨a,rs,e1,s1 _ _ R.at_,.inl R.oa,R.nd,R.len,λi r row q1 q2=>let⟨o1,xs,q3,q4⟩:=R.row i r row q1 q2;⟨.inl o1,xs,s1 _ _ q3,q4.go r1⟩⟩,λ_ z=>by rw[e1] at z;cases z;show X8 R.oa⟩
 have bk:∀{k:Nat} {rows:List (List D)} {a:afG} {rs:List afG},ρ[k]?=some (some (.rws rows))->σ[k]?=some (some (.ref a))->upd H p o a=some (.lst (rs.map V.ref))->H a=some (.lst (rs.map V.ref))/\∀r∈rs,O r:=λ{k rows a rs} q1 q2 q3=>by
  have q4:=j.inn.env.back s1 q1 q2 q3;show⟨q4,λr hr=>?_⟩;let⟨rs',R⟩:=j.inn.env.rws q1 q2;have e:=R.at_;rw[q4] at e;rw[Fj (HO.lst.inj (agb e))] at hr;let⟨n,hn⟩:=aiK.mp hr;have hl:=R.len;have hn':=(z1b hn).1;show (R.row n r _ hn (aga ())).1
 show⟨⟨j.same.trans s1,j.gb.trans r1,λa z=> .inl (j.sub a z),⟨⟨λk e h=>?_,λk l e e' v hkl hk' hl ok ol sk sl=>?_,λk l rows a rs e v hkl hk' sk ha hl ol sl=>?_⟩,λa z=>?_,by rw[aiJ];show j.inn.len,by rw[aiJ];show j.inn.rY⟩,λk e a h hoo hs=>?_,λk rows a rs h hs ha=>?_⟩,r1⟩
 .by_cases hki:k=i
  .subst hki;rw[z2a h1] at h;cases h;show⟨.ref p,z2a h2,hr⟩
  .rw[z1e (agc hki)] at h;let⟨v,q1,q2⟩:=j.inn.env.get k e h;show⟨v,by rw[z1e (agc hki)];show q1,(old q2).1⟩
 .by_cases hki:k=i
  .subst hki;rw[z2a h2] at sk;cases sk;rw[z1e hkl] at hl sl;let⟨v,q1,q2⟩:=j.inn.env.get l e' hl;rw[q1] at sl;cases sl;show (old q2).2 ol rfl
  .rw[z1e (agc hki)] at hk' sk;by_cases hli:l=i
   .subst hli;rw[z2a h2] at sl;cases sl;let⟨v,q1,q2⟩:=j.inn.env.get k e hk';rw[q1] at sk;cases sk;show (old q2).2 ok rfl
   .rw[z1e (agc hli)] at hl sl;show j.inn.env.sep k l e e' v hkl hk' hl ok ol sk sl
 .by_cases hki:k=i
  .subst hki;rw[z2a h1] at hk';cases hk';show absurd rfl (hnr rows)
  .rw[z1e (agc hki)] at hk' sk;let⟨ha',hO'⟩:=bk hk' sk ha;by_cases hli:l=i
   .subst hli;rw[z2a h2] at sl;rw[z2a h1] at hl;cases sl;cases hl;show⟨λr hr z=>by cases z;show X8 (hO' _ hr),hnr⟩
   .rw[z1e (agc hli)] at hl sl;show j.inn.env.rW k l rows a rs e v hkl hk' sk ha' hl ol sl
 .rcases z with z |z
  .let⟨u,q⟩:=j.inn.al a z;show⟨u,s1 _ _ q⟩
  .rw[z];show⟨o,upd_same⟩
 .by_cases hki:k=i
  .subst hki;rw[z2a h2] at hs;cases hs;show⟨j.same.free hp,λz=>X8 (j.sub _ z)⟩
  .rw[z1e (agc hki)] at h hs;show j.mine k e a h hoo hs
 .by_cases hki:k=i
  .subst hki;rw[z2a h1] at h;cases h;show absurd rfl (hnr rows)
  .rw[z1e (agc hki)] at h hs;show j.Ef k rows a rs h hs (bk h hs ha).1
theorem qu(i:Nat){pos' p2:Pos}(hN:X.N.Nodup)(ha:DA X es fa)(hi:X.N[i]?=some x:=by rfl)(hx:Loc X.env.scope x:=by first |show ag1 rfl |show agK rfl)(hs:ajV (.List es p2) (some (.Name x pos')) pos.line X.env=pure false:=by rfl)
  (hf:X.fn x=true\/X.env.scope.names.lookup x=some .local:=by first |show .inl rfl |show .inr rfl):DS X (.Assign [.Name x pos'] (.List es p2) pos) (newL fa i):=by
 show PS.imp (ps_set hN hi hx (Um ha) hs hf) λσ H E h=>?_;let⟨H0,O0,O,ρ,j,h⟩:=h;show⟨ρ,O,j.inn,?_⟩;unfold newL at h;cases e1:fa ρ with
 |bad=>rw[e1] at h;show h
 |err c=>rw[e1] at h;show h σ H O j
 | ok ds=>
  rw[e1] at h;intro vs H1 s1 r1;by_cases hl:ds.length<=1000000
  .simp only[z9p hl] at h;show⟨by rw[<-r1.length];show z0b hl iI,λp hp hk=>?_⟩;let⟨j2,r2⟩:=(j.grow s1).own (z1b hi).1 (o:= .lst vs) (en:= .lst ds) hp hk rfl ⟨p,vs,rfl,.inr rfl,upd_same,r1.go ⟨(Same.gb (K:=X.K) (O:=O) (Same.upd hp)).ext,λa z=>z.elim .inl λe=> .inr (by rw[e];show⟨hp,hk⟩),(Same.gb (K:=X.K) (O:=O) (Same.upd hp)).dom⟩⟩;show h _ _ _ j2 ((Same.gb s1).trans r2)
  .simp only[z9n hl] at h;show h.elim
theorem At.chg(j:At X H0 O0 O H ρ σ){e0 en:Ent}{u o:HO}(hi:ρ[i]?=some (some e0))(h0:e0.own=true)(hp:σ[i]?=some (some (.ref p)))(hO:O p)(hu:H p=some u)(hm:Mut (some u))(ho:en.own=true)
  (hr:f9 X.K O H O (upd H p o)->rT X.K O (upd H p o) en (.ref p))(hnr:∀rows,en≠.rws rows:=by intro _ z;cases z):At X H0 O0 O (upd H p o) (ρ.set i (some en)) σ/\f9 X.K O H O (upd H p o):=by
 have nt:∀b xs,Rd H b (.tup xs)->b≠p:=λb xs h z=>by
  subst z;rcases h with h |⟨_,h⟩ <;> rw[hu] at h <;> cases h <;> show hm
 have r1:f9 X.K O H O (upd H p o):=by
  show⟨⟨λb xs h=>?_,λb xs n h=>?_⟩,λa z=> .inl z,λa z=>?_⟩
  .have nb:=nt b xs h;rcases h with h |⟨q,h⟩
   .show .inl (by rw[upd_ne nb];show h)
   .show .inr ⟨q,by rw[upd_ne nb];show h⟩
  .have nb:b≠p:=λz=>n (by rw[z];show hO);rcases h with h |⟨q,h⟩
   .show .inl (by rw[upd_ne nb];show h)
   .show .inr ⟨q,by rw[upd_ne nb];show h⟩
  .by_cases ea:a=p
   .rw[ea,upd_same] at z;cases z
   .rw[upd_ne ea] at z;show z
 have h1:i<ρ.length:=(z1b hi).1;let⟨hH0,hO0⟩:=j.mine i e0 p hi h0 hp;have bk:∀{k:Nat} {rows:List (List D)} {a:afG} {rs:List afG},k≠i->ρ[k]?=some (some (.rws rows))->σ[k]?=some (some (.ref a))->upd H p o a=some (.lst (rs.map V.ref))->H a=some (.lst (rs.map V.ref)):=λ{k rows a rs} hki q1 q2 q3=>by
  have na:a≠p:=λz=>j.inn.env.sep k i _ e0 _ hki q1 hi rfl h0 q2 (by rw[z];show hp);rw[upd_ne na] at q3;show q3
 show⟨⟨λb q z=>?_,j.gb.trans r1,j.sub,⟨⟨λk e h=>?_,λk l e e' v hkl hk' hl ok ol sk sl=>?_,λk l rows a rs e v hkl hk' sk ha hl ol sl=>?_⟩,λa z=>?_,j.inn.len,by rw[aiJ];show j.inn.rY⟩,λk e a h hoo hs=>?_,λk rows a rs h hs ha=>?_⟩,r1⟩
 .rw[upd_ne (ne_of_none z hH0)];show j.same _ _ z
 .by_cases hki:k=i
  .subst hki;rw[z2a h1] at h;cases h;show⟨_,hp,hr r1⟩
  .rw[z1e (agc hki)] at h;let⟨v,q1,q2⟩:=j.inn.env.get k e h;show⟨v,q1,?_⟩;have nv:e.own=true->v≠.ref p:=λz w=>by
    subst w;show j.inn.env.sep k i e e0 _ hki h hi z h0 q1 hp
   cases e with
   |val d=>show Rep.go r1 q2
   | obj t=>show uN.fz (λb o' u hb=>by
     have nb:b≠p:=λz=>by rw[z,hu] at hb;cases hb;show hm
     rw[upd_ne nb];show hb) q2
   | lst ds=>
    let⟨a,xs,e1,o1,e2,r⟩:=q2;have na:a≠p:=λz=>nv rfl (by rw[e1,z]);show⟨a,xs,e1,o1,by rw[upd_ne na];show e2,r.go r1⟩
   | Bt kvs=>
    let⟨a,xs,e1,o1,e2,kk,r⟩:=q2;have na:a≠p:=λz=>nv rfl (by rw[e1,z]);show⟨a,xs,e1,o1,by rw[upd_ne na];show e2,kk,r.go r1⟩
   | rws rows=>
    let⟨a,rs,e1,R⟩:=q2;have na:a≠p:=λz=>nv rfl (by rw[e1,z]);have Yb:σ[k]?=some (some (.ref a)):=by rw[<-e1];show q1
    show⟨a,rs,e1,by rw[upd_ne na];show R.at_,R.oa,R.nd,R.len,λn r row z1 z2=>?_⟩;let⟨o1,xs,z3,z4⟩:=R.row n r row z1 z2;have nr:r≠p:=λz=>(j.inn.env.rW k i rows a rs e0 (.ref p) hki h Yb R.at_ hi h0 hp).1 r (ago z1) (by rw[z]);show⟨o1,xs,by rw[upd_ne nr];show z3,z4.go r1⟩
 .have un:∀{m:Nat} {x:Ent},(ρ.set i (some en))[m]?=some (some x)->x.own=true->∃y,ρ[m]?=some (some y)/\y.own=true:=λ{m x} h ho'=>by
   by_cases hmi:m=i
   .rw[hmi];show⟨e0,hi,h0⟩
   .rw[z1e (agc hmi)] at h;show⟨x,h,ho'⟩
  let⟨y,hy,oy⟩:=un hk' ok;let⟨y',hy',oy'⟩:=un hl ol;show j.inn.env.sep k l y y' v hkl hy hy' oy oy' sk sl
 .by_cases hki:k=i
  .subst hki;rw[z2a h1] at hk';cases hk';show absurd rfl (hnr rows)
  .rw[z1e (agc hki)] at hk';have ha':=bk hki hk' sk ha;by_cases hli:l=i
   .subst hli;rw[hp] at sl;rw[z2a h1] at hl;cases sl;cases hl;show⟨(j.inn.env.rW k l rows a rs e0 _ hkl hk' sk ha' hi h0 hp).1,hnr⟩
   .rw[z1e (agc hli)] at hl;show j.inn.env.rW k l rows a rs e v hkl hk' sk ha' hl ol sl
 .by_cases ea:a=p
  .rw[ea];show⟨o,upd_same⟩
  .let⟨w,q⟩:=j.inn.al a z;show⟨w,by rw[upd_ne ea];show q⟩
 .by_cases hki:k=i
  .subst hki;rw[hp] at hs;cases hs;show⟨hH0,hO0⟩
  .rw[z1e (agc hki)] at h;show j.mine k e a h hoo hs
 .by_cases hki:k=i
  .subst hki;rw[z2a h1] at h;cases h;show absurd rfl (hnr rows)
  .rw[z1e (agc hki)] at h;show j.Ef k rows a rs h hs (bk hki h hs ha)
def rZ(i:Nat)(f:aq->R D):aq->So:=λρ=>lM (Pg (f ρ)) ρ λd=>match ρ[i]? with
 |some (some (.lst ds))=>if ds.length<1000000 then .nx (ρ.set i (some (.lst (ds++[d])))) else .bad
 |_=> .bad
theorem Bu(i:Nat){apos cpos:Pos}(he:DE X e f)(hN:X.N[i]?=some x:=by rfl)(hv:Vis X.env.scope x:=by first |show ag1 rfl |show agK (ag1 rfl) |show agK (agK rfl))
  (hd:(x ==("__debug__" :Str))=false:=by decide)(hcd:(x ==("__classdict__" :Str))=false:=by decide)
  (hbase:attributeBase (.Name x px) "append" X.env (eval (.Name x px) X.env)=eval (.Name x px) X.env:=by rfl)
  (hfew:((agS cpos (afL [e] X.env)).all (λx=> !x.1) && (aiw cpos (ahI [] X.env)).all (λx=>x.1.isSome)
   && decide ([e].length+([]:List ajb).length+(if ([]:List ajb).isEmpty then 0 else 1)<30))=true:=by rfl)
  (hline:(apos.endLine ==cpos.line)=true:=by rfl) (hs1:afL [e] X.env=(false,eval e X.env)::afL [] X.env:=by rfl) (hplain:(agS cpos (afL [] X.env)).any (·.1)=false:=by rfl)
  (hs:ajV (.Call (.Attribute (.Name x px) "append" apos) [e] [] cpos) none pos.line X.env=pure false:=by rfl):
  DS X (.Expr (.Call (.Attribute (.Name x px) "append" apos) [e] [] cpos) pos) (rZ i f):=by
 show PS.imp (ps_expr (pe_bm PySem.F.plainAttrs_list PySem.F.slot_list_append PySem.F.type_list_append mt_append (pe_var hN hv hd hcd) (pa_cons he pa_nil hs1) hbase hfew hline hs1 hplain) hs) λσ H E h=>?_;let⟨H0,O0,O,ρ,j,h⟩:=h;unfold rZ lM at h;cases e1:f ρ with
 |bad=>rw[e1] at h;show h.elim
 |err c=>rw[e1] at h;show h.elim
 | ok d =>
  rw[e1] at h;cases e2:ρ[i]? with
  |none=>simp only[e2] at h;show h.elim
  | some oe=>
   cases oe with
   |none=>simp only[e2] at h;show h.elim
   | some en=>
    cases en with
    |val _=>simp only[e2] at h;show h.elim
    |Bt _=>simp only[e2] at h;show h.elim
    |rws _=>simp only[e2] at h;show h.elim
    |obj _=>simp only[e2] at h;show h.elim
    | lst ds=>
     simp only[e2] at h;by_cases hl:ds.length<1000000
     .simp only[z9p hl] at h;let⟨v,hv1,a,xs,rfl,hO,hH,rs⟩:=j.inn.env.get i _ e2;show⟨.ref a,hv1,.inl ⟨rfl,xs,SqL.of hH⟩,?_⟩;show⟨ρ,O,j.inn,?_⟩;rw[e1];intro w H1 s1 rw1;have j1:=j.grow s1;let⟨_,hv2,a2,xs2,e3,hO2,hH2,rG⟩:=j1.inn.env.get i _ e2;rw[hv1] at hv2;cases hv2;cases e3;have hlen:=rG.length;show⟨a,xs2,w,rfl,rfl,hH2,by have:=jB;omega,?_⟩;let⟨j2,r2⟩:=j1.chg (o:= .lst (xs2++[w])) (en:= .lst (ds++[d])) e2 rfl hv1 hO2 hH2 trivial rfl λr=>⟨a,xs2++[w],rfl,hO2,upd_same,(rG.append (.cons rw1 .nil)).go r⟩;show h _ _ _ j2 ((Same.gb s1).trans r2)
     .simp only[z9n hl] at h;show h.elim
end
inductive SpD (K:w0a) (n:Nat) (F:List D->R D) (vs:List V) (H:Hp) (Q:VK):Prop
 | mk (O:afG->Prop) (ds:List D) (r:aN K O H ds vs) (hl:ds.length=n) (al:∀a,O a->∃o,H a=some o) (h:match F ds with
  | .ok d=>∀v H',Same H H'->Rep K O H' d v->Q v H'
  |_=>False):SpD K n F vs H Q
def Fo(K:w0a)(n:Nat)(F:List D->R D):Sp:=λvs H Q _=>SpD K n F vs H Q
def cL(n:Nat)(g:aq->So)(ds:List D):R D:=match g (ds.map (λd=>some (.val d))++afU n none) with
 | .rt d=> .ok d
 | .nx _=> .ok .non
 | .ex c _=> .err c
 |_=> .bad
theorem yg(r:aN K O H ds vs)(m:Nat)(i:Nat)(e:Ent)(h:(ds.map (λd=>some (Ent.val d))++afU m none)[i]?=some (some e)):∃v,(vs.map some++afU m none)[i]?=some (some v)/\rT K O H e v/\e.own=false:=by
 by_cases hi:i<ds.length
 .rw[af4 (by simpa using hi),z2b] at h;cases q:ds[i]? with
  |none=>rw[q] at h;cases h
  | some d=>
   rw[q] at h;cases h;let⟨v,e1,rv⟩:=r.get q;show⟨v,by rw[af4 (by rw[z1g,<-r.length];show hi),z2b,e1];rfl,rv,rfl⟩
 .rw[afP (by simpa using hi),ah2] at h;split at h <;> cases h
theorem fnD{x qual:Str}{st:agl}{f:afG}{k m:Nat}{g:aq->So}{F:List D->R D}(Fn:Fun K x qual st f fd)(S:FnScope N ps (defScope st))(hn:ps.length=n)(hm:N.length=n+m)
  (hb:∀(cdv:afF) (A:afZ) (outer:List PySem.Env) (s:afH) (H:Hp) (E:XK),Room k (A.deeper (aij qual (defScope st) s.heap.objs.size f cdv))->mY (cxOf CX0 P w K mg base N qual (defScope st) f cdv A outer s H E).nox (defBody st) g)
  (hF:∀ds d,ds.length=n->F ds= .ok d->cL m g ds= .ok d):FnOk P w K mg base CX0 (k+1) f fd ps (Fo K n F):=by
 show Fn.ok S (λvs H Q E h=>?_) (λcdv A outer s H vs Q E hr h=>?_)
 .let⟨O,ds,r,hl,_⟩:=h;rw[hn,<-hl,r.length]
 .let⟨O,ds,r,hl,al,h⟩:=h;show⟨_,hb cdv A outer s H E hr,H,O,O,ds.map (λd=>some (.val d))++afU m none,?_,?_⟩
  .have hst:L2.start N vs=vs.map some++afU m none:=by
    unfold L2.start;rw[show N.length - vs.length=m by rw[<-r.length];omega]
   show⟨Same.refl _,.refl,λ_ z=>z,⟨⟨λi e q=>?_,λi k e e' v _ hi _ oi=>?_,λi k rows a rs e v _ hi=>by let⟨_,_,_,h3⟩:=yg r m i _ hi;cases h3⟩,al,?_,?_⟩,λi e a q ho=>?_,λi rows a rs q=>by let⟨_,_,_,h3⟩:=yg r m i _ q;cases h3⟩
   .let⟨v,h1,h2,_⟩:=yg r m i e q;show⟨v,by rw[hst];show h1,h2⟩
   .let⟨_,_,_,h3⟩:=yg r m i e hi;rw[h3] at oi;cases oi
   .show (L2.start N vs).length=N.length;rw[hst,z1d,z1g,ahw,<-r.length];omega
   .show (ds.map (λd=>some (Ent.val d))++afU m none).length=N.length;rw[z1d,z1g,ahw];omega
   .let⟨_,_,_,h3⟩:=yg r m i e q;rw[h3] at ho;cases ho
  .cases e:F ds with
   |bad=>rw[e] at h;show h.elim
   |err c=>rw[e] at h;show h.elim
   | ok d=>
    rw[e] at h;have q:=hF ds d hl e;unfold cL at q;cases e2:g (ds.map (λd=>some (.val d))++afU m none) with
    | rt d'=>
     rw[e2] at q;cases q;show λv H' s' r'=>h v H' s' r'
    | nx ρ'=>
     rw[e2] at q;cases q;show λσ' H' O' j' _=>h .non H' j'.same uE
    |bk _=>rw[e2] at q;cases q
    |ct _=>rw[e2] at q;cases q
    |ex _ _=>rw[e2] at q;cases q
    |bad=>rw[e2] at q;cases q
section
variable{X:Cx}{k n:Nat}{f:afG}{F:List D->R D}{p pos:Pos}
def aO(F:List D->R D)(n:Nat)(ds:List D):R D:=if ds.length=n then Pg (F ds) else .bad
theorem ab2(G:FnOk X.prog X.w X.K X.mg X.base CX0 k f fd ps (Fo X.K n F))(hr:Room k X.A)(hg:Gl X x)(hm:X.mg x=some (.ref f))(hk:w0d X.K (.ref f)=true)(hb:Binds X.K fd ps [])
  (ha:DA X (e::es) fa)(hdb:(x ==("__debug__" :Str))=false:=by decide)(he:afL (e::es) X.env=(false,eval e X.env)::afL es X.env:=by rfl)(hpl:(agS pos (afL es X.env)).any (·.1)=false:=by rfl):
  DE X (.Call (.Name x p) (e::es) [] pos) (aD (aO F n) fa):=by
 show PE.imp (pe_call (dvs:=[]) G hr hg hm hk hb .nil pass0 ha hdb he hpl) λσ H Q h=>?_;let⟨ρ,O,j,h⟩:=h;show go j h λds vs H1 e1 s1 r1 j1 h1=>?_;unfold aO at h1;by_cases hl:ds.length=n
 .rw[z9p hl] at h1;rw[agi];show⟨O,ds,r1,hl,j1.al,?_⟩;cases q:F ds with
  |ok d=>rw[q] at h1;show h1
  |err c=>rw[q] at h1;show h1
  |bad=>rw[q] at h1;show h1
 .rw[z9n hl] at h1;show h1.elim
end
section
variable{X:Cx}
def cF:List D->R D
 |[.tup ds]=> .ok (.int ds.length)
 |[.lst ds]=> .ok (.int ds.length)
 |_=> .bad
theorem cU:CallD X (.builtin "len") cF:=by
 show⟨_,call_len_seq,λρ O σ H Q xs ds j r h=>?_⟩;unfold cF at h;split at h
 .let⟨x,rfl,rx⟩:=r.one;let⟨a,ys,rfl,hq,rs⟩:=rx.tup;show⟨a,ys,rfl,.inr hq,by rw[<-rs.length];show fin h (cD _)⟩
 .let⟨x,rfl,rx⟩:=r.one;let⟨a,ys,rfl,hq,_,rs⟩:=rx.lst;show⟨a,ys,rfl,.inl hq,by rw[<-rs.length];show fin h (cD _)⟩
 .show h.elim
def j9:List D->R D
 |[.tup ds]=> .ok (.tup ds)
 |[.lst ds]=> .ok (.tup ds)
 |_=> .bad
theorem fX:CallD X (.type "tuple") j9:=by
 show⟨_,call_tuple_of,λρ O σ H Q xs ds j r h=>?_⟩;unfold j9 at h;split at h
 .let⟨x,rfl,rx⟩:=r.one;let⟨a,ys,rfl,hq,rs⟩:=rx.tup;show⟨a,ys,rfl,.inr ⟨hq,fin h (gM hq rs)⟩⟩
 .let⟨x,rfl,rx⟩:=r.one;let⟨a,ys,rfl,hq,_,rs⟩:=rx.lst;show⟨a,ys,rfl,.inl ⟨hq,λl hl=>h _ _ (Same.upd hl) (Rep.uF hl rs)⟩⟩
 .show h.elim
def boolsOf:List D->Option (List Bool)
 |[]=>some []
 | .bl b::r=>(boolsOf r).map (b:: ·)
 |_=>none
def intsOf:List D->Option (List Int)
 |[]=>some []
 | .int i::r=>(intsOf r).map (i:: ·)
 |_=>none
theorem Ke{O:afG->Prop}{H:Hp}:∀{ds:List D} {bs:List Bool} {vs:List V},boolsOf ds=some bs->aN K O H ds vs->vs=bs.map V.bl
 |[],bs,vs,e,r=>by cases e;show r.nil_inv
 | d ::ds,bs,vs,e,r=>by
  cases d with
  | bl b=>
   have e:(boolsOf ds).map (b:: ·)=some bs:=e;cases q:boolsOf ds with
   |none=>rw[q] at e;cases e
   | some l=>
    rw[q] at e;cases e;let⟨x,t,rfl,rx,rt⟩:=r.cons_inv;rw[rx.bl,Ke q rt];rfl
  |_=>cases e
theorem Pk{O:afG->Prop}{H:Hp}:∀{ds:List D} {bs:List Int} {vs:List V},intsOf ds=some bs->aN K O H ds vs->vs=bs.map V.int
 |[],bs,vs,e,r=>by cases e;show r.nil_inv
 | d ::ds,bs,vs,e,r=>by
  cases d with
  | int b=>
   have e:(intsOf ds).map (b:: ·)=some bs:=e;cases q:intsOf ds with
   |none=>rw[q] at e;cases e
   | some l=>
    rw[q] at e;cases e;let⟨x,t,rfl,rx,rt⟩:=r.cons_inv;rw[rx.int,Pk q rt];rfl
  |_=>cases e
theorem Gz:∀{bs:List Bool} {us:List afF},Vals (bs.map V.bl) us->LSm.BoolsAre us bs
 |[],_,.nil=> .nil
 |b::bs,_,.cons r t=>by cases r;show .cons b (Gz t)
theorem Yc(hc:X.calm=true):CallR X (.builtin "all") (λxs H Q=>∃p,∃bs:List Bool,xs=[.ref p]/\SqL X.K H p (bs.map V.bl)/\Q (.bl (bs.all id)) H):=by
 intro pins s σ H xs us Q I r h;let⟨p,bs,rfl,hq,q⟩:=h;let⟨u,rfl,rx⟩:=vals1 r;cases rx;let⟨its,r',pl,hz⟩:=I.list hq;have hb:=Gz r';have hl:=pl.isList;have hlt:p<s.heap.objs.size:=by let⟨_,e,_⟩:=hl;show z2c e
 show call_all_walk (aiQ hl ?_);show⟨s.heap.objs.size,[s.heap.objs.size,p],[s.heap.objs.size],its.toArray.size,_,_,λi=>(bs[i]?).getD true,rfl,Walks.list (A:=X.A.in1) (I.ok.hd hc) _ p (agm hlt) its.toArray,
  ⟨⟨_,z1f _ rfl,rfl,rfl⟩,hl.push _⟩,λi v s' Q' E' hP hQ=>?_,λh' tk hk=>?_⟩
 .let⟨b,e,rfl⟩:=hb.get i v (by simpa using hP);simp only[e,ai3] at hQ;show agP hQ
 .have e:((afI its.toArray.size).all λi=>(bs[i]?).getD true)=bs.all id:=by
   rw[z1c,hb.length];show LSm.range_all bs
  rw[e];show⟨.bl _,H,I.kept (LSm.kept_iter hk),rfl,q⟩
def su:List D->R D
 | [.lst ds]=>match boolsOf ds with
  |some bs=> .ok (.bl (bs.all id))
  |none=> .bad
 |_=> .bad
theorem uY(hc:X.calm=true):CallD X (.builtin "all") su:=by
 show⟨_,Yc hc,λρ O σ H Q xs ds j r h=>?_⟩;unfold su at h;split at h
 .rename_i ds;let⟨x,rfl,rx⟩:=r.one;let⟨a,ys,rfl,hq,_,rs⟩:=rx.lst;cases e:boolsOf ds with
  |none=>rw[e] at h;show h.elim
  | some bs=>
   rw[e] at h;have ey:=Ke e rs;subst ey;show⟨a,bs,rfl,hq,fin h (fJ _)⟩
 .show h.elim
theorem Yd(hc:X.calm=true):CallR X (.builtin "sum") (λxs H Q=>∃p,∃ns:List Int,xs=[.ref p]/\(SqL X.K H p (ns.map V.int)\/SqT X.K H p (ns.map V.int))/\Q (.int ns.sum) H):=by
 intro pins s σ H xs us Q I r h;let⟨p,ns,rfl,hq,q⟩:=h;let⟨u,rfl,rx⟩:=vals1 r;cases rx;have key:∀(its:List afF),Vals (ns.map V.int) its->∃zs:Array (Int×Tok),its.toArray=intItems zs/\preSum (numAt zs) zs.size=ns.sum:=λits r'=>by
  have hi:=intsAre_of r';let⟨zs,hx⟩:=hi.allInts.items;show⟨zs,hx,?_⟩;have e1:ns=zs.toList.map (·.1):=by
   rw[<-nums_intItems,<-hx];show (show numsOf its.toArray.toList=ns from hi.numsOf).symm
  rw[preSum_eq,aib (),e1]
 rcases hq with hq |hq
 .let⟨its,r',pl,hz⟩:=I.list hq;let⟨zs,e1,e2⟩:=key its r';show sum_intListG (I.ok.hd hc) (e1▸pl.isList) λh' tk t' hk=>?_;rw[e2];show⟨.int _,H,I.kept hk,⟨t',rfl⟩,q⟩
 .let⟨its,r',pl,hz⟩:=I.tuple hq;let⟨zs,e1,e2⟩:=key its r';show PySem.W.ktm_sumG (I.ok.hd hc) (show s.heap.IsTuple p (intItems zs) from e1▸pl) λh' tk t' hk=>?_;rw[e2];show⟨.int _,H,I.kept hk,⟨t',rfl⟩,q⟩
def yU:List D->R D
 | [.lst ds]=>match intsOf ds with
  |some bs=> .ok (.int bs.sum)
  |none=> .bad
 | [.tup ds]=>match intsOf ds with
  |some bs=> .ok (.int bs.sum)
  |none=> .bad
 |_=> .bad
theorem HN(hc:X.calm=true):CallD X (.builtin "sum") yU:=by
 show⟨_,Yd hc,λρ O σ H Q xs ds j r h=>?_⟩;unfold yU at h;split at h
 .rename_i ds;let⟨x,rfl,rx⟩:=r.one;let⟨a,ys,rfl,hq,_,rs⟩:=rx.lst;cases e:intsOf ds with
  |none=>rw[e] at h;show h.elim
  | some bs=>
   rw[e] at h;have ey:=Pk e rs;subst ey;show⟨a,bs,rfl,.inl hq,fin h (cD _)⟩
 .rename_i ds;let⟨x,rfl,rx⟩:=r.one;let⟨a,ys,rfl,hq,rs⟩:=rx.tup;cases e:intsOf ds with
  |none=>rw[e] at h;show h.elim
  | some bs=>
   rw[e] at h;have ey:=Pk e rs;subst ey;show⟨a,bs,rfl,.inr hq,fin h (cD _)⟩
 .show h.elim
def mj:D->String
 | .non=> "NoneType"
 | .bl _=> "bool"
 | .int _=> "int"
 | .str _=> "str"
 | .tup _=> "tuple"
 | .lst _=> "list"
theorem Ye(T:String)(ans:String->Bool)(hk:∀d:D,w0h X.K (.type (mj d)) (.type T)=some (ans (mj d))):
  CallR X (.builtin "isinstance") (λxs H Q=>∃x O d,xs=[x,.ty T]/\Rep X.K O H d x/\Q (.bl (ans (mj d))) H):=by
 intro pins s σ H xs us Q I r h;let⟨x,O,d,rfl,rd,q⟩:=h;let⟨u,u2,rfl,rx,r2⟩:=vals2 r;cases r2;have e:=hk d;have fin':∀tk,EP X pins σ Q (.bool (ans (mj d))) {s with toks:=tk}:=λtk=>⟨.bl _,H,I.tok _,rfl,q⟩;cases d with
 | non=>
  cases rd.non;cases (show u=agv from rx);show w0j PySem.W.kitx_none I.kIn alT e (λz=>nomatch z) fin'
 | bl b=>
  cases rd.bl;cases (show u=alS b from rx);show w0j PySem.W.kitx_bool I.kIn alT e (λz=>nomatch z) fin'
 | int i=>
  cases rd.int;let⟨t,z⟩:=(show ∃t,u=ajB i t from rx);cases z;show w0j PySem.W.kitx_int I.kIn alT e (λz=>nomatch z) fin'
 | str y=>
  cases rd.str;let⟨t,z⟩:=(show ∃t,u=Value.str y t from rx);cases z;show w0j PySem.W.kitx_str I.kIn alT e (λz=>nomatch z) fin'
 | tup ds=>
  let⟨a,ys,rfl,hq,_⟩:=rd.tup;cases (show u=afS a from rx);let⟨its,_,pl,_⟩:=I.tuple hq;let⟨o,h1,h2,_⟩:=pl;show w0j PySem.W.kitx_tuple I.kIn ⟨o,h1,h2⟩ e (λz=>nomatch z) fin'
 | lst ds=>
  let⟨a,ys,rfl,hq,_,_⟩:=rd.lst;cases (show u=afS a from rx);let⟨its,_,pl,_⟩:=I.list hq;let⟨o,n,h1,h2,_⟩:=pl;show w0j PySem.W.kitx_list I.kIn ⟨o,h1,h2⟩ e (λz=>nomatch z) fin'
def yV(ans:String->Bool)(f:aq->R D):aq->R D:=λρ=>(f ρ).bind λd=> .ok (.bl (ans (mj d)))
theorem uG{T:String}{ans:String->Bool}{x y:Str}{f:aq->R D}{p p2 pos:Pos}(hk:∀d:D,w0h X.K (.type (mj d)) (.type T)=some (ans (mj d)))(he:DE X e f)
  (hg:Gl X x)(hm:X.mg x=none)(hv:ahR x=some (.builtin "isinstance"))(hgy:Gl X y)(hmy:X.mg y=none)(hvy:ahR y=some (.type T))(hn:x≠"__name__" :=by decide)(hdb:(x ==("__debug__" :Str))=false:=by decide)
  (hny:y≠"__name__" :=by decide)(hdy:(y ==("__debug__" :Str))=false:=by decide)
  (hs:afL [e,.Name y p2] X.env=(false,eval e X.env)::afL [.Name y p2] X.env:=by rfl)(hs2:afL [.Name y p2] X.env=(false,eval (.Name y p2) X.env)::afL [] X.env:=by rfl)(hpl:(agS pos (afL [.Name y p2] X.env)).any (·.1)=false:=by rfl):
  DE X (.Call (.Name x p) [e,.Name y p2] [] pos) (yV ans f):=by
 show PE.imp (pe_callB (Ye T ans hk) hg hm hv (pa_cons he (pa_cons (pe_bltn (v:= .ty T) hgy hmy hvy rfl hny hdy) pa_nil hs2) hs) hn hdb hs hpl) λσ H Q h=>?_;let⟨ρ,O,j,h⟩:=h;show go j h λd v H1 e1 s1 r1 j1 h1=>?_;show⟨v,O,d,rfl,r1,fin h1 (fJ _)⟩
end
mutual
def dI:D->D->Bool
 | .non,.non=>true
 | .bl a,.bl b=>a ==b
 | .bl a,.int b=>(if a then 1 else 0) ==b
 | .int a,.bl b=>a ==(if b then 1 else 0)
 | .int a,.int b=>a ==b
 | .str a,.str b=>a ==b
 | .tup a,.tup b=>sy a b
 | .lst a,.lst b=>sy a b
 |_,_=>false
def sy:List D->List D->Bool
 |[],[]=>true
 |x::xs,y::ys=>dI x y && sy xs ys
 |_,_=>false
end
mutual
def dep:D->Nat
 | .tup a=>deps a+1
 | .lst a=>deps a+1
 |_=>0
def deps:List D->Nat
 |[]=>0
 |x::xs=>max (dep x) (deps xs)
end
theorem qw:∀{ds:List D} {d:D},d∈ds->dep d<=deps ds
 |[],_,h=>by simp at h
 | x::xs,d,h=>by
  rw[deps];rcases afR.mp h with e |h
  .subst e;show Nat.le_max_left _ _
  .show z0b (qw h) (Nat.le_max_right _ _)
theorem oR(a b:Bool):dI (.bl a) (.bl b)=(a ==b):=rfl
theorem oU(a:Bool)(b:Int):dI (.bl a) (.int b)=((if a then 1 else 0) ==b):=rfl
theorem oV(a:Int)(b:Bool):dI (.int a) (.bl b)=(a ==(if b then 1 else 0)):=rfl
theorem oW(a b:Int):dI (.int a) (.int b)=(a ==b):=rfl
theorem oX(a b:Str):dI (.str a) (.str b)=(a ==b):=rfl
theorem jm(a b:List D):dI (.tup a) (.tup b)=sy a b:=rfl
theorem fL(a b:List D):dI (.lst a) (.lst b)=sy a b:=rfl
mutual
theorem yW:∀d:D,dI d d=true
 | .non=>rfl
 | .bl a=>by simp[oR,oU,oV,oW,oX,jm,fL]
 | .int a=>by simp[oR,oU,oV,oW,oX,jm,fL]
 | .str a=>by simp[oR,oU,oV,oW,oX,jm,fL]
 | .tup a=>by rw[jm];show rH a
 | .lst a=>by rw[fL];show rH a
theorem rH:∀d:List D,sy d d=true
 |[]=>rfl
 |x::xs=>by rw[sy,yW x,rH xs];rfl
end
theorem uZ:∀{xs ys:List D},xs.length≠ys.length->sy xs ys=false
 |[],[],h=>absurd rfl h
 |[],_::_,_=>rfl
 |_::_,[],_=>rfl
 | x::xs,y::ys,h=>by
  rw[sy,uZ (xs:=xs) (ys:=ys) (λe=>h (by simp[e])),akH]
theorem u5:∀{xs ys:List D},xs.length=ys.length->sy xs ys=(afI xs.length).all λi=>dI (xs.getD i .non) (ys.getD i .non)
 |[],[],_=>rfl
 |[],_::_,h=>by simp at h
 |_::_,[],h=>by simp at h
 | x::xs,y::ys,h=>by
  rw[sy,u5 (xs:=xs) (ys:=ys) (by simpa using h),afN,aic,aiP,List.all_map];rfl
end Pu
variable{g:Pu.aq->Pu.So}
namespace Pu
open PySem PySem.Spec L2
open PyProof.Rows hiding St
open PySem.SeqAt
variable{u u':afF}
inductive LkT (X:Cx) (O:afG->Prop) (H:Hp) (s:afH) (ds:List D) (u:afF):Prop
 |mk (a:afG) (xs:List V) (its:List afF) (e:u=afS a) (q:SqT X.K H a xs) (v:Vals xs its) (p:s.heap.IsTuple a its.toArray) (r:aN X.K O H ds xs):LkT X O H s ds u
inductive LkL (X:Cx) (O:afG->Prop) (H:Hp) (s:afH) (ds:List D) (u:afF):Prop
 |mk (a:afG) (xs:List V) (its:List afF) (e:u=afS a) (q:SqL X.K H a xs) (v:Vals xs its) (p:s.heap.IsList a its.toArray) (r:aN X.K O H ds xs):LkL X O H s ds u
def Lk(X:Cx)(O:afG->Prop)(H:Hp)(s:afH):D->afF->Prop
 | .non,u=>u=agv
 | .bl b,u=>u=alS b
 | .int i,u=>∃t,u=ajB i t
 | .str x,u=>∃t,u=Value.str x t
 | .tup ds,u=>LkT X O H s ds u
 | .lst ds,u=>LkL X O H s ds u
section
variable{O O':afG->Prop}
theorem wC(I:Inv X pins σ H s)(r:Rep X.K O H d v)(q:RelV v u):Lk X O H s d u:=by
 cases d with
 |non=>cases r.non;show q
 |bl b=>cases r.bl;show q
 |int i=>cases r.int;show q
 |str x=>cases r.str;show q
 | tup ds=>
  let⟨a,xs,rfl,hq,rs⟩:=r.tup;cases (show u=afS a from q);let⟨its,rv,p,_⟩:=I.tuple hq;show⟨a,xs,its,rfl,hq,rv,p,rs⟩
 | lst ds=>
  let⟨a,xs,rfl,hq,_,rs⟩:=r.lst;cases (show u=afS a from q);let⟨its,rv,p,_⟩:=I.list hq;show⟨a,xs,its,rfl,hq,rv,p.isList,rs⟩
theorem isTuple_list{p q:Array afF}(h1:s.heap.IsTuple a p)(h2:s.heap.IsList a q):False:=ne_of_list_tuple h2 h1 rfl
mutual
theorem Rep.inj(I:Inv X pins σ H s):∀(d e:D) (v:V),Rep X.K O H d v->Rep X.K O' H e v->d=e
 | .non,e,v,r,q=>by
  cases r.non;cases e with
  |non=>rfl
  |bl _=>cases q.bl
  |int _=>cases q.int
  |str _=>cases q.str
  |tup _=>let⟨_,_,z,_⟩:=q.tup;cases z
  |lst _=>let⟨_,_,z,_⟩:=q.lst;cases z
 | .bl b,e,v,r,q=>by
  cases r.bl;cases e with
  |non=>cases q.non
  |bl _=>cases q.bl;rfl
  |int _=>cases q.int
  |str _=>cases q.str
  |tup _=>let⟨_,_,z,_⟩:=q.tup;cases z
  |lst _=>let⟨_,_,z,_⟩:=q.lst;cases z
 | .int b,e,v,r,q=>by
  cases r.int;cases e with
  |non=>cases q.non
  |bl _=>cases q.bl
  |int _=>cases q.int;rfl
  |str _=>cases q.str
  |tup _=>let⟨_,_,z,_⟩:=q.tup;cases z
  |lst _=>let⟨_,_,z,_⟩:=q.lst;cases z
 | .str b,e,v,r,q=>by
  cases r.str;cases e with
  |non=>cases q.non
  |bl _=>cases q.bl
  |int _=>cases q.int
  |str _=>cases q.str;rfl
  |tup _=>let⟨_,_,z,_⟩:=q.tup;cases z
  |lst _=>let⟨_,_,z,_⟩:=q.lst;cases z
 | .tup ds,e,v,r,q=>by
  let⟨a,xs,rfl,hq,rs⟩:=r.tup;cases e with
  |non=>cases q.non
  |bl _=>cases q.bl
  |int _=>cases q.int
  |str _=>cases q.str
  | tup es=>
   let⟨b,ys,z,hq',rs'⟩:=q.tup;cases z;cases I.tuple_inj hq hq';rw[aN.inj I ds es xs rs rs']
  | lst es=>
   let⟨b,ys,z,hq',_,rs'⟩:=q.lst;cases z;let⟨_,_,p1,_⟩:=I.tuple hq;let⟨_,_,p2,_⟩:=I.list hq';show (isTuple_list p1 p2.isList).elim
 | .lst ds,e,v,r,q=>by
  let⟨a,xs,rfl,hq,_,rs⟩:=r.lst;cases e with
  |non=>cases q.non
  |bl _=>cases q.bl
  |int _=>cases q.int
  |str _=>cases q.str
  | tup es=>
   let⟨b,ys,z,hq',rs'⟩:=q.tup;cases z;let⟨_,_,p1,_⟩:=I.tuple hq';let⟨_,_,p2,_⟩:=I.list hq;show (isTuple_list p1 p2.isList).elim
  | lst es=>
   let⟨b,ys,z,hq',_,rs'⟩:=q.lst;cases z;cases I.list_inj hq hq';rw[aN.inj I ds es xs rs rs']
theorem aN.inj(I:Inv X pins σ H s):∀(ds es:List D) (vs:List V),aN X.K O H ds vs->aN X.K O' H es vs->ds=es
 | [],es,vs,r,q=>by
  rw[r.nil_inv] at q;cases es with
  |nil=>rfl
  |cons e es=>let⟨_,_,z,_⟩:=q.cons_inv;cases z
 | d ::ds,es,vs,r,q=>by
  let⟨x,t,rfl,rx,rt⟩:=r.cons_inv;cases es with
  |nil=>cases q.nil_inv
  | cons e es=>
   let⟨_,_,z,qx,qt⟩:=q.cons_inv;cases z;rw[Rep.inj I d e x rx qx,aN.inj I ds es t rt qt]
end
theorem qz{ds es:List D}{xs ys:List V}{its jts:List afF}(r1:aN X.K O H ds xs)(r2:aN X.K O' H es ys)(v1:Vals xs its)(v2:Vals ys jts)
  (ih:∀d∈ds,∀(e:D) (v w:V) (u u':afF),Rep X.K O H d v->Rep X.K O' H e w->RelV v u->RelV w u'->EqAt A s u u' (dI d e)):
  ∀j (h1:j<its.toArray.size) (h2:j<jts.toArray.size),EqAt A s its.toArray[j] jts.toArray[j] (dI (ds.getD j .non) (es.getD j .non)):=by
 intro j h1 h2;have e1:its[j]?=some its.toArray[j]:=()
 have e2:jts[j]?=some jts.toArray[j]:=()
 have l1:=v1.length;have l2:=v2.length;have k1:=r1.length;have k2:=r2.length;simp only[z1c] at h1 h2;obtain⟨v,ev,rv⟩:∃v,xs[j]?=some v/\RelV v its.toArray[j]:=by
  have hj:j<xs.length:=()
  let⟨u,eu,ru⟩:=v1.get (i:=j) (x:=xs[j]) (by simp[hj]);rw[e1] at eu;cases eu;show⟨_,by simp[hj],ru⟩
 obtain⟨w,ew,rw'⟩:∃v,ys[j]?=some v/\RelV v jts.toArray[j]:=by
  have hj:j<ys.length:=()
  let⟨u,eu,ru⟩:=v2.get (i:=j) (x:=ys[j]) (by simp[hj]);rw[e2] at eu;cases eu;show⟨_,by simp[hj],ru⟩
 let⟨d,ed,rd⟩:=r1.bY ev;let⟨e,ee,re⟩:=r2.bY ew;have g1:ds.getD j .non=d:=by simp[agZ,ed]
 have g2:es.getD j .non=e:=by simp[agZ,ee]
 rw[g1,g2];show ih d (ago ed) e v w _ _ rd re rv rw'
theorem GC{ds es:List D}{n m:Nat}(hn:ds.length=n)(hm:es.length=m):((afI (min n m)).all (λj=>dI (ds.getD j .non) (es.getD j .non)) && n ==m)=sy ds es:=by
 by_cases h:n=m
 .subst h;rw[Nat.min_self,beq_self_eq_true,Bool.and_true,u5 (by rw[hn,hm]),hn]
 .rw[uZ (by rw[hn,hm];show h),show (n ==m)=false by simpa using h,akH]
theorem Pn(I:Inv X pins σ H s)(hu:A.units<agR){e:D}(h1:Lk X O H s d u)(h2:Lk X O' H s e u')
  (ih:∀c∈(match d with | .tup ds=>ds | .lst ds=>ds |_=>[]),∀(e:D) (v w:V) (u u':afF),Rep X.K O H c v->Rep X.K O' H e w->RelV v u->RelV w u'->EqAt A.in1 s u u' (dI c e)):EqAt A s u u' (dI d e):=by
 cases d with
 | non=>
  cases h1;cases e with
  | non=>
   cases h2;show EqAt.same _
  | bl b=>
   cases h2;show EqAt.none_bool _
  | int b=>
   let⟨t2,rfl⟩:=h2;show EqAt.none_int _ _
  | str b=>
   let⟨t2,rfl⟩:=h2;show EqAt.none_str _ _
  | tup es=>
   let⟨p2,ys,jts,rfl,hq2,v2,hp2,r2⟩:=h2;show EqAt.none_tuple hp2 hu
  | lst es=>
   let⟨p2,ys,jts,rfl,hq2,v2,hp2,r2⟩:=h2;show EqAt.none_list hp2 hu
 | bl a=>
  cases h1;cases e with
  | non=>
   cases h2;show EqAt.bool_none _
  | bl b=>
   cases h2;show EqAt.bool_bool _ _
  | int b=>
   let⟨t2,rfl⟩:=h2;show EqAt.bool_int _ _ _
  | str b=>
   let⟨t2,rfl⟩:=h2;show EqAt.bool_str _ _ _
  | tup es=>
   let⟨p2,ys,jts,rfl,hq2,v2,hp2,r2⟩:=h2;show EqAt.bool_tuple _ hp2 hu
  | lst es=>
   let⟨p2,ys,jts,rfl,hq2,v2,hp2,r2⟩:=h2;show EqAt.bool_list _ hp2 hu
 | int a=>
  let⟨t1,rfl⟩:=h1;cases e with
  | non=>
   cases h2;show EqAt.int_none _ _
  | bl b=>
   cases h2;show EqAt.int_bool _ _ _
  | int b=>
   let⟨t2,rfl⟩:=h2;show EqAt.int_int _ _ _ _
  | str b=>
   let⟨t2,rfl⟩:=h2;show EqAt.int_str _ _ _ _
  | tup es=>
   let⟨p2,ys,jts,rfl,hq2,v2,hp2,r2⟩:=h2;show EqAt.int_tuple _ _ hp2 hu
  | lst es=>
   let⟨p2,ys,jts,rfl,hq2,v2,hp2,r2⟩:=h2;show EqAt.int_list _ _ hp2 hu
 | str a=>
  let⟨t1,rfl⟩:=h1;cases e with
  | non=>
   cases h2;show EqAt.str_none _ _
  | bl b=>
   cases h2;show EqAt.str_bool _ _ _
  | int b=>
   let⟨t2,rfl⟩:=h2;show EqAt.str_int _ _ _ _
  | str b=>
   let⟨t2,rfl⟩:=h2;show EqAt.str_str _ _ _ _
  | tup es=>
   let⟨p2,ys,jts,rfl,hq2,v2,hp2,r2⟩:=h2;show EqAt.str_tuple _ _ hp2 hu
  | lst es=>
   let⟨p2,ys,jts,rfl,hq2,v2,hp2,r2⟩:=h2;show EqAt.str_list _ _ hp2 hu
 | tup ds=>
  let⟨p1,xs,its,rfl,hq1,v1,hp1,r1⟩:=h1;cases e with
  | non=>
   cases h2;show EqAt.tuple_none hp1 hu
  | bl b=>
   cases h2;show EqAt.tuple_bool _ hp1 hu
  | int b=>
   let⟨t2,rfl⟩:=h2;show EqAt.tuple_int _ _ hp1 hu
  | str b=>
   let⟨t2,rfl⟩:=h2;show EqAt.tuple_str _ _ hp1 hu
  | tup es=>
   let⟨p2,ys,jts,rfl,hq2,v2,hp2,r2⟩:=h2;by_cases hne:p1=p2
   .subst hne;cases I.tuple_inj hq1 hq2;rw[jm,aN.inj I ds es xs r1 r2,rH];show EqAt.same _
   .have q:=EqAt.of_refs hne (RcAt.tuples hp1 hp2 hu (qz r1 r2 v1 v2 ih));simp only[z1c] at q;rw[GC (r1.length.trans v1.length) (r2.length.trans v2.length)] at q;rw[jm];show q
  | lst es=>
   let⟨p2,ys,jts,rfl,hq2,v2,hp2,r2⟩:=h2;show EqAt.tuple_list hp1 hp2 hu
 | lst ds=>
  let⟨p1,xs,its,rfl,hq1,v1,hp1,r1⟩:=h1;cases e with
  | non=>
   cases h2;show EqAt.list_none hp1 hu
  | bl b=>
   cases h2;show EqAt.list_bool _ hp1 hu
  | int b=>
   let⟨t2,rfl⟩:=h2;show EqAt.list_int _ _ hp1 hu
  | str b=>
   let⟨t2,rfl⟩:=h2;show EqAt.list_str _ _ hp1 hu
  | tup es=>
   let⟨p2,ys,jts,rfl,hq2,v2,hp2,r2⟩:=h2;show EqAt.list_tuple hp1 hp2 hu
  | lst es=>
   let⟨p2,ys,jts,rfl,hq2,v2,hp2,r2⟩:=h2;by_cases hne:p1=p2
   .subst hne;cases I.list_inj hq1 hq2;rw[fL,aN.inj I ds es xs r1 r2,rH];show EqAt.same _
   .by_cases hz:ds.length=es.length
    .have q:=EqAt.of_refs hne (RcAt.lists hp1 hp2 (by simp only[z1c];rw[<-v1.length,<-v2.length,<-r1.length,<-r2.length];show hz) hu (qz r1 r2 v1 v2 ih));rw[z1c,<-v1.length,<-r1.length,<-u5 hz] at q;rw[fL];show q
    .rw[fL,uZ hz];show EqAt.of_refs hne (RcAt.lists_lengths hp1 hp2 (by simp only[z1c];rw[<-v1.length,<-v2.length,<-r1.length,<-r2.length];simpa using hz) hu)
theorem aaA(I:Inv X pins σ H s)(hu:A.units<agR){e:D}(h1:Lk X O H s d u)(h2:Lk X O' H s e u')
  (ih:∀c∈(match d with | .tup ds=>ds | .lst ds=>ds |_=>[]),∀(e:D) (v w:V) (u u':afF),Rep X.K O H c v->Rep X.K O' H e w->RelV v u->RelV w u'->EqAt A.in1 s u u' (dI c e)):RcAt A s u u' (dI d e):=by
 cases d with
 | non=>
  cases h1;cases e with
  | non=>
   cases h2;show RcAt.none_none
  | bl b=>
   cases h2;show RcAt.none_bool _
  | int b=>
   let⟨t2,rfl⟩:=h2;show RcAt.none_int _ _
  | str b=>
   let⟨t2,rfl⟩:=h2;show RcAt.none_str _ _
  | tup es=>
   let⟨p2,ys,jts,rfl,hq2,v2,hp2,r2⟩:=h2;show RcAt.none_tuple hp2 hu
  | lst es=>
   let⟨p2,ys,jts,rfl,hq2,v2,hp2,r2⟩:=h2;show RcAt.none_list hp2 hu
 | bl a=>
  cases h1;cases e with
  | non=>
   cases h2;show RcAt.bool_none _
  | bl b=>
   cases h2;show RcAt.bool_bool _ _
  | int b=>
   let⟨t2,rfl⟩:=h2;show RcAt.bool_int _ _ _
  | str b=>
   let⟨t2,rfl⟩:=h2;show RcAt.bool_str _ _ _
  | tup es=>
   let⟨p2,ys,jts,rfl,hq2,v2,hp2,r2⟩:=h2;show RcAt.bool_tuple _ hp2 hu
  | lst es=>
   let⟨p2,ys,jts,rfl,hq2,v2,hp2,r2⟩:=h2;show RcAt.bool_list _ hp2 hu
 | int a=>
  let⟨t1,rfl⟩:=h1;cases e with
  | non=>
   cases h2;show RcAt.int_none _ _
  | bl b=>
   cases h2;show RcAt.int_bool _ _ _
  | int b=>
   let⟨t2,rfl⟩:=h2;show RcAt.int_int _ _ _ _
  | str b=>
   let⟨t2,rfl⟩:=h2;show RcAt.int_str _ _ _ _
  | tup es=>
   let⟨p2,ys,jts,rfl,hq2,v2,hp2,r2⟩:=h2;show RcAt.int_tuple _ _ hp2 hu
  | lst es=>
   let⟨p2,ys,jts,rfl,hq2,v2,hp2,r2⟩:=h2;show RcAt.int_list _ _ hp2 hu
 | str a=>
  let⟨t1,rfl⟩:=h1;cases e with
  | non=>
   cases h2;show RcAt.str_none _ _
  | bl b=>
   cases h2;show RcAt.str_bool _ _ _
  | int b=>
   let⟨t2,rfl⟩:=h2;show RcAt.str_int _ _ _ _
  | str b=>
   let⟨t2,rfl⟩:=h2;show RcAt.str_str _ _ _ _
  | tup es=>
   let⟨p2,ys,jts,rfl,hq2,v2,hp2,r2⟩:=h2;show RcAt.str_tuple _ _ hp2 hu
  | lst es=>
   let⟨p2,ys,jts,rfl,hq2,v2,hp2,r2⟩:=h2;show RcAt.str_list _ _ hp2 hu
 | tup ds=>
  let⟨p1,xs,its,rfl,hq1,v1,hp1,r1⟩:=h1;cases e with
  | non=>
   cases h2;show RcAt.tuple_none hp1 hu
  | bl b=>
   cases h2;show RcAt.tuple_bool _ hp1 hu
  | int b=>
   let⟨t2,rfl⟩:=h2;show RcAt.tuple_int _ _ hp1 hu
  | str b=>
   let⟨t2,rfl⟩:=h2;show RcAt.tuple_str _ _ hp1 hu
  | tup es=>
   let⟨p2,ys,jts,rfl,hq2,v2,hp2,r2⟩:=h2;have q:=RcAt.tuples hp1 hp2 hu (qz r1 r2 v1 v2 ih);simp only[z1c] at q;rw[GC (r1.length.trans v1.length) (r2.length.trans v2.length)] at q;rw[jm];show q
  | lst es=>
   let⟨p2,ys,jts,rfl,hq2,v2,hp2,r2⟩:=h2;show RcAt.tuple_list hp1 hp2 hu
 | lst ds=>
  let⟨p1,xs,its,rfl,hq1,v1,hp1,r1⟩:=h1;cases e with
  | non=>
   cases h2;show RcAt.list_none hp1 hu
  | bl b=>
   cases h2;show RcAt.list_bool _ hp1 hu
  | int b=>
   let⟨t2,rfl⟩:=h2;show RcAt.list_int _ _ hp1 hu
  | str b=>
   let⟨t2,rfl⟩:=h2;show RcAt.list_str _ _ hp1 hu
  | tup es=>
   let⟨p2,ys,jts,rfl,hq2,v2,hp2,r2⟩:=h2;show RcAt.list_tuple hp1 hp2 hu
  | lst es=>
   let⟨p2,ys,jts,rfl,hq2,v2,hp2,r2⟩:=h2;by_cases hz:ds.length=es.length
   .have q:=RcAt.lists hp1 hp2 (by simp only[z1c];rw[<-v1.length,<-v2.length,<-r1.length,<-r2.length];show hz) hu (qz r1 r2 v1 v2 ih);rw[z1c,<-v1.length,<-r1.length,<-u5 hz] at q;rw[fL];show q
   .rw[fL,uZ hz];show RcAt.lists_lengths hp1 hp2 (by simp only[z1c];rw[<-v1.length,<-v2.length,<-r1.length,<-r2.length];simpa using hz) hu
theorem aaB(I:Inv X pins σ H s)(hu:A.units<agR){e:D}(h1:Lk X O H s d u)(h2:Lk X O' H s e u')
  (ih:∀c∈(match d with | .tup ds=>ds | .lst ds=>ds |_=>[]),∀(e:D) (v w:V) (u u':afF),Rep X.K O H c v->Rep X.K O' H e w->RelV v u->RelV w u'->EqAt A.in1 s u u' (dI c e)):RcNeAt A s u u' (!dI d e):=by
 cases d with
 | non=>
  cases h1;cases e with
  | non=>
   cases h2;show RcNeAt.none_none
  | bl b=>
   cases h2;show RcNeAt.none_bool _
  | int b=>
   let⟨t2,rfl⟩:=h2;show RcNeAt.none_int _ _
  | str b=>
   let⟨t2,rfl⟩:=h2;show RcNeAt.none_str _ _
  | tup es=>
   let⟨p2,ys,jts,rfl,hq2,v2,hp2,r2⟩:=h2;show RcNeAt.none_tuple hp2 hu
  | lst es=>
   let⟨p2,ys,jts,rfl,hq2,v2,hp2,r2⟩:=h2;show RcNeAt.none_list hp2 hu
 | bl a=>
  cases h1;cases e with
  | non=>
   cases h2;show RcNeAt.bool_none _
  | bl b=>
   cases h2;show RcNeAt.bool_bool _ _
  | int b=>
   let⟨t2,rfl⟩:=h2;show RcNeAt.bool_int _ _ _
  | str b=>
   let⟨t2,rfl⟩:=h2;show RcNeAt.bool_str _ _ _
  | tup es=>
   let⟨p2,ys,jts,rfl,hq2,v2,hp2,r2⟩:=h2;show RcNeAt.bool_tuple _ hp2 hu
  | lst es=>
   let⟨p2,ys,jts,rfl,hq2,v2,hp2,r2⟩:=h2;show RcNeAt.bool_list _ hp2 hu
 | int a=>
  let⟨t1,rfl⟩:=h1;cases e with
  | non=>
   cases h2;show RcNeAt.int_none _ _
  | bl b=>
   cases h2;show RcNeAt.int_bool _ _ _
  | int b=>
   let⟨t2,rfl⟩:=h2;show RcNeAt.int_int _ _ _ _
  | str b=>
   let⟨t2,rfl⟩:=h2;show RcNeAt.int_str _ _ _ _
  | tup es=>
   let⟨p2,ys,jts,rfl,hq2,v2,hp2,r2⟩:=h2;show RcNeAt.int_tuple _ _ hp2 hu
  | lst es=>
   let⟨p2,ys,jts,rfl,hq2,v2,hp2,r2⟩:=h2;show RcNeAt.int_list _ _ hp2 hu
 | str a=>
  let⟨t1,rfl⟩:=h1;cases e with
  | non=>
   cases h2;show RcNeAt.str_none _ _
  | bl b=>
   cases h2;show RcNeAt.str_bool _ _ _
  | int b=>
   let⟨t2,rfl⟩:=h2;show RcNeAt.str_int _ _ _ _
  | str b=>
   let⟨t2,rfl⟩:=h2;show RcNeAt.str_str _ _ _ _
  | tup es=>
   let⟨p2,ys,jts,rfl,hq2,v2,hp2,r2⟩:=h2;show RcNeAt.str_tuple _ _ hp2 hu
  | lst es=>
   let⟨p2,ys,jts,rfl,hq2,v2,hp2,r2⟩:=h2;show RcNeAt.str_list _ _ hp2 hu
 | tup ds=>
  let⟨p1,xs,its,rfl,hq1,v1,hp1,r1⟩:=h1;cases e with
  | non=>
   cases h2;show RcNeAt.tuple_none hp1 hu
  | bl b=>
   cases h2;show RcNeAt.tuple_bool _ hp1 hu
  | int b=>
   let⟨t2,rfl⟩:=h2;show RcNeAt.tuple_int _ _ hp1 hu
  | str b=>
   let⟨t2,rfl⟩:=h2;show RcNeAt.tuple_str _ _ hp1 hu
  | tup es=>
   let⟨p2,ys,jts,rfl,hq2,v2,hp2,r2⟩:=h2;have q:=RcNeAt.tuples hp1 hp2 hu (qz r1 r2 v1 v2 ih);simp only[z1c] at q;rw[GC (r1.length.trans v1.length) (r2.length.trans v2.length)] at q;rw[jm];show q
  | lst es=>
   let⟨p2,ys,jts,rfl,hq2,v2,hp2,r2⟩:=h2;show RcNeAt.tuple_list hp1 hp2 hu
 | lst ds=>
  let⟨p1,xs,its,rfl,hq1,v1,hp1,r1⟩:=h1;cases e with
  | non=>
   cases h2;show RcNeAt.list_none hp1 hu
  | bl b=>
   cases h2;show RcNeAt.list_bool _ hp1 hu
  | int b=>
   let⟨t2,rfl⟩:=h2;show RcNeAt.list_int _ _ hp1 hu
  | str b=>
   let⟨t2,rfl⟩:=h2;show RcNeAt.list_str _ _ hp1 hu
  | tup es=>
   let⟨p2,ys,jts,rfl,hq2,v2,hp2,r2⟩:=h2;show RcNeAt.list_tuple hp1 hp2 hu
  | lst es=>
   let⟨p2,ys,jts,rfl,hq2,v2,hp2,r2⟩:=h2;by_cases hz:ds.length=es.length
   .have q:=RcNeAt.lists hp1 hp2 (by simp only[z1c];rw[<-v1.length,<-v2.length,<-r1.length,<-r2.length];show hz) hu (qz r1 r2 v1 v2 ih);rw[z1c,<-v1.length,<-r1.length,<-u5 hz] at q;rw[fL];show q
   .rw[fL,uZ hz];show RcNeAt.lists_lengths hp1 hp2 (by simp only[z1c];rw[<-v1.length,<-v2.length,<-r1.length,<-r2.length];simpa using hz) hu
theorem GD(I:Inv X pins σ H s):∀(n:Nat) (A:afZ) (d:D),dep d<=n->A.units+n<agR->∀(e:D) (v w:V) (u u':afF),Rep X.K O H d v->Rep X.K O' H e w->RelV v u->RelV w u'->EqAt A s u u' (dI d e):=by
 intro n
 induction n with
 | zero=>
  intro A d hd hu e v w u u' r1 r2 q1 q2;show Pn I () (wC I r1 q1) (wC I r2 q2) λc hc=>?_;cases d with
  |tup ds=>rw[dep] at hd;omega
  |lst ds=>rw[dep] at hd;omega
  |_=>simp at hc
 | succ n ihn=>
  intro A d hd hu e v w u u' r1 r2 q1 q2;show Pn I () (wC I r1 q1) (wC I r2 q2) λc hc=>?_;have hc':dep c<=n:=by
   cases d with
   |tup ds=>rw[dep] at hd;have:=qw (ds:=ds) hc;omega
   |lst ds=>rw[dep] at hd;have:=qw (ds:=ds) hc;omega
   |_=>simp at hc
  show ihn A.in1 c hc' (by show A.units+1+n<agR;omega)
end
def jD(d e:D):R D:=if dep d<=40 then .ok (.bl (dI d e)) else .bad
def nZ(d e:D):R D:=if dep d<=40 then .ok (.bl (!dI d e)) else .bad
theorem adx(hu:X.A.units+60<agR):OpR X (agr .Eq) (λx y H Q=>∃O O' d e,Rep X.K O H d x/\Rep X.K O' H e y/\dep d<=40/\Q (.bl (dI d e)) H):=by
 intro pins s σ H x y v u Q I rx ry h;let⟨O,O',d,e,r1,r2,hd,q⟩:=h;show aaA I (show X.A.units<agR by omega) (wC I r1 rx) (wC I r2 ry) (λc hc=>?_) X.prog X.w X.xe _ ⟨.bl _,H,I,rfl,q⟩;have hc':dep c<=40:=by
  cases d with
  |tup ds=>rw[dep] at hd;have:=qw (ds:=ds) hc;omega
  |lst ds=>rw[dep] at hd;have:=qw (ds:=ds) hc;omega
  |_=>simp at hc
 show GD I 40 X.A.in1 c hc' (by show X.A.units+1+40<agR;omega)
theorem ady(hu:X.A.units+60<agR):OpR X (agr .NotEq) (λx y H Q=>∃O O' d e,Rep X.K O H d x/\Rep X.K O' H e y/\dep d<=40/\Q (.bl (!dI d e)) H):=by
 intro pins s σ H x y v u Q I rx ry h;let⟨O,O',d,e,r1,r2,hd,q⟩:=h;show aaB I (show X.A.units<agR by omega) (wC I r1 rx) (wC I r2 ry) (λc hc=>?_) X.prog X.w X.xe _ ⟨.bl _,H,I,rfl,q⟩;have hc':dep c<=40:=by
  cases d with
  |tup ds=>rw[dep] at hd;have:=qw (ds:=ds) hc;omega
  |lst ds=>rw[dep] at hd;have:=qw (ds:=ds) hc;omega
  |_=>simp at hc
 show GD I 40 X.A.in1 c hc' (by show X.A.units+1+40<agR;omega)
theorem jo(hu:X.A.units+60<agR):jG X (agr .Eq) jD:=by
 show⟨_,adx hu,λρ O σ H Q x y dx dy j rx ry h=>?_⟩;unfold jD at h;by_cases hd:dep dx<=40
 .rw[z9p hd] at h;show⟨O,O,dx,dy,rx,ry,hd,fin h (fJ _)⟩
 .rw[z9n hd] at h;show h.elim
theorem tX(hu:X.A.units+60<agR):jG X (agr .NotEq) nZ:=by
 show⟨_,ady hu,λρ O σ H Q x y dx dy j rx ry h=>?_⟩;unfold nZ at h;by_cases hd:dep dx<=40
 .rw[z9p hd] at h;show⟨O,O,dx,dy,rx,ry,hd,fin h (fJ _)⟩
 .rw[z9n hd] at h;show h.elim
end Pu
namespace Pu
open PySem PySem.Spec L2
open PyProof.Rows hiding St
section
variable{te:TE}{pos p2 p3 p4:Pos}{f:aq->R D}
theorem Vals.rev(h:Vals xs us):Vals xs.reverse us.reverse:=by
 induction h with
 |nil=>show .nil
 | cons r _ ih=>
  simp only[ald];show ih.append (.cons r .nil)
def afC:D->R D
 | .tup ds=> .ok (.tup ds.reverse)
 |_=> .bad
def fH:D->D->R D
 | .int i,.int j=> .ok (.int (i+j))
 | .tup xs,.tup ys=>if 0<xs.length/\xs.length+ys.length<=1000000 then .ok (.tup (xs++ys)) else .bad
 |_,_=> .bad
theorem lu:jG X (ahv .Add) fH:=by
 show⟨_,OpR.or op_add op_catT,λρ O σ H Q x y dx dy j0 rx ry h=>?_⟩;cases dx <;> cases dy <;> first
  |show h.elim
  |skip
 .rename_i i j;show .inl ⟨i,j,rx.int,ry.int,fin h (cD _)⟩
 .rename_i xs ys;have h:good X (rD X) O (if 0<xs.length/\xs.length+ys.length<=1000000 then .ok (.tup (xs++ys)) else .bad) σ H Q:=h;by_cases hc:0<xs.length/\xs.length+ys.length<=1000000
  .rw[z9p hc] at h;let⟨a,us,rfl,ha,r1⟩:=rx.tup;let⟨b,ws,rfl,hb,r2⟩:=ry.tup;show .inr ⟨a,b,us,ws,rfl,rfl,ha,hb,λz=>?_,?_,λz=>?_,λz l hl=>?_⟩
   .have h1:=r1.length;have h2:=hc.1;rw[z] at h1;rw[h1] at h2;show agX _ h2
   .rw[<-r1.length,<-r2.length];show z0b hc.2 iI
   .subst z;have:ys=[]:=agp r2.length;subst this;rw[agi] at h;show fin h (gM ha r1)
   .show h _ _ (Same.upd hl) (Rep.uF hl (r1.append r2))
  .rw[z9n hc] at h;show h.elim
end
section
variable{e e1 e2:afV}{f g:aq->R D}
end
end Pu
namespace Pu
open PySem PySem.W PyProof.Rows
section
variable{lt:Nat->Nat->Bool}
structure Pm(n:Nat)(p:Array Nat):Prop where
 size:p.size=n
 perm:p.toList.Perm (afI n)
def S(lt:Nat->Nat->Bool)(p:Array Nat)(k:Nat):Prop:=∀i j,i<j->j<k->lt (p.getD i 0) (p.getD j 0)=true
end
end Pu
namespace Pu
open PySem PySem.Spec PySem.W L2
open PyProof.Rows hiding St
theorem wD{a b:afG}{vs:List afF}{out:Array afF}(hb:b≠a)(e:h.get? b=some o):(akA h a vs out).get? b=some o:=by
 unfold akA;rw[ah9 _ _ _ _ hb];show z1a _ (z1a _ (by rw[ah9 _ _ _ _ hb];show e))
theorem sortedHeap_at{vs:List afF}{out:Array afF}(e:h.get? a=some (ahb "list" vs.toArray n)):∃c,(akA h a vs out).get? a=some (ahb "list" out c):=by
 unfold akA;have h1:=ajR e (λ_=>(#[]:Array afF));show⟨_,ajR (z1a _ (z1a _ h1)) λ_=>out⟩
theorem Yg(vs:List afF)(h:vs.length<2):(vs.toArray.zip vs.toArray).map (·.2)=ahT ((ahT (afI vs.length)).toList.map λi=>vs.getD i agv):=by
 match vs,h with
 |[],_=>simp
 |[v],_=>simp[ajS]
 |_::_::_,h=>show absurd h ()
theorem Kf:∀as:List afG,Vals (as.map V.ref) (as.map afS)
 |[]=> .nil
 |a::as=> .cons rfl (Kf as)
end Pu
namespace Pu
open PySem PySem.Spec L2
open PyProof.Rows hiding St
section
variable{a b:afV}{f g:aq->R D}
def Pq(i k:Nat)(f g:aq->R D):aq->So:=λρ=>lM (f ρ) ρ λd=>lM (g ρ) ρ λe=> .nx ((ρ.set i (some (.val d))).set k (some (.val e)))
theorem adz(i k:Nat){x y:Str}{px py pt:Pos}{kt k2 pt2}(hc:X.calm=true)(hN:X.N.Nodup)(ha:DE X a f)(hb:DE X b g)(hi:X.N[i]?=some x:=by rfl)(hk:X.N[k]?=some y:=by rfl)(hik:i≠k:=by decide)
  (hx:X.env.scope.names.lookup x=some .local:=by rfl)(hy:X.env.scope.names.lookup y=some .local:=by rfl)
  (h1:afL [a,b] X.env=(false,eval a X.env)::afL [b] X.env:=by rfl)(h2:afL [b] X.env=(false,eval b X.env)::afL [] X.env:=by rfl)
  (hw:ajI [.Tuple [.Name x px,.Name y py] kt pt] (.Tuple [a,b] k2 pt2) X.env=pure (some [x,y]):=by rfl)
  (hs:ajH [.Tuple [.Name x px,.Name y py] kt pt] (.Tuple [a,b] k2 pt2) pos.line X.env=pure false:=by rfl):
  DS X (.Assign [.Tuple [.Name x px,.Name y py] kt pt] (.Tuple [a,b] k2 pt2) pos) (Pq i k f g):=by
 show PS.imp (ps_par hc hN hi hk hik hx hy (pa_cons ha (pa_cons hb pa_nil h2) h1) hw hs) λσ H E h=>?_;let⟨H0,O0,O,ρ,j,h⟩:=h;show⟨ρ,O,j.inn,?_⟩;unfold Pq lM at h;cases e1:f ρ with
 |bad=>rw[e1] at h;show h
 |err c=>rw[e1] at h;show h σ H O j
 | ok d=>
  rw[e1] at h;intro v H1 s1 rv;have j1:=j.grow s1;show⟨ρ,O,j1.inn,?_⟩;cases e2:g ρ with
  |bad=>simp only[e2] at h;show h
  |err c=>simp only[e2] at h;show Lh.same (h σ H O j) s1
  | ok e=>
   simp only[e2] at h;intro w H2 s2 rw2;show⟨v,w,rfl,?_⟩;show h _ H2 O (((j1.grow s2).set (z1b hi).1 (rv.same s2)).set (z1b hk).1 rw2) ((Same.gb s1).trans (Same.gb s2))
def Pr(i k:Nat)(f:aq->R D)(fa:aq->R (List D)):aq->So:=λρ=>lM (f ρ) ρ λd=>match fa ρ with
 | .ok ds=>if ds.length<=1000000 then .nx ((ρ.set i (some (.val d))).set k (some (.lst ds))) else .bad
 |_=> .bad
theorem ab3(i k:Nat){x y:Str}{px py pt p3:Pos}{kt k2 pt2}(hc:X.calm=true)(hN:X.N.Nodup)(ha:DE X a f)(hb:DA X es fa)(hi:X.N[i]?=some x:=by rfl)(hk:X.N[k]?=some y:=by rfl)
  (hx:Loc X.env.scope x:=by first |show ag1 rfl |show agK rfl)(hy:Loc X.env.scope y:=by first |show ag1 rfl |show agK rfl)
  (hfx:X.fn x=true\/X.env.scope.names.lookup x=some .local:=by first |show .inl rfl |show .inr rfl)(Pj:X.fn y=true\/X.env.scope.names.lookup y=some .local:=by first |show .inl rfl |show .inr rfl)
  (h1:afL [a,.List es p3] X.env=(false,eval a X.env)::afL [.List es p3] X.env:=by rfl)(h2:afL [.List es p3] X.env=(false,eval (.List es p3) X.env)::afL [] X.env:=by rfl)
  (hs:ajH [.Tuple [.Name x px,.Name y py] kt pt] (.Tuple [a,.List es p3] k2 pt2) pos.line X.env=pure false:=by rfl)(hw:ajI [.Tuple [.Name x px,.Name y py] kt pt] (.Tuple [a,.List es p3] k2 pt2) X.env=pure none:=by rfl):
  DS X (.Assign [.Tuple [.Name x px,.Name y py] kt pt] (.Tuple [a,.List es p3] k2 pt2) pos) (Pr i k f fa):=by
 show PS.imp (ps_asg (pe_tup (pa_cons ha (pa_cons (Um hb) pa_nil h2) h1)) (pg_tup hc (pgs_cons (pg_name hN hi hx hfx) (pgs_cons (pg_name hN hk hy Pj) pgs_nil))) hs hw) λσ H E h=>?_;let⟨H0,O0,O,ρ,j,h⟩:=h;show⟨ρ,O,j.inn,?_⟩;unfold Pr lM at h;cases e1:f ρ with
 |bad=>rw[e1] at h;show h
 |err c=>rw[e1] at h;show h σ H O j
 | ok d=>
  rw[e1] at h;intro v H1 s1 rv;have j1:=j.grow s1;show⟨ρ,O,j1.inn,?_⟩;cases e2:fa ρ with
  |bad=>simp only[e2] at h;show h
  |err c=>simp only[e2] at h;show h.elim
  | ok ds=>
   simp only[e2] at h;by_cases hl:ds.length<=1000000
   .simp only[z9p hl] at h;intro vs H2 s2 rvs;show⟨by rw[<-rvs.length];show z0b hl iI,λp hp hpk=>?_⟩;show⟨by show 2<=sizeLine;decide,λt ht=>?_⟩;show⟨t,[v,.ref p],rfl,SqT.of upd_same,rfl,v,[.ref p],rfl,.ref p,[],rfl,rfl,?_⟩;have j2:=(j1.grow s2).set (z1b hi).1 (rv.same s2);let⟨j3,r3⟩:=j2.own (z1b hk).1 (o:= .lst vs) (en:= .lst ds) hp hpk rfl ⟨p,vs,rfl,.inr rfl,upd_same,rvs.go ⟨(Same.gb (K:=X.K) (O:=O) (Same.upd hp)).ext,λa z=>z.elim .inl λe=> .inr (by rw[e];show⟨hp,hpk⟩),(Same.gb (K:=X.K) (O:=O) (Same.upd hp)).dom⟩⟩;have s4:Same (upd H2 p (.lst vs)) (upd (upd H2 p (.lst vs)) t (.tup [v,.ref p])):=Same.upd ht;show h _ _ _ (j3.grow s4) ((((Same.gb s1).trans (Same.gb s2)).trans r3).trans (Same.gb s4))
   .simp only[z9n hl] at h;show h.elim
end
def Eh(s:String):Bool:=s == "int" || s == "bool"
def yX(s:String):Bool:=s == "bool"
def iJ(s:String):Bool:=s == "tuple"
def Px(s:String):Bool:=s == "list"
def dY(P:afQ)(w:af2)(K:w0a)(mg:Str->Option afF)(base:af8)(k:Nat)(x:Str)(n:Nat)(F:List D->R D):Prop:=
 ∃f fd ps,FnOk P w K mg base CX0 k f fd ps (Fo K n F)/\mg x=some (.ref f)/\w0d K (.ref f)=true/\Binds K fd ps []
theorem bC{k n m:Nat}{F:List D->R D}{p pos:Pos}(G:dY X.prog X.w X.K X.mg X.base k x n F)(hr:Room m X.A)(hkm:k<=m)(ha:DA X (e::es) fa)(hg:Gl X x:=by rfl)
  (hdb:(x ==("__debug__" :Str))=false:=by decide)(he:afL (e::es) X.env=(false,eval e X.env)::afL es X.env:=by rfl)(hpl:(agS pos (afL es X.env)).any (·.1)=false:=by rfl):
  DE X (.Call (.Name x p) (e::es) [] pos) (aD (aO F n) fa):=by
 let⟨f,fd,ps,ok,hm,hk,hb⟩:=G;show ab2 ok (hr.mono hkm) hg hm hk hb ha hdb he hpl
theorem cY(hr:Room k A):A.units+60<agR:=by have:=hr.un;omega
theorem adA{x qual:Str}{st:agl}{f:afG}{N ps:List Str}{k n m:Nat}(Fn:Fun K x qual st f fd)(hmg:mg x=some (.ref f))(hb:Binds K fd ps [])(S:FnScope N ps (defScope st))(hn:ps.length=n)(hm:N.length=n+m)
  (hbody:∀(cdv:afF) (A:afZ) (outer:List PySem.Env) (s:afH) (H:Hp) (E:XK),Room k (A.deeper (aij qual (defScope st) s.heap.objs.size f cdv))->mY (cxOf CX0 P w K mg base N qual (defScope st) f cdv A outer s H E).nox (defBody st) g):
  dY P w K mg base (k+1) x n (cL m g):=⟨f,fd,ps,fnD Fn S hn hm hbody λds d _ e=>e,hmg,Fn.kp,hb⟩
theorem sp_law{F:List D->R D}{E:XK}(hS:SqL K H a (ns.map V.int))(hF:F [.lst (ns.map D.int)]= .ok (.bl true)):Fo K 1 F [.ref a] H (λv _=>v= .bl true) E:=by
 show⟨λ_=>False,[.lst (ns.map D.int)],.cons (nW hS (λz=>z) ?_) .nil,rfl,λa z=>z.elim,?_⟩
 .have:∀l:List Int,aN K (λ_=>False) H (l.map D.int) (l.map V.int):=by
   intro l
   induction l with
   |nil=>show .nil
   |cons i l ih=>show .cons (cD i) ih
  show this ns
 .rw[hF];show λv H' _ r=>r.bl
end Pu
namespace Pu
open PySem PySem.Spec L2
variable{i j:Int}{xs:List D}{l:List α}
theorem Uo{k:D->R (Option D)}{c h:α->D}:∀{l:List α},(∀a∈l,k (c a)= .ok (some (h a)))->lK k (l.map c)= .ok (l.map h)
 |[],_=>rfl
 | a::l,q=>by
  rw[z1h,lK,q a (),HF,R.bO,Uo λb hb=>q b (by simp[hb])];rfl
theorem HS{c:α->Bool}:∀{l:List α},boolsOf (l.map λa=> .bl (c a))=some (l.map c)
 |[]=>rfl
 | a::l=>by
  rw[z1h,boolsOf,HS];rfl
theorem Bv{c:α->Int}:∀{l:List α},intsOf (l.map λa=> .int (c a))=some (l.map c)
 |[]=>rfl
 | a::l=>by
  rw[z1h,intsOf,Bv];rfl
theorem Kg{c:α->D}:∀{l:List α},(∀a∈l,dep (c a)<=n)->deps (l.map c)<=n
 |[],_=>by rw[ajv,deps];omega
 | a::l,h=>by
  rw[z1h,deps];have:=h a ();have:=Kg (l:=l) λb hb=>h b (by simp[hb]);omega
theorem kh{e:D}(h:d=e)(hd:dep d<=40):nZ d e= .ok (.bl false):=by
 subst h;rw[nZ,z9p hd,yW];rfl
theorem Py{e:D}(h:d=e)(hd:dep d<=40):jD d e= .ok (.bl true):=by
 subst h;rw[jD,z9p hd,yW]
theorem all_true:(l.map λ_=>true).all id=true:=by
 induction l with
 |nil=>rfl
 |cons a l ih=>rw[z1h,aiP,ih];rfl
theorem atI_nat{xs:List α}{j:Nat}(h:j<xs.length):atI xs (j:Int)=some xs[j]:=by
 unfold atI ixN;rw[z9p (),z9p (),ah3,Option.bind_some,aga h]
theorem Ei{xs:List α}(h0:0<=i)(h1:i<xs.length):∃x∈xs,atI xs i=some x:=by
 let⟨j,rfl⟩:=agy h0;have hj:j<xs.length:=()
 show⟨xs[j],ai5 hj,atI_nat hj⟩
theorem bR{caps:List Nat}{c h:α->D}(e1:fi ρ= .ok (l.map c))(hl:l.length<=1000000)
  (e2:∀a∈l,qj gt ft fe (Eb n caps ρ) (c a)= .ok (some (h a))):bN n caps fi gt ft fe ρ= .ok (.lst (l.map h)):=by
 rw[bN,e1,R.bO,Uo e2,R.bO,cap,z9p (by rw[z1g];show hl)]
def look:List (Int×Int)->Int->Int
 |[],_=>0
 |(k,v)::r,c=>if k=c then v else look r c
abbrev keys(ps:List (Int×Int)):List Int:=ps.map (·.1)
section
variable{ρ ρ':aq}{f g:aq->R D}{p q:aq->R Bool}{x y d:D}{xs ds:List D}{r:R D}{k:D->D->R D}{c:List D->R D}{F:List D->R D}{o:So}{s t:aq->So}{b:Bool}
theorem aP(e:fa ρ= .ok ds)(h:c ds=r):aD c fa ρ=r:=by rw[aD,e];show h
theorem aV(e:fa ρ= .ok ds)(h:F ds= .ok d)(hl:ds.length=n:=by rfl):aD (aO F n) fa ρ= .ok d:=by rw[aD,e,R.bO,aO,z9p hl,h];rfl
theorem aB(e1:f ρ= .ok x)(e2:fa ρ= .ok xs):ak f fa ρ= .ok (x::xs):=by rw[ak,e1,R.bO,e2];rfl
theorem au(e:f ρ= .ok x):ak f (λ_=> .ok []) ρ= .ok [x]:=aB e rfl
theorem aA(e1:f ρ= .ok x)(e2:g ρ= .ok y)(h:k x y=r):bin f g k ρ=r:=by rw[bin,e1,R.bO,e2];show h
theorem u6(e1:f ρ= .ok (.bl true))(e2:g ρ=r):uR f g ρ=r:=by rw[uR,e1];show e2
theorem Bw{h:aq->R D}{l:D->D->R D}{z:D}(e1:f ρ= .ok x)(e2:g ρ= .ok y)(e3:k x y= .ok (.bl true))(e4:h ρ= .ok z)(e5:l y z=r):Fl f g h k l ρ=r:=by
 rw[Fl,e1,R.bO,e2,R.bO,e3,R.bO];show (h ρ).bind _=_;rw[e4];show e5
theorem iu(e:fa ρ= .ok ds)(h:ds.length<=1000000:=by show ajx rfl):iB fa ρ= .ok (.tup ds):=by rw[iB,e,R.bO,cap,z9p h]
theorem fM(e:fa ρ= .ok ds)(h:ds.length<=1000000:=by show ajx rfl):jA fa ρ= .ok (.lst ds):=by rw[jA,e,R.bO,cap,z9p h]
theorem dZ(e:f ρ= .ok (.tup ds)):dB f ρ= .ok ds:=by rw[dB,e];rfl
theorem gO(e:f ρ= .ok (.lst ds)):dB f ρ= .ok ds:=by rw[dB,e];rfl
theorem m8(e:fa ρ= .ok [.int (m:Int)])(h:m<2^62):(λρ=>(fa ρ).bind lJ) ρ= .ok ((afI m).map λ(i:Nat)=>D.int (i:Int)):=by
 show (fa ρ).bind lJ=_;rw[e,R.bO,lJ,z9p ⟨by have:(0:Int)<=m:=aje m;omega,()⟩];simp[upto]
theorem cB{ρ1:aq}(e1:gt x ρ= .ok ρ1)(e2:f ρ1= .ok d):qj gt (λ_=> .ok true) f ρ x= .ok (some d):=by
 rw[qj,e1,R.bO,R.bO,z9p rfl,e2];rfl
theorem aX(e:f ρ= .ok (.bl b)):cC f ρ= .ok b:=by rw[cC,e];rfl
theorem eG(e:p ρ= .ok b):jz p ρ= .ok (!b):=by rw[jz,e];rfl
theorem rJ(e1:p ρ= .ok false)(e2:q ρ= .ok b):xW p q ρ= .ok b:=by rw[xW,e1,R.bO,z9n {}];show e2
theorem oh(e1:p ρ= .ok true)(e2:q ρ= .ok b):lO p q ρ= .ok b:=by rw[lO,e1,R.bO,z9p rfl];show e2
theorem yh(e1:p ρ= .ok false):lO p q ρ= .ok false:=by rw[lO,e1,R.bO,z9n {}]
theorem mO{i:Nat}(h:xs[i]?=some d):cA (.tup xs) (.int (i:Int))= .ok d:=by
 let⟨hi,e⟩:=z1b h;rw[cA,atI_nat hi,e]
theorem yj{i:Nat}(h:xs[i]?=some d):cA (.lst xs) (.int (i:Int))= .ok d:=by
 let⟨hi,e⟩:=z1b h;rw[cA,atI_nat hi,e]
theorem aK(e1:s ρ= .nx ρ')(e2:t ρ'=o):aQ s t ρ=o:=by rw[aQ,e1];show e2
theorem bJ(e:f (eF ρ)= .ok d):retS f ρ= .rt d:=by rw[retS,e];rfl
theorem bw(e:f ρ= .ok d)(e2:gt d ρ= .ok ρ'):bF f gt ρ= .nx ρ':=by rw[bF,e];show (match gt d ρ with | .ok ρ'=>So.nx ρ' |_=> .bad)=_;rw[e2]
theorem mQ(e:f (eF ρ)= .ok d):nD f ρ= .nx ρ:=by rw[nD,e];rfl
theorem jL(e:p (eF ρ)= .ok true)(e2:s ρ=o):eX p s t ρ=o:=by rw[eX,e];show e2
theorem cQ(e:p (eF ρ)= .ok false)(e2:t ρ=o):eX p s t ρ=o:=by rw[eX,e];show e2
theorem cO(e:s (ds.map (λd=>some (.val d))++afU m none)= .rt d):cL m s ds= .ok d:=by rw[cL,e]
theorem Oq(e:s (ds.map (λd=>some (.val d))++afU m none)= .nx ρ):cL m s ds= .ok .non:=by rw[cL,e]
theorem m9(h:(-(2^64)<i/\i<2^64)\/(-(2^64)<j/\j<2^64)):iT (.int i) (.int j)= .ok (.int (i*j)):=by
 show (if _ then _ else _)=_;rw[z9p h]
theorem oY(h:0<j/\j<2^64):jh (.int i) (.int j)= .ok (.int (i / j)):=by
 show (if _ then _ else _)=_;rw[z9p h]
theorem oZ(h:0<j):fV (.int i) (.int j)= .ok (.int (i % j)):=by
 show (if _ then _ else _)=_;rw[z9p h]
theorem uH:su [.lst (l.map λ_=> .bl true)]= .ok (.bl true):=by
 have:=HS (c:=λ_:α=>true) (l:=l);rw[su,this];show R.ok (D.bl _)=_;rw[all_true]
theorem Ej{c:α->Int}:yU [.lst (l.map λa=> .int (c a))]= .ok (.int (l.map c).sum):=by rw[yU,Bv]
end
def Kh:aq->So:=(aQ (bF (bin (λ_=> .ok (.int 7)) (λρ=>bY ρ 1) iT) (aH 3)) (aQ (eX (cC (bin (λρ=>bY ρ 0) (jA (λ_=> .ok [])) nZ)) (aQ (bF (bin (λρ=>bY ρ 0) (bin (λρ=>bY ρ 1) (aD cF (ak (λρ=>bY ρ 0) (λ_=> .ok []))) fV) cA) (aH 3)) (aQ (bF (bin (λρ=>bY ρ 1) (aD cF (ak (λρ=>bY ρ 0) (λ_=> .ok []))) jh) (aH 4)) (aQ (eX (lO (cC (bin (λρ=>bY ρ 3) (bin (λ_=> .ok (.int 10)) (λ_=> .ok (.int 18)) wV) XR)) (cC (bin (λρ=>bY ρ 4) (λ_=> .ok (.int 60)) ltI))) (aQ (bF (bin (λρ=>bY ρ 3) (bin (λ_=> .ok (.int 10)) (λ_=> .ok (.int 18)) wV) jh) (aH 5)) (aQ (oO (lO (cC (bin (λρ=>bY ρ 5) (λ_=> .ok (.int 0)) wA)) (cC (bin (λρ=>bY ρ 4) (λ_=> .ok (.int 0)) wA))) (aQ (bF (bin (λρ=>bY ρ 5) (λ_=> .ok (.int 1000000)) jh) (aH 5)) (bF (bin (λρ=>bY ρ 4) (λ_=> .ok (.int 1)) fU) (aH 4))) 64) (eX (cC (bin (λρ=>bY ρ 5) (λ_=> .ok (.int 0)) wA)) (retS (bin (bin (λρ=>bY ρ 5) (λ_=> .ok (.int 1000000)) fV) (λρ=>bY ρ 2) fV)) So.nx))) So.nx) (bF (bin (λρ=>bY ρ 3) (bin (λ_=> .ok (.int 6553)) (bin (λρ=>bY ρ 1) (aD cF (ak (λρ=>bY ρ 0) (λ_=> .ok []))) jh) iT) fH) (aH 3))))) So.nx) (aQ (bF (bin (bin (bin (bin (λρ=>bY ρ 3) (λ_=> .ok (.int 2147483563)) fV) (λ_=> .ok (.int 69069)) iT) (bin (λ_=> .ok (.int 104723)) (bin (λρ=>bY ρ 1) (λ_=> .ok (.int 1)) fH) iT) fH) (λ_=> .ok (.int 2147483563)) fV) (aH 3)) (aQ (bF (bin (bin (bin (λρ=>bY ρ 3) (λρ=>bY ρ 3) iT) (bin (λρ=>bY ρ 3) (λ_=> .ok (.int 3)) jh) fH) (λ_=> .ok (.int 2147483399)) fV) (aH 3)) (retS (bin (bin (bin (bin (bin (λρ=>bY ρ 3) (λρ=>bY ρ 3) iT) (bin (λρ=>bY ρ 3) (λ_=> .ok (.int 7)) jh) fH) (λ_=> .ok (.int 2147483647)) fV) (λ_=> .ok (.int 11)) jh) (λρ=>bY ρ 2) fV))))))
def tailD:aq->So:=(aQ (bF (bin (bin (bin (bin (λρ=>bY ρ 3) (λ_=> .ok (.int 2147483563)) fV) (λ_=> .ok (.int 69069)) iT) (bin (λ_=> .ok (.int 104723)) (bin (λρ=>bY ρ 1) (λ_=> .ok (.int 1)) fH) iT) fH) (λ_=> .ok (.int 2147483563)) fV) (aH 3)) (aQ (bF (bin (bin (bin (λρ=>bY ρ 3) (λρ=>bY ρ 3) iT) (bin (λρ=>bY ρ 3) (λ_=> .ok (.int 3)) jh) fH) (λ_=> .ok (.int 2147483399)) fV) (aH 3)) (retS (bin (bin (bin (bin (bin (λρ=>bY ρ 3) (λρ=>bY ρ 3) iT) (bin (λρ=>bY ρ 3) (λ_=> .ok (.int 7)) jh) fH) (λ_=> .ok (.int 2147483647)) fV) (λ_=> .ok (.int 11)) jh) (λρ=>bY ρ 2) fV))))
def adB:aq->So:=(eX (lO (cC (bin (λρ=>bY ρ 3) (bin (λ_=> .ok (.int 10)) (λ_=> .ok (.int 18)) wV) XR)) (cC (bin (λρ=>bY ρ 4) (λ_=> .ok (.int 60)) ltI))) (aQ (bF (bin (λρ=>bY ρ 3) (bin (λ_=> .ok (.int 10)) (λ_=> .ok (.int 18)) wV) jh) (aH 5)) (aQ (oO (lO (cC (bin (λρ=>bY ρ 5) (λ_=> .ok (.int 0)) wA)) (cC (bin (λρ=>bY ρ 4) (λ_=> .ok (.int 0)) wA))) (aQ (bF (bin (λρ=>bY ρ 5) (λ_=> .ok (.int 1000000)) jh) (aH 5)) (bF (bin (λρ=>bY ρ 4) (λ_=> .ok (.int 1)) fU) (aH 4))) 64) (eX (cC (bin (λρ=>bY ρ 5) (λ_=> .ok (.int 0)) wA)) (retS (bin (bin (λρ=>bY ρ 5) (λ_=> .ok (.int 1000000)) fV) (λρ=>bY ρ 2) fV)) So.nx))) So.nx)
def wcD:aq->R Bool:=(lO (cC (bin (λρ=>bY ρ 5) (λ_=> .ok (.int 0)) wA)) (cC (bin (λρ=>bY ρ 4) (λ_=> .ok (.int 0)) wA)))
def wbD:aq->So:=(aQ (bF (bin (λρ=>bY ρ 5) (λ_=> .ok (.int 1000000)) jh) (aH 5)) (bF (bin (λρ=>bY ρ 4) (λ_=> .ok (.int 1)) fU) (aH 4)))
section
variable{S s0 s1 s2 s3 x y:Option Ent}{k m c:Int}
theorem tail_eq(hm:0<m):∃v,tailD [S,some (.val (.int k)),some (.val (.int m)),some (.val (.int c)),x,y]= .rt (.int v)/\0<=v/\v<m:=by
 show⟨_,aK (bw (aA (aA (aA (aA rfl rfl (oZ ())) rfl (m9 (.inr ⟨(),()⟩))) (aA rfl (aA rfl rfl rfl) (m9 (.inl ⟨(),()⟩))) rfl) rfl (oZ ())) rfl)
  (aK (bw (aA (aA (aA rfl rfl (m9 (.inl ?b1))) (aA rfl rfl (oY ⟨(),()⟩)) rfl) rfl (oZ ())) rfl)
  (bJ (aA (aA (aA (aA (aA rfl rfl (m9 (.inl ?b2))) (aA rfl rfl (oY ⟨(),()⟩)) rfl) rfl (oZ ())) rfl (oY ⟨(),()⟩)) rfl (oZ hm)))),ajg _ (),aiG _ hm⟩
 case b1=>
  have h1:=ajg (c % 2147483563*69069+104723*(k+1)) (b:=2147483563) ();have h2:=aiG (c % 2147483563*69069+104723*(k+1)) (b:=2147483563) ();constructor <;> omega
 case b2=>
  generalize (c % 2147483563*69069+104723*(k+1)) % 2147483563=z
  have h1:=ajg (z*z+z / 3) (b:=2147483399) ();have h2:=aiG (z*z+z / 3) (b:=2147483399) ();constructor <;> omega
theorem yZ:wA (.int i) (.int j)= .ok (.bl (decide (j<i))):=rfl
theorem Pz:∀{n:Nat} {t r:Int},0<=t->t<n->∃t' r',oO wcD wbD n [s0,s1,s2,s3,some (.val (.int t)),some (.val (.int r))]= .nx [s0,s1,s2,s3,some (.val (.int t')),some (.val (.int r'))]
 |0,t,r,h0,h1=>()
 | n+1,t,r,h0,h1=>by
  rw[oO];by_cases hr:0<r
  .by_cases ht:0<t
   .let⟨t',r',e⟩:=Pz (n:=n) (t:=t - 1) (r:=r / 1000000) () ();show⟨t',r',?_⟩;have e1:wcD (eF [s0,s1,s2,s3,some (.val (.int t)),some (.val (.int r))])= .ok true:=oh (aX (aA rfl rfl (by rw[yZ,z9t hr]))) (aX (aA rfl rfl (by rw[yZ,z9t ht])));have e2:wbD [s0,s1,s2,s3,some (.val (.int t)),some (.val (.int r))]= .nx [s0,s1,s2,s3,some (.val (.int (t - 1))),some (.val (.int (r / 1000000)))]:=aK (bw (aA rfl rfl (oY ⟨(),()⟩)) rfl) (bw (aA rfl rfl rfl) rfl);simp only[e1,e2];show e
   .show⟨t,r,?_⟩;have e1:wcD (eF [s0,s1,s2,s3,some (.val (.int t)),some (.val (.int r))])= .ok false:=oh (aX (aA rfl rfl (by rw[yZ,z9t hr]))) (aX (aA rfl rfl (by rw[yZ,z9f ht])));simp only[e1]
  .show⟨t,r,?_⟩;have e1:wcD (eF [s0,s1,s2,s3,some (.val (.int t)),some (.val (.int r))])= .ok false:=yh (aX (aA rfl rfl (by rw[yZ,z9f hr])));simp only[e1]
theorem HW:wV (.int 10) (.int 18)= .ok (.int 1000000000000000000):=by
 unfold wV iD;simp only[];rw[z9p ⟨{},{},{}⟩];rfl
theorem adC{t:Int}(hm:0<m)(ht:0<=t):(∃t' x',adB [S,some (.val (.int k)),some (.val (.int m)),some (.val (.int c)),some (.val (.int t)),x]= .nx [S,some (.val (.int k)),some (.val (.int m)),some (.val (.int c)),some (.val (.int t')),x'])\/
  ∃v,adB [S,some (.val (.int k)),some (.val (.int m)),some (.val (.int c)),some (.val (.int t)),x]= .rt (.int v)/\0<=v/\v<m:=by
 by_cases h1:1000000000000000000<=c
 .by_cases h2:t<60
  .have e:(lO (cC (bin (λρ=>bY ρ 3) (bin (λ_=> .ok (.int 10)) (λ_=> .ok (.int 18)) wV) XR)) (cC (bin (λρ=>bY ρ 4) (λ_=> .ok (.int 60)) ltI))) (eF [S,some (.val (.int k)),some (.val (.int m)),some (.val (.int c)),some (.val (.int t)),x])= .ok true:=
    oh (aX (aA rfl (aA rfl rfl HW) (by show R.ok (D.bl (decide _))=_;rw[z9t h1]))) (aX (aA rfl rfl (by show R.ok (D.bl (decide _))=_;rw[z9t h2])))
   let⟨t',r',ew⟩:=Pz (s0:=S) (s1:=some (.val (.int k))) (s2:=some (.val (.int m))) (s3:=some (.val (.int c))) (n:=64) (t:=t) (r:=c / 1000000000000000000) ht ();by_cases h3:0<r'
   .show .inr ⟨_,jL e (aK (bw (aA rfl (aA rfl rfl HW) (oY ⟨(),()⟩)) rfl) (aK ew (jL (aX (aA rfl rfl (by rw[yZ,z9t h3]))) (bJ (aA (aA rfl rfl (oZ ())) rfl (oZ hm)))))),ajg _ (),aiG _ hm⟩
   .show .inl ⟨t',some (.val (.int r')),jL e (aK (bw (aA rfl (aA rfl rfl HW) (oY ⟨(),()⟩)) rfl) (aK ew (cQ (aX (aA rfl rfl (by rw[yZ,z9f h3]))) rfl)))⟩
  .show .inl ⟨t,x,cQ (oh (aX (aA rfl (aA rfl rfl HW) (by show R.ok (D.bl (decide _))=_;rw[z9t h1]))) (aX (aA rfl rfl (by show R.ok (D.bl (decide _))=_;rw[z9f h2])))) rfl⟩
 .show .inl ⟨t,x,cQ (yh (aX (aA rfl (aA rfl rfl HW) (by show R.ok (D.bl (decide _))=_;rw[z9f h1])))) rfl⟩
end
theorem ou{s t:aq->So}(e1:s ρ= .rt d):aQ s t ρ= .rt d:=by rw[aQ,e1]
theorem u9(h:atI xs i=some d):cA (.lst xs) (.int i)= .ok d:=by rw[cA,h]
theorem aaC{k m:Int}(hl:ns.length<=1000000)(hk:0<=k)(hm:0<m):∃v,cL 3 Kh [.lst (ns.map .int),.int k,.int m]= .ok (.int v)/\0<=v/\v<m:=by
 have hd:dep (.lst (ns.map .int))<=40:=by
  rw[dep];have:=Kg (c:=D.int) (n:=0) (l:=ns) (λa _=>by simp[dep]);omega
 cases ns with
 | nil=>
  let⟨v,e,h⟩:=tail_eq (S:=some (.val (.lst []))) (k:=k) (c:=7*k) (x:=none) (y:=none) hm;show⟨v,cO (aK (bw (aA rfl rfl (m9 (.inl ⟨(),()⟩))) rfl) (aK (cQ (aX (aA rfl (fM rfl) (kh rfl hd))) rfl) e)),h⟩
 | cons a ns=>
  have hn:nZ (.lst ((a::ns).map .int)) (.lst [])= .ok (.bl true):=by
   rw[nZ,z9p hd];rfl
  have hlen:(0:Int)<(((a::ns).map D.int).length:Int):=by rw[z1g,afN];omega
  have hlen2:(((a::ns).map D.int).length:Int)<2^64:=by rw[z1g];omega
  let⟨d,hd1,hd2⟩:=Ei (xs:=(a::ns).map D.int) (i:=k % (((a::ns).map D.int).length:Int)) (ajg _ ()) (aiG _ hlen);obtain⟨c,-,rfl⟩:=afW.mp hd1;have ht:0<=k / (((a::ns).map D.int).length:Int):=Int.ediv_nonneg hk ()
  generalize hL:(((a::ns).map D.int).length:Int)=L at *
  have HY:∀(S x1 x2 x3 x4 x5:Option Ent),S=some (Ent.val (.lst ((a::ns).map D.int)))->aD cF (ak (λρ=>bY ρ 0) (λ_=> .ok [])) [S,x1,x2,x3,x4,x5]= .ok (.int L):=by
   intro S x1 x2 x3 x4 x5 e;subst e;rw[<-hL];show aP (au rfl) rfl
  rcases adC (S:=some (.val (.lst ((a::ns).map .int)))) (k:=k) (m:=m) (c:=c) (x:=none) hm ht with⟨t',x',e⟩ |⟨v,e,h⟩
  .let⟨v,e2,h⟩:=tail_eq (S:=some (.val (.lst ((a::ns).map .int)))) (k:=k) (c:=c+6553*(k / L)) (x:=some (.val (.int t'))) (y:=x') hm;show⟨v,cO (aK (bw (aA rfl rfl (m9 (.inl ⟨(),()⟩))) rfl) (aK (jL (aX (aA rfl (fM rfl) hn))
    (aK (bw (aA rfl (aA rfl (HY _ _ _ _ _ _ rfl) (oZ hlen)) (u9 hd2)) rfl) (aK (bw (aA rfl (HY _ _ _ _ _ _ rfl) (oY ⟨hlen,hlen2⟩)) rfl) (aK e (bw (aA rfl (aA rfl (aA rfl (HY _ _ _ _ _ _ rfl) (oY ⟨hlen,hlen2⟩)) (m9 (.inl ⟨(),()⟩))) rfl) rfl))))) e2)),h⟩
  .show⟨v,cO (aK (bw (aA rfl rfl (m9 (.inl ⟨(),()⟩))) rfl) (ou (jL (aX (aA rfl (fM rfl) hn))
    (aK (bw (aA rfl (aA rfl (HY _ _ _ _ _ _ rfl) (oZ hlen)) (u9 hd2)) rfl) (aK (bw (aA rfl (HY _ _ _ _ _ _ rfl) (oY ⟨hlen,hlen2⟩)) rfl) (ou e)))))),h⟩
theorem gF{ρ1 ρ2:aq}{b:aq->So}{x:D}{o:So}(e1:gt x ρ= .ok ρ1)(e2:b ρ1= .nx ρ2)(e3:forL gt b xs ρ2=o):forL gt b (x::xs) ρ=o:=by
 rw[forL];simp only[e1,e2];show e3
theorem mq{b:aq->So}{o:So}(e1:fi ρ= .ok xs)(e2:forL gt b xs ρ=o):nQ fi gt b ρ=o:=by
 rw[nQ,e1];show e2
theorem ab4{i k:Nat}{f:aq->R D}(e1:f ρ= .ok d)(e2:fa ρ= .ok ds)(h:ds.length<=1000000:=by show ajx rfl):Pr i k f fa ρ= .nx ((ρ.set i (some (.val d))).set k (some (.lst ds))):=by
 unfold Pr;rw[e1];simp only[lM,e2];rw[z9p h]
theorem ab5{i k:Nat}{f g:aq->R D}{e:D}(e1:f ρ= .ok d)(e2:g ρ= .ok e):Pq i k f g ρ= .nx ((ρ.set i (some (.val d))).set k (some (.val e))):=by
 unfold Pq;rw[e1];simp only[lM,e2]
def dr(ns:List Int)(k m:Int):Int:=match cL 3 Kh [.lst (ns.map .int),.int k,.int m] with
 | .ok (.int v)=>v
 |_=>0
theorem nF{k m:Int}(hl:ns.length<=1000000)(hk:0<=k)(hm:0<m):cL 3 Kh [.lst (ns.map .int),.int k,.int m]= .ok (.int (dr ns k m))/\0<=dr ns k m/\dr ns k m<m:=by
 let⟨v,e,h⟩:=aaC hl hk hm;have:dr ns k m=v:=by rw[dr,e]
 rw[this];show⟨e,h⟩
end Pu
namespace Pu
open PySem PySem.Spec L2
open PyProof.Rows hiding St
variable{l it f l1 l2 i1 i2:afG}{xs:Array afF}{t t1 t2:Bool}{tg iter elt:afV}{h h':af8}{ts:List (afG×Str)}{clos:List (Str×afG)}{ifs:List afV}{N ps:List Str}{zs ys vs:List V}{k n i:Nat}{pos pos':Pos}{st:agl}{qual name:Str}
def Bx:List D->R D
 |[.int i]=> .ok (.int (if i<0 then -i else i))
 |_=> .bad
theorem Ia:CallD X (.builtin "abs") Bx:=by
 show⟨_,call_abs,λρ O σ H Q xs ds j r h=>?_⟩;unfold Bx at h;split at h
 .rename_i i;let⟨x,rfl,rx⟩:=r.one;show⟨i,by rw[rx.int],fin h (cD _)⟩
 .show h.elim
def maxD:List D->R D
 |[.int i,.int j]=> .ok (.int (if j > i then j else i))
 |_=> .bad
theorem BJ(hc:X.calm=true):CallD X (.builtin "max") maxD:=by
 show⟨_,call_max2 hc,λρ O σ H Q xs ds j r h=>?_⟩;unfold maxD at h;split at h
 .rename_i i k;let⟨x,y,rfl,rx,ry⟩:=r.two;show⟨i,k,by rw[rx.int,ry.int],fin h (cD _)⟩
 .show h.elim
def minD:List D->R D
 |[.int i,.int j]=> .ok (.int (if j<i then j else i))
 |_=> .bad
theorem yp(hc:X.calm=true):CallD X (.builtin "min") minD:=by
 show⟨_,call_min2 hc,λρ O σ H Q xs ds j r h=>?_⟩;unfold minD at h;split at h
 .rename_i i k;let⟨x,y,rfl,rx,ry⟩:=r.two;show⟨i,k,by rw[rx.int,ry.int],fin h (cD _)⟩
 .show h.elim
def V9:D->Bool
 | .non=>true
 |_=>false
theorem ab6(r:Rep K O H d v):decide (v= .non)=V9 d:=by
 cases d with
 |non=>rw[r.non];rfl
 |bl b=>rw[r.bl];rfl
 |int i=>rw[r.int];rfl
 |str x=>rw[r.str];rfl
 |tup ds=>let⟨a,xs,rfl,_⟩:=r.tup;rfl
 |lst ds=>let⟨a,xs,rfl,_⟩:=r.lst;rfl
def isD:D->D->R D
 |d,.non=> .ok (.bl (V9 d))
 |_,_=> .bad
theorem Ot:jG X (agr .Is) isD:=by
 show⟨_,op_isN,λρ O σ H Q x y dx dy j0 rx ry h=>?_⟩;cases dy with
 |non=>show⟨ry.non,by rw[ab6 rx];show fin (a:=D.bl (V9 dx)) h (fJ _)⟩
 |_=>cases dx <;> show h.elim
theorem ab7:OpR X (ahv .Add) (λx y H Q=>∃a b ys,x= .ref a/\y= .ref b/\SqT X.K H a []/\SqT X.K H b ys/\Q (.ref b) H):=by
 intro pins s σ H x y v u Q I rx ry h;let⟨a,b,ys,rfl,rfl,ha,hb,q⟩:=h;cases rx;cases ry;let⟨its,r1,p1,_⟩:=I.tuple ha;let⟨its2,r2,p2,_⟩:=I.tuple hb;cases r1;let⟨⟨cls,dd,data,sl⟩,ho,hc,n,hd⟩:=id p1;let⟨⟨cls2,dd2,data2,sl2⟩,ho2,hc2,n2,hd2⟩:=id p2;simp only at hc hd hc2 hd2;subst hc hd hc2 hd2;show alp ⟨_,ho,rfl⟩ ⟨_,ho2,rfl⟩ alq seq_tuple_add PySem.F.slot_tuple_add PySem.F.entry_tuple_add (PySem.F.args_tuple_add_2 _ _)
   (tuple_addW0 a b _ _ n n2 dd dd2 sl sl2 rfl) ⟨ho,ho2,⟨.ref b,H,I,rfl,q⟩⟩
def afg:D->R D
 | .int i=> .ok (.int (-i))
 |_=> .bad
def Kl(f:aq->R D):aq->R D:=λρ=>(f ρ).bind afg
theorem PB{f:aq->R D}(he:DE X e f):DE X (.UnaryOp .USub e pos) (Kl f):=by
 show PE.imp (pe_un un_neg he) λσ H Q h=>?_;let⟨ρ,O,j,h⟩:=h;show go j h λd v H1 e1 s1 r1 j1 h1=>?_;cases d with
 |int i=>show⟨i,r1.int,fin h1 (cD _)⟩
 |_=>show h1.elim
theorem ab8:OpR X (ahv .Add) (λx y H Q=>∃a b xs ys,x= .ref a/\y= .ref b/\SqL X.K H a xs/\SqL X.K H b ys/\xs.length+ys.length<=sizeLine/\∀p,H p=none->Q (.ref p) (upd H p (.lst (xs++ys)))):=by
 intro pins s σ H x y v u Q I rx ry h;let⟨a,b,xs,ys,rfl,rfl,ha,hb,hz,q⟩:=h;cases rx;cases ry;let⟨its,r1,p1,_⟩:=I.list ha;let⟨its2,r2,p2,_⟩:=I.list hb;let⟨⟨cls,dd,data,sl⟩,n,ho,hc,hdd,hd⟩:=id p1;let⟨⟨cls2,dd2,data2,sl2⟩,n2,ho2,hc2,afD,hd2⟩:=id p2;simp only at hc hd hc2 hd2;subst hc hd hc2 hd2;show alp ⟨_,ho,rfl⟩ ⟨_,ho2,rfl⟩ noFill_list_add seq_list_add PySem.F.slot_list_add PySem.F.entry_list_add (PySem.F.args_list_add_2 _ _)
   (list_addW a b _ _ n n2 dd dd2 sl sl2 (by rw[z1c,z1c,<-r1.length,<-r2.length];show hz)) ⟨ho,ho2,?_⟩
 have ea:its.toArray++its2.toArray=(its++its2).toArray:=()
 rw[ea];show⟨.ref _,_,I.lnew (t':=s.toks) (r1.append r2) (by rw[z1d];omega),rfl,q _ I.fresh⟩
def fY:D->D->R D
 | .int i,.int j=> .ok (.int (i+j))
 | .tup xs,.tup ys=>if xs.length+ys.length<=1000000 then .ok (.tup (xs++ys)) else .bad
 | .lst xs,.lst ys=>if xs.length+ys.length<=1000000 then .ok (.lst (xs++ys)) else .bad
 |_,_=> .bad
theorem dJ:jG X (ahv .Add) fY:=by
 show⟨_,OpR.or op_add (OpR.or op_catT (OpR.or ab7 ab8)),λρ O σ H Q x y dx dy j0 rx ry h=>?_⟩;cases dx <;> cases dy <;> first
  |show h.elim
  |skip
 .rename_i i j;show .inl ⟨i,j,rx.int,ry.int,fin h (cD _)⟩
 .rename_i xs ys;have h:good X (rD X) O (if xs.length+ys.length<=1000000 then .ok (.tup (xs++ys)) else .bad) σ H Q:=h;by_cases hc:xs.length+ys.length<=1000000
  .rw[z9p hc] at h;let⟨a,us,rfl,ha,r1⟩:=rx.tup;let⟨b,ws,rfl,hb,r2⟩:=ry.tup;by_cases hx:us=[]
   .subst hx;have:xs=[]:=agp r1.length;subst this;show .inr (.inr (.inl ⟨a,b,ws,rfl,rfl,ha,hb,fin h (gM hb r2)⟩))
   .show .inr (.inl ⟨a,b,us,ws,rfl,rfl,ha,hb,hx,?_,λz=>?_,λz l hl=>?_⟩)
    .rw[<-r1.length,<-r2.length];show z0b hc iI
    .subst z;have:ys=[]:=agp r2.length;subst this;rw[agi] at h;show fin h (gM ha r1)
    .show h _ _ (Same.upd hl) (Rep.uF hl (r1.append r2))
  .rw[z9n hc] at h;show h.elim
 .rename_i xs ys;have h:good X (rD X) O (if xs.length+ys.length<=1000000 then .ok (.lst (xs++ys)) else .bad) σ H Q:=h;by_cases hc:xs.length+ys.length<=1000000
  .rw[z9p hc] at h;let⟨a,us,rfl,ha,_,r1⟩:=rx.lst;let⟨b,ws,rfl,hb,_,r2⟩:=ry.lst;show .inr (.inr (.inr ⟨a,b,us,ws,rfl,rfl,ha,hb,?_,λl hl=>?_⟩))
   .rw[<-r1.length,<-r2.length];show z0b hc iI
   .show h _ _ (Same.upd hl) (Rep.qd hl (j0.yP hl) (r1.append r2))
  .rw[z9n hc] at h;show h.elim
section
open HT in
theorem Br{t sl:afG}{items:Array afF}{vl vu:afF}{lo hi:Option Int}(ht:IsTup s.heap t items)(hs:s.heap.IsSliceOf sl vl vu .none)(pl:aku vl lo)(pu:aku vu hi)
  (hw:sIx items.size 0 lo=0/\sIx items.size items.size hi=items.size)(h:Q (.ref t) s):afK (model prog w) A (getItem (.ref t) (.ref sl)) Q E s:=by
 let⟨os,hos,hcs,hds⟩:=id hs;have hTs:s.TypeIs (.ref sl) "slice" :=⟨os,hos,hcs⟩;unfold getItem
 try with_reducible show ahc ?_
 first |show afE (afJ ?_) |skip
 show afE (wpAny_sequenceKey ht.typeIs {} ?_);show afE (agz (name:=ahS "__getitem__") ht.typeIs aha
  (ags aha ht.typeIs entry_tuple_getitem ?_ (args_tuple_getitem _ _)))
 show afK _ _ (ajJ (.ref t) >>=_) _ _ s;show afE (tupleItemsOf_ ht ?_);show afE (aju hTs ?_);rw[z9p {}];show afE (sliceApplied_gen hs pl pu ?_);show afK _ _ (if (((sIx items.size 0 lo:Nat):Int) ==0 && (1:Int) ==1 && (sIx items.size items.size hi - sIx items.size 0 lo) ==items.size)=true then _ else _) _ _ s;rw[z9p (by rw[hw.1,hw.2];simp)];show afE (m:=Builtin.Tuple.tupleIsExact _) (afE (aju ht.typeIs (afJ ?_)));rw[z9p (beq_self_eq_true _)]
 first
  |show afE (afJ (afJ ⟨_,rfl,afJ h⟩))
  |show afE (ahg (afJ ⟨_,rfl,afJ h⟩))
end
section
variable{e e1:afV}{lo hi:Option afV}{f f1:aq->R D}{fl fu:aq->R (Option Int)}{pos p2:Pos}
def afh(K:w0a):V->Option Int->Option Int->Hp->VK->Prop:=λx lo hi H Q=>∃a xs,x= .ref a/\SqT K H a xs/\
 (HT.sIx xs.length 0 lo=0/\HT.sIx xs.length xs.length hi=xs.length)/\Q (.ref a) H
theorem ab9:SlR X (afh X.K):=by
 intro pins s σ H x v vl vu lo hi sl Q I rx hs pl pu h;let⟨a,xs,rfl,hx,hw,q⟩:=h;cases rx;let⟨its,r,ht,hz⟩:=I.tuple hx;have hlen:its.toArray.size=xs.length:=by rw[z1c];show r.length.symm
 show⟨"tuple",_,aha.lookup,ht.typeIs,Br ht hs pl pu (by rw[hlen];show hw) ⟨.ref a,H,I,rfl,q⟩⟩
abbrev afi:(afG->Prop)->Hp->Option Int->Option Int->Prop:=λ_ _ a b=>a=b
def Uq(X:Cx)(lo:Option afV)(fo:aq->R (Option Int)):Prop:=PO X lo (tG X afi fo)
theorem PO.imp{t t':TO}(h:PO X lo t)(w:∀σ H Q,t' σ H Q->t σ H Q):PO X lo t':=λpins s σ H Q I q=>h pins s σ H Q I (w σ H Q q)
theorem za:Uq X none (λ_=> .ok none):=by
 show PO.imp po_none λσ H Q h=>?_;let⟨ρ,O,j,h⟩:=h;show fin h rfl
def Ib:D->R (Option Int)
 | .int i=> .ok (some i)
 |_=> .bad
theorem zc(h:DE X e1 f1):Uq X (some e1) (λρ=>(f1 ρ).bind Ib):=by
 show PO.imp (po_some h) λσ H Q h=>?_;let⟨ρ,O,j,h⟩:=h;show go j h λd v H1 e1 s1 r1 j1 h1=>?_;cases d with
 |int i=>show⟨i,r1.int,fin h1 rfl⟩
 |_=>show h1.elim
def sE(ds:List D)(lo hi:Option Int):List D:=(ds.drop (HT.sIx ds.length 0 lo)).take (HT.sIx ds.length ds.length hi - HT.sIx ds.length 0 lo)
def adD(d:D)(lo hi:Option Int):R D:=match d with
 | .tup ds=> .ok (.tup (sE ds lo hi))
 |_=> .bad
def Ie(f:aq->R D)(fl fu:aq->R (Option Int)):aq->R D:=λρ=>(f ρ).bind λd=>(fl ρ).bind λl=>(fu ρ).bind λu=>adD d l u
theorem aaD(he:DE X e f)(hl:Uq X lo fl)(hu:Uq X hi fu):DE X (.Subscript e (.Slice lo hi none p2) pos) (Ie f fl fu):=by
 show PE.imp (pe_slice (SlR.or sl_tup ab9) he hl hu) λσ H Q h=>?_;let⟨ρ,O,j,h⟩:=h;show go j h λd v H1 e1 s1 r1 j1 h1=>?_;show go j1 h1 λl l' H2 e2 s2 r2 j2 h2=>?_;show go j2 h2 λu u' H3 e3 s3 r3 j3 h3=>?_;have r2:l=l':=r2;have r3:u=u':=r3;subst r2 r3;cases d with
 | tup ds=>
  have r1':=(r1.same s2).same s3;let⟨a,xs,rfl,hq,rs⟩:=r1'.tup;have hlen:=rs.length;by_cases hw:HT.sIx xs.length 0 l=0/\HT.sIx xs.length xs.length u=xs.length
  .show .inr ⟨a,xs,rfl,hq,hw,?_⟩;have e:sE ds l u=ds:=by
    unfold sE;rw[hlen,hw.1,hw.2,ah0,akB,<-hlen,ai6]
   have h3:good X (rD X) O (.ok (.tup (sE ds l u))) σ H3 Q:=h3;rw[e] at h3;show fin h3 (gM hq rs)
  .show .inl ⟨a,xs,rfl,hq,hw,λp hp=>?_⟩;show h3 _ _ (Same.upd hp) (Rep.uF hp ?_);unfold sE cutV;rw[hlen];show (rs.drop _).take _
 |_=>show h3.elim
end
def pickK(z:α)(sel:List (Sum Nat α))(ws:List α):List α:=sel.map λ
 | .inl i=>ws.getD i z
 | .inr c=>c
inductive Sel:List (Sum Nat afF)->List (Sum Nat V)->List (Sum Nat D)->Prop
 |nil:Sel [] [] []
 |at (i:Nat) {a b c}:Sel a b c->Sel (.inl i::a) (.inl i::b) (.inl i::c)
 |non {a b c}:Sel a b c->Sel (.inr .none::a) (.inr .non::b) (.inr .non::c)
 |str (x:Str) (t:Tok) {a b c}:Sel a b c->Sel (.inr (.str x t)::a) (.inr (.str x)::b) (.inr (.str x)::c)
 |int (x:Int) (t:Tok) {a b c}:Sel a b c->Sel (.inr (.int x t)::a) (.inr (.int x)::b) (.inr (.int x)::c)
 |bl (x:Bool) {a b c}:Sel a b c->Sel (.inr (.bool x)::a) (.inr (.bl x)::b) (.inr (.bl x)::c)
theorem Yh{ws:List afF}(r:Vals zs ws)(i:Nat):RelV (zs.getD i .non) (ws.getD i .none):=by
 induction r generalizing i with
 |nil=>show rfl
 | cons h _ ih=>
  cases i with
  |zero=>show h
  |succ i=>show ih i
theorem Sel.vals{a b c}(s:Sel a b c){ws:List afF}(r:Vals zs ws):Vals (pickK .non b zs) (pickK .none a ws):=by
 induction s with
 |nil=>show .nil
 | «at» i _ ih=>show .cons (Yh r i) ih
 |non _ ih=>show .cons rfl ih
 |str x t _ ih=>show .cons ⟨t,rfl⟩ ih
 |int x t _ ih=>show .cons ⟨t,rfl⟩ ih
 |bl x _ ih=>show .cons rfl ih
theorem Lw:∀{ds:List D} {zs:List V},aN K O H ds zs->∀i:Nat,Rep K O H (ds.getD i .non) (zs.getD i .non)
 |[],zs,r,i=>by rw[r.nil_inv];show uE
 | d::ds,zs,r,i=>by
  let⟨x,t,rfl,h1,h2⟩:=r.cons_inv;cases i with
  |zero=>show h1
  |succ i=>show Lw h2 i
theorem Sel.reps{a b c}(s:Sel a b c)(r:aN K O H ds zs):aN K O H (pickK .non c ds) (pickK .non b zs):=by
 induction s with
 |nil=>show .nil
 | «at» i _ ih=>show .cons (Lw r i) ih
 |non _ ih=>show .cons uE ih
 |str x t _ ih=>show .cons (Kc x) ih
 |int x t _ ih=>show .cons (cD x) ih
 |bl x _ ih=>show .cons (fJ x) ih
section
variable{k n:Nat}{f:afG}{ps ks:List Str}{F:List D->R D}{p pos kpos:Pos}{fa fk:aq->R (List D)}{nm:Option Str}
def DK(X:Cx)(kws:List ajb)(fk:aq->R (List D)):Prop:=PK X kws (tG X (Li X) fk)
theorem PK.imp{t t':TA}(h:PK X kws t)(w:∀σ H Q,t' σ H Q->t σ H Q):PK X kws t':=λpos pins s σ H Q I q=>h pos pins s σ H Q I (w σ H Q q)
theorem ni:DK X [] (λ_=> .ok []):=by
 show PK.imp pk_nil λσ H Q h=>?_;let⟨ρ,O,j,h⟩:=h;show fin h .nil
theorem eN(he:DE X e fe)(hr:DK X kws fk):DK X (⟨nm,e,kpos⟩::kws) (ak fe fk):=by
 show PK.imp (pk_cons he hr) λσ H Q h=>?_;let⟨ρ,O,j,h⟩:=h;show go j h λd v H1 e1 s1 r1 j1 h1=>?_;show go j1 h1 λds vs H2 e2 s2 r2 j2 h2=>?_;show fin h2 (.cons (r1.same s2) r2)
theorem Ly{z:α}{sel:List (Sum Nat α)}{ws:List α}:(pickK z sel ws).length=sel.length:=by unfold pickK;rw[z1g]
def KB(K:w0a)(fd:agJ)(ps ks:List Str)(sel:List (Sum Nat afF)):Prop:=∀(s:afH) (us ws:List afF),K.In s.heap->us.length+sel.length=ps.length->ws.length=ks.length->BindsTo s fd ⟨us,ks.zip ws⟩ (ps.zip (us++pickK .none sel ws))
def jE(F:List D->R D)(n m:Nat)(sel:List (Sum Nat D))(fa fk:aq->R (List D)):aq->R D:=λρ=>(fa ρ).bind λds=>(fk ρ).bind λzs=>if zs.length=m then aO F n (ds++pickK .non sel zs) else .bad
theorem aaE{sa sb sc}(S:Sel sa sb sc)(G:FnOk X.prog X.w X.K X.mg X.base CX0 k f fd ps (Fo X.K n F))(hr:Room k X.A)(hg:Gl X x)(hm:X.mg x=some (.ref f))(hk:w0d X.K (.ref f)=true)(hb:KB X.K fd ps ks sa)
  (ha:DA X (e::es) fa)(hkw:DK X kws fk)(hall:(aiw pos (ahI kws X.env)).all (·.1.isSome)=true:=by rfl)(hks:(aiw pos (ahI kws X.env)).filterMap (·.1)=ks:=by rfl)
  (hdb:(x ==("__debug__" :Str))=false:=by decide)(he:afL (e::es) X.env=(false,eval e X.env)::afL es X.env:=by rfl)
  (hpl:((agS pos (afL (e::es) X.env)).any (·.1) || (aiw pos (ahI kws X.env)).any (·.1.isNone))=false:=by rfl):
  DE X (.Call (.Name x p) (e::es) kws pos) (jE F n ks.length sc fa fk):=by
 intro pins s σ H Q I h;show ahC (ld_glob I hg hm ?_ hdb);let⟨ρ,O,j,h⟩:=h;have key:tG X (Li X) fa σ H λvs H1=>tG X (Li X) fk σ H1 λzs H2=>zs.length=ks.length/\Fo X.K n F (vs++pickK .non sb zs) H2 Q E0:=by
  show go j h λds vs H1 e1 s1 r1 j1 h1=>?_;show go j1 h1 λzd zs H2 e2 s2 r2 j2 h2=>?_;by_cases hz:zd.length=ks.length
  .rw[z9p hz] at h2;unfold aO at h2;by_cases hl:(ds++pickK .non sc zd).length=n
   .rw[z9p hl] at h2;show⟨by rw[<-r2.length];show hz,O,_,(r1.same s2).append (S.reps r2),hl,j2.al,?_⟩;cases q:F (ds++pickK .non sc zd) with
    |ok d=>rw[q] at h2;show h2
    |err c=>rw[q] at h2;show h2
    |bad=>rw[q] at h2;show h2
   .rw[z9n hl] at h2;show h2.elim
  .rw[z9n hz] at h2;show h2.elim
 show w0r (h₀:=X.base) I.ok.mod.kin hk hall (thn (ha pos pins s σ H _ I key) λus s1 ⟨vs,H1,I1,r,q⟩=>?_) hpl he;show thn (hkw pos pins s1 σ H1 _ I1 q) λws s2 ⟨zs,H2,I2,rz,q2⟩=>⟨I2.kIn,?_⟩;rw[hks];let⟨hz,q2⟩:=q2;have r2:=r.append (S.vals rz);have hl:(us++pickK .none sa ws).length=ps.length:=by rw[<-r2.length];show G.len _ _ _ _ q2
 show aks (aiF (G.run X.A X.stack s2 H2 ⟨us,ks.zip ws⟩ _ _ Q E0 hr I2.env0 (hb s2 us ws I2.kIn (by rw[z1d,Ly] at hl;show hl) (by rw[<-rz.length];show hz)) r2 q2) λr s' hq=>?_);cases r with
 |error e=>show pass0 pins σ H2 s2 e s' I2 hq
 | ok fl=>
  cases fl with
  |ret u=>show I2.after hq
  |next=>show agH hq
  |brk=>show agH hq
  |cont=>show agH hq
end
section
variable{k n:Nat}{f:afG}{ps:List Str}{F:List D->R D}{p pos:Pos}
end
theorem len0{l:List α}(h:l.length=0):l=[]:=agp h
theorem ji{l:List α}(h:l.length=n+1):∃a m,l=a::m/\m.length=n:=by
 cases l with
 |nil=>simp at h
 |cons a m=>show⟨a,m,rfl,by simpa using h⟩
def FnE(P:afQ)(w:af2)(K:w0a)(mg:Str->Option afF)(base:af8)(k:Nat)(x:Str)(n:Nat)(F:List D->R D)(fd:agJ)(ps:List Str):Prop:=
 ∃f,FnOk P w K mg base CX0 k f fd ps (Fo K n F)/\mg x=some (.ref f)/\w0d K (.ref f)=true
section
variable{k m n:Nat}{ps ks:List Str}{F:List D->R D}{p pos:Pos}{fa fk:aq->R (List D)}
theorem Yi{sa sb sc}(S:Sel sa sb sc)(G:FnE X.prog X.w X.K X.mg X.base k x n F fd ps)(hr:Room m X.A)(hkm:k<=m)(hb:KB X.K fd ps ks sa)
  (ha:DA X (e::es) fa)(hkw:DK X kws fk)(hg:Gl X x:=by rfl)(hall:(aiw pos (ahI kws X.env)).all (·.1.isSome)=true:=by rfl)(hks:(aiw pos (ahI kws X.env)).filterMap (·.1)=ks:=by rfl)
  (hdb:(x ==("__debug__" :Str))=false:=by decide)(he:afL (e::es) X.env=(false,eval e X.env)::afL es X.env:=by rfl)
  (hpl:((agS pos (afL (e::es) X.env)).any (·.1) || (aiw pos (ahI kws X.env)).any (·.1.isNone))=false:=by rfl):
  DE X (.Call (.Name x p) (e::es) kws pos) (jE F n ks.length sc fa fk):=by
 let⟨f,ok,hm,hk⟩:=G;show aaE S ok (hr.mono hkm) hg hm hk hb ha hkw hall hks hdb he hpl
end
theorem adE(Fn:Fun K x qual st f fd)(hmg:mg x=some (.ref f))(S:FnScope N ps (defScope st))(hn:ps.length=n)(hm:N.length=n+m)
  (hbody:∀(cdv:afF) (A:afZ) (outer:List PySem.Env) (s:afH) (H:Hp) (E:XK),Room k (A.deeper (aij qual (defScope st) s.heap.objs.size f cdv))->mY (cxOf CX0 P w K mg base N qual (defScope st) f cdv A outer s H E).nox (defBody st) g):
  FnE P w K mg base (k+1) x n (cL m g) fd ps:=⟨f,fnD Fn S hn hm hbody λds d _ e=>e,hmg,Fn.kp⟩
section
variable{kV doc pm cdv ct:afF}{an:Option afG}{d:afG}{t:Tok}{q:Pos}
def Yj(q:Pos):ah6:={posonlyargs:=[],args:=[⟨"p",none,q⟩],vararg:=none,kwonlyargs:=[⟨"manner",none,q⟩,⟨"marks",none,q⟩],kw_defaults:=[some (.Constant (.str "worth") 0 q),some (.Constant .none 0 q)],kwarg:=none,defaults:=[]}
example:KB K (w0c "f" "f" (Yj q) body scope .none kV doc pm an cdv ct) ["p","manner","marks"] ["marks","manner"] [.inl 1,.inl 0]:=by
 intro s us ws i hl hw;have hl1:us.length=1:=by simpa using hl
 clear hl
 let⟨u,us',rfl,hl2⟩:=ji hl1
 clear hl1
 cases len0 hl2;let⟨w1,ws1,rfl,hw1⟩:=ji hw
 clear hw
 let⟨w2,ws2,rfl,hw2⟩:=ji hw1
 clear hw1
 cases len0 hw2;show .of_eq rfl
end
section
variable{O O':afG->Prop}
end
section
variable{f:aq->R D}{pos:Pos}
end
section
variable{t:afG}
end
theorem GF:fillsNumberSlot (.type "tuple") "mul" =pure false:=
 PySem.fillsNumberSlot_seq (id:= "tuple.__mul__") (r:=some (.builtin "tuple.__rmul__")) F.slot_tuple_mul.lookup {} F.slot_tuple_rmul.lookup {}
theorem PJ:seqRepeat? (.type "tuple")=pure (some (.builtin "tuple.__mul__")):=by
 unfold seqRepeat?;rw[PySem.seqSlot_of (T:= "tuple") (name:= "__mul__") (id:= "tuple.__mul__") F.slot_tuple_mul.lookup {},PySem.seqSlot_of (T:= "tuple") (name:= "__rmul__") (id:= "tuple.__rmul__") F.slot_tuple_rmul.lookup {}];rfl
theorem Km(a:Int)(t:Tok)(l:afG)(items:Array afF)(n:Nat)(dd:Option afG)(sl:Array (Option afF)):
  Meets (ahx.«int.__rmul__» ⟨[.int a t,.ref l],[]⟩) (λ_ R s=>s.heap.get? l=some {cls:= .type "tuple",dict:=dd,data:= .seq items n,slots:=sl}/\R (.ok (.ret Value.notImplemented)) s):=
 .of_wp λprog w A R s h=>by let⟨hp,g,d,tk,os⟩:=s;let⟨hl,h⟩:=h;wp_walk;show⟨_,rfl,h⟩
theorem Wa(l:afG)(items:Array afF)(n:Nat)(dd:Option afG)(sl:Array (Option afF))(t:Tok):
  Meets (ahx.«tuple.__mul__» ⟨[.ref l,.int 1 t],[]⟩) (λ_ R s=>s.heap.get? l=some {cls:= .type "tuple",dict:=dd,data:= .seq items n,slots:=sl}/\R (.ok (.ret (.ref l))) {s with heap:=s.heap,toks:=s.toks}):=
 .of_wp λprog w A R s h=>by let⟨hp,g,d,tk,os⟩:=s;let⟨hl,h⟩:=h;have f1:=alu;have hc0:(items.isEmpty || (1:Int) ==1)=true:=();unfold ahx.«tuple.__mul__»;wp_walk using ahN hl;show⟨_,rfl,h⟩
theorem Wb(l:afG)(items:Array afF)(n:Nat)(dd:Option afG)(sl:Array (Option afF))(k:Int)(t:Tok)(hf:¬(decide (k < -(2^63)) || decide (k>=2^63))=true)(hc0:¬(items.isEmpty || k ==1)=true)(hc1:¬(decide (k<=0) || items.isEmpty)=true)
  (hc2:¬(items.size:Int)*k > (2^63 - 1) / 8)(hc3:¬ak3 ((items.size:Int)*k)=true)(hsz:sizeOk (.seq (alg (λx1 x2=>x1++x2) #[] (afU k.toNat items)))):
  Meets (ahx.«tuple.__mul__» ⟨[.ref l,.int k t],[]⟩) (λ_ R s=>s.heap.get? l=some {cls:= .type "tuple",dict:=dd,data:= .seq items n,slots:=sl}/\R (.ok (.ret (.ref s.heap.objs.size))) {s with heap:=s.heap.push {cls:=af6 "tuple",data:=Data.seq (alg (λx1 x2=>x1++x2) #[] (afU k.toNat items))},toks:=s.toks}):=
 .of_wp λprog w A R s h=>by
  let⟨hp,g,d,tk,os⟩:=s;let⟨hl,h⟩:=h;have f1:=alu;unfold ahx.«tuple.__mul__»
  wp_walk using ahN hl
  show wpAny_ite_false (by simpa using hf) ?_
  wp_walk using ahN hl
  show wpAny_ite_false (by simpa using hc2) ?_
  wp_walk using ahN hl
  show wpAny_ite_false (by simpa[sizeOk] using hsz) ?_
  wp_walk using ahN hl
  show⟨_,rfl,h⟩
theorem acd:OpR X (ahv .Mult) (λx y H Q=>∃a k xs,x= .ref a/\y= .int k/\SqT X.K H a xs/\xs≠[]/\1<=k/\k<2^63/\xs.length*k.toNat<=sizeLine/\(k=1->Q (.ref a) H)/\
  (k≠1->∀p,H p=none->Q (.ref p) (upd H p (.tup (afU k.toNat xs).flatten)))):=by
 intro pins s σ H x y v u Q I rx ry h;let⟨a,k,xs,rfl,rfl,hq,hx,h1,h2,hz,q1,q2⟩:=h;cases rx;let⟨t,rfl⟩:=ry;let⟨its,r,p1,_⟩:=I.tuple hq;let⟨⟨cls,dd,data,sl⟩,ho,hc,n,hd⟩:=id p1;simp only at hc hd;subst hc hd;have hlen:=r.length;have hne:its≠[]:=λz=>hx (by rw[z] at r;cases r;rfl);have hpos:0<its.length:=by cases its with |nil=>show absurd rfl hne |cons _ _=>simp
 have hemp:its.toArray.isEmpty=false:=by cases its with |nil=>show absurd rfl hne |cons _ _=>simp
 show wpAny_binaryOp_repeat_ref (T:= "tuple") (U:= "int") {} ⟨_,ho,rfl⟩ (λs'=>typeIs_int s' k t) GF F.fills_int_mul F.slot_int_rmul PJ F.slot_int_index.lookup
  (akx F.slot_int_rmul (typeIs_int s k t) F.entry_int_rmul (F.args_int_rmul_2 _ _) (Km k t a its.toArray n dd sl) ⟨ho,rfl,⟨_,ho,rfl⟩,?_⟩)
 by_cases hk:k=1
 .subst hk;show akx F.slot_tuple_mul ⟨_,ho,rfl⟩ F.entry_tuple_mul (F.args_tuple_mul_2 _ _) (Wa a its.toArray n dd sl t) ⟨ho,⟨.ref a,H,I,rfl,q1 rfl⟩⟩
 .have hmul:(its.toArray.size:Int)*k=((xs.length*k.toNat:Nat):Int):=by
   rw[z1c,<-hlen,Int.natCast_mul,Int.toNat_of_nonneg ()]
  have hnew:alg (λx1 x2=>x1++x2) #[] (afU k.toNat its.toArray)=(afU k.toNat its).flatten.toArray:=by
   have:=foldl_rep its k.toNat [];rw[ajh] at this;show this
  have hs:sizeOk (.seq (alg (λx1 x2=>x1++x2) #[] (afU k.toNat its.toArray))):=by
   rw[hnew];show (afU k.toNat its).flatten.toArray.size<=sizeLine;rw[z1c,len_rep,<-hlen,Nat.mul_comm];show hz
  have hbig:(sizeLine:Nat)<=(2^63 - 1) / 8:={}
  show akx F.slot_tuple_mul ⟨_,ho,rfl⟩ F.entry_tuple_mul (F.args_tuple_mul_2 _ _) (Wb a its.toArray n dd sl k t () (by rw[hemp];simp[hk]) (by rw[hemp];simp;omega) (by rw[hmul];omega) (by rw[hmul];unfold ak3;intro z;have z:=z9o z;omega) hs) ⟨ho,?_⟩;rw[hnew];show⟨.ref s.heap.objs.size,_,I.laid (t':=s.toks) (o:= .tup (afU k.toNat xs).flatten) (λb ob q=>z1a _ q) (z0g _) ?_,rfl,q2 hk _ (I.hok.fresh (z0g _))⟩;show⟨by rw[len_rep,Nat.mul_comm];show hz,_,r.rep k.toNat,yO.new _ _⟩
theorem PL{xs:List V}(r:aN K O H ds xs):∀k:Nat,aN K O H (afU k ds).flatten (afU k xs).flatten
 |0=> .nil
 |k+1=>by rw[ah8,ah8,ag9,ag9];show r.append (PL r k)
def Ko:D->D->R D
 | .int i,.int j=>iT (.int i) (.int j)
 | .tup ds,.int k=>if ds≠[]/\1<=k/\k<2^63/\ds.length*k.toNat<=1000000 then .ok (.tup (afU k.toNat ds).flatten) else .bad
 |_,_=> .bad
theorem Ek:jG X (ahv .Mult) Ko:=by
 let⟨r0,o0,c0⟩:=rA (X:=X);show⟨_,OpR.or o0 acd,λρ O σ H Q x y dx dy j0 rx ry h=>?_⟩;cases dx <;> cases dy <;> first
  |show h.elim
  |skip
 .show .inl (c0 ρ O σ H Q x y _ _ j0 rx ry h)
 .rename_i ds k;have h:good X (rD X) O (if ds≠[]/\1<=k/\k<2^63/\ds.length*k.toNat<=1000000 then .ok (.tup (afU k.toNat ds).flatten) else .bad) σ H Q:=h;by_cases hc:ds≠[]/\1<=k/\k<2^63/\ds.length*k.toNat<=1000000
  .rw[z9p hc] at h;let⟨a,us,rfl,ha,r1⟩:=rx.tup;let⟨h0,h1,h2,h3⟩:=hc;show .inr ⟨a,k,us,rfl,ry.int,ha,λz=>h0 (by have:=r1.length;rw[z] at this;show agp this),h1,h2,by rw[<-r1.length];show z0b h3 iI,λz=>?_,λz l hl=>?_⟩
   .subst z;have e:(afU (1:Int).toNat ds).flatten=ds:=()
    rw[e] at h;show fin h (gM ha r1)
   .show h _ _ (Same.upd hl) (Rep.uF hl (PL r1 _))
  .rw[z9n hc] at h;show h.elim
def iZ:D->Bool
 | .tup _=>false
 | .lst _=>false
 |_=>true
def vD:D->V
 | .non=> .non
 | .bl b=> .bl b
 | .int i=> .int i
 | .str x=> .str x
 |_=> .non
theorem Ur(f:iZ d=true)(r:Rep K O H d v):v=vD d:=by
 cases d with
 |non=>show r.non
 |bl b=>show r.bl
 |int i=>show r.int
 |str x=>show r.str
 |tup _=>cases f
 |lst _=>cases f
theorem PN:∀{ds:List D} {vs:List V},ds.all iZ=true->aN K O H ds vs->vs=ds.map vD
 |[],vs,_,r=>r.nil_inv
 | d::ds,vs,f,r=>by
  let⟨x,t,rfl,h1,h2⟩:=r.cons_inv;rw[aiP,ag6] at f;rw[Ur f.1 h1,PN f.2 h2];rfl
theorem Yk(f:iZ d=true):flatV (vD d)=true:=by cases d <;> first |rfl |cases f
theorem aeM{a b:D}(fa:iZ a=true)(fb:iZ b=true):eqV (vD a) (vD b)=dI a b:=by
 cases a <;> cases b <;> first |rfl |(simp[iZ] at fa;done) |(simp[iZ] at fb;done) |(rw[fL];rfl) |(simp[vD,eqV,oR,oU,oV,oW,oX,jm,fL])
theorem abH(fd:iZ d=true):∀{ds:List D},ds.all iZ=true->inV (vD d) (ds.map vD)=ds.any λy=>dI y d
 |[],_=>rfl
 | y::ds,f=>by
  rw[aiP,ag6] at f;have ih:=abH fd f.2;unfold inV at ih |-;rw[z1h,ak2,ak2,aeM f.1 fd,ih]
theorem Us:∀{ds:List D},ds.all iZ=true->(ds.map vD).all flatV=true
 |[],_=>rfl
 | y::ds,f=>by
  rw[aiP,ag6] at f;rw[z1h,aiP,Yk f.1,Us f.2];rfl
def Wc:D->Option (List D)
 | .tup ds=>some ds
 | .lst ds=>some ds
 |_=>none
def Ut(neg:Bool)(d s:D):R D:=match Wc s with
 |some ds=>if iZ d=true/\ds.all iZ=true then .ok (.bl (if neg then !(ds.any λy=>dI y d) else ds.any λy=>dI y d)) else .bad
 |none=> .bad
theorem in_of{neg:Bool}{ρ:aq}{Q:VK}{x y:V}{dx dy:D}(rx:Rep X.K O H dx x)(ry:Rep X.K O H dy y)(h:good X (rD X) O (Ut neg dx dy) σ H Q):rIn X.K neg x y H Q:=by
 unfold Ut at h;cases e:Wc dy with
 |none=>rw[e] at h;show h.elim
 | some ds=>
  rw[e] at h;have h:good X (rD X) O (if iZ dx=true/\ds.all iZ=true then .ok (.bl (if neg then !(ds.any λy=>dI y dx) else ds.any λy=>dI y dx)) else .bad) σ H Q:=h;by_cases hc:iZ dx=true/\ds.all iZ=true
  .rw[z9p hc] at h;have key:∃p xs,y= .ref p/\(SqL X.K H p xs\/SqT X.K H p xs)/\aN X.K O H ds xs:=by
    cases dy with
    | tup ds'=>
     cases e;let⟨a,xs,rfl,hq,rs⟩:=ry.tup;show⟨a,xs,rfl,.inr hq,rs⟩
    | lst ds'=>
     cases e;let⟨a,xs,rfl,hq,_,rs⟩:=ry.lst;show⟨a,xs,rfl,.inl hq,rs⟩
    |_=>cases e
   let⟨p,xs,rfl,hq,rs⟩:=key;have e1:=Ur hc.1 rx;have e2:=PN hc.2 rs;subst e1 e2;show⟨p,_,rfl,hq,Yk hc.1,Us hc.2,?_⟩;rw[abH hc.1 hc.2];show fin h (fJ _)
  .rw[z9n hc] at h;show h.elim
theorem aaF:jG X (agr .NotIn) (Ut true):=⟨_,op_notIn_seq,λρ O σ H Q x y dx dy j0 rx ry h=>in_of (ρ:=ρ) rx ry h⟩
def o7:Bool->af8->afG->afG->Nat->Prop
 |true,h,it,l,k=>h.IsTupleIter it l k
 |false,h,it,l,k=>h.IsListIter it l k
def tR:Bool->af8->afG->Array afF->Prop
 |true,h,l,xs=>h.IsTuple l xs
 |false,h,l,xs=>h.IsList l xs
def itC(t:Bool):String:=if t then "tuple_iterator" else "list_iterator"
def Sq:Bool->w0a->Hp->afG->List V->Prop
 |true,K,H,a,xs=>SqT K H a xs
 |false,K,H,a,xs=>SqL K H a xs
theorem o7.of(x:o7 t h it l k)(q:∀o,h.get? it=some o->h'.get? it=some o):o7 t h' it l k:=by
 cases t <;> (let⟨o,e,r⟩:=x;show⟨o,q o e,r⟩)
theorem o7.obj(x:o7 t h it l k):∃o,h.get? it=some o/\∀v,o.data≠.cell v:=by
 cases t <;> (let⟨o,e,c,d⟩:=x;show⟨o,e,λv z=>by rw[d] at z;cases z⟩)
theorem o7.new(e:h.get? it=some {cls:= .type (itC t),data:= .fields #[.ref l,.int 0 0]}):o7 t h it l 0:=by
 cases t <;> show⟨_,e,rfl,rfl⟩
theorem tR.of(x:tR t h l xs)(q:∀o,h.get? l=some o->h'.get? l=some o):tR t h' l xs:=by
 cases t <;> (let⟨o,e,r⟩:=x;show⟨o,q o e,r⟩)
theorem nextT{v:afF}(hit:s.heap.IsTupleIter it l i)(hl:s.heap.IsTuple l xs)(hv:xs[i]?=some v)
  (hQ:∀h',h'.IsTupleIter it l (i+1)->ahe it s.heap h'->Q v {s with heap:=h'}):afK (model prog w) A (agI (.ref it)) Q E s:=by
 have ty:=hit.typeIs;let⟨o,g,c,dt⟩:=hit;let⟨p,gp,_,m,dp⟩:=hl;unfold agI;show afE (agz (name:=ahS "__next__") ty F.slot_tuple_iterator_next (ags F.slot_tuple_iterator_next ty F.entry_tuple_iterator_next ?_ (F.args_tuple_iterator_next_1 _)));show afK _ _ (field (.ref it) 0 >>=_) _ _ s;show afE (agN g dt (x:= .ref l) rfl ?_);show afK _ _ (if (afS l ==agv)=true then _ else _) _ _ s;rw[z9n (show ¬((afS l ==agv)=true) from agf)];show afK _ _ (field (.ref it) 1 >>=_) _ _ s;show afE (agN g dt (x:= .int i 0) rfl ?_);show afK _ _ (seqItems? (.ref l) >>=_) _ _ s;show afE (ag4 gp dp ?_);simp only[ah3,hv];show afE (aiy g dt () (afJ ⟨v,rfl,afJ (hQ _ ⟨_,agU _ g (aiL (ahj dt _)),(ajq ..).trans c,?_⟩ (agW ..))⟩));rw[ahj dt];simp[agx]
theorem aaG(hh:A.handled=none)(hit:s.heap.IsTupleIter it l i)(hl:s.heap.IsTuple l xs)(hv:xs[i]?=none)
  (hE:∀h' e,ake it s.heap h'->(∃o,h'.get? e=some o/\o.cls= .type "StopIteration")->E (.ref e) {s with heap:=h'}):afK (model prog w) A (agI (.ref it)) Q E s:=by
 have ty:=hit.typeIs;let⟨o,g,c,dt⟩:=hit;let⟨p,gp,_,m,dp⟩:=hl;unfold agI;show afE (agz (name:=ahS "__next__") ty F.slot_tuple_iterator_next (ags F.slot_tuple_iterator_next ty F.entry_tuple_iterator_next ?_ (F.args_tuple_iterator_next_1 _)));show afK _ _ (field (.ref it) 0 >>=_) _ _ s;show afE (agN g dt (x:= .ref l) rfl ?_);show afK _ _ (if (afS l ==agv)=true then _ else _) _ _ s;rw[z9n (show ¬((afS l ==agv)=true) from agf)];show afK _ _ (field (.ref it) 1 >>=_) _ _ s;show afE (agN g dt (x:= .int i 0) rfl ?_);show afK _ _ (seqItems? (.ref l) >>=_) _ _ s;show afE (ag4 gp dp ?_);simp only[ah3,hv];show afE (ahg (afE (aiy g dt () ?_)));show afK _ _ (newExc (.type "StopIteration") [] >>=_) _ _ _;show afE ?_;simp only[newExc,newTuple];show afE (agB ?_ (by size_fits));show afE (m:=ajy _ _) (ahW (a:=agv) (by first |(simp only[ajy];rfl) |rfl) ?_);show agB ?_ (by size_fits);simp only[raiseNew];show afE (wpAny_handled ?_);first |rw[show A.in1.handled=none from hh] |rw[hh]
 show afE (afJ (wpAny_throw (hE _ _ (((agW ..).extBut.push _).push _) ⟨_,z1f _ rfl,rfl⟩)))
theorem Ou{v:afF}(hit:o7 t s.heap it l i)(hl:tR t s.heap l xs)(hv:xs[i]?=some v)
  (hQ:∀h',o7 t h' it l (i+1)->ahe it s.heap h'->Q v {s with heap:=h'}):afK (model prog w) A (agI (.ref it)) Q E s:=by
 cases t with
 |true=>show nextT hit hl hv hQ
 |false=>show wpAny_nextOf_list_item hit hl hv hQ
theorem GJ(hh:A.handled=none)(hit:o7 t s.heap it l i)(hl:tR t s.heap l xs)(hv:xs[i]?=none)
  (hE:∀h' e,ake it s.heap h'->(∃o,h'.get? e=some o/\o.cls= .type "StopIteration")->E (.ref e) {s with heap:=h'}):afK (model prog w) A (agI (.ref it)) Q E s:=by
 cases t with
 |true=>show aaG hh hit hl hv hE
 |false=>show wpAny_nextOf_list_end hh hit hl hv hE
theorem Ih(hl:tR t s.heap l xs)(hQ:Q (.ref s.heap.objs.size) {s with heap:=s.heap.push {cls:= .type (itC t),data:= .fields #[.ref l,.int 0 0]}}):
  afK (model prog w) A (pyIter (.ref l)) Q E s:=by
 cases t with
 |true=>show wpAny_pyIter_tuple hl hQ
 |false=>show aiQ hl hQ
theorem PX{T:afG}{arr:Array afF}{x:afF}{Q:Unit->afH->Prop}(hT:s.heap.get? T=some {cls:= .type "tuple",data:= .seq arr})
  (h:∀h',h'.get? T=some {cls:= .type "tuple",data:= .seq (arr.setIfInBounds k x)}->ahe T s.heap h'->Q Unit.unit {s with heap:=h'})(hs:arr.size<=sizeLine:=by size_fits):afK (model prog w) A (updateSeq T (·.setIfInBounds k x)) Q E s:=by
 show aiM (hz:=hs) (_hz':=by simpa using Nat.le_succ_of_le hs) hT rfl (h _ (by rw[agU _ hT rfl];simp[ahh]) (agW ..))
theorem _root_.L2.Inv.fp(I:Inv X pins σ H s)(f:FpOk X pins H b)(sb:ahe b s.heap h'):Inv X pins σ H {s with heap:=h'}:=
 I.turned (t':=s.toks) (λc o hc e=>(sb.2 c hc).trans e) f.1 f.2.1 f.2.2.2.1 f.2.2.2.2.1 f.2.2.2.2.2
theorem _root_.L2.Inv.fpE(I:Inv X pins σ H s)(f:FpOk X pins H b)(sb:ake b s.heap h'):Inv X pins σ H {s with heap:=h'}:=
 I.turned (t':=s.toks) (λc o hc e=>sb c o hc e) f.1 f.2.1 f.2.2.2.1 f.2.2.2.2.1 f.2.2.2.2.2
theorem _root_.L2.FpOk.upd{b p:afG}{o:HO}(f:FpOk X pins H b)(n:b≠p):FpOk X pins (L2.upd H p o) b:=⟨by rw[upd_ne n];show f.1,f.2⟩
theorem _root_.L2.Inv.sq{xs:List V}(I:Inv X pins σ H s)(q:Sq t X.K H l xs):∃its:List afF,Vals xs its/\tR t s.heap l its.toArray:=by
 cases t with
 |true=>let⟨its,r,p,_⟩:=I.tuple q;show⟨its,r,p⟩
 |false=>let⟨its,r,p,_⟩:=I.list q;show⟨its,r,p.isList⟩
theorem _root_.L2.Inv.Qa{xs:List V}(I:Inv X pins σ H s)(q:Sq t X.K H l xs)(r:Sq t X.K H l ys):xs=ys:=by
 cases t with
 |true=>show I.tuple_inj q r
 |false=>show I.list_inj q r
abbrev zf(h:af8)(T:afG)(arr:Array afF):Prop:=h.get? T=some {cls:= .type "tuple",data:= .seq arr}
structure Z2(h:af8)(z TI TO i1 i2:afG)(t1 t2:Bool)(l1 l2:afG)(k:Nat):Prop where
 z:IsZip h z TI TO .none
 ti:zf h TI #[.ref i1,.ref i2]
 to:∃a b,zf h TO #[a,b]
 s1:o7 t1 h i1 l1 k
 s2:o7 t2 h i2 l2 k
def aaH(K:w0a)(t1:Bool)(l1:afG)(t2:Bool)(l2:afG):It:=
 ⟨λi H=>∃xs ys x y,Sq t1 K H l1 xs/\xs[i]?=some x/\Sq t2 K H l2 ys/\ys[i]?=some y,
  λi H v H'=>∃p x y,H p=none/\v= .ref p/\H'=upd H p (.tup [x,y])/\(∀xs,Sq t1 K H l1 xs->xs[i]?=some x)/\∀ys,Sq t2 K H l2 ys->ys[i]?=some y,
  λi H=>∃xs ys,Sq t1 K H l1 xs/\Sq t2 K H l2 ys/\(xs.length<=i\/ys.length<=i)⟩
section
variable{A':afZ}
theorem Yl:2<=sizeLine:=z0b {} (z0e jB)
theorem Ym{z TI TO:afG}{xs:List V}{x y:V}(I:Inv X pins σ H s)
  (fz:FpOk X pins H z)(fO:FpOk X pins H TO)(f1:FpOk X pins H i1)(f2:FpOk X pins H i2)
  (n1:TI≠z)(n2:TO≠z)(n3:i1≠z)(n4:i2≠z)(n5:TI≠TO)(n6:TI≠i1)(n7:TI≠i2)(n8:TO≠i1)(n9:TO≠i2)(n10:i1≠i2)
  (st:Z2 s.heap z TI TO i1 i2 t1 t2 l1 l2 k)(q1:Sq t1 X.K H l1 xs)(e1:xs[k]?=some x)(q2:Sq t2 X.K H l2 ys)(e2:ys[k]?=some y)
  (hQ:∀h',Inv X pins σ (upd H s.heap.objs.size (.tup [x,y])) {s with heap:=h'}->IsZip h' z TI TO (agx s.heap.objs.size)->zf h' TI #[.ref i1,.ref i2]->(∃a b,zf h' TO #[a,b])->
   o7 t1 h' i1 l1 (k+1)->o7 t2 h' i2 l2 (k+1)->Q (.ref s.heap.objs.size) {s with heap:=h'}):
  afK (model X.prog X.w) A' (ahx.«zip.__next__» ⟨[.ref z],[]⟩) (λfin s'=>∃v,fin= .done (.ret v)/\Q v s') E s:=by
 let⟨hz,hTI,⟨a,b,hTO⟩,h1,h2⟩:=st;show afK _ _ (field (.ref z) 2 >>=_) _ _ _;show afE (agN hz rfl (x:= .bool false) rfl ?_);show afK _ _ (field (.ref z) 3 >>=_) _ _ _;show afE (agN hz rfl (x:= .ref TI) rfl ?_);show afE (ag4 hTI rfl ?_);show afK _ _ (agV (.ref z) >>=_) _ _ _;show afE ?_;unfold agV;show afE (agN hz rfl (x:= .none) rfl (afJ ?_));simp only[if_true];show afE (ahg (afE (agN hz rfl (x:= .ref TO) rfl ?_)));show afE (ahk hz () λg1 z1 b1=>?_)
 replace z1:IsZip g1 z TI TO .ellipsis:=z1
 have I1:=I.fp fz b1;show afE ?_;simp only[alv,List.zipIdx_nil,ajf,alN];let⟨us,r1,p1⟩:=I1.sq q1;let⟨u,hu,ru⟩:=r1.get e1;show afE (afE (ak4 ?_));show afK _ _ (agI (.ref i1) >>=_) _ _ _;show afE (Ou (h1.of λo e=>b1.extBut _ _ n3 e) p1 (v:=u) (by simpa using hu) λg2 s12 b2=>afJ ?_);have I2:=I1.fp f1 b2;have o2:zf g2 TO #[a,b]:=b2.extBut _ _ n8 (b1.extBut _ _ n2 hTO);show afE (ag4 o2 rfl (afE (PX o2 λg3 o3 b3=>afE (ajl (afJ ?_)))))
 replace o3:zf g3 TO #[u,b]:=o3
 have I3:=I2.fp fO b3;let⟨vs,r2,p2⟩:=I3.sq q2;let⟨v,hv,rv⟩:=r2.get e2;show afE (afE (ak4 ?_));show afK _ _ (agI (.ref i2) >>=_) _ _ _;show afE (Ou (h2.of λo e=>b3.extBut _ _ (agc n9) (b2.extBut _ _ (agc n10) (b1.extBut _ _ n4 e))) p2 (v:=v) (by simpa using hv) λg4 s24 b4=>afJ ?_);have I4:=I3.fp f2 b4;have o4:zf g4 TO #[u,b]:=b4.extBut _ _ n9 o3;show afE (ag4 o4 rfl (afE (PX o4 λg5 o5 b5=>afE (ajl (afJ (afJ ?_))))))
 replace o5:zf g5 TO #[u,v]:=o5
 have I5:=I4.fp fO b5;show afE (ag4 o5 rfl (afE (wpAny_newTuple ?_)));have sz:g5.objs.size=s.heap.objs.size:=by rw[b5.1,b4.1,b3.1,b2.1,b1.1]
 have I6:Inv X pins σ (upd H g5.objs.size (.tup [x,y])) {s with heap:=g5.push {cls:= .type "tuple",data:= .seq #[u,v]}}:=
  I5.laid (t':=s.toks) (λb u e=>z1a _ e) (z0g _) ⟨Yl,[u,v],.cons ru (.cons rv .nil),⟨_,z1f _ rfl,rfl,rfl,_,rfl⟩⟩
 have z5:IsZip g5 z TI TO .ellipsis:=b5.extBut _ _ (agc n2) (b4.extBut _ _ (agc n4) (b3.extBut _ _ (agc n2) (b2.extBut _ _ (agc n3) z1)));have lt:∀{c o},g5.get? c=some o->c≠g5.objs.size:=λe=>agm (z2c e);show afK _ _ (ahU (.ref z) (.ref g5.objs.size) >>=_) _ _ _;show afE ?_;unfold ahU;show afE (ahk (z1a _ z5) () λg7 z7 b7=>?_)
 replace z7:IsZip g7 z TI TO (agx g5.objs.size):=z7
 have I7:=I6.fp (fz.upd (lt z5)) b7;show ahk z7 () λg8 z8 b8=>?_
 replace z8:IsZip g8 z TI TO (agx g5.objs.size):=z8
 have I8:=I7.fp (fz.upd (lt z5)) b8;have up:∀c o,c≠z->g5.get? c=some o->g8.get? c=some o:=λc o c1 e=>b8.extBut _ _ c1 (b7.extBut _ _ c1 (z1a _ e));show afJ ⟨_,rfl,?_⟩;rw[sz] at I8 z8;show Q (.ref g5.objs.size) _;rw[sz];show hQ g8 I8 z8 (up _ _ n1 (b5.extBut _ _ n5 (b4.extBut _ _ n7 (b3.extBut _ _ n5 (b2.extBut _ _ n6 (b1.extBut _ _ n1 hTI)))))) ⟨u,v,up _ _ n2 o5⟩ ?_ ?_
 .show s12.of λo e=>up _ _ n3 (b5.extBut _ _ (agc n8) (b4.extBut _ _ n10 (b3.extBut _ _ (agc n8) e)))
 .show s24.of λo e=>up _ _ n4 (b5.extBut _ _ (agc n9) e)
theorem aaI{z TI TO:afG}{xs:List V}{Q:Fin->afH->Prop}(hh:A'.handled=none)(I:Inv X pins σ H s)
  (fz:FpOk X pins H z)(fO:FpOk X pins H TO)(f1:FpOk X pins H i1)(f2:FpOk X pins H i2)
  (n1:TI≠z)(n2:TO≠z)(n3:i1≠z)(n4:i2≠z)(n5:TI≠TO)(n6:TI≠i1)(n7:TI≠i2)(n8:TO≠i1)(n9:TO≠i2)(n10:i1≠i2)
  (st:Z2 s.heap z TI TO i1 i2 t1 t2 l1 l2 k)(q1:Sq t1 X.K H l1 xs)(q2:Sq t2 X.K H l2 ys)(en:xs.length<=k\/ys.length<=k)
  (hE:∀h' e,Inv X pins σ H {s with heap:=h'}->(∃o,h'.get? e=some o/\o.cls= .type "StopIteration")->E (.ref e) {s with heap:=h'}):
  afK (model X.prog X.w) A' (ahx.«zip.__next__» ⟨[.ref z],[]⟩) Q E s:=by
 let⟨hz,hTI,⟨a,b,hTO⟩,h1,h2⟩:=st;show afK _ _ (field (.ref z) 2 >>=_) _ _ _;show afE (agN hz rfl (x:= .bool false) rfl ?_);show afK _ _ (field (.ref z) 3 >>=_) _ _ _;show afE (agN hz rfl (x:= .ref TI) rfl ?_);show afE (ag4 hTI rfl ?_);show afK _ _ (agV (.ref z) >>=_) _ _ _;show afE ?_;unfold agV;show afE (agN hz rfl (x:= .none) rfl (afJ ?_));simp only[if_true];show afE (ahg (afE (agN hz rfl (x:= .ref TO) rfl ?_)));show afE (ahk hz () λg1 z1 b1=>?_)
 replace z1:IsZip g1 z TI TO .ellipsis:=z1
 have I1:=I.fp fz b1;show afE ?_;simp only[alv,List.zipIdx_nil,ajf,alN];let⟨us,r1,p1⟩:=I1.sq q1;have leave:∀{g g':af8} {e:afG} {c:afG},Inv X pins σ H {s with heap:=g}->IsZip g z TI TO .ellipsis->FpOk X pins H c->c≠z->ake c g g'->(∃o,g'.get? e=some o/\o.cls= .type "StopIteration")->
   afK (model X.prog X.w) A' (setField (.ref z) 0 .none) (λ_ s'=>E (.ref e) s') E {s with heap:=g'}:=λ{g g' e c} Ig zg fc nc eb ⟨oe,hoe,hce⟩=>by
  have zg':IsZip g' z TI TO .ellipsis:=eb _ _ (agc nc) zg;have hez:e≠z:=λq=>by subst q;rw[zg'] at hoe;cases hoe;simp at hce
  have Ig':Inv X pins σ H {s with heap:=g'}:=Ig.fpE fc eb;show ahk zg' () λg'' _ b''=>hE g'' e (Ig'.fp fz b'') ⟨oe,b''.extBut _ _ hez hoe,hce⟩
 show afE (afE (ak4 ?_));show afK _ _ (agI (.ref i1) >>=_) _ _ _;have h1':=h1.of (h':=g1) λo e=>b1.extBut _ _ n3 e;by_cases hx:xs.length<=k
 .show afE (GJ hh h1' p1 (by have:=r1.length;simp;omega) λg2 e eb ex=>leave I1 z1 f1 n3 eb ex)
 .have hy:ys.length<=k:=by rcases en with h |h;show absurd h hx;show h
  let⟨u,hu,ru⟩:=r1.get (i:=k) (x:=xs[k]'()) (aga ());show afE (Ou h1' p1 (v:=u) (by simpa using hu) λg2 s12 b2=>afJ ?_);have I2:=I1.fp f1 b2;have o2:zf g2 TO #[a,b]:=b2.extBut _ _ n8 (b1.extBut _ _ n2 hTO);show afE (ag4 o2 rfl (afE (PX o2 λg3 o3 b3=>afE (ajl (afJ ?_)))));have I3:=I2.fp fO b3;let⟨vs,r2,p2⟩:=I3.sq q2;have z3:IsZip g3 z TI TO .ellipsis:=b3.extBut _ _ (agc n2) (b2.extBut _ _ (agc n3) z1);show afE (afE (ak4 ?_));show afK _ _ (agI (.ref i2) >>=_) _ _ _;show afE (GJ hh (h2.of λo e=>b3.extBut _ _ (agc n9) (b2.extBut _ _ (agc n10) (b1.extBut _ _ n4 e))) p2 (by have:=r2.length;simp;omega) λg4 e eb ex=>leave I3 z3 f2 n4 eb ex)
end
theorem Yn{kk}{z TI TO:afG}
  (n1:TI≠z)(n2:TO≠z)(n3:i1≠z)(n4:i2≠z)(n5:TI≠TO)(n6:TI≠i1)(n7:TI≠i2)(n8:TO≠i1)(n9:TO≠i2)(n10:i1≠i2):
  Turn P w K (.Tuple yq kk pp) (aaH K t1 l1 t2 l2) [z,TI,TO,i1,i2] z (λi h=>Z2 h z TI TO i1 i2 t1 t2 l1 l2 i) where
 mem:=()
 obj:=λi h st b hb=>by
  let⟨hz,hTI,⟨x,y,hTO⟩,h1,h2⟩:=st;simp only[afR,ahq,or_false] at hb;rcases hb with rfl |rfl |rfl |rfl |rfl
  .show⟨_,hz,λv q=>by have q':alL _=akV v:=q;cases q'⟩
  .show⟨_,hTI,λv q=>by have q':Data.seq _=akV v:=q;cases q'⟩
  .show⟨_,hTO,λv q=>by have q':Data.seq _=akV v:=q;cases q'⟩
  .show h1.obj
  .show h2.obj
 keep:=λi h h' st k=>by
  let⟨hz,hTI,⟨x,y,hTO⟩,h1,h2⟩:=st;show⟨k _ () _ hz,k _ () _ hTI,⟨x,y,k _ () _ hTO⟩,h1.of λo e=>k _ () o e,h2.of λo e=>k _ () o e⟩
 item :=by
  intro X hP hw hK hc i pins s σ H E I hf st hg;subst hP hw hK;let⟨xs,ys,x,y,q1,e1,q2,e2⟩:=hg;have hT:s.TypeIs (.ref z) "zip" :=⟨_,st.z,rfl⟩;unfold aiY;show afE (ais (agz (name:=ahS "__next__") hT F.slot_zip_next (ags F.slot_zip_next hT F.entry_zip_next
   (Ym I (hf z ()) (hf TO ()) (hf i1 ()) (hf i2 ()) n1 n2 n3 n4 n5 n6 n7 n8 n9 n10 st q1 e1 q2 e2 λh' I' z' ti' to' s1' s2'=>afJ ⟨_,rfl,?_⟩) (F.args_zip_next_1 _))))
  have hp:H s.heap.objs.size=none:=I.hok.fresh (z0g _);have nz:∀b,b∈[z,TI,TO,i1,i2]->b≠s.heap.objs.size:=λb hb q=>by
   obtain⟨o,e,_⟩:∃o,s.heap.get? b=some o/\True:=by
    let⟨hz,hTI,⟨x,y,hTO⟩,h1,h2⟩:=st;simp only[afR,ahq,or_false] at hb;rcases hb with rfl |rfl |rfl |rfl |rfl
    .show⟨_,hz,trivial⟩
    .show⟨_,hTI,trivial⟩
    .show⟨_,hTO,trivial⟩
    .let⟨o,e,_⟩:=h1.obj;show⟨o,e,trivial⟩
    .let⟨o,e,_⟩:=h2.obj;show⟨o,e,trivial⟩
   show absurd (z2c e) (by rw[q];show agX _)
  show wpAny_letOwnedTupleGo_zip z' λh'' z'' b''=>⟨.ref s.heap.objs.size,upd H s.heap.objs.size (.tup [x,y]),I'.fp ((hf z ()).upd (nz z ())) b'',rfl,⟨_,x,y,hp,rfl,rfl,λxs' q=>by rw[I.Qa q q1];show e1,λys' q=>by rw[I.Qa q q2];show e2⟩,?_,λb hb=>?_⟩
  .let⟨a,b,to'⟩:=to';show⟨z'',b''.extBut _ _ n1 ti',⟨a,b,b''.extBut _ _ n2 to'⟩,s1'.of λo e=>b''.extBut _ _ n3 e,s2'.of λo e=>b''.extBut _ _ n4 e⟩
  .rw[upd_ne (nz b hb)];show (hf b hb).1
 done:=by
  intro X hP hw hK hc i pins s σ H E I hf st hg;subst hP hw hK;let⟨xs,ys,q1,q2,en⟩:=hg;have hT:s.TypeIs (.ref z) "zip" :=⟨_,st.z,rfl⟩;unfold aiY;show afE (ais (agz (name:=ahS "__next__") hT F.slot_zip_next (ags F.slot_zip_next hT F.entry_zip_next
   (aaI (I.ok.hd hc) I (hf z ()) (hf TO ()) (hf i1 ()) (hf i2 ()) n1 n2 n3 n4 n5 n6 n7 n8 n9 n10 st q1 q2 en λh' e I' ex=>?_) (F.args_zip_next_1 _))))
  let⟨o,ho,ec⟩:=ex;show afE (ahV (T:= "StopIteration") (b:=true) ⟨o,ho,ec⟩ akI (afJ ⟨rfl,I'⟩))
 self:=λ_ _ _ _ _ st h=>wpAny_pyIter_zip st.z h
abbrev itR(t:Bool)(l:afG):Obj:={cls:= .type (itC t),data:= .fields #[.ref l,.int 0 0]}
abbrev Yo(h:af8)(t1:Bool)(l1:afG):af8:=h.push (itR t1 l1)
abbrev zA2(h:af8)(t1:Bool)(l1:afG)(t2:Bool)(l2:afG):af8:=(Yo h t1 l1).push (itR t2 l2)
abbrev zA3(h:af8)(t1:Bool)(l1:afG)(t2:Bool)(l2:afG):af8:=(zA2 h t1 l1 t2 l2).push {cls:= .type "tuple",data:= .seq #[.ref h.objs.size,.ref (Yo h t1 l1).objs.size]}
abbrev zA4(h:af8)(t1:Bool)(l1:afG)(t2:Bool)(l2:afG):af8:=(zA3 h t1 l1 t2 l2).push {cls:= .type "tuple",data:= .seq #[.none,.none]}
abbrev Uu(h:af8)(t1:Bool)(l1:afG)(t2:Bool)(l2:afG):af8:=(zA4 h t1 l1 t2 l2).push {cls:= .type "zip",data:= .fields #[.none,.bool false,.bool false,.ref (zA2 h t1 l1 t2 l2).objs.size,.ref (zA3 h t1 l1 t2 l2).objs.size]}
theorem Wd(t1:Bool)(l1:afG)(t2:Bool)(l2:afG)(xs ys:Array afF):Meets (ahx.«zip.__new__» ⟨[.type "zip",.ref l1,.ref l2],[]⟩)
  (λ_ R s=>tR t1 s.heap l1 xs/\tR t2 s.heap l2 ys/\R (.ok (.ret (.ref (zA4 s.heap t1 l1 t2 l2).objs.size))) {s with heap:=Uu s.heap t1 l1 t2 l2}):=
 .of_wp λprog w A R s h=>by
  let⟨hp,g,d,tk,os⟩:=s;let⟨k1,k2,h⟩:=h;have hsub:=sub_zip;have L1:tR t1 (Shared.heap ⟨hp,g,d,tk,os⟩) l1 xs:=k1;have L2:tR t2 (Shared.heap ⟨Yo hp t1 l1,g,d,tk,os⟩) l2 ys:=k2.of λo e=>z1a _ e
  wp_walk using Ih L1,Ih L2
  show⟨_,rfl,h⟩
theorem Yp{ys:Array afF}(k1:tR t1 s.heap l1 xs)(k2:tR t2 s.heap l2 ys)
  (h:∀h',Z2 h' (s.heap.objs.size+4) (s.heap.objs.size+2) (s.heap.objs.size+3) s.heap.objs.size (s.heap.objs.size+1) t1 t2 l1 l2 0->(∀c o,s.heap.get? c=some o->h'.get? c=some o)->Q (.ref (s.heap.objs.size+4)) {s with heap:=h'}):
  afK (model prog w) A (call (.type "zip") [.ref l1,.ref l2]) Q E s:=by
 show callType_new F.called_zip {} (F.typeCall_zip_2 _ _) (F.newCall_zip_2 _ _) (λobj=>F.args_object_init_3 obj _ _) F.entry_zip_new (Wd t1 l1 t2 l2 xs ys) ⟨k1,k2,?_⟩;have z1:(Yo s.heap t1 l1).objs.size=s.heap.objs.size+1:=agM ..;have z2:(zA2 s.heap t1 l1 t2 l2).objs.size=s.heap.objs.size+2:=by rw[agM,z1]
 have z3:(zA3 s.heap t1 l1 t2 l2).objs.size=s.heap.objs.size+3:=by rw[agM,z2]
 have z4:(zA4 s.heap t1 l1 t2 l2).objs.size=s.heap.objs.size+4:=by rw[agM,z3]
 have a5:(Uu s.heap t1 l1 t2 l2).get? (zA4 s.heap t1 l1 t2 l2).objs.size=some _:=z1f _ rfl;have a4:(Uu s.heap t1 l1 t2 l2).get? (zA3 s.heap t1 l1 t2 l2).objs.size=some _:=z1a _ (z1f _ rfl);have a3:(Uu s.heap t1 l1 t2 l2).get? (zA2 s.heap t1 l1 t2 l2).objs.size=some _:=z1a _ (z1a _ (z1f _ rfl));have a2:(Uu s.heap t1 l1 t2 l2).get? (Yo s.heap t1 l1).objs.size=some (itR t2 l2):=z1a _ (z1a _ (z1a _ (z1f _ rfl)));have a1:(Uu s.heap t1 l1 t2 l2).get? s.heap.objs.size=some (itR t1 l1):=z1a _ (z1a _ (z1a _ (z1a _ (z1f _ rfl))));show _/\_;rw[z2,z3,z4] at a5;rw[z1,z2] at a3;rw[z3] at a4;rw[z1] at a2;rw[z4];show⟨⟨_,a5,rfl⟩,h _ ⟨a5,a3,⟨_,_,a4⟩,.new a1,.new a2⟩ λc o e=>z1a _ (z1a _ (z1a _ (z1a _ (z1a _ e))))⟩
theorem adF:ahR "zip" =some (.type "zip"):={}
section
variable{kk:Nat}{a b:afV}{p pos:Pos}
def aeN(K:w0a)(ta:TA):TI:=λσ H R=>ta σ H λvs H1=>∃t1 l1 t2 l2,vs=[.ref l1,.ref l2]/\(∃xs,Sq t1 K H1 l1 xs)/\(∃ys,Sq t2 K H1 l2 ys)/\R (aaH K t1 l1 t2 l2) H1
theorem ace  (hg:Gl X "zip") (hm:X.mg "zip" =none) (ha:PA X [a,b] ta) (he:starEach [a,b] X.env=(false,eval a X.env)::starEach [b] X.env:=by rfl) (hpl:(backTo pos (starEach [b] X.env)).any (·.1)=false:=by rfl):
    PI X (.Tuple yq kk pp) (.Call (.Name "zip" p) [a,b] [] pos) (aeN X.K ta):=by
  intro pins s σ H R I h
  show Call_ (ld_blt I hg hm adF (agL (thn (ha pos pins s σ H _ I h) λus s1 ⟨vs,H1,I1,r1,q1⟩=>?_) he hpl))
  let⟨t1,l1,t2,l2,e,⟨xs,w1⟩,⟨ys,w2⟩,q⟩:=q1
  subst e
  cases r1 with
  | cons r rr=>
    cases rr with
    | cons r' rr=>
      cases rr
      cases r
      cases r'
      let⟨vs1,_,p1⟩:=I1.sq w1
      let⟨vs2,_,p2⟩:=I1.sq w2
      show Yp p1 p2 λh' st k=>wpAny_pyIter_zip st.z ⟨s1.heap.objs.size+4,[s1.heap.objs.size+4,s1.heap.objs.size+2,s1.heap.objs.size+3,s1.heap.objs.size,s1.heap.objs.size+1],_,_,H1,rfl,I1.kept (t':=s1.toks) k,Yn ?_ ?_ ?_ ?_ ?_ ?_ ?_ ?_ ?_ ?_,st,λc hc=>(by
        have hle:s1.heap.objs.size≤c:=by
          simp only[afR,ahq,or_false] at hc
          rcases hc with rfl |rfl |rfl |rfl |rfl <;> first |show akQ _ |show alw _ _
        show I1.fpOk hle (I1.hok.fresh hle)),q⟩
      all_goals (show @Ne Nat _ _;omega)
end
def Kq(xs ys:List D):List D:=(xs.zip ys).map λp=> .tup [p.1,p.2]
def zip2:List D->R (List D)
 |[x,y]=>(lg x).bind λxs=>(lg y).bind λys=> .ok (Kq xs ys)
 |_=> .bad
structure Src(K:w0a)(O:afG->Prop)(H:Hp)(t:Bool)(a:afG)(ds:List D):Prop where
 ex:∃vs,Sq t K H a vs/\aN K O H ds vs
 no:t=false->¬O a
theorem Qc(r:Rep K O H d v)(h:lg d= .ok ds):∃t a,v= .ref a/\Src K O H t a ds:=by
 cases d with
 |tup es=>cases h;let⟨a,xs,rfl,q,rs⟩:=r.tup;show⟨true,a,rfl,⟨xs,q,rs⟩,λz=>by cases z⟩
 |lst es=>cases h;let⟨a,xs,rfl,q,n,rs⟩:=r.lst;show⟨false,a,rfl,⟨xs,q,rs⟩,λ_=>n⟩
 |_=>cases h
theorem Src.go{O':afG->Prop}{H':Hp}(s:Src K O H t a ds)(q:f9 K O H O' H'):∃vs,Sq t K H' a vs/\aN K O' H' ds vs:=by
 let⟨vs,h,r⟩:=s.ex;cases t with
 |true=>show⟨vs,SqT.ext q.ext h,r.go q⟩
 |false=>show⟨vs,SqL.ext q.ext (s.no rfl) h,r.go q⟩
theorem aaJ{xs ys:List D}(h:(Kq xs ys)[i]?=some d):∃x y,xs[i]?=some x/\ys[i]?=some y/\d= .tup [x,y]:=by
 unfold Kq at h;rw[z2b] at h;cases e:(xs.zip ys)[i]? with
 |none=>rw[e] at h;cases h
 |some p=>rw[e] at h;cases h;let⟨h1,h2⟩:=List.getElem?_zip_eq_some.mp e;show⟨_,_,h1,h2,rfl⟩
theorem YR.zip2{a1 a2:afG}{xs ys:List D}(s1:Src K O H t1 a1 xs)(s2:Src K O H t2 a2 ys):YR K O H (aaH K t1 a1 t2 a2) (Kq xs ys):=by
 intro O' H' q i;let⟨v1,q1,r1⟩:=s1.go q;let⟨v2,q2,r2⟩:=s2.go q;show⟨λd e=>?_,λe=>⟨v1,v2,q1,q2,?_⟩⟩
 .let⟨x,y,e1,e2,rfl⟩:=aaJ e;let⟨u1,g1,w1⟩:=r1.get e1;let⟨u2,g2,w2⟩:=r2.get e2;show⟨⟨v1,v2,u1,u2,q1,g1,q2,g2⟩,λx H2 y=>?_⟩;let⟨p,x1,x2,hp,rfl,rfl,k1,k2⟩:=y;have k1:=k1 _ q1;have k2:=k2 _ q2;rw[g1] at k1;cases k1;rw[g2] at k2;cases k2;show⟨Same.upd hp,gM (SqT.of upd_same) ((aN.cons w1 (.cons w2 .nil)).same (Same.upd hp))⟩
 .rw[<-r1.length,<-r2.length];simp only[Kq,z1g,List.length_zip] at e;omega
section
variable{kk:Nat}{a b:afV}{p pos:Pos}
theorem Uv(hg:Gl X "zip")(hm:X.mg "zip" =none)(ha:DA X [a,b] fa)(he:afL [a,b] X.env=(false,eval a X.env)::afL [b] X.env:=by rfl)(hpl:(agS pos (afL [b] X.env)).any (·.1)=false:=by rfl):
  DI X (.Tuple yq kk pp) (.Call (.Name "zip" p) [a,b] [] pos) (λρ=>(fa ρ).bind zip2):=by
 show PI.imp (ace hg hm ha he hpl) λσ H Q q=>?_;let⟨ρ,O,j,q⟩:=q;show go j q λds vs H1 e1 s1 r1 j1 h1=>?_;unfold zip2 at h1;split at h1
 .rename_i x y;let⟨v1,v2,rfl,w1,w2⟩:=r1.two;cases ex:lg x with
  |bad=>rw[ex] at h1;show h1.elim
  |err c=>rw[ex] at h1;cases x <;> cases ex
  | ok xs=>
   cases ey:lg y with
   |bad=>rw[ex,R.bO,ey] at h1;show h1.elim
   |err c=>cases y <;> cases ey
   | ok ys=>
    rw[ex,R.bO,ey,R.bO] at h1;let⟨t1,a1,rfl,c1⟩:=Qc w1 ex;let⟨t2,a2,rfl,c2⟩:=Qc w2 ey;let⟨vs1,k1,_⟩:=c1.ex;let⟨vs2,k2,_⟩:=c2.ex;show⟨t1,a1,t2,a2,rfl,⟨vs1,k1⟩,⟨vs2,k2⟩,fin h1 (YR.zip2 c1 c2)⟩
 .show h1.elim
end
section
variable{A':afZ}
end
section
variable{kk:Nat}{a b c:afV}{p pos:Pos}
end
theorem aN.three{d e f:D}{xs:List V}(r:aN K O H [d,e,f] xs):∃x y z,xs=[x,y,z]/\Rep K O H d x/\Rep K O H e y/\Rep K O H f z:=by
 let⟨x,t,rfl,h1,h2⟩:=r.cons_inv;let⟨y,z,rfl,h3,h4⟩:=h2.two;show⟨x,y,z,rfl,h1,h3,h4⟩
section
variable{kk:Nat}{a b c:afV}{p pos:Pos}
theorem Ti{x:D}{c:Str}(h:lg x= .err c):False:=by cases x <;> cases h
end
section
theorem yt:∀{ns:List Int} {its:List afF},Vals (ns.map V.int) its->ahJ its ns
 |[],_,r=>by cases r;show .nil
 | n::ns,_,r=>by
  cases r with
  |cons h t=>let⟨tk,rfl⟩:=h;show .cons n tk (yt t)
theorem rK:∀{ds:List D} {ns:List Int} {vs:List V},intsOf ds=some ns->aN K O H ds vs->vs=ns.map V.int
 |[],ns,vs,e,r=>by cases e;show r.nil_inv
 | d ::ds,ns,vs,e,r=>by
  let⟨x,t,rfl,h1,h2⟩:=r.cons_inv;cases d with
  | int i=>
   have e:(intsOf ds).map (i:: ·)=some ns:=e;cases q:intsOf ds with
   |none=>rw[q] at e;cases e
   |some l=>rw[q] at e;cases e;rw[h1.int,rK q h2];rfl
  |_=>cases e
theorem o8:∀{ns:List Int},aN K O H (ns.map D.int) (ns.map V.int)
 |[]=> .nil
 |_::_=> .cons (cD _) o8
variable{pos:Pos}
end
def Ite(K:w0a)(t:Bool)(l:afG):It:=
 ⟨λi H=>∃xs x,Sq t K H l xs/\xs[i]?=some x,
  λi H v H'=>∃p x,H p=none/\v= .ref p/\H'=upd H p (.tup [.int (i:Int),x])/\∀xs,Sq t K H l xs->xs[i]?=some x,
  λi H=>∃xs,Sq t K H l xs/\xs.length<=i⟩
section
variable{A':afZ}
theorem Yq{e:afG}{xs:List V}{x:V}{old:afF}(I:Inv X pins σ H s)(fe:FpOk X pins H e)(fi:FpOk X pins H it)(ne:e≠it)
  (he:IsEnum s.heap e it k old)(hs:o7 t s.heap it l k)(q:Sq t X.K H l xs)(ex:xs[k]?=some x)
  (hQ:∀h' u,Inv X pins σ (upd H s.heap.objs.size (.tup [.int (k:Int),x])) {s with heap:=h',toks:=s.toks+1}->IsEnumOut h' e it ((k:Int)+1) u s.heap.objs.size->o7 t h' it l (k+1)->Q (.ref s.heap.objs.size) {s with heap:=h',toks:=s.toks+1}):
  afK (model X.prog X.w) A' (ahx.«enumerate.__next__» ⟨[.ref e],[]⟩) (λfin s'=>∃v,fin= .done (.ret v)/\Q v s') E s:=by
 let⟨us,r1,p1⟩:=I.sq q;let⟨u,hu,ru⟩:=r1.get ex;let⟨hp,g,d,tk,os⟩:=s;show afK _ _ (field (.ref e) 2 >>=_) _ _ _;show afE (agN he rfl (x:= .ref it) rfl ?_);show afE (Ou hs p1 (v:=u) (by simpa using hu) λg1 s1 b1=>?_);have I1:=I.fp fi b1
 replace b1:ahe it hp g1:=b1
 have e1:IsEnum g1 e it k old:=(b1.2 e ne).trans he;show afK _ _ (field (.ref e) 3 >>=_) _ _ ⟨g1,g,d,tk,os⟩;show afE (agN e1 rfl (x:=agx k) rfl ?_);show afK _ _ (field (.ref e) 4 >>=_) _ _ ⟨g1,g,d,tk,os⟩;show afE (agN e1 rfl (x:= .none) rfl ?_);show afK _ _ (mkInt k >>=_) _ _ ⟨g1,g,d,tk,os⟩;show afE (wpAny_mkInt ?_);have I1':Inv X pins σ H ⟨g1,g,d,tk+1,os⟩:=Inv.tok (s:=⟨g1,g,d,tk,os⟩) I1 (tk+1);show afK _ _ (setField (.ref e) 3 (agx ((k:Int)+1)) >>=_) _ _ ⟨g1,g,d,tk+1,os⟩;show afE (ahk e1 () λg2 e2 b2=>?_);have I2:=I1'.fp fe b2
 replace b2:ahe e g1 g2:=b2
 replace e2:IsEnum g2 e it ((k:Int)+1) old:=e2
 show afK _ _ (setField (.ref e) 4 .none >>=_) _ _ ⟨g2,g,d,tk+1,os⟩;show afE (ahk e2 () λg3 e3 b3=>?_);have I3:=I2.fp fe b3
 replace b3:ahe e g2 g3:=b3
 replace e3:IsEnum g3 e it ((k:Int)+1) old:=e3
 show afK _ _ (newTuple [.int k tk,u] >>=_) _ _ ⟨g3,g,d,tk+1,os⟩;show afE (wpAny_newTuple ?_);have sz:g3.objs.size=hp.objs.size:=by rw[b3.1,b2.1,b1.1]
 have lt:e≠g3.objs.size:=agm (z2c e3);have I4:Inv X pins σ (upd H g3.objs.size (.tup [.int (k:Int),x])) ⟨g3.push {cls:= .type "tuple",data:= .seq #[.int k tk,u]},g,d,tk+1,os⟩:=
  Inv.laid (s:=⟨g3,g,d,tk+1,os⟩) (t':=tk+1) I3 (λb u e=>z1a _ e) (z0g _) ⟨Yl,[.int k tk,u],.cons ⟨tk,rfl⟩ (.cons ru .nil),⟨_,z1f _ rfl,rfl,rfl,_,rfl⟩⟩
 have e4:IsEnum (g3.push {cls:= .type "tuple",data:= .seq #[.int k tk,u]}) e it ((k:Int)+1) old:=z1a _ e3;have s4:o7 t (g3.push {cls:= .type "tuple",data:= .seq #[.int k tk,u]}) it l (k+1):=s1.of λo z=>z1a _ (b3.extBut _ _ (agc ne) (b2.extBut _ _ (agc ne) z));show afK _ _ (agV (.ref e) >>=_) _ _ ⟨g3.push {cls:= .type "tuple",data:= .seq #[.int k tk,u]},g,d,tk+1,os⟩
 generalize g3.push {cls:= .type "tuple",data:= .seq #[.int k tk,u]}=g4 at *
 show afE ?_;unfold agV;show afE (agN e4 rfl (x:= .none) rfl (afJ ?_));simp only[if_true];show afE (ahg (afE (agN e4 rfl (x:=old) rfl ?_)));show afE (ahk e4 () λg5 e5 b5=>?_);have I5:=I4.fp (fe.upd lt) b5
 replace b5:ahe e g4 g5:=b5
 replace e5:IsEnum g5 e it ((k:Int)+1) u:=e5
 show afK _ _ (ahU (.ref e) (.ref g3.objs.size) >>=_) _ _ ⟨g5,g,d,tk+1,os⟩;show afE ?_;unfold ahU;show afE (ahk e5 () λg6 e6 b6=>?_);have I6:=I5.fp (fe.upd lt) b6
 replace b6:ahe e g5 g6:=b6
 replace e6:IsEnumOut g6 e it ((k:Int)+1) u g3.objs.size:=e6
 show ahk e6 () λg7 e7 b7=>?_;have I7:=I6.fp (fe.upd lt) b7
 replace b7:ahe e g6 g7:=b7
 replace e7:IsEnumOut g7 e it ((k:Int)+1) u g3.objs.size:=e7
 show afE (ajl (afJ ⟨_,rfl,?_⟩));rw[sz] at I7 e7;show Q (.ref g3.objs.size) _;rw[sz];show hQ g7 u I7 e7 (s4.of λo z=>b7.extBut _ _ (agc ne) (b6.extBut _ _ (agc ne) (b5.extBut _ _ (agc ne) z)))
end
theorem Yr{kk}{e:afG}(ne:e≠it):
  Turn P w K (.Tuple yq kk pp) (Ite K t l) [e,it] e (λi h=>(∃old,IsEnum h e it i old)/\o7 t h it l i) where
 mem:=()
 obj:=λi h st b hb=>by
  let⟨⟨old,he⟩,hs⟩:=st;simp only[afR,ahq,or_false] at hb;rcases hb with rfl |rfl
  .show⟨_,he,λv q=>by have q':alL _=akV v:=q;cases q'⟩
  .show hs.obj
 keep:=λi h h' st k=>by
  let⟨⟨old,he⟩,hs⟩:=st;show⟨⟨old,k _ () _ he⟩,hs.of λo z=>k _ () o z⟩
 item :=by
  intro X hP hw hK hc i pins s σ H E I hf st hg;subst hP hw hK;let⟨⟨old,he⟩,hs⟩:=st;let⟨xs,x,q,ex⟩:=hg;have hT:s.TypeIs (.ref e) "enumerate" :=⟨_,he,rfl⟩;have hp:H s.heap.objs.size=none:=I.hok.fresh (z0g _);have nz:∀b,b∈[e,it]->b≠s.heap.objs.size:=λb hb z=>by
   obtain⟨o,eo⟩:∃o,s.heap.get? b=some o:=by
    simp only[afR,ahq,or_false] at hb;rcases hb with rfl |rfl
    .show⟨_,he⟩
    .let⟨o,eo,_⟩:=hs.obj;show⟨o,eo⟩
   show absurd (z2c eo) (by rw[z];show agX _)
  unfold aiY;show afE (ais (agz (name:=ahS "__next__") hT F.slot_enumerate_next (ags F.slot_enumerate_next hT F.entry_enumerate_next
   (Yq I (hf e ()) (hf it ()) ne he hs q ex λh' u I' e' s'=>afJ ⟨_,rfl,?_⟩) (F.args_enumerate_next_1 _))))
  show wpAny_letOwnedTupleGo_enum e' λh'' e'' b''=>⟨.ref s.heap.objs.size,upd H s.heap.objs.size (.tup [.int (i:Int),x]),I'.fp ((hf e ()).upd (nz e ())) b'',rfl,⟨_,x,hp,rfl,rfl,λxs' q'=>by rw[I.Qa q' q];show ex⟩,⟨⟨u,by simpa using e''⟩,s'.of λo z=>b''.extBut _ _ (agc ne) z⟩,λb hb=>?_⟩;rw[upd_ne (nz b hb)];show (hf b hb).1
 done:=by
  intro X hP hw hK hc i pins s σ H E I hf st hg;subst hP hw hK;let⟨⟨old,he⟩,hs⟩:=st;let⟨xs,q,en⟩:=hg;let⟨us,r1,p1⟩:=I.sq q;have hT:s.TypeIs (.ref e) "enumerate" :=⟨_,he,rfl⟩;unfold aiY;show afE (ais (agz (name:=ahS "__next__") hT F.slot_enumerate_next (ags F.slot_enumerate_next hT F.entry_enumerate_next ?_ (F.args_enumerate_next_1 _))));show afK _ _ (field (.ref e) 2 >>=_) _ _ _;show afE (agN he rfl (x:= .ref it) rfl ?_);show afE (GJ (I.ok.hd hc) hs p1 (by have:=r1.length;simp;omega) λg1 x eb bQ=>?_);let⟨o,ho,ec⟩:=bQ;show afE (ahV (T:= "StopIteration") (b:=true) ⟨o,ho,ec⟩ akI (afJ ⟨rfl,I.fpE (hf it ()) eb⟩))
 self:=λ_ _ _ _ _ st h=>by
  let⟨⟨old,he⟩,_⟩:=st;show wpAny_pyIter_enum he h
theorem Tj(t:Bool)(l:afG)(xs:Array afF):Meets (ahx.«enumerate.__new__» ⟨[.type "enumerate",.ref l],[]⟩)
  (λ_ R s=>tR t s.heap l xs/\R (.ok (.ret (.ref (s.heap.push (itR t l)).objs.size))) {s with heap:=(s.heap.push (itR t l)).push {cls:= .type "enumerate",data:= .fields #[.none,.bool false,.ref s.heap.objs.size,agx 0,.none,.none]}}):=
 .of_wp λprog w A R s h=>by
  let⟨hp,g,d,tk,os⟩:=s;let⟨k1,h⟩:=h;have hsub:=sub_enumerate;have L1:tR t (Shared.heap ⟨hp,g,d,tk,os⟩) l xs:=k1
  wp_walk using Ih L1
  show wpAny_stack_any λst=>afJ ?_;split
  .rename_i c _ _ _ _ _;cases (c ==af6 "enumerate") <;> (wp_walk using Ih L1;show⟨_,rfl,h⟩)
  .wp_walk using Ih L1
   show⟨_,rfl,h⟩
theorem Wf(k1:tR t s.heap l xs)
  (h:∀h',IsEnum h' (s.heap.objs.size+1) s.heap.objs.size 0 .none->o7 t h' s.heap.objs.size l 0->(∀c o,s.heap.get? c=some o->h'.get? c=some o)->Q (.ref (s.heap.objs.size+1)) {s with heap:=h'}):
  afK (model prog w) A (call (.type "enumerate") [.ref l]) Q E s:=by
 show callType_new F.called_enumerate {} (F.typeCall_enumerate_1 _) (F.newCall_enumerate_1 _) (λobj=>F.args_object_init_2 obj _) F.entry_enumerate_new (Tj t l xs) ⟨k1,?_⟩;have z1:(s.heap.push (itR t l)).objs.size=s.heap.objs.size+1:=agM ..;have a2:((s.heap.push (itR t l)).push {cls:= .type "enumerate",data:= .fields #[.none,.bool false,.ref s.heap.objs.size,agx 0,.none,.none]}).get? (s.heap.push (itR t l)).objs.size=some _:=z1f _ rfl;show _/\_;rw[z1] at a2 |-;show⟨⟨_,a2,rfl⟩,h _ a2 (.new (z1a _ (z1f _ rfl))) λc o e=>z1a _ (z1a _ e)⟩
section
variable{kk:Nat}{a:afV}{p pos:Pos}
def aeO(K:w0a)(ta:TA):TI:=λσ H R=>ta σ H λvs H1=>∃t l,vs=[.ref l]/\(∃xs,Sq t K H1 l xs)/\R (Ite K t l) H1
theorem acf  (hg:Gl X "enumerate") (hm:X.mg "enumerate" =none) (ha:PA X [a] ta) (he:starEach [a] X.env=(false,eval a X.env)::starEach [] X.env:=by rfl) (hpl:(backTo pos (starEach [] X.env)).any (·.1)=false:=by rfl):
    PI X (.Tuple yq kk pp) (.Call (.Name "enumerate" p) [a] [] pos) (aeO X.K ta):=by
  intro pins s σ H R I h
  show Call_ (ld_blt I hg hm boot_enumerate (agL (thn (ha pos pins s σ H _ I h) λus s1 ⟨vs,H1,I1,r1,q1⟩=>?_) he hpl))
  let⟨t,l,e,⟨xs,w1⟩,q⟩:=q1
  subst e
  cases r1 with
  | cons r rr=>
    cases rr
    cases r
    let⟨vs1,_,p1⟩:=I1.sq w1
    show Wf p1 λh' e' s' k=>wpAny_pyIter_enum e' ⟨s1.heap.objs.size+1,[s1.heap.objs.size+1,s1.heap.objs.size],_,_,H1,rfl,I1.kept (t':=s1.toks) k,Yr ?_,⟨⟨_,e'⟩,s'⟩,λc hc=>(by
        have hle:s1.heap.objs.size≤c:=by
          simp only[afR,ahq,or_false] at hc
          rcases hc with rfl |rfl <;> first |show akQ _ |show alw _ _
        show I1.fpOk hle (I1.hok.fresh hle)),q⟩
    all_goals (show @Ne Nat _ _;omega)
def o9:Nat->List D->List D
 |_,[]=>[]
 |n,d::ds=> .tup [.int (n:Int),d]::o9 (n+1) ds
theorem Lz:∀{ds:List D} {n i:Nat} {d:D},(o9 n ds)[i]?=some d->∃x,ds[i]?=some x/\d= .tup [.int ((n+i:Nat):Int),x]
 |[],_,_,_,h=>by simp[o9] at h
 |x::ds,n,0,d,h=>by simp[o9] at h;show⟨x,rfl,by rw[<-h];rfl⟩
 | x::ds,n,i+1,d,h=>by
  rw[o9,aiu] at h;let⟨y,e1,e2⟩:=Lz h;show⟨y,by rw[aiu];show e1,by rw[e2,show n+1+i=n+(i+1) by omega]⟩
theorem LC:∀{ds:List D} {n:Nat},(o9 n ds).length=ds.length
 |[],_=>rfl
 |_::ds,n=>by rw[o9,afN,LC,afN]
def tY:List D->R (List D)
 |[x]=>(lg x).bind λxs=> .ok (o9 0 xs)
 |_=> .bad
theorem YR.enum{a:afG}{xs:List D}(s1:Src K O H t a xs):YR K O H (Ite K t a) (o9 0 xs):=by
 intro O' H' q i;let⟨v1,q1,r1⟩:=s1.go q;show⟨λd e=>?_,λe=>⟨v1,q1,?_⟩⟩
 .let⟨x,e1,rfl⟩:=Lz e;let⟨u1,g1,w1⟩:=r1.get e1;show⟨⟨v1,u1,q1,g1⟩,λx H2 y=>?_⟩;let⟨p,x1,hp,rfl,rfl,k1⟩:=y;have k1:=k1 _ q1;rw[g1] at k1;cases k1;rw[ahF];show⟨Same.upd hp,gM (SqT.of upd_same) ((aN.cons (cD _) (.cons w1 .nil)).same (Same.upd hp))⟩
 .rw[<-r1.length,<-LC (n:=0)];show e
theorem El(hg:Gl X "enumerate")(hm:X.mg "enumerate" =none)(ha:DA X [a] fa)(he:afL [a] X.env=(false,eval a X.env)::afL [] X.env:=by rfl)(hpl:(agS pos (afL [] X.env)).any (·.1)=false:=by rfl):
  DI X (.Tuple yq kk pp) (.Call (.Name "enumerate" p) [a] [] pos) (λρ=>(fa ρ).bind tY):=by
 show PI.imp (acf hg hm ha he hpl) λσ H Q q=>?_;let⟨ρ,O,j,q⟩:=q;show go j q λds vs H1 e1 s1 r1 j1 h1=>?_;unfold tY at h1;split at h1
 .rename_i x;let⟨v1,rfl,w1⟩:=r1.one;cases ex:lg x with
  |bad=>rw[ex] at h1;show h1.elim
  |err c=>show (Ti ex).elim
  | ok xs=>
   rw[ex,R.bO] at h1;let⟨t1,a1,rfl,c1⟩:=Qc w1 ex;let⟨vs1,k1,_⟩:=c1.ex;show⟨t1,a1,rfl,⟨vs1,k1⟩,fin h1 (YR.enum c1)⟩
 .show h1.elim
end
section
variable{a:afV}{p pos p2 pos2:Pos}
def adG(K:w0a)(ta:TA):TE:=λσ H Q=>ta σ H λvs H1=>∃j:Int,vs=[.int j]/\0<=j/\j<=1000/\∀q,H1 q=none->Q (.ref q) (upd H1 q (.rng 0 j))
theorem adH(hg:Gl X "range")(hm:X.mg "range" =none)(ha:PA X [a] ta)(hs:afL [a] X.env=[(false,eval a X.env)]:=by rfl):PE X (.Call (.Name "range" p) [a] [] pos) (adG X.K ta):=by
 intro pins s σ H Q I h;show Call_ (ld_blt I hg hm boot_range (agL (thn (ha pos pins s σ H _ I h) λus s1 ⟨vs,H1,I1,r1,q1⟩=>?_) hs rfl));let⟨j,e,h0,h1,q⟩:=q1;subst e;cases r1 with
 | cons r rr=>
  cases rr;let⟨t,rfl⟩:=r;show call_range_1 ?_;show⟨.ref s1.heap.objs.size,upd H1 s1.heap.objs.size (.rng 0 j),I1.laid (λb o e=>z1a _ e) (z0g _) ⟨_,_,_,z1f _ rfl⟩,rfl,q _ (I1.hok.fresh (z0g _))⟩
end
section
variable{f:aq->R D}{pos:Pos}
def Kr(i:Nat)(f:aq->R D):aq->So:=λρ=>match ρ[i]? with
 | some (some (.val (.int a)))=>lM (f ρ) ρ λd=>match d with
  | .int b=> .nx (ρ.set i (some (.val (.int (a+b)))))
  |_=> .bad
 |_=> .bad
theorem adI(i:Nat)(hN:X.N.Nodup)(he:DE X e f)(hi:X.N[i]?=some x:=by rfl)(hx:Loc X.env.scope x:=by first |show ag1 rfl |show agK rfl)
  (hf:X.fn x=true\/X.env.scope.names.lookup x=some .local:=by first |show .inl rfl |show .inr rfl):DS X (.AugAssign (.Name x pos') .Add e pos) (Kr i f):=by
 show PS.imp (ps_aug hN hi hx he ip_add hf) λσ H E h=>?_;let⟨H0,O0,O,ρ,j,h⟩:=h;unfold Kr at h;cases e1:ρ[i]? with
 |none=>simp only[e1] at h;show h.elim
 | some oe =>
  cases oe with
  |none=>simp only[e1] at h;show h.elim
  | some en=>
   cases en with
   |lst _=>simp only[e1] at h;show h.elim
   |Bt _=>simp only[e1] at h;show h.elim
   |rws _=>simp only[e1] at h;show h.elim
   |obj _=>simp only[e1] at h;show h.elim
   | val d=>
    cases d with
    | int a=>
     simp only[e1] at h;let⟨v,hv,rv⟩:=j.inn.env.get i _ e1;have rv:v= .int a:=Rep.int (K:=X.K) (O:=O) (H:=H) rv;subst rv;show⟨.int a,hv,ρ,O,j.inn,?_⟩;unfold lM at h;cases e2:f ρ with
     |bad=>rw[e2] at h;show h
     |err c=>rw[e2] at h;show h σ H O j
     | ok d=>
      rw[e2] at h;intro v' H' s r;cases d with
      |int b=>show⟨a,b,rfl,r.int,h _ H' O ((j.grow s).set (z1b hi).1 (cD _)) (Same.gb s)⟩
      |_=>show h.elim
    |_=>simp only[e1] at h;show h.elim
def aaK(K:w0a)(mg:Str->Option afF)(x:Str)(ss:List Str):Prop:=∃a,mg x=some (.ref a)/\∀H,SqT K H a (ss.map V.str)
theorem LK:∀{ss:List Str},aN K O H (ss.map D.str) (ss.map V.str)
 |[]=> .nil
 |_::_=> .cons (Kc _) LK
theorem acg{ss:List Str}{pos:Pos}(hg:Gl X x)(h:aaK X.K X.mg x ss)(hd:(x ==("__debug__" :Str))=false:=by decide):DE X (.Name x pos) (λ_=> .ok (.tup (ss.map D.str))):=by
 let⟨a,hm,hq⟩:=h;show Kd (pe_glob (v:= .ref a) hg hm rfl hd) λ_ H=>gM (hq H) LK
end
theorem ach{ss:List Str}{its:Array afF}{sl:Array (Option afF)}(X:K.In h)(G:h.Ns af0 mg)
  (y:w0b K af0 x=some (some (.ref a)))(l:K.lookup a=some ⟨.type "tuple",none,.seq its n,sl⟩)(hz:its.size<=sizeLine)(hv:Vals (ss.map V.str) its.toList):aaK K mg x ss:=
 ⟨a,w0e X G y,λ_=> .inr ⟨_,its,n,l,rfl,rfl,rfl,hz,hv⟩⟩
inductive aaL (XB:Cx) (K:w0a) (O:afG->Prop) (H2:Hp) (Dd:afG) (fp:List afG) (tn:Nat->af8->Prop) (ρ0:aq) (xs:List D) (F:D->R (Option D)) (all:List D) (n:Nat) (s':afH):Prop
 |mk (i:Nat) (σ':St) (H':Hp) (ys:List V) (ds rest:List D) (en:n=xs.length+1 - i) (hil:i<=xs.length) (I:Inv XB [] σ' H' s') (st:tn i s'.heap) (fr:∀b∈fp,H' b=none) (j:In XB O H' ρ0 σ') (sm:Same H2 H') (hD:H' Dd=some (.lst ys)) (rp:aN K O H' ds ys) (hm:lK F (xs.drop i)= .ok rest) (hr:ds++rest=all):aaL XB K O H2 Dd fp tn ρ0 xs F all n s'
def Tb(ts:List (afG×Str))(H:Hp):Prop:=∀p∈ts,∃(ps:Array afF) (tq:Tok),H p.1=some (.tbl ps)/\ps[0]?=some (.str p.2 tq)
theorem Tb.un{fs ex:List afG}{H':Hp}(t:Tb ts H)(u:Un fs ex H H' h h'):Tb ts H':=λp hp=>by
 let⟨ps,tq,e,q⟩:=t p hp;let⟨more,e'⟩:=u.tbls _ _ e;show⟨_,tq,e',?_⟩;let⟨hl,_⟩:=ak5.mp q;rw[Array.getElem?_append_left hl];show q
theorem LQ{pos2:Pos}(ts:List Str)(caps:List Nat)
  (hc:X.calm=true)(hb:Gw X.env.scope scope ts X.N=true)(hcap:(eE scope).map (λx=>lR x X.N)=caps)
  (hi:DI X tg iter fi)(hk:rF ts.length gt)(hg:∀C s H ex,(cV X scope ts C s H ex).N.Nodup->DG (cV X scope ts C s H ex) tg gt){Ii:List (afG×Str)}(hT:Tb Ii X.H₀)(ht:∀C s H ex,Tb Ii H->Ph (cV X scope ts C s H ex) ifs ft)(he:∀C s H ex,Tb Ii H->DE (cV X scope ts C s H ex) elt fe)
  (hs:∀x,aio iter X.env x=pure x){use:Option (afF->Sem Unit)}{Qr:afF->afH->Prop}{pins:List (afG×Obj)}{s:afH}{Q:VK}(I:Inv X pins σ H s)(j:In X O H ρ σ)
  (hQ:∀(v:V) (H':Hp) (s5:afH) (C:afG) (m:Str->Option afF) (f:Flow) (acc:afF),Q v H'->Inv X pins σ H' s5->s5.heap.Ns C m->FpOk X pins H' C->RelV v acc->compPost (model X.prog X.w) X.A X.xe use Qr acc C (.ok f) s5)
  (h:good X (rD X) O (bN ts.length caps fi gt ft fe ρ) σ H Q):
  afK (model X.prog X.w) X.A (comprehension (.ListComp elt [⟨tg,iter,ifs,0⟩] scope pos) scope X.env pos2 (newList []) false (eval iter X.env) use) Qr X.xe s:=by
 have B:=aeK hb;show wpAny_comprehension_free (cl:=iU X.env.cells scope.names []) (use:=use) rfl hs (V4 λx hx e=>?_) B.kind B.loc ?_
 .let⟨n,k⟩:=x;have e:k= .free:=e;subst e;show I.ok.has n (B.out n (uV hx))
 show thn (hi pins s σ H (λJ H1=>∃xs,YR X.K O H1 J xs/\In X O H1 ρ σ/\good X (rD X) O ((lK (qj gt ft fe (Eb ts.length caps ρ)) xs).bind (cap .lst)) σ H1 Q) I (Pu.go j h λxs J H1 e1 s1 y1 j1 h1=>⟨xs,y1,j1,h1⟩)) λxv s1 h1=>thn h1 λitv s2 h2=>?_;let⟨it,fp,tn,J,H2,e,I2,T,st2,f2,xs,yr,j2,g2⟩:=h2;have tb2:Tb Ii H2:=hT.un I2.base;subst e;rw[<-V6 hcap] at g2
 generalize eρ:pull X.N (eE scope) ts.length (ρ.map yS)=ρ0 at g2
 obtain⟨all,hall,hlen,g3⟩:∃all,lK (qj gt ft fe ρ0) xs= .ok all/\all.length<=1000000/\good X (rD X) O (.ok (.lst all)) σ H2 Q:=by
  cases e:lK (qj gt ft fe ρ0) xs with
  |bad=>rw[e] at g2;show g2.elim
  |err c=>show absurd e HJ
  | ok all=>
   rw[e] at g2;have g2:good X (rD X) O (if all.length<=1000000 then .ok (.lst all) else .bad) σ H2 Q:=g2;by_cases hl:all.length<=1000000
   .rw[z9p hl] at g2;show⟨all,rfl,hl,g2⟩
   .rw[z9n hl] at g2;show g2.elim
 have hlt:∀b∈fp,b<s2.heap.objs.size:=λb hb=>by
  let⟨o,e,_⟩:=T.obj 0 _ st2 b hb;show z2c e
 show agB (X4 ?_)
 generalize hC:(s2.heap.push {cls:= .type "list",dict:=none,data:= .seq ([]:List afF).toArray}).objs.size=C
 have hC':C=s2.heap.objs.size+1:=by rw[<-hC];show agM ..
 generalize e4:pushCells ((s2.heap.push {cls:= .type "list",dict:=none,data:= .seq ([]:List afF).toArray}).push {cls:= .type "dict",data:= .dict #[]}) scope.names=h4
 show ajL (model X.prog X.w) X.A (.compStart (.ListComp elt [⟨tg,iter,ifs,0⟩] scope pos) 0 (.ref it) (.ref s2.heap.objs.size) (ig scope X.env C)) (compPost (model X.prog X.w) X.A X.xe use Qr (.ref s2.heap.objs.size) C) {s2 with heap:=h4};have hDn:H2 s2.heap.objs.size=none:=I2.hok.fresh (z0g _);have hOn:¬O s2.heap.objs.size:=j2.yP hDn;have hDk:X.K.lookup s2.heap.objs.size=none:=by
  cases q:X.K.lookup s2.heap.objs.size with
  |none=>rfl
  |some o=>show absurd (z2c (I2.kIn _ _ q)) (agX _)
 have I4:=ab0 (ts:=ts) I2 B f2 hlt hC' e4.symm;have sD:Same H2 (upd H2 s2.heap.objs.size (.lst [])):=Same.upd hDn;have lρ0:ρ0.length=(ts++eE scope).length:=by rw[<-eρ,yR,z1d]
 generalize eD:s2.heap.objs.size=Dd at *
 have adJ:∀{H':Hp},Same H2 H'->f9 X.K O H2 (λa=>O a\/a=Dd) H':=λsm=>⟨(Same.gb (K:=X.K) (O:=O) sm).ext,λa z=>z.elim .inl λe=> .inr (by rw[e];show⟨hDn,hDk⟩),(Same.gb (K:=X.K) (O:=O) sm).dom⟩;have alO:∀{H':Hp} {ys:List V},Same H2 H'->H' Dd=some (.lst ys)->∀a,(O a\/a=Dd)->∃o,H' a=some o:=λsm e a z=>z.elim (λq=>let⟨o,h⟩:=j2.al a q;⟨o,sm _ _ h⟩) λq=>by rw[q];show⟨_,e⟩
 have j4:In (cV X scope ts C s2 H2 fp) (λa=>O a\/a=Dd) (upd H2 Dd (.lst [])) ρ0 (pull X.N (eE scope) ts.length σ):=by
  rw[<-eρ];show In.go (adv B j2.vals) Lr (adJ sD) (alO sD upd_same)
 have hv0:∀(i:Nat) e,ρ0[i]?=some (some e)->e.Uj=true:=by rw[<-eρ];show Lr
 have hn0:∀i,i<ts.length->ρ0[i]?=some none:=by rw[<-eρ];show λi h=>X6 h
 have aeP:∀b o,s2.heap.get? b=some o->h4.get? b=some o:=λb o e=>by
  rw[<-e4];show ajQ _ _ b o (z1a _ (z1a _ e))
 have st4:tn 0 h4:=T.keep _ _ _ st2 λb _ o e=>aeP b o e;have stat:∀{H':Hp},(∀b∈fp,H' b=none)->∀b∈fp,FpOk (cV X scope ts C s2 H2 fp) [] H' b:=λ{H'} hn b hb=>by
  have hl: @LT.lt Nat _ b Dd:=hlt b hb;let⟨_,a1,a2,a3,a4,_⟩:=f2 b hb;show⟨hn b hb,by show @Ne Nat b C;omega,λz=>?_,.inl hb,λx c h=>?_,λp hp=>absurd (show p∈([]:List (afG×Obj)) from hp) ()⟩
  .rcases afR.mp (I2.stkSub b z) with z |z
   .show a1 z
   .show a2 z
  .rcases lV B I2.ok.has h with⟨_,q⟩ |⟨_,q⟩
   .show @Ne Nat c b;omega
   .show a4 x c q
 have fr4:∀b∈fp,(upd H2 Dd (.lst [])) b=none:=λb hb=>by
  have hl: @LT.lt Nat _ b Dd:=hlt b hb;rw[upd_ne (show @Ne Nat b Dd by omega)];show (f2 b hb).1
 have loop : ∀s0:afH,s0={s2 with heap:=h4}->ajL (model X.prog X.w) X.A (.compLoop (.ListComp elt [⟨tg,iter,ifs,0⟩] scope pos) 0 (.ref it) (.ref Dd) (ig scope X.env C)) (compPost (model X.prog X.w) X.A X.xe use Qr (.ref Dd) C) s0:=by
  intro s0 e0;show codeAny_loop rfl (λn s'=>aaL (cV X scope ts C s2 H2 fp) X.K (λa=>O a\/a=Dd) H2 Dd fp tn ρ0 xs (qj gt ft fe ρ0) all n s') (λn s' hI=>?_) (xs.length+1)
   ⟨0,_,_,[],[],all,rfl,ahp _,e0▸I4,e0▸st4,fr4,j4,sD,upd_same,.nil,by simpa using hall,rfl⟩
  let⟨i,σ',H',ys,ds,rest,rfl,hil,I',st',fr',j',sm',hD',rp',hm',hr'⟩:=hI;show afK (model X.prog X.w) X.A ((compTurn (.ListComp elt [⟨tg,iter,ifs,0⟩] scope pos) 0 (.ref it) (.ref Dd) (ig scope X.env C)).onRaise (λx=>do noteFrame x (ig scope X.env C);theTreesLotGoes x)) _ _ s';show wpAny_noted ?_;rw[compTurn_list];have X7:=yr _ H' (adJ sm') i;show afE (ak0 (afE ?_));by_cases hlt':i<xs.length
  .-- a turn
   have ex:xs[i]?=some xs[i]:=by simp[hlt']
   have ed:xs.drop i=xs[i]::xs.drop (i+1):=ahr hlt';rw[ed] at hm';let⟨o,rest',k1,k2,k3⟩:=X5 hm';let⟨jgo,jy⟩:=X7.1 _ ex;show ahf (T.item (cV X scope ts C s2 H2 fp) rfl rfl rfl hc i [] s' σ' H' (λ_ _=>False) I' (stat fr') st' jgo) (λr s4 ⟨u,hr,h4'⟩=>?_) λ_ _ z=>z.elim;subst hr;show afE (ahf h4' (λ_ s5 ⟨x,H5,I5,r5,y5,st5,fr5⟩=>?_) λ_ _ z=>z.elim);let⟨Qd,afj⟩:=jy x H5 y5;have I5':=I5.pinned (stat fr5) (T.obj _ _ st5);have k1:(gt xs[i] ρ0).bind (λρ1=>(ft ρ1).bind λb=>if b=true then (fe ρ1).bind λd=> .ok (some d) else .ok none)= .ok o:=k1;cases q1:gt xs[i] ρ0 with
   |bad=>rw[q1] at k1;cases k1
   |err c=>rw[q1] at k1;cases k1
   | ok ρ1 =>
    rw[q1] at k1;have k1:(ft ρ1).bind (λb=>if b=true then (fe ρ1).bind λd=> .ok (some d) else .ok none)= .ok o:=k1;show afE (ahf (hg C s2 H2 fp B.nd _ s5 σ' H5 x u (λσ6 H6=>H6=H5/\In (cV X scope ts C s2 H2 fp) (λa=>O a\/a=Dd) H5 ρ1 σ6) I5' r5 ⟨ρ0,_,xs[i],ρ1,j'.same Qd,afj,q1,λσ6 j6=>⟨rfl,j6⟩⟩) (λ_ s6 ⟨σ6,H6,I6,eH,j6⟩=>?_) λ_ _ z=>(show False from z).elim);subst eH;cases q2:ft ρ1 with
    |bad=>rw[q2] at k1;cases k1
    |err c=>rw[q2] at k1;cases k1
    | ok bb =>
     rw[q2] at k1;have k1:(if bb=true then (fe ρ1).bind λd=>R.ok (some d) else .ok none)= .ok o:=k1;have gtest:tG (cV X scope ts C s2 H2 fp) rB ft σ6 H6 (λb H7=>b=bb/\Same H6 H7):=⟨ρ1,_,j6,by rw[q2];show λb H7 s7 e7=>⟨e7.symm,s7⟩⟩;show afE (ahf (ht C s2 H2 fp tb2 _ s6 σ6 H6 _ I6 gtest) (λok s7 ⟨H7,I7,ok7,Ij⟩=>?_) λ_ _ z=>(show False from z).elim);subst ok7;have back:∀{H8:Hp} {s8:afH} {ys':List V} {ds':List D},Inv (cV X scope ts C s2 H2 fp) ([]++pinsAt fp s5.heap) σ6 H8 s8->Same H2 H8->In (cV X scope ts C s2 H2 fp) (λa=>O a\/a=Dd) H8 ρ0 σ6->H8 Dd=some (.lst ys')->aN X.K (λa=>O a\/a=Dd) H8 ds' ys'->ds'++rest'=all->
       ∃m,m<xs.length+1 - i/\aaL (cV X scope ts C s2 H2 fp) X.K (λa=>O a\/a=Dd) H2 Dd fp tn ρ0 xs (qj gt ft fe ρ0) all m s8:=by
      intro H8 s8 ys' ds' I8 Uw j8 hD8 rp8 hr8;show⟨xs.length+1 - (i+1),(),i+1,σ6,H8,ys',ds',rest',rfl,(),I8.unpinned,T.keep _ _ _ st5 λb hb o e=>(I8.pin (b,o) (af9 _ (af9 _ (mem_pinsAt hb e)))).1,λb hb=>?_,j8,Uw,hD8,rp8,k2,hr8⟩;let⟨o,e,d⟩:=T.obj _ _ st5 b hb;show (I8.pin (b,o) (af9 _ (af9 _ (mem_pinsAt hb e)))).2.1
     have j60:In (cV X scope ts C s2 H2 fp) (λa=>O a\/a=Dd) H6 ρ0 σ6:=In.back (n:=ts.length) j6 hn0 (λk hk'=>hk _ _ _ q1 k hk') lρ0;cases ok with
     | false=>
      have k1:R.ok none=R.ok o:=k1;cases k1;show afJ ⟨rfl,?_⟩;show back I7 (sm'.trans (Qd.trans Ij)) (j60.same Ij) (Ij _ _ (Qd _ _ hD')) (rp'.same (Qd.trans Ij)) ?_;rw[<-hr',k3];rfl
     | true =>
      have k1:(fe ρ1).bind (λd=>R.ok (some d))= .ok o:=k1;cases q3:fe ρ1 with
      |bad=>rw[q3] at k1;cases k1
      |err c=>rw[q3] at k1;cases k1
      | ok d =>
       rw[q3] at k1;have k1:R.ok (some d)=R.ok o:=k1;cases k1;have afk:tG (cV X scope ts C s2 H2 fp) (rD (cV X scope ts C s2 H2 fp)) fe σ6 H7 (λv H8=>Same H7 H8/\Rep X.K (λa=>O a\/a=Dd) H8 d v):=⟨ρ1,_,j6.same Ij,by rw[q3];show λv H8 s8 r8=>⟨s8,r8⟩⟩;show afE (afE (ahf (he C s2 H2 fp tb2 _ s7 σ6 H7 _ I7 afk) (λxv s8 ⟨v8,H8,I8,r8,Uw,afl⟩=>?_) λ_ _ z=>(show False from z).elim));have hD8:H8 Dd=some (.lst ys):=Uw _ _ (Ij _ _ (Qd _ _ hD'));have rp8:aN X.K (λa=>O a\/a=Dd) H8 ds ys:=rp'.same (Qd.trans (Ij.trans Uw));have hds:ds++d::rest'=all:=by rw[<-hr',k3];rfl
       have hyl:ys.length<sizeLine:=by
        have:=jB;have e1:=rp8.length;have e2:=congrArg akS hds;rw[z1d,afN] at e2;omega
       show afE (ahf (mt_append (X:=cV X scope ts C s2 H2 fp) _ s8 σ6 H8 (.ref Dd) [v8] (.ref Dd) [xv] (λ_ H9=>H9=upd H8 Dd (.lst (ys++[v8]))) I8 rfl (.cons r8 .nil) ⟨_,ys,v8,rfl,rfl,hD8,hyl,rfl⟩) (λ_ s9 ⟨_,H9,I9,_,eH9⟩=>?_) λ_ _ z=>(show False from z).elim);subst eH9;have afm:Same H2 H8:=sm'.trans (Qd.trans (Ij.trans Uw));have adK:f9 X.K (λa=>O a\/a=Dd) H8 (λa=>O a\/a=Dd) (upd H8 Dd (.lst (ys++[v8]))):=by
        show⟨⟨λb zs h=>?_,λb zs n h=>?_⟩,λa z=> .inl z,λa z=>?_⟩
        .have nb:b≠Dd:=λe=>by
          rw[e] at h;rcases h with h |⟨o,h⟩ <;> rw[hD8] at h <;> cases h
         rcases h with h |⟨o,h⟩
         .show .inl (by rw[upd_ne nb];show h)
         .show .inr ⟨o,by rw[upd_ne nb];show h⟩
        .have nb:b≠Dd:=λe=>n (.inr e);rcases h with h |⟨o,h⟩
         .show .inl (by rw[upd_ne nb];show h)
         .show .inr ⟨o,by rw[upd_ne nb];show h⟩
        .by_cases ea:a=Dd
         .rw[ea,upd_same] at z;cases z
         .rw[upd_ne ea] at z;show z
       have sm9:Same H2 (upd H8 Dd (.lst (ys++[v8]))):=λb o e=>by
        rw[upd_ne (ne_of_none e hDn)];show afm _ _ e
       show afJ (afJ ⟨rfl,?_⟩);show back I9 sm9 (In.go (j60.same (Ij.trans Uw)) hv0 adK (alO sm9 upd_same)) upd_same ((rp8.append (.cons afl .nil)).go adK) ?_;rw[afM];show hds
  .-- the end
   have ei:i=xs.length:=()
   subst ei;have hrest:rest=[]:=by
    have hm':lK (qj gt ft fe ρ0) (xs.drop xs.length)= .ok rest:=hm';rw[ai4] at hm';cases hm';rfl
   subst hrest;rw[agi] at hr';subst hr';show ahf (T.done (cV X scope ts C s2 H2 fp) rfl rfl rfl hc _ [] s' σ' H' (λ_ _=>False) I' (stat fr') st' (X7.2 (z0g _))) (λr s5 ⟨hr,I5⟩=>?_) λ_ _ z=>z.elim;subst hr;show afJ ?_;let⟨m,hns,_⟩:=I5.loc;have hCn:H' C=none:=I5.free;have I6:Inv X pins σ H' s5:=by
    show I2.call' (s':=s5) (ch:=fp) I5.os ⟨λb o e n hb hx=>I5.base.keep b o e n hb hx,λb o e n hb hx=>I5.base.slot b o e n hb hx,I5.base.free,λb o e hx=>I5.base.there b o e hx,I5.base.tups,I5.base.frzs,I5.base.tbls⟩ (λb u e=>I5.hok b u e) I5.bare λb hb=>⟨(f2 b hb).2.2.2.1,(f2 b hb).2.1,(f2 b hb).2.2.2.2.1,(f2 b hb).2.2.2.2.2⟩
   show hQ (.ref Dd) H' s5 C m _ (.ref Dd) (g3 _ _ sm' (nW (SqL.of hD') hOn (rp'.fewer λa z=> .inl z))) I6 hns (I2.fpOk (show @LE.le Nat _ _ C by omega) hCn) rfl
 show codeAny_compStart_list (loop _ rfl) (T.self _ 0 _ _ _ st4 (loop _ rfl))
theorem Qe{pos2:Pos}(ts:List Str)(caps:List Nat)
  (hc:X.calm=true)(hb:Gw X.env.scope scope ts X.N=true)(hcap:(eE scope).map (λx=>lR x X.N)=caps)
  (hi:DI X tg iter fi)(hk:rF ts.length gt)(hg:∀C s H ex,(cV X scope ts C s H ex).N.Nodup->DG (cV X scope ts C s H ex) tg gt)(ht:∀C s H ex,Ph (cV X scope ts C s H ex) ifs ft)(he:∀C s H ex,DE (cV X scope ts C s H ex) elt fe)
  (hs:∀x,aio iter X.env x=pure x){use:Option (afF->Sem Unit)}{Qr:afF->afH->Prop}{pins:List (afG×Obj)}{s:afH}{Q:VK}(I:Inv X pins σ H s)(j:In X O H ρ σ)
  (hQ:∀(v:V) (H':Hp) (s5:afH) (C:afG) (m:Str->Option afF) (f:Flow) (acc:afF),Q v H'->Inv X pins σ H' s5->s5.heap.Ns C m->FpOk X pins H' C->RelV v acc->compPost (model X.prog X.w) X.A X.xe use Qr acc C (.ok f) s5)
  (h:good X (rD X) O (bN ts.length caps fi gt ft fe ρ) σ H Q):
  afK (model X.prog X.w) X.A (comprehension (.ListComp elt [⟨tg,iter,ifs,0⟩] scope pos) scope X.env pos2 (newList []) false (eval iter X.env) use) Qr X.xe s:=
 LQ (Ii:=[]) ts caps hc hb hcap hi hk hg (λ_ z=>absurd z ahq) (λC s H ex _=>ht C s H ex) (λC s H ex _=>he C s H ex) hs I j hQ h
theorem cg(ts:List Str)(caps:List Nat)
  (hc:X.calm=true)(hb:Gw X.env.scope scope ts X.N=true)(hcap:(eE scope).map (λx=>lR x X.N)=caps)
  (hi:DI X tg iter fi)(hk:rF ts.length gt)(hg:∀C s H ex,(cV X scope ts C s H ex).N.Nodup->DG (cV X scope ts C s H ex) tg gt)(ht:∀C s H ex,Ph (cV X scope ts C s H ex) ifs ft)(he:∀C s H ex,DE (cV X scope ts C s H ex) elt fe)
  (hs:∀x,aio iter X.env x=pure x:=by intro _;rfl):
  DE X (.ListComp elt [⟨tg,iter,ifs,0⟩] scope pos) (bN ts.length caps fi gt ft fe):=by
 intro pins s σ H Q I h;let⟨ρ,O,j,h⟩:=h;rw[eval_ListComp];show Qe ts caps hc hb hcap hi hk hg ht he hs (use:=none) (Qr:=EP X pins σ Q) I j (λv H' s5 C m f acc hv I6 hns fp rv=>⟨m,hns,λh' sb=>⟨v,H',I6.fp fp sb,rv,hv⟩⟩) h
theorem Ks(i:Nat){cpos:Pos}(hN:X.N.Nodup)(ts:List Str)(caps:List Nat)
  (hc:X.calm=true)(hb:Gw X.env.scope scope ts X.N=true)(hcap:(eE scope).map (λx=>lR x X.N)=caps)
  (hi:DI X tg iter fi)(hk:rF ts.length gt)(hg:∀C s H ex,(cV X scope ts C s H ex).N.Nodup->DG (cV X scope ts C s H ex) tg gt)(ht:∀C s H ex,Ph (cV X scope ts C s H ex) ifs ft)(he:∀C s H ex,DE (cV X scope ts C s H ex) elt fe)
  (hix:X.N[i]?=some x:=by rfl)(hx:Loc X.env.scope x:=by first |show ag1 rfl |show agK rfl)(hf:X.fn x=true\/X.env.scope.names.lookup x=some .local:=by first |show .inl rfl |show .inr rfl)
  (hsw:ajV (.ListComp elt [⟨tg,iter,ifs,0⟩] scope cpos) (some (.Name x pos')) pos.line X.env=pure true:=by rfl)
  (hs:∀x,aio iter X.env x=pure x:=by intro _;rfl):
  DS X (.Assign [.Name x pos'] (.ListComp elt [⟨tg,iter,ifs,0⟩] scope cpos) pos) (bF (bN ts.length caps fi gt ft fe) (aH i)):=by
 intro pins s σ H E I h;let⟨H0,O0,O,ρ,j,h⟩:=h;rw[exec_Assign_Name_used _ _ _ _ hsw];show afE (ak0 (afE ?_));show afK _ _ (comprehension (.ListComp elt [⟨tg,iter,ifs,0⟩] scope cpos) scope X.env _ (newList []) false (eval iter X.env) (some (assign (.Name x pos') X.env)) >>=λ_=>pure Unit.unit) _ _ _;unfold bF lM at h;show afE (Qe (Q:=λv H'=>∃d,bN ts.length caps fi gt ft fe ρ= .ok d/\Same H H'/\Rep X.K O H' d v) (Qr:=λ_ s'=>afK (model X.prog X.w) X.A (pure Unit.unit) (λ_ s1=>afK (model X.prog X.w) X.A (pure Flow.next) (SP X pins E) X.xe s1) X.xe s') ts caps hc hb hcap hi hk hg ht he hs I j.inn ?_ ?_)
 .intro v H' s5 C m f acc hq I5 hns fC rel;let⟨d,ed,sm,rd⟩:=hq;rw[ed] at h;have h:yc X H0 O0 O H E (.nx (ρ.set i (some (.val d)))):=h;let⟨o,es,ep,ho,hd,hr⟩:=hns;have Ip:=I5.pinned (fp:=[C]) (λb hb=>by rw[af3.mp hb];show fC) (λb hb=>by rw[af3.mp hb];show⟨o,ho,λv z=>by rw[hd] at z;cases z⟩);show afK (model X.prog X.w) X.A (assign (.Name x pos') X.env acc) _ X.xe s5;show ahf (pg_name hN hix hx hf _ s5 σ H' v acc (λσ' H''=>σ'=σ.set i (some v)/\H''=H') Ip rel ⟨rfl,rfl⟩) (λ_ s6 ⟨σ',H'',I',e1,e2⟩=>?_) λ_ _ z=>z;subst e1 e2;have pn:=(I'.pin (C,o) (af9 _ (af9 _ (mem_pinsAt (af3.mpr rfl) ho)))).1;show⟨m,⟨o,es,ep,pn,hd,hr⟩,λh' sb=>afJ (afJ ⟨_,H'',(I'.unpinned).fp fC sb,h _ H'' O ((j.grow sm).set (z1b hix).1 rd) (Same.gb sm)⟩)⟩
 .cases e1:bN ts.length caps fi gt ft fe ρ with
  |bad=>rw[e1] at h;show h
  |err c=>rw[e1] at h;show h σ H O j
  |ok d=>show λv H' sm r=>⟨d,rfl,sm,r⟩
section
variable{ρ ρ1:aq}{F:List D->R D}{n:Nat}{c:Str}{f:aq->R D}{p:aq->R Bool}{s t:aq->So}{o:So}
end
section
variable{M:Model}
end
section
variable{fs fs':List afG}{H H' H0:Hp}{s s' s0:afH}{a C:afG}{T:Option afG}{h':af8}{t':afG}
end
section
variable{k n m:Nat}{F:List D->R D}{p pos:Pos}
end
section
variable{c:Str}{C:afG}{np cpos pos:Pos}
end
section
variable{t n:Str}{CT:afG}{np hpos pos:Pos}{body suite:List agl}{b₀:agl}{g h:aq->So}{sub:Str->Str->Bool}
end
section
variable{x C:afG}{ox:Obj}{od:Option Obj}
end
section
variable{sub:Str->Str->Bool}
end
section
variable{tg a:afV}{p pos:Pos}
end
theorem Tb.same{H':Hp}(t:Tb ts H)(s:Same H H'):Tb ts H':=λp hp=>let⟨ps,tq,e,q⟩:=t p hp;⟨ps,tq,s _ _ e,q⟩
theorem Tb.fewer{us:List (afG×Str)}(t:Tb ts H)(h:∀p∈us,p∈ts):Tb us H:=λp hp=>t p (h p hp)
theorem Ik{α β:Type}{F:α->β->Prop}:∀{es:List α} {vs:List β} {i:Nat} {e:α},Paired F es vs->es[i]?=some e->∃v,vs[i]?=some v/\F e v
 |_,_,_,_,.nil,h=>by simp at h
 |_,_,0,_,.cons r _,h=>by simp at h;subst h;show⟨_,rfl,r⟩
 | _,_,i+1,e,.cons _ t,h=>by
  let⟨v,h1,h2⟩:=Ik (i:=i) (e:=e) t (by simpa using h);show⟨v,by simpa using h1,h2⟩
theorem Wh{β:Type}{F:α->β->Prop}:∀{es:List α} {vs:List β},Paired F es vs->es.length=vs.length
 :=by
 intro es vs h
 induction h with
 |nil=>rfl
 |cons r t ih=>rw[afN,afN,ih]
theorem Il{β:Type}{F:α->β->Prop}:∀{es fs:List α} {vs ws:List β},Paired F es vs->Paired F fs ws->Paired F (es++fs) (vs++ws)
 :=by
 intro es fs vs ws h q
 induction h with
 |nil=>show q
 |cons r t ih=>show .cons r ih
abbrev adL(K:w0a)(O:afG->Prop)(H:Hp):Ent->V->Prop:=λe v=>rT K O H e v/\e.own=false
theorem rM:∀{ds:List D} {vs:List V},aN K O H ds vs->Paired (adL K O H) (ds.map .val) vs
 |[],vs,r=>by rw[r.nil_inv];show .nil
 | d::ds,vs,r=>by
  let⟨x,t,rfl,h1,h2⟩:=r.cons_inv;show .cons ⟨h1,rfl⟩ (rM h2)
theorem zj{es:List Ent}(hl:X.N.length=es.length+m)(r:Paired (adL X.K O H) es vs)(al:∀a,O a->∃o,H a=some o):
  At X H O O H (es.map some++afU m none) (vs.map some++afU m none):=by
 have hlen:=Wh r;have get:∀(i:Nat) e,(es.map some++afU m none)[i]?=some (some e)->∃v,(vs.map some++afU m none)[i]?=some (some v)/\rT X.K O H e v/\e.own=false:=λi e q=>by
  by_cases hi:i<es.length
  .rw[af4 (by simpa using hi),z2b] at q;cases z:es[i]? with
   |none=>rw[z] at q;cases q
   | some e'=>
    rw[z] at q;cases q;let⟨v,h1,h2,h3⟩:=Ik r z;show⟨v,by rw[af4 (by rw[z1g,<-hlen];show hi),z2b,h1];rfl,h2,h3⟩
  .rw[afP (by simpa using hi),ah2] at q;split at q <;> cases q
 show⟨Same.refl _,.refl,λ_ z=>z,⟨⟨λi e q=>?_,λi k e e' v _ hi _ oi=>?_,λi k rows a rs e v _ hi=>by let⟨_,_,_,h3⟩:=get i _ hi;cases h3⟩,al,?_,?_⟩,λi e a q ho=>?_,λi rows a rs q=>by let⟨_,_,_,h3⟩:=get i _ q;cases h3⟩
 .let⟨v,h1,h2,_⟩:=get i e q;show⟨v,h1,h2⟩
 .let⟨_,_,_,h3⟩:=get i e hi;rw[h3] at oi;cases oi
 .rw[z1d,z1g,ahw,<-hlen];show hl.symm
 .rw[z1d,z1g,ahw];show hl.symm
 .let⟨_,_,_,h3⟩:=get i e q;rw[h3] at ho;cases ho
theorem zm(h:N.length=vs.length+m):L2.start N vs=vs.map some++afU m none:=by
 unfold L2.start;rw[show N.length - vs.length=m by omega]
def spT(ts:List (afG×Str))(K:w0a)(n:Nat)(F:List D->R D):Sp:=λvs H Q E=>Tb ts H/\Fo K n F vs H Q E
def gG(m:Nat)(g:aq->So)(es:List Ent):R D:=match g (es.map some++afU m none) with
 | .rt d=> .ok d
 | .nx _=> .ok .non
 |_=> .bad
theorem Ux{es:List Ent}{Q:VK}(h:match gG m g es with | .ok d=>∀v H',Same H H'->Rep X.K O H' d v->Q v H' |_=>False):
  yc X H O O H {nx:=λ_ H'=>Q .non H',rt:=Q} (g (es.map some++afU m none)):=by
 unfold gG at h;cases e2:g (es.map some++afU m none) with
 |rt d=>rw[e2] at h;show λv H' s' r'=>h v H' s' r'
 |nx ρ'=>rw[e2] at h;show λσ' H' O' j' _=>h .non H' j'.same uE
 |bk _=>rw[e2] at h;show h.elim
 |ct _=>rw[e2] at h;show h.elim
 |ex _ _=>rw[e2] at h;show h.elim
 |bad=>rw[e2] at h;show h.elim
theorem Im(Fn:Fun K x qual st f fd)(S:FnScope N ps (defScope st))(hn:ps.length=n)(hm:N.length=n+m)
  (hb:∀(cdv:afF) (A:afZ) (outer:List PySem.Env) (s:afH) (H:Hp) (E:XK),fd.code=cdv->Room k (A.deeper (aij qual (defScope st) s.heap.objs.size f cdv))->Tb ts H->mY (cxOf CX0 P w K mg base N qual (defScope st) f cdv A outer s H E).nox (defBody st) g):
  FnOk P w K mg base CX0 (k+1) f fd ps (spT ts K n (λds=>gG m g (ds.map .val))):=by
 let⟨oc,od,kV,doc,pm,an,cdv,ct,osl,rfl,lk,hcd⟩:=Fn.ex;show fn_of lk hcd S (λvs H Q E h=>?_) λA outer s H vs Q E hr h=>?_
 .let⟨_,O,ds,r,hl,_⟩:=h;rw[hn,<-hl,r.length]
 .let⟨hT,O,ds,r,hl,al,h⟩:=h;have yu:N.length=vs.length+m:=by rw[hm,<-hl,r.length]
  show⟨_,(hb cdv A outer s H E rfl hr hT).nox,H,O,O,(ds.map Ent.val).map some++afU m none,?_,Ux h⟩;rw[zm yu];show zj (X:=(cxOf CX0 P w K mg base N qual (defScope st) f cdv A outer s H E).nox) (by rw[z1g,r.length];show yu) (rM r) al
def zp(P:afQ)(w:af2)(K:w0a)(mg:Str->Option afF)(base:af8)(k:Nat)(x:Str)(n:Nat)(F:List D->R D)(fd:agJ)(ps:List Str)(ts:List (afG×Str)):Prop:=
 ∃f,FnOk P w K mg base CX0 k f fd ps (spT ts K n F)/\mg x=some (.ref f)/\w0d K (.ref f)=true
section
variable{k m n:Nat}{ps ks:List Str}{F:List D->R D}{p pos:Pos}{fa fk:aq->R (List D)}{ts:List (afG×Str)}
theorem adM(G:zp X.prog X.w X.K X.mg X.base k x n F fd ps ts)(hT:Tb ts X.H₀)(hr:Room m X.A)(hkm:k<=m)(hb:Binds X.K fd ps [])(ha:DA X (e::es) fa)(hg:Gl X x:=by rfl)
  (hdb:(x ==("__debug__" :Str))=false:=by decide)(he:afL (e::es) X.env=(false,eval e X.env)::afL es X.env:=by rfl)(hpl:(agS pos (afL es X.env)).any (·.1)=false:=by rfl):
  DE X (.Call (.Name x p) (e::es) [] pos) (aD (aO F n) fa):=by
 let⟨f,ok,hm,hk⟩:=G;intro pins s σ H Q I h;show pe_call (dvs:=[]) (ok.mono hkm) hr hg hm hk hb .nil pass0 ha hdb he hpl pins s σ H Q I ?_;let⟨ρ,O,j,h⟩:=h;show go j h λds vs H1 e1 s1 r1 j1 h1=>?_;unfold aO at h1;by_cases hl:ds.length=n
 .rw[z9p hl] at h1;rw[agi];show⟨(hT.un I.base).same s1,O,ds,r1,hl,j1.al,?_⟩;cases q:F ds with
  |ok d=>rw[q] at h1;show h1
  |err c=>rw[q] at h1;show h1
  |bad=>rw[q] at h1;show h1
 .rw[z9n hl] at h1;show h1.elim
theorem oA{sa sb sc}(S:Sel sa sb sc)(G:zp X.prog X.w X.K X.mg X.base k x n F fd ps ts)(hT:Tb ts X.H₀)(hr:Room m X.A)(hkm:k<=m)(hb:KB X.K fd ps ks sa)
  (ha:DA X (e::es) fa)(hkw:DK X kws fk)(hg:Gl X x:=by rfl)(hall:(aiw pos (ahI kws X.env)).all (·.1.isSome)=true:=by rfl)(hks:(aiw pos (ahI kws X.env)).filterMap (·.1)=ks:=by rfl)
  (hdb:(x ==("__debug__" :Str))=false:=by decide)(he:afL (e::es) X.env=(false,eval e X.env)::afL es X.env:=by rfl)
  (hpl:((agS pos (afL (e::es) X.env)).any (·.1) || (aiw pos (ahI kws X.env)).any (·.1.isNone))=false:=by rfl):
  DE X (.Call (.Name x p) (e::es) kws pos) (jE F n ks.length sc fa fk):=by
 let⟨f,ok,hm,hk⟩:=G;have G:=ok.mono hkm;intro pins s σ H Q I h;show ahC (ld_glob I hg hm ?_ hdb);let⟨ρ,O,j,h⟩:=h;have key:tG X (Li X) fa σ H λvs H1=>tG X (Li X) fk σ H1 λzs H2=>zs.length=ks.length/\spT ts X.K n F (vs++pickK .non sb zs) H2 Q E0:=by
  show go j h λds vs H1 e1 s1 r1 j1 h1=>?_;show go j1 h1 λzd zs H2 e2 s2 r2 j2 h2=>?_;by_cases hz:zd.length=ks.length
  .rw[z9p hz] at h2;unfold aO at h2;by_cases hl:(ds++pickK .non sc zd).length=n
   .rw[z9p hl] at h2;show⟨by rw[<-r2.length];show hz,((hT.un I.base).same s1).same s2,O,_,(r1.same s2).append (S.reps r2),hl,j2.al,?_⟩;cases q:F (ds++pickK .non sc zd) with
    |ok d=>rw[q] at h2;show h2
    |err c=>rw[q] at h2;show h2
    |bad=>rw[q] at h2;show h2
   .rw[z9n hl] at h2;show h2.elim
  .rw[z9n hz] at h2;show h2.elim
 show w0r (h₀:=X.base) I.ok.mod.kin hk hall (thn (ha pos pins s σ H _ I key) λus s1 ⟨vs,H1,I1,r,q⟩=>?_) hpl he;show thn (hkw pos pins s1 σ H1 _ I1 q) λws s2 ⟨zs,H2,I2,rz,q2⟩=>⟨I2.kIn,?_⟩;rw[hks];let⟨hz,q2⟩:=q2;have r2:=r.append (S.vals rz);have hl:(us++pickK .none sa ws).length=ps.length:=by rw[<-r2.length];show G.len _ _ _ _ q2
 show aks (aiF (G.run X.A X.stack s2 H2 ⟨us,ks.zip ws⟩ _ _ Q E0 hr I2.env0 (hb s2 us ws I2.kIn (by rw[z1d,Ly] at hl;show hl) (by rw[<-rz.length];show hz)) r2 q2) λr s' hq=>?_);cases r with
 |error e=>show pass0 pins σ H2 s2 e s' I2 hq
 | ok fl=>
  cases fl with
  |ret u=>show I2.after hq
  |next=>show agH hq
  |brk=>show agH hq
  |cont=>show agH hq
end
theorem Fp{a b:Int}{s t:Tok}{c:afF}(l:List afF)(h:ajU l):ajU (l++[.int a s,.int b t,c]):=by
 fun_induction ajU l with
 |case1=>simp[ajU]
 |case2 x1 x2 x3 x4 x5 rest ih=>simp only[aiz,ajU];show ih h
 |case3=>show h.elim
theorem LR{a b:Int}{s t:Tok}{c cv:afF}(l:List afF)(h:ajU l)(e:ajC pos (l++[.int a s,.int b t,c])=some cv):ajC pos l=some cv\/cv=c:=by
 fun_induction ajU l with
 | case1=>
  simp only[ajh,ajC] at e;split at e
  .cases e;show .inr rfl
  .cases e
 | case2 x1 x2 x3 x4 x5 rest ih=>
  simp only[aiz,ajC] at e |-;split at e
  .rename_i z;rw[z9p z];show .inl e
  .rename_i z;rw[z9n z];show ih h e
 |case3=>show h.elim
inductive mC (H:Hp) (a:afG) (name qual:Str) (params:ah6) (body:List agl) (scope:ahz) (clos:List (Str×afG)):Prop
 |mk (fo:Obj) (doc pm:afF) (c':afG) (ctv:afF) (oc:Obj) (vs:Array afF) (t:Tok) (h1:H a=some (.frz fo (.own a))) (h2:fo.data= .func (w0s name qual params body scope clos .none .none doc pm none (.ref c') ctv)) (h3:H c'=some (.frz oc (.own c'))) (h4:oc.data= .fields vs) (h5:vs[1]?=some (.str qual t)):mC H a name qual params body scope clos
theorem mC.fz{H':Hp}(h:mC H a name qual params body scope clos)(s:∀b o u,H b=some (.frz o u)->H' b=some (.frz o u)):mC H' a name qual params body scope clos:=
 by
 let⟨fo,doc,pm,c',ctv,oc,vs,t,h1,h2,h3,h4,h5⟩:=h;show⟨fo,doc,pm,c',ctv,oc,vs,t,s _ _ _ h1,h2,s _ _ _ h3,h4,h5⟩
structure iC(base:af8)(mg:Str->Option afF)(c P:afG):Prop where
 code:w0k base c P
 blt:∃bm ob,mg "__builtins__" =some (.ref bm)/\bm≠ajE/\base.get? bm=some ob/\ob.cls= .type "module"/\ob.dict=some ajE/\ob.data= .plain
theorem aci{M:Model}{line:Nat}{c P:afG}{ps:Array afF}{tq:Tok}
  (I:Inv X pins σ H s)(hB:iC X.base X.mg c P)(hc:X.env.code= .ref c)(e0:H P=some (.tbl ps))(q0:ps[0]?=some (.str qual tq))(hcl:ajF scope X.env=pure clos):
  afK M A (makeFunction name qual params (.stmts body) scope X.env [] [] [] pos line) (λv s'=>∃a H1,v= .ref a/\Inv X pins σ H1 s'/\Same H H1/\mC H1 a name qual params body scope clos) E s:=by
 let⟨qs,hP,tr,al⟩:=I.hok P _ e0;have hgs:s.heap.Ns af0 X.mg:=I.mod.glob.keeps I.bk;have C:w0k s.heap c P:=hB.code.keeps I.bk;let⟨bm,ob,b1,b2,b3,b4,b5,b6⟩:=hB.blt;have hgP:af0≠P:=λq=>by
  let⟨o,es,ep,e,hd,_⟩:=hgs;rw[q,hP] at e;cases e;cases hd
 have hbP:bm≠P:=λq=>by
  have e:=I.bk _ _ b3;rw[q,hP] at e;cases e;cases b4
 have hbG:bm≠af0:=λq=>by
  let⟨o,es,ep,e,hd,_⟩:=I.mod.glob;rw[q,e] at b3;cases b3;rw[hd] at b6;cases b6
 have hbb:s.heap.BuiltinsAt X.mg P:=⟨bm,ob,b1,b2,hbG,hbP,I.bk _ _ b3,b4,b5,b6⟩;cases hf:ajC pos qs.toList with
 | some cv=>
  let⟨c',oc,vs,q,t,tq',rfl,h1,h2,h3,h4⟩:=al pos cv hf;rw[q0] at h4;cases h4;show PySem.W.makeFunction_hit (mg:=X.mg) hcl I.ok.glob hgs hc C hP tr hf hbb λctv doc h' tk hk hsz=>?_;have I1:Inv X pins σ H {s with heap:=h',toks:=tk}:=I.kept (t':=tk) hk;have hn:H h'.objs.size=none:=I1.hok.fresh (z0g _);show⟨h'.objs.size,upd H h'.objs.size (.frz _ (.own h'.objs.size)),rfl,I1.laid (t':=tk) (λb u z=>z1a _ z) (z0g _) ⟨z1f _ rfl,_,z1f _ rfl⟩,Same.upd hn,?_⟩;show⟨_,doc,_,c',ctv,oc,vs,t,upd_same,rfl,by rw[upd_ne (ne_of_none h1 hn)];show h1,h2,h3⟩
 | none =>
  show PySem.W.makeFunction_K (mg:=X.mg) hcl I.ok.glob hgs hc C hP tr hf hgP hbb λc' ctv doc h' tk hx hge hlt hrec htb=>?_;let⟨c2,oc,vs,t,e2,hoc,hd,hv⟩:=hrec;cases e2;have hn:H c'=none:=I.hok.fresh hge;have old:∀b u,H b=some u->upd H c' (.frz oc (.own c')) b=some u:=λb u z=>by rw[upd_ne (ne_of_none z hn)];show z
  have I1 : Inv X pins σ (upd H c' (.frz oc (.own c'))) {s with heap:=h',toks:=tk}:=by
   show I.call' (ch:=[]) rfl ⟨λb o q n _ _=>hx b o (λz=>by rw[z,e0] at n;cases n) q,λb o q n _ _=>⟨o.slots,hx b o (λz=>by rw[z,e0] at n;cases n) q⟩,λb o q n _=>?_,λb o q _=>?_,λb xs q=>old _ _ q,λb o u q=>old _ _ q,λb p q=>⟨#[],by rw[old _ _ q];simp⟩⟩ (λb u q=>?_) I.bare (λb z=>absurd z ())
   .rw[upd_ne (agm (z0d (z2c q) hge))];show n
   .by_cases hb:b=P
    .rw[hb];show⟨_,htb⟩
    .show⟨o,hx b o hb q⟩
   .by_cases hb:b=c'
    .subst hb;rw[upd_same] at q;cases q;show⟨hoc,oc,hoc⟩
    .rw[upd_ne hb] at q;by_cases hp:b=P
     .subst hp;rw[e0] at q;cases q;show⟨_,htb,?_,λp cv z=>?_⟩
      .have:=Fp (a:=pos.line) (s:=0) (b:=pos.col) (t:=0) (c:=afS c') qs.toList tr;simpa[agx] using this
      .have z':ajC p (qs.toList++[.int pos.line 0,.int pos.col 0,.ref c'])=some cv:=by simpa[agx] using z
       rcases LR _ tr z' with z1 |z1
       .let⟨c3,o3,v3,q3,t3,tq3,y1,y2,y3⟩:=al p cv z1;show⟨c3,o3,v3,q3,t3,tq3,y1,old _ _ y2,y3⟩
       .show⟨c',oc,vs,qual,t,tq,z1,upd_same,hd,hv,q0⟩
     .show (I.hok b u q).stay (λd v hd z=>hx d v (λy=>hd.elim (λx=>hp (x.symm.trans y)) λx=>by rw[y,e0] at x;cases x) z) (λd z=>old _ _ z) (λd xs z=>old _ _ z) λd o u _ z=>old _ _ z
  have hn2:upd H c' (.frz oc (.own c')) h'.objs.size=none:=I1.hok.fresh (z0g _);show⟨h'.objs.size,upd (upd H c' (.frz oc (.own c'))) h'.objs.size (.frz _ (.own h'.objs.size)),rfl,I1.laid (t':=tk) (λb u z=>z1a _ z) (z0g _) ⟨z1f _ rfl,_,z1f _ rfl⟩,(Same.upd hn).trans (Same.upd hn2),?_⟩;show⟨_,doc,_,c',ctv,oc,vs,t,upd_same,rfl,by rw[upd_ne (agm hlt),upd_same],hd,hv⟩
def afn(i:Nat)(name qual:Str)(params:ah6)(body:List agl)(scope:ahz)(clos:List (Str×afG)):TS:=λD σ H=>∀a H1,Same H H1->mC H1 a name qual params body scope clos->D.nx (σ.set i (some (.ref a))) H1
theorem adN(i:Nat){c P:afG}(hN:X.N.Nodup)(hB:iC X.base X.mg c P)(hT:Tb [(P,qual)] X.H₀)(hc:X.env.code= .ref c)(hcl:ajF scope X.env=pure clos)
  (hi:X.N[i]?=some name:=by rfl)(hl:Loc X.env.scope name:=by first |show ag1 rfl |show agK rfl)(hq:qualnameIn X.env name name=qual:=by rfl)(hd0:params.defaults=[]:=by rfl)(hk0:params.kw_defaults=[]:=by rfl)(ha:annTrees params none X.env=[]:=by rfl)
  (hf:X.fn name=true\/X.env.scope.names.lookup name=some .local:=by first |show .inl rfl |show .inr rfl):PS X (.FunctionDef name params body [] none [] scope none name pos) (afn i name qual params body scope clos):=by
 intro pins s σ H D I h;let⟨ps,tq,e0,q0⟩:=(hT.un I.base) (P,qual) ();show PySem.W.nestDef_K hd0 hk0 ha ?_;rw[hq];show ahf (aci I hB hc e0 q0 hcl) (λv s1 ⟨a,H1,ev,I1,sm,fh⟩=>?_) λ_ _ z=>z;subst ev;show store_ok I1 hN hi hl (v:= .ref a) rfl (λs2 I2=>⟨_,H1,I2,h a H1 sm fh⟩) hf
def pq(P:afQ)(w:af2)(K:w0a)(mg:Str->Option afF)(base:af8)(k:Nat)(G:List D->R D)(n:Nat)(a:afG)(H:Hp):Prop:=
 ∀(A:afZ) (outer:List PySem.Env) (s:afH) (H1:Hp) (us:List afF) (vs:List V) (Q:VK) (E:XK),Room k A->Env0 P w K mg base A outer s H1->(∀b o u,H b=some (.frz o u)->H1 b=some (.frz o u))->Vals vs us->Fo K n G vs H1 Q E->
  ajL (model P w) A (.call (.ref a) ⟨us,[]⟩) (CR CX0 outer P w H1 s Q E) s
def Em(i a:Nat)(G:List D->R D)(n:Nat)(fa:aq->R (List D)):aq->R D:=λρ=>match ρ[i]? with
 |some (some (.obj (.fn b)))=>if b=a then (fa ρ).bind (aO G n) else .bad
 |_=> .bad
section
variable{k m n:Nat}{G:List D->R D}{p pos:Pos}
theorem Qf(i:Nat)(hc:pq X.prog X.w X.K X.mg X.base k G n a X.H₀)(hr:Room m X.A)(hkm:k<=m)(ha:DA X (e::es) fa)(hN:X.N[i]?=some x:=by rfl)(hv:Vis X.env.scope x:=by first |show ag1 rfl |show agK (ag1 rfl) |show agK (agK rfl))
  (hd:(x ==("__debug__" :Str))=false:=by decide)(hcd:(x ==("__classdict__" :Str))=false:=by decide)(he:afL (e::es) X.env=(false,eval e X.env)::afL es X.env:=by rfl)(hpl:(agS pos (afL es X.env)).any (·.1)=false:=by rfl):
  DE X (.Call (.Name x p) (e::es) [] pos) (Em i a G n fa):=by
 intro pins s σ H Q I h;let⟨ρ,O,j,h⟩:=h;unfold Em at h;split at h
 .rename_i b q;by_cases hb:b=a
  .subst hb;rw[z9p rfl] at h;let⟨v,hv1,rfl,o,fd,ho,hod⟩:=j.env.get i _ q;have at':∀{s':afH} {H':Hp},Inv X pins σ H' s'->Same H H'->PySem.W.FnAt b s'.heap:=λ{s' H'} I' sm=>by
    let⟨ho',_⟩:=I'.hok b _ (sm _ _ ho);let⟨v1,v2,v3,v4⟩:=o;have hod:v3= .func fd:=hod;subst hod;show⟨v1,v2,fd,v4,ho'⟩
   show ahC (thn (pe_var hN hv hd hcd pins s σ H (λv H1=>v= .ref b/\H1=H) I ⟨_,hv1,rfl,rfl⟩) λu s1 bQ=>?_);let⟨v',H1,I1,r1,e1,e2⟩:=bQ;subst e1 e2;cases (show u=afS b from r1);have key:tG X (Li X) fa σ H1 (λvs H2=>Same H1 H2/\Fo X.K n G vs H2 Q E0):=by
    show go j h λds vs H2 e1 s2 r2 j2 h2=>⟨s2,?_⟩;unfold aO at h2;by_cases hl:ds.length=n
    .rw[z9p hl] at h2;show⟨O,ds,r2,hl,j2.al,?_⟩;cases q:G ds with
     |ok d=>rw[q] at h2;show h2
     |err c=>rw[q] at h2;show h2
     |bad=>rw[q] at h2;show h2
    .rw[z9n hl] at h2;show h2.elim
   show PySem.W.callWith_F (at' I1 (Same.refl _)) (thn (ha pos pins s1 σ H1 _ I1 key) λus s2 ⟨vs,H2,I2,r,sm,q2⟩=>⟨at' I2 sm,?_⟩) he hpl;show aks (aiF (hc X.A X.stack s2 H2 us vs Q E0 (hr.mono hkm) I2.env0 I2.base.frzs r q2) λr s' hq=>?_);cases r with
   |error e=>show pass0 pins σ H2 s2 e s' I2 hq
   | ok fl=>
    cases fl with
    |ret u=>show I2.after hq
    |next=>show agH hq
    |brk=>show agH hq
    |cont=>show agH hq
  .rw[z9n hb] at h;show h.elim
 .show h.elim
end
inductive SpS (P:afQ) (w:af2) (mg:Str->Option afF) (base:af8) (k:Nat) (K:w0a) (n q:Nat) (F:afG->(List D->R D)->List D->R D) (vs:List V) (H:Hp) (Q:VK):Prop
 | mk (O:afG->Prop) (ds:List D) (xs:List V) (a:afG) (G:List D->R D) (e:vs=xs++[.ref a]) (r:aN K O H ds xs) (hl:ds.length=n) (al:∀b,O b->∃o,H b=some o) (ro:uN K H (.fn a) (.ref a)) (hc:pq P w K mg base k G q a H) (h:match F a G ds with
  | .ok d=>∀v H',Same H H'->Rep K O H' d v->Q v H'
  |_=>False):SpS P w mg base k K n q F vs H Q
def spS(P:afQ)(w:af2)(mg:Str->Option afF)(base:af8)(k:Nat)(K:w0a)(n q:Nat)(F:afG->(List D->R D)->List D->R D):Sp:=λvs H Q _=>SpS P w mg base k K n q F vs H Q
theorem fnS{kG m q:Nat}{g:afG->(List D->R D)->aq->So}(Fn:Fun K x qual st f fd)(S:FnScope N ps (defScope st))(hn:ps.length=n+1)(hm:N.length=n+1+m)
  (hb:∀(cdv:afF) (A:afZ) (outer:List PySem.Env) (s:afH) (H:Hp) (E:XK) (a:afG) (G:List D->R D),Room k (A.deeper (aij qual (defScope st) s.heap.objs.size f cdv))->pq P w K mg base kG G q a H->mY (cxOf CX0 P w K mg base N qual (defScope st) f cdv A outer s H E).nox (defBody st) (g a G)):
  FnOk P w K mg base CX0 (k+1) f fd ps (spS P w mg base kG K n q (λa G ds=>gG m (g a G) (ds.map .val++[.obj (.fn a)]))):=by
 let⟨oc,od,kV,doc,pm,an,cdv,ct,osl,rfl,lk,hcd⟩:=Fn.ex;show fn_of lk hcd S (λvs H Q E h=>?_) λA outer s H vs Q E hr h=>?_
 .let⟨O,ds,xs,a,G,rfl,r,hl,_⟩:=h;rw[hn,z1d,<-r.length,hl];rfl
 .let⟨O,ds,xs,a,G,rfl,r,hl,al,ro,hc,h⟩:=h;have yu:N.length=(xs++[V.ref a]).length+m:=by rw[hm,z1d,<-r.length,hl];rfl
  show⟨_,(hb cdv A outer s H E a G hr hc).nox,H,O,O,(ds.map Ent.val++[Ent.obj (.fn a)]).map some++afU m none,?_,Ux h⟩;rw[zm yu];show zj (X:=(cxOf CX0 P w K mg base N qual (defScope st) f cdv A outer s H E).nox) (by rw[z1d,z1g,r.length];rw[z1d] at yu;show yu) (Il (rM r) (.cons ⟨ro,rfl⟩ .nil)) al
def del(H:Hp)(c:afG):Hp:=λb=>if b=c then none else H b
theorem kj{c:afG}:del H c c=none:=z9p rfl
theorem dM{b c:afG}(h:b≠c):del H c b=H b:=z9n h
theorem aaM{b c:afG}{u:HO}(h:del H c b=some u):b≠c/\H b=some u:=by
 by_cases e:b=c
 .rw[e,kj] at h;cases h
 .rw[dM e] at h;show⟨e,h⟩
section
variable{h:af8}{c:afG}{co:Obj}{u:Option afF}
theorem Uy(x:HOk P w H h)(hc:H c=some (.frz co (.own c)))(hd:co.data= .cell u):HOk P w (del H c) h:=λb v q=>by
 let⟨nb,q⟩:=aaM q;show (x b v q).stay (λ_ _ _ z=>z) (λd z=>?_) (λd xs z=>?_) λd o v' hv z=>?_
 .rw[dM (λe=>by rw[e,hc] at z;cases z)];show z
 .rw[dM (λe=>by rw[e,hc] at z;cases z)];show z
 .rw[dM (λe=>by rw[e,hc] at z;cases z;let⟨vs,y⟩:=hv;rw[hd] at y;cases y)];show z
theorem Uz(x:HOk P w H h)(hn:H c=none)(ho:h.get? c=some co):HOk P w (upd H c (.frz co (.own c))) h:=λb v q=>by
 have old:∀b u,H b=some u->upd H c (.frz co (.own c)) b=some u:=λb u z=>by rw[upd_ne (ne_of_none z hn)];show z
 by_cases hb:b=c
 .subst hb;rw[upd_same] at q;cases q;show⟨ho,co,ho⟩
 .rw[upd_ne hb] at q;show (x b v q).stay (λ_ _ _ z=>z) (λd z=>old _ _ z) (λd xs z=>old _ _ z) λd o v' _ z=>old _ _ z
theorem UG(hc:H c=some (.frz co (.own c))):Ext O H (del H c):=by
 show⟨λb xs z=>?_,λb xs _ z=>?_⟩
 .have nb:b≠c:=λe=>by rcases z with z |⟨o,z⟩ <;> rw[e,hc] at z <;> cases z
  rcases z with z |⟨o,z⟩
  .show .inl (by rw[dM nb];show z)
  .show .inr ⟨o,by rw[dM nb];show z⟩
 .have nb:b≠c:=λe=>by rcases z with z |⟨o,z⟩ <;> rw[e,hc] at z <;> cases z
  rcases z with z |⟨o,z⟩
  .show .inl (by rw[dM nb];show z)
  .show .inr ⟨o,by rw[dM nb];show z⟩
end
section
variable{M:Model}
theorem Io{env env':PySem.Env}(f f':Str×afF->PUnit->Sem (ForInStep PUnit))(hf:∀n v u,f (n,v) u=(do aii env n v;pure (.yield PUnit.unit)))(hf':∀n v u,f' (n,v) u=(do aii env' n v;pure (.yield PUnit.unit))):
  ∀binds:List (Str×afF),(∀x∈binds,∀v,aii env x.1 v=aii env' x.1 v)->(forIn binds (PUnit.unit:PUnit) f:Sem PUnit)=forIn binds (PUnit.unit:PUnit) f'
 |[],_=>rfl
 | (n,v)::r,h=>by
  rw[ajf,ajf,hf,hf',h (n,v) afT v];simp only[bind_assoc,pure_bind];rw[Io f f' hf hf' r λx hx=>h x (z2f _ hx)]
theorem UJ{n:Str}{v:afF}(hk:env.scope.kind= .function)(h:env.scope.names.lookup n=some .local):aii env n v=nsSet env.locals n v:=by
 have h:env.kindOf n=some .local:=h;simp[aii,h,hk]
theorem UL{n:Str}{v:afF}{d:afG}(hk:env.scope.kind= .function)(h:env.scope.names.lookup n=some .cell)(hd:env.cells.lookup n=some d):aii env n v=cellSet d (some v):=by
 have h:env.kindOf n=some .cell:=h;simp[aii,h,hk,cellOf,hd]
theorem Tn{globals:afG}{binds:List (Str×afF)}{func:Option afG}{code:afF}{builtins:afG}{Q:PySem.Env->afH->Prop}
  (hk:scope.kind= .function)
  (hkind:∀x∈binds,scope.names.lookup x.1=some .local\/(scope.names.lookup x.1=some .cell/\((agn (s.heap.objs.size+1) scope.names []).lookup x.1).isSome=true))
  (hQ:∀s',InCallC s s.heap.objs.size (bindL (λq=>scope.names.lookup q) binds λ_=>none) (agn (s.heap.objs.size+1) scope.names []) (bindC (λq=>scope.names.lookup q) binds λ_=>none) s'->
   Q (newEnv scope s.heap.objs.size globals (agn (s.heap.objs.size+1) scope.names []++clos) qual func code none builtins) s'):
  afK M A (akG scope globals clos binds qual func code none builtins) Q E s:=by
 simp only[akG,Option.isSome_none,af7,if_false];show afE (wpAny_alloc ?_);show afE (wpAny_layCells _ (λname kind cells=>by cases hkc:kind ==ajc <;> simp[hkc]) _ _ _ _ ?_);have ok:=cellsFrom_ok scope.names (s.heap.push {cls:= .type "frame",data:= .dict #[]}) (s.heap.objs.size+1) [] ⟨λ_ _ hm=>(nomatch hm),alc⟩ (by rw[agM];show z0g _);rw[agM] at ok;rw[show ({s with heap:=s.heap.push {cls:= .type "frame",data:= .dict #[]}}:afH).heap.objs.size=s.heap.objs.size+1 from agM ..];rw[d8];have eq:=Io (env:=newEnv scope s.heap.objs.size globals (agn (s.heap.objs.size+1) scope.names []++clos) qual func code none builtins) (env':=newEnv scope s.heap.objs.size globals (agn (s.heap.objs.size+1) scope.names []) qual func code none builtins)
  (λx _=>do aii (newEnv scope s.heap.objs.size globals (agn (s.heap.objs.size+1) scope.names []++clos) qual func code none builtins) x.1 x.2;pure (.yield PUnit.unit))
  (λx _=>do aii (newEnv scope s.heap.objs.size globals (agn (s.heap.objs.size+1) scope.names []) qual func code none builtins) x.1 x.2;pure (.yield PUnit.unit)) (λ_ _ _=>rfl) (λ_ _ _=>rfl) binds (λx hx v=>by
   rcases hkind x hx with z |⟨z,z2⟩
   .rw[UJ hk z,UJ hk z];rfl
   .let⟨d,hd⟩:=ai0.mp z2;have e1:(agn (s.heap.objs.size+1) scope.names []++clos).lookup x.1=some d:=by rw[ahi,hd];rfl
    rw[UL hk z e1,UL hk z hd])
 show afE ?_;show afK M A (forIn binds (PUnit.unit:PUnit) (λx _=>do aii (newEnv scope s.heap.objs.size globals (agn (s.heap.objs.size+1) scope.names []++clos) qual func code none builtins) x.1 x.2;pure (.yield PUnit.unit))) _ E _;rw[eq];show wpAny_bindParams (s₀:=s) (env:=newEnv scope s.heap.objs.size globals (agn (s.heap.objs.size+1) scope.names []) qual func code none builtins)
  _ (λ_ _ _=>rfl) hk binds (λ_=>none) (λ_=>none) _ _
  ⟨⟨⟨_,_,rfl⟩,(Heap.Ns.new s.heap (.type "frame")).keeps (ajQ _ _),λb o e=>ajQ _ _ b o (z1a _ e),z0g _⟩,
   λn c hc=>(ok.empty n c (mem_of_lookup hc)).1,ok.apart,λn c hm=>(ok.empty n c hm).2⟩
  hkind λs' x=>afJ (hQ s' x)
end
structure Ku(N P:List Str)(y:Str)(sc:ahz):Prop where
 kind:sc.kind= .function
 co:sc.isCoroutine=false
 gen:sc.isGenerator=false
 nd:N.Nodup
 pre:N.take (P.length+1)=P++[y]
 par:∀x∈P,sc.names.lookup x=some .local\/sc.names.lookup x=some .cell
 Lq:sc.names.lookup y=some .free
 only:∀z∈sc.names,z.2= .free->z.1=y
 cel:∀z∈sc.names,z.2= .cell->sc.names.lookup z.1=some .cell
section
variable(P:afQ)(w:af2)(K:w0a)(mg:Str->Option afF)(base:af8)(N:List Str)(qual:Str)(scope:ahz)(f:afG)(cd:afF)(A:afZ)(outer:List PySem.Env)(s:afH)(H:Hp)(y:Str)(c:afG)
abbrev zq:PySem.Env:=PySem.W.envX qual scope s.heap.objs.size f cd (agn (s.heap.objs.size+1) scope.names []++[(y,c)])
def zu:Cx where
 prog:=P
 w:=w
 K:=K
 mg:=mg
 base:=base
 A:=A.deeper (zq qual scope f cd s y c)
 N:=N
 s₀:=s
 H₀:=H
 env:=zq qual scope f cd s y c
 outer:=outer
 stack:=zq qual scope f cd s y c::outer
 ex:=[]
 calm:=true
 fn:=λx=>decide (x≠y)
 pn:=[]
 xe:=λ_ _=>False
end
theorem adO{cd:afF}{outer:List PySem.Env}{s s1:afH}{y:Str}{c:afG}{vy:V}{uy:afF}
  (S:Ku N ps y scope)(hd:A.handled=none)(e0:Env0 P w K mg base A outer s H)(hl:vs.length=ps.length)(r:Vals vs us)(hc:s.heap.IsCell c (some uy))(hy:RelV vy uy)(hHc:H c=none)
  (x:InCallC s s.heap.objs.size (bindL (λq=>scope.names.lookup q) (ps.zip us) λ_=>none) (agn (s.heap.objs.size+1) scope.names []) (bindC (λq=>scope.names.lookup q) (ps.zip us) λ_=>none) s1):
  Inv (zu P w K mg base N qual scope f cd A outer s H y c) [] (start N (vs++[vy])) H s1:=by
 have hpl:ps.length+1<=N.length:=by have:=congrArg akS S.pre;rw[agg,z1d,ajw] at this;omega
 let⟨h1,tk,rfl,hk⟩:=x.done;have noA:∀b:afG,b∉(zu P w K mg base N qual scope f cd A outer s H y c).ex:=λb z=>absurd (show b∈([]:List afG) from z) ();have clt:c<s.heap.objs.size:=hc.lt;have cells:∀z d,(zq qual scope f cd s y c).cells.lookup z=some d->((agn (s.heap.objs.size+1) scope.names []).lookup z=some d/\scope.names.lookup z=some .cell)\/(z=y/\d=c):=λz d q=>by
  have q:(agn (s.heap.objs.size+1) scope.names []++[(y,c)]).lookup z=some d:=q;rw[ahi] at q;cases e:(agn (s.heap.objs.size+1) scope.names []).lookup z with
  | some d'=>
   rw[e] at q;have q:d'=d:=by simpa using q
   subst q;let⟨m1,_⟩:=lq _ _ (PySem.mem_of_lookup e);show .inl ⟨rfl,S.cel _ m1 rfl⟩
  | none=>
   rw[e] at q;have q:List.lookup z [(y,c)]=some d:=by simpa using q
   rw[aix] at q;cases hz:z ==y with
   |true=>rw[hz] at q;cases q;show .inr ⟨by simpa using hz,rfl⟩
   |false=>rw[hz] at q;cases q
 have kept:(zq qual scope f cd s y c).cells.lookup y=some c:=by
  show (agn (s.heap.objs.size+1) scope.names []++[(y,c)]).lookup y=some c;rw[ahi];cases e:(agn (s.heap.objs.size+1) scope.names []).lookup y with
  | some d=>
   let⟨m1,_⟩:=lq _ _ (PySem.mem_of_lookup e);have:=S.cel _ m1 rfl;rw[S.Lq] at this;cases this
  |none=>simp[aix]
 show⟨⟨e0.mod,S.kind,rfl,rfl,z0g _,λz z' d h1 h2=>?_,λz hz=>?_,λz d hf h=>?_,λ_=>hd,Around.frames_deeper e0.frames,.inr ⟨rfl,rfl⟩,λb z=>absurd z (noA b),e0.bs,e0.bsz,λb _ _=>noA b,λb z=>absurd z (noA b),e0.funs,e0.frf⟩,
  rfl,e0.bare,Un.kept hk,⟨_,x.toInCall.ns,λi z v h1 h2 h3=>?_⟩,λz d h=>?_,e0.hok.fresh (z0g _),λz d h=>?_,λp hp=>absurd (show p∈([]:List (afG×Obj)) from hp) (),e0.hok.kept hk,?_⟩
 .rcases cells z d h1 with⟨q1,_⟩ |⟨q1,q2⟩ <;> rcases cells z' d h2 with⟨q3,_⟩ |⟨q3,q4⟩
  .show name_of_addr x.apart (PySem.mem_of_lookup q1) (PySem.mem_of_lookup q3)
  .have:=x.above z d (PySem.mem_of_lookup q1);rw[q4] at this;show absurd (alx clt this) (agX _)
  .have:=x.above z' d (PySem.mem_of_lookup q3);rw[q2] at this;show absurd (alx clt this) (agX _)
  .rw[q1,q3]
 .have hz:scope.names.lookup z=some .cell\/scope.names.lookup z=some .free:=hz;rcases hz with hz |hz
  .let⟨d,e⟩:=cell_has (n:=s.heap.objs.size+1) hz;show⟨d,by show (agn (s.heap.objs.size+1) scope.names []++[(y,c)]).lookup z=some d;rw[ahi,e];rfl⟩
  .have e:=S.only _ (PySem.mem_of_lookup hz) rfl;have e:z=y:=e;rw[e];show⟨c,kept⟩
 .have hf:z≠y:=z9o hf;rcases cells z d h with⟨q1,_⟩ |⟨q1,_⟩
  .show z0e (x.above z d (PySem.mem_of_lookup q1))
  .show absurd q1 hf
 .have hi:i<vs.length+1:=by
   unfold L2.start at h2;by_cases hi:i<vs.length+1
   .show hi
   .rw[afP (by simpa using hi)] at h2;rw[ah2] at h2;split at h2 <;> cases h2
  have ha:(vs++[vy])[i]?=some v:=by
   unfold L2.start at h2;rw[af4 (by simpa using hi),z2b] at h2;cases e:(vs++[vy])[i]? with
   |none=>rw[e] at h2;cases h2
   |some a=>rw[e] at h2;cases h2;rfl
  have hp:(ps++[y])[i]?=some z:=by
   rw[<-S.pre,alo ()];show h1
  by_cases hiv:i<vs.length
  .rw[af4 hiv] at ha;rw[af4 ()] at hp;let⟨u,hu,rv⟩:=r.get ha;have ndP:ps.Nodup:=by
    have q:(ps++[y]).Nodup:=by rw[<-S.pre];show S.nd.sublist (ajp _ _)
    show (ale.mp q).1
   show⟨u,rv,?_⟩;rcases S.par z (ago hp) with k |k
   .show .inl ⟨k,bindL_get ndP hp hu k⟩
   .let⟨d,e⟩:=cell_has (n:=s.heap.objs.size+1) k;show .inr ⟨.inl k,d,?_,?_⟩
    .show (agn (s.heap.objs.size+1) scope.names []++[(y,c)]).lookup z=some d;rw[ahi,e];rfl
    .have q:=x.cell z d e;rw[bindC_get ndP hp hu (by rw[k];decide)] at q;show q
  .have ei:i=vs.length:=()
   subst ei;rw[afP (z0g _)] at ha;rw[hl,afP (z0g _)] at hp;have ha:vy=v:=by simpa using ha
   have hp:y=z:=by simpa using hp
   subst ha hp;show⟨uy,hy,.inr ⟨.inr S.Lq,c,kept,hc.keeps hk⟩⟩
 .rcases cells z d h with⟨q1,_⟩ |⟨_,q2⟩
  .show⟨_,x.cell z d q1⟩
  .rw[q2];show⟨_,hc.keeps hk⟩
 .rcases cells z d h with⟨q1,_⟩ |⟨_,q2⟩
  .show e0.hok.fresh (z0e (x.above z d (PySem.mem_of_lookup q1)))
  .rw[q2];show hHc
 .unfold L2.start;show _=N.length;rw[z1d,z1g,ahw,z1d,ajw];omega
theorem adP{y:Str}{my:Int}{a c:afG}{co:Obj}{uy:afF}
  (S:Ku N ps y scope)(hn:ps.length=n)(hm:N.length=n+1+m)
  (hbind:∀(doc pm:afF) (cl:List (Str×afG)) (cdv ct:afF) (us:List afF),us.length=ps.length->aiO (w0s name qual params body scope cl .none .none doc pm none cdv ct) ⟨us,[]⟩=pure (ps.zip us))
  (hb:∀(cdv:afF) (A:afZ) (outer:List PySem.Env) (s:afH) (H:Hp) (f c:afG),Room k (A.deeper (zq qual scope f cdv s y c))->mY (zu P w K mg base N qual scope f cdv A outer s H y c) body g)
  (fh:mC H a name qual params body scope [(y,c)])(hc:H c=some (.frz co (.own c)))(hcd:co.data= .cell (some uy))(hy:RelV (.int my) uy):
  pq P w K mg base (k+1) (λds=>gG m g (ds.map .val++[.val (.int my)])) n a H:=by
 intro A outer s H1 us vs Q E hr e0 hz r sp;let⟨O,ds,rs,hl,al,sp⟩:=sp;have sp:(match gG m g (ds.map Ent.val++[Ent.val (.int my)]) with | .ok d=>∀v H',Same H1 H'->Rep K O H' d v->Q v H' |_=>False):=sp;let⟨fo,doc,pm,c',ctv,oc,vq,t,f1,f2,f3,f4,f5⟩:=fh.fz hz;have hc1:=hz _ _ _ hc;let⟨hco,_⟩:=e0.hok c _ hc1;let⟨hfo,_⟩:=e0.hok a _ f1;let⟨hoc,_⟩:=e0.hok c' _ f3;have KX:K.In s.heap:=e0.mod.kin.keeps λb o e=>(e0.bs b o e).1;have lim:s.heap.NoLimit:=e0.mod.nolimit.keeps λb o e=>(e0.bs b o e).1;have e1:Env0 P w K mg base A outer s (del H1 c):=⟨e0.frames,e0.mod,λb o e=>⟨(e0.bs b o e).1,by
  by_cases q:b=c
  .rw[q];show kj
  .rw[dM q];show (e0.bs b o e).2⟩,e0.bsz,e0.funs,λb hb=>by
  by_cases q:b=c
  .rw[q];show kj
  .rw[dM q];show e0.frf b hb,Uy e0.hok hc1 hcd,e0.bare⟩
 have hlu:us.length=ps.length:=by rw[<-r.length,<-rs.length,hl,hn]
 have hkind:∀z∈ps.zip us,scope.names.lookup z.1=some .local\/(scope.names.lookup z.1=some .cell/\((agn (s.heap.objs.size+1) scope.names []).lookup z.1).isSome=true):=λ⟨q,v⟩ hy=>by
  rcases S.par q (ajO hy).1 with z |z
  .show .inl z
  .show .inr ⟨z,w0l _ _ _ (.inl z)⟩
 show codeAny_call_function hr.depth hfo f2 S.co S.gen rfl ⟨c',oc,vq,t,rfl,hoc,f4,f5⟩ ?_;rw[hbind doc pm _ _ _ us hlu];show afJ (Tn S.kind hkind λs1 x=>?_);show⟨lim.keeps x.toInCall.keep,codeAny_func ?_⟩;have I:Inv (zu P w K mg base N qual scope a (.ref c') A outer s (del H1 c) y c) [] (start N (vs++[.int my])) (del H1 c) s1:=
  adO S hr.hd e1 (by rw[<-rs.length,hl,hn]) r ⟨co,hco,hcd⟩ hy kj x
 have yu:N.length=(vs++[V.int my]).length+m:=by rw[hm,z1d,<-rs.length,hl];rfl
 have rs':aN K (λb=>O b/\b≠c) (del H1 c) ds vs:=aN.ext (UG hc1) (λb xs nb _ z=>nb z.1) ds vs rs;have J:At (zu P w K mg base N qual scope a (.ref c') A outer s (del H1 c) y c) (del H1 c) (λb=>O b/\b≠c) (λb=>O b/\b≠c) (del H1 c) ((ds.map Ent.val++[Ent.val (.int my)]).map some++afU m none) (start N (vs++[.int my])):=by
  rw[zm yu];show zj (by show N.length=_;rw[z1d,z1g,rs.length];rw[z1d] at yu;show yu) (Il (rM rs') (.cons ⟨(cD (K:=K) (O:=λb=>O b/\b≠c) (H:=del H1 c) my:rT K (λb=>O b/\b≠c) (del H1 c) (.val (.int my)) (.int my)),rfl⟩ .nil)) λb z=>?_;let⟨o,q⟩:=al b z.1;show⟨o,by rw[dM z.2];show q⟩
 have run:=hb (.ref c') A outer s (del H1 c) a c (hr.deeper _) [] s1 _ _ {nx:=λ_ H'=>gG m g (ds.map .val++[.val (.int my)])= .ok .non/\Same (del H1 c) H',rt:=λv H'=>∃d,gG m g (ds.map .val++[.val (.int my)])= .ok d/\Same (del H1 c) H'/\Rep K (λb=>O b/\b≠c) H' d v} I ⟨_,_,_,_,J,by
  unfold gG at sp |-;cases e2:g ((ds.map Ent.val++[Ent.val (.int my)]).map some++afU m none) with
  |rt d=>show λv H' s' r'=>⟨d,by simp only[e2],s',r'⟩
  |nx ρ'=>show λσ' H' O' j' _=>⟨by simp only[e2],j'.same⟩
  |bk _=>rw[e2] at sp;show sp.elim
  |ct _=>rw[e2] at sp;show sp.elim
  |ex _ _=>rw[e2] at sp;show sp.elim
  |bad=>rw[e2] at sp;show sp.elim⟩
 have cfr:c∉frs outer:=λz=>by rw[e0.frf c z] at hc1;cases hc1
 have fin:∀{σ':St} {H':Hp} {v:V} {u:afF} {s':afH} {d:D},Inv (zu P w K mg base N qual scope a (.ref c') A outer s (del H1 c) y c) [] σ' H' s'->RelV v u->gG m g (ds.map .val++[.val (.int my)])= .ok d->Same (del H1 c) H'->Rep K (λb=>O b/\b≠c) H' d v->CE outer P w H1 s Q u s':=λ{σ' H' v u s' d} J rv ed sm rd=>by
  have hn':H' c=none:=J.base.free c co hco kj (by simp[zu]);have hc':s'.heap.get? c=some co:=J.base.keep c co hco kj cfr (by simp[zu]);have ol:∀b,b≠c->upd H' c (.frz co (.own c)) b=H' b:=λb z=>upd_ne z;have kIn:K.In s'.heap:=J.kIn;show⟨v,upd H' c (.frz co (.own c)),J.os,J.bare,⟨λb o q nb hb hx=>?_,λb o q nb hb hx=>?_,λb o q nb hx=>?_,λb o q hx=>J.base.there b o q hx,λb xs q=>?_,λb o u q=>?_,λb ps q=>?_⟩,Uz J.hok hn' hc',rv,?_⟩
  .show J.base.keep b o q (show del H1 c b=none by by_cases z:b=c;(rw[z];show kj);rw[dM z];show nb) hb hx
  .show J.base.slot b o q (show del H1 c b=none by by_cases z:b=c;(rw[z];show kj);rw[dM z];show nb) hb hx
  .have nc:b≠c:=λz=>by rw[z,hc1] at nb;cases nb
   rw[ol b nc];show J.base.free b o q (show del H1 c b=none by rw[dM nc];show nb) hx
  .have nc:b≠c:=λz=>by rw[z,hc1] at q;cases q
   rw[ol b nc];show J.base.tups b xs (show del H1 c b=some _ by rw[dM nc];show q)
  .by_cases nc:b=c
   .rw[nc,hc1] at q;cases q;rw[nc,upd_same]
   .rw[ol b nc];show J.base.frzs b o u (show del H1 c b=some _ by rw[dM nc];show q)
  .have nc:b≠c:=λz=>by rw[z,hc1] at q;cases q
   rw[ol b nc];show J.base.tbls b ps (show del H1 c b=some _ by rw[dM nc];show q)
  .rw[ed] at sp;have s2:Same H' (upd H' c (.frz co (.own c))):=Same.upd hn';show sp v _ (λb o q=>?_) ?_
   .by_cases nc:b=c
    .rw[nc,hc1] at q;cases q;rw[nc,upd_same]
    .show s2 _ _ (sm b o (by rw[dM nc];show q))
   .show Rep.ext ⟨λb xs z=>Same.rd s2 z,λb xs _ z=>Same.rd s2 z⟩ (λb xs nb hq z=>?_) d v rd;by_cases nc:b=c
    .subst nc;rcases hq with (hq |⟨o,hq⟩) |⟨o,its,n',hq,h4,_⟩
     .rw[hn'] at hq;cases hq
     .rw[hn'] at hq;cases hq
     .have:=kIn _ _ hq;rw[hc'] at this;cases this;simp_all
    .show nb ⟨z,nc⟩
 show ahf run (λfl s' hs=>?_) λe s' hs=>hs.elim;cases fl with
 | ret u=>
  let⟨v,σ',H',J,rv,d,q1,q2,q3⟩:=hs;show fin J rv q1 q2 q3
 | next=>
  let⟨σ',H',J,q1,q2⟩:=hs;show fin (v:=V.non) (u:=agv) J rfl q1 q2 uE
 |brk=>let⟨_,_,_,q⟩:=hs;show agH q
 |cont=>let⟨_,_,_,q⟩:=hs;show agH q
section
variable{name qual:Str}{y xS:Str}{c fS:afG}{Fq:agJ}{BK:List Str}{kS kG n q iy:Nat}{FS:afG->(List D->R D)->List D->R D}{GG:Int->List D->R D}{p pos:Pos}
inductive abI (K:w0a) (name qual:Str) (params:ah6) (body:List agl) (scope:ahz) (y:Str) (c:afG) (iy n:Nat) (FS:afG->(List D->R D)->List D->R D) (GG:Int->List D->R D) (σ:St) (Q:VK) (vs:List V) (H1:Hp):Prop
 |mk (O:afG->Prop) (ds:List D) (xs:List V) (a:afG) (my:Int) (d:D) (e:vs=xs++[.ref a]) (r:aN K O H1 ds xs) (hl:ds.length=n) (al:∀b,O b->∃o,H1 b=some o) (fh:mC H1 a name qual params body scope [(y,c)]) (hσ:σ[iy]?=some (some (.int my))) (hF:∀a,FS a (GG my) ds= .ok d) (hQ:∀v H',Same H1 H'->Rep K O H' d v->Q v H'):abI K name qual params body scope y c iy n FS GG σ Q vs H1
def aeQ(K:w0a)(name qual:Str)(params:ah6)(body:List agl)(scope:ahz)(y:Str)(c:afG)(iy n:Nat)(FS:afG->(List D->R D)->List D->R D)(GG:Int->List D->R D)(ta:TA):TE:=λσ H Q=>ta σ H λvs H1=>abI K name qual params body scope y c iy n FS GG σ Q vs H1
theorem aaN(Sw:FnOk X.prog X.w X.K X.mg X.base CX0 kS fS Fq BK (spS X.prog X.w X.mg X.base kG X.K n q FS))(hr:Room kS X.A)(hg:Gl X xS)(hm:X.mg xS=some (.ref fS))(hk:w0d X.K (.ref fS)=true)(hb:Binds X.K Fq BK [])
  (Qg:∀my a c H co uy,mC H a name qual params body scope [(y,c)]->H c=some (.frz co (.own c))->co.data= .cell (some uy)->RelV (.int my) uy->pq X.prog X.w X.K X.mg X.base kG (GG my) q a H)
  (hc:X.env.cells.lookup y=some c)(hyk:X.env.scope.names.lookup y=some .cell)(hfn:X.fn y=true)(hiy:X.N[iy]?=some y)(ha:PA X (e::es) ta)(hdb:(xS ==("__debug__" :Str))=false:=by decide)
  (he:afL (e::es) X.env=(false,eval e X.env)::afL es X.env:=by rfl)(hpl:(agS pos (afL es X.env)).any (·.1)=false:=by rfl):
  PE X (.Call (.Name xS p) (e::es) [] pos) (aeQ X.K name qual params body scope y c iy n FS GG ta):=by
 intro pins s σ H Q I h;show ahC (ld_glob I hg hm ?_ hdb);show w0q (h₀:=X.base) I.ok.mod.kin hk (thn (ha pos pins s σ H _ I h) λus s1 ⟨vs,H1,I1,r,hq⟩=>⟨I1.kIn,?_⟩) he hpl;let⟨O,ds,xs,a,my,d,rfl,rs,hl,al,fh,hσ,hF,hQ⟩:=hq;let⟨m,hn,hl'⟩:=I1.loc;let⟨uy,ry,look⟩:=hl' iy y (.int my) hiy hσ (.inr (.inl hyk));have hcell:s1.heap.IsCell c (some uy):=by
  rcases look with⟨z,_⟩ |⟨_,c2,z,hz⟩
  .have z:X.env.scope.names.lookup y=some .local:=z;rw[hyk] at z;cases z
  .rw[hc] at z;cases z;show hz
 let⟨co,hco,hcd⟩:=hcell;have hnc:H1 c=none:=I1.freeC y c hc;have cab:X.s₀.heap.objs.size<=c:=I1.ok.cab y c hfn hc;have sm:Same H1 (upd H1 c (.frz co (.own c))):=Same.upd hnc;have nfr:∀b∈frs X.stack,b≠c:=λb hb z=>by
  rcases afR.mp (I1.stkSub b hb) with e |hb'
  .show I1.cne y c hc (z.symm.trans e)
  .let⟨_,o,ho,_⟩:=I1.ok.funs.mem hb';show absurd (z0d (z2c ho) cab) (by rw[z];show agX _)
 have e0:=I1.env0;have e1:Env0 X.prog X.w X.K X.mg X.base X.A X.stack s1 (upd H1 c (.frz co (.own c))):=⟨e0.frames,e0.mod,λb o z=>⟨(e0.bs b o z).1,by
  rw[upd_ne (λw=>by
   have:=z2c (I1.ok.bs b o z).1;rw[w] at this;show absurd (z0d this cab) (agX _))]
  show (e0.bs b o z).2⟩,e0.bsz,e0.funs,λb hb=>by rw[upd_ne (nfr b hb)];show e0.frf b hb,Uz e0.hok hnc hco,e0.bare⟩
 let⟨fo,doc,pm,c',ctv,oc,vq,t,f1,f2,f3,f4,f5⟩:=id fh;have fh1:=fh.fz λb o u z=>sm b _ z;have sp:spS X.prog X.w X.mg X.base kG X.K n q FS (xs++[.ref a]) (upd H1 c (.frz co (.own c))) (λv H'=>Same (upd H1 c (.frz co (.own c))) H'/\Rep X.K O H' d v) E0:=by
  show⟨O,ds,xs,a,GG my,rfl,rs.same sm,hl,λb z=>let⟨o,w⟩:=al b z;⟨o,sm _ _ w⟩,⟨rfl,fo,_,sm _ _ f1,f2⟩,Qg my a c _ co uy fh1 upd_same hcd ry,?_⟩;rw[hF a];show λv H' s' r'=>⟨s',r'⟩
 have hll:us.length=BK.length:=by rw[<-r.length];show Sw.len _ _ _ _ sp
 have hbb:=hb s1 us I1.kIn (by rw[agi];show hll);rw[agi] at hbb;show aks (aiF (Sw.run X.A X.stack s1 _ ⟨us,[]⟩ us _ _ E0 hr e1 hbb r sp) λrr s' hq=>?_);cases rr with
 |error ev=>show hq.elim
 | ok fl =>
  cases fl with
  |next=>show agH hq
  |brk=>show agH hq
  |cont=>show agH hq
  | ret u =>
   let⟨v,H',os,bare,un,hok,rv,q1,q2⟩:=hq;have hc':H' c=some (.frz co (.own c)):=un.frzs c co _ upd_same;have up:∀b,b≠c->upd H1 c (.frz co (.own c)) b=H1 b:=λb z=>upd_ne z;have un':Un (frs X.stack) [] H1 (del H' c) s1.heap s'.heap:=by
    show⟨λb o z nb hb hx=>?_,λb o z nb hb hx=>?_,λb o z nb hx=>?_,un.there,λb xs z=>?_,λb o u z=>?_,λb ps z=>?_⟩
    .by_cases bc:b=c
     .subst bc;rw[hco] at z;cases z;show (hok b _ hc').1
     .show un.keep b o z (by rw[up b bc];show nb) hb hx
    .show un.slot b o z (by rw[up b (nfr b hb)];show nb) hb hx
    .by_cases bc:b=c
     .rw[bc];show kj
     .rw[dM bc];show un.free b o z (by rw[up b bc];show nb) hx
    .have bc:=ne_of_none z hnc;rw[dM bc];show un.tups b xs (by rw[up b bc];show z)
    .have bc:=ne_of_none z hnc;rw[dM bc];show un.frzs b o u (by rw[up b bc];show z)
    .have bc:=ne_of_none z hnc;rw[dM bc];show un.tbls b ps (by rw[up b bc];show z)
   have J:Inv X pins σ (del H' c) s':=I1.call' os un' (Uy hok hc' hcd) bare λb z=>absurd z ();show⟨v,del H' c,J,rv,hQ v _ (λb o z=>?_) ?_⟩
   .have bc:=ne_of_none z hnc;rw[dM bc];show q1 b o (by rw[up b bc];show z)
   .show Rep.ext (UG hc') (λb xs nb _ z=>nb z) d v q2
end
open Classical in
def allOf(f:afG->R D):R D:=if h:∃d,∀a,f a= .ok d then .ok h.choose else .bad
theorem Qh{f:afG->R D}(h:∀a,f a= .ok d):allOf f= .ok d:=by
 have e:∃d,∀a,f a= .ok d:=⟨d,h⟩;unfold allOf;rw[dif_pos e];have:=e.choose_spec 0;rw[h 0] at this;show this.symm
theorem Qi{f:afG->R D}(h:allOf f= .ok d)(a:afG):f a= .ok d:=by
 unfold allOf at h;by_cases e:∃d,∀a,f a= .ok d
 .rw[dif_pos e] at h;cases h;show e.choose_spec a
 .rw[dif_neg e] at h;cases h
def Wi(i iy:Nat)(f1 f2 f3:aq->R D)(FS:afG->(List D->R D)->List D->R D)(GG:Int->List D->R D):aq->So:=λρ=>match ρ[i]?,ρ[iy]? with
 | some none,some (some (.val (.int my)))=>(match f1 ρ,f2 ρ,f3 ρ with
  | .ok a,.ok b,.ok d=>(match allOf (λx=>FS x (GG my) [a,b,d]) with
   | .ok r=> .rt r
   |_=> .bad)
  |_,_,_=> .bad)
 |_,_=> .bad
section
variable{name qual:Str}{y xS:Str}{c cc P fS:afG}{Fq:agJ}{BK:List Str}{kS kG q:Nat}{FS:afG->(List D->R D)->List D->R D}{GG:Int->List D->R D}{p p4 pos pos2 aaO:Pos}{e1 e2 e3:afV}{f1 f2 f3:aq->R D}
theorem In.afo(j:In X O H ρ σ)(hn:ρ[i]?=some none):In X O H ρ (σ.set i (some v)):=by
 have ne:∀(k:Nat) e,ρ[k]?=some (some e)->i≠k:=λk e h z=>by rw[<-z,hn] at h;cases h
 show⟨⟨λk e h=>?_,λk l e e' u hkl hk hl ok ol sk sl=>?_,λk l rows a rs e u hkl hk sk ha hl ol sl=>?_⟩,j.al,by rw[aiJ];show j.len,j.rY⟩
 .rw[z1e (ne k e h)];show j.env.get k e h
 .rw[z1e (ne k e hk)] at sk;rw[z1e (ne l e' hl)] at sl;show j.env.sep k l e e' u hkl hk hl ok ol sk sl
 .rw[z1e (ne k _ hk)] at sk;rw[z1e (ne l e hl)] at sl;show j.env.rW k l rows a rs e u hkl hk sk ha hl ol sl
theorem aaP(i iy:Nat)(hN:X.N.Nodup)(hB:iC X.base X.mg cc P)(hT:Tb [(P,qual)] X.H₀)(hcode:X.env.code= .ref cc)(Sw:FnOk X.prog X.w X.K X.mg X.base CX0 kS fS Fq BK (spS X.prog X.w X.mg X.base kG X.K 3 q FS))(hr:Room kS X.A)(hm:X.mg xS=some (.ref fS))(hk:w0d X.K (.ref fS)=true)(hb:Binds X.K Fq BK [])
  (Qg:∀my a c H co uy,mC H a name qual params body scope [(y,c)]->H c=some (.frz co (.own c))->co.data= .cell (some uy)->RelV (.int my) uy->pq X.prog X.w X.K X.mg X.base kG (GG my) q a H)
  (h1:DE X e1 f1)(h2:DE X e2 f2)(h3:DE X e3 f3)
  (hcl:ajF scope X.env=pure [(y,c)])(hc:X.env.cells.lookup y=some c)(hyk:X.env.scope.names.lookup y=some .cell)(hfn:X.fn y=true)(hii:i≠iy)(hnv:Vis X.env.scope name)
  (hiy:X.N[iy]?=some y:=by rfl)(hi:X.N[i]?=some name:=by rfl)(hl:Loc X.env.scope name:=by first |show ag1 rfl |show agK rfl)(hq:qualnameIn X.env name name=qual:=by rfl)(hd0:params.defaults=[]:=by rfl)(hk0:params.kw_defaults=[]:=by rfl)(ha:annTrees params none X.env=[]:=by rfl)
  (hg:Gl X xS:=by rfl)(hdb:(xS ==("__debug__" :Str))=false:=by decide)(hdn:(name ==("__debug__" :Str))=false:=by decide)(hdc:(name ==("__classdict__" :Str))=false:=by decide)
  (Ys:afL [e1,e2,e3,.Name name p4] X.env=(false,eval e1 X.env)::afL [e2,e3,.Name name p4] X.env:=by rfl)(he2:afL [e2,e3,.Name name p4] X.env=(false,eval e2 X.env)::afL [e3,.Name name p4] X.env:=by rfl)
  (he3:afL [e3,.Name name p4] X.env=(false,eval e3 X.env)::afL [.Name name p4] X.env:=by rfl)(he4:afL [.Name name p4] X.env=(false,eval (.Name name p4) X.env)::afL [] X.env:=by rfl)
  (hpl:(agS pos2 (afL [e2,e3,.Name name p4] X.env)).any (·.1)=false:=by rfl)(hf:X.fn name=true\/X.env.scope.names.lookup name=some .local:=by first |show .inl rfl |show .inr rfl):
  mY X [.FunctionDef name params body [] none [] scope none name pos,.Return (some (.Call (.Name xS p) [e1,e2,e3,.Name name p4] [] pos2)) aaO] (Wi i iy f1 f2 f3 FS GG):=by
 have A:=pa_cons h1 (pa_cons h2 (pa_cons h3 (pa_cons (pe_var (X:=X) (pos:=p4) hi hnv hdn hdc) pa_nil he4) he3) he2) Ys;show PSs.imp (pss_cons (adN i hN hB hT hcode hcl hi hl hq hd0 hk0 ha hf) (pss_one (ps_ret (aaN (iy:=iy) (p:=p) (pos:=pos2) Sw hr hg hm hk hb Qg hc hyk hfn hiy A hdb Ys hpl)))) λσ H E h=>?_;let⟨H0,O0,O,ρ,j,h⟩:=h;intro a H1 sm fh;unfold Wi at h;split at h
 .rename_i my en em;have hil:i<X.N.length:=(z1b hi).1;let⟨v,hv,rv⟩:=j.inn.env.get iy _ em;have rv:v= .int my:=Rep.int (show Rep X.K O H (.int my) v from rv);subst rv;split at h
  .rename_i d1 d2 d3 q1 q2 q3;cases q4:allOf (λx=>FS x (GG my) [d1,d2,d3]) with
   |bad=>rw[q4] at h;show h.elim
   |err _=>rw[q4] at h;show h.elim
   | ok d=>
    rw[q4] at h;have jn:In X O H1 ρ (σ.set i (some (.ref a))):=In.afo (j.inn.same sm) en;show⟨ρ,O,jn,?_⟩;rw[q1];intro v1 H2 s2 r1;show⟨ρ,O,jn.same s2,?_⟩;rw[q2];intro v2 H3 s3 r2;show⟨ρ,O,(jn.same s2).same s3,?_⟩;rw[q3];intro v3 H4 s4 r3;have jl:i<σ.length:=by rw[j.inn.len];show hil
    show⟨.ref a,z2a jl,?_⟩;have s14:Same H1 H4:=(s2.trans s3).trans s4;show⟨O,[d1,d2,d3],[v1,v2,v3],a,my,d,rfl,.cons (r1.same (s3.trans s4)) (.cons (r2.same s4) (.cons r3 .nil)),rfl,(jn.same s14).al,fh.fz λb o u z=>s14 _ _ z,?_,Qi q4,λv' H' s' r'=>?_⟩
    .rw[z1e hii];show hv
    .show h v' H' (j.same.trans (sm.trans (s14.trans s'))) (r'.fewer j.sub)
  .show h.elim
 .show h.elim
end
def pC(K:w0a)(mg:Str->Option afF)(x:Str)(c:afG):Prop:=∀f oc od fd osl,mg x=some (.ref f)->K.lookup f=some ⟨oc,od,.func fd,osl⟩->fd.code= .ref c
section
variable{e lo hi:afV}{f g:aq->R D}{fl fu:aq->R (Option Int)}{pos p2 p3 p4:Pos}
def acj(d:D)(lo hi:Option Int):R D:=match d with
 | .lst ds=> .ok (.lst (sE ds lo hi))
 |_=> .bad
def oE(f:aq->R D)(fl fu:aq->R (Option Int)):aq->R D:=λρ=>(f ρ).bind λd=>(fl ρ).bind λl=>(fu ρ).bind λu=>acj d l u
theorem BL{lo hi:Option afV}(he:DE X e f)(hl:Uq X lo fl)(hu:Uq X hi fu):DE X (.Subscript e (.Slice lo hi none p2) pos) (oE f fl fu):=by
 show PE.imp (pe_slice sl_list he hl hu) λσ H Q h=>?_;let⟨ρ,O,j,h⟩:=h;show go j h λd v H1 e1 s1 r1 j1 h1=>?_;show go j1 h1 λl l' H2 e2 s2 r2 j2 h2=>?_;show go j2 h2 λu u' H3 e3 s3 r3 j3 h3=>?_;have r2:l=l':=r2;have r3:u=u':=r3;subst r2 r3;cases d with
 | lst ds=>
  have r1':=(r1.same s2).same s3;let⟨a,xs,rfl,hq,hn,rs⟩:=r1'.lst;have hlen:=rs.length;show⟨a,xs,rfl,hq,λp hp=>?_⟩;show h3 _ _ (Same.upd hp) (Rep.qd hp (j3.yP hp) ?_);unfold sE cutV;rw[hlen];show (rs.drop _).take _
 |_=>show h3.elim
theorem acn{kk}{te:TE}(he:PE X e te):PE X (.Subscript e (.Slice none none (some (.UnaryOp .USub (.Constant (.int 1) kk p3) p4)) p2) pos) (λσ H Q=>te σ H λx H1=>∃a xs,x= .ref a/\SqL X.K H1 a xs/\∀p,H1 p=none->Q (.ref p) (upd H1 p (.lst xs.reverse))):=by
 intro pins s σ H Q I h;show Subscript_ (thn (he pins s σ H _ I h) λv s1 bQ=>?_);let⟨x,H1,I1,r1,q1⟩:=bQ;let⟨a,xs,rfl,hq,q⟩:=q1;cases r1;show wpAny_Slice ?_;rw[evalPart_none,evalPart_some];show afJ (afJ ?_);show thn (pe_un (X:=X) un_neg pe_int pins s1 σ H1 (λy H2=>y= .int (-1)/\H2=H1) I1 ⟨1,rfl,rfl,rfl⟩) λvs s2 bQ=>?_;let⟨y,H2,I2,r2,ey,eH⟩:=bQ;subst ey;subst eH;let⟨t,rfl⟩:=r2;have I4:Inv X pins σ H2 {s2 with heap:=s2.heap.push {cls:= .type "slice",data:= .fields #[.none,.none,.int (-1) t]}}:=I2.kept (t':=s2.toks) λb ob q=>z1a _ q;let⟨its,rv,ht,hz⟩:=I4.list hq;have hlen:=rv.length;show afK (model X.prog X.w) X.A (subscriptTail e (.Slice none none (some (.UnaryOp .USub (.Constant (.int 1) kk p3) p4)) p2) (.ref a) (.ref s2.heap.objs.size)) (EP X pins σ Q) X.xe {s2 with heap:=s2.heap.push {cls:= .type "slice",data:= .fields #[.none,.none,.int (-1) t]}};show tail_any (ops:=[.ref a,.ref s2.heap.objs.size]) ht.isList.typeIs slot_list_getitem.lookup (wpAny_getItem_list_slice ht.isList (al2 ..) .none .none (.int (-1) t) () ?_ (by rw[z1c];omega)) (by with_unfolding_all rfl);rw[PySem.W.krv_pick];show⟨.ref _,_,I4.laid (t':=s2.toks) (o:= .lst xs.reverse) (λb ob q=>z1a _ q) (z0g _) ?_,rfl,q _ (I4.hok.fresh (z0g _))⟩;show⟨by rw[ahM];show hz,its.reverse,0,Vals.rev rv,(by have e:its.toArray.toList.reverse=its.reverse:=();rw[e];show z1f _ rfl)⟩
def aeR:D->R D
 | .lst ds=> .ok (.lst ds.reverse)
 |_=> .bad
def Ov(f:aq->R D):aq->R D:=λρ=>(f ρ).bind aeR
theorem aco{kk}(he:DE X e f):DE X (.Subscript e (.Slice none none (some (.UnaryOp .USub (.Constant (.int 1) kk p3) p4)) p2) pos) (Ov f):=by
 show PE.imp (acn he) λσ H Q h=>?_;let⟨ρ,O,j,h⟩:=h;show go j h λd v H1 e1 s1 r1 j1 h1=>?_;cases d with
 | lst ds=>
  let⟨a,xs,rfl,hq,hn,rs⟩:=r1.lst;show⟨a,xs,rfl,hq,λp hp=>h1 _ _ (Same.upd hp) (Rep.qd hp (j1.yP hp) rs.reverse)⟩
 |_=>show h1.elim
def UW(i:Nat)(f:aq->R D):aq->R D:=λρ=>match ρ[i]? with
 |some (some (.lst ds))=>(f ρ).bind λd=>cA (.lst ds) d
 |_=> .bad
theorem Yt(i:Nat){x:Str}{px:Pos}(hb:DE X e f)(hs:PlainIx e:=by show λ_ _=>rfl)(hN:X.N[i]?=some x:=by rfl)(hv:Vis X.env.scope x:=by first |show ag1 rfl |show agK (ag1 rfl) |show agK (agK rfl))
  (hd:(x ==("__debug__" :Str))=false:=by decide)(hcd:(x ==("__classdict__" :Str))=false:=by decide):DE X (.Subscript (.Name x px) e pos) (UW i f):=by
 show PE.imp (pe_ix ix_seq (pe_var hN hv hd hcd) hb hs) λσ H Q h=>?_;let⟨ρ,O,j,h⟩:=h;unfold UW at h;split at h
 .rename_i ds q;let⟨v,hv1,a,xs,rfl,hO,hH,rs⟩:=j.env.get i _ q;show⟨.ref a,hv1,?_⟩;show go j h λd y H1 e1 s1 r1 j1 h1=>?_;cases d with
  | int k=>
   have h':good X (rD X) O (match L2.atI ds k with |some d=>R.ok d |none=>R.bad) σ H1 Q:=h1;cases e2:L2.atI ds k with
   |none=>rw[e2] at h';show h'.elim
   | some d=>
    rw[e2] at h';let⟨v,e3,rv⟩:=(rs.same s1).atI e2;show .inl ⟨a,xs,k,v,rfl,r1.int,SqL.of (s1 _ _ hH),e3,fin h' rv⟩
  |_=>show h1.elim
 .show h.elim
end
section
variable{pos:Pos}
def Qj(i k:Nat):aq->So:=λρ=>match ρ[i]?,ρ[k]? with
 |some (some (.lst ds)),some (some (.lst es))=>if ds.length<1000000 then .nx ((ρ.set i (some (.lst (ds++[.lst es])))).set k (some (.val (.lst es)))) else .bad
 |_,_=> .bad
theorem At.give{H0:Hp}{O0:afG->Prop}(j:At X H0 O0 O H ρ σ){es:List D}(hk:ρ[k]?=some (some (.lst es)))(hb:σ[k]?=some (some (.ref b))):
  At X H0 O0 (λa=>O a/\a≠b) H (ρ.set k (some (.val (.lst es)))) σ/\f9 X.K O H (λa=>O a/\a≠b) H:=by
 let⟨hH0,hO0⟩:=j.mine k _ b hk rfl hb;have rc:f9 X.K O H (λa=>O a/\a≠b) H:=⟨⟨λ_ _ z=>z,λ_ _ _ z=>z⟩,λa z=> .inl z.1,λ_ z=>z⟩;have hkl:k<ρ.length:=(z1b hk).1;let⟨v,hv,b',xs,e1,hO,hH,rs⟩:=j.inn.env.get k _ hk;rw[hb] at hv;cases hv;cases e1;have un:∀{m:Nat} {x:Ent},(ρ.set k (some (.val (.lst es))))[m]?=some (some x)->x.own=true->ρ[m]?=some (some x):=λ{m x} h ho=>by
  by_cases hmk:m=k
  .subst hmk;rw[z2a hkl] at h;cases h;cases ho
  .rw[z1e (agc hmk)] at h;show h
 show⟨⟨j.same,j.gb.trans rc,λa z=>⟨j.sub a z,λe=>hO0 (e▸z)⟩,⟨⟨λm e q=>?_,λm l e e' u hml hm hl om ol sm sl=>?_,λm l rows a rs' e u hml hm sm ha hl ol sl=>?_⟩,λa z=>j.inn.al a z.1,j.inn.len,by rw[aiJ];show j.inn.rY⟩,λm e a q ho hs=>?_,λm rows a rs' q hs=>?_⟩,rc⟩
 .by_cases hmk:m=k
  .subst hmk;rw[z2a hkl] at q;cases q;show⟨_,hb,nW (SqL.of hH) (λz=>z.2 rfl) (rs.go rc)⟩
  .rw[z1e (agc hmk)] at q;let⟨v,q1,q2⟩:=j.inn.env.get m e q;show⟨v,q1,?_⟩;have nb:e.own=true->v≠.ref b:=λoe z=>by subst z;show j.inn.env.sep m k _ _ _ hmk q hk oe rfl q1 hb
   cases e with
   |val d=>show Rep.go rc q2
   |obj t=>show q2
   | rws rows=>
    let⟨a,rs',e2,R⟩:=q2;have Yb:σ[m]?=some (some (.ref a)):=by rw[<-e2];show q1
    show⟨a,rs',e2,R.at_,⟨R.oa,λz=>nb rfl (by rw[e2,z])⟩,R.nd,R.len,λn r row z1 z2=>?_⟩;let⟨o1,ys,z3,z4⟩:=R.row n r row z1 z2;show⟨⟨o1,λz=>(j.inn.env.rW m k rows a rs' _ (.ref b) hmk q Yb R.at_ hk rfl hb).1 r (ago z1) (by rw[z])⟩,ys,z3,z4.go rc⟩
   | lst ds=>
    let⟨a,ys,e2,o2,h2,r2⟩:=q2;show⟨a,ys,e2,⟨o2,λz=>nb rfl (by rw[e2,z])⟩,h2,r2.go rc⟩
   | Bt kvs=>
    let⟨a,ys,e2,o2,h2,kk,r2⟩:=q2;show⟨a,ys,e2,⟨o2,λz=>nb rfl (by rw[e2,z])⟩,h2,kk,r2.go rc⟩
 .show j.inn.env.sep m l e e' u hml (un hm om) (un hl ol) om ol sm sl
 .show j.inn.env.rW m l rows a rs' e u hml (un hm rfl) sm ha (un hl ol) ol sl
 .by_cases hmk:m=k
  .subst hmk;rw[z2a hkl] at q;cases q;cases ho
  .rw[z1e (agc hmk)] at q;show j.mine m e a q ho hs
 .show j.Ef m rows a rs' (un q rfl) hs
theorem acp(i k:Nat){x y:Str}{px py apos cpos:Pos}(hik:i≠k)(hN:X.N[i]?=some x:=by rfl)(hNk:X.N[k]?=some y:=by rfl)(hv:Vis X.env.scope x:=by first |show ag1 rfl |show agK (ag1 rfl) |show agK (agK rfl))(hvk:Vis X.env.scope y:=by first |show ag1 rfl |show agK (ag1 rfl) |show agK (agK rfl))
  (hd:(x ==("__debug__" :Str))=false:=by decide)(hcd:(x ==("__classdict__" :Str))=false:=by decide)(hdk:(y ==("__debug__" :Str))=false:=by decide)(afp:(y ==("__classdict__" :Str))=false:=by decide)
  (hbase:attributeBase (.Name x px) "append" X.env (eval (.Name x px) X.env)=eval (.Name x px) X.env:=by rfl)
  (hfew:((agS cpos (afL [.Name y py] X.env)).all (λx=> !x.1) && (aiw cpos (ahI [] X.env)).all (λx=>x.1.isSome)
   && decide ([Expr.Name y py].length+([]:List ajb).length+(if ([]:List ajb).isEmpty then 0 else 1)<30))=true:=by rfl)
  (hline:(apos.endLine ==cpos.line)=true:=by rfl) (hs1:afL [.Name y py] X.env=(false,eval (.Name y py) X.env)::afL [] X.env:=by rfl) (hplain:(agS cpos (afL [] X.env)).any (·.1)=false:=by rfl)
  (hs:ajV (.Call (.Attribute (.Name x px) "append" apos) [.Name y py] [] cpos) none pos.line X.env=pure false:=by rfl):
  DS X (.Expr (.Call (.Attribute (.Name x px) "append" apos) [.Name y py] [] cpos) pos) (Qj i k):=by
 show PS.imp (ps_expr (pe_bm PySem.F.plainAttrs_list PySem.F.slot_list_append PySem.F.type_list_append mt_append (pe_var hN hv hd hcd) (pa_cons (pe_var hNk hvk hdk afp) pa_nil hs1) hbase hfew hline hs1 hplain) hs) λσ H E h=>?_;let⟨H0,O0,O,ρ,j,h⟩:=h;unfold Qj at h;split at h
 .rename_i ds es q1 q2;by_cases hl:ds.length<1000000
  .rw[z9p hl] at h;let⟨v,hv1,a,xs,rfl,hO,hH,rs⟩:=j.inn.env.get i _ q1;let⟨v,hv2,b,ys,rfl,hO2,hH2,rG⟩:=j.inn.env.get k _ q2;have hab:a≠b:=λz=>j.inn.env.sep i k _ _ _ hik q1 q2 rfl rfl hv1 (by rw[z];show hv2);show⟨.ref a,hv1,.inl ⟨rfl,xs,SqL.of hH⟩,.ref b,hv2,?_⟩;have hlen:=rs.length;show⟨a,xs,.ref b,rfl,rfl,hH,by have:=jB;omega,?_⟩;let⟨j1,r1⟩:=j.give q2 hv2;have Yb:(ρ.set k (some (.val (.lst es))))[i]?=some (some (.lst ds)):=by rw[z1e (agc hik)];show q1
   let⟨j2,r2⟩:=j1.chg (o:= .lst (xs++[.ref b])) (en:= .lst (ds++[.lst es])) Yb rfl hv1 ⟨hO,hab⟩ hH trivial rfl λr=>⟨a,xs++[.ref b],rfl,⟨hO,hab⟩,upd_same,by
    have z1:aN X.K (λc=>O c/\c≠b) H (ds++[.lst es]) (xs++[.ref b]):=(rs.go r1).append (.cons (nW (SqL.of hH2) (λz=>z.2 rfl) (rG.go r1)) .nil);show z1.go r⟩
   rw[List.set_comm _ _ (agc hik)] at j2;show h _ _ _ j2 (r1.trans r2)
  .rw[z9n hl] at h;show h.elim
 .show h.elim
end
section
open PySem
theorem Wj(l b:afG)(items:Array afF)(n:Nat)(items2:Array afF)(n2:Nat)(dd:Option afG)(sl:Array (Option afF))(hs0:¬(!items.isEmpty && ajY (items.size+items2.size))=true)(hs1:items.size<=sizeLine)(hs2:items.size+items2.size<=sizeLine+1):
  Meets (ahx.«list.__iadd__» ⟨[.ref l,.ref b],[]⟩) (λ_ R s=>s.heap.get? l=some {cls:= .type "list",dict:=none,data:= .seq items n,slots:= #[]}/\s.heap.get? b=some {cls:= .type "list",dict:=dd,data:= .seq items2 n2,slots:=sl}/\R (.ok (.ret (afS l))) {s with heap:=s.heap.update l (ahh λx=>x++items2),toks:=s.toks}):=
 .of_wp λprog w A R s h=>by
  let⟨hp,g,d,tk,os⟩:=s;let⟨hl,hb,h⟩:=h;have f1:=alu;have f2:=AutoSeq1.sub_tuple_tuple;have f3:=AutoSeq1.sub_list_list;have f4:=AutoSeq1.sub_tuple_list;have f5:=AutoSeq1.sub_list_tuple;
  have hz':(items++items2).size<=sizeLine+1:=by rw[Array.size_append];show hs2
  wp_walk using (aiM hl rfl (hz:=hs1) (_hz':=hz')),ahN hl,ahN hb;show⟨_,rfl,h⟩
end
section
variable{f:aq->R D}{pos:Pos}
theorem acq:PIp X .Add (λx y H Q=>∃a b xs ys,x= .ref a/\y= .ref b/\H a=some (.lst xs)/\SqL X.K H b ys/\xs.length+ys.length<=1000000/\Q (.ref a) (upd H a (.lst (xs++ys)))):=by
 intro pins s σ H x y v u Q I rx ry h;let⟨a,b,xs,ys,rfl,rfl,ha,hb,hz,q⟩:=h;cases rx;cases ry;let⟨its,n,r,ho,hzl⟩:=I.lst ha;let⟨its2,r2,p2,hz2⟩:=I.list hb;let⟨⟨cls2,dd2,data2,sl2⟩,ho2,hc2,n2,hd2⟩:=id p2.isList;simp only at hc2 hd2;subst hc2 hd2;have l1:=r.length;have l2:=r2.length;have hsl:=jB;have hT:s.TypeIs (.ref a) "list" :=⟨_,ho,rfl⟩;have hT2:s.TypeIs (.ref b) "list" :=⟨_,ho2,rfl⟩;unfold inplaceOp;show ahc ?_;have hfi:fillsInplaceSlot (.type "list") "add" (Operator.Add == .Add)=pure false:=by
  unfold fillsInplaceSlot;show (typeLookup (.type "list") (dunderI "add") >>=λfi=>pure (fi.isSome && !isSeqSlot fi))=pure false;rw[PySem.F.slot_list_iadd.lookup,pure_bind,show isSeqSlot (some (.builtin "list.__iadd__"))=true from by decide +kernel];rfl
 show afE (aju hT (afE (ahW hfi ?_)));show afK _ _ (if false=true then _ else _) _ _ s;rw[z9n agf];show afE (binaryOp1_none (nm:= "add") hT hT2 PySem.noFill_list_add ?_);show afE (ahW (PySem.seqSlot_of (T:= "list") (name:=dunderI "add") (id:= "list.__iadd__") PySem.F.slot_list_iadd.lookup {}) ?_);show afE (ahg ?_);show akx PySem.F.slot_list_iadd hT PySem.F.entry_list_iadd (PySem.F.args_list_iadd_2 _ _) (Wj a b its.toArray n its2.toArray n2 dd2 sl2 ?_ (by rw[z1c];omega) (by rw[z1c,z1c];omega)) ⟨ho,ho2,?_⟩
 .rw[z1c,z1c];have:ajY (its.length+its2.length)=false:=by unfold ajY;show z9f ()
  rw[this];simp
 .show⟨.ref a,upd H a (.lst (xs++ys)),I.lset (its':=its++its2) ha ho () (r.append r2) (by rw[z1d];omega),rfl,q⟩
def GK(i:Nat)(f:aq->R D):aq->So:=λρ=>match ρ[i]? with
 | some (some (.lst ds))=>lM (Pg (f ρ)) ρ λd=>match d with
  | .lst es=>if ds.length+es.length<=1000000 then .nx (ρ.set i (some (.lst (ds++es)))) else .bad
  |_=> .bad
 |_=> .bad
theorem U0(i:Nat)(hN:X.N.Nodup)(he:DE X e f)(hi:X.N[i]?=some x:=by rfl)(hx:Loc X.env.scope x:=by first |show ag1 rfl |show agK rfl)
  (hf:X.fn x=true\/X.env.scope.names.lookup x=some .local:=by first |show .inl rfl |show .inr rfl):DS X (.AugAssign (.Name x pos') .Add e pos) (GK i f):=by
 show PS.imp (ps_aug hN hi hx he acq hf) λσ H E h=>?_;let⟨H0,O0,O,ρ,j,h⟩:=h;unfold GK at h;split at h
 .rename_i ds q;let⟨v,hv1,a,xs,rfl,hO,hH,rs⟩:=j.inn.env.get i _ q;show⟨.ref a,hv1,ρ,O,j.inn,?_⟩;unfold lM at h;cases e1:f ρ with
  |bad=>rw[e1] at h;show h.elim
  |err c=>rw[e1] at h;show h.elim
  | ok d =>
   rw[e1] at h;intro w H1 s1 rw1;cases d with
   | lst es=>
    have h:yc X H0 O0 O H E (if ds.length+es.length<=1000000 then .nx (ρ.set i (some (.lst (ds++es)))) else .bad):=h;by_cases hl:ds.length+es.length<=1000000
    .rw[z9p hl] at h;have j1:=j.grow s1;let⟨b,ys,rfl,hb,hnb,rG⟩:=rw1.lst;have rs1:=rs.same s1;have hH1:=s1 _ _ hH;show⟨a,b,xs,ys,rfl,rfl,hH1,hb,by rw[<-rs1.length,<-rG.length];show hl,?_⟩;let⟨j2,r2⟩:=j1.chg (o:= .lst (xs++ys)) (en:= .lst (ds++es)) q rfl hv1 hO hH1 trivial rfl λr=>⟨a,xs++ys,rfl,hO,upd_same,(rs1.append rG).go r⟩;have eσ:σ.set i (some (V.ref a))=σ:=by
      apply aip;intro m;by_cases hm:m=i
      .subst hm;rw[z2a (z1b hv1).1,hv1]
      .rw[z1e (agc hm)]
     rw[eσ];show h _ _ _ j2 ((Same.gb s1).trans r2)
    .rw[z9n hl] at h;show h.elim
   |_=>show h.elim
 .show h.elim
end
def Its(lo:Int)(n:Nat)(c:Int):It:=⟨λi _=>i<n,λi H x H'=>H'=H/\x= .int (lo+i*c),λi _=>n<=i⟩
theorem Yu(it:afG)(lo:Int)(n:Nat)(c:Int):Turn P w K tg (Its lo n c) [it] it (λi h=>akR h it (lo+(i:Nat)*c) ((n:Int) - (i:Nat)) c) where
 mem:=()
 obj :=λi h st b hb=>by
  have e:b=it:=by simpa using hb
  subst e;show⟨_,st,λv z=>by
   have z':alL _=akV v:=z;cases z'⟩
 keep:=λi h h' st k=>k it () _ st
 item:=by
  intro X hP hw hK hc i pins s σ H E I hf st hg;subst hP hw hK;let⟨f0,f1,f2,f3,f4,f5⟩:=hf it ();have W:=Walks.range (prog:=X.prog) (w:=X.w) (I.ok.hd hc) it lo c n;show W.item i s _ _ hg st λv h' tk hv st' kk=>?_;let⟨t,rfl⟩:=hv;have I1:Inv X pins σ H {s with heap:=h',toks:=tk}:=I.turned (λb o hb e=>kk b o (by simpa using hb) e) f0 f1 f3 f4 f5;show⟨_,rfl,go_of (s:={s with heap:=h',toks:=tk}) (n:= "range_iterator") st' rfl rfl {} ⟨.int (lo+i*c),H,I1,⟨t,rfl⟩,⟨rfl,rfl⟩,st',λb hb=>(hf b hb).1⟩⟩
 done:=by
  intro X hP hw hK hc i pins s σ H E I hf st hg;subst hP hw hK;let⟨f0,f1,f2,f3,f4,f5⟩:=hf it ();show wpAny_pyNext_range_end (I.ok.hd hc) st (by have:n<=i:=hg;omega) λh' eb=>⟨rfl,I.turned (t':=s.toks) (λb o hb e=>eb b o hb e) f0 f1 f3 f4 f5⟩
 self:=λ_ _ _ _ _ st h=>akc st h
def BP(hi:Int)(n:Nat):List D:=(afI n).map λ(i:Nat)=>D.int (hi - (i:Int))
theorem YR.step(hi:Int)(n:Nat):YR K O H (Its hi n (-1)) (BP hi n):=by
 intro O' H' _;intro i;show⟨λd e=>?_,λe=>?_⟩
 .unfold BP at e;rw[z2b] at e;cases q:(afI n)[i]? with
  |none=>rw[q] at e;cases e
  | some k=>
   rw[q] at e;have hk:i<n/\i=k:=by simpa[agu] using (z1b q)
   let⟨h1,rfl⟩:=hk;cases e;show⟨h1,λx H2 y=>?_⟩;let⟨rfl,rfl⟩:=y;show⟨Same.refl _,by rw[show hi+(i:Int)*(-1)=hi - (i:Int) by omega];show cD _⟩
 .show n<=i;unfold BP at e;simpa using e
section
variable{tg a b c:afV}{p pos p2 pos2:Pos}
def afA:List D->R (List D)
 |[.int i,.int j,.int k]=>if k= -1/\-(2^62)<=i/\i<2^62/\-(2^62)<=j/\j<2^62 then .ok (BP i (i - j).toNat) else .bad
 |_=> .bad
end
theorem Ir(r:afG)(j:Int)(t u v:Tok)(h0:0<=j)(h1:j<=1000):Meets (ahx.«range.__reversed__» ⟨[.ref r],[]⟩) (λ_ R s=>IsRange s.heap r 0 j 1 t u v/\R (.ok (.ret (.ref s.heap.objs.size))) {s with heap:=s.heap.push {cls:= .type "range_iterator",data:= .fields #[agx (j - 1),agx j,agx (-1)]}}):=
 .of_wp λprog w A R s h=>by
  let⟨hp,g,d,tk,os⟩:=s;let⟨hr,h⟩:=h;have e1:aj7 0 j 1=j:=by rw[rangeSize_one];split <;> omega
  have e2:(ag8 0 && ag8 j && ag8 1 && ag8 (-1) && ag8 (0 - 1) && ag8 j)=true:=by
   simp only[ag8,ag6,decide_eq_true_eq];omega
  have e3:(0:Int)+(j - 1)*1=j - 1:=()
  unfold ahx.«range.__reversed__» Builtin.Range.rangeFields
  wp_walk using ahN hr
  rw[e1];simp only[e2,e3,ag5,af7,if_false,if_true];unfold newFields;show afE (agB (afJ ⟨_,rfl,h⟩) (by size_fits))
theorem Iu:isSubtype (.type "range_iterator") (.type "reversed")=pure false:=by rw[akJ];kernel_rfl
theorem Kw{r:afG}{j:Int}{t u v:Tok}{Q₁:afF->afH->Prop}(h0:0<=j)(h1:j<=1000)(hr:IsRange s.heap r 0 j 1 t u v)
  (h:Q₁ (.ref s.heap.objs.size) {s with heap:=s.heap.push {cls:= .type "range_iterator",data:= .fields #[agx (j - 1),agx j,agx (-1)]}}):
  ajL (model prog w) A (.call (.builtin "reversed.__new__") ⟨[.type "reversed",.ref r],[]⟩) (wants Q₁ E) s:=by
 have hT:s.TypeIs (.ref r) "range" :=⟨_,hr,rfl⟩;show codeAny_of_tree ?_;show afK _ A.in1 (do checkBuiltinCall "reversed.__new__" ⟨[.type "reversed",.ref r],[]⟩;again (.builtin "reversed.__new__" ⟨[.type "reversed",.ref r],[]⟩)) _ _ s;show afE (ahW (PySem.F.newCall_reversed_1 _) (afJ ⟨ait PySem.F.plain_reversed_new _,ahO PySem.F.entry_reversed_new ?_⟩));rw[ahl PySem.F.plain_reversed_new _];unfold ahx.«reversed.__new__»;show afE (ahW (newClass_reversed _) ?_)
 try dsimp only
 show afE (ahW (a:=Unit.unit) (by first |rfl |kernel_rfl) ?_);show afE (ahW (a:=Unit.unit) (by first |rfl |kernel_rfl) ?_)
 try dsimp only
 show afE (aji hT PySem.F.slot_range_reversed.lookup ?_)
 try dsimp only
 show afE (ahW (PySem.F.slot_range_reversed.bind _) ?_)
 try dsimp only
 first
 |rw[z9n (show ¬((ak6 "range.__reversed__" ==agv)=true) from agf)]
 |(show afK _ _ (if (ak6 "range.__reversed__" ==agv)=true then _ else _) _ _ _;rw[z9n (show ¬((ak6 "range.__reversed__" ==agv)=true) from agf)])
 show afE (ahg ?_);show afE (m:=runValue (.call (.builtin "range.__reversed__") ⟨[.ref r],[]⟩)) (show afK _ _ (call (.builtin "range.__reversed__") [.ref r]) _ _ _ from akx PySem.F.slot_range_reversed hT PySem.F.entry_range_reversed (PySem.F.args_range_reversed_1 _) (Ir r j t u v h0 h1) ⟨hr,?_⟩)
 first
 |show afJ h
 |show afE (afJ (afJ h))
theorem Ky{r:afG}{j:Int}{t u v:Tok}(h0:0<=j)(h1:j<=1000)(hr:IsRange s.heap r 0 j 1 t u v)
  (h:Q (.ref s.heap.objs.size) {s with heap:=s.heap.push {cls:= .type "range_iterator",data:= .fields #[agx (j - 1),agx j,agx (-1)]}}):afK (model prog w) A (call (.type "reversed") [.ref r]) Q E s:=by
 show callType_other (U:= "range_iterator") (Q₁:=λobj s₁=>obj= .ref s.heap.objs.size/\s₁={s with heap:=s.heap.push {cls:= .type "range_iterator",data:= .fields #[agx (j - 1),agx j,agx (-1)]}}) {} PySem.F.create_reversed ⟨_,_,PySem.F.mro_reversed⟩ PySem.F.made_reversed Iu (PySem.F.typeCall_reversed_1 _) (Kw h0 h1 hr ⟨rfl,rfl⟩) ?_
 rintro obj s₁ ⟨rfl,rfl⟩
 show⟨⟨_,z1f _ rfl,rfl⟩,h⟩
section
variable{tg a:afV}{p pos p2 pos2:Pos}
def Qk:List D->R (List D)
 |[.int j]=>if 0<=j/\j<=1000 then .ok (BP (j - 1) j.toNat) else .bad
 |_=> .bad
theorem acr(hg:Gl X "reversed")(hm:X.mg "reversed" =none)(hg2:Gl X "range")(hm2:X.mg "range" =none)(ha:DA X [a] fa)(hs:afL [a] X.env=[(false,eval a X.env)]:=by rfl)
  (he:afL [.Call (.Name "range" p2) [a] [] pos2] X.env=(false,eval (.Call (.Name "range" p2) [a] [] pos2) X.env)::afL [] X.env:=by rfl)(hpl:(agS pos (afL [] X.env)).any (·.1)=false:=by rfl):
  DI X tg (.Call (.Name "reversed" p) [.Call (.Name "range" p2) [a] [] pos2] [] pos) (λρ=>(fa ρ).bind Qk):=by
 intro pins s σ H R I h;have A:=pa_cons (adH (p:=p2) (pos:=pos2) hg2 hm2 ha hs) pa_nil he;let⟨ρ,O,jn,h⟩:=h;have key:tCons (adG X.K (tG X (Li X) fa)) tNil σ H (λvs H1=>∃q j,vs=[.ref q]/\H1 q=some (.rng 0 j)/\0<=j/\j<=1000/\R (Its (j - 1) j.toNat (-1)) H1):=by
  show go jn h λds vs H1 e1 s1 r1 j1 h1=>?_;unfold Qk at h1;split at h1
  .rename_i j;by_cases hh:0<=j/\j<=1000
   .rw[z9p hh] at h1;let⟨v,rfl,w⟩:=r1.one;show⟨j,by rw[w.int],hh.1,hh.2,λq hq=>⟨q,j,rfl,upd_same,hh.1,hh.2,h1 _ _ (Same.upd hq) (YR.step _ _)⟩⟩
   .rw[z9n hh] at h1;show h1.elim
  .show h1.elim
 show Call_ (ld_blt I hg hm boot_reversed (agL (thn (A pos pins s σ H _ I key) λus s1 ⟨vs,H1,I1,r1,q1⟩=>?_) he hpl));let⟨q,j,e,hq,h0,h1,q⟩:=q1;subst e;cases r1 with
 | cons r rr=>
  cases rr;cases r;let⟨t,u,v,hr⟩:=I1.hok _ _ hq;show Ky h0 h1 hr ?_;have hit:akR (s1.heap.push {cls:= .type "range_iterator",data:= .fields #[agx (j - 1),agx j,agx (-1)]}) s1.heap.objs.size (j - 1) j (-1):=z1f _ rfl;show akc (s:={s1 with heap:=s1.heap.push {cls:= .type "range_iterator",data:= .fields #[agx (j - 1),agx j,agx (-1)]}}) hit ?_;show⟨s1.heap.objs.size,[s1.heap.objs.size],_,_,H1,rfl,I1.kept (t':=s1.toks) λb o e=>z1a _ e,Yu _ (j - 1) j.toNat (-1),?_,λb hb=>?_,q⟩
  .show akR _ _ (j - 1+((0:Nat):Int)*(-1)) (((j.toNat:Nat):Int) - ((0:Nat):Int)) (-1);rw[show j - 1+((0:Nat):Int)*(-1)=j - 1 by simp,show ((j.toNat:Nat):Int) - ((0:Nat):Int)=j by omega];show hit
  .have e:b=s1.heap.objs.size:=by simpa using hb
   subst e;show I1.fpOk (z0g _) (I1.hok.fresh (z0g _))
end
end Pu
namespace Pu
open PySem PySem.Spec PySem.W L2
open PyProof.Rows hiding St
def bM:List Int->List Int->Bool
 |[],[]=>false
 |[],_::_=>true
 |_::_,[]=>false
 |x::xs,y::ys=>if x=y then bM xs ys else decide (x<y)
theorem jM:∀a:List Int,bM a a=false
 |[]=>rfl
 |x::xs=>by rw[bM,z9p rfl];show jM xs
theorem jq:∀{a b c:List Int},bM a b=true->bM b c=true->bM a c=true
 |[],[],_,h,_=>by cases h
 |[],_::_,[],_,h=>by cases h
 |[],_::_,_::_,_,_=>rfl
 |_::_,[],_,h,_=>by cases h
 |_::_,_::_,[],_,h=>by cases h
 | x ::a,y::b,z::c,h1,h2=>by
  rw[bM] at h1 h2 |-;by_cases e1:x=y
  .rw[z9p e1] at h1;subst e1;by_cases e2:x=z
   .rw[z9p e2] at h2 |-;show jq h1 h2
   .rw[z9n e2] at h2 |-;show h2
  .rw[z9n e1] at h1;have h1:x<y:=z9o h1;by_cases e2:y=z
   .subst e2;rw[z9n e1];show z9t h1
   .rw[z9n e2] at h2;have h2:y<z:=z9o h2;rw[z9n ()];show z9t ()
theorem qC:∀{a b:List Int},a≠b->bM a b=false->bM b a=true
 |[],[],h,_=>absurd rfl h
 |[],_::_,_,h=>by cases h
 |_::_,[],_,_=>rfl
 | x ::a,y::b,h,e=>by
  rw[bM] at e |-;by_cases e1:x=y
  .subst e1;rw[z9p rfl] at e |-;show qC (λz=>h (by rw[z])) e
  .rw[z9n e1] at e;rw[z9n (λz=>e1 z.symm)];have e:¬x<y:=of_decide_eq_false e;show z9t ()
theorem Tp{a b:afG}{oa ob:Obj}{xs ys:Array afF}{na nb:Nat}{ns ms:List Int}{P:PySem.Fin->afH->Prop}(hoa:s.heap.get? a=some oa)(hda:oa.data= .seq xs na)(hob:s.heap.get? b=some ob)(hcb:ob.cls= .type "tuple")(hdb:ob.data= .seq ys nb)
  (hia:ahJ xs.toList ns)(hib:ahJ ys.toList ms)(h:P (.done (.ret (.bool (bM ns ms)))) s):
  afK (model prog w) A (ahx.«tuple.__lt__» ⟨[.ref a,.ref b],[]⟩) P E s:=by
 have hTb:s.TypeIs (.ref b) "tuple" :=⟨ob,hob,hcb⟩;show afK _ _ (isInstance (.ref b) (.type "tuple") >>=_) _ _ s;show afE (ahV hTb ajz ?_);simp only[ag5,af7,if_false];show afE (aik hoa hda ?_);show afE (aik hob hdb ?_);show afE ?_;show aiA _
  (λrest r s'=>r.1=none/\s'=s/\∃xs' ys' ns' ms',rest=List.zip xs' ys'/\ahJ xs' ns'/\ahJ ys' ms'/\bM ns' ms'=bM ns ms/\decide (xs'.length<ys'.length)=decide (xs.size<ys.size))
  _ ?_ ?_ _ _ ⟨rfl,rfl,xs.toList,ys.toList,ns,ms,rfl,hia,hib,rfl,()⟩
 .rintro ⟨u,v⟩ rest r s' ⟨hr,rfl,xs',ys',ns',ms',hz,hx',hy',hdec,hlen⟩
  cases hx' with
  |nil=>simp at hz
  | cons k1 t1 hx''=>
   cases hy' with
   |nil=>simp at hz
   | cons k2 t2 hy''=>
    simp only[akW,ajT,ahX] at hz;let⟨⟨rfl,rfl⟩,rfl⟩:=hz;show afE (alm ?_);rw[bM] at hdec;by_cases hk:k1=k2
    .subst hk;rw[z9p rfl] at hdec;simp only[beq_self_eq_true,ag5,af7,if_false];show afJ ⟨rfl,rfl,_,_,_,_,rfl,hx'',hy'',hdec,by simpa using hlen⟩
    .rw[z9n hk] at hdec;have e:(k1 ==k2)=false:=by simpa using hk
     rw[e];simp only[aj4,if_true];rw[<-hdec] at h;show afE (ahg ?_);show afE (m:=akf .Lt (.int k1 t1) (.int k2 t2)) (show afK _ _ (agr .Lt (.int k1 t1) (.int k2 t2)) _ _ _ from lt_int ?_)
     first
      |show afJ (afJ h)
      |show afE (afJ (afJ (afJ h)))
      |show afE (afJ (afJ h))
 .rintro⟨r1,r2⟩ s' ⟨hr,rfl,xs',ys',ns',ms',hz,hx',hy',hdec,hlen⟩
  simp only at hr;subst hr;show afJ ?_;have hfin:decide (xs.size<ys.size)=bM ns ms:=by
   rw[<-hdec,<-hlen];cases hx' with
   | nil=>
    cases hy' with
    |nil=>rfl
    |cons _ _ _=>simp[bM]
   | cons _ _ _=>
    cases hy' with
    |nil=>simp[bM]
    |cons _ _ _=>simp at hz
  show P (.done (.ret (.bool (decide (xs.size<ys.size))))) s';rw[hfin];show h
theorem En{a b:afG}{oa ob:Obj}{xs ys:Array afF}{na nb:Nat}{ns ms:List Int}(hu:A.units<agR)(hoa:s.heap.get? a=some oa)(hca:oa.cls= .type "tuple")(hda:oa.data= .seq xs na)(hob:s.heap.get? b=some ob)(hcb:ob.cls= .type "tuple")(hdb:ob.data= .seq ys nb)
  (hia:ahJ xs.toList ns)(hib:ahJ ys.toList ms)(h:Q (.bool (bM ns ms)) s):afK (model prog w) A (agr .Lt (.ref a) (.ref b)) Q E s:=by
 show afK _ _ (akf .Lt (.ref a) (.ref b)) _ _ _;show ajD (op:= .Lt) ⟨oa,hoa,hca⟩ ⟨ob,hob,hcb⟩ PySem.F.slot_tuple_lt
   (ags PySem.F.slot_tuple_lt ⟨oa,hoa,hca⟩ PySem.F.entry_tuple_lt (Tp hoa hda hob hcb hdb hia hib ⟨_,rfl,(λe=>nomatch e),h⟩) (PySem.F.args_tuple_lt_2 _ _)) hu
def mD(p:List Int):List (List Int)->List (List Int)
 |[]=>[p]
 |q::r=>if bM p q then p::q::r else q::mD p r
def aZ:List (List Int)->List (List Int)
 |[]=>[]
 |p::r=>mD p (aZ r)
theorem wF(p:List Int):∀l,(mD p l).Perm (p::l)
 |[]=> .refl _
 | q::r=>by
  unfold mD;split
  .show .refl _
  .show ((wF p r).cons q).trans (alP p q r)
theorem cG:∀l,(aZ l).Perm l
 |[]=> .refl _
 |p::r=>(wF p _).trans ((cG r).cons p)
abbrev pD(l:List (List Int)):Prop:=l.Pairwise λa b=>bM a b=true
theorem Ma(p:List Int):∀{l:List (List Int)},pD l->p∉l->pD (mD p l)
 |[],_,_=>by unfold mD;simp
 | q ::r,h,hn=>by
  let⟨h1,h2⟩:=agt.mp h;unfold mD;by_cases e:bM p q=true
  .rw[z9p e];show agt.mpr ⟨λz hz=>?_,h⟩;rcases afR.mp hz with z1 |z1
   .rw[z1];show e
   .show jq e (h1 z z1)
  .rw[z9n e];have e2:bM q p=true:=qC (λz=>hn (by rw[z];show afT)) (by simpa using e);show agt.mpr ⟨λz hz=>?_,Ma p h2 λz=>hn (z2f _ z)⟩;rcases afR.mp ((wF p r).mem_iff.mp hz) with z1 |z1
   .rw[z1];show e2
   .show h1 z z1
theorem wG:∀{l:List (List Int)},l.Nodup->pD (aZ l)
 |[],_=> .nil
 | p::r,h=>by
  let⟨h1,h2⟩:=ah5.mp h;show Ma p (wG h2) λz=>h1 ((cG r).mem_iff.mp z)
theorem Iv:∀{a b:List (List Int)},a.Perm b->pD a->pD b->a=b
 |[],b,p,_,_=>(alV.mp p).symm
 |x::a,[],p,_,_=>absurd (alW.mp p) ()
 | x :: a,y::b,p,ha,hb=>by
  have ha':=agt.mp ha;have hb':=agt.mp hb;have h1:x=y:=by
   rcases afR.mp (p.mem_iff.mp (afT (a:=x) (l:=a))) with h |h
   .show h
   .rcases afR.mp (p.mem_iff.mpr (afT (a:=y) (l:=b))) with k |k
    .show k.symm
    .have:=jq (ha'.1 y k) (hb'.1 x h);rw[jM] at this;cases this
  subst h1;rw[Iv ((List.perm_cons x).mp p) ha'.2 hb'.2]
inductive pF (h:af8) (a:afG) (l c:Int) (ps:List Int):Prop
 |mk (o o2:Obj) (n n2:Nat) (t u:Tok) (p:afG) (vs:Array afF) (h1:h.get? a=some o) (h2:o.cls= .type "tuple") (h3:o.data= .seq #[.int l t,.int c u,.ref p] n) (h4:h.get? p=some o2) (h5:o2.cls= .type "tuple") (h6:o2.data= .seq vs n2) (h7:ahJ vs.toList ps):pF h a l c ps
theorem pF.keeps{h h':af8}{l c:Int}{ps:List Int}(x:pF h a l c ps)(k:∀b o,h.get? b=some o->o.cls= .type "tuple"->h'.get? b=some o):pF h' a l c ps:=
 by
 let⟨o,o2,n,n2,t,u,p,vs,h1,h2,h3,h4,h5,h6,h7⟩:=x;show⟨o,o2,n,n2,t,u,p,vs,k _ _ h1 h2,h2,h3,k _ _ h4 h5,h5,h6,h7⟩
theorem kI:∀{vs:List afF} {ns:List Int},ahJ vs ns->ItemsAre (ako prog w) ns vs
 |_,_,.nil=> .nil
 |_,_,.cons n t h=> .cons (alh _ _ _ _) (kI h)
theorem acs{x y:afG}{l c l' c':Int}{ps qs:List Int}{Q:Bool->afH->Prop}(hu:A.units<agR)(hx:pF s.heap x l c ps)(hy:pF s.heap y l' c' qs)(h:Q (bM (l::c::ps) (l'::c'::qs)) s):
  afK (model prog w) A (keyLt' (tuples' true) (.ref x) (.ref y)) Q E s:=by
 let⟨o,o2,n,n2,t,u,p,vs,h1,h2,h3,h4,h5,h6,h7⟩:=hx;let⟨o',o2',n',Iw,t',u',p',vs',g1,g2,g3,g4,g5,g6,g7⟩:=hy;show kat_lt h1 h3 g1 g3 ?_;show KatLex prog w A true (decide (3<3)) Q [(.int l t,.int l' t'),(.int c u,.int c' u'),(.ref p,.ref p')] 0 s;rw[bM,bM] at h;show kat_cons (ajX l t l' t' prog w _ _ ?_);by_cases e1:l=l'
 .rw[z9p e1] at h;rw[show (l ==l')=true by simpa using e1];show kat_yes (kat_cons (ajX c u c' u' prog w _ _ ?_));by_cases e2:c=c'
  .rw[z9p e2] at h;rw[show (c ==c')=true by simpa using e2];show kat_yes (kat_cons (ajZ (knd:=ako prog w) hu ⟨o2,vs,n2,h4,h5,h6,kI h7⟩ ⟨o2',vs',Iw,g4,g5,g6,kI g7⟩ ?_));by_cases e3:ps=qs
   .rw[e3,jM] at h;rw[z9t e3];show kat_yes (kat_nil (by simpa using h))
   .rw[z9f e3];show kat_no ?_;show afK (model prog w) A (oneLt' false _ _) Q _ s;show kat_one _ _ (En hu h4 h5 h6 g4 g5 g6 h7 g7 h)
  .rw[z9n e2] at h;rw[show (c ==c')=false by simpa using e2];show kat_no ?_;show afK (model prog w) A (oneLt' false _ _) Q _ s;show kat_one _ _ (lt_int h)
 .rw[z9n e1] at h;rw[show (l ==l')=false by simpa using e1];show kat_no ?_;show afK (model prog w) A (keyLt' oneType' (.int l t) (.int l' t')) Q _ s;show kat_lt_int h
theorem Ql:∀(as:List afG),(∀a∈as,∃l c ps,pF h a l c ps)->∃fs,KatTups h (as.map afS) fs/\fs.length=as.length/\∀f∈fs,∃k t,f=ajB k t
 |[],_=>⟨[],.nil,rfl,λf hf=>by simp at hf⟩
 | a::as,hx=>by
  let⟨l,c,ps,o,o2,n,n2,t,u,p,vs,h1,h2,h3,_⟩:=hx a afT;let⟨fs,k1,k2,k3⟩:=Ql as λb hb=>hx b (z2f _ hb);show⟨.int l t::fs,KatTups.cons h1 h2 h3 rfl k1,by simp[k2],λf hf=>?_⟩;rcases afR.mp hf with z |z
  .show⟨l,t,z⟩
  .show k3 f z
def Ow(K:w0a)(H:Hp)(a:afG)(ns:List Int):Prop:=∃l c ps p,ns=l::c::ps/\SqT K H a [.int l,.int c,.ref p]/\SqT K H p (ps.map V.int)
theorem acu(I:Inv X pins σ H s)(h:Ow X.K H a ns):∃l c ps,ns=l::c::ps/\pF s.heap a l c ps:=by
 let⟨l,c,ps,p,rfl,h1,h2⟩:=h;let⟨its,r1,⟨o,ho,hc,n,hd⟩,_⟩:=I.tuple h1;let⟨its2,r2,⟨o2,ho2,hc2,n2,hd2⟩,_⟩:=I.tuple h2;show⟨l,c,ps,rfl,?_⟩;cases r1 with
 | cons a1 r1=>
  cases r1 with
  | cons a2 r1=>
   cases r1 with
   | cons a3 r1=>
    cases r1;let⟨t,rfl⟩:=a1;let⟨u,rfl⟩:=a2;cases a3;show⟨o,o2,n,n2,t,u,p,its2.toArray,ho,hc,hd,ho2,hc2,hd2,by simpa using yt r2⟩
end Pu
namespace Pu
open PySem PySem.Spec L2
open PyProof.Rows hiding St
def nG:List Int->D
 |l::c::ps=> .tup [.int l,.int c,.tup (ps.map .int)]
 |_=> .non
def yw:D->Option (List Int)
 | .tup [.int l,.int c,.tup ps]=>(intsOf ps).map λns=>l::c::ns
 |_=>none
def qD:List D->Option (List (List Int))
 |[]=>some []
 | d::ds=>match yw d,qD ds with
  |some t,some ts=>some (t::ts)
  |_,_=>none
theorem zx(ns:List Int):intsOf (ns.map D.int)=some ns:=by simpa using Bv (c:=λi:Int=>i) (l:=ns)
theorem Qm{l c:Int}{ps:List Int}:yw (nG (l::c::ps))=some (l::c::ps):=by simp[nG,yw,zx]
theorem aaQ{t:List Int}(e:yw d=some t)(r:Rep K O H d v):∃b,v= .ref b/\Ow K H b t/\Rep K O H (nG t) v:=by
 unfold yw at e;split at e
 .rename_i l c ps;cases q:intsOf ps with
  |none=>rw[q] at e;cases e
  | some ns=>
   rw[q] at e;cases e;let⟨a,xs,rfl,hq,rs⟩:=r.tup;let⟨v1,v2,v3,rfl,r1,r2,r3⟩:=rs.three;have r1:=r1.int;have r2:=r2.int;subst r1 r2;let⟨p,ys,rfl,hq2,rG⟩:=r3.tup;have e2:=rK q rG;subst e2;show⟨a,rfl,⟨l,c,ns,p,rfl,hq,hq2⟩,gM hq (.cons (cD l) (.cons (cD c) (.cons (gM hq2 o8) .nil)))⟩
 .cases e
theorem Mf:∀{ds:List D} {vs:List V} {ts:List (List Int)},qD ds=some ts->aN K O H ds vs->∃as:List afG,vs=as.map V.ref/\as.length=ts.length/\∀(i:Nat) b t,as[i]?=some b->ts[i]?=some t->Ow K H b t/\Rep K O H (nG t) (.ref b)
 | [],vs,ts,e,r=>by
  cases e;show⟨[],r.nil_inv,rfl,λi b t h=>by simp at h⟩
 | d ::ds,vs,ts,e,r=>by
  let⟨x,r',rfl,h1,h2⟩:=r.cons_inv;unfold qD at e;split at e
  .rename_i t ts' e1 e2;cases e;let⟨b,rfl,h3,h4⟩:=aaQ e1 h1;let⟨as,rfl,h5,h6⟩:=Mf e2 h2;show⟨b::as,rfl,by simp[h5],λi b' t' eb et=>?_⟩;cases i with
   |zero=>simp at eb et;subst eb et;show⟨h3,h4⟩
   |succ i=>show h6 i b' t' (by simpa using eb) (by simpa using et)
  .cases e
theorem wW:∀{ds:List D} {vs:List V},ds.length=vs.length->(∀(i:Nat) d v,ds[i]?=some d->vs[i]?=some v->Rep K O H d v)->aN K O H ds vs
 |[],[],_,_=> .nil
 |[],_::_,h,_=>by simp at h
 |_::_,[],h,_=>by simp at h
 |d::ds,v::vs,h,p=> .cons (p 0 d v rfl rfl) (wW (by simpa using h) λi d' v' e1 e2=>p (i+1) d' v' (by simpa using e1) (by simpa using e2))
section
variable{f:aq->R D}
theorem U3(i k m:Nat){x y z:Str}{px py pz pt:Pos}{kt}(hc:X.calm=true)(hN:X.N.Nodup)(he:DE X e f)(hi:X.N[i]?=some x:=by rfl)(hk:X.N[k]?=some y:=by rfl)(hm:X.N[m]?=some z:=by rfl)
  (hx:Loc X.env.scope x:=by first |show ag1 rfl |show agK rfl)(hy:Loc X.env.scope y:=by first |show ag1 rfl |show agK rfl)(hz:Loc X.env.scope z:=by first |show ag1 rfl |show agK rfl)
  (hfx:X.fn x=true\/X.env.scope.names.lookup x=some .local:=by first |show .inl rfl |show .inr rfl)(Pj:X.fn y=true\/X.env.scope.names.lookup y=some .local:=by first |show .inl rfl |show .inr rfl)(hfz:X.fn z=true\/X.env.scope.names.lookup z=some .local:=by first |show .inl rfl |show .inr rfl)
  (hs:ajH [.Tuple [.Name x px,.Name y py,.Name z pz] kt pt] e pos.line X.env=pure false:=by rfl)(hw:ajI [.Tuple [.Name x px,.Name y py,.Name z pz] kt pt] e X.env=pure none:=by rfl):
  DS X (.Assign [.Tuple [.Name x px,.Name y py,.Name z pz] kt pt] e pos) (bF f (c7 (dg 3 (aW (aH i) (aW (aH k) (aW (aH m) nilG)))))):=by
 show PS.imp (ps_asg he (pg_tup hc (pgs_cons (pg_name hN hi hx hfx) (pgs_cons (pg_name hN hk hy Pj) (pgs_cons (pg_name hN hm hz hfz) pgs_nil)))) hs hw) λσ H E h=>?_;let⟨H0,O0,O,ρ,j,h⟩:=h;show⟨ρ,O,j.inn,?_⟩;unfold bF lM at h;cases e1:f ρ with
 |bad=>rw[e1] at h;show h
 |err c=>rw[e1] at h;show h σ H O j
 | ok d=>
  rw[e1] at h;intro v H' s r;cases d with
  | tup ds=>
   match ds,h,r with
   |[],h,_=>show h.elim
   |[_],h,_=>show h.elim
   |[_,_],h,_=>show h.elim
   |_::_::_::_::_,h,_=>show (show False by simpa[c7,dg,yc] using h).elim
   | [d1,d2,d3],h,r=>
    let⟨a,xs,rfl,hq,rs⟩:=r.tup;let⟨v1,v2,v3,rfl,r1,r2,r3⟩:=rs.three;show⟨a,[v1,v2,v3],rfl,hq,rfl,v1,[v2,v3],rfl,v2,[v3],rfl,v3,[],rfl,rfl,?_⟩;show h _ H' O ((((j.grow s).set (z1b hi).1 r1).set (z1b hk).1 r2).set (z1b hm).1 r3) (Same.gb s)
  |_=>show h.elim
end
section
variable{f:aq->R D}
def afq:D->R Bool
 | .lst ds=> .ok (!ds.isEmpty)
 | .tup ds=> .ok (!ds.isEmpty)
 |_=> .bad
def Kz(f:aq->R D):aq->R Bool:=λρ=>(f ρ).bind afq
theorem aN.empty(r:aN K O H ds vs):ds.isEmpty=vs.isEmpty:=by
 have:=r.length;cases ds <;> cases vs <;> simp_all
theorem Qn(h:DE X e f)(he:∀whole,isTrue e X.env whole=(do let v <-whole;standAt e.pos;holding [v] (truthy v)):=by intro _;rfl):DT X e (Kz f):=by
 show PT.imp (pt_truth h he) λσ H Q h=>?_;let⟨ρ,O,j,h⟩:=h;show go j h λd v H1 e1 s1 r1 j1 h1=>?_;cases d with
 | lst ds=>
  let⟨a,xs,rfl,hq,hn,rs⟩:=r1.lst;show⟨!xs.isEmpty,.inl ⟨xs,hq,rfl⟩,by rw[<-rs.empty];show fin h1 rfl⟩
 | tup ds=>
  let⟨a,xs,rfl,hq,rs⟩:=r1.tup;show⟨!xs.isEmpty,.inr (.inl ⟨xs,hq,rfl⟩),by rw[<-rs.empty];show fin h1 rfl⟩
 |_=>show h1.elim
end
theorem Iz(hr:Room k A):A.units+2<agR:=by have:=hr.un;omega
def FnS(P:afQ)(w:af2)(K:w0a)(mg:Str->Option afF)(base:af8)(k:Nat)(x:Str)(kG n q:Nat)(F:afG->(List D->R D)->List D->R D):Prop:=
 ∃f fd ps,FnOk P w K mg base CX0 k f fd ps (spS P w mg base kG K n q F)/\mg x=some (.ref f)/\w0d K (.ref f)=true/\Binds K fd ps []
theorem Ft:∀{xs:List V} {us:List afF},xs.length=us.length->(∀(i:Nat) x u,xs[i]?=some x->us[i]?=some u->RelV x u)->Vals xs us
 |[],[],_,_=> .nil
 |[],_::_,h,_=>by simp at h
 |_::_,[],h,_=>by simp at h
 |x::xs,u::us,h,p=> .cons (p 0 x u rfl rfl) (Ft (by simpa using h) λi d' v' e1 e2=>p (i+1) d' v' (by simpa using e1) (by simpa using e2))
theorem Yv{lo:Int}{acc:Array afF}(h:ItemsOf (λi v=>∃t,v= .int (lo+i*1) t) acc n):Vals ((afI n).map λ(i:Nat)=>V.int (lo+(i:Int))) acc.toList:=by
 show Ft (by simp[h.1]) λi x u e1 e2=>?_;rw[aiN] at e2;let⟨t,rfl⟩:=h.2 i u e2;rw[z2b] at e1;cases q:(afI n)[i]? with
 |none=>rw[q] at e1;cases e1
 | some k=>
  rw[q] at e1;have hk:i<n/\i=k:=by simpa[agu] using (z1b q)
  let⟨_,rfl⟩:=hk;cases e1;show⟨t,by rw[Int.mul_one]⟩
section
variable{a b:afV}{p pos p2 pos2:Pos}
def aeS(ta:TA):TE:=λσ H Q=>ta σ H λvs H1=>∃i j:Int,vs=[.int i,.int j]/\∀q,H1 q=none->Q (.ref q) (upd H1 q (.rng i j))
theorem acv(hg:Gl X "range")(hm:X.mg "range" =none)(ha:PA X [a,b] ta)(hs:afL [a,b] X.env=[(false,eval a X.env),(false,eval b X.env)]:=by rfl)(hs2:afL [b] X.env=[(false,eval b X.env)]:=by rfl):PE X (.Call (.Name "range" p) [a,b] [] pos) (aeS ta):=by
 intro pins s σ H Q I h;show Call_ (ld_blt I hg hm boot_range (agL (thn (ha pos pins s σ H _ I h) λus s1 ⟨vs,H1,I1,r1,q1⟩=>?_) (by rw[hs,hs2]) (by rw[hs2];rfl)));let⟨i,j,e,q⟩:=q1;subst e;cases r1 with
 | cons r rr=>
  cases rr with
  | cons r' rr=>
   cases rr;let⟨t,rfl⟩:=r;let⟨t',rfl⟩:=r';show call_range_2 ?_;show⟨.ref s1.heap.objs.size,upd H1 s1.heap.objs.size (.rng i j),I1.laid (λb o e=>z1a _ e) (z0g _) ⟨_,_,_,z1f _ rfl⟩,rfl,q _ (I1.hok.fresh (z0g _))⟩
theorem Yw(hc:X.calm=true):CallR X (.type "list") (λxs H Q=>∃(b:afG) (i j:Int),xs=[.ref b]/\H b=some (.rng i j)/\-1000<=i/\i<=1000/\-1000<=j/\j<=1000/\∀B,H B=none->Q (.ref B) (upd H B (.lst ((afI (j - i).toNat).map λ(k:Nat)=>V.int (i+(k:Int)))))):=by
 intro pins s σ H xs us Q I r h;let⟨b,i,j,rfl,hb,h0,h1,h2,h3,q⟩:=h;let⟨u,rfl,rx⟩:=vals1 r;cases rx;let⟨t,u,v,hr⟩:=(show ObjOk X.prog X.w H s.heap b (.rng i j) from I.hok b _ hb);have hn:aj7 i j 1=(((j - i).toNat:Nat):Int):=by rw[rangeSize_one];split <;> omega
 show call_list_range (I.ok.hd hc) hr (small_one () () () ()) hn () λh' tk acc c' hk he hacc=>?_;have hf:H s.heap.objs.size=none:=I.hok.fresh (z0g _);show⟨.ref s.heap.objs.size,_,I.laid (t':=tk) (o:= .lst ((afI (j - i).toNat).map λ(k:Nat)=>V.int (i+(k:Int)))) hk (z0g _) ⟨?_,acc.toList,c',Yv hacc,by simpa using he⟩,rfl,q _ hf⟩;rw[z1g,z2d];show z0b () (z0e jB)
theorem Wm{lo:Int}:aN K O H (upto lo n) ((afI n).map λ(i:Nat)=>V.int (lo+(i:Int))):=by
 unfold upto
 generalize afI n=l
 induction l with
 |nil=>show .nil
 |cons x l ih=>show .cons (cD _) ih
def afB:List D->R D
 |[.int j]=>if 0<=j/\j<=1000 then .ok (.lst (upto 0 j.toNat)) else .bad
 |_=> .bad
def Wn:List D->R D
 |[.int i,.int j]=>if -1000<=i/\i<=1000/\-1000<=j/\j<=1000 then .ok (.lst (upto i (j - i).toNat)) else .bad
 |_=> .bad
theorem aaR(hc:X.calm=true)(hg:Gl X "list")(hm:X.mg "list" =none)(hg2:Gl X "range")(hm2:X.mg "range" =none)(ha:DA X [a,b] fa)(hs2:afL [a,b] X.env=[(false,eval a X.env),(false,eval b X.env)]:=by rfl)(hs3:afL [b] X.env=[(false,eval b X.env)]:=by rfl)
  (he:afL [.Call (.Name "range" p) [a,b] [] pos] X.env=(false,eval (.Call (.Name "range" p) [a,b] [] pos) X.env)::afL [] X.env:=by rfl)(hpl:(agS pos2 (afL [] X.env)).any (·.1)=false:=by rfl):
  DE X (.Call (.Name "list" p2) [.Call (.Name "range" p) [a,b] [] pos] [] pos2) (aD Wn fa):=by
 show PE.imp (pe_callTy (Yw hc) hg hm boot_list (pa_cons (acv hg2 hm2 ha hs2 hs3) pa_nil he) {} {} he hpl) λσ H Q q=>?_;let⟨ρ,O,j,q⟩:=q;show go j q λds vs H1 e1 s1 r1 j1 h1=>?_;unfold Wn at h1;split at h1
 .rename_i i k;let⟨x,y,rfl,rx,ry⟩:=r1.two;by_cases hi: -1000<=i/\i<=1000/\-1000<=k/\k<=1000
  .rw[z9p hi] at h1;show⟨i,k,by rw[rx.int,ry.int],λq hq=>⟨q,i,k,rfl,upd_same,hi.1,hi.2.1,hi.2.2.1,hi.2.2.2,λB hB=>?_⟩⟩;have s2:Same H1 (upd H1 q (.rng i k)):=Same.upd hq;show h1 _ _ (s2.trans (Same.upd hB)) (Rep.qd hB ((j1.same s2).yP hB) Wm)
  .rw[z9n hi] at h1;show h1.elim
 .show h1.elim
end
end Pu
namespace Pu
open PySem PySem.Spec PySem.W L2
open PyProof.Rows hiding St
def EqB(prog:afQ)(w:af2)(A:afZ)(s:afH)(u v:afF)(b:Bool):Prop:=∀(Q:Bool->afH->Prop) (E:afF->afH->Prop),Q b s->afK (model prog w) A (eqBool u v) Q E s
def LtB(prog:afQ)(w:af2)(A:afZ)(s:afH)(u v:afF)(b:Bool):Prop:=∀(Q:afF->afH->Prop) (E:afF->afH->Prop),Q (.bool b) s->afK (model prog w) A (agr .Lt u v) Q E s
inductive Lx (prog:afQ) (w:af2) (A:afZ) (s:afH) (r:Bool):List afF->List afF->Prop
 |nil:r=false->Lx prog w A s r [] []
 |yes {u v xs ys}:EqB prog w A s u v true->Lx prog w A s r xs ys->Lx prog w A s r (u::xs) (v::ys)
 |no {u v xs ys}:EqB prog w A s u v false->LtB prog w A s u v r->Lx prog w A s r (u::xs) (v::ys)
theorem Tq{a b:afG}{oa ob:Obj}{xs ys:Array afF}{na nb:Nat}{r:Bool}{P:PySem.Fin->afH->Prop}(hoa:s.heap.get? a=some oa)(hda:oa.data= .seq xs na)(hob:s.heap.get? b=some ob)(hcb:ob.cls= .type "tuple")(hdb:ob.data= .seq ys nb)
  (hl:Lx prog w A s r xs.toList ys.toList)(hsz:xs.size=ys.size)(h:P (.done (.ret (.bool r))) s):
  afK (model prog w) A (ahx.«tuple.__lt__» ⟨[.ref a,.ref b],[]⟩) P E s:=by
 have hTb:s.TypeIs (.ref b) "tuple" :=⟨ob,hob,hcb⟩;show afK _ _ (isInstance (.ref b) (.type "tuple") >>=_) _ _ s;show afE (ahV hTb ajz ?_);simp only[ag5,af7,if_false];show afE (aik hoa hda ?_);show afE (aik hob hdb ?_);show afE ?_;show aiA _
  (λrest q s'=>q.1=none/\s'=s/\∃xs' ys',rest=List.zip xs' ys'/\Lx prog w A s r xs' ys')
  _ ?_ ?_ _ _ ⟨rfl,rfl,xs.toList,ys.toList,rfl,hl⟩
 .rintro⟨u,v⟩ rest q s' ⟨hr,rfl,xs',ys',hz,hx'⟩
  cases hx' with
  |nil _=>simp at hz
  | yes he hx''=>
   simp only[akW,ajT,ahX] at hz;let⟨⟨rfl,rfl⟩,rfl⟩:=hz;show afE (he _ _ ?_);simp only[ag5,af7,if_false];show afJ ⟨rfl,rfl,_,_,rfl,hx''⟩
  | no he hlt=>
   simp only[akW,ajT,ahX] at hz;let⟨⟨rfl,rfl⟩,rfl⟩:=hz;show afE (he _ _ ?_);simp only[aj4,if_true];show afE (ahg ?_);show afE (m:=akf .Lt u v) (show afK _ _ (agr .Lt u v) _ _ _ from hlt _ _ ?_)
   first
    |show afJ (afJ h)
    |show afE (afJ (afJ (afJ h)))
    |show afE (afJ (afJ h))
 .rintro⟨r1,r2⟩ s' ⟨hr,rfl,xs',ys',hz,hx'⟩
  simp only at hr;subst hr;show afJ ?_;have hfin:decide (xs.size<ys.size)=r:=by
   cases hx' with
   |nil e=>rw[e];show z9f ()
   |yes _ _=>simp at hz
   |no _ _=>simp at hz
  show P (.done (.ret (.bool (decide (xs.size<ys.size))))) s';rw[hfin];show h
theorem U4{i j:Int}{t u:Tok}{b:Bool}(e:(i ==j)=b):EqB prog w A s (.int i t) (.int j u) b:=λQ E h=>alm (by rw[e];show h)
theorem acw{i j:Int}{t u:Tok}:LtB prog w A s (.int i t) (.int j u) (decide (i<j)):=λQ E h=>lt_int h
end Pu
namespace Pu
open PySem PySem.Spec L2
end Pu
namespace Pu
open PySem PySem.Spec PySem.W L2
open PyProof.Rows hiding St
section
variable{e1 e2:afV}{f g:aq->R D}
end
end Pu
namespace Pu
open PySem
variable{xs:Array Nat}
abbrev BR(xs:Array Nat):Prop:=xs.toList.Pairwise (· < ·)
theorem BR.get(h:BR xs){i k:Nat}(hik:i<k)(hk:k<xs.size):xs[i]'()<xs[k]:=by
 have:=aiV.mp h i k (by simpa using alx hik hk) (by simpa using hk) hik;simpa using this
theorem GQ{xs:Array Nat}(hr:BR xs):∀{fuel lo hi:Nat},lo<=hi->hi<=xs.size->hi<=lo+fuel->(∀i (h:i<xs.size),i<lo->xs[i]<j)->(∀i (h:i<xs.size),hi<=i->j<=xs[i])->
  ajr xs j fuel lo hi<=xs.size/\(∀i (h:i<xs.size),i<ajr xs j fuel lo hi->xs[i]<j)/\∀i (h:i<xs.size),ajr xs j fuel lo hi<=i->j<=xs[i]
 | 0,lo,hi,h1,h2,h3,a,b=>by
  have e:lo=hi:=()
  subst e;rw[ajr];show⟨h2,a,b⟩
 | fuel+1,lo,hi,h1,h2,h3,a,b=>by
  rw[ajr];by_cases h:lo<hi
  .rw[z9p h];have hm1:lo<=(lo+hi) / 2:=()
   have hm2:(lo+hi) / 2<hi:=()
   have hms:(lo+hi) / 2<xs.size:=()
   have eg:xs.getD ((lo+hi) / 2) j=xs[(lo+hi) / 2]:=by simp[ajj,hms]
   show (if xs.getD ((lo+hi) / 2) j<j then _ else _)<=_/\_;by_cases hx:xs.getD ((lo+hi) / 2) j<j
   .simp only[z9p hx];show GQ hr () h2 () (λi hi' hl=>?_) b;by_cases e:i=(lo+hi) / 2
    .subst e;rw[<-eg];show hx
    .have:=hr.get (i:=i) (k:=(lo+hi) / 2) () hms;rw[eg] at hx;omega
   .simp only[z9n hx];show GQ hr hm1 () () a λi hi' hl=>?_;by_cases e:i=(lo+hi) / 2
    .subst e;rw[<-eg];omega
    .have:=hr.get (i:=(lo+hi) / 2) (k:=i) () hi';rw[eg] at hx;omega
  .rw[z9n h];have e:lo=hi:=()
   subst e;show⟨h2,a,b⟩
theorem vd(hr:BR xs)(j:Nat):afX xs j<=xs.size/\(∀i (h:i<xs.size),i<afX xs j->xs[i]<j)/\∀i (h:i<xs.size),afX xs j<=i->j<=xs[i]:=by
 unfold afX;show GQ hr (ahp _) (z0g _) () (λi _ h=>absurd h (Nat.not_lt_zero _)) λi h q=>absurd h ()
theorem Wo(hr:BR xs):afX xs 0=0:=by
 let⟨h1,h2,_⟩:=vd hr 0;cases e:afX xs 0 with
 |zero=>rfl
 | succ k=>
  have:=h2 0 () ();omega
theorem Wq(hr:BR xs)(hi:i<xs.size):afX xs (xs[i]+1)=i+1:=by
 let⟨h1,h2,h3⟩:=vd hr (xs[i]+1);have a:i<afX xs (xs[i]+1):=by
  by_cases h:i<afX xs (xs[i]+1)
  .show h
  .have:=h3 i hi ();omega
 by_cases h:afX xs (xs[i]+1)=i+1
 .show h
 .have hs:i+1<xs.size:=()
  have b:=h2 (i+1) hs ();have c:=hr.get (i:=i) (k:=i+1) () hs;omega
theorem sG(xs:Array α)(p:Nat)(x:α)(hp:p<=xs.size):(ah4 xs p x).toList=xs.toList.take p++x::xs.toList.drop p:=by
 unfold ah4;simp only[Array.toList_append,alf,Array.toList_extract,List.extract_eq_drop_take,ah0,akB,afM,List.singleton_append];congr 2;show aib ()
theorem Qo(hr:BR xs)(hj:xs[afX xs j]?≠some j):BR (ah4 xs (afX xs j) j):=by
 let⟨h1,h2,h3⟩:=vd hr j;unfold BR;rw[sG _ _ _ h1,agd];show⟨hr.sublist (ajp _ _),agt.mpr ⟨λb hb=>?_,hr.sublist (List.drop_sublist _ _)⟩,λa ha b hb=>?_⟩
 .let⟨i,hi,rfl⟩:=akC.mp hb;have hi':afX xs j+i<xs.size:=by simpa[Nat.add_comm] using (by simpa using hi:i<xs.size - afX xs j) |> λh=>(by omega:afX xs j+i<xs.size)
  have e:(xs.toList.drop (afX xs j))[i]=xs[afX xs j+i]:=()
  rw[e];have g:=h3 _ hi' ();cases i with
  | zero=>
   have ne:xs[afX xs j]≠j:=λz=>hj (by rw[agO (),z]);have g:j<=xs[afX xs j]:=g;show j<xs[afX xs j];omega
  | succ k=>
   have c:=hr.get (i:=afX xs j) (k:=afX xs j+(k+1)) () hi';have g0:=h3 (afX xs j) () (z0g _);omega
 .let⟨i,hi,rfl⟩:=akC.mp ha;have hi':i<afX xs j/\i<xs.size:=by simp at hi;omega
  have e:(xs.toList.take (afX xs j))[i]=xs[i]'hi'.2:=()
  rw[e];have g:=h2 i hi'.2 hi'.1;rcases afR.mp hb with rfl |hb
  .show g
  .let⟨k,hk,rfl⟩:=akC.mp hb;have hk':afX xs j+k<xs.size:=by simp at hk;omega
   have e2:(xs.toList.drop (afX xs j))[k]=xs[afX xs j+k]:=()
   rw[e2];have:=h3 _ hk' ();omega
theorem KC:al3 #[] j=false:=by
 unfold al3;simp
theorem acy(h:t.dummies= #[])(j:Nat):t.slot j≠.dummy:=by
 unfold ak7;simp only[h,KC];split
 .show λz=>nomatch z
 .simp
theorem Mi{p:ahK}:(t.advance p).dummy=p.dummy:=by
 unfold akl;split <;> rfl
theorem Wr(e:t.slot j= .empty):t.place[afX t.place j]?≠some j:=λz=>by
 unfold ak7 at e;simp only[z,beq_self_eq_true,if_true] at e;cases e
theorem GR{β:Type}{g:Nat->Option β}:∀{l:List Nat},l.Pairwise (· < ·)->((l.filterMap λj=>(g j).map (j,·)).map (·.1)).Pairwise (· < ·)
 |[],_=> .nil
 | j ::l,h=>by
  let⟨h1,h2⟩:=agt.mp h;cases q:g j with
  |none=>rw[agT (by simp[q])];show GR h2
  | some b=>
   rw[agD (b:=(j,b)) (by simp[q]),z1h];show agt.mpr ⟨λk hk=>?_,GR h2⟩;let⟨⟨a,c⟩,hm,rfl⟩:=afW.mp hk;let⟨i,hi,e⟩:=aiE.mp hm;cases qi:g i with
   |none=>rw[qi] at e;cases e
   |some d=>rw[qi] at e;cases e;show h1 _ hi
end Pu
namespace Pu
open PySem PySem.Spec PySem.W L2
open PyProof.Rows hiding St
variable{a it:afG}{es:Array (Int×afF)}{ep i slot:Nat}{Q:Option afF->afH->Prop}
section
variable{R:Result->afH->Prop}{I:afG}{fp wr:List afG}{G:Array aln->Array aln->Prop}{P:Nat->afF->Prop}{St:Nat->afH->Prop}{led:Bool}
end
def zy(w:af2):Obj:={cls:= .type "set",dict:=none,data:= .set #[] 0 (.fresh 0 0 (!w.params.followText "set-order"))}
theorem aaS(x:afF){Q:afF->afH->Prop}(h:Q (.ref s.heap.objs.size) {s with heap:=s.heap.push (zy w)}):
  ajL (model prog w) A (.call (.builtin "set.__new__") ⟨[.type "set",x],[]⟩) (wants Q E) s:=by
 show codeAny_of_tree ?_;show afE (m:=checkBuiltinCall "set.__new__" ⟨[.type "set",x],[]⟩) (ahW (F.newCall_set_1 x) (afJ ⟨ait F.plain_set_new _,ahO F.entry_set_new ?_⟩));rw[ahl F.plain_set_new];unfold ahx.«set.__new__» Builtin.Frozenset.newClass;have hsub:=sub_set_self;let⟨hp,g,d,tk,os⟩:=s
 dsimp only
 wp_walk
 show ahE (afJ ?_);show afK _ _ (newObj (.type "set") (.set #[] 0 (.fresh 0 0 (!w.params.followText "set-order")))) _ _ _;unfold newObj;show afE (wpAny_alloc (afJ (afJ h)))
theorem Nq:entryFor table "set.__iter__" =some ahx.«frozenset.__iter__»:=entryFor_alias (id':= "frozenset.__iter__") ⟨⟩ rfl {} ⟨⟩
theorem nH:entryFor table "set_iterator.__next__" =some ahx.«set_iterator.__next__»:=entryFor_of_tree ⟨⟩
theorem d7:Slot "set_iterator" "__next__" "set_iterator.__next__" :=
 .of (owner:= "set_iterator") (n:= "__next__") (by rw[typeLookup_type,akp];kernel_rfl) {} {} {}
  (by first |show .inl {} |show .inr {}) (by rw[akJ];kernel_rfl)
def jF(h:af8)(it:afG)(first:afF)(i:Nat)(a:afG)(n ep:Nat):Prop:=
 ∃(o:Obj),h.get? it=some o/\o.cls= .type "set_iterator"/\o.data= .fields #[first,agx i,.ref a,agx n,agx ep]
theorem IK{Q:afF->afH->Prop}(ho:s.heap.get? a=some o)(hc:o.cls= .type "set")(hd:o.data= .set es ep t)(hf:t.fits es.size=true)
  (hp:w.params.followText "set-order" =true\/t.plain=true\/es.size<=1)
  (h:∀h',jF h' s.heap.objs.size (agx 0) 0 a es.size ep->(∀b o,s.heap.get? b=some o->h'.get? b=some o)->h'.objs.size=s.heap.objs.size+1->Q (.ref s.heap.objs.size) {s with heap:=h'}):
  afK (model prog w) A (pyIter (.ref a)) Q E s:=by
 show wpAny_pyIter_slot ⟨o,ho,hc⟩ F.slot_set_iter (ags F.slot_set_iter ⟨o,ho,hc⟩ Nq ?_ (F.args_set_iter_1 _));show afK _ _ (aly a >>=_) _ _ s;unfold aly;show afE (afE (ai9 ho hd hf (afJ ?_)));show afE (m:=setDrawn a) ?_;unfold setDrawn aj5;show afE (ag2 ho hd hf (afE (afE (ahE (afJ (afJ ?_))))));have nd:(!w.params.followText "set-order" && (!t.plain && decide (es.size > 1)))=false:=by
  rcases hp with e |e |e
  .rw[e];rfl
  .rw[e];simp
  .rw[z9f ()];simp
 show afK _ _ (if (!w.params.followText "set-order" && (!t.plain && decide (es.size > 1)))=true then _ else _) _ _ _;rw[nd,z9n {}];show afE (afJ ?_);show afE (m:=setEpoch a) (wpAny_setEpoch_of ho hd hf ?_);show afE (agB (afJ ⟨_,rfl,"set_iterator",_,⟨_,z1f _ rfl,rfl⟩,d7.lookup,h _ ⟨_,z1f _ rfl,rfl,rfl⟩ (λb o e=>z1a _ e) (agM ..)⟩))
theorem pG(a:afF):argsOk "set_iterator.__next__" ⟨[a],[]⟩:=by
 unfold argsOk;rw[signature?_of (id:= "set_iterator.__next__") (n:= "__next__".toList.reverse) (o:= "set_iterator".toList.reverse) ⟨⟩ (show _=some ali by kernel_rfl)];kernel_rfl
theorem jF.ty{f:afF}(h:jF s.heap it f i a n ep):s.TypeIs (.ref it) "set_iterator" :=let⟨o,h1,h2,_⟩:=h;⟨o,h1,h2⟩
theorem Ws{e:Int×afF}(hit:jF s.heap it (agx slot) i a es.size ep)(hne:it≠a)(ho:s.heap.get? a=some o)(hd:o.data= .set es ep t)(hf:t.fits es.size=true)
  (hp:w.params.followText "set-order" =false)(hl:t.led=true)(hpl:t.plain=true\/es.size<=1)(hb:afX t.place slot=i)(he:es[i]?=some e)(hj:t.place[i]?=some j)
  (hQ:∀h',jF h' it (agx (j+1:Nat)) (i+1) a es.size ep->ahe it s.heap h'->Q (some e.2) {s with heap:=h'}):
  afK (model prog w) A (aiY (.ref it)) Q E s:=by
 let⟨oi,hi,hc,hdi⟩:=id hit;unfold aiY;show afE (ais (agz (name:=ahS "__next__") hit.ty d7 (ags d7 hit.ty nH ?_ (pG _))));show afK _ _ (fieldsOf (.ref it) >>=_) _ _ s;show afE (akK hi hdi ?_);show afE (m:=setEntries a) (ai9 ho hd hf ?_);show afK _ _ (if (((es.size:Nat):Int) !=((es.size:Nat):Int))=true then _ else _) _ _ _;rw[z9n ()];show afE (m:=akL a ((slot:Nat):Int).toNat ((i:Nat):Int).toNat ((ep:Nat):Int).toNat) ?_;unfold akL aj5;show afE (ag2 ho hd hf (afE (afE (ahE (afJ ?_)))));have nd:(!t.plain && decide (es.size > 1))=false:=by
  rcases hpl with q |q
  .rw[q];rfl
  .rw[z9f ()];simp
 show afK _ _ (if w.params.followText "set-order" =true then _ else _) _ _ _;rw[hp,z9n {}];show afK _ _ (if (!t.plain && decide (es.size > 1))=true then _ else _) _ _ _;rw[nd,z9n {}];show afK _ _ ((if (!t.led && !es.isEmpty)=true then unsupported "set:maker-not-led" else pure Unit.unit) >>=_) _ _ _;rw[hl];show afE (afJ (afJ ?_));have es1:(match es[afX t.place ((slot:Nat):Int).toNat]?,t.place[afX t.place ((slot:Nat):Int).toNat]? with |some (_,x),some j=>some (x,j+1) |_,_=>none)=some (e.2,j+1):=by
  rw[ah3,hb,he,hj]
 show afK _ _ (match (match es[afX t.place ((slot:Nat):Int).toNat]?,t.place[afX t.place ((slot:Nat):Int).toNat]? with |some (_,x),some j=>some (x,j+1) |_,_=>none) with |some (x,next)=>_ |none=>_) _ _ _;rw[es1];show afE (aiy hi hdi () ?_);have g1:=agU (Obj.mapFields λx=>x.setIfInBounds 0 (agx ((j+1:Nat):Int))) hi (aiL (ahj hdi _));have d1:=ahj hdi (λx=>x.setIfInBounds 0 (agx ((j+1:Nat):Int)));show afE (aiy g1 d1 () (afJ ⟨_,rfl,afJ (hQ _ ⟨_,agU _ g1 (aiL (ahj d1 _)),?_,?_⟩ ((agW ..).trans (agW ..)))⟩))
 .show (ajq ..).trans ((ajq ..).trans hc)
 .rw[ahj d1];simp[agx]
theorem Yx{e:Int×afF}(hit:jF s.heap it (agx slot) i a es.size ep)(hne:it≠a)(ho:s.heap.get? a=some o)(hd:o.data= .set es ep t)(hf:t.fits es.size=true)
  (hp:w.params.followText "set-order" =true)(he:(aiH (w.params.setOrder a ep) es)[i]?=some e)
  (hQ:∀h',jF h' it (agx slot) (i+1) a es.size ep->ahe it s.heap h'->Q (some e.2) {s with heap:=h'}):
  afK (model prog w) A (aiY (.ref it)) Q E s:=by
 let⟨oi,hi,hc,hdi⟩:=id hit;unfold aiY;show afE (ais (agz (name:=ahS "__next__") hit.ty d7 (ags d7 hit.ty nH ?_ (pG _))));show afK _ _ (fieldsOf (.ref it) >>=_) _ _ s;show afE (akK hi hdi ?_);show afE (m:=setEntries a) (ai9 ho hd hf ?_);show afK _ _ (if (((es.size:Nat):Int) !=((es.size:Nat):Int))=true then _ else _) _ _ _;rw[z9n ()];show afE (m:=akL a ((slot:Nat):Int).toNat ((i:Nat):Int).toNat ((ep:Nat):Int).toNat) ?_;unfold akL aj5;show afE (ag2 ho hd hf (afE (afE (ahE (afJ ?_)))));show afK _ _ (if w.params.followText "set-order" =true then _ else _) _ _ _;rw[hp,z9p rfl];show afK _ _ (if (ep !=((ep:Nat):Int).toNat)=true then _ else _) _ _ _;rw[z9n ()];show afE (m:=setWalk a) ?_;unfold setWalk aj5;show afE (ag2 ho hd hf (afE (afE (ahE (afJ ?_)))));show afK _ _ (if w.params.followText "set-order" =true then _ else _) _ _ _;rw[hp,z9p rfl];show afE (ahE (afJ (afJ ?_)));have es1:((aiH (w.params.setOrder a ep) es)[((i:Nat):Int).toNat]?).map (λe=>(e.2,((slot:Nat):Int).toNat))=some (e.2,slot):=by
  rw[show ((slot:Nat):Int).toNat=slot from ah3 _,show ((i:Nat):Int).toNat=i from ah3 _,he];rfl
 show afK _ _ (match ((aiH (w.params.setOrder a ep) es)[((i:Nat):Int).toNat]?).map (λe=>(e.2,((slot:Nat):Int).toNat)) with |some (x,next)=>_ |none=>_) _ _ _;rw[es1];show afE (aiy hi hdi () ?_);have g1:=agU (Obj.mapFields λx=>x.setIfInBounds 0 (agx ((slot:Nat):Int))) hi (aiL (ahj hdi _));have d1:=ahj hdi (λx=>x.setIfInBounds 0 (agx ((slot:Nat):Int)));show afE (aiy g1 d1 () (afJ ⟨_,rfl,afJ (hQ _ ⟨_,agU _ g1 (aiL (ahj d1 _)),?_,?_⟩ ((agW ..).trans (agW ..)))⟩))
 .show (ajq ..).trans ((ajq ..).trans hc)
 .rw[ahj d1];simp[agx]
theorem Yy(hit:jF s.heap it (agx slot) i a es.size ep)(hne:it≠a)(ho:s.heap.get? a=some o)(hd:o.data= .set es ep t)(hf:t.fits es.size=true)
  (hp:w.params.followText "set-order" =false)(hl:t.led=true)(hpl:t.plain=true\/es.size<=1)(hb:afX t.place slot=es.size)(hh:A.handled=none)
  (hQ:∀h',ake it s.heap h'->Q none {s with heap:=h'}):
  afK (model prog w) A (aiY (.ref it)) Q E s:=by
 let⟨oi,hi,hc,hdi⟩:=id hit;unfold aiY;show afE (ais (agz (name:=ahS "__next__") hit.ty d7 (ags d7 hit.ty nH ?_ (pG _))));show afK _ _ (fieldsOf (.ref it) >>=_) _ _ s;show afE (akK hi hdi ?_);show afE (m:=setEntries a) (ai9 ho hd hf ?_);show afK _ _ (if (((es.size:Nat):Int) !=((es.size:Nat):Int))=true then _ else _) _ _ _;rw[z9n ()];show afE (m:=akL a ((slot:Nat):Int).toNat ((i:Nat):Int).toNat ((ep:Nat):Int).toNat) ?_;unfold akL aj5;show afE (ag2 ho hd hf (afE (afE (ahE (afJ ?_)))));have nd:(!t.plain && decide (es.size > 1))=false:=by
  rcases hpl with q |q
  .rw[q];rfl
  .rw[z9f ()];simp
 show afK _ _ (if w.params.followText "set-order" =true then _ else _) _ _ _;rw[hp,z9n {}];show afK _ _ (if (!t.plain && decide (es.size > 1))=true then _ else _) _ _ _;rw[nd,z9n {}];show afK _ _ ((if (!t.led && !es.isEmpty)=true then unsupported "set:maker-not-led" else pure Unit.unit) >>=_) _ _ _;rw[hl];show afE (afJ (afJ ?_));have es1:(match es[afX t.place ((slot:Nat):Int).toNat]?,t.place[afX t.place ((slot:Nat):Int).toNat]? with |some (_,x),some j=>some (x,j+1) |_,_=>(none:Option (afF×Nat)))=none:=by
  rw[show ((slot:Nat):Int).toNat=slot from ah3 _,hb,ajm (z0g _)]
 show afK _ _ (match (match es[afX t.place ((slot:Nat):Int).toNat]?,t.place[afX t.place ((slot:Nat):Int).toNat]? with |some (_,x),some j=>some (x,j+1) |_,_=>none) with |some (x,next)=>_ |none=>_) _ _ _;rw[es1];show afE (aiy hi hdi () ?_);unfold newExc newTuple;show afE (afE (agB (afE (m:=ajy _ _) (ahW (a:=agv) (by first |rfl |(unfold ajy;rfl)) (agB ?_ (by size_fits)))) (by size_fits)));unfold raiseNew;show afE (wpAny_handled ?_);rw[show A.in1.handled=none by simp[hh]];show afE (afJ (wpAny_throw ?_));show afE (ahV (b:=true) (T:= "StopIteration") ?ty akI (afJ (hQ _ ?ex)))
 case ty=>show⟨_,z1f _ rfl,rfl⟩
 case ex=>show ((agW ..).extBut.push _).push _
theorem IV:∀{l:List α} {i:Nat} (h:i<l.length),(l[i]::l.eraseIdx i).Perm l
 |_::_,0,_=> .refl _
 |x::l,i+1,h=>(alP x (l[i]'(by simpa using h)) (l.eraseIdx i)).trans ((IV (by simpa using h)).cons x)
theorem Fv{next:Nat->Nat}:∀{n k:Nat} {l:List α} {out:Array α},l.length=n->(al4 next n k l out).toList.Perm (out.toList++l)
 | 0,k,l,out,h=>by
  have e:l=[]:=aj8.mp h;subst e;rw[al4,agi]
 | n+1,k,l,out,h=>by
  have hl:next k % l.length<l.length:=alj _ ();rw[al4,aga hl];show (Fv (by rw[List.length_eraseIdx_of_lt hl];omega)).trans ?_;rw[alf,afM];show (List.Perm.refl _).append (IV hl)
theorem BW{next:Nat->Nat}{xs:Array α}:(aiH next xs).toList.Perm xs.toList:=by
 have:=Fv (next:=next) (n:=xs.size) (k:=0) (l:=xs.toList) (out:= #[]) ();simpa[aiH] using this
theorem aaT(hit:jF s.heap it (agx slot) i a es.size ep)(ho:s.heap.get? a=some o)(hd:o.data= .set es ep t)(hf:t.fits es.size=true)
  (hp:w.params.followText "set-order" =true)(he:(aiH (w.params.setOrder a ep) es)[i]?=none)(hh:A.handled=none)
  (hQ:∀h',ake it s.heap h'->Q none {s with heap:=h'}):
  afK (model prog w) A (aiY (.ref it)) Q E s:=by
 let⟨oi,hi,hc,hdi⟩:=id hit;unfold aiY;show afE (ais (agz (name:=ahS "__next__") hit.ty d7 (ags d7 hit.ty nH ?_ (pG _))));show afK _ _ (fieldsOf (.ref it) >>=_) _ _ s;show afE (akK hi hdi ?_);show afE (m:=setEntries a) (ai9 ho hd hf ?_);show afK _ _ (if (((es.size:Nat):Int) !=((es.size:Nat):Int))=true then _ else _) _ _ _;rw[z9n ()];show afE (m:=akL a ((slot:Nat):Int).toNat ((i:Nat):Int).toNat ((ep:Nat):Int).toNat) ?_;unfold akL aj5;show afE (ag2 ho hd hf (afE (afE (ahE (afJ ?_)))));show afK _ _ (if w.params.followText "set-order" =true then _ else _) _ _ _;rw[hp,z9p rfl];show afK _ _ (if (ep !=((ep:Nat):Int).toNat)=true then _ else _) _ _ _;rw[z9n ()];show afE (m:=setWalk a) ?_;unfold setWalk aj5;show afE (ag2 ho hd hf (afE (afE (ahE (afJ ?_)))));show afK _ _ (if w.params.followText "set-order" =true then _ else _) _ _ _;rw[hp,z9p rfl];show afE (ahE (afJ (afJ ?_)));have es1:((aiH (w.params.setOrder a ep) es)[((i:Nat):Int).toNat]?).map (λe=>(e.2,((slot:Nat):Int).toNat))=none:=by
  rw[show ((i:Nat):Int).toNat=i from ah3 _,he];rfl
 show afK _ _ (match ((aiH (w.params.setOrder a ep) es)[((i:Nat):Int).toNat]?).map (λe=>(e.2,((slot:Nat):Int).toNat)) with |some (x,next)=>_ |none=>_) _ _ _;rw[es1];show afE (aiy hi hdi () ?_);unfold newExc newTuple;show afE (afE (agB (afE (m:=ajy _ _) (ahW (a:=agv) (by first |rfl |(unfold ajy;rfl)) (agB ?_ (by size_fits)))) (by size_fits)));unfold raiseNew;show afE (wpAny_handled ?_);rw[show A.in1.handled=none by simp[hh]];show afE (afJ (wpAny_throw ?_));show afE (ahV (b:=true) (T:= "StopIteration") ?ty akI (afJ (hQ _ ?ex)))
 case ty=>show⟨_,z1f _ rfl,rfl⟩
 case ex=>show ((agW ..).extBut.push _).push _
theorem Nr:entryFor table "set_iterator.__iter__" =some ahx.«dict_keyiterator.__iter__»:=entryFor_alias (id':= "dict_keyiterator.__iter__") ⟨⟩ rfl {} ⟨⟩
theorem BX:Slot "set_iterator" "__iter__" "set_iterator.__iter__" :=
 .of (owner:= "set_iterator") (n:= "__iter__") (by rw[typeLookup_type,akp];kernel_rfl) {} {} {}
  (by first |show .inl {} |show .inr {}) (by rw[akJ];kernel_rfl)
theorem Qp(a:afF):argsOk "set_iterator.__iter__" ⟨[a],[]⟩:=by
 unfold argsOk;rw[signature?_of (id:= "set_iterator.__iter__") (n:= "__iter__".toList.reverse) (o:= "set_iterator".toList.reverse) ⟨⟩ (show _=some ali by kernel_rfl)];kernel_rfl
section
theorem jF.self{f:afF}{Q:afF->afH->Prop}(hit:jF s.heap it f i a n ep)(h:Q (.ref it) s):afK (model prog w) A (pyIter (.ref it)) Q E s:=by
 show wpAny_pyIter_slot hit.ty BX (ags BX hit.ty Nr ?_ (Qp _));show afK _ _ (ret (.ref it)) _ _ s;show afJ ⟨_,rfl,"set_iterator",_,hit.ty,d7.lookup,h⟩
theorem jF.at{h h':af8}{f:afF}(hit:jF h it f i a n ep)(k:∀o,h.get? it=some o->h'.get? it=some o):jF h' it f i a n ep:=let⟨o,h1,h2⟩:=hit;⟨o,k o h1,h2⟩
def IW(L:List (Int×afF))(i:Nat)(v:afF):Prop:=L[i]?.map (·.2)=some v
variable{I a:afG}{es:Array (Int×afF)}{ep:Nat}
theorem Wt(hh:A.handled=none)(hne:I≠a)(hd:o.data= .set es ep t)(hf:t.fits es.size=true)(hp:w.params.followText "set-order" =true):
  Walks prog w A I [I,a] [I] es.size (IW (aiH (w.params.setOrder a ep) es).toList) (λi h=>jF h I (agx (0:Nat)) i a es.size ep/\h.get? a=some o) where
 sub:=λb hb=>by simp at hb;simp[hb]
 frame:=λ_ _ _ st hk=>⟨st.1.at λo e=>hk I () o e,hk a () o st.2⟩
 item:=λi s Q E hi st hQ=>by
  have sz:(aiH (w.params.setOrder a ep) es).size=es.size:=by have:=(BW (next:=w.params.setOrder a ep) (xs:=es)).length_eq;simpa using this
  have e:(aiH (w.params.setOrder a ep) es)[i]?=some ((aiH (w.params.setOrder a ep) es)[i]'()):=agO ();show Yx st.1 hne st.2 hd hf hp e λh' h1 h2=>?_;show hQ _ h' s.toks (by unfold IW;rw[aiN,e];rfl) ⟨h1,(h2.2 a (agc hne)).trans st.2⟩ λb o hb e=>h2.extBut b o (λh=>hb (by simp[h])) e
 done:=λs Q E st hQ=>aaT st.1 st.2 hd hf hp (ajm (by have:=(BW (next:=w.params.setOrder a ep) (xs:=es)).length_eq;simp at this;omega)) hh λh' he'=>hQ h' s.toks λb o hb e=>he' b o (λh=>hb (by simp[h])) e
 self:=λ_ _ _ _ st hQ=>st.1.self hQ
theorem Tr(hh:A.handled=none)(hne:I≠a)(hd:o.data= .set es ep t)(hf:t.fits es.size=true)(hp:w.params.followText "set-order" =false)(hl:t.led=true)(hpl:t.plain=true\/es.size<=1)(hr:BR t.place):
  Walks prog w A I [I,a] [I] es.size (IW es.toList) (λi h=>(∃slot:Nat,jF h I (agx slot) i a es.size ep/\afX t.place slot=i)/\h.get? a=some o) where
 sub:=λb hb=>by simp at hb;simp[hb]
 frame:=λ_ _ _ st hk=>⟨let⟨x,h1,h2⟩:=st.1;⟨x,h1.at λo e=>hk I () o e,h2⟩,hk a () o st.2⟩
 item:=λi s Q E hi st hQ=>by
  let⟨⟨slot,h1,h2⟩,ho⟩:=st;have sz:t.place.size=es.size:=by unfold SetTable.fits at hf;simp at hf;show hf.1
  have e:es[i]?=some es[i]:=agO hi;have ej:t.place[i]?=some (t.place[i]'()):=agO ();show Ws h1 hne ho hd hf hp hl hpl h2 e ej λh' h3 h4=>?_;show hQ _ h' s.toks (by unfold IW;rw[aiN,e];rfl) ⟨⟨_,h3,Wq hr ()⟩,(h4.2 a (agc hne)).trans ho⟩ λb o hb e=>h4.extBut b o (λh=>hb (by simp[h])) e
 done:=λs Q E st hQ=>by
  let⟨⟨slot,h1,h2⟩,ho⟩:=st;show Yy h1 hne ho hd hf hp hl hpl h2 hh λh' he'=>hQ h' s.toks λb o hb e=>he' b o (λh=>hb (by simp[h])) e
 self:=λ_ _ _ _ st hQ=>let⟨_,h1,_⟩:=st.1;h1.self hQ
end
theorem Qq:typeLookup (.type "set") "__len__" =pure (some (.builtin "set.__len__")):=by rw[typeLookup_type,akp];kernel_rfl
section
variable{a:afV}{p pos p2 pos2:Pos}
theorem Yz:ahR "set" =some (.type "set"):=⟨⟩
end
end Pu
namespace Pu
open PySem PySem.Spec L2
open PyProof.Rows hiding St
variable{body:afV}{clos:List (Str×afG)}{qual name:Str}
def GX(st:agl):afV:=match defBody st with
 | .Return (some (.Call _ as _ _)) _::_=>as.getD 3 (.Name "" ⟨0,0,0,0⟩)
 |_=> .Name "" ⟨0,0,0,0⟩
def acz:afV->ah6
 | .Lambda a _ _ _=>a
 |_=>default
def U5:afV->afV
 | .Lambda _ b _ _=>b
 |e=>e
def zA:afV->ahz
 | .Lambda _ _ s _=>s
 |_=>default
inductive tZ (H:Hp) (a:afG) (name qual:Str) (params:ah6) (body:afV) (scope:ahz) (clos:List (Str×afG)):Prop
 | mk (fo:Obj) (pm:afF) (c':afG) (ctv:afF) (oc:Obj) (vs:Array afF) (t:Tok) (h1:H a=some (.frz fo (.own a))) (h2:fo.data= .func (w0t name qual params body scope clos pm (.ref c') ctv))
  (h3:H c'=some (.frz oc (.own c'))) (h4:oc.data= .fields vs) (h5:vs[1]?=some (.str qual t)):tZ H a name qual params body scope clos
theorem tZ.fz{H H':Hp}(h:tZ H a name qual params body scope clos)(s:∀b o u,H b=some (.frz o u)->H' b=some (.frz o u)):tZ H' a name qual params body scope clos:=by
 let⟨fo,pm,c',ctv,oc,vs,t,h1,h2,h3,h4,h5⟩:=h;show⟨fo,pm,c',ctv,oc,vs,t,s _ _ _ h1,h2,s _ _ _ h3,h4,h5⟩
theorem aaU{M:Model}{line:Nat}{c P:afG}{ps:Array afF}{tq:Tok}
  (I:Inv X pins σ H s)(hB:iC X.base X.mg c P)(hc:X.env.code= .ref c)(e0:H P=some (.tbl ps))(q0:ps[0]?=some (.str qual tq))(hcl:ajF scope X.env=pure clos)
  (h:∀a H1 s',Inv X pins σ H1 s'->Same H H1->tZ H1 a name qual params body scope clos->Q (.ref a) s'):
  afK M A (makeFunction name qual params (.expr body) scope X.env [] [] [] pos line) Q E s:=by
 let⟨qs,hP,tr,al⟩:=I.hok P _ e0;have hgs:s.heap.Ns af0 X.mg:=I.mod.glob.keeps I.bk;have C:w0k s.heap c P:=hB.code.keeps I.bk;let⟨bm,ob,b1,b2,b3,b4,b5,b6⟩:=hB.blt;have hgP:af0≠P:=λq=>by
  let⟨o,es,ep,e,hd,_⟩:=hgs;rw[q,hP] at e;cases e;cases hd
 have hbP:bm≠P:=λq=>by
  have e:=I.bk _ _ b3;rw[q,hP] at e;cases e;cases b4
 have hbG:bm≠af0:=λq=>by
  let⟨o,es,ep,e,hd,_⟩:=I.mod.glob;rw[q,e] at b3;cases b3;rw[hd] at b6;cases b6
 have hbb:s.heap.BuiltinsAt X.mg P:=⟨bm,ob,b1,b2,hbG,hbP,I.bk _ _ b3,b4,b5,b6⟩;cases hf:ajC pos qs.toList with
 | some cv=>
  let⟨c',oc,vs,q,t,tq',rfl,h1,h2,h3,h4⟩:=al pos cv hf;rw[q0] at h4;cases h4;show PySem.W.kla_makeFunctionHit (mg:=X.mg) hcl I.ok.glob hgs hc C hP tr hf hbb λctv h' tk hk hsz=>?_;have I1:Inv X pins σ H {s with heap:=h',toks:=tk}:=I.kept (t':=tk) hk;have hn:H h'.objs.size=none:=I1.hok.fresh (z0g _);show h _ _ _ (I1.laid (t':=tk) (o:= .frz _ (.own h'.objs.size)) (λb u z=>z1a _ z) (z0g _) ⟨z1f _ rfl,_,z1f _ rfl⟩) (Same.upd hn)
   ⟨_,_,c',ctv,oc,vs,t,upd_same,rfl,by rw[upd_ne (ne_of_none h1 hn)];show h1,h2,h3⟩
 | none =>
  show PySem.W.kla_makeFunction (mg:=X.mg) hcl I.ok.glob hgs hc C hP tr hf hgP hbb λc' ctv h' tk hx hge hlt hrec htb=>?_;let⟨c2,oc,vs,t,e2,hoc,hd,hv⟩:=hrec;cases e2;have hn:H c'=none:=I.hok.fresh hge;have old:∀b u,H b=some u->upd H c' (.frz oc (.own c')) b=some u:=λb u z=>by rw[upd_ne (ne_of_none z hn)];show z
  have I1 : Inv X pins σ (upd H c' (.frz oc (.own c'))) {s with heap:=h',toks:=tk}:=by
   show I.call' (ch:=[]) rfl ⟨λb o q n _ _=>hx b o (λz=>by rw[z,e0] at n;cases n) q,λb o q n _ _=>⟨o.slots,hx b o (λz=>by rw[z,e0] at n;cases n) q⟩,λb o q n _=>?_,λb o q _=>?_,λb xs q=>old _ _ q,λb o u q=>old _ _ q,λb p q=>⟨#[],by rw[old _ _ q];simp⟩⟩ (λb u q=>?_) I.bare (λb z=>absurd z ())
   .rw[upd_ne (agm (z0d (z2c q) hge))];show n
   .by_cases hb:b=P
    .rw[hb];show⟨_,htb⟩
    .show⟨o,hx b o hb q⟩
   .by_cases hb:b=c'
    .subst hb;rw[upd_same] at q;cases q;show⟨hoc,oc,hoc⟩
    .rw[upd_ne hb] at q;by_cases hp:b=P
     .subst hp;rw[e0] at q;cases q;show⟨_,htb,?_,λp cv z=>?_⟩
      .have:=Fp (a:=pos.line) (s:=0) (b:=pos.col) (t:=0) (c:=afS c') qs.toList tr;simpa[agx] using this
      .have z':ajC p (qs.toList++[.int pos.line 0,.int pos.col 0,.ref c'])=some cv:=by simpa[agx] using z
       rcases LR _ tr z' with z1 |z1
       .let⟨c3,o3,v3,q3,t3,tq3,y1,y2,y3⟩:=al p cv z1;show⟨c3,o3,v3,q3,t3,tq3,y1,old _ _ y2,y3⟩
       .show⟨c',oc,vs,qual,t,tq,z1,upd_same,hd,hv,q0⟩
     .show (I.hok b u q).stay (λd v hd z=>hx d v (λy=>hd.elim (λx=>hp (x.symm.trans y)) λx=>by rw[y,e0] at x;cases x) z) (λd z=>old _ _ z) (λd xs z=>old _ _ z) λd o u _ z=>old _ _ z
  have hn2:upd H c' (.frz oc (.own c')) h'.objs.size=none:=I1.hok.fresh (z0g _);show h _ _ _ (I1.laid (t':=tk) (o:= .frz _ (.own h'.objs.size)) (λb u z=>z1a _ z) (z0g _) ⟨z1f _ rfl,_,z1f _ rfl⟩) ((Same.upd hn).trans (Same.upd hn2))
   ⟨_,_,c',ctv,oc,vs,t,upd_same,rfl,by rw[upd_ne (agm hlt),upd_same],hd,hv⟩
def afr(name qual:Str)(params:ah6)(body:afV)(scope:ahz)(clos:List (Str×afG)):TE:=λ_ H Q=>∀a H1,Same H H1->tZ H1 a name qual params body scope clos->Q (.ref a) H1
theorem adQ{c P:afG}(hB:iC X.base X.mg c P)(hT:Tb [(P,qual)] X.H₀)(hc:X.env.code= .ref c)(hcl:ajF scope X.env=pure clos)(hq:X.env.qual++ "<lambda>" =qual)(hd:defaultsOf params X.env=([],[])):
  PE X (.Lambda params body scope pos) (afr "<lambda>" qual params body scope clos):=by
 intro pins s σ H Q I h;let⟨ps,tq,e0,q0⟩:=(hT.un I.base) (P,qual) ();show PySem.W.kla_eval hd ?_;rw[hq];show aaU I hB hc e0 q0 hcl λa H1 s' I1 sm fh=>⟨.ref a,H1,I1,rfl,h a H1 sm fh⟩
theorem acA{N ps:List Str}{k n m:Nat}
  (S:FnScope N ps scope)(hn:ps.length=n)(hm:N.length=n+m)
  (hbind:∀(pm:afF) (cdv ct:afF) (us:List afF),us.length=ps.length->aiO (w0t name qual params body scope [] pm cdv ct) ⟨us,[]⟩=pure (ps.zip us))
  (hb:∀(cdv:afF) (A:afZ) (outer:List PySem.Env) (s:afH) (H:Hp) (E:XK) (f:afG),Room k (A.deeper (aij qual scope s.heap.objs.size f cdv))->DE (cxOf CX0 P w K mg base N qual scope f cdv A outer s H E).nox body fe)
  (fh:tZ H a name qual params body scope []):pq P w K mg base (k+1) (λds=>fe ((ds.map Ent.val).map some++afU m none)) n a H:=by
 intro A outer s H1 us vs Q E hr e0 hz r sp;let⟨O,ds,rs,hl,al,sp⟩:=sp;let⟨fo,pm,c',ctv,oc,vq,t,f1,f2,f3,f4,f5⟩:=fh.fz hz;let⟨hfo,_⟩:=e0.hok a _ f1;let⟨hoc,_⟩:=e0.hok c' _ f3;have lim:s.heap.NoLimit:=e0.mod.nolimit.keeps λb o e=>(e0.bs b o e).1;have hlu:us.length=ps.length:=by rw[<-r.length,<-rs.length,hl,hn]
 have hkind:∀y∈ps.zip us,scope.names.lookup y.1=some .local\/(scope.names.lookup y.1=some .cell/\((agn (s.heap.objs.size+1) scope.names []).lookup y.1).isSome=true):=λ⟨n,v⟩ hy=>by
  rcases S.par n (ajO hy).1 with q |q
  .show .inl q
  .show .inr ⟨q,w0l _ _ _ (.inl q)⟩
 show PySem.W.kla_callFunE hr.depth hfo f2 S.co S.gen rfl ⟨c',oc,vq,t,rfl,hoc,f4,f5⟩ ?_;rw[hbind pm _ _ us hlu];show afJ (wpAny_newFunctionEnv_cells S.kind hkind λenv he s1 x=>?_);subst he;show⟨lim.keeps x.toInCall.keep,PySem.W.kla_codeExpr ?_⟩;have I:Inv (cxOf CX0 P w K mg base N qual scope a (.ref c') A outer s H1 E) [] (start N vs) H1 s1:=inv_start S hr.hd e0 (by rw[<-rs.length,hl,hn]) r x;have yu:N.length=vs.length+m:=by rw[hm,<-rs.length,hl]
 have J:At (cxOf CX0 P w K mg base N qual scope a (.ref c') A outer s H1 E).nox H1 O O H1 ((ds.map Ent.val).map some++afU m none) (start N vs):=by
  rw[zm yu];show zj (X:=(cxOf CX0 P w K mg base N qual scope a (.ref c') A outer s H1 E).nox) (by rw[z1g,rs.length];show yu) (rM rs) al
 show ahf (PE.nox (hb (.ref c') A outer s H1 E a (hr.deeper _)) [] s1 (start N vs) H1 (λv H'=>Q v H') I ⟨_,O,J.inn,?_⟩) (λu s' hs=>?_) λe s' hs=>hs
 .have sp:(match fe ((ds.map Ent.val).map some++afU m none) with | .ok d=>∀v H',Same H1 H'->Rep K O H' d v->Q v H' |_=>False):=sp;cases q:fe ((ds.map Ent.val).map some++afU m none) with
  |ok d=>rw[q] at sp;show λv H' s' r'=>sp v H' s' r'
  |err c=>rw[q] at sp;show sp.elim
  |bad=>rw[q] at sp;show sp
 .let⟨v,H',J',rv,q⟩:=hs;show⟨v,H',J'.os,J'.bare,J'.base,J'.hok,rv,q⟩
def aaV(f1 f2 f3:aq->R D)(FS:afG->(List D->R D)->List D->R D)(GG:List D->R D):aq->So:=λρ=>match f1 ρ with
 | .ok a=>(match f2 ρ with
  | .ok b=>(match f3 ρ with
   | .ok d=>(match allOf (λx=>FS x GG [a,b,d]) with
    | .ok r=> .rt r
    |_=> .bad)
   |_=> .bad)
  |_=> .bad)
 |_=> .bad
section
variable{qual:Str}{body:afV}{xS:Str}{cc P fS:afG}{Fq:agJ}{BK:List Str}{kS kG q:Nat}{FS:afG->(List D->R D)->List D->R D}{GG:List D->R D}{p p4 pos2 aaO:Pos}{e1 e2 e3:afV}{f1 f2 f3:aq->R D}
theorem acB(hB:iC X.base X.mg cc P)(hT:Tb [(P,qual)] X.H₀)(hcode:X.env.code= .ref cc)(Sw:FnOk X.prog X.w X.K X.mg X.base CX0 kS fS Fq BK (spS X.prog X.w X.mg X.base kG X.K 3 q FS))(hr:Room kS X.A)(hm:X.mg xS=some (.ref fS))(hk:w0d X.K (.ref fS)=true)(hb:Binds X.K Fq BK [])
  (Qg:∀a H,tZ H a "<lambda>" qual params body scope []->pq X.prog X.w X.K X.mg X.base kG GG q a H)
  (h1:DE X e1 f1)(h2:DE X e2 f2)(h3:DE X e3 f3)
  (hcl:ajF scope X.env=pure [])(hq:X.env.qual++ "<lambda>" =qual)(hd:defaultsOf params X.env=([],[]))
  (hg:Gl X xS:=by rfl)(hdb:(xS ==("__debug__" :Str))=false:=by decide)
  (Ys:afL [e1,e2,e3,.Lambda params body scope p4] X.env=(false,eval e1 X.env)::afL [e2,e3,.Lambda params body scope p4] X.env:=by rfl)(he2:afL [e2,e3,.Lambda params body scope p4] X.env=(false,eval e2 X.env)::afL [e3,.Lambda params body scope p4] X.env:=by rfl)
  (he3:afL [e3,.Lambda params body scope p4] X.env=(false,eval e3 X.env)::afL [.Lambda params body scope p4] X.env:=by rfl)(he4:afL [.Lambda params body scope p4] X.env=(false,eval (.Lambda params body scope p4) X.env)::afL [] X.env:=by rfl)
  (hpl:(agS pos2 (afL [e2,e3,.Lambda params body scope p4] X.env)).any (·.1)=false:=by rfl):
  mY X [.Return (some (.Call (.Name xS p) [e1,e2,e3,.Lambda params body scope p4] [] pos2)) aaO] (aaV f1 f2 f3 FS GG):=by
 have A:=pa_cons h1 (pa_cons h2 (pa_cons h3 (pa_cons (adQ (X:=X) (pos:=p4) (body:=body) hB hT hcode hcl hq hd) pa_nil he4) he3) he2) Ys;show PSs.imp (pss_one (ps_ret (pe_call (dvs:=[]) (pos:=pos2) Sw hr hg hm hk hb .nil pass0 A hdb Ys hpl))) λσ H E h=>?_;let⟨H0,O0,O,ρ,j,h⟩:=h;unfold aaV at h;show⟨ρ,O,j.inn,?_⟩;cases q1:f1 ρ with
 |err _=>rw[q1] at h;show h.elim
 |bad=>rw[q1] at h;show h.elim
 | ok d1 =>
  rw[q1] at h;simp only at h;intro v1 H2 s2 r1;show⟨ρ,O,j.inn.same s2,?_⟩;cases q2:f2 ρ with
  |err _=>rw[q2] at h;show h.elim
  |bad=>rw[q2] at h;show h.elim
  | ok d2=>
   rw[q2] at h;simp only at h;intro v2 H3 s3 r2;show⟨ρ,O,(j.inn.same s2).same s3,?_⟩;cases q3:f3 ρ with
   |err _=>rw[q3] at h;show h.elim
   |bad=>rw[q3] at h;show h.elim
   | ok d3=>
    rw[q3] at h;simp only at h;cases q4:allOf (λx=>FS x GG [d1,d2,d3]) with
    |bad=>rw[q4] at h;show h.elim
    |err _=>rw[q4] at h;show h.elim
    | ok d=>
     rw[q4] at h;intro v3 H4 s4 r3 a H5 s5 fh;have s15:Same H H5:=((s2.trans s3).trans s4).trans s5;let⟨fo,pm,c',ctv,oc,vq,t,l1,l2,l3,l4,l5⟩:=id fh;show⟨O,[d1,d2,d3],[v1,v2,v3],a,GG,rfl,.cons (r1.same ((s3.trans s4).trans s5)) (.cons (r2.same (s4.trans s5)) (.cons (r3.same s5) .nil)),rfl,(j.inn.same s15).al,⟨rfl,fo,_,l1,l2⟩,Qg a H5 fh,?_⟩;rw[Qi q4 a];show λv' H' s' r'=>h v' H' (j.same.trans (s15.trans s')) (r'.fewer j.sub)
end
end Pu
namespace Pu
open PySem PySem.Spec PySem.W L2
open PyProof.Rows hiding St
def Kp(I S:afG)(h0 h:af8):Prop:=∀b o,b≠I->b≠S->h0.get? b=some o->h.get? b=some o
theorem Ox:(toString "min" ++toString ".loop" :String)= "min.loop" :={}
section
variable{R:Result->afH->Prop}{I l S:afG}{its:Array afF}{h0:af8}{bt:Nat->Nat->Bool}
theorem KD(hh:A.handled=none)(hl:l≠I)(hS1:S≠I)(hS2:l≠S)
  (cmp:∀(s:afH) (i j:Nat) (vi vj:afF) (Q:afF->afH->Prop) (E:afF->afH->Prop),Kp I S h0 s.heap->its[i]?=some vi->its[j]?=some vj->Q (.bool (bt i j)) s->afK (model prog w) A.in1 (akf .Lt vi vj) Q E s):
  ∀(k j:Nat) (s:afH) (vb:afF) (c:Nat),its.size=j+1+k->s.heap.IsListIter I l (j+1)->s.heap.IsList l its->its[aiq bt j]?=some vb->s.heap.get? S=some (ahb "list" #[vb,vb] c)->Kp I S h0 s.heap->
   (∀v h' tk,its[aiq bt (its.size - 1)]?=some v->Kp I S h0 h'->R (.ok (.ret v)) {s with heap:=h',toks:=tk})->
   ajL (model prog w) A (.builtin "min.loop" ⟨[.ref I,.none,.ref S],[]⟩) R s
 | 0,j,s,vb,c,hk,hit,hL,hb,hS,kp,hR=>by
  show ahO F.entry_min_loop ?_;rw[ahl F.plain_min_loop];show afE (m:=seqItems? (.ref S)) (ag4 hS rfl ?_);show afE (akM (wpAny_pyNext_list_end (by simp[hh]) hit hL (ajm ()) λh' ex=>?_));have hS':=ex S _ hS1 hS;show afE (m:=updateSeq S λ_=> #[]) (aiM hS' rfl (afE (ajl (afJ ?_))));show hR vb _ s.toks (by rw[show its.size - 1=j by omega];show hb) λb o b1 b2 e=>?_;rw[ah9 _ _ _ _ b2];show ex b o b1 (kp b o b1 b2 e)
 | k +1,j,s,vb,c,hk,hit,hL,hb,hS,kp,hR=>by
  show ahO F.entry_min_loop ?_;rw[ahl F.plain_min_loop];show afE (m:=seqItems? (.ref S)) (ag4 hS rfl ?_);have hx:its[j+1]?=some (its[j+1]'()):=agO ();show afE (akM (akb hit hL hx λh' hit' sb=>?_));have hS':=(sb.2 S hS1).trans hS;have hL':=hL.extBut sb.extBut hl;have kp':Kp I S h0 h':=λb o b1 b2 e=>(sb.2 b b1).trans (kp b o b1 b2 e);show afE (afJ ?_);show afE (akM (ahc (afE (cmp _ (j+1) (aiq bt j) _ vb _ _ kp' hx hb ?_))));show afE (ahc (agP (afE (ajl (afJ ?_)))));cases q:bt (j+1) (aiq bt j) with
  | true=>
   simp only[if_true];show afE (m:=updateSeq S λ_=>_) (aiM hS' rfl (afE (ajl ?_)));rw[Ox];have g2:=ajR hS' (λ_=> #[its[j+1]'(),its[j+1]'()]);have up:∀b o,b≠S->h'.get? b=some o->(h'.update S (ahh λ_=> #[its[j+1]'(),its[j+1]'()])).get? b=some o:=λb o bs e=>by rw[ah9 _ _ _ _ bs];show e
   show afJ ⟨ait F.plain_min_loop _,KD hh hl hS1 hS2 cmp k (j+1) _ _ _ () (hit'.at λo e=>up I o (agc hS1) e) (hL'.at λo e=>up l o hS2 e) (by rw[aiq,q,z9p rfl];show hx) g2 (λb o b1 b2 e=>up b o b2 (kp' b o b1 b2 e)) λv h2 tk hv k2=>hR v h2 tk hv k2⟩
  | false=>
   simp only[af7,if_false];show afE (ajl ?_);rw[Ox];show afJ ⟨ait F.plain_min_loop _,KD hh hl hS1 hS2 cmp k (j+1) _ vb c () hit' hL' (by rw[aiq,q];show hb) hS' kp' λv h2 tk hv k2=>hR v h2 tk hv k2⟩
end
section
variable{l:afG}{its:Array afF}{bt:Nat->Nat->Bool}
theorem acC(hh:A.handled=none)(hL:s.heap.IsList l its)(hn:0<its.size)
  (cmp:∀(s2:afH) (i j:Nat) (vi vj:afF) (Q:afF->afH->Prop) (E:afF->afH->Prop),(∀b o,s.heap.get? b=some o->s2.heap.get? b=some o)->its[i]?=some vi->its[j]?=some vj->Q (.bool (bt i j)) s2->afK (model prog w) A.in1 (akf .Lt vi vj) Q E s2)
  (h:∀v h' tk,its[aiq bt (its.size - 1)]?=some v->(∀b o,s.heap.get? b=some o->h'.get? b=some o)->Q v {s with heap:=h',toks:=tk}):
  afK (model prog w) A (call (.builtin "min") [.ref l]) Q E s:=by
 let⟨ol,hol,hcl,nl,hdl⟩:=id hL;have ll:=z2c hol;show call_function_tree F.kind_min F.plain_min F.entry_min (F.args_min1 _) ?_;show afE (m:=Builtin.Builtins.bindParams "min" ["key","default"] 0 ⟨[],[]⟩) (ahW (a:=[none,none]) rfl (afE (afJ ?_)));show afE (aiQ hL (afE (agB ?_)));rw[Ox];have z1:(s.heap.push {cls:= .type "list_iterator",data:= .fields #[.ref l,.int 0 0]}).objs.size=s.heap.objs.size+1:=agM ..;have gI:(s.heap.push {cls:= .type "list_iterator",data:= .fields #[.ref l,.int 0 0]}).get? s.heap.objs.size=some {cls:= .type "list_iterator",data:= .fields #[.ref l,.int 0 0]}:=z1f _ rfl;have k1:∀b o,s.heap.get? b=some o->(s.heap.push {cls:= .type "list_iterator",data:= .fields #[.ref l,.int 0 0]}).get? b=some o:=λb o e=>z1a _ e
 generalize s.heap.push {cls:= .type "list_iterator",data:= .fields #[.ref l,.int 0 0]}=h1 at *
 have gS:(h1.push (ahb "list" #[] 0)).get? h1.objs.size=some (ahb "list" #[] 0):=z1f _ rfl;have k2:∀b o,h1.get? b=some o->(h1.push (ahb "list" #[] 0)).get? b=some o:=λb o e=>z1a _ e;show afK _ _ _ _ _ {s with heap:=h1.push (ahb "list" #[] 0)}
 generalize h1.push (ahb "list" #[] 0)=h2 at *
 have nS:h1.objs.size=s.heap.objs.size+1:=z1
 generalize h1.objs.size=S at *
 have n1:S≠s.heap.objs.size:=by rw[nS];show Nat.succ_ne_self _
 have n2:l≠s.heap.objs.size:=agm ll;have n3:l≠S:=by rw[nS];show agm (ajs ll)
 have old:∀b o,s.heap.get? b=some o->b≠s.heap.objs.size/\b≠S:=λb o e=>by have:=z2c e;show⟨agm this,by rw[nS];show agm (ajs this)⟩
 have hit:h2.IsListIter s.heap.objs.size l 0:=⟨_,k2 _ _ gI,rfl,rfl⟩;have hL2:h2.IsList l its:=hL.at λo e=>k2 _ _ (k1 _ _ e);show afJ ⟨ait F.plain_min_loop _,ahO F.entry_min_loop ?_⟩;rw[ahl F.plain_min_loop];show afE (m:=seqItems? (.ref S)) (ag4 gS rfl ?_);have hx:its[0]?=some its[0]:=agO hn;show afE (akM (akb hit hL2 hx λh' hit' sb=>afE (afJ ?_)));have hS':=(sb.2 S n1).trans gS;show afE (m:=updateSeq S λ_=>_) (aiM hS' rfl ?_);rw[Ox];have g2:=ajR hS' (λ_=> #[its[0],its[0]]);have up:∀b o,b≠S->h'.get? b=some o->(h'.update S (ahh λ_=> #[its[0],its[0]])).get? b=some o:=λb o bs e=>by rw[ah9 _ _ _ _ bs];show e
 show afJ ⟨ait F.plain_min_loop _,KD (h0:=s.heap) (bt:=bt) hh n2 n1 n3 (λs2 i j vi vj Q E kp=>cmp s2 i j vi vj Q E λb o e=>kp b o (old b o e).1 (old b o e).2 e) (its.size - 1) 0 _ _ _ () (hit'.at λo e=>up _ o (agc n1) e) ((hL2.extBut sb.extBut n2).at λo e=>up l o n3 e) hx g2 (λb o b1 b2 e=>up b o b2 ((sb.2 b b1).trans (k2 _ _ (k1 _ _ e)))) λv h3 tk hv kp=>?_⟩;show h v h3 tk hv λb o e=>kp b o (old b o e).1 (old b o e).2 e
end
def jf:List (List Int)->List Int
 |[]=>[]
 |a::r=>r.foldl (λm x=>if bM x m then x else m) a
theorem Ja(a:List Int)(r:List (List Int)):∀k:Nat,k<=r.length->(a::r).getD (aiq (λi j=>bM ((a::r).getD i []) ((a::r).getD j [])) k) []=jf (a::r.take k)/\aiq (λi j=>bM ((a::r).getD i []) ((a::r).getD j [])) k<=k
 |0,_=>by simp[aiq,jf]
 | k +1,h=>by
  let⟨ih,hb⟩:=Ja a r k (Nat.le_of_succ_le h);have e1:r.take (k+1)=r.take k++[r.getD k []]:=by
   rw[List.take_add_one,agZ,aga h];rfl
  have e2:jf (a::r.take (k+1))=if bM (r.getD k []) (jf (a::r.take k)) then r.getD k [] else jf (a::r.take k):=by
   rw[jf,e1,List.foldl_append];rfl
  rw[e2,<-ih];have e3:(a::r).getD (k+1) []=r.getD k []:=by simp[agZ]
  have eA:aiq (λi j=>bM ((a::r).getD i []) ((a::r).getD j [])) (k+1)=if bM (r.getD k []) ((a::r).getD (aiq (λi j=>bM ((a::r).getD i []) ((a::r).getD j [])) k) []) then k+1 else aiq (λi j=>bM ((a::r).getD i []) ((a::r).getD j [])) k:=by rw[<-e3];rfl
  rw[eA];by_cases q:bM (r.getD k []) ((a::r).getD (aiq (λi j=>bM ((a::r).getD i []) ((a::r).getD j [])) k) [])=true
  .rw[z9p q,z9p q];show⟨e3,z0g _⟩
  .rw[z9n q,z9n q];show⟨rfl,Nat.le_succ_of_le hb⟩
theorem YB(h:0<ts.length):ts.getD (aiq (λi j=>bM (ts.getD i []) (ts.getD j [])) (ts.length - 1)) []=jf ts/\aiq (λi j=>bM (ts.getD i []) (ts.getD j [])) (ts.length - 1)<ts.length:=by
 cases ts with
 |nil=>simp at h
 | cons a r=>
  have:=Ja a r r.length (z0g _);rw[ai6] at this;show⟨this.1,Nat.lt_succ_of_le this.2⟩
def pH:List D->Option (List (List Int))
 |[]=>some []
 | .tup es::ds=>(intsOf es).bind λn=>(pH ds).map (n:: ·)
 |_::_=>none
def KH:List D->R D
 | [.lst ds]=>match pH ds with
  |some ts=>if 0<ts.length then .ok (.tup ((jf ts).map .int)) else .bad
  |none=> .bad
 |_=> .bad
theorem Qs:∀{ds:List D} {ts:List (List Int)} {vs:List V},pH ds=some ts->aN K O H ds vs->∃as:List afG,vs=as.map V.ref/\as.length=ts.length/\∀(i:Nat) b t,as[i]?=some b->ts[i]?=some t->SqT K H b (t.map V.int)
 |[],ts,vs,e,r=>by cases e;show⟨[],r.nil_inv,rfl,λi b t q=>by simp at q⟩
 | d :: ds,ts,vs,e,r=>by
  let⟨x,t,rfl,h1,h2⟩:=r.cons_inv;cases d with
  | tup es=>
   have e:(intsOf es).bind (λn=>(pH ds).map (n:: ·))=some ts:=e;cases q:intsOf es with
   |none=>rw[q] at e;cases e
   | some n=>
    rw[q] at e;have e:(pH ds).map (n:: ·)=some ts:=e;cases q2:pH ds with
    |none=>rw[q2] at e;cases e
    | some ts'=>
     rw[q2] at e;cases e;let⟨as,rfl,hl,ha⟩:=Qs q2 h2;let⟨a,ys,rfl,hq,rs⟩:=h1.tup;show⟨a::as,rfl,by simp[hl],λi b t e1 e2=>?_⟩;cases i with
     | zero=>
      cases e1;cases e2;rw[<-rK q rs];show hq
     |succ i=>show ha i b t (by simpa using e1) (by simpa using e2)
  |_=>cases e
theorem YC(hc:X.calm=true)(hu:X.A.units+2<agR):CallR X (.builtin "min") (λxs H Q=>∃(p:afG) (as:List afG) (ts:List (List Int)),xs=[.ref p]/\SqL X.K H p (as.map V.ref)/\as.length=ts.length/\0<ts.length/\(∀(i:Nat) b t,as[i]?=some b->ts[i]?=some t->SqT X.K H b (t.map V.int))/\
  ∀(k:Nat) (b:afG),as[k]?=some b->ts[k]?=some (jf ts)->Q (.ref b) H):=by
 intro pins s σ H xs us Q I r h;let⟨p,as,ts,rfl,hq,hl,hn,ht,q⟩:=h;let⟨u,rfl,rx⟩:=vals1 r;cases rx;let⟨its,rv,pl,hz⟩:=I.list hq;have hits:its=as.map afS:=by
  have:∀(as:List afG) (its:List afF),Vals (as.map V.ref) its->its=as.map afS:=by
   intro as
   induction as with
   |nil=>intro its r;cases r;rfl
   |cons b as ih=>intro its r;cases r with |cons r1 r2=>cases r1;rw[ih _ r2];rfl
  show this as its rv
 subst hits;have sz:(as.map afS).toArray.size=ts.length:=by simp[hl]
 let⟨b1,b2⟩:=YB hn;show acC (bt:=λi j=>bM (ts.getD i []) (ts.getD j [])) (I.ok.hd hc) pl.isList (by rw[sz];show hn) (λs2 i j vi vj Q' E' kp e1 e2 hQ=>?_) λv h' tk hv kp=>?_
 .have at':∀{i:Nat} {v:afF},(as.map afS).toArray[i]?=some v->∃(b:afG) (o:Obj) (vs:Array afF) (n:Nat),v= .ref b/\s.heap.get? b=some o/\o.cls= .type "tuple"/\o.data= .seq vs n/\ahJ vs.toList (ts.getD i []):=λ{i v} e=>by
   rw[ail,z2b] at e;cases z:as[i]? with
   |none=>rw[z] at e;cases e
   | some b=>
    rw[z] at e;cases e;have hi:i<ts.length:=by rw[<-hl];show (z1b z).1
    let⟨us,r1,p1,_⟩:=I.tuple (ht i b ts[i] z (by simp[hi]));let⟨ob,ho,hcb,n,hd⟩:=p1;show⟨b,ob,us.toArray,n,rfl,ho,hcb,hd,by simpa[agZ,hi] using yt r1⟩
  let⟨b,o,vs,n,rfl,ho,hcl,hd,hi⟩:=at' e1;let⟨b',o',vs',n',rfl,ho',hcl',hd',hi'⟩:=at' e2;show En (by first |(simp;omega) |(show X.A.units+_<agR;omega)) (kp _ _ ho) hcl hd (kp _ _ ho') hcl' hd' hi hi' hQ
 .rw[sz,ail,z2b] at hv;cases z:as[aiq (λi j=>bM (ts.getD i []) (ts.getD j [])) (ts.length - 1)]? with
  |none=>rw[z] at hv;cases hv
  | some b=>
   rw[z] at hv;cases hv;show⟨.ref b,H,I.kept kp,rfl,q _ b z ?_⟩;rw[<-b1,ajK,aga b2];rfl
theorem acD(hc:X.calm=true)(hu:X.A.units+2<agR):CallD X (.builtin "min") KH:=by
 show⟨_,YC hc hu,λρ O σ H Q xs ds j r h=>?_⟩;unfold KH at h;split at h
 .rename_i ds;let⟨x,rfl,rx⟩:=r.one;let⟨a,ys,rfl,hq,_,rs⟩:=rx.lst;cases e:pH ds with
  |none=>rw[e] at h;show h.elim
  | some ts=>
   rw[e] at h;have h:good X (rD X) O (if 0<ts.length then .ok (.tup ((jf ts).map .int)) else .bad) σ H Q:=h;by_cases hp:0<ts.length
   .rw[z9p hp] at h;let⟨as,rfl,hl,ha⟩:=Qs e rs;show⟨a,as,ts,rfl,hq,hl,hp,ha,λk b e1 e2=>h _ _ (Same.refl _) (by simp only[Rep];show⟨b,_,rfl,ha k b _ e1 e2,o8⟩)⟩
   .rw[z9n hp] at h;show h.elim
 .show h.elim
end Pu
namespace Pu
open PySem PySem.Spec PySem.W L2
open PyProof.Rows hiding St
open PySem.SeqAt
section
variable{e1 e2:afV}{f g:aq->R D}
end
end Pu
namespace Pu
open PySem PySem.Spec L2
open PyProof.Rows hiding St
theorem range_any(bs:List Bool):((afI bs.length).any λi=>(bs[i]?).getD false)=bs.any id:=by
 apply Bool.eq_iff_iff.mpr;rw[alz,alz];constructor
 .rintro⟨i,hi,h⟩
  have hi:=z2e hi;rw[aga hi,ai3] at h;show⟨_,ai5 hi,h⟩
 .rintro⟨b,hb,h⟩
  let⟨i,hi,rfl⟩:=akE hb;show⟨i,ahH.mpr hi,by rw[aga hi];show h⟩
theorem YD(hc:X.calm=true):CallR X (.builtin "any") (λxs H Q=>∃p,∃bs:List Bool,xs=[.ref p]/\SqL X.K H p (bs.map V.bl)/\Q (.bl (bs.any id)) H):=by
 intro pins s σ H xs us Q I r h;let⟨p,bs,rfl,hq,q⟩:=h;let⟨u,rfl,rx⟩:=vals1 r;cases rx;let⟨its,r',pl,hz⟩:=I.list hq;have hb:=Gz r';have hl:=pl.isList;have hlt:p<s.heap.objs.size:=by let⟨_,e,_⟩:=hl;show z2c e
 show call_any_walk (aiQ hl ⟨s.heap.objs.size,[s.heap.objs.size,p],[s.heap.objs.size],its.toArray.size,_,_,λi=>(bs[i]?).getD false,rfl,Walks.list (A:=X.A.in1) (I.ok.hd hc) _ p (agm hlt) its.toArray,⟨⟨_,z1f _ rfl,rfl,rfl⟩,hl.push _⟩,λi v s' Q' E' hP hQ=>?_,λh' tk hk=>?_⟩)
 .let⟨b,e,rfl⟩:=hb.get i v (by simpa using hP);simp only[e,ai3] at hQ;show agP hQ
 .have e:((afI its.toArray.size).any λi=>(bs[i]?).getD false)=bs.any id:=by
   rw[z1c,hb.length];show range_any bs
  rw[e];show⟨.bl _,H,I.kept (LSm.kept_iter hk),rfl,q⟩
def Wu:List D->R D
 | [.lst ds]=>match boolsOf ds with
  |some bs=> .ok (.bl (bs.any id))
  |none=> .bad
 |_=> .bad
theorem adR(hc:X.calm=true):CallD X (.builtin "any") Wu:=by
 show⟨_,YD hc,λρ O σ H Q xs ds j r h=>?_⟩;unfold Wu at h;split at h
 .rename_i ds;let⟨x,rfl,rx⟩:=r.one;let⟨a,ys,rfl,hq,_,rs⟩:=rx.lst;cases e:boolsOf ds with
  |none=>rw[e] at h;show h.elim
  | some bs=>
   rw[e] at h;have ey:=Ke e rs;subst ey;show⟨a,bs,rfl,hq,fin h (fJ _)⟩
 .show h.elim
section
variable{f:aq->R D}
end
end Pu
namespace Pu
open PySem PySem.Spec PySem.W L2
open PyProof.Rows hiding St
end Pu
namespace Pu
open PySem PySem.Spec L2
open PyProof.Rows hiding St
section
variable{k m n:Nat}{f:afG}{ps ks:List Str}{F:List D->R D}{p pos:Pos}{fa fk:aq->R (List D)}{ts:List (afG×Str)}
end
section
variable{tg a b c:afV}{p pos p2 pos2:Pos}
end
end Pu
namespace Pu
open PySem PySem.Spec PySem.W L2
open PyProof.Rows hiding St
open PySem.SeqAt
section
variable{e1 e2:afV}{f g:aq->R D}
theorem aaW{O O':afG->Prop}{y:V}(I:Inv X pins σ H s)(re:Rep X.K O' H d y)(ru:RelV y u)(hA:∀(d':D) (v:V) (w:afF),dep d'<=40->Rep X.K O H d' v->RelV v w->EqAt A s w u (dI d' d)):
  ∃e:afF->Bool,∀(ds:List D) (vs:List V) (its:List afF),aN X.K O H ds vs->Vals vs its->(∀d'∈ds,dep d'<=40)->its.map e=ds.map (dI · d)/\∀w∈its,EqAt A s w u (e w):=by
 classical
 have key:∀d' v w,Rep X.K O H d' v->RelV v w->(decide (∃d' v,Rep X.K O H d' v/\RelV v w/\dI d' d=true))=dI d' d:=λd' v w r1 q1=>by
  cases z:dI d' d with
  |true=>show z9t ⟨d',v,r1,q1,z⟩
  | false=>
   show z9f λbQ=>?_;let⟨d2,v2,r2,q2,z2⟩:=bQ;have ev:v2=v:=RelV.inj q2 q1;subst ev;rw[Rep.inj I d2 d' v2 r2 r1,z] at z2;cases z2
 show⟨λw=>decide (∃d' v,Rep X.K O H d' v/\RelV v w/\dI d' d=true),λds=>?_⟩
 induction ds with
 |nil=>intro vs its r q _;rw[r.nil_inv] at q;cases q;show⟨rfl,λw m=>by cases m⟩
 | cons a ds ih=>
  intro vs its r q hd;let⟨x,t,rfl,h1,h2⟩:=r.cons_inv;cases q with
  | cons q1 q2=>
   let⟨i1,i2⟩:=ih _ _ h2 q2 λd' m=>hd d' (z2f _ m);show⟨by rw[z1h,z1h,i1,key a _ _ h1 q1],λw m=>?_⟩;rcases afR.mp m with rfl |m
   .show EqAt _ _ _ _ (decide _);rw[key a _ _ h1 q1];show hA a _ _ (hd a afT) h1 q1
   .show i2 w m
theorem adS{e:afF->Bool}{its:List afF}(h:its.map e=ds.map (dI · d)):its.any e=ds.any (dI · d):=by
 have a:(its.map e).any id=its.any e:=by rw[List.any_map];rfl
 have b:(ds.map (dI · d)).any id=ds.any (dI · d):=by rw[List.any_map];rfl
 rw[<-a,h,b]
end
end Pu
namespace Pu
open PySem PySem.Spec L2
open PyProof.Rows hiding St
theorem aaX{tg iter elt:afV}{ifs:List afV}{pos:Pos}(ts:List Str)(caps:List Nat)
  (hc:X.calm=true)(hb:Gw X.env.scope scope ts X.N=true)(hcap:(eE scope).map (λx=>lR x X.N)=caps)
  (hi:DI X tg iter fi)(hk:rF ts.length gt)(hg:∀C s H ex,(cV X scope ts C s H ex).N.Nodup->DG (cV X scope ts C s H ex) tg gt){Ii:List (afG×Str)}(hT:Tb Ii X.H₀)(ht:∀C s H ex,Tb Ii H->Ph (cV X scope ts C s H ex) ifs ft)(he:∀C s H ex,Tb Ii H->DE (cV X scope ts C s H ex) elt fe)
  (hs:∀x,aio iter X.env x=pure x:=by intro _;rfl):
  DE X (.ListComp elt [⟨tg,iter,ifs,0⟩] scope pos) (bN ts.length caps fi gt ft fe):=by
 intro pins s σ H Q I h;let⟨ρ,O,j,h⟩:=h;rw[eval_ListComp];show LQ ts caps hc hb hcap hi hk hg hT ht he hs (use:=none) (Qr:=EP X pins σ Q) I j (λv H' s5 C m f acc hv I6 hns fp rv=>⟨m,hns,λh' sb=>⟨v,H',I6.fp fp sb,rv,hv⟩⟩) h
end Pu
namespace Pu
open PySem PySem.Spec PySem.W L2
open PyProof.Rows hiding St
def BZ(h:af8)(a:afG)(l:Int)(ps:List Int):Prop:=∃(o o2:Obj) (n n2:Nat) (t:Tok) (p:afG) (vs:Array afF),h.get? a=some o/\o.cls= .type "tuple"/\o.data= .seq #[.int l t,.ref p] n/\h.get? p=some o2/\o2.cls= .type "tuple"/\o2.data= .seq vs n2/\ahJ vs.toList ps
def Oz(K:w0a)(H:Hp)(a:afG)(ns:List Int):Prop:=∃l ps p,ns=l::ps/\SqT K H a [.int l,.ref p]/\SqT K H p (ps.map V.int)
theorem acE{x y:afG}{l l':Int}{ps qs:List Int}(hu:A.units<agR)(hx:BZ s.heap x l ps)(hy:BZ s.heap y l' qs):∃(oa ob:Obj) (xs ys:Array afF) (na nb:Nat),s.heap.get? x=some oa/\oa.cls= .type "tuple"/\oa.data= .seq xs na/\s.heap.get? y=some ob/\ob.cls= .type "tuple"/\ob.data= .seq ys nb/\xs.size=ys.size/\Lx prog w A s (bM (l::ps) (l'::qs)) xs.toList ys.toList:=by
 let⟨o,o2,n,n2,t,p,vs,h1,h2,h3,h4,h5,h6,h7⟩:=hx;let⟨o',o2',n',Iw,t',p',vs',g1,g2,g3,g4,g5,g6,g7⟩:=hy;show⟨o,o',_,_,n,n',h1,h2,h3,g1,g2,g3,rfl,?_⟩;show Lx prog w A s _ [.int l t,.ref p] [.int l' t',.ref p'];rw[bM];by_cases e1:l=l'
 .rw[z9p e1];show .yes (U4 (by simpa using e1)) ?_;have eq:EqB prog w A s (.ref p) (.ref p') (decide (ps=qs)):=λQ E h=>ajZ (knd:=ako prog w) hu ⟨o2,vs,n2,h4,h5,h6,kI h7⟩ ⟨o2',vs',Iw,g4,g5,g6,kI g7⟩ h;by_cases e3:ps=qs
  .rw[z9t e3] at eq;show .yes eq (.nil (by rw[e3];show jM _))
  .rw[z9f e3] at eq;show .no eq λQ E h=>En hu h4 h5 h6 g4 g5 g6 h7 g7 h
 .rw[z9n e1];show .no (U4 (by simpa using e1)) acw
theorem aaY{a b:afG}{l l':Int}{ps qs:List Int}(hu:A.units+2<agR)(hx:BZ s.heap a l ps)(hy:BZ s.heap b l' qs)(h:Q (.bool (bM (l::ps) (l'::qs))) s):afK (model prog w) A (agr .Lt (.ref a) (.ref b)) Q E s:=by
 let⟨oa,o2,n,n2,t,p,vs,h1,h2,_⟩:=id hx;let⟨ob,o2',n',Iw,t',p',vs',g1,g2,_⟩:=id hy;show afK _ _ (akf .Lt (.ref a) (.ref b)) _ _ _;show ajD (op:= .Lt) ⟨oa,h1,h2⟩ ⟨ob,g1,g2⟩ PySem.F.slot_tuple_lt
   (ags PySem.F.slot_tuple_lt ⟨oa,h1,h2⟩ PySem.F.entry_tuple_lt (by
    let⟨oa,ob,xs,ys,na,nb,k1,k2,k3,k4,k5,k6,k7,k8⟩:=acE (prog:=prog) (w:=w) (A:=A.in1) (show A.in1.units<agR from ?_) hx hy;show Tq k1 k3 k4 k5 k6 k8 k7 ⟨_,rfl,(λe=>nomatch e),h⟩) (PySem.F.args_tuple_lt_2 _ _)) ()
 first |show Nat.lt_of_le_of_lt () hu |(show A.units+_<agR;omega)
theorem U6(I:Inv X pins σ H s)(h:Oz X.K H a ns):∃l ps,ns=l::ps/\BZ s.heap a l ps:=by
 let⟨l,ps,p,rfl,h1,h2⟩:=h;let⟨its,r1,⟨o,ho,hc,n,hd⟩,_⟩:=I.tuple h1;let⟨its2,r2,⟨o2,ho2,hc2,n2,hd2⟩,_⟩:=I.tuple h2;show⟨l,ps,rfl,?_⟩;cases r1 with
 | cons a1 r1=>
  cases r1 with
  | cons a3 r1=>
   cases r1;let⟨t,rfl⟩:=a1;cases a3;show⟨o,o2,n,n2,t,p,its2.toArray,ho,hc,hd,ho2,hc2,hd2,by simpa using yt r2⟩
theorem adT(hu:X.A.units+2<agR):OpR X (agr .Lt) (λx y H Q=>∃a b,∃ns ms:List Int,x= .ref a/\y= .ref b/\Oz X.K H a ns/\Oz X.K H b ms/\Q (.bl (bM ns ms)) H):=by
 intro pins s σ H x y v u Q I rx ry h;let⟨a,b,ns,ms,rfl,rfl,ha,hb,q⟩:=h;cases rx;cases ry;let⟨l,ps,rfl,h1⟩:=U6 I ha;let⟨l',qs,rfl,h2⟩:=U6 I hb;show aaY hu h1 h2 ⟨.bl _,H,I,rfl,q⟩
def pairOf:D->Option (List Int)
 | .tup [.int l,.tup ps]=>(intsOf ps).map λns=>l::ns
 |_=>none
theorem Qt{t:List Int}(e:pairOf d=some t)(r:Rep K O H d v):∃b,v= .ref b/\Oz K H b t:=by
 unfold pairOf at e;split at e
 .rename_i l ps;cases q:intsOf ps with
  |none=>rw[q] at e;cases e
  | some ns=>
   rw[q] at e;cases e;let⟨a,xs,rfl,hq,rs⟩:=r.tup;let⟨v1,v3,rfl,r1,r3⟩:=rs.two;have r1:=r1.int;subst r1;let⟨p,ys,rfl,hq2,rG⟩:=r3.tup;have e2:=rK q rG;subst e2;show⟨a,rfl,⟨l,ns,p,rfl,hq,hq2⟩⟩
 .cases e
def Qu(x y:D):R D:=match pairOf x,pairOf y with
 |some a,some b=> .ok (.bl (bM a b))
 |_,_=> .bad
theorem adU(hu:X.A.units+2<agR):jG X (agr .Lt) Qu:=by
 show⟨_,adT hu,λρ O σ H Q x y dx dy j0 rx ry h=>?_⟩;unfold Qu at h;cases e1:pairOf dx with
 |none=>rw[e1] at h;show h.elim
 | some ns=>
  cases e2:pairOf dy with
  |none=>rw[e1,e2] at h;show h.elim
  | some ms=>
   rw[e1,e2] at h;let⟨a,rfl,ha⟩:=Qt e1 rx;let⟨b,rfl,hb⟩:=Qt e2 ry;show⟨a,b,ns,ms,rfl,rfl,ha,hb,fin h (fJ _)⟩
end Pu
namespace Pu
open PySem PySem.Spec L2
open PyProof.Rows hiding St
section
variable{O O':afG->Prop}{H H':Hp}{rs:List afG}
end
section
variable{c x y:Str}{C:afG}{np cpos pos p1 p2 p3 p4:Pos}{k1 k2:Nat}{a b:afV}{f g:aq->R D}
end
end Pu
namespace L2
open PySem PySem.Spec PyProof.Rows
end L2
namespace Pu
open PySem PySem.Spec L2
open PyProof.Rows hiding St
section
variable{a b c:afV}{f g u:aq->R D}
end
section
variable{H0 H:Hp}{O0 O:afG->Prop}{sts:List agl}
end
abbrev ReT:=Hp->(afG->Prop)->Hp->D->V->Prop
abbrev adV:=D->Nat->aq->Option aq
section
variable{R1 R2 R3:ReT}{p q r:adV}{i k l:Nat}{f g u:aq->R D}{H0 H:Hp}{O0 O:afG->Prop}{E:Ends}
end
section
variable{R1 R2 R3:ReT}{p q r:adV}{f g u:aq->R D}{a b c:afV}
end
end Pu
namespace PyProof.Rows
open PySem PySem.Spec
end PyProof.Rows
namespace Pu
open PySem PySem.Spec L2
open PyProof.Rows hiding St
end Pu
namespace PySem
open AutoSeq1 (wpAny_loadPart')
open MeetsSeq MeetsSeq2 SeqAt
end PySem
namespace Pu
open PySem PySem.Spec L2 PySem.SeqAt
open PyProof.Rows hiding St
section
variable{e1 e2:afV}{f g:aq->R D}
end
end Pu
namespace Pu
open PySem PySem.Spec L2
open PyProof.Rows hiding St
section
variable{a:afV}{p pos p2 pos2:Pos}
end
theorem pq.mono{j k:Nat}{G:List D->R D}(c:pq P w K mg base j G n a H)(h:j<=k):pq P w K mg base k G n a H:=
 λA outer s H1 us vs Q E hr=>c A outer s H1 us vs Q E (hr.mono h)
def oF(a:afG)(o:Option HO)(T:afG)(q:Str)(T':afG)(q':Str):Hp:=λb=>if b=T then some (.tbl #[.str q 0]) else if b=T' then some (.tbl #[.str q' 0]) else if b=a then o else none
theorem YF {P:Program} {w:World} {mb:Str→Option Value}  {fa a c T c' T':Addr} {q q':Str} {fd:FuncData}  {sp:Sp} {s₁:Shared} {vs:List Value} 
    (KX:K.In s₁.heap)(hns:s₁.heap.Ns af0 mg)(hb:s₁.heap.Ns ajE mb)(hbb:∀x:Str,x≠"__name__"→mb x=ahR x)(hlim:s₁.heap.NoLimit)(hg:s₁.gens= #[])
    (ha:s₁.heap.get? a=some {cls:= .type "list",data:= .seq vs.toArray})(hi:ahJ vs ns)(hl:ns.length≤sizeLine)(hr:Room k callerA)
    (hC:w0k s₁.heap c T)(hT:s₁.heap.get? T=some (w0i #[]))(hC':w0k s₁.heap c' T')(hT':s₁.heap.get? T'=some (w0i #[]))(hTT:T≠T')(hnt:w0o K=true)
    (hbm:∃bm ob,mg "__builtins__" =some (.ref bm)∧bm≠ajE∧s₁.heap.get? bm=some ob∧ob.cls= .type "module"∧ob.dict=some ajE∧ob.data= .plain)
    (F:∀base:af8,K.In base→base.Ns af0 mg→iC base mg c T→iC base mg c' T'→FnOk P w K mg base CX0 k fa fd [x] sp)(hbind:∀(s:afH) (u:afF),BindsTo s fd ⟨[u],[]⟩ [(x,u)])
    (hsp:∀H:Hp,Tb [(T,q),(T',q')] H→SqL K H a (ns.map V.int)→sp [.ref a] H (λv _=>v= .bl true) λ_ _ _=>False):
    ajL (model P w) callerA (.call (.ref fa) ⟨[.ref a],[]⟩) (λr s'=>r= .ok (.ret (.bool true))∧OldK s₁.heap s'.heap∧s'.os=s₁.os∧aj3 s'.gens) s₁:=by
  have rv:=vals_ints hi
  have lenV:=hi.length
  have aT:a≠T:=λz=>by rw[z,hT] at ha;cases ha
  have aT':a≠T':=λz=>by rw[z,hT'] at ha;cases ha
  have core : ∀o:Option HO,(o=none∨o=some (.frz {cls:= .type "list",data:= .seq vs.toArray} (.lst (ns.map V.int))))→SqL K (oF a o T q T' q') a (ns.map V.int)→(o≠none→K.lookup a=none)→
      ajL (model P w) callerA (.call (.ref fa) ⟨[.ref a],[]⟩) (λr s'=>r= .ok (.ret (.bool true))∧OldK s₁.heap s'.heap∧s'.os=s₁.os∧aj3 s'.gens) s₁:=by
    intro o ho hS hK
    have hH:∀b u,oF a o T q T' q' b=some u→(b=T∧u= .tbl #[.str q 0])∨(b=T'∧u= .tbl #[.str q' 0])∨(b=a∧u= .frz {cls:= .type "list",data:= .seq vs.toArray} (.lst (ns.map V.int))∧o≠none):=λb u z=>by
      unfold oF at z
      by_cases h1:b=T
      . rw[z9p h1] at z;cases z;show .inl ⟨h1,rfl⟩
      . rw[z9n h1] at z
        by_cases h3:b=T'
        . rw[z9p h3] at z;cases z;show .inr (.inl ⟨h3,rfl⟩)
        rw[z9n h3] at z
        by_cases h2:b=a
        . rw[z9p h2] at z
          rcases ho with ho |ho
          . rw[ho] at z;cases z
          . rw[ho] at z;cases z;show .inr (.inr ⟨h2,rfl,by rw[ho];simp⟩)
        . rw[z9n h2] at z;cases z
    have hok:HOk P w (oF a o T q T' q') s₁.heap:=λb u z=>by
      rcases hH b u z with⟨rfl,rfl⟩ |⟨rfl,rfl⟩ |⟨rfl,rfl,_⟩
      . show⟨#[],hT,trivial,λp cv y=>by cases y⟩
      . show⟨#[],hT',trivial,λp cv y=>by cases y⟩
      . show⟨ha,by rw[List.length_map];show hl,vs,_,rv,ha⟩
    have tb:Tb [(T,q),(T',q')] (oF a o T q T' q'):=λp hp=>by
      have e:p=(T,q)∨p=(T',q'):=by simpa using hp
      rcases e with rfl |rfl
      . show⟨#[.str q 0],0,z9p rfl,rfl⟩
      . show⟨#[.str q' 0],0,(z9n (agc hTT)).trans (z9p rfl),rfl⟩
    have base_of:∀{b:afG} {u:Obj},s₁.heap.get? b=some u→oF a o T q T' q' b=none→(hidT s₁.heap (oF a o T q T' q')).get? b=some u:=λe n=>hidT_get e n
    have free:∀{b:afG} {u:Obj},s₁.heap.get? b=some u→u.cls≠.type "list"→u.cls≠.none→oF a o T q T' q' b=none:=fun {b u} e n1 n2=>by
      cases z:oF a o T q T' q' b with
      |none=>rfl
      | some y=>
        rcases hH b y z with⟨rfl,_⟩ |⟨rfl,_⟩ |⟨rfl,_,_⟩
        . rw[hT] at e;cases e;show absurd rfl n2
        . rw[hT'] at e;cases e;show absurd rfl n2
        . rw[ha] at e;cases e;show absurd rfl n1
    have aeT:∀{b:afG} {u:Obj} {es:Array DictEntry} {ep:Nat},s₁.heap.get? b=some u→u.data= .dict es ep→oF a o T q T' q' b=none:=fun {b u es ep} e d=>by
      cases z:oF a o T q T' q' b with
      |none=>rfl
      | some y=>
        rcases hH b y z with⟨rfl,_⟩ |⟨rfl,_⟩ |⟨rfl,_,_⟩
        . rw[hT] at e;cases e;cases d
        . rw[hT'] at e;cases e;cases d
        . rw[ha] at e;cases e;cases d
    have nsK:∀{b:afG} {m:Str→Option afF},s₁.heap.Ns b m→(hidT s₁.heap (oF a o T q T' q')).Ns b m:=fun {b m} ⟨u,es,ep,e,d,r⟩=>⟨u,es,ep,base_of e (aeT e d),d,r⟩
    have hKb:K.In (hidT s₁.heap (oF a o T q T' q')):=λb u e=>base_of (KX b u e) (by
      cases z:oF a o T q T' q' b with
      |none=>rfl
      | some y=>
        rcases hH b y z with⟨rfl,_⟩ |⟨rfl,_⟩ |⟨rfl,_,no⟩
        . have e1:=KX b u e
          rw[hT] at e1;cases e1
          have h2:=ai2.mp hnt (b,w0i #[]) (w0u e)
          show absurd (show false=true from h2) agf
        . have e1:=KX b u e
          rw[hT'] at e1;cases e1
          have h2:=ai2.mp hnt (b,w0i #[]) (w0u e)
          show absurd (show false=true from h2) agf
        . rw[hK no] at e;cases e)
    have hM:Mod K mg (hidT s₁.heap (oF a o T q T' q')):=⟨hKb,nsK hns,⟨mb,nsK hb,hbb⟩,let⟨mc,h1,h2⟩:=hlim;⟨mc,nsK h1,h2⟩⟩
    have nb:∀{d S:afG},w0k s₁.heap d S→iC (hidT s₁.heap (oF a o T q T' q')) mg d S:=fun {d S} hC=>by
      show⟨?_,?_⟩
      . let⟨oc,v,file,tf,flags,tg,inF,text,tt,e1,e2,r⟩:=hC
        show⟨oc,v,file,tf,flags,tg,inF,text,tt,base_of e1 (free e1 (by rw[e2];nofun) (by rw[e2];nofun)),e2,r⟩
      . let⟨bm,ob,b1,b2,b3,b4,r⟩:=hbm
        show⟨bm,ob,b1,b2,base_of b3 (free b3 (by rw[b4];nofun) (by rw[b4];nofun)),b4,r⟩
    have e0:Env0 P w K mg (hidT s₁.heap (oF a o T q T' q')) callerA [] s₁ (oF a o T q T' q'):=⟨rfl,hM,λb o e=>of_hidT e,Nat.le_of_eq (hidT_size _ _),trivial,λb hb=>absurd (show b∈([]:List afG) from hb) (),hok,.of_eq hg⟩
    show aiF ((F _ hKb (nsK hns) (nb hC) (nb hC')).run callerA [] s₁ (oF a o T q T' q') ⟨[.ref a],[]⟩ [.ref a] [.ref a] _ _ hr e0 (hbind s₁ (.ref a)) (.cons rfl .nil) (hsp _ tb hS)) λr s' h=>?_
    cases r with
    |error e=>show h.elim
    | ok fl =>
      cases fl with
      |next=>show agH h
      |brk=>show agH h
      |cont=>show agH h
      | ret u =>
        let⟨v,H',os,bare,un,hok',r',z⟩:=h
        have z:v= .bl true:=z
        subst z
        obtain rfl:u=alS true:=r'
        have each:∀b o,s₁.heap.get? b=some o→s'.heap.get? b=some o∨((b=T∨b=T')∧o=w0i #[]∧∃qs,s'.heap.get? b=some (w0i qs)):=λb ob e=>by
          cases z:oF a o T q T' q' b with
          |none=>show .inl (un.keep b ob e z (by intro y;show absurd (show b∈([]:List afG) from y) ()) ())
          | some y=>
            rcases hH b y z with⟨rfl,rfl⟩ |⟨rfl,rfl⟩ |⟨rfl,rfl,_⟩
            . let⟨more,z2⟩:=un.tbls _ _ z
              let⟨qs,e2,_⟩:=hok' _ _ z2
              rw[hT] at e;cases e
              show .inr ⟨.inl rfl,rfl,qs,e2⟩
            . let⟨more,z2⟩:=un.tbls _ _ z
              let⟨qs,e2,_⟩:=hok' _ _ z2
              rw[hT'] at e;cases e
              show .inr ⟨.inr rfl,rfl,qs,e2⟩
            . have z2:=un.frzs _ _ _ z
              let⟨e1,_⟩:=hok _ _ z
              let⟨e2,_⟩:=hok' _ _ z2
              rw[e] at e1;cases e1
              show .inl e2
        show⟨rfl,⟨λb ob e=>?_,λb ob e=>?_⟩,os,bare⟩
        . rcases each b ob e with z |⟨hb,rfl,qs,z⟩
          . show .inl z
          . show .inr (.inl ⟨?_,rfl,#[],qs,rfl,by rw[Array.empty_append];show z⟩)
            rcases hb with rfl |rfl
            . show (hC.tab hT).isCodeTable
            . show (hC'.tab hT').isCodeTable
        . rcases each b ob e with z |⟨_,rfl,qs,z⟩
          . show⟨_,z⟩
          . show⟨_,z⟩
  cases hk:K.lookup a with
  | some o=>
    have e:=KX a o hk
    rw[ha] at e
    cases e
    show core none (.inl rfl) (.inr ⟨_,vs.toArray,_,hk,rfl,rfl,rfl,by rw[List.size_toArray,lenV];show hl,by simpa using rv⟩) λz=>absurd rfl z
  |none=>show core _ (.inr rfl) (.inl (.inr ⟨_,(z9n aT).trans ((z9n aT').trans (z9p rfl))⟩)) λ_=>hk
def aaZ(K:w0a)(y y':Str):Bool:=match w0m K y,w0m K y' with
 |some p,some p'=>p.2 !=p'.2
 |_,_=>false
theorem Mj{y:Str}{c T:afG}(X:K.In h)(G:h.Ns af0 mg)(ht:w0m K y=some (c,T)):pC K mg y c:=λf oc od fd osl e1 e2=>by
 unfold w0m at ht;split at ht
 .rename_i g hg;cases (w0e X G hg).symm.trans e1;rw[e2] at ht
  dsimp only at ht
  split at ht
  .rename_i cc hcc;split at ht
   .split at ht
    .cases ht;show hcc
    .cases ht
   .cases ht
  .cases ht
 .cases ht
theorem aeU{l:w0p}{n k:Nat}{p:afQ}{loose:List Str}{XP:(Str->Option afF)->af8->Prop}{YP:af2->af8->Prop}{d:DefRec}{K:Params->w0a}{x y q y' q':Str}{FL:List D->R D}
  (hn:l.most=some n)(hn2:n<=sizeLine)(hdf:d.params.defaults=[])(hr:Room k callerA)
  (hY:∀(w:af2) (h:af8),YP w h->(K w.params).In h)(hnt:∀w:af2,w0o (K w.params)=true)(htt:∀w:af2,aaZ (K w.params) y y'=true)(hrec:∃dy,(recsOf p).find? (λe:DefRec=>e.name ==y)=some dy)(hrec':∃dy,(recsOf p).find? (λe:DefRec=>e.name ==y')=some dy)
  (F:∀(w:af2) (mg:Str->Option afF) (fa:afG) (h:af8),(K w.params).In h->h.Ns af0 mg->mg d.name=some (.ref fa)->
   ∃fd:agJ,(∀(s:afH) (u:afF),BindsTo s fd ⟨[u],[]⟩ [(x,u)])/\
    ∀(base:af8) (c T c' T':afG),(K w.params).In base->base.Ns af0 mg->iC base mg c T->pC (K w.params) mg y c->iC base mg c' T'->pC (K w.params) mg y' c'->FnOk l.prog w (K w.params) mg base CX0 k fa fd [x] (spT [(T,q),(T',q')] (K w.params) 1 FL))
  (hL:∀ns:List Int,ns.length<=n->FL [.lst (ns.map D.int)]= .ok (.bl true)):
  w0v p loose XP YP l.row.toRowW d [] (λf vs=>PySem.call f vs):=by
 show Att.attach_call hn hdf λw s₀ s₁ mg mb fa o pm cd doc a vs ns G Y ho hd hcd hmg hobj hints hlen hg=>?_;have KX:=hY w _ Y;let⟨fd,hb,hF⟩:=F w mg fa _ KX G.T.g hmg;let⟨dy,hdy⟩:=hrec;let⟨dy',afs⟩:=hrec';have htt:=htt w;unfold aaZ at htt;split at htt
 .rename_i pp pp' e1 e2;let⟨c,T⟩:=pp;let⟨c',T'⟩:=pp';have t1:=w0w G.T KX hdy e1;have t2:=w0w G.T KX afs e2;show YF (q:=q) (q':=q') KX G.T.g G.T.b G.T.builtins G.T.nolimit hg hobj hints (z0b hlen hn2) hr t1.1 t1.2 t2.1 t2.2 (by simpa using htt) (hnt w) G.T.bmain (λbase h1 h2 h3 h4=>hF base c T c' T' h1 h2 h3 (Mj KX G.T.g e1) h4 (Mj KX G.T.g e2)) hb λH tb hS=>⟨tb,sp_law hS (hL ns hlen)⟩
 .cases htt
end Pu
namespace Pu
open PySem PySem.Spec PySem.W L2
open PyProof.Rows hiding St
end Pu
namespace Pu
open PySem PySem.Spec L2
open PyProof.Rows hiding St
section
variable{f:aq->R D}{fl fu:aq->R (Option Int)}{p2 pos:Pos}
end
section
variable{A':afZ}
end
section
variable{kk:Nat}{a:afV}{p pos:Pos}
end
end Pu
namespace Pu
open PySem PySem.W PyProof.Rows
structure Wk(n:Nat)(lt:Nat->Nat->Bool):Prop where
 tr:∀a b c,a<n->b<n->c<n->lt b a=false->lt c b=false->lt c a=false
 as:∀a b,a<n->b<n->lt a b=true->lt b a=false
section
variable{lt:Nat->Nat->Bool}
theorem Wk.rf(o:Wk n lt){a:Nat}(h:a<n):lt a a=false:=by
 cases e:lt a a with
 |false=>rfl
 |true=>rw[<-e];show (o.as a a h h e).symm▸(o.as a a h h e)
def Up(lt:Nat->Nat->Bool)(p:Array Nat)(k:Nat):Prop:=∀i j,i<j->j<k->lt (p.getD j 0) (p.getD i 0)=false
end
end Pu
namespace Pu
open PySem PySem.Spec PySem.W L2
open PyProof.Rows hiding St
theorem Ml{a b c:List Int}(h1:bM b a=false)(h2:bM c b=false):bM c a=false:=by
 cases e:bM c a with
 |false=>rfl
 | true=>
  by_cases q:b=c
  .rw[q] at h1;rw[h1] at e;cases e
  .have h3:=qC (a:=c) (b:=b) (λz=>q z.symm) h2;rw[jq h3 e] at h1;cases h1
theorem Jb{a b:List Int}(h:bM a b=true):bM b a=false:=by
 cases e:bM b a with
 |false=>rfl
 |true=>have:=jq h e;rw[jM] at this;cases this
theorem YG:Wk ts.length (λi j=>bM (ts.getD i []) (ts.getD j [])):=⟨λa b c _ _ _ h1 h2=>Ml h1 h2,λa b _ _ h=>Jb h⟩
abbrev Eo(l:List (List Int)):Prop:=l.Pairwise λa b=>bM b a=false
theorem Jc(p:List Int):∀{l:List (List Int)},Eo l->Eo (mD p l)
 |[],_=>by unfold mD;simp
 | q ::r,h=>by
  let⟨h1,h2⟩:=agt.mp h;unfold mD;by_cases e:bM p q=true
  .rw[z9p e];show agt.mpr ⟨λz hz=>?_,h⟩;rcases afR.mp hz with z1 |z1
   .rw[z1];show Jb e
   .show Ml (Jb e) (h1 z z1)
  .rw[z9n e];show agt.mpr ⟨λz hz=>?_,Jc p h2⟩;rcases afR.mp ((wF p r).mem_iff.mp hz) with z1 |z1
   .rw[z1];simpa using e
   .show h1 z z1
theorem kJ:∀{l:List (List Int)},Eo (aZ l)
 |[]=> .nil
 |p::r=>Jc p kJ
theorem uc:∀{a b:List (List Int)},a.Perm b->Eo a->Eo b->a=b
 |[],b,p,_,_=>(alV.mp p).symm
 |x::a,[],p,_,_=>absurd (alW.mp p) ()
 | x :: a, y::b,p,ha,hb=>by
  have ha':=agt.mp ha;have hb':=agt.mp hb;have h1 :x=y:=by
   rcases afR.mp (p.mem_iff.mp (afT (a:=x) (l:=a))) with h |h
   .show h
   .rcases afR.mp (p.mem_iff.mpr (afT (a:=y) (l:=b))) with k |k
    .show k.symm
    .by_cases e:x=y
     .show e
     .have:=qC e (hb'.1 x h);rw[ha'.1 y k] at this;cases this
  subst h1;rw[uc ((List.perm_cons x).mp p) ha'.2 hb'.2]
theorem Aj{q:Array Nat}(h:Pm ts.length q)(hs:Up (λi j=>bM (ts.getD i []) (ts.getD j [])) q ts.length):q.toList.map (λi=>ts.getD i [])=aZ ts:=by
 show uc ?_ ?_ kJ
 .have e:(afI ts.length).map (λi=>ts.getD i [])=ts:=by
   apply aip;intro i;by_cases hi:i<ts.length
   .simp[hi]
   .simp[hi]
  have:=h.perm.map λi=>ts.getD i [];rw[e] at this;show this.trans (cG ts).symm
 .show aiV.mpr λi j hi hj hij=>?_;have hl:(q.toList.map λi=>ts.getD i []).length=ts.length:=by simp[h.size]
  have:=hs i j hij (by rw[<-hl];show hj);have e:∀(k:Nat) (hk:k<(q.toList.map λi=>ts.getD i []).length),(q.toList.map λi=>ts.getD i [])[k]=ts.getD (q.getD k 0) []:=λk hk=>by
   have hk':k<q.size:=by simpa using hk
   simp[ajj,hk']
  rw[e i hi,e j hj];show this
end Pu
namespace Pu
open PySem PySem.Spec L2
open PyProof.Rows hiding St
end Pu
namespace Pu
open PySem PySem.Spec PySem.W L2
open PyProof.Rows hiding St
variable{Q:Bool->ag3->Prop}{X Y H:List Nat}{i k j x m a v:Nat}{p:Nat->Bool}
def U7:Bool->ah7->Array ah7->Nat->Nat->Nat->StateT ag3 Sem (Option Nat):=sortPriv% PySem.Builtin.gallop
section
variable{κ:ajn}{lt:Nat->Nat->Bool}{st:ag3}
def Asks(prog:afQ)(w:af2)(A:afZ)(s:afH)(κ:ajn)(it:Array ah7)(n:Nat)(lt:Nat->Nat->Bool):Prop:=∀i j C,i<n->j<n->C (lt i j) s->kas_cmp prog w A κ it i j C s
theorem w_lt{Q:Option Bool->ag3->Prop}(hA:Asks prog w A s κ it n lt)(hk:kindOf st=κ)(hi:i<n)(hj:j<n)(h:Q (some (lt i j)) st):
  wpS (model prog w) A E s (lt' (agF it i) (agF it j)) Q st:=by
 rw[lt'_eq];show afO (ajN ?_);rw[hk];show afO (akN (ais (ahf (hA i j (λc s'=>s'=s/\c=lt i j) hi hj ⟨rfl,rfl⟩) (λc s' hc=>?_) λ_ _ x=>x.elim)));let⟨rfl,rfl⟩:=hc;show⟨rfl,afY h⟩
theorem YH{p:Array Nat}{Q:ah7->ag3->Prop}(hi:i<p.size)(h:Q (agF it (p.getD i 0)) st):wpS (model prog w) A E s (elem' (p.map (agF it)) i) Q st:=by
 have e:(p.map (agF it))[i]?=some (agF it (p.getD i 0)):=by
  have e:p.getD i 0=p[i]:=by simp[ajj,hi]
  rw[e];simp[hi]
 rw[elem'_eq,e];show afY h
theorem Qv{lo hi:Nat}{f:Nat->Option (Option Nat)×Nat×Nat->StateT ag3 Sem (ForInStep (Option (Option Nat)×Nat×Nat))}{Q:Option (Option Nat)×Nat×Nat->ag3->Prop}(mo:∀i j,i<=j->j<m->p j=true->p i=true)
  (f1:∀x lo hi {R:ForInStep (Option (Option Nat)×Nat×Nat)->ag3->Prop},lo>=hi->R (.done (none,lo,hi)) st->wpS (model prog w) A E s (f x (none,lo,hi)) R st)
  (f2:∀x lo hi {R:ForInStep (Option (Option Nat)×Nat×Nat)->ag3->Prop},lo<hi->hi<=m->R (.yield (if p (lo+(hi - lo) / 2)=true then (none,lo+(hi - lo) / 2+1,hi) else (none,lo,lo+(hi - lo) / 2))) st->wpS (model prog w) A E s (f x (none,lo,hi)) R st)
  (h0:lo<=hi)(h1:hi<=m)(h2:∀i,i<lo->p i=true)(h3:∀i,hi<=i->i<m->p i=false)
  (h:∀k,k<=m->(∀i,i<k->p i=true)->(∀i,k<=i->i<m->p i=false)->∀l,Q (none,l,k) st):wpS (model prog w) A E s (forIn [0:m] (none,lo,hi) f) Q st:=by
 show ag7 (I:=λx c st'=>st'=st/\∃lo hi,c=(none,lo,hi)/\lo<=hi/\hi<=m/\hi - lo<=m - x/\(∀i,i<lo->p i=true)/\(∀i,hi<=i->i<m->p i=false)) ?_ ?_ ⟨rfl,lo,hi,rfl,h0,h1,(),h2,h3⟩
 .rintro x c st' - hx ⟨rfl,lo,hi,rfl,a0,a1,a2,a3,a4⟩
  by_cases c:lo>=hi
  .obtain rfl:lo=hi:=()
   show f1 x _ _ c (h _ a1 a3 a4 _)
  .show f2 x _ _ () a1 ?_;cases e:p (lo+(hi - lo) / 2) with
   | true=>
    rw[z9p rfl];show⟨rfl,_,_,rfl,(),a1,(),λi hi'=>mo i _ () () e,a4⟩
   | false=>
    rw[z9n {}];show⟨rfl,_,_,rfl,(),(),(),a3,λi h1 h2=>?_⟩;cases e2:p i with
    |false=>rfl
    |true=>rw[mo _ i h1 h2 e2] at e;cases e
 .rintro c st' ⟨rfl,lo,hi,rfl,a0,a1,a2,a3,a4⟩
  obtain rfl:lo=hi:=()
  show h _ a1 a3 a4 _
theorem aa0{left:Bool}{key:Nat}{q:Array Nat}{base hint:Nat}{Q:Option Nat->ag3->Prop}(hA:Asks prog w A s κ it n lt)(hk:kindOf st=κ)(hq:∀i,i<q.size->q.getD i 0<n)(hy:key<n)(hb:base+m<=q.size)(hh:hint<m)
  (hp:∀i,i<m->p i=if left=true then lt (q.getD (base+i) 0) key else !lt key (q.getD (base+i) 0))(mo:∀i j,i<=j->j<m->p j=true->p i=true)
  (h:∀k,k<=m->(∀i,i<k->p i=true)->(∀i,k<=i->i<m->p i=false)->Q (some k) st):wpS (model prog w) A E s (U7 left (agF it key) (q.map (agF it)) base m hint) Q st:=by
 have by_:∀(i:Nat) {R:Option Bool->ag3->Prop},i<m->R (some (p i)) st->wpS (model prog w) A E s (do
   let x <-elem' (q.map (agF it)) (base+i)
   if left=true then lt' x (agF it key) else do
    let r <-lt' (agF it key) x
    pure (Option.map (λx=> !x) r)) R st:=λi R hi hr=>by
  have b:=hq (base+i) ();show afO (YH () ?_);rw[hp i hi] at hr;cases left with
  |true=>rw[z9p rfl] at hr |-;show w_lt hA hk b hy hr
  |false=>rw[z9n {}] at hr |-;show afO (w_lt hA hk hy b (afY hr))
 show afO (by_ hint hh ?_)
 dsimp only
 cases e:p hint with
 | true =>
  rw[z9p rfl];show afO (aiB (ag7 (I:=λx c st'=>st'=st/\∃la of:Nat,c=(none,la,of)/\x+1<=of/\la<of/\hint+la<m/\p (hint+la)=true) (Q:=λc st'=>st'=st/\∃la of:Nat,c=(none,la,of)/\la<of/\hint+la<m/\p (hint+la)=true/\(m<=hint+of\/p (hint+of)=false)) ?_ ?_ ⟨rfl,0,1,rfl,(),(),hh,e⟩) ?_)
  .rintro x c st' - hx ⟨rfl,la,of,rfl,a1,a2,a3,a4⟩
   dsimp only
   by_cases c:of>=m - hint
   .rw[z9p c];show afY ⟨rfl,la,of,rfl,a2,a3,a4,.inl ()⟩
   .rw[z9n c];show afO (by_ (hint+of) () ?_)
    dsimp only
    cases e2:p (hint+of) with
    |true=>rw[z9n {}];show afY ⟨rfl,of,2*of+1,rfl,(),(),(),e2⟩
    |false=>rw[z9p {}];show afY ⟨rfl,la,of,rfl,a2,a3,a4,.inr e2⟩
  .rintro c st' ⟨rfl,la,of,rfl,a1,a2,a3,a4⟩
   show⟨rfl,la,of,rfl,a2,a3,a4,.inl ()⟩
  .rintro c st' ⟨rfl,la,of,rfl,a2,a3,a4,a5⟩
   dsimp only
   show afO (Qv (p:=p) mo (λx lo hi R c hr=>?_) (λx lo hi R c c2 hr=>?_) () () (λi hi=>mo i _ () a3 a4) (λi h1 h2=>?_) λk k1 k2 k3 l=>?_)
   .dsimp only;rw[z9p c];show afY hr
   .dsimp only
    rw[z9n ()];show afO (by_ _ () ?_)
    dsimp only
    cases e3:p (lo+(hi - lo) / 2) with
    |true=>rw[e3] at hr;show afY hr
    |false=>rw[e3] at hr;show afY hr
   .rcases a5 with a5 |a5
    .omega
    .cases e2:p i with
     |false=>rfl
     |true=>rw[mo _ i () h2 e2] at a5;cases a5
   .show afY (h k k1 k2 k3)
 | false=>
  rw[z9n {}];show afO (aiB (ag7 (I:=λx c st'=>st'=st/\∃la of:Nat,c=(none,la,of)/\x+1<=of/\la<of/\la<=hint/\p (hint - la)=false) (Q:=λc st'=>st'=st/\∃la of:Nat,c=(none,la,of)/\la<of/\la<=hint/\p (hint - la)=false/\(hint<of\/p (hint - of)=true)) ?_ ?_ ⟨rfl,0,1,rfl,(),(),(),e⟩) ?_)
  .rintro x c st' - hx ⟨rfl,la,of,rfl,a1,a2,a3,a4⟩
   dsimp only
   by_cases c:of>=hint+1
   .rw[z9p c];show afY ⟨rfl,la,of,rfl,a2,a3,a4,.inl ()⟩
   .rw[z9n c];show afO (by_ (hint - of) () ?_)
    dsimp only
    cases e2:p (hint - of) with
    |true=>rw[z9p rfl];show afY ⟨rfl,la,of,rfl,a2,a3,a4,.inr e2⟩
    |false=>rw[z9n {}];show afY ⟨rfl,of,2*of+1,rfl,(),(),(),e2⟩
  .rintro c st' ⟨rfl,la,of,rfl,a1,a2,a3,a4⟩
   show⟨rfl,la,of,rfl,a2,a3,a4,.inl ()⟩
  .rintro c st' ⟨rfl,la,of,rfl,a2,a3,a4,a5⟩
   dsimp only
   show afO (Qv (p:=p) mo (λx lo hi R c hr=>?_) (λx lo hi R c c2 hr=>?_) () () (λi hi=>?_) (λi h1 h2=>?_) λk k1 k2 k3 l=>?_)
   .dsimp only;rw[z9p c];show afY hr
   .dsimp only
    rw[z9n ()];show afO (by_ _ () ?_)
    dsimp only
    cases e3:p (lo+(hi - lo) / 2) with
    |true=>rw[e3] at hr;show afY hr
    |false=>rw[e3] at hr;show afY hr
   .rcases a5 with a5 |a5
    .omega
    .show mo i _ () () a5
   .cases e2:p i with
    |false=>rfl
    |true=>rw[mo _ i () h2 e2] at a4;cases a4
   .show afY (h k k1 k2 k3)
end
def aa1:Array ah7->Array ah7->StateT ag3 Sem (Array ah7):=sortPriv% PySem.Builtin.mergeLo
def ar(it:Array ah7)(l:List Nat):Array ah7:=(l.map (agF it)).toArray
def gal(st:ag3)(g:Nat):ag3:=ahP (kindOf st) (arrOf st) (pendingOf st) g (failedOf st)
def cH(lt:Nat->Nat->Bool)(l:List Nat):Prop:=l.Pairwise λx y=>lt y x=false
section
variable{κ:ajn}{lt:Nat->Nat->Bool}{st:ag3}{l l' la lb o:List Nat}{ia ib:Nat}
theorem oG:(ar it l).size=l.length:=by simp[ar]
theorem rN:(ar it l).extract i j=ar it ((l.drop i).take (j - i)):=by
 unfold ar;rw[List.extract_toArray,List.extract_eq_take_drop,akj,List.map_drop]
theorem adW:(ar it l).extract i (ar it l).size=ar it (l.drop i):=by
 rw[rN,oG,aib (by rw[aho];show z0g _)]
theorem eO:ar it l++ar it l'=ar it (l++l'):=by unfold ar;rw[agw];simp
theorem yx:(ar it l).push (agF it i)=ar it (l++[i]):=by unfold ar;rw[agw];simp
theorem YJ:(ar it l).reverse=ar it l.reverse:=by unfold ar;rw[List.map_reverse];simp
theorem Jd:l.toArray.map (agF it)=ar it l:=by unfold ar;simp
theorem vf:l.toArray.getD i 0=l.getD i 0:=by simp[ajj,agZ];split <;> simp_all
theorem getD_mem(h:i<l.length):l.getD i 0∈l:=by simp[h]
theorem dD{Q:ah7->ag3->Prop}(hi:i<l.length)(h:Q (agF it (l.getD i 0)) st):wpS (model prog w) A E s (elem' (ar it l) i) Q st:=by
 rw[<-Jd];show YH (by simpa using hi) (by rw[vf];show h)
theorem oH{left:Bool}{key:Nat}{base hint:Nat}{Q:Option Nat->ag3->Prop}(hA:Asks prog w A s κ it n lt)(hk:kindOf st=κ)(hq:∀x∈l,x<n)(hy:key<n)(hb:base+m<=l.length)(hh:hint<m)
  (hp:∀i,i<m->p i=if left=true then lt (l.getD (base+i) 0) key else !lt key (l.getD (base+i) 0))(mo:∀i j,i<=j->j<m->p j=true->p i=true)
  (h:∀k,k<=m->(∀i,i<k->p i=true)->(∀i,k<=i->i<m->p i=false)->Q (some k) st):wpS (model prog w) A E s (U7 left (agF it key) (ar it l) base m hint) Q st:=by
 rw[<-Jd];show aa0 hA hk (λi hi=>by rw[vf];show hq _ (getD_mem (by simpa using hi))) hy (by simpa using hb) hh (λi hi=>by rw[vf];show hp i hi) mo h
theorem cH.get(h:cH lt l)(hij:i<j)(hj:j<l.length):lt (l.getD j 0) (l.getD i 0)=false:=by
 have:=aiV.mp h i j () hj hij;simpa[agZ,hj,show i<l.length by omega] using this
theorem cH.drop(h:cH lt l)(i:Nat):cH lt (l.drop i):=akq (List.drop_sublist i l) h
theorem cH.take(h:cH lt l)(i:Nat):cH lt (l.take i):=akq (ajp i l) h
theorem cH.cut(h:cH lt l)(k:Nat):∀x∈l.take k,∀y∈l.drop k,lt y x=false:=by
 have h':cH lt (l.take k++l.drop k):=by rw[agh];show h
 show (agd.mp h').2.2
structure Mg(lt:Nat->Nat->Bool)(la lb o:List Nat)(ia ib:Nat):Prop where
 pm:o.Perm (la.take ia++lb.take ib)
 so:cH lt o
 la:∀x∈o,∀y∈la.drop ia,lt y x=false
 lb:∀x∈o,∀y∈lb.drop ib,lt y x=false
theorem Mg.swap(m:Mg lt la lb o ia ib):Mg lt lb la o ib ia:=⟨m.pm.trans ahy,m.so,m.lb,m.la⟩
theorem Mg.nil:Mg lt la lb [] 0 0:=⟨.refl _,.nil,λ_ h=>by simp at h,λ_ h=>by simp at h⟩
theorem Mg.blk(m:Mg lt la lb o ia ib)(sa:cH lt la)(hb:∀x∈(la.drop ia).take k,∀y∈lb.drop ib,lt y x=false):Mg lt la lb (o++(la.drop ia).take k) (ia+k) ib:=by
 have hd:la.drop (ia+k)=(la.drop ia).drop k:=by rw[alQ]
 show⟨?_,?_,λx hx y hy=>?_,λx hx y hy=>?_⟩
 .rw[alX];show (m.pm.append_right _).trans ((afM _ _ _▸(ahy.append_left _).trans (.of_eq (afM _ _ _).symm)))
 .show agd.mpr ⟨m.so,(sa.drop ia).take k,λx hx y hy=>m.la x hx y (af5 hy)⟩
 .rw[hd] at hy;rcases agk.mp hx with hx |hx
  .show m.la x hx y (agE hy)
  .show (sa.drop ia).cut k x hx y hy
 .rcases agk.mp hx with hx |hx
  .show m.lb x hx y hy
  .show hb x hx y hy
theorem take_one{l:List Nat}(h:i<l.length):(l.drop i).take 1=[l.getD i 0]:=by
 rw[ahr h,aia,aiW];simp[agZ,h]
theorem Mg.push(m:Mg lt la lb o ia ib)(sa:cH lt la)(hi:ia<la.length)(hb:∀y∈lb.drop ib,lt y (la.getD ia 0)=false):Mg lt la lb (o++[la.getD ia 0]) (ia+1) ib:=by
 have:=m.blk sa (k:=1) (by rw[take_one hi];intro x hx;rw[af3.mp hx];show hb);rw[take_one hi] at this;show this
theorem Mg.fin(m:Mg lt la lb o ia ib)(sa:cH lt la)(sb:cH lt lb)(h:∀x∈la.drop ia,∀y∈lb.drop ib,lt y x=false):(o++la.drop ia++lb.drop ib).Perm (la++lb)/\cH lt (o++la.drop ia++lb.drop ib):=by
 constructor
 .have e1:(la.take ia++lb.take ib++la.drop ia++lb.drop ib).Perm ((la.take ia++la.drop ia)++(lb.take ib++lb.drop ib)):=by
   rw[afM,afM,afM];show .append_left _ ?_;rw[<-afM,<-afM];show ahy.append_right _
  rw[agh,agh] at e1;show ((m.pm.append_right _).append_right _).trans e1
 .show agd.mpr ⟨agd.mpr ⟨m.so,sa.drop _,m.la⟩,sb.drop _,λx hx y hy=>?_⟩;rcases agk.mp hx with hx |hx
  .show m.lb x hx y hy
  .show h x hx y hy
theorem jN{l:List Nat}(h:x∈(l.drop i).take k):∃j,j<k/\i+j<l.length/\x=l.getD (i+j) 0:=by
 let⟨j,hj,e⟩:=akE h;rw[agg,aho] at hj;show⟨j,(),(),?_⟩;rw[<-e,List.getElem_take,List.getElem_drop];simp[agZ,show i+j<l.length by omega]
theorem jO{l:List Nat}(h:x∈l.drop i):∃j,i<=j/\j<l.length/\x=l.getD j 0:=by
 let⟨j,hj,e⟩:=akE h;rw[aho] at hj;show⟨i+j,(),(),?_⟩;rw[<-e,List.getElem_drop];simp[agZ,show i+j<l.length by omega]
theorem cH.from(h:cH lt l)(od:Wk n lt)(hb:∀x∈l,x<n)(hi:i<l.length):∀y∈l.drop i,lt y (l.getD i 0)=false:=λy hy=>by
 let⟨j,h1,h2,rfl⟩:=jO hy;by_cases e:i=j
 .rw[e];show od.rf (hb _ (getD_mem h2))
 .show h.get () h2
theorem YK{Q:Array ah7->ag3->Prop}(hA:Asks prog w A s κ it n lt)(od:Wk n lt)(hk:kindOf st=κ)(ba:∀x∈la,x<n)(bb:∀x∈lb,x<n)(sa:cH lt la)(sb:cH lt lb)(na:1<=la.length)(nb:1<=lb.length)
  (hf:∀x∈la,lt x (lb.getD 0 0)=false)(hl:∀y∈lb,lt (la.getD (la.length - 1) 0) y=false)
  (h:∀c g,c.Perm (la++lb)->cH lt c->Q (ar it c) (gal st g)):wpS (model prog w) A E s (aa1 (ar it la) (ar it lb)) Q st:=by
 have m0:Mg lt la lb [lb.getD 0 0] 0 1:=(Mg.nil.swap.push sb nb (by rw[ah0];show hf)).swap;have OD:∀{o ia ib},Mg lt la lb o ia ib->ia+1=la.length->(o++lb.drop ib++la.drop ia).Perm (la++lb)/\cH lt (o++lb.drop ib++la.drop ia):=λ{o ia ib} m e=>by
  let⟨f1,f2⟩:=m.swap.fin sb sa λx hx y hy=>by
   let⟨j,j1,j2,rfl⟩:=jO hy;obtain rfl:j=la.length - 1:=()
   show hl x (agE hx)
  show⟨f1.trans ahy,f2⟩
 have Ep:∀{o ia ib},Mg lt la lb o ia ib->ib=lb.length->(o++la.drop ia++lb.drop ib).Perm (la++lb)/\cH lt (o++la.drop ia++lb.drop ib):=λ{o ia ib} m e=>m.fin sa sb λx _ y hy=>by
  rw[e,ai4] at hy;simp at hy
 have Er:∀{o ia ib},Mg lt la lb o ia ib->ia=la.length->(o++la.drop ia++lb.drop ib).Perm (la++lb)/\cH lt (o++la.drop ia++lb.drop ib):=λ{o ia ib} m e=>m.fin sa sb λx hx=>by
  rw[e,ai4] at hx;simp at hx
 show afO (akN (ahg ⟨rfl,?_⟩));show afO (dD nb ?_)
 dsimp only
 have e0: #[agF it (lb.getD 0 0)]=ar it [lb.getD 0 0]:=rfl;rw[e0];simp only[adW,eO];rw[oG,oG];by_cases c1:1=lb.length
 .rw[z9p (by simpa using c1)];let⟨f1,f2⟩:=Ep m0 c1;show afY (h _ (alA st) f1 f2)
 rw[z9n (by simpa using c1)];by_cases c2:0+1=la.length
 .rw[z9p (by simpa using c2)];let⟨f1,f2⟩:=OD m0 c2;show afY (h _ (alA st) f1 f2)
 rw[z9n (by simpa using c2)];show afO (ajN ?_);show afO (aiB (ag7 (I:=λx c st'=>∃o ia ib g mg,c=(none,ar it o,ia,ib,mg)/\st'=gal st g/\Mg lt la lb o ia ib/\ia+1<la.length/\ib<lb.length/\x+1<=ia+ib) (Q:=λc st'=>∃r g,c.1=some (ar it r)/\st'=gal st g/\r.Perm (la++lb)/\cH lt r) ?_ ?_ ⟨_,0,1,alA st,_,rfl,rfl,m0,(),(),()⟩) ?_)
 .rintro x c st' - hx ⟨o,ia,ib,g,mg,rfl,rfl,m,m1,m2,m3⟩
  dsimp only
  show afO (aiB (ag7 (I:=λy c st'=>∃o' ja jb ac bc,c=(none,ar it o',ja,jb,ac,bc)/\st'=gal st g/\Mg lt la lb o' ja jb/\ja+1<la.length/\jb<lb.length/\y+(ia+ib)<=ja+jb)
   (Q:=λc st'=>st'=gal st g/\((∃r,c.1=some (ar it r)/\r.Perm (la++lb)/\cH lt r)\/∃o' ja jb ac bc,c=(none,ar it o',ja,jb,ac,bc)/\Mg lt la lb o' ja jb/\ja+1<la.length/\jb<lb.length/\ia+ib+1<=ja+jb)) ?_ ?_ ⟨o,ia,ib,0,0,rfl,rfl,m,m1,m2,()⟩) ?_)
  .rintro y c st' - hy ⟨o',ja,jb,ac,bc,rfl,rfl,m',n1,n2,n3⟩
   dsimp only
   show afO (dD n2 (afO (dD (show ja<la.length by omega) (afO (w_lt hA hk (bb _ (getD_mem n2)) (ba _ (getD_mem ())) ?_)))))
   dsimp only
   cases e:lt (lb.getD jb 0) (la.getD ja 0) with
   | true=>
    rw[z9p rfl];show afO (dD n2 ?_);rw[yx];have bA:=ba _ (getD_mem (show ja<la.length by omega));have bB:=bb _ (getD_mem n2);have m2':=(m'.swap.push sb n2 λy hy=>od.tr _ _ _ bB bA (ba _ (agE hy)) (od.as _ _ bB bA e) (sa.from od ba () y hy)).swap;by_cases c:jb+1=lb.length
    .rw[z9p (by simpa using c)];let⟨f1,f2⟩:=Ep m2' c;show afY ⟨rfl,.inl ⟨_,by rw[eO,eO],f1,f2⟩⟩
    rw[z9n (by simpa using c)];by_cases c3:bc+1>=mg
    .rw[z9p c3];show afY ⟨rfl,.inr ⟨_,_,_,_,_,rfl,m2',n1,(),()⟩⟩
    .rw[z9n c3];show afY ⟨_,_,_,_,_,rfl,rfl,m2',n1,(),()⟩
   | false=>
    rw[z9n {}];show afO (dD (show ja<la.length by omega) ?_);rw[yx];have bA:=ba _ (getD_mem (show ja<la.length by omega));have bB:=bb _ (getD_mem n2);have m2':=m'.push sa () λy hy=>od.tr _ _ _ bA bB (bb _ (agE hy)) e (sb.from od bb n2 y hy);by_cases c:ja+1+1=la.length
    .rw[z9p (by simpa using c)];let⟨f1,f2⟩:=OD m2' c;show afY ⟨rfl,.inl ⟨_,by rw[eO,eO],f1,f2⟩⟩
    rw[z9n (by simpa using c)];by_cases c3:ac+1>=mg
    .rw[z9p c3];show afY ⟨rfl,.inr ⟨_,_,_,_,_,rfl,m2',(),n2,()⟩⟩
    .rw[z9n c3];show afY ⟨_,_,_,_,_,rfl,rfl,m2',(),n2,()⟩
  .rintro c st' ⟨o',ja,jb,ac,bc,rfl,rfl,m',n1,n2,n3⟩
   show⟨rfl,.inr ⟨_,_,_,_,_,rfl,m',n1,n2,()⟩⟩
  .rintro c st' ⟨rfl,⟨r,e,f1,f2⟩ |⟨o',ja,jb,ac,bc,rfl,m',n1,n2,n3⟩⟩
   .rw[e];show afY ⟨r,g,rfl,rfl,f1,f2⟩
   dsimp only
   show afO (akN (ahg ⟨rfl,?_⟩))
   clear m m1 m2
   generalize hP0:ia+ib+1=P0 at n3
   show afO (aiB (ag7 (I:=λy c st'=>∃o' ja jb mg ac bc g,c=(none,ar it o',ja,jb,mg,ac,bc)/\st'=gal st g/\Mg lt la lb o' ja jb/\ja+1<la.length/\jb<lb.length/\P0<=ja+jb)
    (Q:=λc st'=>∃g,st'=gal st g/\((∃r,c.1=some (ar it r)/\r.Perm (la++lb)/\cH lt r)\/∃o' ja jb mg ac bc,c=(none,ar it o',ja,jb,mg,ac,bc)/\Mg lt la lb o' ja jb/\ja+1<la.length/\jb<lb.length/\P0<=ja+jb)) ?_ ?_ ⟨o',ja,jb,mg+1,ac,bc,g,rfl,rfl,m',n1,n2,n3⟩) ?_)
   .clear m' n1 n2 n3 o' ja jb ac bc
    rintro y c st' - hy ⟨o',ja,jb,mg,ac,bc,g,rfl,rfl,m',n1,n2,n3⟩
    dsimp only
    have bB:=bb _ (getD_mem n2);have kk:∀{g},kindOf (gal st g)=κ:=hk;by_cases c0:mg > 1
    all_goals first |rw[z9p c0] |rw[z9n c0]
    all_goals show afO (aiD ?_)
    all_goals show afO (dD (st:=gal st _) n2 ?_)
    all_goals show afO (oH (p:=λi=> !lt (lb.getD jb 0) (la.getD (ja+i) 0)) hA kk ba bB () () (λi hi=>rfl) (λi j h1 h2 hp=>?_) λk k1 k2 k3=>?_)
    all_goals first
     | (by_cases e:i=j
        .rw[e];show hp
        .have hp:lt (lb.getD jb 0) (la.getD (ja+j) 0)=false:=by simpa using hp
         have:=od.tr _ _ _ (ba _ (getD_mem (show ja+i<la.length by omega))) (ba _ (getD_mem (show ja+j<la.length by omega))) bB (sa.get () ()) hp;simpa using this)
     |skip
    all_goals dsimp only
    all_goals
     have m3:=m'.blk sa (k:=k) λx hx y hy=>by
      let⟨j,j1,j2,rfl⟩:=jN hx;have hp:lt (lb.getD jb 0) (la.getD (ja+j) 0)=false:=by simpa using k2 j j1
      show od.tr _ _ _ (ba _ (getD_mem j2)) bB (bb _ (agE hy)) hp (sb.from od bb n2 y hy)
     have z3:∀y∈la.drop (ja+k),lt y (lb.getD jb 0)=false:=λy hy=>by
      let⟨j,j1,j2,rfl⟩:=jO hy;have hp:=k3 (j - ja) () ();rw[show ja+(j - ja)=j by omega] at hp;show od.as _ _ bB (ba _ (getD_mem j2)) (by simpa using hp)
     by_cases c1:k > 0
    all_goals have z1:ja+k<=la.length:=()
    all_goals first
     | (rw[z9p c1,rN,show ja+k - ja=k by omega,eO]
        by_cases c2:ja+k+1=la.length
        .rw[z9p (by simpa using c2)];let⟨f1,f2⟩:=OD m3 c2;show afY ⟨_,rfl,.inl ⟨_,by rw[eO,eO],f1,f2⟩⟩
        rw[z9n (by simpa using c2)];by_cases c3:ja+k=la.length
        .rw[z9p (by simpa using c3)];let⟨f1,f2⟩:=Er m3 c3;show afY ⟨_,rfl,.inl ⟨_,by rw[eO,eO],f1,f2⟩⟩
        rw[z9n (by simpa using c3)];have z2:ja+k+1<la.length:=()
        have z4:P0<=ja+k+jb:=()
        clear z1 c1 c2 c3 k2 k3 m' n1 n3
        generalize o'++List.take k (List.drop ja la)=o3 at m3 |-
        generalize hj3:ja+k=j3 at m3 z2 z3 z4 |-)
     | (rw[z9n c1]
        obtain rfl:k=0:=()
        rw[aiW,agi,ai7] at m3;rw[ai7] at z3;have z2:ja+1<la.length:=n1;have z4:P0<=ja+jb:=n3
        clear z1 c1 k2 k3 n1 n3 m'
        generalize o'=o3 at m3 |-
        generalize hj3:ja=j3 at m3 z2 z3 z4 |-)
    all_goals
     show afO (dD n2 ?_);rw[yx];have m4:=(m3.swap.push sb n2 z3).swap;by_cases c2:jb+1=lb.length
     .rw[z9p (by simpa using c2)];let⟨f1,f2⟩:=Ep m4 c2;show afY ⟨_,rfl,.inl ⟨_,by rw[eO,eO],f1,f2⟩⟩
     rw[z9n (by simpa using c2)];have bA:=ba _ (getD_mem (show j3<la.length by omega));show afO (dD (show j3<la.length by omega) (afO (oH (p:=λi=>lt (lb.getD (jb+1+i) 0) (la.getD j3 0)) hA kk bb bA () () (λi hi=>rfl) (λi j h1 h2 hp=>?_) λk5 u1 u2 u3=>?_)))
     .by_cases e:i=j
      .rw[e];show hp
      .cases e2:lt (lb.getD (jb+1+i) 0) (la.getD j3 0) with
       |true=>rfl
       |false=>rw[od.tr _ _ _ bA (bb _ (getD_mem (show jb+1+i<lb.length by omega))) (bb _ (getD_mem (show jb+1+j<lb.length by omega))) e2 (sb.get () ())] at hp;cases hp
     dsimp only
     have m5:=(m4.swap.blk sb (k:=k5) λx hx y hy=>by
      let⟨j,v1,v2,rfl⟩:=jN hx;have bX:=bb _ (getD_mem v2);show od.tr _ _ _ bX bA (ba _ (agE hy)) (od.as _ _ bX bA (u2 j v1)) (sa.from od ba () y hy)).swap
     have z5:∀y∈lb.drop (jb+1+k5),lt y (la.getD j3 0)=false:=λy hy=>by
      let⟨j,v1,v2,rfl⟩:=jO hy;have hp:=u3 (j - (jb+1)) () ();rw[show jb+1+(j - (jb+1))=j by omega] at hp;show hp
     by_cases c1:k5 > 0
    all_goals first
     | (rw[z9p c1,rN,show jb+1+k5 - (jb+1)=k5 by omega,eO]
        by_cases c3:jb+1+k5=lb.length
        .rw[z9p (by simpa using c3)];let⟨f1,f2⟩:=Ep m5 c3;show afY ⟨_,rfl,.inl ⟨_,by rw[eO,eO],f1,f2⟩⟩
        rw[z9n (by simpa using c3)];have z6:jb+1+k5<lb.length:=()
        have z7:P0<=j3+(jb+1+k5):=()
        clear c1 c3 u2 u3 m4
        generalize o3++[lb.getD jb 0]++List.take k5 (List.drop (jb+1) lb)=o5 at m5 |-
        generalize hj5:jb+1+k5=j5 at m5 z5 z6 z7 |-)
     | (rw[z9n c1]
        obtain rfl:k5=0:=()
        rw[aiW,agi,ai7] at m5;rw[ai7] at z5;have z6:jb+1<lb.length:=()
        have z7:P0<=j3+(jb+1):=()
        clear c1 u2 u3 m4
        generalize o3++[lb.getD jb 0]=o5 at m5 |-
        generalize hj5:jb+1=j5 at m5 z5 z6 z7 |-)
    all_goals
     show afO (dD (show j3<la.length by omega) ?_);rw[yx];have m6:=m5.push sa () z5;by_cases c3:j3+1+1=la.length
     .rw[z9p (by simpa using c3)];let⟨f1,f2⟩:=OD m6 c3;show afY ⟨_,rfl,.inl ⟨_,by rw[eO,eO],f1,f2⟩⟩
     rw[z9n (by simpa using c3)];split
     .show afY ⟨_,rfl,.inr ⟨_,_,_,_,_,_,rfl,m6,(),z6,()⟩⟩
     .show afY ⟨_,_,_,_,_,_,_,rfl,rfl,m6,(),z6,()⟩
   .rintro c st' ⟨o',ja,jb,mg,ac,bc,g,rfl,rfl,m',n1,n2,n3⟩
    show⟨g,rfl,.inr ⟨_,_,_,_,_,_,rfl,m',n1,n2,n3⟩⟩
   .rintro c st' ⟨g,rfl,⟨r,e,f1,f2⟩ |⟨o',ja,jb,mg,ac,bc,rfl,m',n1,n2,n3⟩⟩
    .rw[e];show afY ⟨r,g,rfl,rfl,f1,f2⟩
    dsimp only
    show afO (aiD (afY ?_));show⟨_,_,_,_,_,rfl,rfl,m',n1,n2,()⟩
 .rintro c st' ⟨o,ia,ib,g,mg,rfl,rfl,m,m1,m2,m3⟩
  omega
 .rintro c st' ⟨r,g,e,rfl,f1,f2⟩
  rw[e];show afY (h r g f1 f2)
end
def aa2:Array ah7->Array ah7->StateT ag3 Sem (Array ah7):=sortPriv% PySem.Builtin.mergeHi
section
variable{κ:ajn}{lt:Nat->Nat->Bool}{st:ag3}{l l' la lb r:List Nat}{ia ib:Nat}
theorem adX:(ar it l).extract 0 i=ar it (l.take i):=by rw[rN,ah0,akB]
structure Mh(lt:Nat->Nat->Bool)(la lb r:List Nat)(ia ib:Nat):Prop where
 pm:r.Perm (la.drop ia++lb.drop ib)
 so:cH lt r
 la:∀x∈la.take ia,∀y∈r,lt y x=false
 lb:∀x∈lb.take ib,∀y∈r,lt y x=false
theorem Mh.swap(m:Mh lt la lb r ia ib):Mh lt lb la r ib ia:=⟨m.pm.trans ahy,m.so,m.lb,m.la⟩
theorem Mh.nil:Mh lt la lb [] la.length lb.length:=⟨by rw[ai4,ai4];show .refl _,.nil,λ_ _ _ h=>by simp at h,λ_ _ _ h=>by simp at h⟩
theorem Mh.blk(m:Mh lt la lb r ia ib)(sa:cH lt la)(hk:k<=ia)(hb:∀y∈(la.drop k).take (ia - k),∀x∈lb.take ib,lt y x=false):Mh lt la lb ((la.drop k).take (ia - k)++r) k ib:=by
 have hx:(la.take ia).drop k=(la.drop k).take (ia - k):=List.drop_take;have h1:la.drop k=(la.drop k).take (ia - k)++la.drop ia:=by
  have:=(agh (ia - k) (la.drop k)).symm;rw[alQ,show k+(ia - k)=ia by omega] at this;show this
 have h2:(la.take ia).take k=la.take k:=by rw[aiX,ajd hk]
 show⟨?_,?_,λx hx' y hy=>?_,λx hx' y hy=>?_⟩
 .show (m.pm.append_left _).trans (.of_eq ?_);rw[<-afM,<-h1]
 .show agd.mpr ⟨(sa.drop k).take _,m.so,λx hx' y hy=>m.la x (agE (hx▸hx')) y hy⟩
 .rw[<-h2] at hx';rcases agk.mp hy with hy |hy
  .rw[<-hx] at hy;show (sa.take ia).cut k x hx' y hy
  .show m.la x (af5 hx') y hy
 .rcases agk.mp hy with hy |hy
  .show hb y hy x hx'
  .show m.lb x hx' y hy
theorem Mh.push(m:Mh lt la lb r ia ib)(sa:cH lt la)(hi:0<ia)(hl:ia<=la.length)(hb:∀x∈lb.take ib,lt (la.getD (ia - 1) 0) x=false):Mh lt la lb (la.getD (ia - 1) 0::r) (ia - 1) ib:=by
 have e:(la.drop (ia - 1)).take (ia - (ia - 1))=[la.getD (ia - 1) 0]:=by rw[show ia - (ia - 1)=1 by omega];show take_one ()
 have:=m.blk sa (k:=ia - 1) () (by rw[e];intro x hx;rw[af3.mp hx];show hb);rw[e] at this;show this
theorem Mh.fin(m:Mh lt la lb r ia ib)(sa:cH lt la)(sb:cH lt lb)(h:∀x∈la.take ia,∀y∈lb.take ib,lt y x=false):(la.take ia++lb.take ib++r).Perm (la++lb)/\cH lt (la.take ia++lb.take ib++r):=by
 constructor
 .have e1:(la.take ia++lb.take ib++(la.drop ia++lb.drop ib)).Perm ((la.take ia++la.drop ia)++(lb.take ib++lb.drop ib)):=by
   rw[afM,afM];show .append_left _ ?_;rw[<-afM,<-afM];show ahy.append_right _
  rw[agh,agh] at e1;show (m.pm.append_left _).trans e1
 .show agd.mpr ⟨agd.mpr ⟨sa.take _,sb.take _,h⟩,m.so,λx hx y hy=>?_⟩;rcases agk.mp hx with hx |hx
  .show m.la x hx y hy
  .show m.lb x hx y hy
theorem fZ{l:List Nat}(h:x∈l.take i):∃j,j<i/\j<l.length/\x=l.getD j 0:=by
 let⟨j,h1,h2,e⟩:=jN (l:=l) (i:=0) (k:=i) (by rw[ah0];show h);show⟨j,h1,(),by rw[e,ahF]⟩
theorem cH.upto(h:cH lt l)(od:Wk n lt)(hb:∀x∈l,x<n)(h0:0<i)(hi:i<=l.length):∀y∈l.take i,lt (l.getD (i - 1) 0) y=false:=λy hy=>by
 let⟨j,h1,h2,rfl⟩:=fZ hy;by_cases e:i - 1=j
 .rw[e];show od.rf (hb _ (getD_mem h2))
 .show h.get () ()
theorem zB:(ar it r.reverse).push (agF it i)=ar it (i::r).reverse:=by rw[yx,ald]
theorem U8{x:List Nat}:ar it r.reverse++(ar it x).reverse=ar it (x++r).reverse:=by rw[YJ,eO,List.reverse_append]
theorem mR{x y:List Nat}:ar it x++ar it y++(ar it r.reverse).reverse=ar it (x++y++r):=by rw[eO,YJ,List.reverse_reverse,eO]
theorem YL{Q:Array ah7->ag3->Prop}(hA:Asks prog w A s κ it n lt)(od:Wk n lt)(hk:kindOf st=κ)(ba:∀x∈la,x<n)(bb:∀x∈lb,x<n)(sa:cH lt la)(sb:cH lt lb)(na:1<=la.length)(nb:1<=lb.length)
  (hf:∀x∈la,lt x (lb.getD 0 0)=false)(hl:∀y∈lb,lt (la.getD (la.length - 1) 0) y=false)
  (h:∀c g,c.Perm (la++lb)->cH lt c->Q (ar it c) (gal st g)):wpS (model prog w) A E s (aa2 (ar it la) (ar it lb)) Q st:=by
 have m0:Mh lt la lb [la.getD (la.length - 1) 0] (la.length - 1) lb.length:=Mh.nil.push sa na (z0g _) (by rw[ai6];show hl);have Wv:∀{r ia ib},Mh lt la lb r ia ib->ib=1->(lb.take ib++la.take ia++r).Perm (la++lb)/\cH lt (lb.take ib++la.take ia++r):=λ{r ia ib} m e=>by
  let⟨f1,f2⟩:=m.swap.fin sb sa λx hx y hy=>by
   let⟨j,j1,j2,rfl⟩:=fZ hx;obtain rfl:j=0:=()
   show hf y (af5 hy)
  show⟨f1.trans ahy,f2⟩
 have Er:∀{r ia ib},Mh lt la lb r ia ib->ia=0->(la.take ia++lb.take ib++r).Perm (la++lb)/\cH lt (la.take ia++lb.take ib++r):=λ{r ia ib} m e=>m.fin sa sb λx hx=>by
  rw[e,aiW] at hx;simp at hx
 have Ep:∀{r ia ib},Mh lt la lb r ia ib->ib=0->(la.take ia++lb.take ib++r).Perm (la++lb)/\cH lt (la.take ia++lb.take ib++r):=λ{r ia ib} m e=>m.fin sa sb λx _ y hy=>by
  rw[e,aiW] at hy;simp at hy
 show afO (akN (ahg ⟨rfl,?_⟩))
 dsimp only
 simp only[adX];rw[oG,oG];show afO (dD (show la.length - 1<la.length by omega) ?_);have e0: #[agF it (la.getD (la.length - 1) 0)]=ar it [la.getD (la.length - 1) 0].reverse:=rfl;rw[e0];by_cases c1:la.length - 1=0
 .rw[z9p (by simpa using c1)];let⟨f1,f2⟩:=Er m0 c1;rw[mR];show afY (h _ (alA st) f1 f2)
 rw[z9n (by simpa using c1)];by_cases c2:lb.length=1
 .rw[z9p (by simpa using c2)];let⟨f1,f2⟩:=Wv m0 c2;rw[mR];show afY (h _ (alA st) f1 f2)
 rw[z9n (by simpa using c2)];show afO (ajN ?_);show afO (aiB (ag7 (I:=λx c st'=>∃r ia ib g mg,c=(none,ia,ib,ar it r.reverse,mg)/\st'=gal st g/\Mh lt la lb r ia ib/\0<ia/\1<ib/\ia<=la.length/\ib<=lb.length/\x+1+(ia+ib)<=la.length+lb.length) (Q:=λc st'=>∃r g,c.1=some (ar it r)/\st'=gal st g/\r.Perm (la++lb)/\cH lt r) ?_ ?_ ⟨_,la.length - 1,lb.length,alA st,_,rfl,rfl,m0,(),(),(),(),()⟩) ?_)
 .rintro x c st' - hx ⟨r,ia,ib,g,mg,rfl,rfl,m,m1,m2,m4,m5,m3⟩
  dsimp only
  show afO (aiB (ag7 (I:=λy c st'=>∃o' ja jb ac bc,c=(none,ja,jb,ar it o'.reverse,ac,bc)/\st'=gal st g/\Mh lt la lb o' ja jb/\0<ja/\1<jb/\ja<=la.length/\jb<=lb.length/\y+(ja+jb)<=ia+ib)
   (Q:=λc st'=>st'=gal st g/\((∃r,c.1=some (ar it r)/\r.Perm (la++lb)/\cH lt r)\/∃o' ja jb ac bc,c=(none,ja,jb,ar it o'.reverse,ac,bc)/\Mh lt la lb o' ja jb/\0<ja/\1<jb/\ja<=la.length/\jb<=lb.length/\1+(ja+jb)<=ia+ib)) ?_ ?_ ⟨r,ia,ib,0,0,rfl,rfl,m,m1,m2,m4,m5,()⟩) ?_)
  .rintro y c st' - hy ⟨o',ja,jb,ac,bc,rfl,rfl,m',n1,n2,n4,n5,n3⟩
   dsimp only
   have bA:=ba _ (getD_mem (show ja - 1<la.length by omega));have bB:=bb _ (getD_mem (show jb - 1<lb.length by omega));show afO (dD (show jb - 1<lb.length by omega) (afO (dD (show ja - 1<la.length by omega) (afO (w_lt hA hk bB bA ?_)))))
   dsimp only
   cases e:lt (lb.getD (jb - 1) 0) (la.getD (ja - 1) 0) with
   | true=>
    rw[z9p rfl];show afO (dD (show ja - 1<la.length by omega) ?_);rw[zB];have m2':=m'.push sa n1 n4 λy hy=>od.tr _ _ _ (bb _ (af5 hy)) bB bA (sb.upto od bb () n5 y hy) (od.as _ _ bB bA e);by_cases c:ja - 1=0
    .rw[z9p (by simpa using c)];let⟨f1,f2⟩:=Er m2' c;show afY ⟨rfl,.inl ⟨_,by rw[mR],f1,f2⟩⟩
    rw[z9n (by simpa using c)];by_cases c3:ac+1>=mg
    .rw[z9p c3];show afY ⟨rfl,.inr ⟨_,_,_,_,_,rfl,m2',(),n2,(),n5,()⟩⟩
    .rw[z9n c3];show afY ⟨_,_,_,_,_,rfl,rfl,m2',(),n2,(),n5,()⟩
   | false=>
    rw[z9n {}];show afO (dD (show jb - 1<lb.length by omega) ?_);rw[zB];have m2':=(m'.swap.push sb () n5 λy hy=>od.tr _ _ _ (ba _ (af5 hy)) bA bB (sa.upto od ba n1 n4 y hy) e).swap;by_cases c:jb - 1=1
    .rw[z9p (by simpa using c)];let⟨f1,f2⟩:=Wv m2' c;show afY ⟨rfl,.inl ⟨_,by rw[mR],f1,f2⟩⟩
    rw[z9n (by simpa using c)];by_cases c3:bc+1>=mg
    .rw[z9p c3];show afY ⟨rfl,.inr ⟨_,_,_,_,_,rfl,m2',n1,(),n4,(),()⟩⟩
    .rw[z9n c3];show afY ⟨_,_,_,_,_,rfl,rfl,m2',n1,(),n4,(),()⟩
  .rintro c st' ⟨o',ja,jb,ac,bc,rfl,rfl,m',n1,n2,n4,n5,n3⟩
   show⟨rfl,.inr ⟨_,_,_,_,_,rfl,m',n1,n2,n4,n5,()⟩⟩
  .rintro c st' ⟨rfl,⟨r,e,f1,f2⟩ |⟨o',ja,jb,ac,bc,rfl,m',n1,n2,n4,n5,n3⟩⟩
   .rw[e];show afY ⟨r,g,rfl,rfl,f1,f2⟩
   dsimp only
   show afO (akN (ahg ⟨rfl,?_⟩))
   clear m m1 m2
   generalize hP0:ia+ib=P0 at n3 m3
   show afO (aiB (ag7 (I:=λy c st'=>∃o' ja jb mg ac bc g,c=(none,ja,jb,ar it o'.reverse,mg,ac,bc)/\st'=gal st g/\Mh lt la lb o' ja jb/\0<ja/\1<jb/\ja<=la.length/\jb<=lb.length/\1+(ja+jb)<=P0)
    (Q:=λc st'=>∃g,st'=gal st g/\((∃r,c.1=some (ar it r)/\r.Perm (la++lb)/\cH lt r)\/∃o' ja jb mg ac bc,c=(none,ja,jb,ar it o'.reverse,mg,ac,bc)/\Mh lt la lb o' ja jb/\0<ja/\1<jb/\ja<=la.length/\jb<=lb.length/\1+(ja+jb)<=P0)) ?_ ?_ ⟨o',ja,jb,mg+1,ac,bc,g,rfl,rfl,m',n1,n2,n4,n5,n3⟩) ?_)
   .clear m' n1 n2 n3 n4 n5 o' ja jb ac bc
    rintro y c st' - hy ⟨o',ja,jb,mg,ac,bc,g,rfl,rfl,m',n1,n2,n4,n5,n3⟩
    dsimp only
    have bB:=bb _ (getD_mem (show jb - 1<lb.length by omega));have kk:∀{g},kindOf (gal st g)=κ:=hk;by_cases c0:mg > 1
    all_goals first |rw[z9p c0] |rw[z9n c0]
    all_goals show afO (aiD ?_)
    all_goals show afO (dD (st:=gal st _) (show jb - 1<lb.length by omega) ?_)
    all_goals show afO (oH (p:=λi=> !lt (lb.getD (jb - 1) 0) (la.getD (0+i) 0)) hA kk ba bB () () (λi hi=>rfl) (λi j h1 h2 hp=>?_) λk k1 k2 k3=>?_)
    all_goals first
     | (by_cases e:i=j
        .rw[e];show hp
        .have hp:lt (lb.getD (jb - 1) 0) (la.getD (0+j) 0)=false:=by simpa using hp
         have:=od.tr _ _ _ (ba _ (getD_mem (show 0+i<la.length by omega))) (ba _ (getD_mem (show 0+j<la.length by omega))) bB (sa.get () ()) hp;simpa using this)
     |skip
    all_goals dsimp only
    all_goals
     have m3':=m'.blk sa (k:=k) k1 λy hy x hx=>by
      let⟨j,j1,j2,rfl⟩:=jN hy;have hp:=k3 (k+j) () ();rw[ahF] at hp;show od.tr _ _ _ (bb _ (af5 hx)) bB (ba _ (getD_mem j2)) (sb.upto od bb () n5 x hx) (od.as _ _ bB (ba _ (getD_mem j2)) (by simpa using hp))
     have z3:∀x∈la.take k,lt (lb.getD (jb - 1) 0) x=false:=λy hy=>by
      let⟨j,j1,j2,rfl⟩:=fZ hy;have hp:=k2 j j1;rw[ahF] at hp;simpa using hp
     by_cases c1:ja - k > 0
    all_goals first
     | (rw[z9p c1,rN,U8]
        by_cases c3:k=0
        .rw[z9p (by simpa using c3)];let⟨f1,f2⟩:=Er m3' c3;show afY ⟨_,rfl,.inl ⟨_,by rw[mR],f1,f2⟩⟩
        rw[z9n (by simpa using c3)];have z2:0<k:=()
        have z1:k<=la.length:=()
        have z4:1+(k+jb)<=P0:=()
        clear c1 c3 k2 k3 m' n1 n3
        generalize List.take (ja - k) (List.drop k la)++o'=o3 at m3' |-
        generalize hj3:k=j3 at m3' z1 z2 z3 z4 |-)
     | (rw[z9n c1]
        obtain rfl:k=ja:=()
        rw[aj0,aiW,ajh] at m3';have z2:0<k:=n1;have z1:k<=la.length:=n4;have z4:1+(k+jb)<=P0:=n3
        clear c1 k2 k3 n1 n3 m'
        generalize o'=o3 at m3' |-
        generalize hj3:k=j3 at m3' z1 z2 z3 z4 |-)
    all_goals
     show afO (dD (show jb - 1<lb.length by omega) ?_);rw[zB];have m4':=(m3'.swap.push sb () n5 z3).swap;by_cases c2:jb - 1=1
     .rw[z9p (by simpa using c2)];let⟨f1,f2⟩:=Wv m4' c2;show afY ⟨_,rfl,.inl ⟨_,by rw[mR],f1,f2⟩⟩
     rw[z9n (by simpa using c2)];have bA:=ba _ (getD_mem (show j3 - 1<la.length by omega));show afO (dD (show j3 - 1<la.length by omega) (afO (oH (p:=λi=>lt (lb.getD (0+i) 0) (la.getD (j3 - 1) 0)) hA kk bb bA () () (λi hi=>rfl) (λi j h1 h2 hp=>?_) λk5 u1 u2 u3=>?_)))
     .by_cases e:i=j
      .rw[e];show hp
      .cases e2:lt (lb.getD (0+i) 0) (la.getD (j3 - 1) 0) with
       |true=>rfl
       |false=>rw[od.tr _ _ _ bA (bb _ (getD_mem (show 0+i<lb.length by omega))) (bb _ (getD_mem (show 0+j<lb.length by omega))) e2 (sb.get () ())] at hp;cases hp
     dsimp only
     have Mp:=(m4'.swap.blk sb (k:=k5) u1 λy hy x hx=>by
      let⟨j,v1,v2,rfl⟩:=jN hy;have hp:=u3 (k5+j) () ();rw[ahF] at hp;show od.tr _ _ _ (ba _ (af5 hx)) bA (bb _ (getD_mem v2)) (sa.upto od ba z2 z1 x hx) hp).swap
     have z5:∀x∈lb.take k5,lt (la.getD (j3 - 1) 0) x=false:=λy hy=>by
      let⟨j,v1,v2,rfl⟩:=fZ hy;have hp:=u2 j v1;rw[ahF] at hp;show od.as _ _ (bb _ (getD_mem v2)) bA hp
     by_cases c1:jb - 1 - k5 > 0
    all_goals first
     | (rw[z9p c1,rN,U8]
        by_cases c3:k5=1
        .rw[z9p (by simpa using c3)];let⟨f1,f2⟩:=Wv Mp c3;show afY ⟨_,rfl,.inl ⟨_,by rw[mR],f1,f2⟩⟩
        rw[z9n (by simpa using c3)];by_cases c4:k5=0
        .rw[z9p (by simpa using c4)];let⟨f1,f2⟩:=Ep Mp c4;show afY ⟨_,rfl,.inl ⟨_,by rw[mR],f1,f2⟩⟩
        rw[z9n (by simpa using c4)];have z6:1<k5:=()
        have z8:k5<=lb.length:=()
        have z7:1+(j3+k5)<=P0:=()
        clear c1 c3 u2 u3 m4'
        generalize List.take (jb - 1 - k5) (List.drop k5 lb)++lb.getD (jb - 1) 0::o3=o5 at Mp |-
        generalize hj5:k5=j5 at Mp z5 z6 z7 z8 |-)
     | (rw[z9n c1]
        have hk5:k5=jb - 1:=()
        rw[hk5,aj0,aiW,ajh] at Mp;rw[hk5] at z5;have z6:1<jb - 1:=()
        have z8:jb - 1<=lb.length:=()
        have z7:1+(j3+(jb - 1))<=P0:=()
        clear c1 u2 u3 m4' hk5
        generalize lb.getD (jb - 1) 0::o3=o5 at Mp |-
        generalize hj5:jb - 1=j5 at Mp z5 z6 z7 z8 |-)
    all_goals
     show afO (dD (show j3 - 1<la.length by omega) ?_);rw[zB];have m6:=Mp.push sa z2 z1 z5;by_cases c3:j3 - 1=0
     .rw[z9p (by simpa using c3)];let⟨f1,f2⟩:=Er m6 c3;show afY ⟨_,rfl,.inl ⟨_,by rw[mR],f1,f2⟩⟩
     rw[z9n (by simpa using c3)];split
     .show afY ⟨_,rfl,.inr ⟨_,_,_,_,_,_,rfl,m6,(),z6,(),z8,()⟩⟩
     .show afY ⟨_,_,_,_,_,_,_,rfl,rfl,m6,(),z6,(),z8,()⟩
   .rintro c st' ⟨o',ja,jb,mg,ac,bc,g,rfl,rfl,m',n1,n2,n4,n5,n3⟩
    show⟨g,rfl,.inr ⟨_,_,_,_,_,_,rfl,m',n1,n2,n4,n5,n3⟩⟩
   .rintro c st' ⟨g,rfl,⟨r,e,f1,f2⟩ |⟨o',ja,jb,mg,ac,bc,rfl,m',n1,n2,n4,n5,n3⟩⟩
    .rw[e];show afY ⟨r,g,rfl,rfl,f1,f2⟩
    dsimp only
    show afO (aiD (afY ?_));show⟨_,_,_,_,_,rfl,rfl,m',n1,n2,n4,n5,()⟩
 .rintro c st' ⟨o,ia,ib,g,mg,rfl,rfl,m,m1,m2,m4,m5,m3⟩
  omega
 .rintro c st' ⟨r,g,e,rfl,f1,f2⟩
  rw[e];show afY (h r g f1 f2)
end
section
variable{κ:ajn}{lt:Nat->Nat->Bool}{st:ag3}{l l' la lb r:List Nat}{ia ib:Nat}
theorem acF{σ:Type}{M:Model}{st st':σ}{Q:PUnit->σ->Prop}(h:Q PUnit.unit st'):wpS M A E s (set st':StateT σ Sem PUnit) Q st:=by
 unfold wpS;rw[StateT.run_set];show afJ ⟨rfl,h⟩
theorem U9{X Z:List α}:∀(c Y D:List α),Y.length=c.length->(c.zipIdx D.length).foldl (λ(a:Array α) (p:α×Nat)=>a.setIfInBounds (X.length+p.2) p.1) (X++D++Y++Z).toArray=(X++D++c++Z).toArray
 |[],Y,D,h=>by rw[agp h];rfl
 |v::c,[],D,h=>by simp at h
 | v ::c,y::Y,D,h=>by
  rw[alv,akv];have e:((X++D++y::Y++Z).toArray).setIfInBounds (X.length+D.length) v=(X++(D++[v])++Y++Z).toArray:=by
   rw[ak8];congr 1;rw[show X++D++y::Y++Z=(X++D)++(y::(Y++Z)) by simp,List.set_append_right _ _ ()];simp
  show (c.zipIdx (D.length+1)).foldl _ (((X++D++y::Y++Z).toArray).setIfInBounds (X.length+D.length) v)=_;rw[e,show D.length+1=(D++[v]).length by simp,U9 c Y (D++[v]) (by simpa using h)];simp
theorem adY{Z c:List Nat}(h:Y.length=c.length):(ar it c).toList.zipIdx.foldl (λ(a:Array ah7) (p:ah7×Nat)=>a.setIfInBounds (X.length+p.2) p.1) (ar it (X++Y++Z))=ar it (X++c++Z):=by
 have:=U9 (X:=X.map (agF it)) (Z:=Z.map (agF it)) (c.map (agF it)) (Y.map (agF it)) [] (by simpa using h);simp only[z1g,agi,ahm] at this;unfold ar;simp only[agw];show this
theorem nR:(X++Y).getD (X.length+i) 0=Y.getD i 0:=by
 simp only[agZ];rw[afP (),ag0]
theorem wH(h:i<X.length):(X++Y).getD i 0=X.getD i 0:=by
 simp only[agZ];rw[af4 h]
theorem mF(h:i<k):(X.take k).getD i 0=X.getD i 0:=by
 simp only[agZ];rw[List.getElem?_take,z9p h]
theorem Mq:(X.drop k).getD i 0=X.getD (k+i) 0:=by
 simp only[agZ];rw[List.getElem?_drop]
theorem YM{g pw:Nat}{q2:Nat}{P A' B' R:List Nat}{pd:Array (Nat×Nat×Nat)}(hA:Asks prog w A s κ it n lt)(od:Wk n lt)(hb:∀x∈P++A'++B'++R,x<n)(sA:cH lt A')(sB:cH lt B')(nA:1<=A'.length)(nB:1<=B'.length)
  (h1:pd[i]?=some (P.length,A'.length,pw))(h2:pd[i+1]?=some (P.length+A'.length,B'.length,q2))
  (h:∀C g,C.Perm (A'++B')->cH lt C->Q true (ahP κ (ar it (P++C++R)) ((pd.setIfInBounds i (P.length,A'.length+B'.length,pw)).eraseIdxIfInBounds (i+1)) g none)):
  wpS (model prog w) A E s (mergeAt' i) Q (ahP κ (ar it (P++A'++B'++R)) pd g none):=by
 have bA:∀x∈A',x<n:=λx hx=>hb x (by simp[hx]);have bB:∀x∈B',x<n:=λx hx=>hb x (by simp[hx]);have gA:∀j,j<A'.length->(P++A'++B'++R).getD (P.length+j) 0=A'.getD j 0:=λj hj=>by
  rw[show P++A'++B'++R=P++(A'++(B'++R)) by simp,nR,wH hj]
 have gB:∀j,j<B'.length->(P++A'++B'++R).getD (P.length+A'.length+j) 0=B'.getD j 0:=λj hj=>by
  rw[show P++A'++B'++R=(P++A')++(B'++R) by simp,<-z1d,nR,wH hj]
 have lW:(P++A'++B'++R).length=P.length+A'.length+B'.length+R.length:=by simp;omega
 have b0:B'.getD 0 0<n:=bB _ (getD_mem nB);have whole:(∀x∈A',∀y∈B',lt y x=false)->∀g,Q true (ahP κ (ar it (P++A'++B'++R)) ((pd.setIfInBounds i (P.length,A'.length+B'.length,pw)).eraseIdxIfInBounds (i+1)) g none):=λhc g=>by
  have:=h (A'++B') g (.refl _) (agd.mpr ⟨sA,sB,hc⟩);rw[<-afM] at this;show this
 show afO (ajN ?_)
 dsimp only
 rw[h1,h2]
 dsimp only
 show afO (acF ?_);show afO (dD (by rw[lW];omega) ?_);have e0:=gB 0 nB;rw[ai7] at e0;rw[e0];show afO (oH (p:=λj=> !lt (B'.getD 0 0) (A'.getD j 0)) hA rfl hb b0 (by rw[lW];omega) nA (λj hj=>by rw[gA j hj];rfl) (λi j h1 h2 hp=>?_) λk k1 k2 k3=>?_)
 .by_cases e:i=j
  .rw[e];show hp
  .have hp:lt (B'.getD 0 0) (A'.getD j 0)=false:=by simpa using hp
   have:=od.tr _ _ _ (bA _ (getD_mem (show i<A'.length by omega))) (bA _ (getD_mem h2)) b0 (sA.get () h2) hp;simpa using this
 dsimp only
 have YQ:∀y∈B',lt y (B'.getD 0 0)=false:=λy hy=>sB.from od bB nB y (by rw[ah0];show hy);have leK:∀x∈A'.take k,lt (B'.getD 0 0) x=false:=λx hx=>by
  let⟨j,j1,j2,rfl⟩:=fZ hx;simpa using k2 j j1
 by_cases c1:A'.length - k=0
 .rw[z9p (by simpa using c1)];show afY (whole (λx hx y hy=>?_) g);show od.tr _ _ _ (bA x hx) b0 (bB y hy) (leK x (by rw[aib ()];show hx)) (YQ y hy)
 rw[z9n (by simpa using c1)];show afO (dD (by rw[lW];omega) ?_);have eL:=gA (A'.length - 1) ();rw[show P.length+k+(A'.length - k) - 1=P.length+(A'.length - 1) by omega,eL];have bL:A'.getD (A'.length - 1) 0<n:=bA _ (getD_mem ());show afO (oH (p:=λj=>lt (B'.getD j 0) (A'.getD (A'.length - 1) 0)) hA rfl hb bL (by rw[lW];omega) () (λj hj=>by rw[gB j hj];rfl) (λi j h1 h2 hp=>?_) λk5 u1 u2 u3=>?_)
 .by_cases e:i=j
  .rw[e];show hp
  .cases e2:lt (B'.getD i 0) (A'.getD (A'.length - 1) 0) with
   |true=>rfl
   |false=>rw[od.tr _ _ _ bL (bB _ (getD_mem (show i<B'.length by omega))) (bB _ (getD_mem h2)) e2 (sB.get () h2)] at hp;cases hp
 dsimp only
 have YS:∀x∈A',lt (A'.getD (A'.length - 1) 0) x=false:=λx hx=>sA.upto od bA () (z0g _) x (by rw[ai6];show hx);have geK:∀y∈B'.drop k5,lt y (A'.getD (A'.length - 1) 0)=false:=λy hy=>by
  let⟨j,j1,j2,rfl⟩:=jO hy;show u3 j j1 j2
 by_cases c2:k5=0
 .rw[z9p (by simpa using c2)];show afY (whole (λx hx y hy=>?_) g);show od.tr _ _ _ (bA x hx) bL (bB y hy) (YS x hx) (geK y (by rw[c2,ah0];show hy))
 rw[z9n (by simpa using c2)];have ex:(ar it (P++A'++B'++R)).extract (P.length+k) (P.length+A'.length)=ar it (A'.drop k):=by
  rw[rN,show P++A'++B'++R=P++(A'++(B'++R)) by simp,<-alQ,List.drop_left,List.drop_append_of_le_length k1,alJ (by rw[aho];omega)]
 have ey:(ar it (P++A'++B'++R)).extract (P.length+A'.length) (P.length+A'.length+k5)=ar it (B'.take k5):=by
  rw[rN,show P++A'++B'++R=(P++A')++(B'++R) by simp,<-z1d,List.drop_left,ag0,List.take_append_of_le_length u1]
 rw[ex,ey];have pA:∀x∈A'.drop k,lt x ((B'.take k5).getD 0 0)=false:=λx hx=>by
  rw[mF ()];let⟨j,j1,j2,rfl⟩:=jO hx;show od.as _ _ b0 (bA _ (getD_mem j2)) (by simpa using k3 j j1 j2)
 have pB:∀y∈B'.take k5,lt ((A'.drop k).getD ((A'.drop k).length - 1) 0) y=false:=λy hy=>by
  rw[Mq,aho,show k+(A'.length - k - 1)=A'.length - 1 by omega];let⟨j,j1,j2,rfl⟩:=fZ hy;show od.as _ _ (bB _ (getD_mem j2)) bL (u2 j j1)
 have n1:1<=(A'.drop k).length:=by rw[aho];omega
 have n2:1<=(B'.take k5).length:=by rw[agg];omega
 have fin:∀c:List Nat,c.Perm (A'.drop k++B'.take k5)->cH lt c->∀g,Q true (ahP κ (ar it (P++(A'.take k++c++B'.drop k5)++R)) ((pd.setIfInBounds i (P.length,A'.length+B'.length,pw)).eraseIdxIfInBounds (i+1)) g none):=λc hp hs g=>by
  show h _ g ?_ ?_
  .have e1:(A'.take k++(A'.drop k++B'.take k5)++B'.drop k5).Perm (A'++B'):= .of_eq (by rw[<-afM,agh,afM,agh]);show ((hp.append_left _).append_right _).trans e1
  .have inC:∀x∈c,x∈A'.drop k\/x∈B'.take k5:=λx hx=>agk.mp (hp.mem_iff.mp hx);show agd.mpr ⟨agd.mpr ⟨sA.take k,hs,λx hx y hy=>?_⟩,sB.drop k5,λx hx y hy=>?_⟩
   .rcases inC y hy with q |q
    .show sA.cut k x hx y q
    .show od.tr _ _ _ (bA x (af5 hx)) b0 (bB y (af5 q)) (leK x hx) (YQ y (af5 q))
   .have ge:∀x∈A',lt y x=false:=λx hx=>od.tr _ _ _ (bA x hx) bL (bB y (agE hy)) (YS x hx) (geK y hy);rcases agk.mp hx with hx |hx
    .show ge x (af5 hx)
    .rcases inC x hx with q |q
     .show ge x (agE q)
     .show sB.cut k5 x q y hy
 have put:∀c:List Nat,c.Perm (A'.drop k++B'.take k5)->(ar it c).toList.zipIdx.foldl (λ(a:Array ah7) (p:ah7×Nat)=>a.setIfInBounds (P.length+k+p.2) p.1) (ar it (P++A'++B'++R))=ar it (P++(A'.take k++c++B'.drop k5)++R):=λc hp=>by
  have e1:P++A'++B'++R=(P++A'.take k)++(A'.drop k++B'.take k5)++(B'.drop k5++R):=by
   rw[show (P++A'.take k)++(A'.drop k++B'.take k5)++(B'.drop k5++R)=P++(A'.take k++A'.drop k)++(B'.take k5++B'.drop k5)++R by simp only[afM],agh,agh]
  have e2:=adY (it:=it) (X:=P++A'.take k) (Z:=B'.drop k5++R) hp.length_eq.symm;rw[z1d,agg,ajd k1] at e2;rw[e1,e2];congr 1;simp
 by_cases c3:A'.length - k<=k5
 .rw[z9p c3];show afO (YK (st:=ahP κ (ar it (P++A'++B'++R)) ((pd.setIfInBounds i (P.length,A'.length+B'.length,pw)).eraseIdxIfInBounds (i+1)) g none) hA od rfl (λx hx=>bA x (agE hx)) (λx hx=>bB x (af5 hx)) (sA.drop k) (sB.take k5) n1 n2 pA pB λc g' hp hs=>?_);show afO (aiD (afO (ajN (afY ?_))));have:=fin c hp hs g';rw[<-put c hp] at this;show this
 .rw[z9n c3];show afO (YL (st:=ahP κ (ar it (P++A'++B'++R)) ((pd.setIfInBounds i (P.length,A'.length+B'.length,pw)).eraseIdxIfInBounds (i+1)) g none) hA od rfl (λx hx=>bA x (agE hx)) (λx hx=>bB x (af5 hx)) (sA.drop k) (sB.take k5) n1 n2 pA pB λc g' hp hs=>?_);show afO (aiD (afO (ajN (afY ?_))));have:=fin c hp hs g';rw[<-put c hp] at this;show this
end
abbrev ms(κ:ajn)(it:Array ah7)(p:List Nat)(pd:Array (Nat×Nat×Nat))(g:Nat):ag3:=ahP κ (ar it p) pd g none
def Fw(lt:Nat->Nat->Bool)(l:List Nat):Prop:=l.Pairwise λx y=>lt x y=false
section
variable{κ:ajn}{n g:Nat}{lt:Nat->Nat->Bool}{pd:Array (Nat×Nat×Nat)}{X Y Z P T R:List Nat}
theorem acG{X Y Z:List α}(k:Nat):(X++Y.reverse++Z)[k]?=if X.length<=k/\k<X.length+Y.length then (X++Y++Z)[X.length+(X.length+Y.length) - 1 - k]? else (X++Y++Z)[k]?:=by
 rw[afM,afM];split
 .rename_i c;rw[afP c.1,af4 (by rw[ahM];omega),afP (),af4 (),List.getElem?_reverse ()];congr 1;omega
 .rename_i c;by_cases c1:k<X.length
  .rw[af4 c1,af4 c1]
  .have c2:X.length<=k:=()
   rw[afP c2,afP c2,afP (l₁:=Y.reverse) (by rw[ahM];omega),afP (l₁:=Y) (),ahM]
theorem vg:(ar it l)[k]?=(l.map (agF it))[k]?:=by unfold ar;rw[ail]
theorem YT:mirror (ar it (X++Y++Z)) X.length (X.length+Y.length) ((X.length+Y.length - X.length) / 2)=ar it (X++Y.reverse++Z):=by
 apply Array.ext_getElem?;intro k;have:=acG (X:=X.map (agF it)) (Y:=Y.map (agF it)) (Z:=Z.map (agF it)) k;simp only[z1g] at this;rw[getElem?_mirror_all (by rw[oG];simp),vg,vg,vg];simp only[agw,List.map_reverse];rw[this]
theorem w_rev{b:Nat}{Q:Unit->ag3->Prop}(ha:a=X.length)(hb:b=X.length+Y.length)(h:Q Unit.unit (ms κ it (X++Y.reverse++Z) pd g)):wpS (model prog w) A E s (reverseSlice' a b) Q (ms κ it (X++Y++Z) pd g):=by
 subst ha;subst hb;rw[reverseSlice'_eq];show aiD ?_;show Q Unit.unit (ahP κ (mirror (ar it (X++Y++Z)) X.length (X.length+Y.length) ((X.length+Y.length - X.length) / 2)) pd g none);rw[YT];show h
theorem acH{X Y Z:List α}{v:α}(k:Nat):(X++v::Y++Z)[k]?=if k=X.length then (X++Y++v::Z)[X.length+Y.length]? else if X.length<k/\k<=X.length+Y.length then (X++Y++v::Z)[k - 1]? else (X++Y++v::Z)[k]?:=by
 rw[afM,afM,aiz];split
 .rename_i c;subst c;rw[afP (z0g _),aj0,alH,afP (),ag0,afP (z0g _),aj0,alH]
 .rename_i c;split
  .rename_i c2;obtain⟨j,rfl⟩:∃j,k=X.length+(j+1):=⟨k - X.length - 1,()⟩;rw[afP (),ag0,aiu,af4 (),show X.length+(j+1) - 1=X.length+j by omega,afP (),ag0,af4 ()]
  .rename_i c2;by_cases c1:k<X.length
   .rw[af4 c1,af4 c1]
   .obtain⟨j,rfl⟩:∃j,k=X.length+(Y.length+(j+1)):=⟨k - X.length - Y.length - 1,()⟩;rw[afP (),afP (),ag0,show Y.length+(j+1)=(Y.length+j)+1 by omega,aiu,afP (),afP (),ag0,show Y.length+j+1 - Y.length=j+1 by omega,aiu]
theorem YW:bubble (ar it (X++Y++v::Z)) (X.length+Y.length) (X.length+Y.length - X.length)=ar it (X++v::Y++Z):=by
 apply Array.ext_getElem?;intro k;have:=acH (X:=X.map (agF it)) (Y:=Y.map (agF it)) (Z:=Z.map (agF it)) (v:=agF it v) k;simp only[z1g] at this;rw[getElem?_bubble (by rw[oG];simp) _ (),show X.length+Y.length - (X.length+Y.length - X.length)=X.length by omega,vg,vg,vg,vg];simp only[agw,z1h];rw[this]
theorem adZ{b:Nat}{Q:Unit->ag3->Prop}(ha:a=X.length+Y.length)(hb:b=X.length)(h:Q Unit.unit (ms κ it (X++v::Y++Z) pd g)):wpS (model prog w) A E s (moveDown' a b) Q (ms κ it (X++Y++v::Z) pd g):=by
 subst ha;subst hb;rw[moveDown'_eq];show aiD ?_;show Q Unit.unit (ahP κ (bubble (ar it (X++Y++v::Z)) (X.length+Y.length) (X.length+Y.length - X.length)) pd g none);rw[YW];show h
theorem YX{p:List Nat}{Q:Option Bool->ag3->Prop}(hA:Asks prog w A s κ it n lt)(hb:∀x∈p,x<n)(hi:i<p.length)(hj:j<p.length)(h:Q (some (lt (p.getD i 0) (p.getD j 0))) (ms κ it p pd g)):
  wpS (model prog w) A E s (ltAt' i j) Q (ms κ it p pd g):=by
 rw[ltAt'_eq];show afO (ajN ?_);show afO (dD hi (afO (dD hj (w_lt hA rfl (hb _ (getD_mem hi)) (hb _ (getD_mem hj)) h))))
theorem yC{b:Nat}{Q:Option Bool->ag3->Prop}(hA:Asks prog w A s κ it n lt)(hb:∀x∈P++T,x<n)(ha:a=P.length+i)(hb':b=P.length+j)(hi:i<T.length)(hj:j<T.length)(h:Q (some (lt (T.getD i 0) (T.getD j 0))) (ms κ it (P++T) pd g)):
  wpS (model prog w) A E s (ltAt' a b) Q (ms κ it (P++T) pd g):=by
 subst ha;subst hb';show YX hA hb (by rw[z1d];omega) (by rw[z1d];omega) ?_;rw[nR,nR];show h
theorem Ww(h:x<T.length):T.take (x+1)=T.take x++[T.getD x 0]:=by
 rw[List.take_succ,aga h];simp[h]
theorem cH.ext(od:Wk n lt)(hb:∀x∈T,x<n)(h:cH lt (T.take x))(h1:1<=x)(h2:x<T.length)(e:lt (T.getD x 0) (T.getD (x - 1) 0)=false):cH lt (T.take (x+1)):=by
 rw[Ww h2];show agd.mpr ⟨h,aja _ _,λy hy z hz=>?_⟩;rw[af3.mp hz];have:=h.upto od (λy hy=>hb y (af5 hy)) (i:=x) h1 (by rw[agg];omega) y (by rw[aiX,Nat.min_self];show hy);rw[mF ()] at this;show od.tr _ _ _ (hb y (af5 hy)) (hb _ (getD_mem ())) (hb _ (getD_mem h2)) this e
theorem Qw{f:Nat->Option (Option Nat)×Nat->StateT ag3 Sem (ForInStep (Option (Option Nat)×Nat))}{Q:Option (Option Nat)×Nat->ag3->Prop}{st:ag3}(od:Wk n lt)(hb:∀x∈T,x<n)
  (f1:∀y x {R:ForInStep (Option (Option Nat)×Nat)->ag3->Prop},1<=x->x<T.length->R (if lt (T.getD x 0) (T.getD (x - 1) 0)=true then .done (none,x) else .yield (none,x+1)) st->wpS (model prog w) A E s (f y (none,x)) R st)
  (h1:1<=a)(h2:a<=T.length)(h3:cH lt (T.take a))(h:∀m,a<=m->m<=T.length->cH lt (T.take m)->(m<T.length->lt (T.getD m 0) (T.getD (m - 1) 0)=true)->Q (none,m) st):wpS (model prog w) A E s (forIn [a:T.length] (none,a) f) Q st:=by
 show ag7 (I:=λx c st'=>st'=st/\c=(none,x)/\a<=x/\x<=T.length/\cH lt (T.take x)) ?_ ?_ ⟨rfl,rfl,z0g _,h2,h3⟩
 .rintro x c st' - hx ⟨rfl,rfl,a1,a2,a3⟩
  show f1 x x () hx ?_;cases e:lt (T.getD x 0) (T.getD (x - 1) 0) with
  |true=>rw[z9p rfl];show h x a1 a2 a3 λ_=>e
  |false=>rw[z9n {}];show⟨rfl,rfl,(),(),a3.ext od hb () hx e⟩
 .rintro c st' ⟨rfl,rfl,a1,a2,a3⟩
  show h _ a1 a2 a3 λz=>()
theorem Fw.rev(h:Fw lt l):cH lt l.reverse:=List.pairwise_reverse.mpr h
def Eqs(lt:Nat->Nat->Bool)(l:List Nat):Prop:=∀a∈l,∀b∈l,lt a b=false
theorem Eqs.dsc(h:Eqs lt l):Fw lt l:=aiV.mpr λi j hi hj _=>h _ (ai5 hi) _ (ai5 hj)
theorem Eqs.rev(h:Eqs lt l):Eqs lt l.reverse:=λa ha b hb=>h a (akm.mp ha) b (akm.mp hb)
theorem Eqs.app(od:Wk n lt){hl:Nat}(h:Eqs lt H)(bH:∀x∈H,x<n)(bv:v<n)(hh:hl∈H)(e1:lt v hl=false)(e2:lt hl v=false):Eqs lt (H++[v]):=λa ha b hb=>by
 have up:∀a∈H,lt a v=false/\lt v a=false:=λa ha=>⟨od.tr _ _ _ bv (bH _ hh) (bH _ ha) e2 (h a ha hl hh),od.tr _ _ _ (bH _ ha) (bH _ hh) bv (h hl hh a ha) e1⟩;rcases agk.mp ha with ha |ha <;> rcases agk.mp hb with hb |hb
 .show h a ha b hb
 .rw[af3.mp hb];show (up a ha).1
 .rw[af3.mp ha];show (up b hb).2
 .rw[af3.mp ha,af3.mp hb];show od.rf bv
theorem Fw.app(od:Wk n lt){G H':List Nat}{hl:Nat}(h:Fw lt (G++H))(q:Eqs lt H)(bG:∀x∈G++H,x<n)(bv:v<n)(hh:hl∈H)(e2:lt hl v=false)(hp:H'.Perm H):Fw lt (G++H'++[v]):=by
 let⟨d1,d2,d3⟩:=agd.mp h;have bh:=bG hl (af9 _ hh);have q':Eqs lt H':=λa ha b hb=>q a (hp.mem_iff.mp ha) b (hp.mem_iff.mp hb);show agd.mpr ⟨agd.mpr ⟨d1,q'.dsc,λx hx y hy=>d3 x hx y (hp.mem_iff.mp hy)⟩,aja _ _,λx hx y hy=>?_⟩;rw[af3.mp hy];rcases agk.mp hx with hx |hx
 .show od.tr _ _ _ bv bh (bG x (agQ _ hx)) e2 (d3 x hx hl hh)
 .have hx:=hp.mem_iff.mp hx;show od.tr _ _ _ bv bh (bG x (af9 _ hx)) e2 (q x hx hl hh)
theorem aa3{q:Nat}(h:H.length=q+1):H.getD q 0∈H:=getD_mem ()
theorem w_count{Q:Option Nat->ag3->Prop}(hA:Asks prog w A s κ it n lt)(od:Wk n lt)(hb:∀x∈P++T,x<n)(nT:1<=T.length)
  (h:∀m T',T'.Perm T->1<=m->m<=T.length->cH lt (T'.take m)->Q (some m) (ms κ it (P++T') pd g)):wpS (model prog w) A E s (countRun' P.length T.length) Q (ms κ it (P++T) pd g):=by
 have bT:∀x∈T,x<n:=λx hx=>hb x (af9 _ hx);have bP:∀{T':List Nat},T'.Perm T->∀x∈P++T',x<n:=λ{T'} hp x hx=>hb x (by rcases agk.mp hx with q |q;show agQ _ q;show af9 _ (hp.mem_iff.mp q));show afO (Qw od bT (λy x R h1 h2 hr=>?_) (z0g 1) nT ?_ λm m1 m2 m3 m4=>?_)
 .dsimp only
  show afO (yC hA hb rfl (show P.length+x - 1=P.length+(x - 1) by omega) h2 () ?_)
  dsimp only
  cases e:lt (T.getD x 0) (T.getD (x - 1) 0) with
  |true=>rw[e] at hr;show afY hr
  |false=>rw[e] at hr;show afY hr
 .match T,nT with
  |t::T,_=>show aja _ _
 dsimp only
 by_cases c1:m=T.length
 .rw[z9p (by simpa using c1)];show afY (h m T (.refl _) m1 m2 m3)
 rw[z9n (by simpa using c1)];have m4:=m4 ();obtain⟨v,V,eV⟩:∃v V,T.drop m=v::V:=⟨_,_,ahr ()⟩;have ev:T.getD m 0=v:=by
  have:(T.drop m).getD 0 0=v:=by rw[eV];rfl
  rw[Mq] at this;show this
 have eT:T=T.take m++v::V:=by rw[<-eV,agh]
 have lU:(T.take m).length=m:=by rw[agg];omega
 have bv:v<n:=bT v (by rw[eT];simp);have bU:∀x∈T.take m,x<n:=λx hx=>bT x (af5 hx);have hl:T.getD (m - 1) 0∈T.take m:=by rw[<-mF (k:=m) ()];show getD_mem ()
 rw[ev] at m4;have eW:ms κ it (P++T) pd g=ms κ it (P++T.take m++v::V) pd g:=by rw[afM,<-eT]
 by_cases c2:m > 1
 all_goals first
  | (rw[z9p c2]
     show afO (yC (i:=0) (j:=m - 1) hA hb rfl () () () ?_)
     dsimp only
     by_cases e:lt (T.getD 0 0) (T.getD (m - 1) 0)=true
     .rw[z9p e];show afY (h m T (.refl _) m1 m2 m3)
     rw[z9n e];have e:lt (T.getD 0 0) (T.getD (m - 1) 0)=false:=by simpa using e
     have q:Eqs lt (T.take m):=λa ha b hb=>by
       have b0:T.getD 0 0<n:=bT _ (getD_mem ());have b1:T.getD (m - 1) 0<n:=bT _ (getD_mem ());have u:=m3.upto od bU (i:=m) () () b (by rw[aiX,Nat.min_self];show hb);rw[mF ()] at u;have d:=m3.from od bU (i:=0) () a (by rw[ah0];show ha);rw[mF ()] at d;show od.tr _ _ _ (bU b hb) b0 (bU a ha) (od.tr _ _ _ (bU b hb) b1 b0 u e) d
     rw[eW];show afO (w_rev rfl (by rw[lU]) ?_);have hl':T.getD (m - 1) 0∈(T.take m).reverse:=akm.mpr hl;have q':=q.rev;have pT:((T.take m).reverse++v::V).Perm T:=((ajt _).append_right _).trans (.of_eq eT.symm);have lU':(T.take m).reverse.length=m:=by rw[ahM];show lU
     clear q lU c2 hl eT eW eV bU m3 e
     generalize (T.take m).reverse=U at *)
  | (rw[z9n c2]
     have q':Eqs lt (T.take m):=λa ha b hb=>by
       let⟨i,i1,i2,rfl⟩:=fZ ha;let⟨j,j1,j2,rfl⟩:=fZ hb;obtain rfl:i=0:=()
       obtain rfl:j=0:=()
       show od.rf (bT _ (getD_mem j2))
     rw[eW];have hl':=hl;have pT:(T.take m++v::V).Perm T:= .of_eq eT.symm;have lU':=lU
     clear lU c2 hl eT eW eV bU m3
     generalize T.take m=U at *)
 all_goals
  have bU:∀x∈U,x<n:=λx hx=>bT x (pT.mem_iff.mp (agQ _ hx));have lT:T.length=m+1+V.length:=by rw[<-pT.length_eq,z1d,afN,lU'];omega
  show afO (akN (ahg ⟨rfl,?_⟩));show afO (aiB (ag7 (I:=λx c st'=>∃G H V neq,c=(none,x,neq)/\st'=ms κ it (P++(G++H++V)) pd g/\(G++H++V).Perm T/\(G++H).length=x/\H.length=neq+1/\Eqs lt H/\Fw lt (G++H))
   (Q:=λc st'=>∃x G H V neq,c=(none,x,neq)/\st'=ms κ it (P++(G++H++V)) pd g/\(G++H++V).Perm T/\(G++H).length=x/\H.length=neq+1/\Eqs lt H/\Fw lt (G++H)) ?_ ?_ ⟨U,[v],V,0,rfl,(),by simpa using pT,by simp[lU'],rfl,?_,?_⟩) ?_)
  .rintro x c st' - hx ⟨G,H,V,neq,rfl,rfl,p1,p2,p3,p4,p5⟩
   have l1:(G++H++V).length=T.length:=p1.length_eq;rw[z1d,p2] at l1;obtain⟨u,V',rfl⟩:∃u V',V=u::V':=by
    cases V with
    |nil=>simp at l1;omega
    |cons u V'=>show⟨u,V',rfl⟩
   have bW:=bP p1;have YZ:∀x∈G++H,x<n:=λx hx=>bW x (af9 _ (agQ _ hx));have bu:u<n:=bW u ();have eu:(G++H++u::V').getD x 0=u:=by
    have:=nR (X:=G++H) (Y:=u::V') (i:=0);rw[p2,ai7] at this;show this
   have eh:(G++H++u::V').getD (x - 1) 0=H.getD neq 0:=by
    rw[afM,show x - 1=G.length+neq by rw[z1d] at p2;omega,nR,wH ()]
   have hm:=aa3 p3;have x1:1<=x:=by rw[z1d] at p2;omega
   dsimp only
   show afO (yC (i:=x) (j:=x - 1) hA bW rfl () (by rw[z1d,p2,afN];omega) (by rw[z1d,p2,afN];omega) ?_);rw[eu,eh]
   dsimp only
   by_cases e:lt u (H.getD neq 0)=true
   .rw[z9p e];have eas:=od.as _ _ bu (YZ _ (af9 _ hm)) e;by_cases c3:neq > 0
    .rw[z9p c3,show P++(G++H++u::V')=(P++G)++H++u::V' by simp];show afO (w_rev (by rw[z1d] at p2 |-;omega) (by rw[z1d] at p2 |-;omega) (afY ⟨G++H.reverse,[u],V',0,rfl,(),?_,?_,rfl,?_,?_⟩))
     .show .trans ?_ p1;rw[afM (G++H.reverse)];show ((ajt H).append_left _).append_right _
     .rw[z1d] at p2;simp;omega
     .intro a ha b hb;rw[af3.mp ha,af3.mp hb];show od.rf bu
     .show p5.app od p4 YZ bu hm eas (ajt H)
    .rw[z9n c3];show afY ⟨G++H,[u],V',0,rfl,(),by simpa using p1,?_,rfl,?_,?_⟩
     .rw[z1d,p2];rfl
     .intro a ha b hb;rw[af3.mp ha,af3.mp hb];show od.rf bu
     .show p5.app od p4 YZ bu hm eas (.refl _)
   .rw[z9n e];have e:lt u (H.getD neq 0)=false:=by simpa using e
    show afO (yC (i:=x - 1) (j:=x) hA bW () rfl (by rw[z1d,p2,afN];omega) (by rw[z1d,p2,afN];omega) ?_);rw[eu,eh]
    dsimp only
    by_cases e2:lt (H.getD neq 0) u=true
    .rw[z9p e2];show afY ⟨x,G,H,u::V',neq,rfl,rfl,p1,p2,p3,p4,p5⟩
    .rw[z9n e2];have e2:lt (H.getD neq 0) u=false:=by simpa using e2
     show afY ⟨G,H++[u],V',neq+1,rfl,(),by simpa using p1,?_,?_,?_,?_⟩
     .rw[<-afM,z1d,p2];rfl
     .rw[z1d,p3];rfl
     .show p4.app od (λx hx=>YZ x (af9 _ hx)) bu hm e e2
     .rw[<-afM];show p5.app od p4 YZ bu hm e2 (.refl _)
  .rintro c st' ⟨G,H,V,neq,rfl,rfl,r⟩
   show⟨_,G,H,V,neq,rfl,rfl,r⟩
  .intro a ha b hb;rw[af3.mp ha,af3.mp hb];show od.rf bv
  .show Fw.app (G:=[]) od q'.dsc q' bU bv hl' (od.as _ _ bv (bU _ hl') m4) (.refl _)
  .rintro c st' ⟨x,G,H,V,neq,rfl,rfl,p1,p2,p3,p4,p5⟩
   dsimp only
   have lGH:=p2;rw[z1d] at lGH;by_cases c3:neq > 0
   all_goals first
    | (rw[z9p c3,show P++(G++H++V)=(P++G)++H++V by simp]
       show afO (w_rev (by rw[z1d];omega) (by rw[z1d];omega) ?_);have r1:Fw lt (G++H.reverse):=by
         let⟨d1,d2,d3⟩:=agd.mp p5;show agd.mpr ⟨d1,p4.rev.dsc,λx hx y hy=>d3 x hx y (akm.mp hy)⟩
       have r2:(G++H.reverse).length=x:=by rw[z1d,ahM];show lGH
       have r3:(G++H.reverse++V).Perm T:=(((ajt H).append_left _).append_right _).trans p1;rw[show P++G++H.reverse++V=P++(G++H.reverse)++V by simp]
       generalize G++H.reverse=Y1 at r1 r2 r3 |-)
    | (rw[z9n c3]
       have r1:=p5;have r2:=p2;have r3:=p1;rw[show P++(G++H++V)=P++(G++H)++V by simp]
       generalize G++H=Y1 at r1 r2 r3 |-)
   all_goals
    show afO (w_rev rfl (by rw[r2]) ?_);have r4:(Y1.reverse++V).Perm T:=((ajt Y1).append_right _).trans r3;have l4:=r4.length_eq;have bW:=bP r4;rw[afM,<-l4];have lx:x<=(Y1.reverse++V).length:=by rw[z1d,ahM];omega
    show afO (Qw od (λx hx=>bW x (af9 _ hx)) (λy x R h1 h2 hr=>?_) () lx ?_ λm m1 m2 m3 m4=>?_)
    .dsimp only
     show afO (yC hA bW rfl (show P.length+x - 1=P.length+(x - 1) by omega) h2 () ?_)
     dsimp only
     cases e:lt ((Y1.reverse++V).getD x 0) ((Y1.reverse++V).getD (x - 1) 0) with
     |true=>rw[e] at hr;show afY hr
     |false=>rw[e] at hr;show afY hr
    .rw[alJ (by rw[ahM];show r2)];show r1.rev
    .show afY (h m _ r4 () () m3)
end
section
variable{κ:ajn}{n g:Nat}{lt:Nat->Nat->Bool}{pd:Array (Nat×Nat×Nat)}{X Y Z P T R:List Nat}
theorem aeV {ok:Nat} (hA:Asks prog w A s κ it n lt) (od:Wk n lt) (hb:∀x∈P++T++R,x < n) (hm:T.length=m) (hs:cH lt (T.take ok)) (h1:1≤m)
    (h:∀T',T'.Perm T→cH lt T'→Q true (ms κ it (P++T'++R) pd g)):wpS (model prog w) A E s (binarySort' P.length m ok) Q (ms κ it (P++T++R) pd g):=by
  have bP:∀{T':List Nat},T'.Perm T→∀x∈P++T'++R,x<n:=fun {T'} hp x hx=>hb x (by
    rcases agk.mp hx with q |q
    . rcases agk.mp q with q |q
      . show agQ _ (agQ _ q)
      . show agQ _ (af9 _ (hp.mem_iff.mp q))
    . show af9 _ q)
  show afO (aiB (ag7 (I:=λk c st'=>c=(none,Unit.unit)∧∃T',T'.Perm T∧cH lt (T'.take k)∧st'=ms κ it (P++T'++R) pd g) (Q:=λc st'=>c=(none,Unit.unit)∧∃T',T'.Perm T∧cH lt T'∧st'=ms κ it (P++T'++R) pd g) ?_ ?_ ⟨rfl,T,.refl _,?_,rfl⟩) ?_)
  . rintro k c st' k0 k1 ⟨rfl,T',p1,p2,rfl⟩
    have lT:T'.length=m:=p1.length_eq.trans hm
    have bW:=bP p1
    have bT:∀x∈T',x<n:=λx hx=>bW x (by simp[hx])
    have bv:=bT _ (getD_mem (show k<T'.length by omega))
    have gT:∀i,i<T'.length→(P++T'++R).getD (P.length+i) 0=T'.getD i 0:=λi hi=>by rw[afM,nR,wH hi]
    have gk:∀i j,i<j→j<k→lt (T'.getD j 0) (T'.getD i 0)=false:=λi j h1 h2=>by
      have:=p2.get h1 (by rw[agg];omega)
      rw[mF h2,mF (show i<k by omega)] at this;show this
    dsimp only
    show afO (aiB (ag7 (I:=λx c st'=>st'=ms κ it (P++T'++R) pd g∧∃l r,c=(none,l,r)∧l≤r∧r≤k∧r - l≤k - x∧(∀i,i<l→lt (T'.getD k 0) (T'.getD i 0)=false)∧(∀i,r≤i→i<k→lt (T'.getD k 0) (T'.getD i 0)=true))
      (Q:=λc st'=>st'=ms κ it (P++T'++R) pd g∧∃l,c=(none,l,l)∧l≤k∧(∀i,i<l→lt (T'.getD k 0) (T'.getD i 0)=false)∧(∀i,l≤i→i<k→lt (T'.getD k 0) (T'.getD i 0)=true)) ?_ ?_ ⟨rfl,0,k,rfl,(),akQ _,(),λi hi=>(),λi h1 h2=>()⟩) ?_)
    . rintro x c st' - hx ⟨rfl,l,r,rfl,a1,a2,a3,a4,a5⟩
      dsimp only
      by_cases c1:l≥r
      . rw[z9p c1]
        obtain rfl:l=r:=()
        show afY ⟨rfl,l,rfl,a2,a4,a5⟩
      rw[z9n c1]
      show afO (YX hA bW () () ?_)
      rw[gT k (),gT _ (show (l+r) / 2<T'.length by omega)]
      dsimp only
      have bm:=bT _ (getD_mem (show (l+r) / 2<T'.length by omega))
      cases e:lt (T'.getD k 0) (T'.getD ((l+r) / 2) 0) with
      | true=>
        rw[z9p rfl]
        show afY ⟨rfl,l,_,rfl,(),(),(),a4,λi h1 h2=>?_⟩
        by_cases c2:i=(l+r) / 2
        . rw[c2];show e
        . cases e2:lt (T'.getD k 0) (T'.getD i 0) with
          |true=>rfl
          |false=>rw[od.tr _ _ _ bm (bT _ (getD_mem (show i<T'.length by omega))) bv (gk _ _ () h2) e2] at e;cases e
      | false=>
        rw[z9n {}]
        show afY ⟨rfl,_,r,rfl,(),a2,(),λi h1=>?_,a5⟩
        by_cases c2:i=(l+r) / 2
        . rw[c2];show e
        . show od.tr _ _ _ (bT _ (getD_mem (show i<T'.length by omega))) bm bv (gk _ _ () ()) e
    . rintro c st' ⟨rfl,l,r,rfl,a1,a2,a3,a4,a5⟩
      obtain rfl:l=r:=()
      show⟨rfl,l,rfl,a2,a4,a5⟩
    . rintro c st' ⟨rfl,l,rfl,a2,a4,a5⟩
      dsimp only
      have eT:T'=T'.take l++(T'.drop l).take (k - l)++T'.getD k 0::T'.drop (k+1):=by
        have e1:T'.take k=T'.take l++(T'.drop l).take (k - l):=by
          have:=alX (l:=T') (i:=l) (j:=k - l)
          rw[show l+(k - l)=k by omega] at this;show this
        have e2:T'.drop k=T'.getD k 0::T'.drop (k+1):=by
          rw[ahr ()];simp[agZ,show k<T'.length by omega]
        rw[←e1,←e2,agh]
      have lX:(P++T'.take l).length=P.length+l:=by rw[akT,agg];omega
      have lY:((T'.drop l).take (k - l)).length=k - l:=by rw[agg,aho];omega
      have eW:P++T'++R=(P++T'.take l)++(T'.drop l).take (k - l)++T'.getD k 0::(T'.drop (k+1)++R):=by
        conv=>lhs;rw[eT]
        simp only[afM,aiz]
      rw[eW]
      show afO (adZ (by rw[lX,lY];omega) (by rw[lX]) (afY ⟨rfl,T'.take l++T'.getD k 0::(T'.drop l).take (k - l)++T'.drop (k+1),?_,?_,()⟩))
      . show .trans ?_ p1
        conv=>rhs;rw[eT]
        rw[afM,afM]
        show .append_left _ ?_
        rw[aiz]
        show alB.symm
      . rw[alJ (by rw[akT,afN,lY,agg];omega)]
        have c1:cH lt (T'.take l++(T'.drop l).take (k - l)):=by
          have:=alX (l:=T') (i:=l) (j:=k - l)
          rw[show l+(k - l)=k by omega] at this
          rw[←this];show p2
        let⟨d1,d2,d3⟩:=agd.mp c1
        show agd.mpr ⟨d1,agt.mpr ⟨λy hy=>?_,d2⟩,λx hx y hy=>?_⟩
        . let⟨j,j1,j2,rfl⟩:=jN hy
          show od.as _ _ bv (bT _ (getD_mem j2)) (a5 (l+j) () ())
        . rcases afR.mp hy with rfl |hy
          . let⟨j,j1,j2,rfl⟩:=fZ hx
            show a4 j j1
          . show d3 x hx y hy
  . rintro c st' ⟨rfl,T',p1,p2,rfl⟩
    show⟨rfl,T',p1,?_,rfl⟩
    rw[aib (by rw[p1.length_eq];omega)] at p2
    show p2
  . by_cases c:1≤ok
    . rw[Nat.max_eq_left c];show hs
    . rw[Nat.max_eq_right ()]
      match T with
      |[]=>show .nil
      |t::T=>show aja _ _
  . rintro c st' ⟨rfl,T',p1,p2,rfl⟩
    show afY (h T' p1 p2)
end
def offs:Nat->List (List Nat)->List (Nat×Nat)
 |_,[]=>[]
 |o,r::rs=>(o,r.length)::offs (o+r.length) rs
theorem zE:∀{X Y:List (List Nat)} {o:Nat},offs o (X++Y)=offs o X++offs (o+X.flatten.length) Y
 |[],Y,o=>by rw[ajh,alC,ahm,ai7];rfl
 |r::X,Y,o=>by rw[aiz,offs,zE,offs,aiz,ag9,z1d,Nat.add_assoc]
theorem GZ:∀{X:List (List Nat)} {o:Nat},(offs o X).length=X.length
 |[],o=>rfl
 |r::X,o=>by rw[offs,afN,GZ,afN]
abbrev pr2(p:Nat×Nat×Nat):Nat×Nat:=(p.1,p.2.1)
structure Rn(lt:Nat->Nat->Bool)(rs:List (List Nat))(pd:Array (Nat×Nat×Nat)):Prop where
 so:∀r∈rs,cH lt r/\1<=r.length
 pl:pd.toList.map pr2=offs 0 rs
section
variable{κ:ajn}{n g:Nat}{lt:Nat->Nat->Bool}{pd:Array (Nat×Nat×Nat)}{T l0:List Nat}{rs:List (List Nat)}
theorem Rn.size(r:Rn lt rs pd):pd.size=rs.length:=by
 have:=congrArg akS r.pl;rw[z1g,GZ,agq] at this;show this
theorem Rn.merge(r:Rn lt rs pd)(hi:i+1<rs.length):∃X a b Z pw q2,rs=X++a::b::Z/\pd[i]?=some (X.flatten.length,a.length,pw)/\pd[i+1]?=some (X.flatten.length+a.length,b.length,q2)/\
  cH lt a/\cH lt b/\1<=a.length/\1<=b.length/\∀C,cH lt C->C.length=a.length+b.length->Rn lt (X++C::Z) ((pd.setIfInBounds i (X.flatten.length,a.length+b.length,pw)).eraseIdxIfInBounds (i+1)):=by
 obtain⟨X,a,b,Z,rfl,lX⟩:∃X a b Z,rs=X++a::b::Z/\X.length=i:=by
  show⟨rs.take i,rs[i],rs[i+1],rs.drop (i+2),?_,by rw[agg];omega⟩;rw[<-ahr hi,<-ahr (),agh]
 have pl:=r.pl;rw[zE,ahF,offs,offs] at pl;let⟨L1,L2,e0,e1,e2⟩:=List.map_eq_append_iff.mp pl;let⟨x,L3,rfl,e3,e4⟩:=List.map_eq_cons_iff.mp e2;let⟨y,L4,rfl,e5,e6⟩:=List.map_eq_cons_iff.mp e4;let⟨x1,x2,pw⟩:=x;let⟨y1,y2,q2⟩:=y;let⟨rfl,rfl⟩:=Prod.mk.inj e3;let⟨rfl,rfl⟩:=Prod.mk.inj e5;have l1:L1.length=i:=by
  have:=congrArg akS e1;rw[z1g,GZ,lX] at this;show this
 obtain rfl:pd=(L1++(X.flatten.length,a.length,pw)::(X.flatten.length+a.length,b.length,q2)::L4).toArray:=by rw[<-e0]
 have sa:=r.so a ();have sb:=r.so b ();show⟨X,a,b,Z,pw,q2,rfl,?_,?_,sa.1,sb.1,sa.2,sb.2,λC hC lC=>⟨λr' hr=>?_,?_⟩⟩
 .rw[ail,afP (),l1,aj0];rfl
 .rw[ail,afP (),l1,ag0];rfl
 .rcases agk.mp hr with q |q
  .show r.so r' (agQ _ q)
  .rcases afR.mp q with rfl |q
   .show⟨hC,()⟩
   .show r.so r' (by simp[q])
 .have e:((L1++(X.flatten.length,a.length,pw)::(X.flatten.length+a.length,b.length,q2)::L4).toArray.setIfInBounds i (X.flatten.length,a.length+b.length,pw)).eraseIdxIfInBounds (i+1)=(L1++(X.flatten.length,a.length+b.length,pw)::L4).toArray:=by
   rw[ak8,List.set_append_right _ _ (),l1,aj0,List.set_cons_zero];rw[Array.eraseIdxIfInBounds,dif_pos ()];apply Array.toList_inj.mp;rw[Array.toList_eraseIdx];rw[List.eraseIdx_append_of_length_le (),l1,ag0];rfl
  rw[e,zE,ahF,offs,agw,e1,z1h,e6,lC,Nat.add_assoc]
theorem Qx(hA:Asks prog w A s κ it n lt)(od:Wk n lt)(r:Rn lt rs pd)(hi:i+1<rs.length)(hb:∀x∈rs.flatten++T,x<n)
  (h:∀rs' lN g',Rn lt rs' lN->rs'.flatten.Perm rs.flatten->rs'.length+1=rs.length->Q true (ms κ it (rs'.flatten++T) lN g')):wpS (model prog w) A E s (mergeAt' i) Q (ms κ it (rs.flatten++T) pd g):=by
 let⟨X,a,b,Z,pw,q2,rfl,h1,h2,sa,sb,na,nb,k⟩:=r.merge hi;have e:∀C:List Nat,(X++C::Z).flatten++T=X.flatten++C++(Z.flatten++T):=λC=>()
 have e2:(X++a::b::Z).flatten++T=X.flatten++a++b++(Z.flatten++T):=()
 rw[e2] at hb |-;show YM hA od hb sa sb na nb h1 h2 λC g' hp hs=>?_;rw[<-e C];show h _ _ g' (k C hs (by rw[hp.length_eq,z1d])) ?_ ();simp only[List.flatten_append,ag9];rw[<-afM a b];show (hp.append_right _).append_left _
theorem Y0(hA:Asks prog w A s κ it n lt)(od:Wk n lt)(r:Rn lt rs pd)(hi:i+1<rs.length)(hb:∀x∈rs.flatten,x<n)
  (h:∀rs' lN g',Rn lt rs' lN->rs'.flatten.Perm rs.flatten->rs'.length+1=rs.length->Q true (ms κ it rs'.flatten lN g')):wpS (model prog w) A E s (mergeAt' i) Q (ms κ it rs.flatten pd g):=by
 have e:ms κ it rs.flatten pd g=ms κ it (rs.flatten++[]) pd g:=by rw[agi]
 rw[e];show Qx hA od r hi (by rw[agi];show hb) λrs' lN g' a1 a2 a3=>by rw[agi];show h rs' lN g' a1 a2 a3
theorem jW{x:List Nat}:(rs++[x]).flatten=rs.flatten++x:=by rw[List.flatten_append,ag9,alC,agi]
theorem Rn.push(r:Rn lt rs pd){x:List Nat}{o p:Nat}(hx:cH lt x)(h1:1<=x.length)(ho:o=rs.flatten.length):Rn lt (rs++[x]) (pd.push (o,x.length,p)):=by
 show⟨λy hy=>?_,?_⟩
 .rcases agk.mp hy with q |q
  .show r.so y q
  .rw[af3.mp q];show⟨hx,h1⟩
 .rw[alf,agw,r.pl,zE,ahF,ho];rfl
theorem Rn.mod(r:Rn lt rs pd){p:Nat}:Rn lt rs (pd.modify i λx=>(x.1,x.2.1,p)):=by
 show⟨r.so,?_⟩;rw[<-r.pl,Array.toList_modify];apply aip;intro k;rw[z2b,z2b,List.getElem?_modify];cases pd.toList[k]? with
 |none=>rfl
 |some x=>by_cases c:i=k <;> simp[c]
theorem Rn.len(r:Rn lt rs pd):rs.length<=rs.flatten.length:=by
 have so:=r.so
 clear r
 induction rs with
 |nil=>show z0g _
 | cons x rs ih=>
  have:=ih λr hr=>so r (z2f _ hr);have:=(so x afT).2;rw[ag9,z1d,afN];omega
theorem ad0{Q:Unit->ag3->Prop}(hA:Asks prog w A s κ it n lt)(od:Wk n lt)(hb:∀x∈l0,x<n)
  (h:∀l pd g,l.Perm l0->cH lt l->Q Unit.unit (ms κ it l pd g)):wpS (model prog w) A E s sortRuns' Q (ms κ it l0 #[] 7):=by
 have bP:∀{l:List Nat},l.Perm l0->∀x∈l,x<n:=λ{l} hp x hx=>hb x (hp.mem_iff.mp hx);show afO (ajN ?_)
 dsimp only
 rw[oG];show afO (aiB (ag7 (I:=λx c st'=>∃rs T pd g,c=(none,rs.flatten.length)/\st'=ms κ it (rs.flatten++T) pd g/\Rn lt rs pd/\(rs.flatten++T).Perm l0/\x<=rs.flatten.length)
  (Q:=λc st'=>∃rs pd g,c.1=none/\st'=ms κ it rs.flatten pd g/\Rn lt rs pd/\rs.flatten.Perm l0) ?_ ?_ ⟨[],l0,#[],7,rfl,rfl,⟨λ_ h=>by simp at h,rfl⟩,.refl _,z0g _⟩) ?_)
 .rintro x c st' - hx ⟨rs,T,pd,g,rfl,rfl,r,p1,p2⟩
  have lW:=p1.length_eq;rw[z1d] at lW
  dsimp only
  by_cases c1:rs.flatten.length>=l0.length
  .rw[z9p c1];obtain rfl:T=[]:=agp ();rw[agi] at p1;show afY ⟨rs,pd,g,rfl,by rw[agi],r,p1⟩
  rw[z9n c1,show l0.length - rs.flatten.length=T.length by omega];show afO (w_count hA od (bP p1) () λm T' q1 q2 q3 q4=>?_)
  dsimp only
  have lT:=q1.length_eq;have p3:(rs.flatten++T').Perm l0:=(q1.append_left _).trans p1
  generalize (sortPriv% PySem.Builtin.minRun) l0.length l0.length 0=mr
  by_cases c2:m<mr
  all_goals first
   | (rw[z9p c2]
      show afO (akN (ahg ⟨rfl,?_⟩));have eT:rs.flatten++T'=rs.flatten++T'.take (min T.length mr)++T'.drop (min T.length mr):=by rw[afM,agh]
      rw[eT];show afO (aeV hA od (by rw[<-eT];show bP p3) (by rw[agg];omega) (by rw[aiX,ajd ()];show q4) () λT1 t1 t2=>?_);rw[z9n {}];have lr:min T.length mr=T1.length:=by rw[t1.length_eq,agg];omega
      have p4:(rs.flatten++(T1++T'.drop (min T.length mr))).Perm l0:=by
        show .trans ?_ p3;rw[eT,afM];show (t1.append_right _).append_left _
      rw[afM]
      generalize T'.drop (min T.length mr)=T2 at p4 |-
      rw[lr];have s1:1<=T1.length:=()
      clear lr t1 eT c2 q4)
   | (rw[z9n c2]
      have eT:rs.flatten++T'=rs.flatten++(T'.take m++T'.drop m):=by rw[agh]
      have lr:m=(T'.take m).length:=by rw[agg];omega
      have p4:(rs.flatten++(T'.take m++T'.drop m)).Perm l0:=by rw[<-eT];show p3
      rw[eT];have t2:=q4;have s1:1<=(T'.take m).length:=()
      clear eT c2 q4
      generalize T'.drop m=T2 at p4 |-
      generalize T'.take m=T1 at p4 t2 lr s1 |-
      rw[lr]
      clear lr)
  all_goals
   show afO (ajN ?_);have bW:=bP p4;cases eb:pd.back? with
   | none=>
    dsimp only
    show afO (aiD (afY ⟨rs++[T1],T2,pd.push (rs.flatten.length,T1.length,0),g,?_,?_,r.push t2 s1 rfl,?_,?_⟩))
    .rw[jW,z1d]
    .rw[jW,afM]
    .rw[jW,afM];show p4
    .rw[jW,z1d];omega
   | some b=>
    let⟨b1,b2,b3⟩:=b
    dsimp only
    generalize (sortPriv% PySem.Builtin.power) l0.length (2*b1+b2) (2*b1+b2+b2+T1.length) l0.length=pw
    show afO (aiB (ag7 (I:=λy c st'=>∃rs' lN g',c=(none,Unit.unit)/\st'=ms κ it (rs'.flatten++(T1++T2)) lN g'/\Rn lt rs' lN/\rs'.flatten.Perm rs.flatten)
     (Q:=λc st'=>∃rs' lN g',c=(none,Unit.unit)/\st'=ms κ it (rs'.flatten++(T1++T2)) lN g'/\Rn lt rs' lN/\rs'.flatten.Perm rs.flatten) ?_ (λc st' hh=>hh) ⟨rs,pd,g,rfl,rfl,r,.refl _⟩) ?_)
    .rintro y c st' - hy ⟨rs',lN,g',rfl,rfl,r',p5⟩
     show afO (ajN ?_)
     dsimp only
     by_cases c3:lN.size > 1
     .rw[z9p c3];obtain⟨v,ev⟩:∃v,lN[lN.size - 2]?=some v:=⟨_,getElem?_pos lN (lN.size - 2) ()⟩;let⟨v1,v2,v3⟩:=v;rw[ev]
      dsimp only
      by_cases c4:v3<=pw
      .rw[z9p c4];show afY ⟨rs',lN,g',rfl,rfl,r',p5⟩
      rw[z9n c4];have sz:=r'.size;show afO (Qx hA od r' () (λx hx=>bW x ?_) λrG pd2 g2 r2 p6 _=>?_)
      .rcases agk.mp hx with q |q
       .show agQ _ (p5.mem_iff.mp q)
       .show af9 _ q
      .rw[z9n {}];show afY ⟨rG,pd2,g2,rfl,rfl,r2,p6.trans p5⟩
     .rw[z9n c3];show afY ⟨rs',lN,g',rfl,rfl,r',p5⟩
    .rintro c st' ⟨rs',lN,g',rfl,rfl,r',p5⟩
     dsimp only
     show afO (aiD ?_);have l5:=p5.length_eq;show afO (aiD (afY ⟨rs'++[T1],T2,(lN.modify (lN.size - 1) λx=>(x.1,x.2.1,pw)).push (rs.flatten.length,T1.length,0),g',?_,?_,r'.mod.push t2 s1 l5.symm,?_,?_⟩))
     .rw[jW,z1d,l5]
     .rw[jW,afM]
     .rw[jW,afM];show (p5.append_right (T1++T2)).trans p4
     .rw[jW,z1d];omega
 .rintro c st' ⟨rs,T,pd,g,rfl,rfl,r,p1,p2⟩
  have lW:=p1.length_eq;rw[z1d] at lW;obtain rfl:T=[]:=agp ();rw[agi] at p1;show⟨rs,pd,g,rfl,by rw[agi],r,p1⟩
 .rintro c st' ⟨rs,pd,g,e,rfl,r,p1⟩
  rw[e]
  dsimp only
  show afO (aiB (ag7 (I:=λy c st'=>∃rs pd g,c=(none,Unit.unit)/\st'=ms κ it rs.flatten pd g/\Rn lt rs pd/\rs.flatten.Perm l0/\rs.length<=max 1 (l0.length - y))
   (Q:=λc st'=>∃rs pd g,c=(none,Unit.unit)/\st'=ms κ it rs.flatten pd g/\Rn lt rs pd/\rs.flatten.Perm l0/\rs.length<=1) ?_ ?_ ⟨rs,pd,g,rfl,rfl,r,p1,?_⟩) ?_)
  .rintro y c st' - hy ⟨rs,pd,g,rfl,rfl,r,p1,p2⟩
   have sz:=r.size;show afO (ajN ?_)
   dsimp only
   by_cases c1:pd.size<=1
   .rw[z9p c1];show afY ⟨rs,pd,g,rfl,rfl,r,p1,()⟩
   rw[z9n c1];have hz:∀b:Bool,(b=true->pd.size - 2 > 0)->(if b=true then pd.size - 2 - 1 else pd.size - 2)+1<rs.length:=λb hb=>by
    split
    .have:=hb (by assumption);omega
    .omega
   show afO (Y0 hA od r (hz _ λhb=>?_) (bP p1) λrG pd2 g2 r2 p6 l2=>?_)
   .by_cases c2:pd.size - 2 > 0
    .show c2
    .rw[z9n c2] at hb;cases hb
   .rw[z9n {}];show afY ⟨rG,pd2,g2,rfl,rfl,r2,p6.trans p1,()⟩
  .rintro c st' ⟨rs,pd,g,rfl,rfl,r,p1,p2⟩
   show⟨rs,pd,g,rfl,rfl,r,p1,()⟩
  .have:=r.len;have:=p1.length_eq;omega
  .rintro c st' ⟨rs,pd,g,rfl,rfl,r,p1,p2⟩
   dsimp only
   show afY (h _ pd g p1 ?_)
   match rs,p2,r with
   |[],_,_=>show .nil
   |[x],_,r=>rw[ag9,alC,agi];show (r.so x afT).1
   |_::_::_,h,_=>simp at h
end
theorem Qy{a:afG}{vs:List afF}{P:PySem.Fin->afH->Prop}{lt:Nat->Nat->Bool}{kk:ajn}(ho:s.heap.get? a=some (ahb "list" vs.toArray n))(h64:vs.length<=1000000)(od:Wk vs.length lt)
  (kind:2<=vs.length->∀h':af8,(∀b ob,b≠a->s.heap.get? b=some ob->h'.get? b=some ob)->∀Q:ajn->afH->Prop,Q kk {s with heap:=h'}->afK (model prog w) A (keyKind' vs.toArray) Q (λ_ _=>False) {s with heap:=h'})
  (ask:∀h':af8,(∀b ob,b≠a->s.heap.get? b=some ob->h'.get? b=some ob)->∀i j C,i<vs.length->j<vs.length->C (lt i j) {s with heap:=h'}->kas_ask prog w A kk vs i j C {s with heap:=h'})
  (h:∀q:Array Nat,Pm vs.length q->Up lt q vs.length->P (.done (.ret .none)) {s with heap:=akA s.heap a vs (ahT (q.toList.map λi=>vs.getD i agv))}):
  afK (model prog w) A (ahx.«list.sort» ⟨[.ref a],[]⟩) P E s:=by
 rw[list_sort_plain];have ha:a<s.heap.objs.size:=z2c ho;show afE (listItems_at ho rfl ?_);show afE (listUpdate_at ho rfl ?_ (by rw[z1c,ahA];omega) (ahp _));obtain⟨e1,ho1⟩:∃e1,(s.heap.update a (ahh λ_=>(#[]:Array afF))).get? a=some (ahb "list" #[] e1):=⟨_,ajR ho (λ_=> #[])⟩;show afE (seqEpoch_at ho1 rfl ?_);show afE (wpAny_newTuple ?_ (by show vs.length<=_;rw[ahA];omega));show afE (wpAny_newList ?_ (ahp _));show ahc ?_
 generalize hh6:((s.heap.update a (ahh λ_=>(#[]:Array afF))).push (ahb "tuple" vs.toArray 0)).push (ahb "list" #[] 0)=h6
 have ho6:h6.get? a=some (ahb "list" #[] e1):=by
  rw[<-hh6];show z1a _ (z1a _ ho1)
 have keep:∀b ob,b≠a->s.heap.get? b=some ob->h6.get? b=some ob:=λb ob hb e=>by
  rw[<-hh6];show z1a _ (z1a _ (by rw[ah9 _ _ _ _ hb];show e))
 have hsh:∀out:Array afF,akA s.heap a vs out=h6.update a (ahh λ_=>out):=λout=>by rw[<-hh6];rfl
 show afK (model prog w) A _ P E {s with heap:=h6}
 dsimp only
 have hsz:vs.toArray.size=vs.length:=()
 by_cases h2:vs.toArray.size<2
 .rw[z9p h2,z9p h2];show afE (afJ ?_);rw[StateT.run_pure];show afE (afJ ?_)
  dsimp only
  show afE (seqEpoch_at ho6 rfl ?_);show afE (listUpdate_at ho6 rfl ?_ (ahp _) (by show (((pairsOf vs)).map (·.2)).size<=_;rw[Array.size_map,pairsOf_size,ahA];omega));simp only[bne_self_eq_false,af7,if_false];have q:=h (ahT (afI vs.length)) ⟨(),()⟩ (λi j h1 h3=>());rw[hsh] at q;have eo:(arrOf (ahP general' (vs.toArray.zip vs.toArray) #[] 7 none)).map (·.2)=ahT ((ahT (afI vs.length)).toList.map λi=>vs.getD i agv):=by
   show (vs.toArray.zip vs.toArray).map (·.2)=_;show Yg vs (by rw[<-hsz];show h2)
  show afJ ?_;show P _ {s with heap:=h6.update a (ahh λ_=>(arrOf (ahP general' (vs.toArray.zip vs.toArray) #[] 7 none)).map (·.2))};rw[eo];show q
 .rw[z9n h2,z9n h2];have h2':2<=vs.length:=by rw[hsz] at h2;omega
  show afE (ahf (kind h2' h6 keep (λκ s'=>κ=kk/\s'={s with heap:=h6}) ⟨rfl,rfl⟩) (λκ s0 hk=>?_) λ_ _ x=>x.elim);let⟨rfl,rfl⟩:=hk;have hA:Asks prog w A {s with heap:=h6} κ (vs.toArray.zip vs.toArray) vs.length lt:=λi j C hi hj hC=>by
   rw[<-kat_ask_eq rfl];show ask h6 keep i j C hi hj hC
  have est:ahP κ (vs.toArray.zip vs.toArray) #[] 7 none=ms κ (vs.toArray.zip vs.toArray) (afI vs.length) #[] 7:=by
   have e:=kas_range (vs.toArray.zip vs.toArray);rw[show (vs.toArray.zip vs.toArray).size=vs.length by simp] at e;show _=ahP κ (ar (vs.toArray.zip vs.toArray) (afI vs.length)) #[] 7 none;rw[<-Jd,e]
  have run:wpS (model prog w) A E {s with heap:=h6} sortRuns' (λ_ st'=>∃p:Array Nat,p.size=vs.length/\arrOf st'=p.map (agF (vs.toArray.zip vs.toArray))/\failedOf st'=none/\(Pm vs.length p/\Up lt p vs.length)) (ms κ (vs.toArray.zip vs.toArray) (afI vs.length) #[] 7):=by
   show ad0 hA od (λx hx=>z2e hx) λl pd g hp hs=>?_;have ll:l.length=vs.length:=by rw[hp.length_eq,z2d]
   show⟨l.toArray,by simpa using ll,Jd.symm,rfl,⟨by simpa using ll,by simpa using hp⟩,λi j h1 h3=>?_⟩;rw[vf,vf];show hs.get h1 ()
  show afE (ahf (show afK _ _ ((sortRuns').run (ahP κ (vs.toArray.zip vs.toArray) #[] 7 none)) _ _ _ by rw[est];show run) ?_ λ_ _ e=>e)
  rintro⟨PUnit.unit,st'⟩ s' ⟨rfl,p,hp,har,hf,⟨hpm,hps⟩⟩
  dsimp only
  have hout:=kat_snds rfl har;rw[hout];show afE (seqEpoch_at ho6 rfl ?_);show afE (listUpdate_at ho6 rfl ?_ (ahp _) (by show (ahT (p.toList.map λi=>vs.getD i agv)).size<=_;rw[z1c,z1g,agq,hp,ahA];omega));rw[hf];simp only[bne_self_eq_false,af7,if_false];have q:=h p hpm hps;rw[hsh] at q;show afJ q
structure ad1(X:Cx)(V:Hp->afG->List Int->Prop)(At:af8->afG->List Int->Prop):Prop where
 at_:∀{pins:List (afG×Obj)} {σ:L2.St} {H:Hp} {s:afH} {a:afG} {t:List Int},Inv X pins σ H s->V H a t->At s.heap a t
 keeps:∀{h h':af8} {a:afG} {t:List Int},At h a t->(∀b o,h.get? b=some o->o.cls= .type "tuple"->h'.get? b=some o)->At h' a t
 tups:∀{h:af8} (as:List afG),(∀a∈as,∃t,At h a t)->∃fs,KatTups h (as.map afS) fs/\fs.length=as.length/\∀f∈fs,∃k t,f=ajB k t
 lt:∀{A:afZ} {s:afH} {x y:afG} {t t':List Int} {Q:Bool->afH->Prop} {E:afF->afH->Prop},A.units<agR->At s.heap x t->At s.heap y t'->Q (bM t t') s->afK (model X.prog X.w) A (keyLt' (tuples' true) (.ref x) (.ref y)) Q E s
section
variable{X:Cx}
theorem Wx{Kv:Hp->afG->List Int->Prop}{At:af8->afG->List Int->Prop}(kd:ad1 X Kv At)(hu:X.A.units+2<agR):CallR X (.builtin "sorted") (λxs H Q=>∃(a:afG) (as:List afG) (ts:List (List Int)),xs=[.ref a]/\SqL X.K H a (as.map V.ref)/\as.length=ts.length/\ts.length<=1000000/\(∀(i:Nat) b t,as[i]?=some b->ts[i]?=some t->Kv H b t)/\
  ∀(B:afG) (bs:List afG),H B=none->bs.length=ts.length->(∀(i:Nat) b t,bs[i]?=some b->(aZ ts)[i]?=some t->b∈as/\∃j:Nat,as[j]?=some b/\ts[j]?=some t)->Q (.ref B) (upd H B (.lst (bs.map V.ref)))):=by
 intro pins s σ H xs us Q I r h;let⟨a,as,ts,rfl,hq,hl,h64,ht,q⟩:=h;let⟨u,rfl,rx⟩:=vals1 r;cases rx;let⟨its,rv,pl,hz⟩:=I.list hq;have hits:its=as.map afS:=by
  have:∀(as:List afG) (its:List afF),Vals (as.map V.ref) its->its=as.map afS:=by
   intro as
   induction as with
   |nil=>intro its r;cases r;rfl
   |cons b as ih=>intro its r;cases r with |cons r1 r2=>cases r1;rw[ih _ r2];rfl
  show this as its rv
 subst hits;have lenV:(as.map afS).length=ts.length:=by rw[z1g,hl]
 show alk kind_sorted plain_sorted entry_sorted (args_sorted1 _) ?_;unfold ahx.«sorted»;show afE (m:=checkCount "sorted" 1 1 _) (afJ ?_);show afE (collect_list pl.isList ?_);show afE (wpAny_newList ?_ (by rw[lenV,ahA];omega));have hsz:((s.heap.push (ahb "list" #[] 0)).update s.heap.objs.size (ahh (· ++(as.map afS).toArray))).objs.size=s.heap.objs.size+1:=by
  rw[Heap.size_update,size_push']
 have hB:(((s.heap.push (ahb "list" #[] 0)).update s.heap.objs.size (ahh (· ++(as.map afS).toArray))).push (ahb "list" (as.map afS).toArray 0)).get? (s.heap.objs.size+1)=some (ahb "list" (as.map afS).toArray 0):=by
  rw[<-hsz];show z1f _ rfl
 show afK _ _ _ _ _ {s with heap:=((s.heap.push (ahb "list" #[] 0)).update s.heap.objs.size (ahh (· ++(as.map afS).toArray))).push (ahb "list" (as.map afS).toArray 0)};rw[hsz];have kp:∀b o,s.heap.get? b=some o->(((s.heap.push (ahb "list" #[] 0)).update s.heap.objs.size (ahh (· ++(as.map afS).toArray))).push (ahb "list" (as.map afS).toArray 0)).get? b=some o:=λb o e=>by
  show z1a _ ?_;rw[ah9 _ _ _ _ (agm (z2c e))];show z1a _ e
 have G3:∀(i:Nat) b,as[i]?=some b->At s.heap b (ts.getD i []):=λi b e=>by
  have hi:i<ts.length:=by rw[<-hl];show (z1b e).1
  have:=kd.at_ I (ht i b ts[i] e (by simp[hi]));simpa[hi] using this
 have bne:∀b o,s.heap.get? b=some o->b≠s.heap.objs.size+1:=λb o e=>agm (ajs (z2c e));show afE (ahc (ags slot_list_sort ⟨_,hB,rfl⟩ entry_list_sort (Qy (lt:=λi j=>bM (ts.getD i []) (ts.getD j [])) (kk:=tuples' true) hB (by rw[lenV];show h64) (by rw[lenV];show YG) ?kind ?ask λqq hq Y4=>⟨_,rfl,?fin⟩) (args_list_sort _)))
 case kind=>
  intro h2 h6 keep Q' hQ';let⟨fs,kt,fl,fi⟩:=kd.tups (h:=h6) as λb hb=>by
   let⟨i,hi⟩:=aiK.mp hb;show⟨_,kd.keeps (G3 i b hi) λd o hd _=>keep d o (bne d o hd) (kp d o hd)⟩
  show kat_kind (T:= .type "int") kt (by rw[fl,hl];rw[lenV] at h2;omega) (λf hf=>by let⟨k,t,rfl⟩:=fi f hf;show .now) rfl hQ'
 case ask=>
  intro h6 keep i j C hi hj hC;rw[lenV] at hi hj;have hi':i<as.length:=()
  have hj':j<as.length:=()
  have t1:=G3 i as[i] (by simp[hi']);have t2:=G3 j as[j] (by simp[hj']);unfold kas_ask;rw[show (as.map afS).getD i agv= .ref as[i] by simp[hi'],show (as.map afS).getD j agv= .ref as[j] by simp[hj']];show kd.lt (by show X.A.units+1+1<agR;omega) (kd.keeps t1 λd o hd _=>keep d o (bne d o hd) (kp d o hd)) (kd.keeps t2 λd o hd _=>keep d o (bne d o hd) (kp d o hd)) hC
 case fin=>
  rw[lenV] at hq Y4;show afJ ⟨_,rfl,?_⟩;have hout:(qq.toList.map λi=>(as.map afS).getD i agv)=(qq.toList.map λi=>as.getD i 0).map afS:=by
   rw[agj];show agC λi hi=>?_;have hi':i<as.length:=by rw[hl];show z2e (hq.perm.mem_iff.mp hi)
   simp[hi']
  rw[hout];let⟨cc,hFB⟩:=sortedHeap_at (vs:=as.map afS) (out:=ahT ((qq.toList.map λi=>as.getD i 0).map afS)) hB;have hf:H (s.heap.objs.size+1)=none:=I.hok.fresh (akg _);show⟨.ref (s.heap.objs.size+1),upd H (s.heap.objs.size+1) (.lst ((qq.toList.map λi=>as.getD i 0).map V.ref)),I.laid (t':=s.toks) (λb o e=>wD (bne b o e) (kp b o e)) (akg _) ?_,rfl,q _ _ hf ?_ λi b t eb et=>?_⟩
  .show⟨?_,_,cc,Kf _,hFB⟩;rw[z1g,z1g,agq,hq.size,ahA];omega
  .rw[z1g,agq,hq.size]
  .rw[<-Aj hq Y4] at et;rw[z2b] at eb et;cases ei:qq.toList[i]? with
   |none=>rw[ei] at eb;cases eb
   | some k=>
    rw[ei] at eb et;have eb:as.getD k 0=b:=agb eb;have et:ts.getD k []=t:=agb et;have hk:k<ts.length:=z2e (hq.perm.mem_iff.mp (ago ei));have hk':k<as.length:=()
    have ea:as[k]?=some b:=by simp[agZ,hk'] at eb |-;show eb
    show⟨ago ea,k,ea,by simp[agZ,hk] at et |-;show et⟩
end
def aeW(h:af8)(a:afG)(t:List Int):Prop:=∃l c ps,t=l::c::ps/\pF h a l c ps
def jr(h:af8)(a:afG)(t:List Int):Prop:=∃(l:Int) (ps:List Int) (o o2:Obj) (n n2:Nat) (tk:Tok) (p:afG) (vs:Array afF),t=l::ps/\h.get? a=some o/\o.cls= .type "tuple"/\o.data= .seq #[.int l tk,.ref p] n/\h.get? p=some o2/\o2.cls= .type "tuple"/\o2.data= .seq vs n2/\ahJ vs.toList ps
def PrV(K:w0a)(H:Hp)(a:afG)(ns:List Int):Prop:=∃l ps p,ns=l::ps/\SqT K H a [.int l,.ref p]/\SqT K H p (ps.map V.int)
theorem aeX{x y:afG}{t t':List Int}{Q:Bool->afH->Prop}(hu:A.units<agR)(hx:jr s.heap x t)(hy:jr s.heap y t')(h:Q (bM t t') s):
  afK (model prog w) A (keyLt' (tuples' true) (.ref x) (.ref y)) Q E s:=by
 let⟨l,ps,o,o2,n,n2,tk,p,vs,rfl,h1,h2,h3,h4,h5,h6,h7⟩:=hx;let⟨l',qs,o',o2',n',Iw,tk',p',vs',rfl,g1,g2,g3,g4,g5,g6,g7⟩:=hy;show kat_lt h1 h3 g1 g3 ?_;show KatLex prog w A true (decide (2<2)) Q [(.int l tk,.int l' tk'),(.ref p,.ref p')] 0 s;rw[bM] at h;show kat_cons (ajX l tk l' tk' prog w _ _ ?_);by_cases e1:l=l'
 .rw[z9p e1] at h;rw[show (l ==l')=true by simpa using e1];show kat_yes (kat_cons (ajZ (knd:=ako prog w) hu ⟨o2,vs,n2,h4,h5,h6,kI h7⟩ ⟨o2',vs',Iw,g4,g5,g6,kI g7⟩ ?_));by_cases e3:ps=qs
  .rw[e3,jM] at h;rw[z9t e3];show kat_yes (kat_nil (by simpa using h))
  .rw[z9f e3];show kat_no ?_;show afK (model prog w) A (oneLt' false _ _) Q _ s;show kat_one _ _ (En hu h4 h5 h6 g4 g5 g6 h7 g7 h)
 .rw[z9n e1] at h;rw[show (l ==l')=false by simpa using e1];show kat_no ?_;show afK (model prog w) A (keyLt' oneType' (.int l tk) (.int l' tk')) Q _ s;show kat_lt_int h
section
variable{X:Cx}
theorem acI:ad1 X (Ow X.K) aeW where
 at_:=λI h=>let⟨l,c,ps,e,t⟩:=acu I h;⟨l,c,ps,e,t⟩
 keeps:=λ⟨l,c,ps,e,t⟩ k=>⟨l,c,ps,e,t.keeps k⟩
 tups:=λas h=>Ql as λa ha=>let⟨_,l,c,ps,_,t⟩:=h a ha;⟨l,c,ps,t⟩
 lt:=λhu ⟨l,c,ps,e,t⟩ ⟨l',c',ps',e',t'⟩ h=>by subst e;subst e';show acs hu t t' h
theorem aeY{σ:L2.St}{H:Hp}{a:afG}(I:Inv X pins σ H s)(h:PrV X.K H a ns):jr s.heap a ns:=by
 let⟨l,ps,p,rfl,h1,h2⟩:=h;let⟨its,r1,⟨o,ho,hc,n,hd⟩,_⟩:=I.tuple h1;let⟨its2,r2,⟨o2,ho2,hc2,n2,hd2⟩,_⟩:=I.tuple h2;cases r1 with
 | cons a1 r1=>
  cases r1 with
  | cons a3 r1=>
   cases r1;let⟨t,rfl⟩:=a1;cases a3;show⟨l,ps,o,o2,n,n2,t,p,its2.toArray,rfl,ho,hc,hd,ho2,hc2,hd2,by simpa using yt r2⟩
theorem Y5:∀(as:List afG),(∀a∈as,∃t,jr h a t)->∃fs,KatTups h (as.map afS) fs/\fs.length=as.length/\∀f∈fs,∃k t,f=ajB k t
 |[],_=>⟨[],.nil,rfl,λf hf=>by simp at hf⟩
 | a::as,hx=>by
  let⟨_,l,ps,o,o2,n,n2,t,p,vs,_,h1,h2,h3,_⟩:=hx a afT;let⟨fs,k1,k2,k3⟩:=Y5 as λb hb=>hx b (z2f _ hb);show⟨.int l t::fs,KatTups.cons h1 h2 h3 rfl k1,by simp[k2],λf hf=>?_⟩;rcases afR.mp hf with z |z
  .show⟨l,t,z⟩
  .show k3 f z
def vh:List D->R D
 | [.lst ds]=>match qD ds with
  |some ts=>if ts.length<=1000000 then .ok (.lst ((aZ ts).map nG)) else .bad
  |none=> .bad
 |_=> .bad
def dG:List Int->D
 |l::ps=> .tup [.int l,.tup (ps.map .int)]
 |_=> .non
def Qz:D->Option (List Int)
 | .tup [.int l,.tup ps]=>(intsOf ps).map λns=>l::ns
 |_=>none
def zF:List D->Option (List (List Int))
 |[]=>some []
 | d::ds=>match Qz d,zF ds with
  |some t,some ts=>some (t::ts)
  |_,_=>none
end
section
variable{H:Hp}
theorem ad2{v:V}{t:List Int}(e:Qz d=some t)(r:Rep K O H d v):∃b,v= .ref b/\PrV K H b t/\Rep K O H (dG t) v:=by
 unfold Qz at e;split at e
 .rename_i l ps;cases q:intsOf ps with
  |none=>rw[q] at e;cases e
  | some ns=>
   rw[q] at e;cases e;let⟨a,xs,rfl,hq,rs⟩:=r.tup;let⟨v1,v2,rfl,r1,r3⟩:=rs.two;have r1:=r1.int;subst r1;let⟨p,ys,rfl,hq2,rG⟩:=r3.tup;have e2:=rK q rG;subst e2;show⟨a,rfl,⟨l,ns,p,rfl,hq,hq2⟩,gM hq (.cons (cD l) (.cons (gM hq2 o8) .nil))⟩
 .cases e
theorem Va:∀{ds:List D} {vs:List V} {ts:List (List Int)},zF ds=some ts->aN K O H ds vs->∃as:List afG,vs=as.map V.ref/\as.length=ts.length/\∀(i:Nat) b t,as[i]?=some b->ts[i]?=some t->PrV K H b t/\Rep K O H (dG t) (.ref b)
 | [],vs,ts,e,r=>by
  cases e;show⟨[],r.nil_inv,rfl,λi b t h=>by simp at h⟩
 | d ::ds,vs,ts,e,r=>by
  let⟨x,r',rfl,h1,h2⟩:=r.cons_inv;unfold zF at e;split at e
  .rename_i t ts' e1 e2;cases e;let⟨b,rfl,h3,h4⟩:=ad2 e1 h1;let⟨as,rfl,h5,h6⟩:=Va e2 h2;show⟨b::as,rfl,by simp[h5],λi b' t' eb et=>?_⟩;cases i with
   |zero=>simp at eb et;subst eb et;show⟨h3,h4⟩
   |succ i=>show h6 i b' t' (by simpa using eb) (by simpa using et)
  .cases e
end
section
variable{X:Cx}
theorem acJ{f:List Int->D}{Kv:Hp->afG->List Int->Prop}{σ:L2.St}{H:Hp}{Q:V->Hp->Prop}{as:List afG}{a:afG}(j:In X O H ρ σ)(hq:SqL X.K H a (as.map V.ref))(h1:as.length=ts.length)(hl:ts.length<=1000000)
  (h2:∀(i:Nat) b t,as[i]?=some b->ts[i]?=some t->Kv H b t/\Rep X.K O H (f t) (.ref b))(h:good X (rD X) O (.ok (.lst ((aZ ts).map f))) σ H Q):
  ∃(a':afG) (as:List afG) (ts:List (List Int)),[V.ref a]=[.ref a']/\SqL X.K H a' (as.map V.ref)/\as.length=ts.length/\ts.length<=1000000/\(∀(i:Nat) b t,as[i]?=some b->ts[i]?=some t->Kv H b t)/\
  ∀(B:afG) (bs:List afG),H B=none->bs.length=ts.length->(∀(i:Nat) b t,bs[i]?=some b->(aZ ts)[i]?=some t->b∈as/\∃j:Nat,as[j]?=some b/\ts[j]?=some t)->Q (.ref B) (upd H B (.lst (bs.map V.ref))):=by
 show⟨a,as,ts,rfl,hq,h1,hl,λi b t eb et=>(h2 i b t eb et).1,λB bs hB Vb hp=>?_⟩;show h _ _ (Same.upd hB) (Rep.qd hB (j.yP hB) (wW ?_ λi d v ed ev=>?_))
 .rw[z1g,z1g,(cG ts).length_eq,Vb]
 .rw[z2b] at ed ev;cases q1:(aZ ts)[i]? with
  |none=>rw[q1] at ed;cases ed
  | some t=>
   cases q2:bs[i]? with
   |none=>rw[q2] at ev;cases ev
   | some b=>
    rw[q1] at ed;rw[q2] at ev;cases ed;cases ev;let⟨_,k,z1,z2⟩:=hp i b t q2 q1;show (h2 k b t z1 z2).2
theorem QB(hu:X.A.units+2<agR):CallD X (.builtin "sorted") vh:=by
 show⟨_,Wx acI hu,λρ O σ H Q xs ds j r h=>?_⟩;unfold vh at h;split at h
 .rename_i es;let⟨x,rfl,rx⟩:=r.one;let⟨a,ys,rfl,hq,hna,rs⟩:=rx.lst;cases e:qD es with
  |none=>rw[e] at h;show h.elim
  | some ts=>
   rw[e] at h;have h:good X (rD X) O (if ts.length<=1000000 then R.ok (.lst ((aZ ts).map nG)) else .bad) σ H Q:=h;by_cases hl:ts.length<=1000000
   .rw[z9p hl] at h;let⟨as,rfl,h1,h2⟩:=Mf e rs;show acJ j hq h1 hl h2 h
   .rw[z9n hl] at h;show h.elim
 .show h.elim
end
end Pu
namespace Pu
open PySem
variable{n i mask:Nat}
theorem Y6[DecidableEq α]:∀{a m:List α},a.Nodup->(∀x∈a,x∈m)->a.length<=m.length
 |[],_,_,_=>ahp _
 | x::a,m,hn,h=>by
  let⟨h1,h2⟩:=ah5.mp hn;have:=Y6 (m:=m.erase x) h2 λy hy=>(List.mem_erase_of_ne (λe=>h1 (by rw[<-e];show hy))).mpr (h y (z2f _ hy));have hx:=h x afT;rw[List.length_erase_of_mem hx] at this;have:=List.length_pos_of_mem hx;rw[afN];omega
structure TT(t:aif)(n:Nat):Prop where
 dm:t.dummies= #[]
 rs:BR t.place
 sz:t.place.size=n
 le:∀j∈t.place.toList,j<=t.mask
 pl:t.plain=true
def Wz(mask n:Nat):Prop:=(mask=7/\n<5)\/(mask=31/\n<19)\/(mask=127/\n<77)
theorem Y7(k:TT t n)(h:j∉t.place.toList):t.slot j= .empty:=by
 unfold ak7;have e:(t.place[afX t.place j]? ==some j)=false:=by
  cases q:(t.place[afX t.place j]? ==some j) with
  |false=>rfl
  | true=>
   have q:t.place[afX t.place j]?=some j:=by simpa using q
   rw[<-aiN] at q;show absurd (ago q) h
 simp only[e,k.dm,KC];rfl
theorem acK(k:TT t n)(h:n<=t.mask):∃e,e<=t.mask/\t.slot e= .empty:=by
 by_cases c:∃e,e<=t.mask/\e∉t.place.toList
 .let⟨e,h1,h2⟩:=c;show⟨e,h1,Y7 k h2⟩
 .have:=Y6 (a:=afI (t.mask+1)) (m:=t.place.toList) ajG λx hx=>by
   by_cases z:x∈t.place.toList
   .show z
   .show absurd ⟨x,by have:=z2e hx;omega,z⟩ c
  rw[z2d,agq,k.sz] at this;omega
def lp(mask:Nat):Nat->Nat->Nat->Nat×Nat
 |0,i,q=>(i,q)
 |c+1,i,q=>lp mask c (ahG mask i q).1 (ahG mask i q).2
def Ak(mask:Nat):Nat->Nat->Nat
 |0,i=>i
 |c+1,i=>Ak mask c ((i*5+1) % (mask+1))
def orb(mask:Nat):Nat->Nat->List Nat
 |0,_=>[]
 |c+1,i=>i::orb mask c ((i*5+1) % (mask+1))
theorem Vc{mask:Nat}:∀{n i e:Nat},e∈orb mask n i->∃c,c<n/\Ak mask c i=e
 |0,_,_,h=>by simp[orb] at h
 | n +1,i,e,h=>by
  rcases afR.mp h with rfl |h
  .show⟨0,(),rfl⟩
  .let⟨c,h1,h2⟩:=Vc h;show⟨c+1,(),h2⟩
def Je(mask:Nat):Bool:=((afI (mask+1)).all λe=>(orb mask (mask+1) 0).contains e) && (Ak mask (mask+1) 0 ==0)
theorem aft:Je 7=true:=⟨⟩
theorem aeZ:Je 31=true:=⟨⟩
theorem ad3:Je 127=true:=⟨⟩
theorem Es{mask:Nat}:∀{c d i:Nat},Ak mask (c+d) i=Ak mask d (Ak mask c i)
 |0,d,i=>by rw[ahF];rfl
 |c+1,d,i=>by rw[show c+1+d=(c+d)+1 by omega,Ak,Es];rfl
theorem ad4{e:Nat}(hm:mask=7\/mask=31\/mask=127)(hi:i<=mask)(he:e<=mask):∃c,c<=mask/\Ak mask c i=e:=by
 have ok:Je mask=true:=by
  rcases hm with rfl |rfl |rfl
  .show aft
  .show aeZ
  .show ad3
 unfold Je at ok;rw[ag6] at ok;have at_:∀e,e<=mask->∃c,c<=mask/\Ak mask c 0=e:=λe he=>by
  let⟨c,h3,h4⟩:=Vc (List.contains_iff_mem.mp (ai2.mp ok.1 e (ahH.mpr ())));show⟨c,(),h4⟩
 have z:Ak mask (mask+1) 0=0:=by simpa using ok.2
 let⟨c,c1,c2⟩:=at_ i hi;let⟨d,d1,d2⟩:=at_ e he;by_cases q:c<=d
 .show⟨d - c,(),?_⟩;rw[<-c2,<-Es,show c+(d - c)=d by omega,d2]
 .show⟨mask+1 - c+d,(),?_⟩;rw[<-c2,<-Es,show c+(mask+1 - c+d)=(mask+1)+d by omega,Es,z,d2]
theorem Vd{q:Nat}:(ahG mask i q).1<=mask:=by
 unfold ahG;have:=alj (i*5+1+q / 32) (alD mask);show (i*5+1+q / 32) % (mask+1)<=mask;have:(i*5+1+q / 32) % (mask+1)<mask+1:=this;omega
theorem abJ{mask:Nat}:∀{c i q:Nat},i<=mask->(lp mask c i q).1<=mask
 |0,_,_,h=>h
 |c+1,i,q,_=>by rw[lp];show abJ Vd
theorem ad5{mask:Nat}:∀{c i q:Nat},(lp mask c i q).2=q / 32^c
 |0,_,q=>by show q=_;rw[Nat.pow_zero,Nat.div_one]
 | c+1,i,q=>by
  rw[lp,ad5,Nat.pow_succ,Nat.mul_comm,<-Nat.div_div_eq_div_mul];rfl
theorem Y8{mask:Nat}:∀{c d i q:Nat},lp mask (c+d) i q=lp mask d (lp mask c i q).1 (lp mask c i q).2
 |0,d,i,q=>by rw[ahF];rfl
 |c+1,d,i,q=>by rw[show c+1+d=(c+d)+1 by omega,lp,Y8];rfl
theorem Y9{mask:Nat}:∀{c i:Nat},(lp mask c i 0).1=Ak mask c i
 |0,_=>rfl
 | c+1,i=>by
  rw[lp,Ak];have:ahG mask i 0=((i*5+1) % (mask+1),0):=rfl;rw[this,Y9]
theorem abK{q e:Nat}(hm:mask=7\/mask=31\/mask=127)(hi:i<=mask)(hq:q<2^64)(he:e<=mask):∃c,c<=mask+13/\(lp mask c i q).1=e:=by
 let⟨c,h1,h2⟩:=ad4 hm (abJ (c:=13) (q:=q) hi) he;show⟨13+c,(),?_⟩;have e0:(lp mask 13 i q).2=0:=by rw[ad5];show Nat.div_eq_of_lt (z0d hq {})
 rw[Y8,e0,Y9,h2]
def dU(t:aif):Nat->ahK->ahK
 |0,p=>p
 |k+1,p=>dU t k (t.advance p)
theorem yD:∀{k m:Nat} {p:ahK},dU t (k+m) p=dU t m (dU t k p)
 |0,m,p=>by rw[ahF];rfl
 |k+1,m,p=>by rw[show k+1+m=(k+m)+1 by omega,dU,yD];rfl
def rst(t:aif)(i q:Nat)(d:Option Nat):ahK:={j:=i,more:=ahB t.mask i - i,i,perturb:=q,dummy:=d}
theorem Ve{i q:Nat}{d:Option Nat}:∀{m j:Nat},dU t m {j,more:=m,i,perturb:=q,dummy:=d}={j:=j+m,more:=0,i,perturb:=q,dummy:=d}
 |0,j=>rfl
 | m +1,j=>by
  rw[dU];have:t.advance {j,more:=m+1,i,perturb:=q,dummy:=d}={j:=j+1,more:=m,i,perturb:=q,dummy:=d}:=by
   unfold akl;rw[z9p (by show m+1 > 0;omega)];rfl
  rw[this,Ve,show j+1+m=j+(m+1) by omega]
theorem Mr:i<=ahB mask i/\ahB mask i<=i+9:=by
 unfold ahB;split <;> omega
theorem aa4{q:Nat}{d:Option Nat}:dU t (ahB t.mask i - i+1) (rst t i q d)=rst t (ahG t.mask i q).1 (ahG t.mask i q).2 d:=by
 rw[yD];unfold rst;rw[Ve];show t.advance {j:=_,more:=0,i:=i,perturb:=q,dummy:=d}=_;unfold akl;rw[z9n (by show ¬0 > 0;omega)]
theorem Za{t:aif}{d:Option Nat}:∀{c i q:Nat},∃k,k<=10*c/\dU t k (rst t i q d)=rst t (lp t.mask c i q).1 (lp t.mask c i q).2 d
 |0,i,q=>⟨0,z0g _,rfl⟩
 | c+1,i,q=>by
  let⟨k,h1,h2⟩:=Za (t:=t) (d:=d) (c:=c) (i:=(ahG t.mask i q).1) (q:=(ahG t.mask i q).2);have:=Mr (mask:=t.mask) (i:=i);show⟨(ahB t.mask i - i+1)+k,(),?_⟩;rw[yD,aa4,h2];rfl
theorem Vf(h:Int):agA h<2^64:=by
 unfold agA;have h1:=ajg h (show (2^64:Int)≠0 by decide);have h2:=aiG h (show (0:Int)<2^64 by decide);omega
theorem acL(k:TT t n)(hm:t.mask=7\/t.mask=31\/t.mask=127)(hn:n<=t.mask)(h:Int):∃K,K<10*ahL t.mask/\t.slot (dU t K (t.probeStart h)).j= .empty/\∀m,m<K->t.slot (dU t m (t.probeStart h)).j≠.empty:=by
 let⟨e,e1,e2⟩:=acK k hn;have hi:agA h % (t.mask+1)<=t.mask:=by have:=alj (agA h) (alD t.mask);have:agA h % (t.mask+1)<t.mask+1:=this;omega
 let⟨c,c1,c2⟩:=abK hm hi (Vf h) e1;let⟨K,k1,k2⟩:=Za (t:=t) (d:=none) (c:=c) (i:=agA h % (t.mask+1)) (q:=agA h);have hK:t.slot (dU t K (t.probeStart h)).j= .empty:=by
  show t.slot (dU t K (rst t (agA h % (t.mask+1)) (agA h) none)).j=_;rw[k2];show t.slot (lp t.mask c _ _).1=_;rw[c2];show e2
 have:∀K,t.slot (dU t K (t.probeStart h)).j= .empty->∃K',K'<=K/\t.slot (dU t K' (t.probeStart h)).j= .empty/\∀m,m<K'->t.slot (dU t m (t.probeStart h)).j≠.empty:=by
  intro K
  induction K using Nat.strongRecOn with
  | ind K ih=>
   intro hK;by_cases c:∃m,m<K/\t.slot (dU t m (t.probeStart h)).j= .empty
   .let⟨m,m1,m2⟩:=c;let⟨K',a,b⟩:=ih m m1 m2;show⟨K',(),b⟩
   .show⟨K,z0g _,hK,λm m1 m2=>c ⟨m,m1,m2⟩⟩
 let⟨K',a,b⟩:=this K hK;show⟨K',by unfold ahL;omega,b⟩
theorem Ms:∀{k:Nat} {p:ahK},(dU t k p).dummy=p.dummy
 |0,_=>rfl
 |k+1,p=>by rw[dU,Ms,Mi]
theorem Mt(hd:t.dummies= #[]){hashAt:Nat->Int}{h:Int}:∀{K fuel:Nat} {p:ahK},K<fuel->t.slot (dU t K p).j= .empty->(∀m,m<K->t.slot (dU t m p).j≠.empty)->
  aiR t hashAt h fuel p=some (.empty (dU t K p).j p.dummy)\/∃m i,m<K/\t.slot (dU t m p).j= .live i/\aiR t hashAt h fuel p=some (.candidate (dU t m p).j i (dU t (m+1) p))
 | 0,fuel+1,p,hf,e,_=>by
  left;rw[aiR];have e:t.slot p.j= .empty:=e;rw[e];rfl
 | K+1,fuel+1,p,hf,e,l=>by
  have l0:=l 0 ();rw[aiR];cases q:t.slot p.j with
  |empty=>show absurd q l0
  |dummy=>show absurd q (acy hd _)
  | live i=>
   by_cases c:(hashAt i ==h)=true
   .right;show⟨0,i,(),q,?_⟩;simp only[c,if_true];rfl
   .simp only[c,if_false];rcases Mt hd (hashAt:=hashAt) (h:=h) (K:=K) (fuel:=fuel) (p:=t.advance p) () e (λm hm=>l (m+1) ()) with z |⟨m,i',h1,h2,h3⟩
    .left;rw[z9n {},z,Mi];rfl
    .right;show⟨m+1,i',(),h2,by rw[z9n {},h3];rfl⟩
theorem Zb{p:ahK}(h:p.j+p.more<=t.mask):(t.advance p).j+(t.advance p).more<=t.mask:=by
 unfold akl;split
 .show p.j+1+(p.more - 1)<=_;omega
 .have h1:=Vd (mask:=t.mask) (i:=p.i) (q:=p.perturb);show (ahG t.mask p.i p.perturb).1+(ahB t.mask (ahG t.mask p.i p.perturb).1 - (ahG t.mask p.i p.perturb).1)<=t.mask;unfold ahB;split <;> omega
theorem Zc:∀{k:Nat} {p:ahK},p.j+p.more<=t.mask->(dU t k p).j<=t.mask
 |0,p,h=>by show p.j<=_;omega
 |k+1,p,h=>by rw[dU];show Zc (Zb h)
theorem aa5{h:Int}:(t.probeStart h).j+(t.probeStart h).more<=t.mask:=by
 have:agA h % (t.mask+1)<t.mask+1:=alj _ (alD _);show agA h % (t.mask+1)+(ahB t.mask (agA h % (t.mask+1)) - agA h % (t.mask+1))<=t.mask;unfold ahB;split <;> omega
theorem Mu{mask:Nat}{owner:Array (Option Nat)}:∀{fuel c i q:Nat},c<fuel->owner.getD (lp mask c i q).1 (some 0)=none->∃j,ajo mask owner fuel i q=some j/\owner.getD j (some 0)=none
 |0,_,_,_,h,_=>absurd h (Nat.not_lt_zero _)
 | fuel+1,c,i,q,h,e=>by
  rw[ajo];cases f:(afI (ahB mask i+1 - i)).find? λk=>(owner.getD (i+k) (some 0)).isNone with
  | some k=>
   have:=List.find?_some f;show⟨i+k,rfl,by simpa using this⟩
  | none=>
   cases c with
   | zero=>
    have e:owner.getD i (some 0)=none:=e;have hr:=Mr (mask:=mask) (i:=i);have:=List.find?_eq_none.mp f 0 (ahH.mpr ());rw[ai7,e] at this;show absurd rfl this
   |succ c=>show Mu (c:=c) () e
theorem Vg{g:Nat->Option Nat}:∀{l:List Nat},(∀j∈l,g j≠none)->(l.filterMap g).length=l.length
 |[],_=>rfl
 | j::l,h=>by
  cases e:g j with
  |none=>show absurd e (h j afT)
  |some b=>rw[agD e,afN,afN,Vg λk hk=>h k (z2f _ hk)]
theorem G4{α β:Type}{f g:α->Option β}:∀{l:List α},(∀x∈l,f x=g x)->l.filterMap f=l.filterMap g
 |[],_=>rfl
 |a::l,h=>by rw[ai8,ai8,h a afT,G4 λx hx=>h x (z2f _ hx)]
theorem Zd{g:Nat->Option Nat}{j k:Nat}(hg:g j=none):∀{l:List Nat},l.Nodup->j∈l->(l.filterMap λx=>if x=j then some k else g x).Perm (k::l.filterMap g)
 |[],_,h=>by simp at h
 | x ::l,hn,h=>by
  let⟨h1,h2⟩:=ah5.mp hn;by_cases c:x=j
  .subst c;have e:(l.filterMap λy=>if y=x then some k else g y)=l.filterMap g:=G4 λy hy=>by rw[z9n λq=>h1 (by rw[<-q];show hy)]
   rw[agD (b:=k) (by rw[z9p rfl]),e,agT hg]
  .have hm:j∈l:=by
    rcases afR.mp h with q |q
    .show absurd q.symm c
    .show q
   have ih:=Zd (k:=k) hg h2 hm;cases e:g x with
   |none=>rw[agT (by rw[z9n c];show e),agT e];show ih
   |some b=>rw[agD (b:=b) (by rw[z9n c];show e),agD e];show (ih.cons b).trans (alP k b _)
def WD(mask:Nat)(acc:Option (Array (Option Nat)×Nat))(h:Int):Option (Array (Option Nat)×Nat):=do
 let (owner,k) <-acc
 let j <-ajo mask owner (ahL mask) (agA h % (mask+1)) (agA h)
 pure (owner.setIfInBounds j (some k),k+1)
theorem Ze{mask:Nat}(hm:mask=7\/mask=31\/mask=127):∀(hs:List Int) (k:Nat) (owner:Array (Option Nat)),owner.size=mask+1->((afI (mask+1)).filterMap λj=>owner.getD j none).Perm (afI k)->k+hs.length<=mask->
  ∃QC,hs.foldl (WD mask) (some (owner,k))=some (QC,k+hs.length)/\QC.size=mask+1/\((afI (mask+1)).filterMap λj=>QC.getD j none).Perm (afI (k+hs.length))
 |[],k,owner,h1,h2,_=>⟨owner,rfl,h1,h2⟩
 | h ::hs,k,owner,h1,h2,h3=>by
  rw[afN] at h3;obtain⟨e,e1,e2⟩:∃e,e<=mask/\owner.getD e none=none:=by
   by_cases c:∃e,e<=mask/\owner.getD e none=none
   .show c
   .have:=Vg (g:=λj=>owner.getD j none) (l:=afI (mask+1)) λj hj z=>c ⟨j,by have:=z2e hj;omega,z⟩;rw[h2.length_eq,z2d,z2d] at this;omega
  have gd:∀j,j<owner.size->owner.getD j none=owner.getD j (some 0):=λj hj=>by simp[ajj,hj]
  have hi:agA h % (mask+1)<=mask:=by have:agA h % (mask+1)<mask+1:=alj _ (alD _);omega
  let⟨c,c1,c2⟩:=abK hm hi (Vf h) e1;let⟨j,j1,j2⟩:=Mu (mask:=mask) (owner:=owner) (fuel:=ahL mask) (c:=c) (i:=agA h % (mask+1)) (q:=agA h) (by unfold ahL;omega) (by rw[c2,<-gd e ()];show e2);have hj:j<owner.size:=by
   by_cases q:j<owner.size
   .show q
   .simp[ajj,q] at j2
  have st:WD mask (some (owner,k)) h=some (owner.setIfInBounds j (some k),k+1):=by
   show (ajo mask owner (ahL mask) (agA h % (mask+1)) (agA h)).bind (λj=>some (owner.setIfInBounds j (some k),k+1))=_;rw[j1];rfl
  rw[akv,st];have pe:((afI (mask+1)).filterMap λx=>(owner.setIfInBounds j (some k)).getD x none).Perm (afI (k+1)):=by
   have e3:((afI (mask+1)).filterMap λx=>(owner.setIfInBounds j (some k)).getD x none)=(afI (mask+1)).filterMap λx=>if x=j then some k else owner.getD x none:=G4 λx hx=>by
    have hx':x<owner.size:=by have:=z2e hx;omega
    by_cases q:x=j
    .subst q;simp[ajj,hj]
    .simp[ajj,hx',q,Array.getElem_setIfInBounds,agc q]
   rw[e3];show (Zd (by rw[gd j hj];show j2) ajG (ahH.mpr ())).trans ?_;rw[ajS (n:=k)];show (h2.cons k).trans (ak9 k _).symm
  let⟨o',a1,a2,a3⟩:=Ze hm hs (k+1) (owner.setIfInBounds j (some k)) (by rw[Array.size_setIfInBounds];show h1) pe ();show⟨o',?_,a2,?_⟩
  .rw[a1,afN,show k+1+hs.length=k+(hs.length+1) by omega]
  .rw[afN,show k+(hs.length+1)=k+1+hs.length by omega];show a3
theorem Zf{wanted:Nat}{hashes:Array Int}(k:TT t n)(hs:hashes.size=n)(hm:ahD wanted - 1=31\/ahD wanted - 1=127)(hn:n<=ahD wanted - 1):
  ∃t' order,t.relaid hashes wanted=some (t',order)/\TT t' n/\t'.mask=ahD wanted - 1/\t'.led=t.led/\order.toList.Perm (afI n):=by
 generalize hM:ahD wanted - 1=mask at hm hn
 let⟨owner,a1,a2,a3⟩:=Ze (mask:=mask) (.inr hm) hashes.toList 0 (alK (mask+1) none) () (by
  have:((afI (mask+1)).filterMap λj=>(alK (mask+1) (none:Option Nat)).getD j none)=[]:=List.filterMap_eq_nil_iff.mpr λj hj=>by simp[ajj]
  rw[this];show .refl _) (by rw[agq];omega)
 rw[ahF,agq,hs] at a1 a3;have lc:SetTable.layClean mask hashes=some owner:=by
  unfold SetTable.layClean;rw[<-Array.foldl_toList];show (hashes.toList.foldl (WD mask) (some (alK (mask+1) none,0))).map (·.1)=_;rw[a1];rfl
 have em:(((afI (mask+1)).filterMap λj=>(owner.getD j none).map (j,·)).map (·.2))=(afI (mask+1)).filterMap λj=>owner.getD j none:=by
  rw[List.map_filterMap];congr 1;funext j;cases owner.getD j none <;> rfl
 show⟨{mask:=mask,place:=(((afI (mask+1)).filterMap λj=>(owner.getD j none).map (j,·)).map (·.1)).toArray,dummies:= #[],finger:=t.finger,led:=t.led,moves:=t.movedTo mask,plain:=t.plain},(((afI (mask+1)).filterMap λj=>(owner.getD j none).map (j,·)).map (·.2)).toArray,by unfold SetTable.relaid SetTable.laid;rw[hM,lc];rfl,⟨rfl,?_,?_,?_,k.pl⟩,rfl,rfl,?_⟩
 .show (ahT _).toList.Pairwise _;show GR List.pairwise_lt_range
 .have e:((afI (mask+1)).filterMap λj=>(owner.getD j none).map (j,·)).length=n:=by
   rw[<-z1g (f:=(·.2)),em,a3.length_eq,z2d]
  show (ahT _).size=n;rw[z1c,z1g,e]
 .intro j hj;have hj:j∈((afI (mask+1)).filterMap λj=>(owner.getD j none).map (j,·)).map (·.1):=by simpa using hj
  let⟨⟨x,y⟩,h1,rfl⟩:=afW.mp hj;let⟨z,h2,h3⟩:=aiE.mp h1;have:=z2e h2;cases q:owner.getD z none with
  |none=>rw[q] at h3;cases h3
  | some b=>
   rw[q] at h3;have e:z=x:=(Prod.mk.inj (agb h3)).1;show x<=mask;omega
 .show (ahT (((afI (mask+1)).filterMap λj=>(owner.getD j none).map (j,·)).map (·.2))).toList.Perm _;rw[em];show a3
theorem ad6(k:TT t n)(e:t.slot j= .empty)(hj:j<=t.mask):TT (t.put j).1 (n+1):=by
 have hb:=(vd k.rs j).1;have el:=sG t.place (afX t.place j) j hb;show⟨?_,Qo k.rs (Wr e),?_,λi hi=>?_,k.pl⟩
 .show (if al3 t.dummies j then _ else t.dummies)= #[];rw[k.dm,KC];rfl
 .show (ah4 t.place _ j).size=n+1;rw[<-agq,el,z1d,afN,agg,aho,agq,k.sz];have:=k.sz;omega
 .have hi:i∈(ah4 t.place (afX t.place j) j).toList:=hi;rw[el] at hi;rcases agk.mp hi with q |q
  .show k.le i (af5 q)
  .rcases afR.mp q with rfl |q
   .show hj
   .show k.le i (agE q)
end Pu
namespace Pu
open PySem PySem.Spec PySem.W L2
open PyProof.Rows hiding St
variable{led:Bool}{Q:Bool->afH->Prop}{as L:List afG}
def IsTup(h:af8)(a:afG)(vs:List afF):Prop:=∃o n,h.get? a=some o/\o.cls= .type "tuple"/\o.data= .seq vs.toArray n
section
variable{a b:afG}{vs us:List afF}
theorem IsTup.ty(h:IsTup s.heap a vs):s.TypeIs (.ref a) "tuple" :=let⟨o,_,h1,h2,_⟩:=h;⟨o,h1,h2⟩
theorem Mv(k:IsTup s.heap a vs)(hv:∀v∈vs,∀(E:afF->afH->Prop) (Q:Bool->afH->Prop),Q true s->afK (model prog w) A (akX n v) Q E s)(h:Q true s):
  afK (model prog w) A (akX (n+1) (.ref a)) Q E s:=by
 have hT:=k.ty;let⟨o,m,ho,_,hd⟩:=k;unfold akX;show afE (aji hT F.slot_tuple_eq.lookup ?_);show afK _ _ (isInstance (.ref a) (.type "tuple") >>=_) _ _ s;show afE (ahV hT ajz ?_);simp only[ag5,af7,if_false];show afE (ag4 ho hd ?_);show afE ?_;show afK _ _ (forIn vs.toArray _ _) _ _ s;rw[<-aj1];show aiA _ (λrest r s'=>r.1=none/\s'=s/\∀v∈rest,v∈vs) _ ?_ ?_ _ _ ⟨rfl,rfl,λv h=>h⟩
 .rintro v rest r s' ⟨hr,rfl,hall⟩
  show afE (hv v (hall v afT) _ _ ?_);simp only[ag5,af7,if_false];show afJ ⟨rfl,rfl,λu hu'=>hall u (z2f _ hu')⟩
 .rintro⟨r1,r2⟩ s' ⟨hr,rfl,_⟩
  simp only at hr;subst hr;show afJ h
theorem Mw(k:IsTup s.heap a vs)(hv:∀v∈vs,∀(E:afF->afH->Prop) (Q:Bool->afH->Prop),Q false s->afK (model prog w) A (aiS n v) Q E s)(h:Q false s):
  afK (model prog w) A (aiS (n+1) (.ref a)) Q E s:=by
 have hT:=k.ty;let⟨o,m,ho,_,hd⟩:=k;unfold aiS;show afE (aju hT ?_);show afK _ _ (pure true >>=_) _ _ s;show afE (afJ ?_);simp only[ag5,af7,if_false];show afE (ag4 ho hd ?_);show afE ?_;show afK _ _ (forIn vs.toArray _ _) _ _ s;rw[<-aj1];show aiA _ (λrest r s'=>r.1=none/\s'=s/\∀v∈rest,v∈vs) _ ?_ ?_ _ _ ⟨rfl,rfl,λv h=>h⟩
 .rintro v rest r s' ⟨hr,rfl,hall⟩
  show afE (hv v (hall v afT) _ _ ?_);simp only[ag5,af7,if_false];show afJ ⟨rfl,rfl,λu hu'=>hall u (z2f _ hu')⟩
 .rintro⟨r1,r2⟩ s' ⟨hr,rfl,_⟩
  simp only at hr;subst hr;show afJ h
theorem Mx(k:IsTup s.heap a vs)(hv:∀v∈vs,∀(E:afF->afH->Prop) (Q:Bool->afH->Prop),Q true s->afK (model prog w) A (akh n v) Q E s)(h:Q true s):
  afK (model prog w) A (akh (n+1) (.ref a)) Q E s:=by
 have hT:=k.ty;let⟨o,m,ho,_,hd⟩:=k;unfold akh;show afE (aji hT F.slot_tuple_hash.lookup ?_);show afE (ag4 ho hd ?_);show afE ?_;show afK _ _ (forIn vs.toArray _ _) _ _ s;rw[<-aj1];show aiA _ (λrest r s'=>r.1=none/\s'=s/\∀v∈rest,v∈vs) _ ?_ ?_ _ _ ⟨rfl,rfl,λv h=>h⟩
 .rintro v rest r s' ⟨hr,rfl,hall⟩
  show afE (hv v (hall v afT) _ _ ?_);simp only[ag5,af7,if_false];show afJ ⟨rfl,rfl,λu hu'=>hall u (z2f _ hu')⟩
 .rintro⟨r1,r2⟩ s' ⟨hr,rfl,_⟩
  simp only at hr;subst hr;show afJ h
theorem QD{Q:Int->afH->Prop}(hu:A.units<agR)(k:IsTup s.heap a vs)(hv:∀v∈vs,∀(E:afF->afH->Prop) (Q:Int->afH->Prop) (tk:Nat),(∀hv tk',tk<=tk'->Q hv {s with toks:=tk'})->afK (model prog w) A.in1 (pyHash v) Q E {s with toks:=tk})(h:∀hv tk,s.toks<=tk->Q hv {s with toks:=tk}):
  afK (model prog w) A (pyHash (.ref a)) Q E s:=by
 have hT:=k.ty;let⟨o,m,ho,_,hd⟩:=k;unfold pyHash
 first |unfold pyHashByItsType |skip
 first |show afE (wpAny_cRoomFor_or (.inr hu) ?_) |skip
 show afE (aji hT F.slot_tuple_hash.lookup ?_);show afK _ _ (if (some (ak6 "tuple.__hash__") ==some agv)=true then _ else _) Q E s;rw[z9n (by rw[beq_builtin_none];show agf)];show afE (aji hT F.slot_tuple_hash.lookup ?_);show afK _ _ (callSpecialIfBoundUnlessNone? (.ref a) "__hash__" _ >>=_) Q E s;show afE (wpAny_callSpecialIfBoundUnlessNone?_slot hT F.slot_tuple_hash (ags F.slot_tuple_hash hT F.entry_tuple_hash ?_ (F.args_tuple_hash_1 _)));show afK _ _ (ajJ (.ref a) >>=_) _ _ s;show afE (aik ho hd ?_);show afE ?_;rw[<-aj1];show aiA _ (λrest (b:Array Int) s'=>(∃tk,s.toks<=tk/\s'={s with toks:=tk})/\∀v∈rest,v∈vs) _ ?_ ?_ _ _ ⟨⟨s.toks,z0g _,rfl⟩,λv h=>h⟩
 .rintro x rest b s' ⟨⟨tk,htk,rfl⟩,hall⟩
  show afE (hv x (hall x afT) _ _ tk λhv tk' le=>?_)
  first
   |show afJ ⟨⟨tk',z0b htk le,rfl⟩,λu hu'=>hall u (z2f _ hu')⟩
   |show afE (afJ (afJ ⟨⟨tk',z0b htk le,rfl⟩,λu hu'=>hall u (z2f _ hu')⟩))
 .rintro b s' ⟨⟨tk,htk,rfl⟩,_⟩
  show afK _ _ (retInt (ain b.toList)) _ _ _;show wpAny_ret_mkInt ?_;show afK _ _ (if (decide (-(2:Int)^63<=ain b.toList) && decide (ain b.toList<2^63))=true then _ else _) Q E _;by_cases hr:(decide (-(2:Int)^63<=ain b.toList) && decide (ain b.toList<2^63))=true
  .rw[z9p hr];show afJ (h _ _ (z0b htk (akg _)))
  .rw[z9n hr];show afE (ahg (afJ (h _ _ (z0b htk (akg _)))))
end
section
variable{a b:afG}{t t':List Int}
theorem Jf(k:jr h a t):∃l tk p vs ps,t=l::ps/\IsTup h a [.int l tk,.ref p]/\IsTup h p vs/\ahJ vs ps:=by
 let⟨l,ps,o,o2,n,n2,tk,p,vs,rfl,h1,h2,h3,h4,h5,h6,h7⟩:=k;show⟨l,tk,p,vs.toList,ps,rfl,⟨o,n,h1,h2,h3⟩,⟨o2,n2,h4,h5,by simpa using h6⟩,h7⟩
theorem Jg{vs:List afF}{ps:List Int}(h:ahJ vs ps):∀v∈vs,∃k tk,v= .int k tk:=by
 induction h with
 |nil=>intro v hv;simp at hv
 | cons k t _ ih=>
  intro v hv;rcases afR.mp hv with rfl |hv
  .show⟨k,t,rfl⟩
  .show ih v hv
theorem OJ{P:afF->Prop}{x y:afF}(h1:P x)(h2:P y):∀v∈[x,y],P v:=by
 intro v hv;rcases afR.mp hv with rfl |hv
 .show h1
 .rw[af3.mp hv];show h2
theorem QF(k:jr s.heap a t)(h:Q true s):afK (model prog w) A (akX 8 (.ref a)) Q E s:=by
 let⟨l,tk,p,vs,ps,_,h1,h2,h3⟩:=Jf k;show Mv h1 (OJ (λE Q q=>by unfold akX;show afJ q) λE Q q=>Mv h2 (λv hv E Q q=>?_) q) h;let⟨k,tk,rfl⟩:=Jg h3 v hv;unfold akX;show afJ q
theorem QG(k:jr s.heap a t)(h:Q false s):afK (model prog w) A (aiS 8 (.ref a)) Q E s:=by
 let⟨l,tk,p,vs,ps,_,h1,h2,h3⟩:=Jf k;show Mw h1 (OJ (λE Q q=>by unfold aiS;show afJ q) λE Q q=>Mw h2 (λv hv E Q q=>?_) q) h;let⟨k,tk,rfl⟩:=Jg h3 v hv;unfold aiS;show afJ q
theorem aa6(k:jr s.heap a t)(h:Q true s):afK (model prog w) A (akh 8 (.ref a)) Q E s:=by
 let⟨l,tk,p,vs,ps,_,h1,h2,h3⟩:=Jf k;show Mx h1 (OJ (λE Q q=>by unfold akh;show afJ q) λE Q q=>Mx h2 (λv hv E Q q=>?_) q) h;let⟨k,tk,rfl⟩:=Jg h3 v hv;unfold akh;show afJ q
theorem acM{Q:Int->afH->Prop}(hu:A.units+1<agR)(k:jr s.heap a t)(h:∀hv tk,s.toks<=tk->Q hv {s with toks:=tk}):afK (model prog w) A (pyHash (.ref a)) Q E s:=by
 let⟨l,tk,p,vs,ps,_,h1,h2,h3⟩:=Jf k;show QD () h1 (OJ (λE Q tk' q=>(ako prog w).pyHash (k:=l) (alh _ _ _ _) (q _ _ (akg _))) λE Q tk' q=>QD (s:={s with toks:=tk'}) (by rw[units_in1];show hu) h2 (λv hv E Q tk2 q=>?_) λhv tk le=>q hv tk le) h;let⟨k,tk,rfl⟩:=Jg h3 v hv;show (ako prog w).pyHash (k:=k) (alh _ _ _ _) (q _ _ (akg _))
theorem Zg(x:jr h a t)(y:jr h a t'):t=t':=by
 let⟨l,ps,o,o2,n,n2,tk,p,vs,rfl,h1,h2,h3,h4,h5,h6,h7⟩:=x;let⟨l',qs,o',o2',n',Iw,tk',p',vs',rfl,g1,g2,g3,g4,g5,g6,g7⟩:=y;cases h1.symm.trans g1;cases h3.symm.trans g3;cases h4.symm.trans g4;cases h6.symm.trans g6;have:(∀{vs:List afF} {ps qs:List Int},ahJ vs ps->ahJ vs qs->ps=qs):=by
  intro vs ps qs h
  induction h generalizing qs with
  |nil=>intro g;cases g;rfl
  |cons k t _ ih=>intro g;cases g with |cons _ _ g=>rw[ih g]
 rw[this h7 g7]
theorem ae0(hu:A.units+1<agR)(hx:jr s.heap a t)(hy:jr s.heap b t')(hn:t≠t')(h:Q false s):afK (model prog w) A (eqBool (.ref a) (.ref b)) Q E s:=by
 have hab:a≠b:=λe=>hn (Zg hx (by rw[e];show hy));let⟨l,ps,o,o2,n,n2,tk,p,vs,rfl,h1,h2,h3,h4,h5,h6,h7⟩:=hx;let⟨l',qs,o',o2',n',Iw,tk',p',vs',rfl,g1,g2,g3,g4,g5,g6,g7⟩:=hy;have tx:s.TypeIs (.ref a) "tuple" :=⟨o,h1,h2⟩;have ty:s.TypeIs (.ref b) "tuple" :=⟨o',g1,g2⟩;unfold eqBool
 try with_reducible show ahc ?_
 show afK _ _ (if (afS a ==afS b)=true then _ else _) Q E s;rw[z9n (by simpa using hab)];show afE (ajD (op:= .Eq) tx ty F.slot_tuple_eq (ags F.slot_tuple_eq tx F.entry_tuple_eq ?_ (F.args_tuple_eq_2 _ _)) ());have fin:(λ(fin:PySem.Fin) s'=>∃v,fin= .done (.ret v)/\v≠.notImplemented/\afK (model prog w) A (truthOfDropped v) Q E s') (.done (.ret (.bool false))) s:=⟨_,rfl,(λe=>nomatch e),agP h⟩;show afK _ _ (isInstance (.ref b) (.type "tuple") >>=_) _ _ s;show afE (ahV ty ajz ?_);simp only[ag5,af7,if_false];show afE (aik h1 h3 ?_);show afE (aik g1 g3 ?_);show afE ?_;show afK _ _ (forIn [(ajB l tk,ajB l' tk'),(afS p,afS p')] _ _) _ _ s;simp only[ajf,alN];show afE (afE ((ako prog w).eqBool (a:=l) (b:=l') (alh _ _ _ _) (alh _ _ _ _) ?_));by_cases e1:l=l'
 .rw[z9t e1];simp only[ag5,af7,if_false];show afJ (afE (afE (ajZ (knd:=ako prog w) (by rw[units_in1];show hu) ⟨o2,vs,n2,h4,h5,h6,kI h7⟩ ⟨o2',vs',Iw,g4,g5,g6,kI g7⟩ ?_)));rw[z9f (λe=>hn (by rw[e1,e]))];simp only[aj4,if_true];show afE (afJ (afJ (afJ (afJ fin))))
 .rw[z9f e1];simp only[aj4,if_true];show afE (afJ (afJ (afJ (afJ fin))))
theorem Zh{ys:List afF}(k:jr s.heap a t)(hy:∀y∈ys,∃b t',y= .ref b/\jr s.heap b t')(h:Q false s):afK (model prog w) A (searchCouldBeSeen (.ref a) ys) Q E s:=by
 unfold searchCouldBeSeen;show afE ?_;show aiA _ (λrest r s'=>r.1=none/\s'=s/\∀v∈rest,v∈ys) _ ?_ ?_ _ _ ⟨rfl,rfl,λv h=>h⟩
 .rintro v rest r s' ⟨hr,rfl,hall⟩
  let⟨b,t',rfl,kb⟩:=hy v (hall v afT);by_cases e:(a ==b)=true
  .simp only[e,Bool.true_or,if_true];show afJ ⟨rfl,rfl,λu hu'=>hall u (z2f _ hu')⟩
  .have e:(a ==b)=false:=by simpa using e
   simp only[e,carriedByValue,Bool.false_or,akH,af7,if_false];show afE (QF k ?_);simp only[ag5,af7,if_false];show afE (QF kb ?_);simp only[ag5,af7,if_false];show afE (QG k ?_);simp only[af7,if_false];show afE (QG kb ?_);simp only[af7,if_false];show afJ ⟨rfl,rfl,λu hu'=>hall u (z2f _ hu')⟩
 .rintro⟨r1,r2⟩ s' ⟨hr,rfl,_⟩
  simp only at hr;subst hr;show afJ h
end
theorem KJ(h:Wz m n):(m=7\/m=31\/m=127)/\n<=m:=by
 rcases h with⟨rfl,h⟩ |⟨rfl,h⟩ |⟨rfl,h⟩ <;> omega
theorem Et(k:TT t n)(h:n<=t.mask):t.fits n=true:=by
 unfold SetTable.fits SetTable.fill;rw[k.sz,k.dm];simp[h]
theorem acN{j i:Nat}(e:t.slot j= .live i):t.place[i]?=some j:=by
 unfold ak7 at e;by_cases q:(t.place[afX t.place j]? ==some j)=true
 .simp only[q,if_true] at e;cases e;simpa using q
 .rw[Bool.not_eq_true] at q;simp only[q,af7,if_false] at e;split at e <;> show SetTable.Slot.noConfusion e
theorem acO(c:afG):isSame (.ref c) (.ref c)=pure true:=by
 show (if (c ==c)=true then pure true else _)=_;rw[z9p ()]
theorem Zi{tb:List Int}{es:Array (Int×afF)}{ep:Nat}{hv:Int}{Q:SetFound->afH->Prop}(hu:A.units+1<agR)(ho:s.heap.get? a=some o)(hd:o.data= .set es ep t)(k:TT t es.size)(hm:Wz t.mask es.size)
  (hb:jr s.heap b tb)(he:∀e∈es.toList,∃c tc,e.2= .ref c/\jr s.heap c tc/\tc≠tb)(h:∀j,t.slot j= .empty->j<=t.mask->Q (.free j false) s):
  ∀(K fuel:Nat) (stand:Option ahK),K<fuel->K<10*ahL t.mask->(stand.getD (t.probeStart hv)).dummy=none->(stand.getD (t.probeStart hv)).j+(stand.getD (t.probeStart hv)).more<=t.mask->t.slot (dU t K (stand.getD (t.probeStart hv))).j= .empty->(∀m,m<K->t.slot (dU t m (stand.getD (t.probeStart hv))).j≠.empty)->
   afK (model prog w) A (ala a (.ref b) hv true fuel stand) Q E s:=by
 intro K
 induction K using Nat.strongRecOn with
 | ind K ih =>
  intro fuel stand hf ht hdm hj h1 h2;obtain⟨fuel,rfl⟩:∃f,fuel=f+1:=⟨fuel - 1,()⟩;let⟨mm,mn⟩:=KJ hm;have fit:=Et k mn;have gw:t.gaveWay=false:=by
   unfold SetTable.gaveWay;rcases mm with e |e |e <;> rw[e] <;> rfl
  unfold ala;show afE (ag2 ho hd fit ?_);simp only[gw,af7,if_false]
  generalize hp:stand.getD (t.probeStart hv)=p at hdm hj h1 h2 |-
  have pm:∀ha:Nat->Int,_:=λha=>Mt k.dm (hashAt:=ha) (h:=hv) (K:=K) (fuel:=10*ahL t.mask) (p:=p) ht h1 h2;have pm2:∀(ha:Nat->Int) (met:SetTable.Met),t.probe ha hv p=some met->met= .empty (dU t K p).j p.dummy\/∃m i,m<K/\t.slot (dU t m p).j= .live i/\met= .candidate (dU t m p).j i (dU t (m+1) p):=λha met e=>by
   have e:aiR t ha hv (10*ahL t.mask) p=some met:=e;rcases pm ha with z |⟨m,i,m1,m2,z⟩
   .rw[z] at e;show .inl (agb e).symm
   .rw[z] at e;show .inr ⟨m,i,m1,m2,(agb e).symm⟩
  have pm3:∀(ha:Nat->Int),t.probe ha hv p≠none:=λha e=>by
   have e:aiR t ha hv (10*ahL t.mask) p=none:=e;rcases pm ha with z |⟨m,i,m1,m2,z⟩ <;> rw[z] at e <;> show nomatch e
  split
  case h_2 met hx=>show absurd (Option.eq_none_iff_forall_ne_some.mpr hx) (pm3 _)
  case h_1 met e=>
  rcases pm2 _ _ e with rfl |⟨m,i,m1,m2,rfl⟩
  .rw[hdm];show afJ (h _ h1 (Zc hj))
  .clear e
   have pi:=acN m2;have il:i<es.size:=by rw[<-k.sz];show (ak5.mp pi).1
   have ei:es[i]?=some es[i]:=agO il;let⟨c,tc,ec,hc,hne⟩:=he es[i] ();have go :afK (model prog w) A (do
     let some (_,y):=es[i]? |unsupported "internal:set-entry"
     let equal <-holding [y] (eqBool y (.ref b))
     let (es',_,t') <-setState a
     if true && equal then return .there none
     let some sme:=t'.sameMemory t.moves t.mask |unsupported "set.changed-during-lookup:is-the-new-block-at-the-old-address"
     let still <-match (if sme then t'.slot (dU t m p).j else .empty) with
      | .live i'=>match es'[i']? with
       |some (_,y')=>do pure (if <-isSame y' y then some i' else none)
       |none=>pure none
      |_=>pure none
     match still with
     |none=>rule "set.search.anew";ala a (.ref b) hv true fuel none
     |some i'=>if equal then return .there (some i') else ala a (.ref b) hv true fuel (some (dU t (m+1) p))) Q E s:=by
    rw[ei]
    generalize es[i]=ee at ec ei
    let⟨eh,ev⟩:=ee;have ec:ev= .ref c:=ec;subst ec;show afE (ahc (ae0 hu hc hb hne ?_));show afE (ag2 ho hd fit ?_);simp only[akH,af7,if_false];have sm:t.sameMemory t.moves t.mask=some true:=by unfold SetTable.sameMemory;simp
    rw[sm];simp only[if_true,m2,ei];show afE (ahW (a:=true) (acO c) (afE (afJ ?_)));simp only[if_true];show ih (K - (m+1)) () fuel (some (dU t (m+1) p)) () () ?_ ?_ ?_ ?_
    .show (dU t (m+1) p).dummy=none;rw[Ms];show hdm
    .show (dU t (m+1) p).j+(dU t (m+1) p).more<=t.mask;have:∀(q:Nat) (p:ahK),p.j+p.more<=t.mask->(dU t q p).j+(dU t q p).more<=t.mask:=by
      intro q
      induction q with
      |zero=>intro p hp;show hp
      |succ q iq=>intro p hp;rw[dU];show iq _ (Zb hp)
     show this _ _ hj
    .show t.slot (dU t (K - (m+1)) (dU t (m+1) p)).j= .empty;rw[<-yD,show m+1+(K - (m+1))=K by omega];show h1
    .intro q hq;show t.slot (dU t q (dU t (m+1) p)).j≠.empty;rw[<-yD];show h2 _ ()
   cases hl:t.led with
   | true=>
    simp only[hl,ag5,af7,if_false];show go
   | false=>
    simp only[hl,aj4,if_true];show afE (Zh hb (λy hy=>?_) ?_)
    .let⟨e2,q1,rfl⟩:=afW.mp hy;have:e2∈es.toList:=by
      have:e2∈es/\e2.fst=hv:=by simpa using q1
      simpa using this.1
     let⟨c,tc,ec,hc,_⟩:=he e2 this;show⟨c,tc,ec,hc⟩
    .simp only[af7,if_false];show go
def PT(h:af8)(a:afG)(L:List afG)(led:Bool):Prop:=
 ∃(o:Obj) (es:Array (Int×afF)) (ep:Nat) (t:aif),h.get? a=some o/\o.ExactSet/\o.data= .set es ep t/\(es.toList.map (·.2)).Perm (L.map afS)/\TT t es.size/\Wz t.mask es.size/\t.led=led
theorem QH:∀l:List α,(afI l.length).filterMap (λi=>l[i]?)=l
 |[]=>rfl
 | x::l=>by
  rw[afN,aic,agD (f:=λi=>(x::l)[i]?) (a:=0) (b:=x) rfl,List.filterMap_map];congr 1;show QH l
theorem ae1{es:Array α}{order:Array Nat}(h:order.toList.Perm (afI es.size)):(order.filterMap (es[·]?)).toList.Perm es.toList:=by
 rw[Array.toList_filterMap];show (h.filterMap _).trans (.of_eq ?_);have:=QH es.toList;rw[agq] at this;simpa using this
theorem PT.store{es es':Array (Int×afF)}{ep:Nat}{t':aif}(ho:h.get? a=some o)(hx:o.ExactSet)(hd:o.data= .set es ep t)
  (h1:(es'.toList.map (·.2)).Perm (L.map afS))(k:TT t' es'.size)(hm:Wz t'.mask es'.size)(hl:t'.led=led):
  PT (h.update a (akD es' t')) a L led:=by
 have hg:(h.update a (akD es' t')).get? a=some {o with data:= .set es' (ep+1) t'}:=by
  have:=agU (akD es' t') ho (by rw[putSet_of es' t' hd];rfl);rw[putSet_of es' t' hd] at this;show this
 show⟨_,es',ep+1,t',hg,hx,rfl,h1,k,hm,hl⟩
theorem ad7{tb:List Int}{hv:Int}(hu:A.units+1<agR)(z:PT s.heap a L led)(hb:jr s.heap b tb)(he:∀c∈L,∃tc,jr s.heap c tc/\tc≠tb)(hn:L.length<=70)
  (h:∀h',ahe a s.heap h'->PT h' a (L++[b]) led->Q true {s with heap:=h'}):
  afK (model prog w) A (setAddHashed a (.ref b) hv) Q E s:=by
 let⟨o,es,ep,t,ho,hx,hd,hp,kt,hm,hl⟩:=z;let⟨mm,mn⟩:=KJ hm;have fit:=Et kt mn;have en:es.size=L.length:=by
  have:=hp.length_eq;simpa using this
 have he':∀e∈es.toList,∃c tc,e.2= .ref c/\jr s.heap c tc/\tc≠tb:=λe m=>by
  let⟨c,hc,ec⟩:=afW.mp (hp.mem_iff.mp (afW.mpr ⟨e,m,rfl⟩));let⟨tc,h1,h2⟩:=he c hc;show⟨c,tc,ec.symm,h1,h2⟩
 unfold setAddHashed setAddHashedIn;show ahc (afE (ag2 ho hd fit ?_));show afK _ _ (if byScan (.ref b) es=true then _ else _) _ _ _;rw[z9n (by show ¬(false && _ && _)=true;simp)];let⟨K,k1,k2,k3⟩:=acL kt mm mn hv;show afE (Zi hu ho hd kt hm hb he' (λj j1 j2=>?_) K 100000 none (by unfold ahL at k1;rcases mm with e |e |e <;> rw[e] at k1 <;> omega) k1 rfl aa5 k2 k3);show afE (ag2 ho hd fit ?_);have k1':=ad6 kt j1 j2;have pb:(t.put j).2=afX t.place j:=rfl;have Vb:=(vd kt.rs j).1;rw[kt.sz] at Vb;have el:=sG es (afX t.place j) (hv,afS b) Vb;have QJ:(ah4 es (t.put j).2 (hv,afS b)).size=es.size+1:=by
  rw[pb,<-agq,el,z1d,afN,agg,aho,agq];omega
 have pm1:((ah4 es (t.put j).2 (hv,afS b)).toList.map (·.2)).Perm ((L++[b]).map afS):=by
  rw[pb,el,agw,z1h,agw];show alB.trans ?_;rw[<-agw,agh];show (hp.cons _).trans (ak9 _ _).symm
 have hpl:(t.put j).1.plain=true:=k1'.pl;have hmk:(t.put j).1.mask=t.mask:=rfl;have hld:(t.put j).1.led=led:=hl
 clear pb
 dsimp only
 generalize ah4 es (t.put j).2 (hv,afS b)=es1 at QJ pm1 |-
 generalize (t.put j).1=t1 at k1' hpl hmk hld |-
 rw[<-QJ] at k1';rw[z9p hpl];show afE (aa6 hb ?_);show afK _ _ (storeSet a es1 t1 >>=_) _ _ _;have zl:es1.size<=sizeLine:=by rw[ahA];omega
 show afE (wpAny_storeSet_of ho hd ?_ zl);have sb1:=agW s.heap a (akD es1 t1);have fl:t1.tooFull=decide ((es.size+1)*5>=t.mask*3):=by
  unfold SetTable.tooFull SetTable.fill;rw[k1'.sz,k1'.dm,hmk,QJ];rfl
 by_cases tf:(es.size+1)*5>=t.mask*3
 .show afK _ _ (if (!false && t1.tooFull)=true then _ else _) _ _ _;rw[z9p (by rw[fl];simpa using tf)];have hg:(s.heap.update a (akD es1 t1)).get? a=some {o with data:= .set es1 (ep+1) t1}:=by
   have:=agU (akD es1 t1) ho (by rw[putSet_of es1 t1 hd];rfl);rw[putSet_of es1 t1 hd] at this;show this
  have W:(ahD (aj6 (es.size+1)) - 1=31/\es.size+1<19\/ahD (aj6 (es.size+1)) - 1=127/\es.size+1<77)/\ahD (aj6 (es.size+1))<=128/\es.size+1<=t.mask:=by
   rcases hm with⟨e,q⟩ |⟨e,q⟩ |⟨e,q⟩
   .rw[e] at tf |-;have:es.size=4:=()
    rw[this];show⟨.inl ⟨{},{}⟩,{},{}⟩
   .rw[e] at tf |-;have:es.size=18:=()
    rw[this];show⟨.inr ⟨{},{}⟩,{},{}⟩
   .rw[e] at tf;omega
  let⟨W1,W2,W3⟩:=W;let⟨t2,order,r1,r2,r3,r4,r5⟩:=Zf (t:=t1) (n:=es1.size) (wanted:=aj6 (es.size+1)) (hashes:=es1.map (·.1)) k1' () (W1.imp (·.1) (·.1)) (by rw[QJ];rcases W1 with q |q <;> omega);have pes:=ae1 r5;show afE ?_;unfold setRelay;show afE (ag2 hg rfl (Et k1' (by rw[hmk,QJ];show W3)) ?_);show afK _ _ (if ahD (aj6 (es.size+1)) > sizeLine then _ else _) _ _ _;rw[z9n (by rw[ahA];omega)];rw[r1];have Zj:(order.filterMap (es1[·]?)).size=es1.size:=by
   have:=pes.length_eq
   rwa [agq,agq] at this
  show afE (show afK _ _ (do
   let es':=order.filterMap (es1[·]?)
   if es'.size !=es1.size then unsupported "internal:set-table-lost-an-element"
   pure (es',t2)) _ _ _ from ?_)
  show afK _ _ (if ((order.filterMap (es1[·]?)).size !=es1.size)=true then _ else _) _ _ _;rw[z9n (by rw[Zj];simp)]
  generalize order.filterMap (es1[·]?)=es2 at pes Zj
  show afJ (wpAny_storeSet_of hg rfl (afJ (h _ (sb1.trans (agW _ a _)) (PT.store hg hx rfl ((pes.map _).trans pm1) (by rw[Zj];show r2) ?_ (r4.trans hld)))) (by rw[Zj];show zl));rw[r3,Zj,QJ];show .inr (W1.imp id id)
 .show afK _ _ (if (!false && t1.tooFull)=true then _ else _) _ _ _;rw[z9n (by rw[fl];simpa using tf)];show afJ (h _ sb1 (PT.store ho hx hd pm1 k1' ?_ hld));rw[hmk,QJ];rcases hm with⟨e,q⟩ |⟨e,q⟩ |⟨e,q⟩ <;> rw[e] at tf |-
  .show .inl ⟨rfl,()⟩
  .show .inr (.inl ⟨rfl,()⟩)
  .show .inr (.inr ⟨rfl,()⟩)
theorem jr.move{h':af8}{t:List Int}(x:jr h a t)(k:∀b o,h.get? b=some o->h'.get? b=some o):jr h' a t:=by
 let⟨l,ps,o,o2,n,n2,tk,p,vs,e,h1,h2,h3,h4,r⟩:=x;show⟨l,ps,o,o2,n,n2,tk,p,vs,e,k _ _ h1,h2,h3,k _ _ h4,r⟩
theorem PT.move{h':af8}(z:PT h a L led)(k:∀o,h.get? a=some o->h'.get? a=some o):PT h' a L led:=by
 let⟨o,es,ep,t,ho,r⟩:=z;show⟨o,es,ep,t,k o ho,r⟩
section
variable{R:Result->afH->Prop}{I:afG}{fp wr:List afG}{G:Array aln->Array aln->Prop}{P:Nat->afF->Prop}{St:Nat->afH->Prop}{led:Bool}
theorem Vh(W:WalksS prog w A.in1 I fp wr G n P St)(hu:A.units+3<agR)(a:afG)(ha:a∉fp)(h0:af8)(aa7:∀b∈a::wr,h0.objs.size<=b)(as:List afG)(ts:List (List Int))(hl:as.length=n)(hlt:ts.length=n)
  (hv:∀i v,P i v->∃b,as[i]?=some b/\v= .ref b)(hts:∀(i:Nat) b t,as[i]?=some b->ts[i]?=some t->jr h0 b t)(hnd:ts.Nodup)(hb:n<=70):
  ∀(k i:Nat) (s:afH),n - i=k->i<=n->St i s->(∀b o,h0.get? b=some o->s.heap.get? b=some o)->PT s.heap a (as.take i) led->
   (∀s',Moved (a::wr) G s s'->PT s'.heap a as led->R (.ok (.ret .none)) s')->
   ajL (model prog w) A (.builtin "set.update.loop" ⟨[.ref a,.ref I],[]⟩) R s
 | 0,i,s,hk,hi,st,kp,z,r=>by
  have e:i=n:=()
  subst e;show ahO F.entry_set_update_loop ?_;rw[ahl F.plain_set_update_loop];show afE (m:=aiY (.ref I)) (W.done s _ _ st λs' mv=>afJ ?_);have e2:as.take i=as:=aib ();rw[e2] at z;show r s' (mv.mono λb m=>z2f _ m) (z.move λo ho=>mv.heap a o (λm=>ha (W.sub _ m)) ho)
 | k+1,i,s,hk,hi,st,kp,z,r=>by
  have lt:i<n:=()
  show ahO F.entry_set_update_loop ?_;rw[ahl F.plain_set_update_loop];show afE (m:=aiY (.ref I)) (W.item i s _ _ lt st λv s1 pv st1 mv=>?_);let⟨b,eb,rfl⟩:=hv i v pv;have z1:=z.move (h':=s1.heap) λo ho=>mv.heap a o (λm=>ha (W.sub _ m)) ho;have kp1:∀b o,h0.get? b=some o->s1.heap.get? b=some o:=λb o e=>mv.heap b o (λm=>absurd (aa7 b (z2f _ m)) (Nat.not_le_of_lt (z2c e))) (kp b o e);have et:ts[i]?=some ts[i]:=aga ();have pb:jr s1.heap b ts[i]:=(hts i b _ eb et).move kp1;show afE (m:=holding [afS b] (setAdd a (.ref b))) (ahc ?_);unfold setAdd;show ahc (afE (acM (by rw[units_in1];omega) pb λhx tk le=>?_));show ad7 (s:={s1 with toks:=tk}) (by rw[units_in1];omega) z1 pb (λc hc=>?_) (by rw[agg];omega) λh' sb z2=>?_
  .let⟨j,hj⟩:=aiK.mp hc;rw[List.getElem?_take] at hj;by_cases q:j<i
   .rw[z9p q] at hj;have hjl:j<ts.length:=()
    show⟨ts[j],(hts j c _ hj (aga hjl)).move kp1,λe=>?_⟩;have:=(List.getElem_inj hnd).mp e;omega
   .rw[z9n q] at hj;cases hj
  have z3:PT h' a (as.take (i+1)) led:=by
   rw[List.take_add_one,eb];show z2
  show afJ ⟨ait F.plain_set_update_loop _,Vh W hu a ha h0 aa7 as ts hl hlt hv hts hnd hb k (i+1) _ () lt (W.frame _ s1 _ _ st1 le λb m o e=>?_) (λb o e=>?_) z3 λs2 mv2 z4=>?_⟩
  .rw[sb.2 b λq=>ha (q▸m)];show e
  .rw[sb.2 b λq=>absurd (aa7 b (by rw[q];show afT)) (Nat.not_le_of_lt (z2c e))];show kp1 b o e
  .show r s2 (Moved.trans W.gtrans ((mv.mono λb m=>z2f _ m).then_heap le λb o m e=>?_) mv2) z4;rw[sb.2 b λq=>m (q▸afT)];show e
end
theorem acP(e:h.get? a=some (zy w)):PT h a [] (!w.params.followText "set-order"):=
 ⟨_,#[],0,_,e,⟨rfl,rfl,rfl⟩,rfl,.refl _,⟨rfl,.nil,rfl,λj hj=>by simp[SetTable.fresh] at hj,rfl⟩,.inl ⟨rfl,{}⟩,rfl⟩
theorem WK{l:afG}{Q:afF->afH->Prop}(hu:A.units+20<agR)(hh:A.handled=none)(hl:s.heap.IsList l (as.map afS).toArray)(hlt:ts.length=as.length)(hts:∀(i:Nat) b t,as[i]?=some b->ts[i]?=some t->jr s.heap b t)(hnd:ts.Nodup)(hb:as.length<=70)
  (h:∀(h':af8) (tk:Nat),PT h' s.heap.objs.size as (!w.params.followText "set-order")->(∀b o,s.heap.get? b=some o->h'.get? b=some o)->Q (.ref s.heap.objs.size) {s with heap:=h',toks:=tk}):
  afK (model prog w) A (call (.type "set") [.ref l]) Q E s:=by
 let⟨c,tl,hmro⟩:=F.called_set.mro;have k1:=F.called_set.made;have k2:=F.called_set.sub;have k3:=F.called_set.notType;have k4:=F.called_set.canCreate;have k5:=F.typeCall_set_1 (.ref l);show aks (codeAny_of_tree (afJ ⟨Code.quiet_builtin _ {},ahO F.entry_type_call ?_⟩));rw[Around.under_plain (weight_type_call_type "set" [.ref l] []) rfl];repeat (any_goals (first |assumption |wp_step))
 show aiF (aaS (.ref l) (E:=E) (Q:=λv s1=>v= .ref s.heap.objs.size/\s1={s with heap:=s.heap.push (zy w)}) ⟨rfl,rfl⟩) λr s1 hr=>?_
 match r,hr with
 | .error e,hr=>show hr
 | .ok (.ret obj),hr=>
  let⟨rfl,rfl⟩:=hr;have got:(s.heap.push (zy w)).get? s.heap.objs.size=some (zy w):=z1f _ rfl;have isS:alY {s with heap:=s.heap.push (zy w)} (.ref s.heap.objs.size) "set" :=⟨_,got,rfl⟩;have i1:=F.called_set.init.lookup;have i2:=F.called_set.init.bind (.ref s.heap.objs.size)
  repeat (any_goals (first |assumption |wp_step))
  show aiF (codeAny_call_builtin (R:=wants (λv s2=>v= .none/\∃h' tk,s2={s with heap:=h',toks:=tk}/\PT h' s.heap.objs.size as (!w.params.followText "set-order")/\
    ∀b o,s.heap.get? b=some o->h'.get? b=some o) E) F.called_set.init.plain F.entry_set_init (check_set_init_1 isS ?_)) λr2 s2 hr2=>?_
  .let⟨⟨oc,od,odt,osl⟩,ho,hc,m,hd⟩:=hl;have hc:oc= .type "list" :=hc;have hd:odt= .seq (as.map afS).toArray m:=hd;subst hc hd;have lt:=z2c ho;have ho1:(s.heap.push (zy w)).get? l=some {cls:= .type "list",dict:=od,data:= .seq (as.map afS).toArray m,slots:=osl}:=z1a _ ho;have hl1:(s.heap.push (zy w)).IsList l (as.map afS).toArray:=⟨_,ho1,rfl,m,rfl⟩;have u1:=F.sub_list_set;have u2:=F.sub_list_frozenset;have u3:(af6 "list" ==af6 "dict")=false:={}
   unfold ahx.«set.__init__» noKeywords Builtin.Frozenset.updateFrom;generalize hPI:pyIter=PI
   wp_walk
   subst hPI;show aiQ hl1 (afE (wpAny_runValue ?_));have sz:(s.heap.push (zy w)).objs.size=s.heap.objs.size+1:=agM ..;show Vh (led:= !w.params.followText "set-order") ((Walks.list (by simp[hh]) _ l (by rw[sz];show agm (ajs lt)) (as.map afS).toArray).toS) (by simp only[units_in1];omega) s.heap.objs.size (λq=>?_) s.heap (λb hb=>?_) as ts () (by simp[hlt])
    (λi v e=>?_) hts hnd (by simpa using hb) ((as.map afS).toArray.size - 0) 0 _ () (ahp _) ⟨⟨_,z1f _ rfl,rfl,rfl⟩,hl1.push _⟩ (λb o e=>z1a _ (z1a _ e)) (acP (z1a _ got)) λs3 mv z=>?_
   .rw[sz] at q;rcases afR.mp q with q |q
    .show absurd q (agm (Nat.lt_succ_self _))
    .show absurd (af3.mp q) (ajW lt)
   .rcases afR.mp hb with q |q
    .show Nat.le_of_eq q.symm
    .rw[sz] at q;rw[af3.mp q];omega
   .have e:(as.map afS).toArray[i]?=some v:=e;rw[ail,z2b] at e;cases q:as[i]? with
    |none=>rw[q] at e;cases e
    |some b=>rw[q] at e;show⟨b,rfl,(agb e).symm⟩
   .let⟨h3,g3,d3,t3,o3⟩:=s3;cases (show g3=s.gens from mv.gens);cases (show d3=s.drawn from mv.drawn);cases (show o3=s.os from mv.os);show afJ (afJ ⟨rfl,h3,t3,rfl,z,λb o e=>?_⟩);have bl:=z2c e;show mv.heap b o (λq=>?_) (z1a _ (z1a _ e));rcases afR.mp q with q |q
    .show absurd q (agm bl)
    .rw[sz] at q;show absurd (af3.mp q) (agm (ajs bl))
  .match r2,hr2 with
   | .error e,hr2=>show hr2
   | .ok (.ret v),hr2=>
    let⟨rfl,h',tk,rfl,z,kp⟩:=hr2
    repeat (any_goals (first |assumption |wp_step))
    show h _ _ z kp
   | .ok .next,hr2=>show hr2.elim
   | .ok .brk,hr2=>show hr2.elim
   | .ok .cont,hr2=>show hr2.elim
 | .ok .next,hr=>show hr.elim
 | .ok .brk,hr=>show hr.elim
 | .ok .cont,hr=>show hr.elim
theorem acQ{Q:afF->afH->Prop}(z:PT s.heap a as (!w.params.followText "set-order"))
  (h:∀(I:afG) (h':af8) (fp:List afG) (St:Nat->af8->Prop) (L:List (Int×afF)),(L.map (·.2)).Perm (as.map afS)->(∀A:afZ,A.handled=none->Walks prog w A I fp [I] as.length (IW L) St)->St 0 h'->
   (∀b∈fp,b=a\/s.heap.objs.size<=b)->s.heap.objs.size<=I->(∀b o,s.heap.get? b=some o->h'.get? b=some o)->Q (.ref I) {s with heap:=h'}):
  afK (model prog w) A (pyIter (.ref a)) Q E s:=by
 let⟨o,es,ep,t,ho,hx,hd,hp,kt,hm,hl⟩:=z;have lt:=z2c ho;have hf:=Et kt (KJ hm).2;have en:es.size=as.length:=by have:=hp.length_eq;simpa using this
 rw[<-en] at h;by_cases ht:w.params.followText "set-order" =true
 .show IK ho hx.1 hd hf (.inl ht) λh' h1 h2 h3=>?_;show h _ h' _ _ _ ((BW.map _).trans hp) (λA hh=>Wt hh (ajW lt) hd hf ht) ⟨h1,h2 a o ho⟩ (λb hb=>by
   rcases afR.mp hb with rfl |hb
   .show .inr (z0g _)
   .show .inl (af3.mp hb)) (z0g _) h2
 .have ht:w.params.followText "set-order" =false:=by simpa using ht
  have hl:t.led=true:=by rw[hl,ht];rfl
  show IK ho hx.1 hd hf (.inr (.inl kt.pl)) λh' h1 h2 h3=>?_;show h _ h' _ _ _ hp (λA hh=>Tr hh (ajW lt) hd hf ht hl (.inl kt.pl) kt.rs) ⟨⟨0,h1,Wo kt.rs⟩,h2 a o ho⟩ (λb hb=>by
   rcases afR.mp hb with rfl |hb
   .show .inr (z0g _)
   .show .inl (af3.mp hb)) (z0g _) h2
theorem WL{Q:List afF->afH->Prop}(hh:A.handled=none)(hn:as.length<=70)(z:PT s.heap a as (!w.params.followText "set-order"))
  (h:∀(bs:List afG) (h':af8) (tk:Nat),bs.Perm as->(∀b o,s.heap.get? b=some o->h'.get? b=some o)->Q (bs.map afS) {s with heap:=h',toks:=tk}):
  afK (model prog w) A (collect (.ref a)) Q E s:=by
 let⟨o,es,ep,t,ho,hx,hd,hp,kt,hm,hl⟩:=id z;have lt:=z2c ho;unfold collect;show afE (wpAny_runValue (ahO F.entry_proto_collect ?_));rw[ahl F.plain_proto_collect];show afK _ A.in1 (newList [] >>=λl=>again (.builtin "list.__iadd__" ⟨[l,.ref a],[]⟩)) _ _ s;show afE (agB (afJ ⟨ait F.plain_list_iadd _,ahO F.entry_list_iadd ?_⟩));rw[ahl F.plain_list_iadd];have gS:(s.heap.push (ahb "list" #[] 0)).get? s.heap.objs.size=some (ahb "list" #[] 0):=z1f _ rfl;have sz:(s.heap.push (ahb "list" #[] 0)).objs.size=s.heap.objs.size+1:=agM ..;have h1:alE (.ref s.heap.objs.size) (.ref a)=false:=by simp[alE,ajW lt]
 have hT:alY {s with heap:=s.heap.push (ahb "list" #[] 0)} (.ref a) "set" :=⟨o,z1a _ ho,hx.1⟩;show afK _ A.in1 (akY (.ref s.heap.objs.size) (.ref a) (.ref s.heap.objs.size)) _ _ _;unfold akY;show afE (aju hT ?_);rw[z9n (by rw[h1];decide)];show afE (acQ (z.move λo e=>z1a _ e) λI h' fp St L hL W st0 hfp hI hk=>?_);have hT':alY {s with heap:=h'} (.ref a) "set" :=⟨o,hk _ _ (z1a _ ho),hx.1⟩;have hSf:s.heap.objs.size∉fp:=λm=>by
  rcases hfp _ m with q |q
  .show absurd q (ajW lt)
  .have q:(s.heap.push (ahb "list" #[] 0)).objs.size<=s.heap.objs.size:=q;rw[sz] at q;omega
 show afE (ahc ?_);unfold Builtin.List.listLengthHint;show afE (aji hT' Qq ?_)
 (generalize hid:("set.__len__" :String)=id0;(fail_if_success (clear hid id0));wp_delta;rw[show splitId id0=some ("set","__len__") from by subst hid;decide +kernel];subst hid)
 show afE (ahV (b:=true) hT' (by rw[akJ];kernel_rfl) ?_);show afE (aju hT' ?_);show afJ ?_;show afK _ A.in1 (rule "list.extend.makes-room" >>=λ_=>Builtin.List.listTouch (.ref s.heap.objs.size) >>=λ_=>_) _ _ _;show afE (ahg (afE ?_));have g1:=hk _ _ gS;show afE (m:=updateSeq s.heap.objs.size (·.push .none)) (aiM g1 rfl ?_);have g2:=agU (ahh (·.push agv)) g1 rfl;show aiM g2 rfl ?_;have g3:=agU (ahh (·.pop)) g2 rfl;have oth:∀b o,b≠s.heap.objs.size->h'.get? b=some o->((h'.update s.heap.objs.size (ahh (·.push agv))).update s.heap.objs.size (ahh (·.pop))).get? b=some o:=
  λb o hb e=>((akd _ _ (agc hb)).trans (akd _ _ (agc hb))).trans e
 have W0:=W A.in1 (by simp[hh]);show afJ ⟨ait F.plain_extend_loop _,codeAny_extend_loopS W0.toS (by rw[ahA];omega) _ hSf _ as.length 0 _ _ _ rfl (ahp _) (W0.frame _ _ _ st0 λb m o e=>oth b o (λq=>hSf (q▸m)) e) g3 (ItemsOf.nil _) λs' acc' c' hm hS' hacc=>?_⟩;show afK _ A (load s.heap.objs.size >>=_) _ _ s';show afE (wpAny_load hS' (afJ ?_));have lnL:L.length=as.length:=by have:=hL.length_eq;simpa using this
 have ea:acc'.toList=L.map (·.2):=by
  show aip λi=>?_;rw[aiN,z2b];by_cases hi:i<acc'.size
  .rw[agO hi];show (hacc.2 i _ (agO hi)).symm
  .rw[ajm (),ahQ (by have:=hacc.1;omega)];rfl
 obtain⟨bs,eb,pb⟩:∃bs:List afG,L.map (·.2)=bs.map afS/\bs.Perm as:=by
  have:∀(vs:List afF),(∀v∈vs,∃b,v=afS b)->∃bs:List afG,vs=bs.map afS:=by
   intro vs
   induction vs with
   |nil=>intro _;show⟨[],rfl⟩
   | cons v vs ih=>
    intro hv;let⟨b,rfl⟩:=hv v afT;let⟨bs,rfl⟩:=ih λu hu=>hv u (z2f _ hu);show⟨b::bs,rfl⟩
  let⟨bs,e⟩:=this (L.map (·.2)) λv hv=>by
   let⟨b,_,rfl⟩:=afW.mp (hL.mem_iff.mp hv);show⟨b,rfl⟩
  show⟨bs,e,?_⟩;rw[e] at hL;have q:=hL.map (λv:afF=>match v with | .ref b=>b |_=>0);rw[agj,agj] at q;have id1:∀xs:List afG,xs.map ((λv:afF=>match v with | .ref b=>b |_=>0) ∘ afS)=xs:=λxs=>by
   induction xs with
   |nil=>rfl
   |cons x xs ih=>rw[z1h,ih];rfl
  rw[id1,id1] at q;show q
 let⟨h3,g3,d3,t3,o3⟩:=s';cases (show g3=s.gens from hm.gens);cases (show d3=s.drawn from hm.drawn);cases (show o3=s.os from hm.os);show Q acc'.toList _;rw[ea,eb];show h bs h3 t3 pb λb o e=>?_;have bl:=z2c e;show hm.heap b o (λq=>?_) (oth b o (agm bl) (hk _ _ (z1a _ e)));rcases afR.mp q with q |q
 .show absurd q (agm bl)
 .have q:=af3.mp q;have hI:(s.heap.push (ahb "list" #[] 0)).objs.size<=I:=hI;rw[sz] at hI;rw[q] at bl;show absurd (alx bl (Nat.lt_of_succ_le hI)) (agX _)
theorem Zk{Q:afF->afH->Prop}(hu:A.units+2<agR)(hh:A.handled=none)(hn:as.length<=70)(z:PT s.heap a as (!w.params.followText "set-order"))(hlt:ts.length=as.length)(hts:∀(i:Nat) b t,as[i]?=some b->ts[i]?=some t->jr s.heap b t)
  (h:∀(bs:List afG) (h':af8) (tk:Nat) (B:afG) (c:Nat),a<B->(∀b o,s.heap.get? b=some o->h'.get? b=some o)->h'.get? B=some (ahb "list" (bs.map afS).toArray c)->bs.length=ts.length->
   (∀(i:Nat) b t,bs[i]?=some b->(aZ ts)[i]?=some t->b∈as/\∃j:Nat,as[j]?=some b/\ts[j]?=some t)->Q (.ref B) {s with heap:=h',toks:=tk}):
  afK (model prog w) A (call (.builtin "sorted") [.ref a]) Q E s:=by
 obtain⟨f,hf⟩:∃f:afG->List Int,∀(i:Nat) b t,as[i]?=some b->ts[i]?=some t->f b=t:=by
  show⟨λb=>ts.getD (as.idxOf b) [],λi b t eb et=>?_⟩;have hm:=ago eb;have hi:=List.idxOf_lt_length_iff.mpr hm;have e1:as[as.idxOf b]?=some b:=by rw[aga hi,List.getElem_idxOf hi]
  have e2:ts[as.idxOf b]?=some (ts.getD (as.idxOf b) []):=by
   have:as.idxOf b<ts.length:=()
   simp[agZ,this]
  show Zg (hts _ b _ e1 e2) (hts i b t eb et)
 have hat:∀b∈as,∃(j:Nat),as[j]?=some b/\ts[j]?=some (f b):=λb hb=>by
  let⟨j,ej⟩:=aiK.mp hb;have hj:j<ts.length:=by rw[hlt];show (z1b ej).1
  have et:ts[j]?=some ts[j]:=aga hj;show⟨j,ej,by rw[hf j b _ ej et];show et⟩
 have emap:as.map f=ts:=by
  show aip λi=>?_;rw[z2b];cases e:as[i]? with
  |none=>rw[ahQ (by rw[hlt];show List.getElem?_eq_none_iff.mp e)];rfl
  | some b=>
   have hi:i<ts.length:=by rw[hlt];show (z1b e).1
   have et:ts[i]?=some ts[i]:=aga hi;rw[et,<-hf i b _ e et];rfl
 let⟨o0,_,_,_,ho0,_⟩:=id z;show alk kind_sorted plain_sorted entry_sorted (args_sorted1 _) ?_;unfold ahx.«sorted»;show afE (m:=checkCount "sorted" 1 1 _) (afJ ?_);show afE (WL (by simp[hh]) hn z λbs h1 tk pbs kp0=>?_);have afu:aZ (bs.map f)=aZ ts:=uc ((cG _).trans ((pbs.map f).trans ((List.Perm.of_eq emap).trans (cG ts).symm))) kJ kJ;have bln:bs.length=ts.length:=by rw[hlt,pbs.length_eq]
 have tln:(bs.map f).length=ts.length:=by rw[z1g,bln]
 have lenV:(bs.map afS).length=(bs.map f).length:=by rw[z1g,z1g]
 show afE (wpAny_newList ?_ (by rw[lenV,tln,ahA];omega));have hB:(h1.push (ahb "list" (bs.map afS).toArray 0)).get? h1.objs.size=some (ahb "list" (bs.map afS).toArray 0):=z1f _ rfl;have kp:∀b o,s.heap.get? b=some o->(h1.push (ahb "list" (bs.map afS).toArray 0)).get? b=some o:=λb o e=>z1a _ (kp0 b o e);have G3:∀(i:Nat) b,bs[i]?=some b->jr s.heap b ((bs.map f).getD i []):=λi b e=>by
  have hi:i<bs.length:=(z1b e).1;let⟨j,ej,et⟩:=hat b (pbs.mem_iff.mp (ago e));have:=hts j b _ ej et;have e2:(bs.map f).getD i []=f b:=by simp[agZ,z2b,e]
  rw[e2];show this
 have bne:∀b o,s.heap.get? b=some o->b≠h1.objs.size:=λb o e=>agm (z2c (kp0 b o e));show afE (ahc (ags slot_list_sort ⟨_,hB,rfl⟩ entry_list_sort (Qy (lt:=λi j=>bM ((bs.map f).getD i []) ((bs.map f).getD j [])) (kk:=tuples' true) hB (by rw[lenV,tln];omega) (by rw[lenV];show YG) ?kind ?ask λqq hq Y4=>⟨_,rfl,?fin⟩) (args_list_sort _)))
 case kind=>
  intro h2 h6 keep Q' hQ';let⟨fs,kt,fl,fi⟩:=Y5 (h:=h6) bs λb hb=>by
   let⟨i,hi⟩:=aiK.mp hb;show⟨_,(G3 i b hi).move λd o hd=>keep d o (bne d o hd) (kp d o hd)⟩
  show kat_kind (T:= .type "int") kt (by rw[fl];rw[lenV,z1g] at h2;omega) (λf hf=>by let⟨k,t,rfl⟩:=fi f hf;show .now) rfl hQ'
 case ask=>
  intro h6 keep i j C hi hj hC;rw[z1g] at hi hj;have t1:=G3 i bs[i] (by simp[hi]);have t2:=G3 j bs[j] (by simp[hj]);unfold kas_ask;rw[show (bs.map afS).getD i agv= .ref bs[i] by simp[hi],show (bs.map afS).getD j agv= .ref bs[j] by simp[hj]];show aeX (by show A.units+1+1<agR;omega) (t1.move λd o hd=>keep d o (bne d o hd) (kp d o hd)) (t2.move λd o hd=>keep d o (bne d o hd) (kp d o hd)) hC
 case fin=>
  rw[lenV] at hq Y4;show afJ ⟨_,rfl,?_⟩;have hlen:(bs.map f).length=bs.length:=z1g ..;have hout:(qq.toList.map λi=>(bs.map afS).getD i agv)=(qq.toList.map λi=>bs.getD i 0).map afS:=by
   rw[agj];show agC λi hi=>?_;have hi':i<bs.length:=by rw[<-hlen];show z2e (hq.perm.mem_iff.mp hi)
   simp[hi']
  rw[hout];let⟨cc,hFB⟩:=sortedHeap_at (vs:=bs.map afS) (out:=ahT ((qq.toList.map λi=>bs.getD i 0).map afS)) hB;show h (qq.toList.map λi=>bs.getD i 0) _ tk h1.objs.size cc (z2c (kp0 a o0 ho0)) (λb o e=>wD (bne b o e) (kp b o e)) hFB ?_ λi b t eb et=>?_
  .rw[z1g,agq,hq.size,tln]
  .rw[<-afu,<-Aj hq Y4] at et;rw[z2b] at eb et;cases ei:qq.toList[i]? with
   |none=>rw[ei] at eb;cases eb
   | some k=>
    rw[ei] at eb et;have eb:bs.getD k 0=b:=agb eb;have et:(bs.map f).getD k []=t:=agb et;have hk:k<bs.length:=by rw[<-hlen];show z2e (hq.perm.mem_iff.mp (ago ei))
    have ea:bs[k]?=some b:=by simp[agZ,hk] at eb |-;show eb
    have ef:f b=t:=by rw[<-et];simp[agZ,z2b,ea]
    have hb:=pbs.mem_iff.mp (ago ea);let⟨j,ej,etj⟩:=hat b hb;show⟨hb,j,ej,by rw[etj,ef]⟩
def vm:List D->R D
 | [.lst ds]=>match zF ds with
  |some ts=>if ts.Nodup/\ts.length<=70 then .ok (.lst ((aZ ts).map dG)) else .bad
  |none=> .bad
 |_=> .bad
section
variable{a:afV}{p pos p2 pos2:Pos}
def tSP(X:Cx)(ta:TA):TE:=λσ H Q=>ta σ H λvs H1=>∃(l:afG) (as:List afG) (ts:List (List Int)),vs=[.ref l]/\SqL X.K H1 l (as.map V.ref)/\as.length=ts.length/\ts.Nodup/\ts.length<=70/\(∀(i:Nat) b t,as[i]?=some b->ts[i]?=some t->PrV X.K H1 b t)/\
 ∀(B:afG) (bs:List afG),H1 B=none->bs.length=ts.length->(∀(i:Nat) b t,bs[i]?=some b->(aZ ts)[i]?=some t->b∈as/\∃j:Nat,as[j]?=some b/\ts[j]?=some t)->Q (.ref B) (upd H1 B (.lst (bs.map V.ref)))
theorem Tt(hu:X.A.units+60<agR)(hc:X.calm=true)(hg:Gl X "sorted")(hm:X.mg "sorted" =none)(hg2:Gl X "set")(hm2:X.mg "set" =none)(ha:PA X [a] ta)
  (he:afL [.Call (.Name "set" p) [a] [] pos] X.env=(false,eval (.Call (.Name "set" p) [a] [] pos) X.env)::afL [] X.env:=by rfl)(hs2:afL [a] X.env=(false,eval a X.env)::afL [] X.env:=by rfl)
  (hpl:(agS pos2 (afL [] X.env)).any (·.1)=false:=by rfl)(aa8:(agS pos (afL [] X.env)).any (·.1)=false:=by rfl)(hen:afL [] X.env=[]:=by rfl):
  PE X (.Call (.Name "sorted" p2) [.Call (.Name "set" p) [a] [] pos] [] pos2) (tSP X ta):=by
 intro pins s σ H Q I h;show ahC (ld_blt I hg hm boot_sorted (akt ?_ he hpl));rw[he,hen];show afK _ _ (spliced ((false,eval (.Call (.Name "set" p) [a] [] pos) X.env)::[])) _ _ s;show Calls.spliced_cons (ahC (ld_blt I hg2 hm2 Yz (agL (thn (ha pos pins s σ H _ I h) λus s1 ⟨vs,H1,I1,r1,q1⟩=>?_) hs2 aa8)));let⟨l,as,ts,rfl,hq,hl,hnd,h70,ht,q⟩:=q1;let⟨u,rfl,rx⟩:=vals1 r1;cases rx;let⟨its,rv,pl,hz⟩:=I1.list hq;have hits:its=as.map afS:=by
  have:∀(as:List afG) (its:List afF),Vals (as.map V.ref) its->its=as.map afS:=by
   intro as
   induction as with
   |nil=>intro its r;cases r;rfl
   |cons b as ih=>intro its r;cases r with |cons r1 r2=>cases r1;rw[ih _ r2];rfl
  show this as its rv
 subst hits;have hts:∀(i:Nat) b t,as[i]?=some b->ts[i]?=some t->jr s1.heap b t:=λi b t eb et=>aeY I1 (ht i b t eb et);show WK (as:=as) (ts:=ts) () (I.ok.hd hc) pl.isList hl.symm hts hnd () λh1 tk z kp=>Calls.spliced_nil ?_;show Zk (ts:=ts) () (I.ok.hd hc) () z hl.symm (λi b t eb et=>(hts i b t eb et).move kp) λbs h' tk' B c hB kp2 gB bl hp=>?_;have hf:H1 B=none:=I1.hok.fresh (z0e hB);show⟨.ref B,upd H1 B (.lst (bs.map V.ref)),I1.laid (t':=tk') (λb o e=>kp2 b o (kp b o e)) (z0e hB) ⟨?_,_,c,Kf _,gB⟩,rfl,q _ _ hf bl hp⟩;rw[z1g,bl,ahA];omega
theorem Tv(hu:X.A.units+60<agR)(hc:X.calm=true)(hg:Gl X "sorted")(hm:X.mg "sorted" =none)(hg2:Gl X "set")(hm2:X.mg "set" =none)(ha:DA X [a] fa)
  (he:afL [.Call (.Name "set" p) [a] [] pos] X.env=(false,eval (.Call (.Name "set" p) [a] [] pos) X.env)::afL [] X.env:=by rfl)(hs2:afL [a] X.env=(false,eval a X.env)::afL [] X.env:=by rfl)
  (hpl:(agS pos2 (afL [] X.env)).any (·.1)=false:=by rfl)(aa8:(agS pos (afL [] X.env)).any (·.1)=false:=by rfl)(hen:afL [] X.env=[]:=by rfl):
  DE X (.Call (.Name "sorted" p2) [.Call (.Name "set" p) [a] [] pos] [] pos2) (aD vm fa):=by
 show PE.imp (Tt hu hc hg hm hg2 hm2 ha he hs2 hpl aa8 hen) λσ H Q q=>?_;let⟨ρ,O,j,q⟩:=q;show go j q λds vs H1 e1 s1 r1 j1 h1=>?_;unfold vm at h1;split at h1
 .rename_i es;let⟨x,rfl,rx⟩:=r1.one;let⟨l,ys,rfl,hq,_,rs⟩:=rx.lst;cases e:zF es with
  |none=>rw[e] at h1;show h1.elim
  | some ts =>
   rw[e] at h1;have h1:good X (rD X) O (if ts.Nodup/\ts.length<=70 then R.ok (.lst ((aZ ts).map dG)) else .bad) σ H1 Q:=h1;by_cases hl:ts.Nodup/\ts.length<=70
   .rw[z9p hl] at h1;let⟨as,rfl,q1,q2⟩:=Va e rs;show⟨l,as,ts,rfl,hq,q1,hl.1,hl.2,λi b t eb et=>(q2 i b t eb et).1,λB bs hB Vb hp=>by
     show h1 _ _ (Same.upd hB) (Rep.qd hB (j1.yP hB) (wW ?_ λi d v ed ev=>?_))
     .rw[z1g,z1g,(cG ts).length_eq,Vb]
     .rw[z2b] at ed ev;cases z1:(aZ ts)[i]? with
      |none=>rw[z1] at ed;cases ed
      | some t=>
       cases z2:bs[i]? with
       |none=>rw[z2] at ev;cases ev
       | some b=>
        rw[z1] at ed;rw[z2] at ev;cases ed;cases ev;let⟨_,k,y1,y2⟩:=hp i b t z2 z1;show (q2 k b t y1 y2).2⟩
   .rw[z9n hl] at h1;show h1.elim
 .show h1.elim
end
def abL(d:D):D->R D
 | .lst ds=>if ds.all (λd'=>decide (dep d'<=40)) then .ok (.bl (!ds.any (dI · d))) else .bad
 |_=> .bad
theorem acR(hu:X.A.units+60<agR):jG X (agr .NotIn) abL:=by
 show⟨λx y H Q=>∃(l:afG) (ds:List D) (vs:List V) (O O':afG->Prop) (d:D),y= .ref l/\SqL X.K H l vs/\aN X.K O H ds vs/\Rep X.K O' H d x/\(∀d'∈ds,dep d'<=40)/\Q (.bl (!ds.any (dI · d))) H,?_,?_⟩
 .intro pins s σ H x y v u Q I rx ry h;let⟨l,ds,vs,O,O',d,rfl,hq,rs,re,hd,q⟩:=h;cases ry;let⟨its,r',pl,hz⟩:=I.list hq;let⟨e,he⟩:=aaW (A:=X.A.in1) I re rx (O:=O) λd' v' w hd' r q=>GD I 40 _ d' hd' () d v' x w v r re q rx;let⟨h1,h2⟩:=he ds vs its rs r' hd;show SeqAt.notIn_listAt e pl.isList (λw hw=>h2 w (by simpa using hw)) ⟨.bl _,H,I,rfl,?_⟩;rw[show its.toArray.any e=its.any e by simp,adS h1];show q
 .intro ρ O σ H Q x y dx dy j0 rx ry h;cases dy with
  | lst ds=>
   let⟨a,xs,rfl,hq,hna,rs⟩:=ry.lst;have h:good X (rD X) O (if ds.all (λd'=>decide (dep d'<=40)) then .ok (.bl (!ds.any (dI · dx))) else .bad) σ H Q:=h;by_cases hall:ds.all (λd=>decide (dep d<=40))=true
   .rw[z9p hall] at h;show⟨a,ds,xs,O,O,dx,rfl,hq,rs,rx,λd m=>z9o (ai2.mp hall d m),fin h (fJ _)⟩
   .rw[z9n hall] at h;show h.elim
  |_=>show h.elim
end Pu
namespace Fx
open PySem PySem.Spec L2 Pu
open PyProof.Rows hiding St
abbrev gv(n:Nat):aq->R D:=λρ=>bY ρ n
abbrev ci(i:Int):aq->R D:=λ_=> .ok (.int i)
abbrev nA:aq->R (List D):=λ_=> .ok []
abbrev tT:aq->R Bool:=λ_=> .ok true
def Ca:aq->So:=(aQ (bF (bin (ci 7) (gv 1) iT) (aH 3)) (aQ (eX (cC (bin (gv 0) (jA nA) nZ)) (aQ (bF (bin (gv 0) (bin (gv 1) (aD cF (ak (gv 0) nA)) fV) cA) (aH 3)) (aQ (bF (bin (gv 1) (aD cF (ak (gv 0) nA)) jh) (aH 4)) (aQ (eX (lO (cC (bin (gv 3) (bin (ci 10) (ci 18) wV) XR)) (cC (bin (gv 4) (ci 60) ltI))) (aQ (bF (bin (gv 3) (bin (ci 10) (ci 18) wV) jh) (aH 5)) (aQ (oO (lO (cC (bin (gv 5) (ci 0) wA)) (cC (bin (gv 4) (ci 0) wA))) (aQ (bF (bin (gv 5) (ci 1000000) jh) (aH 5)) (bF (bin (gv 4) (ci 1) fU) (aH 4))) 64) (eX (cC (bin (gv 5) (ci 0) wA)) (retS (bin (bin (gv 5) (ci 1000000) fV) (gv 2) fV)) So.nx))) So.nx) (bF (bin (gv 3) (bin (ci 6553) (bin (gv 1) (aD cF (ak (gv 0) nA)) jh) iT) fH) (aH 3))))) So.nx) (aQ (bF (bin (bin (bin (bin (gv 3) (ci 2147483563) fV) (ci 69069) iT) (bin (ci 104723) (bin (gv 1) (ci 1) fH) iT) fH) (ci 2147483563) fV) (aH 3)) (aQ (bF (bin (bin (bin (gv 3) (gv 3) iT) (bin (gv 3) (ci 3) jh) fH) (ci 2147483399) fV) (aH 3)) (retS (bin (bin (bin (bin (bin (gv 3) (gv 3) iT) (bin (gv 3) (ci 7) jh) fH) (ci 2147483647) fV) (ci 11) jh) (gv 2) fV))))))
def cX:List D->R D:=cL 3 Ca
def Al:aq->So:=(retS (bin (jA (ak (λ_=> .ok (.str "worth")) (ak (λ_=> .ok (.str "joins")) nA))) (aD (aO cX 3) (ak (gv 0) (ak (gv 1) (ak (ci 2) nA)))) cA))
def sH:List D->R D:=cL 0 Al
def mkB:aq->So:=(aQ (bF (bin (bin (gv 1) (ci 1) fY) (bin (aD cF (ak (gv 6) nA)) (gv 5) Ko) fY) (aH 7)) (rZ 3 (aD j9 (ak (bN 1 [7,0,4] (λρ=>((ak (aD cF (ak (gv 6) nA)) nA) ρ).bind lJ) (aH 0) tT (bin (gv 3) (aD (aO cX 3) (ak (gv 2) (ak (bin (gv 1) (gv 0) fY) (ak (aD cF (ak (gv 3) nA)) nA)))) cA)) nA))))
def Cd:aq->So:=(aQ (newL nA 3) (aQ (bF (bin (jA (ak (jA (ak (ci 0) (ak (ci 0) (ak (ci 0) (ak (ci 1) (ak (ci 2) nA)))))) (ak (jA (ak (ci 0) (ak (ci 0) (ak (ci 0) (ak (ci 0) (ak (ci 1) nA)))))) (ak (jA (ak (ci 0) (ak (ci 0) (ak (ci 2) (ak (ci 0) (ak (ci 0) nA)))))) (ak (jA (ak (ci 0) nA)) nA))))) (aD (aO cX 3) (ak (gv 0) (ak (gv 1) (ak (ci 4) nA)))) cA) (aH 4)) (aQ (nQ (λρ=>((ak (gv 2) nA) ρ).bind tY) (c7 (dg 2 (aW (aH 5) (aW (aH 6) nilG)))) mkB) (retS (aD j9 (ak (gv 3) nA))))))
def pI:List D->R D:=cL 5 Cd
def Ce:aq->So:=(retS (aD cF (ak (bN 2 [2] (λρ=>((ak (gv 0) (ak (gv 1) nA)) ρ).bind zip2) (c7 (dg 2 (aW (aH 0) (aW (aH 1) nilG)))) (cC (bin (bin (gv 0) (gv 1) cA) (gv 2) jD)) (gv 1)) nA)))
def pJ:List D->R D:=cL 0 Ce
def yE:aq->So:=(aQ (Pr 4 5 (bin (jA (ak (ci 2) (ak (ci 5) (ak (ci 100) (ak (ci 10) nA))))) (aD (aO cX 3) (ak (gv 0) (ak (gv 1) (ak (ci 4) nA)))) cA) nA) (aQ (nQ (λρ=>((ak (gv 3) nA) ρ).bind lJ) (aH 6) (rZ 5 (aD j9 (ak (bN 1 [1,2,4,0,6] (λρ=>((ak (gv 2) nA) ρ).bind lJ) (aH 0) tT (aD (aO cX 3) (ak (gv 4) (ak (bin (bin (bin (gv 1) (ci 1) fH) (bin (gv 2) (gv 5) iT) fH) (gv 0) fH) (ak (gv 3) nA))))) nA)))) (retS (aD j9 (ak (gv 5) nA)))))
def qF:List D->R D:=cL 3 yE
def Fy:aq->So:=(retS (aD (aO qF 4) (ak (gv 0) (ak (bin (gv 1) (ci 2) fH) (ak (bin (ci 1) (aD (aO cX 3) (ak (gv 0) (ak (gv 1) (ak (gv 2) nA)))) fH) (ak (bin (ci 1) (aD (aO cX 3) (ak (gv 0) (ak (bin (gv 1) (ci 1) fH) (ak (gv 3) nA)))) fH) nA))))))
def wX:List D->R D:=cL 0 Fy
def aa9:aq->So:=(rZ 4 (aD maxD (ak (ci 0) (ak (aD minD (ak (bin (gv 2) (ci 1) fU) (ak (bin (bin (UW 4 (Kl (ci 1))) (aD (aO cX 3) (ak (gv 0) (ak (bin (bin (gv 1) (ci 1) fY) (gv 5) fY) (ak (ci 3) nA)))) fY) (ci 1) fU) nA))) nA))))
def Jh:aq->So:=(aQ (newL (ak (aD (aO cX 3) (ak (gv 0) (ak (gv 1) (ak (gv 2) nA)))) nA) 4) (aQ (nQ (λρ=>((ak (bin (gv 3) (ci 1) fU) nA) ρ).bind lJ) (aH 5) aa9) (retS (aD j9 (ak (gv 4) nA)))))
def zG:List D->R D:=cL 2 Jh
def Mz:aq->So:=(retS (bin (bin (gv 0) (gv 2) cA) (bin (bin (gv 1) (gv 2) fU) (ci 1) fY) cA))
def iK:List D->R D:=cL 0 Mz
def Zm:aq->So:=(retS (aD Wn (ak (aD maxD (ak (bin (gv 0) (ci 1) fU) (ak (ci 0) nA))) (ak (aD minD (ak (bin (gv 0) (ci 2) fY) (ak (gv 1) nA))) nA))))
def QK:List D->R D:=cL 0 Zm
def onB:aq->So:=(aQ (bF (aD (aO iK 3) (ak (gv 1) (ak (gv 2) (ak (gv 4) nA)))) (aH 5)) (GK 3 (bN 3 [5] (dB (bin (gv 0) (gv 4) cA)) (c7 (dg 3 (aW (aH 0) (aW (aH 1) (aW (aH 2) nilG))))) tT (iB (ak (gv 0) (ak (bin (gv 1) (gv 3) fY) (ak (gv 2) nA)))))))
def QL:aq->So:=(aQ (newL nA 3) (aQ (nQ (dB (aD (aO QK 2) (ak (gv 2) (ak (aD cF (ak (gv 0) nA)) nA)))) (aH 4) onB) (retS (gv 3))))
def zH:List D->R D:=cL 3 QL
def abM(aG:Nat)(GG:List D->R D):aq->So:=(eX (cC (bin (gv 8) (ci 1) jD)) (bF (jA nA) (aH 9)) (eX (jz (Kz (gv 4))) (bF (Em 3 aG GG 2 (ak (gv 7) (ak (jA (ak (iB (ak (ci 0) (ak (ci 0) (ak (gv 2) nA)))) nA)) nA))) (aH 9)) (bF (Em 3 aG GG 2 (ak (gv 7) (ak (aD (aO zH 3) (ak (UW 4 (Kl (ci 1))) (ak (bin (gv 0) (bin (gv 5) (ci 1) fY) cA) (ak (gv 7) nA)))) nA))) (aH 9))))
def abN:aq->So:=(aQ (bF (Lj (cC (bin (gv 8) (ci 2) jD)) (ci 1) (ci 0)) (aH 10)) (rZ 6 (bN 3 [10] (dB (gv 9)) (c7 (dg 3 (aW (aH 0) (aW (aH 1) (aW (aH 2) nilG))))) tT (iB (ak (bin (gv 0) (gv 3) fU) (ak (gv 1) (ak (gv 2) nA)))))))
def inW(aG:Nat)(GG:List D->R D):aq->So:=(aQ (abM aG GG) abN)
def abb(aG:Nat)(GG:List D->R D):aq->So:=(aQ (newL nA 6) (aQ (nQ (λρ=>((ak (bin (gv 1) (gv 5) cA) nA) ρ).bind tY) (c7 (dg 2 (aW (aH 7) (aW (aH 8) nilG)))) (inW aG GG)) (Qj 4 6)))
def KN(aG:Nat)(GG:List D->R D):aq->So:=(aQ (newL nA 4) (aQ (nQ (λρ=>((ak (aD cF (ak (gv 1) nA)) nA) ρ).bind Qk) (aH 5) (abb aG GG)) (retS (Ov (gv 4)))))
def lF(aG:Nat)(GG:List D->R D)(ds:List D):R D:=gG 7 (KN aG GG) (ds.map .val++[.obj (.fn aG)])
def Cg:aq->So:=(retS (bN 3 [0] (dB (oE (aD vh (ak (gv 1) nA)) (λ_=> .ok none) (λρ=>((gv 2) ρ).bind Ib))) (c7 (dg 3 (aW (aH 0) (aW (aH 1) (aW (aH 2) nilG))))) tT (iB (ak (gv 0) (ak (gv 1) (ak (bin (iB (ak (gv 3) nA)) (gv 2) fY) nA))))))
def lA(my:Int)(ds:List D):R D:=gG 0 Cg (ds.map .val++[.val (.int my)])
def wY:aq->So:=(Wi 3 2 ((gv 0):aq->R D) ((gv 1):aq->R D) ((iB nA):aq->R D) lF lA)
def wZ(ds:List D):R D:=gG 1 wY (ds.map .val)
def Ji:aq->So:=(aQ (newL nA 2) (aQ (nQ (λρ=>((ak (bin (gv 1) (ci 0) cA) nA) ρ).bind tY) (c7 (dg 2 (aW (aH 3) (aW (aH 4) nilG)))) (aQ (bF (aD (aO iK 3) (ak (bin (gv 0) (ci 0) cA) (ak (gv 3) (ak (gv 3) nA)))) (aH 5)) (GK 2 (bN 3 [5] (dB (gv 4)) (c7 (dg 3 (aW (aH 0) (aW (aH 1) (aW (aH 2) nilG))))) tT (iB (ak (gv 0) (ak (bin (gv 1) (gv 3) fY) (ak (gv 2) nA)))))))) (retS (gv 2))))
def mU:List D->R D:=cL 4 Ji
def Am:aq->So:=(retS (oE (aD vh (ak (aD (aO mU 2) (ak (gv 0) (ak (aD (aO wZ 3) (ak (gv 0) (ak (gv 1) (ak (gv 2) nA)))) nA))) nA)) (λ_=> .ok none) (λρ=>((gv 2) ρ).bind Ib)))
def jk(ds:List D):R D:=gG 0 Am (ds.map .val)
def Ci:aq->So:=(retS (aD j9 (ak (bN 1 [] (dB (gv 0)) (aH 0) tT (aD j9 (ak (bN 1 [] (dB (gv 0)) (aH 0) tT (Lj (cC (bin (gv 0) (ci 1) jD)) (ci 1) (ci 0))) nA))) nA)))
def jP:List D->R D:=cL 0 Ci
def Jj:aq->So:=(retS (uR (yV Eh (gv 0)) (ado (yV yX (gv 0)))))
def kO:List D->R D:=cL 0 Jj
def Zn:aq->So:=(aQ (bF (bin (aD cF (ak (gv 0) nA)) (ci 1) fU) (aH 1)) (retS (bN 1 [1,0] (λρ=>((ak (aD cF (ak (gv 0) nA)) nA) ρ).bind lJ) (aH 0) tT (aD Bx (ak (bin (bin (gv 2) (aD maxD (ak (bin (gv 0) (ci 1) fU) (ak (ci 0) nA))) cA) (bin (gv 2) (aD minD (ak (bin (gv 0) (ci 1) fY) (ak (gv 1) nA))) cA) fU) nA)))))
def Cj:List D->R D:=cL 1 Zn
def Ck:aq->So:=(aQ (bF (bin (gv 0) (gv 1) cA) (aH 2)) (aQ (bF (bin (gv 0) (aD maxD (ak (bin (gv 1) (ci 1) fU) (ak (ci 0) nA))) cA) (aH 3)) (aQ (bF (bin (aD cF (ak (gv 2) nA)) (ci 1) fU) (aH 4)) (aQ (newL nA 5) (aQ (nQ (λρ=>((ak (aD (aO Cj 1) (ak (gv 2) nA)) nA) ρ).bind tY) (c7 (dg 2 (aW (aH 6) (aW (aH 7) nilG)))) (aQ (bF (bin (gv 7) (aD Bx (ak (bin (bin (gv 3) (gv 6) cA) (bin (gv 2) (aD maxD (ak (bin (gv 6) (ci 1) fU) (ak (ci 0) nA))) cA) fU) nA)) fY) (aH 8)) (aQ (bF (bin (gv 7) (aD Bx (ak (bin (bin (gv 3) (gv 6) cA) (bin (gv 2) (aD minD (ak (bin (gv 6) (ci 1) fY) (ak (gv 4) nA))) cA) fU) nA)) fY) (aH 9)) (rZ 5 (iB (ak (gv 8) (ak (gv 7) (ak (gv 9) nA)))))))) (retS (gv 5)))))))
def vo:List D->R D:=cL 8 Ck
def MF:aq->So:=(retS (uR (yV iJ (gv 0)) (Fl (ci 1) (aD cF (ak (gv 0) nA)) (ci 20) xV xV)))
def rO:List D->R D:=cL 0 MF
def MJ:aq->So:=(retS (uR (aD (aO kO 1) (ak (gv 0) nA)) (Fl (ci 0) (gv 0) (ci 99) xV xV)))
def Cm:List D->R D:=cL 0 MJ
def QM:aq->So:=(retS (uR (aD (aO rO 1) (ak (gv 0) nA)) (aD su (ak (bN 1 [] (dB (gv 0)) (aH 0) tT (aD (aO Cm 1) (ak (gv 0) nA))) nA))))
def G5:List D->R D:=cL 0 QM
def Cp:aq->So:=(aQ (eX (xW (jz (cC (aD (aO rO 1) (ak (gv 0) nA)))) (jz (cC (aD su (ak (bN 1 [] (dB (gv 0)) (aH 0) tT (aD (aO G5 1) (ak (gv 0) nA))) nA))))) (retS (λ_=> .ok (.bl false))) So.nx) (retS (aD su (ak (bN 1 [0] (dB (gv 0)) (aH 0) tT (bin (aD cF (ak (gv 0) nA)) (aD cF (ak (bin (gv 1) (ci 0) cA) nA)) jD)) nA))))
def vp:List D->R D:=cL 0 Cp
def yF:aq->So:=(eX (jz (cC (aD (aO vp 1) (ak (gv 0) nA)))) (λ_=> .bad) So.nx)
def iM:List D->R D:=cL 0 yF
def MK:aq->So:=(aQ (nD (aD (aO iM 1) (ak (gv 0) nA))) (retS (iB (ak (aD cF (ak (bin (gv 0) (ci 0) cA) nA)) (ak (aD cF (ak (gv 0) nA)) nA)))))
def rP:List D->R D:=cL 0 MK
def QS:aq->So:=(aQ (bF (aD (aO rP 1) (ak (gv 0) nA)) (c7 (dg 2 (aW (aH 1) (aW (aH 2) nilG))))) (retS (aD j9 (ak (bN 1 [2,0] (λρ=>((ak (gv 1) nA) ρ).bind lJ) (aH 0) tT (aD j9 (ak (bN 1 [2,0] (λρ=>((ak (gv 1) nA) ρ).bind lJ) (aH 0) tT (bin (bin (gv 1) (gv 0) cA) (gv 2) cA)) nA))) nA))))
def G6:List D->R D:=cL 2 QS
def QT:aq->So:=(aQ (bF (aD (aO rP 1) (ak (gv 0) nA)) (c7 (dg 2 (aW (aH 1) (aW (aH 2) nilG))))) (aQ (bF (bN 1 [] (dB (gv 0)) (aH 0) tT (aD (aO Cj 1) (ak (gv 0) nA))) (aH 3)) (aQ (bF (bN 1 [] (dB (aD (aO G6 1) (ak (gv 0) nA))) (aH 0) tT (aD (aO Cj 1) (ak (gv 0) nA))) (aH 4)) (retS (aD j9 (ak (bN 1 [3,4,1] (λρ=>((ak (gv 2) nA) ρ).bind lJ) (aH 0) tT (aD j9 (ak (bN 1 [1,2,0] (λρ=>((ak (gv 3) nA) ρ).bind lJ) (aH 0) tT (bin (bin (bin (gv 1) (gv 3) cA) (gv 0) cA) (bin (bin (gv 2) (gv 0) cA) (gv 3) cA) fY)) nA))) nA))))))
def G7:List D->R D:=cL 4 QT
def Vi:aq->So:=(aQ (eX (cC (bin (gv 1) (λ_=> .ok (.str "worth")) jD)) (retS (bN 1 [] (dB (aD (aO G7 1) (ak (gv 0) nA))) (aH 0) tT (bN 1 [] (dB (gv 0)) (aH 0) tT (iB (ak (gv 0) (ak (gv 0) (ak (gv 0) nA))))))) So.nx) (retS (bN 1 [0] (λρ=>((ak (aD cF (ak (gv 0) nA)) nA) ρ).bind lJ) (aH 0) tT (aD (aO vo 2) (ak (gv 1) (ak (gv 0) nA))))))
def uI:List D->R D:=cL 0 Vi
def Jk:aq->So:=(retS (bin (iB (ak (bin (iB (ak (ci 0) nA)) (aD cF (ak (bin (gv 0) (ci 0) cA) nA)) Ko) nA)) (aD cF (ak (gv 0) nA)) Ko))
def Jl:List D->R D:=cL 0 Jk
def MN:aq->So:=(retS (uR (aD (aO kO 1) (ak (gv 0) nA)) (Fl (ci 0) (gv 0) (ci 2) xV xV)))
def Cq:List D->R D:=cL 0 MN
def yG:aq->So:=(retS (uR (yV iJ (gv 0)) (uR (bin (aD cF (ak (gv 0) nA)) (gv 1) jD) (aD su (ak (bN 1 [] (dB (gv 0)) (aH 0) tT (aD (aO Cq 1) (ak (gv 0) nA))) nA)))))
def qG:List D->R D:=cL 0 yG
def Jm:aq->So:=(aQ (eX (xW (jz (cC (yV iJ (gv 0)))) (cC (bin (aD cF (ak (gv 0) nA)) (aD cF (ak (gv 1) nA)) nZ))) (retS (λ_=> .ok (.bl false))) So.nx) (retS (aD su (ak (bN 1 [1] (dB (gv 0)) (aH 0) tT (aD (aO qG 2) (ak (gv 0) (ak (aD cF (ak (bin (gv 1) (ci 0) cA) nA)) nA)))) nA))))
def zJ:List D->R D:=cL 0 Jm
def Cr:aq->So:=(aQ (eX (cC (bin (gv 0) (λ_=> .ok .non) isD)) (retS (aD (aO Jl 1) (ak (gv 1) nA))) So.nx) (aQ (eX (jz (cC (aD (aO zJ 2) (ak (gv 0) (ak (gv 1) nA))))) (λ_=> .bad) So.nx) (retS (gv 0))))
def eZ:List D->R D:=cL 0 Cr
def Ao:aq->So:=(eX (cC (bin (gv 0) (λ_=> .ok (.tup [.str "worth",.str "joins"])) (Ut true))) (λ_=> .bad) So.nx)
def nJ:List D->R D:=cL 0 Ao
def Jo:aq->So:=(aQ (nD (aD (aO iM 1) (ak (gv 0) nA))) (aQ (nD (aD (aO nJ 1) (ak (gv 1) nA))) (aQ (bF (aD (aO eZ 2) (ak (gv 2) (ak (gv 0) nA))) (aH 3)) (retS (iB (ak (aD (aO uI 2) (ak (gv 0) (ak (gv 1) nA))) (ak (gv 3) nA)))))))
def mV:List D->R D:=cL 1 Jo
def Cu:aq->So:=(aQ (bF (aD (aO mV 3) (ak (gv 0) (ak (gv 2) (ak (gv 3) nA)))) (c7 (dg 2 (aW (aH 4) (aW (aH 5) nilG))))) (aQ (eX (xW (jz (cC (aD (aO kO 1) (ak (gv 1) nA)))) (jz (cC (Fl (ci 1) (gv 1) (ci 60) xV xV)))) (λ_=> .bad) So.nx) (retS (bN 3 [] (dB (aD (aO jk 3) (ak (gv 4) (ak (aD (aO jP 1) (ak (gv 5) nA)) (ak (gv 1) nA))))) (c7 (dg 3 (aW (aH 0) (aW (aH 1) (aW (aH 2) nilG))))) tT (iB (ak (gv 1) (ak (gv 2) nA)))))))
def pK(ds:List D):R D:=gG 2 Cu (ds.map .val)
def QV:aq->So:=(aQ (eX (xW (jz (cC (yV iJ (gv 0)))) (cC (bin (aD cF (ak (gv 0) nA)) (gv 2) nZ))) (retS (λ_=> .ok (.bl false))) So.nx) (aQ (eX (jz (cC (aD su (ak (bN 1 [1] (dB (gv 0)) (aH 0) tT (uR (aD (aO kO 1) (ak (gv 0) nA)) (Fl (ci 0) (gv 0) (gv 1) xV ltI))) nA)))) (retS (λ_=> .ok (.bl false))) So.nx) (retS (aD su (ak (bN 1 [0] (λρ=>((ak (ci 1) (ak (gv 2) nA)) ρ).bind Gv) (aH 0) tT (bin (aD Bx (ak (bin (bin (gv 1) (gv 0) cA) (bin (gv 1) (bin (gv 0) (ci 1) fU) cA) fU) nA)) (ci 1) xV)) nA)))))
def G8:List D->R D:=cL 0 QV
def MP:aq->So:=(aQ (bF (aD (aO rP 1) (ak (gv 1) nA)) (c7 (dg 2 (aW (aH 2) (aW (aH 3) nilG))))) (retS (aD (aO G8 3) (ak (gv 0) (ak (gv 2) (ak (gv 3) nA))))))
def wI:List D->R D:=cL 2 MP
def Fz:aq->So:=(eX (jz (cC (aD (aO wI 2) (ak (gv 0) (ak (gv 1) nA))))) (λ_=> .bad) So.nx)
def qY:List D->R D:=cL 0 Fz
def Jp:aq->So:=(aQ (bF (aD (aO iK 3) (ak (bin (gv 0) (ci 0) cA) (ak (bin (gv 1) (ci 0) cA) (ak (bin (gv 1) (ci 0) cA) nA)))) (aH 2)) (aQ (nQ (λρ=>((ak (ci 1) (ak (aD cF (ak (gv 1) nA)) nA)) ρ).bind Gv) (aH 3) (Kr 2 (aD (aO iK 3) (ak (bin (gv 0) (gv 3) cA) (ak (bin (gv 1) (bin (gv 3) (ci 1) fU) cA) (ak (bin (gv 1) (gv 3) cA) nA)))))) (retS (gv 2))))
def ud:List D->R D:=cL 2 Jp
def M4:aq->So:=(aQ (nD (aD (aO iM 1) (ak (gv 0) nA))) (aQ (nD (aD (aO nJ 1) (ak (gv 2) nA))) (aQ (nD (aD (aO qY 2) (ak (gv 1) (ak (gv 0) nA)))) (retS (aD (aO ud 2) (ak (aD (aO uI 2) (ak (gv 0) (ak (gv 2) nA))) (ak (gv 1) nA)))))))
def wJ:List D->R D:=cL 0 M4
def M5:aq->So:=(aQ (eX (jz (Kz (gv 0))) (retS (jA nA)) So.nx) (aQ (bF (Ie (aD KH (ak (gv 0) nA)) (λ_=> .ok none) (λρ=>(((ci 2):aq->R D) ρ).bind Ib)) (c7 (dg 2 (aW (aH 1) (aW (aH 2) nilG))))) (aQ (bF (bN 3 [2,1] (dB (gv 0)) (c7 (dg 3 (aW (aH 0) (aW (aH 1) (aW (aH 2) nilG))))) (lO (cC (bin (gv 0) (gv 4) jD)) (cC (bin (gv 1) (gv 3) jD))) (gv 2)) (aH 3)) (retS (jA (ak (iB (ak (gv 1) (ak (gv 2) (ak (aD yU (ak (gv 3) nA)) nA)))) nA))))))
def jX:List D->R D:=cL 3 M5
def gH(ds:List D):R D:=(((aD (aO jX 1) (ak (gv 1) nA)):aq->R D)) ((ds.map Ent.val).map some++afU 0 none)
def sI:aq->So:=(aaV ((gv 0):aq->R D) ((gv 1):aq->R D) ((ci 1):aq->R D) lF gH)
def nM(ds:List D):R D:=gG 0 sI (ds.map .val)
def Aq:aq->So:=(aQ (bF (bN 1 [] (dB (gv 0)) (aH 0) tT (bN 1 [] (dB (gv 0)) (aH 0) tT (iB (ak (ci 0) (ak (ci 0) (ak (ci 0) nA)))))) (aH 1)) (aQ (bF (aD (aO nM 2) (ak (gv 1) (ak (aD (aO jP 1) (ak (gv 0) nA)) nA))) (aH 2)) (retS (bN 1 [] (dB (gv 2)) (aH 0) tT (bN 1 [] (dB (gv 0)) (aH 0) tT (aD yU (ak (bN 3 [] (dB (gv 0)) (c7 (dg 3 (aW (aH 0) (aW (aH 1) (aW (aH 2) nilG))))) tT (gv 2)) nA)))))))
def sJ(ds:List D):R D:=gG 2 Aq (ds.map .val)
def Jq:aq->So:=(aQ (nD (aD (aO iM 1) (ak (gv 0) nA))) (retS (aD yU (ak (bin (aD (aO sJ 1) (ak (aD (aO eZ 2) (ak (gv 1) (ak (gv 0) nA))) nA)) (ci 0) cA) nA))))
def zK(ds:List D):R D:=gG 0 Jq (ds.map .val)
def Cv:aq->So:=(retS (aD Wu (ak (bN 2 [] (λρ=>((ak (gv 1) (ak (gv 0) nA)) ρ).bind zip2) (c7 (dg 2 (aW (aH 0) (aW (aH 1) nilG)))) tT (bin (bin (gv 0) (gv 1) cA) (ci 1) jD)) nA)))
def vB:List D->R D:=cL 0 Cv
def Jr:aq->So:=(aQ (bF (aD (aO mV 3) (ak (gv 0) (ak (gv 2) (ak (gv 3) nA)))) (c7 (dg 2 (aW (aH 4) (aW (aH 5) nilG))))) (aQ (nD (aD (aO qY 2) (ak (gv 1) (ak (gv 0) nA)))) (aQ (eX (cC (aD (aO vB 2) (ak (gv 1) (ak (gv 5) nA)))) (retS (λ_=> .ok (.bl false))) So.nx) (aQ (bF (bin (aD (aO jk 3) (ak (gv 4) (ak (aD (aO jP 1) (ak (gv 5) nA)) (ak (ci 1) nA)))) (ci 0) cA) (c7 (dg 3 (aW (aH 6) (aW (aH 7) (aW (aH 8) nilG)))))) (retS (bin (aD (aO ud 2) (ak (gv 4) (ak (gv 1) nA))) (gv 7) jD))))))
def jt(ds:List D):R D:=gG 5 Jr (ds.map .val)
def FJ:aq->So:=(aQ (bF (aD (aO jk 3) (ak (gv 0) (ak (gv 1) (ak (ci 1) nA)))) (aH 2)) (aQ (eX (jz (Kz (gv 2))) (retS (λ_=> .ok .non)) So.nx) (aQ (bF (bin (gv 2) (ci 0) cA) (c7 (dg 3 (aW (aH 3) (aW (aH 4) (aW (aH 5) nilG)))))) (retS (iB (ak (gv 4) (ak (gv 5) nA)))))))
def qZ(ds:List D):R D:=gG 4 FJ (ds.map .val)
def Cw:aq->So:=(aQ (bF (aD (aO mV 3) (ak (gv 0) (ak (gv 1) (ak (gv 2) nA)))) (c7 (dg 2 (aW (aH 3) (aW (aH 4) nilG))))) (aQ (bF (aD (aO qZ 2) (ak (gv 3) (ak (gv 4) nA))) (aH 5)) (aQ (eX (cC (bin (gv 5) (λ_=> .ok .non) isD)) (retS (λ_=> .ok .non)) So.nx) (retS (bin (gv 5) (ci 1) cA)))))
def pL(ds:List D):R D:=gG 3 Cw (ds.map .val)
def Cy:aq->So:=(aQ (bF (aD (aO mV 3) (ak (gv 0) (ak (gv 1) (ak (gv 2) nA)))) (c7 (dg 2 (aW (aH 3) (aW (aH 4) nilG))))) (aQ (bF (aD (aO jX 1) (ak (aD (aO mU 2) (ak (gv 3) (ak (aD (aO nM 2) (ak (gv 3) (ak (gv 4) nA))) nA))) nA)) (aH 5)) (retS (aD yU (ak (bN 3 [] (dB (gv 5)) (c7 (dg 3 (aW (aH 0) (aW (aH 1) (aW (aH 2) nilG))))) tT (gv 2)) nA)))))
def pN(ds:List D):R D:=gG 3 Cy (ds.map .val)
def lwA:aq->So:=(aQ (eX (xW (jz (cC (aD (aO wI 2) (ak (gv 9) (ak (gv 1) nA))))) (cC (bin (jE wJ 3 1 [.inl 0] (ak (gv 1) (ak (gv 9) nA)) (ak (gv 4) nA)) (gv 8) nZ))) (retS (λ_=> .ok (.bl false))) So.nx) (eX (cC (bin (aD (aO pJ 3) (ak (gv 6) (ak (gv 9) (ak (ci 1) nA)))) (ci 0) wA)) (retS (λ_=> .ok (.bl false))) So.nx))
def lwB:aq->So:=(aQ (bF (aD (aO zG 4) (ak (gv 0) (ak (bin (ci 150) (bin (ci 9) (gv 13) Ko) fY) (ak (gv 2) (ak (gv 3) nA))))) (aH 14)) (aQ (bF (iB (ak (jE wJ 3 1 [.inl 0] (ak (gv 1) (ak (gv 14) nA)) (ak (gv 4) nA)) (ak (gv 14) nA))) (aH 15)) (eX (lO (cC (bin (aD (aO pJ 3) (ak (gv 6) (ak (gv 14) (ak (ci 1) nA)))) (ci 0) jD)) (lO (cC (bin (gv 15) (bin (gv 7) (Kl (ci 1)) cA) Qu)) (cC (bin (gv 15) (gv 7) abL)))) (retS (λ_=> .ok (.bl false))) So.nx)))
def lwV:aq->So:=(aQ (bF (bin (ci 1) (aD (aO cX 3) (ak (gv 0) (ak (ci 210) (ak (gv 5) nA)))) fY) (aH 16)) (retS (bin (jE pK 4 2 [.inl 0,.inl 1] (ak (gv 1) (ak (gv 16) nA)) (ak (gv 4) (ak (gv 6) nA))) (oE (gv 7) (λ_=> .ok none) (λρ=>((gv 16) ρ).bind Ib)) jD)))
def lwU:aq->So:=(aQ (eX (xW (cC (bin (bin (bin (gv 7) (ci 0) cA) (ci 1) cA) (gv 10) nZ)) (jz (cC (jE jt 4 2 [.inl 0,.inl 1] (ak (gv 1) (ak (gv 10) nA)) (ak (gv 4) (ak (gv 6) nA)))))) (retS (λ_=> .ok (.bl false))) So.nx) (aQ (bF (bN 2 [7] (dB (gv 7)) (c7 (dg 2 (aW (aH 0) (aW (aH 1) nilG)))) (cC (bin (gv 0) (bin (bin (gv 2) (ci 0) cA) (ci 0) cA) jD)) (gv 1)) (aH 11)) (aQ (bF (jE pN 3 2 [.inl 0,.inl 1] (ak (gv 1) nA) (ak (gv 4) (ak (gv 6) nA))) (aH 12)) (aQ (eX (cC (bin (aD cF (ak (gv 11) nA)) (aD minD (ak (gv 12) (ak (gv 5) nA))) nZ)) (retS (λ_=> .ok (.bl false))) So.nx) (aQ (eX (cC (bin (bN 1 [4,1,6] (dB (gv 11)) (aH 0) (jz (cC (jE jt 4 2 [.inl 0,.inl 1] (ak (gv 2) (ak (gv 0) nA)) (ak (gv 1) (ak (gv 3) nA))))) (gv 0)) (jA nA) nZ)) (retS (λ_=> .ok (.bl false))) So.nx) (aQ (nQ (λρ=>((ak (ci 5) nA) ρ).bind lJ) (aH 13) lwB) lwV))))))
def lwT:aq->So:=(aQ (bF (jE pL 3 2 [.inl 0,.inl 1] (ak (gv 1) nA) (ak (gv 4) (ak (gv 6) nA))) (aH 10)) (aQ (eX (xW (cC (bin (gv 10) (λ_=> .ok .non) isD)) (cC (bin (gv 7) (jA nA) jD))) (aQ (eX (jz (lO (cC (bin (gv 10) (λ_=> .ok .non) isD)) (cC (bin (gv 7) (jA nA) jD)))) (retS (λ_=> .ok (.bl false))) So.nx) (retS (bin (jE pN 3 2 [.inl 0,.inl 1] (ak (gv 1) nA) (ak (gv 4) (ak (gv 6) nA))) (ci 0) jD))) So.nx) lwU))
def abO:aq->So:=(aQ (bF (aD (aO wX 4) (ak (gv 0) (ak (ci 0) (ak (ci 8) (ak (ci 7) nA))))) (aH 1)) (aQ (Pq 2 3 (aD cF (ak (bin (gv 1) (ci 0) cA) nA)) (aD cF (ak (gv 1) nA))) (aQ (bF (iB (ak (aD (aO sH 2) (ak (gv 0) (ak (ci 140) nA))) (ak (bin (ci 1) (aD (aO cX 3) (ak (gv 0) (ak (ci 141) (ak (ci 30) nA)))) fY) nA))) (c7 (dg 2 (aW (aH 4) (aW (aH 5) nilG))))) (aQ (bF (aD j9 (ak (bN 1 [] (dB (aD (aO pI 3) (ak (gv 0) (ak (ci 70) (ak (gv 1) nA))))) (aH 0) tT (aD j9 (ak (bN 1 [] (dB (gv 0)) (aH 0) tT (bin (gv 0) (ci 2) fV)) nA))) nA)) (aH 6)) (aQ (bF (jE pK 4 2 [.inl 0,.inl 1] (ak (gv 1) (ak (gv 5) nA)) (ak (gv 4) (ak (gv 6) nA))) (aH 7)) (aQ (eX (xW (cC (bin (gv 7) (aD vm (ak (gv 7) nA)) nZ)) (cC (bin (aD cF (ak (gv 7) nA)) (aD minD (ak (gv 5) (ak (jE zK 2 1 [.inl 0] (ak (gv 1) nA) (ak (gv 6) nA)) nA))) nZ))) (retS (λ_=> .ok (.bl false))) So.nx) (aQ (nQ (dB (gv 7)) (c7 (dg 2 (aW (aH 8) (aW (aH 9) nilG)))) lwA) lwT)))))))
def Js(ds:List D):R D:=gG 16 abO (ds.map .val)
end Fx
namespace Fx
open PySem PySem.Spec L2 Pu
variable{i c m j:Int}{r:List (List Int)}{ds acc:List D}{l sg:List Int}{ps:List Nat}{L:List dh}{cs:List Wy}{N:Nat}{s:Nat->Nat}{e9 e10 e8 e5 e1 e2 e7 pO pP pQ nj e0 e3 tU:Option Ent}{u:aq->R D}
def row(w:Nat)(f:Nat->Int):D:= .tup ((afI w).map λx=> .int (f x))
def bx(w h:Nat)(f:Nat->Nat->Int):D:= .tup ((afI h).map λy=>row w (f y))
structure Ok(w h:Nat)(f:Nat->Nat->Int):Prop where
 w1:1<=w
 w2:w<=20
 h1:1<=h
 h2:h<=20
 c:∀y<h,∀x<w,0<=f y x/\f y x<=99
theorem Eu(h:i<=j):xV (.int i) (.int j)= .ok (.bl true):=by
 show R.ok (D.bl (decide (i<=j)))=_;rw[z9t h]
theorem Jt(h1:1<=ds.length)(h2:ds.length<=20):rO [.tup ds]= .ok (.bl true):=
 cO (bJ (u6 rfl (Bw rfl (aP (au rfl) rfl) (Eu ()) rfl (Eu ()))))
theorem FN:kO [.int i]= .ok (.bl true):=rfl
theorem WM(h0:0<=i)(h1:i<=99):Cm [.int i]= .ok (.bl true):=by
 show cO (bJ (u6 (aV (au rfl) FN) (Bw rfl rfl (Eu h0) rfl (Eu h1))))
theorem Zo{w:Nat}{f:Nat->Int}(h1:1<=w)(h2:w<=20)(hc:∀x<w,0<=f x/\f x<=99):G5 [row w f]= .ok (.bl true):=by
 show cO (bJ (u6 (aV (au rfl) (Jt (by simpa using h1) (by simpa using h2))) (aP (au (bR (c:=λx=> .int (f x)) (h:=λ_=> .bl true) (l:=afI w) (dZ rfl) (by rw[z2d];omega) λx hx=>?_)) uH)));let⟨a,b⟩:=hc x (z2e hx);show cB rfl (aV (au rfl) (WM a b))
section
variable{w h:Nat}
theorem Nt(o:Ok w h f):vp [bx w h f]= .ok (.bl true):=by
 have e1:rO [bx w h f]= .ok (.bl true):=Jt (by simpa using o.h1) (by simpa using o.h2);show cO (aK (cQ (rJ (eG (aX (aV (au rfl) e1))) (eG (aX (aP (au (bR (c:=λy=>row w (f y)) (h:=λ_=> .bl true) (l:=afI h) (dZ rfl) (by rw[z2d];have:=o.h2;omega) λy hy=>?_)) uH)))) rfl) (bJ (aP (au (bR (c:=λy=>row w (f y)) (h:=λ_=> .bl true) (l:=afI h) (dZ rfl) (by rw[z2d];have:=o.h2;omega) λy hy=>?_)) uH)))
 .show cB rfl (aV (au rfl) (Zo o.w1 o.w2 (o.c y (z2e hy))))
 .show cB rfl (aA (aP (au rfl) rfl) (aP (au (aA rfl rfl (mO (i:=0) (d:=row w (f 0)) ?_))) rfl) (Py ?_ ?_))
  .rw[z2b,agu o.h1];rfl
  .simp
  .simp[dep]
theorem Ew(o:Ok w h f):iM [bx w h f]= .ok .non:=Oq (cQ (eG (aX (aV (au rfl) (Nt o)))) rfl)
theorem size_eq(o:Ok w h f):rP [bx w h f]= .ok (.tup [.int w,.int h]):=by
 show cO (aK (mQ (aV (au rfl) (Ew o))) (bJ (iu (aB (aP (au (aA rfl rfl (mO (i:=0) (d:=row w (f 0)) ?_))) ?_) (au (aP (au rfl) ?_))))))
 .rw[z2b,agu o.h1];rfl
 .simp[row,cF]
 .simp[bx,cF]
theorem Zq(o:Ok w h f):G6 [bx w h f]= .ok (bx h w λy x=>f x y):=by
 show cO (aK (bw (aV (au rfl) (size_eq o)) rfl) (bJ (aP (au (bR (c:=λ(x:Nat)=> .int (x:Int)) (h:=λx=>row h λy=>f y x) (l:=afI w) (m8 (au rfl) (by have:=o.w2;omega)) (by rw[z2d];have:=o.w2;omega) λx hx=>?_)) rfl)));show cB rfl (aP (au (bR (c:=λ(y:Nat)=> .int (y:Int)) (h:=λy=> .int (f y x)) (l:=afI h) (m8 (au rfl) (by have:=o.h2;omega)) (by rw[z2d];have:=o.h2;omega) λy hy=>?_)) rfl);show cB rfl (aA (aA rfl rfl (mO (i:=y) (d:=row w (f y)) ?_)) rfl (mO (i:=x) ?_))
 .rw[z2b,agu (z2e hy)];rfl
 .rw[z2b,agu (z2e hx)];rfl
end
def abd:aq->So:=(rZ 5 (aD j9 (ak (bN 1 [1,2,4,0,6] (λρ=>((ak (gv 2) nA) ρ).bind lJ) (aH 0) tT (aD (aO cX 3) (ak (gv 4) (ak (bin (bin (bin (gv 1) (ci 1) fH) (bin (gv 2) (gv 5) iT) fH) (gv 0) fH) (ak (gv 3) nA))))) nA)))
section
variable{a m:Int}{w h:Nat}
def vA(d:D):Option Ent:=some (.val d)
theorem ad8(hns:ns.length<=1000000)(ha:0<=a)(hm:0<m)(hw:w<=20){y:Nat}{tl:Option Ent}(hl:acc.length<1000000):
  abd [vA (.lst (ns.map .int)),vA (.int a),vA (.int (w:Int)),tl,vA (.int m),some (.lst acc),vA (.int (y:Int))] =
   .nx [vA (.lst (ns.map .int)),vA (.int a),vA (.int (w:Int)),tl,vA (.int m),some (.lst (acc++[row w λx=>dr ns (a+1+(w:Int)*(y:Int)+(x:Int)) m])),vA (.int (y:Int))]:=by
 have e:aD j9 (ak (bN 1 [1,2,4,0,6] (λρ=>((ak (gv 2) nA) ρ).bind lJ) (aH 0) tT (aD (aO cX 3) (ak (gv 4) (ak (bin (bin (bin (gv 1) (ci 1) fH) (bin (gv 2) (gv 5) iT) fH) (gv 0) fH) (ak (gv 3) nA))))) nA)
   [vA (.lst (ns.map .int)),vA (.int a),vA (.int (w:Int)),tl,vA (.int m),some (.lst acc),vA (.int (y:Int))]= .ok (row w λx=>dr ns (a+1+(w:Int)*(y:Int)+(x:Int)) m):=by
  show aP (au (bR (c:=λ(x:Nat)=>D.int (x:Int)) (h:=λ(x:Nat)=>D.int (dr ns (a+1+(w:Int)*(y:Int)+(x:Int)) m)) (l:=afI w) (m8 (au rfl) ()) (by rw[z2d];omega) λx hx=>?_)) rfl;show cB rfl (aV (aB rfl (aB (aA (aA (aA rfl rfl rfl) (aA rfl rfl (m9 (.inl ⟨(),()⟩))) rfl) rfl rfl) (au rfl))) ?_);have hp:(0:Int)<=(w:Int)*(y:Int):=alR () ();show (nF hns () hm).1
 unfold abd rZ;rw[e];show (if acc.length<1000000 then So.nx _ else .bad)=_;rw[z9p hl];rfl
theorem QW(hns:ns.length<=1000000)(ha:0<=a)(hm:0<m)(hw:w<=20){tl:Option Ent}:∀{ys:List Nat} {acc:List D} {x:Option Ent},acc.length+ys.length<=1000000->
  ∃x',forL (aH 6) abd (ys.map λ(y:Nat)=>D.int (y:Int)) [vA (.lst (ns.map .int)),vA (.int a),vA (.int (w:Int)),tl,vA (.int m),some (.lst acc),x] =
   .nx [vA (.lst (ns.map .int)),vA (.int a),vA (.int (w:Int)),tl,vA (.int m),some (.lst (acc++ys.map λ(y:Nat)=>row w λx=>dr ns (a+1+(w:Int)*(y:Int)+(x:Int)) m)),x']
 |[],acc,x,_=>⟨x,by rw[ajv,ajv,agi];rfl⟩
 | y::ys,acc,x,hl=>by
  rw[afN] at hl;let⟨x',e⟩:=QW hns ha hm hw (tl:=tl) (ys:=ys) (acc:=acc++[row w λx=>dr ns (a+1+(w:Int)*(y:Int)+(x:Int)) m]) (x:=vA (.int (y:Int))) (by rw[z1d];simp only[afN,ahm];omega);show⟨x',?_⟩;rw[afM] at e;rw[z1h,z1h];show gF rfl (ad8 hns ha hm hw ()) e
theorem WQ(hns:ns.length<=1000000)(ha:0<=a)(hw:w<=20)(hw1:1<=w)(hh:h<=20)(hh1:1<=h):∃f,qF [.lst (ns.map .int),.int a,.int (w:Int),.int (h:Int)]= .ok (bx w h f)/\Ok w h f:=by
 let⟨e1,h0,h4⟩:=nF (k:=a) (m:=4) hns ha ();let⟨d,hd,ed⟩:=Ei (xs:=[D.int 2,.int 5,.int 100,.int 10]) h0 h4;have hm:∃m,d= .int m/\0<m/\m<=100:=by
  simp only[afR,ahq,or_false] at hd;rcases hd with rfl |rfl |rfl |rfl
  .show⟨_,rfl,(),()⟩
  .show⟨_,rfl,(),()⟩
  .show⟨_,rfl,(),()⟩
  .show⟨_,rfl,(),()⟩
 let⟨m,rfl,hm0,hm1⟩:=hm;let⟨x',er⟩:=QW hns ha hm0 hw (tl:=vA (.int (h:Int))) (ys:=afI h) (acc:=[]) (x:=none) (by rw[z2d,ahm];omega);show⟨λy x=>dr ns (a+1+(w:Int)*(y:Int)+(x:Int)) m,cO (aK (ρ':=[vA (.lst (ns.map .int)),vA (.int a),vA (.int (w:Int)),vA (.int (h:Int)),vA (.int m),some (.lst []),none]) ?_ (aK (mq (m8 (m:=h) (au rfl) ()) er) (bJ (aP (au (x:= .lst ((afI h).map λ(y:Nat)=>row w λx=>dr ns (a+1+(w:Int)*(y:Int)+(x:Int)) m)) rfl) rfl)))),hw1,hw,hh1,hh,λy hy x hx=>?_⟩
 .show ab4 (aA (x:= .lst [D.int 2,.int 5,.int 100,.int 10]) (y:= .int (dr ns a 4)) (fM rfl) (aV (aB rfl (aB rfl (au rfl))) e1) (u9 ed)) rfl
 .have hp:(0:Int)<=(w:Int)*(y:Int):=alR () ();have:=(nF (k:=a+1+(w:Int)*(y:Int)+(x:Int)) (m:=m) hns () hm0).2;show 0<=dr _ _ _/\dr _ _ _<=99;omega
end
section
variable{w h:Nat}{f g:Nat->Nat->Int}
theorem abe{β:Type}{p q:α->β}{l:List α}(e:∀a∈l,p a=q a):l.map p=l.map q:=agC e
end
structure jQ(w h:Nat)(s:Nat->Nat):Prop where
 lt:∀y<h,s y<w
 st:∀y,y+1<h->s (y+1)<=s y+1/\s y<=s (y+1)+1
abbrev sm(h:Nat)(s:Nat->Nat):D:=row h λy=>((s y:Nat):Int)
section
variable{l:List α}{p q r:α->D}{x y z:D}
theorem Vj{m:Nat}(e:fa ρ= .ok [.int 1,.int (m:Int)])(h:m<2^62):(λρ=>(fa ρ).bind Gv) ρ= .ok ((afI (m - 1)).map λ(i:Nat)=>D.int ((i+1:Nat):Int)):=by
 show (fa ρ).bind Gv=_;rw[e,R.bO,Gv,z9p ⟨(),(),(),()⟩];unfold upto;rw[show ((m:Int) - 1).toNat=m - 1 by omega];show congrArg R.ok (abe λi _=>?_);rw[show (1:Int)+(i:Int)=((i+1:Nat):Int) by omega]
theorem Vk(e:fa ρ= .ok [x,y])(h1:lg x= .ok (l.map p))(h2:lg y= .ok (l.map q)):(λρ=>(fa ρ).bind zip2) ρ= .ok (l.map λa=> .tup [p a,q a]):=by
 show (fa ρ).bind zip2=_;rw[e,R.bO,zip2,h1,R.bO,h2,R.bO,Kq,List.zip_map',agj];rfl
theorem ae2(h:i<j):ltI (.int i) (.int j)= .ok (.bl true):=by
 show R.ok (D.bl (decide (i<j)))=_;rw[z9t h]
theorem acS(h:i=j):nZ (.int i) (.int j)= .ok (.bl false):=kh (by rw[h]) (by simp[dep])
theorem Zr{n d:Nat}:HT.sIx n d none=d:=rfl
theorem acT{xs ys:List D}(h:xs.length+ys.length<=1000000):fY (.tup xs) (.tup ys)= .ok (.tup (xs++ys)):=by
 rw[fY,z9p h]
end
section
variable{w h:Nat}{g:Nat->Int}{c:Int}
end
section
variable{w h:Nat}{s:Nat->Nat}
theorem Zt(q:jQ w h s)(QX:h<=20):G8 [sm h s,.int (w:Int),.int (h:Int)]= .ok (.bl true):=by
 show cO (aK (cQ (rJ (eG (aX (b:=true) rfl)) (aX (aA (aP (au rfl) rfl) rfl (acS ?_)))) rfl)
  (aK (cQ (eG (aX (aP (au (bR (c:=λy=> .int ((s y:Nat):Int)) (h:=λ_=> .bl true) (l:=afI h) (dZ rfl) (by rw[z2d];omega) λy hy=>?_)) uH))) rfl)
  (bJ (aP (au (bR (c:=λy=> .int ((y+1:Nat):Int)) (h:=λ_=> .bl true) (l:=afI (h - 1)) (Vj (aB rfl (au rfl)) ()) (by rw[z2d];omega) λy hy=>?_)) uH))))
 .simp
 .have:=q.lt y (z2e hy);show cB rfl (u6 (aV (au rfl) FN) (Bw rfl rfl (Eu ()) rfl (ae2 ())))
 .have hy:y<h - 1:=z2e hy;let⟨h1,h2⟩:=q.st y ();show cB rfl (aA (aP (au (aA (x:= .int ((s (y+1):Nat):Int)) (y:= .int ((s y:Nat):Int)) (aA rfl rfl (mO (i:=y+1) ?_)) (aA rfl (aA (x:= .int ((y+1:Nat):Int)) (y:= .int 1) rfl rfl ?_) (mO (i:=y) ?_)) rfl)) rfl) rfl (Eu ?_))
  .rw[z2b,agu ()];rfl
  .show R.ok (D.int (((y+1:Nat):Int) - 1))=_;rw[show ((y+1:Nat):Int) - 1=(y:Int) by omega]
  .rw[z2b,agu ()];rfl
  .split <;> omega
theorem Ju(o:Ok w h f)(q:jQ w h s):wI [sm h s,bx w h f]= .ok (.bl true):=
 cO (aK (bw (aV (au rfl) (size_eq o)) rfl) (bJ (aV (aB rfl (aB rfl (au rfl))) (Zt q o.h2))))
theorem vC(o:Ok w h f)(q:jQ w h s):qY [sm h s,bx w h f]= .ok .non:=
 Oq (cQ (eG (aX (aV (aB rfl (au rfl)) (Ju o q)))) rfl)
theorem len0(o:Ok w h f)(e:u ρ= .ok (bx w h f)):aD cF (ak (bin u (ci 0) cA) nA) ρ= .ok (.int (w:Int)):=by
 show aP (au (aA e rfl (mO (i:=0) (d:=row w (f 0)) ?_))) ?_
 .rw[z2b,agu o.h1];rfl
 .simp[row,cF]
def less(s:Nat->Nat)(f:Nat->Nat->Int):Nat->Nat->Int:=λy x=>if x<s y then f y x else f y (x+1)
def more(s:Nat->Nat)(c:Nat->Int)(f:Nat->Nat->Int):Nat->Nat->Int:=λy x=>if x<s y then f y x else if x=s y then c y else f y (x - 1)
end
theorem qH{i:Nat}(e:fa ρ= .ok ds)(h:ds.length<=1000000:=by show ajx rfl):newL fa i ρ= .nx (ρ.set i (some (.lst ds))):=by
 unfold newL;rw[e];show (if _ then _ else _)=_;rw[z9p h]
def pl(ps:List Nat):List D:=ps.map λp=> .int ((p:Nat):Int)
structure Good(w:Nat)(ps:List Nat):Prop where
 lt:∀p∈ps,p<w
 st:∀i a b,ps[i]?=some a->ps[i+1]?=some b->b<=a+1/\a<=b+1
theorem Good.snoc{w:Nat}{l p:Nat}(g:Good w (ps++[l]))(h1:p<w)(h2:p<=l+1/\l<=p+1):Good w (ps++[l]++[p]):=by
 show⟨λq hq=>?_,λi a b ha hb=>?_⟩
 .rcases agk.mp hq with h |h
  .show g.lt q h
  .rw[af3.mp h];show h1
 .by_cases hi:i+1<(ps++[l]).length
  .rw[af4 hi] at hb;rw[af4 ()] at ha;show g.st i a b ha hb
  .have hl:i+1<(ps++[l]++[p]).length:=(z1b hb).1;simp only[z1d,afN,ahm] at hl hi;have hi:i=ps.length:=()
   subst hi;rw[af4 (),afP ()] at ha;rw[afP ()] at hb;simp at ha hb;subst ha hb;show h2
section
variable{a:Int}{w h:Nat}{t:Option Ent}
theorem acU{l:Nat}:cA (.lst (pl (ps++[l]))) (.int (-1))= .ok (.int (l:Int)):=by
 have:atI (pl (ps++[l])) (-1)=some (.int (l:Int)):=by
  unfold atI ixN;rw[z9n (),z9p (by simp[pl];omega)];show (pl (ps++[l]))[_]?=_;have e:(-1+((pl (ps++[l])).length:Int)).toNat=ps.length:=by simp[pl];omega
  rw[e];simp[pl]
 show u9 this
end
section
variable{w h:Nat}
end
section
variable{w h:Nat}{s:Nat->Nat}{c:Nat->Int}
end
def ab(i:Int):Int:=if i<0 then -i else i
def gap(n:Nat)(g:Nat->Int)(x:Nat):Int:=ab (g (x - 1) - g (min (x+1) (n - 1)))
def Vl(w h:Nat)(f:Nat->Nat->Int)(y x:Nat):Int:=gap w (f y) x+gap h (λy=>f y x) y
section
variable{n w h:Nat}{g:Nat->Int}{s:Nat->Nat}
theorem qI:cF [row n g]= .ok (.int (n:Int)):=by simp[row,cF]
theorem yH:cF [bx w h f]= .ok (.int (h:Int)):=by simp[bx,cF]
theorem abf{n:Nat}(h1:1<=n):fU (.int (n:Int)) (.int 1)= .ok (.int ((n - 1:Nat):Int)):=by
 show R.ok (D.int ((n:Int) - 1))=_;rw[show (n:Int) - 1=((n - 1:Nat):Int) by omega]
theorem WR{x:Nat}:maxD [.int ((x:Int) - 1),.int 0]= .ok (.int ((x - 1:Nat):Int)):=by
 show R.ok (D.int (if (0:Int) > (x:Int) - 1 then 0 else (x:Int) - 1))=_;congr 2;split <;> omega
theorem min1{x n:Nat}:minD [.int ((x+1:Nat):Int),.int (n:Int)]= .ok (.int ((min (x+1) n:Nat):Int)):=by
 show R.ok (D.int (if (n:Int)<((x+1:Nat):Int) then (n:Int) else ((x+1:Nat):Int)))=_;congr 2;split <;> omega
theorem lB{x:Nat}(hx:x<n):cA (row n g) (.int (x:Int))= .ok (.int (g x)):=by
 show mO (i:=x) ?_;rw[z2b,agu hx];rfl
theorem QZ{y:Nat}(hy:y<h):cA (bx w h f) (.int (y:Int))= .ok (row w (f y)):=by
 show mO (i:=y) ?_;rw[z2b,agu hy];rfl
theorem lD{α:Type}{p:Nat->D}{x:Nat}(hx:x<n):cA (.lst ((afI n).map p)) (.int (x:Int))= .ok (p x):=by
 show yj (i:=x) ?_;rw[z2b,agu hx];rfl
theorem KQ(h1:1<=n)(QX:n<=20):Cj [row n g]= .ok (.lst ((afI n).map λx=> .int (gap n g x))):=by
 show cO (aK (bw (aA (aP (au rfl) qI) rfl (abf h1)) rfl) (bJ (bR (c:=λ(x:Nat)=>D.int (x:Int)) (h:=λx=> .int (gap n g x)) (l:=afI n) (m8 (au (aP (au rfl) qI)) ()) (by rw[z2d];omega) λx hx=>?_)));have hx:=z2e hx;show cB rfl (aP (au (aA (x:= .int (g (x - 1))) (y:= .int (g (min (x+1) (n - 1)))) (aA rfl (aP (aB (aA rfl rfl rfl) (au rfl)) WR) (lB ())) (aA rfl (aP (aB (x:= .int ((x+1:Nat):Int)) (aA rfl rfl rfl) (au rfl)) min1) (lB ())) rfl)) rfl)
theorem Zu(o:Ok w h f):G7 [bx w h f]= .ok (bx w h (Vl w h f)):=by
 have QX:=o.h2;have w20:=o.w2;show cO (aK (bw (aV (au rfl) (size_eq o)) rfl)
  (aK (bw (bR (c:=λy=>row w (f y)) (h:=λy=> .lst ((afI w).map λx=> .int (gap w (f y) x))) (l:=afI h) (dZ rfl) (by rw[z2d];omega) λy hy=>cB rfl (aV (au rfl) (KQ o.w1 o.w2))) rfl)
  (aK (bw (bR (c:=λx=>row h λy=>f y x) (h:=λx=> .lst ((afI h).map λy=> .int (gap h (λy=>f y x) y))) (l:=afI w) (dZ (aV (au rfl) (Zq o))) (by rw[z2d];omega) λy hy=>cB rfl (aV (au rfl) (KQ o.h1 o.h2))) rfl)
  (bJ (aP (au (bR (c:=λ(y:Nat)=>D.int (y:Int)) (h:=λy=>row w (Vl w h f y)) (l:=afI h) (m8 (au rfl) ()) (by rw[z2d];omega) λy hy=>?_)) rfl)))))
 have hy:=z2e hy;show cB rfl (aP (au (bR (c:=λ(x:Nat)=>D.int (x:Int)) (h:=λx=> .int (Vl w h f y x)) (l:=afI w) (m8 (au rfl) ()) (by rw[z2d];omega) λx hx=>?_)) rfl);have hx:=z2e hx;show cB rfl (aA (x:= .int (gap w (f y) x)) (y:= .int (gap h (λy=>f y x) y)) (aA (aA rfl rfl (lD (α:=D) hy)) rfl (lD (α:=D) hx)) (aA (aA rfl rfl (lD (α:=D) hx)) rfl (lD (α:=D) hy)) rfl)
def d9(T:Nat->Int):D:= .tup [.int (T 0),.int (T 1),.int (T 2)]
def tab(w h:Nat)(T:Nat->Nat->Nat->Int):D:= .lst ((afI h).map λy=> .lst ((afI w).map λx=>d9 (T y x)))
def yI(w:Nat)(f:Nat->Nat->Int)(y x i:Nat):Int:=gap w (f y) x+(if i=0 then ab (f (y - 1) x - f y (x - 1)) else if i=1 then 0 else ab (f (y - 1) x - f y (min (x+1) (w - 1))))
def abP:aq->So:=(aQ (bF (bin (gv 7) (aD Bx (ak (bin (bin (gv 3) (gv 6) cA) (bin (gv 2) (aD maxD (ak (bin (gv 6) (ci 1) fU) (ak (ci 0) nA))) cA) fU) nA)) fY) (aH 8)) (aQ (bF (bin (gv 7) (aD Bx (ak (bin (bin (gv 3) (gv 6) cA) (bin (gv 2) (aD minD (ak (bin (gv 6) (ci 1) fY) (ak (gv 4) nA))) cA) fU) nA)) fY) (aH 9)) (rZ 5 (iB (ak (gv 8) (ak (gv 7) (ak (gv 9) nA)))))))
theorem Jv{i:Nat}(e:u ρ= .ok d)(h:ρ[i]?=some (some (.lst ds)))(hl:ds.length<1000000):rZ i u ρ= .nx (ρ.set i (some (.lst (ds++[d])))):=by
 unfold rZ;rw[e];simp only[HF,lM,h];rw[z9p hl]
theorem abg(h1:1<=w){y x:Nat}(hx:x<w)(hl:acc.length<1000000):
  ∃z8 z9,abP [e0,e1,vA (row w (f y)),vA (row w (f (y - 1))),vA (.int ((w - 1:Nat):Int)),some (.lst acc),vA (.int (x:Int)),vA (.int (gap w (f y) x)),e8,e9] =
   .nx [e0,e1,vA (row w (f y)),vA (row w (f (y - 1))),vA (.int ((w - 1:Nat):Int)),some (.lst (acc++[d9 (yI w f y x)])),vA (.int (x:Int)),vA (.int (gap w (f y) x)),z8,z9]:=by
 show⟨_,_,aK (bw (d:= .int (yI w f y x 0)) (aA (x:= .int (gap w (f y) x)) (y:= .int (ab (f (y - 1) x - f y (x - 1)))) rfl (aP (au (aA (x:= .int (f (y - 1) x)) (y:= .int (f y (x - 1))) (aA rfl rfl (lB hx)) (aA rfl (aP (aB (aA rfl rfl rfl) (au rfl)) WR) (lB ())) rfl)) rfl) rfl) rfl)
  (aK (bw (d:= .int (yI w f y x 2)) (aA (x:= .int (gap w (f y) x)) (y:= .int (ab (f (y - 1) x - f y (min (x+1) (w - 1))))) rfl (aP (au (aA (x:= .int (f (y - 1) x)) (y:= .int (f y (min (x+1) (w - 1)))) (aA rfl rfl (lB hx)) (aA rfl (aP (aB (x:= .int ((x+1:Nat):Int)) (aA rfl rfl rfl) (au rfl)) min1) (lB ())) rfl)) rfl) rfl) rfl)
  (Jv (d:=d9 (yI w f y x)) ((iu (aB rfl (aB rfl (au rfl)))).trans ?_) rfl hl))⟩
 have:yI w f y x 1=gap w (f y) x:=by simp[yI]
 rw[d9,this]
theorem join_loop(h1:1<=w){y:Nat}{e0 e1:Option Ent}:∀{xs:List Nat} {acc:List D} {e6 e7 e8 e9:Option Ent},(∀x∈xs,x<w)->acc.length+xs.length<=1000->
  ∃z6 z7 z8 z9,forL (c7 (dg 2 (aW (aH 6) (aW (aH 7) nilG)))) abP (xs.map λ(x:Nat)=>D.tup [.int (x:Int),.int (gap w (f y) x)]) [e0,e1,vA (row w (f y)),vA (row w (f (y - 1))),vA (.int ((w - 1:Nat):Int)),some (.lst acc),e6,e7,e8,e9] =
   .nx [e0,e1,vA (row w (f y)),vA (row w (f (y - 1))),vA (.int ((w - 1:Nat):Int)),some (.lst (acc++xs.map λx=>d9 (yI w f y x))),z6,z7,z8,z9]
 |[],acc,e6,e7,e8,e9,_,_=>⟨e6,e7,e8,e9,by rw[ajv,ajv,agi];rfl⟩
 | x::xs,acc,e6,e7,e8,e9,hx,hl=>by
  rw[afN] at hl;let⟨z8,z9,e⟩:=abg (f:=f) (y:=y) h1 (hx x ()) (e0:=e0) (e1:=e1) (e8:=e8) (e9:=e9) (acc:=acc) ();let⟨y6,y7,y8,y9,e'⟩:=join_loop h1 (y:=y) (e0:=e0) (e1:=e1) (xs:=xs) (acc:=acc++[d9 (yI w f y x)]) (e6:=vA (.int (x:Int))) (e7:=vA (.int (gap w (f y) x))) (e8:=z8) (e9:=z9) (λz hz=>hx z (by simp[hz])) ();show⟨y6,y7,y8,y9,?_⟩;rw[afM] at e';rw[z1h,z1h];show gF rfl e e'
theorem M6{p:Nat->D}:∀{n m:Nat},o9 m ((ahY m n).map p)=(ahY m n).map λ(x:Nat)=>D.tup [.int (x:Int),p x]
 |0,_=>rfl
 |n+1,m=>by rw[aiC,z1h,z1h,o9,M6]
theorem Ey{x:D}{n:Nat}{p:Nat->D}(e:fa ρ= .ok [x])(h:lg x= .ok ((afI n).map p)):(λρ=>(fa ρ).bind tY) ρ= .ok ((afI n).map λ(y:Nat)=>D.tup [.int (y:Int),p y]):=by
 show (fa ρ).bind tY=_;rw[e,R.bO,tY,h,R.bO,ah1,M6]
theorem Nu(o:Ok w h f){y:Nat}(hy:y<h):vo [bx w h f,.int (y:Int)]= .ok (.lst ((afI w).map λx=>d9 (yI w f y x))):=by
 have w20:=o.w2;let⟨z6,z7,z8,z9,e⟩:=join_loop (f:=f) (y:=y) o.w1 (e0:=vA (bx w h f)) (e1:=vA (.int (y:Int))) (xs:=afI w) (acc:=[]) (e6:=none) (e7:=none) (e8:=none) (e9:=none) (λx hx=>z2e hx) (by rw[z2d,ahm];omega);show cO (aK (bw (aA rfl rfl (QZ hy)) rfl) (aK (bw (aA rfl (aP (aB (aA rfl rfl rfl) (au rfl)) WR) (QZ ())) rfl) (aK (bw (aA (aP (au rfl) qI) rfl (abf o.w1)) rfl) (aK (qH rfl)
  (aK (mq (Ey (au (aV (au rfl) (KQ o.w1 o.w2))) rfl) e) (bJ (d:= .lst ((afI w).map λx=>d9 (yI w f y x))) rfl))))))
theorem Vm{a b:Str}:jD (.str a) (.str b)= .ok (.bl (a ==b)):=by
 rw[jD,z9p (by simp[dep])];show R.ok (D.bl (dI (.str a) (.str b)))=_;simp[oR,oU,oV,oW,oX,jm,fL]
def wo3(w h:Nat)(f:Nat->Nat->Int)(y x i:Nat):Int:=Vl w h f y x
theorem Vn(o:Ok w h f):uI [bx w h f,.str "worth"]= .ok (tab w h (wo3 w h f)):=by
 have QX:=o.h2;have w20:=o.w2;show cO (ou (jL (aX (b:=true) (aA rfl rfl Vm)) (bJ (bR (c:=λy=>row w (Vl w h f y)) (h:=λy=> .lst ((afI w).map λx=>d9 (wo3 w h f y x))) (l:=afI h) (dZ (aV (au rfl) (Zu o))) (by rw[z2d];omega) λy hy=>
  cB rfl (bR (c:=λx=> .int (Vl w h f y x)) (h:=λx=>d9 (wo3 w h f y x)) (l:=afI w) (dZ rfl) (by rw[z2d];omega) λx hx=>cB rfl (iu (aB rfl (aB rfl (au rfl)))))))))
theorem Vo(o:Ok w h f):uI [bx w h f,.str "joins"]= .ok (tab w h (yI w f)):=by
 have QX:=o.h2;show cO (aK (cQ (aX (b:=false) (aA rfl rfl Vm)) rfl) (bJ (bR (c:=λ(y:Nat)=>D.int (y:Int)) (h:=λy=> .lst ((afI w).map λx=>d9 (yI w f y x))) (l:=afI h) (m8 (au (aP (au rfl) yH)) ()) (by rw[z2d];omega) λy hy=>
  cB rfl (aV (aB rfl (au rfl)) (Nu o (z2e hy))))))
def fare(T:Nat->Nat->Nat->Int)(s:Nat->Nat)(y:Nat):Int:=T y (s y) (s (y - 1)+1 - s y)
def cost(h:Nat)(T:Nat->Nat->Nat->Int)(s:Nat->Nat):Int:=T 0 (s 0) 1+((afI (h - 1)).map λy=>fare T s (y+1)).sum
theorem uf{T:Nat->Int}{p:Nat->D}{a b:Nat}(hb:b<w)(h1:b<=a+1)(h2:a<=b+1)(hp:p b=d9 T):iK [.lst ((afI w).map p),.int (a:Int),.int (b:Int)]= .ok (.int (T (a+1 - b))):=by
 show cO (bJ (aA (x:=d9 T) (y:= .int ((a+1 - b:Nat):Int)) (aA rfl rfl ((lD (α:=D) hb).trans (congrArg R.ok hp))) (aA (aA rfl rfl rfl) rfl ?_) (mO (i:=a+1 - b) ?_)))
 .show R.ok (D.int ((a:Int) - (b:Int)+1))=_;rw[show (a:Int) - (b:Int)+1=((a+1 - b:Nat):Int) by omega]
 .have:a+1 - b=0\/a+1 - b=1\/a+1 - b=2:=()
  rcases this with e |e |e <;> rw[e] <;> rfl
def ae3:aq->So:=(Kr 2 (aD (aO iK 3) (ak (bin (gv 0) (gv 3) cA) (ak (bin (gv 1) (bin (gv 3) (ci 1) fU) cA) (ak (bin (gv 1) (gv 3) cA) nA)))))
theorem ad9{i:Nat}{a b:Int}(h:ρ[i]?=some (some (.val (.int a))))(e:u ρ= .ok (.int b)):Kr i u ρ= .nx (ρ.set i (some (.val (.int (a+b))))):=by
 unfold Kr;simp only[h];rw[e];rfl
theorem M7{T:Nat->Nat->Nat->Int}(q:jQ w h s):∀{ys:List Nat} {acc:Int} {e3:Option Ent},(∀y∈ys,y+1<h)->
  ∃z3,forL (aH 3) ae3 (ys.map λ(y:Nat)=>D.int ((y+1:Nat):Int)) [vA (tab w h T),vA (sm h s),vA (.int acc),e3]= .nx [vA (tab w h T),vA (sm h s),vA (.int (acc+(ys.map λy=>fare T s (y+1)).sum)),z3]
 |[],acc,e3,_=>⟨e3,by simp[forL]⟩
 | y::ys,acc,e3,hy=>by
  let⟨z3,e⟩:=M7 (T:=T) q (ys:=ys) (acc:=acc+fare T s (y+1)) (e3:=vA (.int ((y+1:Nat):Int))) λz hz=>hy z (by simp[hz]);have h1:=hy y ();let⟨k1,k2⟩:=q.st y h1;show⟨z3,?_⟩;rw[z1h,z1h,ahZ,<-Int.add_assoc];show gF rfl (ad9 rfl (aV (aB (aA rfl rfl (lD (α:=D) h1)) (aB (aA rfl (aA (x:= .int ((y+1:Nat):Int)) rfl rfl (abf ())) (lB (x:=y+1 - 1) ())) (au (aA rfl rfl (lB h1))))) (uf (T:=T (y+1) (s (y+1))) (a:=s y) (q.lt _ h1) k1 k2 rfl))) e
theorem FQ(h1:1<=h)(QX:h<=20)(q:jQ w h s):ud [tab w h T,sm h s]= .ok (.int (cost h T s)):=by
 let⟨z3,e⟩:=M7 (T:=T) q (ys:=afI (h - 1)) (acc:=T 0 (s 0) 1) (e3:=none) λy hy=>by have:=z2e hy;omega
 have e0:iK [.lst ((afI w).map λx=>d9 (T 0 x)),.int ((s 0:Nat):Int),.int ((s 0:Nat):Int)]= .ok (.int (T 0 (s 0) 1)):=by
  have:=uf (T:=T 0 (s 0)) (p:=λx=>d9 (T 0 x)) (a:=s 0) (q.lt 0 h1) () () rfl
  rwa [show s 0+1 - s 0=1 by omega] at this
 show cO (aK (bw (aV (aB (aA rfl rfl (lD (α:=D) (x:=0) h1)) (aB (aA rfl rfl (lB (x:=0) h1)) (au (aA rfl rfl (lB (x:=0) h1))))) e0) rfl) (aK (mq (Vj (aB rfl (au (aP (au rfl) qI))) ()) e) (bJ (d:= .int (cost h T s)) rfl)))
theorem yJ{m:Str}(hm:m= "worth"\/m= "joins"):nJ [.str m]= .ok .non:=by
 rcases hm with rfl |rfl
 .show Oq (cQ (aX (b:=false) (aA rfl rfl (by simp[Ut,Wc,iZ,oR,oU,oV,oW,oX,jm,fL]))) rfl)
 .show Oq (cQ (aX (b:=false) (aA rfl rfl (by simp[Ut,Wc,iZ,oR,oU,oV,oW,oX,jm,fL]))) rfl)
def tbl(m:Str)(w h:Nat)(f:Nat->Nat->Int):Nat->Nat->Nat->Int:=if m= "worth" then wo3 w h f else yI w f
theorem Jw{m:Str}(hm:m= "worth"\/m= "joins")(o:Ok w h f)(q:jQ w h s):wJ [bx w h f,sm h s,.str m]= .ok (.int (cost h (tbl m w h f) s)):=by
 show cO (aK (mQ (aV (au rfl) (Ew o))) (aK (mQ (aV (au rfl) (yJ hm))) (aK (mQ (aV (aB rfl (au rfl)) (vC o q))) (bJ (aV (aB (x:=tab w h (tbl m w h f)) (aV (aB rfl (au rfl)) ?_) (au rfl)) (FQ o.h1 o.h2 q))))));rcases hm with rfl |rfl
 .show Vn o
 .show Vo o
end
section
variable{n w h:Nat}{g:Nat->Int}{s:Nat->Nat}{c:Int}{m:Str}
theorem iV{F:List D->R D}{n j:Nat}{sel:List (Sum Nat D)}{fk:aq->R (List D)}{zs:List D}(e1:fa ρ= .ok ds)(e2:fk ρ= .ok zs)(e3:F (ds++pickK .non sel zs)= .ok d)(hl:(ds++pickK .non sel zs).length=n:=by rfl)(hj:zs.length=j:=by rfl):jE F n j sel fa fk ρ= .ok d:=by
 rw[jE,e1,R.bO,e2,R.bO,z9p hj,aO,z9p hl,e3];rfl
theorem KR{c:aq->R Bool}{f g:aq->R D}{r:R D}(e:c ρ= .ok true)(h:f ρ=r):Lj c f g ρ=r:=by rw[Lj,e,R.bO,z9p rfl,h]
theorem KY{c:aq->R Bool}{f g:aq->R D}{r:R D}(e:c ρ= .ok false)(h:g ρ=r):Lj c f g ρ=r:=by rw[Lj,e,R.bO,z9n {},h]
theorem ae4:nZ (.int i) (.int j)= .ok (.bl (!decide (i=j))):=by
 rw[nZ,z9p (by simp[dep])];show R.ok (D.bl (!dI (.int i) (.int j)))=_;by_cases h:i=j <;> simp[oR,oU,oV,oW,oX,jm,fL,h]
end
abbrev Wg(Z:Type):=Int×Int×Z
abbrev Wy:=Wg (List Int)
def fl(t:Wy):List Int:=t.1::t.2.1::t.2.2
def un(l:List Int):Wy:=(l.getD 0 0,l.getD 1 0,l.drop 2)
theorem O5(t:Wy):un (fl t)=t:=rfl
theorem aea{a b:Wy}(h:fl a=fl b):a=b:=by have:=congrArg un h;simpa[O5] using this
def mH(rd:Z->D)(t:Wg Z):D:= .tup [.int t.1,.int t.2.1,rd t.2.2]
abbrev rdL(l:List Int):D:= .tup (l.map .int)
abbrev qb:Wy->D:=mH rdL
theorem Q0(t:Wy):qb t=nG (fl t):=rfl
def cR(rd:Z->D)(l:List (Wg Z)):D:= .lst (l.map (mH rd))
abbrev abQ:List Wy->D:=cR rdL
section
variable{n w h:Nat}{g:Nat->Int}
theorem Vp{i:Nat}{es:List D}(h:ρ[i]?=some (some (.lst ds)))(e:u ρ= .ok (.lst es))(hl:ds.length+es.length<=1000000):GK i u ρ= .nx (ρ.set i (some (.lst (ds++es)))):=by
 unfold GK;simp only[h,e,HF,lM];rw[z9p hl]
theorem acV{i k:Nat}{es:List D}(h:ρ[i]?=some (some (.lst ds)))(h2:ρ[k]?=some (some (.lst es)))(hl:ds.length<1000000):Qj i k ρ= .nx ((ρ.set i (some (.lst (ds++[.lst es])))).set k (some (.val (.lst es)))):=by
 unfold Qj;simp only[h,h2];rw[z9p hl]
theorem Q5{i a:Nat}{G:List D->R D}{n:Nat}(h:ρ[i]?=some (some (.obj (.fn a))))(e:fa ρ= .ok ds)(e2:G ds= .ok d)(hl:ds.length=n:=by rfl):Em i a G n fa ρ= .ok d:=by
 unfold Em;simp only[h,e,if_true,R.bO,aO,hl,e2];rfl
theorem Zv{i:Nat}{k:Int}(h:ρ[i]?=some (some (.lst ds)))(e:u ρ= .ok (.int k))(e2:cA (.lst ds) (.int k)= .ok d):UW i u ρ= .ok d:=by
 unfold UW;simp only[h,e,R.bO,e2]
theorem uJ(e:u ρ= .ok (.lst ds)):Kz u ρ= .ok (!ds.isEmpty):=by unfold Kz;rw[e];rfl
theorem iw{m:Nat}{s:aq->So}{es:List Ent}(e:s (es.map some++afU m none)= .rt d):gG m s es= .ok d:=by rw[gG,e]
def nr(w x:Nat):List Nat:=ahY (x - 1) (min (x+2) w - (x - 1))
theorem yK{x p:Nat}(hx:x<w):p∈nr w x↔p<w/\p<=x+1/\x<=p+1:=by
 unfold nr;rw[List.mem_range'_1,Nat.add_sub_cancel' (Nat.le_min.mpr ⟨z0b (Nat.sub_le x 1) (alw x 2),z0b (Nat.sub_le x 1) (z0e hx)⟩),Nat.lt_min];show⟨λh=>⟨h.2.2,Nat.le_of_lt_succ h.2.1,Nat.le_add_of_sub_le h.1⟩,λh=>⟨Nat.sub_le_of_le_add h.2.2,Nat.lt_succ_of_le h.2.1,h.1⟩⟩
theorem Q6{x:Nat}:(nr w x).length<=3:=by unfold nr;rw[List.length_range'];omega
theorem acW{x:Nat}(hx:x<w)(hw:w<=20):QK [.int (x:Int),.int (w:Int)]= .ok (.lst ((nr w x).map λ(p:Nat)=>D.int (p:Int))):=by
 have e2:minD [.int ((x+2:Nat):Int),.int (w:Int)]= .ok (.int ((min (x+2) w:Nat):Int)):=by
  show R.ok (D.int (if (w:Int)<((x+2:Nat):Int) then (w:Int) else ((x+2:Nat):Int)))=_;congr 2;by_cases hz:w<x+2
  .rw[z9p (Int.ofNat_lt.mpr hz),Nat.min_eq_right (z0e hz)]
  .rw[z9n (λq=>hz (Int.ofNat_lt.mp q)),ajd (als hz)]
 show cO (bJ (aP (aB (x:= .int ((x - 1:Nat):Int)) (aP (aB (aA rfl rfl rfl) (au rfl)) WR) (au (x:= .int ((min (x+2) w:Nat):Int)) (aP (aB (x:= .int ((x+2:Nat):Int)) (aA rfl rfl rfl) (au rfl)) e2))) ?_));show (if _ then _ else _)=_;have b1:x - 1<=1000:=z0b (Nat.sub_le x 1) (z0b (z0e hx) (z0b hw {}));have b2:min (x+2) w<=1000:=z0b (Nat.min_le_right _ _) (z0b hw {});rw[z9p ⟨Int.le_trans {} (aje _),alr.mpr b1,Int.le_trans {} (aje _),alr.mpr b2⟩];congr 2;unfold upto nr;rw[Int.toNat_sub,aj2,agj];show agC λi _=>?_;simp
def dW(c:Int)(t:Wg Z):Wg Z:=(t.1,t.2.1+c,t.2.2)
def cands(w:Nat)(C:Nat->List (Wg Z))(T:Nat->Nat->Int)(x:Nat):List (Wg Z):=(nr w x).flatMap λp=>(C p).map (dW (T p (x+1 - p)))
variable{rd:Z->D}{C:Nat->List (Wg Z)}{T:Nat->Nat->Int}
theorem aeb{x p:Nat}(hx:x<w)(hp:p∈nr w x)(hC:(C p).length<=60)(hl:acc.length<=100000):
  onB [vA (.lst ((afI w).map λx=>cR rd (C x))),vA (.lst ((afI w).map λx=>d9 (T x))),vA (.int (x:Int)),some (.lst acc),vA (.int (p:Int)),e5] =
   .nx [vA (.lst ((afI w).map λx=>cR rd (C x))),vA (.lst ((afI w).map λx=>d9 (T x))),vA (.int (x:Int)),some (.lst (acc++((C p).map (dW (T p (x+1 - p)))).map (mH rd))),vA (.int (p:Int)),vA (.int (T p (x+1 - p)))]:=by
 let⟨h1,h2,h3⟩:=(yK hx).mp hp;show aK (bw (aV (aB rfl (aB rfl (au rfl))) (uf (T:=T p) (p:=λx=>d9 (T x)) h1 () () rfl)) rfl) ?_;show Vp (ds:=acc) rfl (bR (c:=mH rd) (h:=λt=>mH rd (dW (T p (x+1 - p)) t)) (l:=C p) (gO (aA rfl rfl (lD (α:=D) h1))) () λt ht=>?_) () |>.trans ?_
 .show cB rfl (iu (aB rfl (aB (x:= .int (t.2.1+T p (x+1 - p))) (aA rfl rfl rfl) (au rfl))))
 .rw[agj];rfl
theorem Vq{x:Nat}(hx:x<w)(hC:∀p<w,(C p).length<=60):∀{ps:List Nat} {acc:List D} {e4 e5:Option Ent},(∀p∈ps,p∈nr w x)->acc.length+60*ps.length<=100000->
  ∃z4 z5,forL (aH 4) onB (ps.map λ(p:Nat)=>D.int (p:Int)) [vA (.lst ((afI w).map λx=>cR rd (C x))),vA (.lst ((afI w).map λx=>d9 (T x))),vA (.int (x:Int)),some (.lst acc),e4,e5] =
   .nx [vA (.lst ((afI w).map λx=>cR rd (C x))),vA (.lst ((afI w).map λx=>d9 (T x))),vA (.int (x:Int)),some (.lst (acc++(ps.flatMap λp=>(C p).map (dW (T p (x+1 - p)))).map (mH rd))),z4,z5]
 |[],acc,e4,e5,_,_=>⟨e4,e5,by simp[forL]⟩
 | p::ps,acc,e4,e5,hp,hl=>by
  rw[afN] at hl;have hpn:=hp p ();have hpw:=((yK hx).mp hpn).1;have hc:=hC p hpw;let⟨z4,z5,e⟩:=Vq hx hC (ps:=ps) (acc:=acc++((C p).map (dW (T p (x+1 - p)))).map (mH rd)) (e4:=vA (.int (p:Int))) (e5:=vA (.int (T p (x+1 - p)))) (λq hq=>hp q (by simp[hq])) ();show⟨z4,z5,gF rfl (aeb hx hpn hc ()) (e.trans ?_)⟩;rw[ahs,agw,afM]
theorem Zw{x:Nat}(hx:x<w)(hw:w<=20)(hC:∀p<w,(C p).length<=60):zH [.lst ((afI w).map λx=>cR rd (C x)),.lst ((afI w).map λx=>d9 (T x)),.int (x:Int)]= .ok (.lst ((cands w C T x).map (mH rd))):=by
 let⟨z4,z5,e⟩:=Vq (T:=T) hx hC (ps:=nr w x) (acc:=[]) (e4:=none) (e5:=none) (λp hp=>hp) (by have:=Q6 (w:=w) (x:=x);simp;omega);have hlen:cF [.lst ((afI w).map λx=>cR rd (C x))]= .ok (.int (w:Int)):=by simp[cF]
 show cO (aK (qH rfl) (aK (mq (gO (aV (aB rfl (au (aP (au rfl) hlen))) (acW hx hw))) e) (bJ rfl)))
end
section
variable{n w h:Nat}{g:Nat->Int}
theorem jg:jD (.int i) (.int j)= .ok (.bl (decide (i=j))):=by
 rw[jD,z9p (by simp[dep])];show R.ok (D.bl (dI (.int i) (.int j)))=_;by_cases h:i=j <;> simp[oR,oU,oV,oW,oX,jm,fL,h]
def cZ(N:Nat)(cs:List Wy):List Wy:=((aZ (cs.map fl)).take N).map un
def pre(x:Nat)(t:Wy):Wy:=(t.1,t.2.1,(x:Int)::t.2.2)
theorem Jx:∀cs:List Wy,qD (cs.map qb)=some (cs.map fl)
 |[]=>rfl
 | t::cs=>by
  rw[z1h,qD,Jx cs,Q0,show yw (nG (fl t))=some (fl t) from Qm];rfl
theorem Q7:∀l∈aZ (cs.map fl),fl (un l)=l:=λl hl=>by
 let⟨t,_,rfl⟩:=afW.mp ((cG _).mem_iff.mp hl);rw[O5]
theorem Jy:∀t∈cZ N cs,t∈cs:=λt ht=>by
 let⟨l,hl,rfl⟩:=afW.mp ht;have hl:=af5 hl;let⟨t,h1,rfl⟩:=afW.mp ((cG _).mem_iff.mp hl);rw[O5];show h1
theorem pR:(cZ N cs).length<=N:=by unfold cZ;simp;omega
theorem Jz(hl:cs.length<=100000){v:aq->R (Option Int)}(e:u ρ= .ok (.lst (cs.map qb)))(e0:v ρ= .ok (some (N:Int))):oE (aD vh (ak u nA)) (λ_=> .ok none) v ρ= .ok (.lst ((cZ N cs).map qb)):=by
 have e1:vh [.lst (cs.map qb)]= .ok (.lst ((aZ (cs.map fl)).map nG)):=by
  rw[vh,Jx];show (if _ then _ else _)=_;rw[z9p (by rw[z1g];omega)]
 have e2:sE ((aZ (cs.map fl)).map nG) none (some (N:Int))=(cZ N cs).map qb:=by
  have e3:∀{n d:Nat},HT.sIx n d (some (N:Int))=min N n:=λ{n d}=>by
   show (if (N:Int)<0 then ((N:Int)+(n:Int)).toNat else min (N:Int).toNat n)=min N n;rw[z9n ()];rfl
  rw[sE,e3,Zr,akB,ah0,<-akj];have e4:∀l:List (List Int),l.take (min N (l.map nG).length)=l.take N:=λl=>by
   rw[z1g,<-aiX,ai6]
  rw[e4];unfold cZ;rw[agj];show agC λl hl=>?_;show nG l=qb (un l);rw[Q0,Q7 l (af5 hl)]
 unfold oE;rw[aP (au e) e1,e0];show R.ok (D.lst (sE _ none (some (N:Int))))=_;rw[e2]
theorem Nv{x:Nat}(hN:N<=60)(hl:cs.length<=100000)(hp:∀t∈cs,t.2.2.length<=100):lA (N:Int) [.int (x:Int),.lst (cs.map qb)]= .ok (abQ ((cZ N cs).map (pre x))):=by
 have e5:abQ ((cZ N cs).map (pre x))= .lst ((cZ N cs).map λt=>qb (pre x t)):=by show D.lst _=_;rw[agj];rfl
 rw[e5];show iw (bJ (bR (c:=qb) (h:=λt=>qb (pre x t)) (l:=cZ N cs) (gO (ds:=(cZ N cs).map qb) (Jz hl rfl rfl)) (by have:=pR (N:=N) (cs:=cs);omega) λt ht=>?_));show cB rfl (iu (aB rfl (aB rfl (au (x:= .tup ((((x:Int)::t.2.2)).map .int)) (aA (iu (au rfl)) rfl ?_)))));have:=hp t (Jy t ht);show acT (xs:=[.int (x:Int)]) (ys:=t.2.2.map .int) ()
end
def cI(m:Int):Int:=if m=2 then 1 else 0
def sb(c:Int)(t:Wg Z):Wg Z:=(t.1 - c,t.2.1,t.2.2)
def jR(gt:Nat->List (Wg Z)->List (Wg Z))(x:Nat)(m:Int)(cs:List (Wg Z)):List (Wg Z):=if m=1 then[] else (gt x cs).map (sb (cI m))
abbrev Cz(N x:Nat)(cs:List Wy):List Wy:=(cZ N cs).map (pre x)
abbrev KZ(N x:Nat)(m:Int)(cs:List Wy):List Wy:=jR (Cz N) x m cs
section
variable{rd:Z->D}{st:Z}{gt:Nat->List (Wg Z)->List (Wg Z)}{GG:List D->R D}{w h a y:Nat}
theorem abh{l:List (Wg Z)}(hl:l.length<=60){e4:Option Ent}(ha:acc.length<=1000):
  abN [e0,e1,e2,e3,e4,e5,some (.lst acc),e7,vA (.int m),vA (cR rd l),e10]= .nx [e0,e1,e2,e3,e4,e5,some (.lst (acc++[cR rd (l.map (sb (cI m)))])),e7,vA (.int m),vA (cR rd l),vA (.int (cI m))]:=by
 have e:(Lj (cC (bin (gv 8) (ci 2) jD)) (ci 1) (ci 0)) [e0,e1,e2,e3,e4,e5,some (.lst acc),e7,vA (.int m),vA (cR rd l),e10]= .ok (.int (cI m)):=by
  unfold cI;by_cases hm:m=2
  .rw[z9p hm];show KR (aX (aA rfl rfl (by rw[jg,z9t hm]))) rfl
  .rw[z9n hm];show KY (aX (aA rfl rfl (by rw[jg,z9f hm]))) rfl
 show aK (bw e rfl) ?_;have e2:cR rd (l.map (sb (cI m)))= .lst (l.map λt=>mH rd (sb (cI m) t)):=by show D.lst _=_;rw[agj];rfl
 rw[e2];show Jv (ds:=acc) (bR (c:=mH rd) (h:=λt=>mH rd (sb (cI m) t)) (l:=l) (gO rfl) () λt ht=>?_) rfl ();show cB rfl (iu (aB (x:= .int (t.1 - cI m)) (aA rfl rfl rfl) (aB rfl (au rfl))))
inductive Zx {Z:Type} (rd:Z->D) (st:Z) (w:Nat) (T:Nat->Nat->Nat->Int) (y:Nat):List D->(Nat->List (Wg Z))->Prop
 |last:Zx rd st w T y [] λ_=>[(0,0,st)]
 |more (rs:List D) (C:Nat->List (Wg Z)):(∀p<w,(C p).length<=60)->Zx rd st w T y (rs++[.lst ((afI w).map λx=>cR rd (C x))]) (cands w C (T (y+1)))
theorem abj{rows:List D}{cs:Nat->List (Wg Z)}(B:Zx rd st w T y rows cs)(hy:rows≠[]->y+1<h){x:Nat}(hx:x<w)(hw:w<=20)(hG:GG [.int (x:Int),.lst ((cs x).map (mH rd))]= .ok (cR rd (gt x (cs x)))){e6:Option Ent}:
  abM a GG [vA (tab w h T),e1,vA (rd st),some (.obj (.fn a)),some (.lst rows),vA (.int (y:Int)),e6,vA (.int (x:Int)),vA (.int m),e9,e10] =
   .nx [vA (tab w h T),e1,vA (rd st),some (.obj (.fn a)),some (.lst rows),vA (.int (y:Int)),e6,vA (.int (x:Int)),vA (.int m),vA (cR rd (if m=1 then[] else gt x (cs x))),e10]:=by
 have th:∀(u:Option Ent),V8 (vA (.int m))=vA (.int m):=λ_=>rfl;by_cases hm:m=1
 .rw[z9p hm];show jL (aX (aA rfl rfl (by rw[jg,z9t hm]))) (bw (fM rfl) rfl)
 .rw[z9n hm];show cQ (aX (aA rfl rfl (by rw[jg,z9f hm]))) ?_;cases B with
  | last=>
   show jL (eG (uJ (ds:=[]) rfl)) (bw (Q5 rfl (aB rfl (au (fM (au (iu (aB rfl (aB rfl (au rfl)))))))) hG) rfl)
  | more rs C hC=>
   have hy:=hy ();show cQ (eG (uJ (ds:=rs++[.lst ((afI w).map λx=>cR rd (C x))]) rfl) |>.trans ()) (bw (Q5 rfl (aB rfl (au (aV (aB (x:= .lst ((afI w).map λx=>cR rd (C x))) (Zv rfl (k:= -1) rfl ?_) (aB (aA rfl (aA (x:= .int (y:Int)) (y:= .int 1) (r:= .ok (.int ((y+1:Nat):Int))) rfl rfl rfl) (lD (α:=D) hy)) (au rfl))) (Zw (C:=C) (T:=T (y+1)) hx hw hC)))) hG) rfl);rw[cA];have:L2.atI (rs++[D.lst ((afI w).map λx=>cR rd (C x))]) (-1)=some (.lst ((afI w).map λx=>cR rd (C x))):=by
    unfold L2.atI ixN;rw[z9n {},z9p ()];simp only[z1d,ajw,Option.bind_some];rw[show ((-1:Int)+((rs.length+1:Nat):Int)).toNat=rs.length by omega,afP (z0g _)];simp
   rw[this]
end
def jT(gt:Nat->List (Wg Z)->List (Wg Z))(st:Z)(w h:Nat)(T:Nat->Nat->Nat->Int)(M:Nat->Nat->Int):Nat->Nat->List (Wg Z)
 |0,_=>[(0,0,st)]
 |k+1,x=>cands w (λp=>jR gt p (M (h - 1 - k) p) (jT gt st w h T M k p)) (T (h - 1 - k)) x
def nq(gt:Nat->List (Wg Z)->List (Wg Z))(st:Z)(w h:Nat)(T:Nat->Nat->Nat->Int)(M:Nat->Nat->Int)(k x:Nat):List (Wg Z):=jR gt x (M (h - 1 - k) x) (jT gt st w h T M k x)
def qJ(rd:Z->D)(gt:Nat->List (Wg Z)->List (Wg Z))(st:Z)(w h:Nat)(T:Nat->Nat->Nat->Int)(M:Nat->Nat->Int)(k:Nat):D:= .lst ((afI w).map λx=>cR rd (nq gt st w h T M k x))
abbrev Q8(N:Nat):=jT (Cz N) []
abbrev Vr(N:Nat):=nq (Cz N) []
abbrev aec(N:Nat):=qJ rdL (Cz N) []
section
variable{w h a N:Nat}
theorem Q9{k x:Nat}:Q8 N w h T M (k+1) x=cands w (Vr N w h T M k) (T (h - 1 - k)) x:=rfl
theorem Ra{x:Nat}:(KZ N x m cs).length<=N:=by
 unfold KZ jR Cz;split
 .simp
 .have:=pR (N:=N) (cs:=cs);simpa using this
theorem abk{x:Nat}{t:Wy}(h:t∈KZ N x m cs):∃u∈cs,t=sb (cI m) (pre x u):=by
 unfold KZ jR Cz at h;split at h
 .simp at h
 .rw[agj] at h;let⟨u,hu,rfl⟩:=afW.mp h;show⟨u,Jy u hu,rfl⟩
theorem G9{α β:Type}{F:α->List β}{N:Nat}:∀{l:List α},(∀a∈l,(F a).length<=N)->(l.flatMap F).length<=N*l.length
 |[],_=>()
 | a::l,h=>by
  rw[ahs,z1d,afN,Nat.mul_add,Nat.mul_one];have h1:=h a ();have h2:=G9 (l:=l) λb hb=>h b (by simp[hb]);omega
theorem acX(hN:N<=60):∀{k x:Nat},(Q8 N w h T M k x).length<=100000
 |0,_=>by simp[Q8,jT]
 | k+1,x=>by
  rw[Q9];unfold cands;have:=G9 (N:=N) (F:=λp=>(Vr N w h T M k p).map (dW (T (h - 1 - k) p (x+1 - p)))) (l:=nr w x) λp _=>by rw[z1g];show Ra
  have h2:=Q6 (w:=w) (x:=x);have h3:N*(nr w x).length<=60*3:=Nat.mul_le_mul hN h2;omega
theorem Zy:∀{k x:Nat},∀t∈Q8 N w h T M k x,t.2.2.length=k
 |0,_,t,ht=>by simp[Q8,jT] at ht;subst ht;rfl
 | k+1,x,t,ht=>by
  rw[Q9] at ht;let⟨p,_,hp⟩:=agG.mp ht;let⟨u,hu,rfl⟩:=afW.mp hp;let⟨v,hv,rfl⟩:=abk hu;show (((p:Nat):Int)::v.2.2).length=k+1;rw[afN,Zy v hv]
end
section
variable{rd:Z->D}{st:Z}{gt:Nat->List (Wg Z)->List (Wg Z)}{GG:List D->R D}{w h a:Nat}
theorem Rb{gt:Nat->List (Wg Z)->List (Wg Z)}(hL:∀x cs,(gt x cs).length<=60){x:Nat}{cs:List (Wg Z)}:(jR gt x m cs).length<=60:=by
 unfold jR;split
 .simp
 .rw[z1g];show hL _ _
theorem Vs{y:Nat}{rows:List D}{cs:Nat->List (Wg Z)}(B:Zx rd st w T y rows cs)(hy:rows≠[]->y+1<h)(hw:w<=20)(hL:∀x cs,(gt x cs).length<=60)(hG:∀x:Nat,GG [.int (x:Int),.lst ((cs x).map (mH rd))]= .ok (cR rd (gt x (cs x)))){e1:Option Ent}:∀{xs:List Nat} {acc:List D} {e7 e8 e9 e10:Option Ent},(∀x∈xs,x<w)->acc.length+xs.length<=1000->
  ∃z7 z8 z9 Ar,forL (c7 (dg 2 (aW (aH 7) (aW (aH 8) nilG)))) (inW a GG) (xs.map λ(x:Nat)=>D.tup [.int (x:Int),.int (M y x)]) [vA (tab w h T),e1,vA (rd st),some (.obj (.fn a)),some (.lst rows),vA (.int (y:Int)),some (.lst acc),e7,e8,e9,e10] =
   .nx [vA (tab w h T),e1,vA (rd st),some (.obj (.fn a)),some (.lst rows),vA (.int (y:Int)),some (.lst (acc++xs.map λx=>cR rd (jR gt x (M y x) (cs x)))),z7,z8,z9,Ar]
 |[],acc,e7,e8,e9,e10,_,_=>⟨e7,e8,e9,e10,by simp[forL]⟩
 | x ::xs,acc,e7,e8,e9,e10,hx,hle=>by
  rw[afN] at hle;have hxw:=hx x ();let⟨z7,z8,z9,Ar,e⟩:=Vs B hy hw hL hG (e1:=e1) (xs:=xs) (acc:=acc++[cR rd (jR gt x (M y x) (cs x))]) (e7:=vA (.int (x:Int))) (e8:=vA (.int (M y x))) (e9:=vA (cR rd (if M y x=1 then[] else gt x (cs x)))) (e10:=vA (.int (cI (M y x)))) (λq hq=>hx q (by simp[hq])) ();show⟨z7,z8,z9,Ar,gF rfl (aK (abj B hy hxw hw (hG x)) (abh ?_ () |>.trans ?_)) (e.trans ?_)⟩
  .split
   .simp
   .show hL _ _
  .have:jR gt x (M y x) (cs x)=(if M y x=1 then[] else gt x (cs x)).map (sb (cI (M y x))):=by unfold jR;split <;> rfl
   rw[this]
  .rw[z1h,afM];rfl
def dn(r:Nat):List D:=(afI r).map λ(i:Nat)=>D.int ((r:Int) - 1 - (i:Int))
theorem acY(r:Nat):dn (r+1)=D.int (r:Int)::dn r:=by
 unfold dn;rw[aic,z1h,agj];congr 1
 .congr 1;omega
 .show agC λi _=>?_;show D.int _=D.int _;congr 1;simp only[Nat.succ_eq_add_one];omega
theorem aed(hL:∀x cs,(gt x cs).length<=60){k y:Nat}(hk:k<h)(hy:y=h - 1 - k):Zx rd st w T y ((afI k).map (qJ rd gt st w h T M)) (jT gt st w h T M k):=by
 cases k with
 |zero=>show .last
 | succ k=>
  rw[ajS,agw];have e:jT gt st w h T M (k+1)=cands w (nq gt st w h T M k) (T (y+1)):=by
   funext x;rw[show y+1=h - 1 - k by omega];rfl
  rw[e];show .more _ _ λp _=>Rb hL
theorem aee(hL:∀x cs,(gt x cs).length<=60)(hG:∀k x:Nat,k<h->GG [.int (x:Int),.lst ((jT gt st w h T M k x).map (mH rd))]= .ok (cR rd (gt x (jT gt st w h T M k x)))){k y:Nat}(hk:k<h)(hy:y=h - 1 - k)(hh:h<=20)(hw:w<=20){e6:Option Ent}:∃z6 z7 z8 z9 Ar,abb a GG [vA (tab w h T),vA (bx w h M),vA (rd st),some (.obj (.fn a)),some (.lst ((afI k).map (qJ rd gt st w h T M))),vA (.int (y:Int)),e6,e7,e8,e9,e10] =
  .nx [vA (tab w h T),vA (bx w h M),vA (rd st),some (.obj (.fn a)),some (.lst ((afI (k+1)).map (qJ rd gt st w h T M))),vA (.int (y:Int)),z6,z7,z8,z9,Ar]:=by
 let⟨z7,z8,z9,Ar,e⟩:=Vs (h:=h) (a:=a) (M:=M) (e1:=vA (bx w h M)) (aed (w:=w) (T:=T) (M:=M) hL hk hy) (λhne=>by
  have:k≠0:=λz=>hne (by rw[z];rfl);omega) hw hL (λx=>hG k x hk) (xs:=afI w) (acc:=[]) (e7:=e7) (e8:=e8) (e9:=e9) (e10:=e10) (λx hx=>z2e hx) ()
 show⟨vA (.lst ([]++(afI w).map λx=>cR rd (jR gt x (M y x) (jT gt st w h T M k x)))),z7,z8,z9,Ar,aK (qH rfl) (aK (mq (Ey (au (aA rfl rfl (QZ ()))) rfl) e) ((acV (ds:=(afI k).map (qJ rd gt st w h T M)) (es:=[]++(afI w).map λx=>cR rd (jR gt x (M y x) (jT gt st w h T M k x))) rfl rfl (by rw[z1g,z2d];omega)).trans ?_))⟩;rw[ajS,agw];have er:((afI w).map λx=>cR rd (jR gt x (M y x) (jT gt st w h T M k x)))=(afI w).map λx=>cR rd (nq gt st w h T M k x):=by
  show agC λx _=>?_;unfold nq;rw[hy]
 simp only[ajh];rw[er];rfl
theorem Rc(hL:∀x cs,(gt x cs).length<=60)(hG:∀k x:Nat,k<h->GG [.int (x:Int),.lst ((jT gt st w h T M k x).map (mH rd))]= .ok (cR rd (gt x (jT gt st w h T M k x))))(hh:h<=20)(hw:w<=20):∀{r k:Nat} {e5 e6 e7 e8 e9 e10:Option Ent},k+r=h->∃z5 z6 z7 z8 z9 Ar,forL (aH 5) (abb a GG) (dn r) [vA (tab w h T),vA (bx w h M),vA (rd st),some (.obj (.fn a)),some (.lst ((afI k).map (qJ rd gt st w h T M))),e5,e6,e7,e8,e9,e10] =
  .nx [vA (tab w h T),vA (bx w h M),vA (rd st),some (.obj (.fn a)),some (.lst ((afI h).map (qJ rd gt st w h T M))),z5,z6,z7,z8,z9,Ar]
 |0,k,e5,e6,e7,e8,e9,e10,hk=>⟨e5,e6,e7,e8,e9,e10,by rw[show k=h by omega];rfl⟩
 | r+1,k,e5,e6,e7,e8,e9,e10,hk=>by
  let⟨y6,y7,y8,y9,y10,e1⟩:=aee hL hG (a:=a) (w:=w) (T:=T) (M:=M) (k:=k) (y:=r) () () hh hw (e6:=e6) (e7:=e7) (e8:=e8) (e9:=e9) (e10:=e10);let⟨z5,z6,z7,z8,z9,Ar,e2⟩:=Rc hL hG hh hw (r:=r) (k:=k+1) (e5:=vA (.int (r:Int))) (e6:=y6) (e7:=y7) (e8:=y8) (e9:=y9) (e10:=y10) ();rw[acY];show⟨z5,z6,z7,z8,z9,Ar,gF rfl e1 e2⟩
theorem Rf(hL:∀x cs,(gt x cs).length<=60)(hG:∀k x:Nat,k<h->GG [.int (x:Int),.lst ((jT gt st w h T M k x).map (mH rd))]= .ok (cR rd (gt x (jT gt st w h T M k x))))(hh:h<=20)(hw:w<=20):lF a GG [tab w h T,bx w h M,rd st]= .ok (.lst ((afI h).map (qJ rd gt st w h T M)).reverse):=by
 let⟨z5,z6,z7,z8,z9,Ar,e⟩:=Rc (a:=a) (w:=w) (T:=T) (M:=M) hL hG hh hw (r:=h) (k:=0) (e5:=none) (e6:=none) (e7:=none) (e8:=none) (e9:=none) (e10:=none) ();have er:Qk [.int (h:Int)]= .ok (dn h):=by
  show (if _ then _ else _)=_;rw[z9p ()];rfl
 show iw (aK (qH rfl) (aK (mq ?_ e) (bJ ?_)))
 .show ((ak (aD cF (ak (gv 1) nA)) nA) _).bind Qk=_;rw[au (aP (au rfl) yH)];show er
 .show Ov _ _=_;unfold Ov;rfl
end
section
variable{w h N:Nat}{m:Str}
theorem acZ(hN:N<=60)(hh:h<=20)(hw:w<=20):wZ [tab w h T,bx w h M,.int (N:Int)]= .ok (.lst ((afI h).map (aec N w h T M)).reverse):=by
 show iw ?_;show (match allOf (λx=>lF x (lA (N:Int)) [tab w h T,bx w h M,.tup []]) with | .ok r=>So.rt r |_=> .bad)=_;have e:∀a,lF a (lA (N:Int)) [tab w h T,bx w h M,.tup []]=_:=λa=>Rf (a:=a) (rd:=rdL) (st:=[]) (gt:=Cz N) (T:=T) (M:=M) (λx cs=>by have:=pR (N:=N) (cs:=cs);simp[Cz];omega) (λk x hk=>Nv hN (acX hN) (λt ht=>by rw[Zy t ht];omega)) hh hw;rw[Qh e]
theorem CG{F:Nat->D}:((afI h).map F).reverse=(afI h).map λy=>F (h - 1 - y):=by
 apply aip;intro i;by_cases hi:i<h
 .rw[List.getElem?_reverse (by simpa using hi),z2b,z2b,agu hi,z1g,z2d,agu ()];rfl
 .rw[ahQ (),ahQ ()]
def Mk(w h:Nat)(M:Nat->Nat->Int):Prop:=∀y x,0<=M y x/\M y x<=2
theorem Vt:kO [.int i]= .ok (.bl true):=by rfl
theorem WT(h:i<=j):xV (.int i) (.int j)= .ok (.bl true):=by
 show R.ok (D.bl (decide _))=_;rw[z9t h]
theorem WW(h:0<=i/\i<=2):Cq [.int i]= .ok (.bl true):=
 cO (bJ (u6 (aV (au rfl) Vt) (Bw rfl rfl (WT h.1) rfl (WT h.2))))
theorem abR{l:List α}:su [.lst (l.map λ_=> .bl true)]= .ok (.bl true):=uH
theorem JB{g:Nat->Int}(hw:w<=20)(hg:∀x,0<=g x/\g x<=2):qG [row w g,.int (w:Int)]= .ok (.bl true):=by
 show cO (bJ (u6 rfl (u6 (aA (aP (au rfl) qI) rfl (by rw[jg,z9t rfl])) (aP (au (bR (c:=λx=>D.int (g x)) (h:=λ_=>D.bl true) (l:=afI w) (dZ rfl) (by rw[z2d];omega) λx hx=>?_)) abR))));show cB rfl (aV (au rfl) (WW (hg x)))
theorem kh:nZ (.int i) (.int i)= .ok (.bl false):=by rw[ae4,z9t rfl];rfl
theorem Tw(o:Ok w h f)(hM:Mk w h M):zJ [bx w h M,bx w h f]= .ok (.bl true):=by
 have QX:=o.h2;show cO (aK (cQ (rJ (eG (b:=true) (aX rfl)) (aX (aA (aP (au rfl) yH) (aP (au rfl) yH) kh))) rfl) (bJ (aP (au (bR (c:=λy=>row w (M y)) (h:=λ_=>D.bl true) (l:=afI h) (dZ rfl) (by rw[z2d];omega) λy hy=>?_)) abR)));show cB rfl (aV (aB rfl (au (len0 o rfl))) (JB o.w2 (hM y)))
theorem jY(o:Ok w h f)(hM:Mk w h M):eZ [bx w h M,bx w h f]= .ok (bx w h M):=
 cO (aK (cQ (aX (b:=false) (aA rfl rfl rfl)) rfl) (aK (cQ (eG (b:=true) (aX (aV (aB rfl (au rfl)) (Tw o hM)))) rfl) (bJ rfl)))
theorem abl(hm:m= "worth"\/m= "joins")(o:Ok w h f):uI [bx w h f,.str m]= .ok (tab w h (tbl m w h f)):=by
 rcases hm with rfl |rfl
 .show Vn o
 .show Vo o
theorem uK(hm:m= "worth"\/m= "joins")(o:Ok w h f)(e:eZ [d,bx w h f]= .ok (bx w h M)):mV [bx w h f,.str m,d]= .ok (.tup [tab w h (tbl m w h f),bx w h M]):=
 cO (aK (mQ (aV (au rfl) (Ew o))) (aK (mQ (aV (au rfl) (yJ hm))) (aK (bw (aV (aB rfl (au rfl)) e) rfl) (bJ (iu (aB (aV (aB rfl (au rfl)) (abl hm o)) (au rfl)))))))
end
section
variable{w h:Nat}
abbrev lt(a b:Wy):Bool:=bM (fl a) (fl b)
theorem Zz{a b:Wy}:lt (dW c a) (dW c b)=lt a b:=by
 let⟨a1,a2,a3⟩:=a;let⟨b1,b2,b3⟩:=b;simp only[lt,fl,dW,bM];by_cases e1:a1=b1
 .rw[z9p e1,z9p e1];by_cases e:a2=b2
  .rw[z9p (),z9p e]
  .rw[z9n (),z9n e];show decide_eq_decide.mpr ()
 .rw[z9n e1,z9n e1]
theorem abS{a b:Wy}:lt (sb c a) (sb c b)=lt a b:=by
 let⟨a1,a2,a3⟩:=a;let⟨b1,b2,b3⟩:=b;simp only[lt,fl,sb,bM];by_cases e:a1=b1
 .rw[z9p (),z9p e]
 .rw[z9n (),z9n e];show decide_eq_decide.mpr ()
theorem ZC{x:Nat}{a b:Wy}:lt (pre x a) (pre x b)=lt a b:=by
 let⟨a1,a2,a3⟩:=a;let⟨b1,b2,b3⟩:=b;simp only[lt,fl,pre,bM,if_true]
def vl(T:Nat->Nat->Nat->Int)(M:Nat->Nat->Int):Nat->List Nat->Wy
 |_,[]=>(0,0,[])
 |y,[x]=>sb (cI (M y x)) (pre x (0,0,[]))
 |y,x::p::l=>sb (cI (M y x)) (pre x (dW (T (y+1) p (x+1 - p)) (vl T M (y+1) (p::l))))
def Pa(w:Nat)(M:Nat->Nat->Int):Nat->List Nat->Prop
 |_,[]=>True
 |y,[x]=>x<w/\M y x≠1
 |y,x::p::l=>x<w/\M y x≠1/\p<=x+1/\x<=p+1/\Pa w M (y+1) (p::l)
theorem Pa.lt{y x:Nat}{l:List Nat}(h:Pa w M y (x::l)):x<w:=by
 cases l with
 |nil=>show h.1
 |cons p l=>show h.1
theorem Pa.ne{y x:Nat}{l:List Nat}(h:Pa w M y (x::l)):M y x≠1:=by
 cases l with
 |nil=>show h.2
 |cons p l=>show h.2.1
def gn(M:Nat->Nat->Int)(h:Nat)(s:Nat->Nat):Int:=((afI h).map λy=>cI (M y (s y))).sum
def wS(T:Nat->Nat->Nat->Int)(M:Nat->Nat->Int)(h:Nat)(s:Nat->Nat):Wy:=(-gn M h s,cost h T s,(afI h).map λy=>((s y:Nat):Int))
structure Fre(w h:Nat)(M:Nat->Nat->Int)(s:Nat->Nat):Prop where
 sm:jQ w h s
 ne:∀y<h,M y (s y)≠1
theorem aef{s:Nat->Nat}:∀{k y:Nat},vl T M y ((ahY y (k+1)).map s)=(-((ahY y (k+1)).map λy=>cI (M y (s y))).sum,((ahY (y+1) k).map λy=>fare T s y).sum,(ahY y (k+1)).map λy=>((s y:Nat):Int))
 | 0,y=>by
  show (0 - cI (M y (s y)),(0:Int),[((s y:Nat):Int)])=(-(cI (M y (s y))+0),0,[((s y:Nat):Int)]);rw[show 0 - cI (M y (s y))= -(cI (M y (s y))+0) by omega]
 | k +1,y=>by
  have ih:=aef (s:=s) (k:=k) (y:=y+1);rw[aiC (s:=y),z1h,z1h,z1h,ahZ];rw[aiC (s:=y+1),z1h,z1h,z1h,ahZ] at ih |-;show sb _ (pre _ (dW _ (vl T M (y+1) _)))=_;rw[ih];simp only[sb,pre,dW];show akk ?_ (akk ?_ rfl)
  .show -_ - cI _= -_;omega
  .rw[z1h,ahZ];show _+T (y+1) (s (y+1)) (s y+1 - s (y+1))=T (y+1) (s (y+1)) (s y+1 - s (y+1))+_;rw[alF]
theorem aeg(h1:1<=h):dW (T 0 (s 0) 1) (vl T M 0 ((afI h).map s))=wS T M h s:=by
 obtain⟨k,rfl⟩:∃k,h=k+1:=⟨h - 1,()⟩;rw[ah1,aef];simp only[dW,wS,gn,cost];show akk ?_ (akk ?_ ?_)
 .rw[ah1]
 .show ((ahY (0+1) k).map λy=>fare T s y).sum+T 0 (s 0) 1=T 0 (s 0) 1+((afI (k+1 - 1)).map λy=>fare T s (y+1)).sum;rw[alF,Nat.add_sub_cancel,aj2,agj];congr 3;funext i;show fare T s (0+1+i)=fare T s (i+1);rw[show 0+1+i=i+1 by omega]
 .rw[ah1]
theorem aeh{s : Nat -> Nat} : ∀{k y : Nat},Pa w M y ((ahY y (k+1)).map s)↔(∀z,y<=z->z<=y+k->s z<w/\M z (s z)≠1)/\∀z,y<=z->z<y+k->s (z+1)<=s z+1/\s z<=s (z+1)+1
 | 0, y => ⟨λ h => ⟨λ z h1 h2 => by have:z=y:=()
                                    subst this;show h,λz h1 h2=>()⟩,λh=>h.1 y (z0g _) (z0g _)⟩
 | k+1,y=>by
  have ih:=aeh (s:=s) (k:=k) (y:=y+1);rw[aiC (s:=y),z1h];rw[aiC (s:=y+1),z1h] at ih |-;constructor
  .rintro⟨h1,h2,h3,h4,h5⟩
   let⟨q1,q2⟩:=ih.mp h5;show⟨λz z1 z2=>?_,λz z1 z2=>?_⟩
   .by_cases e:z=y
    .subst e;show⟨h1,h2⟩
    .show q1 z () ()
   .by_cases e:z=y
    .subst e;show⟨h3,h4⟩
    .show q2 z () ()
  .rintro⟨q1,q2⟩
   have a:=q1 y (z0g _) ();have b:=q2 y (z0g _) ();show⟨a.1,a.2,b.1,b.2,ih.mpr ⟨λz z1 z2=>q1 z () (),λz z1 z2=>q2 z () ()⟩⟩
theorem JC(h1:1<=h):Pa w M 0 ((afI h).map s)↔Fre w h M s:=by
 obtain⟨k,rfl⟩:∃k,h=k+1:=⟨h - 1,()⟩;rw[ah1,aeh];constructor
 .rintro⟨a,b⟩
  show⟨⟨λy hy=>(a y () ()).1,λy hy=>b y () ()⟩,λy hy=>(a y () ()).2⟩
 .rintro⟨⟨a,b⟩,c⟩
  show⟨λz _ z2=>⟨a z (),c z ()⟩,λz _ z2=>b z ()⟩
theorem Vu(l:List Nat):∃s:Nat->Nat,l=(afI l.length).map s:=
 ⟨λy=>l.getD y 0,by
  apply aip;intro i;rw[z2b];by_cases hi:i<l.length
  .rw[agu hi];simp[hi]
  .rw[ahQ (),ahQ ()];rfl⟩
end
theorem wK{A B:List (List Int)}(h:A.Perm B):aZ A=aZ B:=uc ((cG A).trans (h.trans (cG B).symm)) kJ kJ
theorem Rg{t:List Int}:∀{l:List (List Int)} {N:Nat},Eo l→N≤(l.filter λu=>bM u t).length→N≤l.length∧∀u∈l.take N,bM u t=true
  |[],N,_,h=>by simp at h;subst h;show⟨akQ _,λu hu=>by simp at hu⟩
  |a::l,0,_,_=>⟨ahp _,λu hu=>by simp at hu⟩
  | a ::l,N+1,r,h=>by
    let⟨r1,r2⟩:=agt.mp r
    by_cases c:bM a t=true
    . rw[akn,z9p c,afN] at h
      let⟨h1,h2⟩:=Rg (t:=t) (N:=N) r2 ()
      show⟨by rw[afN];omega,λu hu=>?_⟩
      rw[aia] at hu
      rcases afR.mp hu with rfl |hu
      . show c
      . show h2 u hu
    . rw[akn,z9n c] at h
      have:(l.filter λu=>bM u t)=[]:=aki.mpr λu hu z=>c (by
        by_cases e:a=u
        . rw[e];show z
        . show jq (qC (λq=>e q.symm) (r1 u hu)) z)
      rw[this] at h;simp at h
theorem Rh{t:List Int}:∀{l:List (List Int)} {N:Nat},N<=l.length->(∀u∈l.take N,bM u t=true)->(mD t l).take N=l.take N
 |l,0,_,_=>()
 |[],N+1,h,_=>by simp at h
 | a::l,N+1,h,hu=>by
  have c:bM a t=true:=hu a ();have c2:bM t a=false:=Jb c;rw[mD,z9n (by rw[c2];decide),aia,aia,Rh (by simpa using h) λu hu'=>hu u (by simp[hu'])]
theorem Vv{N:Nat}{B:List (List Int)}:∀{R:List (List Int)},(∀t∈R,N<=(B.filter λu=>bM u t).length)->(aZ (B++R)).take N=(aZ B).take N
 |[],_=>by rw[agi]
 | t::R,h=>by
  have ih:=Vv (N:=N) (B:=B) (R:=R) λu hu=>h u (by simp[hu]);have e:aZ (B++t::R)=mD t (aZ (B++R)):=wK (alB);have hc:=h t ();have hc:N<=((aZ B).filter λu=>bM u t).length:=by rw[((cG B).filter _).length_eq];show hc
  let⟨h1,h2⟩:=Rg kJ hc;have l1:(aZ B).length<=(aZ (B++R)).length:=by rw[(cG _).length_eq,(cG _).length_eq,z1d];omega
  rw[e,Rh () (by rw[ih];show h2),ih]
def Cut(N:Nat)(A B:List Wy):Prop:=∃R,A.Perm (B++R)/\∀t∈R,N<=(B.filter λu=>lt u t).length
section
variable{w h N:Nat}{A B:List Wy}
theorem K1:Cut N [] []:=⟨[],.refl _,λt ht=>by simp at ht⟩
theorem Cut.map{g:Wy->Wy}(hg:∀a b,lt (g a) (g b)=lt a b)(c:Cut N A B):Cut N (A.map g) (B.map g):=by
 let⟨R,p,q⟩:=c;show⟨R.map g,by rw[<-agw];show p.map g,λt ht=>?_⟩;let⟨u,hu,rfl⟩:=afW.mp ht;have e:((B.map g).filter λv=>lt v (g u))=(B.filter λv=>lt v u).map g:=by
  rw[List.filter_map];congr 2;funext v;show hg v u
 rw[e,z1g];show q u hu
theorem Cut.flat{F G:Nat->List Wy}:∀{ps:List Nat},(∀p∈ps,Cut N (F p) (G p))->Cut N (ps.flatMap F) (ps.flatMap G)
 |[],_=>K1
 | p ::ps,hc=>by
  let⟨R1,p1,q1⟩:=hc p ();let⟨R2,p2,q2⟩:=Cut.flat (ps:=ps) λq hq=>hc q (by simp[hq]);show⟨R1++R2,?_,λt ht=>?_⟩
  .rw[ahs,ahs];show (p1.append p2).trans ?_;rw[afM,afM];show .append_left _ ?_;rw[<-afM,<-afM];show ahy.append_right _
  .rw[ahs,List.filter_append,z1d];rcases agk.mp ht with ht |ht
   .have:=q1 t ht;omega
   .have:=q2 t ht;omega
theorem Cut.first(c:Cut N A B):cZ N A=cZ N B:=by
 let⟨R,p,q⟩:=c;unfold cZ;have e:aZ (A.map fl)=aZ (B.map fl++R.map fl):=wK (by rw[<-agw];show p.map fl);rw[e,Vv λt ht=>?_];let⟨u,hu,rfl⟩:=afW.mp ht;have e:((B.map fl).filter λv=>bM v (fl u))=(B.filter λv=>lt v u).map fl:=by rw[List.filter_map];rfl
 rw[e,z1g];show q u hu
theorem abT(h:A.Nodup):(A.map fl).Nodup:=aht fl (λa b hab e=>hab (aea e)) h
theorem JD(hn:A.Nodup):Cut N A (cZ N A):=by
 have hr:=wG (abT hn);show⟨((aZ (A.map fl)).drop N).map un,?_,λt ht=>?_⟩
 .unfold cZ;rw[<-agw,agh];have:=(cG (A.map fl)).symm.map un;rw[agj] at this;show (List.Perm.of_eq (by rw[show un ∘ fl=id from funext O5,List.map_id])).trans this
 .let⟨k,hk,rfl⟩:=afW.mp ht;have hl:N<(aZ (A.map fl)).length:=by
   rcases Nat.lt_or_ge N (aZ (A.map fl)).length with z |z
   .show z
   .rw[List.drop_eq_nil_of_le z] at hk;simp at hk
  have hr':pD ((aZ (A.map fl)).take N++(aZ (A.map fl)).drop N):=by rw[agh];show hr
  have hc:=(agd.mp hr').2.2;have e:((cZ N A).filter λu=>lt u (un k))=cZ N A:=List.filter_eq_self.mpr λu hu=>by
   let⟨q,hq,rfl⟩:=afW.mp hu;show bM (fl (un q)) (fl (un k))=true;rw[Q7 q (af5 hq),Q7 k (agE hk)];show hc q hq k hk
  rw[e];unfold cZ;rw[z1g,agg];omega
def zL(x:Nat)(m:Int)(cs:List Wy):List Wy:=if m=1 then[] else (cs.map (pre x)).map (sb (cI m))
def vG(w h:Nat)(T:Nat->Nat->Nat->Int)(M:Nat->Nat->Int):Nat->Nat->List Wy
 |0,_=>[(0,0,[])]
 |k+1,x=>cands w (λp=>zL p (M (h - 1 - k) p) (vG w h T M k p)) (T (h - 1 - k)) x
def yL(w h:Nat)(T:Nat->Nat->Nat->Int)(M:Nat->Nat->Int)(k x:Nat):List Wy:=zL x (M (h - 1 - k) x) (vG w h T M k x)
def vH(w h:Nat)(T:Nat->Nat->Nat->Int)(M:Nat->Nat->Int):List Wy:=(afI w).flatMap λx=>(yL w h T M (h - 1) x).map (dW (T 0 x 1))
def topC(N w h:Nat)(T:Nat->Nat->Nat->Int)(M:Nat->Nat->Int):List Wy:=(afI w).flatMap λx=>(Vr N w h T M (h - 1) x).map (dW (T 0 x 1))
theorem qK{x:Nat}{t:Wy}:t∈zL x m cs↔m≠1/\∃u∈cs,t=sb (cI m) (pre x u):=by
 unfold zL;split
 .rename_i e;simp[e]
 .rename_i e;rw[agj];constructor
  .intro h;let⟨u,hu,rfl⟩:=afW.mp h;show⟨e,u,hu,rfl⟩
  .rintro⟨_,u,hu,rfl⟩
   show afW.mpr ⟨u,hu,rfl⟩
theorem yM:∀{k x:Nat},(vG w h T M k x).Nodup
  |0,_=>by simp[vG]
  | k+1,x=>by
    show ((nr w x).flatMap λp=>(yL w h T M k p).map (dW (T (h - 1 - k) p (x+1 - p)))).Nodup
    unfold alU
    rw[ajA]
    show⟨λp _=>?_,?_⟩
    . have i1:((vG w h T M k p).map (pre p)).Nodup:=List.Pairwise.map _ (λa b hab e=>hab (by
        let⟨a1,a2,a3⟩:=a;let⟨b1,b2,b3⟩:=b
        simp only[pre,ahX,ajT,true_and] at e ⊢;show e)) yM
      have i2:(yL w h T M k p).Nodup:=by
        unfold yL zL
        split
        . show .nil
        . show aht _ (λa b hab e=>hab ?_) i1
          let⟨a1,a2,a3⟩:=a;let⟨b1,b2,b3⟩:=b
          simp only[sb,ahX] at e ⊢
          show⟨(),e.2⟩
      show aht _ (λa b hab e=>hab ?_) i2
      let⟨a1,a2,a3⟩:=a;let⟨b1,b2,b3⟩:=b
      simp only[dW,ahX] at e ⊢
      show⟨e.1,(),e.2.2⟩
    . have nd:(nr w x).Nodup:=List.nodup_range'
      show nd.imp fun {p q} hpq t ht u hu z=>?_
      let⟨t',ht',rfl⟩:=afW.mp ht
      let⟨u',hu',rfl⟩:=afW.mp hu
      let⟨_,t2,_,rfl⟩:=qK.mp ht'
      let⟨_,u2,_,rfl⟩:=qK.mp hu'
      have h2:((p:Nat):Int)::t2.2.2=((q:Nat):Int)::u2.2.2:=congrArg (λt:Wy=>t.2.2) z
      have h3:((p:Nat):Int)=((q:Nat):Int):=(aie h2).1
      show hpq ()
theorem Vw:∀{k x:Nat},Cut N (vG w h T M k x) (Q8 N w h T M k x)
 |0,_=>⟨[],.refl _,λt ht=>by simp at ht⟩
 | k +1,x=>by
  show Cut.flat λp _=>Cut.map (λa b=>Zz) ?_;show Cut N (zL p (M (h - 1 - k) p) (vG w h T M k p)) (KZ N p (M (h - 1 - k) p) (Q8 N w h T M k p));unfold zL KZ jR Cz;split
  .show K1
  .rw[<-(Vw (k:=k) (x:=p)).first];show ((JD yM).map λa b=>ZC).map λa b=>abS
theorem ac0{k x:Nat}:Cut N (yL w h T M k x) (Vr N w h T M k x):=by
 unfold yL Vr nq zL jR Cz;split
 .show K1
 .rw[<-(Vw (k:=k) (x:=x)).first];show ((JD yM).map λa b=>ZC).map λa b=>abS
theorem ZD:cZ N (topC N w h T M)=cZ N (vH w h T M):=by
 have c:Cut N (vH w h T M) (topC N w h T M):=Cut.flat λp _=>ac0.map (g:=dW (T 0 p 1)) λa b=>Zz;show c.first.symm
theorem ZF{h k:Nat}(hk:k+1<h):h - 1 - k=h - 1 - (k+1)+1:=()
theorem Ez:∀{k x:Nat} {t:Wy},x<w->k<h->(t∈yL w h T M k x↔∃l,l.length=k/\Pa w M (h - 1 - k) (x::l)/\t=vl T M (h - 1 - k) (x::l))
 | 0,x,t,hx,hk=>by
  unfold yL;rw[qK];constructor
  .rintro⟨hm,u,hu,rfl⟩
   have hu:u=(0,0,[]):=by simpa[vG] using hu
   subst hu;show⟨[],rfl,⟨hx,hm⟩,rfl⟩
  .rintro⟨l,hl,hP,rfl⟩
   cases aj8.mp hl;show⟨hP.2,(0,0,[]),by simp[vG],rfl⟩
 | k+1,x,t,hx,hk=>by
  have ey:h - 1 - k=h - 1 - (k+1)+1:=ZF hk;unfold yL;rw[qK];constructor
  .rintro⟨hm,u,hu,rfl⟩
   let⟨p,hp,hu⟩:=agG.mp (show u∈(nr w x).flatMap λp=>(yL w h T M k p).map (dW (T (h - 1 - k) p (x+1 - p))) from hu);let⟨v,hv,rfl⟩:=afW.mp hu;let⟨h1,h2,h3⟩:=(yK hx).mp hp;let⟨l,hl,hP,rfl⟩:=(Ez h1 ()).mp hv;rw[ey] at hP |-;show⟨p::l,by rw[afN,hl],⟨hx,hm,h2,h3,hP⟩,rfl⟩
  .rintro⟨l,hl,hP,rfl⟩
   cases l with
   |nil=>cases hl
   | cons p l=>
    let⟨_,hm,h2,h3,hP'⟩:=hP;have hl:l.length=k:=by simpa using hl
    show⟨hm,dW (T (h - 1 - k) p (x+1 - p)) (vl T M (h - 1 - k) (p::l)),?_,by rw[ey];rfl⟩;show _∈(nr w x).flatMap λp=>(yL w h T M k p).map (dW (T (h - 1 - k) p (x+1 - p)));rw[<-ey] at hP';show agG.mpr ⟨p,(yK hx).mpr ⟨hP'.lt,h2,h3⟩,aiv ((Ez hP'.lt ()).mpr ⟨l,hl,hP',rfl⟩)⟩
theorem Vx(h1:1<=h){t:Wy}:t∈vH w h T M↔∃s,Fre w h M s/\t=wS T M h s:=by
 constructor
 .intro ht;let⟨x,hx,hu⟩:=agG.mp ht;let⟨u,hv,rfl⟩:=afW.mp hu;let⟨l,hl,hP,rfl⟩:=(Ez (k:=h - 1) (h:=h) (z2e hx) ()).mp hv;rw[show h - 1 - (h - 1)=0 by omega] at hP |-;let⟨s,hs⟩:=Vu (x::l);have hlen:(x::l).length=h:=by rw[afN,hl];omega
  rw[hlen] at hs;have h0:s 0=x:=by
   obtain⟨k,rfl⟩:∃k,h=k+1:=⟨h - 1,()⟩;rw[aic,z1h] at hs;show (aie hs).1.symm
  rw[hs] at hP |-;show⟨s,(JC h1).mp hP,?_⟩;rw[<-aeg h1,h0]
 .rintro⟨s,q,rfl⟩
  have hP:=(JC h1).mpr q;rw[<-aeg h1];obtain⟨k,rfl⟩:∃k,h=k+1:=⟨h - 1,()⟩;have e:(afI (k+1)).map s=s 0::(afI k).map λy=>s (y+1):=by
   rw[aic,z1h,agj];rfl
  rw[e] at hP |-;show agG.mpr ⟨s 0,ahH.mpr (q.sm.lt 0 ()),aiv ((Ez (k:=k+1 - 1) (q.sm.lt 0 ()) ()).mpr ⟨(afI k).map λy=>s (y+1),(),?_,?_⟩)⟩
  .rw[show k+1 - 1 - (k+1 - 1)=0 by omega];show hP
  .rw[show k+1 - 1 - (k+1 - 1)=0 by omega]
theorem aei:(vH w h T M).Nodup:=by
  unfold vH alU
  rw[ajA]
  show⟨λp _=>?_,?_⟩
  . have:((vG w (h+1) T M (h - 1+1) p)).Nodup:=yM
    have i1:((vG w h T M (h - 1) p).map (pre p)).Nodup:=List.Pairwise.map _ (λa b hab e=>hab (by
        let⟨a1,a2,a3⟩:=a;let⟨b1,b2,b3⟩:=b
        simp only[pre,ahX,ajT,true_and] at e ⊢;show e)) yM
    have i2:(yL w h T M (h - 1) p).Nodup:=by
      unfold yL zL
      split
      . show .nil
      . show aht _ (λa b hab e=>hab ?_) i1
        let⟨a1,a2,a3⟩:=a;let⟨b1,b2,b3⟩:=b
        simp only[sb,ahX] at e ⊢
        show⟨(),e.2⟩
    show aht _ (λa b hab e=>hab ?_) i2
    let⟨a1,a2,a3⟩:=a;let⟨b1,b2,b3⟩:=b
    simp only[dW,ahX] at e ⊢
    show⟨e.1,(),e.2.2⟩
  . have nd:(afI w).Nodup:=ajG
    show nd.imp fun {p q} hpq t ht u hu z=>?_
    let⟨t',ht',rfl⟩:=afW.mp ht
    let⟨u',hu',rfl⟩:=afW.mp hu
    let⟨_,t2,_,rfl⟩:=qK.mp ht'
    let⟨_,u2,_,rfl⟩:=qK.mp hu'
    have h2:((p:Nat):Int)::t2.2.2=((q:Nat):Int)::u2.2.2:=congrArg (λt:Wy=>t.2.2) z
    have h3:((p:Nat):Int)=((q:Nat):Int):=(aie h2).1
    show hpq ()
end
section
variable{w h N:Nat}{m:Str}
def aej:aq->So:=(aQ (bF (aD (aO iK 3) (ak (bin (gv 0) (ci 0) cA) (ak (gv 3) (ak (gv 3) nA)))) (aH 5)) (GK 2 (bN 3 [5] (dB (gv 4)) (c7 (dg 3 (aW (aH 0) (aW (aH 1) (aW (aH 2) nilG))))) tT (iB (ak (gv 0) (ak (bin (gv 1) (gv 3) fY) (ak (gv 2) nA)))))))
theorem ac1{rd:Z->D}(h1:1<=h){C:Nat->List (Wg Z)}{x:Nat}(hx:x<w)(hC:(C x).length<=60)(hl:acc.length<=100000):
  aej [vA (tab w h T),e1,some (.lst acc),vA (.int (x:Int)),vA (cR rd (C x)),e5]= .nx [vA (tab w h T),e1,some (.lst (acc++((C x).map (dW (T 0 x 1))).map (mH rd))),vA (.int (x:Int)),vA (cR rd (C x)),vA (.int (T 0 x 1))]:=by
 have e0:iK [.lst ((afI w).map λx=>d9 (T 0 x)),.int (x:Int),.int (x:Int)]= .ok (.int (T 0 x 1)):=by
  have:=uf (T:=T 0 x) (p:=λx=>d9 (T 0 x)) (a:=x) (b:=x) hx () () rfl
  rwa [show x+1 - x=1 by omega] at this
 show aK (bw (aV (aB (aA rfl rfl (lD (α:=D) (x:=0) h1)) (aB rfl (au rfl))) e0) rfl) ?_;show (Vp (ds:=acc) rfl (bR (c:=mH rd) (h:=λt=>mH rd (dW (T 0 x 1) t)) (l:=C x) (gO rfl) () λt ht=>?_) ()).trans ?_
 .show cB rfl (iu (aB rfl (aB (x:= .int (t.2.1+T 0 x 1)) (aA rfl rfl rfl) (au rfl))))
 .rw[agj];rfl
theorem Ri{rd:Z->D}(h1:1<=h){C:Nat->List (Wg Z)}(hC:∀p,(C p).length<=60){e1:Option Ent}:∀{ps:List Nat} {acc:List D} {e3 e4 e5:Option Ent},(∀p∈ps,p<w)->acc.length+60*ps.length<=100000->
  ∃z3 z4 z5,forL (c7 (dg 2 (aW (aH 3) (aW (aH 4) nilG)))) aej (ps.map λ(p:Nat)=>D.tup [.int (p:Int),cR rd (C p)]) [vA (tab w h T),e1,some (.lst acc),e3,e4,e5] =
   .nx [vA (tab w h T),e1,some (.lst (acc++(ps.flatMap λp=>(C p).map (dW (T 0 p 1))).map (mH rd))),z3,z4,z5]
 |[],acc,e3,e4,e5,_,_=>⟨e3,e4,e5,by simp[forL]⟩
 | p::ps,acc,e3,e4,e5,hp,hl=>by
  rw[afN] at hl;have hpw:=hp p ();have hc:=hC p;let⟨z3,z4,z5,e⟩:=Ri h1 hC (e1:=e1) (ps:=ps) (acc:=acc++((C p).map (dW (T 0 p 1))).map (mH rd)) (e3:=vA (.int (p:Int))) (e4:=vA (cR rd (C p))) (e5:=vA (.int (T 0 p 1))) (λq hq=>hp q (by simp[hq])) ();show⟨z3,z4,z5,gF rfl (ac1 h1 hpw hc ()) (e.trans ?_)⟩;rw[ahs,agw,afM]
theorem M8{rd:Z->D}{st:Z}{gt:Nat->List (Wg Z)->List (Wg Z)}(hL:∀x cs,(gt x cs).length<=60)(h1:1<=h)(hw:w<=20):mU [tab w h T,.lst ((afI h).map λy=>qJ rd gt st w h T M (h - 1 - y))]= .ok (.lst (((afI w).flatMap λx=>(nq gt st w h T M (h - 1) x).map (dW (T 0 x 1))).map (mH rd))):=by
 let⟨z3,z4,z5,e⟩:=Ri (T:=T) (rd:=rd) h1 (C:=nq gt st w h T M (h - 1)) (λp=>Rb hL) (e1:=vA (.lst ((afI h).map λy=>qJ rd gt st w h T M (h - 1 - y)))) (ps:=afI w) (acc:=[]) (e3:=none) (e4:=none) (e5:=none) (λp hp=>z2e hp) ();show cO (aK (qH rfl) (aK (mq (Ey (p:=λp=>cR rd (nq gt st w h T M (h - 1) p)) (au (aA rfl rfl (lD (α:=D) (x:=0) h1))) rfl) e) (bJ rfl)))
theorem Tz(hN:N<=60)(h1:1<=h)(hw:w<=20):mU [tab w h T,.lst ((afI h).map λy=>aec N w h T M (h - 1 - y))]= .ok (.lst ((topC N w h T M).map qb)):=M8 (λx cs=>by have:=pR (N:=N) (cs:=cs);simp[Cz];omega) h1 hw
theorem abm(hN:N<=60)(hw:w<=20):(topC N w h T M).length<=100000:=by
 have:=G9 (N:=N) (F:=λx=>(Vr N w h T M (h - 1) x).map (dW (T 0 x 1))) (l:=afI w) λp _=>by rw[z1g];show Ra
 rw[z2d] at this;have h3:N*w<=60*20:=Nat.mul_le_mul hN hw;unfold topC;omega
theorem qL(hN:N<=60)(h1:1<=h)(hh:h<=20)(hw:w<=20):jk [tab w h T,bx w h M,.int (N:Int)]= .ok (.lst ((cZ N (vH w h T M)).map qb)):=by
 rw[<-ZD];show iw (bJ (Jz (abm hN hw) (aV (aB rfl (au (aV (aB rfl (aB rfl (au rfl))) ((acZ hN hh hw).trans (by rw[CG]))))) (Tz hN h1 hw)) rfl))
theorem ZG{k:D->R (Option D)}{c:α->D}{o:α->Option D}:∀{l:List α},(∀a∈l,k (c a)= .ok (o a))->lK k (l.map c)= .ok (l.filterMap o)
 |[],_=>rfl
 | a::l,h=>by
  rw[z1h,lK,h a (),HF,R.bO,ZG λb hb=>h b (by simp[hb]),R.bO];cases e:o a with
  |none=>rw[agT e];rfl
  |some d=>rw[agD e];rfl
theorem JF{caps:List Nat}{c:α->D}{o:α->Option D}{l:List α}(e1:fi ρ= .ok (l.map c))(hl:l.length<=1000000)
  (e2:∀a∈l,qj gt ft fe (Eb n caps ρ) (c a)= .ok (o a)):bN n caps fi gt ft fe ρ= .ok (.lst (l.filterMap o)):=by
 rw[bN,e1,R.bO,ZG e2,R.bO,cap,z9p (z0b (List.length_filterMap_le _ _) hl)]
theorem EY{ρ ρ1:aq}{x d:D}{b:Bool}(e1:gt x ρ= .ok ρ1)(e2:ft ρ1= .ok b)(e3:fe ρ1= .ok d):qj gt ft fe ρ x= .ok (if b=true then some d else none):=by
 rw[qj,e1,R.bO,e2,R.bO];cases b with
 |true=>rw[z9p rfl,z9p rfl,e3];rfl
 |false=>rw[z9n {},z9n {}]
theorem ZJ(e:u ρ= .ok (.int i)):Kl u ρ= .ok (.int (-i)):=by rw[Kl,e];rfl
def cnt(M:Nat->Nat->Int)(h:Nat)(s:Nat->Nat)(k:Int):Int:=((afI h).map λy=>if M y (s y)=k then (1:Int) else 0).sum
theorem Rj{p:α->Bool}{g:α->D}:∀{l:List α},((l.filterMap λa=>if p a=true then some (g a) else none).length:Int)=(l.map λa=>if p a=true then (1:Int) else 0).sum
 |[]=>rfl
 | a::l=>by
  rw[z1h,ahZ];cases e:p a with
  |true=>rw[agD (b:=g a) (by simp[e]),afN,z9p rfl,<-Rj (g:=g)];omega
  |false=>rw[agT (by simp[e]),z9n {},<-Rj (g:=g)];omega
theorem Rk(hh:h<=20)(q:jQ w h s){k:Int}:pJ [bx w h M,sm h s,.int k]= .ok (.int (cnt M h s k)):=by
 have e:cnt M h s k=(((afI h).filterMap λy=>if decide (M y (s y)=k)=true then some (D.int ((s y:Nat):Int)) else none).length:Int):=by
  rw[Rj];unfold cnt;simp only[decide_eq_true_eq]
 rw[e];show cO (bJ (aP (au (x:= .lst ((afI h).filterMap λy=>if decide (M y (s y)=k)=true then some (D.int ((s y:Nat):Int)) else none)) (JF (l:=afI h) (c:=λy=> .tup [row w (M y),.int ((s y:Nat):Int)]) (Vk (aB rfl (au rfl)) rfl rfl) (by rw[z2d];omega) λy hy=>?_)) rfl));show EY rfl (aX (aA (aA rfl rfl (lB (q.lt y (z2e hy)))) rfl jg)) rfl
theorem ZK:gn M h s=cnt M h s 2:=rfl
theorem Ro{p:Nat->Bool}:∀{l:List Nat},(l.map λa=>if p a=true then (1:Int) else 0).sum=0↔∀a∈l,p a=false
 |[]=>()
 | a ::l=>by
  have ih:=Ro (p:=p) (l:=l);have hp:∀l:List Nat,0<=(l.map λa=>if p a=true then (1:Int) else 0).sum:=λl=>by
   induction l with
   |nil=>show Int.le_refl 0
   |cons a l ih=>rw[z1h,ahZ];split <;> omega
  have:=hp l;rw[z1h,ahZ];cases e:p a with
  | true=>
   rw[z9p rfl];show⟨λz=>(),λz=>by have:=z a ();rw[e] at this;cases this⟩
  | false=>
   rw[z9n {},Int.zero_add,ih];show⟨λz b hb=>by rcases afR.mp hb with q |q;(· rw[q];show e);show z b q,λz b hb=>z b (by simp[hb])⟩
theorem nU{k:Int}:cnt M h s k=0↔∀y<h,M y (s y)≠k:=by
 have:cnt M h s k=((afI h).map λy=>if decide (M y (s y)=k)=true then (1:Int) else 0).sum:=by unfold cnt;simp only[decide_eq_true_eq]
 rw[this,Ro];show⟨λz y hy=>of_decide_eq_false (z y (ahH.mpr hy)),λz y hy=>z9f (z y (z2e hy))⟩
end
section
variable{w h k:Nat}{f M:Nat->Nat->Int}{m:Str}{s:Nat->Nat}
def tI(l:List Int):D:= .tup (l.map .int)
def dN(h:Nat)(s:Nat->Nat):List Int:=(afI h).map λy=>((s y:Nat):Int)
theorem abU:tI (dN h s)=sm h s:=by unfold tI dN;rw[agj];rfl
def ext(w:Nat)(l:List Int)(a:Int):List (List Int):=[a - 1,a,a+1].filterMap λx=>if (decide (0<=x) && decide (x<(w:Int)))=true then some (l++[x]) else none
def lst(l:List Int):Int:=l.getD (l.length - 1) 0
def CJ(w:Nat):Nat->List (List Int)
 |0=>(afI w).map λx=>[((x:Nat):Int)]
 |k+1=>(CJ w k).flatMap λl=>ext w l (lst l)
theorem Vy{k:Nat}:lst (dN (k+1) s)=((s k:Nat):Int):=by simp[lst,dN]
theorem Rp{k:Nat}:dN (k+1) s=dN k s++[((s k:Nat):Int)]:=by unfold dN;rw[ajS,agw];rfl
theorem Fb{r:List Int}{a:Int}:r∈ext w l a↔∃x,(x=a - 1\/x=a\/x=a+1)/\0<=x/\x<(w:Int)/\r=l++[x]:=by
 unfold ext;rw[aiE];constructor
 .rintro⟨x,hx,e⟩
  split at e
  .rename_i hb;cases e;simp only[afR,ahq,or_false] at hx;simp only[ag6,decide_eq_true_eq] at hb;show⟨x,hx,hb.1,hb.2,rfl⟩
  .cases e
 .rintro⟨x,hx,h0,h1,rfl⟩
  show⟨x,by simpa using hx,?_⟩;rw[z9p (by simp[h0,h1])]
theorem ZL{s':Nat->Nat}{k:Nat}(e:∀y<k,s y=s' y):dN k s=dN k s':=by
 unfold dN;show agC λy hy=>by rw[e y (z2e hy)]
theorem qM:∀{k:Nat} {l:List Int},l∈CJ w k↔∃s,jQ w (k+1) s/\l=dN (k+1) s
 | 0,l=>by
  unfold CJ;rw[afW];constructor
  .rintro⟨x,hx,rfl⟩
   show⟨λ_=>x,⟨λ_ _=>z2e hx,λy hy=>()⟩,rfl⟩
  .rintro⟨s,q,rfl⟩
   show⟨s 0,ahH.mpr (q.lt 0 ()),rfl⟩
 | k+1,l=>by
  unfold CJ;rw[agG];constructor
  .rintro⟨l',h',hl⟩
   let⟨s,q,rfl⟩:=qM.mp h';rw[Vy] at hl;let⟨x,hx,h0,h1,rfl⟩:=Fb.mp hl;let⟨p,rfl⟩:=agy h0;have e1:∀y<k+1,(λy=>if y=k+1 then p else s y) y=s y:=λy hy=>z9n ();show⟨λy=>if y=k+1 then p else s y,⟨λy hy=>?_,λy hy=>?_⟩,?_⟩
   .by_cases e:y=k+1
    .simp only[e,if_true];omega
    .simp only[e,if_false];show q.lt y ()
   .by_cases e:y=k
    .subst e;simp only[if_true,show ¬y=y+1 by omega,if_false];omega
    .simp only[show ¬y+1=k+1 by omega,show ¬y=k+1 by omega,if_false];show q.st y ()
   .rw[Rp (k:=k+1),ZL e1];simp
  .rintro⟨s,q,rfl⟩
   show⟨dN (k+1) s,qM.mpr ⟨s,⟨λy hy=>q.lt y (),λy hy=>q.st y ()⟩,rfl⟩,?_⟩;rw[Vy,Fb];have a:=q.st k ();have b:=q.lt (k+1) ();show⟨((s (k+1):Nat):Int),(),(),(),Rp⟩
theorem aek{a:Int}:(ext w l a).Nodup:=by
 have key:∀xs:List Int,xs.Nodup->(xs.filterMap λx=>if (decide (0<=x) && decide (x<(w:Int)))=true then some (l++[x]) else none).Nodup:=by
  intro xs
  induction xs with
  |nil=>intro _;show .nil
  | cons x xs ih=>
   intro hn;let⟨h1,h2⟩:=ah5.mp hn;cases q:(decide (0<=x) && decide (x<(w:Int))) with
   |false=>rw[agT (by simp only[q];rfl)];show ih h2
   | true=>
    rw[agD (b:=l++[x]) (by simp only[q];rfl)];show ah5.mpr ⟨λz=>?_,ih h2⟩;let⟨y,hy,e⟩:=aiE.mp z;by_cases qy:(decide (0<=y) && decide (y<(w:Int)))=true
    .rw[z9p qy] at e;have e:=List.append_cancel_left (agb e);have e:y=x:=by simpa using e
     show h1 (by rw[<-e];show hy)
    .rw[z9n qy] at e;cases e
 show key _ ()
theorem JG:∀{k:Nat},(CJ w k).Nodup
 | 0=>by
  unfold CJ;show List.pairwise_map.mpr (ajG.imp λ{a b} hab e=>hab ?_);have:((a:Nat):Int)=((b:Nat):Int):=(aie e).1;omega
 | k+1=>by
  unfold CJ alU;rw[ajA];show⟨λl _=>aek,(JG (k:=k)).imp λ{a b} hab x hx y hy e=>?_⟩;let⟨p,_,_,_,rfl⟩:=Fb.mp hx;let⟨q,_,_,_,rfl⟩:=Fb.mp hy;show hab (List.append_inj_left' e rfl)
end
section
variable{w h k:Nat}{f M:Nat->Nat->Int}{m:Str}{s:Nat->Nat}
theorem ac2{p q:aq->R Bool}(e1:p ρ= .ok true):xW p q ρ= .ok true:=by rw[xW,e1,R.bO,z9p rfl]
theorem Hf{l:List D}(h:∀d∈l,dep d<=n):deps l<=n:=by
 have:=Kg (c:=id) (n:=n) (l:=l) h
 rwa [List.map_id] at this
theorem JH{s':Nat->Nat}(h1:1<=h)(e:∀y<h,s y=s' y):cost h T s=cost h T s':=by
 unfold cost;rw[e 0 h1];congr 2;show agC λy hy=>?_;have hy:y+1<h:=by have:=z2e hy;omega
 unfold fare;rw[e (y+1) hy,e (y+1 - 1) ()]
def mZ(M:Nat->Nat->Int):Nat->Nat->Int:=λy x=>if M y x=1 then 1 else 0
theorem Rq(hh:h<=20)(hw:w<=20):jP [bx w h M]= .ok (bx w h (mZ M)):=by
 show cO (bJ (aP (au (bR (c:=λy=>row w (M y)) (h:=λy=>row w (mZ M y)) (l:=afI h) (dZ rfl) (by rw[z2d];omega) λy hy=>?_)) rfl));show cB rfl (aP (au (bR (c:=λx=>D.int (M y x)) (h:=λx=>D.int (mZ M y x)) (l:=afI w) (dZ rfl) (by rw[z2d];omega) λx hx=>?_)) rfl);show cB rfl ?_;unfold mZ;by_cases c:M y x=1
 .rw[z9p c];show KR (aX (aA rfl rfl (by rw[jg,z9t c]))) rfl
 .rw[z9n c];show KY (aX (aA rfl rfl (by rw[jg,z9f c]))) rfl
def M9(l:List Int):Nat->Nat:=λy=>(l.getD y 0).toNat
theorem K3{y:Nat}(hy:y<h):M9 (dN h s) y=s y:=by simp[M9,dN,agZ,hy]
def kyL(h:Nat)(T:Nat->Nat->Nat->Int)(l:List Int):List Int:=cost h T (M9 l)::l
def FW(M:Nat->Nat->Int)(h:Nat)(l:List Int):Bool:=decide (cnt M h (M9 l) 1=0)
def bD(w h:Nat)(T:Nat->Nat->Nat->Int)(M:Nat->Nat->Int):List (List Int):=((CJ w (h - 1)).filter (FW M h)).map (kyL h T)
theorem qN{k:Int}:cnt M h (M9 (dN h s)) k=cnt M h s k:=by
 unfold cnt;congr 1;show agC λy hy=>by rw[K3 (z2e hy)]
theorem JK(h1:1<=h):kyL h T (dN h s)=cost h T s::dN h s:=by
 unfold kyL;rw[JH h1 λy hy=>K3 hy]
theorem Rr(h1:1<=h)(hl:l∈CJ w (h - 1)):∃s,jQ w h s/\l=dN h s:=by
 have:=qM.mp hl
 rwa [show h - 1+1=h by omega] at this
theorem Vz:Fre w h (mZ M) s↔jQ w h s/\cnt M h s 1=0:=by
 rw[nU];have e:∀y,mZ M y (s y)≠1↔M y (s y)≠1:=λy=>by unfold mZ;split <;> simp_all
 show⟨λq=>⟨q.sm,λy hy=>(e y).mp (q.ne y hy)⟩,λq=>⟨q.1,λy hy=>(e y).mpr (q.2 y hy)⟩⟩
theorem ael:gn (mZ M) h s=0:=by
 rw[ZK,nU];intro y _;unfold mZ;split <;> decide
theorem ZM:fl (wS T (mZ M) h s)=0::cost h T s::dN h s:=by
 show (-gn (mZ M) h s)::cost h T s::dN h s=_;rw[ael];rfl
theorem Rt(h1:1<=h):((vH w h T (mZ M)).map fl).Perm ((bD w h T M).map (0:: ·)):=by
 show (alb (abT aei) ?_).mpr λk=>?_
 .unfold bD;rw[agj];show aht _ (λa b hab e=>hab ?_) (JG.sublist akF);show (aie (aie e).2).2
 .constructor
  .intro hk;let⟨t,ht,rfl⟩:=afW.mp hk;let⟨s,q,rfl⟩:=(Vx h1).mp ht;let⟨q1,q2⟩:=Vz.mp q;rw[ZM];show afW.mpr ⟨_,afW.mpr ⟨dN h s,ahd.mpr ⟨qM.mpr ⟨s,by rw[show h - 1+1=h by omega];show⟨q1,rfl⟩⟩,?_⟩,rfl⟩,?_⟩
   .unfold FW;rw[qN];show z9t q2
   .rw[JK h1]
  .intro hk;let⟨k',hk',rfl⟩:=afW.mp hk;let⟨l,hl,rfl⟩:=afW.mp hk';let⟨hl1,hl2⟩:=ahd.mp hl;let⟨s,q,rfl⟩:=Rr h1 hl1;unfold FW at hl2;rw[qN] at hl2;show afW.mpr ⟨_,(Vx h1).mpr ⟨s,Vz.mpr ⟨q,z9o hl2⟩,rfl⟩,?_⟩;rw[ZM,JK h1]
theorem abV{p:List Int}:∀{l:List (List Int)},mD (0::p) (l.map (0:: ·))=(mD p l).map (0:: ·)
 |[]=>rfl
 | q::l=>by
  rw[z1h,mD,mD];have e:bM (0::p) (0::q)=bM p q:=by rw[bM,z9p rfl]
  rw[e];split
  .rfl
  .rw[z1h,abV]
theorem WX:∀{l:List (List Int)},aZ (l.map (0:: ·))=(aZ l).map (0:: ·)
 |[]=>rfl
 |p::l=>by rw[z1h,aZ,WX,abV];rfl
theorem ju{k:List Int}(h:k∈aZ (bD w h T M)):∃c l,k=c::l:=by
 let⟨l,_,rfl⟩:=afW.mp ((cG _).mem_iff.mp h);show⟨_,_,rfl⟩
def cwD(t:Wy):D:= .tup [.int t.2.1,.tup (t.2.2.map .int)]
theorem WY(h1:1<=h):(cZ N (vH w h T (mZ M))).map cwD=((aZ (bD w h T M)).take N).map dG:=by
 unfold cZ;rw[wK (Rt h1),WX,<-akj,agj,agj];show agC λk hk=>?_;let⟨c,l,rfl⟩:=ju (af5 hk);rfl
theorem JL(h1:1<=h):(cZ N (vH w h T (mZ M)))=((aZ (bD w h T M)).take N).map λk=>un (0::k):=by
 unfold cZ;rw[wK (Rt h1),WX,<-akj,agj];rfl
theorem Av(hm:m= "worth"\/m= "joins")(o:Ok w h f)(e:eZ [d,bx w h f]= .ok (bx w h M))(hN:1<=N)(hN2:N<=60):
  pK [bx w h f,.int (N:Int),.str m,d]= .ok (.lst (((aZ (bD w h (tbl m w h f) M)).take N).map dG)):=by
 rw[<-WY o.h1];show iw (aK (bw (aV (aB rfl (aB rfl (au rfl))) (uK hm o e)) rfl) (aK (cQ (rJ (eG (b:=true) (aX (aV (au rfl) Vt))) (eG (b:=true) (aX (Bw rfl rfl (WT ()) rfl (WT ()))))) rfl) (bJ (bR (c:=qb) (h:=cwD) (l:=cZ N (vH w h (tbl m w h f) (mZ M))) (gO (aV (aB rfl (aB (aV (au rfl) (Rq o.h2 o.w2)) (au rfl))) (qL hN2 o.h1 o.h2 o.w2))) (by have:=pR (N:=N) (cs:=vH w h (tbl m w h f) (mZ M));omega) λt ht=>?_))));show cB rfl (iu (aB rfl (au rfl)))
theorem Ru{p:α->Bool}:∀{l:List α},boolsOf (l.map λa=>D.bl (p a))=some (l.map p)
 |[]=>rfl
 |a::l=>by rw[z1h,boolsOf,Ru];rfl
theorem ac3:(afI h).any (λy=>decide (M y (s y)=1))= !decide (cnt M h s 1=0):=by
 by_cases c:cnt M h s 1=0
 .rw[z9t c];show List.any_eq_false.mpr λy hy=>?_;have:=nU.mp c y (z2e hy);simpa using this
 .rw[z9f c];cases q:(afI h).any (λy=>decide (M y (s y)=1)) with
  |true=>rfl
  | false=>show absurd (nU.mpr λy hy=>by
    have:=List.any_eq_false.mp q y (ahH.mpr hy);simpa using this) c
theorem abn(hh:h<=20)(q:jQ w h s):vB [sm h s,bx w h M]= .ok (.bl (!decide (cnt M h s 1=0))):=by
 rw[<-ac3];show cO (bJ (aP (au (bR (c:=λy=> .tup [row w (M y),.int ((s y:Nat):Int)]) (h:=λy=> .bl (decide (M y (s y)=1))) (l:=afI h) (Vk (aB rfl (au rfl)) rfl rfl) (by rw[z2d];omega) λy hy=>?_)) ?_))
 .show cB rfl (aA (aA rfl rfl (lB (q.lt y (z2e hy)))) rfl jg)
 .rw[Wu,Ru];show R.ok (D.bl (((afI h).map λy=>decide (M y (s y)=1)).any id))=_;rw[List.any_map];rfl
def lc(w h:Nat)(T:Nat->Nat->Nat->Int)(M:Nat->Nat->Int):Int:=((aZ (bD w h T M)).getD 0 []).getD 0 0
theorem ac4(h1:1<=h)(q:jQ w h s)(c:cnt M h s 1=0):∃b l r,aZ (bD w h T M)=(b::l)::r:=by
 have hm:kyL h T (dN h s)∈aZ (bD w h T M):=(cG _).mem_iff.mpr (afW.mpr ⟨dN h s,ahd.mpr ⟨qM.mpr ⟨s,by rw[show h - 1+1=h by omega];show⟨q,rfl⟩⟩,by unfold FW;rw[qN];show z9t c⟩,rfl⟩);cases e:aZ (bD w h T M) with
 |nil=>rw[e] at hm;simp at hm
 | cons k r=>
  let⟨b,l,rfl⟩:=ju (w:=w) (h:=h) (T:=T) (M:=M) (k:=k) (by rw[e];show afT);show⟨b,l,r,rfl⟩
theorem TF(hm:m= "worth"\/m= "joins")(o:Ok w h f)(e:eZ [d,bx w h f]= .ok (bx w h M))(q:jQ w h s):
  jt [bx w h f,sm h s,.str m,d]= .ok (.bl (decide (cnt M h s 1=0) && decide (cost h (tbl m w h f) s=lc w h (tbl m w h f) M))):=by
 have em:=abn (M:=M) o.h2 q;by_cases c:cnt M h s 1=0
 .rw[z9t c] at em |-;let⟨b,l,r,er⟩:=ac4 (T:=tbl m w h f) o.h1 q c;have e1:=qL (N:=1) (T:=tbl m w h f) (M:=mZ M) {} o.h1 o.h2 o.w2;rw[JL o.h1,er] at e1;have el:lc w h (tbl m w h f) M=b:=by unfold lc;rw[er];rfl
  rw[el,Bool.true_and];show iw (aK (bw (aV (aB rfl (aB rfl (au rfl))) (uK hm o e)) rfl) (aK (mQ (aV (aB rfl (au rfl)) (vC o q))) (aK (cQ (aX (aV (aB rfl (au rfl)) em)) rfl) (aK (bw (aA (aV (aB rfl (aB (aV (au rfl) (Rq o.h2 o.w2)) (au rfl))) e1) rfl (yj (i:=0) rfl)) rfl) (bJ (aA (aV (aB rfl (au rfl)) (FQ o.h1 o.h2 q)) rfl jg))))))
 .rw[z9f c] at em |-;show iw (aK (bw (aV (aB rfl (aB rfl (au rfl))) (uK hm o e)) rfl) (aK (mQ (aV (aB rfl (au rfl)) (vC o q))) (ou (jL (aX (aV (aB rfl (au rfl)) em)) (bJ rfl)))))
theorem VB:∀{L:List (List Int)},(∀k∈L,∃c l,k=c::l)->zF (L.map dG)=some L
 |[],_=>rfl
 | k::L,hk=>by
  let⟨c,l,rfl⟩:=hk k ();rw[z1h,zF,VB λk' h'=>hk k' (by simp[h'])];have:Qz (dG (c::l))=some (c::l):=by simp[dG,Qz,zx]
  rw[this]
theorem CK{p:α->Bool}{g:α->D}:∀{l:List α},(l.filterMap λa=>if p a=true then some (g a) else none)=(l.filter p).map g
 |[]=>rfl
 | a::l=>by
  cases e:p a with
  |true=>rw[agD (b:=g a) (by simp[e]),akn,z9p e,z1h,CK]
  |false=>rw[agT (by simp[e]),akn,z9n (by simp[e]),CK]
theorem abo{L:List (List Int)}{v:aq->R D}(e:u ρ= .ok (.lst (L.map dG)))(e2:v ρ= .ok (.int (N:Int))):oE u (λ_=> .ok none) (λρ=>(v ρ).bind Ib) ρ= .ok (.lst ((L.take N).map dG)):=by
 have e2':(λρ=>(v ρ).bind Ib) ρ= .ok (some (N:Int)):=by
  show (v ρ).bind Ib=_;rw[e2];rfl
 unfold oE;rw[e,e2'];show R.ok (D.lst (sE (L.map dG) none (some (N:Int))))=_;have e3:∀{n d:Nat},HT.sIx n d (some (N:Int))=min N n:=λ{n d}=>by
  show (if (N:Int)<0 then ((N:Int)+(n:Int)).toNat else min (N:Int).toNat n)=min N n;rw[z9n ()];rfl
 rw[sE,e3,Zr,akB,ah0,<-akj,z1g,<-aiX,ai6]
theorem VD(k:List Int):dep (dG k)<=2:=by
 cases k with
 |nil=>show ahp _
 | cons c l=>
  have:deps (l.map D.int)<=0:=Hf λd hd=>by let⟨i,_,rfl⟩:=afW.mp hd;show z0g _
  show max 0 (max (deps (l.map D.int)+1) 0)+1<=2;omega
theorem Hg{L:List (List Int)}:dep (.lst (L.map dG))<=40:=by
 have:deps (L.map dG)<=2:=Hf λd hd=>by let⟨k,_,rfl⟩:=afW.mp hd;show VD k
 show deps (L.map dG)+1<=40;omega
end
abbrev iW:=Wg Int
def CN(t:iW):List Int:=[t.1,t.2.1,t.2.2]
abbrev nO:iW->D:=mH D.int
abbrev Fd:List iW->D:=cR D.int
section
variable{n w h:Nat}{g:Nat->Int}
variable{C:Nat->List iW}{T:Nat->Nat->Int}
end
section
variable{n w h:Nat}{g:Nat->Int}
theorem w5:∀{r:List (List Int)} {a:List Int},let b:=r.foldl (λm x=>if bM x m then x else m) a
  (b=a\/b∈r)/\bM a b=false/\∀t∈r,bM t b=false
 |[],a=>⟨.inl rfl,jM a,λt h=>by cases h⟩
 | x ::r,a=>by
  simp only[akv];have tr:∀{p q b:List Int},bM p q=false->bM q b=false->bM p b=false:=λ{p q b} h1 h2=>by
   cases z:bM p b with
   |false=>rfl
   | true=>
    by_cases e:p=q
    .rw[e] at z;rw[h2] at z;cases z
    .have:=jq (qC e h1) z;rw[h2] at this;cases this
  cases q:bM x a with
  | true=>
   simp only[if_true];let⟨h1,h2,h3⟩:=w5 (r:=r) (a:=x);have ax:bM a x=false:=by
    cases z:bM a x with
    |false=>rfl
    |true=>have:=jq z q;rw[jM] at this;cases this
   show⟨.inr (h1.elim (λe=>by rw[e];show afT) λm=>z2f _ m),tr ax h2,λt ht=>?_⟩;rcases afR.mp ht with rfl |ht
   .show h2
   .show h3 t ht
  | false=>
   simp only[af7,if_false];let⟨h1,h2,h3⟩:=w5 (r:=r) (a:=a);show⟨h1.imp id λm=>z2f _ m,h2,λt ht=>?_⟩;rcases afR.mp ht with rfl |ht
   .show tr q h2
   .show h3 t ht
theorem ug(h:ts≠[]):jf ts∈ts/\∀t∈ts,bM t (jf ts)=false:=by
 cases ts with
 |nil=>show absurd rfl h
 | cons a r=>
  let⟨h1,h2,h3⟩:=w5 (r:=r) (a:=a);show⟨h1.elim (λe=>by rw[jf,e];show afT) λm=>z2f _ m,λt ht=>?_⟩;rcases afR.mp ht with rfl |ht
  .show h2
  .show h3 t ht
abbrev dh:=Int×Int
def pU(p:dh):List Int:=[p.1,p.2]
def mW(a b:dh):Bool:=bM (pU a) (pU b)
theorem Rv{a b:dh}(h:pU a=pU b):a=b:=by
 let⟨a1,a2⟩:=a;let⟨b1,b2⟩:=b;simp[pU] at h;rw[h.1,h.2]
def vI(L:List dh)(m:dh):Prop:=m∈L/\∀x∈L,mW x m=false
theorem vI.one{a b:dh}(h1:vI L a)(h2:vI L b):a=b:=by
 by_cases e:a=b
 .show e
 .have:=qC (λz=>e (Rv z)) (h2.2 a h1.1);have q:=h1.2 b h2.1;show absurd (this.symm.trans q) {}
def kW(L:List dh):dh:=((jf (L.map pU)).getD 0 0,(jf (L.map pU)).getD 1 0)
theorem ac5(h:L≠[]):jf (L.map pU)=pU (kW L):=by
 let⟨h1,_⟩:=ug (ts:=L.map pU) (by simpa using h);let⟨p,_,e⟩:=afW.mp h1;unfold kW;rw[<-e];rfl
theorem oJ(h:L≠[]):vI L (kW L):=by
 let⟨h1,h2⟩:=ug (ts:=L.map pU) (by simpa using h);rw[ac5 h] at h1 h2;let⟨p,hp,e⟩:=afW.mp h1;show⟨by rw[<-Rv e];show hp,λx hx=>h2 _ (aiv hx)⟩
def dF(L:List dh):List iW:=if L=[] then[] else[((kW L).1,(kW L).2,(L.count (kW L):Int))]
abbrev Hh(t:iW):dh:=(t.1,t.2.1)
def sO(cs:List iW):dh:=((jf (cs.map CN)).getD 0 0,(jf (cs.map CN)).getD 1 0)
def gQ(m:dh)(cs:List iW):List Int:=(cs.filter λt=>decide (t.1=m.1) && decide (t.2.1=m.2)).map (·.2.2)
def gR(cs:List iW):List iW:=if cs=[] then[] else[((sO cs).1,(sO cs).2,(gQ (sO cs) cs).sum)]
theorem q8{cs:List iW}:(gR cs).length<=1:=by unfold gR;split <;> simp
theorem ac6{cs:List iW}(h:cs≠[]):vI (cs.map Hh) (sO cs):=by
 let⟨h1,h2⟩:=ug (ts:=cs.map CN) (by simpa using h);let⟨t,ht,e⟩:=afW.mp h1;have eb:sO cs=Hh t:=by unfold sO;rw[<-e];rfl
 rw[eb];show⟨aiv ht,λx hx=>?_⟩;let⟨u,hu,rfl⟩:=afW.mp hx;have:=h2 _ (aiv hu);rw[<-e] at this;cases z:mW (Hh u) (Hh t) with
 |false=>rfl
 | true=>
  have z2:bM (CN u) (CN t)=true:=by
   let⟨u1,u2,u3⟩:=u;let⟨t1,t2,t3⟩:=t;simp only[mW,pU,Hh,CN,bM] at z |-;by_cases e1:u1=t1
   .rw[z9p e1] at z |-;by_cases e2:u2=t2
    .rw[z9p e2] at z;cases z
    .rw[z9n e2] at z |-;show z
   .rw[z9n e1] at z |-;show z
  rw[this] at z2;cases z2
end
section
variable{w h:Nat}{m:Str}
theorem FZ:∀cs:List iW,pH (cs.map nO)=some (cs.map CN)
 |[]=>rfl
 | t::cs=>by
  rw[z1h,z1h];show (intsOf [.int t.1,.int t.2.1,.int t.2.2]).bind (λn=>(pH (cs.map nO)).map (n:: ·))=_;rw[FZ cs];rfl
theorem ZP{m:dh}{cs:List iW}:(cs.filterMap λt=>if (decide (t.1=m.1) && decide (t.2.1=m.2))=true then some (D.int t.2.2) else none)=(gQ m cs).map .int:=by
 unfold gQ
 induction cs with
 |nil=>rfl
 | cons t cs ih=>
  cases q:(decide (t.1=m.1) && decide (t.2.1=m.2)) with
  |true=>rw[agD (b:=D.int t.2.2) (by simp only[q];rfl),aj9 (by simpa using q),z1h,z1h,ih]
  |false=>rw[agT (by simp only[q];rfl),alI (by simpa using q),ih]
theorem CP{cs:List iW}(hl:cs.length<64):jX [.lst (cs.map nO)]= .ok (Fd (gR cs)):=by
 by_cases hc:cs=[]
 .subst hc;show cO (ou (jL (eG (uJ (ds:=[]) rfl)) (bJ (fM rfl))))
 .have hcb:(cs.map nO).isEmpty=false:=by cases cs <;> simp_all
  let⟨h1,_⟩:=ug (ts:=cs.map CN) (by simpa using hc);let⟨t,ht,e⟩:=afW.mp h1;have eb:sO cs=(t.1,t.2.1):=by unfold sO;rw[<-e];rfl
  have em:KH [.lst (cs.map nO)]= .ok (.tup [.int t.1,.int t.2.1,.int t.2.2]):=by
   rw[KH,FZ];show (if _ then _ else _)=_;rw[z9p (by rw[z1g];show List.length_pos_iff.mpr hc),<-e];rfl
  have eg:Fd (gR cs)= .lst [.tup [.int t.1,.int t.2.1,.int (gQ (sO cs) cs).sum]]:=by unfold gR;rw[z9n hc,eb];rfl
  rw[eg];have es:Ie (aD KH (ak (gv 0) nA)) (λ_=> .ok none) (λρ=>(((ci 2):aq->R D) ρ).bind Ib) [vA (.lst (cs.map nO)),none,none,none]= .ok (.tup [.int t.1,.int t.2.1]):=by
   unfold Ie;rw[aP (au rfl) em];rfl
  show cO (aK (cQ ((eG (uJ (ds:=cs.map nO) rfl)).trans (by rw[hcb];rfl)) rfl) (aK (bw es rfl) (aK (bw (d:= .lst ((gQ (sO cs) cs).map .int)) ?_ rfl) (bJ (fM (au (iu (aB rfl (aB rfl (au (aP (au rfl) ?_)))))))))))
  .rw[<-ZP];show JF (c:=nO) (l:=cs) (gO rfl) () λu hu=>?_;rw[eb];show EY rfl ?_ rfl;by_cases q:u.1=t.1
   .rw[z9t q,Bool.true_and];show oh (aX (aA rfl rfl (by rw[jg,z9t q]))) (aX (aA rfl rfl jg))
   .rw[z9f q,alM];show yh (aX (aA rfl rfl (by rw[jg,z9f q])))
  .have:=Ej (c:=λi:Int=>i) (l:=gQ (sO cs) cs);simpa using this
theorem abp{cs:List iW}{x:Nat}(hl:cs.length<64):gH [.int (x:Int),.lst (cs.map nO)]= .ok (Fd (gR cs)):=aV (au rfl) (CP hl)
end
abbrev gU(_:Nat)(cs:List iW):List iW:=gR cs
section
variable{w h a y:Nat}
end
section
variable{w h a:Nat}
theorem JM{k x:Nat}:jT gU 1 w h T M (k+1) x=cands w (nq gU 1 w h T M k) (T (h - 1 - k)) x:=rfl
theorem zM{x:Nat}{cs:List iW}:(jR gU x m cs).length<=1:=by
 unfold jR;split
 .simp
 .rw[z1g];show q8
theorem zN{α β:Type}{F:α->List β}:∀{l:List α},(∀a∈l,(F a).length<=1)->(l.flatMap F).length<=l.length
 |[],_=>()
 | a::l,h=>by
  rw[ahs,z1d,afN];have h1:=h a ();have h2:=zN (l:=l) λb hb=>h b (by simp[hb]);omega
theorem ZQ:∀{k x:Nat},(jT gU 1 w h T M k x).length<64
 |0,_=>by simp[jT]
 | k+1,x=>by
  rw[JM];unfold cands;have:=zN (F:=λp=>(nq gU 1 w h T M k p).map (dW (T (h - 1 - k) p (x+1 - p)))) (l:=nr w x) λp _=>by rw[z1g];show zM
  have h2:=Q6 (w:=w) (x:=x);omega
end
section
variable{w h:Nat}{m:Str}
theorem Nb(hh:h<=20)(hw:w<=20):nM [tab w h T,bx w h M]= .ok (.lst ((afI h).map (qJ D.int gU 1 w h T M)).reverse):=by
 show iw ?_;show (match allOf (λx=>lF x gH [tab w h T,bx w h M,.int 1]) with | .ok r=>So.rt r |_=> .bad)=_;have e:∀a,lF a gH [tab w h T,bx w h M,.int 1]=_:=λa=>Rf (a:=a) (rd:=D.int) (st:=1) (gt:=gU) (T:=T) (M:=M) (λx cs=>z0b q8 {}) (λk x hk=>abp ZQ) hh hw;rw[Qh e]
end
section
variable{w h:Nat}
def gJ(c:Int)(v:dh):dh:=(v.1,v.2+c)
def kY(c:Int)(v:dh):dh:=(v.1 - c,v.2)
theorem Nf{a b:dh}:mW (gJ c a) (gJ c b)=mW a b:=by
 let⟨a1,a2⟩:=a;let⟨b1,b2⟩:=b;simp only[mW,pU,gJ,bM];by_cases e1:a1=b1
 .rw[z9p e1,z9p e1];by_cases e:a2=b2
  .rw[z9p (),z9p e]
  .rw[z9n (),z9n e];show decide_eq_decide.mpr ()
 .rw[z9n e1,z9n e1]
theorem Rw{a b:dh}:mW (kY c a) (kY c b)=mW a b:=by
 let⟨a1,a2⟩:=a;let⟨b1,b2⟩:=b;simp only[mW,pU,kY,bM];by_cases e:a1=b1
 .rw[z9p (),z9p e]
 .rw[z9n (),z9n e];show decide_eq_decide.mpr ()
theorem Ng{a b:dh}(h:gJ c a=gJ c b):a=b:=by
 let⟨a1,a2⟩:=a;let⟨b1,b2⟩:=b;simp only[gJ,ahX] at h |-;show⟨h.1,()⟩
theorem Rx{a b:dh}(h:kY c a=kY c b):a=b:=by
 let⟨a1,a2⟩:=a;let⟨b1,b2⟩:=b;simp only[kY,ahX] at h |-;show⟨(),h.2⟩
theorem Ga{g:dh->dh}(hi:∀a b,g a=g b->a=b)(m:dh):∀L:List dh,(L.map g).count (g m)=L.count m
 |[]=>rfl
 | a ::L=>by
  rw[z1h,List.count_cons,List.count_cons,Ga hi m L];by_cases e:a=m
  .rw[e];simp
  .have e2:¬g a=g m:=λz=>e (hi _ _ z);simp[e,e2]
theorem q9{g:dh->dh}{gW:iW->iW}(hi:∀a b,g a=g b->a=b)(hlt:∀a b,mW (g a) (g b)=mW a b)(hg:∀t,gW t=((g (Hh t)).1,(g (Hh t)).2,t.2.2))(L:List dh):dF (L.map g)=(dF L).map gW:=by
 by_cases hL:L=[]
 .subst hL;rfl
 .have hm:=oJ hL;have e:kW (L.map g)=g (kW L):=vI.one (oJ (by simpa using hL)) ⟨aiv hm.1,λx hx=>by
   let⟨u,hu,rfl⟩:=afW.mp hx;rw[hlt];show hm.2 u hu⟩
  unfold dF;rw[z9n hL,z9n (by simpa using hL),e,Ga hi,z1h,hg];rfl
theorem TJ{m:dh}{a b:List iW}:gQ m (a++b)=gQ m a++gQ m b:=by unfold gQ;rw[List.filter_append,agw]
theorem TV{m:dh}(h:∀x∈L,mW x m=false):(gQ m (dF L)).sum=(L.count m:Int):=by
 by_cases hL:L=[]
 .subst hL;rfl
 .have hm:=oJ hL;unfold dF;rw[z9n hL];by_cases e:kW L=m
  .rw[e];simp[gQ]
  .have n:m∉L:=λz=>e (vI.one hm ⟨z,h⟩);have e2:(decide ((kW L).1=m.1) && decide ((kW L).2=m.2))=false:=by
    cases q:(decide ((kW L).1=m.1) && decide ((kW L).2=m.2)) with
    |false=>rfl
    | true=>
     simp only[ag6,decide_eq_true_eq] at q;show absurd (akk q.1 q.2) e
   rw[List.count_eq_zero.mpr n];unfold gQ;rw[alI (by simp only[e2];show agf)];rfl
theorem Gb{m:dh}{L:α->List dh}:∀{P:List α},(∀p∈P,∀x∈L p,mW x m=false)->(gQ m (P.flatMap λp=>dF (L p))).sum=((P.flatMap L).count m:Int)
 |[],_=>rfl
 | p::P,h=>by
  rw[ahs,ahs,TJ,List.sum_append,TV λx hx=>h p afT x hx,Gb λq hq=>h q (z2f _ hq),List.count_append];omega
theorem w6(P:List α)(L:α->List dh):gR (P.flatMap λp=>dF (L p))=dF (P.flatMap L):=by
 by_cases hA:P.flatMap L=[]
 .have hp:∀p∈P,L p=[]:=λp hp=>by
   cases q:L p with
   |nil=>rfl
   | cons a r=>
    have:a∈P.flatMap L:=agG.mpr ⟨p,hp,by rw[q];show afT⟩;rw[hA] at this;cases this
  have:P.flatMap (λp=>dF (L p))=[]:=List.flatMap_eq_nil_iff.mpr λp hq=>by rw[hp p hq];rfl
  rw[this,hA];rfl
 .have hm:=oJ hA;let⟨p0,hp0,hm0⟩:=agG.mp hm.1;have ne0:L p0≠[]:=List.ne_nil_of_mem hm0;have e0:kW (L p0)=kW (P.flatMap L):=vI.one (oJ ne0) ⟨hm0,λx hx=>hm.2 x (agG.mpr ⟨p0,hp0,hx⟩)⟩;have t0:((kW (L p0)).1,(kW (L p0)).2,((L p0).count (kW (L p0)):Int))∈P.flatMap λp=>dF (L p):=agG.mpr ⟨p0,hp0,by unfold dF;rw[z9n ne0];show afT⟩;have hne:=List.ne_nil_of_mem t0;have eb:sO (P.flatMap λp=>dF (L p))=kW (P.flatMap L):=by
   show vI.one (ac6 hne) ⟨?_,λx hx=>?_⟩
   .rw[<-e0];show afW.mpr ⟨_,t0,rfl⟩
   .let⟨t,ht,rfl⟩:=afW.mp hx;let⟨p,hp,ht⟩:=agG.mp ht;unfold dF at ht;by_cases q:L p=[]
    .rw[z9p q] at ht;cases ht
    .rw[z9n q] at ht;have ht:=af3.mp ht;subst ht;show hm.2 _ (agG.mpr ⟨p,hp,(oJ q).1⟩)
  unfold gR;rw[z9n hne,eb,Gb λp hp x hx=>hm.2 x (agG.mpr ⟨p,hp,hx⟩)];unfold dF;rw[z9n hA]
def Hi(T:Nat->Nat->Nat->Int)(M:Nat->Nat->Int):Nat->List Nat->dh
 |_,[]=>(0,0)
 |y,[x]=>kY (cI (M y x)) (0,0)
 |y,x::p::l=>kY (cI (M y x)) (gJ (T (y+1) p (x+1 - p)) (Hi T M (y+1) (p::l)))
def gY(w:Nat)(M:Nat->Nat->Int):Nat->Nat->Nat->List (List Nat)
 |0,y,x=>if M y x=1 then[] else[[x]]
 |k+1,y,x=>if M y x=1 then[] else ((nr w x).flatMap λp=>gY w M k (y+1) p).map (x:: ·)
theorem uh:∀{k y x:Nat} {l:List Nat},l∈gY w M k y x->∃l',l=x::l'
 | 0,y,x,l,h=>by
  unfold gY at h;by_cases q:M y x=1
  .rw[z9p q] at h;cases h
  .rw[z9n q] at h;show⟨[],af3.mp h⟩
 | k +1,y,x,l,h=>by
  unfold gY at h;by_cases q:M y x=1
  .rw[z9p q] at h;cases h
  .rw[z9n q] at h;let⟨l',_,rfl⟩:=afW.mp h;show⟨l',rfl⟩
theorem wL:∀{k y x:Nat} {l:List Nat},x<w->(l∈gY w M k y x↔∃l',l=x::l'/\l'.length=k/\Pa w M y l)
 | 0, y,x,l,hx=>by
  unfold gY;by_cases q:M y x=1
  .rw[z9p q];show⟨λz=>absurd z (),?_⟩
   rintro⟨l',rfl,hl,hP⟩
   show absurd q hP.ne
  .rw[z9n q,af3];show⟨?_,?_⟩
   .rintro rfl;show⟨[],rfl,rfl,hx,q⟩
   .rintro⟨l',rfl,hl,_⟩
    rw[aj8.mp hl]
 | k+1,y,x,l,hx=>by
  unfold gY;by_cases q:M y x=1
  .rw[z9p q];show⟨λz=>absurd z (),?_⟩
   rintro⟨l',rfl,hl,hP⟩
   show absurd q hP.ne
  .rw[z9n q,afW];show⟨?_,?_⟩
   .rintro⟨l1,h1,rfl⟩
    let⟨p,hp,hl⟩:=agG.mp h1;let⟨a1,a2,a3⟩:=(yK hx).mp hp;let⟨l2,rfl,h2,h3⟩:=(wL a1).mp hl;show⟨p::l2,rfl,by rw[afN,h2],hx,q,a2,a3,h3⟩
   .rintro⟨l1,rfl,hl,hP⟩
    cases l1 with
    |nil=>cases hl
    | cons p l2=>
     let⟨_,_,b1,b2,b3⟩:=hP;show⟨p::l2,agG.mpr ⟨p,(yK hx).mpr ⟨b3.lt,b1,b2⟩,(wL b3.lt).mpr ⟨l2,rfl,by simpa using hl,b3⟩⟩,rfl⟩
theorem JN{P:List Nat}(hP:P.Nodup){F:Nat->List (List Nat)}(hF:∀p,(F p).Nodup)(hh:∀p l,l∈F p->∃l',l=p::l'):(P.flatMap F).Nodup:=by
 unfold alU;rw[ajA];show⟨λp _=>hF p,hP.imp λ{p q} hpq a ha b hb e=>?_⟩;let⟨a',rfl⟩:=hh p a ha;let⟨b',rfl⟩:=hh q b hb;show hpq (aie e).1
theorem Ry:∀{k y x:Nat},(gY w M k y x).Nodup
 |0,y,x=>by unfold gY;split <;> simp
 | k +1,y,x=>by
  unfold gY;by_cases q:M y x=1
  .rw[z9p q];show .nil
  .rw[z9n q];have:((nr w x).flatMap λp=>gY w M k (y+1) p).Nodup:=JN List.nodup_range' (λp=>Ry) λp l hl=>uh hl;show List.pairwise_map.mpr (this.imp λ{a b} hab e=>hab (aie e).2)
def xg(w:Nat)(T:Nat->Nat->Nat->Int)(M:Nat->Nat->Int)(k y x:Nat):List dh:=(gY w M k y x).map (Hi T M y)
theorem ZR{k y x:Nat}:xg w T M (k+1) y x=if M y x=1 then[] else ((nr w x).flatMap λp=>(xg w T M k (y+1) p).map (gJ (T (y+1) p (x+1 - p)))).map (kY (cI (M y x))):=by
 unfold xg;rw[gY];by_cases q:M y x=1
 .rw[z9p q,z9p q];rfl
 .rw[z9n q,z9n q,agj,alG,alG];congr 1;funext p;rw[agj,agj];show agC λl hl=>?_;let⟨l',rfl⟩:=uh hl;rfl
theorem Hj:∀{k x:Nat},k<h->nq gU 1 w h T M k x=dF (xg w T M k (h - 1 - k) x)
 | 0, x,hk=>by
  unfold nq jR gU xg gY;by_cases q:M (h - 1 - 0) x=1
  .rw[z9p q,z9p q];rfl
  .rw[z9n q,z9n q];have e1:gR (jT gU 1 w h T M 0 x)=dF [((0:Int),(0:Int))]:=by
    show gR ([Unit.unit].flatMap λ_=>dF [((0:Int),(0:Int))])=_;rw[w6];rfl
   rw[e1,<-q9 (g:=kY (cI (M (h - 1 - 0) x))) (gW:=sb (cI (M (h - 1 - 0) x))) (λa b=>Rx) (λa b=>Rw) (λt=>rfl)];rfl
 | k+1,x,hk=>by
  have ey:h - 1 - k=h - 1 - (k+1)+1:=ZF hk;unfold nq jR gU;rw[ZR];by_cases q:M (h - 1 - (k+1)) x=1
  .rw[z9p q,z9p q];rfl
  .rw[z9n q,z9n q,JM];have e1:cands w (nq gU 1 w h T M k) (T (h - 1 - k)) x=(nr w x).flatMap λp=>dF ((xg w T M k (h - 1 - (k+1)+1) p).map (gJ (T (h - 1 - (k+1)+1) p (x+1 - p)))):=by
    unfold cands;congr 1;funext p;rw[Hj (k:=k) (x:=p) (),ey,q9 (g:=gJ (T (h - 1 - (k+1)+1) p (x+1 - p))) (gW:=dW (T (h - 1 - (k+1)+1) p (x+1 - p))) (λa b=>Ng) (λa b=>Nf) (λt=>rfl)]
   rw[e1,w6,<-q9 (g:=kY (cI (M (h - 1 - (k+1)) x))) (gW:=sb (cI (M (h - 1 - (k+1)) x))) (λa b=>Rx) (λa b=>Rw) (λt=>rfl)]
def rQ(w h:Nat)(T:Nat->Nat->Nat->Int)(M:Nat->Nat->Int):List iW:=(afI w).flatMap λx=>(nq gU 1 w h T M (h - 1) x).map (dW (T 0 x 1))
theorem W4:(rQ w h T M).length<=w:=by
 have:=zN (F:=λx=>(nq gU 1 w h T M (h - 1) x).map (dW (T 0 x 1))) (l:=afI w) λp _=>by rw[z1g];show zM
 rw[z2d] at this;show this
def iz(w h:Nat)(M:Nat->Nat->Int):List (List Nat):=(afI w).flatMap λx=>gY w M (h - 1) 0 x
def Hl(T:Nat->Nat->Nat->Int)(M:Nat->Nat->Int)(l:List Nat):dh:=gJ (T 0 (l.headD 0) 1) (Hi T M 0 l)
theorem W5(h1:1<=h):gR (rQ w h T M)=dF ((iz w h M).map (Hl T M)):=by
 have e1:rQ w h T M=(afI w).flatMap λx=>dF ((xg w T M (h - 1) 0 x).map (gJ (T 0 x 1))):=by
  unfold rQ;congr 1;funext x;rw[Hj (),show h - 1 - (h - 1)=0 by omega,q9 (g:=gJ (T 0 x 1)) (gW:=dW (T 0 x 1)) (λa b=>Ng) (λa b=>Nf) (λt=>rfl)]
 rw[e1,w6];congr 1;unfold iz;rw[alG];congr 1;funext x;unfold xg;rw[agj];show agC λl hl=>?_;let⟨l',rfl⟩:=uh hl;rfl
theorem ZS:(iz w h M).Nodup:=JN ajG (λp=>Ry) λp l hl=>uh hl
theorem JQ(h1:1<=h){l:List Nat}:l∈iz w h M↔l.length=h/\Pa w M 0 l:=by
 unfold iz;rw[agG];constructor
 .rintro⟨x,hx,hl⟩
  let⟨l',rfl,h2,h3⟩:=(wL (z2e hx)).mp hl;show⟨by rw[afN,h2];omega,h3⟩
 .rintro⟨hl,hP⟩
  cases l with
  |nil=>simp at hl;omega
  |cons x l'=>show⟨x,ahH.mpr hP.lt,(wL hP.lt).mpr ⟨l',rfl,by simp at hl;omega,hP⟩⟩
def vJ(L:List dh):Int:=((dF L).map (·.2.2)).sum
theorem Fe(h:L≠[]){m:dh}(hm:vI L m):vJ L=(L.count m:Int):=by
 unfold vJ dF;rw[z9n h,vI.one (oJ h) hm];simp
theorem ZV{L':List dh}(p:L.Perm L'):vJ L=vJ L':=by
 by_cases h:L=[]
 .subst h;rw[alV.mp p]
 .have h':L'≠[]:=λz=>h (by rw[z] at p;show alW.mp p);have hm:=oJ h;rw[Fe h hm,Fe h' ⟨p.mem_iff.mp hm.1,λx hx=>hm.2 x (p.mem_iff.mpr hx)⟩,p.count_eq]
theorem W6{m:dh}(h:∀x∈L,x=m):vJ L=(L.length:Int):=by
 cases L with
 |nil=>rfl
 | cons a r=>
  have ha:=h a afT;subst ha;rw[Fe () (m:=a) ⟨afT,λx hx=>by rw[h x hx];show jM _⟩];congr 1;show List.count_eq_length.mpr λb hb=>(h b hb).symm
end
section
variable{w h:Nat}{m:Str}
theorem Nx(h1:1<=h)(hw:w<=20):mU [tab w h T,.lst ((afI h).map λy=>qJ D.int gU 1 w h T M (h - 1 - y))]= .ok (.lst ((rQ w h T M).map nO)):=M8 (λx cs=>z0b q8 {}) h1 hw
theorem wM(hm:m= "worth"\/m= "joins")(o:Ok w h f)(e:eZ [d,bx w h f]= .ok (bx w h M)):pN [bx w h f,.str m,d]= .ok (.int (vJ ((iz w h M).map (Hl (tbl m w h f) M)))):=by
 have hl:=W4 (w:=w) (h:=h) (T:=tbl m w h f) (M:=M);have hw2:=o.w2;have hg:=q8 (cs:=rQ w h (tbl m w h f) M);have eb:=(Nb (T:=tbl m w h f) (M:=M) o.h2 o.w2).trans (by rw[CG]);rw[show vJ ((iz w h M).map (Hl (tbl m w h f) M))=((gR (rQ w h (tbl m w h f) M)).map (·.2.2)).sum by rw[W5 o.h1];rfl];show iw (aK (bw (aV (aB rfl (aB rfl (au rfl))) (uK hm o e)) rfl) (aK (bw (aV (au (aV (aB rfl (au (aV (aB rfl (au rfl)) eb))) (Nx o.h1 o.w2))) (CP ())) rfl) (bJ (aP (au (bR (c:=nO) (h:=λt=>D.int t.2.2) (l:=gR (rQ w h (tbl m w h f) M)) (gO rfl) () λt ht=>?_)) Ej))));show cB rfl rfl
theorem ZW{s:Nat->Nat}:∀{k y:Nat},Hi T M y ((ahY y (k+1)).map s)=(-((ahY y (k+1)).map λy=>cI (M y (s y))).sum,((ahY (y+1) k).map λy=>fare T s y).sum)
 | 0,y=>by
  show (0 - cI (M y (s y)),(0:Int))=(-(cI (M y (s y))+0),0);rw[show 0 - cI (M y (s y))= -(cI (M y (s y))+0) by omega]
 | k +1,y=>by
  have ih:=ZW (s:=s) (k:=k) (y:=y+1);rw[aiC (s:=y),z1h,z1h,ahZ];rw[aiC (s:=y+1),z1h,z1h,ahZ] at ih |-;show kY _ (gJ _ (Hi T M (y+1) _))=_;rw[ih];simp only[kY,gJ];show akk ?_ ?_
  .show -_ - cI _= -_;omega
  .rw[z1h,ahZ];show _+T (y+1) (s (y+1)) (s y+1 - s (y+1))=T (y+1) (s (y+1)) (s y+1 - s (y+1))+_;rw[alF]
theorem aem(h1:1<=h):Hl T M ((afI h).map s)=(-gn M h s,cost h T s):=by
 obtain⟨k,rfl⟩:∃k,h=k+1:=⟨h - 1,()⟩;unfold Hl;rw[show ((afI (k+1)).map s).headD 0=s 0 by rw[aic];rfl];rw[ah1,ZW];simp only[gJ,gn,cost];show akk ?_ ?_
 .rw[ah1]
 .show ((ahY (0+1) k).map λy=>fare T s y).sum+T 0 (s 0) 1=T 0 (s 0) 1+((afI (k+1 - 1)).map λy=>fare T s (y+1)).sum;rw[alF,Nat.add_sub_cancel,aj2,agj];congr 3;funext i;show fare T s (0+1+i)=fare T s (i+1);rw[show 0+1+i=i+1 by omega]
end
section
variable{w h:Nat}{M M':Nat->Nat->Int}
abbrev sS:Nat->Nat->Nat->Int:=λ_ _ _=>0
def gZ(M:Nat->Nat->Int):Nat->Nat->Int:=λy x=>if M y x=1 then 1 else 0
theorem ZX{y x:Nat}:gZ M y x=1↔M y x=1:=by unfold gZ;split <;> simp_all
theorem Gd(hM:∀y x,M y x=1↔M' y x=1):∀{k y x:Nat},gY w M k y x=gY w M' k y x
 | 0,y,x=>by
  unfold gY;by_cases q:M y x=1
  .rw[z9p q,z9p ((hM y x).mp q)]
  .rw[z9n q,z9n λz=>q ((hM y x).mpr z)]
 | k +1,y,x=>by
  unfold gY;by_cases q:M y x=1
  .rw[z9p q,z9p ((hM y x).mp q)]
  .rw[z9n q,z9n λz=>q ((hM y x).mpr z)];congr 2;funext p;show Gd hM
theorem JR{y x:Nat}:cI (gZ M y x)=0:=by unfold cI gZ;split <;> rfl
theorem Nh:∀{l:List Nat} {y:Nat},Hi sS (gZ M) y l=(0,0)
 |[],_=>rfl
 |[x],y=>by show kY (cI (gZ M y x)) (0,0)=_;rw[JR];rfl
 | x::p::l,y=>by
  show kY (cI (gZ M y x)) (gJ 0 (Hi sS (gZ M) (y+1) (p::l)))=_;rw[JR,Nh];rfl
def K4(w:Nat)(M:Nat->Nat->Int)(k y x:Nat):Nat:=(gY w M k y x).length
theorem JT(hh:h<=20)(hw:w<=20):jP [bx w h M]= .ok (bx w h (gZ M)):=by
 show cO (bJ (aP (au (bR (c:=λy=>row w (M y)) (h:=λy=>row w (gZ M y)) (l:=afI h) (dZ rfl) (by rw[z2d];omega) λy _=>?_)) rfl));show cB rfl (aP (au (bR (c:=λx=>D.int (M y x)) (h:=λx=>D.int (gZ M y x)) (l:=afI w) (dZ rfl) (by rw[z2d];omega) λx _=>?_)) rfl);unfold gZ;by_cases q:M y x=1
 .rw[z9p q];show cB rfl (KR (aX (aA rfl rfl (by rw[jg,z9t q]))) rfl)
 .rw[z9n q];show cB rfl (KY (aX (aA rfl rfl (by rw[jg,z9f q]))) rfl)
def O6(w h:Nat)(M:Nat->Nat->Int)(y:Nat):D:= .lst ((afI w).map λx=> .int (K4 w M (h - 1 - y) y x:Nat))
theorem Z0{y x:Nat}(hy:y<h):((nq gU 1 w h sS (gZ M) (h - 1 - y) x).map (·.2.2)).sum=(K4 w M (h - 1 - y) y x:Int):=by
 rw[Hj (),show h - 1 - (h - 1 - y)=y by omega];show vJ (xg w sS (gZ M) (h - 1 - y) y x)=_;rw[W6 (m:=((0:Int),(0:Int))) λv hv=>?_]
 .unfold xg K4;rw[z1g,Gd (M:=gZ M) (M':=M) λy x=>ZX]
 .let⟨l,_,rfl⟩:=afW.mp hv;show Nh
theorem TX(h1:1<=h)(hh:h<=20)(hw:w<=20):sJ [bx w h M]= .ok (.lst ((afI h).map (O6 w h M))):=by
 have eb:=(Nb (w:=w) (T:=sS) (M:=gZ M) hh hw).trans (by rw[CG]);show iw (aK (bw (d:=tab w h sS) (bR (c:=λy=>row w (M y)) (h:=λy=> .lst ((afI w).map λx=>d9 (sS y x))) (l:=afI h) (dZ rfl) (by rw[z2d];omega) λy _=>?_) rfl) (aK (bw (aV (aB rfl (au (aV (au rfl) (JT hh hw)))) eb) rfl) (bJ (bR (c:=λy=>qJ D.int gU 1 w h sS (gZ M) (h - 1 - y)) (h:=O6 w h M) (l:=afI h) (gO rfl) (by rw[z2d];omega) λy hy=>?_))))
 .show cB rfl (bR (c:=λx=>D.int (M y x)) (h:=λx=>d9 (sS y x)) (l:=afI w) (dZ rfl) (by rw[z2d];omega) λx _=>cB rfl (iu rfl))
 .show cB rfl (bR (c:=λx=>Fd (nq gU 1 w h sS (gZ M) (h - 1 - y) x)) (h:=λx=> .int (K4 w M (h - 1 - y) y x:Nat)) (l:=afI w) (gO rfl) (by rw[z2d];omega) λx _=>?_);rw[<-Z0 (z2e hy)];have hl:(nq gU 1 w h sS (gZ M) (h - 1 - y) x).length<=1:=zM;show cB rfl (aP (au (bR (c:=nO) (h:=λt=>D.int t.2.2) (l:=nq gU 1 w h sS (gZ M) (h - 1 - y) x) (gO rfl) () λt _=>cB rfl rfl)) Ej)
theorem Ni{α β:Type}{F:α->List β}:∀l:List α,(l.map λx=>((F x).length:Int)).sum=((l.flatMap F).length:Int)
 |[]=>rfl
 |a::l=>by rw[z1h,ahZ,ahs,z1d,Ni l];omega
theorem Z1(h1:1<=h):yU [O6 w h M 0]= .ok (.int ((iz w h M).length:Int)):=by
 unfold O6;rw[Ej (c:=λx=>((K4 w M (h - 1 - 0) 0 x:Nat):Int))];unfold iz K4;rw[Ni];rfl
theorem Ny(o:Ok w h f)(e:eZ [d,bx w h f]= .ok (bx w h M)):zK [bx w h f,d]= .ok (.int ((iz w h M).length:Int)):=by
 show iw (aK (mQ (aV (au rfl) (Ew o))) (bJ (aP (au (aA (aV (au (aV (aB rfl (au rfl)) e)) (TX o.h1 o.h2 o.w2)) rfl (lD (α:=D) (x:=0) o.h1))) (Z1 o.h1))))
end
section
variable{w h k:Nat}{f M:Nat->Nat->Int}{m:Str}{s:Nat->Nat}
theorem ac7:(bD w h T M).Nodup:=by
 unfold bD;show aht _ (λa b hab e=>hab ?_) (JG.sublist akF);show (aie e).2
theorem wN:pD (aZ (bD w h T M)):=wG ac7
theorem VF{l:List (List Int)}(h:pD l):l.Nodup:=List.Pairwise.imp (λ{a b} q e=>by rw[e,jM] at q;cases q) h
theorem Z4{l:List (List Int)}(h:pD l):pD (l.take N):=akq (ajp _ _) h
theorem abq(hN:N<=60):vm [.lst (((aZ (bD w h T M)).take N).map dG)]= .ok (.lst (((aZ (bD w h T M)).take N).map dG)):=by
 have hr:=Z4 (N:=N) (wN (w:=w) (h:=h) (T:=T) (M:=M));have e:((aZ (bD w h T M)).take N).Nodup/\((aZ (bD w h T M)).take N).length<=70:=⟨VF hr,by rw[agg];omega⟩;rw[vm,VB λk hk=>ju (af5 hk)];show (if ((aZ (bD w h T M)).take N).Nodup/\((aZ (bD w h T M)).take N).length<=70 then _ else _)=_;rw[z9p e,Iv (cG _) (wG (VF hr)) hr]
theorem ac8{S:List (List Int)}{x k:List Int}(hr:pD S)(hx:x∈S)(hk:k∈S.take N)(hl:bM x k=true):x∈S.take N:=by
 rw[<-agh N S] at hx hr;rcases agk.mp hx with q |q
 .show q
 .have:=(agd.mp hr).2.2 k hk x q;have:=jq hl this;rw[jM] at this;cases this
theorem VG{b:Int}{l':List Int}(h:bM (b::l) (c::l')=true):b<=c:=by
 rw[bM] at h;by_cases e:b=c
 .omega
 .rw[z9n e] at h;have:=z9o h;omega
theorem Rz{p:List Int->Bool}:∀{S:List (List Int)} {N:Nat},S.Pairwise (λa b=>p b=true->p a=true)->((S.take N).filter p).length=min (S.filter p).length N
 |[],N,_=>()
 |a::S,0,_=>()
 | a ::S,N+1,h=>by
  let⟨h1,h2⟩:=agt.mp h;rw[aia];by_cases e:p a=true
  .rw[aj9 e,aj9 e,afN,afN,Rz h2];omega
  .have e2:∀x∈S,¬p x=true:=λx hx q=>e (h1 x hx q);rw[aki.mpr λx hx=>?_,aki.mpr λx hx=>?_]
   .simp
   .rcases afR.mp hx with rfl |q
    .show e
    .show e2 x q
   .rcases afR.mp hx with rfl |q
    .show e
    .show e2 x (af5 q)
def gP(l:List Nat):List Int:=l.map λp=>((p:Nat):Int)
theorem abr:gP ((afI h).map s)=dN h s:=by unfold gP dN;rw[agj];rfl
theorem Z5:∀{a b:List Nat},gP a=gP b->a=b
 |[],[],_=>rfl
 |[],_::_,e=>by cases e
 |_::_,[],e=>by cases e
 | x::a,y::b,e=>by
  let⟨e1,e2⟩:=aie e;rw[Z5 (a:=a) (b:=b) e2,show x=y by have e1:((x:Nat):Int)=(y:Nat):=e1;omega]
theorem abW(h1:1<=h){l:List Nat}(hl:l∈iz w h M):∃s,jQ w h s/\cnt M h s 1=0/\l=(afI h).map s:=by
 let⟨e1,e2⟩:=(JQ h1).mp hl;let⟨s,es⟩:=Vu l;rw[e1] at es;subst es;have q:=(JC h1).mp e2;show⟨s,q.sm,nU.mpr q.ne,rfl⟩
theorem Z6(h1:1<=h):((iz w h M).map gP).Perm ((CJ w (h - 1)).filter (FW M h)):=by
 show (alb ?_ (JG.sublist akF)).mpr λk=>?_
 .show aht _ (λa b hab e=>hab (Z5 e)) ZS
 .constructor
  .intro hk;let⟨l,hl,rfl⟩:=afW.mp hk;let⟨s,q,c,rfl⟩:=abW h1 hl;rw[abr];show ahd.mpr ⟨qM.mpr ⟨s,by rw[show h - 1+1=h by omega];show⟨q,rfl⟩⟩,?_⟩;unfold FW;rw[qN];show z9t c
  .intro hk;let⟨hl1,hl2⟩:=ahd.mp hk;let⟨s,q,rfl⟩:=Rr h1 hl1;unfold FW at hl2;rw[qN] at hl2;show afW.mpr ⟨(afI h).map s,(JQ h1).mpr ⟨(),(JC h1).mpr ⟨q,nU.mp (z9o hl2)⟩⟩,abr⟩
theorem ac9(h1:1<=h):(iz w h M).length=(aZ (bD w h T M)).length:=by
 have:=(Z6 (w:=w) (M:=M) h1).length_eq;rw[z1g] at this;rw[(cG _).length_eq,this];unfold bD;rw[z1g]
theorem VH(h1:1<=h)(hg:∀y x,M y x≠2):vJ ((iz w h M).map (Hl T M))=vJ ((aZ (bD w h T M)).map λk=>((0:Int),k.getD 0 0)):=by
 show ZV ?_;have e:(iz w h M).map (Hl T M)=((iz w h M).map gP).map λl=>((0:Int),cost h T (M9 l)):=by
  rw[agj];show agC λl hl=>?_;let⟨s,q,c,rfl⟩:=abW h1 hl;rw[aem h1];show (-gn M h s,cost h T s)=((0:Int),cost h T (M9 (gP ((afI h).map s))));rw[abr,JH h1 λy hy=>(K3 hy).symm,ZK,nU.mpr λy _=>hg y (s y)];rfl
 rw[e];show ((Z6 h1).map _).trans ?_;have e2:((CJ w (h - 1)).filter (FW M h)).map (λl=>((0:Int),cost h T (M9 l)))=(bD w h T M).map λk=>((0:Int),k.getD 0 0):=by
  unfold bD;rw[agj];rfl
 rw[e2];show ((cG _).map _).symm
theorem VJ{b:Int}(er:aZ (bD w h T M)=(b::l)::r):∀k∈aZ (bD w h T M),b<=k.getD 0 0:=λk hk=>by
 have hr:=wN (w:=w) (h:=h) (T:=T) (M:=M);let⟨c,l',rfl⟩:=ju hk;rw[er] at hr hk;rcases afR.mp hk with q |q
 .cases q;show Int.le_refl _
 .show VG ((agt.mp hr).1 _ q)
theorem Z7{b:Int}(er:aZ (bD w h T M)=(b::l)::r):
  vJ ((aZ (bD w h T M)).map λk=>((0:Int),k.getD 0 0))=(((aZ (bD w h T M)).filter λk=>decide (k.getD 0 0=b)).length:Int):=by
 have hl:=VJ er;rw[Fe (m:=((0:Int),b)) (by rw[er];simp) ⟨by rw[er];simp,λx hx=>?_⟩]
 .congr 1;rw[List.count,List.countP_map,List.countP_eq_length_filter];congr 2
 .let⟨k,hk,rfl⟩:=afW.mp hx;have:=hl k hk;show bM [0,k.getD 0 0] [0,b]=false;rw[bM,z9p rfl,bM];by_cases e:k.getD 0 0=b
  .rw[z9p e];rfl
  .rw[z9n e];show z9f ()
theorem Z8{b:Int}(er:aZ (bD w h T M)=(b::l)::r):
  (((aZ (bD w h T M)).take N).filter λk=>decide (k.getD 0 0=b)).length=min ((aZ (bD w h T M)).filter λk=>decide (k.getD 0 0=b)).length N:=by
 show Rz ?_;have hl:=VJ er;show List.Pairwise.imp_of_mem (λ{x y} hx hy q e=>?_) (wN (w:=w) (h:=h) (T:=T) (M:=M));let⟨c,l1,rfl⟩:=ju hx;let⟨d,l2,rfl⟩:=ju hy;have e:d=b:=z9o e;have:=VG q;have h2:b<=c:=hl _ hx;show decide (c=b)=true;show z9t ()
theorem VL(h1:1<=h){k:List Int}(hk:k∈aZ (bD w h T M)):∃s,jQ w h s/\cnt M h s 1=0/\k=cost h T s::dN h s:=by
 let⟨l,hl,rfl⟩:=afW.mp ((cG _).mem_iff.mp hk);let⟨hl1,hl2⟩:=ahd.mp hl;let⟨s,q,rfl⟩:=Rr h1 hl1;unfold FW at hl2;rw[qN] at hl2;show⟨s,q,z9o hl2,JK h1⟩
theorem aen(h1:1<=h)(q:jQ w h s)(c:cnt M h s 1=0):(cost h T s::dN h s)∈aZ (bD w h T M):=by
 rw[<-JK h1];show (cG _).mem_iff.mpr (afW.mpr ⟨dN h s,ahd.mpr ⟨qM.mpr ⟨s,by rw[show h - 1+1=h by omega];show⟨q,rfl⟩⟩,by unfold FW;rw[qN];show z9t c⟩,rfl⟩)
end
section
variable{w h k:Nat}{f M:Nat->Nat->Int}{m:Str}{s:Nat->Nat}
theorem aeo(hns:ns.length<=1000000):∃w h f,wX [.lst (ns.map .int),.int 0,.int 8,.int 7]= .ok (bx w h f)/\Ok w h f/\w<=8/\h<=7:=by
 let⟨e1,h1,h2⟩:=nF (k:=0) (m:=8) hns () ();let⟨e2,h3,h4⟩:=nF (k:=0+1) (m:=7) hns () ();let⟨w,hw⟩:=agy (show 0<=1+dr ns 0 8 by omega);let⟨h,hh⟩:=agy (show 0<=1+dr ns (0+1) 7 by omega);let⟨f,e,o⟩:=WQ (ns:=ns) (a:=0+2) (w:=w) (h:=h) hns () () () () ();show⟨w,h,f,cO (bJ (aV (aB rfl (aB (aA rfl rfl rfl) (aB (aA rfl (aV (aB rfl (aB rfl (au rfl))) e1) (congrArg (λz=>R.ok (D.int z)) hw)) (au (aA rfl (aV (aB rfl (aB (aA rfl rfl rfl) (au rfl))) e2) (congrArg (λz=>R.ok (D.int z)) hh)))))) e)),o,(),()⟩
def Sg(sg:List Int):Prop:=0<sg.length/\sg.length<=5/\∀i∈sg,0<=i/\i<=2
theorem Sg.get(s:Sg sg)(k:Nat):0<=sg.getD k 0/\sg.getD k 0<=2:=by
 by_cases hk:k<sg.length
 .have:sg.getD k 0=sg[k]:=by simp[hk]
  rw[this];show s.2.2 _ (ai5 _)
 .have:sg.getD k 0=0:=by simp[agZ,ahQ (als hk)]
  rw[this];omega
theorem ae5{k:Int}(h0:0<=k)(h1:k<sg.length):cA (.lst (sg.map .int)) (.int k)= .ok (.int (sg.getD k.toNat 0)):=by
 let⟨n,rfl⟩:=agy h0;have hn:n<sg.length:=()
 show yj (i:=n) ?_;rw[z2b,aga hn];simp[hn]
def Z9(ns:List Int)(w:Nat)(sg:List Int)(y x:Nat):Int:=sg.getD (dr ns (70+1+(w:Int)*(y:Int)+(x:Int)) sg.length).toNat 0
theorem aep(hns:ns.length<=1000000)(hw:w<=20)(s:Sg sg){y:Nat}(hy:y<20)(hl:acc.length<=1000):
  mkB [vA (.lst (ns.map .int)),vA (.int 70),e2,some (.lst acc),vA (.lst (sg.map .int)),vA (.int (y:Int)),vA (row w (f y)),e7] =
   .nx [vA (.lst (ns.map .int)),vA (.int 70),e2,some (.lst (acc++[row w (Z9 ns w sg y)])),vA (.lst (sg.map .int)),vA (.int (y:Int)),vA (row w (f y)),vA (.int (70+1+(w:Int)*(y:Int)))]:=by
 have hp:(0:Int)<=(w:Int)*(y:Int):=alR () ();show aK (bw (d:= .int (70+1+(w:Int)*(y:Int))) (aA (x:= .int (70+1)) (aA rfl rfl rfl) (aA (aP (au rfl) qI) rfl ((show Ko (.int (w:Int)) (.int (y:Int))=iT (.int (w:Int)) (.int (y:Int)) from rfl).trans (m9 (.inl ())))) rfl) rfl) ?_;show Jv (ds:=acc) (aP (au (bR (c:=λ(x:Nat)=>D.int (x:Int)) (h:=λx=> .int (Z9 ns w sg y x)) (l:=afI w) (m8 (au (aP (au rfl) qI)) ()) (by rw[z2d];omega) λx hx=>?_)) rfl) rfl ();let⟨e1,h1,h2⟩:=nF (k:=70+1+(w:Int)*(y:Int)+(x:Int)) (m:=(sg.length:Int)) hns () (by have:=s.1;omega);have hlen:cF [.lst (sg.map .int)]= .ok (.int (sg.length:Int)):=by simp[cF]
 show cB rfl (aA rfl (aV (aB rfl (aB (aA rfl rfl rfl) (au (aP (au rfl) hlen)))) e1) (ae5 h1 h2))
theorem VN(hns:ns.length<=1000000)(hw:w<=20){sg:List Int}(s:Sg sg){e2:Option Ent}:∀{ys:List Nat} {acc:List D} {e5 e6 e7:Option Ent},(∀y∈ys,y<20)->acc.length+ys.length<=1000->
  ∃z5 z6 z7,forL (c7 (dg 2 (aW (aH 5) (aW (aH 6) nilG)))) mkB (ys.map λ(y:Nat)=>D.tup [.int (y:Int),row w (f y)]) [vA (.lst (ns.map .int)),vA (.int 70),e2,some (.lst acc),vA (.lst (sg.map .int)),e5,e6,e7] =
   .nx [vA (.lst (ns.map .int)),vA (.int 70),e2,some (.lst (acc++ys.map λy=>row w (Z9 ns w sg y))),vA (.lst (sg.map .int)),z5,z6,z7]
 |[],acc,e5,e6,e7,_,_=>⟨e5,e6,e7,by simp[forL]⟩
 | y::ys,acc,e5,e6,e7,hy,hl=>by
  rw[afN] at hl;let⟨z5,z6,z7,e⟩:=VN hns hw s (e2:=e2) (ys:=ys) (acc:=acc++[row w (Z9 ns w sg y)]) (e5:=vA (.int (y:Int))) (e6:=vA (row w (f y))) (e7:=vA (.int (70+1+(w:Int)*(y:Int)))) (λq hq=>hy q (by simp[hq])) ();show⟨z5,z6,z7,gF rfl (aep hns hw s (hy y ()) ()) (e.trans (by rw[z1h,afM];rfl))⟩
theorem abt(hns:ns.length<=1000000)(o:Ok w h f):∃M,pI [.lst (ns.map .int),.int 70,bx w h f]= .ok (bx w h M)/\Mk w h M:=by
 have QX:=o.h2;let⟨e1,h0,h4⟩:=nF (k:=70) (m:=4) hns () ();let⟨d,hd,ed⟩:=Ei (xs:=[D.lst (([0,0,0,1,2]:List Int).map .int),.lst (([0,0,0,0,1]:List Int).map .int),.lst (([0,0,2,0,0]:List Int).map .int),.lst (([0]:List Int).map .int)]) h0 h4;have hs:∃sg,d= .lst (sg.map .int)/\Sg sg:=by
  simp only[afR,ahq,or_false] at hd;rcases hd with rfl |rfl |rfl |rfl
  .show⟨[0,0,0,1,2],rfl,{},{},{}⟩
  .show⟨[0,0,0,0,1],rfl,{},{},{}⟩
  .show⟨[0,0,2,0,0],rfl,{},{},{}⟩
  .show⟨[0],rfl,{},{},{}⟩
 let⟨sg,rfl,s⟩:=hs;let⟨z5,z6,z7,e⟩:=VN (f:=f) hns o.w2 s (e2:=vA (bx w h f)) (ys:=afI h) (acc:=[]) (e5:=none) (e6:=none) (e7:=none) (λy hy=>by have:=z2e hy;omega) ();show⟨Z9 ns w sg,cO (aK (qH rfl) (aK (bw (aA (x:= .lst [D.lst (([0,0,0,1,2]:List Int).map .int),.lst (([0,0,0,0,1]:List Int).map .int),.lst (([0,0,2,0,0]:List Int).map .int),.lst (([0]:List Int).map .int)]) (fM (aB (fM rfl) (aB (fM rfl) (aB (fM rfl) (au (fM rfl)))))) (aV (aB rfl (aB rfl (au rfl))) e1) (u9 ed)) rfl) (aK (mq (Ey (au rfl) rfl) e) (bJ (aP (au rfl) rfl))))),λy x=>s.get _⟩
theorem aac(hns:ns.length<=1000000):∃m:Str,(m= "worth"\/m= "joins")/\sH [.lst (ns.map .int),.int 140]= .ok (.str m):=by
 let⟨e1,h0,h2⟩:=nF (k:=140) (m:=2) hns () ();let⟨d,hd,ed⟩:=Ei (xs:=[D.str "worth",.str "joins"]) h0 h2;simp only[afR,ahq,or_false] at hd;rcases hd with rfl |rfl
 .show⟨"worth",.inl rfl,cO (bJ (aA (x:= .lst [D.str "worth",.str "joins"]) (fM rfl) (aV (aB rfl (aB rfl (au rfl))) e1) (u9 ed)))⟩
 .show⟨"joins",.inr rfl,cO (bJ (aA (x:= .lst [D.str "worth",.str "joins"]) (fM rfl) (aV (aB rfl (aB rfl (au rfl))) e1) (u9 ed)))⟩
end
section
variable{a:Int}{w h:Nat}{t:Option Ent}
theorem ada(hns:ns.length<=1000000)(ha:0<=a)(hw:1<=w){l k:Nat}(g:Good w (ps++[l]))(hl:(ps++[l]).length<1000000):
  ∃p,aa9 [vA (.lst (ns.map .int)),vA (.int a),vA (.int (w:Int)),t,some (.lst (pl (ps++[l]))),vA (.int (k:Int))]= .nx [vA (.lst (ns.map .int)),vA (.int a),vA (.int (w:Int)),t,some (.lst (pl (ps++[l]++[p]))),vA (.int (k:Int))]/\Good w (ps++[l]++[p]):=by
 let⟨e1,d0,d3⟩:=nF (k:=a+1+(k:Int)) (m:=3) hns () ();have hlw:l<w:=g.lt l ()
 generalize hd:dr ns (a+1+(k:Int)) 3=d at *
 generalize hm:(if (l:Int)+d - 1<(w:Int) - 1 then (l:Int)+d - 1 else (w:Int) - 1)=m
 generalize hv:(if m > 0 then m else 0)=v
 have hv0:0<=v/\v<w/\v<=l+1/\(l:Int)<=v+1:=by
  subst hv;subst hm;split <;> split <;> omega
 let⟨p,hp⟩:=agy hv0.1;show⟨p,(Jv (d:= .int (p:Int)) (ds:=pl (ps++[l])) ?_ rfl (by simpa[pl] using hl)).trans ?_,g.snoc () ()⟩
 .show aP (aB rfl (au (x:= .int m) (aP (aB (x:= .int ((w:Int) - 1)) (aA rfl rfl rfl) (au (x:= .int ((l:Int)+d - 1)) (aA (x:= .int ((l:Int)+d)) (y:= .int 1) (aA (x:= .int (l:Int)) (y:= .int d) (Zv rfl rfl acU) (aV (aB rfl (aB (aA (aA rfl rfl rfl) rfl rfl) (au rfl))) e1) rfl) rfl rfl))) ?_))) ?_
  .rw[<-hm];rfl
  .rw[<-hp,<-hv];rfl
 .have:pl (ps++[l])++[D.int (p:Int)]=pl (ps++[l]++[p]):=by simp[pl]
  rw[<-this];rfl
theorem RB(hns:ns.length<=1000000)(ha:0<=a)(hw:1<=w):∀{ks:List Nat} {ps:List Nat} {l:Nat} {x:Option Ent},Good w (ps++[l])->ps.length+1+ks.length<=1000->
  ∃qs x',forL (aH 5) aa9 (ks.map λ(k:Nat)=>D.int (k:Int)) [vA (.lst (ns.map .int)),vA (.int a),vA (.int (w:Int)),t,some (.lst (pl (ps++[l]))),x] =
   .nx [vA (.lst (ns.map .int)),vA (.int a),vA (.int (w:Int)),t,some (.lst (pl (ps++[l]++qs))),x']/\qs.length=ks.length/\Good w (ps++[l]++qs)
 |[],ps,l,x,g,_=>⟨[],x,by rw[agi];rfl,rfl,by rw[agi];show g⟩
 | k::ks,ps,l,x,g,hl=>by
  rw[afN] at hl;let⟨p,e1,g1⟩:=ada (t:=t) hns ha hw (k:=k) g ();let⟨qs,x',e2,h2,g2⟩:=RB hns ha hw (ks:=ks) (ps:=ps++[l]) (l:=p) (x:=vA (.int (k:Int))) g1 ();show⟨p::qs,x',?_,by simp[h2],by simpa using g2⟩;rw[z1h];show gF rfl e1 (e2.trans ?_);simp
theorem aer(hns:ns.length<=1000000)(ha:0<=a)(hw:1<=w)(hh1:1<=h)(hh:h<=20):∃s,zG [.lst (ns.map .int),.int a,.int (w:Int),.int (h:Int)]= .ok (sm h s)/\jQ w h s:=by
 let⟨e1,d0,d3⟩:=nF (k:=a) (m:=(w:Int)) hns ha ();let⟨l,hl⟩:=agy d0;rw[hl] at e1;have g0:Good w ([]++[l]):=⟨λp hp=>by simp at hp;omega,λi x y hx hy=>by simp at hy⟩;let⟨qs,x',e2,h2,g⟩:=RB (t:=vA (.int (h:Int))) hns ha hw (ks:=afI (h - 1)) (x:=none) g0 ();rw[z2d] at h2
 generalize hps:[]++[l]++qs=ps at *
 have hlen:ps.length=h:=by rw[<-hps];simp;omega
 have hrow:sm h (λy=>ps.getD y 0)= .tup (pl ps):=by
  unfold sm row pl;show congrArg D.tup (List.ext_getElem (by simp[hlen]) λi h1 h2=>?_);have:i<ps.length:=by simpa using h2
  simp[this]
 show⟨λy=>ps.getD y 0,?_,?_,?_⟩
 .rw[hrow];show cO (aK (ρ':=[vA (.lst (ns.map .int)),vA (.int a),vA (.int (w:Int)),vA (.int (h:Int)),some (.lst (pl ([]++[l]))),none]) ?_ (aK (mq (m8 (m:=h - 1) (au (aA (x:= .int (h:Int)) (y:= .int 1) rfl rfl ?_)) ()) e2) (bJ (aP (au rfl) rfl))))
  .show qH (au (x:= .int (l:Int)) (aV (aB rfl (aB rfl (au rfl))) e1))
  .show R.ok (D.int ((h:Int) - 1))=_;rw[show (h:Int) - 1=((h - 1:Nat):Int) by omega]
 .intro y hy;have:y<ps.length:=()
  simp only[ajK,aga this,ai3];show g.lt _ (ai5 _)
 .intro y hy;have k1:y<ps.length:=()
  have k2:y+1<ps.length:=()
  simp only[ajK,aga k1,aga k2,ai3];show g.st y _ _ (aga k1) (aga k2)
end
section
variable{w h k:Nat}{f M:Nat->Nat->Int}{m:Str}{s:Nat->Nat}
theorem abX:dG (c::dN h s)= .tup [.int c,sm h s]:=by
 show D.tup [.int c,tI (dN h s)]=_;rw[abU]
theorem aes(hm:m= "worth"\/m= "joins")(o:Ok w h f)(q:jQ w h s)(c:cnt M h s 1=0){jZ:Option Ent}:
  lwA [e0,vA (bx w h f),e2,e3,vA (.str m),e5,vA (bx w h M),e7,vA (.int (cost h (tbl m w h f) s)),vA (sm h s),e10,pO,jZ,tU,pP,pQ,nj]= .nx [e0,vA (bx w h f),e2,e3,vA (.str m),e5,vA (bx w h M),e7,vA (.int (cost h (tbl m w h f) s)),vA (sm h s),e10,pO,jZ,tU,pP,pQ,nj]:=by
 have sg:=Rk (M:=M) (k:=1) o.h2 q;rw[c] at sg;show aK (cQ (rJ (eG (b:=true) (aX (aV (aB rfl (au rfl)) (Ju o q)))) (aX (aA (iV (ds:=[bx w h f,sm h s]) (zs:=[.str m]) (aB rfl (au rfl)) (au rfl) (Jw hm o q)) rfl (Pu.kh rfl (ahp _))))) rfl) (cQ (aX (aA (aV (aB rfl (aB rfl (au rfl))) sg) rfl rfl)) rfl)
theorem RD(hm:m= "worth"\/m= "joins")(o:Ok w h f){e0 e2 e3 e5 e7 e10 pO jZ tU pP pQ nj:Option Ent}:∀{L:List (List Int)} {e8 e9:Option Ent},(∀k∈L,∃s,jQ w h s/\cnt M h s 1=0/\k=cost h (tbl m w h f) s::dN h s)->
  ∃z8 z9,forL (c7 (dg 2 (aW (aH 8) (aW (aH 9) nilG)))) lwA (L.map dG) [e0,vA (bx w h f),e2,e3,vA (.str m),e5,vA (bx w h M),e7,e8,e9,e10,pO,jZ,tU,pP,pQ,nj]= .nx [e0,vA (bx w h f),e2,e3,vA (.str m),e5,vA (bx w h M),e7,z8,z9,e10,pO,jZ,tU,pP,pQ,nj]
 |[],e8,e9,_=>⟨e8,e9,rfl⟩
 | k::L,e8,e9,hL=>by
  let⟨s,q,c,rfl⟩:=hL k ();let⟨z8,z9,e⟩:=RD hm o (L:=L) (e8:=vA (.int (cost h (tbl m w h f) s))) (e9:=vA (sm h s)) λk' hk=>hL k' (by simp[hk]);show⟨z8,z9,?_⟩;rw[z1h,abX];show gF rfl (aes hm o q c) e
theorem Nj(hf:mZ M=M)(o:Ok w h f):jk [tab w h T,bx w h M,.int 1]= .ok (.lst (((aZ (bD w h T M)).take 1).map λk=>qb (un (0::k)))):=by
 have e:=qL (N:=1) (T:=T) (M:=M) {} o.h1 o.h2 o.w2;have e2:=JL (N:=1) (w:=w) (T:=T) (M:=M) o.h1;rw[hf] at e2;rw[e2,agj] at e;show e
theorem W7(hm:m= "worth"\/m= "joins")(hf:mZ M=M)(o:Ok w h f)(hM:Mk w h M)(er:aZ (bD w h (tbl m w h f) M)=[]):pL [bx w h f,.str m,bx w h M]= .ok .non:=by
 have e:=Nj (T:=tbl m w h f) hf o;rw[er] at e;have e1:qZ [tab w h (tbl m w h f),bx w h M]= .ok .non:=iw (aK (bw (aV (aB rfl (aB rfl (au rfl))) e) rfl) (ou (jL (eG (uJ (ds:=[]) rfl)) (bJ rfl))));show iw (aK (bw (aV (aB rfl (aB rfl (au rfl))) (uK hm o (jY o hM))) rfl) (aK (bw (aV (aB rfl (au rfl)) e1) rfl) (ou (jL (aX (b:=true) (aA rfl rfl rfl)) (bJ rfl)))))
theorem W8{b:Int}(hm:m= "worth"\/m= "joins")(hf:mZ M=M)(o:Ok w h f)(hM:Mk w h M)(er:aZ (bD w h (tbl m w h f) M)=(b::l)::r):pL [bx w h f,.str m,bx w h M]= .ok (tI l):=by
 have e:=Nj (T:=tbl m w h f) hf o;rw[er] at e;have e1:qZ [tab w h (tbl m w h f),bx w h M]= .ok (.tup [.int b,tI l]):=iw (aK (bw (aV (aB rfl (aB rfl (au rfl))) e) rfl) (aK (cQ (eG (uJ (ds:=[qb (0,b,l)]) rfl)) rfl) (aK (bw (d:=qb (0,b,l)) (aA (y:= .int 0) rfl rfl (yj (i:=0) rfl)) rfl) (bJ (iu (aB rfl (au rfl)))))));show iw (aK (bw (aV (aB rfl (aB rfl (au rfl))) (uK hm o (jY o hM))) rfl) (aK (bw (aV (aB rfl (au rfl)) e1) rfl) (aK (cQ (aX (b:=false) (aA rfl rfl rfl)) rfl) (bJ (d:=tI l) (aA (y:= .int 1) rfl rfl (mO (i:=1) rfl))))))
theorem VP{L:List (List Int)}{x:List Int}(e:L=L.dropLast++[x]):cA (.lst (L.map dG)) (.int (-1))= .ok (dG x):=by
 rw[e,agw]
 generalize L.dropLast=A
 have:atI (A.map dG++[dG x]) (-1)=some (dG x):=by
  unfold atI ixN;rw[z9n (),z9p ()];show (A.map dG++[dG x])[_]?=_;have e:(-1+((A.map dG++[dG x]).length:Int)).toNat=A.length:=by simp;omega
  rw[e];simp
 show (match atI (A.map dG++[dG x]) (-1) with |some d=>R.ok d |none=>R.bad)=_;rw[this]
theorem RG:pairOf (dG (c::l))=some (c::l):=by simp[dG,pairOf,zx]
theorem aeu{kk:Nat}{b:Int}{l0:List Int}(hns:ns.length<=1000000)(hm:m= "worth"\/m= "joins")(o:Ok w h f)(er:aZ (bD w h (tbl m w h f) M)=(b::l0)::r)(hN:1<=N){jZ:Option Ent}:
  ∃VR V0,lwB [vA (.lst (ns.map .int)),vA (bx w h f),vA (.int (w:Int)),vA (.int (h:Int)),vA (.str m),e5,vA (bx w h M),vA (.lst (((aZ (bD w h (tbl m w h f) M)).take N).map dG)),e8,e9,e10,pO,jZ,vA (.int (kk:Int)),pP,pQ,nj] =
   .nx [vA (.lst (ns.map .int)),vA (bx w h f),vA (.int (w:Int)),vA (.int (h:Int)),vA (.str m),e5,vA (bx w h M),vA (.lst (((aZ (bD w h (tbl m w h f) M)).take N).map dG)),e8,e9,e10,pO,jZ,vA (.int (kk:Int)),VR,V0,nj]:=by
 let⟨s,ew,q⟩:=aer (a:=150+9*(kk:Int)) hns () o.w1 o.h1 o.h2;have hr:=wN (w:=w) (h:=h) (T:=tbl m w h f) (M:=M);have hi:=aen (T:=tbl m w h f) (M:=M) o.h1 q;have hcs:=λk hk=>ju (w:=w) (h:=h) (T:=tbl m w h f) (M:=M) (k:=k) hk;have hne:(aZ (bD w h (tbl m w h f) M)).take N≠[]:=by rw[er,show N=N - 1+1 by omega,aia];simp
 generalize aZ (bD w h (tbl m w h f) M)=S at hr hi hcs hne |-
 have hx:(S.take N).getLast hne∈S.take N:=List.getLast_mem hne;have el:=(List.dropLast_concat_getLast hne).symm
 generalize (S.take N).getLast hne=x at hx el
 let⟨c,l,rfl⟩:=hcs x (af5 hx);have sg:=Rk (M:=M) (k:=1) o.h2 q;show⟨_,_,aK (bw (aV (aB rfl (aB (aA rfl (aA rfl rfl rfl) rfl) (aB rfl (au rfl)))) ew) rfl) (aK (bw (iu (aB (iV (ds:=[bx w h f,sm h s]) (zs:=[.str m]) (aB rfl (au rfl)) (au rfl) (Jw hm o q)) (au rfl))) rfl) (cQ ?_ rfl))⟩;by_cases cc:cnt M h s 1=0
 .show oh (aX (aA (aV (aB rfl (aB rfl (au rfl))) sg) rfl (by rw[jg,z9t cc]))) ?_;have ep:D.tup [.int (cost h (tbl m w h f) s),sm h s]=dG (cost h (tbl m w h f) s::dN h s):=abX.symm;have e2:Qu (.tup [.int (cost h (tbl m w h f) s),sm h s]) (dG (c::l))= .ok (.bl (bM (cost h (tbl m w h f) s::dN h s) (c::l))):=by
   rw[ep,Qu,RG,RG]
  by_cases lt:bM (cost h (tbl m w h f) s::dN h s) (c::l)=true
  .rw[lt] at e2;show oh (aX (aA rfl (aA rfl (ZJ rfl) (VP el)) e2)) (aX (aA rfl rfl ?_));have hin:=ac8 hr (hi cc) hx lt;have hall:((S.take N).map dG).all (λd'=>decide (dep d'<=40))=true:=ai2.mpr λd hd=>by
    let⟨k',_,rfl⟩:=afW.mp hd;show z9t (z0b (VD k') {})
   have hany:((S.take N).map dG).any (dI · (.tup [.int (cost h (tbl m w h f) s),sm h s]))=true:=alz.mpr ⟨_,afW.mpr ⟨_,hin,rfl⟩,by rw[ep];show yW _⟩;show (if ((S.take N).map dG).all (λd'=>decide (dep d'<=40))=true then R.ok (D.bl (!((S.take N).map dG).any (dI · (.tup [.int (cost h (tbl m w h f) s),sm h s])))) else .bad)=_;rw[z9p hall,hany];rfl
  .rw[Bool.not_eq_true] at lt;rw[lt] at e2;show yh (aX (aA rfl (aA rfl (ZJ rfl) (VP el)) e2))
 .show yh (aX (aA (aV (aB rfl (aB rfl (au rfl))) sg) rfl (by rw[jg,z9f cc])))
theorem RJ{N:Nat}{b:Int}{l0:List Int}{r:List (List Int)}(hns:ns.length<=1000000)(hm:m= "worth"\/m= "joins")(o:Ok w h f)(er:aZ (bD w h (tbl m w h f) M)=(b::l0)::r)(hN:1<=N){e5 e8 e9 e10 pO jZ nj:Option Ent}:∀{ks:List Nat} {tU pP pQ:Option Ent},
  ∃z13 VR V0,forL (aH 13) lwB (ks.map λ(k:Nat)=>D.int (k:Int)) [vA (.lst (ns.map .int)),vA (bx w h f),vA (.int (w:Int)),vA (.int (h:Int)),vA (.str m),e5,vA (bx w h M),vA (.lst (((aZ (bD w h (tbl m w h f) M)).take N).map dG)),e8,e9,e10,pO,jZ,tU,pP,pQ,nj] =
   .nx [vA (.lst (ns.map .int)),vA (bx w h f),vA (.int (w:Int)),vA (.int (h:Int)),vA (.str m),e5,vA (bx w h M),vA (.lst (((aZ (bD w h (tbl m w h f) M)).take N).map dG)),e8,e9,e10,pO,jZ,z13,VR,V0,nj]
 |[],_,_,_=>⟨_,_,_,rfl⟩
 | k::ks,tU,pP,pQ=>by
  let⟨VR,V0,e1⟩:=aeu (kk:=k) hns hm o er hN (e5:=e5) (e8:=e8) (e9:=e9) (e10:=e10) (pO:=pO) (jZ:=jZ) (pP:=pP) (pQ:=pQ) (nj:=nj);let⟨y13,y14,y15,e2⟩:=RJ hns hm o er hN (e5:=e5) (e8:=e8) (e9:=e9) (e10:=e10) (pO:=pO) (jZ:=jZ) (nj:=nj) (ks:=ks) (tU:=vA (.int (k:Int))) (pP:=VR) (pQ:=V0);show⟨y13,y14,y15,gF rfl e1 e2⟩
theorem aev{b:Int}{S:List (List Int)}(er:S=(b::l)::r)(hN:1<=N):∃r',(S.take N).map dG=dG (b::l)::r':=
 ⟨(r.take (N - 1)).map dG,by rw[er,show N=N - 1+1 by omega,aia,z1h];rfl⟩
theorem aew(hns:ns.length<=1000000)(hm:m= "worth"\/m= "joins")(o:Ok w h f)(hM:Mk w h M)(hN:1<=N)(hN2:N<=60){jZ:Option Ent}:
  lwV [vA (.lst (ns.map .int)),vA (bx w h f),e2,e3,vA (.str m),vA (.int (N:Int)),vA (bx w h M),vA (.lst (((aZ (bD w h (tbl m w h f) M)).take N).map dG)),e8,e9,e10,pO,jZ,tU,pP,pQ,nj]= .rt (.bl true):=by
 let⟨d1,d2,d3⟩:=nF (k:=210) (m:=(N:Int)) hns () ();let⟨j,hj⟩:=agy (show 0<=1+dr ns 210 N by omega);have b1:=Av (N:=j) hm o (jY o hM) () ();have e:((aZ (bD w h (tbl m w h f) M)).take N).take j=(aZ (bD w h (tbl m w h f) M)).take j:=by rw[aiX,ajd ()]
 rw[<-e] at b1;show aK (bw (aA rfl (aV (aB rfl (aB rfl (au rfl))) d1) (congrArg (λz=>R.ok (D.int z)) hj)) rfl) (bJ (aA (iV (ds:=[bx w h f,.int (j:Int)]) (zs:=[.str m,bx w h M]) (aB rfl (au rfl)) (aB rfl (au rfl)) b1) (abo rfl rfl) (Pu.Py rfl Hg)))
theorem aex{b:Int}(hns:ns.length<=1000000)(hm:m= "worth"\/m= "joins")(o:Ok w h f)(hM:Mk w h M)(hg:∀y x,M y x≠2)(hN:1<=N)(hN2:N<=60)(er:aZ (bD w h (tbl m w h f) M)=(b::l)::r){jZ:Option Ent}:
  lwU [vA (.lst (ns.map .int)),vA (bx w h f),vA (.int (w:Int)),vA (.int (h:Int)),vA (.str m),vA (.int (N:Int)),vA (bx w h M),vA (.lst (((aZ (bD w h (tbl m w h f) M)).take N).map dG)),e8,e9,vA (tI l),pO,jZ,tU,pP,pQ,nj]= .rt (.bl true):=by
 let⟨r',eh⟩:=aev er hN;have lcb:lc w h (tbl m w h f) M=b:=by unfold lc;rw[er];rfl
 have il:∀{k:List Int},k∈aZ (bD w h (tbl m w h f) M)->k.getD 0 0=b->jt [bx w h f,tI (k.drop 1),.str m,bx w h M]= .ok (.bl true):=λ{k} hk hb=>by
  let⟨s,q,c,rfl⟩:=VL o.h1 hk;have e:=TF hm o (jY o hM) q;have hb:cost h (tbl m w h f) s=b:=hb;rw[z9t c,lcb,z9t hb] at e;show jt [bx w h f,tI (dN h s),.str m,bx w h M]=_;rw[abU];show e
 have i0:jt [bx w h f,tI l,.str m,bx w h M]= .ok (.bl true):=il (k:=b::l) (by rw[er];simp) rfl;have ml:=wM hm o (jY o hM);rw[VH o.h1 hg,Z7 er] at ml;have lc1:=Z8 (N:=N) er;have afv:bN 2 [7] (dB (gv 7)) (c7 (dg 2 (aW (aH 0) (aW (aH 1) nilG)))) (cC (bin (gv 0) (bin (bin (gv 2) (ci 0) cA) (ci 0) cA) jD)) (gv 1)
   [vA (.lst (ns.map .int)),vA (bx w h f),vA (.int (w:Int)),vA (.int (h:Int)),vA (.str m),vA (.int (N:Int)),vA (bx w h M),vA (.lst (((aZ (bD w h (tbl m w h f) M)).take N).map dG)),e8,e9,vA (tI l),pO,jZ,tU,pP,pQ,nj] =
   .ok (.lst ((((aZ (bD w h (tbl m w h f) M)).take N).filter λk=>decide (k.getD 0 0=b)).map λk=>tI (k.drop 1))):=by
  rw[<-CK];show JF (l:=(aZ (bD w h (tbl m w h f) M)).take N) (c:=dG) (gO rfl) (by rw[agg];omega) λk hk=>?_;let⟨c,l',rfl⟩:=ju (af5 hk);show EY rfl (aX (aA rfl (aA (aA rfl rfl (yj (i:=0) (by rw[eh];rfl))) rfl (mO (i:=0) rfl)) jg)) rfl
 have afw:∀{jZ:Option Ent},bN 1 [4,1,6] (dB (gv 11)) (aH 0) (jz (cC (jE jt 4 2 [.inl 0,.inl 1] (ak (gv 2) (ak (gv 0) nA)) (ak (gv 1) (ak (gv 3) nA))))) (gv 0)
   [vA (.lst (ns.map .int)),vA (bx w h f),vA (.int (w:Int)),vA (.int (h:Int)),vA (.str m),vA (.int (N:Int)),vA (bx w h M),vA (.lst (((aZ (bD w h (tbl m w h f) M)).take N).map dG)),e8,e9,vA (tI l),vA (.lst ((((aZ (bD w h (tbl m w h f) M)).take N).filter λk=>decide (k.getD 0 0=b)).map λk=>tI (k.drop 1))),jZ,tU,pP,pQ,nj] =
   .ok (.lst []):=λ{jZ}=>by
  have e:((((aZ (bD w h (tbl m w h f) M)).take N).filter λk=>decide (k.getD 0 0=b)).filterMap λ_=>(none:Option D))=[]:=()
  show (JF (o:=λ_=>none) (l:=((aZ (bD w h (tbl m w h f) M)).take N).filter λk=>decide (k.getD 0 0=b)) (c:=λk=>tI (k.drop 1)) (gO rfl) (by have:=List.length_filter_le (λk:List Int=>decide (k.getD 0 0=b)) ((aZ (bD w h (tbl m w h f) M)).take N);rw[agg] at this;omega) λk hk=>?_).trans (by rw[e]);let⟨h1,h2⟩:=ahd.mp hk;show EY (b:=false) rfl (eG (b:=true) (aX (iV (ds:=[bx w h f,tI (k.drop 1)]) (zs:=[.str m,bx w h M]) (aB rfl (au rfl)) (aB rfl (au rfl)) (il (af5 h1) (z9o h2))))) rfl
 let⟨z13,VR,V0,el⟩:=RJ hns hm o er hN (e5:=vA (.int (N:Int))) (e8:=e8) (e9:=e9) (e10:=vA (tI l)) (pO:=vA (.lst ((((aZ (bD w h (tbl m w h f) M)).take N).filter λk=>decide (k.getD 0 0=b)).map λk=>tI (k.drop 1)))) (jZ:=vA (.int (((aZ (bD w h (tbl m w h f) M)).filter λk=>decide (k.getD 0 0=b)).length:Int))) (nj:=nj) (ks:=afI 5) (tU:=tU) (pP:=pP) (pQ:=pQ);have dt:dep (tI l)<=40:=by
  have:deps (l.map D.int)<=0:=Hf λd hd=>by let⟨i,_,rfl⟩:=afW.mp hd;show z0g _
  show deps (l.map D.int)+1<=40;omega
 show aK (cQ (rJ (aX (aA (aA (aA rfl rfl (yj (i:=0) (by rw[eh];rfl))) rfl (mO (i:=1) rfl)) rfl (Pu.kh rfl dt))) (eG (b:=true) (aX (iV (ds:=[bx w h f,tI l]) (zs:=[.str m,bx w h M]) (aB rfl (au rfl)) (aB rfl (au rfl)) i0)))) rfl) ?_;show aK (bw afv rfl) ?_;show aK (bw (iV (ds:=[bx w h f]) (zs:=[.str m,bx w h M]) (au rfl) (aB rfl (au rfl)) ml) rfl) ?_;show aK (cQ (aX (aA (x:= .int ((((aZ (bD w h (tbl m w h f) M)).take N).filter λk=>decide (k.getD 0 0=b)).length:Int)) (aP (au rfl) (by rw[cF,z1g])) (aP (aB rfl (au rfl)) rfl) (Pu.kh ?_ (ahp _)))) rfl) ?_
 .rw[lc1];congr 1;split <;> omega
 show aK (cQ (aX (aA (afw (jZ:=vA (.int (((aZ (bD w h (tbl m w h f) M)).filter λk=>decide (k.getD 0 0=b)).length:Int)))) (fM rfl) rfl)) rfl) ?_;show aK (mq (xs:=(afI 5).map λ(k:Nat)=>D.int (k:Int)) rfl el) (aew hns hm o hM hN hN2)
theorem abu(ns:List Int)(hns:ns.length<=63):Js [.lst (ns.map .int)]= .ok (.bl true):=by
 have hn:ns.length<=1000000:=()
 let⟨w,h,f,e1,o,w8,h7⟩:=aeo (ns:=ns) hn;let⟨M0,e2,hM0⟩:=abt hn o;let⟨m,hm,e3⟩:=aac (ns:=ns) hn;let⟨d1,d2,d3⟩:=nF (k:=141) (m:=30) hn () ();let⟨N,hN⟩:=agy (show 0<=1+dr ns 141 30 by omega);have et:aD j9 (ak (bN 1 [] (dB (aD (aO pI 3) (ak (gv 0) (ak (ci 70) (ak (gv 1) nA))))) (aH 0) tT (aD j9 (ak (bN 1 [] (dB (gv 0)) (aH 0) tT (bin (gv 0) (ci 2) fV)) nA))) nA)
   [vA (.lst (ns.map .int)),vA (bx w h f),vA (.int (w:Int)),vA (.int (h:Int)),vA (.str m),vA (.int (N:Int)),none,none,none,none,none,none,none,none,none,none,none]= .ok (bx w h λy x=>M0 y x % 2):=by
  have h2:=o.h2;have w2:=o.w2;show aP (au (bR (c:=λy=>row w (M0 y)) (h:=λy=>row w (λx=>M0 y x % 2)) (l:=afI h) (dZ (aV (aB rfl (aB rfl (au rfl))) e2)) (by rw[z2d];omega) λy hy=>?_)) rfl;show cB rfl (aP (au (bR (c:=λx=>D.int (M0 y x)) (h:=λx=>D.int (M0 y x % 2)) (l:=afI w) (dZ rfl) (by rw[z2d];omega) λx hx=>cB rfl (aA rfl rfl rfl))) rfl)
 generalize hMM:(λy x=>M0 y x % 2:Nat->Nat->Int)=M at et
 have m01:∀y x,M y x=0\/M y x=1:=λy x=>by
  rw[<-hMM];show M0 y x % 2=0\/M0 y x % 2=1;omega
 have hM:Mk w h M:=λy x=>by rcases m01 y x with e |e <;> rw[e] <;> decide
 have hg:∀y x,M y x≠2:=λy x=>by rcases m01 y x with e |e <;> rw[e] <;> decide
 have hf:mZ M=M:=by
  funext y x;unfold mZ;rcases m01 y x with e |e <;> rw[e] <;> rfl
 have b1:=Av (N:=N) hm o (jY o hM) () ();have hmn:=Ny o (jY o hM);rw[ac9 (T:=tbl m w h f) o.h1] at hmn;let⟨z8,z9,eA⟩:=RD hm o (e0:=vA (.lst (ns.map .int))) (e2:=vA (.int (w:Int))) (e3:=vA (.int (h:Int))) (e5:=vA (.int (N:Int))) (e7:=vA (.lst (((aZ (bD w h (tbl m w h f) M)).take N).map dG))) (e10:=none) (pO:=none) (jZ:=none) (tU:=none) (pP:=none) (pQ:=none) (nj:=none) (L:=(aZ (bD w h (tbl m w h f) M)).take N) (e8:=none) (e9:=none) λk hk=>VL o.h1 (af5 hk);show iw (aK (bw (aV (aB rfl (aB rfl (aB rfl (au rfl)))) e1) rfl) ?_);show aK (ab5 (len0 o rfl) (aP (au rfl) yH)) ?_;show aK (bw (iu (aB (aV (aB rfl (au rfl)) e3) (au (aA rfl (aV (aB rfl (aB rfl (au rfl))) d1) (congrArg (λz=>R.ok (D.int z)) hN))))) rfl) ?_;show aK (bw et rfl) ?_;show aK (bw (iV (ds:=[bx w h f,.int (N:Int)]) (zs:=[.str m,bx w h M]) (aB rfl (au rfl)) (aB rfl (au rfl)) b1) rfl) ?_;show aK (cQ (rJ (aX (aA rfl (aP (au rfl) (abq ())) (Pu.kh rfl Hg))) (aX (aA (x:= .int (((aZ (bD w h (tbl m w h f) M)).take N).length:Int)) (aP (au rfl) (by rw[cF,z1g])) (aP (aB rfl (au (iV (ds:=[bx w h f]) (zs:=[bx w h M]) (au rfl) (au rfl) hmn))) rfl) (Pu.kh ?_ (ahp _))))) rfl) ?_
 .rw[agg];congr 1;split <;> omega
 show aK (mq (gO rfl) eA) ?_
 match er:aZ (bD w h (tbl m w h f) M) with
 | []=>
  have ln:=W7 hm hf o hM er;have ml:=wM hm o (jY o hM);rw[VH o.h1 hg,er] at ml;show aK (bw (iV (ds:=[bx w h f]) (zs:=[.str m,bx w h M]) (au rfl) (aB rfl (au rfl)) ln) rfl) (ou (jL (ac2 (aX (aA rfl rfl rfl))) (aK (cQ (eG (b:=true) (oh (aX (aA rfl rfl rfl)) (aX (aA rfl (fM rfl) (by rw[List.take_nil];rfl))))) rfl) (bJ (aA (iV (ds:=[bx w h f]) (zs:=[.str m,bx w h M]) (au rfl) (aB rfl (au rfl)) ml) rfl rfl)))))
 | (b::l)::r=>
  have ls:=W8 hm hf o hM er;show aK (bw (iV (ds:=[bx w h f]) (zs:=[.str m,bx w h M]) (au rfl) (aB rfl (au rfl)) ls) rfl) (aK (cQ (rJ (aX (aA rfl rfl rfl)) (aX (aA rfl (fM rfl) ?_))) rfl) ?_)
  .let⟨r',eh⟩:=aev (N:=N) er ();rw[<-er,jD,z9p Hg,eh];rfl
  .rw[<-er];show aex hn hm o hM hg () () er
 | []::r=>
  let⟨_,_,e⟩:=ju (w:=w) (h:=h) (T:=tbl m w h f) (M:=M) (k:=[]) (by rw[er];simp);cases e
end
end Fx
variable{cs:List Fx.iW}
namespace Fx
open PySem PySem.Spec L2 Pu
open PyProof.Rows hiding St
variable{f:afG}{F:agJ}{outer:List PySem.Env}{st:agl}{cdv:afF}{E:XK}
def DX(K:w0a)(x:Str)(st:agl):Prop:=∃f fd,Fun K x x st f fd/\w0b K af0 x=some (some (.ref f))
theorem ae6{oc:afF}{od an:Option afG}{osl:Array (Option afF)}{kV doc pm ct:afF}(a:w0b K af0 x=some (some (.ref f)))(l:K.lookup f=some ⟨oc,od,.func (w0c x x (defArgs st) (defBody st) (defScope st) .none kV doc pm an cdv ct),osl⟩)
  (c:w0g K cdv x=true)(k:w0d K (.ref f)=true):DX K x st:=⟨f,_,fun_mk l c k,a⟩
def DY(K:w0a)(mg:Str->Option afF)(x:Str)(st:agl)(ps:List Str):Prop:=∃f fd,Fun K x x st f fd/\mg x=some (.ref f)/\Binds K fd ps []
theorem dy(X:K.In h)(G:h.Ns af0 mg)(q:DX K x st)
  (b:∀(kV doc pm:afF) (an:Option afG) (cdv ct:afF) (us:List afF),us.length=ps.length->aiO (w0c x x (defArgs st) (defBody st) (defScope st) .none kV doc pm an cdv ct) ⟨us,[]⟩=pure (ps.zip us)):DY K mg x st ps:=
 let⟨f,fd,u,a⟩:=q;⟨f,fd,u,w0e X G a,u.binds b⟩
theorem fQ{N:List Str}{k n m:Nat}(q:DY K mg x st ps)(S:FnScope N ps (defScope st))(hn:ps.length=n)(hm:N.length=n+m)
  (hb:∀{f:afG} (cdv:afF) (A:afZ) (outer:List PySem.Env) (s:afH) (H:Hp) (E:XK),Room k (A.deeper (aij x (defScope st) s.heap.objs.size f cdv))->mY (cxOf CX0 P w K mg base N x (defScope st) f cdv A outer s H E).nox (defBody st) g):dY P w K mg base (k+1) x n (cL m g):=
 let⟨_,_,Fn,hmg,b⟩:=q;adA Fn hmg b S hn hm hb
def zO(P:afQ)(w:af2)(K:w0a)(mg:Str->Option afF)(base:af8)(k:Nat)(x:Str)(n:Nat)(F:List D->R D)(ps:List Str)(ts:List (afG×Str)):Prop:=∃fd,zp P w K mg base k x n F fd ps ts/\Binds K fd ps []
theorem abv{N:List Str}{k n m:Nat}{ts:List (afG×Str)}(q:DY K mg x st ps)(S:FnScope N ps (defScope st))(hn:ps.length=n)(hm:N.length=n+m)
  (hb:∀{f:afG} (cdv:afF) (A:afZ) (outer:List PySem.Env) (s:afH) (H:Hp) (E:XK),True->Room k (A.deeper (aij x (defScope st) s.heap.objs.size f cdv))->Tb ts H->mY (cxOf CX0 P w K mg base N x (defScope st) f cdv A outer s H E).nox (defBody st) g):zO P w K mg base (k+1) x n (λds=>gG m g (ds.map .val)) ps ts:=
 let⟨f,fd,Fn,hmg,b⟩:=q;⟨fd,⟨f,Im Fn S hn hm λcdv A outer s H E _=>hb cdv A outer s H E trivial,hmg,Fn.kp⟩,b⟩
section
variable{k m n:Nat}{F:List D->R D}{p pos:Pos}{ts:List (afG×Str)}
theorem oK(G:zO X.prog X.w X.K X.mg X.base k x n F ps ts)(hT:Tb ts X.H₀)(hr:Room m X.A)(hkm:k<=m)(ha:DA X (e::es) fa)(hg:Gl X x:=by rfl)
  (hdb:(x ==("__debug__" :Str))=false:=by decide)(he:afL (e::es) X.env=(false,eval e X.env)::afL es X.env:=by rfl)(hpl:(agS pos (afL es X.env)).any (·.1)=false:=by rfl):
  DE X (.Call (.Name x p) (e::es) [] pos) (aD (aO F n) fa):=let⟨_,g,b⟩:=G;adM g hT hr hkm b ha hg hdb he hpl
end
theorem Ge(hl:us.length=n+1):∃a u,us=a::u/\u.length=n:=by
 cases us with
 |nil=>cases hl
 |cons a u=>show⟨a,u,rfl,Nat.succ.inj hl⟩
theorem tV(hl:us.length=1)(h:∀a0,aiO F ⟨[a0],[]⟩=pure (ps.zip [a0])):aiO F ⟨us,[]⟩=pure (ps.zip us):=by
 let⟨a0,u1,rfl,h1⟩:=Ge hl;cases agp h1;show h a0
theorem tW(hl:us.length=2)(h:∀a0 a1,aiO F ⟨[a0,a1],[]⟩=pure (ps.zip [a0,a1])):aiO F ⟨us,[]⟩=pure (ps.zip us):=by
 let⟨a0,u1,rfl,h1⟩:=Ge hl;let⟨a1,u2,rfl,h2⟩:=Ge h1;cases agp h2;show h a0 a1
theorem JV(hl:us.length=3)(h:∀a0 a1 a2,aiO F ⟨[a0,a1,a2],[]⟩=pure (ps.zip [a0,a1,a2])):aiO F ⟨us,[]⟩=pure (ps.zip us):=by
 let⟨a0,u1,rfl,h1⟩:=Ge hl;let⟨a1,u2,rfl,h2⟩:=Ge h1;let⟨a2,u3,rfl,h3⟩:=Ge h2;cases agp h3;show h a0 a1 a2
theorem lk4(hl:us.length=4)(h:∀a0 a1 a2 a3,aiO F ⟨[a0,a1,a2,a3],[]⟩=pure (ps.zip [a0,a1,a2,a3])):aiO F ⟨us,[]⟩=pure (ps.zip us):=by
 let⟨a0,u1,rfl,h1⟩:=Ge hl;let⟨a1,u2,rfl,h2⟩:=Ge h1;let⟨a2,u3,rfl,h3⟩:=Ge h2;let⟨a3,u4,rfl,h4⟩:=Ge h3;cases agp h4;show h a0 a1 a2 a3
def top(i:Nat):agl:=PySem.Challenge.pw_seamhall_k23_whole_best.main.body.getD i (.Pass ⟨0,0,0,0⟩)
abbrev vK:agl:=top 62
theorem dR:FnScope ["_law_script","_law_k","_law_many","_law_cell","_law_turn","_law_rest"] ["_law_script","_law_k","_law_many"] (defScope vK):=⟨rfl,rfl,rfl,{},rfl,{},{}⟩
abbrev sU:agl:=top 68
theorem K5:FnScope ["_law_script","_law_at"] ["_law_script","_law_at"] (defScope sU):=⟨rfl,rfl,rfl,{},rfl,{},{}⟩
abbrev vL:agl:=top 65
theorem lE:FnScope ["_law_script","_law_at","_law_picture_here","_law_rows","_law_signs_here","_law_y","_law_row","_law_here"] ["_law_script","_law_at","_law_picture_here"] (defScope vL):=⟨rfl,rfl,rfl,{},rfl,{},{}⟩
abbrev vM:agl:=top 66
theorem Nz:FnScope ["_law_tags","_law_seam","_law_sign"] ["_law_tags","_law_seam","_law_sign"] (defScope vM):=⟨rfl,rfl,rfl,{},rfl,{},{}⟩
abbrev qO:agl:=top 63
theorem pW:FnScope ["_law_script","_law_at","_law_broad","_law_tall","_law_most","_law_rows","_law_y"] ["_law_script","_law_at","_law_broad","_law_tall"] (defScope qO):=⟨rfl,rfl,rfl,{},rfl,{},{}⟩
abbrev xq:agl:=top 64
theorem RK:FnScope ["_law_script","_law_at","_law_broad","_law_tall"] ["_law_script","_law_at","_law_broad","_law_tall"] (defScope xq):=⟨rfl,rfl,rfl,{},rfl,{},{}⟩
abbrev zP:agl:=top 67
theorem xr:FnScope ["_law_script","_law_at","_law_broad","_law_tall","_law_way_here","_law_k"] ["_law_script","_law_at","_law_broad","_law_tall"] (defScope zP):=⟨rfl,rfl,rfl,{},rfl,{},{}⟩
abbrev CQ:agl:=top 37
theorem W9:FnScope ["row","above","place"] ["row","above","place"] (defScope CQ):=⟨rfl,rfl,rfl,{},rfl,{},{}⟩
abbrev RL:agl:=top 34
theorem adb:FnScope ["place","wide"] ["place","wide"] (defScope RL):=⟨rfl,rfl,rfl,{},rfl,{},{}⟩
abbrev Ho:agl:=top 40
theorem rR:FnScope ["beneath","row","x","told","place","fare"] ["beneath","row","x"] (defScope Ho):=⟨rfl,rfl,rfl,{},rfl,{},{}⟩
abbrev uL:agl:=top 41
theorem kZ:FnScope ["table","marks","start","gather","rows","y","row","x","mark","told","lost"] ["table","marks","start","gather"] (defScope uL):=⟨rfl,rfl,rfl,{},rfl,{},{}⟩
abbrev jC:agl:=top 42
theorem CV:FnScope ["table","marks","many","first_ones"] ["table","marks","many"] (defScope jC):=⟨rfl,rfl,rfl,{},rfl,{},{}⟩
abbrev zQ:agl:=top 45
theorem nu:FnScope ["table","rows","told","x","cell","fare"] ["table","rows"] (defScope zQ):=⟨rfl,rfl,rfl,{},rfl,{},{}⟩
abbrev sV:agl:=top 46
theorem K6:FnScope ["table","marks","many"] ["table","marks","many"] (defScope sV):=⟨rfl,rfl,rfl,{},rfl,{},{}⟩
abbrev vN:agl:=top 32
theorem NK:FnScope ["marks"] ["marks"] (defScope vN):=⟨rfl,rfl,rfl,{},rfl,{},{}⟩
abbrev zR:agl:=top 10
theorem TY:FnScope ["thing"] ["thing"] (defScope zR):=⟨rfl,rfl,rfl,{},rfl,{},{}⟩
abbrev RM:agl:=top 19
theorem V1:FnScope ["line","last"] ["line"] (defScope RM):=⟨rfl,rfl,rfl,{},rfl,{},{}⟩
abbrev vO:agl:=top 35
theorem fG:FnScope ["picture","y","row","above","last","told","x","gap","from_left","from_right"] ["picture","y"] (defScope vO):=⟨rfl,rfl,rfl,{},rfl,{},{}⟩
abbrev CW:agl:=top 12
theorem Xa:FnScope ["thing"] ["thing"] (defScope CW):=⟨rfl,rfl,rfl,{},rfl,{},{}⟩
abbrev CZ:agl:=top 11
theorem Xb:FnScope ["thing"] ["thing"] (defScope CZ):=⟨rfl,rfl,rfl,{},rfl,{},{}⟩
abbrev Hq:agl:=top 13
theorem aad:FnScope ["thing"] ["thing"] (defScope Hq):=⟨rfl,rfl,rfl,{},rfl,{},{}⟩
abbrev vP:agl:=top 14
theorem NP:FnScope ["thing"] ["thing"] (defScope vP):=⟨rfl,rfl,rfl,{},rfl,{},{}⟩
abbrev qP:agl:=top 15
theorem JW:FnScope ["thing"] ["thing"] (defScope qP):=⟨rfl,rfl,rfl,{},rfl,{},{}⟩
abbrev Dc:agl:=top 16
theorem Xc:FnScope ["picture"] ["picture"] (defScope Dc):=⟨rfl,rfl,rfl,{},rfl,{},{}⟩
abbrev Hr:agl:=top 17
theorem Nk:FnScope ["picture","wide","high"] ["picture"] (defScope Hr):=⟨rfl,rfl,rfl,{},rfl,{},{}⟩
abbrev Hs:agl:=top 20
theorem wO:FnScope ["picture","wide","high","across","down"] ["picture"] (defScope Hs):=⟨rfl,rfl,rfl,{},rfl,{},{}⟩
abbrev K7:agl:=top 36
theorem abw:FnScope ["picture","manner"] ["picture","manner"] (defScope K7):=⟨rfl,rfl,rfl,{},rfl,{},{}⟩
abbrev zT:agl:=top 30
theorem T3:FnScope ["picture"] ["picture"] (defScope zT):=⟨rfl,rfl,rfl,{},rfl,{},{}⟩
abbrev Df:agl:=top 27
theorem Xd:FnScope ["thing"] ["thing"] (defScope Df):=⟨rfl,rfl,rfl,{},rfl,{},{}⟩
abbrev qQ:agl:=top 28
theorem JX:FnScope ["thing","wide"] ["thing","wide"] (defScope qQ):=⟨rfl,rfl,rfl,{},rfl,{},{}⟩
abbrev zU:agl:=top 29
theorem T4:FnScope ["thing","picture"] ["thing","picture"] (defScope zU):=⟨rfl,rfl,rfl,{},rfl,{},{}⟩
abbrev vQ:agl:=top 31
theorem NQ:FnScope ["thing","picture"] ["thing","picture"] (defScope vQ):=⟨rfl,rfl,rfl,{},rfl,{},{}⟩
abbrev sW:agl:=top 26
theorem K8:FnScope ["thing"] ["thing"] (defScope sW):=⟨rfl,rfl,rfl,{},rfl,{},{}⟩
abbrev zV:agl:=top 39
theorem Gf:FnScope ["picture","manner","marks","marked"] ["picture","manner","marks"] (defScope zV):=⟨rfl,rfl,rfl,{},rfl,{},{}⟩
abbrev fj:agl:=top 59
theorem Aw:FnScope ["picture","many","manner","marks","table","marked"] ["picture","many","manner","marks"] (defScope fj):=⟨rfl,rfl,rfl,{},rfl,{},{}⟩
abbrev Ht:agl:=top 33
theorem aae:FnScope ["thing","wide","high"] ["thing","wide","high"] (defScope Ht):=⟨rfl,rfl,rfl,{},rfl,{},{}⟩
abbrev Dg:agl:=top 49
theorem JZ:FnScope ["thing","picture","wide","high"] ["thing","picture"] (defScope Dg):=⟨rfl,rfl,rfl,{},rfl,{},{}⟩
abbrev xu:agl:=top 50
theorem RN:FnScope ["thing","picture"] ["thing","picture"] (defScope xu):=⟨rfl,rfl,rfl,{},rfl,{},{}⟩
abbrev zW:agl:=top 38
theorem rm:FnScope ["table","way","total","y"] ["table","way"] (defScope zW):=⟨rfl,rfl,rfl,{},rfl,{},{}⟩
abbrev jw:agl:=top 51
theorem Xe:FnScope ["picture","seam","manner"] ["picture","seam","manner"] (defScope jw):=⟨rfl,rfl,rfl,{},rfl,{},{}⟩
abbrev Dh:agl:=top 43
theorem zX:FnScope ["told","best_less","best_cost","alike"] ["told"] (defScope Dh):=⟨rfl,rfl,rfl,{},rfl,{},{}⟩
abbrev cW:agl:=top 44
theorem K9:FnScope ["table","marks"] ["table","marks"] (defScope cW):=⟨rfl,rfl,rfl,{},rfl,{},{}⟩
abbrev sX:agl:=top 56
theorem qR:FnScope ["marks","costless","rows"] ["marks"] (defScope sX):=⟨rfl,rfl,rfl,{},rfl,{},{}⟩
abbrev iG:agl:=top 57
theorem T5:FnScope ["picture","marks"] ["picture","marks"] (defScope iG):=⟨rfl,rfl,rfl,{},rfl,{},{}⟩
abbrev vR:agl:=top 58
theorem NT:FnScope ["seam","marks"] ["seam","marks"] (defScope vR):=⟨rfl,rfl,rfl,{},rfl,{},{}⟩
abbrev iH:agl:=top 60
theorem xG:FnScope ["picture","seam","manner","marks","table","marked","less","cost","first"] ["picture","seam","manner","marks"] (defScope iH):=⟨rfl,rfl,rfl,{},rfl,{},{}⟩
abbrev xH:agl:=top 47
theorem vU:FnScope ["table","marks","found","less","cost","seam"] ["table","marks"] (defScope xH):=⟨rfl,rfl,rfl,{},rfl,{},{}⟩
abbrev fB:agl:=top 52
theorem sY:FnScope ["picture","manner","marks","table","marked","found"] ["picture","manner","marks"] (defScope fB):=⟨rfl,rfl,rfl,{},rfl,{},{}⟩
abbrev fD:agl:=top 53
theorem sZ:FnScope ["picture","manner","marks","table","marked","told"] ["picture","manner","marks"] (defScope fD):=⟨rfl,rfl,rfl,{},rfl,{},{}⟩
abbrev um:agl:=top 69
theorem jx:FnScope ["_law_script","_law_picture_here","_law_broad","_law_tall","_law_mode","_law_many","_law_tags","_law_told","_law_cost","_law_seam","_law_first","_law_least","_law_ties","_law_k","_law_way_here","_law_here","_law_few"] ["_law_script"] (defScope um):=⟨rfl,rfl,rfl,{},rfl,{},{}⟩
abbrev iY:agl:=(defBody jC).getD 0 (.Pass ⟨0,0,0,0⟩)
theorem NZ:Ku ["x","told","many"] ["x","told"] "many" (defScope iY):=⟨rfl,rfl,rfl,{},rfl,{},{},{},{}⟩
theorem Di:FnScope ["x","told"] ["x","told"] (zA (GX cW)):=⟨rfl,rfl,rfl,{},rfl,{},{}⟩
structure Txt(K:w0a)(mg:Str->Option afF):Prop where
 Dj:∃t,mg "FREE" =some (.int 0 t)
 J0:∃t,mg "GONE" =some (.int 2 t)
 Dk:∃t,mg "KEPT" =some (.int 1 t)
 xJ:∃t,mg "MOST_CELL" =some (.int 99 t)
 xK:∃t,mg "MOST_LONG" =some (.int 20 t)
 vV:∃t,mg "MOST_SEAMS" =some (.int 60 t)
 Dl:aaK K mg "MANNERS" ["worth","joins"]
 Fg:mg "abs" =none
 uo:mg "all" =none
 Xf:mg "any" =none
 RP:mg "bool" =none
 lG:mg "enumerate" =none
 Xg:mg "int" =none
 gK:mg "isinstance" =none
 dj:mg "len" =none
 RQ:mg "list" =none
 zY:mg "max" =none
 uq:mg "min" =none
 eU:mg "range" =none
 zZ:mg "reversed" =none
 Xh:mg "set" =none
 vW:mg "sorted" =none
 Fi:mg "sum" =none
 dX:mg "tuple" =none
 O7:mg "zip" =none
 J1:∀d:D,w0h K (.type (mj d)) (.type "int")=some (Eh (mj d))
 Dm:∀d:D,w0h K (.type (mj d)) (.type "bool")=some (yX (mj d))
 oM:∀d:D,w0h K (.type (mj d)) (.type "tuple")=some (iJ (mj d))
 J2:∀d:D,w0h K (.type (mj d)) (.type "list")=some (Px (mj d))
abbrev tz(TP TQ:afG):List (afG×Str):=[(TP,"best_ways.<locals>.first_ones"),(TQ,"best_counts.<locals>.<lambda>")]
structure HX(K:w0a)(mg:Str->Option afF):Prop extends Txt K mg where
 vX:DY K mg "_law_drawn" vK ["_law_script","_law_k","_law_many"]
 tu:DY K mg "_law_manner" sU ["_law_script","_law_at"]
 vY:DY K mg "_law_marks" vL ["_law_script","_law_at","_law_picture_here"]
 vZ:DY K mg "_law_signs" vM ["_law_tags","_law_seam","_law_sign"]
 qT:DY K mg "_law_picture" qO ["_law_script","_law_at","_law_broad","_law_tall"]
 xM:DY K mg "_law_some" xq ["_law_script","_law_at","_law_broad","_law_tall"]
 Aa:DY K mg "_law_way" zP ["_law_script","_law_at","_law_broad","_law_tall"]
 Dn:DY K mg "fare_of" CQ ["row","above","place"]
 RT:DY K mg "near" RL ["place","wide"]
 Hu:DY K mg "onward" Ho ["beneath","row","x"]
 La:DY K mg "swept" uL ["table","marks","start","gather"]
 xO:DY K mg "best_ways" jC ["table","marks","many"]
 Ab:DY K mg "from_top" zQ ["table","rows"]
 tD:DY K mg "first_seams" sV ["table","marks","many"]
 v7:DY K mg "gone_freed" vN ["marks"]
 Ac:DY K mg "is_whole" zR ["thing"]
 RV:DY K mg "gaps" RM ["line"]
 v9:DY K mg "join_fares" vO ["picture","y"]
 Dq:DY K mg "is_line" CW ["thing"]
 Dr:DY K mg "is_cell" CZ ["thing"]
 Hv:DY K mg "is_row" Hq ["thing"]
 wg:DY K mg "is_picture" vP ["thing"]
 qU:DY K mg "need_picture" qP ["thing"]
 Ds:DY K mg "size_of" Dc ["picture"]
 Hw:DY K mg "turned" Hr ["picture"]
 Hx:DY K mg "worths" Hs ["picture"]
 Lb:DY K mg "fares" K7 ["picture","manner"]
 Ad:DY K mg "all_free" zT ["picture"]
 Dt:DY K mg "is_mark" Df ["thing"]
 qW:DY K mg "is_marks_row" qQ ["thing","wide"]
 Ae:DY K mg "is_marks" zU ["thing","picture"]
 wj:DY K mg "full_marks" vQ ["thing","picture"]
 tE:DY K mg "need_manner" sW ["thing"]
 Af:DY K mg "laid_out" zV ["picture","manner","marks"]
 Hy:DY K mg "is_way" Ht ["thing","wide","high"]
 Du:DY K mg "is_seam" Dg ["thing","picture"]
 xP:DY K mg "need_seam" xu ["thing","picture"]
 Ag:DY K mg "way_cost" zW ["table","way"]
 Dv:DY K mg "as_good" Dh ["told"]
 tH:DY K mg "best_counts" cW ["table","marks"]
 tK:DY K mg "counts_down" sX ["marks"]
 wk:DY K mg "meets_kept" vR ["seam","marks"]
 xQ:DY K mg "least_way" xH ["table","marks"]
 RW:∃f fd,Fun K "best_seams" "best_seams" fj f fd/\mg "best_seams" =some (.ref f)/\KB K fd ["picture","many","manner","marks"] ["manner","marks"] [.inl 0,.inl 1]
 aaf:∃f fd,Fun K "cost_of" "cost_of" jw f fd/\mg "cost_of" =some (.ref f)/\KB K fd ["picture","seam","manner"] ["manner"] [.inl 0]
 Xi:∃f fd,Fun K "how_many" "how_many" iG f fd/\mg "how_many" =some (.ref f)/\KB K fd ["picture","marks"] ["marks"] [.inl 0]
 Xj:∃f fd,Fun K "is_least" "is_least" iH f fd/\mg "is_least" =some (.ref f)/\KB K fd ["picture","seam","manner","marks"] ["manner","marks"] [.inl 0,.inl 1]
 RX:∃f fd,Fun K "least_seam" "least_seam" fB f fd/\mg "least_seam" =some (.ref f)/\KB K fd ["picture","manner","marks"] ["manner","marks"] [.inl 0,.inl 1]
 RZ:∃f fd,Fun K "many_least" "many_least" fD f fd/\mg "many_least" =some (.ref f)/\KB K fd ["picture","manner","marks"] ["manner","marks"] [.inl 0,.inl 1]
structure HB(K:w0a)(mg:Str->Option afF)(base:af8)(cN TP cM TQ:afG):Prop extends HX K mg where
 hB:iC base mg cN TP
 hC:pC K mg "best_ways" cN
 hB2:iC base mg cM TQ
 hC2:pC K mg "best_counts" cM
section
variable{cN TP cM TQ:afG}
theorem il1{a:Int}{ja}{pa q}:DE X (.List [.Constant (.int a) ja pa] q) (jA (ak (λ_=> .ok (.int a)) nA)):=jJ (aj aJ ao)
theorem il5{a b c d e:Int}{ja jb jc jd je}{pa pb pc pd pe q}:DE X (.List [.Constant (.int a) ja pa,.Constant (.int b) jb pb,.Constant (.int c) jc pc,.Constant (.int d) jd pd,.Constant (.int e) je pe] q) (jA (ak (λ_=> .ok (.int a)) (ak (λ_=> .ok (.int b)) (ak (λ_=> .ok (.int c)) (ak (λ_=> .ok (.int d)) (ak (λ_=> .ok (.int e)) nA)))))):=jJ (aj aJ (aj aJ (aj aJ (aj aJ (aj aJ ao)))))
theorem N5{c:afG}(T:Txt K mg)(hr:Room 0 (A.deeper (zq "best_ways.<locals>.first_ones" (defScope iY) f cdv s "many" c))):mY (zu P w K mg base ["x","told","many"] "best_ways.<locals>.first_ones" (defScope iY) f cdv A outer s H "many" c) (defBody iY) Cg:=by
 show (aL (bf (cg ["less","cost","places"] [0] rfl ⟨⟩ ⟨⟩ (cT (BL (aR (QB (Iz hr)) rfl T.vW boot_sorted (aj (dv 1) ao)) za (zc (dv 2)))) (gD (bK (aM {}) (bK (aM {}) (bK (aM {}) gC)))) (λ_ _ _ _ nd=>lQ rfl (cj (aY 0 nd) (cj (aY 1 nd) (cj (aY 2 nd) jK)))) (λ_ _ _ _=>bZ) (λ_ _ _ _=>(eY (aj (dv 0) (aj (dv 1) (aj (aU dJ (eY (aj (dv 3) ao)) (dv 2)) ao))))))))
theorem Ld(T:Txt K mg)(my:Int)(a c:afG)(H:Hp)(co:Obj)(uy:afF)(fh:mC H a "first_ones" "best_ways.<locals>.first_ones" (defArgs iY) (defBody iY) (defScope iY) [("many",c)])(hc:H c=some (.frz co (.own c)))(hcd:co.data= .cell (some uy))(hy:RelV (.int my) uy):pq P w K mg base 1 (lA my) 2 a H:=
 adP (k:=0) (m:=0) NZ rfl rfl (λ_ _ _ _ _ us hl=>tW hl λ_ _=>rfl) (λcdv A outer s H f c hr=>N5 T  hr) fh hc hcd hy
theorem Dw(T:Txt K mg)(j7:dY P w K mg base 1 "as_good" 1 jX)(hr:Room 1 (A.deeper (aij "best_counts.<locals>.<lambda>" (zA (GX cW)) s.heap.objs.size f cdv))):DE (cxOf CX0 P w K mg base ["x","told"] "best_counts.<locals>.<lambda>" (zA (GX cW)) f cdv A outer s H E).nox (U5 (GX cW)) (aD (aO jX 1) (ak (gv 1) nA)):=by
 show (bC j7 hr {} (aj (dv 1) ao))
theorem Bs(T:Txt K mg)(j7:dY P w K mg base 1 "as_good" 1 jX)(a:afG)(H:Hp)(fh:tZ H a "<lambda>" "best_counts.<locals>.<lambda>" (acz (GX cW)) (U5 (GX cW)) (zA (GX cW)) []):pq P w K mg base 2 gH 2 a H:=
 acA (k:=1) (m:=0) Di rfl rfl (λ_ _ _ us hl=>tW hl λ_ _=>rfl) (λcdv A outer s H E f hr=>Dw T j7 hr) fh
theorem dO(T:HX K mg):dY P w K mg base 1 "_law_drawn" 3 cX:=
 fQ (k:=0) (g:=Ca) T.vX dR rfl rfl λcdv A outer s H E hr=>(aF (cu 3 dR.nd (aU rA aJ (dv 1))) (aF (dH (cJ (tX (cY hr)) (dv 0) (jJ ao)) (aF (cu 3 dR.nd (bV (dv 0) (aU oN (dv 1) (aR cU rfl T.dj PySem.boot_len (aj (dv 0) ao))))) (aF (cu 4 dR.nd (aU uQ (dv 1) (aR cU rfl T.dj PySem.boot_len (aj (dv 0) ao)))) (aF (dH (DW.dt (xY (cJ aeJ (dv 3) (aU X3 aJ aJ)) (xX (cJ abE (dv 4) aJ)))) (aF (cu 5 dR.nd (aU uQ (dv 3) (aU X3 aJ aJ))) (aF (aaz 64 ahn (DW.dt (xY (cJ Om (dv 5) aJ) (xX (cJ Om (dv 4) aJ)))) (aF (cu 5 dR.nd (aU uQ (dv 5) aJ)) (aL (cu 4 dR.nd (aU fK (dv 4) aJ))))) (aL (dH (cJ Om (dv 5) aJ) (aL (bf (aU oN (aU oN (dv 5) aJ) (dv 2)))) cP)))) cP) (aL (cu 3 dR.nd (aU lu (dv 3) (aU rA aJ (aU uQ (dv 1) (aR cU rfl T.dj PySem.boot_len (aj (dv 0) ao)))))))))) cP) (aF (cu 3 dR.nd (aU oN (aU lu (aU rA (aU oN (dv 3) aJ) aJ) (aU rA aJ (aU lu (dv 1) aJ))) aJ)) (aF (cu 3 dR.nd (aU oN (aU lu (aU rA (dv 3) (dv 3)) (aU uQ (dv 3) aJ)) aJ)) (aL (bf (aU oN (aU uQ (aU oN (aU lu (aU rA (dv 3) (dv 3)) (aU uQ (dv 3) aJ)) aJ) aJ) (dv 2))))))))
theorem N6(T:HX K mg):dY P w K mg base 2 "_law_manner" 2 sH:=
 fQ (k:=1) (g:=Al) T.tu K5 rfl rfl λcdv A outer s H E hr=>(aL (bf (bV (jJ (aj O9 (aj O9 ao))) (bC (dO T) hr {} (aj (dv 0) (aj (dv 1) (aj aJ ao)))))))
theorem R0(T:HX K mg):dY P w K mg base 2 "_law_marks" 3 pI:=
  fQ (k :=1) (g:=Cd) T.vY lE rfl rfl λcdv A outer s H E hr=>(by
    show (aF (qu 3 lE.nd ao) (aF ?_ ?_))
    . show cu 4 ?_ ?_ (hi:=?_) (hx:=?_) (hs:=?_) (hf:=?_)
      . show lE.nd
      . show bV ?_ ?_
        . show jJ ?_
          show aj ?_ ?_
          . show il5
          show aj ?_ ?_
          . show il5
          show aj ?_ ?_
          . show il5
          show aj ?_ ?_
          . show il1
          show ao
        . show (bC (dO T) hr {} (aj (dv 0) (aj (dv 1) (aj aJ ao))))
      . rfl
      . first |show ag1 rfl |show agK rfl
      . rfl
      . first |show ag1 rfl |show agK rfl
    . show (aF (lZ ahn rfl (El rfl T.lG (aj (dv 2) ao)) (yd 5 6 rfl lE.nd) (aF (cu 7 lE.nd (aU dJ (aU dJ (dv 1) aJ) (aU Ek (aR cU rfl T.dj PySem.boot_len (aj (dv 6) ao)) (dv 5)))) (aL (Bu 3 (fW fX rfl T.dX ahu (aj (cg ["_law_x"] [7,0,4] rfl ⟨⟩ ⟨⟩ (gq rfl T.eU (aj (aR cU rfl T.dj PySem.boot_len (aj (dv 6) ao)) ao)) (aM {}) (λ_ _ _ _ nd=>aY 0 nd) (λ_ _ _ _=>bZ) (λ_ _ _ _=>(bV (dv 3) (bC (dO T) hr {} (aj (dv 2) (aj (aU dJ (dv 1) (dv 0)) (aj (aR cU rfl T.dj PySem.boot_len (aj (dv 3) ao)) ao))))))) ao)))))) (aL (bf (fW fX rfl T.dX ahu (aj (dv 3) ao))))))
theorem Dy(T:HX K mg):dY P w K mg base 1 "_law_signs" 3 pJ:=
 fQ (k:=0) (g:=Ce) T.vZ Nz rfl rfl λcdv A outer s H E hr=>(aL (bf (aR cU rfl T.dj PySem.boot_len (aj (cg ["_law_row","_law_x"] [2] rfl ⟨⟩ ⟨⟩ (Uv rfl T.O7 (aj (dv 0) (aj (dv 1) ao))) (gD (bK (aM {}) (bK (aM {}) gC))) (λ_ _ _ _ nd=>lQ rfl (cj (aY 0 nd) (cj (aY 1 nd) jK))) (λ_ _ _ _=>(Ed (cJ (jo (cY hr)) (bV (dv 0) (dv 1)) (dv 2)))) (λ_ _ _ _=>(dv 1))) ao))))
theorem Le(T:HX K mg):dY P w K mg base 2 "_law_picture" 4 qF:=
 fQ (k:=1) (g:=yE) T.qT pW rfl rfl λcdv A outer s H E hr=>(aF (ab3 4 5 rfl pW.nd (bV (jJ (aj aJ (aj aJ (aj aJ (aj aJ ao))))) (bC (dO T) hr {} (aj (dv 0) (aj (dv 1) (aj aJ ao))))) ao) (aF (lZ ahn rfl (gq rfl T.eU (aj (dv 3) ao)) (qm 6 pW.nd) (aL (Bu 5 (fW fX rfl T.dX ahu (aj (cg ["_law_x"] [1,2,4,0,6] rfl ⟨⟩ ⟨⟩ (gq rfl T.eU (aj (dv 2) ao)) (aM {}) (λ_ _ _ _ nd=>aY 0 nd) (λ_ _ _ _=>bZ) (λ_ _ _ _=>(bC (dO T) hr {} (aj (dv 4) (aj (aU lu (aU lu (aU lu (dv 1) aJ) (aU rA (dv 2) (dv 5))) (dv 0)) (aj (dv 3) ao)))))) ao))))) (aL (bf (fW fX rfl T.dX ahu (aj (dv 5) ao))))))
theorem T6(T:HX K mg):dY P w K mg base 3 "_law_some" 4 wX:=
 fQ (k:=2) (g:=Fy) T.xM RK rfl rfl λcdv A outer s H E hr=>(aL (bf (bC (Le T) hr {} (aj (dv 0) (aj (aU lu (dv 1) aJ) (aj (aU lu aJ (bC (dO T) hr {} (aj (dv 0) (aj (dv 1) (aj (dv 2) ao))))) (aj (aU lu aJ (bC (dO T) hr {} (aj (dv 0) (aj (aU lu (dv 1) aJ) (aj (dv 3) ao))))) ao)))))))
theorem Xk(T:HX K mg):dY P w K mg base 2 "_law_way" 4 zG:=
 fQ (k:=1) (g:=Jh) T.Aa xr rfl rfl λcdv A outer s H E hr=>(aF (qu 4 xr.nd (aj (bC (dO T) hr {} (aj (dv 0) (aj (dv 1) (aj (dv 2) ao)))) ao)) (aF (lZ ahn rfl (gq rfl T.eU (aj (aU fK (dv 3) aJ) ao)) (qm 5 xr.nd) (aL (Bu 4 (aR (BJ rfl) rfl T.zY boot_max (aj aJ (aj (aR (yp rfl) rfl T.uq akO (aj (aU fK (dv 2) aJ) (aj (aU fK (aU dJ (Yt 4 (PB aJ)) (bC (dO T) hr {} (aj (dv 0) (aj (aU dJ (aU dJ (dv 1) aJ) (dv 5)) (aj aJ ao))))) aJ) ao))) ao)))))) (aL (bf (fW fX rfl T.dX ahu (aj (dv 4) ao))))))
theorem wQ(T:HX K mg):dY P w K mg base 1 "fare_of" 3 iK:=
 fQ (k:=0) (g:=Mz) T.Dn W9 rfl rfl λcdv A outer s H E hr=>(aL (bf (bV (bV (dv 0) (dv 2)) (aU dJ (aU fK (dv 1) (dv 2)) aJ))))
theorem aey(T:HX K mg):dY P w K mg base 1 "near" 2 QK:=
 fQ (k:=0) (g:=Zm) T.RT adb rfl rfl λcdv A outer s H E hr=>(aL (bf (aaR rfl rfl T.RQ rfl T.eU (aj (aR (BJ rfl) rfl T.zY boot_max (aj (aU fK (dv 0) aJ) (aj aJ ao))) (aj (aR (yp rfl) rfl T.uq akO (aj (aU dJ (dv 0) aJ) (aj (dv 1) ao))) ao)))))
theorem Hz(T:HX K mg):dY P w K mg base 2 "onward" 3 zH:=
 fQ (k:=1) (g:=QL) T.Hu rR rfl rfl λcdv A outer s H E hr=>(aF (qu 3 rR.nd ao) (aF (lZ ahn rfl (cT (bC (aey T) hr {} (aj (dv 2) (aj (aR cU rfl T.dj PySem.boot_len (aj (dv 0) ao)) ao)))) (qm 4 rR.nd) (aF (cu 5 rR.nd (bC (wQ T) hr {} (aj (dv 1) (aj (dv 2) (aj (dv 4) ao))))) (aL (U0 3 rR.nd (cg ["less","cost","rest"] [5] rfl ⟨⟩ ⟨⟩ (cT (bV (dv 0) (dv 4))) (gD (bK (aM {}) (bK (aM {}) (bK (aM {}) gC)))) (λ_ _ _ _ nd=>lQ rfl (cj (aY 0 nd) (cj (aY 1 nd) (cj (aY 2 nd) jK)))) (λ_ _ _ _=>bZ) (λ_ _ _ _=>(eY (aj (dv 0) (aj (aU dJ (dv 1) (dv 3)) (aj (dv 2) ao)))))))))) (aL (bf (dv 3)))))
theorem abx(T:Txt K mg)(Hz:dY P w K mg base 2 "onward" 3 zH){aG:Nat}{GG:List D->R D}(hG:pq P w K mg base 2 GG 2 aG H)(hr:Room 2 (A.deeper (aij "swept" (defScope uL) s.heap.objs.size f cdv))):mY (cxOf CX0 P w K mg base ["table","marks","start","gather","rows","y","row","x","mark","told","lost"] "swept" (defScope uL) f cdv A outer s H E).nox (defBody uL) (KN aG GG):=by
 let⟨aez,R4⟩:=T.J0;let⟨aag,yN⟩:=T.Dk;show (aF (qu 4 kZ.nd ao) (aF (lZ ahn rfl (acr rfl T.zZ rfl T.eU (aj (aR cU rfl T.dj PySem.boot_len (aj (dv 1) ao)) ao)) (qm 5 kZ.nd) (aF (qu 6 kZ.nd ao) (aF (lZ ahn rfl (El rfl T.lG (aj (bV (dv 1) (dv 5)) ao)) (yd 7 8 rfl kZ.nd) (aF (dH (cJ (jo (cY hr)) (dv 8) (jj rfl yN)) (aL (cu 9 kZ.nd (jJ ao))) (aL (dH (gj (Qn (dv 4))) (aL (cu 9 kZ.nd (Qf 3 hG hr {} (aj (dv 7) (aj (jJ (aj (eY (aj aJ (aj aJ (aj (dv 2) ao)))) ao)) ao))))) (aL (cu 9 kZ.nd (Qf 3 hG hr {} (aj (dv 7) (aj (bC Hz hr {} (aj (Yt 4 (PB aJ)) (aj (bV (dv 0) (aU dJ (dv 5) aJ)) (aj (dv 7) ao)))) ao)))))))) (aF (cu 10 kZ.nd (abF (cJ (jo (cY hr)) (dv 8) (jj rfl R4)) aJ aJ)) (aL (Bu 6 (cg ["less","cost","rest"] [10] rfl ⟨⟩ ⟨⟩ (cT (dv 9)) (gD (bK (aM {}) (bK (aM {}) (bK (aM {}) gC)))) (λ_ _ _ _ nd=>lQ rfl (cj (aY 0 nd) (cj (aY 1 nd) (cj (aY 2 nd) jK)))) (λ_ _ _ _=>bZ) (λ_ _ _ _=>(eY (aj (aU fK (dv 0) (dv 3)) (aj (dv 1) (aj (dv 2) ao))))))))))) (aL (acp 4 6 {}))))) (aL (bf (aco (dv 4))))))
theorem uM(T:HX K mg):FnS P w K mg base 3 "swept" 2 3 2 lF:=by
 let⟨f,fd,Fn,hmg,hb⟩:=T.La;show⟨f,fd,["table","marks","start","gather"],fnS (k:=2) (m:=7) (g:=KN) Fn kZ rfl rfl λcdv A outer s H E a G hr hG=>abx T.toTxt (Hz T) hG hr,hmg,Fn.kp,hb⟩
theorem R5{cc TP:afG}(T:Txt K mg)(uM:FnS P w K mg base 3 "swept" 2 3 2 lF)(hB:iC base mg cc TP)(hT:Tb [(TP,"best_ways.<locals>.first_ones")] H)(hr:Room 3 (A.deeper (aij "best_ways" (defScope jC) s.heap.objs.size f (.ref cc)))):mY (cxOf CX0 P w K mg base ["table","marks","many","first_ones"] "best_ways" (defScope jC) f (.ref cc) A outer s H E).nox (defBody jC) wY:=by
 let⟨fS,Fq,BK,Sw,hm,hk,hb⟩:=uM;show aaP (c:=s.heap.objs.size+1) (y:= "many") 3 2 CV.nd hB hT rfl Sw (hr.mono {}) hm hk hb (λmy a c H co uy q1 q2 q3 q4=>(Ld T my a c H co uy q1 q2 q3 q4).mono {}) (dv 0) (dv 1) (eY ao) rfl rfl rfl rfl {} (.inl rfl)
theorem T7(T:HB K mg base cN TP cM TQ):zO P w K mg base 4 "best_ways" 3 wZ ["table","marks","many"] (tz TP TQ):=by
 let⟨f,fd,Fn,hmg,hb⟩:=T.xO;show⟨fd,⟨f,Im (k:=3) (m:=1) (g:=wY) Fn CV rfl rfl λcdv A outer s H E hcd hr hT=>?_,hmg,Fn.kp⟩,hb⟩;have e:fd.code= .ref cN:=by
  let⟨oc,od,kV,doc,pm,an,afx,ct,osl,e1,lk,_⟩:=Fn.ex;show T.hC f oc od fd osl hmg lk
 cases hcd.symm.trans e;show R5 T.toHX.toTxt (uM T.toHX) T.hB (hT.fewer λp hp=>by cases af3.mp hp;show afT) hr
theorem J3(T:HX K mg):dY P w K mg base 2 "from_top" 2 mU:=
 fQ (k:=1) (g:=Ji) T.Ab nu rfl rfl λcdv A outer s H E hr=>(aF (qu 2 nu.nd ao) (aF (lZ ahn rfl (El rfl T.lG (aj (bV (dv 1) aJ) ao)) (yd 3 4 rfl nu.nd) (aF (cu 5 nu.nd (bC (wQ T) hr {} (aj (bV (dv 0) aJ) (aj (dv 3) (aj (dv 3) ao))))) (aL (U0 2 nu.nd (cg ["less","cost","rest"] [5] rfl ⟨⟩ ⟨⟩ (cT (dv 4)) (gD (bK (aM {}) (bK (aM {}) (bK (aM {}) gC)))) (λ_ _ _ _ nd=>lQ rfl (cj (aY 0 nd) (cj (aY 1 nd) (cj (aY 2 nd) jK)))) (λ_ _ _ _=>bZ) (λ_ _ _ _=>(eY (aj (dv 0) (aj (aU dJ (dv 1) (dv 3)) (aj (dv 2) ao)))))))))) (aL (bf (dv 2)))))
theorem tL(T:HB K mg base cN TP cM TQ):zO P w K mg base 5 "first_seams" 3 jk ["table","marks","many"] (tz TP TQ):=
 abv (k:=4) (m:=0) (g:=Am) T.tD K6 rfl rfl λcdv A outer s H E _ hr hT=>((aL (bf (BL (aR (QB (Iz hr)) rfl T.vW boot_sorted (aj (bC (J3 T.toHX) hr {} (aj (dv 0) (aj (oK (T7 T) hT hr {} (aj (dv 0) (aj (dv 1) (aj (dv 2) ao)))) ao))) ao)) za (zc (dv 2))))))
theorem wu(T:HX K mg):dY P w K mg base 1 "gone_freed" 1 jP:=
  fQ (k:=0) (g:=Ci) T.v7 NK rfl rfl λcdv A outer s H E hr=>(by
    let⟨aah,Dz⟩:=T.Dj
    let⟨aag,yN⟩:=T.Dk
    show (aL (bf (fW fX rfl T.dX ahu (aj (cg ["row"] [] rfl ⟨⟩ ⟨⟩ (cT (dv 0)) (aM {}) (λ_ _ _ _ nd=>aY 0 nd) (λ_ _ _ _=>bZ) (λ_ _ _ _=>(fW fX rfl T.dX ahu (aj (cg ["mark"] [] rfl ⟨⟩ ⟨⟩ (cT (dv 0)) (aM {}) (λ_ _ _ _ nd=>aY 0 nd) (λ_ _ _ _=>bZ) (λ_ _ _ _=>(abF (cJ (jo (cY hr)) (dv 0) (jj rfl yN)) (jj rfl yN) (jj rfl Dz)))) ao)))) ao)))))
theorem ur(T:HX K mg):dY P w K mg base 1 "is_whole" 1 kO:=
 fQ (k:=0) (g:=Jj) T.Ac TY rfl rfl λcdv A outer s H E hr=>(aL (bf (rC (uG (ans:=Eh) T.J1 (dv 0) rfl T.gK ajk rfl T.Xg boot_int) (uT (adp (uG (ans:=yX) T.Dm (dv 0) rfl T.gK ajk rfl T.RP boot_bool))))))
theorem R6(T:HX K mg):dY P w K mg base 1 "gaps" 1 Cj:=
 fQ (k:=0) (g:=Zn) T.RV V1 rfl rfl λcdv A outer s H E hr=>(aF (cu 1 V1.nd (aU fK (aR cU rfl T.dj PySem.boot_len (aj (dv 0) ao)) aJ)) (aL (bf (cg ["at"] [1,0] rfl ⟨⟩ ⟨⟩ (gq rfl T.eU (aj (aR cU rfl T.dj PySem.boot_len (aj (dv 0) ao)) ao)) (aM {}) (λ_ _ _ _ nd=>aY 0 nd) (λ_ _ _ _=>bZ) (λ_ _ _ _=>(aR Ia rfl T.Fg boot_abs (aj (aU fK (bV (dv 2) (aR (BJ rfl) rfl T.zY boot_max (aj (aU fK (dv 0) aJ) (aj aJ ao)))) (bV (dv 2) (aR (yp rfl) rfl T.uq akO (aj (aU dJ (dv 0) aJ) (aj (dv 1) ao))))) ao)))))))
theorem R7(T:HX K mg):dY P w K mg base 2 "join_fares" 2 vo:=
 fQ (k:=1) (g:=Ck) T.v9 fG rfl rfl λcdv A outer s H E hr=>(aF (cu 2 fG.nd (bV (dv 0) (dv 1))) (aF (cu 3 fG.nd (bV (dv 0) (aR (BJ rfl) rfl T.zY boot_max (aj (aU fK (dv 1) aJ) (aj aJ ao))))) (aF (cu 4 fG.nd (aU fK (aR cU rfl T.dj PySem.boot_len (aj (dv 2) ao)) aJ)) (aF (qu 5 fG.nd ao) (aF (lZ ahn rfl (El rfl T.lG (aj (bC (R6 T) hr {} (aj (dv 2) ao)) ao)) (yd 6 7 rfl fG.nd) (aF (cu 8 fG.nd (aU dJ (dv 7) (aR Ia rfl T.Fg boot_abs (aj (aU fK (bV (dv 3) (dv 6)) (bV (dv 2) (aR (BJ rfl) rfl T.zY boot_max (aj (aU fK (dv 6) aJ) (aj aJ ao))))) ao)))) (aF (cu 9 fG.nd (aU dJ (dv 7) (aR Ia rfl T.Fg boot_abs (aj (aU fK (bV (dv 3) (dv 6)) (bV (dv 2) (aR (yp rfl) rfl T.uq akO (aj (aU dJ (dv 6) aJ) (aj (dv 4) ao))))) ao)))) (aL (Bu 5 (eY (aj (dv 8) (aj (dv 7) (aj (dv 9) ao))))))))) (aL (bf (dv 5))))))))
theorem Nm(T:HX K mg):dY P w K mg base 1 "is_line" 1 rO:=
  fQ (k:=0) (g:=MF) T.Dq Xa rfl rfl λcdv A outer s H E hr=>(by
    let⟨aeE,T8⟩:=T.xK
    show (aL (bf (rC (uG (ans:=iJ) T.oM (dv 0) rfl T.gK ajk rfl T.dX ahu) (uT (yQ qX qX aJ (aR cU rfl T.dj PySem.boot_len (aj (dv 0) ao)) (jj rfl T8)))))))
theorem aai(T:HX K mg):dY P w K mg base 2 "is_cell" 1 Cm:=
  fQ (k:=1) (g:=MJ) T.Dr Xb rfl rfl λcdv A outer s H E hr=>(by
    let⟨aeF,T9⟩:=T.xJ
    show (aL (bf (rC (bC (ur T) hr {} (aj (dv 0) ao)) (uT (yQ qX qX aJ (dv 0) (jj rfl T9)))))))
theorem aby(T:HX K mg):dY P w K mg base 3 "is_row" 1 G5:=
 fQ (k:=2) (g:=QM) T.Hv aad rfl rfl λcdv A outer s H E hr=>(aL (bf (rC (bC (Nm T) hr {} (aj (dv 0) ao)) (uT (aR (uY rfl) rfl T.uo akP (aj (cg ["cell"] [] rfl ⟨⟩ ⟨⟩ (cT (dv 0)) (aM {}) (λ_ _ _ _ nd=>aY 0 nd) (λ_ _ _ _=>bZ) (λ_ _ _ _=>(bC (aai T) hr {} (aj (dv 0) ao)))) ao))))))
theorem R8(T:HX K mg):dY P w K mg base 4 "is_picture" 1 vp:=
 fQ (k:=3) (g:=Cp) T.wg NP rfl rfl λcdv A outer s H E hr=>(aF (dH (DW.dt (wB (gj (jH (bC (Nm T) hr {} (aj (dv 0) ao)))) (rE (gj (jH (aR (uY rfl) rfl T.uo akP (aj (cg ["row"] [] rfl ⟨⟩ ⟨⟩ (cT (dv 0)) (aM {}) (λ_ _ _ _ nd=>aY 0 nd) (λ_ _ _ _=>bZ) (λ_ _ _ _=>(bC (aby T) hr {} (aj (dv 0) ao)))) ao))))))) (aL (bf mK)) cP) (aL (bf (aR (uY rfl) rfl T.uo akP (aj (cg ["row"] [0] rfl ⟨⟩ ⟨⟩ (cT (dv 0)) (aM {}) (λ_ _ _ _ nd=>aY 0 nd) (λ_ _ _ _=>bZ) (λ_ _ _ _=>(uO (jo (cY hr)) (aR cU rfl T.dj PySem.boot_len (aj (dv 0) ao)) (aR cU rfl T.dj PySem.boot_len (aj (bV (dv 1) aJ) ao))))) ao)))))
theorem mX(T:HX K mg):dY P w K mg base 5 "need_picture" 1 iM:=
 fQ (k:=4) (g:=yF) T.qU JW rfl rfl λcdv A outer s H E hr=>(aL (dH (gj (jH (bC (R8 T) hr {} (aj (dv 0) ao)))) (aL uX) cP))
theorem DN(T:HX K mg):dY P w K mg base 6 "size_of" 1 rP:=
 fQ (k:=5) (g:=MK) T.Ds Xc rfl rfl λcdv A outer s H E hr=>(aF (nY (bC (mX T) hr {} (aj (dv 0) ao))) (aL (bf (eY (aj (aR cU rfl T.dj PySem.boot_len (aj (bV (dv 0) aJ) ao)) (aj (aR cU rfl T.dj PySem.boot_len (aj (dv 0) ao)) ao))))))
theorem abz(T:HX K mg):dY P w K mg base 7 "turned" 1 G6:=
 fQ (k:=6) (g:=QS) T.Hw Nk rfl rfl λcdv A outer s H E hr=>(aF (mL 1 2 rfl Nk.nd (bC (DN T) hr {} (aj (dv 0) ao))) (aL (bf (fW fX rfl T.dX ahu (aj (cg ["x"] [2,0] rfl ⟨⟩ ⟨⟩ (gq rfl T.eU (aj (dv 1) ao)) (aM {}) (λ_ _ _ _ nd=>aY 0 nd) (λ_ _ _ _=>bZ) (λ_ _ _ _=>(fW fX rfl T.dX ahu (aj (cg ["y"] [2,0] rfl ⟨⟩ ⟨⟩ (gq rfl T.eU (aj (dv 1) ao)) (aM {}) (λ_ _ _ _ nd=>aY 0 nd) (λ_ _ _ _=>bZ) (λ_ _ _ _=>(bV (bV (dv 1) (dv 0)) (dv 2)))) ao)))) ao)))))
theorem abA(T:HX K mg):dY P w K mg base 8 "worths" 1 G7:=
 fQ (k:=7) (g:=QT) T.Hx wO rfl rfl λcdv A outer s H E hr=>(aF (mL 1 2 rfl wO.nd (bC (DN T) hr {} (aj (dv 0) ao))) (aF (cu 3 wO.nd (cg ["row"] [] rfl ⟨⟩ ⟨⟩ (cT (dv 0)) (aM {}) (λ_ _ _ _ nd=>aY 0 nd) (λ_ _ _ _=>bZ) (λ_ _ _ _=>(bC (R6 T) hr {} (aj (dv 0) ao))))) (aF (cu 4 wO.nd (cg ["column"] [] rfl ⟨⟩ ⟨⟩ (cT (bC (abz T) hr {} (aj (dv 0) ao))) (aM {}) (λ_ _ _ _ nd=>aY 0 nd) (λ_ _ _ _=>bZ) (λ_ _ _ _=>(bC (R6 T) hr {} (aj (dv 0) ao))))) (aL (bf (fW fX rfl T.dX ahu (aj (cg ["y"] [3,4,1] rfl ⟨⟩ ⟨⟩ (gq rfl T.eU (aj (dv 2) ao)) (aM {}) (λ_ _ _ _ nd=>aY 0 nd) (λ_ _ _ _=>bZ) (λ_ _ _ _=>(fW fX rfl T.dX ahu (aj (cg ["x"] [1,2,0] rfl ⟨⟩ ⟨⟩ (gq rfl T.eU (aj (dv 3) ao)) (aM {}) (λ_ _ _ _ nd=>aY 0 nd) (λ_ _ _ _=>bZ) (λ_ _ _ _=>(aU dJ (bV (bV (dv 1) (dv 3)) (dv 0)) (bV (bV (dv 2) (dv 0)) (dv 3))))) ao)))) ao)))))))
theorem V2(T:HX K mg):dY P w K mg base 9 "fares" 2 uI:=
 fQ (k:=8) (g:=Vi) T.Lb abw rfl rfl λcdv A outer s H E hr=>(aF (dH (cJ (jo (cY hr)) (dv 1) O9) (aL (bf (cg ["row"] [] rfl ⟨⟩ ⟨⟩ (cT (bC (abA T) hr {} (aj (dv 0) ao))) (aM {}) (λ_ _ _ _ nd=>aY 0 nd) (λ_ _ _ _=>bZ) (λ_ _ _ _=>(cg ["worth"] [] rfl ⟨⟩ ⟨⟩ (cT (dv 0)) (aM {}) (λ_ _ _ _ nd=>aY 0 nd) (λ_ _ _ _=>bZ) (λ_ _ _ _=>(eY (aj (dv 0) (aj (dv 0) (aj (dv 0) ao)))))))))) cP) (aL (bf (cg ["y"] [0] rfl ⟨⟩ ⟨⟩ (gq rfl T.eU (aj (aR cU rfl T.dj PySem.boot_len (aj (dv 0) ao)) ao)) (aM {}) (λ_ _ _ _ nd=>aY 0 nd) (λ_ _ _ _=>bZ) (λ_ _ _ _=>(bC (R7 T) hr {} (aj (dv 1) (aj (dv 0) ao))))))))
theorem Xl(T:HX K mg):dY P w K mg base 1 "all_free" 1 Jl:=
  fQ (k:=0) (g:=Jk) T.Ad T3 rfl rfl λcdv A outer s H E hr=>(by
    let⟨aah,Dz⟩:=T.Dj
    show (aL (bf (aU Ek (eY (aj (aU Ek (eY (aj (jj rfl Dz) ao)) (aR cU rfl T.dj PySem.boot_len (aj (bV (dv 0) aJ) ao))) ao)) (aR cU rfl T.dj PySem.boot_len (aj (dv 0) ao))))))
theorem aaj(T:HX K mg):dY P w K mg base 2 "is_mark" 1 Cq:=
  fQ (k:=1) (g:=MN) T.Dt Xd rfl rfl λcdv A outer s H E hr=>(by
    let⟨aah,Dz⟩:=T.Dj
    let⟨aez,R4⟩:=T.J0
    show (aL (bf (rC (bC (ur T) hr {} (aj (dv 0) ao)) (uT (yQ qX qX (jj rfl Dz) (dv 0) (jj rfl R4)))))))
theorem Lf(T:HX K mg):dY P w K mg base 3 "is_marks_row" 2 qG:=
 fQ (k:=2) (g:=yG) T.qW JX rfl rfl λcdv A outer s H E hr=>(aL (bf (rC (uG (ans:=iJ) T.oM (dv 0) rfl T.gK ajk rfl T.dX ahu) (rC (uO (jo (cY hr)) (aR cU rfl T.dj PySem.boot_len (aj (dv 0) ao)) (dv 1)) (uT (aR (uY rfl) rfl T.uo akP (aj (cg ["mark"] [] rfl ⟨⟩ ⟨⟩ (cT (dv 0)) (aM {}) (λ_ _ _ _ nd=>aY 0 nd) (λ_ _ _ _=>bZ) (λ_ _ _ _=>(bC (aaj T) hr {} (aj (dv 0) ao)))) ao)))))))
theorem Xm(T:HX K mg):dY P w K mg base 4 "is_marks" 2 zJ:=
 fQ (k:=3) (g:=Jm) T.Ae T4 rfl rfl λcdv A outer s H E hr=>(aF (dH (DW.dt (wB (gj (jH (uG (ans:=iJ) T.oM (dv 0) rfl T.gK ajk rfl T.dX ahu))) (rE (cJ (tX (cY hr)) (aR cU rfl T.dj PySem.boot_len (aj (dv 0) ao)) (aR cU rfl T.dj PySem.boot_len (aj (dv 1) ao)))))) (aL (bf mK)) cP) (aL (bf (aR (uY rfl) rfl T.uo akP (aj (cg ["row"] [1] rfl ⟨⟩ ⟨⟩ (cT (dv 0)) (aM {}) (λ_ _ _ _ nd=>aY 0 nd) (λ_ _ _ _=>bZ) (λ_ _ _ _=>(bC (Lf T) hr {} (aj (dv 0) (aj (aR cU rfl T.dj PySem.boot_len (aj (bV (dv 1) aJ) ao)) ao))))) ao)))))
theorem DP(T:HX K mg):dY P w K mg base 5 "full_marks" 2 eZ:=
 fQ (k:=4) (g:=Cr) T.wj NQ rfl rfl λcdv A outer s H E hr=>(aF (dH (cJ Ot (dv 0) xU) (aL (bf (bC (Xl T) hr {} (aj (dv 1) ao)))) cP) (aF (dH (gj (jH (bC (Xm T) hr {} (aj (dv 0) (aj (dv 1) ao))))) (aL uX) cP) (aL (bf (dv 0)))))
theorem Ax(T:HX K mg):dY P w K mg base 1 "need_manner" 1 nJ:=
 fQ (k:=0) (g:=Ao) T.tE K8 rfl rfl λcdv A outer s H E hr=>(aL (dH (cJ aaF (dv 0) (acg (ss:=["worth","joins"]) rfl T.Dl) (by rfl)) (aL uX) cP))
theorem uw(T:HX K mg):dY P w K mg base 10 "laid_out" 3 mV:=
 fQ (k:=9) (g:=Jo) T.Af Gf rfl rfl λcdv A outer s H E hr=>(aF (nY (bC (mX T) hr {} (aj (dv 0) ao))) (aF (nY (bC (Ax T) hr {} (aj (dv 1) ao))) (aF (cu 3 Gf.nd (bC (DP T) hr {} (aj (dv 2) (aj (dv 0) ao)))) (aL (bf (eY (aj (bC (V2 T) hr {} (aj (dv 0) (aj (dv 1) ao))) (aj (dv 3) ao))))))))
theorem pX(T:HB K mg base cN TP cM TQ):∃fd,zp P w K mg base 11 "best_seams" 4 pK fd ["picture","many","manner","marks"] (tz TP TQ)∧KB K fd ["picture","many","manner","marks"] ["manner","marks"] [.inl 0,.inl 1]:=by
  let⟨f,fd,Fn,hmg,B⟩:=T.RW
  show⟨fd,⟨f,Im (k:=10) (m:=2) (g:=Cu) Fn Aw rfl rfl λcdv A outer s H E _ hr hT=>((by
    let⟨aeA,R9⟩:=T.vV
    show (aF (mL 4 5 rfl Aw.nd (bC (uw T.toHX) hr {} (aj (dv 0) (aj (dv 2) (aj (dv 3) ao))))) (aF (dH (DW.dt (wB (gj (jH (bC (ur T.toHX) hr {} (aj (dv 1) ao)))) (rE (gj (aax qX qX aJ (dv 1) (jj rfl R9)))))) (aL uX) cP) (aL (bf (cg ["less","cost","seam"] [] rfl ⟨⟩ ⟨⟩ (cT (oK (tL T) hT hr {} (aj (dv 4) (aj (bC (wu T.toHX) hr {} (aj (dv 5) ao)) (aj (dv 1) ao))))) (gD (bK (aM {}) (bK (aM {}) (bK (aM {}) gC)))) (λ_ _ _ _ nd=>lQ rfl (cj (aY 0 nd) (cj (aY 1 nd) (cj (aY 2 nd) jK)))) (λ_ _ _ _=>bZ) (λ_ _ _ _=>(eY (aj (dv 1) (aj (dv 2) ao))))))))))),hmg,Fn.kp⟩,B⟩
theorem abB(T:HX K mg):dY P w K mg base 2 "is_way" 3 G8:=
 fQ (k:=1) (g:=QV) T.Hy aae rfl rfl λcdv A outer s H E hr=>(aF (dH (DW.dt (wB (gj (jH (uG (ans:=iJ) T.oM (dv 0) rfl T.gK ajk rfl T.dX ahu))) (rE (cJ (tX (cY hr)) (aR cU rfl T.dj PySem.boot_len (aj (dv 0) ao)) (dv 2))))) (aL (bf mK)) cP) (aF (dH (gj (jH (aR (uY rfl) rfl T.uo akP (aj (cg ["place"] [1] rfl ⟨⟩ ⟨⟩ (cT (dv 0)) (aM {}) (λ_ _ _ _ nd=>aY 0 nd) (λ_ _ _ _=>bZ) (λ_ _ _ _=>(rC (bC (ur T) hr {} (aj (dv 0) ao)) (uT (yQ qX abE aJ (dv 0) (dv 1)))))) ao)))) (aL (bf mK)) cP) (aL (bf (aR (uY rfl) rfl T.uo akP (aj (cg ["y"] [0] rfl ⟨⟩ ⟨⟩ (Lp rfl T.eU (aj aJ (aj (dv 2) ao))) (aM {}) (λ_ _ _ _ nd=>aY 0 nd) (λ_ _ _ _=>bZ) (λ_ _ _ _=>(uO qX (aR Ia rfl T.Fg boot_abs (aj (aU fK (bV (dv 1) (dv 0)) (bV (dv 1) (aU fK (dv 0) aJ))) ao)) aJ))) ao))))))
theorem Np(T:HX K mg):dY P w K mg base 7 "is_seam" 2 wI:=
 fQ (k:=6) (g:=MP) T.Du JZ rfl rfl λcdv A outer s H E hr=>(aF (mL 2 3 rfl JZ.nd (bC (DN T) hr {} (aj (dv 1) ao))) (aL (bf (bC (abB T) hr {} (aj (dv 0) (aj (dv 2) (aj (dv 3) ao)))))))
theorem Gg(T:HX K mg):dY P w K mg base 8 "need_seam" 2 qY:=
 fQ (k:=7) (g:=Fz) T.xP RN rfl rfl λcdv A outer s H E hr=>(aL (dH (gj (jH (bC (Np T) hr {} (aj (dv 0) (aj (dv 1) ao))))) (aL uX) cP))
theorem J4(T:HX K mg):dY P w K mg base 2 "way_cost" 2 ud:=
 fQ (k:=1) (g:=Jp) T.Ag rm rfl rfl λcdv A outer s H E hr=>(aF (cu 2 rm.nd (bC (wQ T) hr {} (aj (bV (dv 0) aJ) (aj (bV (dv 1) aJ) (aj (bV (dv 1) aJ) ao))))) (aF (lZ ahn rfl (Lp rfl T.eU (aj aJ (aj (aR cU rfl T.dj PySem.boot_len (aj (dv 1) ao)) ao))) (qm 3 rm.nd) (aL (adI 2 rm.nd (bC (wQ T) hr {} (aj (bV (dv 0) (dv 3)) (aj (bV (dv 1) (aU fK (dv 3) aJ)) (aj (bV (dv 1) (dv 3)) ao))))))) (aL (bf (dv 2)))))
theorem wR(T:HX K mg):∃fd,FnE P w K mg base 10 "cost_of" 3 wJ fd ["picture","seam","manner"]/\KB K fd ["picture","seam","manner"] ["manner"] [.inl 0]:=by
 let⟨f,fd,Fn,hmg,B⟩:=T.aaf;show⟨fd,adE (k:=9) (g:=M4) Fn hmg Xe rfl rfl λcdv A outer s H E hr=>((aF (nY (bC (mX T) hr {} (aj (dv 0) ao))) (aF (nY (bC (Ax T) hr {} (aj (dv 2) ao))) (aF (nY (bC (Gg T) hr {} (aj (dv 1) (aj (dv 0) ao)))) (aL (bf (bC (J4 T) hr {} (aj (bC (V2 T) hr {} (aj (dv 0) (aj (dv 2) ao))) (aj (dv 1) ao))))))))),B⟩
theorem j7(T:HX K mg):dY P w K mg base 1 "as_good" 1 jX:=
 fQ (k:=0) (g:=M5) T.Dv zX rfl rfl λcdv A outer s H E hr=>(aF (dH (gj (Qn (dv 0))) (aL (bf (jJ ao))) cP) (aF (mL 1 2 rfl zX.nd (aaD (aR (acD rfl (Iz hr)) rfl T.uq akO (aj (dv 0) ao)) za (zc aJ))) (aF (Ks 3 zX.nd ["less","cost","many"] [2,1] rfl ⟨⟩ ⟨⟩ (cT (dv 0)) (gD (bK (aM {}) (bK (aM {}) (bK (aM {}) gC)))) (λ_ _ _ _ nd=>lQ rfl (cj (aY 0 nd) (cj (aY 1 nd) (cj (aY 2 nd) jK)))) (λ_ _ _ _=>(Ed (DW.dt (xY (cJ (jo (cY hr)) (dv 0) (dv 4)) (xX (cJ (jo (cY hr)) (dv 1) (dv 3))))))) (λ_ _ _ _=>(dv 2))) (aL (bf (jJ (aj (eY (aj (dv 1) (aj (dv 2) (aj (aR (HN rfl) rfl T.Fi boot_sum (aj (dv 3) ao)) ao)))) ao)))))))
theorem Lg{cc TP:afG}(T:Txt K mg)(uM:FnS P w K mg base 3 "swept" 2 3 2 lF)(j7:dY P w K mg base 1 "as_good" 1 jX)(hB:iC base mg cc TP)(hT:Tb [(TP,"best_counts.<locals>.<lambda>")] H)(hr:Room 3 (A.deeper (aij "best_counts" (defScope cW) s.heap.objs.size f (.ref cc)))):mY (cxOf CX0 P w K mg base ["table","marks"] "best_counts" (defScope cW) f (.ref cc) A outer s H E).nox (defBody cW) sI:=by
 let⟨fS,Fq,BK,Sw,hm,hk,hb⟩:=uM;show acB hB hT rfl Sw (hr.mono {}) hm hk hb (Bs T j7) (dv 0) (dv 1) aJ rfl rfl rfl
theorem Ay(T:HB K mg base cN TP cM TQ):zO P w K mg base 4 "best_counts" 2 nM ["table","marks"] (tz TP TQ):=by
 let⟨f,fd,Fn,hmg,hb⟩:=T.tH;show⟨fd,⟨f,Im (k:=3) (m:=0) (g:=sI) Fn K9 rfl rfl λcdv A outer s H E hcd hr hT=>?_,hmg,Fn.kp⟩,hb⟩;have e:fd.code= .ref cM:=by
  let⟨oc,od,kV,doc,pm,an,afx,ct,osl,e1,lk,_⟩:=Fn.ex;show T.hC2 f oc od fd osl hmg lk
 cases hcd.symm.trans e;show Lg T.toHX.toTxt (uM T.toHX) (j7 T.toHX) T.hB2 (hT.fewer λp hp=>by cases af3.mp hp;show z2f _ afT) hr
theorem N7(T:HB K mg base cN TP cM TQ):zO P w K mg base 5 "counts_down" 1 sJ ["marks"] (tz TP TQ):=
 abv (k:=4) (m:=2) (g:=Aq) T.tK qR rfl rfl λcdv A outer s H E _ hr hT=>((aF (Ks 1 qR.nd ["row"] [] rfl ⟨⟩ ⟨⟩ (cT (dv 0)) (aM {}) (λ_ _ _ _ nd=>aY 0 nd) (λ_ _ _ _=>bZ) (λ_ _ _ _=>(cg ["mark"] [] rfl ⟨⟩ ⟨⟩ (cT (dv 0)) (aM {}) (λ_ _ _ _ nd=>aY 0 nd) (λ_ _ _ _=>bZ) (λ_ _ _ _=>(eY (aj aJ (aj aJ (aj aJ ao)))))))) (aF (cu 2 qR.nd (oK (Ay T) hT hr {} (aj (dv 1) (aj (bC (wu T.toHX) hr {} (aj (dv 0) ao)) ao)))) (aL (bf (cg ["row"] [] rfl ⟨⟩ ⟨⟩ (cT (dv 2)) (aM {}) (λ_ _ _ _ nd=>aY 0 nd) (λ_ _ _ _=>bZ) (λ_ _ _ _=>(cg ["told"] [] rfl ⟨⟩ ⟨⟩ (cT (dv 0)) (aM {}) (λ_ _ _ _ nd=>aY 0 nd) (λ_ _ _ _=>bZ) (λ_ _ _ _=>(aR (HN rfl) rfl T.Fi boot_sum (aj (cg ["less","cost","many"] [] rfl ⟨⟩ ⟨⟩ (cT (dv 0)) (gD (bK (aM {}) (bK (aM {}) (bK (aM {}) gC)))) (λ_ _ _ _ nd=>lQ rfl (cj (aY 0 nd) (cj (aY 1 nd) (cj (aY 2 nd) jK)))) (λ_ _ _ _=>bZ) (λ_ _ _ _=>(dv 2))) ao)))))))))))
theorem Ah(T:HB K mg base cN TP cM TQ):∃fd,zp P w K mg base 6 "how_many" 2 zK fd ["picture","marks"] (tz TP TQ)/\KB K fd ["picture","marks"] ["marks"] [.inl 0]:=by
 let⟨f,fd,Fn,hmg,B⟩:=T.Xi;show⟨fd,⟨f,Im (k:=5) (m:=0) (g:=Jq) Fn T5 rfl rfl λcdv A outer s H E _ hr hT=>((aF (nY (bC (mX T.toHX) hr {} (aj (dv 0) ao))) (aL (bf (aR (HN rfl) rfl T.Fi boot_sum (aj (bV (oK (N7 T) hT hr {} (aj (bC (DP T.toHX) hr {} (aj (dv 1) (aj (dv 0) ao))) ao)) aJ) ao)))))),hmg,Fn.kp⟩,B⟩
theorem Sd(T:HX K mg):dY P w K mg base 1 "meets_kept" 2 vB:=
  fQ (k:=0) (g:=Cv) T.wk NT rfl rfl λcdv A outer s H E hr=>(by
    let⟨aag,yN⟩:=T.Dk
    show (aL (bf (aR (adR rfl) rfl T.Xf boot_any (aj (cg ["row","place"] [] rfl ⟨⟩ ⟨⟩ (Uv rfl T.O7 (aj (dv 1) (aj (dv 0) ao))) (gD (bK (aM {}) (bK (aM {}) gC))) (λ_ _ _ _ nd=>lQ rfl (cj (aY 0 nd) (cj (aY 1 nd) jK))) (λ_ _ _ _=>bZ) (λ_ _ _ _=>(uO (jo (cY hr)) (bV (dv 0) (dv 1)) (jj rfl yN)))) ao)))))
theorem ux(T:HB K mg base cN TP cM TQ):∃fd,zp P w K mg base 11 "is_least" 4 jt fd ["picture","seam","manner","marks"] (tz TP TQ)/\KB K fd ["picture","seam","manner","marks"] ["manner","marks"] [.inl 0,.inl 1]:=by
 let⟨f,fd,Fn,hmg,B⟩:=T.Xj;show⟨fd,⟨f,Im (k:=10) (m:=5) (g:=Jr) Fn xG rfl rfl λcdv A outer s H E _ hr hT=>((aF (mL 4 5 rfl xG.nd (bC (uw T.toHX) hr {} (aj (dv 0) (aj (dv 2) (aj (dv 3) ao))))) (aF (nY (bC (Gg T.toHX) hr {} (aj (dv 1) (aj (dv 0) ao)))) (aF (dH (jH (bC (Sd T.toHX) hr {} (aj (dv 1) (aj (dv 5) ao)))) (aL (bf mK)) cP) (aF (U3 6 7 8 rfl xG.nd (bV (oK (tL T) hT hr {} (aj (dv 4) (aj (bC (wu T.toHX) hr {} (aj (dv 5) ao)) (aj aJ ao)))) aJ)) (aL (bf (uO (jo (cY hr)) (bC (J4 T.toHX) hr {} (aj (dv 4) (aj (dv 1) ao))) (dv 7))))))))),hmg,Fn.kp⟩,B⟩
theorem Ua(T:HB K mg base cN TP cM TQ):zO P w K mg base 6 "least_way" 2 qZ ["table","marks"] (tz TP TQ):=
 abv (k:=5) (m:=4) (g:=FJ) T.xQ vU rfl rfl λcdv A outer s H E _ hr hT=>((aF (cu 2 vU.nd (oK (tL T) hT hr {} (aj (dv 0) (aj (dv 1) (aj aJ ao))))) (aF (dH (gj (Qn (dv 2))) (aL (bf xU)) cP) (aF (U3 3 4 5 rfl vU.nd (bV (dv 2) aJ)) (aL (bf (eY (aj (dv 4) (aj (dv 5) ao)))))))))
theorem wz(T:HB K mg base cN TP cM TQ):∃fd,zp P w K mg base 11 "least_seam" 3 pL fd ["picture","manner","marks"] (tz TP TQ)/\KB K fd ["picture","manner","marks"] ["manner","marks"] [.inl 0,.inl 1]:=by
 let⟨f,fd,Fn,hmg,B⟩:=T.RX;show⟨fd,⟨f,Im (k:=10) (m:=3) (g:=Cw) Fn sY rfl rfl λcdv A outer s H E _ hr hT=>((aF (mL 3 4 rfl sY.nd (bC (uw T.toHX) hr {} (aj (dv 0) (aj (dv 1) (aj (dv 2) ao))))) (aF (cu 5 sY.nd (oK (Ua T) hT hr {} (aj (dv 3) (aj (dv 4) ao)))) (aF (dH (cJ Ot (dv 5) xU) (aL (bf xU)) cP) (aL (bf (bV (dv 5) aJ))))))),hmg,Fn.kp⟩,B⟩
theorem pY(T:HB K mg base cN TP cM TQ):∃fd,zp P w K mg base 11 "many_least" 3 pN fd ["picture","manner","marks"] (tz TP TQ)/\KB K fd ["picture","manner","marks"] ["manner","marks"] [.inl 0,.inl 1]:=by
 let⟨f,fd,Fn,hmg,B⟩:=T.RZ;show⟨fd,⟨f,Im (k:=10) (m:=3) (g:=Cy) Fn sZ rfl rfl λcdv A outer s H E _ hr hT=>((aF (mL 3 4 rfl sZ.nd (bC (uw T.toHX) hr {} (aj (dv 0) (aj (dv 1) (aj (dv 2) ao))))) (aF (cu 5 sZ.nd (bC (j7 T.toHX) hr {} (aj (bC (J3 T.toHX) hr {} (aj (dv 3) (aj (oK (Ay T) hT hr {} (aj (dv 3) (aj (dv 4) ao))) ao))) ao))) (aL (bf (aR (HN rfl) rfl T.Fi boot_sum (aj (cg ["less","cost","many"] [] rfl ⟨⟩ ⟨⟩ (cT (dv 5)) (gD (bK (aM {}) (bK (aM {}) (bK (aM {}) gC)))) (λ_ _ _ _ nd=>lQ rfl (cj (aY 0 nd) (cj (aY 1 nd) (cj (aY 2 nd) jK)))) (λ_ _ _ _=>bZ) (λ_ _ _ _=>(dv 2))) ao))))))),hmg,Fn.kp⟩,B⟩
theorem ok_law(Fn:Fun K "law" "law" um f fd)(hmg:mg "law" =some (.ref f))(T:HB K mg base cN TP cM TQ):zp P w K mg base 12 "law" 1 Js fd ["_law_script"] (tz TP TQ):=
  ⟨f,Im (k:=11) (m:=16) (g:=abO) Fn jx rfl rfl λcdv A outer s H E _ hr hT=>((by
    let⟨adh,pX,iQ⟩:=pX T
    let⟨ae7,wR,lH⟩:=wR T.toHX
    let⟨aeG,Ah,mJ⟩:=Ah T
    let⟨aeH,ux,jU⟩:=ux T
    let⟨adi,wz,jV⟩:=wz T
    let⟨adk,pY,iR⟩:=pY T
    show (aF (cu 1 jx.nd (bC (T6 T.toHX) hr {} (aj (dv 0) (aj aJ (aj aJ (aj aJ ao)))))) (aF (adz 2 3 rfl jx.nd (aR cU rfl T.dj PySem.boot_len (aj (bV (dv 1) aJ) ao)) (aR cU rfl T.dj PySem.boot_len (aj (dv 1) ao))) (aF (mL 4 5 rfl jx.nd (eY (aj (bC (N6 T.toHX) hr {} (aj (dv 0) (aj aJ ao))) (aj (aU dJ aJ (bC (dO T.toHX) hr {} (aj (dv 0) (aj aJ (aj aJ ao))))) ao)))) (aF (cu 6 jx.nd (fW fX rfl T.dX ahu (aj (cg ["_law_row"] [] rfl ⟨⟩ ⟨⟩ (cT (bC (R0 T.toHX) hr {} (aj (dv 0) (aj aJ (aj (dv 1) ao))))) (aM {}) (λ_ _ _ _ nd=>aY 0 nd) (λ_ _ _ _=>bZ) (λ_ _ _ _=>(fW fX rfl T.dX ahu (aj (cg ["_law_mark"] [] rfl ⟨⟩ ⟨⟩ (cT (dv 0)) (aM {}) (λ_ _ _ _ nd=>aY 0 nd) (λ_ _ _ _=>bZ) (λ_ _ _ _=>(aU oN (dv 0) aJ))) ao)))) ao))) (aF (cu 7 jx.nd (oA (ks:=["manner","marks"]) (.at 0 (.at 1 .nil)) pX hT hr {} iQ (aj (dv 1) (aj (dv 5) ao)) (eN (dv 4) (eN (dv 6) ni)))) (aF (dH (DW.dt (wB (cJ (tX (cY hr)) (dv 7) (Tv (cY hr) rfl rfl T.vW rfl T.Xh (aj (dv 7) ao))) (rE (cJ (tX (cY hr)) (aR cU rfl T.dj PySem.boot_len (aj (dv 7) ao)) (aR (yp rfl) rfl T.uq akO (aj (dv 5) (aj (oA (ks:=["marks"]) (.at 0 .nil) Ah hT hr {} mJ (aj (dv 1) ao) (eN (dv 6) ni)) ao))))))) (aL (bf mK)) cP) (aF (lZ ahn rfl (cT (dv 7)) (yd 8 9 rfl jx.nd) (aF (dH (DW.dt (wB (gj (jH (bC (Np T.toHX) hr {} (aj (dv 9) (aj (dv 1) ao))))) (rE (cJ (tX (cY hr)) (Yi (ks:=["manner"]) (.at 0 .nil) wR hr {} lH (aj (dv 1) (aj (dv 9) ao)) (eN (dv 4) ni)) (dv 8))))) (aL (bf mK)) cP) (aL (dH (cJ Om (bC (Dy T.toHX) hr {} (aj (dv 6) (aj (dv 9) (aj aJ ao)))) aJ) (aL (bf mK)) cP)))) (aF (cu 10 jx.nd (oA (ks:=["manner","marks"]) (.at 0 (.at 1 .nil)) wz hT hr {} jV (aj (dv 1) ao) (eN (dv 4) (eN (dv 6) ni)))) (aF (dH (DW.dt (wB (cJ Ot (dv 10) xU) (rE (cJ (jo (cY hr)) (dv 7) (jJ ao))))) (aF (dH (gj (DW.dt (xY (cJ Ot (dv 10) xU) (xX (cJ (jo (cY hr)) (dv 7) (jJ ao)))))) (aL (bf mK)) cP) (aL (bf (uO (jo (cY hr)) (oA (ks:=["manner","marks"]) (.at 0 (.at 1 .nil)) pY hT hr {} iR (aj (dv 1) ao) (eN (dv 4) (eN (dv 6) ni))) aJ)))) cP) (aF (dH (DW.dt (wB (cJ (tX (cY hr)) (bV (bV (dv 7) aJ) aJ) (dv 10)) (rE (gj (jH (oA (ks:=["manner","marks"]) (.at 0 (.at 1 .nil)) ux hT hr {} jU (aj (dv 1) (aj (dv 10) ao)) (eN (dv 4) (eN (dv 6) ni)))))))) (aL (bf mK)) cP) (aF (Ks 11 jx.nd ["_law_cost","_law_seam"] [7] rfl ⟨⟩ ⟨⟩ (cT (dv 7)) (gD (bK (aM {}) (bK (aM {}) gC))) (λ_ _ _ _ nd=>lQ rfl (cj (aY 0 nd) (cj (aY 1 nd) jK))) (λ_ _ _ _=>(Ed (cJ (jo (cY hr)) (dv 0) (bV (bV (dv 2) aJ) aJ)))) (λ_ _ _ _=>(dv 1))) (aF (cu 12 jx.nd (oA (ks:=["manner","marks"]) (.at 0 (.at 1 .nil)) pY hT hr {} iR (aj (dv 1) ao) (eN (dv 4) (eN (dv 6) ni)))) (aF (dH (cJ (tX (cY hr)) (aR cU rfl T.dj PySem.boot_len (aj (dv 11) ao)) (aR (yp rfl) rfl T.uq akO (aj (dv 12) (aj (dv 5) ao)))) (aL (bf mK)) cP) (aF (dH (cJ (tX (cY hr)) (aaX ["_law_seam"] [4,1,6] rfl ⟨⟩ ⟨⟩ (cT (dv 11)) (aM {}) (λ_ _ _ _ nd=>aY 0 nd) hT (λ_ _ _ _ hT=>(Ed (gj (jH (oA (ks:=["manner","marks"]) (.at 0 (.at 1 .nil)) ux hT hr {} jU (aj (dv 2) (aj (dv 0) ao)) (eN (dv 1) (eN (dv 3) ni))))))) (λ_ _ _ _ hT=>(dv 0))) (jJ ao)) (aL (bf mK)) cP) (aF (lZ ahn rfl (gq rfl T.eU (aj aJ ao)) (qm 13 jx.nd) (aF (cu 14 jx.nd (bC (Xk T.toHX) hr {} (aj (dv 0) (aj (aU dJ aJ (aU Ek aJ (dv 13))) (aj (dv 2) (aj (dv 3) ao)))))) (aF (cu 15 jx.nd (eY (aj (Yi (ks:=["manner"]) (.at 0 .nil) wR hr {} lH (aj (dv 1) (aj (dv 14) ao)) (eN (dv 4) ni)) (aj (dv 14) ao)))) (aL (dH (DW.dt (xY (cJ (jo (cY hr)) (bC (Dy T.toHX) hr {} (aj (dv 6) (aj (dv 14) (aj aJ ao)))) aJ) (xY (cJ (adU (Iz hr)) (dv 15) (bV (dv 7) (PB aJ))) (xX (cJ (acR (cY hr)) (dv 15) (dv 7) (by rfl)))))) (aL (bf mK)) cP))))) (aF (cu 16 jx.nd (aU dJ aJ (bC (dO T.toHX) hr {} (aj (dv 0) (aj aJ (aj (dv 5) ao)))))) (aL (bf (uO (jo (cY hr)) (oA (ks:=["manner","marks"]) (.at 0 (.at 1 .nil)) pX hT hr {} iQ (aj (dv 1) (aj (dv 16) ao)) (eN (dv 4) (eN (dv 6) ni))) (BL (dv 7) za (zc (dv 16)))))))))))))))))))))))),hmg,Fn.kp⟩
end
theorem all_mk{l:w0p}{w:af2}{fa pZ wU uz uD p7 p8 Xn:afG}(X:K.In h)(G:h.Ns af0 mg)(hfa:mg "law" =some (.ref fa))
  {N8 Az:Option afG}{Oa:Array (Option afF)}{Oc Ba Bb Bc tM Bd:afF}
  {Xo J5:Option afG}{Xp:Array (Option afF)}{Xq J6 J7 J8 Ai J9:afF}
  {Ub Gh:Option afG}{Uc:Array (Option afF)}{Ud Gi Gj Gk xR Gm:afF}
  {Ue Gn:Option afG}{Ug:Array (Option afF)}{Uh Gp Gq Gr xT Gs:afF}
  {Od Bf:Option afG}{Oe:Array (Option afF)}{Og Bg Bh Bj tO Bk:afF}
  {Oh Bl:Option afG}{Oi:Array (Option afF)}{Oj Bm Bo Bp tQ Bq:afF}
  {aeB aak:Option afG}{aeC:Array (Option afF)}{aeD aal aam aan Sh aao:afF}
  {ade:Tok}(Dj:w0b K af0 "FREE" =some (some (.int 0 ade)))
  {adf:Tok}(J0:w0b K af0 "GONE" =some (some (.int 2 adf)))
  {adg:Tok}(Dk:w0b K af0 "KEPT" =some (some (.int 1 adg)))
  {Ss:Tok}(xJ:w0b K af0 "MOST_CELL" =some (some (.int 99 Ss)))
  {Sv:Tok}(xK:w0b K af0 "MOST_LONG" =some (some (.int 20 Sv)))
  {Ol:Tok}(vV:w0b K af0 "MOST_SEAMS" =some (some (.int 60 Ol)))
  {Ka:afG}{Xr:Nat}{Xu:Array (Option afF)}{Sx Sy:Tok}(Dl:w0b K af0 "MANNERS" =some (some (.ref Ka)))(aap:K.lookup Ka=some ⟨.type "tuple",none,.seq #[.str "worth" Sx,.str "joins" Sy] Xr,Xu⟩)
  (Fg:w0b K af0 "abs" =some none)
  (uo:w0b K af0 "all" =some none)
  (Xf:w0b K af0 "any" =some none)
  (RP:w0b K af0 "bool" =some none)
  (lG:w0b K af0 "enumerate" =some none)
  (Xg:w0b K af0 "int" =some none)
  (gK:w0b K af0 "isinstance" =some none)
  (dj:w0b K af0 "len" =some none)
  (RQ:w0b K af0 "list" =some none)
  (zY:w0b K af0 "max" =some none)
  (uq:w0b K af0 "min" =some none)
  (eU:w0b K af0 "range" =some none)
  (zZ:w0b K af0 "reversed" =some none)
  (Xh:w0b K af0 "set" =some none)
  (vW:w0b K af0 "sorted" =some none)
  (Fi:w0b K af0 "sum" =some none)
  (dX:w0b K af0 "tuple" =some none)
  (O7:w0b K af0 "zip" =some none)
  (J1:∀d:D,w0h K (.type (mj d)) (.type "int")=some (Eh (mj d)))
  (Dm:∀d:D,w0h K (.type (mj d)) (.type "bool")=some (yX (mj d)))
  (oM:∀d:D,w0h K (.type (mj d)) (.type "tuple")=some (iJ (mj d)))
  (J2:∀d:D,w0h K (.type (mj d)) (.type "list")=some (Px (mj d)))
  (vX:DX K "_law_drawn" vK)
  (tu:DX K "_law_manner" sU)
  (vY:DX K "_law_marks" vL)
  (vZ:DX K "_law_signs" vM)
  (qT:DX K "_law_picture" qO)
  (xM:DX K "_law_some" xq)
  (Aa:DX K "_law_way" zP)
  (Dn:DX K "fare_of" CQ)
  (RT:DX K "near" RL)
  (Hu:DX K "onward" Ho)
  (La:DX K "swept" uL)
  (xO:DX K "best_ways" jC)
  (Ab:DX K "from_top" zQ)
  (tD:DX K "first_seams" sV)
  (v7:DX K "gone_freed" vN)
  (Ac:DX K "is_whole" zR)
  (RV:DX K "gaps" RM)
  (v9:DX K "join_fares" vO)
  (Dq:DX K "is_line" CW)
  (Dr:DX K "is_cell" CZ)
  (Hv:DX K "is_row" Hq)
  (wg:DX K "is_picture" vP)
  (qU:DX K "need_picture" qP)
  (Ds:DX K "size_of" Dc)
  (Hw:DX K "turned" Hr)
  (Hx:DX K "worths" Hs)
  (Lb:DX K "fares" K7)
  (Ad:DX K "all_free" zT)
  (Dt:DX K "is_mark" Df)
  (qW:DX K "is_marks_row" qQ)
  (Ae:DX K "is_marks" zU)
  (wj:DX K "full_marks" vQ)
  (tE:DX K "need_manner" sW)
  (Af:DX K "laid_out" zV)
  (SJ:w0b K af0 "best_seams" =some (some (.ref pZ)))(SM:K.lookup pZ=some ⟨Oc,N8,.func (w0c "best_seams" "best_seams" (defArgs fj) (defBody fj) (defScope fj) .none Ba Bb Bc Az tM Bd),Oa⟩)(SN:w0g K tM "best_seams" =true)(SQ:w0d K (.ref pZ)=true)
  (Hy:DX K "is_way" Ht)
  (Du:DX K "is_seam" Dg)
  (xP:DX K "need_seam" xu)
  (Ag:DX K "way_cost" zW)
  (aaq:w0b K af0 "cost_of" =some (some (.ref wU)))(aar:K.lookup wU=some ⟨Xq,Xo,.func (w0c "cost_of" "cost_of" (defArgs jw) (defBody jw) (defScope jw) .none J6 J7 J8 J5 Ai J9),Xp⟩)(aas:w0g K Ai "cost_of" =true)(aat:w0d K (.ref wU)=true)
  (Dv:DX K "as_good" Dh)
  (tH:DX K "best_counts" cW)
  (tK:DX K "counts_down" sX)
  (Xv:w0b K af0 "how_many" =some (some (.ref uz)))(Xw:K.lookup uz=some ⟨Ud,Ub,.func (w0c "how_many" "how_many" (defArgs iG) (defBody iG) (defScope iG) .none Gi Gj Gk Gh xR Gm),Uc⟩)(Xx:w0g K xR "how_many" =true)(Xy:w0d K (.ref uz)=true)
  (wk:DX K "meets_kept" vR)
  (Xz:w0b K af0 "is_least" =some (some (.ref uD)))(XC:K.lookup uD=some ⟨Uh,Ue,.func (w0c "is_least" "is_least" (defArgs iH) (defBody iH) (defScope iH) .none Gp Gq Gr Gn xT Gs),Ug⟩)(XD:w0g K xT "is_least" =true)(XF:w0d K (.ref uD)=true)
  (xQ:DX K "least_way" xH)
  (SX:w0b K af0 "least_seam" =some (some (.ref p7)))(S5:K.lookup p7=some ⟨Og,Od,.func (w0c "least_seam" "least_seam" (defArgs fB) (defBody fB) (defScope fB) .none Bg Bh Bj Bf tO Bk),Oe⟩)(S6:w0g K tO "least_seam" =true)(S7:w0d K (.ref p7)=true)
  (S8:w0b K af0 "many_least" =some (some (.ref p8)))(S9:K.lookup p8=some ⟨Oj,Oh,.func (w0c "many_least" "many_least" (defArgs fD) (defBody fD) (defScope fD) .none Bm Bo Bp Bl tQ Bq),Oi⟩)(Tc:w0g K tQ "many_least" =true)(Td:w0d K (.ref p8)=true)
  (XH:w0b K af0 "law" =some (some (.ref Xn)))(ae8:K.lookup Xn=some ⟨aeD,aeB,.func (w0c "law" "law" (defArgs um) (defBody um) (defScope um) .none aal aam aan aak Sh aao),aeC⟩)(ae9:w0g K Sh "law" =true)(afa:w0d K (.ref Xn)=true)
  (iQ:KB K (w0c "best_seams" "best_seams" (defArgs fj) (defBody fj) (defScope fj) .none Ba Bb Bc Az tM Bd) ["picture","many","manner","marks"] ["manner","marks"] [.inl 0,.inl 1])
  (lH:KB K (w0c "cost_of" "cost_of" (defArgs jw) (defBody jw) (defScope jw) .none J6 J7 J8 J5 Ai J9) ["picture","seam","manner"] ["manner"] [.inl 0])
  (mJ:KB K (w0c "how_many" "how_many" (defArgs iG) (defBody iG) (defScope iG) .none Gi Gj Gk Gh xR Gm) ["picture","marks"] ["marks"] [.inl 0])
  (jU:KB K (w0c "is_least" "is_least" (defArgs iH) (defBody iH) (defScope iH) .none Gp Gq Gr Gn xT Gs) ["picture","seam","manner","marks"] ["manner","marks"] [.inl 0,.inl 1])
  (jV:KB K (w0c "least_seam" "least_seam" (defArgs fB) (defBody fB) (defScope fB) .none Bg Bh Bj Bf tO Bk) ["picture","manner","marks"] ["manner","marks"] [.inl 0,.inl 1])
  (iR:KB K (w0c "many_least" "many_least" (defArgs fD) (defBody fD) (defScope fD) .none Bm Bo Bp Bl tQ Bq) ["picture","manner","marks"] ["manner","marks"] [.inl 0,.inl 1])
  :∃fd:agJ,(∀(s:afH) (v:afF),BindsTo s fd ⟨[v],[]⟩ [("_law_script",v)])/\∀(base:af8) (c TP cM TQ:afG),K.In base->base.Ns af0 mg->iC base mg c TP->pC K mg "best_ways" c->iC base mg cM TQ->pC K mg "best_counts" cM->FnOk l.prog w K mg base CX0 12 fa fd ["_law_script"] (spT [(TP,"best_ways.<locals>.first_ones"),(TQ,"best_counts.<locals>.<lambda>")] K 1 Js):=by
 have e:=hfa.symm.trans (w0e X G XH);cases e;have T:Txt K mg:=⟨⟨_,w0e X G Dj⟩,⟨_,w0e X G J0⟩,⟨_,w0e X G Dk⟩,⟨_,w0e X G xJ⟩,⟨_,w0e X G xK⟩,⟨_,w0e X G vV⟩,ach X G Dl aap (show 2<=sizeLine from z0b {} (z0e jB)) (.cons ⟨_,rfl⟩ (.cons ⟨_,rfl⟩ (.nil))),w0f X G Fg,w0f X G uo,w0f X G Xf,w0f X G RP,w0f X G lG,w0f X G Xg,w0f X G gK,w0f X G dj,w0f X G RQ,w0f X G zY,w0f X G uq,w0f X G eU,w0f X G zZ,w0f X G Xh,w0f X G vW,w0f X G Fi,w0f X G dX,w0f X G O7,J1,Dm,oM,J2⟩;have Te:=fun_mk (st:=fj) SM SN SQ;have aau:=fun_mk (st:=jw) aar aas aat;have XJ:=fun_mk (st:=iG) Xw Xx Xy;have XM:=fun_mk (st:=iH) XC XD XF;have Tf:=fun_mk (st:=fB) S5 S6 S7;have Tg:=fun_mk (st:=fD) S9 Tc Td;have afb:=fun_mk (st:=um) ae8 ae9 afa;have hX:HX K mg:=⟨T,dy X G vX (λ_ _ _ _ _ _ us hl=>JV hl λ_ _ _=>rfl),dy X G tu (λ_ _ _ _ _ _ us hl=>tW hl λ_ _=>rfl),dy X G vY (λ_ _ _ _ _ _ us hl=>JV hl λ_ _ _=>rfl),dy X G vZ (λ_ _ _ _ _ _ us hl=>JV hl λ_ _ _=>rfl),dy X G qT (λ_ _ _ _ _ _ us hl=>lk4 hl λ_ _ _ _=>rfl),dy X G xM (λ_ _ _ _ _ _ us hl=>lk4 hl λ_ _ _ _=>rfl),dy X G Aa (λ_ _ _ _ _ _ us hl=>lk4 hl λ_ _ _ _=>rfl),dy X G Dn (λ_ _ _ _ _ _ us hl=>JV hl λ_ _ _=>rfl),dy X G RT (λ_ _ _ _ _ _ us hl=>tW hl λ_ _=>rfl),dy X G Hu (λ_ _ _ _ _ _ us hl=>JV hl λ_ _ _=>rfl),dy X G La (λ_ _ _ _ _ _ us hl=>lk4 hl λ_ _ _ _=>rfl),dy X G xO (λ_ _ _ _ _ _ us hl=>JV hl λ_ _ _=>rfl),dy X G Ab (λ_ _ _ _ _ _ us hl=>tW hl λ_ _=>rfl),dy X G tD (λ_ _ _ _ _ _ us hl=>JV hl λ_ _ _=>rfl),dy X G v7 (λ_ _ _ _ _ _ us hl=>tV hl λ_=>rfl),dy X G Ac (λ_ _ _ _ _ _ us hl=>tV hl λ_=>rfl),dy X G RV (λ_ _ _ _ _ _ us hl=>tV hl λ_=>rfl),dy X G v9 (λ_ _ _ _ _ _ us hl=>tW hl λ_ _=>rfl),dy X G Dq (λ_ _ _ _ _ _ us hl=>tV hl λ_=>rfl),dy X G Dr (λ_ _ _ _ _ _ us hl=>tV hl λ_=>rfl),dy X G Hv (λ_ _ _ _ _ _ us hl=>tV hl λ_=>rfl),dy X G wg (λ_ _ _ _ _ _ us hl=>tV hl λ_=>rfl),dy X G qU (λ_ _ _ _ _ _ us hl=>tV hl λ_=>rfl),dy X G Ds (λ_ _ _ _ _ _ us hl=>tV hl λ_=>rfl),dy X G Hw (λ_ _ _ _ _ _ us hl=>tV hl λ_=>rfl),dy X G Hx (λ_ _ _ _ _ _ us hl=>tV hl λ_=>rfl),dy X G Lb (λ_ _ _ _ _ _ us hl=>tW hl λ_ _=>rfl),dy X G Ad (λ_ _ _ _ _ _ us hl=>tV hl λ_=>rfl),dy X G Dt (λ_ _ _ _ _ _ us hl=>tV hl λ_=>rfl),dy X G qW (λ_ _ _ _ _ _ us hl=>tW hl λ_ _=>rfl),dy X G Ae (λ_ _ _ _ _ _ us hl=>tW hl λ_ _=>rfl),dy X G wj (λ_ _ _ _ _ _ us hl=>tW hl λ_ _=>rfl),dy X G tE (λ_ _ _ _ _ _ us hl=>tV hl λ_=>rfl),dy X G Af (λ_ _ _ _ _ _ us hl=>JV hl λ_ _ _=>rfl),dy X G Hy (λ_ _ _ _ _ _ us hl=>JV hl λ_ _ _=>rfl),dy X G Du (λ_ _ _ _ _ _ us hl=>tW hl λ_ _=>rfl),dy X G xP (λ_ _ _ _ _ _ us hl=>tW hl λ_ _=>rfl),dy X G Ag (λ_ _ _ _ _ _ us hl=>tW hl λ_ _=>rfl),dy X G Dv (λ_ _ _ _ _ _ us hl=>tV hl λ_=>rfl),dy X G tH (λ_ _ _ _ _ _ us hl=>tW hl λ_ _=>rfl),dy X G tK (λ_ _ _ _ _ _ us hl=>tV hl λ_=>rfl),dy X G wk (λ_ _ _ _ _ _ us hl=>tW hl λ_ _=>rfl),dy X G xQ (λ_ _ _ _ _ _ us hl=>tW hl λ_ _=>rfl),⟨pZ,_,Te,w0e X G SJ,iQ⟩,⟨wU,_,aau,w0e X G aaq,lH⟩,⟨uz,_,XJ,w0e X G Xv,mJ⟩,⟨uD,_,XM,w0e X G Xz,jU⟩,⟨p7,_,Tf,w0e X G SX,jV⟩,⟨p8,_,Tg,w0e X G S8,iR⟩⟩;show⟨w0c "law" "law" (defArgs um) (defBody um) (defScope um) .none aal aam aan aak Sh aao,λs v=> .of_eq rfl,λbase cN TP cM TQ _ _ hB hCI hB2 afy=>?_⟩;let⟨f',ok',hm',_⟩:=ok_law (P:=l.prog) (w:=w) (base:=base) afb (w0e X G XH) ⟨hX,hB,hCI,hB2,afy⟩;cases (w0e X G XH).symm.trans hm';show ok'
end Fx
namespace Fx
open PySem PySem.Spec L2 Pu
theorem walk{l:w0p}{q:afQ}{loose:List Str}{XP:(Str->Option afF)->af8->Prop}{YP:af2->af8->Prop}{d:DefRec}{K:Params->w0a}(hn:l.most=some 63)(hdf:d.params.defaults=[])
  (hY:∀(w:af2) (h:af8),YP w h->(K w.params).In h)(hnt:∀w:af2,w0o (K w.params)=true)(htt:∀w:af2,Pu.aaZ (K w.params) "best_ways" "best_counts" =true)(hrec:∃dy,(alZ q).find? (λe:DefRec=>e.name ==("best_ways" :Str))=some dy)(hrec':∃dy,(alZ q).find? (λe:DefRec=>e.name ==("best_counts" :Str))=some dy)
  (F:∀(w:af2) (mg:Str->Option afF) (fa:afG) (h:af8),(K w.params).In h->h.Ns af0 mg->mg d.name=some (.ref fa)->
   ∃fd:agJ,(∀(s:afH) (u:afF),BindsTo s fd ⟨[u],[]⟩ [("_law_script",u)])/\∀(base:af8) (c T c' T':afG),(K w.params).In base->base.Ns af0 mg->iC base mg c T->pC (K w.params) mg "best_ways" c->iC base mg c' T'->pC (K w.params) mg "best_counts" c'->FnOk l.prog w (K w.params) mg base CX0 12 fa fd ["_law_script"] (spT [(T,"best_ways.<locals>.first_ones"),(T',"best_counts.<locals>.<lambda>")] (K w.params) 1 Js)):
  w0v q loose XP YP l.row.toRowW d [] (λf vs=>PySem.call f vs):=
 Pu.aeU (n:=63) (k:=12) (x:= "_law_script") (y:= "best_ways") (q:= "best_ways.<locals>.first_ones") (y':= "best_counts") (q':= "best_counts.<locals>.<lambda>") (FL:=Js) hn {} hdf ⟨rfl,{},{}⟩ hY hnt htt hrec hrec' F abu
end Fx
namespace PySem.W.Fast
def tw16451788923652198747:=0
def tw13876921883848068869:=0
def tw16376104323185792841:=0
def tw14035052965734262575:=0
def tw5626231290334203520:=0
def tw17156236137635092265:=0
def tw5739776982603513386:=0
def tw15089275595154023315:=0
def tw8575222289417874209:=0
def tw8158035522908939936:=0
def tw14465812081312586805:=0
def tw13219633995392307550:=0
def tw14582964789405295010:=0
def tw12133381623234831505:=0
def tw11679226612090386735:=0
def tw7350409253311675869:=0
def tw5706119535803688062:=0
def tw9602792737816326916:=0
def tw3359859644294435674:=0
def tw14679273112585614020:=0
def tw9394670958851695829:=0
def tw4549551482926331478:=0
def tw2641705328649730461:=0
def tw6501021317216839176:=0
def tw1436495263124418268:=0
def tw308323873712008783:=0
def tw10610086239972256695:=0
def tw8295736994139319393:=0
def tw8816634179741683703:=0
def tw7638468507863235497:=0
def tw1209544095931098865:=0
def tw15577967113222073834:=0
def tw17863208832382801127:=0
def tw13197574415719896297:=0
def tw11541311962577844638:=0
def tw6491967150957626135:=0
def tw12504730914451411696:=0
def tw14651386579416988487:=0
def tw8615662352656349199:=0
def tw9767215154231269092:=0
def tw6774341683015560056:=0
def tw1928642771743425065:=0
def tw6075622001597800006:=0
def tw765670740916717808:=0
def tw3014788459858761490:=0
def tw9003749736538348035:=0
def tw17574505234489366417:=0
def tw5622522023882929375:=0
def tw11330646437329821951:=0
def tw15444718303807523718:=0
def tw3225305934936035120:=0
def tw11810315156332292517:=0
def tw12857134393347350566:=0
def tw16421393642262911497:=0
def tw17057966495879759304:=0
def tw902922310959730776:=0
def tw7293047239306492:=0
def tw17716456124786743418:=0
def tw8725159087752260112:=0
def tw14979210768039642567:=0
def tw14574409670941154096:=0
def tw9578817329128556509:=0
def tw9997169607767355113:=0
def tw13609936611353404870:=0
def tw3564498649363093049:=0
def tw2862234053971505546:=0
def tw4317048932180635802:=0
def tw11964989096405147919:=0
def tw906745979879101535:=0
def tw10563845551393746218:=0
def tw3533658332899787105:=0
def tw12594521634301723359:=0
def tw7227714296096512726:=0
def tw7596255400865016690:=0
def tw13713894000423202828:=0
def tw3867390770965385266:=0
def tw11525349710293010897:=0
def tw18441686799084327382:=0
def tw8727679263065188228:=0
def tw3828200593312467065:=0
def tw2618862218642615104:=0
def tw2368142004259520172:=0
def tw7847386992700299337:=0
def tw5961848566910074937:=0
def tw13455200725477351666:=0
def tw3652798875078352348:=0
def tw15353801232730166661:=0
def tw14285027033708817896:=0
def tw9286552125565929727:=0
def tw2235644218956697240:=0
def tw1438423984554980340:=0
end PySem.W.Fast
open PySem PySem.W PyProof.Rows
set_option bootstrap.genMatcherCode true
set_option compiler.extract_closed true
set_option maxRecDepth 100000 in
set_option maxHeartbeats 0 in
theorem PySem.Challenge.cw_seamhall_k23_whole_best_holds : PySem.Challenge.rw_seamhall_k23_whole_best.Holds := by
 w_on;o_law;k_head;(case hw=>w_witness2)
 k_fill
 refine Fx.walk (l:=PySem.Challenge.rw_seamhall_k23_whole_best) rfl rfl (λw h Y=>PySem.W.km_in_of Y) ?nt ?tt ?rec ?afz ?F
 case nt=>intro w;kernel_rfl
 case tt=>intro w;kernel_rfl
 case afz=>exact⟨_,rfl⟩
 case rec=>exact⟨_,rfl⟩
 case F=>
  intro w mg fa h KX G hmg
  refine' Fx.all_mk KX G hmg ?_ ?_ ?_ ?_ ?_ ?_ ?_ ?_ ?_ ?_ ?_ ?_ ?_ ?_ ?_ ?_ ?_ ?_ ?_ ?_ ?_ ?_ ?_ ?_ ?_ ?_ ?J1 ?Dm ?oM ?J2 ?_ ?_ ?_ ?_ ?_ ?_ ?_ ?_ ?_ ?_ ?_ ?_ ?_ ?_ ?_ ?_ ?_ ?_ ?_ ?_ ?_ ?_ ?_ ?_ ?_ ?_ ?_ ?_ ?_ ?_ ?_ ?_ ?_ ?_ ?_ ?_ ?_ ?_ ?_ ?_ ?_ ?_ ?_ ?_ ?_ ?_ ?_ ?_ ?_ ?_ ?_ ?_ ?_ ?_ ?_ ?_ ?_ ?_ ?_ ?_ ?_ ?_ ?_ ?_ ?_ ?_ ?_ ?_ ?_ ?_ ?_ ?iQ ?lH ?mJ ?jU ?jV ?iR
  all_goals try first |k_is |(refine' Fx.ae6 ?qa ?ql ?qc ?qp;(case qa=>k_is);(case ql=>k_is);(case qc=>k_is);(case qp=>k_is))
  (case J1=>intro d;cases d;(show PySem.W.kitOne _ (af6 "NoneType") (af6 "int")=some false);kit_is;(show PySem.W.kitOne _ (af6 "bool") (af6 "int")=some true);kit_is;(show PySem.W.kitOne _ (af6 "int") (af6 "int")=some true);kit_is;(show PySem.W.kitOne _ (af6 "str") (af6 "int")=some false);kit_is;(show PySem.W.kitOne _ (af6 "tuple") (af6 "int")=some false);kit_is;(show PySem.W.kitOne _ (af6 "list") (af6 "int")=some false);kit_is)
  (case Dm=>intro d;cases d;(show PySem.W.kitOne _ (af6 "NoneType") (af6 "bool")=some false);kit_is;(show PySem.W.kitOne _ (af6 "bool") (af6 "bool")=some true);kit_is;(show PySem.W.kitOne _ (af6 "int") (af6 "bool")=some false);kit_is;(show PySem.W.kitOne _ (af6 "str") (af6 "bool")=some false);kit_is;(show PySem.W.kitOne _ (af6 "tuple") (af6 "bool")=some false);kit_is;(show PySem.W.kitOne _ (af6 "list") (af6 "bool")=some false);kit_is)
  (case oM=>intro d;cases d;(show PySem.W.kitOne _ (af6 "NoneType") (af6 "tuple")=some false);kit_is;(show PySem.W.kitOne _ (af6 "bool") (af6 "tuple")=some false);kit_is;(show PySem.W.kitOne _ (af6 "int") (af6 "tuple")=some false);kit_is;(show PySem.W.kitOne _ (af6 "str") (af6 "tuple")=some false);kit_is;(show PySem.W.kitOne _ (af6 "tuple") (af6 "tuple")=some true);kit_is;(show PySem.W.kitOne _ (af6 "list") (af6 "tuple")=some false);kit_is)
  (case J2=>intro d;cases d;(show PySem.W.kitOne _ (af6 "NoneType") (af6 "list")=some false);kit_is;(show PySem.W.kitOne _ (af6 "bool") (af6 "list")=some false);kit_is;(show PySem.W.kitOne _ (af6 "int") (af6 "list")=some false);kit_is;(show PySem.W.kitOne _ (af6 "str") (af6 "list")=some false);kit_is;(show PySem.W.kitOne _ (af6 "tuple") (af6 "list")=some false);kit_is;(show PySem.W.kitOne _ (af6 "list") (af6 "list")=some true);kit_is)
  (case iQ=>intro s us ws i hl hw;have h0:us.length=2:=(by simp only[afN,ahm] at hl;omega);clear hl;obtain⟨u0,us0,rfl,h1⟩:=Pu.ji h0;clear h0;obtain⟨u1,us1,rfl,h2⟩:=Pu.ji h1;clear h1;cases Pu.len0 h2;have g0:ws.length=2:=hw;clear hw;obtain⟨w0,ws0,rfl,g1⟩:=Pu.ji g0;clear g0;obtain⟨w1,ws1,rfl,g2⟩:=Pu.ji g1;clear g1;cases Pu.len0 g2;exact PySem.W.kp_binds i (λS=>rfl))
  (case lH=>intro s us ws i hl hw;have h0:us.length=2:=(by simp only[afN,ahm] at hl;omega);clear hl;obtain⟨u0,us0,rfl,h1⟩:=Pu.ji h0;clear h0;obtain⟨u1,us1,rfl,h2⟩:=Pu.ji h1;clear h1;cases Pu.len0 h2;have g0:ws.length=1:=hw;clear hw;obtain⟨w0,ws0,rfl,g1⟩:=Pu.ji g0;clear g0;cases Pu.len0 g1;exact PySem.W.kp_binds i (λS=>rfl))
  (case mJ=>intro s us ws i hl hw;have h0:us.length=1:=(by simp only[afN,ahm] at hl;omega);clear hl;obtain⟨u0,us0,rfl,h1⟩:=Pu.ji h0;clear h0;cases Pu.len0 h1;have g0:ws.length=1:=hw;clear hw;obtain⟨w0,ws0,rfl,g1⟩:=Pu.ji g0;clear g0;cases Pu.len0 g1;exact PySem.W.kp_binds i (λS=>rfl))
  (case jU=>intro s us ws i hl hw;have h0:us.length=2:=(by simp only[afN,ahm] at hl;omega);clear hl;obtain⟨u0,us0,rfl,h1⟩:=Pu.ji h0;clear h0;obtain⟨u1,us1,rfl,h2⟩:=Pu.ji h1;clear h1;cases Pu.len0 h2;have g0:ws.length=2:=hw;clear hw;obtain⟨w0,ws0,rfl,g1⟩:=Pu.ji g0;clear g0;obtain⟨w1,ws1,rfl,g2⟩:=Pu.ji g1;clear g1;cases Pu.len0 g2;exact PySem.W.kp_binds i (λS=>rfl))
  (case jV=>intro s us ws i hl hw;have h0:us.length=1:=(by simp only[afN,ahm] at hl;omega);clear hl;obtain⟨u0,us0,rfl,h1⟩:=Pu.ji h0;clear h0;cases Pu.len0 h1;have g0:ws.length=2:=hw;clear hw;obtain⟨w0,ws0,rfl,g1⟩:=Pu.ji g0;clear g0;obtain⟨w1,ws1,rfl,g2⟩:=Pu.ji g1;clear g1;cases Pu.len0 g2;exact PySem.W.kp_binds i (λS=>rfl))
  (case iR=>intro s us ws i hl hw;have h0:us.length=1:=(by simp only[afN,ahm] at hl;omega);clear hl;obtain⟨u0,us0,rfl,h1⟩:=Pu.ji h0;clear h0;cases Pu.len0 h1;have g0:ws.length=2:=hw;clear hw;obtain⟨w0,ws0,rfl,g1⟩:=Pu.ji g0;clear g0;obtain⟨w1,ws1,rfl,g2⟩:=Pu.ji g1;clear g1;cases Pu.len0 g2;exact PySem.W.kp_binds i (λS=>rfl))
