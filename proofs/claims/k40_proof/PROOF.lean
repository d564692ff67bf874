import PyProof.Rows.All
import Wide.All
import OpenK.AllK
import Wide.FinOn
import Lean
import PyProof.EqAt
import PyProof.EqKinds
import PyProof.TupleCall
import PyProof.NeKinds
import PyProof.FString
import PySem.Challenge.RW_seamhall_k40_ladders
open PySem renaming wpAny_bind→ad4,Addr→ad5,Value→ad7,Shared→ad8,wpAny_pure→ad9,starEach→aea,wpAny→aec,mainGlobals→aed,Expr→aee,Program→aek,Heap→aeo,World→aep,Around→aer,Stmt→aeu,compareOp→aex,cellsFrom→aey,wpAny_field→aeF,wpAny_newObj_type→aeI,backTo→aeR,FuncData→aeU,wpAny_mono→ae0,rawInt→ae3,wpAny_call_entry→ae5,wpAny_callSpecial?_slot→afa,binaryOp→afj,foldedSetIterable→afo,wpAny_setField_rec→afs,sizeLine_eq→aft,wpAny_truthy_bool→afu,wpAny_holding→afv,wpAny_loadPart'→afy,Builtin→afA,Scope→afB,cLine→afJ,bootBuiltins→afK,assignEach→afT,swapsWithSole→afU,swappedStores→afV,strLen_append→afY,storeName→af2,wpAny_Call_Name_kw→af3,call_meets→af6,Keyword→agc,behindInMarks→agf,bindArgs→agh,wpAny_seqItems→agj,keywordEach→agk,wpAny_passesOwn→agm,wpAny_rule→ags,swapsWith→agu,Arguments→agv,wpAny_of_eq→agw,codeAny_mono→agx,NameKind→agy,wpAny_standAt→agG,callerA→agH,builtinsNs→agL,wpAny_typeOf→agR,backToKw→agW,wpAny_attempt→agZ,sliceBounds→ag1,wpAny_execs_nil→ag3,pushCells_keeps→ag6,wpAny_binaryOp_repeat_ref→ag8,codeAny_builtin→ag9,TriplesOk→aha,wpAny_tupleItemsOf→ahd,BindsTo→ahh,codeAny→ahi,wpAny_call→ahj,typeIs_int→ahk,wpAny_setField→ahm,wpAny_pyIter_rangeiter→ahq,rangeSize_one→ahs,attributeBase→aht,wpAny_isInstance→ahy,codeAmong→ahB,standAt→ahC,getItem→ahD,newList→ahG,exec_Assign_Name_used→ahH,IsPart→ahN,newFunctionEnv→ahZ,IsRangeIter→ah2,evalPart_none→aij,wpAny_newList→aio,wpAny_onRaise→aiq,wpAny_sequenceKey→aiu,wpAny_pyIter_list→aix,closureFor→aiE,wpAny_eqBool_int→aiG,concat_meets→aiK,noFill_tuple_add→aiL,compPost→aiP,wpAny_forIn_list→aiQ
open List renaming range→ad6,replicate→aeb,length_cons→aef,getElem?_range→aei,mem_cons→ael,getElem?_eq_getElem→aem,mem_cons_self→aen,map_map→aev,eq_nil_of_length_eq_zero→aeA,mem_append_right→aeC,mem_singleton→aeD,mem_of_getElem?→aeE,length_replicate→aeG,append_nil→aeK,length_set→aeL,range_succ_eq_map→aeN,getElem?_append_right→aeO,getElem?_append_left→aeS,map_congr_left→aeY,mem_map→ae2,getD_eq_getElem?_getD→ae8,getElem?_replicate→ae9,append_assoc→afb,map_append→afi,length_take→afk,not_mem_nil→afl,replicate_succ→afm,nodup_cons→afq,lookup_append→afr,getElem?_eq_none→afx,length_eraseIdx→afC,mem_range→afE,mem_append→afF,length_singleton→afI,pairwise_cons→afM,length_nil→afQ,map_take→afZ,range'_succ→af0,eraseIdx_eq_take_drop_succ→af4,range'→af5,range_eq_range'→af9,filterMap_cons_none→aga,filterMap_cons_some→agb,flatten_cons→agd,all_cons→agg,lookup_cons→agi,toArray→agl,nil_append→ago,ext_getElem?→agr,drop_eq_getElem_cons→agt,map_nil→agz,all_eq_true→agA,ext_getElem→agB,mem_flatMap→agC,mem_of_mem_eraseIdx→agD,flatten_replicate_singleton→agE,filterMap_cons→agF,sum_cons→agK,flatMap_cons→agP,getElem_mem→agX,forIn_cons→ag5,length_filterMap_le→ahb,zip_cons_cons→ahe,drop_zero→ahl,length_eq_zero_iff→ahn,nodup_append→aho,pairwise_map→ahp,take_of_length_le→ahr,length_drop→ahu,nodup_range→ahv,cons_append→ahz,take_append_drop→ahJ,mem_filter→ahK,mem_append_left→ahL,of_mem_zip→ahM,range_succ→ahS,mem_of_mem_take→ahU,length_reverse→ahV,mem_map_of_mem→ahX,length→ah3,mem_filterMap→ah9,any_cons→ail,map_drop→ais,size_toArray→ait,reverse_cons→aiw,eraseIdx_nil→aiy,findIdx_cons→aiz,all_eq_false→aiA,foldl→aiD,getElem_inj→aiH,getElem?_take_of_lt→aiJ,range'_eq_map_range→aiR,filter_cons→aiS,getElem?_cons_succ→aiU,length_map→aiV,getD→aiX,take_zero→ai2
open Option.some renaming inj→aeg
open Ne renaming symm→aeh
open PySem.Value renaming type→aej,ref→aew,none→aez,builtin→afX,int→ah5,bool→aiB
open Bool renaming false_ne_true→aes,and_eq_true→ae6,false_eq_true→afg,not_true→ag0,false_and→ahg,and_false→ai1
open Or renaming inr→aeB,inl→aeM
open PySem.Str renaming ofString→aeH,empty→ahI
open False renaming elim→aeJ
open PyProof.Rows renaming boot_tuple→aeP,slot_tuple_getitem→aeV,callWith_type1→ae1,seqObj→afH,envOfC→afP,IntsAre→afS,boot_isinstance→agp,AllBare→agQ,boot_all→ahA,sortedHeap→ahQ,get?_update_seq→ahR,slicePart_none→ahY,boot_abs→ah0,boot_min→ah1,assignInOrder_cons→ah7,args_tuple_getitem→aia,subscriptTail→aik,listUpdate_at→ain,boot_max→aiT
open Int renaming toNat_natCast→aeQ,eq_ofNat_of_zero_le→afz,natCast_nonneg→agM,emod_lt_of_pos→agN,emod_nonneg→ag7,ofNat_le→aiM
open PySem.Builtin.SmallTypes renaming nextOf→aeT,ownedTupleIsFree→ae4,ownedTupleHandOut→afL
open Nat renaming ne_of_lt→aeW,lt_irrefl→afh,zero_le→afN,le_of_ble_eq_true→agS,sub_zero→agT,zero_add→agU,min_eq_left→ag4,mul_comm→ahc,lt_of_le_of_lt→ahf,le_add_right→ahw,le_succ→ah4,add_sub_cancel→aif,ne_of_gt→aiI
open PySem.Builtin.Tuple renaming tupleExact→aeX,tupleItemsOf→agY,tupleTooMany→aip
open PySem.PassesOwn renaming never→aeZ
open PySem.NameKind renaming free→ae7,cell→agI
open PySem.Builtin.Slice renaming slicePlaces→afc,sliceAdjust→afG,sliceApplied→agq,sliceFields→aiC
open PySem.Obj renaming mapSeq→afd,mapFields→agJ,data_mapFields→agO,isFreed_of_fields→ahF
open PySem.Heap renaming get?_update_other→afe,size_push→afp,SameBut→afD,get?_update_self→agn,get?_update_ne→ag2,ExtBut→ai0
open PySem.Builtin.Range renaming rangeFitsLong→afn,rangeSize→afO,small→ai8
open Option renaming isSome_iff_exists→afw,map_some→af7,bind_some→ahx,getD_some→aiN
open Array renaming length_toList→afR,getElem?_eq_some_iff→afW,getElem?_toList→ahE,getD_eq_getD_getElem?→aie,getD→ai5
open PySem.Builtin.List renaming listTooLong→af8,listExtendWith→agV,listFitsIndex→air
open PySem.Calls renaming evalArgs_plain→ahO,Constant_str→ah6,Name_function_global→aii,call_function_entry→aiF
open ForInStep renaming yield→ahP
open PySem.Around renaming under_plainId→ahT
open PySem.Heap.SameBut renaming update→ahW
open PySem.Data renaming cell→ah8,fields→aiZ
open PySem.Heap.IsSliceOf renaming new→aib
open PySem.SeqAt.EqAt renaming int_int→aic,int_str→aja,str_int→ajb
open List.Pairwise renaming nil→aiv
open PySem.AutoSeq1 renaming idx_int→aiO
open PySem.Flow renaming next→aiW
open List.cons renaming injEq→aiY,inj→ai7
open Prod renaming ext→ai3
open True renaming intro→ai4
open Prod.mk renaming injEq→ai6
open PySem.EntryCells renaming newEntry→ai9
open Nat.succ renaming inj→ajc
noncomputable section
set_option bootstrap.genMatcherCode false
set_option compiler.extract_closed false
set_option Elab.async false
set_option linter.all false
set_option maxRecDepth 100000
set_option maxHeartbeats 4000000
theorem z0b{a b c : Nat}(h : a ≤ b)(k : b ≤ c) : a ≤ c := Nat.le_trans h k
theorem z0d{a b c : Nat}(h : a<b)(k : b ≤ c) : a<c := Nat.lt_of_lt_of_le h k
theorem z0e{a b : Nat}(h : a<b) : a ≤ b := Nat.le_of_lt h
theorem z0g(a : Nat) : a ≤ a := Nat.le_refl a
theorem z1a{h : PySem.Heap}{a : PySem.Addr}{o' : PySem.Obj}(o : PySem.Obj)(e : h.get? a=some o') : (h.push o).get? a=some o' := PySem.Heap.get?_push_of_some o e
theorem z1b{α : Type _}{i : Nat}{a : α}{l : List α}(h : l[i]?=some a) : ∃h : i<l.length, l[i]=a := List.getElem?_eq_some_iff.mp h
theorem z1c{α : Type _}{as : List α} : as.toArray.size=as.length := ait
theorem z1d{α : Type _}{as bs : List α} : (as ++ bs).length=as.length+bs.length := List.length_append
theorem z1e{α : Type _}{l : List α}{i j : Nat}(h : i ≠ j){a : α} : (l.set i a)[j]?=l[j]? := List.getElem?_set_ne h
theorem z1f(h : PySem.Heap){o : PySem.Obj}(e : o.isFreed=false) : (h.push o).get? h.objs.size=some o := PySem.Heap.get?_push_size h e
theorem z1g{α : Type _}{β : Type _}{as : List α}(f : α → β) : (as.map f).length=as.length := aiV f
theorem z1h{α : Type _}{β : Type _}{f : α → β}{a : α}{l : List α} : (a :: l).map f=f a :: l.map f := rfl
theorem z2a{α : Type _}{l : List α}{i : Nat}{a : α}(h : i<l.length) : (l.set i a)[i]?=some a := List.getElem?_set_self h
theorem z2b{α : Type _}{β : Type _}{f : α → β}{l : List α}{i : Nat} : (l.map f)[i]?=Option.map f l[i]? := List.getElem?_map
theorem z2c{h : PySem.Heap}{a : PySem.Addr}{o : PySem.Obj}(e : h.get? a=some o) : a<h.objs.size := PySem.Heap.lt_size e
theorem z2d{n : Nat} : (ad6 n).length=n := List.length_range
theorem z2e{m n : Nat}(h : m ∈ ad6 n) : m<n := afE.mp h
theorem z2f{α : Type _}(y : α){a : α}{l : List α}(h : a ∈ l) : a ∈ y :: l := List.mem_cons_of_mem y h
namespace L2
open PySem PySem.Spec PyProof.Rows
variable{A:aer}{CX:CXT}{e tg:aee}{o:HO}{h base:aeo}{H:Hp}{pins:List (ad5×Obj)}{ch:List ad5}{body:List aeu}{ps N:List Str}{us:List ad7}{M:Model}{t' k:Nat}{P:aek}{K:PySem.W.Frag}{r:R2}{s:ad8}{σ:St}{mg:Str->Option ad7}{Q:Unit->ad8->Prop}{E:ad7->ad8->Prop}{f:ad7->ad7->Sem ad7}{w:aep}
abbrev Key:=Sum Int Str
def keyIs:Key->ad7->Bool
 | .inl k,v=>Value.isInt k v
 | .inr x,v=>Value.isStrOf x v
def keyH(w:aep):Key->Int
 | .inl k=>hashInt k
 | .inr x=>hashStr w x
theorem keyIs_shape:∀{k:Key} {v:ad7},keyIs k v=true->(∃i t,k=Sum.inl i/\v=ah5 i t)\/(∃x t,k=Sum.inr x/\v=Value.str x t)
 | .inl i,v,h=>by
  obtain⟨t,e⟩:=Value.isInt_shape (k:=i) (v:=v) h;exact .inl ⟨i,t,rfl,e⟩
 | .inr x,v,h=>by
  obtain⟨t,e⟩:=Value.isStrOf_shape (x:=x) (v:=v) h;exact .inr ⟨x,t,rfl,e⟩
theorem key_ll(a b:Int):decide ((Sum.inl a:Key)=Sum.inl b)=(a ==b):=by
 by_cases e:a=b
 ·subst e;simp
 ·have h:¬(Sum.inl a:Key)=Sum.inl b:=λq=>e (Sum.inl.inj q);rw[decide_eq_false h];exact (beq_eq_false_iff_ne.mpr e).symm
theorem key_rr(a b:Str):decide ((Sum.inr a:Key)=Sum.inr b)=decide (a=b):=by
 by_cases e:a=b
 ·subst e;simp
 ·have h:¬(Sum.inr a:Key)=Sum.inr b:=λq=>e (Sum.inr.inj q);rw[decide_eq_false h,decide_eq_false e]
theorem key_lr(a:Int)(b:Str):decide ((Sum.inl a:Key)=Sum.inr b)=false:=decide_eq_false (λq=>nomatch q)
theorem key_rl(a:Str)(b:Int):decide ((Sum.inr a:Key)=Sum.inl b)=false:=decide_eq_false (λq=>nomatch q)
def mixKind(prog:aek)(w:aep):PySem.KeyKind prog w Key where
 is:=keyIs
 hash:=keyH w
 inj :=λv a b ha hb=>by
  rcases keyIs_shape ha with⟨i,t,rfl,rfl⟩ |⟨x,t,rfl,rfl⟩
  ·rcases keyIs_shape hb with⟨j,u,rfl,e⟩ |⟨y,u,rfl,e⟩
   ·injection e with e1 _;rw[e1]
   ·exact nomatch e
  ·rcases keyIs_shape hb with⟨j,u,rfl,e⟩ |⟨y,u,rfl,e⟩
   ·exact nomatch e
   ·injection e with e1 _;rw[e1]
 byValue:=λk v h=>by
  rcases keyIs_shape h with⟨i,t,rfl,rfl⟩ |⟨x,t,rfl,rfl⟩ <;> rfl
 pyHash:=λhv h=>by
  rcases keyIs_shape hv with⟨i,t,rfl,rfl⟩ |⟨x,t,rfl,rfl⟩
  ·exact wpAny_pyHash_int h
  ·exact wpAny_pyHash_str h
 eqBool:=λhu hv h=>by
  rcases keyIs_shape hu with⟨i,t,rfl,rfl⟩ |⟨x,t,rfl,rfl⟩
  ·rcases keyIs_shape hv with⟨j,u,rfl,rfl⟩ |⟨y,u,rfl,rfl⟩
   ·rw[key_ll] at h;exact aiG h
   ·rw[key_lr] at h;exact aja i t y u _ _ _ _ h
  ·rcases keyIs_shape hv with⟨j,u,rfl,rfl⟩ |⟨y,u,rfl,rfl⟩
   ·rw[key_rl] at h;exact ajb x t j u _ _ _ _ h
   ·rw[key_rr] at h;exact wpAny_eqBool_str h
 «strs»:=λk x t v h=>by
  rcases keyIs_shape h with⟨i,u,rfl,e⟩ |⟨y,u,rfl,e⟩
  ·exact nomatch e
  ·injection e with e1 _;subst e1;cases v <;> rfl
inductive V where
 |non |bl (b:Bool) |int (i:Int) |str (x:Str) |byt (b:Array UInt8) |flt (b:UInt64) |ref (a:ad5) |ty (n:String)
 deriving DecidableEq
def RelV:V->ad7->Prop
 | .non,u=>u=aez
 | .bl b,u=>u=aiB b
 | .int i,u=>∃t,u=ah5 i t
 | .str x,u=>∃t,u=Value.str x t
 | .byt b,u=>∃t,u=Value.bytes b t
 | .flt b,u=>∃t,u=Value.float b t
 | .ref a,u=>u=aew a
 | .ty n,u=>u=aej n
abbrev Vals:List V->List ad7->Prop:=Paired RelV
theorem Vals.length{xs:List V}(r:Vals xs us):xs.length=us.length:=Paired.length r
theorem Vals.get:∀{xs:List V} {us:List ad7} {i:Nat} {x:V},Vals xs us->xs[i]?=some x->∃u,us[i]?=some u/\RelV x u
 |_,_,_,_,.nil,e=>by simp at e
 |_,_,0,_,.cons r _,e=>by simp at e;subst e;exact⟨_,rfl,r⟩
 | _,_,i+1,x,.cons _ t,e=>by
  obtain⟨u,h1,h2⟩:=Vals.get (i:=i) (x:=x) t (by simpa using e);exact⟨u,by simpa using h1,h2⟩
theorem Vals.set{x:V}{u:ad7}(r:RelV x u):∀{xs:List V} {us:List ad7} (i:Nat),Vals xs us->Vals (xs.set i x) (us.set i u)
 |_,_,_,.nil=> .nil
 |_,_,0,.cons _ t=> .cons r t
 |_,_,i+1,.cons q t=> .cons q (Vals.set r i t)
theorem Vals.append:∀{xs ys:List V} {us ws:List ad7},Vals xs us->Vals ys ws->Vals (xs++ys) (us++ws)
 :=by
 intro xs ys us ws h q
 induction h with
 |nil=>exact q
 |cons r t ih=>exact .cons r ih
theorem Vals.take:∀{xs:List V} {us:List ad7} (n:Nat),Vals xs us->Vals (xs.take n) (us.take n)
 |_,_,0,_=> .nil
 |_,_,_+1,.nil=> .nil
 |_,_,n+1,.cons r t=> .cons r (Vals.take n t)
theorem Vals.drop:∀{xs:List V} {us:List ad7} (n:Nat),Vals xs us->Vals (xs.drop n) (us.drop n)
 |_,_,0,r=>r
 |_,_,_+1,.nil=> .nil
 |_,_,n+1,.cons _ t=>Vals.drop n t
def RelO:Option V->Option ad7->Prop
 |some v,some u=>RelV v u
 |none,none=>True
 |_,_=>False
def KV{κ:Type}:List (κ×V)->List (κ×ad7)->Prop:=Paired λ(p:κ×V) (q:κ×ad7)=>p.1=q.1/\RelV p.2 q.2
def kV:Key->V
 | .inl i=> .int i
 | .inr x=> .str x
inductive HO where
 /-- a list -/
 |lst (xs:List V)
 /-- a tuple (never changes) -/
 |tup (xs:List V)
 /-- a dict whose keys are ints and texts;one whose keys are tuples of ints and texts (the empty one is both) -/
 |dK (kvs:List (Key×V)) |dT (kvs:List (List Key×V))
 /-- a set of ints:its members,its size -/
 |set (S:Int->Bool) (n:Nat)
 /-- an instance of the class at C,its dict at dx,its attributes -/
 |ins (C dx:ad5) (fs:List (Str×V))
 /-- the dict of the instance at x -/
 |own (x:ad5)
 /-- the dict of an exception -/
 |xd (fs:List (Str×V))
 /-- a bound method,f of x -/
 |met (f x:ad5)
 /-- a range object lo,lo+1,.. below hi -/
 |rng (lo hi:Int)
 /-- a thing that is known to the object (the script;a dict while a loop walks it):read,never written while it is so -/
 |frz (o:Obj) (u:HO)
 /-- a code object's table -/
 |tbl (ps:Array ad7)
 /-- any other thing,by what is true of its one object (a def of one's own:SetO a S n:=HO.ext λh=> ..) -/
 |ext (φ:aeo->Prop)
abbrev Hp:=ad5->Option HO
def upd(H:Hp)(a:ad5)(o:HO):Hp:=λb=>if b=a then some o else H b
theorem upd_same{a:ad5}:upd H a o a=some o:=by unfold upd;rw[if_pos rfl]
theorem upd_ne{a b:ad5}(h:b≠a):upd H a o b=H b:=by unfold upd;rw[if_neg h]
theorem ne_of_none{a b:ad5}(h:H a=some o)(h':H b=none):a≠b:=by
 intro e;subst e;rw[h] at h';cases h'
def u9(h:aeo)(a:ad5)(items:Array ad7):Prop:=∃o,h.get? a=some o/\o.cls= .type "tuple"/\o.dict=none/\∃n,o.data= .seq items n
theorem u9.tup{a:ad5}{items:Array ad7}(x:u9 h a items):IsTup h a items:=let⟨o,e,c,_,d⟩:=x;⟨o,e,c,d⟩
theorem u9.new(h:aeo)(items:Array ad7):u9 (h.push {cls:= .type "tuple",data:= .seq items}) h.objs.size items:=⟨_,z1f _ rfl,rfl,rfl,_,rfl⟩
section
variable(P:aek)(w:aep)
def ObjOk(H:Hp)(h:aeo)(a:ad5):HO->Prop
 | .lst xs=>xs.length<=sizeLine/\∃(its:List ad7) (n:Nat),Vals xs its/\h.get? a=some {cls:= .type "list",data:= .seq its.toArray n}
 | .tup xs=>xs.length<=sizeLine/\∃its:List ad7,Vals xs its/\u9 h a its.toArray
 | .dK kvs=>kvs.length<=sizeLine/\(a ==sysModules)=false/\∃vs,KV kvs vs/\h.DictOf (mixKind P w) a vs
 | .dT kvs=>kvs.length<=sizeLine/\(a ==sysModules)=false/\∃xs:List (List Key×ad5×ad7),
   Paired (λ(p:List Key×V) (q:List Key×ad5×ad7)=>p.1=q.1/\H q.2.1=some (.tup (p.1.map kV))/\RelV p.2 q.2.2) kvs xs/\
   ∃o es ep,h.get? a=some o/\o.ExactDict/\o.data= .dict es ep/\es.toList=xs.map (entryOfKey (tupleKind (mixKind P w)))/\(xs.map (·.1)).Nodup
 | .set S n=>h.SetOf (intKind P w) a S n
 | .ins C dx fs=>H dx=some (.own a)/\fs.length<=1000/\dx≠a/\h.get? a=some (PySem.W.instObj C dx)/\
   ∃mA,h.Ns1 dx mA/\(∀f,RelO (fs.lookup f) (mA f))/\PySem.Within mA (fs.map (·.1))
 | .own _=>∃o,h.get? a=some o
 | .xd fs=>∃mA,h.Ns1 a mA/\∀f,RelO (fs.lookup f) (mA f)
 | .rng lo hi=>∃t u v,h.get? a=some {cls:= .type "range",data:= .fields #[.int lo t,.int hi u,.int 1 v]}
 | .frz o u=>h.get? a=some o/\ObjOk H h a u
 | .tbl ps=>∃qs:Array ad7,h.get? a=some (PySem.W.tabObj qs)/\aha qs.toList/\∀pos cv,ahB pos qs.toList=some cv->∃c oc vs q t tq,cv= .ref c/\H c=some (.frz oc (.own c))/\oc.data= .fields vs/\vs[1]?=some (.str q t)/\ps[0]?=some (.str q tq)
 | .met f x=>h.get? a=some (PySem.W.methodObj (.ref f) (.ref x))
 | .ext φ=>φ h/\(∃o,h.get? a=some o)/\∀h1 h2:aeo,φ h1->(∀o,h1.get? a=some o->h2.get? a=some o)->φ h2
def HOk(H:Hp)(h:aeo):Prop:=∀a o,H a=some o->ObjOk P w H h a o
end
section
variable{P:aek}{w:aep}{H H':Hp}{h h':aeo}{a:ad5}{o:HO}
theorem ObjOk.lt(x:ObjOk P w H h a o):a<h.objs.size:=by
 cases o with
 |lst xs=>obtain⟨_,_,_,_,e⟩:=x;exact z2c e
 |tup xs=>obtain⟨_,_,_,_,e,_⟩:=x;exact z2c e
 |dK kvs=>obtain⟨_,_,_,_,o,_,_,e,_⟩:=x;exact z2c e
 |dT kvs=>obtain⟨_,_,_,_,o,_,_,e,_⟩:=x;exact z2c e
 |set S n=>obtain⟨o,_,_,_,e,_⟩:=x;exact z2c e
 |ins C dx fs=>obtain⟨_,_,_,e,_⟩:=x;exact z2c e
 |own y=>obtain⟨_,e⟩:=x;exact z2c e
 |xd fs=>obtain⟨_,⟨_,_,_,e,_⟩,_⟩:=x;exact z2c e
 |rng lo hi=>obtain⟨_,_,_,e⟩:=x;exact z2c e
 |frz ob u=>obtain⟨e,_⟩:=x;exact z2c e
 |tbl ps=>obtain⟨_,e,_⟩:=x;exact z2c e
 |met f y=>exact z2c (show h.get? a=some _ from x)
 |ext φ=>obtain⟨_,⟨_,e⟩,_⟩:=x;exact z2c e
theorem Paired.mapP{α β:Type}{F G:α->β->Prop}:∀{l₁:List α} {l₂:List β},Paired F l₁ l₂->(∀a b,F a b->G a b)->Paired G l₁ l₂
 :=by
 intro l₁ l₂ h f
 induction h with
 |nil=>exact .nil
 |cons r t ih=>exact .cons (f _ _ r) ih
theorem ObjOk.stay(x:ObjOk P w H h a o)(k:∀b u,(b=a\/H b=some (.own a))->h.get? b=some u->h'.get? b=some u)
  (ho:∀b,H b=some (.own a)->H' b=some (.own a))(ht:∀b xs,H b=some (.tup xs)->H' b=some (.tup xs))(hz:∀b o u,(∃vs,o.data= .fields vs)->H b=some (.frz o u)->H' b=some (.frz o u)):ObjOk P w H' h' a o:=by
 induction o with
 |lst xs=>obtain⟨z,its,n,r,e⟩:=x;exact⟨z,its,n,r,k _ _ (.inl rfl) e⟩
 |tup xs=>obtain⟨z,its,r,ob,e,c⟩:=x;exact⟨z,its,r,ob,k _ _ (.inl rfl) e,c⟩
 |dK kvs=>obtain⟨z,y,vs,r,ob,es,ep,e,c⟩:=x;exact⟨z,y,vs,r,ob,es,ep,k _ _ (.inl rfl) e,c⟩
 | dT kvs=>
  obtain⟨z,y,xs,r,ob,es,ep,e,c⟩:=x;exact⟨z,y,xs,Paired.mapP r λp q z=>⟨z.1,ht _ _ z.2.1,z.2.2⟩,ob,es,ep,k _ _ (.inl rfl) e,c⟩
 |set S n=>obtain⟨ob,es,ep,t,e,c⟩:=x;exact⟨ob,es,ep,t,k _ _ (.inl rfl) e,c⟩
 | ins C dx fs=>
  obtain⟨d,z,ne,e,mA,⟨od,es,ep,e2,c⟩,r⟩:=x;exact⟨ho _ d,z,ne,k _ _ (.inl rfl) e,mA,⟨od,es,ep,k _ _ (.inr d) e2,c⟩,r⟩
 |own y=>obtain⟨ob,e⟩:=x;exact⟨ob,k _ _ (.inl rfl) e⟩
 |xd fs=>obtain⟨mA,⟨od,es,ep,e,c⟩,r⟩:=x;exact⟨mA,⟨od,es,ep,k _ _ (.inl rfl) e,c⟩,r⟩
 |rng lo hi=>obtain⟨t,u,v,e⟩:=x;exact⟨t,u,v,k _ _ (.inl rfl) e⟩
 |frz ob u ih=>obtain⟨e,q⟩:=x;exact⟨k _ _ (.inl rfl) e,ih q⟩
 | tbl ps=>
  obtain⟨qs,e,tr,al⟩:=x;exact⟨qs,k a _ (.inl rfl) e,tr,λp cv z=>by
   obtain⟨c,oc,vs,q,t,tq,e1,e2,e3,r⟩:=al p cv z;exact⟨c,oc,vs,q,t,tq,e1,hz _ _ _ ⟨vs,e3⟩ e2,e3,r⟩⟩
 | met f y=>
  have e:h.get? a=some (PySem.W.methodObj (.ref f) (.ref y)):=x;show h'.get? a=some (PySem.W.methodObj (.ref f) (.ref y));exact k a _ (.inl rfl) e
 |ext φ=>obtain⟨p,⟨o,e⟩,st⟩:=x;exact⟨st _ _ p λo q=>k _ _ (.inl rfl) q,⟨o,k _ _ (.inl rfl) e⟩,st⟩
theorem HOk.lt(x:HOk P w H h)(e:H a=some o):a<h.objs.size:=(x a o e).lt
theorem HOk.fresh(x:HOk P w H h)(e:h.objs.size<=a):H a=none:=by
 cases q:H a with
 |none=>rfl
 |some u=>exact absurd (z0d (x.lt q) e) (afh _)
theorem HOk.kept(x:HOk P w H h)(k:∀b u,h.get? b=some u->h'.get? b=some u):HOk P w H h':=λa o e=>
 (x a o e).stay (λb u _ q=>k b u q) (λ_ q=>q) (λ_ _ q=>q) λ_ _ _ _ q=>q
theorem HOk.laid(x:HOk P w H h)(k:∀b u,h.get? b=some u->h'.get? b=some u)(hp:h.objs.size<=a)(new:ObjOk P w (upd H a o) h' a o):HOk P w (upd H a o) h':=λb u e=>by
 have hn:=x.fresh hp;by_cases hb:b=a
 ·subst hb;rw[upd_same] at e;cases e;exact new
 ·rw[upd_ne hb] at e;exact (x b u e).stay (λc v _ q=>k c v q) (λc q=>by rw[upd_ne (ne_of_none q hn)];exact q) (λc xs q=>by rw[upd_ne (ne_of_none q hn)];exact q) λc _ _ _ q=>by rw[upd_ne (ne_of_none q hn)];exact q
end
def Rd(H:Hp)(a:ad5)(u:HO):Prop:=H a=some u\/∃o,H a=some (.frz o u)
theorem Rd.ok{a:ad5}{u:HO}(r:Rd H a u)(x:HOk P w H h):ObjOk P w H h a u:=by
 rcases r with r |⟨o,r⟩
 ·exact x a u r
 ·obtain⟨_,q⟩:=x a _ r;exact q
def Mut:Option HO->Prop
 |some (.lst _)=>True
 |some (.dK _)=>True
 |some (.dT _)=>True
 |some (.set _ _)=>True
 |some (.ins _ _ _)=>True
 |some (.ext _)=>True
 |_=>False
section
variable{P:aek}{w:aep}{H:Hp}{h h':aeo}{x e:ad5}{o':HO}
theorem HOk.write(ok:HOk P w H h)(mu:Mut (H x))(he:e=x\/H e=some (.own x))(k:∀b u,b≠e->h.get? b=some u->h'.get? b=some u)(heo:∃u,h'.get? e=some u)
  (new:ObjOk P w (upd H x o') h' x o'):HOk P w (upd H x o') h':=λb u q=>by
 have nown:∀c y,H c=some (.own y)->c≠x:=λc y r z=>by subst z;rw[r] at mu;exact mu
 have ntup:∀c xs,H c=some (.tup xs)->c≠x:=λc xs r z=>by subst z;rw[r] at mu;exact mu
 by_cases hb:b=x
 ·subst hb;rw[upd_same] at q;cases q;exact new
 ·rw[upd_ne hb] at q;by_cases hbe:b=e
  ·have q':H b=some (.own x):=by
    rcases he with z |z
    ·exact absurd (hbe.trans z) hb
    ·rw[hbe];exact z
   rw[q] at q';cases q';obtain⟨v,hv⟩:=heo;exact⟨v,by rw[hbe];exact hv⟩
  ·refine (ok b u q).stay (λc v hc r=>k c v ?_ r) (λc r=>by rw[upd_ne (nown c b r)];exact r) (λc xs r=>by rw[upd_ne (ntup c xs r)];exact r) λc o1 u1 _ r=>by rw[upd_ne (λz=>by rw[z] at r;rw[r] at mu;exact mu)];exact r
   rcases hc with rfl |hc
   ·exact hbe
   ·rintro rfl
    rcases he with z |z
    ·exact nown c b hc z
    ·rw[hc] at z;cases z;exact hb rfl
end
structure Un(fs ex:List ad5)(H H':Hp)(h h':aeo):Prop where
 keep:∀b o,h.get? b=some o->H b=none->b∉fs->b∉ex->h'.get? b=some o
 slot:∀b o,h.get? b=some o->H b=none->b∈fs->b∉ex->∃sl,h'.get? b=some {o with slots:=sl}
 free:∀b o,h.get? b=some o->H b=none->b∉ex->H' b=none
 there:∀b o,h.get? b=some o->b∉ex->∃o',h'.get? b=some o'
 tups:∀b xs,H b=some (.tup xs)->H' b=some (.tup xs)
 frzs:∀b o u,H b=some (.frz o u)->H' b=some (.frz o u)
 tbls:∀b ps,H b=some (.tbl ps)->∃more,H' b=some (.tbl (ps++more))
section
variable{fs fs' ex ex':List ad5}{H H1 H2:Hp}{h h1 h2 h':aeo}{a x e:ad5}{o:HO}
theorem Un.any(u:Un fs ex H H1 h h1){b:ad5}{ob:Obj}(q:h.get? b=some ob)(n:H b=none)(hx:b∉ex):∃sl,h1.get? b=some {ob with slots:=sl}:=by
 by_cases hb:b∈fs
 ·exact u.slot b ob q n hb hx
 ·exact⟨ob.slots,u.keep b ob q n hb hx⟩
theorem Un.kept(k:∀b u,h.get? b=some u->h'.get? b=some u):Un fs ex H H h h':=
 ⟨λb ob q _ _ _=>k b ob q,λb ob q _ _ _=>⟨ob.slots,k b ob q⟩,λ_ _ _ n _=>n,λb ob q _=>⟨ob,k b ob q⟩,λ_ _ q=>q,λ_ _ _ q=>q,λ_ ps q=>⟨#[],by rw[q];simp⟩⟩
theorem Un.refl:Un fs ex H H h h:=Un.kept λ_ _ q=>q
theorem Un.laid(k:∀b u,h.get? b=some u->h'.get? b=some u)(hp:h.objs.size<=a)(hn:H a=none):Un fs ex H (upd H a o) h h' where
 keep:=λb u q _ _ _=>k b u q
 slot:=λb u q _ _ _=>⟨u.slots,k b u q⟩
 free:=λb u q n _=>by rw[upd_ne (aeW (z0d (z2c q) hp))];exact n
 there:=λb u q _=>⟨u,k b u q⟩
 tups:=λb xs q=>by rw[upd_ne (ne_of_none q hn)];exact q
 frzs:=λb u xs q=>by rw[upd_ne (ne_of_none q hn)];exact q
 tbls:=λb ps q=>⟨#[],by rw[upd_ne (ne_of_none q hn),q];simp⟩
theorem Un.write(mu:Mut (H x))(he:e=x\/H e=some (.own x))(k:∀b u,b≠e->h.get? b=some u->h'.get? b=some u)(heo:∃u,h'.get? e=some u):Un fs ex H (upd H x o) h h':=by
 have hx:∀b,H b=none->b≠x:=λb n z=>by subst z;rw[n] at mu;exact mu
 have hb:∀b,H b=none->b≠e:=λb n z=>by
  subst z;rcases he with r |r
  ·exact hx b n r
  ·rw[n] at r;cases r
 have hm:∀b u,H b=some u->¬Mut (some u)->b≠x:=λb u q nm z=>by subst z;rw[q] at mu;exact nm mu
 refine⟨λb u q n _ _=>k b u (hb b n) q,λb u q n _ _=>⟨u.slots,k b u (hb b n) q⟩,λb u q n _=>by rw[upd_ne (hx b n)];exact n,λb u q _=>?_,
  λb xs q=>by rw[upd_ne (hm b _ q λz=>z)];exact q,λb u xs q=>by rw[upd_ne (hm b _ q λz=>z)];exact q,λb ps q=>⟨#[],by rw[upd_ne (hm b _ q λz=>z),q];simp⟩⟩
 by_cases hbe:b=e
 ·subst hbe;exact heo
 ·exact⟨u,k b u hbe q⟩
end
def trk(h:aeo)(H:Hp):List ad5:=(ad6 h.objs.size).filter λa=>(H a).isSome
def hidT(h:aeo)(H:Hp):aeo:=PySem.W.hideAll h (trk h H)
theorem hidT_size(h:aeo)(H:Hp):(hidT h H).objs.size=h.objs.size:=PySem.W.hideAll_size _ _
theorem hidT_get{b:ad5}{o:Obj}(e:h.get? b=some o)(n:H b=none):(hidT h H).get? b=some o:=
 PySem.W.hideAll_get _ e λhm=>by
  have q:(H b).isSome=true:=(ahK.mp hm).2;rw[n] at q;simp at q
theorem of_hidT{b:ad5}{o:Obj}(e:(hidT h H).get? b=some o):h.get? b=some o/\H b=none:=by
 have e':h.get? b=some o:=PySem.W.of_hideAll (trk h H) e;refine⟨e',?_⟩;cases q:H b with
 |none=>rfl
 | some x=>
  have hm:b∈trk h H:=ahK.mpr ⟨afE.mpr (z2c e'),by simp[q]⟩;have z:(hidT h H).get? b=none:=PySem.W.hideAll_none (trk h H) hm;rw[z] at e;cases e
def allNews(g h:aeo)(L:ad5):List (ad5×Obj):=(ad6 h.objs.size).filterMap λa=>if a=L\/(g.get? a).isSome=true then none else (h.get? a).map λo=>(a,o)
def rest(g h:aeo)(L d:ad5):List (ad5×Obj):=(allNews g h L).filter λp=>decide (p.1≠d)
structure Mod(K:PySem.W.Frag)(mg:Str->Option ad7)(base:aeo):Prop where
 kin:K.In base
 glob:base.Ns aed mg
 blt:∃mb,base.Ns agL mb/\∀x:Str,x≠"__name__"->mb x=afK x
 nolimit:base.NoLimit
structure Cx where
 prog:aek
 w:aep
 K:PySem.W.Frag
 mg:Str->Option ad7
 base:aeo
 A:aer
 N:List Str
 s₀:ad8
 H₀:Hp
 env:Env
 outer:List Env
 stack:List Env
 ex:List ad5
 fn:Str->Bool
 calm:Bool
 pn:List (ad5×Obj)
 xe:ad7->ad8->Prop
def frs(l:List Env):List ad5:=l.filterMap (·.frame)
abbrev Cx.fs(X:Cx):List ad5:=frs X.outer
def Vis(sc:afB)(x:Str):Prop:=sc.names.lookup x=some .local\/sc.names.lookup x=some .cell\/sc.names.lookup x=some .free
def Loc(sc:afB)(x:Str):Prop:=sc.names.lookup x=some .local\/sc.names.lookup x=some .cell
def Look(env:Env)(h:aeo)(m:Str->Option ad7)(x:Str)(u:ad7):Prop:=
 (env.kindOf x=some .local/\m x=some u)\/((env.kindOf x=some .cell\/env.kindOf x=some .free)/\∃c,env.cells.lookup x=some c/\h.IsCell c (some u))
structure Cx.Ok(X:Cx):Prop where
 mod:Mod X.K X.mg X.base
 kind:X.env.scope.kind= .function
 glob:X.env.globals=aed
 blt:X.env.builtins=agL
 above:X.s₀.heap.objs.size<=X.env.locals
 inj:∀x y c,X.env.cells.lookup x=some c->X.env.cells.lookup y=some c->x=y
 has:∀x,(X.env.kindOf x=some .cell\/X.env.kindOf x=some .free)->∃c,X.env.cells.lookup x=some c
 cab:∀x c,X.fn x=true->X.env.cells.lookup x=some c->X.s₀.heap.objs.size<=c
 hd:X.calm=true->X.A.handled=none
 frames:X.A.frames=some X.stack
 stk:X.stack=X.outer\/(X.stack=X.env::X.outer/\X.env.frame=some X.env.locals)
 exf:∀b∈X.ex,b≠X.env.locals/\∀x c,X.env.cells.lookup x=some c->c≠b
 bs:∀b o,X.base.get? b=some o->X.s₀.heap.get? b=some o/\X.H₀ b=none
 bsz:X.base.objs.size<=X.s₀.heap.objs.size
 noex:∀b o,X.base.get? b=some o->b∉X.ex
 exfs:∀b∈X.ex,b∉X.fs
 funs:X.s₀.heap.FunFrames X.base X.outer
 frf:∀b∈X.fs,X.H₀ b=none
structure Inv(X:Cx)(pins:List (ad5×Obj))(σ:List (Option V))(H:Hp)(s:ad8):Prop where
 ok:X.Ok
 os:s.os=X.s₀.os
 bare:agQ s.gens
 base:Un X.fs X.ex X.H₀ H X.s₀.heap s.heap
 loc:∃m,s.heap.Ns X.env.locals m/\∀(i:Nat) (x:Str) (v:V),X.N[i]?=some x->σ[i]?=some (some v)->Vis X.env.scope x->∃u,RelV v u/\Look X.env s.heap m x u
 cell:∀x c,X.env.cells.lookup x=some c->∃v,s.heap.IsCell c v
 free:H X.env.locals=none
 freeC:∀x c,X.env.cells.lookup x=some c->H c=none
 pin:∀p∈X.pn++pins,s.heap.get? p.1=some p.2/\H p.1=none/\p.1≠X.env.locals/\p.1∉X.fs/\∀v,p.2.data≠.cell v
 hok:HOk X.prog X.w H s.heap
 len:σ.length=X.N.length
section
variable{X:Cx}{pins:List (ad5×Obj)}{σ:List (Option V)}{H H':Hp}{s:ad8}{h':aeo}
theorem Cx.Ok.nofr(ok:X.Ok){b:ad5}{o:Obj}(e:X.base.get? b=some o):b∉X.fs:=λhb=>by
 have:=(ok.funs.mem hb).1;rw[e] at this;cases this
theorem Inv.bs(I:Inv X pins σ H s):∀b o,X.base.get? b=some o->s.heap.get? b=some o/\H b=none:=λb o e=>
 ⟨I.base.keep b o (I.ok.bs b o e).1 (I.ok.bs b o e).2 (I.ok.nofr e) (I.ok.noex b o e),I.base.free b o (I.ok.bs b o e).1 (I.ok.bs b o e).2 (I.ok.noex b o e)⟩
theorem Inv.bk(I:Inv X pins σ H s):∀b o,X.base.get? b=some o->s.heap.get? b=some o:=λb o e=>(I.bs b o e).1
theorem Inv.mod(I:Inv X pins σ H s):Mod X.K X.mg X.base:=I.ok.mod
theorem Inv.kIn(I:Inv X pins σ H s):X.K.In s.heap:=I.ok.mod.kin.keeps I.bk
theorem Inv.lt(I:Inv X pins σ H s):X.env.locals<s.heap.objs.size:=let⟨_,hn,_⟩:=I.loc;hn.lt
theorem Inv.sz(I:Inv X pins σ H s):X.s₀.heap.objs.size<=s.heap.objs.size:=z0b I.ok.above (z0e I.lt)
theorem Inv.nofs(I:Inv X pins σ H s){a:ad5}(h:s.heap.objs.size<=a):a∉X.fs:=λhb=>by
 obtain⟨_,o,ho,_⟩:=I.ok.funs.mem hb;exact absurd (z0d (z2c ho) (z0b I.sz h)) (afh _)
theorem Inv.cne(I:Inv X pins σ H s):∀x c,X.env.cells.lookup x=some c->c≠X.env.locals:=λx c e z=>by
 obtain⟨v,o,ho,hd⟩:=I.cell x c e;obtain⟨m,⟨o',es,ep,ho',hd',_⟩,_⟩:=I.loc;rw[z,ho'] at ho;cases ho;rw[hd'] at hd;cases hd
theorem Inv.funs(I:Inv X pins σ H s):s.heap.FunFrames X.base X.outer:=by
 have all:∀(l:List Env),(∀b∈frs l,b∈X.fs)->X.s₀.heap.FunFrames X.base l->s.heap.FunFrames X.base l:=by
  intro l
  induction l with
  |nil=>intro _ _;trivial
  | cons env r ih=>
   intro hs hl;obtain⟨hk,⟨L,o,hf,hn,ho,hd⟩,hr⟩:=hl;have hL:L∈X.fs:=hs L (by unfold frs;rw[agF,hf];exact aen);obtain⟨sl,e⟩:=I.base.slot L o ho (I.ok.frf L hL) hL λz=>I.ok.exfs L z hL;exact⟨hk,⟨L,_,hf,hn,e,hd⟩,ih (λb hb=>hs b (by unfold frs;rw[agF,hf];exact z2f _ hb)) hr⟩
 exact all X.outer (λ_ hb=>hb) I.ok.funs
theorem Inv.stack(I:Inv X pins σ H s):s.heap.FunFrames X.base X.stack:=by
 rcases I.ok.stk with e |⟨e,hf⟩
 ·rw[e];exact I.funs
 ·rw[e];obtain⟨m,hn,_⟩:=I.loc;refine .cons (by rw[I.ok.kind];decide) hf hn ?_ I.funs;exact Heap.get?_none_of_le (z0b I.ok.bsz I.ok.above)
theorem Inv.stkSub(I:Inv X pins σ H s):∀b∈frs X.stack,b∈X.env.locals::X.fs:=λb hb=>by
 rcases I.ok.stk with e |⟨e,hf⟩
 ·rw[e] at hb;exact z2f _ hb
 ·rw[e] at hb;unfold frs at hb;rw[agF,hf] at hb;exact hb
theorem Inv.stkFree(I:Inv X pins σ H s):∀b∈frs X.stack,H b=none:=λb hb=>by
 rcases ael.mp (I.stkSub b hb) with e |hb
 ·rw[e];exact I.free
 ·obtain⟨_,o,ho,_⟩:=I.ok.funs.mem hb;exact I.base.free b o ho (I.ok.frf b hb) λz=>I.ok.exfs b z hb
theorem Inv.step{g':Array GenState}{d':Drawn}(I:Inv X pins σ H s)
  (hch:∀b∈ch,(b∈X.ex\/X.s₀.heap.objs.size<=b)/\b≠X.env.locals/\(∀x c,X.env.cells.lookup x=some c->c≠b)/\∀p∈X.pn++pins,p.1≠b)
  (keep:∀b o,b≠X.env.locals->b∉X.fs->b∉ch->s.heap.get? b=some o->H b=none->h'.get? b=some o)
  (slot:∀b o,b≠X.env.locals->b∈X.fs->b∉ch->s.heap.get? b=some o->H b=none->∃sl,h'.get? b=some {o with slots:=sl})(free:∀b o,b∉ch->s.heap.get? b=some o->H b=none->H' b=none)
  (there:∀b o,b∉ch->s.heap.get? b=some o->∃o',h'.get? b=some o')
  (tups:∀b xs,H b=some (.tup xs)->H' b=some (.tup xs))(frzs:∀b o u,H b=some (.frz o u)->H' b=some (.frz o u))(tbls:∀b ps,H b=some (.tbl ps)->∃more,H' b=some (.tbl (ps++more)))
  (ns:∀m,s.heap.Ns X.env.locals m->h'.Ns X.env.locals m)(hok:HOk X.prog X.w H' h')(hg:agQ g'):
  Inv X pins σ H' {s with heap:=h',gens:=g',drawn:=d',toks:=t'}:=by
 have neL:∀b o,X.s₀.heap.get? b=some o->b≠X.env.locals:=λb o e=>aeW (z0d (z2c e) I.ok.above);have neC:∀b o,X.s₀.heap.get? b=some o->b∉X.ex->b∉ch:=λb o e hx hb=>by
  rcases (hch b hb).1 with z |z
  ·exact hx z
  ·exact absurd (z0d (z2c e) z) (afh _)
 have cellK:∀x c,X.env.cells.lookup x=some c->∀v,s.heap.IsCell c v->h'.IsCell c v:=λx c e v ⟨o,ho,hd⟩=>by
  have nch:c∉ch:=λz=>(hch c z).2.2.1 x c e rfl;by_cases hc:c∈X.fs
  ·obtain⟨sl,q⟩:=slot c o (I.cne x c e) hc nch ho (I.freeC x c e);exact⟨_,q,hd⟩
  ·exact⟨o,keep c o (I.cne x c e) hc nch ho (I.freeC x c e),hd⟩
 refine⟨I.ok,I.os,hg,⟨λb o e n hb hx=>?_,λb o e n hb hx=>?_,λb o e n hx=>?_,λb o e hx=>?_,λb xs e=>tups b xs (I.base.tups b xs e),λb o xs e=>frzs b o xs (I.base.frzs b o xs e),λb ps e=>?_⟩,?_,λx c e=>?_,?_,λx c e=>?_,λp hp=>?_,hok,I.len⟩
 ·exact keep b o (neL b o e) hb (neC b o e hx) (I.base.keep b o e n hb hx) (I.base.free b o e n hx)
 ·obtain⟨sl,e1⟩:=I.base.slot b o e n hb hx;obtain⟨sl',e2⟩:=slot b _ (neL b o e) hb (neC b o e hx) e1 (I.base.free b o e n hx);exact⟨sl',e2⟩
 ·obtain⟨o',e1⟩:=I.base.there b o e hx;exact free b o' (neC b o e hx) e1 (I.base.free b o e n hx)
 ·obtain⟨o',e1⟩:=I.base.there b o e hx;exact there b o' (neC b o e hx) e1
 ·obtain⟨m1,e1⟩:=I.base.tbls b ps e;obtain⟨m2,e2⟩:=tbls b _ e1;exact⟨m1++m2,by rw[e2,Array.append_assoc]⟩
 ·obtain⟨m,hn,hl⟩:=I.loc;refine⟨m,ns m hn,λi x v e1 e2 e3=>?_⟩;obtain⟨u,r,l⟩:=hl i x v e1 e2 e3;refine⟨u,r,?_⟩;rcases l with l |⟨k,c,e,z⟩
  ·exact .inl l
  ·exact .inr ⟨k,c,e,cellK x c e _ z⟩
 ·obtain⟨v,z⟩:=I.cell x c e;exact⟨v,cellK x c e v z⟩
 ·obtain⟨m,⟨o,_,_,ho,_⟩,_⟩:=I.loc;exact free _ o (λz=>(hch _ z).2.1 rfl) ho I.free
 ·obtain⟨v,o,ho,hd⟩:=I.cell x c e;exact free c o (λz=>(hch c z).2.2.1 x c e rfl) ho (I.freeC x c e)
 ·obtain⟨e,n,ne,nf,d⟩:=I.pin p hp;have nch:p.1∉ch:=λz=>(hch p.1 z).2.2.2 p hp rfl;exact⟨keep p.1 p.2 ne nf nch e n,free p.1 p.2 nch e n,ne,nf,d⟩
theorem Inv.un(I:Inv X pins σ H s)(u:Un X.fs [] H H' s.heap h')(hok:HOk X.prog X.w H' h'):Inv X pins σ H' {s with heap:=h',toks:=t'}:=by
 obtain⟨m,⟨o,es,ep,ho,r⟩,_⟩:=id I.loc;obtain⟨sl,hL⟩:=u.any ho I.free (by simp);exact I.step (g':=s.gens) (d':=s.drawn) (ch:=[]) (λ_ z=>nomatch z) (λb o _ hb _ e n=>u.keep b o e n hb (by simp)) (λb o _ hb _ e n=>u.slot b o e n hb (by simp)) (λb o _ e n=>u.free b o e n (by simp)) (λb o _ e=>u.there b o e (by simp)) u.tups u.frzs u.tbls (λm' hm=>by
  obtain⟨o',es',ep',ho',r'⟩:=hm;rw[ho] at ho';cases ho';exact⟨_,es',ep',hL,r'⟩) hok I.bare
theorem Inv.call{g':Array GenState}{d':Drawn}(I:Inv X pins σ H s)(u:Un (frs X.stack) ch H H' s.heap h')(hok:HOk X.prog X.w H' h')(hg:agQ g')
  (hch:∀b∈ch,(b∈X.ex\/X.s₀.heap.objs.size<=b)/\b≠X.env.locals/\(∀x c,X.env.cells.lookup x=some c->c≠b)/\∀p∈X.pn++pins,p.1≠b):
  Inv X pins σ H' {s with heap:=h',gens:=g',drawn:=d',toks:=t'}:=by
 obtain⟨m,⟨o,es,ep,ho,r⟩,_⟩:=id I.loc;obtain⟨sl,hL⟩:=u.any ho I.free λz=>(hch _ z).2.1 rfl;exact I.step (ch:=ch) hch (λb o hL hb hc e n=>u.keep b o e n (λz=>(ael.mp (I.stkSub b z)).elim hL hb) hc) (λb o _ _ hc e n=>u.any e n hc) (λb o hc e n=>u.free b o e n hc) (λb o hc e=>u.there b o e hc) u.tups u.frzs u.tbls (λm' hm=>by
  obtain⟨o',es',ep',ho',r'⟩:=hm;rw[ho] at ho';cases ho';exact⟨_,es',ep',hL,r'⟩) hok hg
theorem Inv.turned{it:ad5}(I:Inv X pins σ H s)(k:∀b o,b≠it->s.heap.get? b=some o->h'.get? b=some o)(hn:H it=none)(hL:it≠X.env.locals)
  (h1:it∈X.ex\/X.s₀.heap.objs.size<=it)(h2:∀x c,X.env.cells.lookup x=some c->c≠it)(h3:∀p∈X.pn++pins,p.1≠it):Inv X pins σ H {s with heap:=h',toks:=t'}:=by
 have nit:∀b u,H b=some u->b≠it:=λb u e z=>by rw[z,hn] at e;cases e
 refine I.step (g':=s.gens) (d':=s.drawn) (ch:=[it]) (λb hb=>?_) (λb o _ _ hc e _=>k b o (λz=>hc (by simp[z])) e) (λb o _ _ hc e _=>⟨o.slots,k b o (λz=>hc (by simp[z])) e⟩) (λ_ _ _ _ n=>n)
  (λb o hc e=>⟨o,k b o (λz=>hc (by simp[z])) e⟩) (λ_ _ e=>e) (λ_ _ _ e=>e) (λb ps e=>⟨#[],by rw[e];simp⟩) (λm hm=>?_) (λb u e=>?_) I.bare
 ·have e:b=it:=by simpa using hb
  subst e;exact⟨h1,hL,h2,h3⟩
 ·obtain⟨o,es,ep,ho,r⟩:=hm;exact⟨o,es,ep,k _ o (aeh hL) ho,r⟩
 ·refine (I.hok b u e).stay (λc v hc q=>k c v ?_ q) (λ_ q=>q) (λ_ _ q=>q) λ_ _ _ _ q=>q;rcases hc with z |z
  ·rw[z];exact nit b u e
  ·exact nit c _ z
theorem Inv.tok(I:Inv X pins σ H s)(t:Nat):Inv X pins σ H {s with toks:=t}:=I.un (h':=s.heap) (t':=t) Un.refl I.hok
theorem Inv.kept(I:Inv X pins σ H s)(k:∀b u,s.heap.get? b=some u->h'.get? b=some u):Inv X pins σ H {s with heap:=h',toks:=t'}:=I.un (Un.kept k) (I.hok.kept k)
theorem Inv.laid{a:ad5}(I:Inv X pins σ H s)(k:∀b u,s.heap.get? b=some u->h'.get? b=some u)(hp:s.heap.objs.size<=a)(new:ObjOk X.prog X.w (upd H a o) h' a o):
  Inv X pins σ (upd H a o) {s with heap:=h',toks:=t'}:=I.un (Un.laid k hp (I.hok.fresh hp)) (I.hok.laid k hp new)
theorem Inv.write{x e:ad5}(I:Inv X pins σ H s)(mu:Mut (H x))(he:e=x\/H e=some (.own x))(k:∀b u,b≠e->s.heap.get? b=some u->h'.get? b=some u)(heo:∃u,h'.get? e=some u)
  (new:ObjOk X.prog X.w (upd H x o) h' x o):Inv X pins σ (upd H x o) {s with heap:=h',toks:=t'}:=I.un (Un.write mu he k heo) (I.hok.write mu he k heo new)
theorem Inv.pins_of{pins':List (ad5×Obj)}(I:Inv X pins σ H s)(h:∀p∈pins',s.heap.get? p.1=some p.2/\H p.1=none/\p.1≠X.env.locals/\p.1∉X.fs/\∀v,p.2.data≠.cell v):Inv X pins' σ H s:=
 ⟨I.ok,I.os,I.bare,I.base,I.loc,I.cell,I.free,I.freeC,λp hp=>(afF.mp hp).elim (λz=>I.pin p (ahL _ z)) (h p),I.hok,I.len⟩
theorem nodup_ix(hN:N.Nodup){i j:Nat}{x:Str}(a:N[i]?=some x)(b:N[j]?=some x):i=j:=by
 obtain⟨h1,e1⟩:=z1b a;obtain⟨h2,e2⟩:=z1b b;exact (aiH hN).mp (e1.trans e2.symm)
theorem store_ok2{i:Nat}{x:Str}{v:V}{u:ad7}(I:Inv X pins σ H s)(hN:X.N.Nodup)(hi:X.N[i]?=some x)(hx:Loc X.env.scope x)(r:RelV v u)
  (h:∀s',Inv X pins (σ.set i (some v)) H s'->(∃a,afD a s.heap s'.heap/\(a=X.env.locals\/X.env.cells.lookup x=some a))->Q () s')(hf:X.fn x=true\/X.env.scope.names.lookup x=some .local:=by first |exact .inl rfl |exact .inr rfl |assumption):aec M A (af2 X.env x u) Q E s:=by
 obtain⟨m,hn,hl⟩:=id I.loc;have hcls:(X.env.scope.kind == .class || (X.env.scope.kind == .module && X.env.locals !=X.env.globals))=false:=by rw[I.ok.kind];rfl
 have hiσ:i<σ.length:=by rw[I.len];exact (z1b hi).1
 have cne:=I.cne;have tracked:∀{a:ad5} {h':aeo},(∃o,s.heap.get? a=some o/\H a=none)->afD a s.heap h'->HOk X.prog X.w H h':=λ{a h'} ha hs b ob e=>by
  obtain⟨_,_,hfree⟩:=ha;refine (I.hok b ob e).stay (λc w' hc q=>(hs.2 c ?_).trans q) (λ_ q=>q) (λ_ _ q=>q) λ_ _ _ _ q=>q
  rintro rfl
  rcases hc with rfl |hc
  ·rw[hfree] at e;cases e
  ·rw[hfree] at hc;cases hc
 rcases hx with hk |hk
 ·refine wpAny_storeName_local hk hn (λh' hn' hs=>?_) hcls;obtain⟨oL,_,_,hoL,_⟩:=id hn;refine h _ ⟨I.ok,I.os,I.bare,⟨λb o e n hb hx=>?_,λb o e n hb hx=>?_,I.base.free,λb o e hx=>?_,I.base.tups,I.base.frzs,I.base.tbls⟩,⟨_,hn',λj y v' e1 e2 e3=>?_⟩,λy c e=>?_,I.free,I.freeC,λp hp=>?_,tracked ⟨oL,hoL,I.free⟩ hs,by simpa using I.len⟩ ⟨_,hs,.inl rfl⟩
  ·exact (hs.2 b (aeW (z0d (z2c e) I.ok.above))).trans (I.base.keep b o e n hb hx)
  ·obtain⟨sl,e1⟩:=I.base.slot b o e n hb hx;exact⟨sl,(hs.2 b (aeW (z0d (z2c e) I.ok.above))).trans e1⟩
  ·obtain⟨o',e1⟩:=I.base.there b o e hx;exact⟨o',(hs.2 b (aeW (z0d (z2c e) I.ok.above))).trans e1⟩
  ·by_cases hj:j=i
   ·subst hj;rw[hi] at e1;cases e1;rw[z2a hiσ] at e2;cases e2;exact⟨u,r,.inl ⟨hk,by simp⟩⟩
   ·rw[z1e (aeh hj)] at e2;obtain⟨u',r',q⟩:=hl j y v' e1 e2 e3;refine⟨u',r',?_⟩;rcases q with⟨k,e⟩ |⟨k,c,e,z⟩
    ·refine .inl ⟨k,?_⟩;have:y≠x:=λe=>hj (nodup_ix hN e1 (e▸hi));simp[this,e]
    ·exact .inr ⟨k,c,e,z.sameBut hs (cne y c e)⟩
  ·obtain⟨w',z⟩:=I.cell y c e;exact⟨w',z.sameBut hs (cne y c e)⟩
  ·obtain⟨e,n,ne,nf,d⟩:=I.pin p hp;exact⟨(hs.2 p.1 ne).trans e,n,ne,nf,d⟩
 ·have hfn:X.fn x=true:=by
   rcases hf with z |z
   ·exact z
   ·rw[z] at hk;cases hk
  obtain⟨c,hc⟩:=I.ok.has x (.inl hk);obtain⟨w',z⟩:=I.cell x c hc;refine wpAny_storeName_cell I.ok.kind hk hc z (λh' hc' hs=>?_);obtain⟨oc,hoc,hocd⟩:=id z;refine h {s with heap:=h'} ⟨I.ok,I.os,I.bare,⟨λb o e n hb hx=>?_,λb o e n hb hx=>?_,I.base.free,λb o e hx=>?_,I.base.tups,I.base.frzs,I.base.tbls⟩,⟨m,hn.sameBut hs (aeh (cne x c hc)),λj y v' e1 e2 e3=>?_⟩,λy c' e=>?_,I.free,I.freeC,λp hp=>?_,tracked ⟨oc,hoc,I.freeC x c hc⟩ hs,by simpa using I.len⟩ ⟨c,hs,.inr hc⟩
  ·exact (hs.2 b (aeW (z0d (z2c e) (I.ok.cab x c hfn hc)))).trans (I.base.keep b o e n hb hx)
  ·obtain⟨sl,e1⟩:=I.base.slot b o e n hb hx;exact⟨sl,(hs.2 b (aeW (z0d (z2c e) (I.ok.cab x c hfn hc)))).trans e1⟩
  ·obtain⟨o',e1⟩:=I.base.there b o e hx;exact⟨o',(hs.2 b (aeW (z0d (z2c e) (I.ok.cab x c hfn hc)))).trans e1⟩
  ·by_cases hj:j=i
   ·subst hj;rw[hi] at e1;cases e1;rw[z2a hiσ] at e2;cases e2;exact⟨u,r,.inr ⟨.inl hk,c,hc,hc'⟩⟩
   ·rw[z1e (aeh hj)] at e2;obtain⟨u',r',q⟩:=hl j y v' e1 e2 e3;refine⟨u',r',?_⟩;rcases q with q |⟨k,c',e,z'⟩
    ·exact .inl q
    ·refine .inr ⟨k,c',e,z'.sameBut hs ?_⟩
     rintro rfl
     exact hj (nodup_ix hN e1 (I.ok.inj _ _ _ e hc▸hi))
  ·by_cases hcc:c'=c
   ·subst hcc;exact⟨_,hc'⟩
   ·obtain⟨w2,z2⟩:=I.cell y c' e;exact⟨w2,z2.sameBut hs hcc⟩
  ·obtain⟨e,n,ne,nf,d⟩:=I.pin p hp;refine⟨(hs.2 p.1 ?_).trans e,n,ne,nf,d⟩;intro q;rw[q,hoc] at e;have q':oc=p.2:=aeg e;exact d w' (by rw[<-q'];exact hocd)
theorem store_ok{i:Nat}{x:Str}{v:V}{u:ad7}(I:Inv X pins σ H s)(hN:X.N.Nodup)(hi:X.N[i]?=some x)(hx:Loc X.env.scope x)(r:RelV v u)
  (h:∀s',Inv X pins (σ.set i (some v)) H s'->Q () s')(hf:X.fn x=true\/X.env.scope.names.lookup x=some .local:=by first |exact .inl rfl |exact .inr rfl |assumption):aec M A (af2 X.env x u) Q E s:=
 store_ok2 I hN hi hx r (λs' I' _=>h s' I') hf
theorem Inv.call'{s':ad8}(I:Inv X pins σ H s)(ho:s'.os=s.os)(u:Un (frs X.stack) ch H H' s.heap s'.heap)(hok:HOk X.prog X.w H' s'.heap)(hg:agQ s'.gens)
  (hch:∀b∈ch,(b∈X.ex\/X.s₀.heap.objs.size<=b)/\b≠X.env.locals/\(∀x c,X.env.cells.lookup x=some c->c≠b)/\∀p∈X.pn++pins,p.1≠b):Inv X pins σ H' s':=by
 obtain⟨h',g',d',t',o'⟩:=s';have e:o'=s.os:=ho;subst e;exact I.call (g':=g') (t':=t') (d':=d') u hok hg hch
end
abbrev XK:=ad7->Option ad5->Hp->Prop
abbrev St:=List (Option V)
abbrev VK:=V->Hp->Prop
abbrev TE:=St->Hp->VK->Prop
abbrev TT:=St->Hp->(Bool->Hp->Prop)->Prop
abbrev TA:=St->Hp->(List V->Hp->Prop)->Prop
structure Ends where
 nx:St->Hp->Prop
 rt:VK
 bk:St->Hp->Prop:=λ_ _=>False
 ct:St->Hp->Prop:=λ_ _=>False
abbrev TS:=Ends->St->Hp->Prop
inductive EP (X:Cx) (pins:List (ad5×Obj)) (σ:St) (Q:VK) (u:ad7) (s':ad8):Prop
 |mk (v:V) (H':Hp) (I:Inv X pins σ H' s') (r:RelV v u) (q:Q v H'):EP X pins σ Q u s'
inductive TP (X:Cx) (pins:List (ad5×Obj)) (σ:St) (Q:Bool->Hp->Prop) (b:Bool) (s':ad8):Prop
 |mk (H':Hp) (I:Inv X pins σ H' s') (q:Q b H'):TP X pins σ Q b s'
inductive AP (X:Cx) (pins:List (ad5×Obj)) (σ:St) (Q:List V->Hp->Prop) (us:List ad7) (s':ad8):Prop
 |mk (vs:List V) (H':Hp) (I:Inv X pins σ H' s') (r:Vals vs us) (q:Q vs H'):AP X pins σ Q us s'
inductive Q0 (X:Cx) (pins:List (ad5×Obj)) (D:St->Hp->Prop) (s':ad8):Prop
 |mk (σ':St) (H':Hp) (I:Inv X pins σ' H' s') (d:D σ' H'):Q0 X pins D s'
inductive SPr (X:Cx) (pins:List (ad5×Obj)) (D:V->Hp->Prop) (u:ad7) (s':ad8):Prop
 |mk (v:V) (σ':St) (H':Hp) (I:Inv X pins σ' H' s') (r:RelV v u) (d:D v H'):SPr X pins D u s'
def SP(X:Cx)(pins:List (ad5×Obj))(D:Ends)(f:Flow)(s':ad8):Prop:=
 match f with
 | .next=>Q0 X pins D.nx s'
 | .brk=>Q0 X pins D.bk s'
 | .cont=>Q0 X pins D.ct s'
 | .ret u=>SPr X pins D.rt u s'
def PE(X:Cx)(e:aee)(t:TE):Prop:=
 ∀(pins:List (ad5×Obj)) (s:ad8) (σ:St) (H:Hp) (Q:VK),Inv X pins σ H s->t σ H Q->aec (model X.prog X.w) X.A (eval e X.env) (EP X pins σ Q) X.xe s
def PT(X:Cx)(e:aee)(t:TT):Prop:=
 ∀(pins:List (ad5×Obj)) (s:ad8) (σ:St) (H:Hp) (Q:Bool->Hp->Prop),Inv X pins σ H s->t σ H Q->aec (model X.prog X.w) X.A (isTrue e X.env (eval e X.env)) (TP X pins σ Q) X.xe s
def PW(X:Cx)(e:aee)(t:TT):Prop:=
 ∀(whole:Sem ad7) (pins:List (ad5×Obj)) (s:ad8) (σ:St) (H:Hp) (Q:Bool->Hp->Prop),Inv X pins σ H s->t σ H Q->aec (model X.prog X.w) X.A (isTrue e X.env whole) (TP X pins σ Q) X.xe s
def PA(X:Cx)(es:List aee)(t:TA):Prop:=
 ∀(pos:Pos) (pins:List (ad5×Obj)) (s:ad8) (σ:St) (H:Hp) (Q:List V->Hp->Prop),Inv X pins σ H s->t σ H Q->aec (model X.prog X.w) X.A (spliced (aeR pos (aea es X.env))) (AP X pins σ Q) X.xe s
def PS(X:Cx)(st:aeu)(t:TS):Prop:=
 ∀(pins:List (ad5×Obj)) (s:ad8) (σ:St) (H:Hp) (D:Ends),Inv X pins σ H s->t D σ H->aec (model X.prog X.w) X.A (exec st X.env) (SP X pins D) X.xe s
def PSs(X:Cx)(st:List aeu)(t:TS):Prop:=
 ∀(pins:List (ad5×Obj)) (s:ad8) (σ:St) (H:Hp) (D:Ends),Inv X pins σ H s->t D σ H->aec (model X.prog X.w) X.A (execs st X.env) (SP X pins D) X.xe s
theorem thn{α:Type}{t:Sem α}{Q Q':α->ad8->Prop}(h:aec M A t Q E s)(hQ:∀a s,Q a s->Q' a s):aec M A t Q' E s:=ae0 h hQ λ_ _ x=>x
section
variable{X:Cx}
theorem bin{a b:aee}{ta tb:TE}(ha:PE X a ta)(hb:PE X b tb){R:V->V->Hp->Prop}(I:Inv X pins σ H s)(h:ta σ H λx H1=>tb σ H1 λy H2=>R x y H2)
  {α:Type}{Q:α->ad8->Prop}{f:ad7->ad7->Sem α}
  (hf:∀v u s2 x y H2,Inv X pins σ H2 s2->RelV x v->RelV y u->R x y H2->aec (model X.prog X.w) X.A (f v u) Q X.xe s2):
  aec (model X.prog X.w) X.A (eval a X.env) (λv s₁=>aec (model X.prog X.w) X.A (eval b X.env) (λu s₂=>aec (model X.prog X.w) X.A (f v u) Q X.xe s₂) X.xe s₁) X.xe s:=by
 refine thn (ha pins s σ H _ I h) λv s1 bJ=>?_;obtain⟨x,H1,I1,r1,q1⟩:=bJ;refine thn (hb pins s1 σ H1 _ I1 q1) λu s2 bJ=>?_;obtain⟨y,H2,I2,r2,q2⟩:=bJ;exact hf v u s2 x y H2 I2 r1 r2 q2
def tVar(i:Nat):TE:=λσ H Q=>∃v,σ[i]?=some (some v)/\Q v H
def tC(v:V):TE:=λ_ H Q=>Q v H
theorem pe_var{i:Nat}{x:Str}{pos:Pos}(hN:X.N[i]?=some x)(hv:Vis X.env.scope x)(hd:(x ==("__debug__" :Str))=false:=by decide)(hcd:(x ==("__classdict__" :Str))=false:=by decide):PE X (.Name x pos) (tVar i):=by
 intro pins s σ H Q I h;obtain⟨v,e,h⟩:=h;obtain⟨m,hn,hl⟩:=I.loc;obtain⟨u,r,l⟩:=hl i x v hN e hv;have fin:EP X pins σ Q u s:=⟨v,H,I,r,h⟩;rcases l with⟨hk,hm⟩ |⟨hk,c,hc,hcell⟩
 ·exact wpAny_Name (wpAny_loadName_local I.ok.kind hk hn hm fin) hd
 ·rcases hk with hk |hk
  ·exact wpAny_Name (wpAny_loadName_cell I.ok.kind hk hc hcell fin) hd
  ·exact wpAny_Name (wpAny_loadName_free I.ok.kind hk hc hcell fin hcd) hd
theorem pe_int{i j pos}:PE X (.Constant (.int i) j pos) (tC (.int i)):=λ_ _ _ H _ I h=>wpAny_Constant_int ⟨.int i,H,I.tok _,⟨_,rfl⟩,h⟩
theorem pe_bl{b j pos}:PE X (.Constant (.bool b) j pos) (tC (.bl b)):=λ_ _ _ H _ I h=>Constant_bool ⟨.bl b,H,I,rfl,h⟩
theorem pe_non{j pos}:PE X (.Constant .none j pos) (tC .non):=λ_ _ _ H _ I h=>Constant_none ⟨.non,H,I,rfl,h⟩
theorem pe_str{x j pos}:PE X (.Constant (.str x) j pos) (tC (.str x)):=λ_ _ _ H _ I h=>ah6 ⟨.str x,H,I.tok _,⟨_,rfl⟩,h⟩
def Gl(X:Cx)(x:Str):Prop:=X.env.kindOf x=some .globalImplicit
theorem ld_glob{x:Str}{u:ad7}{pos:Pos}{Q:ad7->ad8->Prop}(I:Inv X pins σ H s)(hg:Gl X x)(hm:X.mg x=some u)(h:Q u s)
  (hd:(x ==("__debug__" :Str))=false:=by decide):aec (model X.prog X.w) X.A (eval (.Name x pos) X.env) Q E s:=
 aii I.ok.kind hg (Calls.loadGlobal_global (by rw[I.ok.glob];exact I.mod.glob.keeps I.bk) hm h) hd
theorem ld_blt{x:Str}{u:ad7}{pos:Pos}{Q:ad7->ad8->Prop}(I:Inv X pins σ H s)(hg:Gl X x)(hm:X.mg x=none)(hv:afK x=some u)(h:Q u s)
  (hn:x≠"__name__" :=by decide)(hd:(x ==("__debug__" :Str))=false:=by decide):aec (model X.prog X.w) X.A (eval (.Name x pos) X.env) Q E s:=by
 obtain⟨mb,h1,h2⟩:=I.mod.blt;exact aii I.ok.kind hg (Calls.loadGlobal_builtin (by rw[I.ok.glob];exact I.mod.glob.keeps I.bk) hm (by rw[I.ok.blt];exact h1.keeps I.bk) ((h2 x hn).trans hv) h) hd
theorem pe_glob{x:Str}{v:V}{u:ad7}{pos:Pos}(hg:Gl X x)(hm:X.mg x=some u)(r:RelV v u)(hd:(x ==("__debug__" :Str))=false:=by decide):PE X (.Name x pos) (tC v):=
 λ_ _ _ H _ I h=>ld_glob I hg hm ⟨v,H,I,r,h⟩ hd
theorem pe_bltn{x:Str}{v:V}{u:ad7}{pos:Pos}(hg:Gl X x)(hm:X.mg x=none)(hv:afK x=some u)(r:RelV v u)(hn:x≠"__name__" :=by decide)(hd:(x ==("__debug__" :Str))=false:=by decide):PE X (.Name x pos) (tC v):=
 λ_ _ _ H _ I h=>ld_blt I hg hm hv ⟨v,H,I,r,h⟩ hn hd
variable{a b:aee}{ta tb:TE}{pos:Pos}
def PC(X:Cx)(op:CmpOp)(a b:aee)(t:TE):Prop:=
 ∀(pins:List (ad5×Obj)) (s:ad8) (σ:St) (H:Hp) (Q:VK),Inv X pins σ H s->t σ H Q->
  aec (model X.prog X.w) X.A (eval a X.env) (λv s₁=>aec (model X.prog X.w) X.A (eval b X.env) (λu s₂=>aec (model X.prog X.w) X.A (aex op v u) (EP X pins σ Q) X.xe s₂) X.xe s₁) X.xe s
theorem nobehind(b:aee){op:CmpOp}(h:op≠.In)(h2:op≠.NotIn):agf op b=false:=by
 have e1:(op ==CmpOp.In)=false:=by cases op <;> first |rfl |exact absurd rfl h
 have e2:(op ==CmpOp.NotIn)=false:=by cases op <;> first |rfl |exact absurd rfl h2
 cases b <;> simp[agf,e1,e2]
def tB(t:TE):TT:=λσ H Q=>t σ H λx H1=>∃c,x= .bl c/\Q c H1
theorem pt_cmp{op:CmpOp}{t:TE}(h:PC X op a b t)(h1:agf op b=false:=by first |exact nobehind _ (by decide) (by decide) |rfl):PT X (.Compare a [op] [b] pos) (tB t):=by
 intro pins s σ H Q I hw;refine wpAny_isTrue_Compare1 (thn (h pins s σ H _ I hw) λv s1 h1=>thn h1 λu s2 h2=>thn h2 λc s3 ⟨x,H1,I1,r1,q1⟩=>?_) h1;obtain⟨d,rfl,q⟩:=q1;cases r1;exact afu ⟨H1,I1,q⟩
theorem pt_val{t:TE}(h:PE X e t)(he:∀whole,isTrue e X.env whole=(do let v <-whole;ahC e.pos;holding [v] (truthy v)):=by intro _;rfl):PT X e (tB t):=by
 intro pins s σ H Q I hw;refine isTrue_plain (thn (h pins s σ H _ I hw) λv s1 ⟨x,H1,I1,r1,q1⟩=>?_) (he _);obtain⟨d,rfl,q⟩:=q1;cases r1;exact afu ⟨H1,I1,q⟩
variable{tA tB':TT}{rest:List aee}
def tAnd(t u:TT):TT:=λσ H Q=>t σ H λc H1=>if c=true then u σ H1 Q else Q false H1
def tOr(t u:TT):TT:=λσ H Q=>t σ H λc H1=>if c=true then Q true H1 else u σ H1 Q
def tNot(t:TT):TT:=λσ H Q=>t σ H λc H1=>Q (!c) H1
theorem pw_and1(ha:PT X a tA):PW X (.BoolOp .And [a] pos) tA:=by
 intro wh pins s σ H Q I h;refine isTrue_and (thn (ha pins s σ H Q I h) λc s1 e=>?_);cases c with
 |true=>exact isTrue_and_nil e
 |false=>exact e
theorem pw_or1(ha:PT X a tA):PW X (.BoolOp .Or [a] pos) tA:=by
 intro wh pins s σ H Q I h;refine isTrue_or (thn (ha pins s σ H Q I h) λc s1 e=>?_);cases c with
 |false=>exact isTrue_or_nil e
 |true=>exact e
theorem pw_and(ha:PT X a tA)(hb:PW X (.BoolOp .And (b::rest) pos) tB'):PW X (.BoolOp .And (a::b::rest) pos) (tAnd tA tB'):=by
 intro wh pins s σ H Q I h;refine isTrue_and (thn (ha pins s σ H _ I h) λc s1 bJ=>?_);obtain⟨H1,I1,q1⟩:=bJ;cases c with
 |true=>exact hb wh pins s1 σ H1 Q I1 q1
 |false=>exact⟨H1,I1,q1⟩
theorem pw_or(ha:PT X a tA)(hb:PW X (.BoolOp .Or (b::rest) pos) tB'):PW X (.BoolOp .Or (a::b::rest) pos) (tOr tA tB'):=by
 intro wh pins s σ H Q I h;refine isTrue_or (thn (ha pins s σ H _ I h) λc s1 bJ=>?_);obtain⟨H1,I1,q1⟩:=bJ;cases c with
 |true=>exact⟨H1,I1,q1⟩
 |false=>exact hb wh pins s1 σ H1 Q I1 q1
theorem pt_not(ha:PT X a tA):PT X (.UnaryOp .Not a pos) (tNot tA):=by
 intro pins s σ H Q I h;refine isTrue_not (thn (ha pins s σ H (λc H1=>Q (!c) H1) I h) λc s1 hz=>?_);obtain⟨H1,I1,q1⟩:=hz;exact⟨H1,I1,q1⟩
def tAndV(ta tb:TE):TE:=λσ H Q=>ta σ H λx H1=>∃c,x= .bl c/\if c=true then tb σ H1 Q else Q (.bl false) H1
def tNotV(ta:TE):TE:=λσ H Q=>ta σ H λx H1=>∃c,x= .bl c/\Q (.bl (!c)) H1
theorem pe_one{op}{t:TE}(h:PE X a t):PE X (.BoolOp op [a] pos) t:=λpins s σ H Q I hw=>BoolOp_one (h pins s σ H Q I hw)
theorem pe_and(ha:PE X a ta)(hb:PE X (.BoolOp .And (b::rest) pos) tb):PE X (.BoolOp .And (a::b::rest) pos) (tAndV ta tb):=by
 intro pins s σ H Q I h;refine BoolOp_and (thn (ha pins s σ H _ I h) λv s1 bJ=>?_);obtain⟨x,H1,I1,r1,q1⟩:=bJ;obtain⟨c,rfl,q1⟩:=q1;cases r1;refine afu ?_;cases c with
 |true=>exact hb pins s1 σ H1 Q I1 q1
 |false=>exact⟨.bl false,H1,I1,rfl,q1⟩
theorem pe_not(ha:PE X a ta):PE X (.UnaryOp .Not a pos) (tNotV ta):=by
 intro pins s σ H Q I h;refine UnaryOp_ (thn (ha pins s σ H _ I h) λv s1 bJ=>?_);obtain⟨x,H1,I1,r1,q1⟩:=bJ;obtain⟨c,rfl,q1⟩:=q1;cases r1;exact not_of (afu ⟨.bl (!c),H1,I1,rfl,q1⟩)
def tIf(t:TT)(ta tb:TE):TE:=λσ H Q=>t σ H λc H1=>if c=true then ta σ H1 Q else tb σ H1 Q
theorem pe_ifExp{c:aee}(hc:PT X c tA)(ha:PE X a ta)(hb:PE X b tb):PE X (.IfExp c a b pos) (tIf tA ta tb):=by
 intro pins s σ H Q I h;refine wpAny_IfExp (thn (hc pins s σ H _ I h) λd s1 bJ=>?_);obtain⟨H1,I1,q1⟩:=bJ;cases d with
 |true=>exact ha pins s1 σ H1 Q I1 q1
 |false=>exact hb pins s1 σ H1 Q I1 q1
end
def SqL(K:PySem.W.Frag)(H:Hp)(a:ad5)(xs:List V):Prop:=
 Rd H a (.lst xs)\/
  ∃(o:Obj) (its:Array ad7) (n:Nat),K.lookup a=some o/\o.cls= .type "list"/\o.dict=none/\o.data= .seq its n/\its.size<=sizeLine/\Vals xs its.toList
def SqT(K:PySem.W.Frag)(H:Hp)(a:ad5)(xs:List V):Prop:=
 Rd H a (.tup xs)\/
  ∃(o:Obj) (its:Array ad7) (n:Nat),K.lookup a=some o/\o.cls= .type "tuple"/\o.dict=none/\o.data= .seq its n/\its.size<=sizeLine/\Vals xs its.toList
def absV:ad7->Option V
 | .none=>some .non
 | .bool b=>some (.bl b)
 | .int i _=>some (.int i)
 | .str x _=>some (.str x)
 | .bytes b _=>some (.byt b)
 | .float b _=>some (.flt b)
 | .ref a=>some (.ref a)
 | .type n=>some (.ty n)
 |_=>none
theorem RelV.abs{x:V}{u:ad7}(r:RelV x u):absV u=some x:=by
 cases x with
 |non=>cases r;rfl
 |bl _=>cases r;rfl
 |int _=>obtain⟨t,rfl⟩:=r;rfl
 |str _=>obtain⟨t,rfl⟩:=r;rfl
 |byt _=>obtain⟨t,rfl⟩:=r;rfl
 |flt _=>obtain⟨t,rfl⟩:=r;rfl
 |ref _=>cases r;rfl
 |ty _=>cases r;rfl
theorem RelV.inj{x y:V}{u:ad7}(r:RelV x u)(q:RelV y u):x=y:=aeg (r.abs.symm.trans q.abs)
theorem Vals.inj:∀{xs ys:List V} {us:List ad7},Vals xs us->Vals ys us->xs=ys
 :=by
 intro xs ys us h
 induction h generalizing ys with
 |nil=>intro q;cases q;rfl
 |cons r t ih=>intro q;cases q with |cons r' t'=>rw[r.inj r',ih t']
section
variable{X:Cx}{pins:List (ad5×Obj)}{σ:St}{H:Hp}{s:ad8}{a:ad5}{xs ys:List V}
theorem SqL.of(h:H a=some (.lst xs)):SqL K H a xs:= .inl (.inl h)
theorem SqT.of(h:H a=some (.tup xs)):SqT K H a xs:= .inl (.inl h)
theorem Inv.list(I:Inv X pins σ H s)(h:SqL X.K H a xs):∃its:List ad7,Vals xs its/\PlainL s.heap a its.toArray/\xs.length<=sizeLine:=by
 rcases h with h |⟨o,its,n,hk,hc,hd,hs,hz,r⟩
 ·obtain⟨z,its,n,r,e⟩:=h.ok I.hok;exact⟨its,r,⟨_,n,e,rfl,rfl,rfl⟩,z⟩
 ·refine⟨its.toList,r,⟨o,n,I.kIn a o hk,hc,hd,by simpa using hs⟩,?_⟩;have e:=r.length;simp only[afR] at e;omega
theorem Inv.tuple(I:Inv X pins σ H s)(h:SqT X.K H a xs):∃its:List ad7,Vals xs its/\IsTup s.heap a its.toArray/\xs.length<=sizeLine:=by
 rcases h with h |⟨o,its,n,hk,hc,_,hs,hz,r⟩
 ·obtain⟨z,its,r,p⟩:=h.ok I.hok;exact⟨its,r,p.tup,z⟩
 ·refine⟨its.toList,r,⟨o,I.kIn a o hk,hc,n,by simpa using hs⟩,?_⟩;have e:=r.length;simp only[afR] at e;omega
theorem Inv.list_inj(I:Inv X pins σ H s)(h:SqL X.K H a xs)(h':SqL X.K H a ys):xs=ys:=by
 obtain⟨its,r,⟨o,n,e,_,_,d⟩,_⟩:=I.list h;obtain⟨its',r',⟨o',n',e',_,_,d'⟩,_⟩:=I.list h';rw[e] at e';cases e';rw[d] at d';injection d' with d1 _;have:its=its':=by simpa using congrArg Array.toList d1
 subst this;exact r.inj r'
theorem Inv.tuple_inj(I:Inv X pins σ H s)(h:SqT X.K H a xs)(h':SqT X.K H a ys):xs=ys:=by
 obtain⟨its,r,⟨o,e,_,n,d⟩,_⟩:=I.tuple h;obtain⟨its',r',⟨o',e',_,n',d'⟩,_⟩:=I.tuple h';rw[e] at e';cases e';rw[d] at d';injection d' with d1 _;have:its=its':=by simpa using congrArg Array.toList d1
 subst this;exact r.inj r'
end
abbrev Cx.wish(X:Cx)(E:ad7->ad8->Prop):Cx:={X with xe:=E}
abbrev Cx.nox(X:Cx):Cx:=X.wish λ_ _=>False
theorem Cx.Ok.wish{X:Cx}(ok:X.Ok)(E:ad7->ad8->Prop):(X.wish E).Ok:=
 ⟨ok.mod,ok.kind,ok.glob,ok.blt,ok.above,ok.inj,ok.has,ok.cab,ok.hd,ok.frames,ok.stk,ok.exf,ok.bs,ok.bsz,ok.noex,ok.exfs,ok.funs,ok.frf⟩
theorem Cx.Ok.unwish{X:Cx}(ok:(X.wish E).Ok):X.Ok:=
 ⟨ok.mod,ok.kind,ok.glob,ok.blt,ok.above,ok.inj,ok.has,ok.cab,ok.hd,ok.frames,ok.stk,ok.exf,ok.bs,ok.bsz,ok.noex,ok.exfs,ok.funs,ok.frf⟩
section
variable{X:Cx}{pins:List (ad5×Obj)}{σ:St}{H:Hp}{s:ad8}{E:ad7->ad8->Prop}
theorem Inv.wish(I:Inv X pins σ H s)(E:ad7->ad8->Prop):Inv (X.wish E) pins σ H s:=⟨I.ok.wish E,I.os,I.bare,I.base,I.loc,I.cell,I.free,I.freeC,I.pin,I.hok,I.len⟩
theorem Inv.unwish(I:Inv (X.wish E) pins σ H s):Inv X pins σ H s:=⟨I.ok.unwish,I.os,I.bare,I.base,I.loc,I.cell,I.free,I.freeC,I.pin,I.hok,I.len⟩
theorem SP.unwish{D:Ends}{f:Flow}{s':ad8}(h:SP (X.wish E) pins D f s'):SP X pins D f s':=by
 cases f with
 |next=>obtain⟨σ',H',I,q⟩:=h;exact⟨σ',H',I.unwish,q⟩
 |brk=>obtain⟨σ',H',I,q⟩:=h;exact⟨σ',H',I.unwish,q⟩
 |cont=>obtain⟨σ',H',I,q⟩:=h;exact⟨σ',H',I.unwish,q⟩
 |ret u=>obtain⟨v,σ',H',I,r,q⟩:=h;exact⟨v,σ',H',I.unwish,r,q⟩
theorem PSs.nox{st:List aeu}{t:TS}(h:PSs X.nox st t):PSs X st t:=λpins s σ H D I hw=>
 ae0 (h pins s σ H D (I.wish _) hw) (λ_ _ q=>q.unwish) λ_ _ z=>aeJ z
end
section
variable{X:Cx}{st:aeu}{rest:List aeu}{t u:TS}{e:aee}{te:TE}{pos:Pos}
def tNext:TS:=λD σ H=>D.nx σ H
def tSeq(t u:TS):TS:=λD σ H=>t {D with nx:=u D} σ H
theorem pss_nil:PSs X [] tNext:=λ_ _ σ H _ I h=>ag3 ⟨σ,H,I,h⟩
theorem pss_cons(h1:PS X st t)(h2:PSs X rest u):PSs X (st::rest) (tSeq t u):=by
 intro pins s σ H D I h;refine wpAny_execs_cons (thn (h1 pins s σ H {D with nx:=u D} I h) λf s1 q=>?_);cases f with
 | next=>
  obtain⟨σ',H',I',q⟩:=q;exact h2 pins s1 σ' H' D I' q
 |ret v=>exact q
 |brk=>exact q
 |cont=>exact q
theorem pss_one(h1:PS X st t):PSs X [st] t:=by
 intro pins s σ H D I h;refine wpAny_execs_cons (thn (h1 pins s σ H D I h) λf s1 q=>?_);cases f with
 |next=>exact ag3 q
 |ret v=>exact q
 |brk=>exact q
 |cont=>exact q
theorem Inv.quiet(I:Inv X pins σ H s):interactive X.env=false:=by simp[interactive,I.ok.kind]
def tDrop(te:TE):TS:=λD σ H=>te σ H λ_ H1=>D.nx σ H1
theorem ps_expr(he:PE X e te)(hs:agu e none pos.line X.env=pure false:=by rfl):PS X (.Expr e pos) (tDrop te):=by
 intro pins s σ H D I h;exact wpAny_Expr_any (thn (he pins s σ H _ I h) λv s1 ⟨x,H1,I1,r1,q1⟩=>⟨σ,H1,I1,q1⟩) I.quiet hs
def tRet(te:TE):TS:=λD σ H=>te σ H D.rt
theorem ps_ret(he:PE X e te):PS X (.Return (some e) pos) (tRet te):=by
 intro pins s σ H D I h;exact wpAny_Return_some (thn (he pins s σ H _ I h) λv s1 ⟨x,H1,I1,r1,q1⟩=>⟨x,σ,H1,I1,r1,q1⟩)
def tIfS(c:TT)(t u:TS):TS:=λD σ H=>c σ H λb H1=>if b=true then t D σ H1 else u D σ H1
theorem ps_if{c:aee}{a b:List aeu}{tc:TT}(hc:PT X c tc)(ha:PSs X a t)(hb:PSs X b u):PS X (.If c a b pos) (tIfS tc t u):=by
 intro pins s σ H D I h;refine wpAny_If (thn (hc pins s σ H _ I h) λd s1 bJ=>?_);obtain⟨H1,I1,q1⟩:=bJ;cases d with
 |true=>exact ha pins s1 σ H1 D I1 q1
 |false=>exact hb pins s1 σ H1 D I1 q1
end
abbrev TG:=V->St->Hp->(St->Hp->Prop)->Prop
abbrev TGs:=List V->St->Hp->(St->Hp->Prop)->Prop
def PG(X:Cx)(target:aee)(t:TG):Prop:=
 ∀(pins:List (ad5×Obj)) (s:ad8) (σ:St) (H:Hp) (v:V) (u:ad7) (Q:St->Hp->Prop),Inv X pins σ H s->RelV v u->t v σ H Q->
  aec (model X.prog X.w) X.A (assign target X.env u) (λ_ s'=>Q0 X pins Q s') X.xe s
def PGs(X:Cx)(ts:List aee)(t:TGs):Prop:=
 ∀(pins:List (ad5×Obj)) (s:ad8) (σ:St) (H:Hp) (vs:List V) (us:List ad7) (Q:St->Hp->Prop),Inv X pins σ H s->Vals vs us->t vs σ H Q->
  aec (model X.prog X.w) X.A (assignInOrder ((afT ts X.env).map (·.2)) us) (λ_ s'=>Q0 X pins Q s') X.xe s
abbrev TSet:=V->V->V->Hp->(Hp->Prop)->Prop
def PSet(X:Cx)(t:TSet):Prop:=
 ∀(pins:List (ad5×Obj)) (s:ad8) (σ:St) (H:Hp) (o i v:V) (ov iv u:ad7) (Q:Hp->Prop),Inv X pins σ H s->RelV o ov->RelV i iv->RelV v u->t o i v H Q->
  aec (model X.prog X.w) X.A (setItem ov iv u) (λ_ s'=>∃H',Inv X pins σ H' s'/\Q H') X.xe s
abbrev TIp:=V->V->Hp->VK->Prop
def PIp(X:Cx)(op:Operator)(t:TIp):Prop:=
 ∀(pins:List (ad5×Obj)) (s:ad8) (σ:St) (H:Hp) (x y:V) (v u:ad7) (Q:VK),Inv X pins σ H s->RelV x v->RelV y u->t x y H Q->
  aec (model X.prog X.w) X.A (inplaceOp op v u) (EP X pins σ Q) X.xe s
section
variable{X:Cx}{pos:Pos}
def gName(i:Nat):TG:=λv σ H Q=>Q (σ.set i (some v)) H
theorem pg_name{i:Nat}{x:Str}(hN:X.N.Nodup)(hi:X.N[i]?=some x)(hx:Loc X.env.scope x)(hf:X.fn x=true\/X.env.scope.names.lookup x=some .local:=by first |exact .inl rfl |exact .inr rfl |assumption):PG X (.Name x pos) (gName i):=by
 intro pins s σ H v u Q I r h;exact wpAny_assign_Name (store_ok I hN hi hx r (λs' I'=>⟨_,H,I',h⟩) hf)
def gNil:TGs:=λvs σ H Q=>vs=[]/\Q σ H
def gCons(t:TG)(u:TGs):TGs:=λvs σ H Q=>∃v r,vs=v::r/\t v σ H λσ' H'=>u r σ' H' Q
theorem pgs_nil:PGs X [] gNil:=by
 intro pins s σ H vs us Q I r h;obtain⟨e,h⟩:=h;subst e;cases r;exact assignInOrder_nil ⟨σ,H,I,h⟩
theorem pgs_cons{es:List aee}{t:TG}{u:TGs}(h1:PG X e t)(h2:PGs X es u)
  (hs:(afT (e::es) X.env).map (·.2)=assign e X.env::(afT es X.env).map (·.2):=by rfl):PGs X (e::es) (gCons t u):=by
 intro pins s σ H vs us Q I r h;obtain⟨v,vr,e1,h⟩:=h;subst e1;cases r with
 | cons r rr=>
  rw[hs];refine ah7 (thn (h1 pins s σ H _ _ _ I r h) λ_ s1 bJ=>?_);obtain⟨σ1,H1,I1,q1⟩:=bJ;exact h2 pins s1 σ1 H1 _ _ Q I1 rr q1
def gTup(K:PySem.W.Frag)(n:Nat)(t:TGs):TG:=λv σ H Q=>∃a xs,v= .ref a/\SqT K H a xs/\xs.length=n/\t xs σ H Q
theorem pg_tup{es:List aee}{t:TGs}{n:Nat}(hc:X.calm=true)(h:PGs X es t)
  (hn:(afT es X.env).length=n:=by rfl)(hst:(afT es X.env).findIdx? (·.1)=none:=by rfl):PG X (.Tuple es k pos) (gTup X.K n t):=by
 intro pins s σ H v u Q I r hw;obtain⟨a,xs,e1,hq,hl,hw⟩:=hw;subst e1;cases r;obtain⟨its,rv,ht,hz⟩:=I.tuple hq;refine assign_Tuple_tuple (I.ok.hd hc) ht (by simp[hn,<-hl,rv.length]) hst λh' hx=>?_;have I1:Inv X pins σ H {s with heap:=h'}:=I.kept (t':=s.toks) λb o e=>hx b o (aeW (z2c e)) e;exact h pins _ σ H xs _ Q I1 (by simpa using rv) hw
def gSub(to ti:TE)(t:TSet):TG:=λv σ H Q=>to σ H λo H1=>ti σ H1 λi H2=>t o i v H2 λH3=>Q σ H3
theorem pg_sub{o i:aee}{to ti:TE}{t:TSet}(ho:PE X o to)(hi:PE X i ti)(hs:PSet X t)
  (ha:∀v,assign (.Subscript o i pos) X.env v=(do
   let ov <-holding [v] (eval o X.env)
   let iv <-holding [v,ov] (eval i X.env)
   ahC pos
   holding [v,ov,iv] (setItem ov iv v)
   release [v,ov,iv] []):=by intro _;rfl):PG X (.Subscript o i pos) (gSub to ti t):=by
 intro pins s σ H v u Q I r h;rw[ha];refine ad4 (afv (thn (ho pins s σ H _ I h) λov s1 bJ=>?_));obtain⟨x,H1,I1,r1,q1⟩:=bJ;refine ad4 (afv (thn (hi pins s1 σ H1 _ I1 q1) λiv s2 bJ=>?_));obtain⟨y,H2,I2,r2,q2⟩:=bJ;refine ad4 (agG (ad4 (afv (thn (hs pins s2 σ H2 x y v ov iv u _ I2 r1 r2 r q2) λ_ s3 bJ=>?_))));obtain⟨H3,I3,q3⟩:=bJ;exact wpAny_release ⟨σ,H3,I3,q3⟩
def tAsg(te:TE)(g:TG):TS:=λD σ H=>te σ H λx H1=>g x σ H1 D.nx
theorem ps_asg{te:TE}{g:TG}(he:PE X e te)(hg:PG X tg g)(hs:afU [tg] e pos.line X.env=pure false:=by rfl)(hw:afV [tg] e X.env=pure none:=by rfl)
  (h1:(afT [tg] X.env).map (·.2)=[assign tg X.env]:=by rfl):PS X (.Assign [tg] e pos) (tAsg te g):=by
 intro pins s σ H D I h;refine wpAny_Assign_stores (thn (he pins s σ H _ I h) λv s1 ⟨x,H1,I1,r1,q1⟩=>?_) hs hw;rw[h1];exact thn (hg pins s1 σ H1 x v _ I1 r1 q1) λ_ s2 q=>q
theorem ps_set{i:Nat}{x:Str}{te:TE}{pos':Pos}(hN:X.N.Nodup)(hi:X.N[i]?=some x)(hx:Loc X.env.scope x)(he:PE X e te)(hs:agu e (some (.Name x pos')) pos.line X.env=pure false:=by rfl)(hf:X.fn x=true\/X.env.scope.names.lookup x=some .local:=by first |exact .inl rfl |exact .inr rfl |assumption):
  PS X (.Assign [.Name x pos'] e pos) (tAsg te (gName i)):=by
 intro pins s σ H D I h;refine wpAny_Assign_Name (thn (he pins s σ H _ I h) λv s1 ⟨y,H1,I1,r1,q1⟩=>?_) hs;exact store_ok I1 hN hi hx r1 (λs2 I2=>⟨_,H1,I2,q1⟩) hf
def tPar(i j:Nat)(ta:TA):TS:=λD σ H=>ta σ H λvs H1=>∃v w,vs=[v,w]/\D.nx ((σ.set i (some v)).set j (some w)) H1
theorem ps_par{i j:Nat}{x y:Str}{a b:aee}{ta:TA}{px py pt:Pos}{kt k2 pt2}(hc:X.calm=true)(hN:X.N.Nodup)(hi:X.N[i]?=some x)(hj:X.N[j]?=some y)(hij:i≠j)
  (hx:X.env.scope.names.lookup x=some .local)(hy:X.env.scope.names.lookup y=some .local)(ha:PA X [a,b] ta)
  (hw:afV [.Tuple [.Name x px,.Name y py] kt pt] (.Tuple [a,b] k2 pt2) X.env=pure (some [x,y]))
  (hs:afU [.Tuple [.Name x px,.Name y py] kt pt] (.Tuple [a,b] k2 pt2) pos.line X.env=pure false:=by rfl):
  PS X (.Assign [.Tuple [.Name x px,.Name y py] kt pt] (.Tuple [a,b] k2 pt2) pos) (tPar i j ta):=by
 intro pins s σ H D I h;rw[exec_Assign_arm];refine ad4 (agG ?_);rw[hs];refine ad4 (ad9 ?_);rw[if_neg (by decide)];refine ad4 (Tuple_ (thn (ha _ pins s σ H _ I h) λus s1 bJ=>?_));obtain⟨vs,H1,I1,r1,q1⟩:=bJ;obtain⟨v,w,e1,q1⟩:=q1;subst e1;obtain⟨u1,u2,rfl,rv,rw'⟩:∃u1 u2,us=[u1,u2]/\RelV v u1/\RelV w u2:=by
  cases r1 with
  | cons p q=>
   cases q with
   | cons p' q'=>
    cases q';exact⟨_,_,rfl,p,p'⟩
 refine aeI ?_ (by show 2<=sizeLine;decide);have I2:Inv X pins σ H1 {s1 with heap:=s1.heap.push {cls:= .type "tuple",data:= .seq [u1,u2].toArray}}:=I1.kept (t':=s1.toks) λb o e=>z1a _ e;rw[hw];refine ad4 (ad9 ?_);show aec (model X.prog X.w) X.A (do rule "assign.swapped-stores";let items <-unpackItems (.ref s1.heap.objs.size) 2 none;assignInOrder [λv=>bindName X.env y v,λv=>bindName X.env x v] items.reverse;pure aiW) _ _ _;refine ad4 (ags (ad4 (unpackItems_tuple (items:= #[u1,u2]) (I.ok.hd hc) (IsTup.new s1.heap _) λh' hx'=>?_)));have I3:=I2.kept (h':=h') (t':=s1.toks) λb o e=>hx' b o (aeW (z2c e)) e;show aec _ _ (assignInOrder [λv=>bindName X.env y v,λv=>bindName X.env x v] [u2,u1] >>=λ_=>pure aiW) _ _ _;refine ad4 (ah7 (wpAny_bindName (store_ok I3 hN hj (.inl hy) rw' (λs2 I4=>?_) (.inr hy))));refine ah7 (wpAny_bindName (store_ok I4 hN hi (.inl hx) rv (λs3 I5=>assignInOrder_nil (ad9 ?_)) (.inr hx)));rw[List.set_comm _ _ (aeh hij)] at I5;exact⟨_,H1,I5,q1⟩
def tAug(i:Nat)(te:TE)(ti:TIp):TS:=λD σ H=>∃x,σ[i]?=some (some x)/\te σ H λy H1=>ti x y H1 λz H2=>D.nx (σ.set i (some z)) H2
theorem ps_aug{i:Nat}{x:Str}{te:TE}{op:Operator}{ti:TIp}{pos':Pos}(hN:X.N.Nodup)(hi:X.N[i]?=some x)(hx:Loc X.env.scope x)(he:PE X e te)(ho:PIp X op ti)(hf:X.fn x=true\/X.env.scope.names.lookup x=some .local:=by first |exact .inl rfl |exact .inr rfl |assumption):
  PS X (.AugAssign (.Name x pos') op e pos) (tAug i te ti):=by
 intro pins s σ H D I h;obtain⟨v,e1,h⟩:=h;obtain⟨m,hn,hl⟩:=I.loc;have vis:Vis X.env.scope x:=by rcases hx with k |k;exact .inl k;exact .inr (.inl k)
 obtain⟨u,r,l⟩:=hl i x v hi e1 vis;refine wpAny_AugAssign_Name ?_;have go:aec (model X.prog X.w) X.A (eval e X.env) (λw s₂=>aec (model X.prog X.w) X.A (inplaceOp op u w) (λr s₃=>aec (model X.prog X.w) X.A (af2 X.env x r) (λ_=>SP X pins D .next) X.xe s₃) X.xe s₂) X.xe s:=by
  refine thn (he pins s σ H _ I h) λw s1 bJ=>?_;obtain⟨y,H1,I1,r1,q1⟩:=bJ;refine thn (ho pins s1 σ H1 v y u w _ I1 r r1 q1) λz s2 bJ=>?_;obtain⟨zv,H2,I2,r2,q2⟩:=bJ;exact store_ok I2 hN hi hx r2 (λs3 I3=>⟨_,H2,I3,q2⟩) hf
 rcases l with⟨hk,hm⟩ |⟨hk,c,hc,hcell⟩
 ·exact wpAny_loadName_local I.ok.kind hk hn hm go
 ·rcases hk with hk |hk
  ·exact wpAny_loadName_cell I.ok.kind hk hc hcell go
  ·rcases hx with k |k
   ·have:X.env.scope.names.lookup x=some .free:=hk;rw[k] at this;cases this
   ·have:X.env.scope.names.lookup x=some .free:=hk;rw[k] at this;cases this
def ipI(f:Int->Int->Int):TIp:=λx y H Q=>∃i j,x= .int i/\y= .int j/\Q (.int (f i j)) H
theorem ip_add:PIp X .Add (ipI λi j=>i+j):=by
 intro pins s σ H x y v u Q I r1 r2 h;obtain⟨i,j,e1,e2,q⟩:=h;subst e1;subst e2;obtain⟨t,rfl⟩:=r1;obtain⟨t',rfl⟩:=r2;exact iadd_int ⟨.int _,H,I.tok _,⟨_,rfl⟩,q⟩
end
section
variable{X:Cx}{pos:Pos}
def tWhile(c:TT)(tb:TS):TS:=λD σ H=>∃W:Nat->St->Hp->Prop,(∃m,W m σ H)/\∀m σ H,W m σ H->
 c σ H λb H1=>if b=true then ∃N:St->Hp->Prop,(∀σ' H',N σ' H'->∃m',m'<m/\W m' σ' H')/\tb {D with nx:=N,ct:=N,bk:=D.nx} σ H1 else D.nx σ H1
theorem ps_while{c:aee}{tc:TT}{tb:TS}(hp:PassesOwn (model X.prog X.w) X.A X.env X.xe)(hc:PT X c tc)(hb:PSs X body tb):PS X (.While c body [] pos) (tWhile tc tb):=by
 intro pins s σ H D I h;obtain⟨W,⟨m0,w0⟩,turn⟩:=h;refine wpAny_While (codeAny_whileLoop (λn s'=>∃σ' H',Inv X pins σ' H' s'/\W n σ' H') ?_ m0 ⟨σ,H,I,w0⟩)
 rintro n s1 ⟨σ1,H1,I1,w1⟩
 refine agm hp (thn (hc pins s1 σ1 H1 _ I1 (turn n σ1 H1 w1)) λb s2 bJ=>?_);obtain⟨H2,I2,q2⟩:=bJ;cases b with
 | true=>
  obtain⟨N,hN,q2⟩:=q2;rw[if_pos rfl];refine agm hp (thn (hb pins s2 σ1 H2 _ I2 q2) λf s3 q3=>?_);cases f with
  | next=>
   obtain⟨σ3,H3,I3,n3⟩:=q3;obtain⟨m',hm,w3⟩:=hN σ3 H3 n3;exact⟨m',hm,σ3,H3,I3,w3⟩
  | cont=>
   obtain⟨σ3,H3,I3,n3⟩:=q3;obtain⟨m',hm,w3⟩:=hN σ3 H3 n3;exact⟨m',hm,σ3,H3,I3,w3⟩
  |brk=>exact q3
  |ret v=>exact q3
 | false=>
  rw[if_neg aes];exact ag3 ⟨σ1,H2,I2,q2⟩
end
structure It where
 go:Nat->Hp->Prop
 yld:Nat->Hp->V->Hp->Prop
 stop:Nat->Hp->Prop
def FpOk(X:Cx)(pins:List (ad5×Obj))(H:Hp)(b:ad5):Prop:=
 H b=none/\b≠X.env.locals/\b∉X.fs/\(b∈X.ex\/X.s₀.heap.objs.size<=b)/\(∀x c,X.env.cells.lookup x=some c->c≠b)/\∀p∈X.pn++pins,p.1≠b
theorem Inv.fpOk{X:Cx}{H':Hp}{b:ad5}(I:Inv X pins σ H s)(hb:s.heap.objs.size<=b)(hn:H' b=none):FpOk X pins H' b:=by
 refine⟨hn,aiI (z0d I.lt hb),I.nofs hb,.inr (z0b I.sz hb),λx c e z=>?_,λp hp z=>?_⟩
 ·obtain⟨v,q⟩:=I.cell x c e;exact absurd (z0d q.lt (by rw[z];exact hb)) (afh _)
 ·exact absurd (z0d (z2c (I.pin p hp).1) (by rw[z];exact hb)) (afh _)
inductive Zx (X:Cx) (pins:List (ad5×Obj)) (σ:St) (H:Hp) (J:It) (tn:Nat->aeo->Prop) (fp:List ad5) (i:Nat) (u:ad7) (s2:ad8):Prop
 |mk (x:V) (H':Hp) (I:Inv X pins σ H' s2) (r:RelV x u) (y:J.yld i H x H') (st:tn (i+1) s2.heap) (f:∀b∈fp,H' b=none):Zx X pins σ H J tn fp i u s2
structure Turn(P:aek)(w:aep)(K:PySem.W.Frag)(tg:aee)(J:It)(fp:List ad5)(it:ad5)(tn:Nat->aeo->Prop):Prop where
 mem:it∈fp
 obj:∀i h,tn i h->∀b∈fp,∃o,h.get? b=some o/\∀v,o.data≠.cell v
 keep:∀i h h',tn i h->(∀b∈fp,∀o,h.get? b=some o->h'.get? b=some o)->tn i h'
 item:∀(X:Cx),X.prog=P->X.w=w->X.K=K->X.calm=true->∀(i:Nat) (pins:List (ad5×Obj)) (s:ad8) (σ:St) (H:Hp) (E:ad7->ad8->Prop),Inv X pins σ H s->(∀b∈fp,FpOk X pins H b)->tn i s.heap->J.go i H->
  aec (model P w) X.A (pyNext (.ref it)) (λr s1=>∃u,r=some u/\
   aec (model P w) X.A (letOwnedTupleGo tg (.ref it) u) (λ_ s2=>Zx X pins σ H J tn fp i u s2) E s1) E s
 done:∀(X:Cx),X.prog=P->X.w=w->X.K=K->X.calm=true->∀(i:Nat) (pins:List (ad5×Obj)) (s:ad8) (σ:St) (H:Hp) (E:ad7->ad8->Prop),Inv X pins σ H s->(∀b∈fp,FpOk X pins H b)->tn i s.heap->J.stop i H->
  aec (model P w) X.A (pyNext (.ref it)) (λr s1=>r=none/\Inv X pins σ H s1) E s
 self:∀(A:aer) (i:Nat) (s:ad8) (Q:ad7->ad8->Prop) (E:ad7->ad8->Prop),tn i s.heap->Q (.ref it) s->aec (model P w) A (pyIter (.ref it)) Q E s
abbrev TI:=St->Hp->(It->Hp->Prop)->Prop
inductive PIE (X:Cx) (pins:List (ad5×Obj)) (σ:St) (tg:aee) (R:It->Hp->Prop) (itv:ad7) (s2:ad8):Prop
 |mk (it:ad5) (fp:List ad5) (tn:Nat->aeo->Prop) (J:It) (H':Hp) (e:itv= .ref it) (I:Inv X pins σ H' s2) (T:Turn X.prog X.w X.K tg J fp it tn) (st:tn 0 s2.heap) (f:∀b∈fp,FpOk X pins H' b) (r:R J H'):PIE X pins σ tg R itv s2
def PI(X:Cx)(tg iter:aee)(wi:TI):Prop:=
 ∀(pins:List (ad5×Obj)) (s:ad8) (σ:St) (H:Hp) (R:It->Hp->Prop),Inv X pins σ H s->wi σ H R->
  aec (model X.prog X.w) X.A (eval iter X.env) (λv s1=>aec (model X.prog X.w) X.A (pyIter v) (PIE X pins σ tg R) X.xe s1) X.xe s
theorem go_of{it:ad5}{u:ad7}{o:Obj}{n:String}{vs:Array ad7}(ho:s.heap.get? it=some o)(hc:o.cls= .type n)(hd:o.data= .fields vs)
  (hn:["enumerate","zip","dict_itemiterator","dict_reverseitemiterator","odict_iterator","itertools.zip_longest","itertools.pairwise"].contains n=false)(hQ:Q () s):aec M A (letOwnedTupleGo tg (.ref it) u) Q E s:=by
 unfold letOwnedTupleGo;cases tg <;> first
  |exact ad9 hQ
  | (cases u <;> first
    |exact ad9 hQ
    | (refine ad4 (wpAny_load ho ?_)
       rw[hc,hd];show aec M A (if (["enumerate","zip","dict_itemiterator","dict_reverseitemiterator","odict_iterator","itertools.zip_longest","itertools.pairwise"].contains n && vs[0]? ==some (ae3 _))=true then _ else _) Q E s;rw[if_neg (by intro h;rw[hn,ahg] at h;cases h)];exact ad9 hQ))
def Itl(K:PySem.W.Frag)(a:ad5):It:=
 ⟨λi H=>∃xs x,SqL K H a xs/\xs[i]?=some x,λi H x H'=>H'=H/\∀xs,SqL K H a xs->xs[i]?=some x,λi H=>∃xs,SqL K H a xs/\xs.length<=i⟩
def Itt(K:PySem.W.Frag)(a:ad5):It:=
 ⟨λi H=>∃xs x,SqT K H a xs/\xs[i]?=some x,λi H x H'=>H'=H/\∀xs,SqT K H a xs->xs[i]?=some x,λi H=>∃xs,SqT K H a xs/\xs.length<=i⟩
def Itr(lo:Int)(n:Nat):It:=⟨λi _=>i<n,λi H x H'=>H'=H/\x= .int (lo+i),λi _=>n<=i⟩
theorem turn_list(a it:ad5):Turn P w K tg (Itl K a) [it] it (λi h=>h.IsListIter it a i) where
 mem:=by simp
 obj:=λi h st b hb=>by
  have e:b=it:=by simpa using hb
  subst e;obtain⟨o,e,c,d⟩:=st;exact⟨o,e,λv z=>by rw[d] at z;cases z⟩
 keep:=λi h h' st k=>st.at λo e=>k it (by simp) o e
 item:=by
  intro X hP hw hK hc i pins s σ H E I hf st hg;subst hP hw hK;obtain⟨xs,x,hq,hx⟩:=hg;obtain⟨its,rv,p,hz⟩:=I.list hq;obtain⟨u,hu,ru⟩:=rv.get hx;obtain⟨f0,f1,f2,f3,f4,f5⟩:=hf it (by simp);refine wpAny_pyNext_list_item st p.isList (x:=u) (by simpa using hu) λh' st' sb=>?_;have I1:Inv X pins σ H {s with heap:=h'}:=I.turned (t':=s.toks) (λb o hb e=>(sb.2 b hb).trans e) f0 f1 f3 f4 f5;obtain⟨o,e,c,d⟩:=id st';exact⟨u,rfl,go_of (s:={s with heap:=h'}) e c d (by decide) ⟨x,H,I1,ru,⟨rfl,λys hy=>by rw[I.list_inj hy hq];exact hx⟩,st',λb hb=>(hf b hb).1⟩⟩
 done:=by
  intro X hP hw hK hc i pins s σ H E I hf st hg;subst hP hw hK;obtain⟨xs,hq,hx⟩:=hg;obtain⟨its,rv,p,hz⟩:=I.list hq;obtain⟨f0,f1,f2,f3,f4,f5⟩:=hf it (by simp);have hl:=rv.length;exact wpAny_pyNext_list_end (I.ok.hd hc) st p.isList (by simp;omega) λh' eb=>⟨rfl,I.turned (t':=s.toks) (λb o hb e=>eb b o hb e) f0 f1 f3 f4 f5⟩
 self:=λ_ _ _ _ _ st h=>wpAny_pyIter_listiter st h
theorem turn_tuple(a it:ad5):Turn P w K tg (Itt K a) [it] it (λi h=>h.IsTupleIter it a i) where
 mem:=by simp
 obj:=λi h st b hb=>by
  have e:b=it:=by simpa using hb
  subst e;obtain⟨o,e,c,d⟩:=st;exact⟨o,e,λv z=>by rw[d] at z;cases z⟩
 keep:=λi h h' st k=>st.at λo e=>k it (by simp) o e
 item:=by
  intro X hP hw hK hc i pins s σ H E I hf st hg;subst hP hw hK;obtain⟨xs,x,hq,hx⟩:=hg;obtain⟨its,rv,p,hz⟩:=I.tuple hq;obtain⟨u,hu,ru⟩:=rv.get hx;obtain⟨f0,f1,f2,f3,f4,f5⟩:=hf it (by simp);refine wpAny_pyNext_tuple_item st (show s.heap.IsTuple a its.toArray from p) (x:=u) (by simpa using hu) λh' st' sb=>?_;have I1:Inv X pins σ H {s with heap:=h'}:=I.turned (t':=s.toks) (λb o hb e=>(sb.2 b hb).trans e) f0 f1 f3 f4 f5;obtain⟨o,e,c,d⟩:=id st';exact⟨u,rfl,go_of (s:={s with heap:=h'}) e c d (by decide) ⟨x,H,I1,ru,⟨rfl,λys hy=>by rw[I.tuple_inj hy hq];exact hx⟩,st',λb hb=>(hf b hb).1⟩⟩
 done:=by
  intro X hP hw hK hc i pins s σ H E I hf st hg;subst hP hw hK;obtain⟨xs,hq,hx⟩:=hg;obtain⟨its,rv,p,hz⟩:=I.tuple hq;obtain⟨f0,f1,f2,f3,f4,f5⟩:=hf it (by simp);have hl:=rv.length;exact wpAny_pyNext_tuple_end (I.ok.hd hc) st (show s.heap.IsTuple a its.toArray from p) (by simp;omega) λh' eb=>⟨rfl,I.turned (t':=s.toks) (λb o hb e=>eb b o hb e) f0 f1 f3 f4 f5⟩
 self:=λ_ _ _ _ _ st h=>wpAny_pyIter_tupleiter st h
theorem turn_range(it:ad5)(lo:Int)(n:Nat):Turn P w K tg (Itr lo n) [it] it (λi h=>ah2 h it (lo+(i:Nat)*1) ((n:Int) - (i:Nat)) 1) where
 mem:=by simp
 obj :=λi h st b hb=>by
  have e:b=it:=by simpa using hb
  subst e;exact⟨_,st,λv z=>by
   have z':aiZ _=ah8 v:=z;cases z'⟩
 keep:=λi h h' st k=>k it (by simp) _ st
 item:=by
  intro X hP hw hK hc i pins s σ H E I hf st hg;subst hP hw hK;obtain⟨f0,f1,f2,f3,f4,f5⟩:=hf it (by simp);have W:=Walks.range (prog:=X.prog) (w:=X.w) (I.ok.hd hc) it lo 1 n;refine W.item i s _ _ hg st λv h' tk hv st' kk=>?_;obtain⟨t,rfl⟩:=hv;have I1:Inv X pins σ H {s with heap:=h',toks:=tk}:=I.turned (λb o hb e=>kk b o (by simpa using hb) e) f0 f1 f3 f4 f5;refine⟨_,rfl,go_of (s:={s with heap:=h',toks:=tk}) (n:= "range_iterator") st' rfl rfl (by decide) ⟨.int (lo+i),H,I1,⟨t,?_⟩,⟨rfl,rfl⟩,st',λb hb=>(hf b hb).1⟩⟩;rw[Int.mul_one]
 done:=by
  intro X hP hw hK hc i pins s σ H E I hf st hg;subst hP hw hK;obtain⟨f0,f1,f2,f3,f4,f5⟩:=hf it (by simp);exact wpAny_pyNext_range_end (I.ok.hd hc) st (by have:n<=i:=hg;omega) λh' eb=>⟨rfl,I.turned (t':=s.toks) (λb o hb e=>eb b o hb e) f0 f1 f3 f4 f5⟩
 self:=λ_ _ _ _ _ st h=>ahq st h
section
variable{X:Cx}{tg:aee}
theorem range_it{R:It->Hp->Prop}{lo hi:Int}{t u v:Tok}{tk:Nat}(I:Inv X pins σ H s)(h1: -(2^62)<=lo)(h2:lo<2^62)(h3: -(2^62)<=hi)(h4:hi<2^62)
  (q:R (Itr lo (hi - lo).toNat) H):aec (model X.prog X.w) X.A (pyIter (.ref s.heap.objs.size)) (PIE X pins σ tg R) E {s with heap:=s.heap.push {cls:= .type "range",data:= .fields #[.int lo t,.int hi u,.int 1 v]},toks:=tk}:=by
 refine wpAny_pyIter_range (IsRange.new ..) (small_one h1 h2 h3 h4) ?_;have I1:Inv X pins σ H {s with heap:=s.heap.push {cls:= .type "range",data:= .fields #[.int lo t,.int hi u,.int 1 v]},toks:=tk}:=I.kept λb o e=>z1a _ e;refine⟨(s.heap.push {cls:= .type "range",data:= .fields #[.int lo t,.int hi u,.int 1 v]}).objs.size,[(s.heap.push {cls:= .type "range",data:= .fields #[.int lo t,.int hi u,.int 1 v]}).objs.size],_,_,H,rfl,
  I1.kept (t':=tk) λb o e=>z1a _ e,turn_range _ lo (hi - lo).toNat,?_,λb hb=>?_,q⟩
 ·have e1:lo+((0:Nat):Int)*1=lo:=by simp
  have e2:(((hi - lo).toNat:Nat):Int) - ((0:Nat):Int)=afO lo hi 1:=by rw[ahs];split <;> omega
  show ah2 _ _ (lo+((0:Nat):Int)*1) ((((hi - lo).toNat:Nat):Int) - ((0:Nat):Int)) 1;rw[e1,e2];exact z1f _ rfl
 ·have e:b=(s.heap.push {cls:= .type "range",data:= .fields #[.int lo t,.int hi u,.int 1 v]}).objs.size:=by simpa using hb
  subst e;exact I1.fpOk (z0g _) (I1.hok.fresh (z0g _))
def iRng1(ta:TA):TI:=λσ H R=>ta σ H λvs H1=>∃j:Int,vs=[.int j]/\-(2^62)<=j/\j<2^62/\R (Itr 0 j.toNat) H1
def iRng2(ta:TA):TI:=λσ H R=>ta σ H λvs H1=>∃i j:Int,vs=[.int i,.int j]/\(-(2^62)<=i/\i<2^62/\-(2^62)<=j/\j<2^62)/\R (Itr i (j - i).toNat) H1
theorem pi_range1{a:aee}{ta:TA}{p pos:Pos}(hg:Gl X "range")(hm:X.mg "range" =none)(ha:PA X [a] ta)(hs:aea [a] X.env=[(false,eval a X.env)]:=by rfl):PI X tg (.Call (.Name "range" p) [a] [] pos) (iRng1 ta):=by
 intro pins s σ H R I h;refine Call_ (ld_blt I hg hm boot_range (ae1 (thn (ha pos pins s σ H _ I h) λus s1 ⟨vs,H1,I1,r1,q1⟩=>?_) hs rfl));obtain⟨j,e,q1,q2,q⟩:=q1;subst e;cases r1 with
 | cons r rr=>
  cases rr;obtain⟨t,rfl⟩:=r;exact call_range_1 (range_it I1 (by omega) (by omega) q1 q2 (by simpa using q))
theorem pi_range2{a b:aee}{ta:TA}{p pos:Pos}(hg:Gl X "range")(hm:X.mg "range" =none)(ha:PA X [a,b] ta)(hs:aea [a,b] X.env=[(false,eval a X.env),(false,eval b X.env)]:=by rfl)(hs2:aea [b] X.env=[(false,eval b X.env)]:=by rfl):
  PI X tg (.Call (.Name "range" p) [a,b] [] pos) (iRng2 ta):=by
 intro pins s σ H R I h;refine Call_ (ld_blt I hg hm boot_range (ae1 (thn (ha pos pins s σ H _ I h) λus s1 ⟨vs,H1,I1,r1,q1⟩=>?_) (by rw[hs,hs2]) (by rw[hs2];rfl)));obtain⟨i,j,e,⟨q1,q2,q3,q4⟩,q⟩:=q1;subst e;cases r1 with
 | cons r rr=>
  cases rr with
  | cons r' rr=>
   cases rr;obtain⟨t,rfl⟩:=r;obtain⟨t',rfl⟩:=r';exact call_range_2 (range_it I1 q1 q2 q3 q4 q)
def tFor(wi:TI)(g:TG)(tb:TS):TS:=λD σ H=>wi σ H λJ H1=>∃W:Nat->Nat->St->Hp->Prop,(∃m,W 0 m σ H1)/\∀i m σ H,W i m σ H->
 (J.stop i H/\D.nx σ H)\/(J.go i H/\∃N:St->Hp->Prop,(∀σ' H',N σ' H'->∃m',m'<m/\W (i+1) m' σ' H')/\∀x H',J.yld i H x H'->g x σ H' λσ2 H2=>tb {D with nx:=N,ct:=N,bk:=D.nx} σ2 H2)
def pinsAt(fp:List ad5)(h:aeo):List (ad5×Obj):=fp.filterMap λb=>(h.get? b).map λo=>(b,o)
theorem mem_pinsAt{fp:List ad5}{b:ad5}{o:Obj}(hb:b∈fp)(e:h.get? b=some o):(b,o)∈pinsAt fp h:=ah9.mpr ⟨b,hb,by rw[e];rfl⟩
theorem of_pinsAt{fp:List ad5}{p:ad5×Obj}(hp:p∈pinsAt fp h):p.1∈fp/\h.get? p.1=some p.2:=by
 obtain⟨b,hb,e⟩:=ah9.mp hp;cases q:h.get? b with
 |none=>rw[q] at e;cases e
 | some o=>
  rw[q] at e;have e':(b,o)=p:=aeg e;subst e';exact⟨hb,q⟩
theorem Inv.pinned{fp:List ad5}(I:Inv X pins σ H s)(hf:∀b∈fp,FpOk X pins H b)(ho:∀b∈fp,∃o,s.heap.get? b=some o/\∀v,o.data≠.cell v):Inv X (pins++pinsAt fp s.heap) σ H s:=
 I.pins_of λp hp=>(afF.mp hp).elim (λz=>I.pin p (aeC _ z)) λz=>by
  obtain⟨hb,e⟩:=of_pinsAt z;obtain⟨f0,f1,f2,_⟩:=hf p.1 hb;obtain⟨o,e',d⟩:=ho p.1 hb;rw[e] at e';cases e';exact⟨e,f0,f1,f2,d⟩
theorem Inv.unpinned{pl:List (ad5×Obj)}(I:Inv X (pins++pl) σ H s):Inv X pins σ H s:=I.pins_of λp hp=>I.pin p (aeC _ (ahL _ hp))
inductive XC (X:Cx) (pins:List (ad5×Obj)) (tn:Nat->aeo->Prop) (fp:List ad5) (W:Nat->Nat->St->Hp->Prop) (n:Nat) (s':ad8):Prop
 |mk (i:Nat) (σ':St) (H':Hp) (I:Inv X pins σ' H' s') (st:tn i s'.heap) (fr:∀b∈fp,H' b=none) (w:W i n σ' H'):XC X pins tn fp W n s'
theorem ps_for{iter:aee}{wi:TI}{g:TG}{tb:TS}{pos:Pos}(hp:PassesOwn (model X.prog X.w) X.A X.env X.xe)(hc:X.calm=true)(hi:PI X tg iter wi)(hg:PG X tg g)(hb:PSs X body tb)
  (hs:∀x,afo iter X.env x=pure x:=by intro _;rfl):PS X (.For tg iter body [] pos) (tFor wi g tb):=by
 intro pins s σ H D I h;refine wpAny_For (thn (hi pins s σ H _ I h) λv s1 h1=>thn h1 λitv s2 h2=>?_) hs;obtain⟨it,fp,tn,J,H2,e,I2,T,st2,f2,W,⟨m0,w0⟩,turn⟩:=h2;subst e;have stat:∀{H':Hp},(∀b∈fp,H' b=none)->∀b∈fp,FpOk X pins H' b:=λhn b hb=>⟨hn b hb,(f2 b hb).2⟩;refine codeAny_forLoop_any (λn s'=>XC X pins tn fp W n s') ?_ m0 ⟨0,σ,H2,I2,st2,λb hb=>(f2 b hb).1,w0⟩
 rintro n s3 ⟨i,σ3,H3,I3,st3,fr3,w3⟩
 rcases turn i n σ3 H3 w3 with⟨stop,qn⟩ |⟨go,N,hN,step⟩
 ·refine agm hp (thn (T.done X rfl rfl rfl hc i pins s3 σ3 H3 X.xe I3 (stat fr3) st3 stop) λr s4 bJ=>?_);obtain⟨hr,I4⟩:=bJ;subst hr;exact ag3 ⟨σ3,H3,I4,qn⟩
 ·refine agm hp (thn (T.item X rfl rfl rfl hc i pins s3 σ3 H3 X.xe I3 (stat fr3) st3 go) λr s4 bJ=>?_);obtain⟨u,hr,h4⟩:=bJ;subst hr;refine agm hp (thn h4 λ_ s5 bJ=>?_);obtain⟨x,H5,I5,r5,y5,st5,fr5⟩:=bJ;have I5':=I5.pinned (stat fr5) (T.obj _ _ st5);refine agm hp (thn (hg _ s5 σ3 H5 x u _ I5' r5 (step x H5 y5)) λ_ s6 bJ=>?_);obtain⟨σ6,H6,I6,q6⟩:=bJ;refine agm hp (thn (hb _ s6 σ6 H6 _ I6 q6) λf s7 q7=>?_);have again:∀{σ7:St} {H7:Hp},Inv X (pins++pinsAt fp s5.heap) σ7 H7 s7->N σ7 H7->∃m,m<n/\XC X pins tn fp W m s7:=λ{σ7 H7} I7 n7=>by
   obtain⟨m',hm,w7⟩:=hN σ7 H7 n7;refine⟨m',hm,i+1,σ7,H7,I7.unpinned,T.keep _ _ _ st5 λb hb o e=>(I7.pin (b,o) (aeC _ (aeC _ (mem_pinsAt hb e)))).1,λb hb=>?_,w7⟩;obtain⟨o,e,d⟩:=T.obj _ _ st5 b hb;exact (I7.pin (b,o) (aeC _ (aeC _ (mem_pinsAt hb e)))).2.1
  cases f with
  |next=>obtain⟨σ7,H7,I7,n7⟩:=q7;exact again I7 n7
  |cont=>obtain⟨σ7,H7,I7,n7⟩:=q7;exact again I7 n7
  |brk=>obtain⟨σ7,H7,I7,q7⟩:=q7;exact⟨σ7,H7,I7.unpinned,q7⟩
  |ret v=>obtain⟨x7,σ7,H7,I7,r7,q7⟩:=q7;exact⟨x7,σ7,H7,I7.unpinned,r7,q7⟩
end
abbrev R2:=V->V->Hp->VK->Prop
def OpR(X:Cx)(f:ad7->ad7->Sem ad7)(r:R2):Prop:=
 ∀(pins:List (ad5×Obj)) (s:ad8) (σ:St) (H:Hp) (x y:V) (v u:ad7) (Q:VK),Inv X pins σ H s->RelV x v->RelV y u->r x y H Q->
  aec (model X.prog X.w) X.A (f v u) (EP X pins σ Q) X.xe s
def UnR(X:Cx)(f:ad7->Sem ad7)(r:V->Hp->VK->Prop):Prop:=
 ∀(pins:List (ad5×Obj)) (s:ad8) (σ:St) (H:Hp) (x:V) (v:ad7) (Q:VK),Inv X pins σ H s->RelV x v->r x H Q->
  aec (model X.prog X.w) X.A (f v) (EP X pins σ Q) X.xe s
def CallR(X:Cx)(f:ad7)(r:List V->Hp->VK->Prop):Prop:=
 ∀(pins:List (ad5×Obj)) (s:ad8) (σ:St) (H:Hp) (xs:List V) (us:List ad7) (Q:VK),Inv X pins σ H s->Vals xs us->r xs H Q->
  aec (model X.prog X.w) X.A (call f us) (EP X pins σ Q) X.xe s
def TruR(X:Cx)(r:V->Hp->(Bool->Hp->Prop)->Prop):Prop:=
 ∀(pins:List (ad5×Obj)) (s:ad8) (σ:St) (H:Hp) (x:V) (v:ad7) (Q:Bool->Hp->Prop),Inv X pins σ H s->RelV x v->r x H Q->
  aec (model X.prog X.w) X.A (truthy v) (TP X pins σ Q) X.xe s
def tOp(r:R2)(ta tb:TE):TE:=λσ H Q=>ta σ H λx H1=>tb σ H1 λy H2=>r x y H2 Q
def tUn(r:V->Hp->VK->Prop)(ta:TE):TE:=λσ H Q=>ta σ H λx H1=>r x H1 Q
def rI(C:Int->Int->Prop)(g:Int->Int->V):R2:=λx y H Q=>∃i j,x= .int i/\y= .int j/\C i j/\Q (g i j) H
def rI0(g:Int->Int->V):R2:=λx y H Q=>∃i j,x= .int i/\y= .int j/\Q (g i j) H
def rU(g:Int->V):V->Hp->VK->Prop:=λx H Q=>∃i,x= .int i/\Q (g i) H
section
variable{X:Cx}{a b c:aee}{ta tb tc:TE}{pos:Pos}
theorem binT(ha:PE X a ta)(hb:PE X b tb){R:V->V->Hp->Prop}(I:Inv X pins σ H s)
  (h:ta σ H λx H1=>tb σ H1 λy H2=>R x y H2){Q:ad7->ad8->Prop}
  (hf:∀v u s2 x y H2,Inv X pins σ H2 s2->RelV x v->RelV y u->R x y H2->aec (model X.prog X.w) X.A (f v u) Q X.xe s2):
  aec (model X.prog X.w) X.A (eval a X.env) (λv s₁=>aec (model X.prog X.w) X.A (eval b X.env) (λu s₂=>aec (model X.prog X.w) X.A (f v u) Q X.xe s₂) X.xe s₁) X.xe s:=by
 refine thn (ha pins s σ H _ I h) λv s1 bJ=>?_;obtain⟨x,H1,I1,r1,q1⟩:=bJ;refine thn (hb pins s1 σ H1 _ I1 q1) λu s2 bJ=>?_;obtain⟨y,H2,I2,r2,q2⟩:=bJ;exact hf v u s2 x y H2 I2 r1 r2 q2
theorem pe_op{op:Operator}(ho:OpR X (afj op) r)(ha:PE X a ta)(hb:PE X b tb):PE X (.BinOp a op b pos) (tOp r ta tb):=by
 intro pins s σ H Q I h;exact wpAny_BinOp (binT ha hb I h λv u s2 x y H2 I2 rx ry q=>ho pins s2 σ H2 x y v u Q I2 rx ry q)
theorem pe_un{op:UnaryOp}{r:V->Hp->VK->Prop}(ho:UnR X (unaryOp op) r)(ha:PE X a ta):PE X (.UnaryOp op a pos) (tUn r ta):=by
 intro pins s σ H Q I h;exact UnaryOp_ (thn (ha pins s σ H _ I h) λv s1 ⟨x,H1,I1,r1,q1⟩=>ho pins s1 σ H1 x v Q I1 r1 q1)
theorem opI{C:Int->Int->Prop}{g:Int->Int->Int}
  (rule:∀(i j:Int) (t u:Tok) (s:ad8) (Q:ad7->ad8->Prop) (E:ad7->ad8->Prop),C i j->Q (.int (g i j) s.toks) {s with toks:=s.toks+1}->aec (model X.prog X.w) X.A (f (.int i t) (.int j u)) Q E s):
  OpR X f (rI C λi j=> .int (g i j)):=by
 intro pins s σ H x y v u Q I rx ry h;obtain⟨i,j,rfl,rfl,hc,q⟩:=h;obtain⟨t,rfl⟩:=rx;obtain⟨t',rfl⟩:=ry;exact rule i j t t' s _ _ hc ⟨.int (g i j),H,I.tok _,⟨_,rfl⟩,q⟩
theorem opI0{g:Int->Int->Int}
  (rule:∀(i j:Int) (t u:Tok) (s:ad8) (Q:ad7->ad8->Prop) (E:ad7->ad8->Prop),Q (.int (g i j) s.toks) {s with toks:=s.toks+1}->aec (model X.prog X.w) X.A (f (.int i t) (.int j u)) Q E s):
  OpR X f (rI0 λi j=> .int (g i j)):=by
 intro pins s σ H x y v u Q I rx ry h;obtain⟨i,j,rfl,rfl,q⟩:=h;obtain⟨t,rfl⟩:=rx;obtain⟨t',rfl⟩:=ry;exact rule i j t t' s _ _ ⟨.int (g i j),H,I.tok _,⟨_,rfl⟩,q⟩
theorem opB0{g:Int->Int->Bool}
  (rule:∀(i j:Int) (t u:Tok) (s:ad8) (Q:ad7->ad8->Prop) (E:ad7->ad8->Prop),Q (.bool (g i j)) s->aec (model X.prog X.w) X.A (f (.int i t) (.int j u)) Q E s):
  OpR X f (rI0 λi j=> .bl (g i j)):=by
 intro pins s σ H x y v u Q I rx ry h;obtain⟨i,j,rfl,rfl,q⟩:=h;obtain⟨t,rfl⟩:=rx;obtain⟨t',rfl⟩:=ry;exact rule i j t t' s _ _ ⟨.bl (g i j),H,I,rfl,q⟩
def CPow(i j:Int):Prop:=0<=j/\j<=1000000/\i.natAbs<2^64
def CMul(i j:Int):Prop:=(-(2^64)<i/\i<2^64)\/(-(2^64)<j/\j<2^64)
theorem CMul.ok{i j:Int}(h:CMul i j):IntMulOk i j:=by
 rcases h with⟨h1,h2⟩ |⟨h1,h2⟩
 ·exact .of_left (intBits_le_64 h1 h2)
 ·exact .of_right (intBits_le_64 h1 h2)
theorem op_add:OpR X (afj .Add) (rI0 λi j=> .int (i+j)):=opI0 λ_ _ _ _ _ _ _ q=>add_int q
theorem op_sub:OpR X (afj .Sub) (rI0 λi j=> .int (i - j)):=opI0 λ_ _ _ _ _ _ _ q=>sub_int q
theorem op_mul:OpR X (afj .Mult) (rI CMul λi j=> .int (i*j)):=opI λ_ _ _ _ _ _ _ hc q=>mul_int q hc.ok
theorem op_mod:OpR X (afj .Mod) (rI (λ_ j=>0<j) λi j=> .int (i % j)):=opI λi j _ _ _ _ _ hc q=>by
 have h1:(0:Int)<j:=hc;exact mod_int' (by omega) (by rw[Int.fmod_eq_emod_of_nonneg i (by omega)];exact q)
theorem op_pow:OpR X (afj .Pow) (rI CPow λi j=> .int (i^j.toNat)):=opI λ_ _ _ _ _ _ _ hc q=>pow_int_small hc.1 hc.2.1 hc.2.2 q
theorem unI{f:ad7->Sem ad7}{g:Int->Int}
  (rule:∀(i:Int) (t:Tok) (s:ad8) (Q:ad7->ad8->Prop) (E:ad7->ad8->Prop),Q (.int (g i) s.toks) {s with toks:=s.toks+1}->aec (model X.prog X.w) X.A (f (.int i t)) Q E s):
  UnR X f (rU λi=> .int (g i)):=by
 intro pins s σ H x v Q I rx h;obtain⟨i,rfl,q⟩:=h;obtain⟨t,rfl⟩:=rx;exact rule i t s _ _ ⟨.int (g i),H,I.tok _,⟨_,rfl⟩,q⟩
theorem un_neg:UnR X (unaryOp .USub) (rU λi=> .int (-i)):=unI λ_ _ _ _ _ q=>neg_int q
end
section
variable{X:Cx}{a b c:aee}{ta tb tc:TE}{pos:Pos}
theorem fin_bl{Q:VK}{k k':Bool}(I:Inv X pins σ H s)(q:Q (.bl k) H)(e:k=k'):EP X pins σ Q (.bool k') s:=by
 subst e;exact⟨.bl k,H,I,rfl,q⟩
theorem op_lt:OpR X (aex .Lt) (rI0 λi j=> .bl (decide (i<j))):=opB0 λ_ _ _ _ _ _ _ q=>lt_int q
theorem op_le:OpR X (aex .LtE) (rI0 λi j=> .bl (decide (i<=j))):=opB0 λ_ _ _ _ _ _ _ q=>le_int q
theorem op_gt:OpR X (aex .Gt) (rI0 λi j=> .bl (decide (j<i))):=opB0 λ_ _ _ _ _ _ _ q=>gt_int q
theorem op_ge:OpR X (aex .GtE) (rI0 λi j=> .bl (decide (j<=i))):=opB0 λ_ _ _ _ _ _ _ q=>ge_int q
theorem op_isN:OpR X (aex .Is) (λx y H Q=>y= .non/\Q (.bl (decide (x= .non))) H):=by
 intro pins s σ H x y v u Q I rx ry h;obtain⟨rfl,q⟩:=h;cases ry;refine is_none_gen (fin_bl I q ?_);cases x <;> first
  |(cases rx;rfl)
  |(obtain⟨t,rfl⟩:=rx;rfl)
theorem op_notN:OpR X (aex .IsNot) (λx y H Q=>y= .non/\Q (.bl (!decide (x= .non))) H):=by
 intro pins s σ H x y v u Q I rx ry h;obtain⟨rfl,q⟩:=h;cases ry;refine isnot_none_gen (fin_bl I q ?_);cases x <;> first
  |(cases rx;rfl)
  |(obtain⟨t,rfl⟩:=rx;rfl)
theorem OpR.or{r':R2}(h:OpR X f r)(h':OpR X f r'):OpR X f (λx y H Q=>r x y H Q\/r' x y H Q):=by
 intro pins s σ H x y v u Q I rx ry q;rcases q with q |q
 ·exact h pins s σ H x y v u Q I rx ry q
 ·exact h' pins s σ H x y v u Q I rx ry q
theorem nomark(b:aee){op:CmpOp}(h:op≠.In:=by decide)(h2:op≠.NotIn:=by decide):agf op b=false:=by
 have e1:(op ==CmpOp.In)=false:=by cases op <;> first |rfl |exact absurd rfl h
 have e2:(op ==CmpOp.NotIn)=false:=by cases op <;> first |rfl |exact absurd rfl h2
 cases b <;> simp[agf,e1,e2]
theorem pe_cmpR{op:CmpOp}(ho:OpR X (aex op) r)(ha:PE X a ta)(hb:PE X b tb)(hm:agf op b=false):PE X (.Compare a [op] [b] pos) (tOp r ta tb):=by
 intro pins s σ H Q I h;exact wpAny_Compare1 (binT ha hb I h λv u s2 x y H2 I2 rx ry q=>ho pins s2 σ H2 x y v u Q I2 rx ry q) hm
def tTest(t:TE):TT:=λσ H Q=>t σ H λx H'=>∃k,x= .bl k/\Q k H'
theorem pt_cmpR{op:CmpOp}(ho:OpR X (aex op) r)(ha:PE X a ta)(hb:PE X b tb)(hm:agf op b=false):PT X (.Compare a [op] [b] pos) (tTest (tOp r ta tb)):=by
 intro pins s σ H Q I h;refine wpAny_isTrue_Compare1 (thn (ha pins s σ H _ I h) λv s1 ⟨x,H1,I1,r1,q1⟩=>thn (hb pins s1 σ H1 _ I1 q1) λu s2 ⟨y,H2,I2,r2,q2⟩=>
  thn (ho pins s2 σ H2 x y v u _ I2 r1 r2 q2) λc s3 ⟨z,H3,I3,r3,k,e,q3⟩=>?_) hm
 subst e;cases r3;exact afu ⟨H3,I3,q3⟩
def tChain(r r':R2)(ta tb tc:TE):TE:=λσ H Q=>ta σ H λx H1=>tb σ H1 λy H2=>r x y H2 λz H3=>∃k,z= .bl k/\
 (if k=true then tc σ H3 λw' H4=>r' y w' H4 Q else Q (.bl false) H3)
theorem pe_chain{op op':CmpOp}{r':R2}(ho:OpR X (aex op) r)(ho':OpR X (aex op') r')(ha:PE X a ta)(hb:PE X b tb)(hc:PE X c tc)
  (hm:lastMarks [op,op'] [b,c]=false:=by with_unfolding_all rfl):PE X (.Compare a [op,op'] [b,c] pos) (tChain r r' ta tb tc):=by
 intro pins s σ H Q I h;refine Compare_chain (thn (ha pins s σ H _ I h) λv s1 ⟨x,H1,I1,r1,q1⟩=>chain_link (thn (hb pins s1 σ H1 _ I1 q1) λu s2 ⟨y,H2,I2,r2,q2⟩=>
  thn (ho pins s2 σ H2 x y v u _ I2 r1 r2 q2) λd s3 ⟨z,H3,I3,r3,k,e,q3⟩=>?_)) hm
 subst e;cases r3;refine afu ?_;cases k with
 |false=>exact ite_ff ⟨.bl false,H3,I3,rfl,q3⟩
 |true=>exact ite_tt (chain_last (thn (hc pins s3 σ H3 _ I3 q3) λw' s4 ⟨z',H4,I4,r4,q4⟩=>ho' pins s4 σ H4 y z' u w' Q I4 r2 r4 q4))
theorem pt_chain{op op':CmpOp}{r':R2}(ho:OpR X (aex op) r)(ho':OpR X (aex op') r')(ha:PE X a ta)(hb:PE X b tb)(hc:PE X c tc)
  (hm:lastMarks [op,op'] [b,c]=false:=by with_unfolding_all rfl):PT X (.Compare a [op,op'] [b,c] pos) (tTest (tChain r r' ta tb tc)):=by
 intro pins s σ H Q I h;refine isTrue_chain (thn (ha pins s σ H _ I h) λv s1 ⟨x,H1,I1,r1,q1⟩=>test_link (thn (hb pins s1 σ H1 _ I1 q1) λu s2 ⟨y,H2,I2,r2,q2⟩=>
  thn (ho pins s2 σ H2 x y v u _ I2 r1 r2 q2) λd s3 ⟨z,H3,I3,r3,k,e,q3⟩=>?_)) hm
 subst e;cases r3;refine afu ?_;cases k with
 | false=>
  obtain⟨k',e',q'⟩:=q3;cases e';exact ite_ff ⟨H3,I3,q'⟩
 | true=>
  refine ite_tt (test_last (thn (hc pins s3 σ H3 _ I3 q3) λw' s4 ⟨z',H4,I4,r4,q4⟩=>thn (ho' pins s4 σ H4 y z' u w' _ I4 r2 r4 q4) λd' s5 bJ=>?_));obtain⟨z2,H5,I5,r5,k2,e2,q5⟩:=bJ;subst e2;cases r5;exact afu ⟨H5,I5,q5⟩
def TruV(K:PySem.W.Frag)(x:V)(H:Hp)(k:Bool):Prop:=
 match x with
 | .non=>k=false
 | .bl b=>k=b
 | .int i=>k=(i !=0)
 | .str y=>y.length<=sizeLine/\k=((y.length:Int) !=0)
 | .byt y=>y.size<=sizeLine/\k=((y.size:Int) !=0)
 | .ref p=>(∃xs,SqL K H p xs/\k= !xs.isEmpty)\/(∃xs,SqT K H p xs/\k= !xs.isEmpty)\/∃kvs,H p=some (.dK kvs)/\k= !kvs.isEmpty
 |_=>False
theorem isEmpty_kv{κ:Type}{kvs:List (κ×V)}{vs:List (κ×ad7)}(r:KV kvs vs):(!vs.isEmpty)= !kvs.isEmpty:=by
 cases r <;> rfl
theorem isEmpty_of{xs:List V}{its:List ad7}(r:Vals xs its):(!its.toArray.isEmpty)= !xs.isEmpty:=by
 cases r <;> simp
theorem line63:(sizeLine:Nat)<2^63:=by rw[aft];decide
theorem tru_ok:TruR X (λx H Q=>∃k,TruV X.K x H k/\Q k H):=by
 intro pins s σ H x v Q I rx h;obtain⟨k,e,q⟩:=h;have hl:=line63;have hs:sizeLine=16777216:=aft;cases x with
 | non=>
  cases rx;have e':k=false:=e;subst e';exact truthy_none ⟨H,I,q⟩
 | bl b=>
  cases rx;have e':k=b:=e;subst e';exact afu ⟨H,I,q⟩
 | int i=>
  obtain⟨t,rfl⟩:=rx;have e':k=(i !=0):=e;subst e';exact PySem.P.truthy_int ⟨H,I,q⟩
 | str y=>
  obtain⟨t,rfl⟩:=rx;obtain⟨hy,e'⟩:y.length<=sizeLine/\k=((y.length:Int) !=0):=e;subst e';exact PySem.P.truthy_str (by omega) ⟨H,I.tok _,q⟩
 | byt y=>
  obtain⟨t,rfl⟩:=rx;obtain⟨hy,e'⟩:y.size<=sizeLine/\k=((y.size:Int) !=0):=e;subst e';exact PySem.W.truthy_bytes (by omega) ⟨H,I.tok _,q⟩
 | ref p=>
  cases rx;have e':(∃xs,SqL X.K H p xs/\k= !xs.isEmpty)\/(∃xs,SqT X.K H p xs/\k= !xs.isEmpty)\/∃kvs,H p=some (.dK kvs)/\k= !kvs.isEmpty:=e;rcases e' with⟨xs,hx,e'⟩ |⟨xs,hx,e'⟩ |⟨kvs,hx,e'⟩
  ·subst e';obtain⟨its,r,pl,hz⟩:=I.list hx;have hlen:=r.length;exact wpAny_truthy_list pl.isList (by simp only[z1c];omega) ⟨H,I.tok _,by rw[isEmpty_of r];exact q⟩
  ·subst e';obtain⟨its,r,pl,hz⟩:=I.tuple hx;have hlen:=r.length;exact truthy_tuple pl (by simp only[z1c];omega) ⟨H,I.tok _,by rw[isEmpty_of r];exact q⟩
  ·subst e';obtain⟨hz,hS,vs,r,m⟩:kvs.length<=sizeLine/\(p ==sysModules)=false/\∃vs,KV kvs vs/\s.heap.DictOf (mixKind X.prog X.w) p vs:=I.hok p _ hx;have hlen:kvs.length=vs.length:=Paired.length r;exact wpAny_truthy_dict hS m (by omega) ⟨H,I.tok _,by rw[isEmpty_kv r];exact q⟩
 |_=>exact (show False from e).elim
theorem pt_truth(ha:PE X a ta)(he:∀whole,isTrue a X.env whole=(do let v <-whole;ahC a.pos;holding [v] (truthy v))):
  PT X a (λσ H Q=>ta σ H λx H'=>∃k,TruV X.K x H' k/\Q k H'):=by
 intro pins s σ H Q I h;exact isTrue_plain (thn (ha pins s σ H _ I h) λv s1 ⟨x,H1,I1,r1,q1⟩=>tru_ok pins s1 σ H1 x v Q I1 r1 q1) (he _)
theorem vals1{x:V}(r:Vals [x] us):∃u,us=[u]/\RelV x u:=by
 cases r with
 |cons r1 r2=>cases r2;exact⟨_,rfl,r1⟩
theorem vals2{x y:V}(r:Vals [x,y] us):∃u w',us=[u,w']/\RelV x u/\RelV y w':=by
 cases r with
 | cons r1 r2=>
  cases r2 with
  |cons r3 r4=>cases r4;exact⟨_,_,rfl,r1,r3⟩
theorem call_abs:CallR X (.builtin "abs") (λxs H Q=>∃i,xs=[.int i]/\Q (.int (if i<0 then -i else i)) H):=by
 intro pins s σ H xs us Q I r h;obtain⟨i,rfl,q⟩:=h;obtain⟨u,rfl,t,rfl⟩:=vals1 r;exact call_abs_int λu tk=>⟨.int (if i<0 then -i else i),H,I.tok _,⟨_,rfl⟩,q⟩
theorem call_max2(hc:X.calm=true):CallR X (.builtin "max") (λxs H Q=>∃i j,xs=[.int i,.int j]/\Q (.int (if j > i then j else i)) H):=by
 intro pins s σ H xs us Q I r h;obtain⟨i,j,rfl,q⟩:=h;obtain⟨u,w',rfl,⟨t,rfl⟩,⟨t',rfl⟩⟩:=vals2 r;refine max_two_ints (I.ok.hd hc) λh' tk k=>⟨_,H,I.kept k,?_,q⟩;by_cases hj:j > i
 ·rw[if_pos hj,if_pos hj];exact⟨_,rfl⟩
 ·rw[if_neg hj,if_neg hj];exact⟨_,rfl⟩
theorem call_min2(hc:X.calm=true):CallR X (.builtin "min") (λxs H Q=>∃i j,xs=[.int i,.int j]/\Q (.int (if j<i then j else i)) H):=by
 intro pins s σ H xs us Q I r h;obtain⟨i,j,rfl,q⟩:=h;obtain⟨u,w',rfl,⟨t,rfl⟩,⟨t',rfl⟩⟩:=vals2 r;refine min_two_ints (I.ok.hd hc) λh' tk k=>⟨_,H,I.kept k,?_,q⟩;by_cases hj:j<i
 ·rw[if_pos hj,if_pos hj];exact⟨_,rfl⟩
 ·rw[if_neg hj,if_neg hj];exact⟨_,rfl⟩
end
section
variable{prog:aek}{w:aep}{A:aer}{E:ad7->ad8->Prop}{s:ad8}{K:PySem.W.Frag}{x dx C f:ad5}{mA:Str->Option ad7}{name:Str}{v:ad7}
end
section
variable{P:aek}{w:aep}{H H':Hp}{h h':aeo}{a C dx:ad5}{fs fs':List (Str×V)}
end
section
variable{X:Cx}{pins:List (ad5×Obj)}{σ:St}{H:Hp}{s:ad8}{a C dx:ad5}{fs:List (Str×V)}{f:Str}{v:V}{A:aer}{E:ad7->ad8->Prop}
end
section
variable{X:Cx}{o e value:aee}{f:Str}{pos pos' tpos:Pos}{ta tv:TE}
end
section
variable{X:Cx}{pins:List (ad5×Obj)}{σ:St}{H:Hp}{s:ad8}{A:aer}{E:ad7->ad8->Prop}{Q:ad7->ad8->Prop}{c:ad7}{b:Bool}
end
structure Room(k:Nat)(A:aer):Prop where
 hd:A.handled=none
 dp:A.depth+3*k+5<recursionLimit
 un:A.units+16*k+200<afJ
theorem Room.mono{j:Nat}(r:Room k A)(h:j<=k):Room j A:=⟨r.hd,by have:=r.dp;omega,by have:=r.un;omega⟩
theorem Room.deeper(r:Room (k+1) A)(env:Env):Room k (A.deeper env):=
 ⟨r.hd,by have:=r.dp;show A.depth+1+3*k+5<_;omega,by have:=r.un;show A.units+3+16*k+200<_;omega⟩
theorem Room.depth(r:Room k A):A.depth<recursionLimit:=by have:=r.dp;omega
def tNil:TA:=λ_ H Q=>Q [] H
def tCons(ta:TE)(tr:TA):TA:=λσ H Q=>ta σ H λx H1=>tr σ H1 λxs H2=>Q (x::xs) H2
section
variable{X:Cx}{e:aee}{es:List aee}{te:TE}{t:TA}{pos:Pos}
theorem pa_nil:PA X [] tNil:=λ_ _ _ _ H Q I h=>Calls.spliced_nil ⟨[],H,I,.nil,h⟩
theorem pa_cons(ha:PE X e te)(hr:PA X es t)(hs:aea (e::es) X.env=(false,eval e X.env)::aea es X.env:=by rfl):PA X (e::es) (tCons te t):=by
 intro pos pins s σ H Q I h;rw[hs];show aec _ _ (spliced ((false,eval e X.env)::aeR pos (aea es X.env))) _ _ s;refine Calls.spliced_cons (thn (ha pins s σ H _ I h) λu s1 bJ=>?_);obtain⟨x,H1,I1,r1,q1⟩:=bJ;refine thn (hr pos pins s1 σ H1 _ I1 q1) λus s2 bJ=>?_;obtain⟨xs,H2,I2,r2,q2⟩:=bJ;exact⟨x::xs,H2,I2,.cons r1 r2,q2⟩
def tTup(t:TA):TE:=λσ H Q=>t σ H λxs H1=>xs.length<=sizeLine/\∀p,H1 p=none->Q (.ref p) (upd H1 p (.tup xs))
def tLst(t:TA):TE:=λσ H Q=>t σ H λxs H1=>xs.length<=sizeLine/\∀p,H1 p=none->Q (.ref p) (upd H1 p (.lst xs))
theorem pe_tup{x1}(h:PA X es t):PE X (.Tuple es x1 pos) (tTup t):=by
 intro pins s σ H Q I hq;refine wpAny_Tuple_spliced (thn (h pos pins s σ H _ I hq) λus s1 ⟨xs,H1,I1,r,z,q⟩=>⟨by rw[<-r.length];exact z,?_⟩);have hf:H1 s1.heap.objs.size=none:=I1.hok.fresh (z0g _);refine⟨.ref s1.heap.objs.size,upd H1 s1.heap.objs.size (.tup xs),I1.laid (t':=s1.toks) (λb u e=>z1a _ e) (z0g _) ?_,rfl,q _ hf⟩;exact⟨z,us,r,⟨_,z1f _ rfl,rfl,rfl,_,rfl⟩⟩
theorem pe_lst(h:PA X es t):PE X (.List es pos) (tLst t):=by
 intro pins s σ H Q I hq;refine wpAny_List_spliced (thn (h pos pins s σ H _ I hq) λus s1 ⟨xs,H1,I1,r,z,q⟩=>⟨by rw[<-r.length];exact z,?_⟩);have hf:H1 s1.heap.objs.size=none:=I1.hok.fresh (z0g _);refine⟨.ref s1.heap.objs.size,upd H1 s1.heap.objs.size (.lst xs),I1.laid (t':=s1.toks) (λb u e=>z1a _ e) (z0g _) ?_,rfl,q _ hf⟩;exact⟨z,us,0,r,z1f _ rfl⟩
end
abbrev Sp:=List V->Hp->VK->XK->Prop
abbrev CXT:=List Env->Hp->ad8->XK->ad7->ad8->Prop
structure Env0(P:aek)(w:aep)(K:PySem.W.Frag)(mg:Str->Option ad7)(base:aeo)(A:aer)(outer:List Env)(s:ad8)(H:Hp):Prop where
 frames:A.frames=some outer
 mod:Mod K mg base
 bs:∀b o,base.get? b=some o->s.heap.get? b=some o/\H b=none
 bsz:base.objs.size<=s.heap.objs.size
 funs:s.heap.FunFrames base outer
 frf:∀b∈frs outer,H b=none
 hok:HOk P w H s.heap
 bare:agQ s.gens
inductive CE (outer:List Env) (P:aek) (w:aep) (H:Hp) (s:ad8) (Q:VK) (u:ad7) (s':ad8):Prop
 |mk (v:V) (H':Hp) (os:s'.os=s.os) (bare:agQ s'.gens) (un:Un (frs outer) [] H H' s.heap s'.heap) (hok:HOk P w H' s'.heap) (r:RelV v u) (q:Q v H'):CE outer P w H s Q u s'
def CR(CX:CXT)(outer:List Env)(P:aek)(w:aep)(H:Hp)(s:ad8)(Q:VK)(E:XK)(r:Result)(s':ad8):Prop:=
 match r with
 | .ok (.ret u)=>CE outer P w H s Q u s'
 | .ok _=>False
 | .error e=>CX outer H s E e s'
structure FnOk(P:aek)(w:aep)(K:PySem.W.Frag)(mg:Str->Option ad7)(base:aeo)(CX:CXT)(k:Nat)(f:ad5)(fd:aeU)(ps:List Str)(sp:Sp):Prop where
 len:∀vs H Q E,sp vs H Q E->vs.length=ps.length
 run:∀(A:aer) (outer:List Env) (s:ad8) (H:Hp) (args:Args) (us:List ad7) (vs:List V) (Q:VK) (E:XK),Room k A->Env0 P w K mg base A outer s H->ahh s fd args (ps.zip us)->Vals vs us->sp vs H Q E->
  ahi (model P w) A (.call (.ref f) args) (CR CX outer P w H s Q E) s
theorem FnOk.mono{j:Nat}{f:ad5}{fd:aeU}{sp:Sp}(F:FnOk P w K mg base CX j f fd ps sp)(h:j<=k):
  FnOk P w K mg base CX k f fd ps sp:=⟨F.len,λA outer s H args us vs Q E hr=>F.run A outer s H args us vs Q E (hr.mono h)⟩
section
variable{X:Cx}{pins:List (ad5×Obj)}{σ:St}{H:Hp}{s s':ad8}
theorem Inv.env0(I:Inv X pins σ H s):Env0 X.prog X.w X.K X.mg X.base X.A X.stack s H:=
 ⟨I.ok.frames,I.ok.mod,I.bs,z0b I.ok.bsz I.sz,I.stack,I.stkFree,I.hok,I.bare⟩
theorem Inv.after{Q:VK}{u:ad7}(I:Inv X pins σ H s)(h:CE X.stack X.prog X.w H s Q u s'):EP X pins σ Q u s':=by
 obtain⟨v,H',os,bare,un,hok,r,q⟩:=h;obtain⟨hh,g,d,t,os'⟩:=s';obtain rfl:os'=s.os:=os;exact⟨v,H',I.call (h':=hh) (g':=g) (d':=d) (t':=t) (ch:=[]) un hok bare (λb z=>absurd z (by simp)),r,q⟩
end
def tCall(sp:Sp)(dvs:List V)(E:XK)(t:TA):TE:=λσ H Q=>t σ H λvs H1=>sp (vs++dvs) H1 Q E
def Binds(K:PySem.W.Frag)(fd:aeU)(ps:List Str)(ds:List ad7):Prop:=
 ∀(s:ad8) (us:List ad7),K.In s.heap->(us++ds).length=ps.length->ahh s fd ⟨us,[]⟩ (ps.zip (us++ds))
theorem Binds.all{fd:aeU}(h:∀us:List ad7,us.length=ps.length->agh fd ⟨us,[]⟩=pure (ps.zip us)):Binds K fd ps []:=λs us _ hl=>by
 rw[aeK] at hl |-;exact .of_eq (h us hl)
def Passes(CX:CXT)(X:Cx)(E:XK):Prop:=∀(pins:List (ad5×Obj)) (σ:St) (H:Hp) (s:ad8) (e:ad7) (s':ad8),Inv X pins σ H s->CX X.stack H s E e s'->X.xe e s'
section
variable{X:Cx}{CX:CXT}{k:Nat}{f C:ad5}{fd:aeU}{ps:List Str}{sp:Sp}{dvs:List V}{ds:List ad7}{E:XK}{x m:Str}{p pos apos:Pos}{e o:aee}{es:List aee}{ta:TE}{t:TA}
theorem run_fn{Q:VK}{vs:List V}(F:FnOk X.prog X.w X.K X.mg X.base CX k f fd ps sp)(hr:Room k X.A)(hb:Binds X.K fd ps ds)(hd:Vals dvs ds)(hx:Passes CX X E)
  (I:Inv X pins σ H s)(r:Vals vs us)(h:sp (vs++dvs) H Q E):aec (model X.prog X.w) X.A (call (.ref f) us) (EP X pins σ Q) X.xe s:=by
 have r2:Vals (vs++dvs) (us++ds):=r.append hd;have hl:(us++ds).length=ps.length:=by rw[<-r2.length];exact F.len _ _ _ _ h
 refine ahj (agx (F.run X.A X.stack s H ⟨us,[]⟩ (us++ds) (vs++dvs) Q E hr I.env0 (hb s us I.kIn hl) r2 h) λr s' hq=>?_);cases r with
 |error e=>exact hx pins σ H s e s' I hq
 | ok fl=>
  cases fl with
  |ret u=>exact I.after hq
  |next=>exact aeJ hq
  |brk=>exact aeJ hq
  |cont=>exact aeJ hq
theorem pe_call(F:FnOk X.prog X.w X.K X.mg X.base CX k f fd ps sp)(hr:Room k X.A)(hg:Gl X x)(hm:X.mg x=some (.ref f))(hk:PySem.W.keepIn X.K (.ref f)=true)(hb:Binds X.K fd ps ds)(hd:Vals dvs ds)(hx:Passes CX X E)
  (ha:PA X (e::es) t)(hdb:(x ==("__debug__" :Str))=false:=by decide)(he:aea (e::es) X.env=(false,eval e X.env)::aea es X.env:=by rfl)(hpl:(aeR pos (aea es X.env)).any (·.1)=false:=by rfl):
  PE X (.Call (.Name x p) (e::es) [] pos) (tCall sp dvs E t):=by
 intro pins s σ H Q I h;refine af3 (ld_glob I hg hm ?_ hdb);refine PySem.W.callWith_K (h₀:=X.base) I.ok.mod.kin hk (thn (ha pos pins s σ H _ I h) λus s1 ⟨vs,H1,I1,r,q⟩=>⟨I1.kIn,?_⟩) he hpl;exact run_fn F hr hb hd hx I1 r q
end
def PK(X:Cx)(kws:List agc)(t:TA):Prop:=
 ∀(pos:Pos) (pins:List (ad5×Obj)) (s:ad8) (σ:St) (H:Hp) (Q:List V->Hp->Prop),Inv X pins σ H s->t σ H Q->aec (model X.prog X.w) X.A (evalAll ((agW pos (agk kws X.env)).map (·.2))) (AP X pins σ Q) X.xe s
section
variable{X:Cx}{CX:CXT}{k:Nat}{f C:ad5}{fd:aeU}{ps ks:List Str}{sp:Sp}{E:XK}{x m:Str}{p pos apos kpos:Pos}{e o:aee}{es:List aee}{kws:List agc}{te ta:TE}{t tk:TA}{nm:Option Str}
theorem pk_nil:PK X [] tNil:=λ_ _ _ _ H Q I h=>wpAny_evalAll_nil ⟨[],H,I,.nil,h⟩
theorem pk_cons(ha:PE X e te)(hr:PK X kws t):PK X (⟨nm,e,kpos⟩::kws) (tCons te t):=by
 intro pos pins s σ H Q I h;show aec _ _ (evalAll ((do let v <-eval e X.env;ahC pos;pure v)::(agW pos (agk kws X.env)).map (·.2))) _ _ s;refine wpAny_evalAll_cons (ad4 (thn (ha pins s σ H _ I h) λu s1 ⟨x,H1,I1,r1,q1⟩=>ad4 (agG (ad9 ?_))));refine thn (hr pos pins s1 σ H1 _ I1 q1) λus s2 bJ=>?_;obtain⟨xs,H2,I2,r2,q2⟩:=bJ;exact⟨x::xs,H2,I2,.cons r1 r2,q2⟩
variable{g:List ad7->List ad7->List ad7}{gV:List V->List V->List V}
end
structure FnScope(N P:List Str)(sc:afB):Prop where
 kind:sc.kind= .function
 co:sc.isCoroutine=false
 gen:sc.isGenerator=false
 nd:N.Nodup
 pre:N.take P.length=P
 par:∀x∈P,sc.names.lookup x=some .local\/sc.names.lookup x=some .cell
 nofree:∀y∈sc.names,y.2≠.free
theorem bindL_out{kindOf:Str->Option agy}{x:Str}:∀{binds:List (Str×ad7)} {m:Str->Option ad7},(∀v,(x,v)∉binds)->bindL kindOf binds m x=m x
 |[],_,_=>rfl
 | (n,v)::r,m,h=>by
  unfold bindL;rw[bindL_out λw hw=>h w (z2f _ hw)];split
  ·have:x≠n:=by rintro rfl;exact h v aen
   simp[this]
  ·rfl
theorem bindC_out{kindOf:Str->Option agy}{x:Str}:∀{binds:List (Str×ad7)} {m:Str->Option ad7},(∀v,(x,v)∉binds)->bindC kindOf binds m x=m x
 |[],_,_=>rfl
 | (n,v)::r,m,h=>by
  unfold bindC;rw[bindC_out λw hw=>h w (z2f _ hw)];split
  ·rfl
  ·have:x≠n:=by rintro rfl;exact h v aen
   simp[this]
theorem bindL_get{kindOf:Str->Option agy}{x:Str}{v:ad7}:∀{P:List Str} {vs:List ad7} {i:Nat} {m:Str->Option ad7},P.Nodup->P[i]?=some x->vs[i]?=some v->kindOf x=some .local->
  bindL kindOf (P.zip vs) m x=some v
 |[],_,_,_,_,h,_,_=>by simp at h
 |_::_,[],_,_,_,_,h,_=>by simp at h
 | p::P,w::vs,0,m,nd,h1,h2,hk=>by
  simp at h1 h2;subst h1;subst h2;show bindL kindOf ((p,w)::P.zip vs) m p=_;unfold bindL;rw[bindL_out λv hv=>(afq.mp nd).1 (ahM hv).1,if_pos hk];simp
 | p::P,w::vs,i+1,m,nd,h1,h2,hk=>by
  show bindL kindOf ((p,w)::P.zip vs) m x=_;unfold bindL;exact bindL_get (i:=i) (afq.mp nd).2 (by simpa using h1) (by simpa using h2) hk
theorem bindC_get{kindOf:Str->Option agy}{x:Str}{v:ad7}:∀{P:List Str} {vs:List ad7} {i:Nat} {m:Str->Option ad7},P.Nodup->P[i]?=some x->vs[i]?=some v->kindOf x≠some .local->
  bindC kindOf (P.zip vs) m x=some v
 |[],_,_,_,_,h,_,_=>by simp at h
 |_::_,[],_,_,_,_,h,_=>by simp at h
 | p::P,w::vs,0,m,nd,h1,h2,hk=>by
  simp at h1 h2;subst h1;subst h2;show bindC kindOf ((p,w)::P.zip vs) m p=_;unfold bindC;rw[bindC_out λv hv=>(afq.mp nd).1 (ahM hv).1,if_neg hk];simp
 | p::P,w::vs,i+1,m,nd,h1,h2,hk=>by
  show bindC kindOf ((p,w)::P.zip vs) m x=_;unfold bindC;exact bindC_get (i:=i) (afq.mp nd).2 (by simpa using h1) (by simpa using h2) hk
def start(N:List Str)(vs:List V):St:=vs.map some++aeb (N.length - vs.length) none
def cxOf(CX:CXT)(P:aek)(w:aep)(K:PySem.W.Frag)(mg:Str->Option ad7)(base:aeo)(N:List Str)(qual:Str)(scope:afB)(f:ad5)(cd:ad7)(A:aer)(outer:List Env)(s:ad8)(H:Hp)(E:XK):Cx where
 prog:=P
 w:=w
 K:=K
 mg:=mg
 base:=base
 A:=A.deeper (afP qual scope s.heap.objs.size f cd)
 N:=N
 s₀:=s
 H₀:=H
 env:=afP qual scope s.heap.objs.size f cd
 outer:=outer
 stack:=afP qual scope s.heap.objs.size f cd::outer
 ex:=[]
 calm:=true
 fn:=λ_=>true
 pn:=[]
 xe:=λe s'=>aec (model P w) (A.deeper (afP qual scope s.heap.objs.size f cd)) (leaving (afP qual scope s.heap.objs.size f cd) e) (λ_ s''=>CX outer H s E e s'') (λe' s''=>CX outer H s E e' s'') s'
theorem cell_has{sc:afB}{n:Nat}{x:Str}(h:sc.names.lookup x=some .cell):∃c,(aey n sc.names []).lookup x=some c:=by
 have q:=PySem.W.cellsFrom_some sc.names n [] (.inl h);exact afw.mp q
theorem inv_start{qual:Str}{scope:afB}{f:ad5}{cd:ad7}{outer:List Env}{s1:ad8}{E:XK}{vs:List V}
  (S:FnScope N ps scope)(hd:A.handled=none)(e0:Env0 P w K mg base A outer s H)(hl:vs.length=ps.length)(r:Vals vs us)
  (x:InCallC s s.heap.objs.size (bindL (afP qual scope s.heap.objs.size f cd).kindOf (ps.zip us) λ_=>none) (aey (s.heap.objs.size+1) scope.names []) (bindC (afP qual scope s.heap.objs.size f cd).kindOf (ps.zip us) λ_=>none) s1):
  Inv (cxOf CX P w K mg base N qual scope f cd A outer s H E) [] (start N vs) H s1:=by
 have hpl:ps.length<=N.length:=by have:=congrArg ah3 S.pre;rw[afk] at this;omega
 obtain⟨h1,tk,rfl,hk⟩:=x.done;have noA:∀b:ad5,b∉(cxOf CX P w K mg base N qual scope f cd A outer s H E).ex:=λb z=>absurd (show b∈([]:List ad5) from z) (by simp);refine⟨⟨e0.mod,S.kind,rfl,rfl,z0g _,λy z c h1 h2=>?_,λy hy=>?_,λy c _ h=>?_,λ_=>hd,Around.frames_deeper e0.frames,.inr ⟨rfl,rfl⟩,λb z=>absurd z (noA b),e0.bs,e0.bsz,λb _ _=>noA b,λb z=>absurd z (noA b),e0.funs,e0.frf⟩,
  rfl,e0.bare,Un.kept hk,⟨_,x.toInCall.ns,λi y v h1 h2 h3=>?_⟩,λy c h=>⟨_,x.cell y c h⟩,e0.hok.fresh (z0g _),λy c h=>?_,λp hp=>absurd (show p∈([]:List (ad5×Obj)) from hp) (by simp),e0.hok.kept hk,?_⟩
 ·exact name_of_addr x.apart (PySem.mem_of_lookup h1) (PySem.mem_of_lookup h2)
 ·have hy:scope.names.lookup y=some .cell\/scope.names.lookup y=some .free:=hy;rcases hy with hy |hy
  ·exact cell_has hy
  ·exact absurd rfl (S.nofree _ (PySem.mem_of_lookup hy))
 ·exact z0e (x.above y c (PySem.mem_of_lookup h))
 ·have hi:i<vs.length:=by
   unfold start at h2;by_cases hi:i<vs.length
   ·exact hi
   ·rw[aeO (by simpa using hi)] at h2;rw[ae9] at h2;split at h2 <;> cases h2
  have ha:vs[i]?=some v:=by
   unfold start at h2;rw[aeS (by simpa using hi),z2b] at h2;cases e:vs[i]? with
   |none=>rw[e] at h2;cases h2
   |some a=>rw[e] at h2;cases h2;rfl
  obtain⟨u,hu,rv⟩:=r.get ha;have hp:ps[i]?=some y:=by
   rw[<-S.pre,aiJ (by omega)];exact h1
  have ndP:ps.Nodup:=by rw[<-S.pre];exact S.nd.sublist (List.take_sublist _ _)
  refine⟨u,rv,?_⟩;rcases S.par y (aeE hp) with k |k
  ·exact .inl ⟨k,bindL_get ndP hp hu k⟩
  ·obtain⟨c,e⟩:=cell_has (n:=s.heap.objs.size+1) k;refine .inr ⟨.inl k,c,e,?_⟩;have q:=x.cell y c e;rw[bindC_get ndP hp hu (by show scope.names.lookup y≠_;rw[k];decide)] at q;exact q
 ·exact e0.hok.fresh (z0e (x.above y c (PySem.mem_of_lookup h)))
 ·unfold start;show _=N.length;rw[z1d,z1g,aeG];omega
theorem fn_of{f:ad5}{name qual:Str}{params:agv}{scope:afB}{dV kV doc pm cdv ct oc:ad7}{an od:Option ad5}
  {osl:Array (Option ad7)}{sp:Sp}(lk:K.lookup f=some ⟨oc,od,.func (PySem.W.fnOf name qual params body scope dV kV doc pm an cdv ct),osl⟩)(hcd:PySem.W.codeIn K cdv qual=true)(S:FnScope N ps scope)
  (len:∀vs H Q E,sp vs H Q E->vs.length=ps.length)
  (hbody:∀(A:aer) (outer:List Env) (s:ad8) (H:Hp) (vs:List V) (Q:VK) (E:XK),Room k (A.deeper (afP qual scope s.heap.objs.size f cdv))->sp vs H Q E->
   ∃t,PSs (cxOf CX P w K mg base N qual scope f cdv A outer s H E) body t/\t {nx:=λ_ H'=>Q .non H',rt:=Q} (start N vs) H):
  FnOk P w K mg base CX (k+1) f (PySem.W.fnOf name qual params body scope dV kV doc pm an cdv ct) ps sp:=by
 refine⟨len,λA outer s H args us vs Q E hr e0 hb r hsp=>?_⟩;have hl:=len _ _ _ _ hsp;have KX:K.In s.heap:=e0.mod.kin.keeps λb o e=>(e0.bs b o e).1;have lim:s.heap.NoLimit:=e0.mod.nolimit.keeps λb o e=>(e0.bs b o e).1;have hkind:∀y∈ps.zip us,scope.names.lookup y.1=some .local\/(scope.names.lookup y.1=some .cell/\((aey (s.heap.objs.size+1) scope.names []).lookup y.1).isSome=true):=λ⟨n,v⟩ hy=>by
  rcases S.par n (ahM hy).1 with q |q
  ·exact .inl q
  ·exact .inr ⟨q,PySem.W.cellsFrom_some _ _ _ (.inl q)⟩
 refine codeAny_call_function hr.depth (KX _ _ lk) rfl S.co S.gen rfl (PySem.W.codeRec_of KX hcd) (hb _ _ _ _ ?_);refine wpAny_newFunctionEnv_cells S.kind hkind λenv he s1 x=>?_;subst he;refine⟨lim.keeps x.toInCall.keep,codeAny_func ?_⟩;obtain⟨t,ht,hq⟩:=hbody A outer s H vs Q E (hr.deeper _) hsp;have I:Inv (cxOf CX P w K mg base N qual scope f cdv A outer s H E) [] (start N vs) H s1:=inv_start S hr.hd e0 hl r x;refine ae0 (ht [] s1 (start N vs) H _ I hq) (λfl s' hs=>?_) λe s' hs=>hs;have fin:∀{σ':St} {H':Hp} {v:V} {u:ad7},Inv (cxOf CX P w K mg base N qual scope f cdv A outer s H E) [] σ' H' s'->RelV v u->Q v H'->CE outer P w H s Q u s':=
  λ{σ' H' v u} J rv q=>⟨v,H',J.os,J.bare,J.base,J.hok,rv,q⟩
 cases fl with
 | ret u=>
  obtain⟨v,σ',H',J,rv,q⟩:=hs;exact fin J rv q
 | next=>
  obtain⟨σ',H',J,q⟩:=hs;exact fin (v:=V.non) (u:=aez) J rfl q
 | brk=>
  obtain⟨_,_,_,q⟩:=hs;exact aeJ q
 | cont=>
  obtain⟨_,_,_,q⟩:=hs;exact aeJ q
section
variable{X:Cx}{x:Str}{p pos:Pos}{e:aee}{es:List aee}{t:TA}{id T:String}{r:List V->Hp->VK->Prop}
def tCB(r:List V->Hp->VK->Prop)(t:TA):TE:=λσ H Q=>t σ H λvs H1=>r vs H1 Q
theorem pe_callB(hc:CallR X (.builtin id) r)(hg:Gl X x)(hm:X.mg x=none)(hv:afK x=some (.builtin id))(ha:PA X (e::es) t)(hn:x≠"__name__" :=by decide)(hdb:(x ==("__debug__" :Str))=false:=by decide)
  (he:aea (e::es) X.env=(false,eval e X.env)::aea es X.env:=by rfl)(hpl:(aeR pos (aea es X.env)).any (·.1)=false:=by rfl):PE X (.Call (.Name x p) (e::es) [] pos) (tCB r t):=by
 intro pins s σ H Q I h;refine af3 (ld_blt I hg hm hv ?_ hn hdb);exact PyProof.Rows.callWith_builtin1 (thn (ha pos pins s σ H _ I h) λus s1 ⟨vs,H1,I1,r1,q1⟩=>hc pins s1 σ H1 vs us Q I1 r1 q1) he hpl
theorem pe_callTy(hc:CallR X (.type T) r)(hg:Gl X x)(hm:X.mg x=none)(hv:afK x=some (.type T))(ha:PA X (e::es) t)(hn:x≠"__name__" :=by decide)(hdb:(x ==("__debug__" :Str))=false:=by decide)
  (he:aea (e::es) X.env=(false,eval e X.env)::aea es X.env:=by rfl)(hpl:(aeR pos (aea es X.env)).any (·.1)=false:=by rfl):PE X (.Call (.Name x p) (e::es) [] pos) (tCB r t):=by
 intro pins s σ H Q I h;refine af3 (ld_blt I hg hm hv ?_ hn hdb);exact ae1 (thn (ha pos pins s σ H _ I h) λus s1 ⟨vs,H1,I1,r1,q1⟩=>hc pins s1 σ H1 vs us Q I1 r1 q1) he hpl
end
end L2
namespace HT
open PySem PyProof.Rows
section
open PySem.SeqAt
open PySem.AutoSeq1 (wpAny_loadPart')
open PySem.MeetsSeq PySem.MeetsSeq2 PySem.MeetsSeq3
end
section
variable{prog:aek}{w:aep}{A:aer}{E:ad7->ad8->Prop}{s:ad8}
theorem cat_tup{t b:ad5}{vs ws:List ad7}{Q:ad7->ad8->Prop}(ht:IsTup s.heap t vs.toArray)(hb:IsTup s.heap b ws.toArray)(hv:vs≠[])
  (h1:ws=[]->Q (.ref t) s)(h2:ws≠[]->Q (.ref s.heap.objs.size) {s with heap:=s.heap.push {cls:= .type "tuple",data:= .seq (vs++ws).toArray}})
  (hsz:vs.length+ws.length<=sizeLine):aec (model prog w) A (afj .Add (.ref t) (.ref b)) Q E s:=by
 obtain⟨⟨cls,dd,data,sl⟩,ho,hc,n,hd⟩:=id ht;obtain⟨⟨cls2,dd2,data2,sl2⟩,ho2,hc2,n2,hd2⟩:=id hb;simp only at hc hd hc2 hd2;subst hc hd hc2 hd2;have e:vs.toArray++ws.toArray=(vs++ws).toArray:=by simp
 by_cases hw:ws=[]
 ·exact aiK ⟨_,ho,rfl⟩ ⟨_,ho2,rfl⟩ aiL seq_tuple_add PySem.F.slot_tuple_add PySem.F.entry_tuple_add (PySem.F.args_tuple_add_2 _ _)
   (tuple_addW1 t b vs.toArray ws.toArray n n2 dd dd2 sl sl2 (by simpa using hv) (by simp[hw])) ⟨ho,ho2,h1 hw⟩
 ·refine aiK ⟨_,ho,rfl⟩ ⟨_,ho2,rfl⟩ aiL seq_tuple_add PySem.F.slot_tuple_add PySem.F.entry_tuple_add (PySem.F.args_tuple_add_2 _ _)
   (tuple_addW2 t b vs.toArray ws.toArray n n2 dd dd2 sl sl2 (by simpa using hv) (by simpa using hw) (by rw[z1c,z1c];exact hsz)) ⟨ho,ho2,?_⟩
  rw[e];exact h2 hw
def sIx(n d:Nat):Option Int->Nat
 |none=>d
 |some v=>if v<0 then (v+(n:Int)).toNat else min v.toNat n
theorem sIx_le(n d:Nat)(hd:d<=n)(o:Option Int):sIx n d o<=n:=by
 cases o with
 |none=>exact hd
 | some v=>
  show (if v<0 then (v+(n:Int)).toNat else min v.toNat n)<=n;by_cases hv:v<0
  ·rw[if_pos hv];omega
  ·rw[if_neg hv];exact Nat.min_le_right _ _
theorem Vb(a b:Nat):((min a b:Nat):Int)=min (a:Int) (b:Int):=by
 rcases Nat.le_total a b with h |h
 ·rw[ag4 h,Int.min_eq_left (aiM.mpr h)]
 ·rw[Nat.min_eq_right h,Int.min_eq_right (aiM.mpr h)]
theorem abB{i:Int}(n:Nat)(h:i<0):max 0 (min (i+(n:Int)) (n:Int))=(((i+(n:Int)).toNat:Nat):Int):=by
 rw[Int.min_eq_left (by omega),Int.max_comm];exact (Int.ofNat_toNat _).symm
theorem abC(k n:Nat):max 0 (min (k:Int) (n:Int))=((min (k:Int).toNat n:Nat):Int):=by
 rw[Int.max_eq_right (Int.le_min.mpr ⟨agM _,agM _⟩)];exact (Vb k n).symm
theorem clip_eq(v:Int)(n d:Nat):(if v<0 then max (v+(n:Int)) 0 else min v (n:Int))=((sIx n d (some v):Nat):Int):=by
 show (if v<0 then max (v+(n:Int)) 0 else min v (n:Int))=(((if v<0 then (v+(n:Int)).toNat else min v.toNat n):Nat):Int);by_cases hv:v<0
 ·simp only[if_pos hv];exact (Int.ofNat_toNat _).symm
 ·simp only[if_neg hv];obtain⟨k,rfl⟩:=afz (Int.not_lt.mp hv);exact (Vb k n).symm
theorem adjust_gen(lo hi:Option Int)(n:Nat):afG lo hi 1 (n:Int)=(((sIx n 0 lo:Nat):Int),((sIx n n hi:Nat):Int)):=by
 have h1:¬((1:Int)<0):=by omega
 unfold afG;simp only[h1,if_false];refine ai3 ?_ ?_
 ·cases lo with
  |none=>rfl
  |some v=>exact clip_eq v n 0
 ·cases hi with
  |none=>rfl
  |some v=>exact clip_eq v n n
theorem places_gen(i j:Nat):afc (i:Int) (j:Int) 1=j - i:=by
 unfold afc;have h1:(1:Int) > 0:=by omega
 simp only[h1,if_true,Int.ediv_one];split <;> omega
theorem slicePart_{v:ad7}{o:Option Int}{Q:Option Int->ad8->Prop}(p:ahN v o)(h:Q o s):aec (model prog w) A (Builtin.Slice.slicePartIndex v) Q E s:=by
 cases p with
 |none=>exact ahY h
 |int i t=>exact slicePart_int h
theorem sliceApplied_gen{sl:ad5}{vl vu:ad7}{lo hi:Option Int}{n:Nat}{Q:Int×Int×Nat->ad8->Prop}(hs:s.heap.IsSliceOf sl vl vu .none)(pl:ahN vl lo)(pu:ahN vu hi)
  (h:Q (((sIx n 0 lo:Nat):Int),1,sIx n n hi - sIx n 0 lo) s):aec (model prog w) A (agq (.ref sl) (pure (n:Int))) Q E s:=by
 obtain⟨os,hos,hcs,hds⟩:=id hs;unfold agq aiC;refine ad4 (ad4 (aeF hos hds (x:=vl) rfl (ad4 (aeF hos hds (x:=vu) rfl (ad4 (aeF hos hds (x:= .none) rfl (ad9 ?_)))))));refine ad4 (ahY ?_);show aec _ _ (if ((1:Int) ==0)=true then _ else _) _ _ s;rw[if_neg (by decide)];refine ad4 (slicePart_ pl (ad4 (slicePart_ pu (ad4 (ad9 ?_)))));show aec _ _ (match afG lo hi 1 (n:Int) with |(lo,hi)=>pure (lo,(1:Int),afc lo hi 1)) _ _ s;rw[adjust_gen lo hi n];show aec _ _ (pure (((sIx n 0 lo:Nat):Int),(1:Int),afc ((sIx n 0 lo:Nat):Int) ((sIx n n hi:Nat):Int) 1)) _ _ s;rw[places_gen];exact ad9 h
theorem pick_gen(xs:Array ad7)(i k:Nat):((ad6 k).filterMap λ(m:Nat)=>xs[((i:Int)+(m:Int)*1).toNat]?).toArray=((xs.toList.drop i).take k).toArray:=by
 have e:(λ(m:Nat)=>xs[((i:Int)+(m:Int)*1).toNat]?)=λm=>xs[i+m]?:=by
  funext m;have:((i:Int)+(m:Int)*1).toNat=i+m:=by omega
  rw[this]
 rw[e];have:=pick_run xs i k;rw[List.filterMap_map] at this;have e2:((λx=>xs[x]?) ∘ λx=>i+x)=λm=>xs[i+m]?:=rfl;rw[e2] at this;rw[this]
theorem getItem_tuple_cut{t sl:ad5}{items:Array ad7}{vl vu:ad7}{lo hi:Option Int}{Q:ad7->ad8->Prop}(ht:IsTup s.heap t items)(hs:s.heap.IsSliceOf sl vl vu .none)(pl:ahN vl lo)(pu:ahN vu hi)
  (hw:¬(sIx items.size 0 lo=0/\sIx items.size items.size hi=items.size))
  (h:Q (.ref s.heap.objs.size) {s with heap:=s.heap.push {cls:= .type "tuple",data:= .seq ((items.toList.drop (sIx items.size 0 lo)).take (sIx items.size items.size hi - sIx items.size 0 lo)).toArray}})
  (hsz:items.size<=sizeLine):aec (model prog w) A (ahD (.ref t) (.ref sl)) Q E s:=by
 have htake:sizeOk (.seq ((items.toList.drop (sIx items.size 0 lo)).take (sIx items.size items.size hi - sIx items.size 0 lo)).toArray):=by
  show ((items.toList.drop (sIx items.size 0 lo)).take (sIx items.size items.size hi - sIx items.size 0 lo)).toArray.size<=sizeLine;rw[z1c,afk,ahu,afR];omega
 have hj:sIx items.size items.size hi<=items.size:=sIx_le _ _ (z0g _) hi;obtain⟨os,hos,hcs,hds⟩:=id hs;have hTs:s.TypeIs (.ref sl) "slice" :=⟨os,hos,hcs⟩;unfold ahD
 try with_reducible refine afv ?_
 first |refine ad4 (ad9 ?_) |skip
 refine ad4 (aiu ht.typeIs (by decide) ?_);refine ad4 (afa (name:=aeH "__getitem__") ht.typeIs aeV
  (ae5 aeV ht.typeIs entry_tuple_getitem ?_ (aia _ _)))
 show aec _ _ (agY (.ref t) >>=_) _ _ s;refine ad4 (tupleItemsOf_ ht ?_);refine ad4 (agR hTs ?_);rw[if_pos (by decide)];refine ad4 (sliceApplied_gen hs pl pu ?_);have hno:¬((((sIx items.size 0 lo:Nat):Int) ==0 && (1:Int) ==1 && (sIx items.size items.size hi - sIx items.size 0 lo) ==items.size)=true):=by
  intro q;rw[ae6,ae6] at q;have q1:((sIx items.size 0 lo:Nat):Int)=0:=eq_of_beq q.1.1;have q2:sIx items.size items.size hi - sIx items.size 0 lo=items.size:=eq_of_beq q.2;exact hw ⟨by omega,by omega⟩
 show aec _ _ (if (((sIx items.size 0 lo:Nat):Int) ==0 && (1:Int) ==1 && (sIx items.size items.size hi - sIx items.size 0 lo) ==items.size)=true then _ else _) _ _ s;rw[if_neg hno,pick_gen]
 first
  |exact ad4 (m:=aeX _) (aeI (ad9 ⟨_,rfl,ad9 h⟩) htake)
  |exact ad4 (m:=aeX _) (aeI (ad4 (ad9 (ad9 ⟨_,rfl,ad9 h⟩))) htake)
  |exact ad4 (ad4 (m:=aeX _) (aeI (ad9 (ad9 ⟨_,rfl,ad9 h⟩)) htake))
  |exact ad4 (ad4 (m:=aeX _) (aeI (ad9 ⟨_,rfl,ad9 h⟩) htake))
end
end HT
namespace L2
open PySem PySem.Spec PyProof.Rows
variable{pins:List (ad5×Obj)}{xs:List V}{its:List ad7}{s:ad8}
abbrev TO:=St->Hp->(Option Int->Hp->Prop)->Prop
def PO(X:Cx)(e:Option aee)(t:TO):Prop:=
 ∀(pins:List (ad5×Obj)) (s:ad8) (σ:St) (H:Hp) (Q:Option Int->Hp->Prop),Inv X pins σ H s->t σ H Q->
  aec (model X.prog X.w) X.A (evalPart e X.env) (λu s'=>∃o H',Inv X pins σ H' s'/\ahN u o/\Q o H') X.xe s
def tNoPart:TO:=λ_ H Q=>Q none H
def tPart(t:TE):TO:=λσ H Q=>t σ H λx H1=>∃i,x= .int i/\Q (some i) H1
theorem intsAre_of{ns:List Int}:∀{us:List ad7},Vals (ns.map V.int) us->afS us ns:=by
 induction ns with
 |nil=>intro us r;rw[agz] at r;cases r;exact .nil
 | cons n ns ih=>
  intro us r;rw[z1h] at r;cases r with
  | cons r1 r2=>
   obtain⟨t,e⟩:=r1;subst e;exact .cons n t (ih r2)
section
variable{X:Cx}{e:aee}{te:TE}{lo hi:Option aee}{tl th:TO}{pos p2:Pos}
theorem po_none:PO X none tNoPart:=by
 intro pins s σ H Q I h;rw[aij];exact ad9 ⟨none,H,I,.none,h⟩
theorem po_some(h:PE X e te):PO X (some e) (tPart te):=by
 intro pins s σ H Q I hw;rw[evalPart_some];refine thn (h pins s σ H _ I hw) λu s1 bJ=>?_;obtain⟨x,H1,I1,r1,q1⟩:=bJ;obtain⟨i,rfl,q⟩:=q1;obtain⟨t,rfl⟩:=r1;exact⟨some i,H1,I1,.int i t,q⟩
def SlR(X:Cx)(r:V->Option Int->Option Int->Hp->VK->Prop):Prop:=
 ∀(pins:List (ad5×Obj)) (s:ad8) (σ:St) (H:Hp) (x:V) (v vl vu:ad7) (lo hi:Option Int) (sl:ad5) (Q:VK),Inv X pins σ H s->RelV x v->s.heap.IsSliceOf sl vl vu .none->ahN vl lo->ahN vu hi->r x lo hi H Q->
  ∃T id,typeLookup (.type T) "__getitem__" =pure (some (.builtin id))/\s.TypeIs v T/\aec (model X.prog X.w) X.A (ahD v (.ref sl)) (EP X pins σ Q) X.xe s
theorem SlR.or{r r':V->Option Int->Option Int->Hp->VK->Prop}(h:SlR X r)(h':SlR X r'):SlR X (λx lo hi H Q=>r x lo hi H Q\/r' x lo hi H Q):=by
 intro pins s σ H x v vl vu lo hi sl Q I rx hs pl pu q;rcases q with q |q
 ·exact h pins s σ H x v vl vu lo hi sl Q I rx hs pl pu q
 ·exact h' pins s σ H x v vl vu lo hi sl Q I rx hs pl pu q
def tSl(r:V->Option Int->Option Int->Hp->VK->Prop)(te:TE)(tl th:TO):TE:=λσ H Q=>te σ H λx H1=>tl σ H1 λl H2=>th σ H2 λu H3=>r x l u H3 Q
theorem pe_slice{r:V->Option Int->Option Int->Hp->VK->Prop}(hr:SlR X r)(he:PE X e te)(hl:PO X lo tl)(hu:PO X hi th):PE X (.Subscript e (.Slice lo hi none p2) pos) (tSl r te tl th):=by
 intro pins s σ H Q I h;refine Subscript_ (thn (he pins s σ H _ I h) λv s1 bJ=>?_);obtain⟨x,H1,I1,r1,q1⟩:=bJ;refine wpAny_Slice (thn (hl pins s1 σ H1 _ I1 q1) λvl s2 ⟨l,H2,I2,pl,q2⟩=>thn (hu pins s2 σ H2 _ I2 q2) λvu s3 bJ=>?_);obtain⟨u,H3,I3,pu,q3⟩:=bJ;rw[aij];refine ad9 ?_;have I4:Inv X pins σ H3 {s3 with heap:=s3.heap.push {cls:= .type "slice",data:= .fields #[vl,vu,.none]}}:=I3.kept (t':=s3.toks) λb ob q=>z1a _ q;obtain⟨T,id,hT,ht,hg⟩:=hr pins {s3 with heap:=s3.heap.push {cls:= .type "slice",data:= .fields #[vl,vu,.none]}} σ H3 x v vl vu l u s3.heap.objs.size Q I4 r1 (aib ..) pl pu q3;show aec (model X.prog X.w) X.A (aik e (.Slice lo hi none p2) v (.ref s3.heap.objs.size)) (EP X pins σ Q) X.xe {s3 with heap:=s3.heap.push {cls:= .type "slice",data:= .fields #[vl,vu,.none]}};exact tail_any (ops:=[.ref s3.heap.objs.size,v]) ht hT hg (by with_unfolding_all rfl)
def cutV(xs:List V)(lo hi:Option Int):List V:=(xs.drop (HT.sIx xs.length 0 lo)).take (HT.sIx xs.length xs.length hi - HT.sIx xs.length 0 lo)
theorem cutV_length(xs:List V)(lo hi:Option Int):(cutV xs lo hi).length<=xs.length:=by
 unfold cutV;rw[afk,ahu];omega
def rSlT(K:PySem.W.Frag):V->Option Int->Option Int->Hp->VK->Prop:=λx lo hi H Q=>∃a xs,x= .ref a/\SqT K H a xs/\
 ¬(HT.sIx xs.length 0 lo=0/\HT.sIx xs.length xs.length hi=xs.length)/\∀p,H p=none->Q (.ref p) (upd H p (.tup (cutV xs lo hi)))
theorem sl_tup:SlR X (rSlT X.K):=by
 intro pins s σ H x v vl vu lo hi sl Q I rx hs pl pu h;obtain⟨a,xs,rfl,hx,hw,q⟩:=h;cases rx;obtain⟨its,r,ht,hz⟩:=I.tuple hx;have hlen:its.toArray.size=xs.length:=by rw[z1c];exact r.length.symm
 refine⟨"tuple",_,aeV.lookup,ht.typeIs,?_⟩;refine HT.getItem_tuple_cut ht hs pl pu (by rw[hlen];exact hw) ?_ (by rw[hlen];exact hz);rw[hlen];refine⟨.ref s.heap.objs.size,_,I.laid (t':=s.toks) (o:= .tup (cutV xs lo hi)) (λb ob q=>z1a _ q) (z0g _) ?_,rfl,q _ (I.hok.fresh (z0g _))⟩;exact⟨z0b (cutV_length xs lo hi) hz,_,(r.drop (HT.sIx xs.length 0 lo)).take (HT.sIx xs.length xs.length hi - HT.sIx xs.length 0 lo),u9.new _ _⟩
def rCatT(K:PySem.W.Frag):R2:=λx y H Q=>∃a b xs ys,x= .ref a/\y= .ref b/\SqT K H a xs/\SqT K H b ys/\xs≠[]/\xs.length+ys.length<=sizeLine/\
 (ys=[]->Q (.ref a) H)/\(ys≠[]->∀p,H p=none->Q (.ref p) (upd H p (.tup (xs++ys))))
theorem Vals.nil_iff{us:List ad7}(r:Vals xs us):us=[]↔xs=[]:=by
 cases r with
 |nil=>simp
 |cons _ _=>simp
theorem op_catT:OpR X (afj .Add) (rCatT X.K):=by
 intro pins s σ H x y v u Q I rx ry h;obtain⟨a,b,xs,ys,rfl,rfl,ha,hb,hx,hz,q1,q2⟩:=h;cases rx;cases ry;obtain⟨its,r1,p1,_⟩:=I.tuple ha;obtain⟨its2,r2,p2,_⟩:=I.tuple hb;refine HT.cat_tup p1 p2 (λz=>hx (r1.nil_iff.mp z)) (λz=>⟨.ref a,H,I,rfl,q1 (r2.nil_iff.mp z)⟩) (λz=>?_) (by rw[<-r1.length,<-r2.length];exact hz);refine⟨.ref s.heap.objs.size,_,I.laid (t':=s.toks) (o:= .tup (xs++ys)) (λb ob q=>z1a _ q) (z0g _) ?_,rfl,q2 (λw=>z (r2.nil_iff.mpr w)) _ (I.hok.fresh (z0g _))⟩;exact⟨by rw[z1d];exact hz,_,r1.append r2,u9.new _ _⟩
end
def ixN(n:Nat)(i:Int):Option Nat:=if 0<=i then (if i<n then some i.toNat else none) else if -(n:Int)<=i then some (i+n).toNat else none
def atI{α:Type}(xs:List α)(i:Int):Option α:=(ixN xs.length i).bind λj=>xs[j]?
theorem ixN_seq{n:Nat}{i:Int}{j:Nat}(h:ixN n i=some j):seqIndex? i n=some j/\j<n/\-(n:Int)<=i/\i<n:=by
 unfold ixN at h;by_cases h0:0<=i
 ·rw[if_pos h0] at h;by_cases h1:i<n
  ·rw[if_pos h1] at h;have e:i.toNat=j:=aeg h;exact⟨by rw[seqIndex_of h0 h1,e],by omega,by omega,h1⟩
  ·rw[if_neg h1] at h;cases h
 ·rw[if_neg h0] at h;by_cases h1: -(n:Int)<=i
  ·rw[if_pos h1] at h;have e:(i+n).toNat=j:=aeg h;exact⟨by rw[seqIndex_neg (by omega) h1,e],by omega,h1,by omega⟩
  ·rw[if_neg h1] at h;cases h
theorem atI_get{α:Type}{xs:List α}{i:Int}{v:α}(h:atI xs i=some v):∃j,seqIndex? i xs.length=some j/\xs[j]?=some v/\j<xs.length/\-(xs.length:Int)<=i/\i<xs.length:=by
 unfold atI at h;cases e:ixN xs.length i with
 |none=>rw[e] at h;cases h
 | some j=>
  rw[e] at h;obtain⟨h1,h2,h3,h4⟩:=ixN_seq e;exact⟨j,h1,h,h2,h3,h4⟩
def PlainIx(b:aee):Prop:=∀o i,subscripted b false o i=operate [o,i] (ahD o i)
def IxR(X:Cx)(r:R2):Prop:=
 ∀(value slice:aee) (pins:List (ad5×Obj)) (s:ad8) (σ:St) (H:Hp) (x y:V) (v u:ad7) (Q:VK),Inv X pins σ H s->RelV x v->RelV y u->r x y H Q->
  subscripted slice false v u=operate [v,u] (ahD v u)->aec (model X.prog X.w) X.A (aik value slice v u) (EP X pins σ Q) X.xe s
def MtR(X:Cx)(id:String)(r:V->List V->Hp->VK->Prop):Prop:=
 ∀(pins:List (ad5×Obj)) (s:ad8) (σ:St) (H:Hp) (x:V) (xs:List V) (v:ad7) (us:List ad7) (Q:VK),Inv X pins σ H s->RelV x v->Vals xs us->r x xs H Q->
  aec (model X.prog X.w) X.A (call (.builtin id) (v::us)) (EP X pins σ Q) X.xe s
section
variable{X:Cx}{a b:aee}{ta tb:TE}{pos:Pos}
theorem IxR.or{r r':R2}(h:IxR X r)(h':IxR X r'):IxR X (λx y H Q=>r x y H Q\/r' x y H Q):=by
 intro value slice pins s σ H x y v u Q I rx ry q hs;rcases q with q |q
 ·exact h value slice pins s σ H x y v u Q I rx ry q hs
 ·exact h' value slice pins s σ H x y v u Q I rx ry q hs
theorem pe_ix{r:R2}(hr:IxR X r)(ha:PE X a ta)(hb:PE X b tb)(hs:PlainIx b):PE X (.Subscript a b pos) (tOp r ta tb):=by
 intro pins s σ H Q I h;exact Subscript_ (binT ha hb I h λv u s2 x y H2 I2 rx ry q=>hr a b pins s2 σ H2 x y v u Q I2 rx ry q (hs _ _))
def rIxL(K:PySem.W.Frag):R2:=λx y H Q=>∃p xs i v,x= .ref p/\y= .int i/\SqL K H p xs/\atI xs i=some v/\Q v H
def rIxT(K:PySem.W.Frag):R2:=λx y H Q=>∃p xs i v,x= .ref p/\y= .int i/\SqT K H p xs/\atI xs i=some v/\Q v H
def rIxS:R2:=λx y H Q=>∃z i c,x= .str z/\y= .int i/\z.length<=sizeLine/\atI z.cps.toList i=some c/\Q (.str ⟨#[c]⟩) H
theorem ix_list:IxR X (rIxL X.K):=by
 intro value slice pins s σ H x y v u Q I rx ry h hs;obtain⟨p,xs,i,z,rfl,rfl,hq,he,q⟩:=h;cases rx;obtain⟨t,rfl⟩:=ry;obtain⟨its,r,pl,hz⟩:=I.list hq;obtain⟨j,h1,h2,h3,h4,h5⟩:=atI_get he;obtain⟨w,ew,rw'⟩:=r.get h2;have hl:=r.length;have hn:=line63;have fin:EP X pins σ Q w s:=⟨z,H,I,rw',q⟩;by_cases h0:0<=i
 ·have hj:i.toNat=j:=by
   rw[seqIndex_of h0 h5] at h1;exact aeg h1
  exact item_listR pl.isList h0 (by omega) (by rw[hj];simpa using ew) fin hs
 ·have hj:(i+(its.toArray.size:Int)).toNat=j:=by
   rw[seqIndex_neg (by omega) h4] at h1;rw[z1c,<-hl];exact aeg h1
  exact subscriptTail_builtinR (x:=w) pl.isList.typeIs slot_list_getitem.lookup
   (wpAny_getItem_list_neg (Q:=λr s'=>r=w/\EP X pins σ Q r s') pl.isList (by omega) (by rw[z1c] <;> omega) (by omega) (by rw[hj];simpa using ew) ⟨rfl,fin⟩) hs
theorem ix_tup:IxR X (rIxT X.K):=by
 intro value slice pins s σ H x y v u Q I rx ry h hs;obtain⟨p,xs,i,z,rfl,rfl,hq,he,q⟩:=h;cases rx;obtain⟨t,rfl⟩:=ry;obtain⟨its,r,pl,hz⟩:=I.tuple hq;obtain⟨j,h1,h2,h3,h4,h5⟩:=atI_get he;obtain⟨w,ew,rw'⟩:=r.get h2;have hl:=r.length;have hn:=line63;have fin:EP X pins σ Q w s:=⟨z,H,I,rw',q⟩;exact subscriptTail_builtinR (x:=w) pl.typeIs slot_tuple_getitem.lookup
  (getItem_tuple (j:=j) (Q:=λr s'=>r=w/\EP X pins σ Q r s') pl (by omega) (by omega) (by rw[z1c,<-hl];exact h1) (by simpa using ew) ⟨rfl,fin⟩) hs
theorem ix_str:IxR X rIxS:=by
 intro value slice pins s σ H x y v u Q I rx ry h hs;obtain⟨z,i,c,rfl,rfl,hz,he,q⟩:=h;obtain⟨t,rfl⟩:=rx;obtain⟨t',rfl⟩:=ry;obtain⟨j,h1,h2,h3,h4,h5⟩:=atI_get he;have hl:z.cps.toList.length=z.length:=by simp[Str.length]
 rw[hl] at h1 h4 h5;have hn:=line63;exact tail_any (typeIs_str s z t) slot_str_getitem.lookup (getItem_str (c:=c) (by
  have e1:decide (i < -(2^63:Int))=false:=decide_eq_false (by omega);have e2:decide (i>=2^63)=false:=decide_eq_false (by omega);rw[e1,e2,Bool.or_false]) (by rw[h1];simpa using h2) ⟨.str ⟨#[c]⟩,H,I.tok _,⟨_,rfl⟩,q⟩) hs
def rIx(K:PySem.W.Frag):R2:=λx y H Q=>rIxL K x y H Q\/rIxT K x y H Q\/rIxS x y H Q
theorem ix_seq:IxR X (rIx X.K):=ix_list.or (ix_tup.or ix_str)
theorem mapSeq_set(its:List ad7)(n j:Nat)(u:ad7):afd (·.setIfInBounds j u) {cls:= .type "list",data:= .seq its.toArray n}={cls:= .type "list",data:= .seq (its.set j u).toArray n}:=by
 simp[afd]
theorem Inv.lst{σ:St}{H:Hp}{p:ad5}(I:Inv X pins σ H s)(h:H p=some (.lst xs)):
  ∃(its:List ad7) (n:Nat),Vals xs its/\s.heap.get? p=some {cls:= .type "list",data:= .seq its.toArray n}/\xs.length<=sizeLine:=by
 obtain⟨z,its,n,r,e⟩:=I.hok p _ h;exact⟨its,n,r,e,z⟩
theorem Inv.lstUpd{σ:St}{H:Hp}{p:ad5}{ys:List V}{its':List ad7}{n n':Nat}{f:Obj->Obj}(I:Inv X pins σ H s)(h:H p=some (.lst xs))
  (ho:s.heap.get? p=some {cls:= .type "list",data:= .seq its.toArray n})(hf:f {cls:= .type "list",data:= .seq its.toArray n}={cls:= .type "list",data:= .seq its'.toArray n'})(r:Vals ys its')(hz:ys.length<=sizeLine)(t:Nat):
  Inv X pins σ (upd H p (.lst ys)) {s with heap:=s.heap.update p f,toks:=t}:=by
 have e:(s.heap.update p f).get? p=some {cls:= .type "list",data:= .seq its'.toArray n'}:=by
  rw[agn f ho (by rw[hf] <;> rfl),hf]
 refine I.write (x:=p) (e:=p) (by rw[h];trivial) (.inl rfl) (λb u hb q=>(afe _ _ (aeh hb)).trans q) ⟨_,e⟩ ?_;exact⟨hz,its',n',r,e⟩
def rSetL:V->V->V->Hp->(Hp->Prop)->Prop:=λo i v H Q=>∃p xs k j,o= .ref p/\i= .int k/\H p=some (.lst xs)/\ixN xs.length k=some j/\Q (upd H p (.lst (xs.set j v)))
theorem set_list:PSet X rSetL:=by
 intro pins s σ H o i v ov iv u Q I ro ri rv h;obtain⟨p,xs,k,j,rfl,rfl,hp,hj,q⟩:=h;cases ro;obtain⟨t,rfl⟩:=ri;obtain⟨its,n,r,ho,hz⟩:=I.lst hp;obtain⟨h1,h2,h3,h4⟩:=ixN_seq hj;have hl:=r.length;have hn:=line63;have I':Inv X pins σ (upd H p (.lst (xs.set j v))) {s with heap:=s.heap.update p (afd (·.setIfInBounds j u))}:=
  I.lstUpd hp ho (mapSeq_set its n j u) (r.set rv j) (by rw[aeL];exact hz) s.toks
 by_cases h0:0<=k
 ·have hk:k.toNat=j:=by
   rw[seqIndex_of h0 h4] at h1;exact aeg h1
  exact PySem.W.ki_setAt ho h0 (by omega) (by rw[z1c,<-hl];exact h4) (by rw[hk];exact⟨_,I',q⟩)
 ·have hk:(k+(its.toArray.size:Int)).toNat=j:=by
   rw[seqIndex_neg (by omega) h3] at h1;rw[z1c,<-hl];exact aeg h1
  exact PySem.W.ki_setBack ho (by omega) (by rw[z1c,<-hl];exact h3) (by omega) (by rw[hk];exact⟨_,I',q⟩)
theorem slice_bounds(lo hi:Option Int)(n:Nat):(ag1 lo hi none n).1=((HT.sIx n 0 lo:Nat):Int)/\(ag1 lo hi none n).2.1=((HT.sIx n n hi:Nat):Int)/\(ag1 lo hi none n).2.2=1:=by
 refine⟨?_,?_,rfl⟩
 ·cases lo with
  |none=>simp[ag1,HT.sIx]
  | some i=>
   simp only[ag1,HT.sIx,Option.getD_none,show (1:Int) > 0 by decide,if_true];by_cases h:i<0
   ·simp only[h,if_true];exact HT.abB n h
   ·simp only[h,if_false];obtain⟨k,rfl⟩:=afz (Int.not_lt.mp h);exact HT.abC k n
 ·cases hi with
  |none=>simp[ag1,HT.sIx]
  | some i=>
   simp only[ag1,HT.sIx,Option.getD_none,show (1:Int) > 0 by decide,if_true];by_cases h:i<0
   ·simp only[h,if_true];exact HT.abB n h
   ·simp only[h,if_false];obtain⟨k,rfl⟩:=afz (Int.not_lt.mp h);exact HT.abC k n
theorem slicePick_cut(its:List ad7)(lo hi:Option Int):slicePick its.toArray lo hi none=((its.drop (HT.sIx its.length 0 lo)).take (HT.sIx its.length its.length hi - HT.sIx its.length 0 lo)).toArray:=by
 obtain⟨h1,h2,h3⟩:=slice_bounds lo hi its.toArray.size;unfold slicePick;rw[h1,h2,h3];simp only[sliceRange_one,pick_run,z1c] <;> rfl
def rSlL(K:PySem.W.Frag):V->Option Int->Option Int->Hp->VK->Prop:=λx lo hi H Q=>∃a xs,x= .ref a/\SqL K H a xs/\∀p,H p=none->Q (.ref p) (upd H p (.lst (cutV xs lo hi)))
theorem sl_list:SlR X (rSlL X.K):=by
 intro pins s σ H x v vl vu lo hi sl Q I rx hs pl pu h;obtain⟨a,xs,rfl,hx,q⟩:=h;cases rx;obtain⟨its,r,ht,hz⟩:=I.list hx;have hlen:=r.length;refine⟨"list",_,slot_list_getitem.lookup,ht.isList.typeIs,?_⟩;refine wpAny_getItem_list_slice ht.isList hs pl pu .none (by simp) ?_ (by rw[z1c] <;> omega);rw[slicePick_cut,<-hlen];refine⟨.ref s.heap.objs.size,_,I.laid (t':=s.toks) (o:= .lst (cutV xs lo hi)) (λb ob q=>z1a _ q) (z0g _) ?_,rfl,q _ (I.hok.fresh (z0g _))⟩;exact⟨z0b (cutV_length xs lo hi) hz,_,0,(r.drop (HT.sIx xs.length 0 lo)).take (HT.sIx xs.length xs.length hi - HT.sIx xs.length 0 lo),z1f _ rfl⟩
def flatV:V->Bool
 | .non=>true
 | .bl _=>true
 | .int _=>true
 | .str _=>true
 |_=>false
def eqV:V->V->Bool
 | .non,.non=>true
 | .bl a,.bl b=>a ==b
 | .bl a,.int b=>(if a then 1 else 0) ==b
 | .int a,.bl b=>a ==(if b then 1 else 0)
 | .int a,.int b=>a ==b
 | .str a,.str b=>a ==b
 |_,_=>false
theorem eqAt_V{A:aer}{y x:V}{u v:ad7}(ry:RelV y u)(rx:RelV x v)(fy:flatV y=true)(fx:flatV x=true):SeqAt.EqAt A s u v (eqV y x):=by
 cases y with
 | non=>
  cases ry;cases x with
  |non=>cases rx;exact SeqAt.EqAt.same _
  |bl b=>cases rx;exact SeqAt.EqAt.none_bool b
  |int b=>obtain⟨t,rfl⟩:=rx;exact SeqAt.EqAt.none_int b t
  |str b=>obtain⟨t,rfl⟩:=rx;exact SeqAt.EqAt.none_str b t
  |_=>exact absurd (show false=true from fx) aes
 | bl a=>
  cases ry;cases x with
  |non=>cases rx;exact SeqAt.EqAt.bool_none a
  |bl b=>cases rx;exact SeqAt.EqAt.bool_bool a b
  |int b=>obtain⟨t,rfl⟩:=rx;exact SeqAt.EqAt.bool_int a b t
  |str b=>obtain⟨t,rfl⟩:=rx;exact SeqAt.EqAt.bool_str a b t
  |_=>exact absurd (show false=true from fx) aes
 | int a=>
  obtain⟨t',rfl⟩:=ry;cases x with
  |non=>cases rx;exact SeqAt.EqAt.int_none a t'
  |bl b=>cases rx;exact SeqAt.EqAt.int_bool a t' b
  |int b=>obtain⟨t,rfl⟩:=rx;exact aic a t' b t
  |str b=>obtain⟨t,rfl⟩:=rx;exact aja a t' b t
  |_=>exact absurd (show false=true from fx) aes
 | str a=>
  obtain⟨t',rfl⟩:=ry;cases x with
  |non=>cases rx;exact SeqAt.EqAt.str_none a t'
  |bl b=>cases rx;exact SeqAt.EqAt.str_bool a t' b
  |int b=>obtain⟨t,rfl⟩:=rx;exact ajb a t' b t
  |str b=>obtain⟨t,rfl⟩:=rx;exact SeqAt.EqAt.str_str a t' b t
  |_=>exact absurd (show false=true from fx) aes
 |_=>exact absurd (show false=true from fy) aes
def eqU(x:V)(u:ad7):Bool:=match u with
 | .none=>eqV .non x
 | .bool b=>eqV (.bl b) x
 | .int i _=>eqV (.int i) x
 | .str z _=>eqV (.str z) x
 |_=>false
theorem eqU_of{x y:V}{u:ad7}(r:RelV y u)(f:flatV y=true):eqU x u=eqV y x:=by
 cases y with
 |non=>cases r;rfl
 |bl b=>cases r;rfl
 |int i=>obtain⟨t,rfl⟩:=r;rfl
 |str z=>obtain⟨t,rfl⟩:=r;rfl
 |_=>exact absurd (show false=true from f) aes
theorem any_eqU{x:V}:∀{xs:List V} {us:List ad7},Vals xs us->xs.all flatV=true->us.any (eqU x)=xs.any λy=>eqV y x
 |_,_,.nil,_=>rfl
 | y::xs,u::us,.cons r t,f=>by
  rw[agg,ae6] at f;rw[ail,ail,eqU_of r f.1,any_eqU t f.2]
theorem mem_eqAt{A:aer}{s:ad8}{x:V}{v:ad7}(rx:RelV x v)(fx:flatV x=true):∀{xs:List V} {us:List ad7},Vals xs us->xs.all flatV=true->∀u∈us,SeqAt.EqAt A s u v (eqU x u)
 |_,_,.nil,_=>λu hu=>by cases hu
 | y::xs,u::us,.cons r t,f=>λu' hu=>by
  rw[agg,ae6] at f;rcases ael.mp hu with rfl |hu
  ·rw[eqU_of r f.1];exact eqAt_V r rx f.1 fx
  ·exact mem_eqAt rx fx t f.2 u' hu
def inV(x:V)(xs:List V):Bool:=xs.any λy=>eqV y x
def rIn(K:PySem.W.Frag)(neg:Bool):R2:=λx y H Q=>∃p xs,y= .ref p/\(SqL K H p xs\/SqT K H p xs)/\flatV x=true/\xs.all flatV=true/\Q (.bl (if neg then !inV x xs else inV x xs)) H
theorem op_notIn_seq:OpR X (aex .NotIn) (rIn X.K true):=by
 intro pins s σ H x y v u Q I rx ry h;obtain⟨p,xs,rfl,hq,fx,fs,q⟩:=h;cases ry;rcases hq with hq |hq
 ·obtain⟨its,r,pl,hz⟩:=I.list hq;refine SeqAt.notIn_listAt (eqU x) pl.isList (λw hw=>mem_eqAt rx fx r fs w (by simpa using hw)) ⟨.bl _,H,I,rfl,?_⟩;rw[show its.toArray.any (eqU x)=its.any (eqU x) by simp,any_eqU r fs];exact q
 ·obtain⟨its,r,pl,hz⟩:=I.tuple hq;refine SeqAt.notIn_tupleAt (eqU x) pl (λw hw=>mem_eqAt rx fx r fs w (by simpa using hw)) ⟨.bl _,H,I,rfl,?_⟩;rw[show its.toArray.any (eqU x)=its.any (eqU x) by simp,any_eqU r fs];exact q
theorem call_len_seq:CallR X (.builtin "len") (λxs H Q=>∃p ys,xs=[.ref p]/\(SqL X.K H p ys\/SqT X.K H p ys)/\Q (.int ys.length) H):=by
 intro pins s σ H xs us Q I r h;obtain⟨p,ys,rfl,hq,q⟩:=h;obtain⟨u,rfl,rx⟩:=vals1 r;cases rx;have hn:=line63;rcases hq with hq |hq
 ·obtain⟨its,r',pl,hz⟩:=I.list hq;have hlen:=r'.length;exact Calls.call_len_list pl.isList (by simp only[z1c] <;> omega) ⟨.int ys.length,H,I.tok _,⟨s.toks+1,by rw[z1c,hlen]⟩,q⟩
 ·obtain⟨its,r',pl,hz⟩:=I.tuple hq;have hlen:=r'.length;exact len_tuple pl (by simp only[z1c] <;> omega) ⟨.int ys.length,H,I.tok _,⟨s.toks+1,by rw[z1c,hlen]⟩,q⟩
theorem call_list_of:CallR X (.type "list") (λxs H Q=>∃p ys,xs=[.ref p]/\(SqL X.K H p ys\/SqT X.K H p ys)/\∀l,H l=none->Q (.ref l) (upd H l (.lst ys))):=by
 intro pins s σ H xs us Q I r h;obtain⟨p,ys,rfl,hq,q⟩:=h;obtain⟨u,rfl,rx⟩:=vals1 r;cases rx;have fin:∀(its:List ad7),Vals ys its->ys.length<=sizeLine->∀(h':aeo) (c':Nat),(∀b o',s.heap.get? b=some o'->h'.get? b=some o')->
   h'.get? s.heap.objs.size=some {cls:= .type "list",dict:=none,data:= .seq its.toArray c',slots:= #[]}->EP X pins σ Q (.ref s.heap.objs.size) {s with heap:=h'}:=λits r' hz h' c' kp e=>
  ⟨.ref s.heap.objs.size,_,I.laid (t':=s.toks) kp (z0g _) (show ObjOk X.prog X.w _ h' _ (.lst ys) from⟨hz,its,c',r',e⟩),rfl,q _ (I.hok.fresh (z0g _))⟩
 rcases hq with hq |hq
 ·obtain⟨its,r',pl,hz⟩:=I.list hq;have hlen:=r'.length;obtain⟨o,ho,hc,n,hd⟩:=pl.isList;exact call_list_seq p (.inl rfl) ho hc hd (λh' c' kp e=>fin its r' hz h' c' kp e) (by simp only[z1c] <;> omega)
 ·obtain⟨its,r',pl,hz⟩:=I.tuple hq;have hlen:=r'.length;obtain⟨o,ho,hc,n,hd⟩:=pl;exact call_list_seq p (.inr rfl) ho hc hd (λh' c' kp e=>fin its r' hz h' c' kp e) (by simp only[z1c] <;> omega)
theorem call_tuple_of:CallR X (.type "tuple") (λxs H Q=>∃p ys,xs=[.ref p]/\((SqL X.K H p ys/\∀l,H l=none->Q (.ref l) (upd H l (.tup ys)))\/(SqT X.K H p ys/\Q (.ref p) H))):=by
 intro pins s σ H xs us Q I r h;obtain⟨p,ys,rfl,h⟩:=h;obtain⟨u,rfl,rx⟩:=vals1 r;cases rx;rcases h with⟨hq,q⟩ |⟨hq,q⟩
 ·obtain⟨its,r',pl,hz⟩:=I.list hq;have hlen:=r'.length;refine call_tuple_list pl.isList (λh' kp=>?_) (by simp only[z1c] <;> omega);have I1:Inv X pins σ H {s with heap:=h'}:=I.kept (t':=s.toks) kp;have I2:Inv X pins σ (upd H h'.objs.size (.tup ys)) {s with heap:=h'.push {cls:= .type "tuple",data:= .seq its.toArray}}:=
   I1.laid (t':=s.toks) (λb o e=>z1a _ e) (z0g _) (show ObjOk X.prog X.w _ _ _ (.tup ys) from⟨hz,its,r',u9.new _ _⟩)
  exact⟨.ref h'.objs.size,_,I2,rfl,q _ (I1.hok.fresh (z0g _))⟩
 ·obtain⟨its,r',pl,hz⟩:=I.tuple hq;exact call_tuple_same pl ⟨.ref p,H,I,rfl,q⟩
def tyV(K:PySem.W.Frag)(T:String)(x:V)(H:Hp):Prop:=match x with
 | .str _=>T= "str"
 | .int _=>T= "int"
 | .ref p=>(T= "list"/\∃xs,SqL K H p xs)\/(T= "tuple"/\∃xs,SqT K H p xs)\/
   (T= "dict"/\((∃kvs,H p=some (.dK kvs))\/∃kvs,H p=some (.dT kvs)))\/(T= "set"/\∃S n,H p=some (.set S n))
 |_=>False
theorem tyV_is{σ:St}{H:Hp}{T:String}{x:V}{v:ad7}(I:Inv X pins σ H s)(r:RelV x v)(ty:tyV X.K T x H):
  s.TypeIs v T/\∀a,v= .ref a->∃ob,s.heap.get? a=some ob/\ob.dict=none:=by
 cases x with
 | str z=>
  obtain⟨t,rfl⟩:=r;cases (show T= "str" from ty);exact⟨typeIs_str s z t,λ_ e=>nomatch e⟩
 | int i=>
  obtain⟨t,rfl⟩:=r;cases (show T= "int" from ty);exact⟨ahk s i t,λ_ e=>nomatch e⟩
 | ref p =>
  cases r;rcases ty with⟨rfl,xs,hq⟩ |⟨rfl,xs,h |⟨o,its,n,hk,hc,hd,_⟩⟩ |⟨rfl,hk⟩ |⟨rfl,S,n,hk⟩
  ·obtain⟨its,_,pl,_⟩:=I.list hq;refine⟨pl.isList.typeIs,λa e=>?_⟩;cases e;obtain⟨o,n,e,c,hd,_⟩:=pl;exact⟨o,e,hd⟩
  ·obtain⟨_,its,_,o,e1,c1,d1,_⟩:=h.ok I.hok;refine⟨⟨o,e1,c1⟩,λa e=>?_⟩;cases e;exact⟨o,e1,d1⟩
  ·refine⟨⟨o,I.kIn p o hk,hc⟩,λa e=>?_⟩;cases e;exact⟨o,I.kIn _ o hk,hd⟩
  ·have z:∃o,s.heap.get? p=some o/\o.ExactDict:=by
    rcases hk with⟨kvs,hk⟩ |⟨kvs,hk⟩
    ·obtain⟨_,_,_,_,o,_,_,e,ex,_⟩:=I.hok p _ hk;exact⟨o,e,ex⟩
    ·obtain⟨_,_,_,_,o,_,_,e,ex,_⟩:=I.hok p _ hk;exact⟨o,e,ex⟩
   obtain⟨o,e,ex⟩:=z;refine⟨⟨o,e,ex.1⟩,λa e2=>?_⟩;cases e2;exact⟨o,e,ex.2.1⟩
  ·obtain⟨o,_,_,_,e,ex,_⟩:=I.hok p _ hk;refine⟨⟨o,e,ex.1⟩,λa e2=>?_⟩;cases e2;exact⟨o,e,ex.2.1⟩
 |_=>exact aeJ ty
def tBM(K:PySem.W.Frag)(T:String)(r:V->List V->Hp->VK->Prop)(to:TE)(t:TA):TE:=λσ H Q=>to σ H λx H1=>tyV K T x H1/\t σ H1 λxs H2=>r x xs H2 Q
variable{o e:aee}{es:List aee}{to:TE}{t:TA}{name:Str}{apos cpos:Pos}{T id:String}{r:V->List V->Hp->VK->Prop}
theorem pe_bm(pa:PlainAttrs T)(slot:Slot T name id)(hty:typeOf (.builtin id)=pure (.type "method_descriptor"))(hm:MtR X id r)(ho:PE X o to)(ha:PA X (e::es) t)
  (hbase:aht o name X.env (eval o X.env)=eval o X.env:=by rfl)
  (hfew:((aeR cpos (aea (e::es) X.env)).all (λx=> !x.1) && (agW cpos (agk [] X.env)).all (λx=>x.1.isSome)
   && decide ((e::es).length+([]:List agc).length+(if ([]:List agc).isEmpty then 0 else 1)<30))=true:=by rfl)
  (hline:(apos.endLine ==cpos.line)=true:=by rfl) (hs:aea (e::es) X.env=(false,eval e X.env)::aea es X.env:=by rfl) (hplain:(aeR cpos (aea es X.env)).any (·.1)=false:=by rfl):
  PE X (.Call (.Attribute o name apos) (e::es) [] cpos) (tBM X.K T r to t):=by
 intro pins s σ H Q I h;refine wpAny_Call_method_late hbase hfew hline rfl (thn (ho pins s σ H _ I h) λv s1 bJ=>?_);obtain⟨x,H1,I1,r1,ty,q1⟩:=bJ;obtain⟨h1,h2⟩:=tyV_is I1 r1 ty;refine⟨T,id,pa,slot,hty,h1,h2,?_⟩;have hA:=ha cpos pins s1 σ H1 _ I1 q1;rw[hs] at hA |-;refine Calls.callWith_builtin (by show (false || (aeR cpos (aea es X.env)).any (·.1))=false;rw[hplain] <;> rfl) (ahO ?_);refine thn hA λus s2 bJ=>?_;obtain⟨vs,H2,I2,r2,q2⟩:=bJ;exact hm pins s2 σ H2 x vs v us Q I2 r1 r2 q2
end
def MtM(X:Cx)(id:String)(r:V->List V->Hp->VK->Prop):Prop:=
 ∀(pins:List (ad5×Obj)) (s:ad8) (σ:St) (H:Hp) (x:V) (xs:List V) (v:ad7) (us:List ad7) (Q:VK),Inv X pins σ H s->RelV x v->Vals xs us->r x xs H Q->
  aec (model X.prog X.w) X.A (call (.builtin id) (v::us)) (EP X pins σ Q) X.xe s
theorem Vals.one:∀{x:V} {us:List ad7},Vals [x] us->∃u,us=[u]/\RelV x u
 | _,_,h=>by
  cases h with
  |cons r t=>cases t;exact⟨_,rfl,r⟩
theorem Vals.eraseIdx:∀{xs:List V} {us:List ad7} (i:Nat),Vals xs us->Vals (xs.eraseIdx i) (us.eraseIdx i)
 |_,_,_,.nil=> .nil
 |_,_,0,.cons _ t=>t
 |_,_,i+1,.cons r t=> .cons r (Vals.eraseIdx i t)
theorem Vals.rep{xs:List V}{us:List ad7}(h:Vals xs us):∀k:Nat,Vals (aeb k xs).flatten (aeb k us).flatten
 |0=> .nil
 | k+1=>by
  rw[afm,afm,agd,agd];exact Vals.append h (Vals.rep h k)
theorem len_erase{α:Type}:∀(l:List α) (i:Nat),(l.eraseIdx i).length<=l.length
 |[],_=>z0g _
 |_::_,0=>ah4 _
 |_::r,i+1=>Nat.succ_le_succ (len_erase r i)
theorem foldl_rep(its:List ad7):∀(k:Nat) (acc:List ad7),
  aiD (λx1 x2=>x1++x2) acc.toArray (aeb k its.toArray)=(acc++(aeb k its).flatten).toArray
 |0,acc=>by simp
 | k +1,acc=>by
  have e:acc.toArray++its.toArray=(acc++its).toArray:=by simp
  have e2:(acc++its)++(aeb k its).flatten=acc++(aeb (k+1) its).flatten:=by
   rw[afm,agd,afb]
  rw[<-e2,<-foldl_rep its k (acc++its),<-e,afm,List.foldl_cons]
section
variable{X:Cx}{pins:List (ad5×Obj)}{σ:St}{H:Hp}{s:ad8}{l b:ad5}{xs ys zs:List V}
theorem Inv.lset{its':List ad7}{n:Nat}{f:Array ad7->Array ad7}{t':Nat}(I:Inv X pins σ H s)(hH:H l=some (.lst xs))
  (e:s.heap.get? l=some {cls:= .type "list",data:= .seq its.toArray n})(hf:f its.toArray=its'.toArray)(hv:Vals ys its')(hz:ys.length<=sizeLine):
  Inv X pins σ (upd H l (.lst ys)) {s with heap:=s.heap.update l (afd f),toks:=t'}:=by
 have q:=PySem.IsL.update e f;rw[hf] at q;refine I.write (x:=l) (e:=l) (by rw[hH];exact trivial) (.inl rfl) (λb' u hb hu=>(afe s.heap (afd f) (aeh hb)).trans hu) ⟨_,q⟩ ?_;exact⟨hz,its',_,hv,q⟩
theorem Inv.lnew{t':Nat}(I:Inv X pins σ H s)(hv:Vals ys its)(hz:ys.length<=sizeLine):
  Inv X pins σ (upd H s.heap.objs.size (.lst ys)) {s with heap:=s.heap.push {cls:= .type "list",data:= .seq its.toArray},toks:=t'}:=
 I.laid (λ_ _ q=>z1a _ q) (z0g _) ⟨hz,its,0,hv,z1f _ rfl⟩
theorem Inv.fresh(I:Inv X pins σ H s):H s.heap.objs.size=none:=I.hok.fresh (z0g _)
theorem Inv.lstM(I:Inv X pins σ H s)(hH:H l=some (.lst xs)):xs.length<=sizeLine/\∃(its:List ad7) (n:Nat),Vals xs its/\xs.length=its.length/\s.heap.get? l=some {cls:= .type "list",data:= .seq its.toArray n}:=by
 obtain⟨z,its,n,r,e⟩:=I.hok l _ hH;exact⟨z,its,n,r,r.length,e⟩
end
section
variable{X:Cx}
def rAppend:V->List V->Hp->VK->Prop:=λx vs H Q=>∃l xs y,x= .ref l/\vs=[y]/\H l=some (.lst xs)/\xs.length<sizeLine/\Q .non (upd H l (.lst (xs++[y])))
theorem mt_append:MtM X "list.append" rAppend:=by
 intro pins s σ H x vs v us Q I rx rv h;obtain⟨l,xs,y,rfl,rfl,hH,hz,q⟩:=h;cases rx;obtain⟨u,rfl,ru⟩:=rv.one;obtain⟨z,its,n,r,hl,e⟩:=I.lstM hH;refine af6 F.slot_list_append ⟨_,e,rfl⟩ F.entry_list_append (F.args_list_append_2 _ _) (PySem.list_append l its.toArray n u (by rw[z1c];omega)) ⟨e,?_⟩;refine⟨.non,_,I.lset (its':=its++[u]) hH e (by simp) (r.append (.cons ru .nil)) ?_,rfl,q⟩;rw[z1d,afI];omega
def rPopAt:V->List V->Hp->VK->Prop:=λx vs H Q=>∃l xs i k y,x= .ref l/\vs=[.int i]/\H l=some (.lst xs)/\-(2^63)<=i/\i<2^63/\seqIndex? i xs.length=some k/\xs[k]?=some y/\Q y (upd H l (.lst (xs.eraseIdx k)))
theorem mt_popAt:MtM X "list.pop" rPopAt:=by
 intro pins s σ H x vs v us Q I rx rv h;obtain⟨l,xs,i,k,y,rfl,rfl,hH,h1,h2,hk,hy,q⟩:=h;cases rx;obtain⟨u,rfl,ru⟩:=rv.one;obtain⟨t,rfl⟩:=ru;obtain⟨z,its,n,r,hl,e⟩:=I.lstM hH;obtain⟨w,hw,rw'⟩:=r.get hy;refine af6 F.slot_list_pop ⟨_,e,rfl⟩ F.entry_list_pop (F.args_list_pop_2 _ _)
  (MeetsSeq.list_pop_at l its.toArray n i t k w (fitsIndex_both h1 h2) (by rw[z1c,<-hl];exact hk) (by rw[<-ahE];exact hw) (by rw[z1c];omega)) ⟨e,?_⟩
 refine⟨y,_,I.lset (its':=its.eraseIdx k) hH e ?_ (r.eraseIdx k) ?_,rw',q⟩
 ·show its.toArray.eraseIdxIfInBounds k=(its.eraseIdx k).toArray;rw[List.eraseIdxIfInBounds_toArray]
 ·have:=len_erase xs k;omega
theorem len_rep{α:Type}(xs:List α)(k:Nat):(aeb k xs).flatten.length=k*xs.length:=by
 induction k with
 |zero=>simp
 |succ k ih=>rw[afm,agd,z1d,ih,Nat.succ_mul,Nat.add_comm]
end
section
variable{prog:aek}{w:aep}{A:aer}{E:ad7->ad8->Prop}{s:ad8}
end
section
variable{X:Cx}
end
section
variable{κ:Type}[DecidableEq κ]
end
section
variable{P:aek}{w:aep}{H:Hp}{h:aeo}{a:ad5}
end
section
variable{X:Cx}{pins:List (ad5×Obj)}{σ:St}{H:Hp}{s:ad8}{a:ad5}{y v:V}{u r:ad7}{o:Option V}{A:aer}{E:ad7->ad8->Prop}
end
section
variable{X:Cx}{pins:List (ad5×Obj)}{σ:St}{H:Hp}{s:ad8}{a:ad5}{kvs:List (Key×V)}{k:Key}{u:ad7}{A:aer}{E:ad7->ad8->Prop}
end
section
variable{X:Cx}{o i e value:aee}{pos pos' tpos:Pos}{td ty tv:TE}
end
section
variable{X:Cx}{pos:Pos}
end
section
variable{X:Cx}{pins:List (ad5×Obj)}{σ:St}{H:Hp}{s:ad8}{a:ad5}{y d:V}{u r:ad7}{o:Option V}{A:aer}{E:ad7->ad8->Prop}
end
section
variable{X:Cx}{o e f:aee}{apos cpos:Pos}{td ty tx:TE}
end
section
variable{X:Cx}{pins:List (ad5×Obj)}{σ:St}{H:Hp}{s:ad8}{a:ad5}{kvs:List (Key×V)}{A:aer}{E:ad7->ad8->Prop}
end
section
variable{X:Cx}{pins:List (ad5×Obj)}{σ:St}{H:Hp}{s:ad8}{a:ad5}{y:V}{u:ad7}{A:aer}{E:ad7->ad8->Prop}
end
end L2
namespace Att
open PySem PySem.W PySem.Calls PyProof.Rows
theorem ints_of_wellAll{P:Params}{h:aeo}:∀(ns:List Int) (vs:List ad7),WellAll P h vs (ns.map WData.int)->afS vs ns:=by
 intro ns
 induction ns with
 | nil=>
  intro vs w;rw[agz] at w;cases w;exact .nil
 | cons n ns ih=>
  intro vs w;rw[z1h] at w;cases w with
  | cons a b=>
   cases a;exact .cons _ _ (ih _ b)
theorem script_of{l:OpenLaw}{n:Nat}(hn:l.most=some n){P:Params}{h:aeo}{args:List WData}{vals:List ad7}
  (hpre:l.row.toRowW.claim.pre args=true)(hwl:WellAll P h vals args):
  ∃a vs ns,vals=[aew a]/\args=[WData.list (ns.map WData.int)]/\h.get? a=some {cls:= .type "list",data:= .seq vs.toArray}/\afS vs ns/\ns.length<=n:=by
 have hsh:WShape.hasAll [] args [.list .int]=true:=(pre_splitW hpre).1;have hc:l.pre.holds [] {args:=args}=true:=(pre_splitW hpre).2;obtain⟨d,r,rfl,h1,h2⟩:=hasAllW_cons hsh;obtain rfl:=hasAllW_nil h2;obtain⟨xs,rfl,h3⟩:=hasW_list h1;obtain⟨ns,rfl⟩:=items_int h3;have hlen:ns.length<=n:=by
  unfold OpenLaw.pre at hc;have h4:(WTm.not (.lt (.lit (.int (n:Int))) (.len (.arg 0)))).holds [] {args:=[.list (ns.map .int)]}=true:=by
   have h4:=(holds_andW hc).1;rw[hn] at h4;exact h4
  have h5:=condW_of h4 (w_not (w_lt w_lit (w_len_list (w_arg rfl))));rw[z1g] at h5;refine Nat.le_of_not_lt λq=>?_;have q':(n:Int)<((ns.length:Nat):Int):=by omega
  first
   |(rw[decide_eq_true q'] at h5;exact absurd h5 (by decide))
   |(simp at h5;omega)
 cases hwl with
 | cons w1 w2=>
  cases w2;cases w1 with
  |list ho hall=>exact⟨_,_,ns,rfl,rfl,ho,ints_of_wellAll ns _ hall,hlen⟩
theorem post_true(l:OpenLaw)(args:List WData):l.row.toRowW.claim.post args (.bool true) args=true:=
 postW_of (r:=l.row.toRowW) (X:=(true ==true))
  (show WShape.has [] (.bool true) .bool=true by first |rfl |decide |simp[WShape.has,WShape.arms,WShape.armsAll])
  (show (WTm.eq .res (.lit (.bool true))).value [] {args:=args,res:=some (.bool true),after:=args}=some (.bool (true ==true)) from w_eq_bool (w_res rfl) w_lit) rfl
theorem attach_call{l:OpenLaw}{n:Nat}{q:aek}{loose:List Str}{XP:(Str->Option ad7)->aeo->Prop}{YP:aep->aeo->Prop}{d:DefRec}
  (hn:l.most=some n)(hdf:d.params.defaults=[])
  (call:∀(w:aep) (s₀ s₁:ad8) (mg mb:Str->Option ad7) (fa:ad5) (o:Obj) (pm cd doc:ad7) (a:ad5) (vs:List ad7) (ns:List Int),
   Ground q loose [] XP w s₀ mg mb s₁.heap->YP w s₁.heap->
   s₁.heap.get? fa=some o->o.data= .func (docDef d.name d.params d.body d.scope pm cd doc)->s₁.heap.CodeRec cd d.name->mg d.name=some (.ref fa)->
   s₁.heap.get? a=some {cls:= .type "list",data:= .seq vs.toArray}->afS vs ns->ns.length<=n->s₁.gens= #[]->
   ahi (model l.prog w) agH (.call (.ref fa) ⟨[.ref a],[]⟩) (λr s'=>r= .ok (.ret (.bool true))/\OldK s₁.heap s'.heap/\s'.os=s₁.os/\agQ s'.gens) s₁):
  WalkO q loose XP YP l.row.toRowW d [] (λf vs=>PySem.call f vs):=by
 intro w s₀ s₁ mg mb G Y fa o pm cd doc dV kV ho hd hcd hD hmg hg args vals as hpre hlay hrd hwl hlo;obtain rfl:dV= .none:=Dflts.none hD hdf;obtain rfl:kV= .none:=Dflts.noKw hD;obtain⟨a,vs,ns,rfl,rfl,hobj,hints,hlen⟩:=script_of hn hpre hwl;refine enter_call (agx (call w s₀ s₁ mg mb fa o pm cd doc a vs ns G Y ho (fd_plain hd) hcd hmg hobj hints hlen hg) λr s' hq=>?_);obtain⟨rfl,h2,h3,h4⟩:=hq;exact⟨.inl ⟨.bool true,.bool true,[],rfl,λ_=>rfl,.bool true,post_true l _,λ_=>⟨aiv,λ_ hm=>(nomatch hm)⟩⟩,h2,h3,h4⟩
section
variable{prog:aek}{w:aep}{A:aer}{E:ad7->ad8->Prop}{s:ad8}{K:Frag}
end
end Att
namespace L2
open PySem PySem.Spec PyProof.Rows
variable{fd:aeU}{st:aeu}{x qual:Str}
theorem vals_ints:∀{vs:List ad7} {ns:List Int},afS vs ns->Vals (ns.map V.int) vs
 :=by
 intro vs ns h
 induction h with
 |nil=>exact .nil
 |cons n t h ih=>exact .cons ⟨t,rfl⟩ ih
def Only(H:Hp):Prop:=∀b,H b=none\/∃o xs,H b=some (.frz o (.lst xs))
theorem law_call {P:Program} {w:World} {K:PySem.W.Frag} {mg mb:Str→Option Value} {CX:CXT} {k:Nat} {fa a:Addr} {sp:Sp} {s₁:Shared} {vs:List Value} {ns:List Int}
    (KX:K.In s₁.heap)(hns:s₁.heap.Ns aed mg)(hb:s₁.heap.Ns agL mb)(hbb:∀x:Str,x≠"__name__"→mb x=afK x)(hlim:s₁.heap.NoLimit)(hg:s₁.gens= #[])
    (ha:s₁.heap.get? a=some {cls:= .type "list",data:= .seq vs.toArray})(hi:afS vs ns)(hl:ns.length≤sizeLine)(hr:Room k agH)
    (F:∀base:aeo,K.In base→base.Ns aed mg→FnOk P w K mg base CX k fa fd [x] sp)(hbind:∀(s:ad8) (u:ad7),ahh s fd ⟨[u],[]⟩ [(x,u)])
    (hsp:∀H:Hp,Only H→SqL K H a (ns.map V.int)→sp [.ref a] H (fun v _=>v= .bl true) fun _ _ _=>False)
    (hCX:∀H e s',CX [] H s₁ (fun _ _ _=>False) e s'→False):
    ahi (model P w) agH (.call (.ref fa) ⟨[.ref a],[]⟩) (fun r s'=>r= .ok (.ret (.bool true))∧OldK s₁.heap s'.heap∧s'.os=s₁.os∧agQ s'.gens) s₁:=by
  have rv:=vals_ints hi
  have lenV:=hi.length
  have core :∀H:Hp,Only H→SqL K H a (ns.map V.int)→HOk P w H s₁.heap→(∀b,H b≠none→b=a)→(H a≠none→K.lookup a=none)→
      ahi (model P w) agH (.call (.ref fa) ⟨[.ref a],[]⟩) (fun r s'=>r= .ok (.ret (.bool true))∧OldK s₁.heap s'.heap∧s'.os=s₁.os∧agQ s'.gens) s₁:=by
    intro H hO hS hok hA hK
    have base_of:∀{b:ad5} {o:Obj},s₁.heap.get? b=some o→H b=none→(hidT s₁.heap H).get? b=some o:=fun e n=>hidT_get e n
    have noA:∀{b:ad5} {o:Obj} {es:Array DictEntry} {ep:Nat},s₁.heap.get? b=some o→o.data= .dict es ep→H b=none:=fun {b o es ep} e d=>by
      cases q:H b with
      |none=>rfl
      | some u=>
        have e':b=a:=hA b (by rw[q];simp)
        subst e'
        rw[ha] at e;cases e
        have d':Data.seq vs.toArray _=Data.dict es ep:=d
        cases d'
    have nsK:∀{b:ad5} {m:Str→Option ad7},s₁.heap.Ns b m→(hidT s₁.heap H).Ns b m:=fun {b m} ⟨o,es,ep,e,d,r⟩=>⟨o,es,ep,base_of e (noA e d),d,r⟩
    have hKb:K.In (hidT s₁.heap H):=fun b o e=>base_of (KX b o e) (by
      cases q:H b with
      |none=>rfl
      | some u=>
        have e':b=a:=hA b (by rw[q];simp)
        subst e'
        rw[hK (by rw[q];simp)] at e;cases e)
    have hM:Mod K mg (hidT s₁.heap H):=⟨hKb,nsK hns,⟨mb,nsK hb,hbb⟩,let⟨mc,h1,h2⟩:=hlim;⟨mc,nsK h1,h2⟩⟩
    have e0:Env0 P w K mg (hidT s₁.heap H) agH [] s₁ H:=⟨rfl,hM,fun b o e=>of_hidT e,Nat.le_of_eq (hidT_size _ _),trivial,fun b hb=>absurd (show b∈([]:List ad5) from hb) (by simp),hok,.of_eq hg⟩
    refine agx ((F _ hKb (nsK hns)).run agH [] s₁ H ⟨[.ref a],[]⟩ [.ref a] [.ref a] _ _ hr e0 (hbind s₁ (.ref a)) (.cons rfl .nil) (hsp H hO hS)) fun r s' h=>?_
    cases r with
    |error e=>exact (hCX H e s' h).elim
    | ok fl =>
      cases fl with
      |next=>exact aeJ h
      |brk=>exact aeJ h
      |cont=>exact aeJ h
      | ret u=>
        obtain⟨v,H',os,bare,un,hok',r',q⟩:=h
        have q':v= .bl true:=q
        subst q'
        obtain rfl:u=aiB true:=r'
        refine⟨rfl,OldK.of_keep fun b o e=>?_,os,bare⟩
        cases q:H b with
        |none=>exact un.keep b o e q (by intro z;exact absurd (show b∈([]:List ad5) from z) (by simp)) (by simp)
        | some u=>
          rcases hO b with z |⟨ob,xs,z⟩
          · rw[q] at z;cases z
          · have z2:=un.frzs b ob _ z
            obtain⟨e1,_⟩:=hok b _ z
            obtain⟨e2,_⟩:=hok' b _ z2
            rw[e] at e1;cases e1
            exact e2
  cases hk:K.lookup a with
  | some o=>
    have e:=KX a o hk
    rw[ha] at e
    cases e
    refine core (fun _=>none) (fun _=> .inl rfl) (.inr ⟨_,vs.toArray,_,hk,rfl,rfl,rfl,by rw[ait,lenV];exact hl,by simpa using rv⟩) (fun b u z=>by have z':(none:Option HO)=some u:=z;cases z') (fun b z=>absurd rfl z) fun z=>absurd rfl z
  | none=>
    refine core (fun b=>if b=a then some (.frz {cls:= .type "list",data:= .seq vs.toArray} (.lst (ns.map V.int))) else none) (fun b=>?_) (.inl (.inr ⟨{cls:= .type "list",data:= .seq vs.toArray},if_pos rfl⟩)) (fun b u z=>?_) (fun b z=>?_) fun _=>hk
    · by_cases hb:b=a
      · exact .inr ⟨_,_,if_pos hb⟩
      · exact .inl (if_neg hb)
    · by_cases hb:b=a
      · have z':=(if_pos hb).symm.trans z
        cases z'
        subst hb
        exact⟨ha,by rw[aiV];exact hl,vs,_,rv,ha⟩
      · have z':=(if_neg hb).symm.trans z
        cases z'
    · by_cases hb:b=a
      · exact hb
      · exact absurd (if_neg hb) z
theorem walk_of{l:PySem.W.OpenLaw}{n k:Nat}{q:aek}{loose:List Str}{XP:(Str->Option ad7)->aeo->Prop}{YP:aep->aeo->Prop}{d:DefRec}{K:Params->PySem.W.Frag}{CX:aep->CXT}{sp:aep->Sp}
  (hn:l.most=some n)(hn2:n<=sizeLine)(hdf:d.params.defaults=[])(hr:Room k agH)
  (hY:∀(w:aep) (h:aeo),YP w h->(K w.params).In h)
  (F:∀(w:aep) (mg:Str->Option ad7) (fa:ad5) (h:aeo),(K w.params).In h->h.Ns aed mg->mg d.name=some (.ref fa)->
   ∃fd:aeU,(∀(s:ad8) (u:ad7),ahh s fd ⟨[u],[]⟩ [(x,u)])/\
    ∀base:aeo,(K w.params).In base->base.Ns aed mg->FnOk l.prog w (K w.params) mg base (CX w) k fa fd [x] (sp w))
  (hsp:∀(w:aep) (H:Hp) (a:ad5) (ns:List Int),ns.length<=n->Only H->SqL (K w.params) H a (ns.map V.int)->sp w [.ref a] H (λv _=>v= .bl true) λ_ _ _=>False)
  (hCX:∀(w:aep) (H:Hp) (s:ad8) (e:ad7) (s':ad8),CX w [] H s (λ_ _ _=>False) e s'->False):
  PySem.W.WalkO q loose XP YP l.row.toRowW d [] (λf vs=>PySem.call f vs):=by
 refine Att.attach_call hn hdf λw s₀ s₁ mg mb fa o pm cd doc a vs ns G Y ho hd hcd hmg hobj hints hlen hg=>?_;have KX:=hY w _ Y;obtain⟨fd,hb,hF⟩:=F w mg fa _ KX G.T.g hmg;exact law_call KX G.T.g G.T.b G.T.builtins G.T.nolimit hg hobj hints (z0b hlen hn2) hr hF hb (λH hO hS=>hsp w H a ns hlen hO hS) λH e s'=>hCX w H s₁ e s'
def defArgs(s:aeu):agv:=match s with
 | .FunctionDef _ a _ _ _ _ _ _ _ _=>a
 |_=>{posonlyargs:=[],args:=[],vararg:=none,kwonlyargs:=[],kw_defaults:=[],kwarg:=none,defaults:=[]}
def defBody(s:aeu):List aeu:=match s with
 | .FunctionDef _ _ b _ _ _ _ _ _ _=>b
 |_=>[]
def defScope(s:aeu):afB:=match s with
 | .FunctionDef _ _ _ _ _ _ sc _ _ _=>sc
 |_=>{kind:= .function,names:=[],isGenerator:=false,isCoroutine:=false}
abbrev CX0:CXT:=λ_ _ _ _ _ _=>False
abbrev E0:XK:=λ_ _ _=>False
theorem pass0{X:Cx}:Passes CX0 X E0:=λ_ _ _ _ _ _ _ h=>h.elim
inductive Zy (K:PySem.W.Frag) (x qual:Str) (st:aeu) (f:ad5) (fd:aeU):Prop
 |mk (oc:ad7) (od:Option ad5) (kV doc pm:ad7) (an:Option ad5) (cdv ct:ad7) (osl:Array (Option ad7)) (e:fd=PySem.W.fnOf x qual (defArgs st) (defBody st) (defScope st) .none kV doc pm an cdv ct) (lk:K.lookup f=some ⟨oc,od,.func fd,osl⟩) (hcd:PySem.W.codeIn K cdv qual=true):Zy K x qual st f fd
structure Fun(K:PySem.W.Frag)(x qual:Str)(st:aeu)(f:ad5)(fd:aeU):Prop where
 ex:Zy K x qual st f fd
 kp:PySem.W.keepIn K (.ref f)=true
section
variable{P:aek}{w:aep}{K:PySem.W.Frag}{mg:Str->Option ad7}{base:aeo}
theorem Fun.ok{f:ad5}{N ps:List Str}{k:Nat}{sp:Sp}(F:Fun K x qual st f fd)(S:FnScope N ps (defScope st))(len:∀vs H Q E,sp vs H Q E->vs.length=ps.length)
  (hbody:∀(cdv:ad7) (A:aer) (outer:List Env) (s:ad8) (H:Hp) (vs:List V) (Q:VK) (E:XK),Room k (A.deeper (afP qual (defScope st) s.heap.objs.size f cdv))->sp vs H Q E->
   ∃t,PSs (cxOf CX0 P w K mg base N qual (defScope st) f cdv A outer s H E).nox (defBody st) t/\t {nx:=λ_ H'=>Q .non H',rt:=Q} (start N vs) H):FnOk P w K mg base CX0 (k+1) f fd ps sp:=by
 obtain⟨oc,od,kV,doc,pm,an,cdv,ct,osl,rfl,lk,hcd⟩:=F.ex;refine fn_of lk hcd S len λA outer s H vs Q E hr hsp=>?_;obtain⟨t,h,q⟩:=hbody cdv A outer s H vs Q E hr hsp;exact⟨t,h.nox,q⟩
theorem Fun.binds{f:ad5}{ps:List Str}(F:Fun K x qual st f fd)
  (h:∀(kV doc pm:ad7) (an:Option ad5) (cdv ct:ad7) (us:List ad7),us.length=ps.length->agh (PySem.W.fnOf x qual (defArgs st) (defBody st) (defScope st) .none kV doc pm an cdv ct) ⟨us,[]⟩=pure (ps.zip us)):Binds K fd ps []:=by
 obtain⟨oc,od,kV,doc,pm,an,cdv,ct,osl,rfl,lk,hcd⟩:=F.ex;exact .all (h kV doc pm an cdv ct)
theorem fun_mk{f:ad5}{oc:ad7}{od an:Option ad5}{osl:Array (Option ad7)}{kV doc pm cdv ct:ad7}(l:K.lookup f=some ⟨oc,od,.func (PySem.W.fnOf x qual (defArgs st) (defBody st) (defScope st) .none kV doc pm an cdv ct),osl⟩)
  (c:PySem.W.codeIn K cdv qual=true)(k:PySem.W.keepIn K (.ref f)=true):Fun K x qual st f (PySem.W.fnOf x qual (defArgs st) (defBody st) (defScope st) .none kV doc pm an cdv ct):=⟨⟨oc,od,kV,doc,pm,an,cdv,ct,osl,rfl,l,c⟩,k⟩
end
section
variable{X:Cx}
theorem pv(i:Nat){pos:Pos}(hN:X.N[i]?=some x:=by rfl)(hv:Vis X.env.scope x:=by first |exact aeM rfl |exact aeB (aeM rfl) |exact aeB (aeB rfl))(hd:(x ==("__debug__" :Str))=false:=by decide)
  (hcd:(x ==("__classdict__" :Str))=false:=by decide):PE X (.Name x pos) (tVar i):=pe_var hN hv hd hcd
end
def Same(H H':Hp):Prop:=∀b o,H b=some o->H' b=some o
theorem Same.refl(H:Hp):Same H H:=λ_ _ h=>h
theorem Same.trans{H H1 H2:Hp}(a:Same H H1)(b:Same H1 H2):Same H H2:=λc o h=>b c o (a c o h)
theorem Same.free{H H':Hp}(e:Same H H'){l:ad5}(h:H' l=Option.none):H l=Option.none:=by
 cases q:H l with
 |none=>rfl
 | some o=>
  rw[e l o q] at h;cases h
section
variable{κ:Type}[DecidableEq κ]
end
end L2
namespace Pu
open PySem PySem.Spec L2
open PyProof.Rows hiding St
inductive D where
 |non |bl (b:Bool) |int (i:Int) |str (x:Str) |tup (xs:List D) |lst (xs:List D)
inductive R (α:Type) where
 |bad |ok (a:α) |err (c:Str)
namespace R
def bind{α β:Type}(r:R α)(k:α->R β):R β:=match r with
 | .ok a=>k a
 | .err c=> .err c
 | .bad=> .bad
@[simp] theorem bf {α β:Type} (a:α) (k:α->R β):(R.ok a).bind k=k a:=rfl
end R
mutual
def Rep(K:PySem.W.Frag)(O:ad5->Prop)(H:Hp):D->V->Prop
 | .non,v=>v= .non
 | .bl b,v=>v= .bl b
 | .int i,v=>v= .int i
 | .str x,v=>v= .str x
 | .tup ds,v=>∃a xs,v= .ref a/\SqT K H a xs/\aP K O H ds xs
 | .lst ds,v=>∃a xs,v= .ref a/\SqL K H a xs/\¬O a/\aP K O H ds xs
def aP(K:PySem.W.Frag)(O:ad5->Prop)(H:Hp):List D->List V->Prop
 |[],xs=>xs=[]
 |d::ds,xs=>∃x r,xs=x::r/\Rep K O H d x/\aP K O H ds r
end
structure Ext(O:ad5->Prop)(H H':Hp):Prop where
 tup:∀b xs,Rd H b (.tup xs)->Rd H' b (.tup xs)
 lst:∀b xs,¬O b->Rd H b (.lst xs)->Rd H' b (.lst xs)
section
variable{K:PySem.W.Frag}{O O':ad5->Prop}{H H':Hp}
theorem SqL.ext(e:Ext O H H'){a:ad5}{xs:List V}(n:¬O a)(h:SqL K H a xs):SqL K H' a xs:=by
 rcases h with h |h
 ·exact .inl (e.lst _ _ n h)
 ·exact .inr h
theorem SqT.ext(e:Ext O H H'){a:ad5}{xs:List V}(h:SqT K H a xs):SqT K H' a xs:=by
 rcases h with h |h
 ·exact .inl (e.tup _ _ h)
 ·exact .inr h
mutual
theorem Rep.ext(e:Ext O H H')(o:∀b xs,¬O b->SqL K H b xs->¬O' b):∀(d:D) (v:V),Rep K O H d v->Rep K O' H' d v
 | .non,_,h=>by simpa only[Rep] using h
 | .bl _,_,h=>by simpa only[Rep] using h
 | .int _,_,h=>by simpa only[Rep] using h
 | .str _,_,h=>by simpa only[Rep] using h
 | .tup ds,v,h=>by
  simp only[Rep] at h |-;obtain⟨a,xs,e1,h1,h2⟩:=h;exact⟨a,xs,e1,SqT.ext e h1,aP.ext e o ds xs h2⟩
 | .lst ds,v,h=>by
  simp only[Rep] at h |-;obtain⟨a,xs,e1,h1,h2,h3⟩:=h;exact⟨a,xs,e1,SqL.ext e h2 h1,o _ _ h2 h1,aP.ext e o ds xs h3⟩
theorem aP.ext(e:Ext O H H')(o:∀b xs,¬O b->SqL K H b xs->¬O' b):∀(ds:List D) (xs:List V),aP K O H ds xs->aP K O' H' ds xs
 |[],xs,h=>by simpa only[aP] using h
 | d::ds,xs,h=>by
  simp only[aP] at h |-;obtain⟨x,r,e1,h1,h2⟩:=h;exact⟨x,r,e1,Rep.ext e o d x h1,aP.ext e o ds r h2⟩
end
end
structure eG(K:PySem.W.Frag)(O:ad5->Prop)(H:Hp)(O':ad5->Prop)(H':Hp):Prop where
 ext:Ext O H H'
 new:∀a,O' a->O a\/(H a=none/\K.lookup a=none)
 dom:∀a,H' a=none->H a=none
section
variable{K:PySem.W.Frag}{O O1 O2:ad5->Prop}{H H1 H2:Hp}
theorem Rd.some{a:ad5}{u:HO}(h:Rd H a u):H a≠none:=by
 rcases h with h |⟨o,h⟩ <;> rw[h] <;> simp
theorem eG.out(r:eG K O H O1 H1)(b:ad5)(xs:List V)(n:¬O b)(h:SqL K H b xs):¬O1 b:=λz=>by
 rcases r.new b z with z |⟨z1,z2⟩
 ·exact n z
 ·rcases h with h |⟨o,_,_,h,_⟩
  ·exact Rd.some h z1
  ·rw[z2] at h;cases h
theorem eG.refl:eG K O H O H:=⟨⟨λ_ _ h=>h,λ_ _ _ h=>h⟩,λ_ h=> .inl h,λ_ h=>h⟩
theorem eG.trans(r:eG K O H O1 H1)(q:eG K O1 H1 O2 H2):eG K O H O2 H2 where
 ext:=⟨λb xs h=>q.ext.tup b xs (r.ext.tup b xs h),λb xs n h=>q.ext.lst b xs (r.out b xs n (.inl h)) (r.ext.lst b xs n h)⟩
 new:=λa z=>(q.new a z).elim (r.new a) λw=> .inr ⟨r.dom a w.1,w.2⟩
 dom:=λa z=>r.dom a (q.dom a z)
theorem Same.rd(s:Same H H1){a:ad5}{u:HO}(h:Rd H a u):Rd H1 a u:=by
 rcases h with h |⟨o,h⟩
 ·exact .inl (s _ _ h)
 ·exact .inr ⟨o,s _ _ h⟩
theorem Same.dR(s:Same H H1):eG K O H O H1:=⟨⟨λ_ _ h=>Same.rd s h,λ_ _ _ h=>Same.rd s h⟩,λ_ h=> .inl h,λ_ h=>s.free h⟩
theorem Rep.go(r:eG K O H O1 H1){d:D}{v:V}(h:Rep K O H d v):Rep K O1 H1 d v:=Rep.ext r.ext r.out d v h
theorem aP.go(r:eG K O H O1 H1){d:List D}{v:List V}(h:aP K O H d v):aP K O1 H1 d v:=aP.ext r.ext r.out d v h
theorem Rep.same(s:Same H H1){d:D}{v:V}(h:Rep K O H d v):Rep K O H1 d v:=h.go (Same.dR s)
theorem aP.same(s:Same H H1){d:List D}{v:List V}(h:aP K O H d v):aP K O H1 d v:=h.go (Same.dR s)
theorem Rep.fewer(w:∀a,O1 a->O a){d:D}{v:V}(h:Rep K O H d v):Rep K O1 H d v:=Rep.ext ⟨λ_ _ h=>h,λ_ _ _ h=>h⟩ (λb _ n _ z=>n (w b z)) d v h
theorem aP.fewer(w:∀a,O1 a->O a){d:List D}{v:List V}(h:aP K O H d v):aP K O1 H d v:=aP.ext ⟨λ_ _ h=>h,λ_ _ _ h=>h⟩ (λb _ n _ z=>n (w b z)) d v h
theorem aP.nil:aP K O H [] []:=by simp only[aP]
theorem aP.cons{d:D}{v:V}{ds:List D}{vs:List V}(h:Rep K O H d v)(t:aP K O H ds vs):aP K O H (d::ds) (v::vs):=by simp only[aP];exact⟨v,vs,rfl,h,t⟩
theorem aP.cons_inv{d:D}{ds:List D}{vs:List V}(h:aP K O H (d::ds) vs):∃x r,vs=x::r/\Rep K O H d x/\aP K O H ds r:=by simpa only[aP] using h
theorem aP.nil_inv{vs:List V}(h:aP K O H [] vs):vs=[]:=by simpa only[aP] using h
theorem aP.length:∀{ds:List D} {vs:List V},aP K O H ds vs->ds.length=vs.length
 |[],vs,h=>by rw[h.nil_inv];rfl
 | d::ds,vs,h=>by
  obtain⟨x,r,rfl,_,t⟩:=h.cons_inv;simp[aP.length t]
theorem aP.get:∀{ds:List D} {vs:List V} {i:Nat} {d:D},aP K O H ds vs->ds[i]?=some d->∃v,vs[i]?=some v/\Rep K O H d v
 |[],_,_,_,_,e=>by simp at e
 | d::ds,vs,i,d',h,e=>by
  obtain⟨x,r,rfl,h1,t⟩:=h.cons_inv;cases i with
  |zero=>simp at e;subst e;exact⟨x,rfl,h1⟩
  |succ i=>simpa using aP.get t (i:=i) (by simpa using e)
theorem aP.cj{ds:List D}{vs:List V}{i:Nat}{v:V}(h:aP K O H ds vs)(e:vs[i]?=some v):∃d,ds[i]?=some d/\Rep K O H d v:=by
 have hl:=h.length;have hi:i<ds.length:=by rw[hl];exact (z1b e).1
 obtain⟨v',e',r⟩:=h.get (i:=i) (d:=ds[i]) (by simp[hi]);rw[e] at e';cases e';exact⟨_,by simp[hi],r⟩
theorem aP.append:∀{ds es:List D} {vs ws:List V},aP K O H ds vs->aP K O H es ws->aP K O H (ds++es) (vs++ws)
 |[],_,vs,_,h,t=>by rw[h.nil_inv];exact t
 | d::ds,es,vs,ws,h,t=>by
  obtain⟨x,r,rfl,h1,h2⟩:=h.cons_inv;exact .cons h1 (aP.append h2 t)
theorem aP.reverse:∀{ds:List D} {vs:List V},aP K O H ds vs->aP K O H ds.reverse vs.reverse
 |[],vs,h=>by rw[h.nil_inv];exact .nil
 | d::ds,vs,h=>by
  obtain⟨x,r,rfl,h1,h2⟩:=h.cons_inv;simp only[aiw];exact h2.reverse.append (.cons h1 .nil)
theorem aP.drop:∀{ds:List D} {vs:List V} (n:Nat),aP K O H ds vs->aP K O H (ds.drop n) (vs.drop n)
 |_,_,0,h=>h
 |[],vs,n+1,h=>by rw[h.nil_inv];exact .nil
 | d::ds,vs,n+1,h=>by
  obtain⟨x,r,rfl,h1,h2⟩:=h.cons_inv;exact h2.drop n
theorem aP.take:∀{ds:List D} {vs:List V} (n:Nat),aP K O H ds vs->aP K O H (ds.take n) (vs.take n)
 |_,_,0,_=>by simpa using aP.nil
 |[],vs,n+1,h=>by rw[h.nil_inv];exact .nil
 | d::ds,vs,n+1,h=>by
  obtain⟨x,r,rfl,h1,h2⟩:=h.cons_inv;exact .cons h1 (h2.take n)
theorem Rep.int{i:Int}{v:V}(h:Rep K O H (.int i) v):v= .int i:=by simpa only[Rep] using h
theorem Rep.bl{b:Bool}{v:V}(h:Rep K O H (.bl b) v):v= .bl b:=by simpa only[Rep] using h
theorem Rep.non{v:V}(h:Rep K O H .non v):v= .non:=by simpa only[Rep] using h
theorem Rep.str{x:Str}{v:V}(h:Rep K O H (.str x) v):v= .str x:=by simpa only[Rep] using h
theorem Rep.tup{ds:List D}{v:V}(h:Rep K O H (.tup ds) v):∃a xs,v= .ref a/\SqT K H a xs/\aP K O H ds xs:=by simpa only[Rep] using h
theorem Rep.lst{ds:List D}{v:V}(h:Rep K O H (.lst ds) v):∃a xs,v= .ref a/\SqL K H a xs/\¬O a/\aP K O H ds xs:=by simpa only[Rep] using h
theorem cB(i:Int):Rep K O H (.int i) (.int i):=by simp only[Rep]
theorem fL(b:Bool):Rep K O H (.bl b) (.bl b):=by simp only[Rep]
theorem mW:Rep K O H .non .non:=by simp only[Rep]
theorem Cm(x:Str):Rep K O H (.str x) (.str x):=by simp only[Rep]
theorem iJ{ds:List D}{a:ad5}{xs:List V}(h:SqT K H a xs)(r:aP K O H ds xs):Rep K O H (.tup ds) (.ref a):=by simp only[Rep];exact⟨a,xs,rfl,h,r⟩
theorem lG{ds:List D}{a:ad5}{xs:List V}(h:SqL K H a xs)(n:¬O a)(r:aP K O H ds xs):Rep K O H (.lst ds) (.ref a):=by simp only[Rep];exact⟨a,xs,rfl,h,n,r⟩
end
inductive Ob where
 |exc (c:Str) |fn (a:ad5)
inductive Ent where
 |val (d:D) |lst (ds:List D) |rG (kvs:List (Key×D)) |obj (t:Ob) |rws (rows:List (List D))
def Ent.own:Ent->Bool
 | .val _=>false
 | .obj _=>false
 |_=>true
def Ent.Q5:Ent->Bool
 | .val _=>true
 |_=>false
theorem aar{e:Ent}(h:e.Q5=true):e.own=false:=by cases e <;> first |rfl |cases h
abbrev aA:=List (Option Ent)
def ac5(K:PySem.W.Frag)(O:ad5->Prop)(H:Hp)(kvs:List (Key×D))(ys:List (Key×V)):Prop:=kvs.map (·.1)=ys.map (·.1)/\aP K O H (kvs.map (·.2)) (ys.map (·.2))
def lR(K:PySem.W.Frag)(H:Hp):Ob->V->Prop
 | .exc c,v=>∃a o C,v= .ref a/\H a=some (.frz o (.own a))/\o.cls= .ref C/\o.dict=none/\(∃vs,o.data= .fields vs)/\PySem.W.nsIn K aed c=some (some (.ref C))
 | .fn a,v=>v= .ref a/\∃o fd,H a=some (.frz o (.own a))/\o.data= .func fd
structure DQ(K:PySem.W.Frag)(O:ad5->Prop)(H:Hp)(rows:List (List D))(a:ad5)(rs:List ad5):Prop where
 at_:H a=some (.lst (rs.map V.ref))
 oa:O a
 nd:(a::rs).Nodup
 len:rs.length=rows.length
 row:∀(i:Nat) r row,rs[i]?=some r->rows[i]?=some row->O r/\∃xs,H r=some (.lst xs)/\aP K O H row xs
def oW(K:PySem.W.Frag)(O:ad5->Prop)(H:Hp):Ent->V->Prop
 | .val d,v=>Rep K O H d v
 | .lst ds,v=>∃a xs,v= .ref a/\O a/\H a=some (.lst xs)/\aP K O H ds xs
 | .rG kvs,v=>∃a ys,v= .ref a/\O a/\H a=some (.dK ys)/\ac5 K O H kvs ys
 | .obj t,v=>lR K H t v
 | .rws rows,v=>∃a rs,v= .ref a/\DQ K O H rows a rs
def Ti(H:Hp)(ρ:aA)(σ:St):Prop:=∀(i j:Nat) (rows:List (List D)) (a:ad5) (rs:List ad5) (e:Ent) (v:V),i≠j->ρ[i]?=some (some (.rws rows))->σ[i]?=some (some (.ref a))->H a=some (.lst (rs.map V.ref))->ρ[j]?=some (some e)->e.own=true->σ[j]?=some (some v)->(∀r∈rs,v≠.ref r)/\∀rows',e≠.rws rows'
structure Env(K:PySem.W.Frag)(O:ad5->Prop)(H:Hp)(ρ:aA)(σ:St):Prop where
 get:∀(i:Nat) e,ρ[i]?=some (some e)->∃v,σ[i]?=some (some v)/\oW K O H e v
 sep:∀(i j:Nat) e e' v,i≠j->ρ[i]?=some (some e)->ρ[j]?=some (some e')->e.own=true->e'.own=true->σ[i]?=some (some v)->σ[j]?=some (some v)->False
 lU:Ti H ρ σ
structure In(X:Cx)(O:ad5->Prop)(H:Hp)(ρ:aA)(σ:St):Prop where
 env:Env X.K O H ρ σ
 al:∀a,O a->∃o,H a=some o
 len:σ.length=X.N.length
 jr:ρ.length=X.N.length
section
variable{X:Cx}{O:ad5->Prop}{H H1:Hp}{ρ:aA}{σ:St}{K:PySem.W.Frag}
theorem lR.fz(s:∀b o u,H b=some (.frz o u)->H1 b=some (.frz o u)):∀{t:Ob} {v:V},lR K H t v->lR K H1 t v
 | .exc _,_,z=>by
  obtain⟨a,o,C,e,h,q,n⟩:=z;exact⟨a,o,C,e,s _ _ _ h,q,n⟩
 | .fn _,_,z=>by
  obtain⟨e,o,fd,h,q⟩:=z;exact⟨e,o,fd,s _ _ _ h,q⟩
theorem lR.same(s:Same H H1){t:Ob}{v:V}(h:lR K H t v):lR K H1 t v:=h.fz λ_ _ _ q=>s _ _ q
theorem jO{rs rs':List ad5}(h:rs.map V.ref=rs'.map V.ref):rs=rs':=(List.map_inj_right λ_ _ e=>V.ref.inj e).mp h
theorem DQ.same(s:Same H H1){rows:List (List D)}{a:ad5}{rs:List ad5}(h:DQ K O H rows a rs):DQ K O H1 rows a rs:=⟨s _ _ h.at_,h.oa,h.nd,h.len,λi r row e1 e2=>let⟨o,xs,q,r'⟩:=h.row i r row e1 e2;⟨o,xs,s _ _ q,r'.same s⟩⟩
theorem oW.same(s:Same H H1):∀{e:Ent} {v:V},oW K O H e v->oW K O H1 e v
 | .val d,v,h=>Rep.same s h
 | .lst ds,v,z=>by
  obtain⟨a,xs,e,o,h,r⟩:=z;exact⟨a,xs,e,o,s _ _ h,r.same s⟩
 | .rG kvs,v,z=>by
  obtain⟨a,xs,e,o,h,k,r⟩:=z;exact⟨a,xs,e,o,s _ _ h,k,r.same s⟩
 | .obj t,v,h=>lR.same s h
 | .rws rows,v,⟨a,rs,e,h⟩=>⟨a,rs,e,h.same s⟩
theorem Ti.of(h:Ti H ρ σ)(w:∀(i:Nat) (rows:List (List D)) (a:ad5) (rs:List ad5),ρ[i]?=some (some (.rws rows))->σ[i]?=some (some (.ref a))->H1 a=some (.lst (rs.map V.ref))->H a=some (.lst (rs.map V.ref))):Ti H1 ρ σ:=λi j rows a rs e v hij hi hs ha=>h i j rows a rs e v hij hi hs (w i rows a rs hi hs ha)
theorem Env.rws(E:Env K O H ρ σ){i:Nat}{rows:List (List D)}{a:ad5}(hi:ρ[i]?=some (some (.rws rows)))(hs:σ[i]?=some (some (.ref a))):∃rs,DQ K O H rows a rs:=by
 obtain⟨v,q,a',rs,e,r⟩:=E.get i _ hi;rw[q] at hs;cases hs;cases e;exact⟨rs,r⟩
theorem Env.back(E:Env K O H ρ σ)(s:Same H H1){i:Nat}{rows:List (List D)}{a:ad5}{rs:List ad5}(hi:ρ[i]?=some (some (.rws rows)))(hs:σ[i]?=some (some (.ref a)))(ha:H1 a=some (.lst (rs.map V.ref))):H a=some (.lst (rs.map V.ref)):=by
 obtain⟨rs',r⟩:=E.rws hi hs;have:=s _ _ r.at_;rw[ha] at this;rw[r.at_,jO (HO.lst.inj (aeg this))]
theorem Env.same(E:Env K O H ρ σ)(s:Same H H1):Env K O H1 ρ σ:=⟨λj e h=>let⟨v,h1,h2⟩:=E.get j e h;⟨v,h1,h2.same s⟩,E.sep,E.lU.of λi rows a rs hi hs ha=>E.back s hi hs ha⟩
theorem In.same(i:In X O H ρ σ)(s:Same H H1):In X O H1 ρ σ:=
 ⟨i.env.same s,λa h=>let⟨o,q⟩:=i.al a h;⟨o,s _ _ q⟩,i.len,i.jr⟩
end
def Exc(h:aeo)(e C:ad5)(T:Option ad5):Prop:=∃(oe:Obj) (vs:Array ad7),h.get? e=some oe/\oe.cls= .ref C/\oe.dict=none/\oe.data= .fields vs/\match T with
 |none=>vs[1]?=some aez
 |some t=>vs[1]?=some (.ref t)/\t≠e/\∃(ot:Obj) (ts:Array ad7),h.get? t=some ot/\ot.data= .fields ts/\ts[3]?=some aez
structure yW(P:aek)(w:aep)(fs:List ad5)(H:Hp)(s:ad8)(a C:ad5)(T:Option ad5)(s':ad8)(H':Hp):Prop where
 same:Same H H'
 un:Un fs [] H H' s.heap s'.heap
 hok:HOk P w H' s'.heap
 os:s'.os=s.os
 bare:agQ s'.gens
 exc:Exc s'.heap a C T
 na:s.heap.get? a=none
 ha:H' a=none
 nt:∀t,T=some t->s.heap.get? t=none/\H' t=none
def Fx(X:Cx)(c:Str)(σ:St)(H:Hp):Prop:=∀(H1:Hp) (pins:List (ad5×Obj)) (s:ad8) (a C:ad5) (T:Option ad5) (s':ad8) (H':Hp),Same H H1->Inv X pins σ H1 s->
 PySem.W.nsIn X.K aed c=some (some (.ref C))->yW X.prog X.w (frs X.stack) H1 s a C T s' H'->X.xe (.ref a) s'
theorem Fx.same{X:Cx}{c:Str}{σ:St}{H H1:Hp}(h:Fx X c σ H)(s:Same H H1):Fx X c σ H1:=λH2 pins s0 a C T s' H' s2=>h H2 pins s0 a C T s' H' (s.trans s2)
def good{α β:Type}(X:Cx)(Rl:(ad5->Prop)->Hp->α->β->Prop)(O:ad5->Prop)(r:R α)(σ:St)(H:Hp)(Q:β->Hp->Prop):Prop:=match r with
 | .ok a=>∀b H',Same H H'->Rl O H' a b->Q b H'
 | .err c=>Fx X c σ H
 | .bad=>False
theorem good.same{α β:Type}{X:Cx}{Rl:(ad5->Prop)->Hp->α->β->Prop}{O:ad5->Prop}{r:R α}{σ:St}{H H1:Hp}{Q:β->Hp->Prop}(h:good X Rl O r σ H Q)(s:Same H H1):good X Rl O r σ H1 Q:=by
 cases r with
 |ok a=>exact λb H' s' q=>h b H' (s.trans s') q
 |err c=>exact Fx.same (show Fx X c σ H from h) s
 |bad=>exact h
inductive TGd {α β:Type} (X:Cx) (Rl:(ad5->Prop)->Hp->α->β->Prop) (f:aA->R α) (σ:St) (H:Hp) (Q:β->Hp->Prop):Prop
 |mk (ρ:aA) (O:ad5->Prop) (j:In X O H ρ σ) (g:good X Rl O (f ρ) σ H Q):TGd X Rl f σ H Q
def tG{α β:Type}(X:Cx)(Rl:(ad5->Prop)->Hp->α->β->Prop)(f:aA->R α):St->Hp->(β->Hp->Prop)->Prop:=λσ H Q=>TGd X Rl f σ H Q
abbrev rB:(ad5->Prop)->Hp->Bool->Bool->Prop:=λ_ _ a b=>a=b
abbrev rD(X:Cx):(ad5->Prop)->Hp->D->V->Prop:=λO H d v=>Rep X.K O H d v
abbrev Fy(X:Cx):(ad5->Prop)->Hp->List D->List V->Prop:=λO H d v=>aP X.K O H d v
def DE(X:Cx)(e:aee)(f:aA->R D):Prop:=PE X e (tG X (rD X) f)
def DT(X:Cx)(e:aee)(f:aA->R Bool):Prop:=PT X e (tG X rB f)
def DW(X:Cx)(e:aee)(f:aA->R Bool):Prop:=PW X e (tG X rB f)
def DA(X:Cx)(es:List aee)(f:aA->R (List D)):Prop:=PA X es (tG X (Fy X) f)
theorem PE.imp{X:Cx}{e:aee}{t t':TE}(h:PE X e t)(w:∀σ H Q,t' σ H Q->t σ H Q):PE X e t':=λpins s σ H Q I q=>h pins s σ H Q I (w σ H Q q)
theorem PT.imp{X:Cx}{e:aee}{t t':TT}(h:PT X e t)(w:∀σ H Q,t' σ H Q->t σ H Q):PT X e t':=λpins s σ H Q I q=>h pins s σ H Q I (w σ H Q q)
theorem PW.imp{X:Cx}{e:aee}{t t':TT}(h:PW X e t)(w:∀σ H Q,t' σ H Q->t σ H Q):PW X e t':=λwh pins s σ H Q I q=>h wh pins s σ H Q I (w σ H Q q)
theorem PA.imp{X:Cx}{e:List aee}{t t':TA}(h:PA X e t)(w:∀σ H Q,t' σ H Q->t σ H Q):PA X e t':=λpos pins s σ H Q I q=>h pos pins s σ H Q I (w σ H Q q)
section
variable{X:Cx}{O:ad5->Prop}{H:Hp}{ρ:aA}{σ:St}
theorem go{α β γ δ:Type}{Rl:(ad5->Prop)->Hp->α->β->Prop}{Rm:(ad5->Prop)->Hp->γ->δ->Prop}{f:aA->R α}{g:α->R γ}{Q:δ->Hp->Prop}{Q':β->Hp->Prop}
  (i:In X O H ρ σ)(h:good X Rm O ((f ρ).bind g) σ H Q)
  (k:∀a b H1,f ρ= .ok a->Same H H1->Rl O H1 a b->In X O H1 ρ σ->good X Rm O (g a) σ H1 Q->Q' b H1):tG X Rl f σ H Q':=by
 refine⟨ρ,O,i,?_⟩;cases e:f ρ with
 |ok a=>rw[e] at h;exact λb H1 s r=>k a b H1 e s r (i.same s) (good.same h s)
 |err c=>rw[e] at h;exact h
 |bad=>rw[e] at h;exact h
theorem fin{α β:Type}{Rl:(ad5->Prop)->Hp->α->β->Prop}{a:α}{b:β}{Q:β->Hp->Prop}(h:good X Rl O (.ok a) σ H Q)(r:Rl O H a b):Q b H:=h b H (Same.refl H) r
end
end Pu
namespace Pu
open PySem PySem.Spec L2
open PyProof.Rows hiding St
variable{p:ad5}{O O0:ad5->Prop}{X Y:Cx}{d:D}{l:D->D->R D}{H H0:Hp}{ds:List D}{u:List D->aA->R aA}{N caps ts:List Str}{xs:List V}{n i:Nat}{px:Pos}{K:PySem.W.Frag}{ρ:aA}{scope sc:afB}{σ:St}{α:Type}
theorem Same.upd{o:HO}(h:H p=none):Same H (L2.upd H p o):=λb u e=>by
 rw[upd_ne (ne_of_none e h)];exact e
theorem Rep.mX(h:H p=none)(r:aP X.K O H ds xs):Rep X.K O (upd H p (.tup xs)) (.tup ds) (.ref p):=
 iJ (SqT.of upd_same) (r.same (Same.upd h))
theorem In.mJ(i:In X O H ρ σ)(h:H p=none):¬O p:=λz=>by
 obtain⟨o,e⟩:=i.al p z;rw[h] at e;cases e
theorem Rep.je(h:H p=none)(n:¬O p)(r:aP X.K O H ds xs):Rep X.K O (upd H p (.lst xs)) (.lst ds) (.ref p):=
 lG (SqL.of upd_same) n (r.same (Same.upd h))
section
variable{X:Cx}{a b c:aee}{f g h:aA->R D}{pos:Pos}
def cj(ρ:aA)(i:Nat):R D:=match ρ[i]? with
 |some (some (.val d))=> .ok d
 |_=> .bad
theorem dv(i:Nat){x:Str}{pos:Pos}(hN:X.N[i]?=some x:=by rfl)(hv:Vis X.env.scope x:=by first |exact aeM rfl |exact aeB (aeM rfl) |exact aeB (aeB rfl))(hd:(x ==("__debug__" :Str))=false:=by decide)(hcd:(x ==("__classdict__" :Str))=false:=by decide):
  DE X (.Name x pos) (λρ=>cj ρ i):=by
 refine PE.imp (pe_var hN hv hd hcd) λσ H Q h=>?_;obtain⟨ρ,O,j,h⟩:=h;have h:good X (rD X) O (cj ρ i) σ H Q:=h;unfold cj at h;split at h
 ·rename_i d e;obtain⟨v,e1,r⟩:=j.env.get i _ e;exact⟨v,e1,fin h r⟩
 ·exact h.elim
theorem HS{e:aee}{v:V}(h:PE X e (tC v))(r:∀O H,Rep X.K O H d v):DE X e (λ_=> .ok d):=PE.imp h λσ H Q h=>by
 obtain⟨ρ,O,j,h⟩:=h;exact fin h (r O H)
theorem aJ{i:Int}{j pos}:DE X (.Constant (.int i) j pos) (λ_=> .ok (.int i)):=HS pe_int λ_ _=>cB i
theorem fK{i:Bool}{j pos}:DE X (.Constant (.bool i) j pos) (λ_=> .ok (.bl i)):=HS pe_bl λ_ _=>fL i
theorem jf{j pos}:DE X (.Constant .none j pos) (λ_=> .ok .non):=HS pe_non λ_ _=>mW
theorem sO{x:Str}{j pos}:DE X (.Constant (.str x) j pos) (λ_=> .ok (.str x)):=HS pe_str λ_ _=>Cm x
theorem rY{x:Str}{i:Int}{t:Tok}{pos:Pos}(hg:Gl X x)(hm:X.mg x=some (.int i t))(hd:(x ==("__debug__" :Str))=false:=by decide):DE X (.Name x pos) (λ_=> .ok (.int i)):=
 HS (pe_glob (v:= .int i) hg hm ⟨t,rfl⟩ hd) λ_ _=>cB i
def iM(X:Cx)(o:ad7->ad7->Sem ad7)(k:D->D->R D):Prop:=∃r:R2,OpR X o r/\
 ∀(ρ:aA) (O:ad5->Prop) (σ:St) (H:Hp) (Q:VK) (x y:V) (dx dy:D),In X O H ρ σ->Rep X.K O H dx x->Rep X.K O H dy y->good X (rD X) O (k dx dy) σ H Q->r x y H Q
def bin(f g:aA->R D)(k:D->D->R D):aA->R D:=λρ=>(f ρ).bind λx=>(g ρ).bind λy=>k x y
theorem Fz{r:R2}{k:D->D->R D}{Q:VK}
  (hr:∀(ρ:aA) (O:ad5->Prop) (σ:St) (H:Hp) (Q:VK) (x y:V) (dx dy:D),In X O H ρ σ->Rep X.K O H dx x->Rep X.K O H dy y->good X (rD X) O (k dx dy) σ H Q->r x y H Q)
  (h:tG X (rD X) (bin f g k) σ H Q):tOp r (tG X (rD X) f) (tG X (rD X) g) σ H Q:=by
 obtain⟨ρ,O,j,h⟩:=h;refine go j h λdx x H1 e1 s1 r1 j1 h1=>?_;exact go j1 h1 λdy y H2 e2 s2 r2 j2 h2=>hr ρ O σ H2 Q x y dx dy j2 (r1.same s2) r2 h2
theorem aM{op:Operator}{k:D->D->R D}(ho:iM X (afj op) k)(ha:DE X a f)(hb:DE X b g):DE X (.BinOp a op b pos) (bin f g k):=by
 obtain⟨r,ho,hr⟩:=ho;exact PE.imp (pe_op ho ha hb) λσ H Q h=>Fz hr h
theorem FJ{op:CmpOp}{k:D->D->R D}(ho:iM X (aex op) k)(ha:DE X a f)(hb:DE X b g)(hm:agf op b=false:=by exact nomark _):DE X (.Compare a [op] [b] pos) (bin f g k):=by
 obtain⟨r,ho,hr⟩:=ho;exact PE.imp (pe_cmpR ho ha hb hm) λσ H Q h=>Fz hr h
def asB:D->R Bool
 | .bl b=> .ok b
 |_=> .bad
def cg(f:aA->R D):aA->R Bool:=λρ=>(f ρ).bind asB
theorem DR{t:TE}{k:aA->R D}{Q:Bool->Hp->Prop}(w:∀Q,tG X (rD X) k σ H Q->t σ H Q)(h:tG X rB (cg k) σ H Q):tTest t σ H Q:=by
 refine w _ ?_;obtain⟨ρ,O,j,h⟩:=h;refine go j h λd x H1 e1 s1 r1 j1 h1=>?_;cases d with
 |bl b=>exact⟨b,r1.bl,fin h1 rfl⟩
 |_=>exact h1.elim
theorem bV{op:CmpOp}{k:D->D->R D}(ho:iM X (aex op) k)(ha:DE X a f)(hb:DE X b g)(hm:agf op b=false:=by exact nomark _):DT X (.Compare a [op] [b] pos) (cg (bin f g k)):=by
 obtain⟨r,ho,hr⟩:=ho;exact PT.imp (pt_cmpR ho ha hb hm) λσ H Q h=>DR (λQ h=>Fz hr h) h
theorem j9{e:aee}(h:DE X e f)(he:∀whole,isTrue e X.env whole=(do let v <-whole;ahC e.pos;holding [v] (truthy v)):=by intro _;rfl):DT X e (cg f):=
 PT.imp (pt_val h he) λσ H Q h=>DR (t:=tG X (rD X) f) (λQ h=>h) h
def iD(k:Int->Int->R D):D->D->R D
 | .int i,.int j=>k i j
 |_,_=> .bad
theorem Cp{o:ad7->ad7->Sem ad7}{C:Int->Int->Prop}{g:Int->Int->V}{k:Int->Int->R D}(ho:OpR X o (rI C g))(hk:∀i j,k i j= .bad\/∃d,k i j= .ok d/\C i j/\∀K O H,Rep K O H d (g i j)):iM X o (iD k):=by
 refine⟨_,ho,λρ O σ H Q x y dx dy j0 rx ry h=>?_⟩;cases dx <;> cases dy <;> first
  |exact h.elim
  |skip
 rename_i i j;rcases hk i j with e |⟨d,e,c,r⟩
 ·have h':good X (rD X) O (k i j) σ H Q:=h;rw[e] at h';exact h'.elim
 ·have h':good X (rD X) O (k i j) σ H Q:=h;rw[e] at h';exact⟨i,j,rx.int,ry.int,c,fin h' (r _ _ _)⟩
theorem sS{o:ad7->ad7->Sem ad7}{g:Int->Int->V}{k:Int->Int->R D}(ho:OpR X o (rI0 g))(hk:∀i j,∃d,k i j= .ok d/\∀K O H,Rep K O H d (g i j)):iM X o (iD k):=by
 refine⟨_,ho,λρ O σ H Q x y dx dy j0 rx ry h=>?_⟩;cases dx <;> cases dy <;> first
  |exact h.elim
  |skip
 rename_i i j;obtain⟨d,e,r⟩:=hk i j;have h':good X (rD X) O (k i j) σ H Q:=h;rw[e] at h';exact⟨i,j,rx.int,ry.int,fin h' (r _ _ _)⟩
def cW:D->D->R D:=iD λi j=> .ok (.int (i - j))
def gO:D->D->R D:=iD λi j=>if (-(2^64)<i/\i<2^64)\/(-(2^64)<j/\j<2^64) then .ok (.int (i*j)) else .bad
def gP:D->D->R D:=iD λi j=>if 0<j/\j<2^64 then .ok (.int (i / j)) else .bad
def gF:D->D->R D:=iD λi j=>if 0<j then .ok (.int (i % j)) else .bad
def vd:D->D->R D:=iD λi j=>if 0<=j/\j<=1000000/\i.natAbs<2^64 then .ok (.int (i^j.toNat)) else .bad
def ltI:D->D->R D:=iD λi j=> .ok (.bl (decide (i<j)))
def wD:D->D->R D:=iD λi j=> .ok (.bl (decide (i<=j)))
def rH:D->D->R D:=iD λi j=> .ok (.bl (decide (j<i)))
def LR:D->D->R D:=iD λi j=> .ok (.bl (decide (j<=i)))
theorem cM:iM X (afj .Sub) cW:=sS op_sub λi j=>⟨_,rfl,λ_ _ _=>cB _⟩
theorem xG:iM X (aex .Lt) ltI:=sS op_lt λi j=>⟨_,rfl,λ_ _ _=>fL _⟩
theorem rM:iM X (aex .LtE) wD:=sS op_le λi j=>⟨_,rfl,λ_ _ _=>fL _⟩
theorem Cq:iM X (aex .Gt) rH:=sS op_gt λi j=>⟨_,rfl,λ_ _ _=>fL _⟩
theorem Zz:iM X (aex .GtE) LR:=sS op_ge λi j=>⟨_,rfl,λ_ _ _=>fL _⟩
theorem Cr{c:Prop}[Decidable c](d:D){P:D->Prop}(hP:c->P d):(if c then R.ok d else R.bad)=R.bad\/∃d',(if c then R.ok d else R.bad)=R.ok d'/\c/\P d':=by
 by_cases h:c
 ·exact .inr ⟨d,by rw[if_pos h],h,hP h⟩
 ·exact .inl (by rw[if_neg h])
theorem qd:iM X (afj .Mult) gO:=Cp op_mul λi j=>Cr (.int (i*j)) (P:=λd=>∀K O H,Rep K O H d (.int (i*j))) λ_ _ _ _=>cB _
theorem Vc{j:Int}(h0:0<j)(h:j<2^64):j.natAbs.log2<9000:=by
 have h1:j.natAbs≠0:=by omega
 have h2:j.natAbs<2^64:=by omega
 have h3:j.natAbs.log2<64:=(Nat.log2_lt h1).mpr h2;omega
theorem XD:OpR X (afj .FloorDiv) (rI (λ_ j=>0<j/\j<2^64) λi j=> .int (i / j)):=opI λi j _ _ _ _ _ hc q=>by
 refine floordiv_int (by have:=hc.1;omega) ?_ (.inl (PyProof.noPylong_of_log2 (Vc hc.1 hc.2)));rw[Int.fdiv_eq_ediv_of_nonneg _ (by have:=hc.1;omega)];exact q
theorem qe:iM X (afj .FloorDiv) gP:=Cp XD λi j=>Cr (.int (i / j)) (P:=λd=>∀K O H,Rep K O H d (.int (i / j))) λ_ _ _ _=>cB _
theorem qg:iM X (afj .Mod) gF:=Cp op_mod λi j=>Cr (.int (i % j)) (P:=λd=>∀K O H,Rep K O H d (.int (i % j))) λ_ _ _ _=>cB _
theorem Vd:iM X (afj .Pow) vd:=Cp op_pow λi j=>Cr (.int (i^j.toNat)) (P:=λd=>∀K O H,Rep K O H d (.int (i^j.toNat))) λ_ _ _ _=>cB _
def zE(f g h:aA->R D)(k l:D->D->R D):aA->R D:=λρ=>(f ρ).bind λx=>(g ρ).bind λy=>(k x y).bind λz=>match z with
 | .bl true=>(h ρ).bind λw=>l y w
 | .bl false=> .ok (.bl false)
 |_=> .bad
def zF(f g:aA->R D):aA->R D:=λρ=>(f ρ).bind λx=>match x with
 | .bl true=>g ρ
 | .bl false=> .ok (.bl false)
 |_=> .bad
def abD(f:aA->R D):aA->R D:=λρ=>(f ρ).bind λx=>match x with
 | .bl b=> .ok (.bl (!b))
 |_=> .bad
variable{rest:List aee}
theorem zG{op}(h:DE X a f):DE X (.BoolOp op [a] pos) f:=pe_one h
theorem zH(ha:DE X a f)(hb:DE X (.BoolOp .And (b::rest) pos) g):DE X (.BoolOp .And (a::b::rest) pos) (zF f g):=by
 refine PE.imp (pe_and ha hb) λσ H Q h=>?_;obtain⟨ρ,O,j,h⟩:=h;refine go j h λd x H1 e1 s1 r1 j1 h1=>?_;cases d with
 | bl k=>
  cases k with
  |true=>exact⟨true,r1.bl,by rw[if_pos rfl];exact⟨ρ,O,j1,h1⟩⟩
  |false=>exact⟨false,r1.bl,by rw[if_neg aes];exact fin h1 (fL _)⟩
 |_=>exact h1.elim
theorem abE(ha:DE X a f):DE X (.UnaryOp .Not a pos) (abD f):=by
 refine PE.imp (pe_not ha) λσ H Q h=>?_;obtain⟨ρ,O,j,h⟩:=h;refine go j h λd x H1 e1 s1 r1 j1 h1=>?_;cases d with
 |bl k=>exact⟨k,r1.bl,fin h1 (fL _)⟩
 |_=>exact h1.elim
def lV(f g:aA->R Bool):aA->R Bool:=λρ=>(f ρ).bind λx=>if x=true then g ρ else .ok false
def sU(f g:aA->R Bool):aA->R Bool:=λρ=>(f ρ).bind λx=>if x=true then .ok true else g ρ
def kh(f:aA->R Bool):aA->R Bool:=λρ=>(f ρ).bind λx=> .ok (!x)
variable{p q:aA->R Bool}
theorem wF(ha:DT X a p):DW X (.BoolOp .And [a] pos) p:=pw_and1 ha
theorem sV(ha:DT X a p):DW X (.BoolOp .Or [a] pos) p:=pw_or1 ha
theorem zJ(ha:DT X a p)(hb:DW X (.BoolOp .And (b::rest) pos) q):DW X (.BoolOp .And (a::b::rest) pos) (lV p q):=by
 refine PW.imp (pw_and ha hb) λσ H Q h=>?_;obtain⟨ρ,O,j,h⟩:=h;refine go j h λd x H1 e1 s1 r1 j1 h1=>?_;subst r1;cases d with
 |true=>rw[if_pos rfl] at h1 |-;exact⟨ρ,O,j1,h1⟩
 |false=>rw[if_neg aes] at h1 |-;exact fin h1 rfl
theorem uJ(ha:DT X a p)(hb:DW X (.BoolOp .Or (b::rest) pos) q):DW X (.BoolOp .Or (a::b::rest) pos) (sU p q):=by
 refine PW.imp (pw_or ha hb) λσ H Q h=>?_;obtain⟨ρ,O,j,h⟩:=h;refine go j h λd x H1 e1 s1 r1 j1 h1=>?_;subst r1;cases d with
 |true=>rw[if_pos rfl] at h1 |-;exact fin h1 rfl
 |false=>rw[if_neg aes] at h1 |-;exact⟨ρ,O,j1,h1⟩
theorem DW.dt{e:aee}(h:DW X e p):DT X e p:=h _
theorem iQ(ha:DT X a p):DT X (.UnaryOp .Not a pos) (kh p):=by
 refine PT.imp (pt_not ha) λσ H Q h=>?_;obtain⟨ρ,O,j,h⟩:=h;refine go j h λd x H1 e1 s1 r1 j1 h1=>?_;subst r1;exact fin h1 rfl
def zK(c:aA->R Bool)(f g:aA->R D):aA->R D:=λρ=>(c ρ).bind λx=>if x=true then f ρ else g ρ
theorem Lr(hc:DT X c p)(ha:DE X a f)(hb:DE X b g):DE X (.IfExp c a b pos) (zK p f g):=by
 refine PE.imp (pe_ifExp hc ha hb) λσ H Q h=>?_;obtain⟨ρ,O,j,h⟩:=h;refine go j h λd x H1 e1 s1 r1 j1 h1=>?_;subst r1;cases d with
 |true=>rw[if_pos rfl] at h1 |-;exact⟨ρ,O,j1,h1⟩
 |false=>rw[if_neg aes] at h1 |-;exact⟨ρ,O,j1,h1⟩
def ak(f:aA->R D)(g:aA->R (List D)):aA->R (List D):=λρ=>(f ρ).bind λx=>(g ρ).bind λxs=> .ok (x::xs)
variable{es:List aee}{fa:aA->R (List D)}
theorem aq:DA X [] (λ_=> .ok []):=PA.imp pa_nil λσ H Q h=>by
 obtain⟨ρ,O,j,h⟩:=h;exact fin h .nil
theorem aj(ha:DE X a f)(hr:DA X es fa)(hs:aea (a::es) X.env=(false,eval a X.env)::aea es X.env:=by rfl):DA X (a::es) (ak f fa):=by
 refine PA.imp (pa_cons ha hr hs) λσ H Q h=>?_;obtain⟨ρ,O,j,h⟩:=h;refine go j h λd x H1 e1 s1 r1 j1 h1=>?_;exact go j1 h1 λds xs H2 e2 s2 r2 j2 h2=>fin h2 (.cons (r1.same s2) r2)
def cap(k:List D->D)(ds:List D):R D:=if ds.length<=1000000 then .ok (k ds) else .bad
theorem dJ:1000000<=sizeLine:=by rw[aft];decide
def dh(fa:aA->R (List D)):aA->R D:=λρ=>(fa ρ).bind (cap .tup)
def dM(fa:aA->R (List D)):aA->R D:=λρ=>(fa ρ).bind (cap .lst)
theorem cG{x1}(h:DA X es fa):DE X (.Tuple es x1 pos) (dh fa):=by
 refine PE.imp (pe_tup h) λσ H Q h=>?_;obtain⟨ρ,O,j,h⟩:=h;refine go j h λds xs H1 e1 s1 r1 j1 h1=>?_;unfold cap at h1;split at h1
 ·rename_i hl;exact⟨by rw[<-r1.length];exact z0b hl dJ,λp hp=>h1 _ _ (Same.upd hp) (Rep.mX hp r1)⟩
 ·exact h1.elim
theorem dW(h:DA X es fa):DE X (.List es pos) (dM fa):=by
 refine PE.imp (pe_lst h) λσ H Q h=>?_;obtain⟨ρ,O,j,h⟩:=h;refine go j h λds xs H1 e1 s1 r1 j1 h1=>?_;unfold cap at h1;split at h1
 ·rename_i hl;exact⟨by rw[<-r1.length];exact z0b hl dJ,λp hp=>h1 _ _ (Same.upd hp) (Rep.je hp (j1.mJ hp) r1)⟩
 ·exact h1.elim
def bW:D->D->R D
 | .tup ds,.int i=>match atI ds i with |some d=> .ok d |none=> .bad
 | .lst ds,.int i=>match atI ds i with |some d=> .ok d |none=> .bad
 |_,_=> .bad
theorem aP.atI{K:PySem.W.Frag}{O:ad5->Prop}{H:Hp}{ds:List D}{vs:List V}{i:Int}{d:D}(r:aP K O H ds vs)(e:atI ds i=some d):∃v,atI vs i=some v/\Rep K O H d v:=by
 unfold L2.atI at e |-;rw[r.length] at e;cases q:ixN vs.length i with
 |none=>rw[q] at e;cases e
 | some k=>
  rw[q] at e;obtain⟨v,h1,h2⟩:=r.get (i:=k) (d:=d) e;exact⟨v,h1,h2⟩
theorem bN(ha:DE X a f)(hb:DE X b g)(hs:PlainIx b:=by exact λ_ _=>rfl):DE X (.Subscript a b pos) (bin f g bW):=by
 refine PE.imp (pe_ix ix_seq ha hb hs) λσ H Q h=>Fz (λρ O σ H Q x y dx dy j0 rx ry h=>?_) h;cases dx <;> cases dy <;> first
  |exact h.elim
  |skip
 ·rename_i ds i;obtain⟨p,xs,rfl,hq,r⟩:=rx.tup;have h':good X (rD X) O (match L2.atI ds i with |some d=>R.ok d |none=>R.bad) σ H Q:=h;cases e:L2.atI ds i with
  |none=>rw[e] at h';exact h'.elim
  | some d=>
   rw[e] at h';obtain⟨v,e1,rv⟩:=r.atI e;exact .inr (.inl ⟨p,xs,i,v,rfl,ry.int,hq,e1,fin h' rv⟩)
 ·rename_i ds i;obtain⟨p,xs,rfl,hq,_,r⟩:=rx.lst;have h':good X (rD X) O (match L2.atI ds i with |some d=>R.ok d |none=>R.bad) σ H Q:=h;cases e:L2.atI ds i with
  |none=>rw[e] at h';exact h'.elim
  | some d=>
   rw[e] at h';obtain⟨v,e1,rv⟩:=r.atI e;exact .inl ⟨p,xs,i,v,rfl,ry.int,hq,e1,fin h' rv⟩
def CallD(X:Cx)(u:ad7)(k:List D->R D):Prop:=∃r:List V->Hp->VK->Prop,CallR X u r/\
 ∀(ρ:aA) (O:ad5->Prop) (σ:St) (H:Hp) (Q:VK) (xs:List V) (ds:List D),In X O H ρ σ->aP X.K O H ds xs->good X (rD X) O (k ds) σ H Q->r xs H Q
def aD(k:List D->R D)(fa:aA->R (List D)):aA->R D:=λρ=>(fa ρ).bind k
variable{x:Str}{pp:Pos}{k:List D->R D}{id T:String}
theorem aU(hc:CallD X (.builtin id) k)(hg:Gl X x)(hm:X.mg x=none)(hv:afK x=some (.builtin id))(ha:DA X (a::es) fa)(hn:x≠"__name__" :=by decide)(hdb:(x ==("__debug__" :Str))=false:=by decide)
  (he:aea (a::es) X.env=(false,eval a X.env)::aea es X.env:=by rfl)(hpl:(aeR pos (aea es X.env)).any (·.1)=false:=by rfl):DE X (.Call (.Name x pp) (a::es) [] pos) (aD k fa):=by
 obtain⟨r,hc,hr⟩:=hc;refine PE.imp (pe_callB hc hg hm hv ha hn hdb he hpl) λσ H Q h=>?_;obtain⟨ρ,O,j,h⟩:=h;exact go j h λds xs H1 e1 s1 r1 j1 h1=>hr ρ O σ H1 Q xs ds j1 r1 h1
theorem cQ(hc:CallD X (.type T) k)(hg:Gl X x)(hm:X.mg x=none)(hv:afK x=some (.type T))(ha:DA X (a::es) fa)(hn:x≠"__name__" :=by decide)(hdb:(x ==("__debug__" :Str))=false:=by decide)
  (he:aea (a::es) X.env=(false,eval a X.env)::aea es X.env:=by rfl)(hpl:(aeR pos (aea es X.env)).any (·.1)=false:=by rfl):DE X (.Call (.Name x pp) (a::es) [] pos) (aD k fa):=by
 obtain⟨r,hc,hr⟩:=hc;refine PE.imp (pe_callTy hc hg hm hv ha hn hdb he hpl) λσ H Q h=>?_;obtain⟨ρ,O,j,h⟩:=h;exact go j h λds xs H1 e1 s1 r1 j1 h1=>hr ρ O σ H1 Q xs ds j1 r1 h1
end
section
variable{X:Cx}{a b c:aee}{f g h:aA->R D}{pos:Pos}
theorem JL{r r':R2}{k:D->D->R D}{Q:VK}
  (hr:∀(ρ:aA) (O:ad5->Prop) (σ:St) (H:Hp) (Q:VK) (x y:V) (dx dy:D),In X O H ρ σ->Rep X.K O H dx x->Rep X.K O H dy y->good X (rD X) O (k dx dy) σ H Q->r x y H Q)
  (hl:∀(ρ:aA) (O:ad5->Prop) (σ:St) (H:Hp) (Q:VK) (x y:V) (dx dy:D),In X O H ρ σ->Rep X.K O H dx x->Rep X.K O H dy y->good X (rD X) O (l dx dy) σ H Q->r' x y H Q)
  (q:tG X (rD X) (zE f g h k l) σ H Q):tChain r r' (tG X (rD X) f) (tG X (rD X) g) (tG X (rD X) h) σ H Q:=by
 obtain⟨ρ,O,j,q⟩:=q;refine go j q λdx x H1 e1 s1 r1 j1 h1=>?_;refine go j1 h1 λdy y H2 e2 s2 r2 j2 h2=>?_;have r1':=r1.same s2;cases e3:k dx dy with
 |bad=>rw[e3] at h2;exact h2.elim
 |err n=>rw[e3] at h2;exact hr ρ O σ H2 _ x y dx dy j2 r1' r2 (by rw[e3];exact h2)
 | ok z=>
  rw[e3] at h2;refine hr ρ O σ H2 _ x y dx dy j2 r1' r2 ?_;rw[e3];intro v H3 s3 r3;have j3:=j2.same s3;cases z with
  | bl t=>
   refine⟨t,r3.bl,?_⟩;cases t with
   | true=>
    rw[if_pos rfl];exact go j3 (good.same h2 s3) λdw w H4 e4 s4 r4 j4 h4=>hl ρ O σ H4 Q y w dy dw j4 (r2.same (s3.trans s4)) r4 h4
   | false=>
    rw[if_neg aes];exact fin (good.same h2 s3) (fL _)
  |_=>exact h2.elim
theorem Ea{op op':CmpOp}{k:D->D->R D}(ho:iM X (aex op) k)(ho':iM X (aex op') l)(ha:DE X a f)(hb:DE X b g)(hc:DE X c h)
  (hm:lastMarks [op,op'] [b,c]=false:=by with_unfolding_all rfl):DE X (.Compare a [op,op'] [b,c] pos) (zE f g h k l):=by
 obtain⟨r,ho,hr⟩:=ho;obtain⟨r',ho',hr'⟩:=ho';exact PE.imp (pe_chain ho ho' ha hb hc hm) λσ H Q q=>JL hr hr' q
theorem XF{op op':CmpOp}{k:D->D->R D}(ho:iM X (aex op) k)(ho':iM X (aex op') l)(ha:DE X a f)(hb:DE X b g)(hc:DE X c h)
  (hm:lastMarks [op,op'] [b,c]=false:=by with_unfolding_all rfl):DT X (.Compare a [op,op'] [b,c] pos) (cg (zE f g h k l)):=by
 obtain⟨r,ho,hr⟩:=ho;obtain⟨r',ho',hr'⟩:=ho';exact PT.imp (pt_chain ho ho' ha hb hc hm) λσ H Q q=>DR (λQ q=>JL hr hr' q) q
end
def YAt(K:PySem.W.Frag)(O:ad5->Prop)(J:It)(xs:List D)(H:Hp):Prop:=
 ∀i:Nat,(∀d,xs[i]?=some d->J.go i H/\∀x H',J.yld i H x H'->Same H H'/\Rep K O H' d x)/\(xs.length<=i->J.stop i H)
def YR(K:PySem.W.Frag)(O:ad5->Prop)(H:Hp)(J:It)(xs:List D):Prop:=∀O' H',eG K O H O' H'->YAt K O' J xs H'
abbrev rIt(X:Cx):(ad5->Prop)->Hp->List D->It->Prop:=λO H xs J=>YR X.K O H J xs
def DI(X:Cx)(tg iter:aee)(fi:aA->R (List D)):Prop:=PI X tg iter (tG X (rIt X) fi)
theorem PI.imp{tg e:aee}{t t':TI}(h:PI X tg e t)(w:∀σ H Q,t' σ H Q->t σ H Q):PI X tg e t':=λpins s σ H Q I q=>h pins s σ H Q I (w σ H Q q)
section
variable{X:Cx}{tg:aee}
def ady(K:PySem.W.Frag)(tl:TE):TI:=λσ H R=>tl σ H λx H1=>∃a,x= .ref a/\(((∃xs,SqL K H1 a xs)/\R (Itl K a) H1)\/((∃xs,SqT K H1 a xs)/\R (Itt K a) H1))
theorem abF{l:aee}{tl:TE}(hl:PE X l tl):PI X tg l (ady X.K tl):=by
 intro pins s σ H R I h;refine thn (hl pins s σ H _ I h) λv s1 bJ=>?_;obtain⟨x,H1,I1,r1,q1⟩:=bJ;obtain⟨a,e,q⟩:=q1;subst e;cases r1;have fp:∀b∈[s1.heap.objs.size],FpOk X pins H1 b:=λb hb=>by
  have e:b=s1.heap.objs.size:=by simpa using hb
  subst e;exact I1.fpOk (z0g _) (I1.hok.fresh (z0g _))
 rcases q with⟨⟨xs,hq⟩,q⟩ |⟨⟨xs,hq⟩,q⟩
 ·obtain⟨its,rv,p,hz⟩:=I1.list hq;refine aix p.isList ?_;exact⟨s1.heap.objs.size,[s1.heap.objs.size],_,_,H1,rfl,I1.kept (t':=s1.toks) λb o e=>z1a _ e,turn_list a _,⟨_,z1f _ rfl,rfl,rfl⟩,fp,q⟩
 ·obtain⟨its,rv,p,hz⟩:=I1.tuple hq;refine wpAny_pyIter_tuple (show s1.heap.IsTuple a its.toArray from p) ?_;exact⟨s1.heap.objs.size,[s1.heap.objs.size],_,_,H1,rfl,I1.kept (t':=s1.toks) λb o e=>z1a _ e,turn_tuple a _,⟨_,z1f _ rfl,rfl,rfl⟩,fp,q⟩
def jC:D->R (List D)
 | .tup ds=> .ok ds
 | .lst ds=> .ok ds
 |_=> .bad
theorem YR.lst{a:ad5}(h:SqL K H a xs)(n:¬O a)(r:aP K O H ds xs):YR K O H (Itl K a) ds:=by
 intro O' H' q;have h':SqL K H' a xs:=SqL.ext q.ext n h;have r':=r.go q;intro i;refine⟨λd e=>?_,λe=>⟨xs,h',by rw[<-r.length];exact e⟩⟩;obtain⟨v,e1,rv⟩:=r'.get e;refine⟨⟨xs,v,h',e1⟩,λx H2 y=>?_⟩;obtain⟨eH,y⟩:=y;subst eH;have:=y xs h';rw[e1] at this;cases this;exact⟨Same.refl _,rv⟩
theorem YR.tup{a:ad5}(h:SqT K H a xs)(r:aP K O H ds xs):YR K O H (Itt K a) ds:=by
 intro O' H' q;have h':SqT K H' a xs:=SqT.ext q.ext h;have r':=r.go q;intro i;refine⟨λd e=>?_,λe=>⟨xs,h',by rw[<-r.length];exact e⟩⟩;obtain⟨v,e1,rv⟩:=r'.get e;refine⟨⟨xs,v,h',e1⟩,λx H2 y=>?_⟩;obtain⟨eH,y⟩:=y;subst eH;have:=y xs h';rw[e1] at this;cases this;exact⟨Same.refl _,rv⟩
def dO(f:aA->R D):aA->R (List D):=λρ=>(f ρ).bind jC
theorem dg{l:aee}{f:aA->R D}(h:DE X l f):DI X tg l (dO f):=by
 refine PI.imp (abF h) λσ H Q q=>?_;obtain⟨ρ,O,j,q⟩:=q;refine go j q λd x H1 e1 s1 r1 j1 h1=>?_;cases d with
 | tup ds=>
  obtain⟨a,xs,rfl,hq,r⟩:=r1.tup;exact⟨a,rfl,.inr ⟨⟨xs,hq⟩,fin h1 (YR.tup hq r)⟩⟩
 | lst ds=>
  obtain⟨a,xs,rfl,hq,n,r⟩:=r1.lst;exact⟨a,rfl,.inl ⟨⟨xs,hq⟩,fin h1 (YR.lst hq n r)⟩⟩
 |_=>exact h1.elim
def upto(lo:Int)(n:Nat):List D:=(ad6 n).map λ(i:Nat)=>D.int (lo+(i:Int))
theorem YR.rng(lo:Int)(n:Nat):YR K O H (Itr lo n) (upto lo n):=by
 intro O' H' q i;have hl:(upto lo n).length=n:=by simp[upto]
 refine⟨λd e=>?_,λe=>by rw[hl] at e;exact e⟩;have hi:i<n:=by rw[<-hl];exact (z1b e).1
 have e2:d=D.int (lo+(i:Int)):=by
  simp only[upto,z2b,aei hi] at e;exact (aeg e).symm
 subst e2;refine⟨hi,λx H2 y=>?_⟩;obtain⟨eH,y⟩:=y;subst eH;subst y;exact⟨Same.refl _,cB _⟩
def gQ:List D->R (List D)
 |[.int j]=>if -(2^62)<=j/\j<2^62 then .ok (upto 0 j.toNat) else .bad
 |_=> .bad
def HW:List D->R (List D)
 |[.int i,.int j]=>if -(2^62)<=i/\i<2^62/\-(2^62)<=j/\j<2^62 then .ok (upto i (j - i).toNat) else .bad
 |_=> .bad
theorem aP.one(r:aP K O H [d] xs):∃x,xs=[x]/\Rep K O H d x:=by
 obtain⟨x,t,rfl,h1,h2⟩:=r.cons_inv;rw[h2.nil_inv];exact⟨x,rfl,h1⟩
theorem aP.two{e:D}(r:aP K O H [d,e] xs):∃x y,xs=[x,y]/\Rep K O H d x/\Rep K O H e y:=by
 obtain⟨x,t,rfl,h1,h2⟩:=r.cons_inv;obtain⟨y,rfl,h3⟩:=h2.one;exact⟨x,y,rfl,h1,h3⟩
variable{a b:aee}{fa:aA->R (List D)}{p pos:Pos}
theorem dX(hg:Gl X "range")(hm:X.mg "range" =none)(ha:DA X [a] fa)(hs:aea [a] X.env=[(false,eval a X.env)]:=by rfl):DI X tg (.Call (.Name "range" p) [a] [] pos) (λρ=>(fa ρ).bind gQ):=by
 refine PI.imp (pi_range1 hg hm ha hs) λσ H Q q=>?_;obtain⟨ρ,O,j,q⟩:=q;refine go j q λds xs H1 e1 s1 r1 j1 h1=>?_;unfold gQ at h1;split at h1
 ·obtain⟨x,rfl,rx⟩:=r1.one;split at h1
  ·rename_i i hi;exact⟨i,by rw[rx.int],hi.1,hi.2,fin h1 (YR.rng 0 i.toNat)⟩
  ·exact h1.elim
 ·exact h1.elim
theorem Ve(hg:Gl X "range")(hm:X.mg "range" =none)(ha:DA X [a,b] fa)(hs:aea [a,b] X.env=[(false,eval a X.env),(false,eval b X.env)]:=by rfl)(hs2:aea [b] X.env=[(false,eval b X.env)]:=by rfl):
  DI X tg (.Call (.Name "range" p) [a,b] [] pos) (λρ=>(fa ρ).bind HW):=by
 refine PI.imp (pi_range2 hg hm ha hs hs2) λσ H Q q=>?_;obtain⟨ρ,O,j,q⟩:=q;refine go j q λds xs H1 e1 s1 r1 j1 h1=>?_;unfold HW at h1;split at h1
 ·obtain⟨x,y,rfl,rx,ry⟩:=r1.two;split at h1
  ·rename_i i k hi;exact⟨i,k,by rw[rx.int,ry.int],hi,fin h1 (YR.rng i (k - i).toNat)⟩
  ·exact h1.elim
 ·exact h1.elim
end
inductive DGp (X:Cx) (gt:D->aA->R aA) (v:V) (σ:St) (H:Hp) (Q:St->Hp->Prop):Prop
 |mk (ρ:aA) (O:ad5->Prop) (d:D) (ρ':aA) (j:In X O H ρ σ) (r:Rep X.K O H d v) (e:gt d ρ= .ok ρ') (q:∀σ',In X O H ρ' σ'->Q σ' H):DGp X gt v σ H Q
def DG(X:Cx)(tg:aee)(gt:D->aA->R aA):Prop:=PG X tg λv σ H Q=>DGp X gt v σ H Q
inductive abG (X:Cx) (gt:List D->aA->R aA) (vs:List V) (σ:St) (H:Hp) (Q:St->Hp->Prop):Prop
 |mk (ρ:aA) (O:ad5->Prop) (ds:List D) (ρ':aA) (j:In X O H ρ σ) (r:aP X.K O H ds vs) (e:gt ds ρ= .ok ρ') (q:∀σ',In X O H ρ' σ'->Q σ' H):abG X gt vs σ H Q
def ZC(X:Cx)(ts:List aee)(gt:List D->aA->R aA):Prop:=PGs X ts λvs σ H Q=>abG X gt vs σ H Q
section
variable{X:Cx}{pos:Pos}
theorem In.set(j:In X O H ρ σ)(hi:i<X.N.length){v:V}(r:Rep X.K O H d v):In X O H (ρ.set i (some (.val d))) (σ.set i (some v)):=by
 have h1:i<ρ.length:=by rw[j.jr];exact hi
 have h2:i<σ.length:=by rw[j.len];exact hi
 refine⟨⟨λk e q=>?_,λk l e e' u hkl qk ql ok ol sk sl=>?_,λk l rows a rs e u hkl qk sk ha ql ol sl=>?_⟩,j.al,by rw[aeL];exact j.len,by rw[aeL];exact j.jr⟩
 ·by_cases hk:k=i
  ·subst hk;rw[z2a h1] at q;cases q;exact⟨v,z2a h2,r⟩
  ·rw[z1e (aeh hk)] at q;obtain⟨u,q1,q2⟩:=j.env.get k e q;exact⟨u,by rw[z1e (aeh hk)];exact q1,q2⟩
 ·have hk:k≠i:=λz=>by subst z;rw[z2a h1] at qk;cases qk;cases ok
  have hl:l≠i:=λz=>by subst z;rw[z2a h1] at ql;cases ql;cases ol
  rw[z1e (aeh hk)] at qk sk;rw[z1e (aeh hl)] at ql sl;exact j.env.sep k l e e' u hkl qk ql ok ol sk sl
 ·have hk:k≠i:=λz=>by subst z;rw[z2a h1] at qk;cases qk
  have hl:l≠i:=λz=>by subst z;rw[z2a h1] at ql;cases ql;cases ol
  rw[z1e (aeh hk)] at qk sk;rw[z1e (aeh hl)] at ql sl;exact j.env.lU k l rows a rs e u hkl qk sk ha ql ol sl
def aH(i:Nat)(d:D)(ρ:aA):R aA:= .ok (ρ.set i (some (.val d)))
theorem aY(i:Nat){x:Str}(hN:X.N.Nodup)(hi:X.N[i]?=some x:=by rfl)(hx:Loc X.env.scope x:=by first |exact aeM rfl |exact aeB rfl)(hf:X.fn x=true\/X.env.scope.names.lookup x=some .local:=by first |exact .inl rfl |exact .inr rfl):DG X (.Name x pos) (aH i):=by
 intro pins s σ H v u Q I r h;obtain⟨ρ,O,d,ρ',j,rd,e,q⟩:=h;cases e;exact pg_name hN hi hx hf pins s σ H v u Q I r (q _ (j.set (z1b hi).1 rd))
def nilG:List D->aA->R aA
 |[],ρ=> .ok ρ
 |_,_=> .bad
def aW(t:D->aA->R aA)(u:List D->aA->R aA):List D->aA->R aA
 |d::ds,ρ=>(t d ρ).bind λρ'=>u ds ρ'
 |_,_=> .bad
theorem gb:ZC X [] nilG:=by
 intro pins s σ H vs us Q I r h;obtain⟨ρ,O,ds,ρ',j,rd,e,q⟩:=h;cases ds with
 |nil=>cases e;exact pgs_nil pins s σ H vs us Q I r ⟨rd.nil_inv,q _ j⟩
 |cons d ds=>cases e
theorem bQ{e:aee}{es:List aee}{t:D->aA->R aA}(h1:DG X e t)(h2:ZC X es u)
  (hs:(afT (e::es) X.env).map (·.2)=assign e X.env::(afT es X.env).map (·.2):=by rfl):ZC X (e::es) (aW t u):=by
 intro pins s σ H vs us Q I r h;obtain⟨ρ,O,ds,ρ',j,rd,e,q⟩:=h;cases ds with
 |nil=>cases e
 | cons d ds=>
  obtain⟨x,xs,rfl,rx,rxs⟩:=rd.cons_inv;have e':(t d ρ).bind (λρ'=>u ds ρ')= .ok ρ':=e;cases q1:t d ρ with
  |bad=>rw[q1] at e';cases e'
  |err c=>rw[q1] at e';cases e'
  | ok ρ1=>
   rw[q1] at e';refine pgs_cons h1 h2 hs pins s σ H _ us Q I r ⟨x,xs,rfl,ρ,O,d,ρ1,j,rx,q1,λσ1 j1=>?_⟩;exact⟨ρ1,O,ds,ρ',j1,rxs,e',q⟩
def cR(u:List D->aA->R aA):D->aA->R aA
 | .tup ds,ρ=>u ds ρ
 |_,_=> .bad
def cT(n:Nat)(u:List D->aA->R aA):List D->aA->R aA:=λds ρ=>if ds.length=n then u ds ρ else .bad
theorem gR{es:List aee}{k:Nat}(hc:X.calm=true)(h:ZC X es u)
  (hn:(afT es X.env).length=n:=by rfl)(hst:(afT es X.env).findIdx? (·.1)=none:=by rfl):DG X (.Tuple es k pos) (cR (cT n u)):=by
 intro pins s σ H v w Q I r q;obtain⟨ρ,O,d,ρ',j,rd,e,q⟩:=q;cases d with
 | tup ds=>
  obtain⟨a,xs,rfl,hq,rs⟩:=rd.tup;have e':(if ds.length=n then u ds ρ else .bad)= .ok ρ':=e;by_cases hl:ds.length=n
  ·rw[if_pos hl] at e';exact pg_tup hc h hn hst pins s σ H _ w Q I r ⟨a,xs,rfl,hq,by rw[<-rs.length];exact hl,ρ,O,ds,ρ',j,rs,e',q⟩
  ·rw[if_neg hl] at e';cases e'
 |_=>cases e
end
def iT(x:Str):List Str->Nat
 |[]=>0
 |y::r=>if x=y then 0 else iT x r+1
theorem oX{x:Str}:∀{N:List Str},x∈N->N[iT x N]?=some x
 |[],h=>by simp at h
 | y ::r,h=>by
  unfold iT;by_cases e:x=y
  ·rw[if_pos e,e];rfl
  ·rw[if_neg e];rcases ael.mp h with z |z
   ·exact absurd z e
   ·simpa using oX z
def pull{α:Type}(N caps:List Str)(n:Nat)(l:List (Option α)):List (Option α):=aeb n none++caps.map λx=>(l[iT x N]?).join
theorem xH(N caps:List Str)(n:Nat)(l:List (Option α)):(pull N caps n l).length=n+caps.length:=by simp[pull]
theorem join_some{o:Option (Option α)}{a:α}(h:o.join=some a):o=some (some a):=by
 cases o with
 |none=>cases h
 |some o=>exact congrArg some h
theorem mK{l:List (Option α)}{a:α}(h:(pull N caps n l)[i]?=some (some a)):∃j x,i=n+j/\caps[j]?=some x/\l[iT x N]?=some (some a):=by
 unfold pull at h;by_cases hi:i<n
 ·rw[aeS (by simpa using hi),ae9,if_pos hi] at h;cases h
 ·rw[aeO (by simpa using hi),aeG,z2b] at h;cases e:caps[i - n]? with
  |none=>rw[e] at h;cases h
  | some x=>
   rw[e] at h;exact⟨i - n,x,by omega,e,join_some (aeg h)⟩
theorem wG{l:List (Option α)}{j:Nat}{x:Str}(h:caps[j]?=some x):(pull N caps n l)[n+j]?=some (l[iT x N]?).join:=by
 unfold pull;rw[aeO (by simp),aeG,z2b,show n+j - n=j by omega,h];rfl
def dY(sc:afB):List Str:=(sc.names.filter λx=>decide (x.2= .free)).map (·.1)
def sW(outer sc:afB)(ts N:List Str):Bool:=
 decide (sc.kind= .function) && sc.names.all (λx=>(!decide (x.2= .local)) || decide (sc.names.lookup x.1=some .local)) && sc.names.all (λx=>(!decide (x.2= .cell)) || decide (sc.names.lookup x.1=some .cell)) &&
  (dY sc).all (λx=>(decide (outer.names.lookup x=some .cell) || decide (outer.names.lookup x=some .free)) && decide (x∈N) && decide (sc.names.lookup x=some .free)) && decide (ts++dY sc).Nodup
structure Cu(outer sc:afB)(ts N:List Str):Prop where
 kind:sc.kind= .function
 loc:∀x∈sc.names,x.2= .local->sc.names.lookup x.1=some .local
 ZD:∀x∈sc.names,x.2= .cell->sc.names.lookup x.1=some .cell
 out:∀x∈dY sc,outer.names.lookup x=some .cell\/outer.names.lookup x=some .free
 mem:∀x∈dY sc,x∈N
 JM:∀x∈dY sc,sc.names.lookup x=some .free
 nd:(ts++dY sc).Nodup
theorem ac6{outer:afB}(h:sW outer sc ts N=true):Cu outer sc ts N:=by
 unfold sW at h;simp only[ae6,agA,decide_eq_true_eq,Bool.or_eq_true,Bool.not_eq_true',decide_eq_false_iff_not] at h;obtain⟨⟨⟨⟨h1,h2⟩,h3⟩,h4⟩,h5⟩:=h;exact⟨h1,λx hx e=>(h2 x hx).resolve_left λn=>n e,λx hx e=>(h3 x hx).resolve_left λn=>n e,λx hx=>(h4 x hx).1.1,λx hx=>(h4 x hx).1.2,λx hx=>(h4 x hx).2,h5⟩
def gU(cs:List (Str×ad5)):List (Str×agy)->List (Str×ad5)->List (Str×ad5)
 |[],acc=>acc
 |(n,k)::r,acc=>if k= .free then gU cs r ((n,(cs.lookup n).getD 0)::acc) else gU cs r acc
theorem Tj{env:PySem.Env}(h:∀x∈scope.names,x.2= .free->∃c,env.cells.lookup x.1=some c):aiE scope env=pure (gU env.cells scope.names []):=by
 unfold aiE;have all:∀(l:List (Str×agy)) (acc:List (Str×ad5)),(∀x∈l,x.2= .free->∃c,env.cells.lookup x.1=some c)->
   (forIn l acc λx r=>match x with |(name,kind)=>if (kind ==ae7)=true then do let a <-cellOf env name;pure (ahP ((name,a)::r)) else pure (ahP r):Sem (List (Str×ad5)))=pure (gU env.cells l acc):=by
  intro l
  induction l with
  |nil=>intro acc _;rfl
  | cons x r ih=>
   intro acc hx;obtain⟨n,k⟩:=x;rw[ag5];unfold gU;by_cases hk:k= .free
   ·obtain⟨c,hc⟩:=hx (n,k) aen hk;have hc:env.cells.lookup n=some c:=hc;have e1:cellOf env n=pure c:=by unfold cellOf;rw[hc]
    subst hk;simp only[e1,hc,aiN,beq_self_eq_true,if_true,pure_bind];exact ih _ λy hy=>hx y (z2f _ hy)
   ·have e2:(k ==ae7)=false:=by simpa using hk
    simp only[e2,afg,if_false,pure_bind,hk];exact ih _ λy hy=>hx y (z2f _ hy)
 simpa using all scope.names [] h
theorem mj(cs:List (Str×ad5)):∀(l:List (Str×agy)) (acc:List (Str×ad5)),gU cs l acc=gU cs l []++acc
 |[],acc=>rfl
 | (n,k)::r,acc=>by
  unfold gU;split
  ·rw[mj cs r (_::acc),mj cs r [_]];simp
  ·exact mj cs r acc
theorem sX(cs:List (Str×ad5)):∀(l:List (Str×agy)) {n:Str} {c:ad5},(n,c)∈gU cs l []->(n,ae7)∈l/\c=(cs.lookup n).getD 0
 |[],_,_,h=>by simp[gU] at h
 | (m, k)::r,n,c,h=>by
  unfold gU at h;split at h
  ·rename_i hk;rw[mj] at h;rcases afF.mp h with h |h
   ·obtain⟨h1,h2⟩:=sX cs r h;exact⟨z2f _ h1,h2⟩
   ·have e:=aeD.mp h;cases e;subst hk;exact⟨aen,rfl⟩
  ·obtain⟨h1,h2⟩:=sX cs r h;exact⟨z2f _ h1,h2⟩
theorem Eb(cs:List (Str×ad5)):∀(l:List (Str×agy)) {n:Str},(n,ae7)∈l->((gU cs l []).lookup n).isSome=true
 |[],_,h=>by simp at h
 | (m, k)::r,n,h=>by
  unfold gU;split
  ·rename_i hk;rw[mj,afr];rcases ael.mp h with e |h
   ·cases e;simp[agi]
   ·simp[Eb cs r h]
  ·rename_i hk;rcases ael.mp h with e |h
   ·cases e;exact absurd rfl hk
   ·exact Eb cs r h
theorem fB:∀(l:List (Str×agy)) (n:Nat) (acc:List (Str×ad5)),aey n l acc=aey n l []++acc
 |[],_,_=>rfl
 | (m,k)::r,n,acc=>by
  unfold aey;split
  ·rw[fB r _ (_::acc),fB r _ [_]];simp
  ·exact fB r n acc
theorem jD:∀(l:List (Str×agy)) (n:Nat) {x:Str} {c:ad5},(x,c)∈aey n l []->(x,agI)∈l/\n<=c
 |[],_,_,_,h=>by simp[aey] at h
 | (m, k)::r,n,x,c,h=>by
  unfold aey at h;split at h
  ·rename_i hk;rw[fB] at h;rcases afF.mp h with h |h
   ·obtain⟨h1,h2⟩:=jD r _ h;exact⟨z2f _ h1,by omega⟩
   ·have e:=aeD.mp h;cases e;have:k= .cell:=by simpa using hk
    subst this;exact⟨aen,z0g _⟩
  ·obtain⟨h1,h2⟩:=jD r _ h;exact⟨z2f _ h1,h2⟩
section
variable{M:Model}{A:aer}{E:ad7->ad8->Prop}{s:ad8}
theorem Vf{globals:ad5}{cl:List (Str×ad5)}{qual:Str}{env:PySem.Env}{Q:PySem.Env->ad8->Prop}
  (hQ:Q (newEnv scope s.heap.objs.size globals (aey (s.heap.objs.size+1) scope.names cl) qual none .none (some env) agL) {s with heap:=pushCells (s.heap.push {cls:= .type "dict",data:= .dict #[]}) scope.names}):
  aec M A (ahZ scope globals cl [] qual none .none (some env)) Q E s:=by
 simp only[ahZ,Option.isSome_some,if_true];refine ad4 (wpAny_alloc ?_);refine ad4 (wpAny_layCells _ (λname kind cells=>by cases hkc:kind ==agI <;> simp[hkc]) _ _ _ _ ?_);rw[show ({s with heap:=s.heap.push {cls:= .type "dict",data:= .dict #[]}}:ad8).heap.objs.size=s.heap.objs.size+1 from afp ..];exact ad4 (ad9 (ad9 hQ))
end
def gH(scope:afB)(env:PySem.Env)(C:ad5):PySem.Env:=
 {scope:=relabel scope env,locals:=C,globals:=env.globals,cells:=aey (C+1) scope.names (gU env.cells scope.names []),qual:=env.qual,func:=none,code:=env.code,frame:=env.frame,builtins:=env.builtins}
def bZ(X:Cx)(scope:afB)(ts:List Str)(C:ad5)(s:ad8)(H:Hp)(ex:List ad5):Cx where
 prog:=X.prog
 w:=X.w
 K:=X.K
 mg:=X.mg
 base:=X.base
 A:=X.A
 N:=ts++dY scope
 s₀:=s
 H₀:=H
 env:=gH scope X.env C
 outer:=X.stack
 stack:=X.stack
 ex:=ex
 fn:=λx=>decide (scope.names.lookup x=some .cell)
 calm:=X.calm
 pn:=[]
 xe:=λ_ _=>False
theorem oY{scope:afB}{env:PySem.Env}{x:Str}:∀{names:List (Str×agy)},
  (names.map λ(n,k)=>if (k ==ae7 && env.scope.kind == .function && env.kindOf n ==some .cell) then (n,agI) else (n,k)).lookup x =
   (names.lookup x).map λk=>if (k ==ae7 && env.scope.kind == .function && env.kindOf x ==some .cell) then .cell else k
 |[]=>rfl
 | (n, k)::r=>by
  have ih:= @oY scope env x r;rw[z1h];show List.lookup x ((if (k ==ae7 && env.scope.kind == .function && env.kindOf n ==some .cell)=true then (n,agI) else (n,k))::_)=_;cases hx:x ==n with
  | true=>
   have e:x=n:=by simpa using hx
   subst e;by_cases hc:(k ==ae7 && env.scope.kind == .function && env.kindOf x ==some .cell)=true
   ·rw[if_pos hc];simp only[agi,beq_self_eq_true,af7,hc,if_true]
   ·rw[if_neg hc];simp only[agi,beq_self_eq_true,af7,hc,if_false] <;> rfl
  | false=>
   by_cases hc:(k ==ae7 && env.scope.kind == .function && env.kindOf n ==some .cell)=true
   ·rw[if_pos hc];simp only[agi,hx];exact ih
   ·rw[if_neg hc];simp only[agi,hx];exact ih
theorem sY{x:Str}(h:(x,ae7)∈sc.names):x∈dY sc:=ae2.mpr ⟨(x,.free),ahK.mpr ⟨h,by simp⟩,rfl⟩
theorem aas{x:Str}(h:x∈dY sc):(x,ae7)∈sc.names:=by
 obtain⟨⟨n,k⟩,h1,h2⟩:=ae2.mp h;obtain⟨h3,h4⟩:=ahK.mp h1;have h4:k=ae7:=by simpa using h4
 subst h4;have h2:n=x:=h2;subst h2;exact h3
section
variable{X:Cx}{scope:afB}{ts:List Str}{C:ad5}
theorem kj(B:Cu X.env.scope scope ts X.N)(has:∀x,(X.env.kindOf x=some .cell\/X.env.kindOf x=some .free)->∃c,X.env.cells.lookup x=some c){x:Str}{c:ad5}(h:(gH scope X.env C).cells.lookup x=some c):
  (scope.names.lookup x=some .cell/\@LE.le Nat _ (C+1) c)\/(x∈dY scope/\X.env.cells.lookup x=some c):=by
 have h:(aey (C+1) scope.names (gU X.env.cells scope.names [])).lookup x=some c:=h;rw[fB,afr] at h;cases e:(aey (C+1) scope.names []).lookup x with
 | some c'=>
  rw[e] at h;have e2:c'=c:=by simpa using h
  subst e2;obtain⟨h1,h2⟩:=jD _ _ (PySem.mem_of_lookup e);exact .inl ⟨B.ZD _ h1 rfl,h2⟩
 | none=>
  rw[e] at h;have h:(gU X.env.cells scope.names []).lookup x=some c:=by simpa using h
  obtain⟨h1,h2⟩:=sX _ _ (PySem.mem_of_lookup h);have hx:=sY h1;obtain⟨c',hc'⟩:=has x (B.out x hx);rw[hc'] at h2;have h2:c=c':=h2;subst h2;exact .inr ⟨hx,hc'⟩
theorem Ma(B:Cu X.env.scope scope ts X.N){x:Str}{c:ad5}(hx:x∈dY scope)(hc:X.env.cells.lookup x=some c)(has:∀x,(X.env.kindOf x=some .cell\/X.env.kindOf x=some .free)->∃c,X.env.cells.lookup x=some c):(gH scope X.env C).cells.lookup x=some c:=by
 have hs:=Eb X.env.cells scope.names (aas hx);obtain⟨c',e⟩:=afw.mp hs;have hl:∃d,(gH scope X.env C).cells.lookup x=some d:=by
  show ∃d,(aey (C+1) scope.names (gU X.env.cells scope.names [])).lookup x=some d;rw[fB,afr,e];cases (aey (C+1) scope.names []).lookup x with
  |none=>exact⟨c',rfl⟩
  |some d=>exact⟨d,rfl⟩
 obtain⟨d,hd⟩:=hl;rcases kj B has hd with⟨h1,_⟩ |⟨_,h2⟩
 ·rw[B.JM x hx] at h1;cases h1
 ·rw[hc] at h2;cases h2;exact hd
theorem XH(B:Cu X.env.scope scope ts X.N){x:Str}(hx:x∈dY scope):(gH scope X.env C).kindOf x=some .cell\/(gH scope X.env C).kindOf x=some .free:=by
 show (relabel scope X.env).names.lookup x=some .cell\/(relabel scope X.env).names.lookup x=some .free;have e:(relabel scope X.env).names.lookup x=(scope.names.lookup x).map λk=>if (k ==ae7 && X.env.scope.kind == .function && X.env.kindOf x ==some .cell) then .cell else k:=oY (scope:=scope);rw[e,B.JM x hx];simp only[af7];split
 ·exact .inl rfl
 ·exact .inr rfl
end
def zL{α:Type}:R α->R α
 | .err _=> .bad
 | .ok a=> .ok a
 | .bad=> .bad
@[simp] theorem wH {α:Type} (a:α):zL (R.ok a)= .ok a:=rfl
def jY(k:D->R (Option D)):List D->R (List D)
 |[]=> .ok []
 |x::xs=>(zL (k x)).bind λo=>(jY k xs).bind λds=> .ok (o.toList++ds)
def oZ(gt:D->aA->R aA)(ft:aA->R Bool)(fe:aA->R D)(ρ:aA)(x:D):R (Option D):=
 (gt x ρ).bind λρ1=>(ft ρ1).bind λb=>if b=true then (fe ρ1).bind λd=> .ok (some d) else .ok none
def xJ:Option Ent->Option Ent
 |some (.val d)=>some (.val d)
 |_=>none
def Cv(n:Nat)(caps:List Nat)(ρ:aA):aA:=aeb n none++caps.map λk=>((ρ.map xJ)[k]?).join
def bA(n:Nat)(caps:List Nat)(fi:aA->R (List D))(gt:D->aA->R aA)(ft:aA->R Bool)(fe:aA->R D):aA->R D:=
 λρ=>(fi ρ).bind λxs=>(jY (oZ gt ft fe (Cv n caps ρ)) xs).bind (cap .lst)
def jE(n:Nat)(gt:D->aA->R aA):Prop:=∀d ρ ρ',gt d ρ= .ok ρ'->∀i,n<=i->ρ'[i]?=ρ[i]?
def Cw(n:Nat)(gt:List D->aA->R aA):Prop:=∀d ρ ρ',gt d ρ= .ok ρ'->∀i,n<=i->ρ'[i]?=ρ[i]?
theorem aQ(h:i<n):jE n (aH i):=λd ρ ρ' e j hj=>by
 cases e;rw[z1e (by omega)]
theorem dZ:Cw n nilG:=λd ρ ρ' e j hj=>by
 cases d with
 |nil=>cases e;rfl
 |cons _ _=>cases e
theorem bF{t:D->aA->R aA}(h1:jE n t)(h2:Cw n u):Cw n (aW t u):=λd ρ ρ' e j hj=>by
 cases d with
 |nil=>cases e
 | cons d ds=>
  have e':(t d ρ).bind (λρ'=>u ds ρ')= .ok ρ':=e;cases q:t d ρ with
  |ok ρ1=>rw[q] at e';rw[h2 ds ρ1 ρ' e' j hj,h1 d ρ ρ1 q j hj]
  |err c=>rw[q] at e';cases e'
  |bad=>rw[q] at e';cases e'
theorem d7{m:Nat}(h:Cw n u):jE n (cR (cT m u)):=λd ρ ρ' e j hj=>by
 cases d with
 | tup ds=>
  have e':(if ds.length=m then u ds ρ else .bad)= .ok ρ':=e;by_cases hl:ds.length=m
  ·rw[if_pos hl] at e';exact h ds ρ ρ' e' j hj
  ·rw[if_neg hl] at e';cases e'
 |_=>cases e
def zM(Y:Cx)(ifs:List aee)(ft:aA->R Bool):Prop:=∀(pins:List (ad5×Obj)) (s:ad8) (σ:St) (H:Hp) (Q:Bool->Hp->Prop),Inv Y pins σ H s->tG Y rB ft σ H Q->
 aec (model Y.prog Y.w) Y.A (forIn ifs true λc r=>if r=true then do let ok <-isTrue c Y.env (eval c Y.env);pure (ahP ok) else pure (ahP r)) (TP Y pins σ Q) Y.xe s
theorem bL:zM Y [] (λ_=> .ok true):=λpins s σ H Q I h=>by
 obtain⟨ρ,O,j,h⟩:=h;exact wpAny_tests_nil ⟨H,I,fin h rfl⟩
theorem rZ{c:aee}{p:aA->R Bool}(hc:DT Y c p):zM Y [c] p:=λpins s σ H Q I h=>wpAny_tests_one (hc pins s σ H Q I h)
theorem Vg{k:D->R (Option D)}{x:D}{xs:List D}{all:List D}(h:jY k (x::xs)= .ok all):∃o rest,k x= .ok o/\jY k xs= .ok rest/\all=o.toList++rest:=by
 have h:(zL (k x)).bind (λo=>(jY k xs).bind λds=> .ok (o.toList++ds))= .ok all:=h;cases e:k x with
 |bad=>rw[e] at h;cases h
 |err c=>rw[e] at h;cases h
 | ok o=>
  rw[e] at h;cases e2:jY k xs with
  |bad=>rw[e2] at h;cases h
  |err c=>rw[e2] at h;cases h
  | ok rest=>
   rw[e2] at h;cases h;exact⟨o,rest,rfl,rfl,rfl⟩
theorem FN{k:D->R (Option D)}:∀{xs:List D} {c:Str},jY k xs≠.err c
 |[],c=>λh=>by cases h
 | x ::xs,c=>λh=>by
  have h:(zL (k x)).bind (λo=>(jY k xs).bind λds=> .ok (o.toList++ds))= .err c:=h;cases e:k x with
  |bad=>rw[e] at h;cases h
  |err c=>rw[e] at h;cases h
  | ok o=>
   rw[e] at h;cases e2:jY k xs with
   |bad=>rw[e2] at h;cases h
   |err c'=>exact FN e2
   |ok rest=>rw[e2] at h;cases h
section
variable{X:Cx}
theorem Tn{o:Option Ent}{e:Ent}(h:xJ o=some e):o=some e/\e.Q5=true:=by
 cases o with
 |none=>cases h
 | some e'=>
  cases e' with
  |val d=>cases h;exact⟨rfl,rfl⟩
  |lst _=>cases h
  |rG _=>cases h
  |rws _=>cases h
  |obj _=>cases h
theorem sZ{e:Ent}(h:(ρ.map xJ)[i]?=some (some e)):ρ[i]?=some (some e)/\e.Q5=true:=by
 rw[z2b] at h;cases q:ρ[i]? with
 |none=>rw[q] at h;cases h
 | some o=>
  rw[q] at h;obtain⟨h1,h2⟩:=Tn (aeg h);rw[h1];exact⟨rfl,h2⟩
theorem In.vals(j:In X O H ρ σ):In X O H (ρ.map xJ) σ:=
 ⟨⟨λi e h=>j.env.get i e (sZ h).1,λi k e e' v hik hi hk=>j.env.sep i k e e' v hik (sZ hi).1 (sZ hk).1,λi k rows a rs e v hik hi=>by cases (sZ hi).2⟩,j.al,j.len,by rw[z1g];exact j.jr⟩
theorem Tp{ks:List Nat}(h:caps.map (λx=>iT x N)=ks):pull N caps n (ρ.map xJ)=Cv n ks ρ:=by
 unfold pull Cv;rw[<-h,aev];rfl
theorem aat{pins:List (ad5×Obj)}{s:ad8}{fp:List ad5}(I:Inv X pins σ H s)(B:Cu X.env.scope scope ts X.N)
  (hf:∀b∈fp,FpOk X pins H b)(ho:∀b∈fp,b<s.heap.objs.size){h4:aeo}{C:Nat}(hC:C=s.heap.objs.size+1)
  (e4:h4=pushCells ((s.heap.push {cls:= .type "list",dict:=none,data:= .seq ([]:List ad7).toArray}).push {cls:= .type "dict",data:= .dict #[]}) scope.names):
  Inv (bZ X scope ts C s H fp) [] (pull X.N (dY scope) ts.length σ) (upd H s.heap.objs.size (.lst [])) {s with heap:=h4}:=by
 have hD:H s.heap.objs.size=none:=I.hok.fresh (z0g _);have ZF:∀b o,(s.heap.push {cls:= .type "list",dict:=none,data:= .seq ([]:List ad7).toArray}).get? b=some o->h4.get? b=some o:=λb o e=>by
  rw[e4];exact ag6 _ _ b o (z1a _ e)
 have keep:∀b o,s.heap.get? b=some o->h4.get? b=some o:=λb o e=>ZF b o (z1a _ e);have sz3:(s.heap.push {cls:= .type "list",dict:=none,data:= .seq ([]:List ad7).toArray}).objs.size=s.heap.objs.size+1:=afp ..;have hns:h4.Ns C λ_=>none:=by
  rw[e4,hC,<-sz3];exact (Heap.Ns.new _ (.type "dict")).keeps (ag6 _ _)
 have ok:=cellsFrom_ok scope.names ((s.heap.push {cls:= .type "list",dict:=none,data:= .seq ([]:List ad7).toArray}).push {cls:= .type "dict",data:= .dict #[]}) (C+1) [] ⟨λ_ _ hm=>(nomatch hm),aiv⟩ (by rw[afp,sz3,hC];exact z0g _);rw[afp,sz3,<-hC,<-e4] at ok;have aau:∀x c,(gH scope X.env C).cells.lookup x=some c->scope.names.lookup x=some .cell->h4.IsCell c none:=λx c h hk=>by
  have h:(aey (C+1) scope.names (gU X.env.cells scope.names [])).lookup x=some c:=h;rw[fB,afr] at h;cases e:(aey (C+1) scope.names []).lookup x with
  | some c'=>
   rw[e] at h;have e2:c'=c:=by simpa using h
   subst e2;exact (ok.empty x c' (PySem.mem_of_lookup e)).1
  | none=>
   rw[e] at h;have h:(gU X.env.cells scope.names []).lookup x=some c:=by simpa using h
   have:=B.JM x (sY (sX _ _ (PySem.mem_of_lookup h)).1);rw[hk] at this;cases this
 have Tq:∀x (c:Nat),X.env.cells.lookup x=some c->c<s.heap.objs.size:=λx c e=>by
  obtain⟨v,q⟩:=I.cell x c e;exact q.lt
 have abH:∀x c,(gH scope X.env C).cells.lookup x=some c->∃v,h4.IsCell c v:=λx c h=>by
  rcases kj B I.ok.has h with⟨h1,_⟩ |⟨_,h2⟩
  ·exact⟨_,aau x c h h1⟩
  ·obtain⟨v,q⟩:=I.cell x c h2;exact⟨v,q.keeps keep⟩
 refine⟨⟨I.ok.mod,B.kind,I.ok.glob,I.ok.blt,by show @LE.le Nat _ s.heap.objs.size C;omega,?inj,?has,?cab,I.ok.hd,I.ok.frames,.inl rfl,?exf,I.bs,z0b I.ok.bsz I.sz,?noex,?exfs,I.stack,I.stkFree⟩,
  rfl,I.bare,Un.laid keep (z0g _) hD,⟨_,hns,?loc⟩,abH,?free,?freeC,λp hp=>absurd (show p∈([]:List (ad5×Obj)) from hp) (by simp),I.hok.laid keep (z0g _) ?new,?len⟩
 case inj=>
  intro x y c h1 h2;have h1:(gH scope X.env C).cells.lookup x=some c:=h1;have h2:(gH scope X.env C).cells.lookup y=some c:=h2;rcases kj B I.ok.has h1 with⟨a1,a2⟩ |⟨a1,a2⟩ <;> rcases kj B I.ok.has h2 with⟨b1,b2⟩ |⟨b1,b2⟩
  ·-- both its own
   have look:∀z,(gH scope X.env C).cells.lookup z=some c->scope.names.lookup z=some .cell->(z,c)∈aey (C+1) scope.names []:=λz h hk=>by
    have h:(aey (C+1) scope.names (gU X.env.cells scope.names [])).lookup z=some c:=h;rw[fB,afr] at h;cases e:(aey (C+1) scope.names []).lookup z with
    | some c'=>
     rw[e] at h;have e2:c'=c:=by simpa using h
     subst e2;exact PySem.mem_of_lookup e
    | none=>
     rw[e] at h;have h:(gU X.env.cells scope.names []).lookup z=some c:=by simpa using h
     have:=B.JM z (sY (sX _ _ (PySem.mem_of_lookup h)).1);rw[hk] at this;cases this
   exact name_of_addr ok.apart (look x h1 a1) (look y h2 b1)
  ·have:=Tq y c b2;omega
  ·have:=Tq x c a2;omega
  ·exact I.ok.inj x y c a2 b2
 case has=>
  intro x hx;have hx:(relabel scope X.env).names.lookup x=some .cell\/(relabel scope X.env).names.lookup x=some .free:=hx;have hx:(scope.names.map λ(n,k)=>if (k ==ae7 && X.env.scope.kind == .function && X.env.kindOf n ==some .cell) then (n,agI) else (n,k)).lookup x=some .cell\/(scope.names.map λ(n,k)=>if (k ==ae7 && X.env.scope.kind == .function && X.env.kindOf n ==some .cell) then (n,agI) else (n,k)).lookup x=some .free:=hx;rw[oY (scope:=scope)] at hx;cases e:scope.names.lookup x with
  |none=>rw[e] at hx;rcases hx with z |z <;> cases z
  | some k=>
   rw[e] at hx;by_cases hk:k= .free
   ·subst hk;have hm:=sY (PySem.mem_of_lookup e);obtain⟨c,hc⟩:=I.ok.has x (B.out x hm);exact⟨c,Ma B hm hc I.ok.has⟩
   ·have hk':(k ==ae7)=false:=by simpa using hk
    simp only[af7,hk',ahg,afg,if_false] at hx;have hc:k= .cell:=by
     rcases hx with z |z
     ·exact aeg z
     ·exact absurd (aeg z) hk
    subst hc;have q:=PySem.W.cellsFrom_some scope.names (C+1) (gU X.env.cells scope.names []) (.inl e);exact afw.mp q
 case cab=>
  intro x c hfn h;have h:(gH scope X.env C).cells.lookup x=some c:=h;have hfn:scope.names.lookup x=some .cell:=of_decide_eq_true hfn;rcases kj B I.ok.has h with⟨_,a2⟩ |⟨a1,_⟩
  ·show @LE.le Nat _ s.heap.objs.size c;omega
  ·rw[B.JM x a1] at hfn;cases hfn
 case exf=>
  intro b hb;have hb:b∈fp:=hb;have hl: @LT.lt Nat _ b s.heap.objs.size:=ho b hb;refine⟨by show @Ne Nat b C;omega,λx c h=>?_⟩;rcases kj B I.ok.has h with⟨_,a2⟩ |⟨_,a2⟩
  ·show @Ne Nat c b;omega
  ·exact (hf b hb).2.2.2.2.1 x c a2
 case noex=>
  intro b o e hb;have hb:b∈fp:=hb;rcases (hf b hb).2.2.2.1 with z |z
  ·exact I.ok.noex b o e z
  ·exact absurd (z0d (z2c e) (z0b I.ok.bsz z)) (afh _)
 case exfs=>
  intro b hb hz;have hb:b∈fp:=hb;have hz:b∈frs X.stack:=hz;rcases ael.mp (I.stkSub b hz) with z |z
  ·exact (hf b hb).2.1 z
  ·exact (hf b hb).2.2.1 z
 case loc=>
  intro i x v h1 h2 h3;have h1:(ts++dY scope)[i]?=some x:=h1;obtain⟨k,y,e1,e2,e3⟩:=mK h2;have hy:x=y:=by
   rw[e1,aeO (by omega),show ts.length+k - ts.length=k by omega,e2] at h1;exact (aeg h1).symm
  subst hy;have hm:x∈dY scope:=aeE e2;obtain⟨m,_,hl⟩:=I.loc;have vis:Vis X.env.scope x:=by
   rcases B.out x hm with z |z
   ·exact .inr (.inl z)
   ·exact .inr (.inr z)
  obtain⟨u,ru,lk⟩:=hl (iT x X.N) x v (oX (B.mem x hm)) e3 vis;refine⟨u,ru,.inr ⟨XH B hm,?_⟩⟩;rcases lk with⟨z,_⟩ |⟨_,c,hc,q⟩
  ·have z:X.env.scope.names.lookup x=some .local:=z;rcases B.out x hm with z' |z' <;> rw[z] at z' <;> cases z'
  ·exact⟨c,Ma B hm hc I.ok.has,q.keeps keep⟩
 case free=>
  show upd H s.heap.objs.size (.lst []) C=none;rw[upd_ne (show @Ne Nat C s.heap.objs.size by omega)];exact I.hok.fresh (show @LE.le Nat _ s.heap.objs.size C by omega)
 case freeC=>
  intro x c h;rcases kj B I.ok.has h with⟨_,a2⟩ |⟨_,a2⟩
  ·rw[upd_ne (show @Ne Nat c s.heap.objs.size by omega)];exact I.hok.fresh (show @LE.le Nat _ s.heap.objs.size c by omega)
  ·have:=Tq x c a2;rw[upd_ne (show @Ne Nat c s.heap.objs.size by omega)];exact I.freeC x c a2
 case new=>
  exact⟨afN _,[],0,.nil,ZF _ _ (z1f _ rfl)⟩
 case len=>
  show (pull X.N (dY scope) ts.length σ).length=(ts++dY scope).length;rw[xH,z1d]
theorem abI{s:ad8}{fp:List ad5}{C:ad5}(B:Cu X.env.scope scope ts X.N)(j:In X O H ρ σ):In (bZ X scope ts C s H fp) O H (pull X.N (dY scope) ts.length ρ) (pull X.N (dY scope) ts.length σ):=by
 refine⟨⟨λi e h=>?_,λi k e e' v hik hi hk oi ok si sk=>?_,λi k rows a rs e v hik hi si ha hk ok sk=>?_⟩,j.al,?_,?_⟩
 ·obtain⟨m,x,rfl,e1,e2⟩:=mK h;obtain⟨v,e3,r⟩:=j.env.get _ e e2;exact⟨v,by rw[wG e1,e3];rfl,r⟩
 ·obtain⟨m,x,rfl,e1,e2⟩:=mK hi;obtain⟨m',x',rfl,e1',e2'⟩:=mK hk;have hx:x≠x':=λz=>by
   subst z;have nd:=(aho.mp B.nd).2.1;exact hik (by rw[nodup_ix nd e1 e1'])
  have hm:=B.mem x (aeE e1);have hm':=B.mem x' (aeE e1');have hne:iT x X.N≠iT x' X.N:=λz=>by
   have q1:=oX hm;have q2:=oX hm';rw[z,q2] at q1;exact hx (aeg q1).symm
  rw[wG e1] at si;rw[wG e1'] at sk;exact j.env.sep _ _ e e' v hne e2 e2' oi ok (join_some (aeg si)) (join_some (aeg sk))
 ·obtain⟨m,x,rfl,e1,e2⟩:=mK hi;obtain⟨m',x',rfl,e1',e2'⟩:=mK hk;have hx:x≠x':=λz=>by
   subst z;have nd:=(aho.mp B.nd).2.1;exact hik (by rw[nodup_ix nd e1 e1'])
  have hm:=B.mem x (aeE e1);have hm':=B.mem x' (aeE e1');have hne:iT x X.N≠iT x' X.N:=λz=>by
   have q1:=oX hm;have q2:=oX hm';rw[z,q2] at q1;exact hx (aeg q1).symm
  rw[wG e1] at si;rw[wG e1'] at sk;exact j.env.lU _ _ rows a rs e v hne e2 (join_some (aeg si)) ha e2' ok (join_some (aeg sk))
 ·show (pull X.N (dY scope) ts.length σ).length=(ts++dY scope).length;rw[xH,z1d]
 ·show (pull X.N (dY scope) ts.length ρ).length=(ts++dY scope).length;rw[xH,z1d]
end
theorem eU:1000000<sizeLine:=by rw[aft];decide
section
variable{X:Cx}
theorem In.back{ρ1:aA}(j:In Y O H ρ1 σ)(h0:∀i,i<n->ρ[i]?=some none)(h1:∀i,n<=i->ρ1[i]?=ρ[i]?)(hl:ρ.length=Y.N.length):In Y O H ρ σ:=by
 have sub:∀(i:Nat) e,ρ[i]?=some (some e)->ρ1[i]?=some (some e):=λi e h=>by
  by_cases hi:i<n
  ·rw[h0 i hi] at h;cases h
  ·rw[h1 i (by omega)];exact h
 exact⟨⟨λi e h=>j.env.get i e (sub i e h),λi k e e' v hik hi hk=>j.env.sep i k e e' v hik (sub i e hi) (sub k e' hk),λi k rows a rs e v hik hi si ha hk=>j.env.lU i k rows a rs e v hik (sub i _ hi) si ha (sub k e hk)⟩,j.al,j.len,hl⟩
theorem Vh{l:List (Option α)}(h:i<n):(pull N caps n l)[i]?=some none:=by
 unfold pull;rw[aeS (by simpa using h),ae9,if_pos h]
theorem In.go{O':ad5->Prop}{H':Hp}(j:In Y O H ρ σ)(hv:∀(i:Nat) e,ρ[i]?=some (some e)->e.Q5=true)(r:eG Y.K O H O' H')(al:∀a,O' a->∃o,H' a=some o):In Y O' H' ρ σ:=by
 refine⟨⟨λi e h=>?_,λi k e e' v _ hi _ oi=>?_,λi k rows a rs e v _ hi=>by cases hv i _ hi⟩,al,j.len,j.jr⟩
 ·obtain⟨v,h1,h2⟩:=j.env.get i e h;refine⟨v,h1,?_⟩;cases e with
  |val d=>exact Rep.go r h2
  |lst _=>cases hv i _ h
  |rG _=>cases hv i _ h
  |rws _=>cases hv i _ h
  |obj _=>cases hv i _ h
 ·rw[aar (hv i e hi)] at oi;cases oi
theorem JN:∀(i:Nat) e,(pull N caps n (ρ.map xJ))[i]?=some (some e)->e.Q5=true:=λi e h=>by
 obtain⟨_,_,_,_,q⟩:=mK h;exact (sZ q).2
end
inductive So where
 |bad |nx (ρ:aA) |rt (d:D) |bk (ρ:aA) |ct (ρ:aA) |ex (c:Str) (ρ:aA)
def Ls(H0:Hp)(O0:ad5->Prop)(H:Hp)(ρ:aA)(σ:St):Prop:=∀(i:Nat) (rows:List (List D)) (a:ad5) (rs:List ad5),ρ[i]?=some (some (.rws rows))->σ[i]?=some (some (.ref a))->H a=some (.lst (rs.map V.ref))->∀r∈rs,H0 r=none/\¬O0 r
structure At(X:Cx)(H0:Hp)(O0 O:ad5->Prop)(H:Hp)(ρ:aA)(σ:St):Prop where
 same:Same H0 H
 dR:eG X.K O0 H0 O H
 sub:∀a,O0 a->O a
 inn:In X O H ρ σ
 mine:∀(i:Nat) e a,ρ[i]?=some (some e)->e.own=true->σ[i]?=some (some (.ref a))->H0 a=none/\¬O0 a
 pW:Ls H0 O0 H ρ σ
def oK(X:Cx)(H0:Hp)(O0 O:ad5->Prop)(H:Hp)(E:Ends)(o:So):Prop:=match o with
 | .nx ρ'=>∀σ' H' O',At X H0 O0 O' H' ρ' σ'->eG X.K O H O' H'->E.nx σ' H'
 | .bk ρ'=>∀σ' H' O',At X H0 O0 O' H' ρ' σ'->eG X.K O H O' H'->E.bk σ' H'
 | .ct ρ'=>∀σ' H' O',At X H0 O0 O' H' ρ' σ'->eG X.K O H O' H'->E.ct σ' H'
 | .rt d=>∀v H',Same H0 H'->Rep X.K O0 H' d v->E.rt v H'
 | .ex c ρ'=>∀σ' H' O',At X H0 O0 O' H' ρ' σ'->Fx X c σ' H'
 | .bad=>False
theorem oK.go{H1:Hp}{O1:ad5->Prop}{E:Ends}{o:So}(h:oK X H0 O0 O H E o)(r:eG X.K O H O1 H1):oK X H0 O0 O1 H1 E o:=by
 cases o with
 |bad=>exact h
 |rt d=>exact h
 |bk ρ2=>exact λσ2 H2 O2 j2 r2=>h σ2 H2 O2 j2 (r.trans r2)
 |ct ρ2=>exact λσ2 H2 O2 j2 r2=>h σ2 H2 O2 j2 (r.trans r2)
 |nx ρ2=>exact λσ2 H2 O2 j2 r2=>h σ2 H2 O2 j2 (r.trans r2)
 |ex c ρ2=>exact h
def tS(X:Cx)(g:aA->So):TS:=λE σ H=>∃H0 O0 O ρ,At X H0 O0 O H ρ σ/\oK X H0 O0 O H E (g ρ)
def DS(X:Cx)(st:aeu)(g:aA->So):Prop:=PS X st (tS X g)
def kI(X:Cx)(st:List aeu)(g:aA->So):Prop:=PSs X st (tS X g)
theorem PS.imp{e:aeu}{t t':TS}(h:PS X e t)(w:∀σ H Q,t' Q σ H->t Q σ H):PS X e t':=λpins s σ H Q I q=>h pins s σ H Q I (w σ H Q q)
theorem PSs.imp{e:List aeu}{t t':TS}(h:PSs X e t)(w:∀σ H Q,t' Q σ H->t Q σ H):PSs X e t':=λpins s σ H Q I q=>h pins s σ H Q I (w σ H Q q)
section
variable{X:Cx}{H0 H H1:Hp}{O0 O:ad5->Prop}{ρ:aA}{σ:St}
theorem Ls.of(h:Ls H0 O0 H ρ σ)(w:∀(i:Nat) (rows:List (List D)) (a:ad5) (rs:List ad5),ρ[i]?=some (some (.rws rows))->σ[i]?=some (some (.ref a))->H1 a=some (.lst (rs.map V.ref))->H a=some (.lst (rs.map V.ref))):Ls H0 O0 H1 ρ σ:=λi rows a rs hi hs ha=>h i rows a rs hi hs (w i rows a rs hi hs ha)
theorem At.grow(j:At X H0 O0 O H ρ σ)(s:Same H H1):At X H0 O0 O H1 ρ σ:=⟨j.same.trans s,j.dR.trans (Same.dR s),j.sub,j.inn.same s,j.mine,j.pW.of λi rows a rs hi hs ha=>j.inn.env.back s hi hs ha⟩
theorem At.set(j:At X H0 O0 O H ρ σ)(hi:i<X.N.length){v:V}(r:Rep X.K O H d v):At X H0 O0 O H (ρ.set i (some (.val d))) (σ.set i (some v)):=by
 have h1:i<ρ.length:=by rw[j.inn.jr];exact hi
 refine⟨j.same,j.dR,j.sub,j.inn.set hi r,λk e a h ho hs=>?_,λk rows a rs h hs=>?_⟩
 ·by_cases hk:k=i
  ·subst hk;rw[z2a h1] at h;cases h;cases ho
  ·rw[z1e (aeh hk)] at h hs;exact j.mine k e a h ho hs
 ·by_cases hk:k=i
  ·subst hk;rw[z2a h1] at h;cases h
  ·rw[z1e (aeh hk)] at h hs;exact j.pW k rows a rs h hs
def Tr:Option Ent->Option Ent
 |some (.lst ds)=>some (.val (.lst ds))
 |some (.rws rows)=>some (.val (.lst (rows.map D.lst)))
 |o=>o
def dN(ρ:aA):aA:=ρ.map Tr
def Q6(H:Hp)(ρ:aA)(σ:St)(O:ad5->Prop):ad5->Prop:=λa=>O a/\(∀(i:Nat) ds,ρ[i]?=some (some (.lst ds))->σ[i]?≠some (some (.ref a)))/\∀(i:Nat) (rows:List (List D)) (b:ad5) (rs:List ad5),ρ[i]?=some (some (.rws rows))->σ[i]?=some (some (.ref b))->H b=some (.lst (rs.map V.ref))->a∉b::rs
theorem Ec{e:Ent}(h:(dN ρ)[i]?=some (some e)):(ρ[i]?=some (some e)/\(∀ds,e≠.lst ds)/\∀rows,e≠.rws rows)\/(∃ds,ρ[i]?=some (some (.lst ds))/\e= .val (.lst ds))\/∃rows,ρ[i]?=some (some (.rws rows))/\e= .val (.lst (rows.map D.lst)):=by
 unfold dN at h;rw[z2b] at h;cases q:ρ[i]? with
 |none=>rw[q] at h;cases h
 | some o=>
  rw[q] at h;have h:Tr o=some e:=aeg h;cases o with
  |none=>cases h
  | some e'=>
   cases e' with
   |val d=>cases h;exact .inl ⟨rfl,(λ_ z=>by cases z),(λ_ z=>by cases z)⟩
   |lst ds=>cases h;exact .inr (.inl ⟨ds,rfl,rfl⟩)
   |rG kvs=>cases h;exact .inl ⟨rfl,(λ_ z=>by cases z),(λ_ z=>by cases z)⟩
   |obj t=>cases h;exact .inl ⟨rfl,(λ_ z=>by cases z),(λ_ z=>by cases z)⟩
   |rws rows=>cases h;exact .inr (.inr ⟨rows,rfl,rfl⟩)
theorem JQ{K:PySem.W.Frag}{O':ad5->Prop}:∀{rs:List ad5} {rows:List (List D)},rs.length=rows.length->(∀(i:Nat) r row,rs[i]?=some r->rows[i]?=some row->Rep K O' H (.lst row) (.ref r))->aP K O' H (rows.map D.lst) (rs.map V.ref)
 |[],[],_,_=> .nil
 |[],_::_,h,_=>by cases h
 |_::_,[],h,_=>by cases h
 |r::rs,row::rows,h,n=> .cons (n 0 r row rfl rfl) (JQ (ajc h) λi r row e1 e2=>n (i+1) r row e1 e2)
theorem In.dN(j:In X O H ρ σ):In X (Q6 H ρ σ O) H (Pu.dN ρ) σ:=by
 refine⟨⟨λi e h=>?_,λi k e e' v hik hi hk oi ok si sk=>?_,λi k rows a rs e v hik hi=>?_⟩,λa z=>j.al a z.1,j.len,by unfold Pu.dN;rw[z1g];exact j.jr⟩
 ·rcases Ec h with⟨h1,h2,h2'⟩ |⟨ds,h1,rfl⟩ |⟨rows,h1,rfl⟩
  ·obtain⟨v,h3,h4⟩:=j.env.get i e h1;refine⟨v,h3,?_⟩;cases e with
   |val d=>exact Rep.fewer (λa z=>z.1) h4
   |lst ds=>exact absurd rfl (h2 ds)
   |rws rows=>exact absurd rfl (h2' rows)
   |obj t=>exact h4
   | rG kvs=>
    obtain⟨a,ys,e1,o1,e2,k1,r1⟩:=h4;refine⟨a,ys,e1,⟨o1,λk ds hk hs=>?_,λk rows b rs hk hs hb hm=>?_⟩,e2,k1,r1.fewer λa z=>z.1⟩
    ·by_cases hik:i=k
     ·subst hik;rw[h1] at hk;cases hk
     ·exact j.env.sep i k _ _ v hik h1 hk rfl rfl h3 (by rw[e1];exact hs)
    ·by_cases hik:i=k
     ·subst hik;rw[h1] at hk;cases hk
     ·rcases ael.mp hm with z |z
      ·exact j.env.sep i k _ _ v hik h1 hk rfl rfl h3 (by rw[e1,z];exact hs)
      ·exact (j.env.lU k i rows b rs _ v (aeh hik) hk hs hb h1 rfl h3).1 a z e1
  ·obtain⟨v,h3,a,xs,e1,o1,e2,r1⟩:=j.env.get i _ h1;exact⟨v,h3,by rw[e1];exact lG (SqL.of e2) (λz=>z.2.1 i ds h1 (by rw[<-e1];exact h3)) (r1.fewer λa z=>z.1)⟩
  ·obtain⟨v,h3,a,rs,e1,R⟩:=j.env.get i _ h1;refine⟨v,h3,?_⟩;have hs:σ[i]?=some (some (.ref a)):=by rw[<-e1];exact h3
   rw[e1];refine lG (SqL.of R.at_) (λz=>z.2.2 i rows a rs h1 hs R.at_ (aen ..)) (JQ R.len λk r row q1 q2=>?_);obtain⟨_,xs,q3,q4⟩:=R.row k r row q1 q2;exact lG (SqL.of q3) (λz=>z.2.2 i rows a rs h1 hs R.at_ (z2f _ (aeE q1))) (q4.fewer λa z=>z.1)
 ·have un:∀{m:Nat} {e:Ent},(Pu.dN ρ)[m]?=some (some e)->e.own=true->ρ[m]?=some (some e):=λ{m e} h ho=>by
   rcases Ec h with⟨h1,_⟩ |⟨ds,_,rfl⟩ |⟨rows,_,rfl⟩
   ·exact h1
   ·cases ho
   ·cases ho
  exact j.env.sep i k e e' v hik (un hi oi) (un hk ok) oi ok si sk
 ·rcases Ec hi with⟨_,_,h2⟩ |⟨ds,_,z⟩ |⟨_,_,z⟩
  ·exact absurd rfl (h2 rows)
  ·cases z
  ·cases z
theorem At.adz(j:At X H0 O0 O H ρ σ):∀a,O0 a->Q6 H ρ σ O a:=λa z=>⟨j.sub a z,λi ds h hs=>(j.mine i _ a h rfl hs).2 z,λi rows b rs h hs hb hm=>by
 rcases ael.mp hm with q |q
 ·subst q;exact (j.mine i _ _ h rfl hs).2 z
 ·exact (j.pW i rows b rs h hs hb a q).2 z⟩
end
section
variable{X:Cx}{st:aeu}{rest:List aeu}{g k:aA->So}{f:aA->R D}{p:aA->R Bool}{e:aee}{pos:Pos}
def aR(g k:aA->So):aA->So:=λρ=>match g ρ with
 | .nx ρ'=>k ρ'
 |o=>o
theorem cH:kI X [] .nx:=PSs.imp pss_nil λσ H E h=>by
 obtain⟨H0,O0,O,ρ,j,h⟩:=h;exact h σ H O j .refl
theorem aL(h:DS X st g):kI X [st] g:=pss_one h
theorem aF(h1:DS X st g)(h2:kI X rest k):kI X (st::rest) (aR g k):=by
 refine PSs.imp (pss_cons h1 h2) λσ H E h=>?_;obtain⟨H0,O0,O,ρ,j,h⟩:=h;unfold aR at h;refine⟨H0,O0,O,ρ,j,?_⟩;cases e1:g ρ with
 |bad=>rw[e1] at h;exact h
 |rt d=>rw[e1] at h;exact h
 |bk ρ'=>rw[e1] at h;exact h
 |ct ρ'=>rw[e1] at h;exact h
 |ex c ρ'=>rw[e1] at h;exact h
 | nx ρ'=>
  rw[e1] at h;have h:oK X H0 O0 O H E (k ρ'):=h;exact λσ' H' O' j' r'=>⟨H0,O0,O',ρ',j',h.go r'⟩
def fZ(r:R D)(ρ:aA)(k:D->So):So:=match r with
 | .ok d=>k d
 | .err c=> .ex c ρ
 | .bad=> .bad
def retS(f:aA->R D):aA->So:=λρ=>fZ (f (dN ρ)) ρ .rt
theorem bh(he:DE X e f):DS X (.Return (some e) pos) (retS f):=by
 refine PS.imp (ps_ret he) λσ H E h=>?_;obtain⟨H0,O0,O,ρ,j,h⟩:=h;refine⟨dN ρ,Q6 H ρ σ O,j.inn.dN,?_⟩;unfold retS fZ at h;cases e1:f (dN ρ) with
 |bad=>rw[e1] at h;exact h
 |err c=>rw[e1] at h;exact h σ H O j
 |ok d=>rw[e1] at h;exact λv H' s r=>h v H' (j.same.trans s) (Rep.fewer j.adz r)
def jc(f:aA->R D):aA->So:=λρ=>fZ (f (dN ρ)) ρ λ_=> .nx ρ
theorem jP(he:DE X e f)(hs:agu e none pos.line X.env=pure false:=by rfl):DS X (.Expr e pos) (jc f):=by
 refine PS.imp (ps_expr he hs) λσ H E h=>?_;obtain⟨H0,O0,O,ρ,j,h⟩:=h;refine⟨dN ρ,Q6 H ρ σ O,j.inn.dN,?_⟩;unfold jc fZ at h;cases e1:f (dN ρ) with
 |bad=>rw[e1] at h;exact h
 |err c=>rw[e1] at h;exact h σ H O j
 |ok d=>rw[e1] at h;exact λv H' s r=>h σ H' O (j.grow s) (Same.dR s)
def bB(f:aA->R D)(gt:D->aA->R aA):aA->So:=λρ=>fZ (f ρ) ρ λd=>match gt d ρ with
 | .ok ρ'=> .nx ρ'
 |_=> .bad
theorem bO(i:Nat){x:Str}{pos':Pos}(hN:X.N.Nodup)(he:DE X e f)(hi:X.N[i]?=some x:=by rfl)(hx:Loc X.env.scope x:=by first |exact aeM rfl |exact aeB rfl)(hs:agu e (some (.Name x pos')) pos.line X.env=pure false:=by rfl)
  (hf:X.fn x=true\/X.env.scope.names.lookup x=some .local:=by first |exact .inl rfl |exact .inr rfl):DS X (.Assign [.Name x pos'] e pos) (bB f (aH i)):=by
 refine PS.imp (ps_set hN hi hx he hs hf) λσ H E h=>?_;obtain⟨H0,O0,O,ρ,j,h⟩:=h;refine⟨ρ,O,j.inn,?_⟩;unfold bB fZ at h;cases e1:f ρ with
 |bad=>rw[e1] at h;exact h
 |err c=>rw[e1] at h;exact h σ H O j
 |ok d=>rw[e1] at h;exact λv H' s r=>h _ H' O ((j.grow s).set (z1b hi).1 r) (Same.dR s)
theorem wI(i k:Nat){x y:Str}{py pt:Pos}{kt}(hc:X.calm=true)(hN:X.N.Nodup)(he:DE X e f)(hi:X.N[i]?=some x:=by rfl)(hk:X.N[k]?=some y:=by rfl)
  (hx:Loc X.env.scope x:=by first |exact aeM rfl |exact aeB rfl)(hy:Loc X.env.scope y:=by first |exact aeM rfl |exact aeB rfl)
  (hfx:X.fn x=true\/X.env.scope.names.lookup x=some .local:=by first |exact .inl rfl |exact .inr rfl)(Mf:X.fn y=true\/X.env.scope.names.lookup y=some .local:=by first |exact .inl rfl |exact .inr rfl)
  (hs:afU [.Tuple [.Name x px,.Name y py] kt pt] e pos.line X.env=pure false:=by rfl)(hw:afV [.Tuple [.Name x px,.Name y py] kt pt] e X.env=pure none:=by rfl):
  DS X (.Assign [.Tuple [.Name x px,.Name y py] kt pt] e pos) (bB f (cR (cT 2 (aW (aH i) (aW (aH k) nilG))))):=by
 refine PS.imp (ps_asg he (pg_tup hc (pgs_cons (pg_name hN hi hx hfx) (pgs_cons (pg_name hN hk hy Mf) pgs_nil))) hs hw) λσ H E h=>?_;obtain⟨H0,O0,O,ρ,j,h⟩:=h;refine⟨ρ,O,j.inn,?_⟩;unfold bB fZ at h;cases e1:f ρ with
 |bad=>rw[e1] at h;exact h
 |err c=>rw[e1] at h;exact h σ H O j
 | ok d=>
  rw[e1] at h;intro v H' s r;cases d with
  | tup ds=>
   match ds,h,r with
   |[],h,_=>exact h.elim
   |[_],h,_=>exact h.elim
   |_::_::_::_,h,_=>exact (show False by simpa[cR,cT,oK] using h).elim
   | [d1,d2],h,r=>
    obtain⟨a,xs,rfl,hq,rs⟩:=r.tup;obtain⟨v1,v2,rfl,r1,r2⟩:=rs.two;refine⟨a,[v1,v2],rfl,hq,rfl,v1,[v2],rfl,v2,[],rfl,rfl,?_⟩;exact h _ H' O (((j.grow s).set (z1b hi).1 r1).set (z1b hk).1 r2) (Same.dR s)
  |_=>exact h.elim
def dU(p:aA->R Bool)(g k:aA->So):aA->So:=λρ=>match p (dN ρ) with
 | .ok true=>g ρ
 | .ok false=>k ρ
 | .err c=> .ex c ρ
 | .bad=> .bad
theorem Q7{g:aA->So}{E:Ends}{H1:Hp}(j:At X H0 O0 O H ρ σ)(s:Same H H1)(h:oK X H0 O0 O H E (g ρ)):tS X g E σ H1:=
 ⟨H0,O0,O,ρ,j.grow s,h.go (Same.dR s)⟩
theorem dD{c:aee}{a b:List aeu}(hc:DT X c p)(ha:kI X a g)(hb:kI X b k):DS X (.If c a b pos) (dU p g k):=by
 refine PS.imp (ps_if hc ha hb) λσ H E h=>?_;obtain⟨H0,O0,O,ρ,j,h⟩:=h;refine⟨dN ρ,Q6 H ρ σ O,j.inn.dN,?_⟩;unfold dU at h;cases e1:p (dN ρ) with
 |bad=>rw[e1] at h;exact h
 |err c=>rw[e1] at h;exact h σ H O j
 | ok t=>
  rw[e1] at h;intro b' H' s e;subst e;cases t with
  |true=>rw[if_pos rfl];exact Q7 j s h
  |false=>rw[if_neg aes];exact Q7 j s h
theorem Mg:DS X st (λ_=> .bad):=λpins s σ H E I h=>by
 obtain⟨_,_,_,_,_,h⟩:=h;exact h.elim
def forL(gt:D->aA->R aA)(b:aA->So):List D->aA->So
 |[],ρ=> .nx ρ
 | x ::xs,ρ=>match gt x ρ with
  | .ok ρ1=>match b ρ1 with
   | .nx ρ2=>forL gt b xs ρ2
   | .ct ρ2=>forL gt b xs ρ2
   | .bk ρ2=> .nx ρ2
   |o=>o
  |_=> .bad
def kJ(fi:aA->R (List D))(gt:D->aA->R aA)(b:aA->So):aA->So:=λρ=>match fi ρ with
 | .ok xs=>forL gt b xs ρ
 | .err c=> .ex c ρ
 | .bad=> .bad
inductive abJ (X:Cx) (gt:D->aA->R aA) (v:V) (σ:St) (H:Hp) (Q:St->Hp->Prop):Prop
 |mk (H0:Hp) (O0 O:ad5->Prop) (ρ:aA) (d:D) (ρ':aA) (j:At X H0 O0 O H ρ σ) (r:Rep X.K O H d v) (e:gt d ρ= .ok ρ') (q:∀σ',At X H0 O0 O H ρ' σ'->Q σ' H):abJ X gt v σ H Q
def DGA(X:Cx)(tg:aee)(gt:D->aA->R aA):Prop:=PG X tg λv σ H Q=>abJ X gt v σ H Q
theorem mL(i:Nat){x:Str}(hN:X.N.Nodup)(hi:X.N[i]?=some x:=by rfl)(hx:Loc X.env.scope x:=by first |exact aeM rfl |exact aeB rfl)(hf:X.fn x=true\/X.env.scope.names.lookup x=some .local:=by first |exact .inl rfl |exact .inr rfl):DGA X (.Name x pos) (aH i):=by
 intro pins s σ H v u Q I r h;obtain⟨H0,O0,O,ρ,d,ρ',j,rd,e,q⟩:=h;cases e;exact pg_name hN hi hx hf pins s σ H v u Q I r (q _ (j.set (z1b hi).1 rd))
theorem su(i k:Nat){x y:Str}{py:Pos}{kt}(hc:X.calm=true)(hN:X.N.Nodup)(hi:X.N[i]?=some x:=by rfl)(hk:X.N[k]?=some y:=by rfl)
  (hx:Loc X.env.scope x:=by first |exact aeM rfl |exact aeB rfl)(hy:Loc X.env.scope y:=by first |exact aeM rfl |exact aeB rfl)
  (hfx:X.fn x=true\/X.env.scope.names.lookup x=some .local:=by first |exact .inl rfl |exact .inr rfl)(Mf:X.fn y=true\/X.env.scope.names.lookup y=some .local:=by first |exact .inl rfl |exact .inr rfl):
  DGA X (.Tuple [.Name x px,.Name y py] kt pos) (cR (cT 2 (aW (aH i) (aW (aH k) nilG)))):=by
 intro pins s σ H v u Q I r h;obtain⟨H0,O0,O,ρ,d,ρ',j,rd,e,q⟩:=h;cases d with
 | tup ds=>
  match ds,e,rd with
  |[],e,_=>cases e
  |[_],e,_=>cases e
  |_::_::_::_,e,_=>simp[cR,cT] at e
  | [d1,d2],e,rd=>
   obtain⟨a,xs,rfl,hq,rs⟩:=rd.tup;obtain⟨v1,v2,rfl,r1,r2⟩:=rs.two;cases e;refine pg_tup hc (pgs_cons (pg_name hN hi hx hfx) (pgs_cons (pg_name hN hk hy Mf) pgs_nil)) rfl rfl pins s σ H _ u Q I r ⟨a,[v1,v2],rfl,hq,rfl,v1,[v2],rfl,v2,[],rfl,rfl,?_⟩;exact q _ ((j.set (z1b hi).1 r1).set (z1b hk).1 r2)
 |_=>cases e
theorem jg{tg iter:aee}{body:List aeu}{fi:aA->R (List D)}{gt:D->aA->R aA}{b:aA->So}(hp:PassesOwn (model X.prog X.w) X.A X.env X.xe)(hc:X.calm=true)(hi:DI X tg iter fi)(hg:DGA X tg gt)(hb:kI X body b)
  (hs:∀x,afo iter X.env x=pure x:=by intro _;rfl):DS X (.For tg iter body [] pos) (kJ fi gt b):=by
 refine PS.imp (ps_for hp hc hi hg hb hs) λσ H E h=>?_;obtain⟨H0,O0,O,ρ,j,h⟩:=h;refine⟨ρ,O,j.inn,?_⟩;unfold kJ at h;cases e1:fi ρ with
 |bad=>rw[e1] at h;exact h
 |err c=>rw[e1] at h;exact h σ H O j
 | ok xs =>
  rw[e1] at h;have h:oK X H0 O0 O H E (forL gt b xs ρ):=h;intro J H1 s1 yr;have j1:=j.grow s1;have q1:eG X.K O H O H1:=Same.dR s1;refine⟨λi m σ' H'=>∃O' ρ',At X H0 O0 O' H' ρ' σ'/\eG X.K O H1 O' H'/\i<=xs.length/\m=xs.length - i/\forL gt b (xs.drop i) ρ'=forL gt b xs ρ,⟨_,O,ρ,j1,.refl,afN _,rfl,by simp⟩,?_⟩
  rintro i m σ' H' ⟨O',ρ',j',r',hil,rfl,hf⟩
  have Vi:=yr O' H' r' i;by_cases hlt:i<xs.length
  ·have ed:xs.drop i=xs[i]::xs.drop (i+1):=agt hlt;obtain⟨jgo,jy⟩:=Vi.1 xs[i] (by simp[hlt]);refine .inr ⟨jgo,λσ2 H2=>∃O2 ρ2,At X H0 O0 O2 H2 ρ2 σ2/\eG X.K O H1 O2 H2/\forL gt b (xs.drop (i+1)) ρ2=forL gt b xs ρ,?_,λx H2 y=>?_⟩
   ·rintro σ2 H2 ⟨O2,ρ2,j2,r2,hf2⟩
    exact⟨xs.length - (i+1),by omega,O2,ρ2,j2,r2,by omega,rfl,hf2⟩
   ·obtain⟨sm,rep⟩:=jy x H2 y;rw[ed] at hf;have hf:(match gt xs[i] ρ' with
     | .ok ρ1=>match b ρ1 with
      | .nx ρ2=>forL gt b (xs.drop (i+1)) ρ2
      | .ct ρ2=>forL gt b (xs.drop (i+1)) ρ2
      | .bk ρ2=> .nx ρ2
      |o=>o
     |_=> .bad)=forL gt b xs ρ:=hf
    cases e2:gt xs[i] ρ' with
    |bad=>rw[e2] at hf;rw[<-hf] at h;exact h.elim
    |err c=>rw[e2] at hf;rw[<-hf] at h;exact h.elim
    | ok ρ1=>
     rw[e2] at hf;refine⟨H0,O0,O',ρ',xs[i],ρ1,j'.grow sm,rep,e2,λσ3 j3=>?_⟩;refine⟨H0,O0,O',ρ1,j3,?_⟩;have r3:eG X.K O H1 O' H2:=r'.trans (Same.dR sm);have hf:(match b ρ1 with
      | .nx ρ2=>forL gt b (xs.drop (i+1)) ρ2
      | .ct ρ2=>forL gt b (xs.drop (i+1)) ρ2
      | .bk ρ2=> .nx ρ2
      |o=>o)=forL gt b xs ρ:=hf
     cases e3:b ρ1 with
     |bad=>rw[e3] at hf;rw[<-hf] at h;exact h
     |rt d=>rw[e3] at hf;rw[<-hf] at h;exact h
     |ex c ρ2=>rw[e3] at hf;rw[<-hf] at h;exact h
     |bk ρ2=>rw[e3] at hf;rw[<-hf] at h;exact λσ4 H4 O4 j4 r4=>h σ4 H4 O4 j4 (q1.trans (r3.trans r4))
     |nx ρ2=>rw[e3] at hf;exact λσ4 H4 O4 j4 r4=>⟨O4,ρ2,j4,r3.trans r4,hf⟩
     |ct ρ2=>rw[e3] at hf;exact λσ4 H4 O4 j4 r4=>⟨O4,ρ2,j4,r3.trans r4,hf⟩
  ·have ei:i=xs.length:=by omega
   subst ei;have hf:forL gt b (xs.drop xs.length) ρ'=forL gt b xs ρ:=hf;rw[List.drop_length] at hf;rw[<-hf] at h;exact .inl ⟨Vi.2 (z0g _),h σ' H' O' j' (q1.trans r')⟩
def iR(p:aA->R Bool)(b:aA->So):Nat->aA->So
 |0,_=> .bad
 | n +1,ρ=>match p (dN ρ) with
  | .ok true=>match b ρ with
   | .nx ρ'=>iR p b n ρ'
   | .ct ρ'=>iR p b n ρ'
   | .bk ρ'=> .nx ρ'
   |o=>o
  | .ok false=> .nx ρ
  | .err c=> .ex c ρ
  | .bad=> .bad
theorem Mh(n:Nat){c:aee}{body:List aeu}{b:aA->So}(hp:PassesOwn (model X.prog X.w) X.A X.env X.xe)(hc:DT X c p)(hb:kI X body b):DS X (.While c body [] pos) (iR p b n):=by
 refine PS.imp (ps_while hp hc hb) λσ H E h=>?_;obtain⟨H0,O0,O,ρ,j,h⟩:=h;have h:oK X H0 O0 O H E (iR p b n ρ):=h;refine⟨λm σ' H'=>∃O' ρ',At X H0 O0 O' H' ρ' σ'/\eG X.K O H O' H'/\iR p b m ρ'=iR p b n ρ,⟨n,O,ρ,j,.refl,rfl⟩,?_⟩
 rintro m σ' H' ⟨O',ρ',j',r',hf⟩
 refine⟨dN ρ',Q6 H' ρ' σ' O',j'.inn.dN,?_⟩;cases m with
 |zero=>rw[<-hf] at h;exact h.elim
 | succ m =>
  have hf:(match p (dN ρ') with
   | .ok true=>match b ρ' with
    | .nx ρ'=>iR p b m ρ'
    | .ct ρ'=>iR p b m ρ'
    | .bk ρ'=> .nx ρ'
    |o=>o
   | .ok false=> .nx ρ'
   | .err c=> .ex c ρ'
   | .bad=> .bad)=iR p b n ρ:=hf
  cases e1:p (dN ρ') with
  |bad=>rw[e1] at hf;rw[<-hf] at h;exact h
  |err c=>rw[e1] at hf;rw[<-hf] at h;exact h σ' H' O' j'
  | ok t =>
   rw[e1] at hf;intro t' H1 s1 e;subst e;have j1:=j'.grow s1;have r1:eG X.K O H O' H1:=r'.trans (Same.dR s1);cases t with
   | false=>
    rw[if_neg aes];rw[<-hf] at h;exact h σ' H1 O' j1 r1
   | true=>
    rw[if_pos rfl];refine⟨λσ2 H2=>∃O2 ρ2,At X H0 O0 O2 H2 ρ2 σ2/\eG X.K O H O2 H2/\iR p b m ρ2=iR p b n ρ,?_,H0,O0,O',ρ',j1,?_⟩
    ·rintro σ2 H2 ⟨O2,ρ2,j2,r2,hf2⟩
     exact⟨m,by omega,O2,ρ2,j2,r2,hf2⟩
    ·have hf:(match b ρ' with
      | .nx ρ'=>iR p b m ρ'
      | .ct ρ'=>iR p b m ρ'
      | .bk ρ'=> .nx ρ'
      |o=>o)=iR p b n ρ:=hf
     cases e3:b ρ' with
     |bad=>rw[e3] at hf;rw[<-hf] at h;exact h
     |rt d=>rw[e3] at hf;rw[<-hf] at h;exact h
     |ex c ρ2=>rw[e3] at hf;rw[<-hf] at h;exact h
     |bk ρ2=>rw[e3] at hf;rw[<-hf] at h;exact λσ4 H4 O4 j4 r4=>h σ4 H4 O4 j4 (r1.trans r4)
     |nx ρ2=>rw[e3] at hf;exact λσ4 H4 O4 j4 r4=>⟨O4,ρ2,j4,r1.trans r4,hf⟩
     |ct ρ2=>rw[e3] at hf;exact λσ4 H4 O4 j4 r4=>⟨O4,ρ2,j4,r1.trans r4,hf⟩
end
section
variable{X:Cx}{a b e:aee}{es:List aee}{f g:aA->R D}{fa:aA->R (List D)}{pos:Pos}
def ac7(K:PySem.W.Frag)(t:TA):TE:=λσ H Q=>t σ H λxs H1=>xs.length<=sizeLine/\∀p,H1 p=none->K.lookup p=none->Q (.ref p) (upd H1 p (.lst xs))
theorem Inv.XJ{pins:List (ad5×Obj)}{s:ad8}(I:Inv X pins σ H s):X.K.lookup s.heap.objs.size=none:=by
 cases q:X.K.lookup s.heap.objs.size with
 |none=>rfl
 |some o=>exact absurd (z2c (I.kIn _ _ q)) (afh _)
theorem HY{t:TA}(h:PA X es t):PE X (.List es pos) (ac7 X.K t):=by
 intro pins s σ H Q I hq;refine wpAny_List_spliced (thn (h pos pins s σ H _ I hq) λus s1 ⟨xs,H1,I1,r,z,q⟩=>⟨by rw[<-r.length];exact z,?_⟩);have hf:H1 s1.heap.objs.size=none:=I1.hok.fresh (z0g _);refine⟨.ref s1.heap.objs.size,upd H1 s1.heap.objs.size (.lst xs),I1.laid (t':=s1.toks) (λb u e=>z1a _ e) (z0g _) ?_,rfl,q _ hf (Inv.XJ I1)⟩;exact⟨z,us,0,r,z1f _ rfl⟩
def newL(fa:aA->R (List D))(i:Nat):aA->So:=λρ=>match fa ρ with
 | .ok ds=>if ds.length<=1000000 then .nx (ρ.set i (some (.lst ds))) else .bad
 | .err c=> .ex c ρ
 | .bad=> .bad
theorem At.own(j:At X H0 O0 O H ρ σ)(hi:i<X.N.length){o:HO}{en:Ent}(hp:H p=none)(hk:X.K.lookup p=none)(ho:en.own=true)
  (hr:oW X.K (λa=>O a\/a=p) (upd H p o) en (.ref p))(hnr:∀rows,en≠.rws rows:=by intro _ z;cases z):
  At X H0 O0 (λa=>O a\/a=p) (upd H p o) (ρ.set i (some en)) (σ.set i (some (.ref p)))/\eG X.K O H (λa=>O a\/a=p) (upd H p o):=by
 have s1:Same H (upd H p o):=Same.upd hp;have r1:eG X.K O H (λa=>O a\/a=p) (upd H p o):=⟨(Same.dR (K:=X.K) (O:=O) s1).ext,λa z=>z.elim .inl λe=> .inr (by rw[e];exact⟨hp,hk⟩),(Same.dR (K:=X.K) (O:=O) s1).dom⟩;have h1:i<ρ.length:=by rw[j.inn.jr];exact hi
 have h2:i<σ.length:=by rw[j.inn.len];exact hi
 have Vj:¬O p:=j.inn.mJ hp;have old:∀{e:Ent} {v:V},oW X.K O H e v->oW X.K (λa=>O a\/a=p) (upd H p o) e v/\(e.own=true->v≠.ref p):=λ{e v} h=>by
  cases e with
  |val d=>exact⟨Rep.go r1 h,λz=>by cases z⟩
  | lst ds=>
   obtain⟨a,xs,e1,o1,e2,r⟩:=h;exact⟨⟨a,xs,e1,.inl o1,s1 _ _ e2,r.go r1⟩,λ_ z=>by rw[e1] at z;cases z;exact Vj o1⟩
  |obj t=>exact⟨lR.same s1 h,λz=>by cases z⟩
  | rG kvs=>
   obtain⟨a,xs,e1,o1,e2,k,r⟩:=h;exact⟨⟨a,xs,e1,.inl o1,s1 _ _ e2,k,r.go r1⟩,λ_ z=>by rw[e1] at z;cases z;exact Vj o1⟩
  | rws rows=>
   obtain⟨a,rs,e1,R⟩:=h;exact⟨⟨a,rs,e1,s1 _ _ R.at_,.inl R.oa,R.nd,R.len,λi r row q1 q2=>let⟨o1,xs,q3,q4⟩:=R.row i r row q1 q2;⟨.inl o1,xs,s1 _ _ q3,q4.go r1⟩⟩,λ_ z=>by rw[e1] at z;cases z;exact Vj R.oa⟩
 have bk:∀{k:Nat} {rows:List (List D)} {a:ad5} {rs:List ad5},ρ[k]?=some (some (.rws rows))->σ[k]?=some (some (.ref a))->upd H p o a=some (.lst (rs.map V.ref))->H a=some (.lst (rs.map V.ref))/\∀r∈rs,O r:=λ{k rows a rs} q1 q2 q3=>by
  have q4:=j.inn.env.back s1 q1 q2 q3;refine⟨q4,λr hr=>?_⟩;obtain⟨rs',R⟩:=j.inn.env.rws q1 q2;have e:=R.at_;rw[q4] at e;rw[jO (HO.lst.inj (aeg e))] at hr;obtain⟨n,hn⟩:=List.mem_iff_getElem?.mp hr;have hl:=R.len;have hn':=(z1b hn).1;exact (R.row n r _ hn (aem (by omega))).1
 refine⟨⟨j.same.trans s1,j.dR.trans r1,λa z=> .inl (j.sub a z),⟨⟨λk e h=>?_,λk l e e' v hkl hk' hl ok ol sk sl=>?_,λk l rows a rs e v hkl hk' sk ha hl ol sl=>?_⟩,λa z=>?_,by rw[aeL];exact j.inn.len,by rw[aeL];exact j.inn.jr⟩,λk e a h hoo hs=>?_,λk rows a rs h hs ha=>?_⟩,r1⟩
 ·by_cases hki:k=i
  ·subst hki;rw[z2a h1] at h;cases h;exact⟨.ref p,z2a h2,hr⟩
  ·rw[z1e (aeh hki)] at h;obtain⟨v,q1,q2⟩:=j.inn.env.get k e h;exact⟨v,by rw[z1e (aeh hki)];exact q1,(old q2).1⟩
 ·by_cases hki:k=i
  ·subst hki;rw[z2a h2] at sk;cases sk;rw[z1e hkl] at hl sl;obtain⟨v,q1,q2⟩:=j.inn.env.get l e' hl;rw[q1] at sl;cases sl;exact (old q2).2 ol rfl
  ·rw[z1e (aeh hki)] at hk' sk;by_cases hli:l=i
   ·subst hli;rw[z2a h2] at sl;cases sl;obtain⟨v,q1,q2⟩:=j.inn.env.get k e hk';rw[q1] at sk;cases sk;exact (old q2).2 ok rfl
   ·rw[z1e (aeh hli)] at hl sl;exact j.inn.env.sep k l e e' v hkl hk' hl ok ol sk sl
 ·by_cases hki:k=i
  ·subst hki;rw[z2a h1] at hk';cases hk';exact absurd rfl (hnr rows)
  ·rw[z1e (aeh hki)] at hk' sk;obtain⟨ha',hO'⟩:=bk hk' sk ha;by_cases hli:l=i
   ·subst hli;rw[z2a h2] at sl;rw[z2a h1] at hl;cases sl;cases hl;exact⟨λr hr z=>by cases z;exact Vj (hO' _ hr),hnr⟩
   ·rw[z1e (aeh hli)] at hl sl;exact j.inn.env.lU k l rows a rs e v hkl hk' sk ha' hl ol sl
 ·rcases z with z |z
  ·obtain⟨u,q⟩:=j.inn.al a z;exact⟨u,s1 _ _ q⟩
  ·rw[z];exact⟨o,upd_same⟩
 ·by_cases hki:k=i
  ·subst hki;rw[z2a h2] at hs;cases hs;exact⟨j.same.free hp,λz=>Vj (j.sub _ z)⟩
  ·rw[z1e (aeh hki)] at h hs;exact j.mine k e a h hoo hs
 ·by_cases hki:k=i
  ·subst hki;rw[z2a h1] at h;cases h;exact absurd rfl (hnr rows)
  ·rw[z1e (aeh hki)] at h hs;exact j.pW k rows a rs h hs (bk h hs ha).1
theorem o7(i:Nat){x:Str}{pos' p2:Pos}(hN:X.N.Nodup)(ha:DA X es fa)(hi:X.N[i]?=some x:=by rfl)(hx:Loc X.env.scope x:=by first |exact aeM rfl |exact aeB rfl)(hs:agu (.List es p2) (some (.Name x pos')) pos.line X.env=pure false:=by rfl)
  (hf:X.fn x=true\/X.env.scope.names.lookup x=some .local:=by first |exact .inl rfl |exact .inr rfl):DS X (.Assign [.Name x pos'] (.List es p2) pos) (newL fa i):=by
 refine PS.imp (ps_set hN hi hx (HY ha) hs hf) λσ H E h=>?_;obtain⟨H0,O0,O,ρ,j,h⟩:=h;refine⟨ρ,O,j.inn,?_⟩;unfold newL at h;cases e1:fa ρ with
 |bad=>rw[e1] at h;exact h
 |err c=>rw[e1] at h;exact h σ H O j
 | ok ds=>
  rw[e1] at h;intro vs H1 s1 r1;by_cases hl:ds.length<=1000000
  ·simp only[if_pos hl] at h;refine⟨by rw[<-r1.length];exact z0b hl dJ,λp hp hk=>?_⟩;obtain⟨j2,r2⟩:=(j.grow s1).own (z1b hi).1 (o:= .lst vs) (en:= .lst ds) hp hk rfl ⟨p,vs,rfl,.inr rfl,upd_same,r1.go ⟨(Same.dR (K:=X.K) (O:=O) (Same.upd hp)).ext,λa z=>z.elim .inl λe=> .inr (by rw[e];exact⟨hp,hk⟩),(Same.dR (K:=X.K) (O:=O) (Same.upd hp)).dom⟩⟩;exact h _ _ _ j2 ((Same.dR s1).trans r2)
  ·simp only[if_neg hl] at h;exact h.elim
theorem At.chg(j:At X H0 O0 O H ρ σ){e0 en:Ent}{u o:HO}(hi:ρ[i]?=some (some e0))(h0:e0.own=true)(hp:σ[i]?=some (some (.ref p)))(hO:O p)(hu:H p=some u)(hm:Mut (some u))(ho:en.own=true)
  (hr:eG X.K O H O (upd H p o)->oW X.K O (upd H p o) en (.ref p))(hnr:∀rows,en≠.rws rows:=by intro _ z;cases z):At X H0 O0 O (upd H p o) (ρ.set i (some en)) σ/\eG X.K O H O (upd H p o):=by
 have nt:∀b xs,Rd H b (.tup xs)->b≠p:=λb xs h z=>by
  subst z;rcases h with h |⟨_,h⟩ <;> rw[hu] at h <;> cases h <;> exact hm
 have r1:eG X.K O H O (upd H p o):=by
  refine⟨⟨λb xs h=>?_,λb xs n h=>?_⟩,λa z=> .inl z,λa z=>?_⟩
  ·have nb:=nt b xs h;rcases h with h |⟨q,h⟩
   ·exact .inl (by rw[upd_ne nb];exact h)
   ·exact .inr ⟨q,by rw[upd_ne nb];exact h⟩
  ·have nb:b≠p:=λz=>n (by rw[z];exact hO);rcases h with h |⟨q,h⟩
   ·exact .inl (by rw[upd_ne nb];exact h)
   ·exact .inr ⟨q,by rw[upd_ne nb];exact h⟩
  ·by_cases ea:a=p
   ·rw[ea,upd_same] at z;cases z
   ·rw[upd_ne ea] at z;exact z
 have h1:i<ρ.length:=(z1b hi).1;obtain⟨Vk,ZG⟩:=j.mine i e0 p hi h0 hp;have bk:∀{k:Nat} {rows:List (List D)} {a:ad5} {rs:List ad5},k≠i->ρ[k]?=some (some (.rws rows))->σ[k]?=some (some (.ref a))->upd H p o a=some (.lst (rs.map V.ref))->H a=some (.lst (rs.map V.ref)):=λ{k rows a rs} hki q1 q2 q3=>by
  have na:a≠p:=λz=>j.inn.env.sep k i _ e0 _ hki q1 hi rfl h0 q2 (by rw[z];exact hp);rw[upd_ne na] at q3;exact q3
 refine⟨⟨λb q z=>?_,j.dR.trans r1,j.sub,⟨⟨λk e h=>?_,λk l e e' v hkl hk' hl ok ol sk sl=>?_,λk l rows a rs e v hkl hk' sk ha hl ol sl=>?_⟩,λa z=>?_,j.inn.len,by rw[aeL];exact j.inn.jr⟩,λk e a h hoo hs=>?_,λk rows a rs h hs ha=>?_⟩,r1⟩
 ·rw[upd_ne (ne_of_none z Vk)];exact j.same _ _ z
 ·by_cases hki:k=i
  ·subst hki;rw[z2a h1] at h;cases h;exact⟨_,hp,hr r1⟩
  ·rw[z1e (aeh hki)] at h;obtain⟨v,q1,q2⟩:=j.inn.env.get k e h;refine⟨v,q1,?_⟩;have nv:e.own=true->v≠.ref p:=λz w=>by
    subst w;exact j.inn.env.sep k i e e0 _ hki h hi z h0 q1 hp
   cases e with
   |val d=>exact Rep.go r1 q2
   | obj t=>exact lR.fz (λb o' u hb=>by
     have nb:b≠p:=λz=>by rw[z,hu] at hb;cases hb;exact hm
     rw[upd_ne nb];exact hb) q2
   | lst ds=>
    obtain⟨a,xs,e1,o1,e2,r⟩:=q2;have na:a≠p:=λz=>nv rfl (by rw[e1,z]);exact⟨a,xs,e1,o1,by rw[upd_ne na];exact e2,r.go r1⟩
   | rG kvs=>
    obtain⟨a,xs,e1,o1,e2,kk,r⟩:=q2;have na:a≠p:=λz=>nv rfl (by rw[e1,z]);exact⟨a,xs,e1,o1,by rw[upd_ne na];exact e2,kk,r.go r1⟩
   | rws rows=>
    obtain⟨a,rs,e1,R⟩:=q2;have na:a≠p:=λz=>nv rfl (by rw[e1,z]);have Vl:σ[k]?=some (some (.ref a)):=by rw[<-e1];exact q1
    refine⟨a,rs,e1,by rw[upd_ne na];exact R.at_,R.oa,R.nd,R.len,λn r row z1 z2=>?_⟩;obtain⟨o1,xs,z3,z4⟩:=R.row n r row z1 z2;have nr:r≠p:=λz=>(j.inn.env.lU k i rows a rs e0 (.ref p) hki h Vl R.at_ hi h0 hp).1 r (aeE z1) (by rw[z]);exact⟨o1,xs,by rw[upd_ne nr];exact z3,z4.go r1⟩
 ·have un:∀{m:Nat} {x:Ent},(ρ.set i (some en))[m]?=some (some x)->x.own=true->∃y,ρ[m]?=some (some y)/\y.own=true:=λ{m x} h ho'=>by
   by_cases hmi:m=i
   ·rw[hmi];exact⟨e0,hi,h0⟩
   ·rw[z1e (aeh hmi)] at h;exact⟨x,h,ho'⟩
  obtain⟨y,hy,oy⟩:=un hk' ok;obtain⟨y',hy',oy'⟩:=un hl ol;exact j.inn.env.sep k l y y' v hkl hy hy' oy oy' sk sl
 ·by_cases hki:k=i
  ·subst hki;rw[z2a h1] at hk';cases hk';exact absurd rfl (hnr rows)
  ·rw[z1e (aeh hki)] at hk';have ha':=bk hki hk' sk ha;by_cases hli:l=i
   ·subst hli;rw[hp] at sl;rw[z2a h1] at hl;cases sl;cases hl;exact⟨(j.inn.env.lU k l rows a rs e0 _ hkl hk' sk ha' hi h0 hp).1,hnr⟩
   ·rw[z1e (aeh hli)] at hl;exact j.inn.env.lU k l rows a rs e v hkl hk' sk ha' hl ol sl
 ·by_cases ea:a=p
  ·rw[ea];exact⟨o,upd_same⟩
  ·obtain⟨w,q⟩:=j.inn.al a z;exact⟨w,by rw[upd_ne ea];exact q⟩
 ·by_cases hki:k=i
  ·subst hki;rw[hp] at hs;cases hs;exact⟨Vk,ZG⟩
  ·rw[z1e (aeh hki)] at h;exact j.mine k e a h hoo hs
 ·by_cases hki:k=i
  ·subst hki;rw[z2a h1] at h;cases h;exact absurd rfl (hnr rows)
  ·rw[z1e (aeh hki)] at h;exact j.pW k rows a rs h hs (bk hki h hs ha)
def mO(i:Nat)(f:aA->R D):aA->So:=λρ=>fZ (zL (f ρ)) ρ λd=>match ρ[i]? with
 |some (some (.lst ds))=>if ds.length<1000000 then .nx (ρ.set i (some (.lst (ds++[d])))) else .bad
 |_=> .bad
theorem qj(i:Nat){x:Str}{apos cpos:Pos}(he:DE X e f)(hN:X.N[i]?=some x:=by rfl)(hv:Vis X.env.scope x:=by first |exact aeM rfl |exact aeB (aeM rfl) |exact aeB (aeB rfl))
  (hd:(x ==("__debug__" :Str))=false:=by decide)(hcd:(x ==("__classdict__" :Str))=false:=by decide)
  (hbase:aht (.Name x px) "append" X.env (eval (.Name x px) X.env)=eval (.Name x px) X.env:=by rfl)
  (hfew:((aeR cpos (aea [e] X.env)).all (λx=> !x.1) && (agW cpos (agk [] X.env)).all (λx=>x.1.isSome)
   && decide ([e].length+([]:List agc).length+(if ([]:List agc).isEmpty then 0 else 1)<30))=true:=by rfl)
  (hline:(apos.endLine ==cpos.line)=true:=by rfl) (hs1:aea [e] X.env=(false,eval e X.env)::aea [] X.env:=by rfl) (hplain:(aeR cpos (aea [] X.env)).any (·.1)=false:=by rfl)
  (hs:agu (.Call (.Attribute (.Name x px) "append" apos) [e] [] cpos) none pos.line X.env=pure false:=by rfl):
  DS X (.Expr (.Call (.Attribute (.Name x px) "append" apos) [e] [] cpos) pos) (mO i f):=by
 refine PS.imp (ps_expr (pe_bm PySem.F.plainAttrs_list PySem.F.slot_list_append PySem.F.type_list_append mt_append (pe_var hN hv hd hcd) (pa_cons he pa_nil hs1) hbase hfew hline hs1 hplain) hs) λσ H E h=>?_;obtain⟨H0,O0,O,ρ,j,h⟩:=h;unfold mO fZ at h;cases e1:f ρ with
 |bad=>rw[e1] at h;exact h.elim
 |err c=>rw[e1] at h;exact h.elim
 | ok d =>
  rw[e1] at h;cases e2:ρ[i]? with
  |none=>simp only[e2] at h;exact h.elim
  | some oe=>
   cases oe with
   |none=>simp only[e2] at h;exact h.elim
   | some en=>
    cases en with
    |val _=>simp only[e2] at h;exact h.elim
    |rG _=>simp only[e2] at h;exact h.elim
    |rws _=>simp only[e2] at h;exact h.elim
    |obj _=>simp only[e2] at h;exact h.elim
    | lst ds=>
     simp only[e2] at h;by_cases hl:ds.length<1000000
     ·simp only[if_pos hl] at h;obtain⟨v,hv1,a,xs,rfl,hO,hH,rs⟩:=j.inn.env.get i _ e2;refine⟨.ref a,hv1,.inl ⟨rfl,xs,SqL.of hH⟩,?_⟩;refine⟨ρ,O,j.inn,?_⟩;rw[e1];intro w H1 s1 rw1;have j1:=j.grow s1;obtain⟨_,hv2,a2,xs2,e3,hO2,hH2,yX⟩:=j1.inn.env.get i _ e2;rw[hv1] at hv2;cases hv2;cases e3;have hlen:=yX.length;refine⟨a,xs2,w,rfl,rfl,hH2,by have:=eU;omega,?_⟩;obtain⟨j2,r2⟩:=j1.chg (o:= .lst (xs2++[w])) (en:= .lst (ds++[d])) e2 rfl hv1 hO2 hH2 trivial rfl λr=>⟨a,xs2++[w],rfl,hO2,upd_same,(yX.append (.cons rw1 .nil)).go r⟩;exact h _ _ _ j2 ((Same.dR s1).trans r2)
     ·simp only[if_neg hl] at h;exact h.elim
end
inductive SpD (K:PySem.W.Frag) (n:Nat) (F:List D->R D) (vs:List V) (H:Hp) (Q:VK):Prop
 | mk (O:ad5->Prop) (ds:List D) (r:aP K O H ds vs) (hl:ds.length=n) (al:∀a,O a->∃o,H a=some o) (h:match F ds with
  | .ok d=>∀v H',Same H H'->Rep K O H' d v->Q v H'
  |_=>False):SpD K n F vs H Q
def Mi(K:PySem.W.Frag)(n:Nat)(F:List D->R D):Sp:=λvs H Q _=>SpD K n F vs H Q
def cu(n:Nat)(g:aA->So)(ds:List D):R D:=match g (ds.map (λd=>some (.val d))++aeb n none) with
 | .rt d=> .ok d
 | .nx _=> .ok .non
 | .ex c _=> .err c
 |_=> .bad
section
variable{P:aek}{w:aep}{K:PySem.W.Frag}{mg:Str->Option ad7}{base:aeo}
theorem jQ{K:PySem.W.Frag}{vs:List V}(r:aP K O H ds vs)(m:Nat)(i:Nat)(e:Ent)(h:(ds.map (λd=>some (Ent.val d))++aeb m none)[i]?=some (some e)):∃v,(vs.map some++aeb m none)[i]?=some (some v)/\oW K O H e v/\e.own=false:=by
 by_cases hi:i<ds.length
 ·rw[aeS (by simpa using hi),z2b] at h;cases q:ds[i]? with
  |none=>rw[q] at h;cases h
  | some d=>
   rw[q] at h;cases h;obtain⟨v,e1,rv⟩:=r.get q;exact⟨v,by rw[aeS (by rw[z1g,<-r.length];exact hi),z2b,e1];rfl,rv,rfl⟩
 ·rw[aeO (by simpa using hi),ae9] at h;split at h <;> cases h
theorem fnD{x qual:Str}{st:aeu}{f:ad5}{fd:aeU}{ps:List Str}{k m:Nat}{g:aA->So}{F:List D->R D}(Fn:Fun K x qual st f fd)(S:FnScope N ps (defScope st))(hn:ps.length=n)(hm:N.length=n+m)
  (hb:∀(cdv:ad7) (A:aer) (outer:List PySem.Env) (s:ad8) (H:Hp) (E:XK),Room k (A.deeper (afP qual (defScope st) s.heap.objs.size f cdv))->kI (cxOf CX0 P w K mg base N qual (defScope st) f cdv A outer s H E).nox (defBody st) g)
  (hF:∀ds d,ds.length=n->F ds= .ok d->cu m g ds= .ok d):FnOk P w K mg base CX0 (k+1) f fd ps (Mi K n F):=by
 refine Fn.ok S (λvs H Q E h=>?_) (λcdv A outer s H vs Q E hr h=>?_)
 ·obtain⟨O,ds,r,hl,_⟩:=h;rw[hn,<-hl,r.length]
 ·obtain⟨O,ds,r,hl,al,h⟩:=h;refine⟨_,hb cdv A outer s H E hr,H,O,O,ds.map (λd=>some (.val d))++aeb m none,?_,?_⟩
  ·have hst:L2.start N vs=vs.map some++aeb m none:=by
    unfold L2.start;rw[show N.length - vs.length=m by rw[<-r.length];omega]
   refine⟨Same.refl _,.refl,λ_ z=>z,⟨⟨λi e q=>?_,λi k e e' v _ hi _ oi=>?_,λi k rows a rs e v _ hi=>by obtain⟨_,_,_,h3⟩:=jQ r m i _ hi;cases h3⟩,al,?_,?_⟩,λi e a q ho=>?_,λi rows a rs q=>by obtain⟨_,_,_,h3⟩:=jQ r m i _ q;cases h3⟩
   ·obtain⟨v,h1,h2,_⟩:=jQ r m i e q;exact⟨v,by rw[hst];exact h1,h2⟩
   ·obtain⟨_,_,_,h3⟩:=jQ r m i e hi;rw[h3] at oi;cases oi
   ·show (L2.start N vs).length=N.length;rw[hst,z1d,z1g,aeG,<-r.length];omega
   ·show (ds.map (λd=>some (Ent.val d))++aeb m none).length=N.length;rw[z1d,z1g,aeG];omega
   ·obtain⟨_,_,_,h3⟩:=jQ r m i e q;rw[h3] at ho;cases ho
  ·cases e:F ds with
   |bad=>rw[e] at h;exact h.elim
   |err c=>rw[e] at h;exact h.elim
   | ok d=>
    rw[e] at h;have q:=hF ds d hl e;unfold cu at q;cases e2:g (ds.map (λd=>some (.val d))++aeb m none) with
    | rt d'=>
     rw[e2] at q;cases q;exact λv H' s' r'=>h v H' s' r'
    | nx ρ'=>
     rw[e2] at q;cases q;exact λσ' H' O' j' _=>h .non H' j'.same mW
    |bk _=>rw[e2] at q;cases q
    |ct _=>rw[e2] at q;cases q
    |ex _ _=>rw[e2] at q;cases q
    |bad=>rw[e2] at q;cases q
end
section
variable{X:Cx}{k n:Nat}{f:ad5}{fd:aeU}{ps:List Str}{F:List D->R D}{x:Str}{p pos:Pos}{e:aee}{es:List aee}{fa:aA->R (List D)}
def aV(F:List D->R D)(n:Nat)(ds:List D):R D:=if ds.length=n then zL (F ds) else .bad
theorem aav(G:FnOk X.prog X.w X.K X.mg X.base CX0 k f fd ps (Mi X.K n F))(hr:Room k X.A)(hg:Gl X x)(hm:X.mg x=some (.ref f))(hk:PySem.W.keepIn X.K (.ref f)=true)(hb:Binds X.K fd ps [])
  (ha:DA X (e::es) fa)(hdb:(x ==("__debug__" :Str))=false:=by decide)(he:aea (e::es) X.env=(false,eval e X.env)::aea es X.env:=by rfl)(hpl:(aeR pos (aea es X.env)).any (·.1)=false:=by rfl):
  DE X (.Call (.Name x p) (e::es) [] pos) (aD (aV F n) fa):=by
 refine PE.imp (pe_call (dvs:=[]) G hr hg hm hk hb .nil pass0 ha hdb he hpl) λσ H Q h=>?_;obtain⟨ρ,O,j,h⟩:=h;refine go j h λds vs H1 e1 s1 r1 j1 h1=>?_;unfold aV at h1;by_cases hl:ds.length=n
 ·rw[if_pos hl] at h1;rw[aeK];refine⟨O,ds,r1,hl,j1.al,?_⟩;cases q:F ds with
  |ok d=>rw[q] at h1;exact h1
  |err c=>rw[q] at h1;exact h1
  |bad=>rw[q] at h1;exact h1
 ·rw[if_neg hl] at h1;exact h1.elim
end
section
variable{X:Cx}
def cC:List D->R D
 |[.tup ds]=> .ok (.int ds.length)
 |[.lst ds]=> .ok (.int ds.length)
 |_=> .bad
theorem cD:CallD X (.builtin "len") cC:=by
 refine⟨_,call_len_seq,λρ O σ H Q xs ds j r h=>?_⟩;unfold cC at h;split at h
 ·obtain⟨x,rfl,rx⟩:=r.one;obtain⟨a,ys,rfl,hq,rs⟩:=rx.tup;exact⟨a,ys,rfl,.inr hq,by rw[<-rs.length];exact fin h (cB _)⟩
 ·obtain⟨x,rfl,rx⟩:=r.one;obtain⟨a,ys,rfl,hq,_,rs⟩:=rx.lst;exact⟨a,ys,rfl,.inl hq,by rw[<-rs.length];exact fin h (cB _)⟩
 ·exact h.elim
def gj:List D->R D
 |[.tup ds]=> .ok (.tup ds)
 |[.lst ds]=> .ok (.tup ds)
 |_=> .bad
theorem cY:CallD X (.type "tuple") gj:=by
 refine⟨_,call_tuple_of,λρ O σ H Q xs ds j r h=>?_⟩;unfold gj at h;split at h
 ·obtain⟨x,rfl,rx⟩:=r.one;obtain⟨a,ys,rfl,hq,rs⟩:=rx.tup;exact⟨a,ys,rfl,.inr ⟨hq,fin h (iJ hq rs)⟩⟩
 ·obtain⟨x,rfl,rx⟩:=r.one;obtain⟨a,ys,rfl,hq,_,rs⟩:=rx.lst;exact⟨a,ys,rfl,.inl ⟨hq,λl hl=>h _ _ (Same.upd hl) (Rep.mX hl rs)⟩⟩
 ·exact h.elim
def Tt:List D->R D
 |[.tup ds]=> .ok (.lst ds)
 |[.lst ds]=> .ok (.lst ds)
 |_=> .bad
theorem Q8:CallD X (.type "list") Tt:=by
 refine⟨_,call_list_of,λρ O σ H Q xs ds j r h=>?_⟩;unfold Tt at h;split at h
 ·obtain⟨x,rfl,rx⟩:=r.one;obtain⟨a,ys,rfl,hq,rs⟩:=rx.tup;exact⟨a,ys,rfl,.inr hq,λl hl=>h _ _ (Same.upd hl) (Rep.je hl (j.mJ hl) rs)⟩
 ·obtain⟨x,rfl,rx⟩:=r.one;obtain⟨a,ys,rfl,hq,_,rs⟩:=rx.lst;exact⟨a,ys,rfl,.inl hq,λl hl=>h _ _ (Same.upd hl) (Rep.je hl (j.mJ hl) rs)⟩
 ·exact h.elim
def boolsOf:List D->Option (List Bool)
 |[]=>some []
 | .bl b::r=>(boolsOf r).map (b:: ·)
 |_=>none
def intsOf:List D->Option (List Int)
 |[]=>some []
 | .int i::r=>(intsOf r).map (i:: ·)
 |_=>none
theorem Q9{K:PySem.W.Frag}{O:ad5->Prop}{H:Hp}:∀{ds:List D} {bs:List Bool} {vs:List V},boolsOf ds=some bs->aP K O H ds vs->vs=bs.map V.bl
 |[],bs,vs,e,r=>by cases e;exact r.nil_inv
 | d ::ds,bs,vs,e,r=>by
  cases d with
  | bl b=>
   have e:(boolsOf ds).map (b:: ·)=some bs:=e;cases q:boolsOf ds with
   |none=>rw[q] at e;cases e
   | some l=>
    rw[q] at e;cases e;obtain⟨x,t,rfl,rx,rt⟩:=r.cons_inv;rw[rx.bl,Q9 q rt];rfl
  |_=>cases e
theorem Mj{K:PySem.W.Frag}{O:ad5->Prop}{H:Hp}:∀{ds:List D} {bs:List Int} {vs:List V},intsOf ds=some bs->aP K O H ds vs->vs=bs.map V.int
 |[],bs,vs,e,r=>by cases e;exact r.nil_inv
 | d ::ds,bs,vs,e,r=>by
  cases d with
  | int b=>
   have e:(intsOf ds).map (b:: ·)=some bs:=e;cases q:intsOf ds with
   |none=>rw[q] at e;cases e
   | some l=>
    rw[q] at e;cases e;obtain⟨x,t,rfl,rx,rt⟩:=r.cons_inv;rw[rx.int,Mj q rt];rfl
  |_=>cases e
theorem Ml:∀{bs:List Bool} {us:List ad7},Vals (bs.map V.bl) us->LSm.BoolsAre us bs
 |[],_,.nil=> .nil
 |b::bs,_,.cons r t=>by cases r;exact .cons b (Ml t)
theorem Vm(hc:X.calm=true):CallR X (.builtin "all") (λxs H Q=>∃p,∃bs:List Bool,xs=[.ref p]/\SqL X.K H p (bs.map V.bl)/\Q (.bl (bs.all id)) H):=by
 intro pins s σ H xs us Q I r h;obtain⟨p,bs,rfl,hq,q⟩:=h;obtain⟨u,rfl,rx⟩:=vals1 r;cases rx;obtain⟨its,r',pl,hz⟩:=I.list hq;have hb:=Ml r';have hl:=pl.isList;have hlt:p<s.heap.objs.size:=by obtain⟨_,e,_⟩:=hl;exact z2c e
 refine call_all_walk (aix hl ?_);refine⟨s.heap.objs.size,[s.heap.objs.size,p],[s.heap.objs.size],its.toArray.size,_,_,λi=>(bs[i]?).getD true,rfl,Walks.list (A:=X.A.in1) (I.ok.hd hc) _ p (aeW hlt) its.toArray,
  ⟨⟨_,z1f _ rfl,rfl,rfl⟩,hl.push _⟩,λi v s' Q' E' hP hQ=>?_,λh' tk hk=>?_⟩
 ·obtain⟨b,e,rfl⟩:=hb.get i v (by simpa using hP);simp only[e,aiN] at hQ;exact afu hQ
 ·have e:((ad6 its.toArray.size).all λi=>(bs[i]?).getD true)=bs.all id:=by
   rw[z1c,hb.length];exact LSm.range_all bs
  rw[e];exact⟨.bl _,H,I.kept (LSm.kept_iter hk),rfl,q⟩
def nG:List D->R D
 | [.lst ds]=>match boolsOf ds with
  |some bs=> .ok (.bl (bs.all id))
  |none=> .bad
 |_=> .bad
theorem qm(hc:X.calm=true):CallD X (.builtin "all") nG:=by
 refine⟨_,Vm hc,λρ O σ H Q xs ds j r h=>?_⟩;unfold nG at h;split at h
 ·rename_i ds;obtain⟨x,rfl,rx⟩:=r.one;obtain⟨a,ys,rfl,hq,_,rs⟩:=rx.lst;cases e:boolsOf ds with
  |none=>rw[e] at h;exact h.elim
  | some bs=>
   rw[e] at h;have ey:=Q9 e rs;subst ey;exact⟨a,bs,rfl,hq,fin h (fL _)⟩
 ·exact h.elim
theorem Vn(hc:X.calm=true):CallR X (.builtin "sum") (λxs H Q=>∃p,∃ns:List Int,xs=[.ref p]/\(SqL X.K H p (ns.map V.int)\/SqT X.K H p (ns.map V.int))/\Q (.int ns.sum) H):=by
 intro pins s σ H xs us Q I r h;obtain⟨p,ns,rfl,hq,q⟩:=h;obtain⟨u,rfl,rx⟩:=vals1 r;cases rx;have key:∀(its:List ad7),Vals (ns.map V.int) its->∃zs:Array (Int×Tok),its.toArray=intItems zs/\preSum (numAt zs) zs.size=ns.sum:=λits r'=>by
  have hi:=intsAre_of r';obtain⟨zs,hx⟩:=hi.allInts.items;refine⟨zs,hx,?_⟩;have e1:ns=zs.toList.map (·.1):=by
   rw[<-nums_intItems,<-hx];exact (show numsOf its.toArray.toList=ns from hi.numsOf).symm
  rw[preSum_eq,ahr (by simp),e1]
 rcases hq with hq |hq
 ·obtain⟨its,r',pl,hz⟩:=I.list hq;obtain⟨zs,e1,e2⟩:=key its r';refine sum_intListG (I.ok.hd hc) (e1▸pl.isList) λh' tk t' hk=>?_;rw[e2];exact⟨.int _,H,I.kept hk,⟨t',rfl⟩,q⟩
 ·obtain⟨its,r',pl,hz⟩:=I.tuple hq;obtain⟨zs,e1,e2⟩:=key its r';refine PySem.W.ktm_sumG (I.ok.hd hc) (show s.heap.IsTuple p (intItems zs) from e1▸pl) λh' tk t' hk=>?_;rw[e2];exact⟨.int _,H,I.kept hk,⟨t',rfl⟩,q⟩
def Mp:List D->R D
 | [.lst ds]=>match intsOf ds with
  |some bs=> .ok (.int bs.sum)
  |none=> .bad
 | [.tup ds]=>match intsOf ds with
  |some bs=> .ok (.int bs.sum)
  |none=> .bad
 |_=> .bad
theorem abK(hc:X.calm=true):CallD X (.builtin "sum") Mp:=by
 refine⟨_,Vn hc,λρ O σ H Q xs ds j r h=>?_⟩;unfold Mp at h;split at h
 ·rename_i ds;obtain⟨x,rfl,rx⟩:=r.one;obtain⟨a,ys,rfl,hq,_,rs⟩:=rx.lst;cases e:intsOf ds with
  |none=>rw[e] at h;exact h.elim
  | some bs=>
   rw[e] at h;have ey:=Mj e rs;subst ey;exact⟨a,bs,rfl,.inl hq,fin h (cB _)⟩
 ·rename_i ds;obtain⟨x,rfl,rx⟩:=r.one;obtain⟨a,ys,rfl,hq,rs⟩:=rx.tup;cases e:intsOf ds with
  |none=>rw[e] at h;exact h.elim
  | some bs=>
   rw[e] at h;have ey:=Mj e rs;subst ey;exact⟨a,bs,rfl,.inr hq,fin h (cB _)⟩
 ·exact h.elim
def jh:D->String
 | .non=> "NoneType"
 | .bl _=> "bool"
 | .int _=> "int"
 | .str _=> "str"
 | .tup _=> "tuple"
 | .lst _=> "list"
theorem Vo(T:String)(ans:String->Bool)(hk:∀d:D,PySem.W.kitOne X.K (.type (jh d)) (.type T)=some (ans (jh d))):
  CallR X (.builtin "isinstance") (λxs H Q=>∃x O d,xs=[x,.ty T]/\Rep X.K O H d x/\Q (.bl (ans (jh d))) H):=by
 intro pins s σ H xs us Q I r h;obtain⟨x,O,d,rfl,rd,q⟩:=h;obtain⟨u,u2,rfl,rx,r2⟩:=vals2 r;cases r2;have e:=hk d;have fin':∀tk,EP X pins σ Q (.bool (ans (jh d))) {s with toks:=tk}:=λtk=>⟨.bl _,H,I.tok _,rfl,q⟩;cases d with
 | non=>
  cases rd.non;cases (show u=aez from rx);exact PySem.W.kia_one PySem.W.kitx_none I.kIn ai4 e (λz=>nomatch z) fin'
 | bl b=>
  cases rd.bl;cases (show u=aiB b from rx);exact PySem.W.kia_one PySem.W.kitx_bool I.kIn ai4 e (λz=>nomatch z) fin'
 | int i=>
  cases rd.int;obtain⟨t,z⟩:=(show ∃t,u=ah5 i t from rx);cases z;exact PySem.W.kia_one PySem.W.kitx_int I.kIn ai4 e (λz=>nomatch z) fin'
 | str y=>
  cases rd.str;obtain⟨t,z⟩:=(show ∃t,u=Value.str y t from rx);cases z;exact PySem.W.kia_one PySem.W.kitx_str I.kIn ai4 e (λz=>nomatch z) fin'
 | tup ds=>
  obtain⟨a,ys,rfl,hq,_⟩:=rd.tup;cases (show u=aew a from rx);obtain⟨its,_,pl,_⟩:=I.tuple hq;obtain⟨o,h1,h2,_⟩:=pl;exact PySem.W.kia_one PySem.W.kitx_tuple I.kIn ⟨o,h1,h2⟩ e (λz=>nomatch z) fin'
 | lst ds=>
  obtain⟨a,ys,rfl,hq,_,_⟩:=rd.lst;cases (show u=aew a from rx);obtain⟨its,_,pl,_⟩:=I.list hq;obtain⟨o,n,h1,h2,_⟩:=pl;exact PySem.W.kia_one PySem.W.kitx_list I.kIn ⟨o,h1,h2⟩ e (λz=>nomatch z) fin'
def xK(ans:String->Bool)(f:aA->R D):aA->R D:=λρ=>(f ρ).bind λd=> .ok (.bl (ans (jh d)))
theorem sy{T:String}{ans:String->Bool}{x y:Str}{e:aee}{f:aA->R D}{p p2 pos:Pos}(hk:∀d:D,PySem.W.kitOne X.K (.type (jh d)) (.type T)=some (ans (jh d)))(he:DE X e f)
  (hg:Gl X x)(hm:X.mg x=none)(hv:afK x=some (.builtin "isinstance"))(hgy:Gl X y)(hmy:X.mg y=none)(hvy:afK y=some (.type T))(hn:x≠"__name__" :=by decide)(hdb:(x ==("__debug__" :Str))=false:=by decide)
  (hny:y≠"__name__" :=by decide)(Vp:(y ==("__debug__" :Str))=false:=by decide)
  (hs:aea [e,.Name y p2] X.env=(false,eval e X.env)::aea [.Name y p2] X.env:=by rfl)(hs2:aea [.Name y p2] X.env=(false,eval (.Name y p2) X.env)::aea [] X.env:=by rfl)(hpl:(aeR pos (aea [.Name y p2] X.env)).any (·.1)=false:=by rfl):
  DE X (.Call (.Name x p) [e,.Name y p2] [] pos) (xK ans f):=by
 refine PE.imp (pe_callB (Vo T ans hk) hg hm hv (pa_cons he (pa_cons (pe_bltn (v:= .ty T) hgy hmy hvy rfl hny Vp) pa_nil hs2) hs) hn hdb hs hpl) λσ H Q h=>?_;obtain⟨ρ,O,j,h⟩:=h;refine go j h λd v H1 e1 s1 r1 j1 h1=>?_;exact⟨v,O,d,rfl,r1,fin h1 (fL _)⟩
end
mutual
def dF:D->D->Bool
 | .non,.non=>true
 | .bl a,.bl b=>a ==b
 | .bl a,.int b=>(if a then 1 else 0) ==b
 | .int a,.bl b=>a ==(if b then 1 else 0)
 | .int a,.int b=>a ==b
 | .str a,.str b=>a ==b
 | .tup a,.tup b=>mQ a b
 | .lst a,.lst b=>mQ a b
 |_,_=>false
def mQ:List D->List D->Bool
 |[],[]=>true
 |x::xs,y::ys=>dF x y && mQ xs ys
 |_,_=>false
end
mutual
def dep:D->Nat
 | .tup a=>deps a+1
 | .lst a=>deps a+1
 |_=>0
def deps:List D->Nat
 |[]=>0
 |x::xs=>max (dep x) (deps xs)
end
theorem o8:∀{ds:List D} {d:D},d∈ds->dep d<=deps ds
 |[],_,h=>by simp at h
 | x::xs,d,h=>by
  rw[deps];rcases ael.mp h with e |h
  ·subst e;exact Nat.le_max_left _ _
  ·exact z0b (o8 h) (Nat.le_max_right _ _)
theorem jF(a b:Bool):dF (.bl a) (.bl b)=(a ==b):=rfl
theorem jG(a:Bool)(b:Int):dF (.bl a) (.int b)=((if a then 1 else 0) ==b):=rfl
theorem jH(a:Int)(b:Bool):dF (.int a) (.bl b)=(a ==(if b then 1 else 0)):=rfl
theorem jJ(a b:Int):dF (.int a) (.int b)=(a ==b):=rfl
theorem jK(a b:Str):dF (.str a) (.str b)=(a ==b):=rfl
theorem gC(a b:List D):dF (.tup a) (.tup b)=mQ a b:=rfl
theorem eV(a b:List D):dF (.lst a) (.lst b)=mQ a b:=rfl
mutual
theorem Ed:∀d:D,dF d d=true
 | .non=>rfl
 | .bl a=>by simp[jF,jG,jH,jJ,jK,gC,eV]
 | .int a=>by simp[jF,jG,jH,jJ,jK,gC,eV]
 | .str a=>by simp[jF,jG,jH,jJ,jK,gC,eV]
 | .tup a=>by rw[gC];exact qu a
 | .lst a=>by rw[eV];exact qu a
theorem qu:∀d:List D,mQ d d=true
 |[]=>rfl
 |x::xs=>by rw[mQ,Ed x,qu xs];rfl
end
theorem tu:∀{xs ys:List D},xs.length≠ys.length->mQ xs ys=false
 |[],[],h=>absurd rfl h
 |[],_::_,_=>rfl
 |_::_,[],_=>rfl
 | x::xs,y::ys,h=>by
  rw[mQ,tu (xs:=xs) (ys:=ys) (λe=>h (by simp[e])),ai1]
theorem tD:∀{xs ys:List D},xs.length=ys.length->mQ xs ys=(ad6 xs.length).all λi=>dF (xs.getD i .non) (ys.getD i .non)
 |[],[],_=>rfl
 |[],_::_,h=>by simp at h
 |_::_,[],h=>by simp at h
 | x::xs,y::ys,h=>by
  rw[mQ,tD (xs:=xs) (ys:=ys) (by simpa using h),aef,aeN,agg,List.all_map];rfl
end Pu
namespace Pu
open PySem PySem.Spec L2
open PyProof.Rows hiding St
open PySem.SeqAt
variable{A:aer}{d:D}{u u':ad7}
inductive LkT (X:Cx) (O:ad5->Prop) (H:Hp) (s:ad8) (ds:List D) (u:ad7):Prop
 |mk (a:ad5) (xs:List V) (its:List ad7) (e:u=aew a) (q:SqT X.K H a xs) (v:Vals xs its) (p:s.heap.IsTuple a its.toArray) (r:aP X.K O H ds xs):LkT X O H s ds u
inductive LkL (X:Cx) (O:ad5->Prop) (H:Hp) (s:ad8) (ds:List D) (u:ad7):Prop
 |mk (a:ad5) (xs:List V) (its:List ad7) (e:u=aew a) (q:SqL X.K H a xs) (v:Vals xs its) (p:s.heap.IsList a its.toArray) (r:aP X.K O H ds xs):LkL X O H s ds u
def Lk(X:Cx)(O:ad5->Prop)(H:Hp)(s:ad8):D->ad7->Prop
 | .non,u=>u=aez
 | .bl b,u=>u=aiB b
 | .int i,u=>∃t,u=ah5 i t
 | .str x,u=>∃t,u=Value.str x t
 | .tup ds,u=>LkT X O H s ds u
 | .lst ds,u=>LkL X O H s ds u
section
variable{X:Cx}{pins:List (ad5×Obj)}{σ:St}{H:Hp}{s:ad8}{O O':ad5->Prop}
theorem uK(I:Inv X pins σ H s){v:V}(r:Rep X.K O H d v)(q:RelV v u):Lk X O H s d u:=by
 cases d with
 |non=>cases r.non;exact q
 |bl b=>cases r.bl;exact q
 |int i=>cases r.int;exact q
 |str x=>cases r.str;exact q
 | tup ds=>
  obtain⟨a,xs,rfl,hq,rs⟩:=r.tup;cases (show u=aew a from q);obtain⟨its,rv,p,_⟩:=I.tuple hq;exact⟨a,xs,its,rfl,hq,rv,p,rs⟩
 | lst ds=>
  obtain⟨a,xs,rfl,hq,_,rs⟩:=r.lst;cases (show u=aew a from q);obtain⟨its,rv,p,_⟩:=I.list hq;exact⟨a,xs,its,rfl,hq,rv,p.isList,rs⟩
theorem isTuple_list{a:ad5}{p q:Array ad7}(h1:s.heap.IsTuple a p)(h2:s.heap.IsList a q):False:=ne_of_list_tuple h2 h1 rfl
mutual
theorem Rep.inj(I:Inv X pins σ H s):∀(d e:D) (v:V),Rep X.K O H d v->Rep X.K O' H e v->d=e
 | .non,e,v,r,q=>by
  cases r.non;cases e with
  |non=>rfl
  |bl _=>cases q.bl
  |int _=>cases q.int
  |str _=>cases q.str
  |tup _=>obtain⟨_,_,z,_⟩:=q.tup;cases z
  |lst _=>obtain⟨_,_,z,_⟩:=q.lst;cases z
 | .bl b,e,v,r,q=>by
  cases r.bl;cases e with
  |non=>cases q.non
  |bl _=>cases q.bl;rfl
  |int _=>cases q.int
  |str _=>cases q.str
  |tup _=>obtain⟨_,_,z,_⟩:=q.tup;cases z
  |lst _=>obtain⟨_,_,z,_⟩:=q.lst;cases z
 | .int b,e,v,r,q=>by
  cases r.int;cases e with
  |non=>cases q.non
  |bl _=>cases q.bl
  |int _=>cases q.int;rfl
  |str _=>cases q.str
  |tup _=>obtain⟨_,_,z,_⟩:=q.tup;cases z
  |lst _=>obtain⟨_,_,z,_⟩:=q.lst;cases z
 | .str b,e,v,r,q=>by
  cases r.str;cases e with
  |non=>cases q.non
  |bl _=>cases q.bl
  |int _=>cases q.int
  |str _=>cases q.str;rfl
  |tup _=>obtain⟨_,_,z,_⟩:=q.tup;cases z
  |lst _=>obtain⟨_,_,z,_⟩:=q.lst;cases z
 | .tup ds,e,v,r,q=>by
  obtain⟨a,xs,rfl,hq,rs⟩:=r.tup;cases e with
  |non=>cases q.non
  |bl _=>cases q.bl
  |int _=>cases q.int
  |str _=>cases q.str
  | tup es=>
   obtain⟨b,ys,z,hq',rs'⟩:=q.tup;cases z;cases I.tuple_inj hq hq';rw[aP.inj I ds es xs rs rs']
  | lst es=>
   obtain⟨b,ys,z,hq',_,rs'⟩:=q.lst;cases z;obtain⟨_,_,p1,_⟩:=I.tuple hq;obtain⟨_,_,p2,_⟩:=I.list hq';exact (isTuple_list p1 p2.isList).elim
 | .lst ds,e,v,r,q=>by
  obtain⟨a,xs,rfl,hq,_,rs⟩:=r.lst;cases e with
  |non=>cases q.non
  |bl _=>cases q.bl
  |int _=>cases q.int
  |str _=>cases q.str
  | tup es=>
   obtain⟨b,ys,z,hq',rs'⟩:=q.tup;cases z;obtain⟨_,_,p1,_⟩:=I.tuple hq';obtain⟨_,_,p2,_⟩:=I.list hq;exact (isTuple_list p1 p2.isList).elim
  | lst es=>
   obtain⟨b,ys,z,hq',_,rs'⟩:=q.lst;cases z;cases I.list_inj hq hq';rw[aP.inj I ds es xs rs rs']
theorem aP.inj(I:Inv X pins σ H s):∀(ds es:List D) (vs:List V),aP X.K O H ds vs->aP X.K O' H es vs->ds=es
 | [],es,vs,r,q=>by
  rw[r.nil_inv] at q;cases es with
  |nil=>rfl
  |cons e es=>obtain⟨_,_,z,_⟩:=q.cons_inv;cases z
 | d ::ds,es,vs,r,q=>by
  obtain⟨x,t,rfl,rx,rt⟩:=r.cons_inv;cases es with
  |nil=>cases q.nil_inv
  | cons e es=>
   obtain⟨_,_,z,qx,qt⟩:=q.cons_inv;cases z;rw[Rep.inj I d e x rx qx,aP.inj I ds es t rt qt]
end
theorem o9{ds es:List D}{xs ys:List V}{its jts:List ad7}(r1:aP X.K O H ds xs)(r2:aP X.K O' H es ys)(v1:Vals xs its)(v2:Vals ys jts)
  (ih:∀d∈ds,∀(e:D) (v w:V) (u u':ad7),Rep X.K O H d v->Rep X.K O' H e w->RelV v u->RelV w u'->EqAt A s u u' (dF d e)):
  ∀j (h1:j<its.toArray.size) (h2:j<jts.toArray.size),EqAt A s its.toArray[j] jts.toArray[j] (dF (ds.getD j .non) (es.getD j .non)):=by
 intro j h1 h2;have e1:its[j]?=some its.toArray[j]:=by simp
 have e2:jts[j]?=some jts.toArray[j]:=by simp
 have l1:=v1.length;have l2:=v2.length;have k1:=r1.length;have k2:=r2.length;simp only[z1c] at h1 h2;obtain⟨v,ev,rv⟩:∃v,xs[j]?=some v/\RelV v its.toArray[j]:=by
  have hj:j<xs.length:=by omega
  obtain⟨u,eu,ru⟩:=v1.get (i:=j) (x:=xs[j]) (by simp[hj]);rw[e1] at eu;cases eu;exact⟨_,by simp[hj],ru⟩
 obtain⟨w,ew,rw'⟩:∃v,ys[j]?=some v/\RelV v jts.toArray[j]:=by
  have hj:j<ys.length:=by omega
  obtain⟨u,eu,ru⟩:=v2.get (i:=j) (x:=ys[j]) (by simp[hj]);rw[e2] at eu;cases eu;exact⟨_,by simp[hj],ru⟩
 obtain⟨d,ed,rd⟩:=r1.cj ev;obtain⟨e,ee,re⟩:=r2.cj ew;have g1:ds.getD j .non=d:=by simp[aiX,ed]
 have g2:es.getD j .non=e:=by simp[aiX,ee]
 rw[g1,g2];exact ih d (aeE ed) e v w _ _ rd re rv rw'
theorem Ef{ds es:List D}{n m:Nat}(hn:ds.length=n)(hm:es.length=m):((ad6 (min n m)).all (λj=>dF (ds.getD j .non) (es.getD j .non)) && n ==m)=mQ ds es:=by
 by_cases h:n=m
 ·subst h;rw[Nat.min_self,beq_self_eq_true,Bool.and_true,tD (by rw[hn,hm]),hn]
 ·rw[tu (by rw[hn,hm];exact h),show (n ==m)=false by simpa using h,ai1]
theorem Mq(I:Inv X pins σ H s)(hu:A.units<afJ){e:D}(h1:Lk X O H s d u)(h2:Lk X O' H s e u')
  (ih:∀c∈(match d with | .tup ds=>ds | .lst ds=>ds |_=>[]),∀(e:D) (v w:V) (u u':ad7),Rep X.K O H c v->Rep X.K O' H e w->RelV v u->RelV w u'->EqAt A.in1 s u u' (dF c e)):EqAt A s u u' (dF d e):=by
 cases d with
 | non=>
  cases h1;cases e with
  | non=>
   cases h2;exact EqAt.same _
  | bl b=>
   cases h2;exact EqAt.none_bool _
  | int b=>
   obtain⟨t2,rfl⟩:=h2;exact EqAt.none_int _ _
  | str b=>
   obtain⟨t2,rfl⟩:=h2;exact EqAt.none_str _ _
  | tup es=>
   obtain⟨p2,ys,jts,rfl,hq2,v2,hp2,r2⟩:=h2;exact EqAt.none_tuple hp2 hu
  | lst es=>
   obtain⟨p2,ys,jts,rfl,hq2,v2,hp2,r2⟩:=h2;exact EqAt.none_list hp2 hu
 | bl a=>
  cases h1;cases e with
  | non=>
   cases h2;exact EqAt.bool_none _
  | bl b=>
   cases h2;exact EqAt.bool_bool _ _
  | int b=>
   obtain⟨t2,rfl⟩:=h2;exact EqAt.bool_int _ _ _
  | str b=>
   obtain⟨t2,rfl⟩:=h2;exact EqAt.bool_str _ _ _
  | tup es=>
   obtain⟨p2,ys,jts,rfl,hq2,v2,hp2,r2⟩:=h2;exact EqAt.bool_tuple _ hp2 hu
  | lst es=>
   obtain⟨p2,ys,jts,rfl,hq2,v2,hp2,r2⟩:=h2;exact EqAt.bool_list _ hp2 hu
 | int a=>
  obtain⟨t1,rfl⟩:=h1;cases e with
  | non=>
   cases h2;exact EqAt.int_none _ _
  | bl b=>
   cases h2;exact EqAt.int_bool _ _ _
  | int b=>
   obtain⟨t2,rfl⟩:=h2;exact EqAt.int_int _ _ _ _
  | str b=>
   obtain⟨t2,rfl⟩:=h2;exact EqAt.int_str _ _ _ _
  | tup es=>
   obtain⟨p2,ys,jts,rfl,hq2,v2,hp2,r2⟩:=h2;exact EqAt.int_tuple _ _ hp2 hu
  | lst es=>
   obtain⟨p2,ys,jts,rfl,hq2,v2,hp2,r2⟩:=h2;exact EqAt.int_list _ _ hp2 hu
 | str a=>
  obtain⟨t1,rfl⟩:=h1;cases e with
  | non=>
   cases h2;exact EqAt.str_none _ _
  | bl b=>
   cases h2;exact EqAt.str_bool _ _ _
  | int b=>
   obtain⟨t2,rfl⟩:=h2;exact EqAt.str_int _ _ _ _
  | str b=>
   obtain⟨t2,rfl⟩:=h2;exact EqAt.str_str _ _ _ _
  | tup es=>
   obtain⟨p2,ys,jts,rfl,hq2,v2,hp2,r2⟩:=h2;exact EqAt.str_tuple _ _ hp2 hu
  | lst es=>
   obtain⟨p2,ys,jts,rfl,hq2,v2,hp2,r2⟩:=h2;exact EqAt.str_list _ _ hp2 hu
 | tup ds=>
  obtain⟨p1,xs,its,rfl,hq1,v1,hp1,r1⟩:=h1;cases e with
  | non=>
   cases h2;exact EqAt.tuple_none hp1 hu
  | bl b=>
   cases h2;exact EqAt.tuple_bool _ hp1 hu
  | int b=>
   obtain⟨t2,rfl⟩:=h2;exact EqAt.tuple_int _ _ hp1 hu
  | str b=>
   obtain⟨t2,rfl⟩:=h2;exact EqAt.tuple_str _ _ hp1 hu
  | tup es=>
   obtain⟨p2,ys,jts,rfl,hq2,v2,hp2,r2⟩:=h2;by_cases hne:p1=p2
   ·subst hne;cases I.tuple_inj hq1 hq2;rw[gC,aP.inj I ds es xs r1 r2,qu];exact EqAt.same _
   ·have q:=EqAt.of_refs hne (RcAt.tuples hp1 hp2 hu (o9 r1 r2 v1 v2 ih));simp only[z1c] at q;rw[Ef (r1.length.trans v1.length) (r2.length.trans v2.length)] at q;rw[gC];exact q
  | lst es=>
   obtain⟨p2,ys,jts,rfl,hq2,v2,hp2,r2⟩:=h2;exact EqAt.tuple_list hp1 hp2 hu
 | lst ds=>
  obtain⟨p1,xs,its,rfl,hq1,v1,hp1,r1⟩:=h1;cases e with
  | non=>
   cases h2;exact EqAt.list_none hp1 hu
  | bl b=>
   cases h2;exact EqAt.list_bool _ hp1 hu
  | int b=>
   obtain⟨t2,rfl⟩:=h2;exact EqAt.list_int _ _ hp1 hu
  | str b=>
   obtain⟨t2,rfl⟩:=h2;exact EqAt.list_str _ _ hp1 hu
  | tup es=>
   obtain⟨p2,ys,jts,rfl,hq2,v2,hp2,r2⟩:=h2;exact EqAt.list_tuple hp1 hp2 hu
  | lst es=>
   obtain⟨p2,ys,jts,rfl,hq2,v2,hp2,r2⟩:=h2;by_cases hne:p1=p2
   ·subst hne;cases I.list_inj hq1 hq2;rw[eV,aP.inj I ds es xs r1 r2,qu];exact EqAt.same _
   ·by_cases hz:ds.length=es.length
    ·have q:=EqAt.of_refs hne (RcAt.lists hp1 hp2 (by simp only[z1c];rw[<-v1.length,<-v2.length,<-r1.length,<-r2.length];exact hz) hu (o9 r1 r2 v1 v2 ih));rw[z1c,<-v1.length,<-r1.length,<-tD hz] at q;rw[eV];exact q
    ·rw[eV,tu hz];exact EqAt.of_refs hne (RcAt.lists_lengths hp1 hp2 (by simp only[z1c];rw[<-v1.length,<-v2.length,<-r1.length,<-r2.length];simpa using hz) hu)
theorem XM(I:Inv X pins σ H s)(hu:A.units<afJ){e:D}(h1:Lk X O H s d u)(h2:Lk X O' H s e u')
  (ih:∀c∈(match d with | .tup ds=>ds | .lst ds=>ds |_=>[]),∀(e:D) (v w:V) (u u':ad7),Rep X.K O H c v->Rep X.K O' H e w->RelV v u->RelV w u'->EqAt A.in1 s u u' (dF c e)):RcAt A s u u' (dF d e):=by
 cases d with
 | non=>
  cases h1;cases e with
  | non=>
   cases h2;exact RcAt.none_none
  | bl b=>
   cases h2;exact RcAt.none_bool _
  | int b=>
   obtain⟨t2,rfl⟩:=h2;exact RcAt.none_int _ _
  | str b=>
   obtain⟨t2,rfl⟩:=h2;exact RcAt.none_str _ _
  | tup es=>
   obtain⟨p2,ys,jts,rfl,hq2,v2,hp2,r2⟩:=h2;exact RcAt.none_tuple hp2 hu
  | lst es=>
   obtain⟨p2,ys,jts,rfl,hq2,v2,hp2,r2⟩:=h2;exact RcAt.none_list hp2 hu
 | bl a=>
  cases h1;cases e with
  | non=>
   cases h2;exact RcAt.bool_none _
  | bl b=>
   cases h2;exact RcAt.bool_bool _ _
  | int b=>
   obtain⟨t2,rfl⟩:=h2;exact RcAt.bool_int _ _ _
  | str b=>
   obtain⟨t2,rfl⟩:=h2;exact RcAt.bool_str _ _ _
  | tup es=>
   obtain⟨p2,ys,jts,rfl,hq2,v2,hp2,r2⟩:=h2;exact RcAt.bool_tuple _ hp2 hu
  | lst es=>
   obtain⟨p2,ys,jts,rfl,hq2,v2,hp2,r2⟩:=h2;exact RcAt.bool_list _ hp2 hu
 | int a=>
  obtain⟨t1,rfl⟩:=h1;cases e with
  | non=>
   cases h2;exact RcAt.int_none _ _
  | bl b=>
   cases h2;exact RcAt.int_bool _ _ _
  | int b=>
   obtain⟨t2,rfl⟩:=h2;exact RcAt.int_int _ _ _ _
  | str b=>
   obtain⟨t2,rfl⟩:=h2;exact RcAt.int_str _ _ _ _
  | tup es=>
   obtain⟨p2,ys,jts,rfl,hq2,v2,hp2,r2⟩:=h2;exact RcAt.int_tuple _ _ hp2 hu
  | lst es=>
   obtain⟨p2,ys,jts,rfl,hq2,v2,hp2,r2⟩:=h2;exact RcAt.int_list _ _ hp2 hu
 | str a=>
  obtain⟨t1,rfl⟩:=h1;cases e with
  | non=>
   cases h2;exact RcAt.str_none _ _
  | bl b=>
   cases h2;exact RcAt.str_bool _ _ _
  | int b=>
   obtain⟨t2,rfl⟩:=h2;exact RcAt.str_int _ _ _ _
  | str b=>
   obtain⟨t2,rfl⟩:=h2;exact RcAt.str_str _ _ _ _
  | tup es=>
   obtain⟨p2,ys,jts,rfl,hq2,v2,hp2,r2⟩:=h2;exact RcAt.str_tuple _ _ hp2 hu
  | lst es=>
   obtain⟨p2,ys,jts,rfl,hq2,v2,hp2,r2⟩:=h2;exact RcAt.str_list _ _ hp2 hu
 | tup ds=>
  obtain⟨p1,xs,its,rfl,hq1,v1,hp1,r1⟩:=h1;cases e with
  | non=>
   cases h2;exact RcAt.tuple_none hp1 hu
  | bl b=>
   cases h2;exact RcAt.tuple_bool _ hp1 hu
  | int b=>
   obtain⟨t2,rfl⟩:=h2;exact RcAt.tuple_int _ _ hp1 hu
  | str b=>
   obtain⟨t2,rfl⟩:=h2;exact RcAt.tuple_str _ _ hp1 hu
  | tup es=>
   obtain⟨p2,ys,jts,rfl,hq2,v2,hp2,r2⟩:=h2;have q:=RcAt.tuples hp1 hp2 hu (o9 r1 r2 v1 v2 ih);simp only[z1c] at q;rw[Ef (r1.length.trans v1.length) (r2.length.trans v2.length)] at q;rw[gC];exact q
  | lst es=>
   obtain⟨p2,ys,jts,rfl,hq2,v2,hp2,r2⟩:=h2;exact RcAt.tuple_list hp1 hp2 hu
 | lst ds=>
  obtain⟨p1,xs,its,rfl,hq1,v1,hp1,r1⟩:=h1;cases e with
  | non=>
   cases h2;exact RcAt.list_none hp1 hu
  | bl b=>
   cases h2;exact RcAt.list_bool _ hp1 hu
  | int b=>
   obtain⟨t2,rfl⟩:=h2;exact RcAt.list_int _ _ hp1 hu
  | str b=>
   obtain⟨t2,rfl⟩:=h2;exact RcAt.list_str _ _ hp1 hu
  | tup es=>
   obtain⟨p2,ys,jts,rfl,hq2,v2,hp2,r2⟩:=h2;exact RcAt.list_tuple hp1 hp2 hu
  | lst es=>
   obtain⟨p2,ys,jts,rfl,hq2,v2,hp2,r2⟩:=h2;by_cases hz:ds.length=es.length
   ·have q:=RcAt.lists hp1 hp2 (by simp only[z1c];rw[<-v1.length,<-v2.length,<-r1.length,<-r2.length];exact hz) hu (o9 r1 r2 v1 v2 ih);rw[z1c,<-v1.length,<-r1.length,<-tD hz] at q;rw[eV];exact q
   ·rw[eV,tu hz];exact RcAt.lists_lengths hp1 hp2 (by simp only[z1c];rw[<-v1.length,<-v2.length,<-r1.length,<-r2.length];simpa using hz) hu
theorem XQ(I:Inv X pins σ H s)(hu:A.units<afJ){e:D}(h1:Lk X O H s d u)(h2:Lk X O' H s e u')
  (ih:∀c∈(match d with | .tup ds=>ds | .lst ds=>ds |_=>[]),∀(e:D) (v w:V) (u u':ad7),Rep X.K O H c v->Rep X.K O' H e w->RelV v u->RelV w u'->EqAt A.in1 s u u' (dF c e)):RcNeAt A s u u' (!dF d e):=by
 cases d with
 | non=>
  cases h1;cases e with
  | non=>
   cases h2;exact RcNeAt.none_none
  | bl b=>
   cases h2;exact RcNeAt.none_bool _
  | int b=>
   obtain⟨t2,rfl⟩:=h2;exact RcNeAt.none_int _ _
  | str b=>
   obtain⟨t2,rfl⟩:=h2;exact RcNeAt.none_str _ _
  | tup es=>
   obtain⟨p2,ys,jts,rfl,hq2,v2,hp2,r2⟩:=h2;exact RcNeAt.none_tuple hp2 hu
  | lst es=>
   obtain⟨p2,ys,jts,rfl,hq2,v2,hp2,r2⟩:=h2;exact RcNeAt.none_list hp2 hu
 | bl a=>
  cases h1;cases e with
  | non=>
   cases h2;exact RcNeAt.bool_none _
  | bl b=>
   cases h2;exact RcNeAt.bool_bool _ _
  | int b=>
   obtain⟨t2,rfl⟩:=h2;exact RcNeAt.bool_int _ _ _
  | str b=>
   obtain⟨t2,rfl⟩:=h2;exact RcNeAt.bool_str _ _ _
  | tup es=>
   obtain⟨p2,ys,jts,rfl,hq2,v2,hp2,r2⟩:=h2;exact RcNeAt.bool_tuple _ hp2 hu
  | lst es=>
   obtain⟨p2,ys,jts,rfl,hq2,v2,hp2,r2⟩:=h2;exact RcNeAt.bool_list _ hp2 hu
 | int a=>
  obtain⟨t1,rfl⟩:=h1;cases e with
  | non=>
   cases h2;exact RcNeAt.int_none _ _
  | bl b=>
   cases h2;exact RcNeAt.int_bool _ _ _
  | int b=>
   obtain⟨t2,rfl⟩:=h2;exact RcNeAt.int_int _ _ _ _
  | str b=>
   obtain⟨t2,rfl⟩:=h2;exact RcNeAt.int_str _ _ _ _
  | tup es=>
   obtain⟨p2,ys,jts,rfl,hq2,v2,hp2,r2⟩:=h2;exact RcNeAt.int_tuple _ _ hp2 hu
  | lst es=>
   obtain⟨p2,ys,jts,rfl,hq2,v2,hp2,r2⟩:=h2;exact RcNeAt.int_list _ _ hp2 hu
 | str a=>
  obtain⟨t1,rfl⟩:=h1;cases e with
  | non=>
   cases h2;exact RcNeAt.str_none _ _
  | bl b=>
   cases h2;exact RcNeAt.str_bool _ _ _
  | int b=>
   obtain⟨t2,rfl⟩:=h2;exact RcNeAt.str_int _ _ _ _
  | str b=>
   obtain⟨t2,rfl⟩:=h2;exact RcNeAt.str_str _ _ _ _
  | tup es=>
   obtain⟨p2,ys,jts,rfl,hq2,v2,hp2,r2⟩:=h2;exact RcNeAt.str_tuple _ _ hp2 hu
  | lst es=>
   obtain⟨p2,ys,jts,rfl,hq2,v2,hp2,r2⟩:=h2;exact RcNeAt.str_list _ _ hp2 hu
 | tup ds=>
  obtain⟨p1,xs,its,rfl,hq1,v1,hp1,r1⟩:=h1;cases e with
  | non=>
   cases h2;exact RcNeAt.tuple_none hp1 hu
  | bl b=>
   cases h2;exact RcNeAt.tuple_bool _ hp1 hu
  | int b=>
   obtain⟨t2,rfl⟩:=h2;exact RcNeAt.tuple_int _ _ hp1 hu
  | str b=>
   obtain⟨t2,rfl⟩:=h2;exact RcNeAt.tuple_str _ _ hp1 hu
  | tup es=>
   obtain⟨p2,ys,jts,rfl,hq2,v2,hp2,r2⟩:=h2;have q:=RcNeAt.tuples hp1 hp2 hu (o9 r1 r2 v1 v2 ih);simp only[z1c] at q;rw[Ef (r1.length.trans v1.length) (r2.length.trans v2.length)] at q;rw[gC];exact q
  | lst es=>
   obtain⟨p2,ys,jts,rfl,hq2,v2,hp2,r2⟩:=h2;exact RcNeAt.tuple_list hp1 hp2 hu
 | lst ds=>
  obtain⟨p1,xs,its,rfl,hq1,v1,hp1,r1⟩:=h1;cases e with
  | non=>
   cases h2;exact RcNeAt.list_none hp1 hu
  | bl b=>
   cases h2;exact RcNeAt.list_bool _ hp1 hu
  | int b=>
   obtain⟨t2,rfl⟩:=h2;exact RcNeAt.list_int _ _ hp1 hu
  | str b=>
   obtain⟨t2,rfl⟩:=h2;exact RcNeAt.list_str _ _ hp1 hu
  | tup es=>
   obtain⟨p2,ys,jts,rfl,hq2,v2,hp2,r2⟩:=h2;exact RcNeAt.list_tuple hp1 hp2 hu
  | lst es=>
   obtain⟨p2,ys,jts,rfl,hq2,v2,hp2,r2⟩:=h2;by_cases hz:ds.length=es.length
   ·have q:=RcNeAt.lists hp1 hp2 (by simp only[z1c];rw[<-v1.length,<-v2.length,<-r1.length,<-r2.length];exact hz) hu (o9 r1 r2 v1 v2 ih);rw[z1c,<-v1.length,<-r1.length,<-tD hz] at q;rw[eV];exact q
   ·rw[eV,tu hz];exact RcNeAt.lists_lengths hp1 hp2 (by simp only[z1c];rw[<-v1.length,<-v2.length,<-r1.length,<-r2.length];simpa using hz) hu
theorem Eh(I:Inv X pins σ H s):∀(n:Nat) (A:aer) (d:D),dep d<=n->A.units+n<afJ->∀(e:D) (v w:V) (u u':ad7),Rep X.K O H d v->Rep X.K O' H e w->RelV v u->RelV w u'->EqAt A s u u' (dF d e):=by
 intro n
 induction n with
 | zero=>
  intro A d hd hu e v w u u' r1 r2 q1 q2;refine Mq I (by omega) (uK I r1 q1) (uK I r2 q2) λc hc=>?_;cases d with
  |tup ds=>rw[dep] at hd;omega
  |lst ds=>rw[dep] at hd;omega
  |_=>simp at hc
 | succ n ihn=>
  intro A d hd hu e v w u u' r1 r2 q1 q2;refine Mq I (by omega) (uK I r1 q1) (uK I r2 q2) λc hc=>?_;have hc':dep c<=n:=by
   cases d with
   |tup ds=>rw[dep] at hd;have:=o8 (ds:=ds) hc;omega
   |lst ds=>rw[dep] at hd;have:=o8 (ds:=ds) hc;omega
   |_=>simp at hc
  exact ihn A.in1 c hc' (by show A.units+1+n<afJ;omega)
end
def kO(d e:D):R D:=if dep d<=40 then .ok (.bl (dF d e)) else .bad
def iC(d e:D):R D:=if dep d<=40 then .ok (.bl (!dF d e)) else .bad
section
variable{X:Cx}
theorem abL(hu:X.A.units+60<afJ):OpR X (aex .Eq) (λx y H Q=>∃O O' d e,Rep X.K O H d x/\Rep X.K O' H e y/\dep d<=40/\Q (.bl (dF d e)) H):=by
 intro pins s σ H x y v u Q I rx ry h;obtain⟨O,O',d,e,r1,r2,hd,q⟩:=h;refine XM I (show X.A.units<afJ by omega) (uK I r1 rx) (uK I r2 ry) (λc hc=>?_) X.prog X.w X.xe _ ⟨.bl _,H,I,rfl,q⟩;have hc':dep c<=40:=by
  cases d with
  |tup ds=>rw[dep] at hd;have:=o8 (ds:=ds) hc;omega
  |lst ds=>rw[dep] at hd;have:=o8 (ds:=ds) hc;omega
  |_=>simp at hc
 exact Eh I 40 X.A.in1 c hc' (by show X.A.units+1+40<afJ;omega)
theorem abM(hu:X.A.units+60<afJ):OpR X (aex .NotEq) (λx y H Q=>∃O O' d e,Rep X.K O H d x/\Rep X.K O' H e y/\dep d<=40/\Q (.bl (!dF d e)) H):=by
 intro pins s σ H x y v u Q I rx ry h;obtain⟨O,O',d,e,r1,r2,hd,q⟩:=h;refine XQ I (show X.A.units<afJ by omega) (uK I r1 rx) (uK I r2 ry) (λc hc=>?_) X.prog X.w X.xe _ ⟨.bl _,H,I,rfl,q⟩;have hc':dep c<=40:=by
  cases d with
  |tup ds=>rw[dep] at hd;have:=o8 (ds:=ds) hc;omega
  |lst ds=>rw[dep] at hd;have:=o8 (ds:=ds) hc;omega
  |_=>simp at hc
 exact Eh I 40 X.A.in1 c hc' (by show X.A.units+1+40<afJ;omega)
theorem nH(hu:X.A.units+60<afJ):iM X (aex .Eq) kO:=by
 refine⟨_,abL hu,λρ O σ H Q x y dx dy j rx ry h=>?_⟩;unfold kO at h;by_cases hd:dep dx<=40
 ·rw[if_pos hd] at h;exact⟨O,O,dx,dy,rx,ry,hd,fin h (fL _)⟩
 ·rw[if_neg hd] at h;exact h.elim
theorem lH(hu:X.A.units+60<afJ):iM X (aex .NotEq) iC:=by
 refine⟨_,abM hu,λρ O σ H Q x y dx dy j rx ry h=>?_⟩;unfold iC at h;by_cases hd:dep dx<=40
 ·rw[if_pos hd] at h;exact⟨O,O,dx,dy,rx,ry,hd,fin h (fL _)⟩
 ·rw[if_neg hd] at h;exact h.elim
end
end Pu
namespace Pu
open PySem PySem.Spec L2
open PyProof.Rows hiding St
section
variable{prog:aek}{w:aep}{A:aer}{E:ad7->ad8->Prop}{s:ad8}
theorem Ei{sl:ad5}{u:Tok}{n:Nat}{Q:Int×Int×Nat->ad8->Prop}(hs:s.heap.IsSliceOf sl .none .none (.int (-1) u))(h:Q ((n:Int) - 1,-1,n) s):
  aec (model prog w) A (agq (.ref sl) (pure (n:Int))) Q E s:=by
 obtain⟨os,hos,hcs,hds⟩:=id hs;unfold agq aiC;refine ad4 (ad4 (aeF hos hds (x:= .none) rfl (ad4 (aeF hos hds (x:= .none) rfl (ad4 (aeF hos hds (x:= .int (-1) u) rfl (ad9 ?_)))))));refine ad4 (slicePart_int ?_);show aec _ _ (if ((-1:Int) ==0)=true then _ else _) _ _ s;rw[if_neg (by decide)];refine ad4 (ahY (ad4 (ahY (ad4 (ad9 ?_)))));show aec _ _ (match afG none none (-1) (n:Int) with |(lo,hi)=>pure (lo,(-1:Int),afc lo hi (-1))) _ _ s;have e1:afG none none (-1) (n:Int)=((n:Int) - 1,-1):=by simp[afG]
 rw[e1];show aec _ _ (pure ((n:Int) - 1,(-1:Int),afc ((n:Int) - 1) (-1) (-1))) _ _ s;have e2:afc ((n:Int) - 1) (-1) (-1)=n:=by
  unfold afc;rw[if_neg (by decide)];by_cases hn:n=0
  ·subst hn;rfl
  ·rw[if_pos (by omega),show (-(-1):Int)=1 by decide,Int.ediv_one];omega
 rw[e2];exact ad9 h
theorem XR(xs:Array ad7):((ad6 xs.size).filterMap λ(m:Nat)=>xs[((xs.size:Int) - 1+(m:Int)*(-1)).toNat]?).toArray=xs.toList.reverse.toArray:=by
 congr 1;apply agr;intro i;by_cases hi:i<xs.size
 ·rw[List.getElem?_reverse (by simpa using hi)];have key:∀(l:List Nat),(∀m∈l,m<xs.size)->l.filterMap (λ(m:Nat)=>xs[((xs.size:Int) - 1+(m:Int)*(-1)).toNat]?)=l.map λm=>xs.getD (xs.size - 1 - m) default:=by
   intro l hl
   induction l with
   |nil=>rfl
   | cons m l ih=>
    have hm:=hl m aen;have e:((xs.size:Int) - 1+(m:Int)*(-1)).toNat=xs.size - 1 - m:=by omega
    have hlt:xs.size - 1 - m<xs.size:=by omega
    rw[agF,e,z1h,ih λk hk=>hl k (z2f _ hk)];simp[hlt]
  rw[key _ (λm hm=>z2e hm),z2b,aei hi];have hlt:xs.size - 1 - i<xs.size:=by omega
  simp[hlt]
 ·have h1:xs.toList.reverse[i]?=none:=afx (by simpa using hi);rw[h1];apply afx;exact z0b (ahb _ _) (by simpa using hi)
theorem Dh{t sl:ad5}{items:Array ad7}{u:Tok}{Q:ad7->ad8->Prop}(ht:IsTup s.heap t items)(hs:s.heap.IsSliceOf sl .none .none (.int (-1) u))
  (h:Q (.ref s.heap.objs.size) {s with heap:=s.heap.push {cls:= .type "tuple",data:= .seq items.toList.reverse.toArray}})(hsz:items.size<=sizeLine):aec (model prog w) A (ahD (.ref t) (.ref sl)) Q E s:=by
 have htake:sizeOk (.seq items.toList.reverse.toArray):=by
  show items.toList.reverse.toArray.size<=sizeLine;rw[z1c,ahV,afR];exact hsz
 obtain⟨os,hos,hcs,hds⟩:=id hs;have hTs:s.TypeIs (.ref sl) "slice" :=⟨os,hos,hcs⟩;unfold ahD
 try with_reducible refine afv ?_
 first |refine ad4 (ad9 ?_) |skip
 refine ad4 (aiu ht.typeIs (by decide) ?_);refine ad4 (afa (name:=aeH "__getitem__") ht.typeIs aeV
  (ae5 aeV ht.typeIs entry_tuple_getitem ?_ (aia _ _)))
 show aec _ _ (agY (.ref t) >>=_) _ _ s;refine ad4 (tupleItemsOf_ ht ?_);refine ad4 (agR hTs ?_);rw[if_pos (by decide)];refine ad4 (Ei hs ?_);show aec _ _ (if (((items.size:Int) - 1 ==0) && ((-1:Int) ==1) && (items.size ==items.size))=true then _ else _) _ _ s;rw[if_neg (by simp),XR]
 first
  |exact ad4 (m:=aeX _) (aeI (ad9 ⟨_,rfl,ad9 h⟩) htake)
  |exact ad4 (m:=aeX _) (aeI (ad4 (ad9 (ad9 ⟨_,rfl,ad9 h⟩))) htake)
  |exact ad4 (ad4 (m:=aeX _) (aeI (ad9 (ad9 ⟨_,rfl,ad9 h⟩)) htake))
  |exact ad4 (ad4 (m:=aeX _) (aeI (ad9 ⟨_,rfl,ad9 h⟩) htake))
end
section
variable{X:Cx}{e:aee}{te:TE}{pos p2 p3 p4:Pos}{j:Nat}{f:aA->R D}
theorem Vals.rev{xs:List V}{us:List ad7}(h:Vals xs us):Vals xs.reverse us.reverse:=by
 induction h with
 |nil=>exact .nil
 | cons r _ ih=>
  simp only[aiw];exact ih.append (.cons r .nil)
theorem abN{kk}(he:PE X e te):PE X (.Subscript e (.Slice none none (some (.UnaryOp .USub (.Constant (.int 1) kk p3) p4)) p2) pos) (λσ H Q=>te σ H λx H1=>∃a xs,x= .ref a/\SqT X.K H1 a xs/\∀p,H1 p=none->Q (.ref p) (upd H1 p (.tup xs.reverse))):=by
 intro pins s σ H Q I h;refine Subscript_ (thn (he pins s σ H _ I h) λv s1 bJ=>?_);obtain⟨x,H1,I1,r1,q1⟩:=bJ;obtain⟨a,xs,rfl,hq,q⟩:=q1;cases r1;refine wpAny_Slice ?_;rw[aij,evalPart_some];refine ad9 (ad9 ?_);refine thn (pe_un (X:=X) un_neg pe_int pins s1 σ H1 (λy H2=>y= .int (-1)/\H2=H1) I1 ⟨1,rfl,rfl,rfl⟩) λvs s2 bJ=>?_;obtain⟨y,H2,I2,r2,ey,eH⟩:=bJ;subst ey;subst eH;obtain⟨t,rfl⟩:=r2;have I4:Inv X pins σ H2 {s2 with heap:=s2.heap.push {cls:= .type "slice",data:= .fields #[.none,.none,.int (-1) t]}}:=I2.kept (t':=s2.toks) λb ob q=>z1a _ q;obtain⟨its,rv,ht,hz⟩:=I4.tuple hq;have hlen:=rv.length;show aec (model X.prog X.w) X.A (aik e (.Slice none none (some (.UnaryOp .USub (.Constant (.int 1) kk p3) p4)) p2) (.ref a) (.ref s2.heap.objs.size)) (EP X pins σ Q) X.xe {s2 with heap:=s2.heap.push {cls:= .type "slice",data:= .fields #[.none,.none,.int (-1) t]}};refine tail_any (ops:=[.ref a,.ref s2.heap.objs.size]) ht.typeIs slot_tuple_getitem.lookup (Dh ht (aib ..) ?_ (by rw[z1c];omega)) (by with_unfolding_all rfl);refine⟨.ref _,_,I4.laid (t':=s2.toks) (o:= .tup xs.reverse) (λb ob q=>z1a _ q) (z0g _) ?_,rfl,q _ (I4.hok.fresh (z0g _))⟩;exact⟨by rw[ahV];exact hz,_,Vals.rev rv,u9.new _ _⟩
def adA:D->R D
 | .tup ds=> .ok (.tup ds.reverse)
 |_=> .bad
def Tv(f:aA->R D):aA->R D:=λρ=>(f ρ).bind adA
theorem abO{kk}(he:DE X e f):DE X (.Subscript e (.Slice none none (some (.UnaryOp .USub (.Constant (.int 1) kk p3) p4)) p2) pos) (Tv f):=by
 refine PE.imp (abN he) λσ H Q h=>?_;obtain⟨ρ,O,j,h⟩:=h;refine go j h λd v H1 e1 s1 r1 j1 h1=>?_;cases d with
 | tup ds=>
  obtain⟨a,xs,rfl,hq,rs⟩:=r1.tup;exact⟨a,xs,rfl,hq,λp hp=>h1 _ _ (Same.upd hp) (Rep.mX hp rs.reverse)⟩
 |_=>exact h1.elim
def fW:D->D->R D
 | .int i,.int j=> .ok (.int (i+j))
 | .tup xs,.tup ys=>if 0<xs.length/\xs.length+ys.length<=1000000 then .ok (.tup (xs++ys)) else .bad
 |_,_=> .bad
theorem jL:iM X (afj .Add) fW:=by
 refine⟨_,OpR.or op_add op_catT,λρ O σ H Q x y dx dy j0 rx ry h=>?_⟩;cases dx <;> cases dy <;> first
  |exact h.elim
  |skip
 ·rename_i i j;exact .inl ⟨i,j,rx.int,ry.int,fin h (cB _)⟩
 ·rename_i xs ys;have h:good X (rD X) O (if 0<xs.length/\xs.length+ys.length<=1000000 then .ok (.tup (xs++ys)) else .bad) σ H Q:=h;by_cases hc:0<xs.length/\xs.length+ys.length<=1000000
  ·rw[if_pos hc] at h;obtain⟨a,us,rfl,ha,r1⟩:=rx.tup;obtain⟨b,ws,rfl,hb,r2⟩:=ry.tup;refine .inr ⟨a,b,us,ws,rfl,rfl,ha,hb,λz=>?_,?_,λz=>?_,λz l hl=>?_⟩
   ·have h1:=r1.length;have h2:=hc.1;rw[z] at h1;rw[h1] at h2;exact afh _ h2
   ·rw[<-r1.length,<-r2.length];exact z0b hc.2 dJ
   ·subst z;have:ys=[]:=aeA r2.length;subst this;rw[aeK] at h;exact fin h (iJ ha r1)
   ·exact h _ _ (Same.upd hl) (Rep.mX hl (r1.append r2))
  ·rw[if_neg hc] at h;exact h.elim
end
section
variable{K:PySem.W.Frag}{O:ad5->Prop}{H:Hp}
end
section
variable{X:Cx}{e e1 e2:aee}{f g:aA->R D}{pos:Pos}
end
end Pu
namespace Pu
open PySem PySem.W PyProof.Rows
variable{p:Array Nat}
def Sat{α:Type}(n:Nat)(lt:Nat->Nat->Bool):KasT α->(α->Prop)->Prop
 | .ret a,Q=>Q a
 | .ask i j k,Q=>i<n/\j<n/\Sat n lt (k (lt i j)) Q
section
variable{n:Nat}{lt:Nat->Nat->Bool}
theorem Sat.bind{α β:Type}{f:α->KasT β}{Q:β->Prop}:∀{t:KasT α},Sat n lt t (λa=>Sat n lt (f a) Q)->Sat n lt (t.bind f) Q
 | .ret _,h=>h
 | .ask i j k,h=>⟨h.1,h.2.1,Sat.bind h.2.2⟩
theorem Sat.mono{α:Type}{Q Q':α->Prop}(w:∀a,Q a->Q' a):∀{t:KasT α},Sat n lt t Q->Sat n lt t Q'
 | .ret _,h=>w _ h
 | .ask _ _ _,h=>⟨h.1,h.2.1,Sat.mono w h.2.2⟩
theorem Sat.wp{α:Type}{cmp:Nat->Nat->(Bool->ad8->Prop)->ad8->Prop}{s:ad8}{P:α->Prop}{Q:α->ad8->Prop}(hc:∀i j C,i<n->j<n->C (lt i j) s->cmp i j C s)(hQ:∀a,P a->Q a s):
  ∀{t:KasT α},Sat n lt t P->t.kasWp cmp Q s
 | .ret _,h=>hQ _ h
 | .ask i j k,h=>hc i j _ h.1 h.2.1 (Sat.wp hc hQ h.2.2)
structure Ord(n:Nat)(lt:Nat->Nat->Bool):Prop where
 tr:∀a b c,a<n->b<n->c<n->lt a b=true->lt b c=true->lt a c=true
 tot:∀a b,a<n->b<n->a≠b->lt a b=false->lt b a=true
structure Pm(n:Nat)(p:Array Nat):Prop where
 size:p.size=n
 perm:p.toList.Perm (ad6 n)
theorem Pm.bd(h:Pm n p){i:Nat}(hi:i<n):p.getD i 0<n:=by
 have hs:i<p.size:=by rw[h.size];exact hi
 have:p.getD i 0=p[i]:=by simp[ai5,hs]
 rw[this];have hm:p[i]∈p.toList:=by simp
 exact z2e (h.perm.mem_iff.mp hm)
theorem Pm.ne(h:Pm n p){i j:Nat}(hi:i<n)(hj:j<n)(hij:i≠j):p.getD i 0≠p.getD j 0:=by
 have hs:i<p.size:=by rw[h.size];exact hi
 have hs2:j<p.size:=by rw[h.size];exact hj
 have e1:p.getD i 0=p.toList[i]'(by simpa using hs):=by simp[ai5,hs]
 have e2:p.getD j 0=p.toList[j]'(by simpa using hs2):=by simp[ai5,hs2]
 rw[e1,e2];have nd:p.toList.Nodup:=h.perm.nodup_iff.mpr ahv;intro z;exact hij ((aiH nd).mp z)
theorem Pm.of{q:Array Nat}(h:Pm n p)(w:q.Perm p):Pm n q:=
 ⟨by rw[<-h.size];exact w.size_eq,(Array.perm_iff_toList_perm.mp w).trans h.perm⟩
def S(lt:Nat->Nat->Bool)(p:Array Nat)(k:Nat):Prop:=∀i j,i<j->j<k->lt (p.getD i 0) (p.getD j 0)=true
def De(lt:Nat->Nat->Bool)(p:Array Nat)(k:Nat):Prop:=∀i j,i<j->j<k->lt (p.getD j 0) (p.getD i 0)=true
theorem S.one:S lt p 1:=λi j h1 h2=>by omega
theorem S.ext(o:Ord n lt)(h:Pm n p){a:Nat}(ha:1<=a)(hn:a<n)(s:S lt p a)(e:lt (p.getD (a - 1) 0) (p.getD a 0)=true):S lt p (a+1):=λi j h1 h2=>by
 by_cases hj:j<a
 ·exact s i j h1 hj
 ·have ej:j=a:=by omega
  subst ej;by_cases hi:i=j - 1
  ·rw[hi];exact e
  ·exact o.tr _ _ _ (h.bd (by omega)) (h.bd (by omega)) (h.bd hn) (s i (j - 1) (by omega) (by omega)) e
theorem De.ext(o:Ord n lt)(h:Pm n p){a:Nat}(ha:1<=a)(hn:a<n)(s:De lt p a)(e:lt (p.getD a 0) (p.getD (a - 1) 0)=true):De lt p (a+1):=λi j h1 h2=>by
 by_cases hj:j<a
 ·exact s i j h1 hj
 ·have ej:j=a:=by omega
  subst ej;by_cases hi:i=j - 1
  ·rw[hi];exact e
  ·exact o.tr _ _ _ (h.bd hn) (h.bd (by omega)) (h.bd (by omega)) e (s i (j - 1) (by omega) (by omega))
theorem Ia(o:Ord n lt){p:Array Nat}(h:Pm n p):∀(f a:Nat),1<=a->a+f<=n->S lt p a->Sat n lt (kas_asc p f a) (λm=>a<=m/\m<=a+f/\S lt p m/\(m<a+f->lt (p.getD m 0) (p.getD (m - 1) 0)=true))
 |0,a,h1,h2,s=>⟨z0g _,z0g _,s,λz=>absurd z (by omega)⟩
 | f +1,a,h1,h2,s=>by
  refine⟨h.bd (by omega),h.bd (by omega),?_⟩;cases e:lt (p.getD a 0) (p.getD (a - 1) 0) with
  |true=>exact⟨z0g _,by omega,s,λ_=>e⟩
  | false=>
   have e':=o.tot _ _ (h.bd (by omega)) (h.bd (by omega)) (h.ne (i:=a) (j:=a - 1) (by omega) (by omega) (by omega)) e;show Sat n lt (kas_asc p f (a+1)) _;refine Sat.mono (λm ⟨m1,m2,m3,m4⟩=>⟨by omega,by omega,m3,λz=>m4 (by omega)⟩) (Ia o h f (a+1) (by omega) (by omega) (S.ext o h h1 (by omega) s e'))
theorem Mr(o:Ord n lt){p:Array Nat}(h:Pm n p):∀(f a:Nat),1<=a->a+f<=n->De lt p a->Sat n lt (kas_desc f p a 0) (λr=>r.1=p/\r.2.2=0/\a<=r.2.1/\r.2.1<=a+f/\De lt p r.2.1)
 |0,a,h1,h2,s=>⟨rfl,rfl,z0g _,z0g _,s⟩
 | f +1,a,h1,h2,s=>by
  refine⟨h.bd (by omega),h.bd (by omega),?_⟩;cases e:lt (p.getD a 0) (p.getD (a - 1) 0) with
  | true=>
   show Sat n lt (kas_desc f p (a+1) 0) _;exact Sat.mono (λr ⟨m1,m2,m3,m4,m5⟩=>⟨m1,m2,by omega,by omega,m5⟩) (Mr o h f (a+1) (by omega) (by omega) (De.ext o h h1 (by omega) s e))
  | false=>
   have e':=o.tot _ _ (h.bd (by omega)) (h.bd (by omega)) (h.ne (i:=a) (j:=a - 1) (by omega) (by omega) (by omega)) e;refine⟨h.bd (by omega),h.bd (by omega),?_⟩;rw[e'];exact⟨rfl,rfl,z0g _,ahw _ _,s⟩
theorem Cy{q:Array Nat}{i j:Nat}(h:p[i]?=q[j]?):p.getD i 0=q.getD j 0:=by
 rw[aie,aie,h]
theorem Vq(o:Ord n lt)(h:Pm n p){m:Nat}(h1:1<=m)(h2:m<=n)(s:De lt p m):Sat n lt (kas_tail3 m n p) (λr=>Pm n r.2/\1<=r.1/\r.1<=n/\S lt r.2 r.1):=by
 have hq:Pm n (kas_rev p 0 m):=h.of (mirror_perm _ _ _ _);have hs:S lt (kas_rev p 0 m) m:=λi j hij hj=>by
  have g:∀k,k<m->(kas_rev p 0 m).getD k 0=p.getD (m - 1 - k) 0:=λk hk=>by
   apply Cy;show (mirror p 0 m ((m - 0) / 2))[k]?=_;rw[getElem?_mirror_all (by rw[h.size];exact h2),if_pos ⟨by omega,hk⟩];congr 1;omega
  rw[g i (by omega),g j hj];exact s (m - 1 - j) (m - 1 - i) (by omega) (by omega)
 exact Sat.bind (Sat.mono (λk ⟨k1,k2,k3,_⟩=>⟨hq,by omega,by omega,k3⟩) (Ia o hq (n - m) m h1 (by omega) hs))
theorem Vr(o:Ord n lt)(h:Pm n p)(hn:1<=n):Sat n lt (kas_count n p) (λr=>Pm n r.2/\1<=r.1/\r.1<=n/\S lt r.2 r.1):=by
 refine Sat.bind (Sat.mono (λm ⟨m1,m2,m3,m4⟩=>?_) (Ia o h (n - 1) 1 (z0g _) (by omega) S.one));by_cases e:m=n
 ·rw[if_pos (by simp[e])];exact⟨h,m1,by omega,m3⟩
 ·rw[if_neg (by simp[e])];by_cases hm:m > 1
  ·rw[if_pos hm];refine⟨h.bd (by omega),h.bd (by omega),?_⟩;rw[m3 0 (m - 1) (by omega) (by omega)];exact⟨h,m1,by omega,m3⟩
  ·rw[if_neg hm];have em:m=1:=by omega
   subst em;have e0:=m4 (by omega);have d2:De lt p 2:=De.ext o h (a:=1) (z0g _) (by omega) (λi j a1 a2=>by omega) e0;refine Sat.bind (Sat.mono (λr ⟨r1,r2,r3,r4,r5⟩=>?_) (Mr o h (n - (1+1)) (1+1) (by omega) (by omega) d2));rw[if_neg (by omega),r1];exact Vq o h (by omega) (by omega) r5
theorem zN(o:Ord n lt){p:Array Nat}(h:Pm n p){k:Nat}(hk:k<n)(s:S lt p k):∀(f l r:Nat),l<=r->r<=k->r - l<=f->(∀i,i<l->lt (p.getD i 0) (p.getD k 0)=true)->(∀i,r<=i->i<k->lt (p.getD k 0) (p.getD i 0)=true)->
  Sat n lt (kas_place p k f l r) (λm=>m<=k/\(∀i,i<m->lt (p.getD i 0) (p.getD k 0)=true)/\∀i,m<=i->i<k->lt (p.getD k 0) (p.getD i 0)=true)
 |0,l,r,h1,h2,h3,hl,hr=>⟨by omega,hl,λi a b=>hr i (by omega) b⟩
 | f+1,l,r,h1,h2,h3,hl,hr=>by
  unfold kas_place;by_cases hlr:l>=r
  ·rw[if_pos hlr];exact⟨by omega,hl,λi a b=>hr i (by omega) b⟩
  ·rw[if_neg hlr];have hm:(l+r) / 2<k:=by omega
   refine⟨h.bd hk,h.bd (by omega),?_⟩;cases e:lt (p.getD k 0) (p.getD ((l+r) / 2) 0) with
   | true=>
    refine zN o h hk s f l ((l+r) / 2) (by omega) (by omega) (by omega) hl λi a b=>?_;by_cases hi:i=(l+r) / 2
    ·rw[hi];exact e
    ·exact o.tr _ _ _ (h.bd hk) (h.bd (by omega)) (h.bd (by omega)) e (s _ _ (by omega) b)
   | false=>
    have e':=o.tot _ _ (h.bd hk) (h.bd (by omega)) (h.ne (i:=k) (j:=(l+r) / 2) hk (by omega) (by omega)) e;refine zN o h hk s f ((l+r) / 2+1) r (by omega) h2 (by omega) (λi a=>?_) hr;by_cases hi:i=(l+r) / 2
    ·rw[hi];exact e'
    ·exact o.tr _ _ _ (h.bd (by omega)) (h.bd (by omega)) (h.bd hk) (s i ((l+r) / 2) (by omega) hm) e'
theorem Ra(o:Ord n lt):∀(f:Nat) (p:Array Nat) (k:Nat),Pm n p->S lt p k->k+f<=n->Sat n lt (kas_bin f p k) (λq=>Pm n q/\S lt q (k+f))
 |0,p,k,h,s,_=>⟨h,s⟩
 | f+1, p, k,h,s,hk=>by
  refine Sat.bind (Sat.mono (λl ⟨l1,l2,l3⟩=>?_) (zN o h (by omega) s k 0 k (afN _) (z0g _) (by omega) (λi a=>by omega) λi a b=>by omega));have hq:Pm n (bubble p k (k - l)):=h.of (bubble_perm _ _ _);have g:∀i,(bubble p k (k - l)).getD i 0=if i=l then p.getD k 0 else if l<i/\i<=k then p.getD (i - 1) 0 else p.getD i 0:=λi=>by
   have e:=getElem?_bubble (xs:=p) (src:=k) (by rw[h.size];omega) (k - l) (by omega) i;rw[show k - (k - l)=l by omega] at e;by_cases c1:i=l
   ·rw[if_pos c1] at e |-;exact Cy e
   ·rw[if_neg c1] at e |-;by_cases c2:l<i/\i<=k
    ·rw[if_pos c2] at e |-;exact Cy e
    ·rw[if_neg c2] at e |-;exact Cy e
  have hs : S lt (bubble p k (k - l)) (k+1):=λi j hij hj=>by
   rw[g i,g j];by_cases c1:i=l
   ·rw[if_pos c1,if_neg (by omega),if_pos ⟨by omega,by omega⟩];exact l3 (j - 1) (by omega) (by omega)
   ·rw[if_neg c1];by_cases c2:l<i/\i<=k
    ·rw[if_pos c2,if_neg (by omega),if_pos ⟨by omega,by omega⟩];exact s (i - 1) (j - 1) (by omega) (by omega)
    ·rw[if_neg c2];have hil:i<l:=by omega
     by_cases c3:j=l
     ·rw[if_pos c3];exact l2 i hil
     ·rw[if_neg c3];by_cases c4:l<j/\j<=k
      ·rw[if_pos c4];by_cases c5:i=j - 1
       ·omega
       ·exact s i (j - 1) (by omega) (by omega)
      ·rw[if_neg c4];exact s i j hij (by omega)
  have:=Ra o f (bubble p k (k - l)) (k+1) hq hs (by omega);exact Sat.mono (λq ⟨q1,q2⟩=>⟨q1,by rw[show k+(f+1)=k+1+f by omega];exact q2⟩) this
theorem XS(o:Ord n lt)(hn:1<=n):Sat n lt (kas_sort n) (λq=>Pm n q/\S lt q n):=by
 have h0:Pm n (agl (ad6 n)):=⟨by simp,by simp⟩;refine Sat.bind (Sat.mono (λr ⟨r1,r2,r3,r4⟩=>?_) (Vr o h0 hn));by_cases hr:r.1<n
 ·rw[if_pos hr];have e:max r.1 1=r.1:=by omega
  rw[e];refine Sat.mono (λq ⟨q1,q2⟩=>⟨q1,?_⟩) (Ra o (n - r.1) r.2 r.1 r1 r4 (by omega));rw[show r.1+(n - r.1)=n by omega] at q2;exact q2
 ·rw[if_neg hr];have e:r.1=n:=by omega
  rw[e] at r4;exact⟨r1,r4⟩
end
end Pu
namespace Pu
open PySem PySem.Spec PySem.W L2
open PyProof.Rows hiding St
variable{vs:List ad7}
theorem FQ{h:aeo}{a b:ad5}{out:Array ad7}{o:Obj}(hb:b≠a)(e:h.get? b=some o):(ahQ h a vs out).get? b=some o:=by
 unfold ahQ;rw[ag2 _ _ _ _ hb];exact z1a _ (z1a _ (by rw[ag2 _ _ _ _ hb];exact e))
theorem sortedHeap_at{h:aeo}{a:ad5}{out:Array ad7}{n:Nat}(e:h.get? a=some (afH "list" vs.toArray n)):∃c,(ahQ h a vs out).get? a=some (afH "list" out c):=by
 unfold ahQ;have h1:=ahR e (λ_=>(#[]:Array ad7));exact⟨_,ahR (z1a _ (z1a _ h1)) λ_=>out⟩
theorem Vs(vs:List ad7)(h:vs.length<2):(vs.toArray.zip vs.toArray).map (·.2)=agl ((agl (ad6 vs.length)).toList.map λi=>vs.getD i aez):=by
 match vs,h with
 |[],_=>simp
 |[v],_=>simp[ahS]
 |_::_::_,h=>exact absurd h (by simp)
section
variable{prog:aek}{w:aep}{A:aer}{E:ad7->ad8->Prop}{s:ad8}
theorem aaw{a:ad5}{n:Nat}{P:PySem.Fin->ad8->Prop}{lt:Nat->Nat->Bool}{kk:SortKind}(ho:s.heap.get? a=some (afH "list" vs.toArray n))(h64:vs.length<64)(od:Ord vs.length lt)
  (kind:2<=vs.length->∀h':aeo,(∀b ob,b≠a->s.heap.get? b=some ob->h'.get? b=some ob)->∀Q:SortKind->ad8->Prop,Q kk {s with heap:=h'}->aec (model prog w) A (keyKind' vs.toArray) Q (λ_ _=>False) {s with heap:=h'})
  (ask:∀h':aeo,(∀b ob,b≠a->s.heap.get? b=some ob->h'.get? b=some ob)->∀i j C,i<vs.length->j<vs.length->C (lt i j) {s with heap:=h'}->kas_ask prog w A kk vs i j C {s with heap:=h'})
  (h:∀q:Array Nat,Pm vs.length q->S lt q vs.length->P (.done (.ret .none)) {s with heap:=ahQ s.heap a vs (agl (q.toList.map λi=>vs.getD i aez))}):
  aec (model prog w) A (afA.«list.sort» ⟨[.ref a],[]⟩) P E s:=by
 rw[list_sort_plain];have ha:a<s.heap.objs.size:=z2c ho;refine ad4 (listItems_at ho rfl ?_);refine ad4 (ain ho rfl ?_ (by rw[z1c,aft];omega) (afN _));obtain⟨e1,ho1⟩:∃e1,(s.heap.update a (afd λ_=>(#[]:Array ad7))).get? a=some (afH "list" #[] e1):=⟨_,ahR ho (λ_=> #[])⟩;refine ad4 (seqEpoch_at ho1 rfl ?_);refine ad4 (wpAny_newTuple ?_ (by show vs.length<=_;rw[aft];omega));refine ad4 (aio ?_ (afN _));refine afv ?_
 generalize hh6:((s.heap.update a (afd λ_=>(#[]:Array ad7))).push (afH "tuple" vs.toArray 0)).push (afH "list" #[] 0)=h6
 have ho6:h6.get? a=some (afH "list" #[] e1):=by
  rw[<-hh6];exact z1a _ (z1a _ ho1)
 have keep:∀b ob,b≠a->s.heap.get? b=some ob->h6.get? b=some ob:=λb ob hb e=>by
  rw[<-hh6];exact z1a _ (z1a _ (by rw[ag2 _ _ _ _ hb];exact e))
 have hsh:∀out:Array ad7,ahQ s.heap a vs out=h6.update a (afd λ_=>out):=λout=>by rw[<-hh6];rfl
 show aec (model prog w) A _ P E {s with heap:=h6}
 dsimp only
 have hsz:vs.toArray.size=vs.length:=by simp
 by_cases h2:vs.toArray.size<2
 ·rw[if_pos h2,if_pos h2];refine ad4 (ad9 ?_);rw[StateT.run_pure];refine ad4 (ad9 ?_)
  dsimp only
  refine ad4 (seqEpoch_at ho6 rfl ?_);refine ad4 (ain ho6 rfl ?_ (afN _) (by show (((pairsOf vs)).map (·.2)).size<=_;rw[Array.size_map,pairsOf_size,aft];omega));simp only[bne_self_eq_false,afg,if_false];have q:=h (agl (ad6 vs.length)) ⟨by simp,by simp⟩ (λi j h1 h3=>by omega);rw[hsh] at q;have eo:(arrOf (SortSt.mk' general' (vs.toArray.zip vs.toArray) #[] 7 none)).map (·.2)=agl ((agl (ad6 vs.length)).toList.map λi=>vs.getD i aez):=by
   show (vs.toArray.zip vs.toArray).map (·.2)=_;exact Vs vs (by rw[<-hsz];exact h2)
  refine ad9 ?_;show P _ {s with heap:=h6.update a (afd λ_=>(arrOf (SortSt.mk' general' (vs.toArray.zip vs.toArray) #[] 7 none)).map (·.2))};rw[eo];exact q
 ·rw[if_neg h2,if_neg h2];have h2':2<=vs.length:=by rw[hsz] at h2;omega
  refine ad4 (ae0 (kind h2' h6 keep (λκ s'=>κ=kk/\s'={s with heap:=h6}) ⟨rfl,rfl⟩) (λκ s0 hk=>?_) λ_ _ x=>x.elim);obtain⟨rfl,rfl⟩:=hk;have wp:(kas_sort vs.length).kasWp (kas_ask prog w A κ vs) (λp s''=>(Pm vs.length p/\S lt p vs.length)/\s''={s with heap:=h6}) {s with heap:=h6}:=
   Sat.wp (ask h6 keep) (λp hp=>⟨hp,rfl⟩) (XS od (by omega))
  refine ad4 (ae0 (kat_run (Q:=λst' s'=>∃p:Array Nat,p.size=vs.length/\arrOf st'=p.map (kas_item (vs.toArray.zip vs.toArray))/\failedOf st'=none/\(Pm vs.length p/\S lt p vs.length)/\s'={s with heap:=h6})
   rfl h2' h64 (λp' st' s' a1 a2 a3 a4=>⟨p',a1,a2,a3,a4⟩) wp) ?_ λ_ _ e=>e)
  rintro⟨⟨⟩,st'⟩ s' ⟨p,hp,har,hf,⟨hpm,hps⟩,rfl⟩
  dsimp only
  have hout:=kat_snds rfl har;rw[hout];refine ad4 (seqEpoch_at ho6 rfl ?_);refine ad4 (ain ho6 rfl ?_ (afN _) (by show (agl (p.toList.map λi=>vs.getD i aez)).size<=_;rw[z1c,z1g,afR,hp,aft];omega));rw[hf];simp only[bne_self_eq_false,afg,if_false];have q:=h p hpm hps;rw[hsh] at q;exact ad9 q
end
section
variable{prog:aek}{w:aep}{A:aer}{E:ad7->ad8->Prop}{s:ad8}
end
section
variable{X:Cx}{pins:List (ad5×Obj)}{σ:St}{H:Hp}{s:ad8}
end
theorem Rb:∀as:List ad5,Vals (as.map V.ref) (as.map aew)
 |[]=> .nil
 |a::as=> .cons rfl (Rb as)
section
variable{X:Cx}
end
section
variable{X:Cx}
end
end Pu
namespace Pu
open PySem PySem.Spec L2
open PyProof.Rows hiding St
section
variable{X:Cx}{a b:aee}{es:List aee}{f g:aA->R D}{fa:aA->R (List D)}{pos:Pos}
def Ib(i k:Nat)(f g:aA->R D):aA->So:=λρ=>fZ (f ρ) ρ λd=>fZ (g ρ) ρ λe=> .nx ((ρ.set i (some (.val d))).set k (some (.val e)))
theorem Vt(i k:Nat){x y:Str}{px py pt:Pos}{kt k2 pt2}(hc:X.calm=true)(hN:X.N.Nodup)(ha:DE X a f)(hb:DE X b g)(hi:X.N[i]?=some x:=by rfl)(hk:X.N[k]?=some y:=by rfl)(hik:i≠k:=by decide)
  (hx:X.env.scope.names.lookup x=some .local:=by rfl)(hy:X.env.scope.names.lookup y=some .local:=by rfl)
  (h1:aea [a,b] X.env=(false,eval a X.env)::aea [b] X.env:=by rfl)(h2:aea [b] X.env=(false,eval b X.env)::aea [] X.env:=by rfl)
  (hw:afV [.Tuple [.Name x px,.Name y py] kt pt] (.Tuple [a,b] k2 pt2) X.env=pure (some [x,y]):=by rfl)
  (hs:afU [.Tuple [.Name x px,.Name y py] kt pt] (.Tuple [a,b] k2 pt2) pos.line X.env=pure false:=by rfl):
  DS X (.Assign [.Tuple [.Name x px,.Name y py] kt pt] (.Tuple [a,b] k2 pt2) pos) (Ib i k f g):=by
 refine PS.imp (ps_par hc hN hi hk hik hx hy (pa_cons ha (pa_cons hb pa_nil h2) h1) hw hs) λσ H E h=>?_;obtain⟨H0,O0,O,ρ,j,h⟩:=h;refine⟨ρ,O,j.inn,?_⟩;unfold Ib fZ at h;cases e1:f ρ with
 |bad=>rw[e1] at h;exact h
 |err c=>rw[e1] at h;exact h σ H O j
 | ok d=>
  rw[e1] at h;intro v H1 s1 rv;have j1:=j.grow s1;refine⟨ρ,O,j1.inn,?_⟩;cases e2:g ρ with
  |bad=>simp only[e2] at h;exact h
  |err c=>simp only[e2] at h;exact Fx.same (h σ H O j) s1
  | ok e=>
   simp only[e2] at h;intro w H2 s2 rw2;refine⟨v,w,rfl,?_⟩;exact h _ H2 O (((j1.grow s2).set (z1b hi).1 (rv.same s2)).set (z1b hk).1 rw2) ((Same.dR s1).trans (Same.dR s2))
def Ms(i k:Nat)(f:aA->R D)(fa:aA->R (List D)):aA->So:=λρ=>fZ (f ρ) ρ λd=>match fa ρ with
 | .ok ds=>if ds.length<=1000000 then .nx ((ρ.set i (some (.val d))).set k (some (.lst ds))) else .bad
 |_=> .bad
theorem aax(i k:Nat){x y:Str}{px py pt p3:Pos}{kt k2 pt2}(hc:X.calm=true)(hN:X.N.Nodup)(ha:DE X a f)(hb:DA X es fa)(hi:X.N[i]?=some x:=by rfl)(hk:X.N[k]?=some y:=by rfl)
  (hx:Loc X.env.scope x:=by first |exact aeM rfl |exact aeB rfl)(hy:Loc X.env.scope y:=by first |exact aeM rfl |exact aeB rfl)
  (hfx:X.fn x=true\/X.env.scope.names.lookup x=some .local:=by first |exact .inl rfl |exact .inr rfl)(Mf:X.fn y=true\/X.env.scope.names.lookup y=some .local:=by first |exact .inl rfl |exact .inr rfl)
  (h1:aea [a,.List es p3] X.env=(false,eval a X.env)::aea [.List es p3] X.env:=by rfl)(h2:aea [.List es p3] X.env=(false,eval (.List es p3) X.env)::aea [] X.env:=by rfl)
  (hs:afU [.Tuple [.Name x px,.Name y py] kt pt] (.Tuple [a,.List es p3] k2 pt2) pos.line X.env=pure false:=by rfl)(hw:afV [.Tuple [.Name x px,.Name y py] kt pt] (.Tuple [a,.List es p3] k2 pt2) X.env=pure none:=by rfl):
  DS X (.Assign [.Tuple [.Name x px,.Name y py] kt pt] (.Tuple [a,.List es p3] k2 pt2) pos) (Ms i k f fa):=by
 refine PS.imp (ps_asg (pe_tup (pa_cons ha (pa_cons (HY hb) pa_nil h2) h1)) (pg_tup hc (pgs_cons (pg_name hN hi hx hfx) (pgs_cons (pg_name hN hk hy Mf) pgs_nil))) hs hw) λσ H E h=>?_;obtain⟨H0,O0,O,ρ,j,h⟩:=h;refine⟨ρ,O,j.inn,?_⟩;unfold Ms fZ at h;cases e1:f ρ with
 |bad=>rw[e1] at h;exact h
 |err c=>rw[e1] at h;exact h σ H O j
 | ok d=>
  rw[e1] at h;intro v H1 s1 rv;have j1:=j.grow s1;refine⟨ρ,O,j1.inn,?_⟩;cases e2:fa ρ with
  |bad=>simp only[e2] at h;exact h
  |err c=>simp only[e2] at h;exact h.elim
  | ok ds=>
   simp only[e2] at h;by_cases hl:ds.length<=1000000
   ·simp only[if_pos hl] at h;intro vs H2 s2 rvs;refine⟨by rw[<-rvs.length];exact z0b hl dJ,λp hp hpk=>?_⟩;refine⟨by show 2<=sizeLine;decide,λt ht=>?_⟩;refine⟨t,[v,.ref p],rfl,SqT.of upd_same,rfl,v,[.ref p],rfl,.ref p,[],rfl,rfl,?_⟩;have j2:=(j1.grow s2).set (z1b hi).1 (rv.same s2);obtain⟨j3,r3⟩:=j2.own (z1b hk).1 (o:= .lst vs) (en:= .lst ds) hp hpk rfl ⟨p,vs,rfl,.inr rfl,upd_same,rvs.go ⟨(Same.dR (K:=X.K) (O:=O) (Same.upd hp)).ext,λa z=>z.elim .inl λe=> .inr (by rw[e];exact⟨hp,hpk⟩),(Same.dR (K:=X.K) (O:=O) (Same.upd hp)).dom⟩⟩;have s4:Same (upd H2 p (.lst vs)) (upd (upd H2 p (.lst vs)) t (.tup [v,.ref p])):=Same.upd ht;exact h _ _ _ (j3.grow s4) ((((Same.dR s1).trans (Same.dR s2)).trans r3).trans (Same.dR s4))
   ·simp only[if_neg hl] at h;exact h.elim
end
def Cz(s:String):Bool:=s == "int" || s == "bool"
def xM(s:String):Bool:=s == "bool"
def eO(s:String):Bool:=s == "tuple"
def Mt(s:String):Bool:=s == "list"
def eN(P:aek)(w:aep)(K:PySem.W.Frag)(mg:Str->Option ad7)(base:aeo)(k:Nat)(x:Str)(n:Nat)(F:List D->R D):Prop:=
 ∃f fd ps,FnOk P w K mg base CX0 k f fd ps (Mi K n F)/\mg x=some (.ref f)/\PySem.W.keepIn K (.ref f)=true/\Binds K fd ps []
theorem bH{X:Cx}{k n m:Nat}{F:List D->R D}{x:Str}{p pos:Pos}{e:aee}{es:List aee}{fa:aA->R (List D)}(G:eN X.prog X.w X.K X.mg X.base k x n F)(hr:Room m X.A)(hkm:k<=m)(ha:DA X (e::es) fa)(hg:Gl X x:=by rfl)
  (hdb:(x ==("__debug__" :Str))=false:=by decide)(he:aea (e::es) X.env=(false,eval e X.env)::aea es X.env:=by rfl)(hpl:(aeR pos (aea es X.env)).any (·.1)=false:=by rfl):
  DE X (.Call (.Name x p) (e::es) [] pos) (aD (aV F n) fa):=by
 obtain⟨f,fd,ps,ok,hm,hk,hb⟩:=G;exact aav ok (hr.mono hkm) hg hm hk hb ha hdb he hpl
theorem dH{A:aer}{k:Nat}(hr:Room k A):A.units+60<afJ:=by have:=hr.un;omega
theorem abP{P:aek}{w:aep}{K:PySem.W.Frag}{mg:Str->Option ad7}{base:aeo}{x qual:Str}{st:aeu}{f:ad5}{fd:aeU}{N ps:List Str}{k n m:Nat}{g:aA->So}(Fn:Fun K x qual st f fd)(hmg:mg x=some (.ref f))(hb:Binds K fd ps [])(S:FnScope N ps (defScope st))(hn:ps.length=n)(hm:N.length=n+m)
  (hbody:∀(cdv:ad7) (A:aer) (outer:List PySem.Env) (s:ad8) (H:Hp) (E:XK),Room k (A.deeper (afP qual (defScope st) s.heap.objs.size f cdv))->kI (cxOf CX0 P w K mg base N qual (defScope st) f cdv A outer s H E).nox (defBody st) g):
  eN P w K mg base (k+1) x n (cu m g):=⟨f,fd,ps,fnD Fn S hn hm hbody λds d _ e=>e,hmg,Fn.kp,hb⟩
theorem sp_law{K:PySem.W.Frag}{F:List D->R D}{H:Hp}{a:ad5}{ns:List Int}{E:XK}(hS:SqL K H a (ns.map V.int))(hF:F [.lst (ns.map D.int)]= .ok (.bl true)):Mi K 1 F [.ref a] H (λv _=>v= .bl true) E:=by
 refine⟨λ_=>False,[.lst (ns.map D.int)],.cons (lG hS (λz=>z) ?_) .nil,rfl,λa z=>z.elim,?_⟩
 ·have:∀l:List Int,aP K (λ_=>False) H (l.map D.int) (l.map V.int):=by
   intro l
   induction l with
   |nil=>exact .nil
   |cons i l ih=>exact .cons (cB i) ih
  exact this ns
 ·rw[hF];exact λv H' _ r=>r.bl
end Pu
namespace Pu
open PySem PySem.Spec L2
variable{d:D}{gt:D->aA->R aA}{i j:Int}{xs:List D}{α:Type}{l:List α}{ρ:aA}
theorem Rc{α:Type}{k:D->R (Option D)}{c h:α->D}:∀{l:List α},(∀a∈l,k (c a)= .ok (some (h a)))->jY k (l.map c)= .ok (l.map h)
 |[],_=>rfl
 | a::l,q=>by
  rw[z1h,jY,q a (by simp),wH,R.bf,Rc λb hb=>q b (by simp[hb])];rfl
theorem FW{α:Type}{c:α->Bool}:∀{l:List α},boolsOf (l.map λa=> .bl (c a))=some (l.map c)
 |[]=>rfl
 | a::l=>by
  rw[z1h,boolsOf,FW];rfl
theorem uL{α:Type}{c:α->Int}:∀{l:List α},intsOf (l.map λa=> .int (c a))=some (l.map c)
 |[]=>rfl
 | a::l=>by
  rw[z1h,intsOf,uL];rfl
theorem jR{α:Type}{c:α->D}{n:Nat}:∀{l:List α},(∀a∈l,dep (c a)<=n)->deps (l.map c)<=n
 |[],_=>by rw[agz,deps];omega
 | a::l,h=>by
  rw[z1h,deps];have:=h a (by simp);have:=jR (l:=l) λb hb=>h b (by simp[hb]);omega
theorem iU{e:D}(h:d=e)(hd:dep d<=40):iC d e= .ok (.bl false):=by
 subst h;rw[iC,if_pos hd,Ed];rfl
theorem Ej{e:D}(h:d=e)(hd:dep d<=40):kO d e= .ok (.bl true):=by
 subst h;rw[kO,if_pos hd,Ed]
theorem all_true:(l.map λ_=>true).all id=true:=by
 induction l with
 |nil=>rfl
 |cons a l ih=>rw[z1h,agg,ih];rfl
theorem atI_nat{xs:List α}{j:Nat}(h:j<xs.length):atI xs (j:Int)=some xs[j]:=by
 unfold atI ixN;rw[if_pos (by omega),if_pos (by omega),aeQ,ahx,aem h]
theorem wJ{xs:List α}(h0:0<=i)(h1:i<xs.length):∃x∈xs,atI xs i=some x:=by
 obtain⟨j,rfl⟩:=afz h0;have hj:j<xs.length:=by omega
 exact⟨xs[j],agX hj,atI_nat hj⟩
theorem bC{n:Nat}{caps:List Nat}{fi:aA->R (List D)}{ft:aA->R Bool}{fe:aA->R D}{c h:α->D}(e1:fi ρ= .ok (l.map c))(hl:l.length<=1000000)
  (e2:∀a∈l,oZ gt ft fe (Cv n caps ρ) (c a)= .ok (some (h a))):bA n caps fi gt ft fe ρ= .ok (.lst (l.map h)):=by
 rw[bA,e1,R.bf,Rc e2,R.bf,cap,if_pos (by rw[z1g];exact hl)]
def look:List (Int×Int)->Int->Int
 |[],_=>0
 |(k,v)::r,c=>if k=c then v else look r c
abbrev keys(ps:List (Int×Int)):List Int:=ps.map (·.1)
section
variable{ρ ρ':aA}{f g:aA->R D}{fa:aA->R (List D)}{p q:aA->R Bool}{x y d:D}{xs ds:List D}{r:R D}{k:D->D->R D}{c:List D->R D}{n:Nat}{F:List D->R D}{o:So}{s t:aA->So}{gt:D->aA->R aA}{b:Bool}
theorem aO(e:fa ρ= .ok ds)(h:c ds=r):aD c fa ρ=r:=by rw[aD,e];exact h
theorem aX(e:fa ρ= .ok ds)(h:F ds= .ok d)(hl:ds.length=n:=by rfl):aD (aV F n) fa ρ= .ok d:=by rw[aD,e,R.bf,aV,if_pos hl,h];rfl
theorem aB(e1:f ρ= .ok x)(e2:fa ρ= .ok xs):ak f fa ρ= .ok (x::xs):=by rw[ak,e1,R.bf,e2];rfl
theorem ao(e:f ρ= .ok x):ak f (λ_=> .ok []) ρ= .ok [x]:=aB e rfl
theorem au(e1:f ρ= .ok x)(e2:g ρ= .ok y)(h:k x y=r):bin f g k ρ=r:=by rw[bin,e1,R.bf,e2];exact h
theorem zO(e1:f ρ= .ok (.bl true))(e2:g ρ=r):zF f g ρ=r:=by rw[zF,e1];exact e2
theorem wK{h:aA->R D}{l:D->D->R D}{z:D}(e1:f ρ= .ok x)(e2:g ρ= .ok y)(e3:k x y= .ok (.bl true))(e4:h ρ= .ok z)(e5:l y z=r):zE f g h k l ρ=r:=by
 rw[zE,e1,R.bf,e2,R.bf,e3,R.bf];show (h ρ).bind _=_;rw[e4];exact e5
theorem cO(e:fa ρ= .ok ds)(h:ds.length<=1000000:=by exact agS rfl):dh fa ρ= .ok (.tup ds):=by rw[dh,e,R.bf,cap,if_pos h]
theorem dG(e:fa ρ= .ok ds)(h:ds.length<=1000000:=by exact agS rfl):dM fa ρ= .ok (.lst ds):=by rw[dM,e,R.bf,cap,if_pos h]
theorem abQ(e:f ρ= .ok (.tup ds)):Tv f ρ= .ok (.tup ds.reverse):=by rw[Tv,e];rfl
theorem cZ(e:f ρ= .ok (.tup ds)):dO f ρ= .ok ds:=by rw[dO,e];rfl
theorem jT(e:f ρ= .ok (.lst ds)):dO f ρ= .ok ds:=by rw[dO,e];rfl
theorem gJ{m:Nat}(e:fa ρ= .ok [.int (m:Int)])(h:m<2^62):(λρ=>(fa ρ).bind gQ) ρ= .ok ((ad6 m).map λ(i:Nat)=>D.int (i:Int)):=by
 show (fa ρ).bind gQ=_;rw[e,R.bf,gQ,if_pos ⟨by have:(0:Int)<=m:=agM m;omega,by omega⟩];simp[upto]
theorem bK{ρ1:aA}(e1:gt x ρ= .ok ρ1)(e2:f ρ1= .ok d):oZ gt (λ_=> .ok true) f ρ x= .ok (some d):=by
 rw[oZ,e1,R.bf,R.bf,if_pos rfl,e2];rfl
theorem aN(e:f ρ= .ok (.bl b)):cg f ρ= .ok b:=by rw[cg,e];rfl
theorem cP(e:p ρ= .ok b):kh p ρ= .ok (!b):=by rw[kh,e];rfl
theorem f9(e1:p ρ= .ok false)(e2:q ρ= .ok b):sU p q ρ= .ok b:=by rw[sU,e1,R.bf,if_neg (by decide)];exact e2
theorem jU(e1:p ρ= .ok true)(e2:q ρ= .ok b):lV p q ρ= .ok b:=by rw[lV,e1,R.bf,if_pos rfl];exact e2
theorem wL(e1:p ρ= .ok false):lV p q ρ= .ok false:=by rw[lV,e1,R.bf,if_neg (by decide)]
theorem gK{i:Nat}(h:xs[i]?=some d):bW (.tup xs) (.int (i:Int))= .ok d:=by
 obtain⟨hi,e⟩:=z1b h;rw[bW,atI_nat hi,e]
theorem FZ{i:Nat}(h:xs[i]?=some d):bW (.lst xs) (.int (i:Int))= .ok d:=by
 obtain⟨hi,e⟩:=z1b h;rw[bW,atI_nat hi,e]
theorem aK(e1:s ρ= .nx ρ')(e2:t ρ'=o):aR s t ρ=o:=by rw[aR,e1];exact e2
theorem bw(e:f (dN ρ)= .ok d):retS f ρ= .rt d:=by rw[retS,e];rfl
theorem aZ(e:f ρ= .ok d)(e2:gt d ρ= .ok ρ'):bB f gt ρ= .nx ρ':=by rw[bB,e];show (match gt d ρ with | .ok ρ'=>So.nx ρ' |_=> .bad)=_;rw[e2]
theorem pq(e:f (dN ρ)= .ok d):jc f ρ= .nx ρ:=by rw[jc,e];rfl
theorem cX(e:p (dN ρ)= .ok true)(e2:s ρ=o):dU p s t ρ=o:=by rw[dU,e];exact e2
theorem bU(e:p (dN ρ)= .ok false)(e2:t ρ=o):dU p s t ρ=o:=by rw[dU,e];exact e2
theorem bR{m:Nat}(e:s (ds.map (λd=>some (.val d))++aeb m none)= .rt d):cu m s ds= .ok d:=by rw[cu,e]
theorem Ga{m:Nat}(e:s (ds.map (λd=>some (.val d))++aeb m none)= .nx ρ):cu m s ds= .ok .non:=by rw[cu,e]
theorem mq(h:(-(2^64)<i/\i<2^64)\/(-(2^64)<j/\j<2^64)):gO (.int i) (.int j)= .ok (.int (i*j)):=by
 show (if _ then _ else _)=_;rw[if_pos h]
theorem nJ(h:0<j/\j<2^64):gP (.int i) (.int j)= .ok (.int (i / j)):=by
 show (if _ then _ else _)=_;rw[if_pos h]
theorem nM(h:0<j):gF (.int i) (.int j)= .ok (.int (i % j)):=by
 show (if _ then _ else _)=_;rw[if_pos h]
theorem ji:nG [.lst (l.map λ_=> .bl true)]= .ok (.bl true):=by
 have:=FW (c:=λ_:α=>true) (l:=l);rw[nG,this];show R.ok (D.bl _)=_;rw[all_true]
theorem aay{c:α->Int}:Mp [.lst (l.map λa=> .int (c a))]= .ok (.int (l.map c).sum):=by rw[Mp,uL]
end
def Ie:aA->So:=(aR (bB (bin (λ_=> .ok (.int 7)) (λρ=>cj ρ 1) gO) (aH 3)) (aR (dU (cg (bin (λρ=>cj ρ 0) (dM (λ_=> .ok [])) iC)) (aR (bB (bin (λρ=>cj ρ 0) (bin (λρ=>cj ρ 1) (aD cC (ak (λρ=>cj ρ 0) (λ_=> .ok []))) gF) bW) (aH 3)) (aR (bB (bin (λρ=>cj ρ 1) (aD cC (ak (λρ=>cj ρ 0) (λ_=> .ok []))) gP) (aH 4)) (aR (dU (lV (cg (bin (λρ=>cj ρ 3) (bin (λ_=> .ok (.int 10)) (λ_=> .ok (.int 18)) vd) LR)) (cg (bin (λρ=>cj ρ 4) (λ_=> .ok (.int 60)) ltI))) (aR (bB (bin (λρ=>cj ρ 3) (bin (λ_=> .ok (.int 10)) (λ_=> .ok (.int 18)) vd) gP) (aH 5)) (aR (iR (lV (cg (bin (λρ=>cj ρ 5) (λ_=> .ok (.int 0)) rH)) (cg (bin (λρ=>cj ρ 4) (λ_=> .ok (.int 0)) rH))) (aR (bB (bin (λρ=>cj ρ 5) (λ_=> .ok (.int 1000000)) gP) (aH 5)) (bB (bin (λρ=>cj ρ 4) (λ_=> .ok (.int 1)) cW) (aH 4))) 64) (dU (cg (bin (λρ=>cj ρ 5) (λ_=> .ok (.int 0)) rH)) (retS (bin (bin (λρ=>cj ρ 5) (λ_=> .ok (.int 1000000)) gF) (λρ=>cj ρ 2) gF)) So.nx))) So.nx) (bB (bin (λρ=>cj ρ 3) (bin (λ_=> .ok (.int 6553)) (bin (λρ=>cj ρ 1) (aD cC (ak (λρ=>cj ρ 0) (λ_=> .ok []))) gP) gO) fW) (aH 3))))) So.nx) (aR (bB (bin (bin (bin (bin (λρ=>cj ρ 3) (λ_=> .ok (.int 2147483563)) gF) (λ_=> .ok (.int 69069)) gO) (bin (λ_=> .ok (.int 104723)) (bin (λρ=>cj ρ 1) (λ_=> .ok (.int 1)) fW) gO) fW) (λ_=> .ok (.int 2147483563)) gF) (aH 3)) (aR (bB (bin (bin (bin (λρ=>cj ρ 3) (λρ=>cj ρ 3) gO) (bin (λρ=>cj ρ 3) (λ_=> .ok (.int 3)) gP) fW) (λ_=> .ok (.int 2147483399)) gF) (aH 3)) (retS (bin (bin (bin (bin (bin (λρ=>cj ρ 3) (λρ=>cj ρ 3) gO) (bin (λρ=>cj ρ 3) (λ_=> .ok (.int 7)) gP) fW) (λ_=> .ok (.int 2147483647)) gF) (λ_=> .ok (.int 11)) gP) (λρ=>cj ρ 2) gF))))))
def tailD:aA->So:=(aR (bB (bin (bin (bin (bin (λρ=>cj ρ 3) (λ_=> .ok (.int 2147483563)) gF) (λ_=> .ok (.int 69069)) gO) (bin (λ_=> .ok (.int 104723)) (bin (λρ=>cj ρ 1) (λ_=> .ok (.int 1)) fW) gO) fW) (λ_=> .ok (.int 2147483563)) gF) (aH 3)) (aR (bB (bin (bin (bin (λρ=>cj ρ 3) (λρ=>cj ρ 3) gO) (bin (λρ=>cj ρ 3) (λ_=> .ok (.int 3)) gP) fW) (λ_=> .ok (.int 2147483399)) gF) (aH 3)) (retS (bin (bin (bin (bin (bin (λρ=>cj ρ 3) (λρ=>cj ρ 3) gO) (bin (λρ=>cj ρ 3) (λ_=> .ok (.int 7)) gP) fW) (λ_=> .ok (.int 2147483647)) gF) (λ_=> .ok (.int 11)) gP) (λρ=>cj ρ 2) gF))))
def abR:aA->So:=(dU (lV (cg (bin (λρ=>cj ρ 3) (bin (λ_=> .ok (.int 10)) (λ_=> .ok (.int 18)) vd) LR)) (cg (bin (λρ=>cj ρ 4) (λ_=> .ok (.int 60)) ltI))) (aR (bB (bin (λρ=>cj ρ 3) (bin (λ_=> .ok (.int 10)) (λ_=> .ok (.int 18)) vd) gP) (aH 5)) (aR (iR (lV (cg (bin (λρ=>cj ρ 5) (λ_=> .ok (.int 0)) rH)) (cg (bin (λρ=>cj ρ 4) (λ_=> .ok (.int 0)) rH))) (aR (bB (bin (λρ=>cj ρ 5) (λ_=> .ok (.int 1000000)) gP) (aH 5)) (bB (bin (λρ=>cj ρ 4) (λ_=> .ok (.int 1)) cW) (aH 4))) 64) (dU (cg (bin (λρ=>cj ρ 5) (λ_=> .ok (.int 0)) rH)) (retS (bin (bin (λρ=>cj ρ 5) (λ_=> .ok (.int 1000000)) gF) (λρ=>cj ρ 2) gF)) So.nx))) So.nx)
def ZJ:aA->R Bool:=(lV (cg (bin (λρ=>cj ρ 5) (λ_=> .ok (.int 0)) rH)) (cg (bin (λρ=>cj ρ 4) (λ_=> .ok (.int 0)) rH)))
def wbD:aA->So:=(aR (bB (bin (λρ=>cj ρ 5) (λ_=> .ok (.int 1000000)) gP) (aH 5)) (bB (bin (λρ=>cj ρ 4) (λ_=> .ok (.int 1)) cW) (aH 4)))
section
variable{S s0 s1 s2 s3 x y:Option Ent}{k m c:Int}
theorem tail_eq(hm:0<m):∃v,tailD [S,some (.val (.int k)),some (.val (.int m)),some (.val (.int c)),x,y]= .rt (.int v)/\0<=v/\v<m:=by
 refine⟨_,aK (aZ (au (au (au (au rfl rfl (nM (by omega))) rfl (mq (.inr ⟨by omega,by omega⟩))) (au rfl (au rfl rfl rfl) (mq (.inl ⟨by omega,by omega⟩))) rfl) rfl (nM (by omega))) rfl)
  (aK (aZ (au (au (au rfl rfl (mq (.inl ?b1))) (au rfl rfl (nJ ⟨by omega,by omega⟩)) rfl) rfl (nM (by omega))) rfl)
  (bw (au (au (au (au (au rfl rfl (mq (.inl ?b2))) (au rfl rfl (nJ ⟨by omega,by omega⟩)) rfl) rfl (nM (by omega))) rfl (nJ ⟨by omega,by omega⟩)) rfl (nM hm)))),ag7 _ (by omega),agN _ hm⟩
 case b1=>
  have h1:=ag7 (c % 2147483563*69069+104723*(k+1)) (b:=2147483563) (by omega);have h2:=agN (c % 2147483563*69069+104723*(k+1)) (b:=2147483563) (by omega);constructor <;> omega
 case b2=>
  generalize (c % 2147483563*69069+104723*(k+1)) % 2147483563=z
  have h1:=ag7 (z*z+z / 3) (b:=2147483399) (by omega);have h2:=agN (z*z+z / 3) (b:=2147483399) (by omega);constructor <;> omega
theorem mH:rH (.int i) (.int j)= .ok (.bl (decide (j<i))):=rfl
theorem Mu:∀{n:Nat} {t r:Int},0<=t->t<n->∃t' r',iR ZJ wbD n [s0,s1,s2,s3,some (.val (.int t)),some (.val (.int r))]= .nx [s0,s1,s2,s3,some (.val (.int t')),some (.val (.int r'))]
 |0,t,r,h0,h1=>by omega
 | n+1,t,r,h0,h1=>by
  rw[iR];by_cases hr:0<r
  ·by_cases ht:0<t
   ·obtain⟨t',r',e⟩:=Mu (n:=n) (t:=t - 1) (r:=r / 1000000) (by omega) (by omega);refine⟨t',r',?_⟩;have e1:ZJ (dN [s0,s1,s2,s3,some (.val (.int t)),some (.val (.int r))])= .ok true:=jU (aN (au rfl rfl (by rw[mH,decide_eq_true hr]))) (aN (au rfl rfl (by rw[mH,decide_eq_true ht])));have e2:wbD [s0,s1,s2,s3,some (.val (.int t)),some (.val (.int r))]= .nx [s0,s1,s2,s3,some (.val (.int (t - 1))),some (.val (.int (r / 1000000)))]:=aK (aZ (au rfl rfl (nJ ⟨by omega,by omega⟩)) rfl) (aZ (au rfl rfl rfl) rfl);simp only[e1,e2];exact e
   ·refine⟨t,r,?_⟩;have e1:ZJ (dN [s0,s1,s2,s3,some (.val (.int t)),some (.val (.int r))])= .ok false:=jU (aN (au rfl rfl (by rw[mH,decide_eq_true hr]))) (aN (au rfl rfl (by rw[mH,decide_eq_false ht])));simp only[e1]
  ·refine⟨t,r,?_⟩;have e1:ZJ (dN [s0,s1,s2,s3,some (.val (.int t)),some (.val (.int r))])= .ok false:=wL (aN (au rfl rfl (by rw[mH,decide_eq_false hr])));simp only[e1]
theorem Gb:vd (.int 10) (.int 18)= .ok (.int 1000000000000000000):=by
 unfold vd iD;simp only[];rw[if_pos ⟨by decide,by decide,by decide⟩];rfl
theorem abS{t:Int}(hm:0<m)(ht:0<=t):(∃t' x',abR [S,some (.val (.int k)),some (.val (.int m)),some (.val (.int c)),some (.val (.int t)),x]= .nx [S,some (.val (.int k)),some (.val (.int m)),some (.val (.int c)),some (.val (.int t')),x'])\/
  ∃v,abR [S,some (.val (.int k)),some (.val (.int m)),some (.val (.int c)),some (.val (.int t)),x]= .rt (.int v)/\0<=v/\v<m:=by
 by_cases h1:1000000000000000000<=c
 ·by_cases h2:t<60
  ·have e:(lV (cg (bin (λρ=>cj ρ 3) (bin (λ_=> .ok (.int 10)) (λ_=> .ok (.int 18)) vd) LR)) (cg (bin (λρ=>cj ρ 4) (λ_=> .ok (.int 60)) ltI))) (dN [S,some (.val (.int k)),some (.val (.int m)),some (.val (.int c)),some (.val (.int t)),x])= .ok true:=
    jU (aN (au rfl (au rfl rfl Gb) (by show R.ok (D.bl (decide _))=_;rw[decide_eq_true h1]))) (aN (au rfl rfl (by show R.ok (D.bl (decide _))=_;rw[decide_eq_true h2])))
   obtain⟨t',r',ew⟩:=Mu (s0:=S) (s1:=some (.val (.int k))) (s2:=some (.val (.int m))) (s3:=some (.val (.int c))) (n:=64) (t:=t) (r:=c / 1000000000000000000) ht (by omega);by_cases h3:0<r'
   ·exact .inr ⟨_,cX e (aK (aZ (au rfl (au rfl rfl Gb) (nJ ⟨by omega,by omega⟩)) rfl) (aK ew (cX (aN (au rfl rfl (by rw[mH,decide_eq_true h3]))) (bw (au (au rfl rfl (nM (by omega))) rfl (nM hm)))))),ag7 _ (by omega),agN _ hm⟩
   ·exact .inl ⟨t',some (.val (.int r')),cX e (aK (aZ (au rfl (au rfl rfl Gb) (nJ ⟨by omega,by omega⟩)) rfl) (aK ew (bU (aN (au rfl rfl (by rw[mH,decide_eq_false h3]))) rfl)))⟩
  ·exact .inl ⟨t,x,bU (jU (aN (au rfl (au rfl rfl Gb) (by show R.ok (D.bl (decide _))=_;rw[decide_eq_true h1]))) (aN (au rfl rfl (by show R.ok (D.bl (decide _))=_;rw[decide_eq_false h2])))) rfl⟩
 ·exact .inl ⟨t,x,bU (wL (aN (au rfl (au rfl rfl Gb) (by show R.ok (D.bl (decide _))=_;rw[decide_eq_false h1])))) rfl⟩
end
theorem gk{s t:aA->So}(e1:s ρ= .rt d):aR s t ρ= .rt d:=by rw[aR,e1]
theorem qw(h:atI xs i=some d):bW (.lst xs) (.int i)= .ok d:=by rw[bW,h]
theorem X3{ns:List Int}{k m:Int}(hl:ns.length<=1000000)(hk:0<=k)(hm:0<m):∃v,cu 3 Ie [.lst (ns.map .int),.int k,.int m]= .ok (.int v)/\0<=v/\v<m:=by
 have hd:dep (.lst (ns.map .int))<=40:=by
  rw[dep];have:=jR (c:=D.int) (n:=0) (l:=ns) (λa _=>by simp[dep]);omega
 cases ns with
 | nil=>
  obtain⟨v,e,h⟩:=tail_eq (S:=some (.val (.lst []))) (k:=k) (c:=7*k) (x:=none) (y:=none) hm;exact⟨v,bR (aK (aZ (au rfl rfl (mq (.inl ⟨by omega,by omega⟩))) rfl) (aK (bU (aN (au rfl (dG rfl) (iU rfl hd))) rfl) e)),h⟩
 | cons a ns=>
  have hn:iC (.lst ((a::ns).map .int)) (.lst [])= .ok (.bl true):=by
   rw[iC,if_pos hd];rfl
  have hlen:(0:Int)<(((a::ns).map D.int).length:Int):=by rw[z1g,aef];omega
  have hlen2:(((a::ns).map D.int).length:Int)<2^64:=by rw[z1g];omega
  obtain⟨d,hd1,hd2⟩:=wJ (xs:=(a::ns).map D.int) (i:=k % (((a::ns).map D.int).length:Int)) (ag7 _ (by omega)) (agN _ hlen);obtain⟨c,-,rfl⟩:=ae2.mp hd1;have ht:0<=k / (((a::ns).map D.int).length:Int):=Int.ediv_nonneg hk (by omega)
  generalize hL:(((a::ns).map D.int).length:Int)=L at *
  have Gd:∀(S x1 x2 x3 x4 x5:Option Ent),S=some (Ent.val (.lst ((a::ns).map D.int)))->aD cC (ak (λρ=>cj ρ 0) (λ_=> .ok [])) [S,x1,x2,x3,x4,x5]= .ok (.int L):=by
   intro S x1 x2 x3 x4 x5 e;subst e;rw[<-hL];exact aO (ao rfl) rfl
  rcases abS (S:=some (.val (.lst ((a::ns).map .int)))) (k:=k) (m:=m) (c:=c) (x:=none) hm ht with⟨t',x',e⟩ |⟨v,e,h⟩
  ·obtain⟨v,e2,h⟩:=tail_eq (S:=some (.val (.lst ((a::ns).map .int)))) (k:=k) (c:=c+6553*(k / L)) (x:=some (.val (.int t'))) (y:=x') hm;exact⟨v,bR (aK (aZ (au rfl rfl (mq (.inl ⟨by omega,by omega⟩))) rfl) (aK (cX (aN (au rfl (dG rfl) hn))
    (aK (aZ (au rfl (au rfl (Gd _ _ _ _ _ _ rfl) (nM hlen)) (qw hd2)) rfl) (aK (aZ (au rfl (Gd _ _ _ _ _ _ rfl) (nJ ⟨hlen,hlen2⟩)) rfl) (aK e (aZ (au rfl (au rfl (au rfl (Gd _ _ _ _ _ _ rfl) (nJ ⟨hlen,hlen2⟩)) (mq (.inl ⟨by omega,by omega⟩))) rfl) rfl))))) e2)),h⟩
  ·exact⟨v,bR (aK (aZ (au rfl rfl (mq (.inl ⟨by omega,by omega⟩))) rfl) (gk (cX (aN (au rfl (dG rfl) hn))
    (aK (aZ (au rfl (au rfl (Gd _ _ _ _ _ _ rfl) (nM hlen)) (qw hd2)) rfl) (aK (aZ (au rfl (Gd _ _ _ _ _ _ rfl) (nJ ⟨hlen,hlen2⟩)) rfl) (gk e)))))),h⟩
theorem fG{ρ1 ρ2:aA}{b:aA->So}{x:D}{o:So}(e1:gt x ρ= .ok ρ1)(e2:b ρ1= .nx ρ2)(e3:forL gt b xs ρ2=o):forL gt b (x::xs) ρ=o:=by
 rw[forL];simp only[e1,e2];exact e3
theorem jM{fi:aA->R (List D)}{b:aA->So}{o:So}(e1:fi ρ= .ok xs)(e2:forL gt b xs ρ=o):kJ fi gt b ρ=o:=by
 rw[kJ,e1];exact e2
theorem aaz{i k:Nat}{f:aA->R D}{fa:aA->R (List D)}{ds:List D}(e1:f ρ= .ok d)(e2:fa ρ= .ok ds)(h:ds.length<=1000000:=by exact agS rfl):Ms i k f fa ρ= .nx ((ρ.set i (some (.val d))).set k (some (.lst ds))):=by
 unfold Ms;rw[e1];simp only[fZ,e2];rw[if_pos h]
theorem Ih{i k:Nat}{f g:aA->R D}{e:D}(e1:f ρ= .ok d)(e2:g ρ= .ok e):Ib i k f g ρ= .nx ((ρ.set i (some (.val d))).set k (some (.val e))):=by
 unfold Ib;rw[e1];simp only[fZ,e2]
def dr(ns:List Int)(k m:Int):Int:=match cu 3 Ie [.lst (ns.map .int),.int k,.int m] with
 | .ok (.int v)=>v
 |_=>0
theorem uM{ns:List Int}{k m:Int}(hl:ns.length<=1000000)(hk:0<=k)(hm:0<m):cu 3 Ie [.lst (ns.map .int),.int k,.int m]= .ok (.int (dr ns k m))/\0<=dr ns k m/\dr ns k m<m:=by
 obtain⟨v,e,h⟩:=X3 hl hk hm;have:dr ns k m=v:=by rw[dr,e]
 rw[this];exact⟨e,h⟩
end Pu
namespace Pu
open PySem PySem.Spec L2
open PyProof.Rows hiding St
variable{l it l1 l2 r C i1 i2:ad5}{O0:ad5->Prop}{params:agv}{xs:Array ad7}{t t1 t2:Bool}{tg iter elt:aee}{fd:aeU}{h h' b0:aeo}{H:Hp}{pins:List (ad5×Obj)}{ts:List (ad5×Str)}{clos:List (Str×ad5)}{ifs:List aee}{outer:List PySem.Env}{body:List aeu}{N ps:List Str}{zs vs:List V}{k n i:Nat}{use:Option (ad7->Sem Unit)}{pos pos' pos2:Pos}{P:aek}{env:PySem.Env}{K:PySem.W.Frag}{ρ:aA}{ft:aA->R Bool}{scope:afB}{s:ad8}{σ:St}{qual name y:Str}{α:Type}{Q Qr:ad7->ad8->Prop}{w:aep}
section
variable{X:Cx}
def qK:List D->R D
 |[.int i]=> .ok (.int (if i<0 then -i else i))
 |_=> .bad
theorem tE:CallD X (.builtin "abs") qK:=by
 refine⟨_,call_abs,λρ O σ H Q xs ds j r h=>?_⟩;unfold qK at h;split at h
 ·rename_i i;obtain⟨x,rfl,rx⟩:=r.one;exact⟨i,by rw[rx.int],fin h (cB _)⟩
 ·exact h.elim
def maxD:List D->R D
 |[.int i,.int j]=> .ok (.int (if j > i then j else i))
 |_=> .bad
theorem wM(hc:X.calm=true):CallD X (.builtin "max") maxD:=by
 refine⟨_,call_max2 hc,λρ O σ H Q xs ds j r h=>?_⟩;unfold maxD at h;split at h
 ·rename_i i k;obtain⟨x,y,rfl,rx,ry⟩:=r.two;exact⟨i,k,by rw[rx.int,ry.int],fin h (cB _)⟩
 ·exact h.elim
def minD:List D->R D
 |[.int i,.int j]=> .ok (.int (if j<i then j else i))
 |_=> .bad
theorem tH(hc:X.calm=true):CallD X (.builtin "min") minD:=by
 refine⟨_,call_min2 hc,λρ O σ H Q xs ds j r h=>?_⟩;unfold minD at h;split at h
 ·rename_i i k;obtain⟨x,y,rfl,rx,ry⟩:=r.two;exact⟨i,k,by rw[rx.int,ry.int],fin h (cB _)⟩
 ·exact h.elim
def Ge:D->Bool
 | .non=>true
 |_=>false
theorem Rf{O:ad5->Prop}{d:D}{v:V}(r:Rep K O H d v):decide (v= .non)=Ge d:=by
 cases d with
 |non=>rw[r.non];rfl
 |bl b=>rw[r.bl];rfl
 |int i=>rw[r.int];rfl
 |str x=>rw[r.str];rfl
 |tup ds=>obtain⟨a,xs,rfl,_⟩:=r.tup;rfl
 |lst ds=>obtain⟨a,xs,rfl,_⟩:=r.lst;rfl
def isD:D->D->R D
 |d,.non=> .ok (.bl (Ge d))
 |_,_=> .bad
def Vu:D->D->R D
 |d,.non=> .ok (.bl (!Ge d))
 |_,_=> .bad
theorem Tw:iM X (aex .Is) isD:=by
 refine⟨_,op_isN,λρ O σ H Q x y dx dy j0 rx ry h=>?_⟩;cases dy with
 |non=>exact⟨ry.non,by rw[Rf rx];exact fin (a:=D.bl (Ge dx)) h (fL _)⟩
 |_=>cases dx <;> exact h.elim
theorem X4:iM X (aex .IsNot) Vu:=by
 refine⟨_,op_notN,λρ O σ H Q x y dx dy j0 rx ry h=>?_⟩;cases dy with
 |non=>exact⟨ry.non,by rw[Rf rx];exact fin (a:=D.bl (!Ge dx)) h (fL _)⟩
 |_=>cases dx <;> exact h.elim
theorem aaA:OpR X (afj .Add) (λx y H Q=>∃a b ys,x= .ref a/\y= .ref b/\SqT X.K H a []/\SqT X.K H b ys/\Q (.ref b) H):=by
 intro pins s σ H x y v u Q I rx ry h;obtain⟨a,b,ys,rfl,rfl,ha,hb,q⟩:=h;cases rx;cases ry;obtain⟨its,r1,p1,_⟩:=I.tuple ha;obtain⟨its2,r2,p2,_⟩:=I.tuple hb;cases r1;obtain⟨⟨cls,dd,data,sl⟩,ho,hc,n,hd⟩:=id p1;obtain⟨⟨cls2,dd2,data2,sl2⟩,ho2,hc2,n2,hd2⟩:=id p2;simp only at hc hd hc2 hd2;subst hc hd hc2 hd2;exact aiK ⟨_,ho,rfl⟩ ⟨_,ho2,rfl⟩ aiL seq_tuple_add PySem.F.slot_tuple_add PySem.F.entry_tuple_add (PySem.F.args_tuple_add_2 _ _)
   (tuple_addW0 a b _ _ n n2 dd dd2 sl sl2 rfl) ⟨ho,ho2,⟨.ref b,H,I,rfl,q⟩⟩
def adB:D->R D
 | .int i=> .ok (.int (-i))
 |_=> .bad
def jt(f:aA->R D):aA->R D:=λρ=>(f ρ).bind adB
theorem kW{e:aee}{f:aA->R D}(he:DE X e f):DE X (.UnaryOp .USub e pos) (jt f):=by
 refine PE.imp (pe_un un_neg he) λσ H Q h=>?_;obtain⟨ρ,O,j,h⟩:=h;refine go j h λd v H1 e1 s1 r1 j1 h1=>?_;cases d with
 |int i=>exact⟨i,r1.int,fin h1 (cB _)⟩
 |_=>exact h1.elim
theorem aaB:OpR X (afj .Add) (λx y H Q=>∃a b xs ys,x= .ref a/\y= .ref b/\SqL X.K H a xs/\SqL X.K H b ys/\xs.length+ys.length<=sizeLine/\∀p,H p=none->Q (.ref p) (upd H p (.lst (xs++ys)))):=by
 intro pins s σ H x y v u Q I rx ry h;obtain⟨a,b,xs,ys,rfl,rfl,ha,hb,hz,q⟩:=h;cases rx;cases ry;obtain⟨its,r1,p1,_⟩:=I.list ha;obtain⟨its2,r2,p2,_⟩:=I.list hb;obtain⟨⟨cls,dd,data,sl⟩,n,ho,hc,hdd,hd⟩:=id p1;obtain⟨⟨cls2,dd2,data2,sl2⟩,n2,ho2,hc2,ad1,hd2⟩:=id p2;simp only at hc hd hc2 hd2;subst hc hd hc2 hd2;refine aiK ⟨_,ho,rfl⟩ ⟨_,ho2,rfl⟩ noFill_list_add seq_list_add PySem.F.slot_list_add PySem.F.entry_list_add (PySem.F.args_list_add_2 _ _)
   (list_addW a b _ _ n n2 dd dd2 sl sl2 (by rw[z1c,z1c,<-r1.length,<-r2.length];exact hz)) ⟨ho,ho2,?_⟩
 have ea:its.toArray++its2.toArray=(its++its2).toArray:=by simp
 rw[ea];exact⟨.ref _,_,I.lnew (t':=s.toks) (r1.append r2) (by rw[z1d];omega),rfl,q _ I.fresh⟩
def cL:D->D->R D
 | .int i,.int j=> .ok (.int (i+j))
 | .tup xs,.tup ys=>if xs.length+ys.length<=1000000 then .ok (.tup (xs++ys)) else .bad
 | .lst xs,.lst ys=>if xs.length+ys.length<=1000000 then .ok (.lst (xs++ys)) else .bad
 |_,_=> .bad
theorem cA:iM X (afj .Add) cL:=by
 refine⟨_,OpR.or op_add (OpR.or op_catT (OpR.or aaA aaB)),λρ O σ H Q x y dx dy j0 rx ry h=>?_⟩;cases dx <;> cases dy <;> first
  |exact h.elim
  |skip
 ·rename_i i j;exact .inl ⟨i,j,rx.int,ry.int,fin h (cB _)⟩
 ·rename_i xs ys;have h:good X (rD X) O (if xs.length+ys.length<=1000000 then .ok (.tup (xs++ys)) else .bad) σ H Q:=h;by_cases hc:xs.length+ys.length<=1000000
  ·rw[if_pos hc] at h;obtain⟨a,us,rfl,ha,r1⟩:=rx.tup;obtain⟨b,ws,rfl,hb,r2⟩:=ry.tup;by_cases hx:us=[]
   ·subst hx;have:xs=[]:=aeA r1.length;subst this;exact .inr (.inr (.inl ⟨a,b,ws,rfl,rfl,ha,hb,fin h (iJ hb r2)⟩))
   ·refine .inr (.inl ⟨a,b,us,ws,rfl,rfl,ha,hb,hx,?_,λz=>?_,λz l hl=>?_⟩)
    ·rw[<-r1.length,<-r2.length];exact z0b hc dJ
    ·subst z;have:ys=[]:=aeA r2.length;subst this;rw[aeK] at h;exact fin h (iJ ha r1)
    ·exact h _ _ (Same.upd hl) (Rep.mX hl (r1.append r2))
  ·rw[if_neg hc] at h;exact h.elim
 ·rename_i xs ys;have h:good X (rD X) O (if xs.length+ys.length<=1000000 then .ok (.lst (xs++ys)) else .bad) σ H Q:=h;by_cases hc:xs.length+ys.length<=1000000
  ·rw[if_pos hc] at h;obtain⟨a,us,rfl,ha,_,r1⟩:=rx.lst;obtain⟨b,ws,rfl,hb,_,r2⟩:=ry.lst;refine .inr (.inr (.inr ⟨a,b,us,ws,rfl,rfl,ha,hb,?_,λl hl=>?_⟩))
   ·rw[<-r1.length,<-r2.length];exact z0b hc dJ
   ·exact h _ _ (Same.upd hl) (Rep.je hl (j0.mJ hl) (r1.append r2))
  ·rw[if_neg hc] at h;exact h.elim
end
section
variable{prog:aek}{w:aep}{A:aer}{E:ad7->ad8->Prop}{s:ad8}
open HT in
theorem zB{t sl:ad5}{items:Array ad7}{vl vu:ad7}{lo hi:Option Int}(ht:IsTup s.heap t items)(hs:s.heap.IsSliceOf sl vl vu .none)(pl:ahN vl lo)(pu:ahN vu hi)
  (hw:sIx items.size 0 lo=0/\sIx items.size items.size hi=items.size)(h:Q (.ref t) s):aec (model prog w) A (ahD (.ref t) (.ref sl)) Q E s:=by
 obtain⟨os,hos,hcs,hds⟩:=id hs;have hTs:s.TypeIs (.ref sl) "slice" :=⟨os,hos,hcs⟩;unfold ahD
 try with_reducible refine afv ?_
 first |refine ad4 (ad9 ?_) |skip
 refine ad4 (aiu ht.typeIs (by decide) ?_);refine ad4 (afa (name:=aeH "__getitem__") ht.typeIs aeV
  (ae5 aeV ht.typeIs entry_tuple_getitem ?_ (aia _ _)))
 show aec _ _ (agY (.ref t) >>=_) _ _ s;refine ad4 (tupleItemsOf_ ht ?_);refine ad4 (agR hTs ?_);rw[if_pos (by decide)];refine ad4 (sliceApplied_gen hs pl pu ?_);show aec _ _ (if (((sIx items.size 0 lo:Nat):Int) ==0 && (1:Int) ==1 && (sIx items.size items.size hi - sIx items.size 0 lo) ==items.size)=true then _ else _) _ _ s;rw[if_pos (by rw[hw.1,hw.2];simp)];refine ad4 (m:=Builtin.Tuple.tupleIsExact _) (ad4 (agR ht.typeIs (ad9 ?_)));rw[if_pos (beq_self_eq_true _)]
 first
  |exact ad4 (ad9 (ad9 ⟨_,rfl,ad9 h⟩))
  |exact ad4 (ags (ad9 ⟨_,rfl,ad9 h⟩))
end
section
variable{X:Cx}{e e1:aee}{lo hi:Option aee}{f f1:aA->R D}{fl fu:aA->R (Option Int)}{pos p2:Pos}
def adC(K:PySem.W.Frag):V->Option Int->Option Int->Hp->VK->Prop:=λx lo hi H Q=>∃a xs,x= .ref a/\SqT K H a xs/\
 (HT.sIx xs.length 0 lo=0/\HT.sIx xs.length xs.length hi=xs.length)/\Q (.ref a) H
theorem aaC:SlR X (adC X.K):=by
 intro pins s σ H x v vl vu lo hi sl Q I rx hs pl pu h;obtain⟨a,xs,rfl,hx,hw,q⟩:=h;cases rx;obtain⟨its,r,ht,hz⟩:=I.tuple hx;have hlen:its.toArray.size=xs.length:=by rw[z1c];exact r.length.symm
 exact⟨"tuple",_,aeV.lookup,ht.typeIs,zB ht hs pl pu (by rw[hlen];exact hw) ⟨.ref a,H,I,rfl,q⟩⟩
abbrev adD:(ad5->Prop)->Hp->Option Int->Option Int->Prop:=λ_ _ a b=>a=b
def Rg(X:Cx)(lo:Option aee)(fo:aA->R (Option Int)):Prop:=PO X lo (tG X adD fo)
theorem PO.imp{t t':TO}(h:PO X lo t)(w:∀σ H Q,t' σ H Q->t σ H Q):PO X lo t':=λpins s σ H Q I q=>h pins s σ H Q I (w σ H Q q)
theorem iV:Rg X none (λ_=> .ok none):=by
 refine PO.imp po_none λσ H Q h=>?_;obtain⟨ρ,O,j,h⟩:=h;exact fin h rfl
def qy:D->R (Option Int)
 | .int i=> .ok (some i)
 |_=> .bad
theorem iW(h:DE X e1 f1):Rg X (some e1) (λρ=>(f1 ρ).bind qy):=by
 refine PO.imp (po_some h) λσ H Q h=>?_;obtain⟨ρ,O,j,h⟩:=h;refine go j h λd v H1 e1 s1 r1 j1 h1=>?_;cases d with
 |int i=>exact⟨i,r1.int,fin h1 rfl⟩
 |_=>exact h1.elim
def iG(ds:List D)(lo hi:Option Int):List D:=(ds.drop (HT.sIx ds.length 0 lo)).take (HT.sIx ds.length ds.length hi - HT.sIx ds.length 0 lo)
def Mv(d:D)(lo hi:Option Int):R D:=match d with
 | .tup ds=> .ok (.tup (iG ds lo hi))
 |_=> .bad
def jj(f:aA->R D)(fl fu:aA->R (Option Int)):aA->R D:=λρ=>(f ρ).bind λd=>(fl ρ).bind λl=>(fu ρ).bind λu=>Mv d l u
theorem pA(he:DE X e f)(hl:Rg X lo fl)(hu:Rg X hi fu):DE X (.Subscript e (.Slice lo hi none p2) pos) (jj f fl fu):=by
 refine PE.imp (pe_slice (SlR.or sl_tup aaC) he hl hu) λσ H Q h=>?_;obtain⟨ρ,O,j,h⟩:=h;refine go j h λd v H1 e1 s1 r1 j1 h1=>?_;refine go j1 h1 λl l' H2 e2 s2 r2 j2 h2=>?_;refine go j2 h2 λu u' H3 e3 s3 r3 j3 h3=>?_;have r2:l=l':=r2;have r3:u=u':=r3;subst r2 r3;cases d with
 | tup ds=>
  have r1':=(r1.same s2).same s3;obtain⟨a,xs,rfl,hq,rs⟩:=r1'.tup;have hlen:=rs.length;by_cases hw:HT.sIx xs.length 0 l=0/\HT.sIx xs.length xs.length u=xs.length
  ·refine .inr ⟨a,xs,rfl,hq,hw,?_⟩;have e:iG ds l u=ds:=by
    unfold iG;rw[hlen,hw.1,hw.2,ahl,agT,<-hlen,List.take_length]
   have h3:good X (rD X) O (.ok (.tup (iG ds l u))) σ H3 Q:=h3;rw[e] at h3;exact fin h3 (iJ hq rs)
  ·refine .inl ⟨a,xs,rfl,hq,hw,λp hp=>?_⟩;refine h3 _ _ (Same.upd hp) (Rep.mX hp ?_);unfold iG cutV;rw[hlen];exact (rs.drop _).take _
 |_=>exact h3.elim
end
def pickK{α:Type}(z:α)(sel:List (Sum Nat α))(ws:List α):List α:=sel.map λ
 | .inl i=>ws.getD i z
 | .inr c=>c
inductive Sel:List (Sum Nat ad7)->List (Sum Nat V)->List (Sum Nat D)->Prop
 |nil:Sel [] [] []
 |at (i:Nat) {a b c}:Sel a b c->Sel (.inl i::a) (.inl i::b) (.inl i::c)
 |non {a b c}:Sel a b c->Sel (.inr .none::a) (.inr .non::b) (.inr .non::c)
 |str (x:Str) (t:Tok) {a b c}:Sel a b c->Sel (.inr (.str x t)::a) (.inr (.str x)::b) (.inr (.str x)::c)
 |int (x:Int) (t:Tok) {a b c}:Sel a b c->Sel (.inr (.int x t)::a) (.inr (.int x)::b) (.inr (.int x)::c)
 |bl (x:Bool) {a b c}:Sel a b c->Sel (.inr (.bool x)::a) (.inr (.bl x)::b) (.inr (.bl x)::c)
theorem Vv{ws:List ad7}(r:Vals zs ws)(i:Nat):RelV (zs.getD i .non) (ws.getD i .none):=by
 induction r generalizing i with
 |nil=>exact rfl
 | cons h _ ih=>
  cases i with
  |zero=>exact h
  |succ i=>exact ih i
theorem Sel.vals{a b c}(s:Sel a b c){ws:List ad7}(r:Vals zs ws):Vals (pickK .non b zs) (pickK .none a ws):=by
 induction s with
 |nil=>exact .nil
 | «at» i _ ih=>exact .cons (Vv r i) ih
 |non _ ih=>exact .cons rfl ih
 |str x t _ ih=>exact .cons ⟨t,rfl⟩ ih
 |int x t _ ih=>exact .cons ⟨t,rfl⟩ ih
 |bl x _ ih=>exact .cons rfl ih
section
variable{K:PySem.W.Frag}{O:ad5->Prop}{H:Hp}
theorem JR:∀{ds:List D} {zs:List V},aP K O H ds zs->∀i:Nat,Rep K O H (ds.getD i .non) (zs.getD i .non)
 |[],zs,r,i=>by rw[r.nil_inv];exact mW
 | d::ds,zs,r,i=>by
  obtain⟨x,t,rfl,h1,h2⟩:=r.cons_inv;cases i with
  |zero=>exact h1
  |succ i=>exact JR h2 i
theorem Sel.reps{a b c}(s:Sel a b c){ds:List D}(r:aP K O H ds zs):aP K O H (pickK .non c ds) (pickK .non b zs):=by
 induction s with
 |nil=>exact .nil
 | «at» i _ ih=>exact .cons (JR r i) ih
 |non _ ih=>exact .cons mW ih
 |str x t _ ih=>exact .cons (Cm x) ih
 |int x t _ ih=>exact .cons (cB x) ih
 |bl x _ ih=>exact .cons (fL x) ih
end
section
variable{X:Cx}{k n:Nat}{f:ad5}{fd:aeU}{ps ks:List Str}{F:List D->R D}{x:Str}{p pos kpos:Pos}{e:aee}{es:List aee}{kws:List agc}{fa fk:aA->R (List D)}{fe:aA->R D}{nm:Option Str}
def DK(X:Cx)(kws:List agc)(fk:aA->R (List D)):Prop:=PK X kws (tG X (Fy X) fk)
theorem PK.imp{t t':TA}(h:PK X kws t)(w:∀σ H Q,t' σ H Q->t σ H Q):PK X kws t':=λpos pins s σ H Q I q=>h pos pins s σ H Q I (w σ H Q q)
theorem abT:DK X [] (λ_=> .ok []):=by
 refine PK.imp pk_nil λσ H Q h=>?_;obtain⟨ρ,O,j,h⟩:=h;exact fin h .nil
theorem aaD(he:DE X e fe)(hr:DK X kws fk):DK X (⟨nm,e,kpos⟩::kws) (ak fe fk):=by
 refine PK.imp (pk_cons he hr) λσ H Q h=>?_;obtain⟨ρ,O,j,h⟩:=h;refine go j h λd v H1 e1 s1 r1 j1 h1=>?_;refine go j1 h1 λds vs H2 e2 s2 r2 j2 h2=>?_;exact fin h2 (.cons (r1.same s2) r2)
theorem zQ{z:α}{sel:List (Sum Nat α)}{ws:List α}:(pickK z sel ws).length=sel.length:=by unfold pickK;rw[z1g]
def KB(K:PySem.W.Frag)(fd:aeU)(ps ks:List Str)(sel:List (Sum Nat ad7)):Prop:=∀(s:ad8) (us ws:List ad7),K.In s.heap->us.length+sel.length=ps.length->ws.length=ks.length->ahh s fd ⟨us,ks.zip ws⟩ (ps.zip (us++pickK .none sel ws))
def CG(F:List D->R D)(n m:Nat)(sel:List (Sum Nat D))(fa fk:aA->R (List D)):aA->R D:=λρ=>(fa ρ).bind λds=>(fk ρ).bind λzs=>if zs.length=m then aV F n (ds++pickK .non sel zs) else .bad
end
section
variable{X:Cx}{k n:Nat}{f:ad5}{fd:aeU}{ps:List Str}{F:List D->R D}{x:Str}{p pos:Pos}{e:aee}{es:List aee}{fa:aA->R (List D)}
end
theorem len0{l:List α}(h:l.length=0):l=[]:=aeA h
theorem Ii{l:List α}(h:l.length=n+1):∃a m,l=a::m/\m.length=n:=by
 cases l with
 |nil=>simp at h
 |cons a m=>exact⟨a,m,rfl,by simpa using h⟩
section
variable{X:Cx}{k m n:Nat}{fd:aeU}{ps ks:List Str}{F:List D->R D}{x:Str}{p pos:Pos}{e:aee}{es:List aee}{kws:List agc}{fa fk:aA->R (List D)}
end
section
variable{K:PySem.W.Frag}{kV doc pm cdv ct:ad7}{an:Option ad5}{body:List aeu}{scope:afB}{d:ad5}{t:Tok}{q:Pos}
def Vw(q:Pos):agv:={posonlyargs:=[],args:=[⟨"p",none,q⟩],vararg:=none,kwonlyargs:=[⟨"manner",none,q⟩,⟨"marks",none,q⟩],kw_defaults:=[some (.Constant (.str "worth") 0 q),some (.Constant .none 0 q)],kwarg:=none,defaults:=[]}
example:KB K (PySem.W.fnOf "f" "f" (Vw q) body scope .none kV doc pm an cdv ct) ["p","manner","marks"] ["marks","manner"] [.inl 1,.inl 0]:=by
 intro s us ws i hl hw;have hl1:us.length=1:=by simpa using hl
 clear hl
 obtain⟨u,us',rfl,hl2⟩:=Ii hl1
 clear hl1
 cases len0 hl2;obtain⟨w1,ws1,rfl,hw1⟩:=Ii hw
 clear hw
 obtain⟨w2,ws2,rfl,hw2⟩:=Ii hw1
 clear hw1
 cases len0 hw2;exact .of_eq rfl
end
section
variable{X:Cx}
end
section
variable{K:PySem.W.Frag}{O O':ad5->Prop}{H:Hp}
end
section
variable{X:Cx}{e:aee}{f:aA->R D}{pos:Pos}
end
section
variable{prog:aek}{w:aep}{A:aer}{E:ad7->ad8->Prop}{s:ad8}{t:ad5}
end
section
variable{X:Cx}
end
theorem Ek:fillsNumberSlot (.type "tuple") "mul" =pure false:=
 PySem.fillsNumberSlot_seq (id:= "tuple.__mul__") (r:=some (.builtin "tuple.__rmul__")) F.slot_tuple_mul.lookup (by decide +kernel) F.slot_tuple_rmul.lookup (by decide +kernel)
theorem Mw:seqRepeat? (.type "tuple")=pure (some (.builtin "tuple.__mul__")):=by
 unfold seqRepeat?;rw[PySem.seqSlot_of (T:= "tuple") (name:= "__mul__") (id:= "tuple.__mul__") F.slot_tuple_mul.lookup (by decide +kernel),PySem.seqSlot_of (T:= "tuple") (name:= "__rmul__") (id:= "tuple.__rmul__") F.slot_tuple_rmul.lookup (by decide +kernel)];rfl
theorem Ij(a:Int)(t:Tok)(l:ad5)(items:Array ad7)(n:Nat)(dd:Option ad5)(sl:Array (Option ad7)):
  Meets (afA.«int.__rmul__» ⟨[.int a t,.ref l],[]⟩) (λ_ R s=>s.heap.get? l=some {cls:= .type "tuple",dict:=dd,data:= .seq items n,slots:=sl}/\R (.ok (.ret Value.notImplemented)) s):=
 .of_wp λprog w A R s h=>by obtain⟨hp,g,d,tk,os⟩:=s;obtain⟨hl,h⟩:=h;wp_walk;exact⟨_,rfl,h⟩
theorem Tz(l:ad5)(items:Array ad7)(n:Nat)(dd:Option ad5)(sl:Array (Option ad7))(t:Tok):
  Meets (afA.«tuple.__mul__» ⟨[.ref l,.int 1 t],[]⟩) (λ_ R s=>s.heap.get? l=some {cls:= .type "tuple",dict:=dd,data:= .seq items n,slots:=sl}/\R (.ok (.ret (.ref l))) {s with heap:=s.heap,toks:=s.toks}):=
 .of_wp λprog w A R s h=>by obtain⟨hp,g,d,tk,os⟩:=s;obtain⟨hl,h⟩:=h;have f1:=aiO;have hc0:(items.isEmpty || (1:Int) ==1)=true:=(by simp);unfold afA.«tuple.__mul__»;wp_walk using afy hl;exact⟨_,rfl,h⟩
theorem TF(l:ad5)(items:Array ad7)(n:Nat)(dd:Option ad5)(sl:Array (Option ad7))(k:Int)(t:Tok)(hf:¬(decide (k < -(2^63)) || decide (k>=2^63))=true)(hc0:¬(items.isEmpty || k ==1)=true)(hc1:¬(decide (k<=0) || items.isEmpty)=true)
  (hc2:¬(items.size:Int)*k > (2^63 - 1) / 8)(hc3:¬aip ((items.size:Int)*k)=true)(hsz:sizeOk (.seq (aiD (λx1 x2=>x1++x2) #[] (aeb k.toNat items)))):
  Meets (afA.«tuple.__mul__» ⟨[.ref l,.int k t],[]⟩) (λ_ R s=>s.heap.get? l=some {cls:= .type "tuple",dict:=dd,data:= .seq items n,slots:=sl}/\R (.ok (.ret (.ref s.heap.objs.size))) {s with heap:=s.heap.push {cls:=aej "tuple",data:=Data.seq (aiD (λx1 x2=>x1++x2) #[] (aeb k.toNat items))},toks:=s.toks}):=
 .of_wp λprog w A R s h=>by
  obtain⟨hp,g,d,tk,os⟩:=s;obtain⟨hl,h⟩:=h;have f1:=aiO;unfold afA.«tuple.__mul__»
  wp_walk using afy hl
  refine wpAny_ite_false (by simpa using hf) ?_
  wp_walk using afy hl
  refine wpAny_ite_false (by simpa using hc2) ?_
  wp_walk using afy hl
  refine wpAny_ite_false (by simpa[sizeOk] using hsz) ?_
  wp_walk using afy hl
  exact⟨_,rfl,h⟩
section
variable{X:Cx}
theorem aaE:OpR X (afj .Mult) (λx y H Q=>∃a k xs,x= .ref a/\y= .int k/\SqT X.K H a xs/\xs≠[]/\1<=k/\k<2^63/\xs.length*k.toNat<=sizeLine/\(k=1->Q (.ref a) H)/\
  (k≠1->∀p,H p=none->Q (.ref p) (upd H p (.tup (aeb k.toNat xs).flatten)))):=by
 intro pins s σ H x y v u Q I rx ry h;obtain⟨a,k,xs,rfl,rfl,hq,hx,h1,h2,hz,q1,q2⟩:=h;cases rx;obtain⟨t,rfl⟩:=ry;obtain⟨its,r,p1,_⟩:=I.tuple hq;obtain⟨⟨cls,dd,data,sl⟩,ho,hc,n,hd⟩:=id p1;simp only at hc hd;subst hc hd;have hlen:=r.length;have hne:its≠[]:=λz=>hx (by rw[z] at r;cases r;rfl);have hpos:0<its.length:=by cases its with |nil=>exact absurd rfl hne |cons _ _=>simp
 have hemp:its.toArray.isEmpty=false:=by cases its with |nil=>exact absurd rfl hne |cons _ _=>simp
 refine ag8 (T:= "tuple") (U:= "int") (by decide) ⟨_,ho,rfl⟩ (λs'=>ahk s' k t) Ek F.fills_int_mul F.slot_int_rmul Mw F.slot_int_index.lookup
  (af6 F.slot_int_rmul (ahk s k t) F.entry_int_rmul (F.args_int_rmul_2 _ _) (Ij k t a its.toArray n dd sl) ⟨ho,rfl,⟨_,ho,rfl⟩,?_⟩)
 by_cases hk:k=1
 ·subst hk;exact af6 F.slot_tuple_mul ⟨_,ho,rfl⟩ F.entry_tuple_mul (F.args_tuple_mul_2 _ _) (Tz a its.toArray n dd sl t) ⟨ho,⟨.ref a,H,I,rfl,q1 rfl⟩⟩
 ·have hmul:(its.toArray.size:Int)*k=((xs.length*k.toNat:Nat):Int):=by
   rw[z1c,<-hlen,Int.natCast_mul,Int.toNat_of_nonneg (by omega)]
  have hnew:aiD (λx1 x2=>x1++x2) #[] (aeb k.toNat its.toArray)=(aeb k.toNat its).flatten.toArray:=by
   have:=foldl_rep its k.toNat [];rw[ago] at this;exact this
  have hs:sizeOk (.seq (aiD (λx1 x2=>x1++x2) #[] (aeb k.toNat its.toArray))):=by
   rw[hnew];show (aeb k.toNat its).flatten.toArray.size<=sizeLine;rw[z1c,len_rep,<-hlen,ahc];exact hz
  have hbig:(sizeLine:Nat)<=(2^63 - 1) / 8:=by decide
  refine af6 F.slot_tuple_mul ⟨_,ho,rfl⟩ F.entry_tuple_mul (F.args_tuple_mul_2 _ _) (TF a its.toArray n dd sl k t (by simp;omega) (by rw[hemp];simp[hk]) (by rw[hemp];simp;omega) (by rw[hmul];omega) (by rw[hmul];unfold aip;intro z;have z:=of_decide_eq_true z;omega) hs) ⟨ho,?_⟩;rw[hnew];refine⟨.ref s.heap.objs.size,_,I.laid (t':=s.toks) (o:= .tup (aeb k.toNat xs).flatten) (λb ob q=>z1a _ q) (z0g _) ?_,rfl,q2 hk _ (I.hok.fresh (z0g _))⟩;exact⟨by rw[len_rep,ahc];exact hz,_,r.rep k.toNat,u9.new _ _⟩
theorem xO{K:PySem.W.Frag}{O:ad5->Prop}{H:Hp}{ds:List D}{xs:List V}(r:aP K O H ds xs):∀k:Nat,aP K O H (aeb k ds).flatten (aeb k xs).flatten
 |0=> .nil
 |k+1=>by rw[afm,afm,agd,agd];exact r.append (xO r k)
def iH:D->D->R D
 | .int i,.int j=>gO (.int i) (.int j)
 | .tup ds,.int k=>if ds≠[]/\1<=k/\k<2^63/\ds.length*k.toNat<=1000000 then .ok (.tup (aeb k.toNat ds).flatten) else .bad
 |_,_=> .bad
theorem gq:iM X (afj .Mult) iH:=by
 obtain⟨r0,o0,c0⟩:=qd (X:=X);refine⟨_,OpR.or o0 aaE,λρ O σ H Q x y dx dy j0 rx ry h=>?_⟩;cases dx <;> cases dy <;> first
  |exact h.elim
  |skip
 ·exact .inl (c0 ρ O σ H Q x y _ _ j0 rx ry h)
 ·rename_i ds k;have h:good X (rD X) O (if ds≠[]/\1<=k/\k<2^63/\ds.length*k.toNat<=1000000 then .ok (.tup (aeb k.toNat ds).flatten) else .bad) σ H Q:=h;by_cases hc:ds≠[]/\1<=k/\k<2^63/\ds.length*k.toNat<=1000000
  ·rw[if_pos hc] at h;obtain⟨a,us,rfl,ha,r1⟩:=rx.tup;obtain⟨h0,h1,h2,h3⟩:=hc;refine .inr ⟨a,k,us,rfl,ry.int,ha,λz=>h0 (by have:=r1.length;rw[z] at this;exact aeA this),h1,h2,by rw[<-r1.length];exact z0b h3 dJ,λz=>?_,λz l hl=>?_⟩
   ·subst z;have e:(aeb (1:Int).toNat ds).flatten=ds:=by simp
    rw[e] at h;exact fin h (iJ ha r1)
   ·exact h _ _ (Same.upd hl) (Rep.mX hl (xO r1 _))
  ·rw[if_neg hc] at h;exact h.elim
end
def iB:D->Bool
 | .tup _=>false
 | .lst _=>false
 |_=>true
def vD:D->V
 | .non=> .non
 | .bl b=> .bl b
 | .int i=> .int i
 | .str x=> .str x
 |_=> .non
section
variable{K:PySem.W.Frag}{O:ad5->Prop}{H:Hp}
theorem Rh{d:D}{v:V}(f:iB d=true)(r:Rep K O H d v):v=vD d:=by
 cases d with
 |non=>exact r.non
 |bl b=>exact r.bl
 |int i=>exact r.int
 |str x=>exact r.str
 |tup _=>cases f
 |lst _=>cases f
theorem Mx:∀{ds:List D} {vs:List V},ds.all iB=true->aP K O H ds vs->vs=ds.map vD
 |[],vs,_,r=>r.nil_inv
 | d::ds,vs,f,r=>by
  obtain⟨x,t,rfl,h1,h2⟩:=r.cons_inv;rw[agg,ae6] at f;rw[Rh f.1 h1,Mx f.2 h2];rfl
theorem Vx{d:D}(f:iB d=true):flatV (vD d)=true:=by cases d <;> first |rfl |cases f
theorem ac8{a b:D}(fa:iB a=true)(fb:iB b=true):eqV (vD a) (vD b)=dF a b:=by
 cases a <;> cases b <;> first |rfl |(simp[iB] at fa;done) |(simp[iB] at fb;done) |(rw[eV];rfl) |(simp[vD,eqV,jF,jG,jH,jJ,jK,gC,eV])
theorem ZK{d:D}(fd:iB d=true):∀{ds:List D},ds.all iB=true->inV (vD d) (ds.map vD)=ds.any λy=>dF y d
 |[],_=>rfl
 | y::ds,f=>by
  rw[agg,ae6] at f;have ih:=ZK fd f.2;unfold inV at ih |-;rw[z1h,ail,ail,ac8 f.1 fd,ih]
theorem Ri:∀{ds:List D},ds.all iB=true->(ds.map vD).all flatV=true
 |[],_=>rfl
 | y::ds,f=>by
  rw[agg,ae6] at f;rw[z1h,agg,Vx f.1,Ri f.2];rfl
end
def TJ:D->Option (List D)
 | .tup ds=>some ds
 | .lst ds=>some ds
 |_=>none
def Rj(neg:Bool)(d s:D):R D:=match TJ s with
 |some ds=>if iB d=true/\ds.all iB=true then .ok (.bl (if neg then !(ds.any λy=>dF y d) else ds.any λy=>dF y d)) else .bad
 |none=> .bad
section
variable{X:Cx}
theorem in_of{neg:Bool}{ρ:aA}{O:ad5->Prop}{Q:VK}{x y:V}{dx dy:D}(rx:Rep X.K O H dx x)(ry:Rep X.K O H dy y)(h:good X (rD X) O (Rj neg dx dy) σ H Q):rIn X.K neg x y H Q:=by
 unfold Rj at h;cases e:TJ dy with
 |none=>rw[e] at h;exact h.elim
 | some ds=>
  rw[e] at h;have h:good X (rD X) O (if iB dx=true/\ds.all iB=true then .ok (.bl (if neg then !(ds.any λy=>dF y dx) else ds.any λy=>dF y dx)) else .bad) σ H Q:=h;by_cases hc:iB dx=true/\ds.all iB=true
  ·rw[if_pos hc] at h;have key:∃p xs,y= .ref p/\(SqL X.K H p xs\/SqT X.K H p xs)/\aP X.K O H ds xs:=by
    cases dy with
    | tup ds'=>
     cases e;obtain⟨a,xs,rfl,hq,rs⟩:=ry.tup;exact⟨a,xs,rfl,.inr hq,rs⟩
    | lst ds'=>
     cases e;obtain⟨a,xs,rfl,hq,_,rs⟩:=ry.lst;exact⟨a,xs,rfl,.inl hq,rs⟩
    |_=>cases e
   obtain⟨p,xs,rfl,hq,rs⟩:=key;have e1:=Rh hc.1 rx;have e2:=Mx hc.2 rs;subst e1 e2;refine⟨p,_,rfl,hq,Vx hc.1,Ri hc.2,?_⟩;rw[ZK hc.1 hc.2];exact fin h (fL _)
  ·rw[if_neg hc] at h;exact h.elim
theorem X5:iM X (aex .NotIn) (Rj true):=⟨_,op_notIn_seq,λρ O σ H Q x y dx dy j0 rx ry h=>in_of (ρ:=ρ) rx ry h⟩
end
def nO:Bool->aeo->ad5->ad5->Nat->Prop
 |true,h,it,l,k=>h.IsTupleIter it l k
 |false,h,it,l,k=>h.IsListIter it l k
def rJ:Bool->aeo->ad5->Array ad7->Prop
 |true,h,l,xs=>h.IsTuple l xs
 |false,h,l,xs=>h.IsList l xs
def itC(t:Bool):String:=if t then "tuple_iterator" else "list_iterator"
def Sq:Bool->PySem.W.Frag->Hp->ad5->List V->Prop
 |true,K,H,a,xs=>SqT K H a xs
 |false,K,H,a,xs=>SqL K H a xs
theorem nO.of(x:nO t h it l k)(q:∀o,h.get? it=some o->h'.get? it=some o):nO t h' it l k:=by
 cases t <;> (obtain⟨o,e,r⟩:=x;exact⟨o,q o e,r⟩)
theorem nO.obj(x:nO t h it l k):∃o,h.get? it=some o/\∀v,o.data≠.cell v:=by
 cases t <;> (obtain⟨o,e,c,d⟩:=x;exact⟨o,e,λv z=>by rw[d] at z;cases z⟩)
theorem nO.new(e:h.get? it=some {cls:= .type (itC t),data:= .fields #[.ref l,.int 0 0]}):nO t h it l 0:=by
 cases t <;> exact⟨_,e,rfl,rfl⟩
theorem rJ.of(x:rJ t h l xs)(q:∀o,h.get? l=some o->h'.get? l=some o):rJ t h' l xs:=by
 cases t <;> (obtain⟨o,e,r⟩:=x;exact⟨o,q o e,r⟩)
section
variable{prog:aek}{w:aep}{A:aer}{E:ad7->ad8->Prop}{s:ad8}
theorem nextT{v:ad7}(hit:s.heap.IsTupleIter it l i)(hl:s.heap.IsTuple l xs)(hv:xs[i]?=some v)
  (hQ:∀h',h'.IsTupleIter it l (i+1)->afD it s.heap h'->Q v {s with heap:=h'}):aec (model prog w) A (aeT (.ref it)) Q E s:=by
 have ty:=hit.typeIs;obtain⟨o,g,c,dt⟩:=hit;obtain⟨p,gp,_,m,dp⟩:=hl;unfold aeT;refine ad4 (afa (name:=aeH "__next__") ty F.slot_tuple_iterator_next (ae5 F.slot_tuple_iterator_next ty F.entry_tuple_iterator_next ?_ (F.args_tuple_iterator_next_1 _)));show aec _ _ (field (.ref it) 0 >>=_) _ _ s;refine ad4 (aeF g dt (x:= .ref l) rfl ?_);show aec _ _ (if (aew l ==aez)=true then _ else _) _ _ s;rw[if_neg (show ¬((aew l ==aez)=true) from aes)];show aec _ _ (field (.ref it) 1 >>=_) _ _ s;refine ad4 (aeF g dt (x:= .int i 0) rfl ?_);show aec _ _ (seqItems? (.ref l) >>=_) _ _ s;refine ad4 (agj gp dp ?_);simp only[aeQ,hv];refine ad4 (ahm g dt (by simp) (ad9 ⟨v,rfl,ad9 (hQ _ ⟨_,agn _ g (ahF (agO dt _)),(Obj.cls_mapFields ..).trans c,?_⟩ (ahW ..))⟩));rw[agO dt];simp[ae3]
theorem X6(hh:A.handled=none)(hit:s.heap.IsTupleIter it l i)(hl:s.heap.IsTuple l xs)(hv:xs[i]?=none)
  (hE:∀h' e,ai0 it s.heap h'->(∃o,h'.get? e=some o/\o.cls= .type "StopIteration")->E (.ref e) {s with heap:=h'}):aec (model prog w) A (aeT (.ref it)) Q E s:=by
 have ty:=hit.typeIs;obtain⟨o,g,c,dt⟩:=hit;obtain⟨p,gp,_,m,dp⟩:=hl;unfold aeT;refine ad4 (afa (name:=aeH "__next__") ty F.slot_tuple_iterator_next (ae5 F.slot_tuple_iterator_next ty F.entry_tuple_iterator_next ?_ (F.args_tuple_iterator_next_1 _)));show aec _ _ (field (.ref it) 0 >>=_) _ _ s;refine ad4 (aeF g dt (x:= .ref l) rfl ?_);show aec _ _ (if (aew l ==aez)=true then _ else _) _ _ s;rw[if_neg (show ¬((aew l ==aez)=true) from aes)];show aec _ _ (field (.ref it) 1 >>=_) _ _ s;refine ad4 (aeF g dt (x:= .int i 0) rfl ?_);show aec _ _ (seqItems? (.ref l) >>=_) _ _ s;refine ad4 (agj gp dp ?_);simp only[aeQ,hv];refine ad4 (ags (ad4 (ahm g dt (by simp) ?_)));show aec _ _ (newExc (.type "StopIteration") [] >>=_) _ _ _;refine ad4 ?_;simp only[newExc,newTuple];refine ad4 (aeI ?_ (by size_fits));refine ad4 (m:=firstArgMember _ _) (agw (a:=aez) (by first |(simp only[firstArgMember];rfl) |rfl) ?_);refine aeI ?_ (by size_fits);simp only[raiseNew];refine ad4 (wpAny_handled ?_);first |rw[show A.in1.handled=none from hh] |rw[hh]
 exact ad4 (ad9 (wpAny_throw (hE _ _ (((ahW ..).extBut.push _).push _) ⟨_,z1f _ rfl,rfl⟩)))
theorem Lw{v:ad7}(hit:nO t s.heap it l i)(hl:rJ t s.heap l xs)(hv:xs[i]?=some v)
  (hQ:∀h',nO t h' it l (i+1)->afD it s.heap h'->Q v {s with heap:=h'}):aec (model prog w) A (aeT (.ref it)) Q E s:=by
 cases t with
 |true=>exact nextT hit hl hv hQ
 |false=>exact wpAny_nextOf_list_item hit hl hv hQ
theorem El(hh:A.handled=none)(hit:nO t s.heap it l i)(hl:rJ t s.heap l xs)(hv:xs[i]?=none)
  (hE:∀h' e,ai0 it s.heap h'->(∃o,h'.get? e=some o/\o.cls= .type "StopIteration")->E (.ref e) {s with heap:=h'}):aec (model prog w) A (aeT (.ref it)) Q E s:=by
 cases t with
 |true=>exact X6 hh hit hl hv hE
 |false=>exact wpAny_nextOf_list_end hh hit hl hv hE
theorem Gf(hl:rJ t s.heap l xs)(hQ:Q (.ref s.heap.objs.size) {s with heap:=s.heap.push {cls:= .type (itC t),data:= .fields #[.ref l,.int 0 0]}}):
  aec (model prog w) A (pyIter (.ref l)) Q E s:=by
 cases t with
 |true=>exact wpAny_pyIter_tuple hl hQ
 |false=>exact aix hl hQ
theorem Mz{T:ad5}{arr:Array ad7}{x:ad7}{Q:Unit->ad8->Prop}(hT:s.heap.get? T=some {cls:= .type "tuple",data:= .seq arr})
  (h:∀h',h'.get? T=some {cls:= .type "tuple",data:= .seq (arr.setIfInBounds k x)}->afD T s.heap h'->Q () {s with heap:=h'})(hs:arr.size<=sizeLine:=by size_fits):aec (model prog w) A (updateSeq T (·.setIfInBounds k x)) Q E s:=by
 refine wpAny_updateSeq (hz:=hs) (_hz':=by simpa using Nat.le_succ_of_le hs) hT rfl (h _ (by rw[agn _ hT rfl];simp[afd]) (ahW ..))
end
section
variable{X:Cx}{pins:List (ad5×Obj)}{σ:St}{H:Hp}{s:ad8}
theorem _root_.L2.Inv.fp{b:ad5}(I:Inv X pins σ H s)(f:FpOk X pins H b)(sb:afD b s.heap h'):Inv X pins σ H {s with heap:=h'}:=
 I.turned (t':=s.toks) (λc o hc e=>(sb.2 c hc).trans e) f.1 f.2.1 f.2.2.2.1 f.2.2.2.2.1 f.2.2.2.2.2
theorem _root_.L2.Inv.fpE{b:ad5}(I:Inv X pins σ H s)(f:FpOk X pins H b)(sb:ai0 b s.heap h'):Inv X pins σ H {s with heap:=h'}:=
 I.turned (t':=s.toks) (λc o hc e=>sb c o hc e) f.1 f.2.1 f.2.2.2.1 f.2.2.2.2.1 f.2.2.2.2.2
theorem _root_.L2.FpOk.upd{b p:ad5}{o:HO}(f:FpOk X pins H b)(n:b≠p):FpOk X pins (L2.upd H p o) b:=⟨by rw[upd_ne n];exact f.1,f.2⟩
theorem _root_.L2.Inv.sq{xs:List V}(I:Inv X pins σ H s)(q:Sq t X.K H l xs):∃its:List ad7,Vals xs its/\rJ t s.heap l its.toArray:=by
 cases t with
 |true=>obtain⟨its,r,p,_⟩:=I.tuple q;exact⟨its,r,p⟩
 |false=>obtain⟨its,r,p,_⟩:=I.list q;exact⟨its,r,p.isList⟩
theorem _root_.L2.Inv.MF{xs ys:List V}(I:Inv X pins σ H s)(q:Sq t X.K H l xs)(r:Sq t X.K H l ys):xs=ys:=by
 cases t with
 |true=>exact I.tuple_inj q r
 |false=>exact I.list_inj q r
end
abbrev xP(h:aeo)(T:ad5)(arr:Array ad7):Prop:=h.get? T=some {cls:= .type "tuple",data:= .seq arr}
structure Z2(h:aeo)(z TI TO i1 i2:ad5)(t1 t2:Bool)(l1 l2:ad5)(k:Nat):Prop where
 z:IsZip h z TI TO .none
 ti:xP h TI #[.ref i1,.ref i2]
 to:∃a b,xP h TO #[a,b]
 s1:nO t1 h i1 l1 k
 s2:nO t2 h i2 l2 k
def X7(K:PySem.W.Frag)(t1:Bool)(l1:ad5)(t2:Bool)(l2:ad5):It:=
 ⟨λi H=>∃xs ys x y,Sq t1 K H l1 xs/\xs[i]?=some x/\Sq t2 K H l2 ys/\ys[i]?=some y,
  λi H v H'=>∃p x y,H p=none/\v= .ref p/\H'=upd H p (.tup [x,y])/\(∀xs,Sq t1 K H l1 xs->xs[i]?=some x)/\∀ys,Sq t2 K H l2 ys->ys[i]?=some y,
  λi H=>∃xs ys,Sq t1 K H l1 xs/\Sq t2 K H l2 ys/\(xs.length<=i\/ys.length<=i)⟩
section
variable{X:Cx}{pins:List (ad5×Obj)}{σ:St}{H:Hp}{s:ad8}{A':aer}{E:ad7->ad8->Prop}
theorem Vy:2<=sizeLine:=z0b (by decide) (z0e eU)
theorem Vz{z TI TO:ad5}{xs ys:List V}{x y:V}(I:Inv X pins σ H s)
  (fz:FpOk X pins H z)(fO:FpOk X pins H TO)(f1:FpOk X pins H i1)(f2:FpOk X pins H i2)
  (n1:TI≠z)(n2:TO≠z)(n3:i1≠z)(n4:i2≠z)(n5:TI≠TO)(n6:TI≠i1)(n7:TI≠i2)(n8:TO≠i1)(n9:TO≠i2)(n10:i1≠i2)
  (st:Z2 s.heap z TI TO i1 i2 t1 t2 l1 l2 k)(q1:Sq t1 X.K H l1 xs)(e1:xs[k]?=some x)(q2:Sq t2 X.K H l2 ys)(e2:ys[k]?=some y)
  (hQ:∀h',Inv X pins σ (upd H s.heap.objs.size (.tup [x,y])) {s with heap:=h'}->IsZip h' z TI TO (ae3 s.heap.objs.size)->xP h' TI #[.ref i1,.ref i2]->(∃a b,xP h' TO #[a,b])->
   nO t1 h' i1 l1 (k+1)->nO t2 h' i2 l2 (k+1)->Q (.ref s.heap.objs.size) {s with heap:=h'}):
  aec (model X.prog X.w) A' (afA.«zip.__next__» ⟨[.ref z],[]⟩) (λfin s'=>∃v,fin= .done (.ret v)/\Q v s') E s:=by
 obtain⟨hz,hTI,⟨a,b,hTO⟩,h1,h2⟩:=st;show aec _ _ (field (.ref z) 2 >>=_) _ _ _;refine ad4 (aeF hz rfl (x:= .bool false) rfl ?_);show aec _ _ (field (.ref z) 3 >>=_) _ _ _;refine ad4 (aeF hz rfl (x:= .ref TI) rfl ?_);refine ad4 (agj hTI rfl ?_);show aec _ _ (ae4 (.ref z) >>=_) _ _ _;refine ad4 ?_;unfold ae4;refine ad4 (aeF hz rfl (x:= .none) rfl (ad9 ?_));simp only[if_true];refine ad4 (ags (ad4 (aeF hz rfl (x:= .ref TO) rfl ?_)));refine ad4 (afs hz (by simp) λg1 z1 b1=>?_)
 replace z1:IsZip g1 z TI TO .ellipsis:=z1
 have I1:=I.fp fz b1;refine ad4 ?_;simp only[List.zipIdx_cons,List.zipIdx_nil,ag5,List.forIn_nil];obtain⟨us,r1,p1⟩:=I1.sq q1;obtain⟨u,hu,ru⟩:=r1.get e1;refine ad4 (ad4 (aiq ?_));show aec _ _ (aeT (.ref i1) >>=_) _ _ _;refine ad4 (Lw (h1.of λo e=>b1.extBut _ _ n3 e) p1 (v:=u) (by simpa using hu) λg2 s12 b2=>ad9 ?_);have I2:=I1.fp f1 b2;have o2:xP g2 TO #[a,b]:=b2.extBut _ _ n8 (b1.extBut _ _ n2 hTO);refine ad4 (agj o2 rfl (ad4 (Mz o2 λg3 o3 b3=>ad4 (wpAny_letGo (ad9 ?_)))))
 replace o3:xP g3 TO #[u,b]:=o3
 have I3:=I2.fp fO b3;obtain⟨vs,r2,p2⟩:=I3.sq q2;obtain⟨v,hv,rv⟩:=r2.get e2;refine ad4 (ad4 (aiq ?_));show aec _ _ (aeT (.ref i2) >>=_) _ _ _;refine ad4 (Lw (h2.of λo e=>b3.extBut _ _ (aeh n9) (b2.extBut _ _ (aeh n10) (b1.extBut _ _ n4 e))) p2 (v:=v) (by simpa using hv) λg4 s24 b4=>ad9 ?_);have I4:=I3.fp f2 b4;have o4:xP g4 TO #[u,b]:=b4.extBut _ _ n9 o3;refine ad4 (agj o4 rfl (ad4 (Mz o4 λg5 o5 b5=>ad4 (wpAny_letGo (ad9 (ad9 ?_))))))
 replace o5:xP g5 TO #[u,v]:=o5
 have I5:=I4.fp fO b5;refine ad4 (agj o5 rfl (ad4 (wpAny_newTuple ?_)));have sz:g5.objs.size=s.heap.objs.size:=by rw[b5.1,b4.1,b3.1,b2.1,b1.1]
 have I6:Inv X pins σ (upd H g5.objs.size (.tup [x,y])) {s with heap:=g5.push {cls:= .type "tuple",data:= .seq #[u,v]}}:=
  I5.laid (t':=s.toks) (λb u e=>z1a _ e) (z0g _) ⟨Vy,[u,v],.cons ru (.cons rv .nil),⟨_,z1f _ rfl,rfl,rfl,_,rfl⟩⟩
 have z5:IsZip g5 z TI TO .ellipsis:=b5.extBut _ _ (aeh n2) (b4.extBut _ _ (aeh n4) (b3.extBut _ _ (aeh n2) (b2.extBut _ _ (aeh n3) z1)));have lt:∀{c o},g5.get? c=some o->c≠g5.objs.size:=λe=>aeW (z2c e);show aec _ _ (afL (.ref z) (.ref g5.objs.size) >>=_) _ _ _;refine ad4 ?_;unfold afL;refine ad4 (afs (z1a _ z5) (by simp) λg7 z7 b7=>?_)
 replace z7:IsZip g7 z TI TO (ae3 g5.objs.size):=z7
 have I7:=I6.fp (fz.upd (lt z5)) b7;refine afs z7 (by simp) λg8 z8 b8=>?_
 replace z8:IsZip g8 z TI TO (ae3 g5.objs.size):=z8
 have I8:=I7.fp (fz.upd (lt z5)) b8;have up:∀c o,c≠z->g5.get? c=some o->g8.get? c=some o:=λc o c1 e=>b8.extBut _ _ c1 (b7.extBut _ _ c1 (z1a _ e));refine ad9 ⟨_,rfl,?_⟩;rw[sz] at I8 z8;show Q (.ref g5.objs.size) _;rw[sz];refine hQ g8 I8 z8 (up _ _ n1 (b5.extBut _ _ n5 (b4.extBut _ _ n7 (b3.extBut _ _ n5 (b2.extBut _ _ n6 (b1.extBut _ _ n1 hTI)))))) ⟨u,v,up _ _ n2 o5⟩ ?_ ?_
 ·exact s12.of λo e=>up _ _ n3 (b5.extBut _ _ (aeh n8) (b4.extBut _ _ n10 (b3.extBut _ _ (aeh n8) e)))
 ·exact s24.of λo e=>up _ _ n4 (b5.extBut _ _ (aeh n9) e)
theorem X8{z TI TO:ad5}{xs ys:List V}{Q:Fin->ad8->Prop}(hh:A'.handled=none)(I:Inv X pins σ H s)
  (fz:FpOk X pins H z)(fO:FpOk X pins H TO)(f1:FpOk X pins H i1)(f2:FpOk X pins H i2)
  (n1:TI≠z)(n2:TO≠z)(n3:i1≠z)(n4:i2≠z)(n5:TI≠TO)(n6:TI≠i1)(n7:TI≠i2)(n8:TO≠i1)(n9:TO≠i2)(n10:i1≠i2)
  (st:Z2 s.heap z TI TO i1 i2 t1 t2 l1 l2 k)(q1:Sq t1 X.K H l1 xs)(q2:Sq t2 X.K H l2 ys)(en:xs.length<=k\/ys.length<=k)
  (hE:∀h' e,Inv X pins σ H {s with heap:=h'}->(∃o,h'.get? e=some o/\o.cls= .type "StopIteration")->E (.ref e) {s with heap:=h'}):
  aec (model X.prog X.w) A' (afA.«zip.__next__» ⟨[.ref z],[]⟩) Q E s:=by
 obtain⟨hz,hTI,⟨a,b,hTO⟩,h1,h2⟩:=st;show aec _ _ (field (.ref z) 2 >>=_) _ _ _;refine ad4 (aeF hz rfl (x:= .bool false) rfl ?_);show aec _ _ (field (.ref z) 3 >>=_) _ _ _;refine ad4 (aeF hz rfl (x:= .ref TI) rfl ?_);refine ad4 (agj hTI rfl ?_);show aec _ _ (ae4 (.ref z) >>=_) _ _ _;refine ad4 ?_;unfold ae4;refine ad4 (aeF hz rfl (x:= .none) rfl (ad9 ?_));simp only[if_true];refine ad4 (ags (ad4 (aeF hz rfl (x:= .ref TO) rfl ?_)));refine ad4 (afs hz (by simp) λg1 z1 b1=>?_)
 replace z1:IsZip g1 z TI TO .ellipsis:=z1
 have I1:=I.fp fz b1;refine ad4 ?_;simp only[List.zipIdx_cons,List.zipIdx_nil,ag5,List.forIn_nil];obtain⟨us,r1,p1⟩:=I1.sq q1;have leave:∀{g g':aeo} {e:ad5} {c:ad5},Inv X pins σ H {s with heap:=g}->IsZip g z TI TO .ellipsis->FpOk X pins H c->c≠z->ai0 c g g'->(∃o,g'.get? e=some o/\o.cls= .type "StopIteration")->
   aec (model X.prog X.w) A' (setField (.ref z) 0 .none) (λ_ s'=>E (.ref e) s') E {s with heap:=g'}:=λ{g g' e c} Ig zg fc nc eb ⟨oe,hoe,hce⟩=>by
  have zg':IsZip g' z TI TO .ellipsis:=eb _ _ (aeh nc) zg;have hez:e≠z:=λq=>by subst q;rw[zg'] at hoe;cases hoe;simp at hce
  have Ig':Inv X pins σ H {s with heap:=g'}:=Ig.fpE fc eb;exact afs zg' (by simp) λg'' _ b''=>hE g'' e (Ig'.fp fz b'') ⟨oe,b''.extBut _ _ hez hoe,hce⟩
 refine ad4 (ad4 (aiq ?_));show aec _ _ (aeT (.ref i1) >>=_) _ _ _;have h1':=h1.of (h':=g1) λo e=>b1.extBut _ _ n3 e;by_cases hx:xs.length<=k
 ·exact ad4 (El hh h1' p1 (by have:=r1.length;simp;omega) λg2 e eb ex=>leave I1 z1 f1 n3 eb ex)
 ·have hy:ys.length<=k:=by rcases en with h |h;exact absurd h hx;exact h
  obtain⟨u,hu,ru⟩:=r1.get (i:=k) (x:=xs[k]'(by omega)) (aem (by omega));refine ad4 (Lw h1' p1 (v:=u) (by simpa using hu) λg2 s12 b2=>ad9 ?_);have I2:=I1.fp f1 b2;have o2:xP g2 TO #[a,b]:=b2.extBut _ _ n8 (b1.extBut _ _ n2 hTO);refine ad4 (agj o2 rfl (ad4 (Mz o2 λg3 o3 b3=>ad4 (wpAny_letGo (ad9 ?_)))));have I3:=I2.fp fO b3;obtain⟨vs,r2,p2⟩:=I3.sq q2;have z3:IsZip g3 z TI TO .ellipsis:=b3.extBut _ _ (aeh n2) (b2.extBut _ _ (aeh n3) z1);refine ad4 (ad4 (aiq ?_));show aec _ _ (aeT (.ref i2) >>=_) _ _ _;exact ad4 (El hh (h2.of λo e=>b3.extBut _ _ (aeh n9) (b2.extBut _ _ (aeh n10) (b1.extBut _ _ n4 e))) p2 (by have:=r2.length;simp;omega) λg4 e eb ex=>leave I3 z3 f2 n4 eb ex)
end
theorem VB{yZ:List aee}{kk}{pp:Pos}{z TI TO:ad5}
  (n1:TI≠z)(n2:TO≠z)(n3:i1≠z)(n4:i2≠z)(n5:TI≠TO)(n6:TI≠i1)(n7:TI≠i2)(n8:TO≠i1)(n9:TO≠i2)(n10:i1≠i2):
  Turn P w K (.Tuple yZ kk pp) (X7 K t1 l1 t2 l2) [z,TI,TO,i1,i2] z (λi h=>Z2 h z TI TO i1 i2 t1 t2 l1 l2 i) where
 mem:=by simp
 obj:=λi h st b hb=>by
  obtain⟨hz,hTI,⟨x,y,hTO⟩,h1,h2⟩:=st;simp only[ael,afl,or_false] at hb;rcases hb with rfl |rfl |rfl |rfl |rfl
  ·exact⟨_,hz,λv q=>by have q':aiZ _=ah8 v:=q;cases q'⟩
  ·exact⟨_,hTI,λv q=>by have q':Data.seq _=ah8 v:=q;cases q'⟩
  ·exact⟨_,hTO,λv q=>by have q':Data.seq _=ah8 v:=q;cases q'⟩
  ·exact h1.obj
  ·exact h2.obj
 keep:=λi h h' st k=>by
  obtain⟨hz,hTI,⟨x,y,hTO⟩,h1,h2⟩:=st;exact⟨k _ (by simp) _ hz,k _ (by simp) _ hTI,⟨x,y,k _ (by simp) _ hTO⟩,h1.of λo e=>k _ (by simp) o e,h2.of λo e=>k _ (by simp) o e⟩
 item :=by
  intro X hP hw hK hc i pins s σ H E I hf st hg;subst hP hw hK;obtain⟨xs,ys,x,y,q1,e1,q2,e2⟩:=hg;have hT:s.TypeIs (.ref z) "zip" :=⟨_,st.z,rfl⟩;unfold pyNext;refine ad4 (agZ (afa (name:=aeH "__next__") hT F.slot_zip_next (ae5 F.slot_zip_next hT F.entry_zip_next
   (Vz I (hf z (by simp)) (hf TO (by simp)) (hf i1 (by simp)) (hf i2 (by simp)) n1 n2 n3 n4 n5 n6 n7 n8 n9 n10 st q1 e1 q2 e2 λh' I' z' ti' to' s1' s2'=>ad9 ⟨_,rfl,?_⟩) (F.args_zip_next_1 _))))
  have hp:H s.heap.objs.size=none:=I.hok.fresh (z0g _);have nz:∀b,b∈[z,TI,TO,i1,i2]->b≠s.heap.objs.size:=λb hb q=>by
   obtain⟨o,e,_⟩:∃o,s.heap.get? b=some o/\True:=by
    obtain⟨hz,hTI,⟨x,y,hTO⟩,h1,h2⟩:=st;simp only[ael,afl,or_false] at hb;rcases hb with rfl |rfl |rfl |rfl |rfl
    ·exact⟨_,hz,trivial⟩
    ·exact⟨_,hTI,trivial⟩
    ·exact⟨_,hTO,trivial⟩
    ·obtain⟨o,e,_⟩:=h1.obj;exact⟨o,e,trivial⟩
    ·obtain⟨o,e,_⟩:=h2.obj;exact⟨o,e,trivial⟩
   exact absurd (z2c e) (by rw[q];exact afh _)
  refine wpAny_letOwnedTupleGo_zip z' λh'' z'' b''=>⟨.ref s.heap.objs.size,upd H s.heap.objs.size (.tup [x,y]),I'.fp ((hf z (by simp)).upd (nz z (by simp))) b'',rfl,⟨_,x,y,hp,rfl,rfl,λxs' q=>by rw[I.MF q q1];exact e1,λys' q=>by rw[I.MF q q2];exact e2⟩,?_,λb hb=>?_⟩
  ·obtain⟨a,b,to'⟩:=to';exact⟨z'',b''.extBut _ _ n1 ti',⟨a,b,b''.extBut _ _ n2 to'⟩,s1'.of λo e=>b''.extBut _ _ n3 e,s2'.of λo e=>b''.extBut _ _ n4 e⟩
  ·rw[upd_ne (nz b hb)];exact (hf b hb).1
 done:=by
  intro X hP hw hK hc i pins s σ H E I hf st hg;subst hP hw hK;obtain⟨xs,ys,q1,q2,en⟩:=hg;have hT:s.TypeIs (.ref z) "zip" :=⟨_,st.z,rfl⟩;unfold pyNext;refine ad4 (agZ (afa (name:=aeH "__next__") hT F.slot_zip_next (ae5 F.slot_zip_next hT F.entry_zip_next
   (X8 (I.ok.hd hc) I (hf z (by simp)) (hf TO (by simp)) (hf i1 (by simp)) (hf i2 (by simp)) n1 n2 n3 n4 n5 n6 n7 n8 n9 n10 st q1 q2 en λh' e I' ex=>?_) (F.args_zip_next_1 _))))
  obtain⟨o,ho,ec⟩:=ex;exact ad4 (ahy (T:= "StopIteration") (b:=true) ⟨o,ho,ec⟩ isSubtype_stop (ad9 ⟨rfl,I'⟩))
 self:=λ_ _ _ _ _ st h=>wpAny_pyIter_zip st.z h
abbrev itR(t:Bool)(l:ad5):Obj:={cls:= .type (itC t),data:= .fields #[.ref l,.int 0 0]}
abbrev VD(h:aeo)(t1:Bool)(l1:ad5):aeo:=h.push (itR t1 l1)
abbrev ZL(h:aeo)(t1:Bool)(l1:ad5)(t2:Bool)(l2:ad5):aeo:=(VD h t1 l1).push (itR t2 l2)
abbrev ZM(h:aeo)(t1:Bool)(l1:ad5)(t2:Bool)(l2:ad5):aeo:=(ZL h t1 l1 t2 l2).push {cls:= .type "tuple",data:= .seq #[.ref h.objs.size,.ref (VD h t1 l1).objs.size]}
abbrev ZP(h:aeo)(t1:Bool)(l1:ad5)(t2:Bool)(l2:ad5):aeo:=(ZM h t1 l1 t2 l2).push {cls:= .type "tuple",data:= .seq #[.none,.none]}
abbrev Rk(h:aeo)(t1:Bool)(l1:ad5)(t2:Bool)(l2:ad5):aeo:=(ZP h t1 l1 t2 l2).push {cls:= .type "zip",data:= .fields #[.none,.bool false,.bool false,.ref (ZL h t1 l1 t2 l2).objs.size,.ref (ZM h t1 l1 t2 l2).objs.size]}
theorem TQ(t1:Bool)(l1:ad5)(t2:Bool)(l2:ad5)(xs ys:Array ad7):Meets (afA.«zip.__new__» ⟨[.type "zip",.ref l1,.ref l2],[]⟩)
  (λ_ R s=>rJ t1 s.heap l1 xs/\rJ t2 s.heap l2 ys/\R (.ok (.ret (.ref (ZP s.heap t1 l1 t2 l2).objs.size))) {s with heap:=Rk s.heap t1 l1 t2 l2}):=
 .of_wp λprog w A R s h=>by
  obtain⟨hp,g,d,tk,os⟩:=s;obtain⟨k1,k2,h⟩:=h;have hsub:=sub_zip;have L1:rJ t1 (Shared.heap ⟨hp,g,d,tk,os⟩) l1 xs:=k1;have L2:rJ t2 (Shared.heap ⟨VD hp t1 l1,g,d,tk,os⟩) l2 ys:=k2.of λo e=>z1a _ e
  wp_walk using Gf L1,Gf L2
  exact⟨_,rfl,h⟩
section
variable{prog:aek}{w:aep}{A:aer}{E:ad7->ad8->Prop}{s:ad8}
theorem VF{ys:Array ad7}(k1:rJ t1 s.heap l1 xs)(k2:rJ t2 s.heap l2 ys)
  (h:∀h',Z2 h' (s.heap.objs.size+4) (s.heap.objs.size+2) (s.heap.objs.size+3) s.heap.objs.size (s.heap.objs.size+1) t1 t2 l1 l2 0->(∀c o,s.heap.get? c=some o->h'.get? c=some o)->Q (.ref (s.heap.objs.size+4)) {s with heap:=h'}):
  aec (model prog w) A (call (.type "zip") [.ref l1,.ref l2]) Q E s:=by
 refine callType_new F.called_zip (by decide) (F.typeCall_zip_2 _ _) (F.newCall_zip_2 _ _) (λobj=>F.args_object_init_3 obj _ _) F.entry_zip_new (TQ t1 l1 t2 l2 xs ys) ⟨k1,k2,?_⟩;have z1:(VD s.heap t1 l1).objs.size=s.heap.objs.size+1:=afp ..;have z2:(ZL s.heap t1 l1 t2 l2).objs.size=s.heap.objs.size+2:=by rw[afp,z1]
 have z3:(ZM s.heap t1 l1 t2 l2).objs.size=s.heap.objs.size+3:=by rw[afp,z2]
 have z4:(ZP s.heap t1 l1 t2 l2).objs.size=s.heap.objs.size+4:=by rw[afp,z3]
 have a5:(Rk s.heap t1 l1 t2 l2).get? (ZP s.heap t1 l1 t2 l2).objs.size=some _:=z1f _ rfl;have a4:(Rk s.heap t1 l1 t2 l2).get? (ZM s.heap t1 l1 t2 l2).objs.size=some _:=z1a _ (z1f _ rfl);have a3:(Rk s.heap t1 l1 t2 l2).get? (ZL s.heap t1 l1 t2 l2).objs.size=some _:=z1a _ (z1a _ (z1f _ rfl));have a2:(Rk s.heap t1 l1 t2 l2).get? (VD s.heap t1 l1).objs.size=some (itR t2 l2):=z1a _ (z1a _ (z1a _ (z1f _ rfl)));have a1:(Rk s.heap t1 l1 t2 l2).get? s.heap.objs.size=some (itR t1 l1):=z1a _ (z1a _ (z1a _ (z1a _ (z1f _ rfl))));show _/\_;rw[z2,z3,z4] at a5;rw[z1,z2] at a3;rw[z3] at a4;rw[z1] at a2;rw[z4];exact⟨⟨_,a5,rfl⟩,h _ ⟨a5,a3,⟨_,_,a4⟩,.new a1,.new a2⟩ λc o e=>z1a _ (z1a _ (z1a _ (z1a _ (z1a _ e))))⟩
end
theorem abU:afK "zip" =some (.type "zip"):=by decide +kernel
section
variable{X:Cx}{yZ:List aee}{kk:Nat}{pp:Pos}{a b:aee}{p pos:Pos}
def ac9(K:PySem.W.Frag)(ta:TA):TI:=λσ H R=>ta σ H λvs H1=>∃t1 l1 t2 l2,vs=[.ref l1,.ref l2]/\(∃xs,Sq t1 K H1 l1 xs)/\(∃ys,Sq t2 K H1 l2 ys)/\R (X7 K t1 l1 t2 l2) H1
theorem aaF {ta:TA} (hg:Gl X "zip") (hm:X.mg "zip" =none) (ha:PA X [a,b] ta) (he:starEach [a,b] X.env=(false,eval a X.env)::starEach [b] X.env:=by rfl) (hpl:(backTo pos (starEach [b] X.env)).any (·.1)=false:=by rfl):
    PI X (.Tuple yZ kk pp) (.Call (.Name "zip" p) [a,b] [] pos) (ac9 X.K ta):=by
  intro pins s σ H R I h
  refine Call_ (ld_blt I hg hm abU (ae1 (thn (ha pos pins s σ H _ I h) fun us s1 ⟨vs,H1,I1,r1,q1⟩=>?_) he hpl))
  obtain⟨t1,l1,t2,l2,e,⟨xs,w1⟩,⟨ys,w2⟩,q⟩:=q1
  subst e
  cases r1 with
  | cons r rr=>
    cases rr with
    | cons r' rr=>
      cases rr
      cases r
      cases r'
      obtain⟨vs1,_,p1⟩:=I1.sq w1
      obtain⟨vs2,_,p2⟩:=I1.sq w2
      refine VF p1 p2 fun h' st k=>wpAny_pyIter_zip st.z ⟨s1.heap.objs.size+4,[s1.heap.objs.size+4,s1.heap.objs.size+2,s1.heap.objs.size+3,s1.heap.objs.size,s1.heap.objs.size+1],_,_,H1,rfl,I1.kept (t':=s1.toks) k,VB ?_ ?_ ?_ ?_ ?_ ?_ ?_ ?_ ?_ ?_,st,fun c hc=>(by
        have hle:s1.heap.objs.size≤c:=by
          simp only[ael,afl,or_false] at hc
          rcases hc with rfl |rfl |rfl |rfl |rfl <;> first |exact Nat.le_refl _ |exact ahw _ _
        exact I1.fpOk hle (I1.hok.fresh hle)),q⟩
      all_goals (show @Ne Nat _ _;omega)
end
def xQ(xs ys:List D):List D:=(xs.zip ys).map λp=> .tup [p.1,p.2]
def zip2:List D->R (List D)
 |[x,y]=>(jC x).bind λxs=>(jC y).bind λys=> .ok (xQ xs ys)
 |_=> .bad
section
variable{K:PySem.W.Frag}{O:ad5->Prop}{H:Hp}
structure Src(K:PySem.W.Frag)(O:ad5->Prop)(H:Hp)(t:Bool)(a:ad5)(ds:List D):Prop where
 ex:∃vs,Sq t K H a vs/\aP K O H ds vs
 no:t=false->¬O a
theorem MJ{d:D}{v:V}{ds:List D}(r:Rep K O H d v)(h:jC d= .ok ds):∃t a,v= .ref a/\Src K O H t a ds:=by
 cases d with
 |tup es=>cases h;obtain⟨a,xs,rfl,q,rs⟩:=r.tup;exact⟨true,a,rfl,⟨xs,q,rs⟩,λz=>by cases z⟩
 |lst es=>cases h;obtain⟨a,xs,rfl,q,n,rs⟩:=r.lst;exact⟨false,a,rfl,⟨xs,q,rs⟩,λ_=>n⟩
 |_=>cases h
theorem Src.go{O':ad5->Prop}{H':Hp}{a:ad5}{ds:List D}(s:Src K O H t a ds)(q:eG K O H O' H'):∃vs,Sq t K H' a vs/\aP K O' H' ds vs:=by
 obtain⟨vs,h,r⟩:=s.ex;cases t with
 |true=>exact⟨vs,SqT.ext q.ext h,r.go q⟩
 |false=>exact⟨vs,SqL.ext q.ext (s.no rfl) h,r.go q⟩
theorem Yb{xs ys:List D}{d:D}(h:(xQ xs ys)[i]?=some d):∃x y,xs[i]?=some x/\ys[i]?=some y/\d= .tup [x,y]:=by
 unfold xQ at h;rw[z2b] at h;cases e:(xs.zip ys)[i]? with
 |none=>rw[e] at h;cases h
 |some p=>rw[e] at h;cases h;obtain⟨h1,h2⟩:=List.getElem?_zip_eq_some.mp e;exact⟨_,_,h1,h2,rfl⟩
theorem YR.zip2{a1 a2:ad5}{xs ys:List D}(s1:Src K O H t1 a1 xs)(s2:Src K O H t2 a2 ys):YR K O H (X7 K t1 a1 t2 a2) (xQ xs ys):=by
 intro O' H' q i;obtain⟨v1,q1,r1⟩:=s1.go q;obtain⟨v2,q2,r2⟩:=s2.go q;refine⟨λd e=>?_,λe=>⟨v1,v2,q1,q2,?_⟩⟩
 ·obtain⟨x,y,e1,e2,rfl⟩:=Yb e;obtain⟨u1,g1,w1⟩:=r1.get e1;obtain⟨u2,g2,w2⟩:=r2.get e2;refine⟨⟨v1,v2,u1,u2,q1,g1,q2,g2⟩,λx H2 y=>?_⟩;obtain⟨p,x1,x2,hp,rfl,rfl,k1,k2⟩:=y;have k1:=k1 _ q1;have k2:=k2 _ q2;rw[g1] at k1;cases k1;rw[g2] at k2;cases k2;exact⟨Same.upd hp,iJ (SqT.of upd_same) ((aP.cons w1 (.cons w2 .nil)).same (Same.upd hp))⟩
 ·rw[<-r1.length,<-r2.length];simp only[xQ,z1g,List.length_zip] at e;omega
end
section
variable{X:Cx}{yZ:List aee}{kk:Nat}{pp:Pos}{a b:aee}{p pos:Pos}{fa:aA->R (List D)}
theorem pB(hg:Gl X "zip")(hm:X.mg "zip" =none)(ha:DA X [a,b] fa)(he:aea [a,b] X.env=(false,eval a X.env)::aea [b] X.env:=by rfl)(hpl:(aeR pos (aea [b] X.env)).any (·.1)=false:=by rfl):
  DI X (.Tuple yZ kk pp) (.Call (.Name "zip" p) [a,b] [] pos) (λρ=>(fa ρ).bind zip2):=by
 refine PI.imp (aaF hg hm ha he hpl) λσ H Q q=>?_;obtain⟨ρ,O,j,q⟩:=q;refine go j q λds vs H1 e1 s1 r1 j1 h1=>?_;unfold zip2 at h1;split at h1
 ·rename_i x y;obtain⟨v1,v2,rfl,w1,w2⟩:=r1.two;cases ex:jC x with
  |bad=>rw[ex] at h1;exact h1.elim
  |err c=>rw[ex] at h1;cases x <;> cases ex
  | ok xs=>
   cases ey:jC y with
   |bad=>rw[ex,R.bf,ey] at h1;exact h1.elim
   |err c=>cases y <;> cases ey
   | ok ys=>
    rw[ex,R.bf,ey,R.bf] at h1;obtain⟨t1,a1,rfl,c1⟩:=MJ w1 ex;obtain⟨t2,a2,rfl,c2⟩:=MJ w2 ey;obtain⟨vs1,k1,_⟩:=c1.ex;obtain⟨vs2,k2,_⟩:=c2.ex;exact⟨t1,a1,t2,a2,rfl,⟨vs1,k1⟩,⟨vs2,k2⟩,fin h1 (YR.zip2 c1 c2)⟩
 ·exact h1.elim
end
section
variable{X:Cx}{pins:List (ad5×Obj)}{σ:St}{H:Hp}{s:ad8}{A':aer}{E:ad7->ad8->Prop}
end
section
variable{prog:aek}{w:aep}{A:aer}{E:ad7->ad8->Prop}{s:ad8}
end
section
variable{X:Cx}{yZ:List aee}{kk:Nat}{pp:Pos}{a b c:aee}{p pos:Pos}
end
section
variable{K:PySem.W.Frag}{O:ad5->Prop}{H:Hp}
theorem aP.three{d e f:D}{xs:List V}(r:aP K O H [d,e,f] xs):∃x y z,xs=[x,y,z]/\Rep K O H d x/\Rep K O H e y/\Rep K O H f z:=by
 obtain⟨x,t,rfl,h1,h2⟩:=r.cons_inv;obtain⟨y,z,rfl,h3,h4⟩:=h2.two;exact⟨x,y,z,rfl,h1,h3,h4⟩
end
section
variable{X:Cx}{yZ:List aee}{kk:Nat}{pp:Pos}{a b c:aee}{p pos:Pos}{fa:aA->R (List D)}
theorem Qk{x:D}{c:Str}(h:jC x= .err c):False:=by cases x <;> cases h
end
def JT(ns:List Int):List Int:=ns.mergeSort λa b=>decide (a<=b)
theorem Yc(ns:List Int):(JT ns).Perm ns:=List.mergeSort_perm _ _
theorem Yd(ns:List Int):(JT ns).Pairwise (· <= ·):=by
 have h:=List.pairwise_mergeSort (le:=λa b:Int=>decide (a<=b)) (λa b c h1 h2=>by simp at *;omega) (λa b=>by simp;omega) ns;exact h.imp λh=>by simpa using h
theorem Ye{a b:List Int}(p:a.Perm b)(ha:a.Pairwise (· <= ·))(hb:b.Pairwise (· <= ·)):a=b:=by
 induction a generalizing b with
 |nil=>exact (List.nil_perm.mp p).symm
 | cons x a ih=>
  cases b with
  |nil=>exact absurd (List.perm_nil.mp p) (by simp)
  | cons y b=>
   have ha':=afM.mp ha;have hb':=afM.mp hb;have h1:x=y:=by
    rcases ael.mp (p.mem_iff.mp (aen (a:=x) (l:=a))) with h |h
    ·exact h
    ·rcases ael.mp (p.mem_iff.mpr (aen (a:=y) (l:=b))) with k |k
     ·exact k.symm
     ·have:=ha'.1 y k;have:=hb'.1 x h;omega
   subst h1;rw[ih (List.perm_cons x |>.mp p) ha'.2 hb'.2]
theorem Em{a b:List Int}(p:a.Perm b)(h:a.Pairwise (· <= ·)):a=JT b:=Ye (p.trans (Yc b).symm) h (Yd b)
section
variable{X:Cx}
theorem Ik:∀{ns:List Int} {its:List ad7},Vals (ns.map V.int) its->afS its ns
 |[],_,r=>by cases r;exact .nil
 | n::ns,_,r=>by
  cases r with
  |cons h t=>obtain⟨tk,rfl⟩:=h;exact .cons n tk (Ik t)
theorem Rn:∀{ns:List Int} {its:List ad7},afS its ns->Vals (ns.map V.int) its
 |_,_,.nil=> .nil
 |_,_,.cons n t h=> .cons ⟨t,rfl⟩ (Rn h)
theorem zR{K:PySem.W.Frag}{O:ad5->Prop}{H:Hp}:∀{ds:List D} {ns:List Int} {vs:List V},intsOf ds=some ns->aP K O H ds vs->vs=ns.map V.int
 |[],ns,vs,e,r=>by cases e;exact r.nil_inv
 | d ::ds,ns,vs,e,r=>by
  obtain⟨x,t,rfl,h1,h2⟩:=r.cons_inv;cases d with
  | int i=>
   have e:(intsOf ds).map (i:: ·)=some ns:=e;cases q:intsOf ds with
   |none=>rw[q] at e;cases e
   |some l=>rw[q] at e;cases e;rw[h1.int,zR q h2];rfl
  |_=>cases e
theorem tK{K:PySem.W.Frag}{O:ad5->Prop}{H:Hp}:∀{ns:List Int},aP K O H (ns.map D.int) (ns.map V.int)
 |[]=> .nil
 |_::_=> .cons (cB _) tK
variable{pos:Pos}
end
def Ite(K:PySem.W.Frag)(t:Bool)(l:ad5):It:=
 ⟨λi H=>∃xs x,Sq t K H l xs/\xs[i]?=some x,
  λi H v H'=>∃p x,H p=none/\v= .ref p/\H'=upd H p (.tup [.int (i:Int),x])/\∀xs,Sq t K H l xs->xs[i]?=some x,
  λi H=>∃xs,Sq t K H l xs/\xs.length<=i⟩
section
variable{X:Cx}{pins:List (ad5×Obj)}{σ:St}{H:Hp}{s:ad8}{A':aer}{E:ad7->ad8->Prop}
theorem VG{e:ad5}{xs:List V}{x:V}{old:ad7}(I:Inv X pins σ H s)(fe:FpOk X pins H e)(fi:FpOk X pins H it)(ne:e≠it)
  (he:IsEnum s.heap e it k old)(hs:nO t s.heap it l k)(q:Sq t X.K H l xs)(ex:xs[k]?=some x)
  (hQ:∀h' u,Inv X pins σ (upd H s.heap.objs.size (.tup [.int (k:Int),x])) {s with heap:=h',toks:=s.toks+1}->IsEnumOut h' e it ((k:Int)+1) u s.heap.objs.size->nO t h' it l (k+1)->Q (.ref s.heap.objs.size) {s with heap:=h',toks:=s.toks+1}):
  aec (model X.prog X.w) A' (afA.«enumerate.__next__» ⟨[.ref e],[]⟩) (λfin s'=>∃v,fin= .done (.ret v)/\Q v s') E s:=by
 obtain⟨us,r1,p1⟩:=I.sq q;obtain⟨u,hu,ru⟩:=r1.get ex;obtain⟨hp,g,d,tk,os⟩:=s;show aec _ _ (field (.ref e) 2 >>=_) _ _ _;refine ad4 (aeF he rfl (x:= .ref it) rfl ?_);refine ad4 (Lw hs p1 (v:=u) (by simpa using hu) λg1 s1 b1=>?_);have I1:=I.fp fi b1
 replace b1:afD it hp g1:=b1
 have e1:IsEnum g1 e it k old:=(b1.2 e ne).trans he;show aec _ _ (field (.ref e) 3 >>=_) _ _ ⟨g1,g,d,tk,os⟩;refine ad4 (aeF e1 rfl (x:=ae3 k) rfl ?_);show aec _ _ (field (.ref e) 4 >>=_) _ _ ⟨g1,g,d,tk,os⟩;refine ad4 (aeF e1 rfl (x:= .none) rfl ?_);show aec _ _ (mkInt k >>=_) _ _ ⟨g1,g,d,tk,os⟩;refine ad4 (wpAny_mkInt ?_);have I1':Inv X pins σ H ⟨g1,g,d,tk+1,os⟩:=Inv.tok (s:=⟨g1,g,d,tk,os⟩) I1 (tk+1);show aec _ _ (setField (.ref e) 3 (ae3 ((k:Int)+1)) >>=_) _ _ ⟨g1,g,d,tk+1,os⟩;refine ad4 (afs e1 (by simp) λg2 e2 b2=>?_);have I2:=I1'.fp fe b2
 replace b2:afD e g1 g2:=b2
 replace e2:IsEnum g2 e it ((k:Int)+1) old:=e2
 show aec _ _ (setField (.ref e) 4 .none >>=_) _ _ ⟨g2,g,d,tk+1,os⟩;refine ad4 (afs e2 (by simp) λg3 e3 b3=>?_);have I3:=I2.fp fe b3
 replace b3:afD e g2 g3:=b3
 replace e3:IsEnum g3 e it ((k:Int)+1) old:=e3
 show aec _ _ (newTuple [.int k tk,u] >>=_) _ _ ⟨g3,g,d,tk+1,os⟩;refine ad4 (wpAny_newTuple ?_);have sz:g3.objs.size=hp.objs.size:=by rw[b3.1,b2.1,b1.1]
 have lt:e≠g3.objs.size:=aeW (z2c e3);have I4:Inv X pins σ (upd H g3.objs.size (.tup [.int (k:Int),x])) ⟨g3.push {cls:= .type "tuple",data:= .seq #[.int k tk,u]},g,d,tk+1,os⟩:=
  Inv.laid (s:=⟨g3,g,d,tk+1,os⟩) (t':=tk+1) I3 (λb u e=>z1a _ e) (z0g _) ⟨Vy,[.int k tk,u],.cons ⟨tk,rfl⟩ (.cons ru .nil),⟨_,z1f _ rfl,rfl,rfl,_,rfl⟩⟩
 have e4:IsEnum (g3.push {cls:= .type "tuple",data:= .seq #[.int k tk,u]}) e it ((k:Int)+1) old:=z1a _ e3;have s4:nO t (g3.push {cls:= .type "tuple",data:= .seq #[.int k tk,u]}) it l (k+1):=s1.of λo z=>z1a _ (b3.extBut _ _ (aeh ne) (b2.extBut _ _ (aeh ne) z));show aec _ _ (ae4 (.ref e) >>=_) _ _ ⟨g3.push {cls:= .type "tuple",data:= .seq #[.int k tk,u]},g,d,tk+1,os⟩
 generalize g3.push {cls:= .type "tuple",data:= .seq #[.int k tk,u]}=g4 at *
 refine ad4 ?_;unfold ae4;refine ad4 (aeF e4 rfl (x:= .none) rfl (ad9 ?_));simp only[if_true];refine ad4 (ags (ad4 (aeF e4 rfl (x:=old) rfl ?_)));refine ad4 (afs e4 (by simp) λg5 e5 b5=>?_);have I5:=I4.fp (fe.upd lt) b5
 replace b5:afD e g4 g5:=b5
 replace e5:IsEnum g5 e it ((k:Int)+1) u:=e5
 show aec _ _ (afL (.ref e) (.ref g3.objs.size) >>=_) _ _ ⟨g5,g,d,tk+1,os⟩;refine ad4 ?_;unfold afL;refine ad4 (afs e5 (by simp) λg6 e6 b6=>?_);have I6:=I5.fp (fe.upd lt) b6
 replace b6:afD e g5 g6:=b6
 replace e6:IsEnumOut g6 e it ((k:Int)+1) u g3.objs.size:=e6
 refine afs e6 (by simp) λg7 e7 b7=>?_;have I7:=I6.fp (fe.upd lt) b7
 replace b7:afD e g6 g7:=b7
 replace e7:IsEnumOut g7 e it ((k:Int)+1) u g3.objs.size:=e7
 refine ad4 (wpAny_letGo (ad9 ⟨_,rfl,?_⟩));rw[sz] at I7 e7;show Q (.ref g3.objs.size) _;rw[sz];exact hQ g7 u I7 e7 (s4.of λo z=>b7.extBut _ _ (aeh ne) (b6.extBut _ _ (aeh ne) (b5.extBut _ _ (aeh ne) z)))
end
theorem VH{yZ:List aee}{kk}{pp:Pos}{e:ad5}(ne:e≠it):
  Turn P w K (.Tuple yZ kk pp) (Ite K t l) [e,it] e (λi h=>(∃old,IsEnum h e it i old)/\nO t h it l i) where
 mem:=by simp
 obj:=λi h st b hb=>by
  obtain⟨⟨old,he⟩,hs⟩:=st;simp only[ael,afl,or_false] at hb;rcases hb with rfl |rfl
  ·exact⟨_,he,λv q=>by have q':aiZ _=ah8 v:=q;cases q'⟩
  ·exact hs.obj
 keep:=λi h h' st k=>by
  obtain⟨⟨old,he⟩,hs⟩:=st;exact⟨⟨old,k _ (by simp) _ he⟩,hs.of λo z=>k _ (by simp) o z⟩
 item :=by
  intro X hP hw hK hc i pins s σ H E I hf st hg;subst hP hw hK;obtain⟨⟨old,he⟩,hs⟩:=st;obtain⟨xs,x,q,ex⟩:=hg;have hT:s.TypeIs (.ref e) "enumerate" :=⟨_,he,rfl⟩;have hp:H s.heap.objs.size=none:=I.hok.fresh (z0g _);have nz:∀b,b∈[e,it]->b≠s.heap.objs.size:=λb hb z=>by
   obtain⟨o,eo⟩:∃o,s.heap.get? b=some o:=by
    simp only[ael,afl,or_false] at hb;rcases hb with rfl |rfl
    ·exact⟨_,he⟩
    ·obtain⟨o,eo,_⟩:=hs.obj;exact⟨o,eo⟩
   exact absurd (z2c eo) (by rw[z];exact afh _)
  unfold pyNext;refine ad4 (agZ (afa (name:=aeH "__next__") hT F.slot_enumerate_next (ae5 F.slot_enumerate_next hT F.entry_enumerate_next
   (VG I (hf e (by simp)) (hf it (by simp)) ne he hs q ex λh' u I' e' s'=>ad9 ⟨_,rfl,?_⟩) (F.args_enumerate_next_1 _))))
  refine wpAny_letOwnedTupleGo_enum e' λh'' e'' b''=>⟨.ref s.heap.objs.size,upd H s.heap.objs.size (.tup [.int (i:Int),x]),I'.fp ((hf e (by simp)).upd (nz e (by simp))) b'',rfl,⟨_,x,hp,rfl,rfl,λxs' q'=>by rw[I.MF q' q];exact ex⟩,⟨⟨u,by simpa using e''⟩,s'.of λo z=>b''.extBut _ _ (aeh ne) z⟩,λb hb=>?_⟩;rw[upd_ne (nz b hb)];exact (hf b hb).1
 done:=by
  intro X hP hw hK hc i pins s σ H E I hf st hg;subst hP hw hK;obtain⟨⟨old,he⟩,hs⟩:=st;obtain⟨xs,q,en⟩:=hg;obtain⟨us,r1,p1⟩:=I.sq q;have hT:s.TypeIs (.ref e) "enumerate" :=⟨_,he,rfl⟩;unfold pyNext;refine ad4 (agZ (afa (name:=aeH "__next__") hT F.slot_enumerate_next (ae5 F.slot_enumerate_next hT F.entry_enumerate_next ?_ (F.args_enumerate_next_1 _))));show aec _ _ (field (.ref e) 2 >>=_) _ _ _;refine ad4 (aeF he rfl (x:= .ref it) rfl ?_);refine ad4 (El (I.ok.hd hc) hs p1 (by have:=r1.length;simp;omega) λg1 x eb bJ=>?_);obtain⟨o,ho,ec⟩:=bJ;exact ad4 (ahy (T:= "StopIteration") (b:=true) ⟨o,ho,ec⟩ isSubtype_stop (ad9 ⟨rfl,I.fpE (hf it (by simp)) eb⟩))
 self:=λ_ _ _ _ _ st h=>by
  obtain⟨⟨old,he⟩,_⟩:=st;exact wpAny_pyIter_enum he h
theorem Ql(t:Bool)(l:ad5)(xs:Array ad7):Meets (afA.«enumerate.__new__» ⟨[.type "enumerate",.ref l],[]⟩)
  (λ_ R s=>rJ t s.heap l xs/\R (.ok (.ret (.ref (s.heap.push (itR t l)).objs.size))) {s with heap:=(s.heap.push (itR t l)).push {cls:= .type "enumerate",data:= .fields #[.none,.bool false,.ref s.heap.objs.size,ae3 0,.none,.none]}}):=
 .of_wp λprog w A R s h=>by
  obtain⟨hp,g,d,tk,os⟩:=s;obtain⟨k1,h⟩:=h;have hsub:=sub_enumerate;have L1:rJ t (Shared.heap ⟨hp,g,d,tk,os⟩) l xs:=k1
  wp_walk using Gf L1
  refine wpAny_stack_any λst=>ad9 ?_;split
  ·rename_i c _ _ _ _ _;cases (c ==aej "enumerate") <;> (wp_walk using Gf L1;exact⟨_,rfl,h⟩)
  ·wp_walk using Gf L1
   exact⟨_,rfl,h⟩
section
variable{prog:aek}{w:aep}{A:aer}{E:ad7->ad8->Prop}{s:ad8}
theorem TV(k1:rJ t s.heap l xs)
  (h:∀h',IsEnum h' (s.heap.objs.size+1) s.heap.objs.size 0 .none->nO t h' s.heap.objs.size l 0->(∀c o,s.heap.get? c=some o->h'.get? c=some o)->Q (.ref (s.heap.objs.size+1)) {s with heap:=h'}):
  aec (model prog w) A (call (.type "enumerate") [.ref l]) Q E s:=by
 refine callType_new F.called_enumerate (by decide) (F.typeCall_enumerate_1 _) (F.newCall_enumerate_1 _) (λobj=>F.args_object_init_2 obj _) F.entry_enumerate_new (Ql t l xs) ⟨k1,?_⟩;have z1:(s.heap.push (itR t l)).objs.size=s.heap.objs.size+1:=afp ..;have a2:((s.heap.push (itR t l)).push {cls:= .type "enumerate",data:= .fields #[.none,.bool false,.ref s.heap.objs.size,ae3 0,.none,.none]}).get? (s.heap.push (itR t l)).objs.size=some _:=z1f _ rfl;show _/\_;rw[z1] at a2 |-;exact⟨⟨_,a2,rfl⟩,h _ a2 (.new (z1a _ (z1f _ rfl))) λc o e=>z1a _ (z1a _ e)⟩
end
section
variable{X:Cx}{yZ:List aee}{kk:Nat}{pp:Pos}{a:aee}{p pos:Pos}{fa:aA->R (List D)}
def ada(K:PySem.W.Frag)(ta:TA):TI:=λσ H R=>ta σ H λvs H1=>∃t l,vs=[.ref l]/\(∃xs,Sq t K H1 l xs)/\R (Ite K t l) H1
theorem aaG {ta:TA} (hg:Gl X "enumerate") (hm:X.mg "enumerate" =none) (ha:PA X [a] ta) (he:starEach [a] X.env=(false,eval a X.env)::starEach [] X.env:=by rfl) (hpl:(backTo pos (starEach [] X.env)).any (·.1)=false:=by rfl):
    PI X (.Tuple yZ kk pp) (.Call (.Name "enumerate" p) [a] [] pos) (ada X.K ta):=by
  intro pins s σ H R I h
  refine Call_ (ld_blt I hg hm boot_enumerate (ae1 (thn (ha pos pins s σ H _ I h) fun us s1 ⟨vs,H1,I1,r1,q1⟩=>?_) he hpl))
  obtain⟨t,l,e,⟨xs,w1⟩,q⟩:=q1
  subst e
  cases r1 with
  | cons r rr=>
    cases rr
    cases r
    obtain⟨vs1,_,p1⟩:=I1.sq w1
    refine TV p1 fun h' e' s' k=>wpAny_pyIter_enum e' ⟨s1.heap.objs.size+1,[s1.heap.objs.size+1,s1.heap.objs.size],_,_,H1,rfl,I1.kept (t':=s1.toks) k,VH ?_,⟨⟨_,e'⟩,s'⟩,fun c hc=>(by
        have hle:s1.heap.objs.size≤c:=by
          simp only[ael,afl,or_false] at hc
          rcases hc with rfl |rfl <;> first |exact Nat.le_refl _ |exact ahw _ _
        exact I1.fpOk hle (I1.hok.fresh hle)),q⟩
    all_goals (show @Ne Nat _ _;omega)
def lJ:Nat->List D->List D
 |_,[]=>[]
 |n,d::ds=> .tup [.int (n:Int),d]::lJ (n+1) ds
theorem JV:∀{ds:List D} {n i:Nat} {d:D},(lJ n ds)[i]?=some d->∃x,ds[i]?=some x/\d= .tup [.int ((n+i:Nat):Int),x]
 |[],_,_,_,h=>by simp[lJ] at h
 |x::ds,n,0,d,h=>by simp[lJ] at h;exact⟨x,rfl,by rw[<-h];rfl⟩
 | x::ds,n,i+1,d,h=>by
  rw[lJ,aiU] at h;obtain⟨y,e1,e2⟩:=JV h;exact⟨y,by rw[aiU];exact e1,by rw[e2,show n+1+i=n+(i+1) by omega]⟩
theorem JW:∀{ds:List D} {n:Nat},(lJ n ds).length=ds.length
 |[],_=>rfl
 |_::ds,n=>by rw[lJ,aef,JW,aef]
def j5:List D->R (List D)
 |[x]=>(jC x).bind λxs=> .ok (lJ 0 xs)
 |_=> .bad
theorem YR.enum{O:ad5->Prop}{a:ad5}{xs:List D}(s1:Src K O H t a xs):YR K O H (Ite K t a) (lJ 0 xs):=by
 intro O' H' q i;obtain⟨v1,q1,r1⟩:=s1.go q;refine⟨λd e=>?_,λe=>⟨v1,q1,?_⟩⟩
 ·obtain⟨x,e1,rfl⟩:=JV e;obtain⟨u1,g1,w1⟩:=r1.get e1;refine⟨⟨v1,u1,q1,g1⟩,λx H2 y=>?_⟩;obtain⟨p,x1,hp,rfl,rfl,k1⟩:=y;have k1:=k1 _ q1;rw[g1] at k1;cases k1;rw[agU];exact⟨Same.upd hp,iJ (SqT.of upd_same) ((aP.cons (cB _) (.cons w1 .nil)).same (Same.upd hp))⟩
 ·rw[<-r1.length,<-JW (n:=0)];exact e
theorem lK(hg:Gl X "enumerate")(hm:X.mg "enumerate" =none)(ha:DA X [a] fa)(he:aea [a] X.env=(false,eval a X.env)::aea [] X.env:=by rfl)(hpl:(aeR pos (aea [] X.env)).any (·.1)=false:=by rfl):
  DI X (.Tuple yZ kk pp) (.Call (.Name "enumerate" p) [a] [] pos) (λρ=>(fa ρ).bind j5):=by
 refine PI.imp (aaG hg hm ha he hpl) λσ H Q q=>?_;obtain⟨ρ,O,j,q⟩:=q;refine go j q λds vs H1 e1 s1 r1 j1 h1=>?_;unfold j5 at h1;split at h1
 ·rename_i x;obtain⟨v1,rfl,w1⟩:=r1.one;cases ex:jC x with
  |bad=>rw[ex] at h1;exact h1.elim
  |err c=>exact (Qk ex).elim
  | ok xs=>
   rw[ex,R.bf] at h1;obtain⟨t1,a1,rfl,c1⟩:=MJ w1 ex;obtain⟨vs1,k1,_⟩:=c1.ex;exact⟨t1,a1,rfl,⟨vs1,k1⟩,fin h1 (YR.enum c1)⟩
 ·exact h1.elim
end
section
variable{prog:aek}{w:aep}{A:aer}{E:ad7->ad8->Prop}{s:ad8}
theorem Yg{Q:List ad7->ad8->Prop}{a b c:Int}{t u v:Tok}(hh:A.handled=none)(hr:IsRange s.heap r a b c t u v)(hsmall:ai8 a b c=true)
  (hn:afO a b c=n)(hlen:n<=2^24)(hQ:∀h' tk acc,(∀b o,s.heap.get? b=some o->h'.get? b=some o)->ItemsOf (λi v=>∃t,v= .int (a+i*c) t) acc n->Q acc.toList {s with heap:=h',toks:=tk}):
  aec (model prog w) A (collect (.ref r)) Q E s:=by
 unfold collect;refine ad4 (wpAny_runValue (ag9 F.entry_proto_collect ?_));rw[ahT F.plain_proto_collect _];show aec _ A.in1 (ahG [] >>=λl=>again (.builtin "list.__iadd__" ⟨[l,.ref r],[]⟩)) _ _ s;refine ad4 (aeI ?_);refine ad9 ⟨plainId_quiet F.plain_list_iadd _,ag9 F.entry_list_iadd ?_⟩;rw[ahT F.plain_list_iadd _];show aec _ A.in1 (agV (.ref s.heap.objs.size) (.ref r) (.ref s.heap.objs.size)) _ _ _;have hS:(s.heap.push {cls:= .type "list",data:= .seq ([]:List ad7).toArray}).get? s.heap.objs.size=some {cls:= .type "list",data:= .seq #[]}:=z1f _ rfl;have key :=wpAny_extend_range (prog:=prog) (w:=w) (A:=A) (s:={s with heap:=s.heap.push {cls:= .type "list",data:= .seq ([]:List ad7).toArray}})
  (R := λr s'=>match r with
   | .ok (.ret v)=>aec (model prog w) A (match v with
    | .ref a=>(do
     let o <-load a
     match o.data with
      | .seq xs _=>pure xs.toList
      |_=>unsupported "internal:collect")
    |_=>unsupported "internal:collect") Q E s'
   | .ok _=>False
   | .error e=>E e s') hh (z1a _ hr) hsmall hn hlen s.heap.objs.size (.ref s.heap.objs.size) 0 hS λh' tk acc' c' hk hS' hacc=>by
  refine ad4 (wpAny_load hS' ?_);exact ad9 (hQ h' tk acc' (λb o e=>hk b o (aeW (z2c e)) (z1a _ e)) hacc)
 exact key
theorem TX(r:ad5)(j:Int)(t u v:Tok)(h0:0<=j)(h1:j<=1000):Meets (afA.«tuple.__new__» ⟨[.type "tuple",.ref r],[]⟩)
  (λA R s=>A.handled=none/\IsRange s.heap r 0 j 1 t u v/\∀(h':aeo) (tk:Nat) (acc:Array ad7),(∀b o,s.heap.get? b=some o->h'.get? b=some o)->ItemsOf (λi v=>∃t,v= .int (0+i*1) t) acc j.toNat->
   R (.ok (.ret (.ref h'.objs.size))) {s with heap:=h'.push {cls:= .type "tuple",data:= .seq acc},toks:=tk}):=
 .of_wp λprog w A R s h=>by
  obtain⟨hh,hr,h⟩:=h;have hsub:=sub_tuple_self;have hinit:=init_tuple_lookup;have hmh:=madeHere_tuple;have hT:s.TypeIs (.ref r) "range" :=⟨_,hr,rfl⟩;have hh1:A.in1.handled=none:=hh;have hsm:ai8 0 j 1=true:=small_one (by omega) (by omega) (by omega) (by omega);have hsz:afO 0 j 1=(j.toNat:Int):=by rw[ahs];split <;> omega
  wp_walk using agR hT,Yg hh1 hr hsm hsz (by omega)
  intro h' tk acc hk hacc;show aec _ _ (aeX acc.toList.toArray >>=λv=>ret v) _ _ _;unfold aeX;have hle:acc.toList.toArray.size<=sizeLine:=by
   simp only[Array.toArray_toList];rw[hacc.1];exact z0b (by omega) (z0e eU)
  refine ad4 (aeI (ad9 ⟨_,rfl,?_⟩) hle);have e:acc.toList.toArray=acc:=by simp
  rw[e];exact h h' tk acc hk hacc
theorem TY{j:Int}{t u v:Tok}(hh:A.handled=none)(h0:0<=j)(h1:j<=1000)(hr:IsRange s.heap r 0 j 1 t u v)
  (h:∀(h':aeo) (tk:Nat) (acc:Array ad7),(∀b o,s.heap.get? b=some o->h'.get? b=some o)->ItemsOf (λi v=>∃t,v= .int (0+i*1) t) acc j.toNat->Q (.ref h'.objs.size) {s with heap:=h'.push {cls:= .type "tuple",data:= .seq acc},toks:=tk}):
  aec (model prog w) A (call (.type "tuple") [.ref r]) Q E s:=by
 refine callType_new F.called_tuple (by decide) (F.typeCall_tuple_1 _) (F.newCall_tuple_1 _) (λobj=>F.args_object_init_2 obj _) F.entry_tuple_new (TX r j t u v h0 h1) ⟨hh,hr,λh' tk acc hk hacc=>⟨⟨_,z1f _ rfl,rfl⟩,h h' tk acc hk hacc⟩⟩
end
section
variable{X:Cx}{a:aee}{p pos p2 pos2:Pos}{fa:aA->R (List D)}
def Il:List D->R D
 |[.int j]=>if 0<=j/\j<=1000 then .ok (.tup (upto 0 j.toNat)) else .bad
 |_=> .bad
def abV(K:PySem.W.Frag)(ta:TA):TE:=λσ H Q=>ta σ H λvs H1=>∃j:Int,vs=[.int j]/\0<=j/\j<=1000/\∀q,H1 q=none->Q (.ref q) (upd H1 q (.rng 0 j))
theorem Gg{ta:TA}(hg:Gl X "range")(hm:X.mg "range" =none)(ha:PA X [a] ta)(hs:aea [a] X.env=[(false,eval a X.env)]:=by rfl):PE X (.Call (.Name "range" p) [a] [] pos) (abV X.K ta):=by
 intro pins s σ H Q I h;refine Call_ (ld_blt I hg hm boot_range (ae1 (thn (ha pos pins s σ H _ I h) λus s1 ⟨vs,H1,I1,r1,q1⟩=>?_) hs rfl));obtain⟨j,e,h0,h1,q⟩:=q1;subst e;cases r1 with
 | cons r rr=>
  cases rr;obtain⟨t,rfl⟩:=r;refine call_range_1 ?_;exact⟨.ref s1.heap.objs.size,upd H1 s1.heap.objs.size (.rng 0 j),I1.laid (λb o e=>z1a _ e) (z0g _) ⟨_,_,_,z1f _ rfl⟩,rfl,q _ (I1.hok.fresh (z0g _))⟩
theorem Yh{acc:Array ad7}(h:ItemsOf (λi v=>∃t,v= .int (0+i*1) t) acc n):Vals ((ad6 n).map λ(i:Nat)=>V.int ((0:Int)+(i:Int))) acc.toList:=by
 have hl:acc.toList.length=n:=by simpa using h.1
 have key:∀(m:Nat) (l:List ad7),(∀(i:Nat) (v:ad7),l[i]?=some v->∃t,v=ah5 (0+((m+i:Nat):Int)*1) t)->Vals ((ad6 l.length).map λ(i:Nat)=>V.int ((0:Int)+((m+i:Nat):Int))) l:=by
  intro m l
  induction l generalizing m with
  |nil=>intro _;exact .nil
  | cons x l ih=>
   intro hx;rw[aef,aeN,z1h,aev];obtain⟨t,ht⟩:=hx 0 x rfl;refine .cons ⟨t,by rw[ht];simp⟩ ?_;have:=ih (m+1) λi v hv=>by
    obtain⟨t,e⟩:=hx (i+1) v (by simpa using hv);exact⟨t,by rw[e,show m+1+i=m+(i+1) by omega]⟩
   refine cast (congrArg (λz=>Vals z l) (aeY λi _=>?_)) this;simp only[Function.comp];rw[show m+1+i=m+(i+1) by omega]
 have:=key 0 acc.toList λi v hv=>by
  rw[ahE] at hv;obtain⟨t,e⟩:=h.2 i v hv;exact⟨t,by rw[e,agU]⟩
 rw[hl] at this;simpa using this
theorem VJ(hc:X.calm=true):CallR X (.type "tuple") (λxs H Q=>∃(b:ad5) (j:Int),xs=[.ref b]/\H b=some (.rng 0 j)/\0<=j/\j<=1000/\∀B,H B=none->Q (.ref B) (upd H B (.tup ((ad6 j.toNat).map λ(i:Nat)=>V.int ((0:Int)+(i:Int)))))):=by
 intro pins s σ H xs us Q I r h;obtain⟨b,j,rfl,hb,h0,h1,q⟩:=h;obtain⟨u,rfl,rx⟩:=vals1 r;cases rx;obtain⟨t,u,v,hr⟩:=(show ObjOk X.prog X.w H s.heap b (.rng 0 j) from I.hok b _ hb);refine TY (I.ok.hd hc) h0 h1 hr λh' tk acc hk hacc=>?_;have I1:Inv X pins σ H {s with heap:=h',toks:=tk}:=I.kept hk;have hf:H h'.objs.size=none:=I1.hok.fresh (z0g _);refine⟨.ref h'.objs.size,_,I1.laid (t':=tk) (o:= .tup ((ad6 j.toNat).map λ(i:Nat)=>V.int ((0:Int)+(i:Int)))) (λb o e=>z1a _ e) (z0g _) ⟨?_,acc.toList,Yh hacc,⟨_,z1f _ rfl,rfl,rfl,0,rfl⟩⟩,rfl,q _ hf⟩;rw[z1g,z2d];exact z0b (by omega) (z0e eU)
theorem VL{O:ad5->Prop}:aP K O H (upto 0 n) ((ad6 n).map λ(i:Nat)=>V.int ((0:Int)+(i:Int))):=by
 unfold upto
 generalize ad6 n=l
 induction l with
 |nil=>exact .nil
 |cons x l ih=>exact .cons (cB _) ih
theorem Ro(hc:X.calm=true)(hg:Gl X "tuple")(hm:X.mg "tuple" =none)(hg2:Gl X "range")(hm2:X.mg "range" =none)(ha:DA X [a] fa)(hs2:aea [a] X.env=[(false,eval a X.env)]:=by rfl)
  (he:aea [.Call (.Name "range" p) [a] [] pos] X.env=(false,eval (.Call (.Name "range" p) [a] [] pos) X.env)::aea [] X.env:=by rfl)(hpl:(aeR pos2 (aea [] X.env)).any (·.1)=false:=by rfl):
  DE X (.Call (.Name "tuple" p2) [.Call (.Name "range" p) [a] [] pos] [] pos2) (aD Il fa):=by
 refine PE.imp (pe_callTy (VJ hc) hg hm aeP (pa_cons (Gg hg2 hm2 ha hs2) pa_nil he) (by decide) (by decide) he hpl) λσ H Q q=>?_;obtain⟨ρ,O,j,q⟩:=q;refine go j q λds vs H1 e1 s1 r1 j1 h1=>?_;unfold Il at h1;split at h1
 ·obtain⟨x,rfl,rx⟩:=r1.one;rename_i i;by_cases hi:0<=i/\i<=1000
  ·rw[if_pos hi] at h1;refine⟨i,by rw[rx.int],hi.1,hi.2,λq hq=>⟨q,i,rfl,upd_same,hi.1,hi.2,λB hB=>?_⟩⟩;have s2:Same H1 (upd H1 q (.rng 0 i)):=Same.upd hq;exact h1 _ _ (s2.trans (Same.upd hB)) (Rep.mX hB VL)
  ·rw[if_neg hi] at h1;exact h1.elim
 ·exact h1.elim
end
section
variable{X:Cx}{e:aee}{f:aA->R D}{pos:Pos}
def MK(i:Nat)(f:aA->R D):aA->So:=λρ=>match ρ[i]? with
 | some (some (.val (.int a)))=>fZ (f ρ) ρ λd=>match d with
  | .int b=> .nx (ρ.set i (some (.val (.int (a+b)))))
  |_=> .bad
 |_=> .bad
theorem abW(i:Nat){x:Str}(hN:X.N.Nodup)(he:DE X e f)(hi:X.N[i]?=some x:=by rfl)(hx:Loc X.env.scope x:=by first |exact aeM rfl |exact aeB rfl)
  (hf:X.fn x=true\/X.env.scope.names.lookup x=some .local:=by first |exact .inl rfl |exact .inr rfl):DS X (.AugAssign (.Name x pos') .Add e pos) (MK i f):=by
 refine PS.imp (ps_aug hN hi hx he ip_add hf) λσ H E h=>?_;obtain⟨H0,O0,O,ρ,j,h⟩:=h;unfold MK at h;cases e1:ρ[i]? with
 |none=>simp only[e1] at h;exact h.elim
 | some oe =>
  cases oe with
  |none=>simp only[e1] at h;exact h.elim
  | some en=>
   cases en with
   |lst _=>simp only[e1] at h;exact h.elim
   |rG _=>simp only[e1] at h;exact h.elim
   |rws _=>simp only[e1] at h;exact h.elim
   |obj _=>simp only[e1] at h;exact h.elim
   | val d=>
    cases d with
    | int a=>
     simp only[e1] at h;obtain⟨v,hv,rv⟩:=j.inn.env.get i _ e1;have rv:v= .int a:=Rep.int (K:=X.K) (O:=O) (H:=H) rv;subst rv;refine⟨.int a,hv,ρ,O,j.inn,?_⟩;unfold fZ at h;cases e2:f ρ with
     |bad=>rw[e2] at h;exact h
     |err c=>rw[e2] at h;exact h σ H O j
     | ok d=>
      rw[e2] at h;intro v' H' s r;cases d with
      |int b=>exact⟨a,b,rfl,r.int,h _ H' O ((j.grow s).set (z1b hi).1 (cB _)) (Same.dR s)⟩
      |_=>exact h.elim
    |_=>simp only[e1] at h;exact h.elim
def Yi(K:PySem.W.Frag)(mg:Str->Option ad7)(x:Str)(ss:List Str):Prop:=∃a,mg x=some (.ref a)/\∀H,SqT K H a (ss.map V.str)
theorem JX{K:PySem.W.Frag}{O:ad5->Prop}{H:Hp}:∀{ss:List Str},aP K O H (ss.map D.str) (ss.map V.str)
 |[]=> .nil
 |_::_=> .cons (Cm _) JX
theorem aaH{x:Str}{ss:List Str}{pos:Pos}(hg:Gl X x)(h:Yi X.K X.mg x ss)(hd:(x ==("__debug__" :Str))=false:=by decide):DE X (.Name x pos) (λ_=> .ok (.tup (ss.map D.str))):=by
 obtain⟨a,hm,hq⟩:=h;exact HS (pe_glob (v:= .ref a) hg hm rfl hd) λ_ H=>iJ (hq H) JX
end
theorem aaI{mg:Str->Option ad7}{x:Str}{ss:List Str}{a:ad5}{its:Array ad7}{sl:Array (Option ad7)}(X:K.In h)(G:h.Ns aed mg)
  (y:PySem.W.nsIn K aed x=some (some (.ref a)))(l:K.lookup a=some ⟨.type "tuple",none,.seq its n,sl⟩)(hz:its.size<=sizeLine)(hv:Vals (ss.map V.str) its.toList):Yi K mg x ss:=
 ⟨a,PySem.W.mg_of X G y,λ_=> .inr ⟨_,its,n,l,rfl,rfl,rfl,hz,hv⟩⟩
section
variable{X:Cx}
theorem aaJ:OpR X (aex .IsNot) (λx y H Q=>∃b c,x= .bl b/\y= .bl c/\Q (.bl (b !=c)) H):=by
 intro pins s σ H x y v u Q I rx ry h;obtain⟨b,c,rfl,rfl,q⟩:=h;cases rx;cases ry;exact isnot_bool (fin_bl I q rfl)
def isB:D->D->R D
 | .bl b,.bl c=> .ok (.bl (b ==c))
 |_,_=> .bad
def T4:D->D->R D
 | .bl b,.bl c=> .ok (.bl (b !=c))
 |_,_=> .bad
theorem Rp:iM X (aex .IsNot) T4:=by
 refine⟨_,aaJ,λρ O σ H Q x y dx dy j0 rx ry h=>?_⟩;cases dx <;> cases dy <;> first
  |exact h.elim
  |exact⟨_,_,rx.bl,ry.bl,fin h (fL _)⟩
end
section
variable{X:Cx}
def ZQ(X:Cx)(Re:Hp->(ad5->Prop)->Hp->D->V->Prop)(f:aA->R D):TE:=λσ H Q=>∃ρ O,In X O H ρ σ/\good X (Re H) O (f ρ) σ H Q
def Rq(X:Cx)(Re:Hp->(ad5->Prop)->Hp->D->V->Prop)(e:aee)(f:aA->R D):Prop:=PE X e (ZQ X Re f)
def MN(X:Cx)(H:Hp)(Ac:Hp->ad5->(ad5->Prop)->Hp->List D->List V->Prop):(ad5->Prop)->Hp->D->V->Prop:=λO H' d v=>
 ∃Hs a ys ds,d= .lst ds/\v= .ref a/\Same H Hs/\Hs a=none/\X.K.lookup a=none/\Same Hs H'/\H' a=some (.lst ys)/\Ac Hs a O H' ds ys
structure ZR(K:PySem.W.Frag)(Re:Hp->(ad5->Prop)->Hp->D->V->Prop)(Ac:Hp->ad5->(ad5->Prop)->Hp->List D->List V->Prop):Prop where
 nil:∀{H2 a O H'},Ac H2 a O H' [] []
 same:∀{H2 a O H' tL ds ys},Ac H2 a O H' ds ys->H' a=some (.lst ys)->Same H' tL->Ac H2 a O tL ds ys
 len:∀{H2 a O H' ds ys},Ac H2 a O H' ds ys->ds.length=ys.length
 app:∀{H2 a O H7 H8 ds ys d v},Ac H2 a O H7 ds ys->H2 a=none->H7 a=some (.lst ys)->Same H2 H7->Same H7 H8->Re H7 (λb=>O b\/b=a) H8 d v->
  eG K (λb=>O b\/b=a) H8 (λb=>O b\/b=a) (upd H8 a (.lst (ys++[v])))->Ac H2 a O (upd H8 a (.lst (ys++[v]))) (ds++[d]) (ys++[v])
inductive Yj (XB:Cx) (Ac:Hp->ad5->(ad5->Prop)->Hp->List D->List V->Prop) (O1 O:ad5->Prop) (H2:Hp) (Dd:ad5) (fp:List ad5) (tn:Nat->aeo->Prop) (ρ0:aA) (xs:List D) (F:D->R (Option D)) (all:List D) (n:Nat) (s':ad8):Prop
 |mk (i:Nat) (σ':St) (H':Hp) (ys:List V) (ds rest:List D) (en:n=xs.length+1 - i) (hil:i<=xs.length) (I:Inv XB [] σ' H' s') (st:tn i s'.heap) (fr:∀b∈fp,H' b=none) (j:In XB O H' ρ0 σ') (sm:Same H2 H') (hD:H' Dd=some (.lst ys)) (rp:Ac H2 Dd O1 H' ds ys) (hm:jY F (xs.drop i)= .ok rest) (hr:ds++rest=all):Yj XB Ac O1 O H2 Dd fp tn ρ0 xs F all n s'
theorem JZ(Z:Hp->Prop)(hZ:∀{pins:List (ad5×Obj)} {σ:St} {H:Hp} {s:ad8},Inv X pins σ H s->Z H){Re:Hp->(ad5->Prop)->Hp->D->V->Prop}{Ac:Hp->ad5->(ad5->Prop)->Hp->List D->List V->Prop}(AC:ZR X.K Re Ac){fi:aA->R (List D)}{gt:D->aA->R aA}{fe:aA->R D}(ts:List Str)(caps:List Nat)
  (hc:X.calm=true)(hb:sW X.env.scope scope ts X.N=true)(hcap:(dY scope).map (λx=>iT x X.N)=caps)
  (hi:DI X tg iter fi)(hk:jE ts.length gt)(hg:∀C s H ex,(bZ X scope ts C s H ex).N.Nodup->DG (bZ X scope ts C s H ex) tg gt)(ht:∀C s H ex,Z H->zM (bZ X scope ts C s H ex) ifs ft)(he:∀C s H ex,Z H->Rq (bZ X scope ts C s H ex) Re elt fe)
  (hs:∀x,afo iter X.env x=pure x){O:ad5->Prop}{Q:VK}(I:Inv X pins σ H s)(j:In X O H ρ σ)
  (hQ:∀(v:V) (H':Hp) (s5:ad8) (C:ad5) (m:Str->Option ad7) (f:Flow) (acc:ad7),Q v H'->Inv X pins σ H' s5->s5.heap.Ns C m->FpOk X pins H' C->RelV v acc->aiP (model X.prog X.w) X.A X.xe use Qr acc C (.ok f) s5)
  (h:good X (MN X H Ac) O (bA ts.length caps fi gt ft fe ρ) σ H Q):
  aec (model X.prog X.w) X.A (comprehension (.ListComp elt [⟨tg,iter,ifs,0⟩] scope pos) scope X.env pos2 (ahG []) false (eval iter X.env) use) Qr X.xe s:=by
 have B:=ac6 hb;refine wpAny_comprehension_free (cl:=gU X.env.cells scope.names []) (use:=use) rfl hs (Tj λx hx e=>?_) B.kind B.loc ?_
 ·obtain⟨n,k⟩:=x;have e:k= .free:=e;subst e;exact I.ok.has n (B.out n (sY hx))
 refine thn (hi pins s σ H (λJ H1=>∃xs,YR X.K O H1 J xs/\In X O H1 ρ σ/\Same H H1/\good X (MN X H Ac) O ((jY (oZ gt ft fe (Cv ts.length caps ρ)) xs).bind (cap .lst)) σ H1 Q) I (Pu.go j h λxs J H1 e1 s1 y1 j1 h1=>⟨xs,y1,j1,s1,h1⟩)) λxv s1 h1=>thn h1 λitv s2 h2=>?_;obtain⟨it,fp,tn,J,H2,e,I2,T,st2,f2,xs,yr,j2,smH,g2⟩:=h2;subst e;rw[<-Tp hcap] at g2
 generalize eρ:pull X.N (dY scope) ts.length (ρ.map xJ)=ρ0 at g2
 obtain⟨all,hall,hlen,g3⟩:∃all,jY (oZ gt ft fe ρ0) xs= .ok all/\all.length<=1000000/\good X (MN X H Ac) O (.ok (.lst all)) σ H2 Q:=by
  cases e:jY (oZ gt ft fe ρ0) xs with
  |bad=>rw[e] at g2;exact g2.elim
  |err c=>exact absurd e FN
  | ok all=>
   rw[e] at g2;have g2:good X (MN X H Ac) O (if all.length<=1000000 then .ok (.lst all) else .bad) σ H2 Q:=g2;by_cases hl:all.length<=1000000
   ·rw[if_pos hl] at g2;exact⟨all,rfl,hl,g2⟩
   ·rw[if_neg hl] at g2;exact g2.elim
 have hlt:∀b∈fp,b<s2.heap.objs.size:=λb hb=>by
  obtain⟨o,e,_⟩:=T.obj 0 _ st2 b hb;exact z2c e
 refine aeI (Vf ?_)
 generalize hC:(s2.heap.push {cls:= .type "list",dict:=none,data:= .seq ([]:List ad7).toArray}).objs.size=C
 have hC':C=s2.heap.objs.size+1:=by rw[<-hC];exact afp ..
 generalize e4:pushCells ((s2.heap.push {cls:= .type "list",dict:=none,data:= .seq ([]:List ad7).toArray}).push {cls:= .type "dict",data:= .dict #[]}) scope.names=h4
 show ahi (model X.prog X.w) X.A (.compStart (.ListComp elt [⟨tg,iter,ifs,0⟩] scope pos) 0 (.ref it) (.ref s2.heap.objs.size) (gH scope X.env C)) (aiP (model X.prog X.w) X.A X.xe use Qr (.ref s2.heap.objs.size) C) {s2 with heap:=h4};have Rr:H2 s2.heap.objs.size=none:=I2.hok.fresh (z0g _);have hOn:¬O s2.heap.objs.size:=j2.mJ Rr;have hDk:X.K.lookup s2.heap.objs.size=none:=by
  cases q:X.K.lookup s2.heap.objs.size with
  |none=>rfl
  |some o=>exact absurd (z2c (I2.kIn _ _ q)) (afh _)
 have I4:=aat (ts:=ts) I2 B f2 hlt hC' e4.symm;have sD:Same H2 (upd H2 s2.heap.objs.size (.lst [])):=Same.upd Rr;have lρ0:ρ0.length=(ts++dY scope).length:=by rw[<-eρ,xH,z1d]
 generalize eD:s2.heap.objs.size=Dd at *
 have abX:∀{H':Hp},Same H2 H'->eG X.K O H2 (λa=>O a\/a=Dd) H':=λsm=>⟨(Same.dR (K:=X.K) (O:=O) sm).ext,λa z=>z.elim .inl λe=> .inr (by rw[e];exact⟨Rr,hDk⟩),(Same.dR (K:=X.K) (O:=O) sm).dom⟩;have alO:∀{H':Hp} {ys:List V},Same H2 H'->H' Dd=some (.lst ys)->∀a,(O a\/a=Dd)->∃o,H' a=some o:=λsm e a z=>z.elim (λq=>let⟨o,h⟩:=j2.al a q;⟨o,sm _ _ h⟩) λq=>by rw[q];exact⟨_,e⟩
 have j4:In (bZ X scope ts C s2 H2 fp) (λa=>O a\/a=Dd) (upd H2 Dd (.lst [])) ρ0 (pull X.N (dY scope) ts.length σ):=by
  rw[<-eρ];exact In.go (abI B j2.vals) JN (abX sD) (alO sD upd_same)
 have hv0:∀(i:Nat) e,ρ0[i]?=some (some e)->e.Q5=true:=by rw[<-eρ];exact JN
 have hn0:∀i,i<ts.length->ρ0[i]?=some none:=by rw[<-eρ];exact λi h=>Vh h
 have adb:∀b o,s2.heap.get? b=some o->h4.get? b=some o:=λb o e=>by
  rw[<-e4];exact ag6 _ _ b o (z1a _ (z1a _ e))
 have st4:tn 0 h4:=T.keep _ _ _ st2 λb _ o e=>adb b o e;have stat:∀{H':Hp},(∀b∈fp,H' b=none)->∀b∈fp,FpOk (bZ X scope ts C s2 H2 fp) [] H' b:=λ{H'} hn b hb=>by
  have hl: @LT.lt Nat _ b Dd:=hlt b hb;obtain⟨_,a1,a2,a3,a4,_⟩:=f2 b hb;refine⟨hn b hb,by show @Ne Nat b C;omega,λz=>?_,.inl hb,λx c h=>?_,λp hp=>absurd (show p∈([]:List (ad5×Obj)) from hp) (by simp)⟩
  ·rcases ael.mp (I2.stkSub b z) with z |z
   ·exact a1 z
   ·exact a2 z
  ·rcases kj B I2.ok.has h with⟨_,q⟩ |⟨_,q⟩
   ·show @Ne Nat c b;omega
   ·exact a4 x c q
 have fr4:∀b∈fp,(upd H2 Dd (.lst [])) b=none:=λb hb=>by
  have hl: @LT.lt Nat _ b Dd:=hlt b hb;rw[upd_ne (show @Ne Nat b Dd by omega)];exact (f2 b hb).1
 have loop : ∀s0:ad8,s0={s2 with heap:=h4}->ahi (model X.prog X.w) X.A (.compLoop (.ListComp elt [⟨tg,iter,ifs,0⟩] scope pos) 0 (.ref it) (.ref Dd) (gH scope X.env C)) (aiP (model X.prog X.w) X.A X.xe use Qr (.ref Dd) C) s0:=by
  intro s0 e0;refine codeAny_loop rfl (λn s'=>Yj (bZ X scope ts C s2 H2 fp) Ac O (λa=>O a\/a=Dd) H2 Dd fp tn ρ0 xs (oZ gt ft fe ρ0) all n s') (λn s' hI=>?_) (xs.length+1)
   ⟨0,_,_,[],[],all,rfl,afN _,e0▸I4,e0▸st4,fr4,j4,sD,upd_same,AC.nil,by simpa using hall,rfl⟩
  obtain⟨i,σ',H',ys,ds,rest,rfl,hil,I',st',fr',j',sm',hD',rp',hm',hr'⟩:=hI;show aec (model X.prog X.w) X.A ((compTurn (.ListComp elt [⟨tg,iter,ifs,0⟩] scope pos) 0 (.ref it) (.ref Dd) (gH scope X.env C)).onRaise (λx=>do noteFrame x (gH scope X.env C);theTreesLotGoes x)) _ _ s';refine wpAny_noted ?_;rw[compTurn_list];have Vi:=yr _ H' (abX sm') i;refine ad4 (agG (ad4 ?_));by_cases hlt':i<xs.length
  ·-- a turn
   have ex:xs[i]?=some xs[i]:=by simp[hlt']
   have ed:xs.drop i=xs[i]::xs.drop (i+1):=agt hlt';rw[ed] at hm';obtain⟨o,rest',k1,k2,k3⟩:=Vg hm';obtain⟨jgo,jy⟩:=Vi.1 _ ex;refine ae0 (T.item (bZ X scope ts C s2 H2 fp) rfl rfl rfl hc i [] s' σ' H' (λ_ _=>False) I' (stat fr') st' jgo) (λr s4 ⟨u,hr,h4'⟩=>?_) λ_ _ z=>z.elim;subst hr;refine ad4 (ae0 h4' (λ_ s5 ⟨x,H5,I5,r5,y5,st5,fr5⟩=>?_) λ_ _ z=>z.elim);obtain⟨Gh,adE⟩:=jy x H5 y5;have I5':=I5.pinned (stat fr5) (T.obj _ _ st5);have k1:(gt xs[i] ρ0).bind (λρ1=>(ft ρ1).bind λb=>if b=true then (fe ρ1).bind λd=> .ok (some d) else .ok none)= .ok o:=k1;cases q1:gt xs[i] ρ0 with
   |bad=>rw[q1] at k1;cases k1
   |err c=>rw[q1] at k1;cases k1
   | ok ρ1 =>
    rw[q1] at k1;have k1:(ft ρ1).bind (λb=>if b=true then (fe ρ1).bind λd=> .ok (some d) else .ok none)= .ok o:=k1;refine ad4 (ae0 (hg C s2 H2 fp B.nd _ s5 σ' H5 x u (λσ6 H6=>H6=H5/\In (bZ X scope ts C s2 H2 fp) (λa=>O a\/a=Dd) H5 ρ1 σ6) I5' r5 ⟨ρ0,_,xs[i],ρ1,j'.same Gh,adE,q1,λσ6 j6=>⟨rfl,j6⟩⟩) (λ_ s6 ⟨σ6,H6,I6,eH,j6⟩=>?_) λ_ _ z=>(show False from z).elim);subst eH;cases q2:ft ρ1 with
    |bad=>rw[q2] at k1;cases k1
    |err c=>rw[q2] at k1;cases k1
    | ok bb =>
     rw[q2] at k1;have k1:(if bb=true then (fe ρ1).bind λd=>R.ok (some d) else .ok none)= .ok o:=k1;have gtest:tG (bZ X scope ts C s2 H2 fp) rB ft σ6 H6 (λb H7=>b=bb/\Same H6 H7):=⟨ρ1,_,j6,by rw[q2];exact λb H7 s7 e7=>⟨e7.symm,s7⟩⟩;refine ad4 (ae0 (ht C s2 H2 fp (hZ I2) _ s6 σ6 H6 _ I6 gtest) (λok s7 ⟨H7,I7,ok7,zT⟩=>?_) λ_ _ z=>(show False from z).elim);subst ok7;have back:∀{H8:Hp} {s8:ad8} {ys':List V} {ds':List D},Inv (bZ X scope ts C s2 H2 fp) ([]++pinsAt fp s5.heap) σ6 H8 s8->Same H2 H8->In (bZ X scope ts C s2 H2 fp) (λa=>O a\/a=Dd) H8 ρ0 σ6->H8 Dd=some (.lst ys')->Ac H2 Dd O H8 ds' ys'->ds'++rest'=all->
       ∃m,m<xs.length+1 - i/\Yj (bZ X scope ts C s2 H2 fp) Ac O (λa=>O a\/a=Dd) H2 Dd fp tn ρ0 xs (oZ gt ft fe ρ0) all m s8:=by
      intro H8 s8 ys' ds' I8 Rt j8 ZS rp8 hr8;refine⟨xs.length+1 - (i+1),by omega,i+1,σ6,H8,ys',ds',rest',rfl,by omega,I8.unpinned,T.keep _ _ _ st5 λb hb o e=>(I8.pin (b,o) (aeC _ (aeC _ (mem_pinsAt hb e)))).1,λb hb=>?_,j8,Rt,ZS,rp8,k2,hr8⟩;obtain⟨o,e,d⟩:=T.obj _ _ st5 b hb;exact (I8.pin (b,o) (aeC _ (aeC _ (mem_pinsAt hb e)))).2.1
     have j60:In (bZ X scope ts C s2 H2 fp) (λa=>O a\/a=Dd) H6 ρ0 σ6:=In.back (n:=ts.length) j6 hn0 (λk hk'=>hk _ _ _ q1 k hk') lρ0;cases ok with
     | false=>
      have k1:R.ok none=R.ok o:=k1;cases k1;refine ad9 ⟨rfl,?_⟩;refine back I7 (sm'.trans (Gh.trans zT)) (j60.same zT) (zT _ _ (Gh _ _ hD')) (AC.same rp' hD' (Gh.trans zT)) ?_;rw[<-hr',k3];rfl
     | true =>
      have k1:(fe ρ1).bind (λd=>R.ok (some d))= .ok o:=k1;cases q3:fe ρ1 with
      |bad=>rw[q3] at k1;cases k1
      |err c=>rw[q3] at k1;cases k1
      | ok d =>
       rw[q3] at k1;have k1:R.ok (some d)=R.ok o:=k1;cases k1;have adF:ZQ (bZ X scope ts C s2 H2 fp) Re fe σ6 H7 (λv H8=>Same H7 H8/\Re H7 (λa=>O a\/a=Dd) H8 d v):=⟨ρ1,_,j6.same zT,by rw[q3];exact λv H8 s8 r8=>⟨s8,r8⟩⟩;refine ad4 (ad4 (ae0 (he C s2 H2 fp (hZ I2) _ s7 σ6 H7 _ I7 adF) (λxv s8 ⟨v8,H8,I8,r8,Rt,adG⟩=>?_) λ_ _ z=>(show False from z).elim));have ZS:H8 Dd=some (.lst ys):=Rt _ _ (zT _ _ (Gh _ _ hD'));have rp7:Ac H2 Dd O H7 ds ys:=AC.same rp' hD' (Gh.trans zT);have hD7:H7 Dd=some (.lst ys):=zT _ _ (Gh _ _ hD');have hds:ds++d::rest'=all:=by rw[<-hr',k3];rfl
       have hyl:ys.length<sizeLine:=by
        have:=eU;have e1:=AC.len rp7;have e2:=congrArg ah3 hds;rw[z1d,aef] at e2;omega
       refine ad4 (ae0 (mt_append (X:=bZ X scope ts C s2 H2 fp) _ s8 σ6 H8 (.ref Dd) [v8] (.ref Dd) [xv] (λ_ H9=>H9=upd H8 Dd (.lst (ys++[v8]))) I8 rfl (.cons r8 .nil) ⟨_,ys,v8,rfl,rfl,ZS,hyl,rfl⟩) (λ_ s9 ⟨_,H9,I9,_,eH9⟩=>?_) λ_ _ z=>(show False from z).elim);subst eH9;have adH:Same H2 H8:=sm'.trans (Gh.trans (zT.trans Rt));have abY:eG X.K (λa=>O a\/a=Dd) H8 (λa=>O a\/a=Dd) (upd H8 Dd (.lst (ys++[v8]))):=by
        refine⟨⟨λb zs h=>?_,λb zs n h=>?_⟩,λa z=> .inl z,λa z=>?_⟩
        ·have nb:b≠Dd:=λe=>by
          rw[e] at h;rcases h with h |⟨o,h⟩ <;> rw[ZS] at h <;> cases h
         rcases h with h |⟨o,h⟩
         ·exact .inl (by rw[upd_ne nb];exact h)
         ·exact .inr ⟨o,by rw[upd_ne nb];exact h⟩
        ·have nb:b≠Dd:=λe=>n (.inr e);rcases h with h |⟨o,h⟩
         ·exact .inl (by rw[upd_ne nb];exact h)
         ·exact .inr ⟨o,by rw[upd_ne nb];exact h⟩
        ·by_cases ea:a=Dd
         ·rw[ea,upd_same] at z;cases z
         ·rw[upd_ne ea] at z;exact z
       have sm9:Same H2 (upd H8 Dd (.lst (ys++[v8]))):=λb o e=>by
        rw[upd_ne (ne_of_none e Rr)];exact adH _ _ e
       refine ad9 (ad9 ⟨rfl,?_⟩);refine back I9 sm9 (In.go (j60.same (zT.trans Rt)) hv0 abY (alO sm9 upd_same)) upd_same (AC.app rp7 Rr hD7 (sm'.trans (Gh.trans zT)) Rt adG abY) ?_;rw[afb];exact hds
  ·-- the end
   have ei:i=xs.length:=by omega
   subst ei;have hrest:rest=[]:=by
    have hm':jY (oZ gt ft fe ρ0) (xs.drop xs.length)= .ok rest:=hm';rw[List.drop_length] at hm';cases hm';rfl
   subst hrest;rw[aeK] at hr';subst hr';refine ae0 (T.done (bZ X scope ts C s2 H2 fp) rfl rfl rfl hc _ [] s' σ' H' (λ_ _=>False) I' (stat fr') st' (Vi.2 (z0g _))) (λr s5 ⟨hr,I5⟩=>?_) λ_ _ z=>z.elim;subst hr;refine ad9 ?_;obtain⟨m,hns,_⟩:=I5.loc;have hCn:H' C=none:=I5.free;have I6:Inv X pins σ H' s5:=by
    refine I2.call' (s':=s5) (ch:=fp) I5.os ⟨λb o e n hb hx=>I5.base.keep b o e n hb hx,λb o e n hb hx=>I5.base.slot b o e n hb hx,I5.base.free,λb o e hx=>I5.base.there b o e hx,I5.base.tups,I5.base.frzs,I5.base.tbls⟩ (λb u e=>I5.hok b u e) I5.bare λb hb=>⟨(f2 b hb).2.2.2.1,(f2 b hb).2.1,(f2 b hb).2.2.2.2.1,(f2 b hb).2.2.2.2.2⟩
   exact hQ (.ref Dd) H' s5 C m _ (.ref Dd) (g3 _ _ sm' ⟨H2,Dd,_,_,rfl,rfl,smH,Rr,hDk,sm',hD',rp'⟩) I6 hns (I2.fpOk (show @LE.le Nat _ _ C by omega) hCn) rfl
 exact codeAny_compStart_list (loop _ rfl) (T.self _ 0 _ _ _ st4 (loop _ rfl))
theorem zU{Re:Hp->(ad5->Prop)->Hp->D->V->Prop}{Ac:Hp->ad5->(ad5->Prop)->Hp->List D->List V->Prop}(AC:ZR X.K Re Ac){fi:aA->R (List D)}{gt:D->aA->R aA}{fe:aA->R D}(ts:List Str)(caps:List Nat)
  (hc:X.calm=true)(hb:sW X.env.scope scope ts X.N=true)(hcap:(dY scope).map (λx=>iT x X.N)=caps)
  (hi:DI X tg iter fi)(hk:jE ts.length gt)(hg:∀C s H ex,(bZ X scope ts C s H ex).N.Nodup->DG (bZ X scope ts C s H ex) tg gt)(ht:∀C s H ex,zM (bZ X scope ts C s H ex) ifs ft)(he:∀C s H ex,Rq (bZ X scope ts C s H ex) Re elt fe)
  (hs:∀x,afo iter X.env x=pure x){O:ad5->Prop}{Q:VK}(I:Inv X pins σ H s)(j:In X O H ρ σ)
  (hQ:∀(v:V) (H':Hp) (s5:ad8) (C:ad5) (m:Str->Option ad7) (f:Flow) (acc:ad7),Q v H'->Inv X pins σ H' s5->s5.heap.Ns C m->FpOk X pins H' C->RelV v acc->aiP (model X.prog X.w) X.A X.xe use Qr acc C (.ok f) s5)
  (h:good X (MN X H Ac) O (bA ts.length caps fi gt ft fe ρ) σ H Q):
  aec (model X.prog X.w) X.A (comprehension (.ListComp elt [⟨tg,iter,ifs,0⟩] scope pos) scope X.env pos2 (ahG []) false (eval iter X.env) use) Qr X.xe s:=
 JZ (λ_=>True) (λ_=>trivial) AC ts caps hc hb hcap hi hk hg (λC s H ex _=>ht C s H ex) (λC s H ex _=>he C s H ex) hs I j hQ h
def reP(K:PySem.W.Frag):Hp->(ad5->Prop)->Hp->D->V->Prop:=λ_ O H d v=>Rep K O H d v
def acP(K:PySem.W.Frag):Hp->ad5->(ad5->Prop)->Hp->List D->List V->Prop:=λ_ a O H ds ys=>aP K (λb=>O b\/b=a) H ds ys
theorem DE.toP{e:aee}{f:aA->R D}(h:DE X e f):Rq X (reP X.K) e f:=PE.imp h λσ H Q q=>by
 obtain⟨ρ,O,j,q⟩:=q;exact⟨ρ,O,j,q⟩
theorem MP:ZR K (reP K) (acP K) where
 nil:=aP.nil
 same:=λh _ s=>aP.same s h
 len:=λh=>aP.length h
 app:=λh _ _ _ s r rc=>((aP.same s h).append (.cons r .nil)).go rc
theorem good.rel{β:Type}{Rl Rm:(ad5->Prop)->Hp->α->β->Prop}{O:ad5->Prop}{r:R α}{Q:β->Hp->Prop}(w:∀a b H',Same H H'->Rm O H' a b->Rl O H' a b)(h:good X Rl O r σ H Q):good X Rm O r σ H Q:=by
 cases r with
 |ok a=>exact λb H' s q=>h b H' s (w a b H' s q)
 |err c=>exact h
 |bad=>exact h
theorem M4{fi:aA->R (List D)}{gt:D->aA->R aA}{fe:aA->R D}(ts:List Str)(caps:List Nat)
  (hc:X.calm=true)(hb:sW X.env.scope scope ts X.N=true)(hcap:(dY scope).map (λx=>iT x X.N)=caps)
  (hi:DI X tg iter fi)(hk:jE ts.length gt)(hg:∀C s H ex,(bZ X scope ts C s H ex).N.Nodup->DG (bZ X scope ts C s H ex) tg gt)(ht:∀C s H ex,zM (bZ X scope ts C s H ex) ifs ft)(he:∀C s H ex,DE (bZ X scope ts C s H ex) elt fe)
  (hs:∀x,afo iter X.env x=pure x){O:ad5->Prop}{Q:VK}(I:Inv X pins σ H s)(j:In X O H ρ σ)
  (hQ:∀(v:V) (H':Hp) (s5:ad8) (C:ad5) (m:Str->Option ad7) (f:Flow) (acc:ad7),Q v H'->Inv X pins σ H' s5->s5.heap.Ns C m->FpOk X pins H' C->RelV v acc->aiP (model X.prog X.w) X.A X.xe use Qr acc C (.ok f) s5)
  (h:good X (rD X) O (bA ts.length caps fi gt ft fe ρ) σ H Q):
  aec (model X.prog X.w) X.A (comprehension (.ListComp elt [⟨tg,iter,ifs,0⟩] scope pos) scope X.env pos2 (ahG []) false (eval iter X.env) use) Qr X.xe s:=by
 refine zU MP ts caps hc hb hcap hi hk hg ht (λC s H ex=>(he C s H ex).toP) hs I j hQ (good.rel (λd v H' sm q=>?_) h);obtain⟨Hs,a,ys,ds,rfl,rfl,s1,n1,k1,s2,e3,r⟩:=q;refine lG (SqL.of e3) (λz=>?_) (r.fewer λa z=> .inl z);obtain⟨u,e⟩:=j.al a z;rw[s1 _ _ e] at n1;cases n1
theorem bM{fi:aA->R (List D)}{gt:D->aA->R aA}{fe:aA->R D}(ts:List Str)(caps:List Nat)
  (hc:X.calm=true)(hb:sW X.env.scope scope ts X.N=true)(hcap:(dY scope).map (λx=>iT x X.N)=caps)
  (hi:DI X tg iter fi)(hk:jE ts.length gt)(hg:∀C s H ex,(bZ X scope ts C s H ex).N.Nodup->DG (bZ X scope ts C s H ex) tg gt)(ht:∀C s H ex,zM (bZ X scope ts C s H ex) ifs ft)(he:∀C s H ex,DE (bZ X scope ts C s H ex) elt fe)
  (hs:∀x,afo iter X.env x=pure x:=by intro _;rfl):
  DE X (.ListComp elt [⟨tg,iter,ifs,0⟩] scope pos) (bA ts.length caps fi gt ft fe):=by
 intro pins s σ H Q I h;obtain⟨ρ,O,j,h⟩:=h;rw[eval_ListComp];exact M4 ts caps hc hb hcap hi hk hg ht he hs (use:=none) (Qr:=EP X pins σ Q) I j (λv H' s5 C m f acc hv I6 hns fp rv=>⟨m,hns,λh' sb=>⟨v,H',I6.fp fp sb,rv,hv⟩⟩) h
theorem aaK(i:Nat){x:Str}{cpos:Pos}{fi:aA->R (List D)}{gt:D->aA->R aA}{fe:aA->R D}(hN:X.N.Nodup)(ts:List Str)(caps:List Nat)
  (hc:X.calm=true)(hb:sW X.env.scope scope ts X.N=true)(hcap:(dY scope).map (λx=>iT x X.N)=caps)
  (hi:DI X tg iter fi)(hk:jE ts.length gt)(hg:∀C s H ex,(bZ X scope ts C s H ex).N.Nodup->DG (bZ X scope ts C s H ex) tg gt)(ht:∀C s H ex,zM (bZ X scope ts C s H ex) ifs ft)(he:∀C s H ex,DE (bZ X scope ts C s H ex) elt fe)
  (hix:X.N[i]?=some x:=by rfl)(hx:Loc X.env.scope x:=by first |exact aeM rfl |exact aeB rfl)(hf:X.fn x=true\/X.env.scope.names.lookup x=some .local:=by first |exact .inl rfl |exact .inr rfl)
  (hsw:agu (.ListComp elt [⟨tg,iter,ifs,0⟩] scope cpos) (some (.Name x pos')) pos.line X.env=pure true:=by rfl)
  (hs:∀x,afo iter X.env x=pure x:=by intro _;rfl):
  DS X (.Assign [.Name x pos'] (.ListComp elt [⟨tg,iter,ifs,0⟩] scope cpos) pos) (bB (bA ts.length caps fi gt ft fe) (aH i)):=by
 intro pins s σ H E I h;obtain⟨H0,O0,O,ρ,j,h⟩:=h;rw[ahH _ _ _ _ hsw];refine ad4 (agG (ad4 ?_));show aec _ _ (comprehension (.ListComp elt [⟨tg,iter,ifs,0⟩] scope cpos) scope X.env _ (ahG []) false (eval iter X.env) (some (assign (.Name x pos') X.env)) >>=λ_=>pure ()) _ _ _;unfold bB fZ at h;refine ad4 (M4 (Q:=λv H'=>∃d,bA ts.length caps fi gt ft fe ρ= .ok d/\Same H H'/\Rep X.K O H' d v) (Qr:=λ_ s'=>aec (model X.prog X.w) X.A (pure ()) (λ_ s1=>aec (model X.prog X.w) X.A (pure aiW) (SP X pins E) X.xe s1) X.xe s') ts caps hc hb hcap hi hk hg ht he hs I j.inn ?_ ?_)
 ·intro v H' s5 C m f acc hq I5 hns fC rel;obtain⟨d,ed,sm,rd⟩:=hq;rw[ed] at h;have h:oK X H0 O0 O H E (.nx (ρ.set i (some (.val d)))):=h;obtain⟨o,es,ep,ho,hd,hr⟩:=hns;have Ip:=I5.pinned (fp:=[C]) (λb hb=>by rw[aeD.mp hb];exact fC) (λb hb=>by rw[aeD.mp hb];exact⟨o,ho,λv z=>by rw[hd] at z;cases z⟩);show aec (model X.prog X.w) X.A (assign (.Name x pos') X.env acc) _ X.xe s5;refine ae0 (pg_name hN hix hx hf _ s5 σ H' v acc (λσ' tL=>σ'=σ.set i (some v)/\tL=H') Ip rel ⟨rfl,rfl⟩) (λ_ s6 ⟨σ',tL,I',e1,e2⟩=>?_) λ_ _ z=>z;subst e1 e2;have pn:=(I'.pin (C,o) (aeC _ (aeC _ (mem_pinsAt (aeD.mpr rfl) ho)))).1;refine⟨m,⟨o,es,ep,pn,hd,hr⟩,λh' sb=>ad9 (ad9 ⟨_,tL,(I'.unpinned).fp fC sb,h _ tL O ((j.grow sm).set (z1b hix).1 rd) (Same.dR sm)⟩)⟩
 ·cases e1:bA ts.length caps fi gt ft fe ρ with
  |bad=>rw[e1] at h;exact h
  |err c=>rw[e1] at h;exact h σ H O j
  |ok d=>exact λv H' sm r=>⟨d,rfl,sm,r⟩
end
def okN(F:List D->R D)(n:Nat)(ds:List D):R D:=if ds.length=n then F ds else .bad
def pX(sub:Str->Str->Bool)(i:Nat)(t:Str):aA->R D:=λρ=>match ρ[i]? with
 |some (some (.obj (.exc c)))=>if sub c c=true then .ok (.bl (sub c t)) else .bad
 |_=> .bad
def M5(sub:Str->Str->Bool)(t:Str)(i:Nat)(g h:aA->So):aA->So:=λρ=>match g ρ with
 | .ex c ρ1=>if sub c t=true then (match h (ρ1.set i (some (.obj (.exc c)))) with
  | .rt d=> .rt d
  |_=> .bad) else .bad
 |o=>o
def ad2:List D->R (List D)
 |[.lst ds]=> .ok ds.reverse
 |_=> .bad
def mulL:D->D->R D
 | .lst ds,.int k=>if ds≠[]/\1<=k/\k<2^63/\ds.length*k.toNat<=1000000 then .ok (.lst (aeb k.toNat ds).flatten) else .bad
 |x,y=>iH x y
section
variable{ρ ρ1:aA}{fa:aA->R (List D)}{F:List D->R D}{ds:List D}{n:Nat}{d:D}{c:Str}{f:aA->R D}{gt:D->aA->R aA}{p:aA->R Bool}{s t:aA->So}{o:So}
theorem jV(e:f (dN ρ)= .err c):jc f ρ= .ex c ρ:=by rw[jc,e];rfl
theorem zV(e:s ρ= .ex c ρ1):aR s t ρ= .ex c ρ1:=by rw[aR,e]
theorem qz{m:Nat}(e:s (ds.map (λd=>some (.val d))++aeb m none)= .ex c ρ1):cu m s ds= .err c:=by rw[cu,e]
theorem xR{sub:Str->Str->Bool}{t:Str}(h:ρ[i]?=some (some (.obj (.exc c))))(hk:sub c c=true):pX sub i t ρ= .ok (.bl (sub c t)):=by
 unfold pX;rw[h];show (if sub c c=true then R.ok (D.bl (sub c t)) else .bad)=_;rw[if_pos hk]
theorem M6{sub:Str->Str->Bool}{u:Str}(e1:s ρ= .ex c ρ1)(hs:sub c u=true)(e2:t (ρ1.set i (some (.obj (.exc c))))= .rt d):M5 sub u i s t ρ= .rt d:=by
 unfold M5;rw[e1];simp only[hs,if_true,e2]
end
structure wN(fs:List ad5)(h h':aeo)(a C:ad5)(T:Option ad5)(t':ad5):Prop where
 exc:Exc h' a C (some t')
 old:T=some t'\/h.get? t'=none
 keep:∀b o,h.get? b=some o->b≠a->T≠some b->b∉fs->h'.get? b=some o
 slot:∀b o,h.get? b=some o->b∈fs->∃sl,h'.get? b=some {o with slots:=sl}
section
variable{M:Model}{A:aer}{E:ad7->ad8->Prop}{s:ad8}
theorem zW{h h1 b0 b1:aeo}:∀{l:List PySem.Env},h.FunFrames b0 l->(∀b∈frs l,b1.get? b=none)->(∀b o,h.get? b=some o->b∈frs l->h1.get? b=some o)->h1.FunFrames b1 l
 |[],_,_,_=>trivial
 | env::r,hl,hn,hs=>by
  obtain⟨hk,⟨L,o,hf,_,ho,hd⟩,hr⟩:=hl;have e:frs (env::r)=L::frs r:=by unfold frs;rw[agF,hf]
  rw[e] at hn hs;exact⟨hk,⟨L,o,hf,hn L aen,hs L o ho aen,hd⟩,zW hr (λb hb=>hn b (z2f _ hb)) λb o q hb=>hs b o q (z2f _ hb)⟩
theorem VN{o:Obj}{g:Array ad7->Array ad7}:(o.mapFields g).dict=o.dict:=by
 obtain⟨c,d,dt,sl⟩:=o;cases dt <;> rfl
theorem J0{L a:ad5}{oe:Obj}{vs:Array ad7}{hd0:ad7}{had:Bool}{Q:Unit->ad8->Prop}(hfr:A.frames=some (env::outer))(hl:s.heap.FunFrames b0 (env::outer))(hf:env.frame=some L)
  (he:s.heap.get? a=some oe)(hc:oe.cls= .ref C)(hn:oe.dict=none)(hv:oe.data= .fields vs)(hz:1<vs.size)
  (h:∀h' t',wN (frs (env::outer)) s.heap h' a C none t'->Q () {s with heap:=h'}):
  aec M A (do let x <-frameOf env;let y <-entryPlaceOf L had;let z <-ai9 hd0 x .none (ae3 L) .none y;setField (.ref a) 1 z) (λ_ s'=>aec M A (setFlight (.ref a) none) Q E s') E s:=by
 have na:a∉frs (env::outer):=λz=>by
  obtain⟨_,o',ho',hd'⟩:=hl.mem z;rw[he] at ho';cases ho';exact hd' vs hv
 refine ad4 (wpAny_frameOf_fun hfr hl hf λg1 sl1=>ad4 (wpAny_entryPlaceOf λpl ok=>?_));unfold ai9 newFields;refine ad4 (aeI ?_ (ok.sizeOk5 _ _ _ _ _));have e1:g1.get? a=some oe:=(sl1.2.1 a na).trans he
 generalize hob:({cls:= .type "traceback",dict:=none,data:= .fields ([hd0,.ref L,.none,ae3 L,.none]++(if pl.isEmpty then aeb 6 aez else pl)).toArray}:Obj)=ob
 have Yk:ob.data= .fields ([hd0,.ref L,.none,ae3 L,.none]++(if pl.isEmpty then aeb 6 aez else pl)).toArray:=by rw[<-hob]
 have adI:ob.isFreed=false:=by rw[<-hob];rfl
 have e2:(g1.push ob).get? a=some oe:=z1a ob e1;refine ahm e2 hv hz ?_;have nT:g1.objs.size≠a:=aiI (z2c e1);have d3:=agO hv (·.setIfInBounds 1 (aew g1.objs.size));have e3:=agn (agJ (·.setIfInBounds 1 (aew g1.objs.size))) e2 (ahF d3);have T3:=(afe (g1.push ob) (agJ (·.setIfInBounds 1 (aew g1.objs.size))) (aeh nT)).trans (z1f g1 adI);unfold setFlight;refine ad4 (aeF e3 d3 (x:= .ref g1.objs.size) (by simp[hz]) ?_);rw[if_pos (show (aew g1.objs.size !=aez)=true from by simp)];have hsz:3<(([hd0,.ref L,.none,ae3 L,.none]++(if pl.isEmpty then aeb 6 aez else pl)).toArray).size:=by
  rw[z1c,z1d];show 3<5+_;omega
 refine ahm T3 Yk hsz (h _ g1.objs.size ⟨⟨_,_,(afe _ _ nT).trans e3,(Obj.cls_mapFields _ _).trans hc,VN.trans hn,d3,by simp[hz],nT,_,_,agn _ T3 (ahF (agO Yk _)),agO Yk _,?_⟩,.inr (Heap.get?_none_of_le (by rw[sl1.1];exact z0g _)),λb o hb n1 _ n3=>?_,λb o hb hm=>?_⟩)
 ·rw[Array.getElem?_setIfInBounds,if_pos rfl,if_pos hsz];rfl
 ·have q1:g1.get? b=some o:=(sl1.2.1 b n3).trans hb;rw[afe _ _ (aiI (z2c q1)),afe _ _ (aeh n1)];exact z1a _ q1
 ·obtain⟨sl,q1⟩:=sl1.2.2 b o hb;refine⟨sl,?_⟩;rw[afe _ _ (aiI (z2c q1)),afe _ _ (λz=>na (by rw[z];exact hm))];exact z1a _ q1
theorem M7{L a:ad5}{T:Option ad5}{Q:Unit->ad8->Prop}(hfr:A.frames=some (env::outer))(hl:s.heap.FunFrames b0 (env::outer))(hf:env.frame=some L)(x:Exc s.heap a C T)
  (h:∀h' t',wN (frs (env::outer)) s.heap h' a C T t'->Q () {s with heap:=h'}):aec M A (noteFrame (.ref a) env) (λ_ s2=>aec M A (setFlight (.ref a) none) Q E s2) E s:=by
 obtain⟨oe,vs,he,hc,hn,hd,hx⟩:=x;unfold noteFrame;simp only[hf];cases T with
 | none=>
  have h1:vs[1]?=some aez:=hx;refine ad4 (aeF he hd h1 ?_);rw[if_neg (by decide)];exact J0 hfr hl hf he hc hn hd (afW.mp h1).1 h
 | some t=>
  obtain⟨h1,hne,ot,ts,ht,hdt,h3⟩:=hx;have nt:t∉frs (env::outer):=λz=>by
   obtain⟨_,o',ho',hd'⟩:=hl.mem z;rw[ht] at ho';cases ho';exact hd' ts hdt
  refine ad4 (aeF he hd h1 ?_);rw[if_pos (show (aew t !=aez)=true from by simp)];refine ad4 (aeF ht hdt h3 ?_);rw[if_neg (show ¬((aez ==ae3 L)=true) from by simp[ae3])];refine ad4 (ahm ht hdt (afW.mp h3).1 ?_);have other:∀b o,s.heap.get? b=some o->b≠t->(s.heap.update t (agJ (·.setIfInBounds 3 aez))).get? b=some o:=λb o q hb=>(afe _ _ (aeh hb)).trans q;refine J0 (s:={s with heap:=s.heap.update t (agJ (·.setIfInBounds 3 aez))}) (b0:=b0) hfr (zW hl (λb hb=>(hl.mem hb).1) λb o q hb=>other b o q λz=>nt (z▸hb)) hf (other a oe he (aeh hne)) hc hn hd (afW.mp h1).1 λh' t' ld=>?_;refine h h' t' ⟨ld.exc,?_,λb o q n1 n2 n3=>ld.keep b o (other b o q λz=>n2 (by rw[z])) n1 (by simp) n3,λb o q hm=>ld.slot b o (other b o q λz=>nt (z▸hm)) hm⟩;by_cases z:t'=t
  ·exact .inl (by rw[z])
  ·refine .inr ?_;rcases ld.old with q |q
   ·cases q
   ·cases q2:s.heap.get? t' with
    |none=>rfl
    | some o=>
     have q3:=other t' o q2 z;have q:(s.heap.update t (agJ (·.setIfInBounds 3 aez))).get? t'=none:=q;rw[q] at q3;cases q3
theorem VP{L a:ad5}{T:Option ad5}{Q:Unit->ad8->Prop}(hfr:A.frames=some (env::outer))(hl:s.heap.FunFrames b0 (env::outer))(hf:env.frame=some L)(x:Exc s.heap a C T)
  (h:∀h' t',wN (frs (env::outer)) s.heap h' a C T t'->Q () {s with heap:=h'}):aec M A (leaving env (.ref a)) Q E s:=by
 unfold leaving;exact ad4 (M7 hfr hl hf x h)
end
section
variable{P:aek}{w:aep}{fs fs':List ad5}{H H' H0:Hp}{s s' s0:ad8}{a C:ad5}{T:Option ad5}{h':aeo}{t':ad5}
theorem ObjOk.ex{H:Hp}{a:ad5}{o:HO}(x:ObjOk P w H h a o):∃ob,h.get? a=some ob:=by
 induction o with
 |lst xs=>obtain⟨_,_,_,_,e⟩:=x;exact⟨_,e⟩
 |tup xs=>obtain⟨_,_,_,ob,e,_⟩:=x;exact⟨_,e⟩
 |dK kvs=>obtain⟨_,_,_,_,ob,_,_,e,_⟩:=x;exact⟨_,e⟩
 |dT kvs=>obtain⟨_,_,_,_,ob,_,_,e,_⟩:=x;exact⟨_,e⟩
 |set S n=>obtain⟨ob,_,_,_,e,_⟩:=x;exact⟨_,e⟩
 |ins C dx fs=>obtain⟨_,_,_,e,_⟩:=x;exact⟨_,e⟩
 |own y=>exact x
 |xd fs=>obtain⟨_,⟨_,_,_,e,_⟩,_⟩:=x;exact⟨_,e⟩
 |rng lo hi=>obtain⟨_,_,_,e⟩:=x;exact⟨_,e⟩
 |frz ob u ih=>exact⟨_,x.1⟩
 |tbl ps=>obtain⟨_,e,_⟩:=x;exact⟨_,e⟩
 |met f y=>exact⟨_,x⟩
 |ext φ=>exact x.2.1
theorem xT{b:ad5}(x:HOk P w H h)(e:h.get? b=none):H b=none:=by
 cases q:H b with
 |none=>rfl
 | some u=>
  obtain⟨o,z⟩:=ObjOk.ex (x b u q);rw[e] at z;cases z
theorem wN.hok(ld:wN fs h h' a C T t')(x:HOk P w H h)(ha:H a=none)(ht:∀t,T=some t->H t=none)(hf:∀b∈fs,H b=none):HOk P w H h':=λb u e=>by
 have ne:∀c v,H c=some v->c≠a/\T≠some c/\c∉fs:=λc v q=>⟨λz=>(by rw[z,ha] at q;cases q),λz=>(by rw[ht c z] at q;cases q),λz=>(by rw[hf c z] at q;cases q)⟩;refine (x b u e).stay (λc v hc q=>?_) (λ_ q=>q) (λ_ _ q=>q) λ_ _ _ _ q=>q;rcases hc with rfl |hc
 ·obtain⟨n1,n2,n3⟩:=ne _ _ e;exact ld.keep _ _ q n1 n2 n3
 ·obtain⟨n1,n2,n3⟩:=ne _ _ hc;exact ld.keep _ _ q n1 n2 n3
theorem yW.land(r:yW P w fs H s a C T s' H')(hs:∀b∈fs',b∈fs)(ld:wN fs' s'.heap h' a C T t')(hf:∀b∈fs,H' b=none):yW P w fs H s a C (some t') {s' with heap:=h'} H':=by
 have ne:∀b o,s.heap.get? b=some o->b≠a/\T≠some b:=λb o q=>⟨λz=>(by rw[z,r.na] at q;cases q),λz=>(by rw[(r.nt b z).1] at q;cases q)⟩;have any:∀b o,s.heap.get? b=some o->∀o',s'.heap.get? b=some o'->∃sl,h'.get? b=some {o' with slots:=sl}:=λb o q o' q'=>by
  by_cases hb:b∈fs'
  ·exact ld.slot b o' q' hb
  ·exact⟨o'.slots,ld.keep b o' q' (ne b o q).1 (ne b o q).2 hb⟩
 refine⟨r.same,⟨λb o q n hb hx=>?_,λb o q n hb hx=>?_,r.un.free,λb o q hx=>?_,r.un.tups,r.un.frzs,r.un.tbls⟩,ld.hok r.hok r.ha (λt z=>(r.nt t z).2) λb hb=>hf b (hs b hb),r.os,r.bare,ld.exc,r.na,r.ha,λt z=>?_⟩
 ·exact ld.keep b o (r.un.keep b o q n hb hx) (ne b o q).1 (ne b o q).2 λz=>hb (hs b z)
 ·obtain⟨sl,e⟩:=r.un.slot b o q n hb hx;obtain⟨sl',e'⟩:=any b o q _ e;exact⟨sl',e'⟩
 ·obtain⟨o',e⟩:=r.un.there b o q hx;obtain⟨sl',e'⟩:=any b o q _ e;exact⟨_,e'⟩
 ·cases z;rcases ld.old with z |z
  ·exact r.nt t' z
  ·refine⟨?_,xT r.hok z⟩;cases q:s.heap.get? t' with
   |none=>rfl
   | some o=>
    obtain⟨o',e⟩:=r.un.there t' o q (by simp);rw[z] at e;cases e
theorem yW.from{X:Cx}(I:Inv X pins σ H s)(hex:X.ex=[])(r:yW X.prog X.w (frs X.stack) H s a C T s' H')(sm:Same X.H₀ H):yW X.prog X.w X.fs X.H₀ X.s₀ a C T s' H':=by
 have J:Inv X pins σ H' s':=I.call' r.os r.un r.hok r.bare λb z=>absurd z (by simp);have b:=J.base;rw[hex] at b;have no:∀c,s.heap.get? c=none->X.s₀.heap.get? c=none:=λc e=>by
  cases q:X.s₀.heap.get? c with
  |none=>rfl
  | some o=>
   obtain⟨o',e'⟩:=I.base.there c o q (by rw[hex];simp);rw[e] at e';cases e'
 exact⟨sm.trans r.same,b,r.hok,J.os,r.bare,r.exc,no a r.na,r.ha,λt z=>⟨no t (r.nt t z).1,(r.nt t z).2⟩⟩
end
def Ru(P:aek)(w:aep):CXT:=λouter H s E e s'=>∃a C T H',e= .ref a/\E (.ref C) none H'/\yW P w (frs outer) H s a C T s' H'
def spX(K:PySem.W.Frag)(n:Nat)(F:List D->R D):Sp:=λvs H Q E=>∃O ds,aP K O H ds vs/\ds.length=n/\(∀a,O a->∃o,H a=some o)/\match F ds with
 | .ok d=>∀v H',Same H H'->Rep K O H' d v->Q v H'
 | .err c=>∀C H',PySem.W.nsIn K aed c=some (some (.ref C))->E (.ref C) none H'
 | .bad=>False
section
variable{P:aek}{w:aep}{K:PySem.W.Frag}{mg:Str->Option ad7}{base:aeo}
end
section
variable{X:Cx}{k n m:Nat}{F:List D->R D}{x:Str}{p pos:Pos}{e:aee}{es:List aee}{fa:aA->R (List D)}
end
abbrev Yl:List ad7:=[.type "ValueError",.type "Exception",.type "BaseException",.type "object"]
structure ZV(K:PySem.W.Frag)(mg:Str->Option ad7)(c:Str)(C:ad5):Prop where
 ns:PySem.W.nsIn K aed c=some (some (.ref C))
 mg:mg c=some (.ref C)
 ex:PySem.W.excIn K C Yl "ValueError.__new__" =true
theorem VR{bmB:List ad7}{newId:String}(X:K.In h)(q:PySem.W.excIn K C bmB newId=true):
  ∃bm N nm qn bs hdct sn sub ab col dd k0 k1 k2 k3 k5 mN,h.get? C=some (excClassObj nm qn C N bs bm hdct sn sub ab col dd k0 k1 k2 k3 k5 newId)/\h.Ns N mN/\mN "__init__" =none/\OwnTail h bmB bm:=by
 unfold PySem.W.excIn at q;split at q
 ·rename_i d0 cd sl0 e0;split at q
  ·rename_i C1 b1 a0 a1 a2 a3 n1 a5 e1 e2;simp only[ae6,beq_iff_eq,Bool.not_eq_true'] at q;obtain⟨⟨⟨⟨⟨rfl,rfl⟩,z1⟩,z2⟩,z3⟩,z4⟩:=q;obtain⟨v1,v2,v3,v4,v5,v6,v7,v8,v9,v10,v11⟩:=cd
   dsimp only at e1 z1 z3 z4
   subst e1 z1;obtain⟨l0⟩:=sl0;simp only at e2;subst e2;exact⟨b1,v4,v1,v5,v2,v6,v7,v8,v9,v10,d0,a0,a1,a2,a3,a5,_,X _ _ e0,.of_isNs (PySem.W.isNs_of_in X z3),PySem.W.nsMap_none_of_in X z3 z4,PySem.W.tail_of_in X z2⟩
  ·cases q
 ·cases q
section
variable{X:Cx}{c:Str}{C:ad5}{np cpos pos:Pos}{e:aee}{fa:aA->R (List D)}
theorem Ym(hc:X.calm=true)(hx:ZV X.K X.mg c C)(ha:DA X [e] fa)(hfa:∀ρ,∃ds,fa ρ= .ok ds/\ds.length<=1000000)(hg:Gl X c:=by rfl)(hdb:(c ==("__debug__" :Str))=false:=by decide)
  (he:aea [e] X.env=(false,eval e X.env)::aea [] X.env:=by rfl)(hpl:(aeR cpos (aea [e] X.env)).any (·.1)=false:=by rfl):
  DS X (.Raise (some (.Call (.Name c np) [e] [] cpos)) none pos) (λρ=> .ex c ρ):=by
 intro pins s σ H E I h;obtain⟨H0,O0,O,ρ,j,h⟩:=h;obtain⟨bm,N,nm,qn,bs,hdct,sn,sub,ab,col,dd,k0,k1,k2,k3,k5,mN,o1,o2,o3,o4⟩:=VR I.mod.kin hx.ex;obtain⟨ds,ef,dl⟩:=hfa ρ;have key:tG X (Fy X) fa σ H (λvs H1=>ds.length=vs.length/\Same H H1):=⟨ρ,O,j.inn,by rw[ef];exact λvs H1 s1 r1=>⟨r1.length,s1⟩⟩;refine wpAny_Raise_call_subU (C:=C) (nm:=nm) (q:=qn) (N:=N) (bs:=bs) (bm:=bm) (hdct:=hdct) (sn:=sn) (sub:=sub) (ab:=ab) (col:=col) (dd:=dd) (k0:=k0) (k1:=k1) (k2:=k2) (k3:=k3) (k5:=k5)
  PySem.F.excBase_ValueError (by rfl) PySem.F.excBase_ValueError (mN:=mN) (o4.hasType PySem.F.excBase_ValueError.hasBase) (I.ok.hd hc) hpl o3 (ld_glob I hg hx.mg ⟨rfl,?_⟩ hdb)
 have hA:=ha cpos pins s σ H _ I key;rw[he] at hA |-;refine ahO (ae0 hA (λus s1 ⟨vs,H1,I1,r,hl,sm⟩=>?_) λ_ _ z=>z);refine⟨rfl,?_,I1.bk _ _ o1,o2.keeps I1.bk,o4.keeps I1.bk,λh' ev hm=>?_⟩
 ·show us.length<=sizeLine;rw[<-r.length,<-hl];exact z0b dl dJ
 ·obtain⟨t,ht,_,_⟩:=hm.there;exact h σ H1 O (j.grow sm) H1 pins s1 ev C none _ H1 (Same.refl _) I1 hx.ns ⟨Same.refl _,Un.kept hm.keeps,I1.hok.kept hm.keeps,rfl,I1.bare,⟨_,_,ht,rfl,rfl,rfl,rfl⟩,hm.new,xT I1.hok hm.new,λ_ z=>by cases z⟩
end
section
variable{X:Cx}{pins:List (ad5×Obj)}{σ:St}{H:Hp}{s:ad8}
theorem _root_.L2.Inv.track{a:ad5}{o:Obj}(I:Inv X pins σ H s)(ha:H a=none)(ho:s.heap.get? a=some o)(n0:X.s₀.heap.get? a=none)(nL:a≠X.env.locals)(nc:∀x c,X.env.cells.lookup x=some c->c≠a)(np:∀p∈X.pn++pins,p.1≠a):
  Inv X pins σ (upd H a (.frz o (.own a))) s:=by
 have old:∀b u,H b=some u->upd H a (.frz o (.own a)) b=some u:=λb u q=>by rw[upd_ne (ne_of_none q ha)];exact q
 refine⟨I.ok,I.os,I.bare,⟨I.base.keep,I.base.slot,λb ob q n hx=>?_,I.base.there,λb xs q=>old _ _ (I.base.tups b xs q),λb ob u q=>old _ _ (I.base.frzs b ob u q),λb ps q=>?_⟩,I.loc,I.cell,?_,λx c q=>?_,λp hp=>?_,λb u q=>?_,I.len⟩
 ·rw[upd_ne (λz=>by rw[z,n0] at q;cases q)];exact I.base.free b ob q n hx
 ·obtain⟨more,e⟩:=I.base.tbls b ps q;exact⟨more,old _ _ e⟩
 ·rw[upd_ne (aeh nL)];exact I.free
 ·rw[upd_ne (nc x c q)];exact I.freeC x c q
 ·obtain⟨e,n,r⟩:=I.pin p hp;exact⟨e,by rw[upd_ne (np p hp)];exact n,r⟩
 ·by_cases hb:b=a
  ·subst hb;rw[upd_same] at q;cases q;exact⟨ho,o,ho⟩
  ·rw[upd_ne hb] at q;exact (I.hok b u q).stay (λ_ _ _ z=>z) (λc z=>old _ _ z) (λc xs z=>old _ _ z) λc o u _ z=>old _ _ z
theorem _root_.L2.Inv.gone{m':Str->Option ad7}{t':Nat}(I:Inv X pins σ H s)(hn:h'.Ns X.env.locals m')(hs:afD X.env.locals s.heap h'):Inv X pins (aeb X.N.length none) H {s with heap:=h',toks:=t'}:=by
 have to:∀b ob,X.s₀.heap.get? b=some ob->b≠X.env.locals:=λb ob q=>aeW (z0d (z2c q) I.ok.above);refine⟨I.ok,I.os,I.bare,⟨λb ob q n hb hx=>?_,λb ob q n hb hx=>?_,I.base.free,λb ob q hx=>?_,I.base.tups,I.base.frzs,I.base.tbls⟩,⟨m',hn,λi x v _ e2 _=>?_⟩,λx c q=>?_,I.free,I.freeC,λp hp=>?_,λb u q=>?_,by simp⟩
 ·exact (hs.2 b (to b ob q)).trans (I.base.keep b ob q n hb hx)
 ·obtain⟨sl,e⟩:=I.base.slot b ob q n hb hx;exact⟨sl,(hs.2 b (to b ob q)).trans e⟩
 ·obtain⟨o',e⟩:=I.base.there b ob q hx;exact⟨o',(hs.2 b (to b ob q)).trans e⟩
 ·rw[ae9] at e2;split at e2 <;> cases e2
 ·obtain⟨v,z⟩:=I.cell x c q;exact⟨v,z.sameBut hs (I.cne x c q)⟩
 ·obtain⟨e,n,ne,r⟩:=I.pin p hp;exact⟨(hs.2 p.1 ne).trans e,n,ne,r⟩
 ·refine (I.hok b u q).stay (λc w' hc z=>(hs.2 c ?_).trans z) (λ_ z=>z) (λ_ _ z=>z) λ_ _ _ _ z=>z
  rintro rfl
  rcases hc with hc |hc
  ·rw[<-hc,I.free] at q;cases q
  ·rw[I.free] at hc;cases hc
abbrev _root_.L2.Cx.Gi(X:Cx)(a:ad5):Cx:={X with A:=X.A.mark (some (.ref a)),calm:=false,xe:=λ_ _=>False}
theorem _root_.L2.Inv.Gi(I:Inv X pins σ H s)(a:ad5):Inv (X.Gi a) pins σ H s:=
 ⟨⟨I.ok.mod,I.ok.kind,I.ok.glob,I.ok.blt,I.ok.above,I.ok.inj,I.ok.has,I.ok.cab,λz=>Bool.noConfusion z,I.ok.frames,I.ok.stk,I.ok.exf,I.ok.bs,I.ok.bsz,I.ok.noex,I.ok.exfs,I.ok.funs,I.ok.frf⟩,I.os,I.bare,I.base,I.loc,I.cell,I.free,I.freeC,I.pin,I.hok,I.len⟩
theorem _root_.L2.Inv.adJ{a:ad5}(ok:X.Ok)(I:Inv (X.Gi a) pins σ H s):Inv X pins σ H s:=⟨ok,I.os,I.bare,I.base,I.loc,I.cell,I.free,I.freeC,I.pin,I.hok,I.len⟩
theorem At.cx{Y:Cx}{H0:Hp}{O:ad5->Prop}(j:At X H0 O0 O H ρ σ)(hK:Y.K=X.K)(hN:Y.N=X.N):At Y H0 O0 O H ρ σ:=
 ⟨j.same,by rw[hK];exact j.dR,j.sub,⟨by rw[hK];exact j.inn.env,j.inn.al,by rw[hN];exact j.inn.len,by rw[hN];exact j.inn.jr⟩,j.mine,j.pW⟩
theorem At.En{H0:Hp}{O:ad5->Prop}(j:At X H0 O0 O H ρ σ)(hi:i<X.N.length){t:Ob}{v:V}(r:lR X.K H t v):At X H0 O0 O H (ρ.set i (some (.obj t))) (σ.set i (some v)):=by
 have h1:i<ρ.length:=by rw[j.inn.jr];exact hi
 have h2:i<σ.length:=by rw[j.inn.len];exact hi
 refine⟨j.same,j.dR,j.sub,⟨⟨λk e q=>?_,λk l e e' u hkl hk hl ok ol sk sl=>?_,λk l rows a rs e u hkl hk sk ha hl ol sl=>?_⟩,j.inn.al,by rw[aeL];exact j.inn.len,by rw[aeL];exact j.inn.jr⟩,λk e a q ho hs=>?_,λk rows a rs q hs=>?_⟩
 ·by_cases hki:k=i
  ·subst hki;rw[z2a h1] at q;cases q;exact⟨v,z2a h2,r⟩
  ·rw[z1e (aeh hki)] at q |-;exact j.inn.env.get k e q
 ·by_cases hki:k=i
  ·subst hki;rw[z2a h1] at hk;cases hk;cases ok
  ·by_cases hli:l=i
   ·subst hli;rw[z2a h1] at hl;cases hl;cases ol
   ·rw[z1e (aeh hki)] at hk sk;rw[z1e (aeh hli)] at hl sl;exact j.inn.env.sep k l e e' u hkl hk hl ok ol sk sl
 ·by_cases hki:k=i
  ·subst hki;rw[z2a h1] at hk;cases hk
  ·by_cases hli:l=i
   ·subst hli;rw[z2a h1] at hl;cases hl;cases ol
   ·rw[z1e (aeh hki)] at hk sk;rw[z1e (aeh hli)] at hl sl;exact j.inn.env.lU k l rows a rs e u hkl hk sk ha hl ol sl
 ·by_cases hki:k=i
  ·subst hki;rw[z2a h1] at q;cases q;cases ho
  ·rw[z1e (aeh hki)] at q hs;exact j.mine k e a q ho hs
 ·by_cases hki:k=i
  ·subst hki;rw[z2a h1] at q;cases q
  ·rw[z1e (aeh hki)] at q hs;exact j.pW k rows a rs q hs
end
abbrev _root_.L2.Cx.Rv(X:Cx)(E:ad7->ad8->Prop)(pn:List (ad5×Obj)):Cx:={X with xe:=E,pn:=pn}
section
variable{X:Cx}{pins:List (ad5×Obj)}{σ:St}{H:Hp}{s:ad8}{E:ad7->ad8->Prop}
theorem _root_.L2.Inv.Rv(I:Inv X pins σ H s)(E:ad7->ad8->Prop):Inv (X.Rv E (X.pn++pins)) [] σ H s:=
 ⟨⟨I.ok.mod,I.ok.kind,I.ok.glob,I.ok.blt,I.ok.above,I.ok.inj,I.ok.has,I.ok.cab,I.ok.hd,I.ok.frames,I.ok.stk,I.ok.exf,I.ok.bs,I.ok.bsz,I.ok.noex,I.ok.exfs,I.ok.funs,I.ok.frf⟩,I.os,I.bare,I.base,I.loc,I.cell,I.free,I.freeC,λp hp=>I.pin p (by rw[aeK] at hp;exact hp),I.hok,I.len⟩
theorem _root_.L2.Inv.vf{p1:List (ad5×Obj)}(ok:X.Ok)(I:Inv (X.Rv E (X.pn++pins)) p1 σ H s):Inv X pins σ H s:=
 ⟨ok,I.os,I.bare,I.base,I.loc,I.cell,I.free,I.freeC,λp hp=>I.pin p (ahL _ hp),I.hok,I.len⟩
theorem _root_.L2.SP.vf{D:Ends}{f:Flow}{s':ad8}(ok:X.Ok)(h:SP (X.Rv E (X.pn++pins)) [] D f s'):SP X pins D f s':=by
 cases f with
 |next=>obtain⟨σ',H',I,q⟩:=h;exact⟨σ',H',I.vf ok,q⟩
 |brk=>obtain⟨σ',H',I,q⟩:=h;exact⟨σ',H',I.vf ok,q⟩
 |cont=>obtain⟨σ',H',I,q⟩:=h;exact⟨σ',H',I.vf ok,q⟩
 |ret u=>obtain⟨v,σ',H',I,r,q⟩:=h;exact⟨v,σ',H',I.vf ok,r,q⟩
end
section
variable{X:Cx}{t n:Str}{CT:ad5}{np hpos pos:Pos}{body suite:List aeu}{b₀:aeu}{g h:aA->So}{sub:Str->Str->Bool}
theorem abZ(i:Nat)(hN:X.N.Nodup)(hst:X.stack=X.env::X.outer)(hfr:X.env.frame=some X.env.locals)(hex:X.ex=[])(hm:X.mg t=some (.ref CT))
  (hx:∀c C,sub c t=true->PySem.W.nsIn X.K aed c=some (some (.ref C))->PySem.W.exmOne X.K (.ref C) (.ref CT)=some true)
  (hb:∀E pn,kI (X.Rv E pn) body g)(hh:∀a,kI (X.Gi a) (b₀::suite) h)(hg:Gl X t:=by rfl)(hi:X.N[i]?=some n:=by rfl)(hl:X.env.kindOf n=some .local:=by rfl)(hdb:(t ==("__debug__" :Str))=false:=by decide):
  DS X (.Try body [.ExceptHandler (some (.Name t np)) (some n) (b₀::suite) hpos] [] [] pos) (M5 sub t i g h):=by
 intro pins s σ H E I q;obtain⟨H0,O0,O,ρ,j,q⟩:=q;refine wpAny_Try_except ?_;have hin:i<X.N.length:=(z1b hi).1;have hcls:(X.env.scope.kind == .class || (X.env.scope.kind == .module && X.env.locals !=X.env.globals))=false:=by rw[I.ok.kind];rfl
 refine ae0 (hb _ (X.pn++pins) [] s σ H E (I.Rv _) ⟨H0,O0,O,ρ,j.cx rfl rfl,?_⟩) (λf s1 z=>?_) λ_ _ z=>z
 ·-- the body's ends
  unfold M5 at q;cases eg:g ρ with
  |bad=>rw[eg] at q;exact q
  |nx ρ1=>rw[eg] at q;exact λσ' H' O' j' r'=>q σ' H' O' (j'.cx rfl rfl) r'
  |bk ρ1=>rw[eg] at q;exact λσ' H' O' j' r'=>q σ' H' O' (j'.cx rfl rfl) r'
  |ct ρ1=>rw[eg] at q;exact λσ' H' O' j' r'=>q σ' H' O' (j'.cx rfl rfl) r'
  |rt d=>rw[eg] at q;exact q
  | ex c ρ1 =>
   rw[eg] at q;simp only at q;by_cases hs:sub c t=true
   ·rw[if_pos hs] at q;intro σ1 H1' O1 j1 H1 ad0 s1 a C T s2 H2 sm I1w hC rs;have I1:Inv X pins σ1 H1 s1:=I1w.vf I.ok;have J1:Inv X pins σ1 H2 s2:=I1.call' rs.os rs.un rs.hok rs.bare λb z=>absurd z (by simp);refine M7 (b0:=X.base) (outer:=X.outer) (by rw[J1.ok.frames,hst]) (by have:=J1.stack;rwa [hst] at this) hfr rs.exc λh3 t3 ld=>?_;have adK:∀b∈frs (X.env::X.outer),b∈frs X.stack:=λb z=>by rw[hst];exact z
    have r3:yW X.prog X.w (frs X.stack) H1 s1 a C (some t3) {s2 with heap:=h3} H2:=yW.land rs adK ld J1.stkFree;have J3:Inv X pins σ1 H2 {s2 with heap:=h3}:=I1.call' r3.os r3.un r3.hok r3.bare λb z=>absurd z (by simp);obtain⟨oe,vs,x1,x2,x3,x4,x5,x6,ot,ts,y1,y2,y3⟩:=r3.exc;refine wpAny_handleBy_cons (codeAny_handlers_test (ld_glob (X:=X.Gi a) (J3.Gi a) hg hm ?_ hdb)) (by intro z;cases z);have LT:PySem.W.Looks (model X.prog X.w) h3 (typeOf (.ref a)) (.ref C):=x2▸(PySem.W.Looks.ld x1).andThen .now;refine (PySem.W.exm_one J3.kIn LT (hx c C hs hC)).here ?_;simp only[if_true];refine codeAny_handlers_suite_as ?_;refine wpAny_setFlight_none x1 x4 x5 y1 y2 (afW.mp y3).1 ?_;have ade:h3.update t3 (agJ (·.setIfInBounds 3 aez))=h3:=Heap.update_setField_same h3 t3 ot ts 3 aez y1 y2 y3;show aec _ _ _ _ _ {s2 with heap:=h3.update t3 (agJ (·.setIfInBounds 3 aez))};rw[ade];have na1:∀b ob,s1.heap.get? b=some ob->b≠a:=λb ob z e=>by rw[e,rs.na] at z;cases z
    have K3:Inv X pins σ1 (upd H2 a (.frz oe (.own a))) {s2 with heap:=h3}:=by
     refine J3.track r3.ha x1 ?_ ?_ (λy cc z=>?_) λp hp=>?_
     ·cases z:X.s₀.heap.get? a with
      |none=>rfl
      | some ob=>
       obtain⟨o',e⟩:=I1.base.there a ob z (by rw[hex];simp);rw[rs.na] at e;cases e
     ·intro z;obtain⟨m,⟨ob,_,_,e,_⟩,_⟩:=I1.loc;exact na1 _ _ e z.symm
     ·obtain⟨v,ob,e,_⟩:=I1.cell y cc z;exact na1 _ _ e
     ·exact na1 _ _ (I1.pin p hp).1
    refine store_ok (X:=X.Gi a) (v:= .ref a) (K3.Gi a) hN hi (.inl hl) rfl (λs4 J4=>?_) (.inr hl);have jx:At X H0 O0 O1 H1' ρ1 σ1:=j1.cx rfl rfl;have sm3:Same H1' (upd H2 a (.frz oe (.own a))):=(sm.trans rs.same).trans (Same.upd r3.ha);have j4:At (X.Gi a) H0 O0 O1 (upd H2 a (.frz oe (.own a))) (ρ1.set i (some (.obj (.exc c)))) (σ1.set i (some (.ref a))):=
     ((jx.grow sm3).En (t:= .exc c) (v:= .ref a) hin ⟨a,oe,C,rfl,upd_same,x2,x3,⟨vs,x4⟩,hC⟩).cx rfl rfl
    cases eh:h (ρ1.set i (some (.obj (.exc c)))) with
    | rt d=>
     rw[eh] at q;refine ae0 (hh a pins s4 _ _ {nx:=λ_ _=>False,rt:=E.rt} J4 ⟨H0,O0,O1,_,j4,by rw[eh];exact q⟩) (λf s5 z=>?_) λ_ _ z=>z.elim;cases f with
     |next=>obtain⟨_,_,_,z⟩:=z;exact z.elim
     |brk=>obtain⟨_,_,_,z⟩:=z;exact z.elim
     |cont=>obtain⟨_,_,_,z⟩:=z;exact z.elim
     | ret u=>
      obtain⟨v,σ5,H5,J5,r5,q5⟩:=z;have J5':Inv X pins σ5 H5 s5:=J5.adJ I.ok;obtain⟨m,hn,_⟩:=J5'.loc;exact wpAny_nameGoes hl hn hcls λh6 m6 hn6 hs6=>⟨v,_,H5,J5'.gone hn6 hs6,r5,q5⟩
    |bad=>rw[eh] at q;exact q.elim
    |nx _=>rw[eh] at q;exact q.elim
    |bk _=>rw[eh] at q;exact q.elim
    |ct _=>rw[eh] at q;exact q.elim
    |ex _ _=>rw[eh] at q;exact q.elim
   ·rw[if_neg hs] at q;exact q.elim
 ·cases f with
  |next=>exact ag3 (z.vf I.ok)
  |brk=>exact z.vf I.ok
  |cont=>exact z.vf I.ok
  |ret u=>exact z.vf I.ok
end
structure Di(K:PySem.W.Frag)(C:ad5):Prop where
 g1:PySem.W.findIn K (.ref C) "__getattribute__" =some (some (.builtin "BaseException.__getattribute__"))
 g2:PySem.W.findIn K (.ref C) "__getattr__" =some none
 cl:(PySem.W.clsIn K C).isSome=true
 ha:PySem.W.findIn K (.ref C) "__class__" =some (some (.builtin "object.__class__"))
 hn:PySem.W.specialIn K (.builtin "object.__class__") "__get__" =some (some (.builtin "getset_descriptor.__get__"))
 ht:PySem.W.takesIn K (.builtin "object.__class__")=some true
 hm:PySem.W.mroIn K C (.type "object")=some true
 hb:PySem.W.mroIn K C (.type "BaseException")=some true
section
variable{prog:aek}{w:aep}{A:aer}{E:ad7->ad8->Prop}{s:ad8}{K:PySem.W.Frag}{x C:ad5}{ox:Obj}{od:Option Obj}
theorem V0{K:PySem.W.Frag}{C:ad5}{od:Option Obj}{a g:ad7}(hc:(PySem.W.clsIn K C).isSome=true)(ha:PySem.W.findIn K (.ref C) name=some (some a))(hg:PySem.W.specialIn K a "__get__" =some (some g))(ht:PySem.W.takesIn K a=some true):PySem.W.findObj K C od name=some (.bind g a):=by
 obtain⟨cd,e⟩:=afw.mp hc;unfold PySem.W.findObj;rw[e,ahx,ha,ahx];simp[hg,ht]
theorem V1{Q:Option ad7->ad8->Prop}(X:K.In s.heap)(I:PySem.W.InstAt s.heap x ox C od)(F:Di K C)(h:Q (some (.ref C)) {s with toks:=s.toks+1}):aec (model prog w) A (getAttr? (.ref x) "__class__") Q E s:=by
 obtain⟨hh,g,d,t,os⟩:=s;have L0:=I.type (M:=model prog w);have L1:=PySem.W.looks_findIn (M:=model prog w) X F.g1;have L2:=PySem.W.looks_findIn (M:=model prog w) X F.g2;have L4:=PySem.W.looks_find (M:=model prog w) X I (V0 (od:=od) F.cl F.ha F.hn F.ht);have LB:=PySem.W.looks_mroIn (M:=model prog w) X F.hb;have f3:=PySem.F.attrBase_ValueError.ga.bind (.ref x);unfold getAttr? getAttrBy? getAttrBy;refine ad4 (wpAny_mkText (ad4 (agZ (afv (ad4 (L0.at (ad4 (L1.at ?_))))))));have hx1:(onTheHeap (aew C) && afX "BaseException.__getattribute__" ==afX "object.__getattribute__")=false:=by
  rw[show (afX "BaseException.__getattribute__" ==afX "object.__getattribute__")=false from by decide +kernel];exact ai1 _
 dsimp only
 rw[hx1,if_neg aes];unfold getAttrByItsOwn hookBefore;rw[if_pos (show onTheHeap (aew C)=true from rfl)];refine ad4 (L2.at (ad4 (agZ (afv ?_))));unfold callGetattribute;rw[ahg,if_neg aes];unfold boundAndCalled;rw[f3];refine ad4 (ad9 ?_);refine ahj (codeAny_call_builtin PySem.F.attrBase_ValueError.ga.plain PySem.F.entry_bexc_ga ?_);have hk:builtinKind "BaseException.__getattribute__" =some .slot:=by decide +kernel
 have hsp:splitId "BaseException.__getattribute__" =some ("BaseException","__getattribute__"):=by decide +kernel
 have ha:=PySem.F.args_bexc_ga (.ref x) (.str (aeH "__class__") t);simp only[checkBuiltinCall,hk,hsp,ahz,ago];unfold isInstance;refine ad4 (ad4 (L0.at (LB.at ?_)));rw[ag0,if_neg aes];refine agw (a:=()) ha ?_;unfold afA.«object.__getattribute__»;refine ad4 (ad9 ?_);refine ad4 (ad9 ?_);refine ad4 (L0.at (ad4 (L4.at ?_)));show aec _ _ (holding [afX "object.__class__"] (call (afX "getset_descriptor.__get__") [afX "object.__class__",.ref x,.ref C]) >>=ret) _ _ _;refine ad4 (afv (ahj (PySem.W.class_get (s:=⟨hh,g,d,t+1,os⟩) (od:=od) X I F.hm (ad9 ?_))));exact PySem.W.handed_on rfl (ad9 h)
theorem Yn(F:Di K C):PySem.W.KitX K (.ref x) (.ref C) (λh=>PySem.W.InstAt h x ox C od) where
 ty:=λ_ _ _ I=>I.type
 it :=λ_ _ X _=>by
  obtain⟨cd,hcd⟩:=afw.mp F.cl;unfold PySem.W.clsIn at hcd;split at hcd
  ·rename_i v1 v2 v3 v4 ho;intro A' Q' E' s' k q;unfold isType loadHead;exact ad4 (wpAny_loadPart (k _ _ (X _ _ ho)) (ad9 q))
  ·cases hcd
 ne :=λh tp dd its n sl X htp=>by
  obtain⟨cd,hcd⟩:=afw.mp F.cl;refine Bool.eq_false_iff.mpr λq=>?_;have e:C=tp:=Value.ref.inj (beq_iff_eq.mp q);subst e;unfold PySem.W.clsIn at hcd;split at hcd
  ·rename_i v1 v2 v3 v4 ho;cases (X _ _ ho).symm.trans htp
  ·cases hcd
 ca:=λX I k=>V1 X I F k
end
section
variable{X:Cx}{sub:Str->Str->Bool}
theorem T5{T:Str}{vt:V}{ut:ad7}(hut:∀u,RelV vt u->u=ut)(hq:∀c C,sub c c=true->PySem.W.nsIn X.K aed c=some (some (.ref C))->Di X.K C/\PySem.W.kitOne X.K (.ref C) ut=some (sub c T)):
  CallR X (.builtin "isinstance") (λxs H Q=>∃x c,xs=[x,vt]/\sub c c=true/\lR X.K H (.exc c) x/\Q (.bl (sub c T)) H):=by
 intro pins s σ H xs us Q I r h;obtain⟨x,c,rfl,hc,⟨a,o,C,rfl,hH,h1,h2,⟨vs,h3⟩,h4⟩,q⟩:=h;obtain⟨u,u2,rfl,rx,r2⟩:=vals2 r;cases (show u=aew a from rx);cases hut u2 r2;obtain⟨F,e⟩:=hq c C hc h4;obtain⟨ho,_⟩:=I.hok a _ hH;refine PySem.W.kia_one (Yn (x:=a) (ox:=o) (od:=none) F) I.kIn ⟨ho,h1,by unfold PySem.W.notCls;rw[h3],by rw[h2];trivial⟩ e (λz=>nomatch z) λtk=>⟨.bl _,H,I.tok _,rfl,q⟩
theorem M8(i:Nat){T n:Str}{vt:V}{ut:ad7}{p p1 p2:Pos}(hg:Gl X "isinstance")(hm:X.mg "isinstance" =none)(hT:PE X (.Name T p2) (tC vt))(hut:∀u,RelV vt u->u=ut)
  (hq:∀c C,sub c c=true->PySem.W.nsIn X.K aed c=some (some (.ref C))->Di X.K C/\PySem.W.kitOne X.K (.ref C) ut=some (sub c T))
  (hN:X.N[i]?=some n:=by rfl)(hv:Vis X.env.scope n:=by first |exact aeM rfl |exact aeB (aeM rfl) |exact aeB (aeB rfl))(hd:(n ==("__debug__" :Str))=false:=by decide)(hcd:(n ==("__classdict__" :Str))=false:=by decide)
  (hs:aea [.Name n p1,.Name T p2] X.env=(false,eval (.Name n p1) X.env)::aea [.Name T p2] X.env:=by rfl)(hs2:aea [.Name T p2] X.env=(false,eval (.Name T p2) X.env)::aea [] X.env:=by rfl)(hpl:(aeR pos (aea [.Name T p2] X.env)).any (·.1)=false:=by rfl):
  DE X (.Call (.Name "isinstance" p) [.Name n p1,.Name T p2] [] pos) (pX sub i T):=by
 refine PE.imp (pe_callB (T5 (T:=T) hut hq) hg hm agp (pa_cons (pe_var hN hv hd hcd) (pa_cons hT pa_nil hs2) hs) (by decide) (by decide) hs hpl) λσ H Q h=>?_;obtain⟨ρ,O,j,h⟩:=h;unfold pX at h;cases q:ρ[i]? with
 |none=>rw[q] at h;exact h.elim
 | some oe =>
  rw[q] at h;cases oe with
  |none=>exact h.elim
  | some en=>
   cases en with
   |val _=>exact h.elim
   |lst _=>exact h.elim
   |rG _=>exact h.elim
   |rws _=>exact h.elim
   | obj t=>
    cases t with
    |fn _=>exact h.elim
    | exc c=>
     have h:good X (rD X) O (if sub c c=true then .ok (.bl (sub c T)) else .bad) σ H Q:=h;by_cases hc:sub c c=true
     ·rw[if_pos hc] at h;obtain⟨v,hv1,hv2⟩:=j.env.get i _ q;exact⟨v,hv1,v,c,rfl,hc,hv2,fin h (fL _)⟩
     ·rw[if_neg hc] at h;exact h.elim
end
section
variable{X:Cx}{tg a:aee}{p pos:Pos}{fa:aA->R (List D)}
end
section
variable{X:Cx}
theorem aaL:OpR X (afj .Mult) (λx y H Q=>∃a k xs,x= .ref a/\y= .int k/\SqL X.K H a xs/\1<=k/\k<2^63/\xs.length*k.toNat<=1000000/\∀p,H p=none->Q (.ref p) (upd H p (.lst (aeb k.toNat xs).flatten))):=by
 intro pins s σ H x y v u Q I rx ry h;obtain⟨a,k,xs,rfl,rfl,hq,h1,h2,hz,q⟩:=h;cases rx;obtain⟨t,rfl⟩:=ry;obtain⟨its,r,p1,_⟩:=I.list hq;obtain⟨⟨cls,dd,data,sl⟩,ho,hc,n,hd⟩:=id p1.isList;simp only at hc hd;subst hc hd;have hlen:=r.length;have hz':its.toArray.size*k.toNat<=1000000:=by rw[z1c,<-hlen];exact hz
 have hz2:its.length*k.toNat<=1000000:=by rw[<-hlen];exact hz
 refine ag8 (T:= "list") (U:= "int") (by decide) ⟨_,ho,rfl⟩ (λs'=>ahk s' k t) noFill_list_mul F.fills_int_mul F.slot_int_rmul repeat_list F.slot_int_index.lookup
  (af6 F.slot_int_rmul (ahk s k t) F.entry_int_rmul (F.args_int_rmul_2 _ _) (lm_int_rmul_list_any k t a its.toArray n dd sl) ⟨ho,rfl,⟨_,ho,rfl⟩,?_⟩)
 refine af6 F.slot_list_mul ⟨_,ho,rfl⟩ F.entry_list_mul (F.args_list_mul_2 _ _) (lm_list_mul_any a its.toArray n dd sl k t (by simp[air];omega) (by omega) (by simp[af8,sizeLine];omega)) ⟨ho,?_⟩;rw[listMul_foldl_if];refine⟨.ref s.heap.objs.size,_,I.laid (t':=s.toks) (o:= .lst (aeb k.toNat xs).flatten) (λb ob z=>z1a _ z) (z0g _) ?_,rfl,q _ (I.hok.fresh (z0g _))⟩;exact⟨by rw[len_rep,ahc];exact z0b hz dJ,_,_,r.rep k.toNat,z1f _ rfl⟩
theorem Rw:iM X (afj .Mult) mulL:=by
 obtain⟨r0,o0,c0⟩:=gq (X:=X);refine⟨_,OpR.or o0 aaL,λρ O σ H Q x y dx dy j0 rx ry h=>?_⟩;cases dx with
 | lst ds=>
  cases dy with
  | int k=>
   have h:good X (rD X) O (if ds≠[]/\1<=k/\k<2^63/\ds.length*k.toNat<=1000000 then .ok (.lst (aeb k.toNat ds).flatten) else .bad) σ H Q:=h;by_cases hc:ds≠[]/\1<=k/\k<2^63/\ds.length*k.toNat<=1000000
   ·rw[if_pos hc] at h;obtain⟨a,us,rfl,ha,hn,r1⟩:=rx.lst;obtain⟨h0,h1,h2,h3⟩:=hc;exact .inr ⟨a,k,us,rfl,ry.int,ha,h1,h2,by rw[<-r1.length];exact h3,λl hl=>h _ _ (Same.upd hl) (Rep.je hl (j0.mJ hl) (xO r1 _))⟩
   ·rw[if_neg hc] at h;exact h.elim
  |_=>exact h.elim
 |_=>exact .inl (c0 ρ O σ H Q x y _ _ j0 rx ry h)
end
def Tb(ts:List (ad5×Str))(H:Hp):Prop:=∀p∈ts,∃(ps:Array ad7) (tq:Tok),H p.1=some (.tbl ps)/\ps[0]?=some (.str p.2 tq)
theorem Tb.un{fs ex:List ad5}{H':Hp}(t:Tb ts H)(u:Un fs ex H H' h h'):Tb ts H':=λp hp=>by
 obtain⟨ps,tq,e,q⟩:=t p hp;obtain⟨more,e'⟩:=u.tbls _ _ e;refine⟨_,tq,e',?_⟩;obtain⟨hl,_⟩:=afW.mp q;rw[Array.getElem?_append_left hl];exact q
theorem Tb.same{H':Hp}(t:Tb ts H)(s:Same H H'):Tb ts H':=λp hp=>let⟨ps,tq,e,q⟩:=t p hp;⟨ps,tq,s _ _ e,q⟩
theorem Gj{α β:Type}{F:α->β->Prop}:∀{es:List α} {vs:List β} {i:Nat} {e:α},Paired F es vs->es[i]?=some e->∃v,vs[i]?=some v/\F e v
 |_,_,_,_,.nil,h=>by simp at h
 |_,_,0,_,.cons r _,h=>by simp at h;subst h;exact⟨_,rfl,r⟩
 | _,_,i+1,e,.cons _ t,h=>by
  obtain⟨v,h1,h2⟩:=Gj (i:=i) (e:=e) t (by simpa using h);exact⟨v,by simpa using h1,h2⟩
theorem T6{β:Type}{F:α->β->Prop}:∀{es:List α} {vs:List β},Paired F es vs->es.length=vs.length
 :=by
 intro es vs h
 induction h with
 |nil=>rfl
 |cons r t ih=>rw[aef,aef,ih]
theorem Gk{β:Type}{F:α->β->Prop}:∀{es fs:List α} {vs ws:List β},Paired F es vs->Paired F fs ws->Paired F (es++fs) (vs++ws)
 :=by
 intro es fs vs ws h q
 induction h with
 |nil=>exact q
 |cons r t ih=>exact .cons r ih
abbrev ab0(K:PySem.W.Frag)(O:ad5->Prop)(H:Hp):Ent->V->Prop:=λe v=>oW K O H e v/\e.own=false
theorem uN{K:PySem.W.Frag}{O:ad5->Prop}{H:Hp}:∀{ds:List D} {vs:List V},aP K O H ds vs->Paired (ab0 K O H) (ds.map .val) vs
 |[],vs,r=>by rw[r.nil_inv];exact .nil
 | d::ds,vs,r=>by
  obtain⟨x,t,rfl,h1,h2⟩:=r.cons_inv;exact .cons ⟨h1,rfl⟩ (uN h2)
theorem Eo{X:Cx}{O:ad5->Prop}{es:List Ent}{m:Nat}(hl:X.N.length=es.length+m)(r:Paired (ab0 X.K O H) es vs)(al:∀a,O a->∃o,H a=some o):
  At X H O O H (es.map some++aeb m none) (vs.map some++aeb m none):=by
 have hlen:=T6 r;have get:∀(i:Nat) e,(es.map some++aeb m none)[i]?=some (some e)->∃v,(vs.map some++aeb m none)[i]?=some (some v)/\oW X.K O H e v/\e.own=false:=λi e q=>by
  by_cases hi:i<es.length
  ·rw[aeS (by simpa using hi),z2b] at q;cases z:es[i]? with
   |none=>rw[z] at q;cases q
   | some e'=>
    rw[z] at q;cases q;obtain⟨v,h1,h2,h3⟩:=Gj r z;exact⟨v,by rw[aeS (by rw[z1g,<-hlen];exact hi),z2b,h1];rfl,h2,h3⟩
  ·rw[aeO (by simpa using hi),ae9] at q;split at q <;> cases q
 refine⟨Same.refl _,.refl,λ_ z=>z,⟨⟨λi e q=>?_,λi k e e' v _ hi _ oi=>?_,λi k rows a rs e v _ hi=>by obtain⟨_,_,_,h3⟩:=get i _ hi;cases h3⟩,al,?_,?_⟩,λi e a q ho=>?_,λi rows a rs q=>by obtain⟨_,_,_,h3⟩:=get i _ q;cases h3⟩
 ·obtain⟨v,h1,h2,_⟩:=get i e q;exact⟨v,h1,h2⟩
 ·obtain⟨_,_,_,h3⟩:=get i e hi;rw[h3] at oi;cases oi
 ·rw[z1d,z1g,aeG,<-hlen];exact hl.symm
 ·rw[z1d,z1g,aeG];exact hl.symm
 ·obtain⟨_,_,_,h3⟩:=get i e q;rw[h3] at ho;cases ho
theorem Ep{m:Nat}(h:N.length=vs.length+m):L2.start N vs=vs.map some++aeb m none:=by
 unfold L2.start;rw[show N.length - vs.length=m by omega]
def spT(ts:List (ad5×Str))(K:PySem.W.Frag)(n:Nat)(F:List D->R D):Sp:=λvs H Q E=>Tb ts H/\Mi K n F vs H Q E
section
variable{P:aek}{w:aep}{K:PySem.W.Frag}{mg:Str->Option ad7}{base:aeo}
def iI(m:Nat)(g:aA->So)(es:List Ent):R D:=match g (es.map some++aeb m none) with
 | .rt d=> .ok d
 | .nx _=> .ok .non
 |_=> .bad
theorem Rx{X:Cx}{O:ad5->Prop}{m:Nat}{g:aA->So}{es:List Ent}{Q:VK}(h:match iI m g es with | .ok d=>∀v H',Same H H'->Rep X.K O H' d v->Q v H' |_=>False):
  oK X H O O H {nx:=λ_ H'=>Q .non H',rt:=Q} (g (es.map some++aeb m none)):=by
 unfold iI at h;cases e2:g (es.map some++aeb m none) with
 |rt d=>rw[e2] at h;exact λv H' s' r'=>h v H' s' r'
 |nx ρ'=>rw[e2] at h;exact λσ' H' O' j' _=>h .non H' j'.same mW
 |bk _=>rw[e2] at h;exact h.elim
 |ct _=>rw[e2] at h;exact h.elim
 |ex _ _=>rw[e2] at h;exact h.elim
 |bad=>rw[e2] at h;exact h.elim
theorem ZW{x:Str}{st:aeu}{f:ad5}{m:Nat}{g:aA->So}(Fn:Fun K x qual st f fd)(S:FnScope N ps (defScope st))(hn:ps.length=n)(hm:N.length=n+m)
  (hb:∀(cdv:ad7) (A:aer) (outer:List PySem.Env) (s:ad8) (H:Hp) (E:XK),fd.code=cdv->Room k (A.deeper (afP qual (defScope st) s.heap.objs.size f cdv))->Tb ts H->kI (cxOf CX0 P w K mg base N qual (defScope st) f cdv A outer s H E).nox (defBody st) g):
  FnOk P w K mg base CX0 (k+1) f fd ps (spT ts K n (λds=>iI m g (ds.map .val))):=by
 obtain⟨oc,od,kV,doc,pm,an,cdv,ct,osl,rfl,lk,hcd⟩:=Fn.ex;refine fn_of lk hcd S (λvs H Q E h=>?_) λA outer s H vs Q E hr h=>?_
 ·obtain⟨_,O,ds,r,hl,_⟩:=h;rw[hn,<-hl,r.length]
 ·obtain⟨hT,O,ds,r,hl,al,h⟩:=h;have Dj:N.length=vs.length+m:=by rw[hm,<-hl,r.length]
  refine⟨_,(hb cdv A outer s H E rfl hr hT).nox,H,O,O,(ds.map Ent.val).map some++aeb m none,?_,Rx h⟩;rw[Ep Dj];exact Eo (X:=(cxOf CX0 P w K mg base N qual (defScope st) f cdv A outer s H E).nox) (by rw[z1g,r.length];exact Dj) (uN r) al
end
def Im(P:aek)(w:aep)(K:PySem.W.Frag)(mg:Str->Option ad7)(base:aeo)(k:Nat)(x:Str)(n:Nat)(F:List D->R D)(fd:aeU)(ps:List Str)(ts:List (ad5×Str)):Prop:=
 ∃f,FnOk P w K mg base CX0 k f fd ps (spT ts K n F)/\mg x=some (.ref f)/\PySem.W.keepIn K (.ref f)=true
section
variable{X:Cx}{k m n:Nat}{fd:aeU}{ps ks:List Str}{F:List D->R D}{x:Str}{p pos:Pos}{e:aee}{es:List aee}{kws:List agc}{fa fk:aA->R (List D)}{ts:List (ad5×Str)}
theorem ab1(G:Im X.prog X.w X.K X.mg X.base k x n F fd ps ts)(hT:Tb ts X.H₀)(hr:Room m X.A)(hkm:k<=m)(hb:Binds X.K fd ps [])(ha:DA X (e::es) fa)(hg:Gl X x:=by rfl)
  (hdb:(x ==("__debug__" :Str))=false:=by decide)(he:aea (e::es) X.env=(false,eval e X.env)::aea es X.env:=by rfl)(hpl:(aeR pos (aea es X.env)).any (·.1)=false:=by rfl):
  DE X (.Call (.Name x p) (e::es) [] pos) (aD (aV F n) fa):=by
 obtain⟨f,ok,hm,hk⟩:=G;intro pins s σ H Q I h;refine pe_call (dvs:=[]) (ok.mono hkm) hr hg hm hk hb .nil pass0 ha hdb he hpl pins s σ H Q I ?_;obtain⟨ρ,O,j,h⟩:=h;refine go j h λds vs H1 e1 s1 r1 j1 h1=>?_;unfold aV at h1;by_cases hl:ds.length=n
 ·rw[if_pos hl] at h1;rw[aeK];refine⟨(hT.un I.base).same s1,O,ds,r1,hl,j1.al,?_⟩;cases q:F ds with
  |ok d=>rw[q] at h1;exact h1
  |err c=>rw[q] at h1;exact h1
  |bad=>rw[q] at h1;exact h1
 ·rw[if_neg hl] at h1;exact h1.elim
theorem aaM{sa sb sc}(S:Sel sa sb sc)(G:Im X.prog X.w X.K X.mg X.base k x n F fd ps ts)(hT:Tb ts X.H₀)(hr:Room m X.A)(hkm:k<=m)(hb:KB X.K fd ps ks sa)
  (ha:DA X (e::es) fa)(hkw:DK X kws fk)(hg:Gl X x:=by rfl)(hall:(agW pos (agk kws X.env)).all (·.1.isSome)=true:=by rfl)(hks:(agW pos (agk kws X.env)).filterMap (·.1)=ks:=by rfl)
  (hdb:(x ==("__debug__" :Str))=false:=by decide)(he:aea (e::es) X.env=(false,eval e X.env)::aea es X.env:=by rfl)
  (hpl:((aeR pos (aea (e::es) X.env)).any (·.1) || (agW pos (agk kws X.env)).any (·.1.isNone))=false:=by rfl):
  DE X (.Call (.Name x p) (e::es) kws pos) (CG F n ks.length sc fa fk):=by
 obtain⟨f,ok,hm,hk⟩:=G;have G:=ok.mono hkm;intro pins s σ H Q I h;refine af3 (ld_glob I hg hm ?_ hdb);obtain⟨ρ,O,j,h⟩:=h;have key:tG X (Fy X) fa σ H λvs H1=>tG X (Fy X) fk σ H1 λzs H2=>zs.length=ks.length/\spT ts X.K n F (vs++pickK .non sb zs) H2 Q E0:=by
  refine go j h λds vs H1 e1 s1 r1 j1 h1=>?_;refine go j1 h1 λzd zs H2 e2 s2 r2 j2 h2=>?_;by_cases hz:zd.length=ks.length
  ·rw[if_pos hz] at h2;unfold aV at h2;by_cases hl:(ds++pickK .non sc zd).length=n
   ·rw[if_pos hl] at h2;refine⟨by rw[<-r2.length];exact hz,((hT.un I.base).same s1).same s2,O,_,(r1.same s2).append (S.reps r2),hl,j2.al,?_⟩;cases q:F (ds++pickK .non sc zd) with
    |ok d=>rw[q] at h2;exact h2
    |err c=>rw[q] at h2;exact h2
    |bad=>rw[q] at h2;exact h2
   ·rw[if_neg hl] at h2;exact h2.elim
  ·rw[if_neg hz] at h2;exact h2.elim
 refine PySem.W.callWith_KW (h₀:=X.base) I.ok.mod.kin hk hall (thn (ha pos pins s σ H _ I key) λus s1 ⟨vs,H1,I1,r,q⟩=>?_) hpl he;refine thn (hkw pos pins s1 σ H1 _ I1 q) λws s2 ⟨zs,H2,I2,rz,q2⟩=>⟨I2.kIn,?_⟩;rw[hks];obtain⟨hz,q2⟩:=q2;have r2:=r.append (S.vals rz);have hl:(us++pickK .none sa ws).length=ps.length:=by rw[<-r2.length];exact G.len _ _ _ _ q2
 refine ahj (agx (G.run X.A X.stack s2 H2 ⟨us,ks.zip ws⟩ _ _ Q E0 hr I2.env0 (hb s2 us ws I2.kIn (by rw[z1d,zQ] at hl;exact hl) (by rw[<-rz.length];exact hz)) r2 q2) λr s' hq=>?_);cases r with
 |error e=>exact pass0 pins σ H2 s2 e s' I2 hq
 | ok fl=>
  cases fl with
  |ret u=>exact I2.after hq
  |next=>exact aeJ hq
  |brk=>exact aeJ hq
  |cont=>exact aeJ hq
theorem aaN{sa sb sc}(S:Sel sa sb sc)(G:Im X.prog X.w X.K X.mg X.base k x n F fd ps ts)(hT:Tb ts X.H₀)(hr:Room m X.A)(hkm:k<=m)(hb:KB X.K fd ps [] sa)
  (ha:DA X (e::es) fa)(hg:Gl X x:=by rfl)(hdb:(x ==("__debug__" :Str))=false:=by decide)(he:aea (e::es) X.env=(false,eval e X.env)::aea es X.env:=by rfl)(hpl:(aeR pos (aea es X.env)).any (·.1)=false:=by rfl):
  DE X (.Call (.Name x p) (e::es) [] pos) (CG F n 0 sc fa (λ_=> .ok [])):=by
 obtain⟨f,ok,hm,hk⟩:=G;intro pins s σ H Q I h;refine pe_call (ds:=pickK .none sa []) (dvs:=pickK .non sb []) (ok.mono hkm) hr hg hm hk (λs us i hl=>hb s us [] i (by rw[z1d,zQ] at hl;exact hl) rfl) (S.vals .nil) pass0 ha hdb he hpl pins s σ H Q I ?_;obtain⟨ρ,O,j,h⟩:=h;refine go j h λds vs H1 e1 s1 r1 j1 h1=>?_;have h1:good X (rD X) O (aV F n (ds++pickK .non sc [])) σ H1 Q:=h1;unfold aV at h1;by_cases hl:(ds++pickK .non sc []).length=n
 ·rw[if_pos hl] at h1;refine⟨(hT.un I.base).same s1,O,_,r1.append (S.reps .nil),hl,j1.al,?_⟩;cases q:F (ds++pickK .non sc []) with
  |ok d=>rw[q] at h1;exact h1
  |err c=>rw[q] at h1;exact h1
  |bad=>rw[q] at h1;exact h1
 ·rw[if_neg hl] at h1;exact h1.elim
end
theorem Qm{a b:Int}{s t:Tok}{c:ad7}(l:List ad7)(h:aha l):aha (l++[.int a s,.int b t,c]):=by
 fun_induction aha l with
 |case1=>simp[aha]
 |case2 x1 x2 x3 x4 x5 rest ih=>simp only[ahz,aha];exact ih h
 |case3=>exact h.elim
theorem V2{a b:Int}{s t:Tok}{c cv:ad7}(l:List ad7)(h:aha l)(e:ahB pos (l++[.int a s,.int b t,c])=some cv):ahB pos l=some cv\/cv=c:=by
 fun_induction aha l with
 | case1=>
  simp only[ago,ahB] at e;split at e
  ·cases e;exact .inr rfl
  ·cases e
 | case2 x1 x2 x3 x4 x5 rest ih=>
  simp only[ahz,ahB] at e |-;split at e
  ·rename_i z;rw[if_pos z];exact .inl e
  ·rename_i z;rw[if_neg z];exact ih h e
 |case3=>exact h.elim
inductive kY (H:Hp) (a:ad5) (name qual:Str) (params:agv) (body:List aeu) (scope:afB) (clos:List (Str×ad5)):Prop
 |mk (fo:Obj) (doc pm:ad7) (c':ad5) (ctv:ad7) (oc:Obj) (vs:Array ad7) (t:Tok) (h1:H a=some (.frz fo (.own a))) (h2:fo.data= .func (PySem.W.fnX name qual params body scope clos .none .none doc pm none (.ref c') ctv)) (h3:H c'=some (.frz oc (.own c'))) (h4:oc.data= .fields vs) (h5:vs[1]?=some (.str qual t)):kY H a name qual params body scope clos
theorem kY.fz{H':Hp}{a:ad5}(h:kY H a name qual params body scope clos)(s:∀b o u,H b=some (.frz o u)->H' b=some (.frz o u)):kY H' a name qual params body scope clos:=
 by
 obtain⟨fo,doc,pm,c',ctv,oc,vs,t,h1,h2,h3,h4,h5⟩:=h;exact⟨fo,doc,pm,c',ctv,oc,vs,t,s _ _ _ h1,h2,s _ _ _ h3,h4,h5⟩
structure pY(base:aeo)(mg:Str->Option ad7)(c P:ad5):Prop where
 code:PySem.W.CodeHd base c P
 blt:∃bm ob,mg "__builtins__" =some (.ref bm)/\bm≠agL/\base.get? bm=some ob/\ob.cls= .type "module"/\ob.dict=some agL/\ob.data= .plain
section
variable{X:Cx}{pins:List (ad5×Obj)}{σ:St}{H:Hp}{s:ad8}
theorem aaO{M:Model}{A:aer}{E:ad7->ad8->Prop}{line:Nat}{c P:ad5}{ps:Array ad7}{tq:Tok}
  (I:Inv X pins σ H s)(hB:pY X.base X.mg c P)(hc:X.env.code= .ref c)(e0:H P=some (.tbl ps))(q0:ps[0]?=some (.str qual tq))(hcl:aiE scope X.env=pure clos):
  aec M A (makeFunction name qual params (.stmts body) scope X.env [] [] [] pos line) (λv s'=>∃a H1,v= .ref a/\Inv X pins σ H1 s'/\Same H H1/\kY H1 a name qual params body scope clos) E s:=by
 obtain⟨qs,hP,tr,al⟩:=I.hok P _ e0;have hgs:s.heap.Ns aed X.mg:=I.mod.glob.keeps I.bk;have C:PySem.W.CodeHd s.heap c P:=hB.code.keeps I.bk;obtain⟨bm,ob,b1,b2,b3,b4,b5,b6⟩:=hB.blt;have hgP:aed≠P:=λq=>by
  obtain⟨o,es,ep,e,hd,_⟩:=hgs;rw[q,hP] at e;cases e;cases hd
 have hbP:bm≠P:=λq=>by
  have e:=I.bk _ _ b3;rw[q,hP] at e;cases e;cases b4
 have hbG:bm≠aed:=λq=>by
  obtain⟨o,es,ep,e,hd,_⟩:=I.mod.glob;rw[q,e] at b3;cases b3;rw[hd] at b6;cases b6
 have hbb:s.heap.BuiltinsAt X.mg P:=⟨bm,ob,b1,b2,hbG,hbP,I.bk _ _ b3,b4,b5,b6⟩;cases hf:ahB pos qs.toList with
 | some cv=>
  obtain⟨c',oc,vs,q,t,tq',rfl,h1,h2,h3,h4⟩:=al pos cv hf;rw[q0] at h4;cases h4;refine PySem.W.makeFunction_hit (mg:=X.mg) hcl I.ok.glob hgs hc C hP tr hf hbb λctv doc h' tk hk hsz=>?_;have I1:Inv X pins σ H {s with heap:=h',toks:=tk}:=I.kept (t':=tk) hk;have hn:H h'.objs.size=none:=I1.hok.fresh (z0g _);refine⟨h'.objs.size,upd H h'.objs.size (.frz _ (.own h'.objs.size)),rfl,I1.laid (t':=tk) (λb u z=>z1a _ z) (z0g _) ⟨z1f _ rfl,_,z1f _ rfl⟩,Same.upd hn,?_⟩;exact⟨_,doc,_,c',ctv,oc,vs,t,upd_same,rfl,by rw[upd_ne (ne_of_none h1 hn)];exact h1,h2,h3⟩
 | none =>
  refine PySem.W.makeFunction_K (mg:=X.mg) hcl I.ok.glob hgs hc C hP tr hf hgP hbb λc' ctv doc h' tk hx hge hlt hrec htb=>?_;obtain⟨c2,oc,vs,t,e2,hoc,hd,hv⟩:=hrec;cases e2;have hn:H c'=none:=I.hok.fresh hge;have old:∀b u,H b=some u->upd H c' (.frz oc (.own c')) b=some u:=λb u z=>by rw[upd_ne (ne_of_none z hn)];exact z
  have I1 : Inv X pins σ (upd H c' (.frz oc (.own c'))) {s with heap:=h',toks:=tk}:=by
   refine I.call' (ch:=[]) rfl ⟨λb o q n _ _=>hx b o (λz=>by rw[z,e0] at n;cases n) q,λb o q n _ _=>⟨o.slots,hx b o (λz=>by rw[z,e0] at n;cases n) q⟩,λb o q n _=>?_,λb o q _=>?_,λb xs q=>old _ _ q,λb o u q=>old _ _ q,λb p q=>⟨#[],by rw[old _ _ q];simp⟩⟩ (λb u q=>?_) I.bare (λb z=>absurd z (by simp))
   ·rw[upd_ne (aeW (z0d (z2c q) hge))];exact n
   ·by_cases hb:b=P
    ·rw[hb];exact⟨_,htb⟩
    ·exact⟨o,hx b o hb q⟩
   ·by_cases hb:b=c'
    ·subst hb;rw[upd_same] at q;cases q;exact⟨hoc,oc,hoc⟩
    ·rw[upd_ne hb] at q;by_cases hp:b=P
     ·subst hp;rw[e0] at q;cases q;refine⟨_,htb,?_,λp cv z=>?_⟩
      ·have:=Qm (a:=pos.line) (s:=0) (b:=pos.col) (t:=0) (c:=aew c') qs.toList tr;simpa[ae3] using this
      ·have z':ahB p (qs.toList++[.int pos.line 0,.int pos.col 0,.ref c'])=some cv:=by simpa[ae3] using z
       rcases V2 _ tr z' with z1 |z1
       ·obtain⟨c3,o3,v3,q3,t3,tq3,y1,y2,y3⟩:=al p cv z1;exact⟨c3,o3,v3,q3,t3,tq3,y1,old _ _ y2,y3⟩
       ·exact⟨c',oc,vs,qual,t,tq,z1,upd_same,hd,hv,q0⟩
     ·exact (I.hok b u q).stay (λd v hd z=>hx d v (λy=>hd.elim (λx=>hp (x.symm.trans y)) λx=>by rw[y,e0] at x;cases x) z) (λd z=>old _ _ z) (λd xs z=>old _ _ z) λd o u _ z=>old _ _ z
  have hn2:upd H c' (.frz oc (.own c')) h'.objs.size=none:=I1.hok.fresh (z0g _);refine⟨h'.objs.size,upd (upd H c' (.frz oc (.own c'))) h'.objs.size (.frz _ (.own h'.objs.size)),rfl,I1.laid (t':=tk) (λb u z=>z1a _ z) (z0g _) ⟨z1f _ rfl,_,z1f _ rfl⟩,(Same.upd hn).trans (Same.upd hn2),?_⟩;exact⟨_,doc,_,c',ctv,oc,vs,t,upd_same,rfl,by rw[upd_ne (aeW hlt),upd_same],hd,hv⟩
def adL(i:Nat)(name qual:Str)(params:agv)(body:List aeu)(scope:afB)(clos:List (Str×ad5)):TS:=λD σ H=>∀a H1,Same H H1->kY H1 a name qual params body scope clos->D.nx (σ.set i (some (.ref a))) H1
theorem ab2(i:Nat){c P:ad5}(hN:X.N.Nodup)(hB:pY X.base X.mg c P)(hT:Tb [(P,qual)] X.H₀)(hc:X.env.code= .ref c)(hcl:aiE scope X.env=pure clos)
  (hi:X.N[i]?=some name:=by rfl)(hl:Loc X.env.scope name:=by first |exact aeM rfl |exact aeB rfl)(hq:qualnameIn X.env name name=qual:=by rfl)(hd0:params.defaults=[]:=by rfl)(hk0:params.kw_defaults=[]:=by rfl)(ha:annTrees params none X.env=[]:=by rfl)
  (hf:X.fn name=true\/X.env.scope.names.lookup name=some .local:=by first |exact .inl rfl |exact .inr rfl):PS X (.FunctionDef name params body [] none [] scope none name pos) (adL i name qual params body scope clos):=by
 intro pins s σ H D I h;obtain⟨ps,tq,e0,q0⟩:=(hT.un I.base) (P,qual) (by simp);refine PySem.W.nestDef_K hd0 hk0 ha ?_;rw[hq];refine ae0 (aaO I hB hc e0 q0 hcl) (λv s1 ⟨a,H1,ev,I1,sm,fh⟩=>?_) λ_ _ z=>z;subst ev;exact store_ok I1 hN hi hl (v:= .ref a) rfl (λs2 I2=>⟨_,H1,I2,h a H1 sm fh⟩) hf
end
def zX(P:aek)(w:aep)(K:PySem.W.Frag)(mg:Str->Option ad7)(base:aeo)(k:Nat)(G:List D->R D)(n:Nat)(a:ad5)(H:Hp):Prop:=
 ∀(A:aer) (outer:List PySem.Env) (s:ad8) (H1:Hp) (us:List ad7) (vs:List V) (Q:VK) (E:XK),Room k A->Env0 P w K mg base A outer s H1->(∀b o u,H b=some (.frz o u)->H1 b=some (.frz o u))->Vals vs us->Mi K n G vs H1 Q E->
  ahi (model P w) A (.call (.ref a) ⟨us,[]⟩) (CR CX0 outer P w H1 s Q E) s
def CJ(i a:Nat)(G:List D->R D)(n:Nat)(fa:aA->R (List D)):aA->R D:=λρ=>match ρ[i]? with
 |some (some (.obj (.fn b)))=>if b=a then (fa ρ).bind (aV G n) else .bad
 |_=> .bad
section
variable{X:Cx}{k m n:Nat}{G:List D->R D}{x:Str}{p pos:Pos}{e:aee}{es:List aee}{fa:aA->R (List D)}{a:ad5}
theorem M9(i:Nat)(hc:zX X.prog X.w X.K X.mg X.base k G n a X.H₀)(hr:Room m X.A)(hkm:k<=m)(ha:DA X (e::es) fa)(hN:X.N[i]?=some x:=by rfl)(hv:Vis X.env.scope x:=by first |exact aeM rfl |exact aeB (aeM rfl) |exact aeB (aeB rfl))
  (hd:(x ==("__debug__" :Str))=false:=by decide)(hcd:(x ==("__classdict__" :Str))=false:=by decide)(he:aea (e::es) X.env=(false,eval e X.env)::aea es X.env:=by rfl)(hpl:(aeR pos (aea es X.env)).any (·.1)=false:=by rfl):
  DE X (.Call (.Name x p) (e::es) [] pos) (CJ i a G n fa):=by
 intro pins s σ H Q I h;obtain⟨ρ,O,j,h⟩:=h;unfold CJ at h;split at h
 ·rename_i b q;by_cases hb:b=a
  ·subst hb;rw[if_pos rfl] at h;obtain⟨v,hv1,rfl,o,fd,ho,hod⟩:=j.env.get i _ q;have at':∀{s':ad8} {H':Hp},Inv X pins σ H' s'->Same H H'->PySem.W.FnAt b s'.heap:=λ{s' H'} I' sm=>by
    obtain⟨ho',_⟩:=I'.hok b _ (sm _ _ ho);obtain⟨v1,v2,v3,v4⟩:=o;have hod:v3= .func fd:=hod;subst hod;exact⟨v1,v2,fd,v4,ho'⟩
   refine af3 (thn (pe_var hN hv hd hcd pins s σ H (λv H1=>v= .ref b/\H1=H) I ⟨_,hv1,rfl,rfl⟩) λu s1 bJ=>?_);obtain⟨v',H1,I1,r1,e1,e2⟩:=bJ;subst e1 e2;cases (show u=aew b from r1);have key:tG X (Fy X) fa σ H1 (λvs H2=>Same H1 H2/\Mi X.K n G vs H2 Q E0):=by
    refine go j h λds vs H2 e1 s2 r2 j2 h2=>⟨s2,?_⟩;unfold aV at h2;by_cases hl:ds.length=n
    ·rw[if_pos hl] at h2;refine⟨O,ds,r2,hl,j2.al,?_⟩;cases q:G ds with
     |ok d=>rw[q] at h2;exact h2
     |err c=>rw[q] at h2;exact h2
     |bad=>rw[q] at h2;exact h2
    ·rw[if_neg hl] at h2;exact h2.elim
   refine PySem.W.callWith_F (at' I1 (Same.refl _)) (thn (ha pos pins s1 σ H1 _ I1 key) λus s2 ⟨vs,H2,I2,r,sm,q2⟩=>⟨at' I2 sm,?_⟩) he hpl;refine ahj (agx (hc X.A X.stack s2 H2 us vs Q E0 (hr.mono hkm) I2.env0 I2.base.frzs r q2) λr s' hq=>?_);cases r with
   |error e=>exact pass0 pins σ H2 s2 e s' I2 hq
   | ok fl=>
    cases fl with
    |ret u=>exact I2.after hq
    |next=>exact aeJ hq
    |brk=>exact aeJ hq
    |cont=>exact aeJ hq
  ·rw[if_neg hb] at h;exact h.elim
 ·exact h.elim
end
inductive SpS (P:aek) (w:aep) (mg:Str->Option ad7) (base:aeo) (k:Nat) (K:PySem.W.Frag) (n q:Nat) (F:ad5->(List D->R D)->List D->R D) (vs:List V) (H:Hp) (Q:VK):Prop
 | mk (O:ad5->Prop) (ds:List D) (xs:List V) (a:ad5) (G:List D->R D) (e:vs=xs++[.ref a]) (r:aP K O H ds xs) (hl:ds.length=n) (al:∀b,O b->∃o,H b=some o) (ro:lR K H (.fn a) (.ref a)) (hc:zX P w K mg base k G q a H) (h:match F a G ds with
  | .ok d=>∀v H',Same H H'->Rep K O H' d v->Q v H'
  |_=>False):SpS P w mg base k K n q F vs H Q
def spS(P:aek)(w:aep)(mg:Str->Option ad7)(base:aeo)(k:Nat)(K:PySem.W.Frag)(n q:Nat)(F:ad5->(List D->R D)->List D->R D):Sp:=λvs H Q _=>SpS P w mg base k K n q F vs H Q
section
variable{P:aek}{w:aep}{K:PySem.W.Frag}{mg:Str->Option ad7}{base:aeo}
theorem fnS{x:Str}{st:aeu}{f:ad5}{kG m q:Nat}{g:ad5->(List D->R D)->aA->So}(Fn:Fun K x qual st f fd)(S:FnScope N ps (defScope st))(hn:ps.length=n+1)(hm:N.length=n+1+m)
  (hb:∀(cdv:ad7) (A:aer) (outer:List PySem.Env) (s:ad8) (H:Hp) (E:XK) (a:ad5) (G:List D->R D),Room k (A.deeper (afP qual (defScope st) s.heap.objs.size f cdv))->zX P w K mg base kG G q a H->kI (cxOf CX0 P w K mg base N qual (defScope st) f cdv A outer s H E).nox (defBody st) (g a G)):
  FnOk P w K mg base CX0 (k+1) f fd ps (spS P w mg base kG K n q (λa G ds=>iI m (g a G) (ds.map .val++[.obj (.fn a)]))):=by
 obtain⟨oc,od,kV,doc,pm,an,cdv,ct,osl,rfl,lk,hcd⟩:=Fn.ex;refine fn_of lk hcd S (λvs H Q E h=>?_) λA outer s H vs Q E hr h=>?_
 ·obtain⟨O,ds,xs,a,G,rfl,r,hl,_⟩:=h;rw[hn,z1d,<-r.length,hl];rfl
 ·obtain⟨O,ds,xs,a,G,rfl,r,hl,al,ro,hc,h⟩:=h;have Dj:N.length=(xs++[V.ref a]).length+m:=by rw[hm,z1d,<-r.length,hl];rfl
  refine⟨_,(hb cdv A outer s H E a G hr hc).nox,H,O,O,(ds.map Ent.val++[Ent.obj (.fn a)]).map some++aeb m none,?_,Rx h⟩;rw[Ep Dj];refine Eo (X:=(cxOf CX0 P w K mg base N qual (defScope st) f cdv A outer s H E).nox) (by rw[z1d,z1g,r.length];rw[z1d] at Dj;exact Dj) (Gk (uN r) (.cons ⟨ro,rfl⟩ .nil)) al
end
def del(H:Hp)(c:ad5):Hp:=λb=>if b=c then none else H b
theorem ju{c:ad5}:del H c c=none:=if_pos rfl
theorem d8{b c:ad5}(h:b≠c):del H c b=H b:=if_neg h
theorem Yo{b c:ad5}{u:HO}(h:del H c b=some u):b≠c/\H b=some u:=by
 by_cases e:b=c
 ·rw[e,ju] at h;cases h
 ·rw[d8 e] at h;exact⟨e,h⟩
section
variable{P:aek}{w:aep}{H:Hp}{h:aeo}{c:ad5}{co:Obj}{u:Option ad7}
theorem Ry(x:HOk P w H h)(hc:H c=some (.frz co (.own c)))(hd:co.data= .cell u):HOk P w (del H c) h:=λb v q=>by
 obtain⟨nb,q⟩:=Yo q;refine (x b v q).stay (λ_ _ _ z=>z) (λd z=>?_) (λd xs z=>?_) λd o v' hv z=>?_
 ·rw[d8 (λe=>by rw[e,hc] at z;cases z)];exact z
 ·rw[d8 (λe=>by rw[e,hc] at z;cases z)];exact z
 ·rw[d8 (λe=>by rw[e,hc] at z;cases z;obtain⟨vs,y⟩:=hv;rw[hd] at y;cases y)];exact z
theorem Rz(x:HOk P w H h)(hn:H c=none)(ho:h.get? c=some co):HOk P w (upd H c (.frz co (.own c))) h:=λb v q=>by
 have old:∀b u,H b=some u->upd H c (.frz co (.own c)) b=some u:=λb u z=>by rw[upd_ne (ne_of_none z hn)];exact z
 by_cases hb:b=c
 ·subst hb;rw[upd_same] at q;cases q;exact⟨ho,co,ho⟩
 ·rw[upd_ne hb] at q;exact (x b v q).stay (λ_ _ _ z=>z) (λd z=>old _ _ z) (λd xs z=>old _ _ z) λd o v' _ z=>old _ _ z
theorem RB{O:ad5->Prop}(hc:H c=some (.frz co (.own c))):Ext O H (del H c):=by
 refine⟨λb xs z=>?_,λb xs _ z=>?_⟩
 ·have nb:b≠c:=λe=>by rcases z with z |⟨o,z⟩ <;> rw[e,hc] at z <;> cases z
  rcases z with z |⟨o,z⟩
  ·exact .inl (by rw[d8 nb];exact z)
  ·exact .inr ⟨o,by rw[d8 nb];exact z⟩
 ·have nb:b≠c:=λe=>by rcases z with z |⟨o,z⟩ <;> rw[e,hc] at z <;> cases z
  rcases z with z |⟨o,z⟩
  ·exact .inl (by rw[d8 nb];exact z)
  ·exact .inr ⟨o,by rw[d8 nb];exact z⟩
end
section
variable{M:Model}{A:aer}{E:ad7->ad8->Prop}{s:ad8}
theorem Gm{env env':PySem.Env}(f f':Str×ad7->PUnit->Sem (ForInStep PUnit))(hf:∀n v u,f (n,v) u=(do af2 env n v;pure (.yield ⟨⟩)))(hf':∀n v u,f' (n,v) u=(do af2 env' n v;pure (.yield ⟨⟩))):
  ∀binds:List (Str×ad7),(∀x∈binds,∀v,af2 env x.1 v=af2 env' x.1 v)->(forIn binds (⟨⟩:PUnit) f:Sem PUnit)=forIn binds (⟨⟩:PUnit) f'
 |[],_=>rfl
 | (n,v)::r,h=>by
  rw[ag5,ag5,hf,hf',h (n,v) aen v];simp only[bind_assoc,pure_bind];rw[Gm f f' hf hf' r λx hx=>h x (z2f _ hx)]
theorem RD{n:Str}{v:ad7}(hk:env.scope.kind= .function)(h:env.scope.names.lookup n=some .local):af2 env n v=nsSet env.locals n v:=by
 have h:env.kindOf n=some .local:=h;simp[af2,h,hk]
theorem RG{n:Str}{v:ad7}{d:ad5}(hk:env.scope.kind= .function)(h:env.scope.names.lookup n=some .cell)(hd:env.cells.lookup n=some d):af2 env n v=cellSet d (some v):=by
 have h:env.kindOf n=some .cell:=h;simp[af2,h,hk,cellOf,hd]
theorem Qn{globals:ad5}{binds:List (Str×ad7)}{func:Option ad5}{code:ad7}{builtins:ad5}{Q:PySem.Env->ad8->Prop}
  (hk:scope.kind= .function)
  (hkind:∀x∈binds,scope.names.lookup x.1=some .local\/(scope.names.lookup x.1=some .cell/\((aey (s.heap.objs.size+1) scope.names []).lookup x.1).isSome=true))
  (hQ:∀s',InCallC s s.heap.objs.size (bindL (λq=>scope.names.lookup q) binds λ_=>none) (aey (s.heap.objs.size+1) scope.names []) (bindC (λq=>scope.names.lookup q) binds λ_=>none) s'->
   Q (newEnv scope s.heap.objs.size globals (aey (s.heap.objs.size+1) scope.names []++clos) qual func code none builtins) s'):
  aec M A (ahZ scope globals clos binds qual func code none builtins) Q E s:=by
 simp only[ahZ,Option.isSome_none,afg,if_false];refine ad4 (wpAny_alloc ?_);refine ad4 (wpAny_layCells _ (λname kind cells=>by cases hkc:kind ==agI <;> simp[hkc]) _ _ _ _ ?_);have ok:=cellsFrom_ok scope.names (s.heap.push {cls:= .type "frame",data:= .dict #[]}) (s.heap.objs.size+1) [] ⟨λ_ _ hm=>(nomatch hm),aiv⟩ (by rw[afp];exact z0g _);rw[afp] at ok;rw[show ({s with heap:=s.heap.push {cls:= .type "frame",data:= .dict #[]}}:ad8).heap.objs.size=s.heap.objs.size+1 from afp ..];rw[fB];have eq:=Gm (env:=newEnv scope s.heap.objs.size globals (aey (s.heap.objs.size+1) scope.names []++clos) qual func code none builtins) (env':=newEnv scope s.heap.objs.size globals (aey (s.heap.objs.size+1) scope.names []) qual func code none builtins)
  (λx _=>do af2 (newEnv scope s.heap.objs.size globals (aey (s.heap.objs.size+1) scope.names []++clos) qual func code none builtins) x.1 x.2;pure (.yield ⟨⟩))
  (λx _=>do af2 (newEnv scope s.heap.objs.size globals (aey (s.heap.objs.size+1) scope.names []) qual func code none builtins) x.1 x.2;pure (.yield ⟨⟩)) (λ_ _ _=>rfl) (λ_ _ _=>rfl) binds (λx hx v=>by
   rcases hkind x hx with z |⟨z,z2⟩
   ·rw[RD hk z,RD hk z];rfl
   ·obtain⟨d,hd⟩:=afw.mp z2;have e1:(aey (s.heap.objs.size+1) scope.names []++clos).lookup x.1=some d:=by rw[afr,hd];rfl
    rw[RG hk z e1,RG hk z hd])
 refine ad4 ?_;show aec M A (forIn binds (⟨⟩:PUnit) (λx _=>do af2 (newEnv scope s.heap.objs.size globals (aey (s.heap.objs.size+1) scope.names []++clos) qual func code none builtins) x.1 x.2;pure (.yield ⟨⟩))) _ E _;rw[eq];exact wpAny_bindParams (s₀:=s) (env:=newEnv scope s.heap.objs.size globals (aey (s.heap.objs.size+1) scope.names []) qual func code none builtins)
  _ (λ_ _ _=>rfl) hk binds (λ_=>none) (λ_=>none) _ _
  ⟨⟨⟨_,_,rfl⟩,(Heap.Ns.new s.heap (.type "frame")).keeps (ag6 _ _),λb o e=>ag6 _ _ b o (z1a _ e),z0g _⟩,
   λn c hc=>(ok.empty n c (mem_of_lookup hc)).1,ok.apart,λn c hm=>(ok.empty n c hm).2⟩
  hkind λs' x=>ad9 (hQ s' x)
end
structure Io(N P:List Str)(y:Str)(sc:afB):Prop where
 kind:sc.kind= .function
 co:sc.isCoroutine=false
 gen:sc.isGenerator=false
 nd:N.Nodup
 pre:N.take (P.length+1)=P++[y]
 par:∀x∈P,sc.names.lookup x=some .local\/sc.names.lookup x=some .cell
 JM:sc.names.lookup y=some .free
 only:∀z∈sc.names,z.2= .free->z.1=y
 ZD:∀z∈sc.names,z.2= .cell->sc.names.lookup z.1=some .cell
section
variable(P:aek)(w:aep)(K:PySem.W.Frag)(mg:Str->Option ad7)(base:aeo)(N:List Str)(qual:Str)(scope:afB)(f:ad5)(cd:ad7)(A:aer)(outer:List PySem.Env)(s:ad8)(H:Hp)(y:Str)(c:ad5)
abbrev xU:PySem.Env:=PySem.W.envX qual scope s.heap.objs.size f cd (aey (s.heap.objs.size+1) scope.names []++[(y,c)])
def xV:Cx where
 prog:=P
 w:=w
 K:=K
 mg:=mg
 base:=base
 A:=A.deeper (xU qual scope f cd s y c)
 N:=N
 s₀:=s
 H₀:=H
 env:=xU qual scope f cd s y c
 outer:=outer
 stack:=xU qual scope f cd s y c::outer
 ex:=[]
 calm:=true
 fn:=λx=>decide (x≠y)
 pn:=[]
 xe:=λ_ _=>False
end
section
variable{P:aek}{w:aep}{K:PySem.W.Frag}{mg:Str->Option ad7}{base:aeo}
theorem ab3{f:ad5}{cd:ad7}{A:aer}{s1:ad8}{us:List ad7}{c:ad5}{vy:V}{uy:ad7}
  (S:Io N ps y scope)(hd:A.handled=none)(e0:Env0 P w K mg base A outer s H)(hl:vs.length=ps.length)(r:Vals vs us)(hc:s.heap.IsCell c (some uy))(hy:RelV vy uy)(hHc:H c=none)
  (x:InCallC s s.heap.objs.size (bindL (λq=>scope.names.lookup q) (ps.zip us) λ_=>none) (aey (s.heap.objs.size+1) scope.names []) (bindC (λq=>scope.names.lookup q) (ps.zip us) λ_=>none) s1):
  Inv (xV P w K mg base N qual scope f cd A outer s H y c) [] (start N (vs++[vy])) H s1:=by
 have hpl:ps.length+1<=N.length:=by have:=congrArg ah3 S.pre;rw[afk,z1d,afI] at this;omega
 obtain⟨h1,tk,rfl,hk⟩:=x.done;have noA:∀b:ad5,b∉(xV P w K mg base N qual scope f cd A outer s H y c).ex:=λb z=>absurd (show b∈([]:List ad5) from z) (by simp);have clt:c<s.heap.objs.size:=hc.lt;have cells:∀z d,(xU qual scope f cd s y c).cells.lookup z=some d->((aey (s.heap.objs.size+1) scope.names []).lookup z=some d/\scope.names.lookup z=some .cell)\/(z=y/\d=c):=λz d q=>by
  have q:(aey (s.heap.objs.size+1) scope.names []++[(y,c)]).lookup z=some d:=q;rw[afr] at q;cases e:(aey (s.heap.objs.size+1) scope.names []).lookup z with
  | some d'=>
   rw[e] at q;have q:d'=d:=by simpa using q
   subst q;obtain⟨m1,_⟩:=jD _ _ (PySem.mem_of_lookup e);exact .inl ⟨rfl,S.ZD _ m1 rfl⟩
  | none=>
   rw[e] at q;have q:List.lookup z [(y,c)]=some d:=by simpa using q
   rw[agi] at q;cases hz:z ==y with
   |true=>rw[hz] at q;cases q;exact .inr ⟨by simpa using hz,rfl⟩
   |false=>rw[hz] at q;cases q
 have kept:(xU qual scope f cd s y c).cells.lookup y=some c:=by
  show (aey (s.heap.objs.size+1) scope.names []++[(y,c)]).lookup y=some c;rw[afr];cases e:(aey (s.heap.objs.size+1) scope.names []).lookup y with
  | some d=>
   obtain⟨m1,_⟩:=jD _ _ (PySem.mem_of_lookup e);have:=S.ZD _ m1 rfl;rw[S.JM] at this;cases this
  |none=>simp[agi]
 refine⟨⟨e0.mod,S.kind,rfl,rfl,z0g _,λz z' d h1 h2=>?_,λz hz=>?_,λz d hf h=>?_,λ_=>hd,Around.frames_deeper e0.frames,.inr ⟨rfl,rfl⟩,λb z=>absurd z (noA b),e0.bs,e0.bsz,λb _ _=>noA b,λb z=>absurd z (noA b),e0.funs,e0.frf⟩,
  rfl,e0.bare,Un.kept hk,⟨_,x.toInCall.ns,λi z v h1 h2 h3=>?_⟩,λz d h=>?_,e0.hok.fresh (z0g _),λz d h=>?_,λp hp=>absurd (show p∈([]:List (ad5×Obj)) from hp) (by simp),e0.hok.kept hk,?_⟩
 ·rcases cells z d h1 with⟨q1,_⟩ |⟨q1,q2⟩ <;> rcases cells z' d h2 with⟨q3,_⟩ |⟨q3,q4⟩
  ·exact name_of_addr x.apart (PySem.mem_of_lookup q1) (PySem.mem_of_lookup q3)
  ·have:=x.above z d (PySem.mem_of_lookup q1);rw[q4] at this;exact absurd (Nat.lt_trans clt this) (afh _)
  ·have:=x.above z' d (PySem.mem_of_lookup q3);rw[q2] at this;exact absurd (Nat.lt_trans clt this) (afh _)
  ·rw[q1,q3]
 ·have hz:scope.names.lookup z=some .cell\/scope.names.lookup z=some .free:=hz;rcases hz with hz |hz
  ·obtain⟨d,e⟩:=cell_has (n:=s.heap.objs.size+1) hz;exact⟨d,by show (aey (s.heap.objs.size+1) scope.names []++[(y,c)]).lookup z=some d;rw[afr,e];rfl⟩
  ·have e:=S.only _ (PySem.mem_of_lookup hz) rfl;have e:z=y:=e;rw[e];exact⟨c,kept⟩
 ·have hf:z≠y:=of_decide_eq_true hf;rcases cells z d h with⟨q1,_⟩ |⟨q1,_⟩
  ·exact z0e (x.above z d (PySem.mem_of_lookup q1))
  ·exact absurd q1 hf
 ·have hi:i<vs.length+1:=by
   unfold L2.start at h2;by_cases hi:i<vs.length+1
   ·exact hi
   ·rw[aeO (by simpa using hi)] at h2;rw[ae9] at h2;split at h2 <;> cases h2
  have ha:(vs++[vy])[i]?=some v:=by
   unfold L2.start at h2;rw[aeS (by simpa using hi),z2b] at h2;cases e:(vs++[vy])[i]? with
   |none=>rw[e] at h2;cases h2
   |some a=>rw[e] at h2;cases h2;rfl
  have hp:(ps++[y])[i]?=some z:=by
   rw[<-S.pre,aiJ (by omega)];exact h1
  by_cases hiv:i<vs.length
  ·rw[aeS hiv] at ha;rw[aeS (by omega)] at hp;obtain⟨u,hu,rv⟩:=r.get ha;have ndP:ps.Nodup:=by
    have q:(ps++[y]).Nodup:=by rw[<-S.pre];exact S.nd.sublist (List.take_sublist _ _)
    exact (aho.mp q).1
   refine⟨u,rv,?_⟩;rcases S.par z (aeE hp) with k |k
   ·exact .inl ⟨k,bindL_get ndP hp hu k⟩
   ·obtain⟨d,e⟩:=cell_has (n:=s.heap.objs.size+1) k;refine .inr ⟨.inl k,d,?_,?_⟩
    ·show (aey (s.heap.objs.size+1) scope.names []++[(y,c)]).lookup z=some d;rw[afr,e];rfl
    ·have q:=x.cell z d e;rw[bindC_get ndP hp hu (by rw[k];decide)] at q;exact q
  ·have ei:i=vs.length:=by omega
   subst ei;rw[aeO (z0g _)] at ha;rw[hl,aeO (z0g _)] at hp;have ha:vy=v:=by simpa using ha
   have hp:y=z:=by simpa using hp
   subst ha hp;exact⟨uy,hy,.inr ⟨.inr S.JM,c,kept,hc.keeps hk⟩⟩
 ·rcases cells z d h with⟨q1,_⟩ |⟨_,q2⟩
  ·exact⟨_,x.cell z d q1⟩
  ·rw[q2];exact⟨_,hc.keeps hk⟩
 ·rcases cells z d h with⟨q1,_⟩ |⟨_,q2⟩
  ·exact e0.hok.fresh (z0e (x.above z d (PySem.mem_of_lookup q1)))
  ·rw[q2];exact hHc
 ·unfold L2.start;show _=N.length;rw[z1d,z1g,aeG,z1d,afI];omega
theorem ab4{m:Nat}{g:aA->So}{my:Int}{a c:ad5}{co:Obj}{uy:ad7}
  (S:Io N ps y scope)(hn:ps.length=n)(hm:N.length=n+1+m)
  (hbind:∀(doc pm:ad7) (cl:List (Str×ad5)) (cdv ct:ad7) (us:List ad7),us.length=ps.length->agh (PySem.W.fnX name qual params body scope cl .none .none doc pm none cdv ct) ⟨us,[]⟩=pure (ps.zip us))
  (hb:∀(cdv:ad7) (A:aer) (outer:List PySem.Env) (s:ad8) (H:Hp) (f c:ad5),Room k (A.deeper (xU qual scope f cdv s y c))->kI (xV P w K mg base N qual scope f cdv A outer s H y c) body g)
  (fh:kY H a name qual params body scope [(y,c)])(hc:H c=some (.frz co (.own c)))(hcd:co.data= .cell (some uy))(hy:RelV (.int my) uy):
  zX P w K mg base (k+1) (λds=>iI m g (ds.map .val++[.val (.int my)])) n a H:=by
 intro A outer s H1 us vs Q E hr e0 hz r sp;obtain⟨O,ds,rs,hl,al,sp⟩:=sp;have sp:(match iI m g (ds.map Ent.val++[Ent.val (.int my)]) with | .ok d=>∀v H',Same H1 H'->Rep K O H' d v->Q v H' |_=>False):=sp;obtain⟨fo,doc,pm,c',ctv,oc,vq,t,f1,f2,f3,f4,f5⟩:=fh.fz hz;have hc1:=hz _ _ _ hc;obtain⟨hco,_⟩:=e0.hok c _ hc1;obtain⟨hfo,_⟩:=e0.hok a _ f1;obtain⟨hoc,_⟩:=e0.hok c' _ f3;have KX:K.In s.heap:=e0.mod.kin.keeps λb o e=>(e0.bs b o e).1;have lim:s.heap.NoLimit:=e0.mod.nolimit.keeps λb o e=>(e0.bs b o e).1;have e1:Env0 P w K mg base A outer s (del H1 c):=⟨e0.frames,e0.mod,λb o e=>⟨(e0.bs b o e).1,by
  by_cases q:b=c
  ·rw[q];exact ju
  ·rw[d8 q];exact (e0.bs b o e).2⟩,e0.bsz,e0.funs,λb hb=>by
  by_cases q:b=c
  ·rw[q];exact ju
  ·rw[d8 q];exact e0.frf b hb,Ry e0.hok hc1 hcd,e0.bare⟩
 have hlu:us.length=ps.length:=by rw[<-r.length,<-rs.length,hl,hn]
 have hkind:∀z∈ps.zip us,scope.names.lookup z.1=some .local\/(scope.names.lookup z.1=some .cell/\((aey (s.heap.objs.size+1) scope.names []).lookup z.1).isSome=true):=λ⟨q,v⟩ hy=>by
  rcases S.par q (ahM hy).1 with z |z
  ·exact .inl z
  ·exact .inr ⟨z,PySem.W.cellsFrom_some _ _ _ (.inl z)⟩
 refine codeAny_call_function hr.depth hfo f2 S.co S.gen rfl ⟨c',oc,vq,t,rfl,hoc,f4,f5⟩ ?_;rw[hbind doc pm _ _ _ us hlu];refine ad9 (Qn S.kind hkind λs1 x=>?_);refine⟨lim.keeps x.toInCall.keep,codeAny_func ?_⟩;have I:Inv (xV P w K mg base N qual scope a (.ref c') A outer s (del H1 c) y c) [] (start N (vs++[.int my])) (del H1 c) s1:=
  ab3 S hr.hd e1 (by rw[<-rs.length,hl,hn]) r ⟨co,hco,hcd⟩ hy ju x
 have Dj:N.length=(vs++[V.int my]).length+m:=by rw[hm,z1d,<-rs.length,hl];rfl
 have rs':aP K (λb=>O b/\b≠c) (del H1 c) ds vs:=aP.ext (RB hc1) (λb xs nb _ z=>nb z.1) ds vs rs;have J:At (xV P w K mg base N qual scope a (.ref c') A outer s (del H1 c) y c) (del H1 c) (λb=>O b/\b≠c) (λb=>O b/\b≠c) (del H1 c) ((ds.map Ent.val++[Ent.val (.int my)]).map some++aeb m none) (start N (vs++[.int my])):=by
  rw[Ep Dj];refine Eo (by show N.length=_;rw[z1d,z1g,rs.length];rw[z1d] at Dj;exact Dj) (Gk (uN rs') (.cons ⟨(cB (K:=K) (O:=λb=>O b/\b≠c) (H:=del H1 c) my:oW K (λb=>O b/\b≠c) (del H1 c) (.val (.int my)) (.int my)),rfl⟩ .nil)) λb z=>?_;obtain⟨o,q⟩:=al b z.1;exact⟨o,by rw[d8 z.2];exact q⟩
 have run:=hb (.ref c') A outer s (del H1 c) a c (hr.deeper _) [] s1 _ _ {nx:=λ_ H'=>iI m g (ds.map .val++[.val (.int my)])= .ok .non/\Same (del H1 c) H',rt:=λv H'=>∃d,iI m g (ds.map .val++[.val (.int my)])= .ok d/\Same (del H1 c) H'/\Rep K (λb=>O b/\b≠c) H' d v} I ⟨_,_,_,_,J,by
  unfold iI at sp |-;cases e2:g ((ds.map Ent.val++[Ent.val (.int my)]).map some++aeb m none) with
  |rt d=>exact λv H' s' r'=>⟨d,by simp only[e2],s',r'⟩
  |nx ρ'=>exact λσ' H' O' j' _=>⟨by simp only[e2],j'.same⟩
  |bk _=>rw[e2] at sp;exact sp.elim
  |ct _=>rw[e2] at sp;exact sp.elim
  |ex _ _=>rw[e2] at sp;exact sp.elim
  |bad=>rw[e2] at sp;exact sp.elim⟩
 have cfr:c∉frs outer:=λz=>by rw[e0.frf c z] at hc1;cases hc1
 have fin:∀{σ':St} {H':Hp} {v:V} {u:ad7} {s':ad8} {d:D},Inv (xV P w K mg base N qual scope a (.ref c') A outer s (del H1 c) y c) [] σ' H' s'->RelV v u->iI m g (ds.map .val++[.val (.int my)])= .ok d->Same (del H1 c) H'->Rep K (λb=>O b/\b≠c) H' d v->CE outer P w H1 s Q u s':=λ{σ' H' v u s' d} J rv ed sm rd=>by
  have hn':H' c=none:=J.base.free c co hco ju (by simp[xV]);have hc':s'.heap.get? c=some co:=J.base.keep c co hco ju cfr (by simp[xV]);have ol:∀b,b≠c->upd H' c (.frz co (.own c)) b=H' b:=λb z=>upd_ne z;have kIn:K.In s'.heap:=J.kIn;refine⟨v,upd H' c (.frz co (.own c)),J.os,J.bare,⟨λb o q nb hb hx=>?_,λb o q nb hb hx=>?_,λb o q nb hx=>?_,λb o q hx=>J.base.there b o q hx,λb xs q=>?_,λb o u q=>?_,λb ps q=>?_⟩,Rz J.hok hn' hc',rv,?_⟩
  ·exact J.base.keep b o q (show del H1 c b=none by by_cases z:b=c;(rw[z];exact ju);rw[d8 z];exact nb) hb hx
  ·exact J.base.slot b o q (show del H1 c b=none by by_cases z:b=c;(rw[z];exact ju);rw[d8 z];exact nb) hb hx
  ·have nc:b≠c:=λz=>by rw[z,hc1] at nb;cases nb
   rw[ol b nc];exact J.base.free b o q (show del H1 c b=none by rw[d8 nc];exact nb) hx
  ·have nc:b≠c:=λz=>by rw[z,hc1] at q;cases q
   rw[ol b nc];exact J.base.tups b xs (show del H1 c b=some _ by rw[d8 nc];exact q)
  ·by_cases nc:b=c
   ·rw[nc,hc1] at q;cases q;rw[nc,upd_same]
   ·rw[ol b nc];exact J.base.frzs b o u (show del H1 c b=some _ by rw[d8 nc];exact q)
  ·have nc:b≠c:=λz=>by rw[z,hc1] at q;cases q
   rw[ol b nc];exact J.base.tbls b ps (show del H1 c b=some _ by rw[d8 nc];exact q)
  ·rw[ed] at sp;have s2:Same H' (upd H' c (.frz co (.own c))):=Same.upd hn';refine sp v _ (λb o q=>?_) ?_
   ·by_cases nc:b=c
    ·rw[nc,hc1] at q;cases q;rw[nc,upd_same]
    ·exact s2 _ _ (sm b o (by rw[d8 nc];exact q))
   ·refine Rep.ext ⟨λb xs z=>Same.rd s2 z,λb xs _ z=>Same.rd s2 z⟩ (λb xs nb hq z=>?_) d v rd;by_cases nc:b=c
    ·subst nc;rcases hq with (hq |⟨o,hq⟩) |⟨o,its,n',hq,h4,_⟩
     ·rw[hn'] at hq;cases hq
     ·rw[hn'] at hq;cases hq
     ·have:=kIn _ _ hq;rw[hc'] at this;cases this;simp_all
    ·exact nb ⟨z,nc⟩
 refine ae0 run (λfl s' hs=>?_) λe s' hs=>hs.elim;cases fl with
 | ret u=>
  obtain⟨v,σ',H',J,rv,d,q1,q2,q3⟩:=hs;exact fin J rv q1 q2 q3
 | next=>
  obtain⟨σ',H',J,q1,q2⟩:=hs;exact fin (v:=V.non) (u:=aez) J rfl q1 q2 mW
 |brk=>obtain⟨_,_,_,q⟩:=hs;exact aeJ q
 |cont=>obtain⟨_,_,_,q⟩:=hs;exact aeJ q
end
section
variable{X:Cx}{name qual:Str}{params:agv}{body:List aeu}{scope:afB}{y xS:Str}{c fS:ad5}{Nb:aeU}{J2:List Str}{kS kG n q iy:Nat}{FS:ad5->(List D->R D)->List D->R D}{GG:Int->List D->R D}{p pos:Pos}{e:aee}{es:List aee}{ta:TA}
inductive ZX (K:PySem.W.Frag) (name qual:Str) (params:agv) (body:List aeu) (scope:afB) (y:Str) (c:ad5) (iy n:Nat) (FS:ad5->(List D->R D)->List D->R D) (GG:Int->List D->R D) (σ:St) (Q:VK) (vs:List V) (H1:Hp):Prop
 |mk (O:ad5->Prop) (ds:List D) (xs:List V) (a:ad5) (my:Int) (d:D) (e:vs=xs++[.ref a]) (r:aP K O H1 ds xs) (hl:ds.length=n) (al:∀b,O b->∃o,H1 b=some o) (fh:kY H1 a name qual params body scope [(y,c)]) (hσ:σ[iy]?=some (some (.int my))) (hF:∀a,FS a (GG my) ds= .ok d) (hQ:∀v H',Same H1 H'->Rep K O H' d v->Q v H'):ZX K name qual params body scope y c iy n FS GG σ Q vs H1
def adf(K:PySem.W.Frag)(name qual:Str)(params:agv)(body:List aeu)(scope:afB)(y:Str)(c:ad5)(iy n:Nat)(FS:ad5->(List D->R D)->List D->R D)(GG:Int->List D->R D)(ta:TA):TE:=λσ H Q=>ta σ H λvs H1=>ZX K name qual params body scope y c iy n FS GG σ Q vs H1
theorem Yp(Sw:FnOk X.prog X.w X.K X.mg X.base CX0 kS fS Nb J2 (spS X.prog X.w X.mg X.base kG X.K n q FS))(hr:Room kS X.A)(hg:Gl X xS)(hm:X.mg xS=some (.ref fS))(hk:PySem.W.keepIn X.K (.ref fS)=true)(hb:Binds X.K Nb J2 [])
  (Yq:∀my a c H co uy,kY H a name qual params body scope [(y,c)]->H c=some (.frz co (.own c))->co.data= .cell (some uy)->RelV (.int my) uy->zX X.prog X.w X.K X.mg X.base kG (GG my) q a H)
  (hc:X.env.cells.lookup y=some c)(Z0:X.env.scope.names.lookup y=some .cell)(hfn:X.fn y=true)(hiy:X.N[iy]?=some y)(ha:PA X (e::es) ta)(hdb:(xS ==("__debug__" :Str))=false:=by decide)
  (he:aea (e::es) X.env=(false,eval e X.env)::aea es X.env:=by rfl)(hpl:(aeR pos (aea es X.env)).any (·.1)=false:=by rfl):
  PE X (.Call (.Name xS p) (e::es) [] pos) (adf X.K name qual params body scope y c iy n FS GG ta):=by
 intro pins s σ H Q I h;refine af3 (ld_glob I hg hm ?_ hdb);refine PySem.W.callWith_K (h₀:=X.base) I.ok.mod.kin hk (thn (ha pos pins s σ H _ I h) λus s1 ⟨vs,H1,I1,r,hq⟩=>⟨I1.kIn,?_⟩) he hpl;obtain⟨O,ds,xs,a,my,d,rfl,rs,hl,al,fh,hσ,hF,hQ⟩:=hq;obtain⟨m,hn,hl'⟩:=I1.loc;obtain⟨uy,ry,look⟩:=hl' iy y (.int my) hiy hσ (.inr (.inl Z0));have hcell:s1.heap.IsCell c (some uy):=by
  rcases look with⟨z,_⟩ |⟨_,c2,z,hz⟩
  ·have z:X.env.scope.names.lookup y=some .local:=z;rw[Z0] at z;cases z
  ·rw[hc] at z;cases z;exact hz
 obtain⟨co,hco,hcd⟩:=hcell;have hnc:H1 c=none:=I1.freeC y c hc;have cab:X.s₀.heap.objs.size<=c:=I1.ok.cab y c hfn hc;have sm:Same H1 (upd H1 c (.frz co (.own c))):=Same.upd hnc;have nfr:∀b∈frs X.stack,b≠c:=λb hb z=>by
  rcases ael.mp (I1.stkSub b hb) with e |hb'
  ·exact I1.cne y c hc (z.symm.trans e)
  ·obtain⟨_,o,ho,_⟩:=I1.ok.funs.mem hb';exact absurd (z0d (z2c ho) cab) (by rw[z];exact afh _)
 have e0:=I1.env0;have e1:Env0 X.prog X.w X.K X.mg X.base X.A X.stack s1 (upd H1 c (.frz co (.own c))):=⟨e0.frames,e0.mod,λb o z=>⟨(e0.bs b o z).1,by
  rw[upd_ne (λw=>by
   have:=z2c (I1.ok.bs b o z).1;rw[w] at this;exact absurd (z0d this cab) (afh _))]
  exact (e0.bs b o z).2⟩,e0.bsz,e0.funs,λb hb=>by rw[upd_ne (nfr b hb)];exact e0.frf b hb,Rz e0.hok hnc hco,e0.bare⟩
 obtain⟨fo,doc,pm,c',ctv,oc,vq,t,f1,f2,f3,f4,f5⟩:=id fh;have fh1:=fh.fz λb o u z=>sm b _ z;have sp:spS X.prog X.w X.mg X.base kG X.K n q FS (xs++[.ref a]) (upd H1 c (.frz co (.own c))) (λv H'=>Same (upd H1 c (.frz co (.own c))) H'/\Rep X.K O H' d v) E0:=by
  refine⟨O,ds,xs,a,GG my,rfl,rs.same sm,hl,λb z=>let⟨o,w⟩:=al b z;⟨o,sm _ _ w⟩,⟨rfl,fo,_,sm _ _ f1,f2⟩,Yq my a c _ co uy fh1 upd_same hcd ry,?_⟩;rw[hF a];exact λv H' s' r'=>⟨s',r'⟩
 have hll:us.length=J2.length:=by rw[<-r.length];exact Sw.len _ _ _ _ sp
 have hbb:=hb s1 us I1.kIn (by rw[aeK];exact hll);rw[aeK] at hbb;refine ahj (agx (Sw.run X.A X.stack s1 _ ⟨us,[]⟩ us _ _ E0 hr e1 hbb r sp) λrr s' hq=>?_);cases rr with
 |error ev=>exact hq.elim
 | ok fl =>
  cases fl with
  |next=>exact aeJ hq
  |brk=>exact aeJ hq
  |cont=>exact aeJ hq
  | ret u =>
   obtain⟨v,H',os,bare,un,hok,rv,q1,q2⟩:=hq;have hc':H' c=some (.frz co (.own c)):=un.frzs c co _ upd_same;have up:∀b,b≠c->upd H1 c (.frz co (.own c)) b=H1 b:=λb z=>upd_ne z;have un':Un (frs X.stack) [] H1 (del H' c) s1.heap s'.heap:=by
    refine⟨λb o z nb hb hx=>?_,λb o z nb hb hx=>?_,λb o z nb hx=>?_,un.there,λb xs z=>?_,λb o u z=>?_,λb ps z=>?_⟩
    ·by_cases bc:b=c
     ·subst bc;rw[hco] at z;cases z;exact (hok b _ hc').1
     ·exact un.keep b o z (by rw[up b bc];exact nb) hb hx
    ·exact un.slot b o z (by rw[up b (nfr b hb)];exact nb) hb hx
    ·by_cases bc:b=c
     ·rw[bc];exact ju
     ·rw[d8 bc];exact un.free b o z (by rw[up b bc];exact nb) hx
    ·have bc:=ne_of_none z hnc;rw[d8 bc];exact un.tups b xs (by rw[up b bc];exact z)
    ·have bc:=ne_of_none z hnc;rw[d8 bc];exact un.frzs b o u (by rw[up b bc];exact z)
    ·have bc:=ne_of_none z hnc;rw[d8 bc];exact un.tbls b ps (by rw[up b bc];exact z)
   have J:Inv X pins σ (del H' c) s':=I1.call' os un' (Ry hok hc' hcd) bare λb z=>absurd z (by simp);refine⟨v,del H' c,J,rv,hQ v _ (λb o z=>?_) ?_⟩
   ·have bc:=ne_of_none z hnc;rw[d8 bc];exact q1 b o (by rw[up b bc];exact z)
   ·exact Rep.ext (RB hc') (λb xs nb _ z=>nb z) d v q2
end
open Classical in
def allOf(f:ad5->R D):R D:=if h:∃d,∀a,f a= .ok d then .ok h.choose else .bad
theorem Yr{f:ad5->R D}{d:D}(h:∀a,f a= .ok d):allOf f= .ok d:=by
 have e:∃d,∀a,f a= .ok d:=⟨d,h⟩;unfold allOf;rw[dif_pos e];have:=e.choose_spec 0;rw[h 0] at this;exact this.symm
theorem Ys{f:ad5->R D}{d:D}(h:allOf f= .ok d)(a:ad5):f a= .ok d:=by
 unfold allOf at h;by_cases e:∃d,∀a,f a= .ok d
 ·rw[dif_pos e] at h;cases h;exact e.choose_spec a
 ·rw[dif_neg e] at h;cases h
def T7(i iy:Nat)(f1 f2 f3:aA->R D)(FS:ad5->(List D->R D)->List D->R D)(GG:Int->List D->R D):aA->So:=λρ=>match ρ[i]?,ρ[iy]? with
 | some none,some (some (.val (.int my)))=>(match f1 ρ,f2 ρ,f3 ρ with
  | .ok a,.ok b,.ok d=>(match allOf (λx=>FS x (GG my) [a,b,d]) with
   | .ok r=> .rt r
   |_=> .bad)
  |_,_,_=> .bad)
 |_,_=> .bad
section
variable{X:Cx}{name qual:Str}{params:agv}{body:List aeu}{scope:afB}{y xS:Str}{c cc P fS:ad5}{Nb:aeU}{J2:List Str}{kS kG q:Nat}{FS:ad5->(List D->R D)->List D->R D}{GG:Int->List D->R D}{p p4 pos pos2 ab5:Pos}{e1 e2 e3:aee}{f1 f2 f3:aA->R D}
theorem In.adM{O:ad5->Prop}{v:V}(j:In X O H ρ σ)(hn:ρ[i]?=some none):In X O H ρ (σ.set i (some v)):=by
 have ne:∀(k:Nat) e,ρ[k]?=some (some e)->i≠k:=λk e h z=>by rw[<-z,hn] at h;cases h
 refine⟨⟨λk e h=>?_,λk l e e' u hkl hk hl ok ol sk sl=>?_,λk l rows a rs e u hkl hk sk ha hl ol sl=>?_⟩,j.al,by rw[aeL];exact j.len,j.jr⟩
 ·rw[z1e (ne k e h)];exact j.env.get k e h
 ·rw[z1e (ne k e hk)] at sk;rw[z1e (ne l e' hl)] at sl;exact j.env.sep k l e e' u hkl hk hl ok ol sk sl
 ·rw[z1e (ne k _ hk)] at sk;rw[z1e (ne l e hl)] at sl;exact j.env.lU k l rows a rs e u hkl hk sk ha hl ol sl
theorem Yt(i iy:Nat)(hN:X.N.Nodup)(hB:pY X.base X.mg cc P)(hT:Tb [(P,qual)] X.H₀)(hcode:X.env.code= .ref cc)(Sw:FnOk X.prog X.w X.K X.mg X.base CX0 kS fS Nb J2 (spS X.prog X.w X.mg X.base kG X.K 3 q FS))(hr:Room kS X.A)(hm:X.mg xS=some (.ref fS))(hk:PySem.W.keepIn X.K (.ref fS)=true)(hb:Binds X.K Nb J2 [])
  (Yq:∀my a c H co uy,kY H a name qual params body scope [(y,c)]->H c=some (.frz co (.own c))->co.data= .cell (some uy)->RelV (.int my) uy->zX X.prog X.w X.K X.mg X.base kG (GG my) q a H)
  (h1:DE X e1 f1)(h2:DE X e2 f2)(h3:DE X e3 f3)
  (hcl:aiE scope X.env=pure [(y,c)])(hc:X.env.cells.lookup y=some c)(Z0:X.env.scope.names.lookup y=some .cell)(hfn:X.fn y=true)(hii:i≠iy)(hnv:Vis X.env.scope name)
  (hiy:X.N[iy]?=some y:=by rfl)(hi:X.N[i]?=some name:=by rfl)(hl:Loc X.env.scope name:=by first |exact aeM rfl |exact aeB rfl)(hq:qualnameIn X.env name name=qual:=by rfl)(hd0:params.defaults=[]:=by rfl)(hk0:params.kw_defaults=[]:=by rfl)(ha:annTrees params none X.env=[]:=by rfl)
  (hg:Gl X xS:=by rfl)(hdb:(xS ==("__debug__" :Str))=false:=by decide)(hdn:(name ==("__debug__" :Str))=false:=by decide)(hdc:(name ==("__classdict__" :Str))=false:=by decide)
  (he1:aea [e1,e2,e3,.Name name p4] X.env=(false,eval e1 X.env)::aea [e2,e3,.Name name p4] X.env:=by rfl)(he2:aea [e2,e3,.Name name p4] X.env=(false,eval e2 X.env)::aea [e3,.Name name p4] X.env:=by rfl)
  (he3:aea [e3,.Name name p4] X.env=(false,eval e3 X.env)::aea [.Name name p4] X.env:=by rfl)(he4:aea [.Name name p4] X.env=(false,eval (.Name name p4) X.env)::aea [] X.env:=by rfl)
  (hpl:(aeR pos2 (aea [e2,e3,.Name name p4] X.env)).any (·.1)=false:=by rfl)(hf:X.fn name=true\/X.env.scope.names.lookup name=some .local:=by first |exact .inl rfl |exact .inr rfl):
  kI X [.FunctionDef name params body [] none [] scope none name pos,.Return (some (.Call (.Name xS p) [e1,e2,e3,.Name name p4] [] pos2)) ab5] (T7 i iy f1 f2 f3 FS GG):=by
 have A:=pa_cons h1 (pa_cons h2 (pa_cons h3 (pa_cons (pe_var (X:=X) (pos:=p4) hi hnv hdn hdc) pa_nil he4) he3) he2) he1;refine PSs.imp (pss_cons (ab2 i hN hB hT hcode hcl hi hl hq hd0 hk0 ha hf) (pss_one (ps_ret (Yp (iy:=iy) (p:=p) (pos:=pos2) Sw hr hg hm hk hb Yq hc Z0 hfn hiy A hdb he1 hpl)))) λσ H E h=>?_;obtain⟨H0,O0,O,ρ,j,h⟩:=h;intro a H1 sm fh;unfold T7 at h;split at h
 ·rename_i my en em;have hil:i<X.N.length:=(z1b hi).1;obtain⟨v,hv,rv⟩:=j.inn.env.get iy _ em;have rv:v= .int my:=Rep.int (show Rep X.K O H (.int my) v from rv);subst rv;split at h
  ·rename_i d1 d2 d3 q1 q2 q3;cases q4:allOf (λx=>FS x (GG my) [d1,d2,d3]) with
   |bad=>rw[q4] at h;exact h.elim
   |err _=>rw[q4] at h;exact h.elim
   | ok d=>
    rw[q4] at h;have jn:In X O H1 ρ (σ.set i (some (.ref a))):=In.adM (j.inn.same sm) en;refine⟨ρ,O,jn,?_⟩;rw[q1];intro v1 H2 s2 r1;refine⟨ρ,O,jn.same s2,?_⟩;rw[q2];intro v2 H3 s3 r2;refine⟨ρ,O,(jn.same s2).same s3,?_⟩;rw[q3];intro v3 H4 s4 r3;have jl:i<σ.length:=by rw[j.inn.len];exact hil
    refine⟨.ref a,z2a jl,?_⟩;have s14:Same H1 H4:=(s2.trans s3).trans s4;refine⟨O,[d1,d2,d3],[v1,v2,v3],a,my,d,rfl,.cons (r1.same (s3.trans s4)) (.cons (r2.same s4) (.cons r3 .nil)),rfl,(jn.same s14).al,fh.fz λb o u z=>s14 _ _ z,?_,Ys q4,λv' H' s' r'=>?_⟩
    ·rw[z1e hii];exact hv
    ·exact h v' H' (j.same.trans (sm.trans (s14.trans s'))) (r'.fewer j.sub)
  ·exact h.elim
 ·exact h.elim
end
def mY(a:ad5)(o:Option HO)(T:ad5)(q:Str):Hp:=λb=>if b=T then some (.tbl #[.str q 0]) else if b=a then o else none
theorem V3 {mg mb:Str→Option Value} {fa a c T:Addr} {q:Str} {x:Str} {sp:Sp} {s₁:Shared} {vs:List Value} {ns:List Int}
    (KX:K.In s₁.heap)(hns:s₁.heap.Ns aed mg)(hb:s₁.heap.Ns agL mb)(hbb:∀x:Str,x≠"__name__"→mb x=afK x)(hlim:s₁.heap.NoLimit)(hg:s₁.gens= #[])
    (ha:s₁.heap.get? a=some {cls:= .type "list",data:= .seq vs.toArray})(hi:afS vs ns)(hl:ns.length≤sizeLine)(hr:Room k agH)
    (hC:PySem.W.CodeHd s₁.heap c T)(hT:s₁.heap.get? T=some (PySem.W.tabObj #[]))(hnt:PySem.W.noTabs K=true)
    (hbm:∃bm ob,mg "__builtins__" =some (.ref bm)∧bm≠agL∧s₁.heap.get? bm=some ob∧ob.cls= .type "module"∧ob.dict=some agL∧ob.data= .plain)
    (F:∀base:aeo,K.In base→base.Ns aed mg→pY base mg c T→FnOk P w K mg base CX0 k fa fd [x] sp)(hbind:∀(s:ad8) (u:ad7),ahh s fd ⟨[u],[]⟩ [(x,u)])
    (hsp:∀H:Hp,Tb [(T,q)] H→SqL K H a (ns.map V.int)→sp [.ref a] H (fun v _=>v= .bl true) fun _ _ _=>False):
    ahi (model P w) agH (.call (.ref fa) ⟨[.ref a],[]⟩) (fun r s'=>r= .ok (.ret (.bool true))∧OldK s₁.heap s'.heap∧s'.os=s₁.os∧agQ s'.gens) s₁:=by
  have rv:=vals_ints hi
  have lenV:=hi.length
  have aT:a≠T:=fun z=>by rw[z,hT] at ha;cases ha
  have core : ∀o:Option HO,(o=none∨o=some (.frz {cls:= .type "list",data:= .seq vs.toArray} (.lst (ns.map V.int))))→SqL K (mY a o T q) a (ns.map V.int)→(o≠none→K.lookup a=none)→
      ahi (model P w) agH (.call (.ref fa) ⟨[.ref a],[]⟩) (fun r s'=>r= .ok (.ret (.bool true))∧OldK s₁.heap s'.heap∧s'.os=s₁.os∧agQ s'.gens) s₁:=by
    intro o ho hS hK
    have hH:∀b u,mY a o T q b=some u→(b=T∧u= .tbl #[.str q 0])∨(b=a∧u= .frz {cls:= .type "list",data:= .seq vs.toArray} (.lst (ns.map V.int))∧o≠none):=fun b u z=>by
      unfold mY at z
      by_cases h1:b=T
      · rw[if_pos h1] at z;cases z;exact .inl ⟨h1,rfl⟩
      · rw[if_neg h1] at z
        by_cases h2:b=a
        · rw[if_pos h2] at z
          rcases ho with ho |ho
          · rw[ho] at z;cases z
          · rw[ho] at z;cases z;exact .inr ⟨h2,rfl,by rw[ho];simp⟩
        · rw[if_neg h2] at z;cases z
    have hok:HOk P w (mY a o T q) s₁.heap:=fun b u z=>by
      rcases hH b u z with⟨rfl,rfl⟩ |⟨rfl,rfl,_⟩
      · exact⟨#[],hT,trivial,fun p cv y=>by cases y⟩
      · exact⟨ha,by rw[aiV];exact hl,vs,_,rv,ha⟩
    have tb:Tb [(T,q)] (mY a o T q):=fun p hp=>by
      have e:p=(T,q):=by simpa using hp
      subst e
      exact⟨#[.str q 0],0,if_pos rfl,rfl⟩
    have base_of:∀{b:ad5} {u:Obj},s₁.heap.get? b=some u→mY a o T q b=none→(hidT s₁.heap (mY a o T q)).get? b=some u:=fun e n=>hidT_get e n
    have free:∀{b:ad5} {u:Obj},s₁.heap.get? b=some u→u.cls≠.type "list"→u.cls≠.none→mY a o T q b=none:=fun {b u} e n1 n2=>by
      cases z:mY a o T q b with
      |none=>rfl
      | some y=>
        rcases hH b y z with⟨rfl,_⟩ |⟨rfl,_,_⟩
        · rw[hT] at e;cases e;exact absurd rfl n2
        · rw[ha] at e;cases e;exact absurd rfl n1
    have adg:∀{b:ad5} {u:Obj} {es:Array DictEntry} {ep:Nat},s₁.heap.get? b=some u→u.data= .dict es ep→mY a o T q b=none:=fun {b u es ep} e d=>by
      cases z:mY a o T q b with
      |none=>rfl
      | some y=>
        rcases hH b y z with⟨rfl,_⟩ |⟨rfl,_,_⟩
        · rw[hT] at e;cases e;cases d
        · rw[ha] at e;cases e;cases d
    have nsK:∀{b:ad5} {m:Str→Option ad7},s₁.heap.Ns b m→(hidT s₁.heap (mY a o T q)).Ns b m:=fun {b m} ⟨u,es,ep,e,d,r⟩=>⟨u,es,ep,base_of e (adg e d),d,r⟩
    have hKb:K.In (hidT s₁.heap (mY a o T q)):=fun b u e=>base_of (KX b u e) (by
      cases z:mY a o T q b with
      |none=>rfl
      | some y=>
        rcases hH b y z with⟨rfl,_⟩ |⟨rfl,_,no⟩
        · have e1:=KX b u e
          rw[hT] at e1;cases e1
          have h2:=agA.mp hnt (b,PySem.W.tabObj #[]) (PySem.W.mem_of_lookupK e)
          exact absurd (show false=true from h2) aes
        · rw[hK no] at e;cases e)
    have hM:Mod K mg (hidT s₁.heap (mY a o T q)):=⟨hKb,nsK hns,⟨mb,nsK hb,hbb⟩,let⟨mc,h1,h2⟩:=hlim;⟨mc,nsK h1,h2⟩⟩
    have nb:pY (hidT s₁.heap (mY a o T q)) mg c T:=by
      refine⟨?_,?_⟩
      · obtain⟨oc,v,file,tf,flags,tg,inF,text,tt,e1,e2,r⟩:=hC
        exact⟨oc,v,file,tf,flags,tg,inF,text,tt,base_of e1 (free e1 (by rw[e2];nofun) (by rw[e2];nofun)),e2,r⟩
      · obtain⟨bm,ob,b1,b2,b3,b4,r⟩:=hbm
        exact⟨bm,ob,b1,b2,base_of b3 (free b3 (by rw[b4];nofun) (by rw[b4];nofun)),b4,r⟩
    have e0:Env0 P w K mg (hidT s₁.heap (mY a o T q)) agH [] s₁ (mY a o T q):=⟨rfl,hM,fun b o e=>of_hidT e,Nat.le_of_eq (hidT_size _ _),trivial,fun b hb=>absurd (show b∈([]:List ad5) from hb) (by simp),hok,.of_eq hg⟩
    refine agx ((F _ hKb (nsK hns) nb).run agH [] s₁ (mY a o T q) ⟨[.ref a],[]⟩ [.ref a] [.ref a] _ _ hr e0 (hbind s₁ (.ref a)) (.cons rfl .nil) (hsp _ tb hS)) fun r s' h=>?_
    cases r with
    |error e=>exact h.elim
    | ok fl =>
      cases fl with
      |next=>exact aeJ h
      |brk=>exact aeJ h
      |cont=>exact aeJ h
      | ret u =>
        obtain⟨v,H',os,bare,un,hok',r',z⟩:=h
        have z:v= .bl true:=z
        subst z
        obtain rfl:u=aiB true:=r'
        have each:∀b o,s₁.heap.get? b=some o→s'.heap.get? b=some o∨(b=T∧o=PySem.W.tabObj #[]∧∃qs,s'.heap.get? b=some (PySem.W.tabObj qs)):=fun b ob e=>by
          cases z:mY a o T q b with
          |none=>exact .inl (un.keep b ob e z (by intro y;exact absurd (show b∈([]:List ad5) from y) (by simp)) (by simp))
          | some y=>
            rcases hH b y z with⟨rfl,rfl⟩ |⟨rfl,rfl,_⟩
            · obtain⟨more,z2⟩:=un.tbls _ _ z
              obtain⟨qs,e2,_⟩:=hok' _ _ z2
              rw[hT] at e;cases e
              exact .inr ⟨rfl,rfl,qs,e2⟩
            · have z2:=un.frzs _ _ _ z
              obtain⟨e1,_⟩:=hok _ _ z
              obtain⟨e2,_⟩:=hok' _ _ z2
              rw[e] at e1;cases e1
              exact .inl e2
        refine⟨rfl,⟨fun b ob e=>?_,fun b ob e=>?_⟩,os,bare⟩
        · rcases each b ob e with z |⟨rfl,rfl,qs,z⟩
          · exact .inl z
          · exact .inr (.inl ⟨(hC.tab hT).isCodeTable,rfl,#[],qs,rfl,by rw[Array.empty_append];exact z⟩)
        · rcases each b ob e with z |⟨rfl,rfl,qs,z⟩
          · exact⟨_,z⟩
          · exact⟨_,z⟩
  cases hk:K.lookup a with
  | some o=>
    have e:=KX a o hk
    rw[ha] at e
    cases e
    exact core none (.inl rfl) (.inr ⟨_,vs.toArray,_,hk,rfl,rfl,rfl,by rw[ait,lenV];exact hl,by simpa using rv⟩) fun z=>absurd rfl z
  |none=>exact core _ (.inr rfl) (.inl (.inr ⟨_,(if_neg aT).trans (if_pos rfl)⟩)) fun _=>hk
def zY(K:PySem.W.Frag)(mg:Str->Option ad7)(x:Str)(c:ad5):Prop:=∀f oc od fd osl,mg x=some (.ref f)->K.lookup f=some ⟨oc,od,.func fd,osl⟩->fd.code= .ref c
theorem adh{l:PySem.W.OpenLaw}{p:aek}{loose:List Str}{XP:(Str->Option ad7)->aeo->Prop}{YP:aep->aeo->Prop}{d:DefRec}{K:Params->PySem.W.Frag}{x q:Str}{FL:List D->R D}
  (hn:l.most=some n)(hn2:n<=sizeLine)(hdf:d.params.defaults=[])(hr:Room k agH)
  (hY:∀(w:aep) (h:aeo),YP w h->(K w.params).In h)(hnt:∀w:aep,PySem.W.noTabs (K w.params)=true)(hrec:∃dy∈recsOf p,dy.name=y)
  (F:∀(w:aep) (mg:Str->Option ad7) (fa:ad5) (h:aeo),(K w.params).In h->h.Ns aed mg->mg d.name=some (.ref fa)->
   ∃fd:aeU,(∀(s:ad8) (u:ad7),ahh s fd ⟨[u],[]⟩ [(x,u)])/\
    ∀(base:aeo) (c T:ad5),(K w.params).In base->base.Ns aed mg->pY base mg c T->zY (K w.params) mg y c->FnOk l.prog w (K w.params) mg base CX0 k fa fd [x] (spT [(T,q)] (K w.params) 1 FL))
  (hL:∀ns:List Int,ns.length<=n->FL [.lst (ns.map D.int)]= .ok (.bl true)):
  PySem.W.WalkO p loose XP YP l.row.toRowW d [] (λf vs=>PySem.call f vs):=by
 refine Att.attach_call hn hdf λw s₀ s₁ mg mb fa o pm cd doc a vs ns G Y ho hd hcd hmg hobj hints hlen hg=>?_;have KX:=hY w _ Y;obtain⟨fd,hb,hF⟩:=F w mg fa _ KX G.T.g hmg;obtain⟨dy,Vp,rfl⟩:=hrec;obtain⟨f',o',fd',c,T,t1,t2,t3,t4,t5,t6⟩:=G.T.tab dy Vp;have hci:zY (K w.params) mg dy.name c:=λf oc od fd2 osl e1 e2=>by
  rw[t1] at e1;cases e1;have e3:=KX _ _ e2;rw[t2] at e3;cases e3;cases t3;exact t4
 exact V3 (q:=q) KX G.T.g G.T.b G.T.builtins G.T.nolimit hg hobj hints (z0b hlen hn2) hr (PySem.W.CodeHd.of t5 t6) t6.2 (hnt w) G.T.bmain (λbase h1 h2 h3=>hF base c T h1 h2 h3 hci) hb λH tb hS=>⟨tb,sp_law hS (hL ns hlen)⟩
section
variable{X:Cx}{e lo hi:aee}{f g:aA->R D}{fl fu:aA->R (Option Int)}{pos p2 p3 p4:Pos}
def Ir(d:D)(lo hi:Option Int):R D:=match d with
 | .lst ds=> .ok (.lst (iG ds lo hi))
 |_=> .bad
def gw(f:aA->R D)(fl fu:aA->R (Option Int)):aA->R D:=λρ=>(f ρ).bind λd=>(fl ρ).bind λl=>(fu ρ).bind λu=>Ir d l u
theorem uO{lo hi:Option aee}(he:DE X e f)(hl:Rg X lo fl)(hu:Rg X hi fu):DE X (.Subscript e (.Slice lo hi none p2) pos) (gw f fl fu):=by
 refine PE.imp (pe_slice sl_list he hl hu) λσ H Q h=>?_;obtain⟨ρ,O,j,h⟩:=h;refine go j h λd v H1 e1 s1 r1 j1 h1=>?_;refine go j1 h1 λl l' H2 e2 s2 r2 j2 h2=>?_;refine go j2 h2 λu u' H3 e3 s3 r3 j3 h3=>?_;have r2:l=l':=r2;have r3:u=u':=r3;subst r2 r3;cases d with
 | lst ds=>
  have r1':=(r1.same s2).same s3;obtain⟨a,xs,rfl,hq,hn,rs⟩:=r1'.lst;have hlen:=rs.length;refine⟨a,xs,rfl,hq,λp hp=>?_⟩;refine h3 _ _ (Same.upd hp) (Rep.je hp (j3.mJ hp) ?_);unfold iG cutV;rw[hlen];exact (rs.drop _).take _
 |_=>exact h3.elim
theorem aaP{kk}{te:TE}(he:PE X e te):PE X (.Subscript e (.Slice none none (some (.UnaryOp .USub (.Constant (.int 1) kk p3) p4)) p2) pos) (λσ H Q=>te σ H λx H1=>∃a xs,x= .ref a/\SqL X.K H1 a xs/\∀p,H1 p=none->Q (.ref p) (upd H1 p (.lst xs.reverse))):=by
 intro pins s σ H Q I h;refine Subscript_ (thn (he pins s σ H _ I h) λv s1 bJ=>?_);obtain⟨x,H1,I1,r1,q1⟩:=bJ;obtain⟨a,xs,rfl,hq,q⟩:=q1;cases r1;refine wpAny_Slice ?_;rw[aij,evalPart_some];refine ad9 (ad9 ?_);refine thn (pe_un (X:=X) un_neg pe_int pins s1 σ H1 (λy H2=>y= .int (-1)/\H2=H1) I1 ⟨1,rfl,rfl,rfl⟩) λvs s2 bJ=>?_;obtain⟨y,H2,I2,r2,ey,eH⟩:=bJ;subst ey;subst eH;obtain⟨t,rfl⟩:=r2;have I4:Inv X pins σ H2 {s2 with heap:=s2.heap.push {cls:= .type "slice",data:= .fields #[.none,.none,.int (-1) t]}}:=I2.kept (t':=s2.toks) λb ob q=>z1a _ q;obtain⟨its,rv,ht,hz⟩:=I4.list hq;have hlen:=rv.length;show aec (model X.prog X.w) X.A (aik e (.Slice none none (some (.UnaryOp .USub (.Constant (.int 1) kk p3) p4)) p2) (.ref a) (.ref s2.heap.objs.size)) (EP X pins σ Q) X.xe {s2 with heap:=s2.heap.push {cls:= .type "slice",data:= .fields #[.none,.none,.int (-1) t]}};refine tail_any (ops:=[.ref a,.ref s2.heap.objs.size]) ht.isList.typeIs slot_list_getitem.lookup (wpAny_getItem_list_slice ht.isList (aib ..) .none .none (.int (-1) t) (by simp) ?_ (by rw[z1c];omega)) (by with_unfolding_all rfl);rw[PySem.W.krv_pick];refine⟨.ref _,_,I4.laid (t':=s2.toks) (o:= .lst xs.reverse) (λb ob q=>z1a _ q) (z0g _) ?_,rfl,q _ (I4.hok.fresh (z0g _))⟩;exact⟨by rw[ahV];exact hz,its.reverse,0,Vals.rev rv,(by have e:its.toArray.toList.reverse=its.reverse:=(by simp);rw[e];exact z1f _ rfl)⟩
def adi:D->R D
 | .lst ds=> .ok (.lst ds.reverse)
 |_=> .bad
def Ly(f:aA->R D):aA->R D:=λρ=>(f ρ).bind adi
theorem aaQ{kk}(he:DE X e f):DE X (.Subscript e (.Slice none none (some (.UnaryOp .USub (.Constant (.int 1) kk p3) p4)) p2) pos) (Ly f):=by
 refine PE.imp (aaP he) λσ H Q h=>?_;obtain⟨ρ,O,j,h⟩:=h;refine go j h λd v H1 e1 s1 r1 j1 h1=>?_;cases d with
 | lst ds=>
  obtain⟨a,xs,rfl,hq,hn,rs⟩:=r1.lst;exact⟨a,xs,rfl,hq,λp hp=>h1 _ _ (Same.upd hp) (Rep.je hp (j1.mJ hp) rs.reverse)⟩
 |_=>exact h1.elim
def tM(i:Nat)(f:aA->R D):aA->R D:=λρ=>match ρ[i]? with
 |some (some (.lst ds))=>(f ρ).bind λd=>bW (.lst ds) d
 |_=> .bad
theorem tO(i:Nat){x:Str}{px:Pos}(hb:DE X e f)(hs:PlainIx e:=by exact λ_ _=>rfl)(hN:X.N[i]?=some x:=by rfl)(hv:Vis X.env.scope x:=by first |exact aeM rfl |exact aeB (aeM rfl) |exact aeB (aeB rfl))
  (hd:(x ==("__debug__" :Str))=false:=by decide)(hcd:(x ==("__classdict__" :Str))=false:=by decide):DE X (.Subscript (.Name x px) e pos) (tM i f):=by
 refine PE.imp (pe_ix ix_seq (pe_var hN hv hd hcd) hb hs) λσ H Q h=>?_;obtain⟨ρ,O,j,h⟩:=h;unfold tM at h;split at h
 ·rename_i ds q;obtain⟨v,hv1,a,xs,rfl,hO,hH,rs⟩:=j.env.get i _ q;refine⟨.ref a,hv1,?_⟩;refine go j h λd y H1 e1 s1 r1 j1 h1=>?_;cases d with
  | int k=>
   have h':good X (rD X) O (match L2.atI ds k with |some d=>R.ok d |none=>R.bad) σ H1 Q:=h1;cases e2:L2.atI ds k with
   |none=>rw[e2] at h';exact h'.elim
   | some d=>
    rw[e2] at h';obtain⟨v,e3,rv⟩:=(rs.same s1).atI e2;exact .inl ⟨a,xs,k,v,rfl,r1.int,SqL.of (s1 _ _ hH),e3,fin h' rv⟩
  |_=>exact h1.elim
 ·exact h.elim
end
section
variable{X:Cx}{pos:Pos}
def Nf(i k:Nat):aA->So:=λρ=>match ρ[i]?,ρ[k]? with
 |some (some (.lst ds)),some (some (.lst es))=>if ds.length<1000000 then .nx ((ρ.set i (some (.lst (ds++[.lst es])))).set k (some (.val (.lst es)))) else .bad
 |_,_=> .bad
theorem At.give{H0:Hp}{O:ad5->Prop}(j:At X H0 O0 O H ρ σ){es:List D}{b:ad5}(hk:ρ[k]?=some (some (.lst es)))(hb:σ[k]?=some (some (.ref b))):
  At X H0 O0 (λa=>O a/\a≠b) H (ρ.set k (some (.val (.lst es)))) σ/\eG X.K O H (λa=>O a/\a≠b) H:=by
 obtain⟨Vk,ZG⟩:=j.mine k _ b hk rfl hb;have rc:eG X.K O H (λa=>O a/\a≠b) H:=⟨⟨λ_ _ z=>z,λ_ _ _ z=>z⟩,λa z=> .inl z.1,λ_ z=>z⟩;have hkl:k<ρ.length:=(z1b hk).1;obtain⟨v,hv,b',xs,e1,hO,hH,rs⟩:=j.inn.env.get k _ hk;rw[hb] at hv;cases hv;cases e1;have un:∀{m:Nat} {x:Ent},(ρ.set k (some (.val (.lst es))))[m]?=some (some x)->x.own=true->ρ[m]?=some (some x):=λ{m x} h ho=>by
  by_cases hmk:m=k
  ·subst hmk;rw[z2a hkl] at h;cases h;cases ho
  ·rw[z1e (aeh hmk)] at h;exact h
 refine⟨⟨j.same,j.dR.trans rc,λa z=>⟨j.sub a z,λe=>ZG (e▸z)⟩,⟨⟨λm e q=>?_,λm l e e' u hml hm hl om ol sm sl=>?_,λm l rows a rs' e u hml hm sm ha hl ol sl=>?_⟩,λa z=>j.inn.al a z.1,j.inn.len,by rw[aeL];exact j.inn.jr⟩,λm e a q ho hs=>?_,λm rows a rs' q hs=>?_⟩,rc⟩
 ·by_cases hmk:m=k
  ·subst hmk;rw[z2a hkl] at q;cases q;exact⟨_,hb,lG (SqL.of hH) (λz=>z.2 rfl) (rs.go rc)⟩
  ·rw[z1e (aeh hmk)] at q;obtain⟨v,q1,q2⟩:=j.inn.env.get m e q;refine⟨v,q1,?_⟩;have nb:e.own=true->v≠.ref b:=λoe z=>by subst z;exact j.inn.env.sep m k _ _ _ hmk q hk oe rfl q1 hb
   cases e with
   |val d=>exact Rep.go rc q2
   |obj t=>exact q2
   | rws rows=>
    obtain⟨a,rs',e2,R⟩:=q2;have Vl:σ[m]?=some (some (.ref a)):=by rw[<-e2];exact q1
    refine⟨a,rs',e2,R.at_,⟨R.oa,λz=>nb rfl (by rw[e2,z])⟩,R.nd,R.len,λn r row z1 z2=>?_⟩;obtain⟨o1,ys,z3,z4⟩:=R.row n r row z1 z2;exact⟨⟨o1,λz=>(j.inn.env.lU m k rows a rs' _ (.ref b) hmk q Vl R.at_ hk rfl hb).1 r (aeE z1) (by rw[z])⟩,ys,z3,z4.go rc⟩
   | lst ds=>
    obtain⟨a,ys,e2,o2,h2,r2⟩:=q2;exact⟨a,ys,e2,⟨o2,λz=>nb rfl (by rw[e2,z])⟩,h2,r2.go rc⟩
   | rG kvs=>
    obtain⟨a,ys,e2,o2,h2,kk,r2⟩:=q2;exact⟨a,ys,e2,⟨o2,λz=>nb rfl (by rw[e2,z])⟩,h2,kk,r2.go rc⟩
 ·exact j.inn.env.sep m l e e' u hml (un hm om) (un hl ol) om ol sm sl
 ·exact j.inn.env.lU m l rows a rs' e u hml (un hm rfl) sm ha (un hl ol) ol sl
 ·by_cases hmk:m=k
  ·subst hmk;rw[z2a hkl] at q;cases q;cases ho
  ·rw[z1e (aeh hmk)] at q;exact j.mine m e a q ho hs
 ·exact j.pW m rows a rs' (un q rfl) hs
theorem aaR(i k:Nat){x:Str}{px py apos cpos:Pos}(hik:i≠k)(hN:X.N[i]?=some x:=by rfl)(hNk:X.N[k]?=some y:=by rfl)(hv:Vis X.env.scope x:=by first |exact aeM rfl |exact aeB (aeM rfl) |exact aeB (aeB rfl))(hvk:Vis X.env.scope y:=by first |exact aeM rfl |exact aeB (aeM rfl) |exact aeB (aeB rfl))
  (hd:(x ==("__debug__" :Str))=false:=by decide)(hcd:(x ==("__classdict__" :Str))=false:=by decide)(hdk:(y ==("__debug__" :Str))=false:=by decide)(adN:(y ==("__classdict__" :Str))=false:=by decide)
  (hbase:aht (.Name x px) "append" X.env (eval (.Name x px) X.env)=eval (.Name x px) X.env:=by rfl)
  (hfew:((aeR cpos (aea [.Name y py] X.env)).all (λx=> !x.1) && (agW cpos (agk [] X.env)).all (λx=>x.1.isSome)
   && decide ([Expr.Name y py].length+([]:List agc).length+(if ([]:List agc).isEmpty then 0 else 1)<30))=true:=by rfl)
  (hline:(apos.endLine ==cpos.line)=true:=by rfl) (hs1:aea [.Name y py] X.env=(false,eval (.Name y py) X.env)::aea [] X.env:=by rfl) (hplain:(aeR cpos (aea [] X.env)).any (·.1)=false:=by rfl)
  (hs:agu (.Call (.Attribute (.Name x px) "append" apos) [.Name y py] [] cpos) none pos.line X.env=pure false:=by rfl):
  DS X (.Expr (.Call (.Attribute (.Name x px) "append" apos) [.Name y py] [] cpos) pos) (Nf i k):=by
 refine PS.imp (ps_expr (pe_bm PySem.F.plainAttrs_list PySem.F.slot_list_append PySem.F.type_list_append mt_append (pe_var hN hv hd hcd) (pa_cons (pe_var hNk hvk hdk adN) pa_nil hs1) hbase hfew hline hs1 hplain) hs) λσ H E h=>?_;obtain⟨H0,O0,O,ρ,j,h⟩:=h;unfold Nf at h;split at h
 ·rename_i ds es q1 q2;by_cases hl:ds.length<1000000
  ·rw[if_pos hl] at h;obtain⟨v,hv1,a,xs,rfl,hO,hH,rs⟩:=j.inn.env.get i _ q1;obtain⟨v,hv2,b,ys,rfl,hO2,hH2,yX⟩:=j.inn.env.get k _ q2;have hab:a≠b:=λz=>j.inn.env.sep i k _ _ _ hik q1 q2 rfl rfl hv1 (by rw[z];exact hv2);refine⟨.ref a,hv1,.inl ⟨rfl,xs,SqL.of hH⟩,.ref b,hv2,?_⟩;have hlen:=rs.length;refine⟨a,xs,.ref b,rfl,rfl,hH,by have:=eU;omega,?_⟩;obtain⟨j1,r1⟩:=j.give q2 hv2;have Vl:(ρ.set k (some (.val (.lst es))))[i]?=some (some (.lst ds)):=by rw[z1e (aeh hik)];exact q1
   obtain⟨j2,r2⟩:=j1.chg (o:= .lst (xs++[.ref b])) (en:= .lst (ds++[.lst es])) Vl rfl hv1 ⟨hO,hab⟩ hH trivial rfl λr=>⟨a,xs++[.ref b],rfl,⟨hO,hab⟩,upd_same,by
    have z1:aP X.K (λc=>O c/\c≠b) H (ds++[.lst es]) (xs++[.ref b]):=(rs.go r1).append (.cons (lG (SqL.of hH2) (λz=>z.2 rfl) (yX.go r1)) .nil);exact z1.go r⟩
   rw[List.set_comm _ _ (aeh hik)] at j2;exact h _ _ _ j2 (r1.trans r2)
  ·rw[if_neg hl] at h;exact h.elim
 ·exact h.elim
end
section
open PySem
theorem T8(l b:ad5)(items:Array ad7)(n:Nat)(items2:Array ad7)(n2:Nat)(dd:Option ad5)(sl:Array (Option ad7))(hs0:¬(!items.isEmpty && af8 (items.size+items2.size))=true)(hs1:items.size<=sizeLine)(hs2:items.size+items2.size<=sizeLine+1):
  Meets (afA.«list.__iadd__» ⟨[.ref l,.ref b],[]⟩) (λ_ R s=>s.heap.get? l=some {cls:= .type "list",dict:=none,data:= .seq items n,slots:= #[]}/\s.heap.get? b=some {cls:= .type "list",dict:=dd,data:= .seq items2 n2,slots:=sl}/\R (.ok (.ret (aew l))) {s with heap:=s.heap.update l (afd λx=>x++items2),toks:=s.toks}):=
 .of_wp λprog w A R s h=>by
  obtain⟨hp,g,d,tk,os⟩:=s;obtain⟨hl,hb,h⟩:=h;have f1:=aiO;have f2:=AutoSeq1.sub_tuple_tuple;have f3:=AutoSeq1.sub_list_list;have f4:=AutoSeq1.sub_tuple_list;have f5:=AutoSeq1.sub_list_tuple;
  have hz':(items++items2).size<=sizeLine+1:=by rw[Array.size_append];exact hs2
  wp_walk using (wpAny_updateSeq hl rfl (hz:=hs1) (_hz':=hz')),afy hl,afy hb;exact⟨_,rfl,h⟩
end
section
variable{X:Cx}{e:aee}{f:aA->R D}{pos:Pos}
theorem aaS:PIp X .Add (λx y H Q=>∃a b xs ys,x= .ref a/\y= .ref b/\H a=some (.lst xs)/\SqL X.K H b ys/\xs.length+ys.length<=1000000/\Q (.ref a) (upd H a (.lst (xs++ys)))):=by
 intro pins s σ H x y v u Q I rx ry h;obtain⟨a,b,xs,ys,rfl,rfl,ha,hb,hz,q⟩:=h;cases rx;cases ry;obtain⟨its,n,r,ho,hzl⟩:=I.lst ha;obtain⟨its2,r2,p2,hz2⟩:=I.list hb;obtain⟨⟨cls2,dd2,data2,sl2⟩,ho2,hc2,n2,hd2⟩:=id p2.isList;simp only at hc2 hd2;subst hc2 hd2;have l1:=r.length;have l2:=r2.length;have hsl:=eU;have hT:s.TypeIs (.ref a) "list" :=⟨_,ho,rfl⟩;have hT2:s.TypeIs (.ref b) "list" :=⟨_,ho2,rfl⟩;unfold inplaceOp;refine afv ?_;have hfi:fillsInplaceSlot (.type "list") "add" (Operator.Add == .Add)=pure false:=by
  unfold fillsInplaceSlot;show (typeLookup (.type "list") (dunderI "add") >>=λfi=>pure (fi.isSome && !isSeqSlot fi))=pure false;rw[PySem.F.slot_list_iadd.lookup,pure_bind,show isSeqSlot (some (.builtin "list.__iadd__"))=true from by decide +kernel];rfl
 refine ad4 (agR hT (ad4 (agw hfi ?_)));show aec _ _ (if false=true then _ else _) _ _ s;rw[if_neg aes];refine ad4 (binaryOp1_none (nm:= "add") hT hT2 PySem.noFill_list_add ?_);refine ad4 (agw (PySem.seqSlot_of (T:= "list") (name:=dunderI "add") (id:= "list.__iadd__") PySem.F.slot_list_iadd.lookup (by decide +kernel)) ?_);refine ad4 (ags ?_);refine af6 PySem.F.slot_list_iadd hT PySem.F.entry_list_iadd (PySem.F.args_list_iadd_2 _ _) (T8 a b its.toArray n its2.toArray n2 dd2 sl2 ?_ (by rw[z1c];omega) (by rw[z1c,z1c];omega)) ⟨ho,ho2,?_⟩
 ·rw[z1c,z1c];have:af8 (its.length+its2.length)=false:=by unfold af8;exact decide_eq_false (by omega)
  rw[this];simp
 ·refine⟨.ref a,upd H a (.lst (xs++ys)),I.lset (its':=its++its2) ha ho (by simp) (r.append r2) (by rw[z1d];omega),rfl,q⟩
def Er(i:Nat)(f:aA->R D):aA->So:=λρ=>match ρ[i]? with
 | some (some (.lst ds))=>fZ (zL (f ρ)) ρ λd=>match d with
  | .lst es=>if ds.length+es.length<=1000000 then .nx (ρ.set i (some (.lst (ds++es)))) else .bad
  |_=> .bad
 |_=> .bad
theorem RJ(i:Nat){x:Str}(hN:X.N.Nodup)(he:DE X e f)(hi:X.N[i]?=some x:=by rfl)(hx:Loc X.env.scope x:=by first |exact aeM rfl |exact aeB rfl)
  (hf:X.fn x=true\/X.env.scope.names.lookup x=some .local:=by first |exact .inl rfl |exact .inr rfl):DS X (.AugAssign (.Name x pos') .Add e pos) (Er i f):=by
 refine PS.imp (ps_aug hN hi hx he aaS hf) λσ H E h=>?_;obtain⟨H0,O0,O,ρ,j,h⟩:=h;unfold Er at h;split at h
 ·rename_i ds q;obtain⟨v,hv1,a,xs,rfl,hO,hH,rs⟩:=j.inn.env.get i _ q;refine⟨.ref a,hv1,ρ,O,j.inn,?_⟩;unfold fZ at h;cases e1:f ρ with
  |bad=>rw[e1] at h;exact h.elim
  |err c=>rw[e1] at h;exact h.elim
  | ok d =>
   rw[e1] at h;intro w H1 s1 rw1;cases d with
   | lst es=>
    have h:oK X H0 O0 O H E (if ds.length+es.length<=1000000 then .nx (ρ.set i (some (.lst (ds++es)))) else .bad):=h;by_cases hl:ds.length+es.length<=1000000
    ·rw[if_pos hl] at h;have j1:=j.grow s1;obtain⟨b,ys,rfl,hb,hnb,yX⟩:=rw1.lst;have rs1:=rs.same s1;have hH1:=s1 _ _ hH;refine⟨a,b,xs,ys,rfl,rfl,hH1,hb,by rw[<-rs1.length,<-yX.length];exact hl,?_⟩;obtain⟨j2,r2⟩:=j1.chg (o:= .lst (xs++ys)) (en:= .lst (ds++es)) q rfl hv1 hO hH1 trivial rfl λr=>⟨a,xs++ys,rfl,hO,upd_same,(rs1.append yX).go r⟩;have eσ:σ.set i (some (V.ref a))=σ:=by
      apply agr;intro m;by_cases hm:m=i
      ·subst hm;rw[z2a (z1b hv1).1,hv1]
      ·rw[z1e (aeh hm)]
     rw[eσ];exact h _ _ _ j2 ((Same.dR s1).trans r2)
    ·rw[if_neg hl] at h;exact h.elim
   |_=>exact h.elim
 ·exact h.elim
end
def Its(lo:Int)(n:Nat)(c:Int):It:=⟨λi _=>i<n,λi H x H'=>H'=H/\x= .int (lo+i*c),λi _=>n<=i⟩
theorem V4(it:ad5)(lo:Int)(n:Nat)(c:Int):Turn P w K tg (Its lo n c) [it] it (λi h=>ah2 h it (lo+(i:Nat)*c) ((n:Int) - (i:Nat)) c) where
 mem:=by simp
 obj :=λi h st b hb=>by
  have e:b=it:=by simpa using hb
  subst e;exact⟨_,st,λv z=>by
   have z':aiZ _=ah8 v:=z;cases z'⟩
 keep:=λi h h' st k=>k it (by simp) _ st
 item:=by
  intro X hP hw hK hc i pins s σ H E I hf st hg;subst hP hw hK;obtain⟨f0,f1,f2,f3,f4,f5⟩:=hf it (by simp);have W:=Walks.range (prog:=X.prog) (w:=X.w) (I.ok.hd hc) it lo c n;refine W.item i s _ _ hg st λv h' tk hv st' kk=>?_;obtain⟨t,rfl⟩:=hv;have I1:Inv X pins σ H {s with heap:=h',toks:=tk}:=I.turned (λb o hb e=>kk b o (by simpa using hb) e) f0 f1 f3 f4 f5;exact⟨_,rfl,go_of (s:={s with heap:=h',toks:=tk}) (n:= "range_iterator") st' rfl rfl (by decide) ⟨.int (lo+i*c),H,I1,⟨t,rfl⟩,⟨rfl,rfl⟩,st',λb hb=>(hf b hb).1⟩⟩
 done:=by
  intro X hP hw hK hc i pins s σ H E I hf st hg;subst hP hw hK;obtain⟨f0,f1,f2,f3,f4,f5⟩:=hf it (by simp);exact wpAny_pyNext_range_end (I.ok.hd hc) st (by have:n<=i:=hg;omega) λh' eb=>⟨rfl,I.turned (t':=s.toks) (λb o hb e=>eb b o hb e) f0 f1 f3 f4 f5⟩
 self:=λ_ _ _ _ _ st h=>ahq st h
def zZ(hi:Int)(n:Nat):List D:=(ad6 n).map λ(i:Nat)=>D.int (hi - (i:Int))
theorem YR.step{O:ad5->Prop}(hi:Int)(n:Nat):YR K O H (Its hi n (-1)) (zZ hi n):=by
 intro O' H' _;intro i;refine⟨λd e=>?_,λe=>?_⟩
 ·unfold zZ at e;rw[z2b] at e;cases q:(ad6 n)[i]? with
  |none=>rw[q] at e;cases e
  | some k=>
   rw[q] at e;have hk:i<n/\i=k:=by simpa[aei] using (z1b q)
   obtain⟨h1,rfl⟩:=hk;cases e;refine⟨h1,λx H2 y=>?_⟩;obtain⟨rfl,rfl⟩:=y;exact⟨Same.refl _,by rw[show hi+(i:Int)*(-1)=hi - (i:Int) by omega];exact cB _⟩
 ·show n<=i;unfold zZ at e;simpa using e
section
variable{X:Cx}{tg a b c:aee}{p pos p2 pos2:Pos}{fa:aA->R (List D)}{ta:TA}
def adW:List D->R (List D)
 |[.int i,.int j,.int k]=>if k= -1/\-(2^62)<=i/\i<2^62/\-(2^62)<=j/\j<2^62 then .ok (zZ i (i - j).toNat) else .bad
 |_=> .bad
end
section
variable{prog:aek}{w:aep}{A:aer}{E:ad7->ad8->Prop}{s:ad8}
theorem Gn(r:ad5)(j:Int)(t u v:Tok)(h0:0<=j)(h1:j<=1000):Meets (afA.«range.__reversed__» ⟨[.ref r],[]⟩) (λ_ R s=>IsRange s.heap r 0 j 1 t u v/\R (.ok (.ret (.ref s.heap.objs.size))) {s with heap:=s.heap.push {cls:= .type "range_iterator",data:= .fields #[ae3 (j - 1),ae3 j,ae3 (-1)]}}):=
 .of_wp λprog w A R s h=>by
  obtain⟨hp,g,d,tk,os⟩:=s;obtain⟨hr,h⟩:=h;have e1:afO 0 j 1=j:=by rw[ahs];split <;> omega
  have e2:(afn 0 && afn j && afn 1 && afn (-1) && afn (0 - 1) && afn j)=true:=by
   simp only[afn,ae6,decide_eq_true_eq];omega
  have e3:(0:Int)+(j - 1)*1=j - 1:=by omega
  unfold afA.«range.__reversed__» Builtin.Range.rangeFields
  wp_walk using afy hr
  rw[e1];simp only[e2,e3,ag0,afg,if_false,if_true];unfold newFields;refine ad4 (aeI (ad9 ⟨_,rfl,h⟩) (by size_fits))
theorem Gp:isSubtype (.type "range_iterator") (.type "reversed")=pure false:=by rw[isSubtype_type];kernel_rfl
theorem Iu{j:Int}{t u v:Tok}{Q₁:ad7->ad8->Prop}(h0:0<=j)(h1:j<=1000)(hr:IsRange s.heap r 0 j 1 t u v)
  (h:Q₁ (.ref s.heap.objs.size) {s with heap:=s.heap.push {cls:= .type "range_iterator",data:= .fields #[ae3 (j - 1),ae3 j,ae3 (-1)]}}):
  ahi (model prog w) A (.call (.builtin "reversed.__new__") ⟨[.type "reversed",.ref r],[]⟩) (wants Q₁ E) s:=by
 have hT:s.TypeIs (.ref r) "range" :=⟨_,hr,rfl⟩;refine codeAny_of_tree ?_;show aec _ A.in1 (do checkBuiltinCall "reversed.__new__" ⟨[.type "reversed",.ref r],[]⟩;again (.builtin "reversed.__new__" ⟨[.type "reversed",.ref r],[]⟩)) _ _ s;refine ad4 (agw (PySem.F.newCall_reversed_1 _) (ad9 ⟨plainId_quiet PySem.F.plain_reversed_new _,ag9 PySem.F.entry_reversed_new ?_⟩));rw[ahT PySem.F.plain_reversed_new _];unfold afA.«reversed.__new__»;refine ad4 (agw (newClass_reversed _) ?_)
 try dsimp only
 refine ad4 (agw (a:=()) (by first |rfl |kernel_rfl) ?_);refine ad4 (agw (a:=()) (by first |rfl |kernel_rfl) ?_)
 try dsimp only
 refine ad4 (wpAny_specialOf hT PySem.F.slot_range_reversed.lookup ?_)
 try dsimp only
 refine ad4 (agw (PySem.F.slot_range_reversed.bind _) ?_)
 try dsimp only
 first
 |rw[if_neg (show ¬((afX "range.__reversed__" ==aez)=true) from aes)]
 |(show aec _ _ (if (afX "range.__reversed__" ==aez)=true then _ else _) _ _ _;rw[if_neg (show ¬((afX "range.__reversed__" ==aez)=true) from aes)])
 refine ad4 (ags ?_);refine ad4 (m:=runValue (.call (.builtin "range.__reversed__") ⟨[.ref r],[]⟩)) (show aec _ _ (call (.builtin "range.__reversed__") [.ref r]) _ _ _ from af6 PySem.F.slot_range_reversed hT PySem.F.entry_range_reversed (PySem.F.args_range_reversed_1 _) (Gn r j t u v h0 h1) ⟨hr,?_⟩)
 first
 |exact ad9 h
 |exact ad4 (ad9 (ad9 h))
theorem Iv{j:Int}{t u v:Tok}(h0:0<=j)(h1:j<=1000)(hr:IsRange s.heap r 0 j 1 t u v)
  (h:Q (.ref s.heap.objs.size) {s with heap:=s.heap.push {cls:= .type "range_iterator",data:= .fields #[ae3 (j - 1),ae3 j,ae3 (-1)]}}):aec (model prog w) A (call (.type "reversed") [.ref r]) Q E s:=by
 refine callType_other (U:= "range_iterator") (Q₁:=λobj s₁=>obj= .ref s.heap.objs.size/\s₁={s with heap:=s.heap.push {cls:= .type "range_iterator",data:= .fields #[ae3 (j - 1),ae3 j,ae3 (-1)]}}) (by decide +kernel) PySem.F.create_reversed ⟨_,_,PySem.F.mro_reversed⟩ PySem.F.made_reversed Gp (PySem.F.typeCall_reversed_1 _) (Iu h0 h1 hr ⟨rfl,rfl⟩) ?_
 rintro obj s₁ ⟨rfl,rfl⟩
 exact⟨⟨_,z1f _ rfl,rfl⟩,h⟩
end
section
variable{X:Cx}{tg a:aee}{p pos p2 pos2:Pos}{fa:aA->R (List D)}
def Ng:List D->R (List D)
 |[.int j]=>if 0<=j/\j<=1000 then .ok (zZ (j - 1) j.toNat) else .bad
 |_=> .bad
theorem aaT(hg:Gl X "reversed")(hm:X.mg "reversed" =none)(hg2:Gl X "range")(hm2:X.mg "range" =none)(ha:DA X [a] fa)(hs:aea [a] X.env=[(false,eval a X.env)]:=by rfl)
  (he:aea [.Call (.Name "range" p2) [a] [] pos2] X.env=(false,eval (.Call (.Name "range" p2) [a] [] pos2) X.env)::aea [] X.env:=by rfl)(hpl:(aeR pos (aea [] X.env)).any (·.1)=false:=by rfl):
  DI X tg (.Call (.Name "reversed" p) [.Call (.Name "range" p2) [a] [] pos2] [] pos) (λρ=>(fa ρ).bind Ng):=by
 intro pins s σ H R I h;have A:=pa_cons (Gg (p:=p2) (pos:=pos2) hg2 hm2 ha hs) pa_nil he;obtain⟨ρ,O,jn,h⟩:=h;have key:tCons (abV X.K (tG X (Fy X) fa)) tNil σ H (λvs H1=>∃q j,vs=[.ref q]/\H1 q=some (.rng 0 j)/\0<=j/\j<=1000/\R (Its (j - 1) j.toNat (-1)) H1):=by
  refine go jn h λds vs H1 e1 s1 r1 j1 h1=>?_;unfold Ng at h1;split at h1
  ·rename_i j;by_cases hh:0<=j/\j<=1000
   ·rw[if_pos hh] at h1;obtain⟨v,rfl,w⟩:=r1.one;exact⟨j,by rw[w.int],hh.1,hh.2,λq hq=>⟨q,j,rfl,upd_same,hh.1,hh.2,h1 _ _ (Same.upd hq) (YR.step _ _)⟩⟩
   ·rw[if_neg hh] at h1;exact h1.elim
  ·exact h1.elim
 refine Call_ (ld_blt I hg hm boot_reversed (ae1 (thn (A pos pins s σ H _ I key) λus s1 ⟨vs,H1,I1,r1,q1⟩=>?_) he hpl));obtain⟨q,j,e,hq,h0,h1,q⟩:=q1;subst e;cases r1 with
 | cons r rr=>
  cases rr;cases r;obtain⟨t,u,v,hr⟩:=I1.hok _ _ hq;refine Iv h0 h1 hr ?_;have hit:ah2 (s1.heap.push {cls:= .type "range_iterator",data:= .fields #[ae3 (j - 1),ae3 j,ae3 (-1)]}) s1.heap.objs.size (j - 1) j (-1):=z1f _ rfl;refine ahq (s:={s1 with heap:=s1.heap.push {cls:= .type "range_iterator",data:= .fields #[ae3 (j - 1),ae3 j,ae3 (-1)]}}) hit ?_;refine⟨s1.heap.objs.size,[s1.heap.objs.size],_,_,H1,rfl,I1.kept (t':=s1.toks) λb o e=>z1a _ e,V4 _ (j - 1) j.toNat (-1),?_,λb hb=>?_,q⟩
  ·show ah2 _ _ (j - 1+((0:Nat):Int)*(-1)) (((j.toNat:Nat):Int) - ((0:Nat):Int)) (-1);rw[show j - 1+((0:Nat):Int)*(-1)=j - 1 by simp,show ((j.toNat:Nat):Int) - ((0:Nat):Int)=j by omega];exact hit
  ·have e:b=s1.heap.objs.size:=by simpa using hb
   subst e;exact I1.fpOk (z0g _) (I1.hok.fresh (z0g _))
end
end Pu
namespace Pu
open PySem PySem.Spec PySem.W L2
open PyProof.Rows hiding St
variable{a:ad5}{ts:List (List Int)}{ns:List Int}
def eX:List Int->List Int->Bool
 |[],[]=>false
 |[],_::_=>true
 |_::_,[]=>false
 |x::xs,y::ys=>if x=y then eX xs ys else decide (x<y)
theorem mZ:∀a:List Int,eX a a=false
 |[]=>rfl
 |x::xs=>by rw[eX,if_pos rfl];exact mZ xs
theorem kZ:∀{a b c:List Int},eX a b=true->eX b c=true->eX a c=true
 |[],[],_,h,_=>by cases h
 |[],_::_,[],_,h=>by cases h
 |[],_::_,_::_,_,_=>rfl
 |_::_,[],_,h,_=>by cases h
 |_::_,_::_,[],_,h=>by cases h
 | x ::a,y::b,z::c,h1,h2=>by
  rw[eX] at h1 h2 |-;by_cases e1:x=y
  ·rw[if_pos e1] at h1;subst e1;by_cases e2:x=z
   ·rw[if_pos e2] at h2 |-;exact kZ h1 h2
   ·rw[if_neg e2] at h2 |-;exact h2
  ·rw[if_neg e1] at h1;have h1:x<y:=of_decide_eq_true h1;by_cases e2:y=z
   ·subst e2;rw[if_neg e1];exact decide_eq_true h1
   ·rw[if_neg e2] at h2;have h2:y<z:=of_decide_eq_true h2;rw[if_neg (by omega)];exact decide_eq_true (by omega)
theorem wO:∀{a b:List Int},a≠b->eX a b=false->eX b a=true
 |[],[],h,_=>absurd rfl h
 |[],_::_,_,h=>by cases h
 |_::_,[],_,_=>rfl
 | x ::a,y::b,h,e=>by
  rw[eX] at e |-;by_cases e1:x=y
  ·subst e1;rw[if_pos rfl] at e |-;exact wO (λz=>h (by rw[z])) e
  ·rw[if_neg e1] at e;rw[if_neg (λz=>e1 z.symm)];have e:¬x<y:=of_decide_eq_false e;exact decide_eq_true (by omega)
section
variable{prog:aek}{w:aep}{A:aer}{E:ad7->ad8->Prop}{s:ad8}
theorem Qo{b:ad5}{oa ob:Obj}{xs ys:Array ad7}{na nb:Nat}{ms:List Int}{P:PySem.Fin->ad8->Prop}(hoa:s.heap.get? a=some oa)(hda:oa.data= .seq xs na)(hob:s.heap.get? b=some ob)(hcb:ob.cls= .type "tuple")(hdb:ob.data= .seq ys nb)
  (hia:afS xs.toList ns)(hib:afS ys.toList ms)(h:P (.done (.ret (.bool (eX ns ms)))) s):
  aec (model prog w) A (afA.«tuple.__lt__» ⟨[.ref a,.ref b],[]⟩) P E s:=by
 have hTb:s.TypeIs (.ref b) "tuple" :=⟨ob,hob,hcb⟩;show aec _ _ (isInstance (.ref b) (.type "tuple") >>=_) _ _ s;refine ad4 (ahy hTb isSubtype_tuple_tuple ?_);simp only[ag0,afg,if_false];refine ad4 (ahd hoa hda ?_);refine ad4 (ahd hob hdb ?_);refine ad4 ?_;refine aiQ _
  (λrest r s'=>r.1=none/\s'=s/\∃xs' ys' ns' ms',rest=List.zip xs' ys'/\afS xs' ns'/\afS ys' ms'/\eX ns' ms'=eX ns ms/\decide (xs'.length<ys'.length)=decide (xs.size<ys.size))
  _ ?_ ?_ _ _ ⟨rfl,rfl,xs.toList,ys.toList,ns,ms,rfl,hia,hib,rfl,by simp⟩
 ·rintro ⟨u,v⟩ rest r s' ⟨hr,rfl,xs',ys',ns',ms',hz,hx',hy',hdec,hlen⟩
  cases hx' with
  |nil=>simp at hz
  | cons k1 t1 hx''=>
   cases hy' with
   |nil=>simp at hz
   | cons k2 t2 hy''=>
    simp only[ahe,aiY,ai6] at hz;obtain⟨⟨rfl,rfl⟩,rfl⟩:=hz;refine ad4 (aiG ?_);rw[eX] at hdec;by_cases hk:k1=k2
    ·subst hk;rw[if_pos rfl] at hdec;simp only[beq_self_eq_true,ag0,afg,if_false];exact ad9 ⟨rfl,rfl,_,_,_,_,rfl,hx'',hy'',hdec,by simpa using hlen⟩
    ·rw[if_neg hk] at hdec;have e:(k1 ==k2)=false:=by simpa using hk
     rw[e];simp only[Bool.not_false,if_true];rw[<-hdec] at h;refine ad4 (ags ?_);refine ad4 (m:=richCompare .Lt (.int k1 t1) (.int k2 t2)) (show aec _ _ (aex .Lt (.int k1 t1) (.int k2 t2)) _ _ _ from lt_int ?_)
     first
      |exact ad9 (ad9 h)
      |exact ad4 (ad9 (ad9 (ad9 h)))
      |exact ad4 (ad9 (ad9 h))
 ·rintro⟨r1,r2⟩ s' ⟨hr,rfl,xs',ys',ns',ms',hz,hx',hy',hdec,hlen⟩
  simp only at hr;subst hr;refine ad9 ?_;have hfin:decide (xs.size<ys.size)=eX ns ms:=by
   rw[<-hdec,<-hlen];cases hx' with
   | nil=>
    cases hy' with
    |nil=>rfl
    |cons _ _ _=>simp[eX]
   | cons _ _ _=>
    cases hy' with
    |nil=>simp[eX]
    |cons _ _ _=>simp at hz
  show P (.done (.ret (.bool (decide (xs.size<ys.size))))) s';rw[hfin];exact h
theorem RK{b:ad5}{oa ob:Obj}{xs ys:Array ad7}{na nb:Nat}{ms:List Int}{Q:ad7->ad8->Prop}(hu:A.units<afJ)(hoa:s.heap.get? a=some oa)(hca:oa.cls= .type "tuple")(hda:oa.data= .seq xs na)(hob:s.heap.get? b=some ob)(hcb:ob.cls= .type "tuple")(hdb:ob.data= .seq ys nb)
  (hia:afS xs.toList ns)(hib:afS ys.toList ms)(h:Q (.bool (eX ns ms)) s):aec (model prog w) A (aex .Lt (.ref a) (.ref b)) Q E s:=by
 show aec _ _ (richCompare .Lt (.ref a) (.ref b)) _ _ _;exact wpAny_richCompare_same_room (op:= .Lt) ⟨oa,hoa,hca⟩ ⟨ob,hob,hcb⟩ PySem.F.slot_tuple_lt
   (ae5 PySem.F.slot_tuple_lt ⟨oa,hoa,hca⟩ PySem.F.entry_tuple_lt (Qo hoa hda hob hcb hdb hia hib ⟨_,rfl,(λe=>nomatch e),h⟩) (PySem.F.args_tuple_lt_2 _ _)) hu
end
section
variable{X:Cx}
end
def Es(p:List Int):List (List Int)->List (List Int)
 |[]=>[p]
 |q::r=>if eX p q then p::q::r else q::Es p r
def lg:List (List Int)->List (List Int)
 |[]=>[]
 |p::r=>Es p (lg r)
theorem Aa(p:List Int):∀l,(Es p l).Perm (p::l)
 |[]=> .refl _
 | q::r=>by
  unfold Es;split
  ·exact .refl _
  ·exact ((Aa p r).cons q).trans (List.Perm.swap p q r)
theorem jm:∀l,(lg l).Perm l
 |[]=> .refl _
 |p::r=>(Aa p _).trans ((jm r).cons p)
abbrev Gq(l:List (List Int)):Prop:=l.Pairwise λa b=>eX a b=true
theorem J6(p:List Int):∀{l:List (List Int)},Gq l->p∉l->Gq (Es p l)
 |[],_,_=>by unfold Es;simp
 | q ::r,h,hn=>by
  obtain⟨h1,h2⟩:=afM.mp h;unfold Es;by_cases e:eX p q=true
  ·rw[if_pos e];refine afM.mpr ⟨λz hz=>?_,h⟩;rcases ael.mp hz with z1 |z1
   ·rw[z1];exact e
   ·exact kZ e (h1 z z1)
  ·rw[if_neg e];have e2:eX q p=true:=wO (λz=>hn (by rw[z];exact aen)) (by simpa using e);refine afM.mpr ⟨λz hz=>?_,J6 p h2 λz=>hn (z2f _ z)⟩;rcases ael.mp ((Aa p r).mem_iff.mp hz) with z1 |z1
   ·rw[z1];exact e2
   ·exact h1 z z1
theorem Ab:∀{l:List (List Int)},l.Nodup->Gq (lg l)
 |[],_=> .nil
 | p::r,h=>by
  obtain⟨h1,h2⟩:=afq.mp h;exact J6 p (Ab h2) λz=>h1 ((jm r).mem_iff.mp z)
theorem Gr:∀{a b:List (List Int)},a.Perm b->Gq a->Gq b->a=b
 |[],b,p,_,_=>(List.nil_perm.mp p).symm
 |x::a,[],p,_,_=>absurd (List.perm_nil.mp p) (by simp)
 | x :: a,y::b,p,ha,hb=>by
  have ha':=afM.mp ha;have hb':=afM.mp hb;have h1:x=y:=by
   rcases ael.mp (p.mem_iff.mp (aen (a:=x) (l:=a))) with h |h
   ·exact h
   ·rcases ael.mp (p.mem_iff.mpr (aen (a:=y) (l:=b))) with k |k
    ·exact k.symm
    ·have:=kZ (ha'.1 y k) (hb'.1 x h);rw[mZ] at this;cases this
  subst h1;rw[Gr ((List.perm_cons x).mp p) ha'.2 hb'.2]
theorem T9(hn:ts.Nodup){a b:Nat}(ha:a<ts.length)(hb:b<ts.length)(hab:a≠b):ts.getD a []≠ts.getD b []:=by
 simp only[aiX,aem ha,aem hb,aiN];intro z;exact hab ((aiH hn).mp z)
theorem aaU(hn:ts.Nodup):Ord ts.length (λi j=>eX (ts.getD i []) (ts.getD j [])):=
 ⟨λa b c _ _ _ h1 h2=>kZ h1 h2,λa b ha hb hab h=>wO (T9 hn ha hb hab) h⟩
theorem Nh(hn:ts.Nodup){q:Array Nat}(h:Pm ts.length q)(hs:S (λi j=>eX (ts.getD i []) (ts.getD j [])) q ts.length):q.toList.map (λi=>ts.getD i [])=lg ts:=by
 refine Gr ?_ ?_ (Ab hn)
 ·have e:(ad6 ts.length).map (λi=>ts.getD i [])=ts:=by
   apply agr;intro i;by_cases hi:i<ts.length
   ·simp[hi]
   ·simp[hi]
  have:=h.perm.map λi=>ts.getD i [];rw[e] at this;exact this.trans (jm ts).symm
 ·refine List.pairwise_iff_getElem.mpr λi j hi hj hij=>?_;have hl:(q.toList.map λi=>ts.getD i []).length=ts.length:=by simp[h.size]
  have:=hs i j hij (by rw[<-hl];exact hj);have e:∀(k:Nat) (hk:k<(q.toList.map λi=>ts.getD i []).length),(q.toList.map λi=>ts.getD i [])[k]=ts.getD (q.getD k 0) []:=λk hk=>by
   have hk':k<q.size:=by simpa using hk
   simp[ai5,hk']
  rw[e i hi,e j hj];exact this
section
variable{prog:aek}{w:aep}{A:aer}{E:ad7->ad8->Prop}{s:ad8}
inductive gW (h:aeo) (a:ad5) (l c:Int) (ps:List Int):Prop
 |mk (o o2:Obj) (n n2:Nat) (t u:Tok) (p:ad5) (vs:Array ad7) (h1:h.get? a=some o) (h2:o.cls= .type "tuple") (h3:o.data= .seq #[.int l t,.int c u,.ref p] n) (h4:h.get? p=some o2) (h5:o2.cls= .type "tuple") (h6:o2.data= .seq vs n2) (h7:afS vs.toList ps):gW h a l c ps
theorem gW.keeps{h h':aeo}{l c:Int}{ps:List Int}(x:gW h a l c ps)(k:∀b o,h.get? b=some o->o.cls= .type "tuple"->h'.get? b=some o):gW h' a l c ps:=
 by
 obtain⟨o,o2,n,n2,t,u,p,vs,h1,h2,h3,h4,h5,h6,h7⟩:=x;exact⟨o,o2,n,n2,t,u,p,vs,k _ _ h1 h2,h2,h3,k _ _ h4 h5,h5,h6,h7⟩
theorem tQ{prog:aek}{w:aep}:∀{vs:List ad7} {ns:List Int},afS vs ns->ItemsAre (intKind prog w) ns vs
 |_,_,.nil=> .nil
 |_,_,.cons n t h=> .cons (intKind_is _ _ _ _) (tQ h)
theorem aaV{x y:ad5}{l c l' c':Int}{ps qs:List Int}{Q:Bool->ad8->Prop}(hu:A.units<afJ)(hx:gW s.heap x l c ps)(hy:gW s.heap y l' c' qs)(h:Q (eX (l::c::ps) (l'::c'::qs)) s):
  aec (model prog w) A (keyLt' (tuples' true) (.ref x) (.ref y)) Q E s:=by
 obtain⟨o,o2,n,n2,t,u,p,vs,h1,h2,h3,h4,h5,h6,h7⟩:=hx;obtain⟨o',o2',n',Z1,t',u',p',vs',g1,g2,g3,g4,g5,g6,g7⟩:=hy;refine kat_lt h1 h3 g1 g3 ?_;show KatLex prog w A true (decide (3<3)) Q [(.int l t,.int l' t'),(.int c u,.int c' u'),(.ref p,.ref p')] 0 s;rw[eX,eX] at h;refine kat_cons (aic l t l' t' prog w _ _ ?_);by_cases e1:l=l'
 ·rw[if_pos e1] at h;rw[show (l ==l')=true by simpa using e1];refine kat_yes (kat_cons (aic c u c' u' prog w _ _ ?_));by_cases e2:c=c'
  ·rw[if_pos e2] at h;rw[show (c ==c')=true by simpa using e2];refine kat_yes (kat_cons (wpAny_eqBool_tuple (knd:=intKind prog w) hu ⟨o2,vs,n2,h4,h5,h6,tQ h7⟩ ⟨o2',vs',Z1,g4,g5,g6,tQ g7⟩ ?_));by_cases e3:ps=qs
   ·rw[e3,mZ] at h;rw[decide_eq_true e3];exact kat_yes (kat_nil (by simpa using h))
   ·rw[decide_eq_false e3];refine kat_no ?_;show aec (model prog w) A (oneLt' false _ _) Q _ s;exact kat_one _ _ (RK hu h4 h5 h6 g4 g5 g6 h7 g7 h)
  ·rw[if_neg e2] at h;rw[show (c ==c')=false by simpa using e2];refine kat_no ?_;show aec (model prog w) A (oneLt' false _ _) Q _ s;exact kat_one _ _ (lt_int h)
 ·rw[if_neg e1] at h;rw[show (l ==l')=false by simpa using e1];refine kat_no ?_;show aec (model prog w) A (keyLt' oneType' (.int l t) (.int l' t')) Q _ s;exact kat_lt_int h
end
theorem Ni{h:aeo}:∀(as:List ad5),(∀a∈as,∃l c ps,gW h a l c ps)->∃fs,KatTups h (as.map aew) fs/\fs.length=as.length/\∀f∈fs,∃k t,f=ah5 k t
 |[],_=>⟨[],.nil,rfl,λf hf=>by simp at hf⟩
 | a::as,hx=>by
  obtain⟨l,c,ps,o,o2,n,n2,t,u,p,vs,h1,h2,h3,_⟩:=hx a aen;obtain⟨fs,k1,k2,k3⟩:=Ni as λb hb=>hx b (z2f _ hb);refine⟨.int l t::fs,KatTups.cons h1 h2 h3 rfl k1,by simp[k2],λf hf=>?_⟩;rcases ael.mp hf with z |z
  ·exact⟨l,t,z⟩
  ·exact k3 f z
section
variable{X:Cx}
def CK(K:PySem.W.Frag)(H:Hp)(a:ad5)(ns:List Int):Prop:=∃l c ps p,ns=l::c::ps/\SqT K H a [.int l,.int c,.ref p]/\SqT K H p (ps.map V.int)
theorem Iw{pins:List (ad5×Obj)}{σ:St}{H:Hp}{s:ad8}(I:Inv X pins σ H s)(h:CK X.K H a ns):∃l c ps,ns=l::c::ps/\gW s.heap a l c ps:=by
 obtain⟨l,c,ps,p,rfl,h1,h2⟩:=h;obtain⟨its,r1,⟨o,ho,hc,n,hd⟩,_⟩:=I.tuple h1;obtain⟨its2,r2,⟨o2,ho2,hc2,n2,hd2⟩,_⟩:=I.tuple h2;refine⟨l,c,ps,rfl,?_⟩;cases r1 with
 | cons a1 r1=>
  cases r1 with
  | cons a2 r1=>
   cases r1 with
   | cons a3 r1=>
    cases r1;obtain⟨t,rfl⟩:=a1;obtain⟨u,rfl⟩:=a2;cases a3;exact⟨o,o2,n,n2,t,u,p,its2.toArray,ho,hc,hd,ho2,hc2,hd2,by simpa using Ik r2⟩
theorem Ua(hu:X.A.units+2<afJ):CallR X (.builtin "sorted") (λxs H Q=>∃(a:ad5) (as:List ad5) (ts:List (List Int)),xs=[.ref a]/\SqL X.K H a (as.map V.ref)/\as.length=ts.length/\ts.length<64/\ts.Nodup/\(∀(i:Nat) b t,as[i]?=some b->ts[i]?=some t->CK X.K H b t)/\
  ∀(B:ad5) (bs:List ad5),H B=none->bs.length=ts.length->(∀(i:Nat) b t,bs[i]?=some b->(lg ts)[i]?=some t->b∈as/\∃j:Nat,as[j]?=some b/\ts[j]?=some t)->Q (.ref B) (upd H B (.lst (bs.map V.ref)))):=by
 intro pins s σ H xs us Q I r h;obtain⟨a,as,ts,rfl,hq,hl,h64,hn,ht,q⟩:=h;obtain⟨u,rfl,rx⟩:=vals1 r;cases rx;obtain⟨its,rv,pl,hz⟩:=I.list hq;have hits:its=as.map aew:=by
  have:∀(as:List ad5) (its:List ad7),Vals (as.map V.ref) its->its=as.map aew:=by
   intro as
   induction as with
   |nil=>intro its r;cases r;rfl
   |cons b as ih=>intro its r;cases r with |cons r1 r2=>cases r1;rw[ih _ r2];rfl
  exact this as its rv
 subst hits;have lenV:(as.map aew).length=ts.length:=by rw[z1g,hl]
 refine aiF kind_sorted plain_sorted entry_sorted (args_sorted1 _) ?_;unfold afA.«sorted»;refine ad4 (m:=checkCount "sorted" 1 1 _) (ad9 ?_);refine ad4 (collect_list pl.isList ?_);refine ad4 (aio ?_ (by rw[lenV,aft];omega));have hsz:((s.heap.push (afH "list" #[] 0)).update s.heap.objs.size (afd (· ++(as.map aew).toArray))).objs.size=s.heap.objs.size+1:=by
  rw[Heap.size_update,size_push']
 have hB:(((s.heap.push (afH "list" #[] 0)).update s.heap.objs.size (afd (· ++(as.map aew).toArray))).push (afH "list" (as.map aew).toArray 0)).get? (s.heap.objs.size+1)=some (afH "list" (as.map aew).toArray 0):=by
  rw[<-hsz];exact z1f _ rfl
 show aec _ _ _ _ _ {s with heap:=((s.heap.push (afH "list" #[] 0)).update s.heap.objs.size (afd (· ++(as.map aew).toArray))).push (afH "list" (as.map aew).toArray 0)};rw[hsz];have kp:∀b o,s.heap.get? b=some o->(((s.heap.push (afH "list" #[] 0)).update s.heap.objs.size (afd (· ++(as.map aew).toArray))).push (afH "list" (as.map aew).toArray 0)).get? b=some o:=λb o e=>by
  refine z1a _ ?_;rw[ag2 _ _ _ _ (aeW (z2c e))];exact z1a _ e
 have Nj:∀(i:Nat) b,as[i]?=some b->∃l c ps,ts.getD i []=l::c::ps/\gW s.heap b l c ps:=λi b e=>by
  have hi:i<ts.length:=by rw[<-hl];exact (z1b e).1
  obtain⟨l,c,ps,e1,e2⟩:=Iw I (ht i b ts[i] e (by simp[hi]));exact⟨l,c,ps,by simp[hi,e1],e2⟩
 have bne:∀b o,s.heap.get? b=some o->b≠s.heap.objs.size+1:=λb o e=>aeW (Nat.lt_succ_of_lt (z2c e));refine ad4 (afv (ae5 slot_list_sort ⟨_,hB,rfl⟩ entry_list_sort (aaw (lt:=λi j=>eX (ts.getD i []) (ts.getD j [])) (kk:=tuples' true) hB (by rw[lenV];exact h64) (by rw[lenV];exact aaU hn) ?kind ?ask λqq hq hqs=>⟨_,rfl,?fin⟩) (args_list_sort _)))
 case kind=>
  intro h2 h6 keep Q' hQ';obtain⟨fs,kt,fl,fi⟩:=Ni (h:=h6) as λb hb=>by
   obtain⟨i,hi⟩:=List.mem_iff_getElem?.mp hb;obtain⟨l,c,ps,_,e⟩:=Nj i b hi;exact⟨l,c,ps,e.keeps λd o hd _=>keep d o (bne d o hd) (kp d o hd)⟩
  refine kat_kind (T:= .type "int") kt (by rw[fl,hl];rw[lenV] at h2;omega) (λf hf=>by obtain⟨k,t,rfl⟩:=fi f hf;exact .now) rfl hQ'
 case ask=>
  intro h6 keep i j C hi hj hC;rw[lenV] at hi hj;have hi':i<as.length:=by omega
  have hj':j<as.length:=by omega
  obtain⟨l,c,ps,e1,t1⟩:=Nj i as[i] (by simp[hi']);obtain⟨l',c',ps',e2,t2⟩:=Nj j as[j] (by simp[hj']);unfold kas_ask;rw[show (as.map aew).getD i aez= .ref as[i] by simp[hi'],show (as.map aew).getD j aez= .ref as[j] by simp[hj']];refine aaV ?_ (t1.keeps λd o hd _=>keep d o (bne d o hd) (kp d o hd)) (t2.keeps λd o hd _=>keep d o (bne d o hd) (kp d o hd)) ?_
  ·first |exact ahf (by simp) hu |(show X.A.units+_<afJ;omega)
  ·rw[e1,e2] at hC;exact hC
 case fin=>
  rw[lenV] at hq hqs;refine ad9 ⟨_,rfl,?_⟩;have hout:(qq.toList.map λi=>(as.map aew).getD i aez)=(qq.toList.map λi=>as.getD i 0).map aew:=by
   rw[aev];refine aeY λi hi=>?_;have hi':i<as.length:=by rw[hl];exact z2e (hq.perm.mem_iff.mp hi)
   simp[hi']
  rw[hout];obtain⟨cc,hFB⟩:=sortedHeap_at (vs:=as.map aew) (out:=agl ((qq.toList.map λi=>as.getD i 0).map aew)) hB;have hf:H (s.heap.objs.size+1)=none:=I.hok.fresh (ah4 _);refine⟨.ref (s.heap.objs.size+1),upd H (s.heap.objs.size+1) (.lst ((qq.toList.map λi=>as.getD i 0).map V.ref)),I.laid (t':=s.toks) (λb o e=>FQ (bne b o e) (kp b o e)) (ah4 _) ?_,rfl,q _ _ hf ?_ λi b t eb et=>?_⟩
  ·refine⟨?_,_,cc,Rb _,hFB⟩;rw[z1g,z1g,afR,hq.size,aft];omega
  ·rw[z1g,afR,hq.size]
  ·rw[<-Nh hn hq hqs] at et;rw[z2b] at eb et;cases ei:qq.toList[i]? with
   |none=>rw[ei] at eb;cases eb
   | some k=>
    rw[ei] at eb et;have eb:as.getD k 0=b:=aeg eb;have et:ts.getD k []=t:=aeg et;have hk:k<ts.length:=z2e (hq.perm.mem_iff.mp (aeE ei));have hk':k<as.length:=by omega
    have ea:as[k]?=some b:=by simp[aiX,hk'] at eb |-;exact eb
    exact⟨aeE ea,k,ea,by simp[aiX,hk] at et |-;exact et⟩
end
end Pu
namespace Pu
open PySem PySem.Spec L2
open PyProof.Rows hiding St
def jd:List Int->D
 |l::c::ps=> .tup [.int l,.int c,.tup (ps.map .int)]
 |_=> .non
def lq:D->Option (List Int)
 | .tup [.int l,.int c,.tup ps]=>(intsOf ps).map λns=>l::c::ns
 |_=>none
def pC:List D->Option (List (List Int))
 |[]=>some []
 | d::ds=>match lq d,pC ds with
  |some t,some ts=>some (t::ts)
  |_,_=>none
def nP:List D->R D
 | [.lst ds]=>match pC ds with
  |some ts=>if ts.length<64/\ts.Nodup then .ok (.lst ((lg ts).map jd)) else .bad
  |none=> .bad
 |_=> .bad
theorem Ub(ns:List Int):intsOf (ns.map D.int)=some ns:=by simpa using uL (c:=λi:Int=>i) (l:=ns)
theorem Ad{l c:Int}{ps:List Int}:lq (jd (l::c::ps))=some (l::c::ps):=by simp[jd,lq,Ub]
section
variable{K:PySem.W.Frag}{O:ad5->Prop}{H:Hp}
theorem Et{d:D}{v:V}{t:List Int}(e:lq d=some t)(r:Rep K O H d v):∃b,v= .ref b/\CK K H b t/\Rep K O H (jd t) v:=by
 unfold lq at e;split at e
 ·rename_i l c ps;cases q:intsOf ps with
  |none=>rw[q] at e;cases e
  | some ns=>
   rw[q] at e;cases e;obtain⟨a,xs,rfl,hq,rs⟩:=r.tup;obtain⟨v1,v2,v3,rfl,r1,r2,r3⟩:=rs.three;have r1:=r1.int;have r2:=r2.int;subst r1 r2;obtain⟨p,ys,rfl,hq2,yX⟩:=r3.tup;have e2:=zR q yX;subst e2;refine⟨a,rfl,⟨l,c,ns,p,rfl,hq,hq2⟩,iJ hq (.cons (cB l) (.cons (cB c) (.cons (iJ hq2 tK) .nil)))⟩
 ·cases e
theorem J7:∀{ds:List D} {vs:List V} {ts:List (List Int)},pC ds=some ts->aP K O H ds vs->∃as:List ad5,vs=as.map V.ref/\as.length=ts.length/\∀(i:Nat) b t,as[i]?=some b->ts[i]?=some t->CK K H b t/\Rep K O H (jd t) (.ref b)
 | [],vs,ts,e,r=>by
  cases e;exact⟨[],r.nil_inv,rfl,λi b t h=>by simp at h⟩
 | d ::ds,vs,ts,e,r=>by
  obtain⟨x,r',rfl,h1,h2⟩:=r.cons_inv;unfold pC at e;split at e
  ·rename_i t ts' e1 e2;cases e;obtain⟨b,rfl,h3,h4⟩:=Et e1 h1;obtain⟨as,rfl,h5,h6⟩:=J7 e2 h2;refine⟨b::as,rfl,by simp[h5],λi b' t' eb et=>?_⟩;cases i with
   |zero=>simp at eb et;subst eb et;exact⟨h3,h4⟩
   |succ i=>exact h6 i b' t' (by simpa using eb) (by simpa using et)
  ·cases e
theorem Dk:∀{ds:List D} {vs:List V},ds.length=vs.length->(∀(i:Nat) d v,ds[i]?=some d->vs[i]?=some v->Rep K O H d v)->aP K O H ds vs
 |[],[],_,_=> .nil
 |[],_::_,h,_=>by simp at h
 |_::_,[],h,_=>by simp at h
 |d::ds,v::vs,h,p=> .cons (p 0 d v rfl rfl) (Dk (by simpa using h) λi d' v' e1 e2=>p (i+1) d' v' (by simpa using e1) (by simpa using e2))
end
section
variable{X:Cx}
theorem Nk(hu:X.A.units+2<afJ):CallD X (.builtin "sorted") nP:=by
 refine⟨_,Ua hu,λρ O σ H Q xs ds j r h=>?_⟩;unfold nP at h;split at h
 ·rename_i es;obtain⟨x,rfl,rx⟩:=r.one;obtain⟨a,ys,rfl,hq,hna,rs⟩:=rx.lst;cases e:pC es with
  |none=>rw[e] at h;exact h.elim
  | some ts =>
   rw[e] at h;have h:good X (rD X) O (if ts.length<64/\ts.Nodup then R.ok (.lst ((lg ts).map jd)) else .bad) σ H Q:=h;by_cases hl:ts.length<64/\ts.Nodup
   ·rw[if_pos hl] at h;obtain⟨as,rfl,h1,h2⟩:=J7 e rs;refine⟨a,as,ts,rfl,hq,h1,hl.1,hl.2,λi b t eb et=>(h2 i b t eb et).1,λB bs hB hbl hp=>?_⟩;refine h _ _ (Same.upd hB) (Rep.je hB (j.mJ hB) (Dk ?_ λi d v ed ev=>?_))
    ·rw[z1g,z1g,(jm ts).length_eq,hbl]
    ·rw[z2b] at ed ev;cases q1:(lg ts)[i]? with
     |none=>rw[q1] at ed;cases ed
     | some t=>
      cases q2:bs[i]? with
      |none=>rw[q2] at ev;cases ev
      | some b=>
       rw[q1] at ed;rw[q2] at ev;cases ed;cases ev;obtain⟨_,k,z1,z2⟩:=hp i b t q2 q1;exact (h2 k b t z1 z2).2
   ·rw[if_neg hl] at h;exact h.elim
 ·exact h.elim
end
section
variable{X:Cx}{e:aee}{f:aA->R D}{pos:Pos}
theorem CN(i k m:Nat){x y z:Str}{px py pz pt:Pos}{kt}(hc:X.calm=true)(hN:X.N.Nodup)(he:DE X e f)(hi:X.N[i]?=some x:=by rfl)(hk:X.N[k]?=some y:=by rfl)(hm:X.N[m]?=some z:=by rfl)
  (hx:Loc X.env.scope x:=by first |exact aeM rfl |exact aeB rfl)(hy:Loc X.env.scope y:=by first |exact aeM rfl |exact aeB rfl)(hz:Loc X.env.scope z:=by first |exact aeM rfl |exact aeB rfl)
  (hfx:X.fn x=true\/X.env.scope.names.lookup x=some .local:=by first |exact .inl rfl |exact .inr rfl)(Mf:X.fn y=true\/X.env.scope.names.lookup y=some .local:=by first |exact .inl rfl |exact .inr rfl)(hfz:X.fn z=true\/X.env.scope.names.lookup z=some .local:=by first |exact .inl rfl |exact .inr rfl)
  (hs:afU [.Tuple [.Name x px,.Name y py,.Name z pz] kt pt] e pos.line X.env=pure false:=by rfl)(hw:afV [.Tuple [.Name x px,.Name y py,.Name z pz] kt pt] e X.env=pure none:=by rfl):
  DS X (.Assign [.Tuple [.Name x px,.Name y py,.Name z pz] kt pt] e pos) (bB f (cR (cT 3 (aW (aH i) (aW (aH k) (aW (aH m) nilG)))))):=by
 refine PS.imp (ps_asg he (pg_tup hc (pgs_cons (pg_name hN hi hx hfx) (pgs_cons (pg_name hN hk hy Mf) (pgs_cons (pg_name hN hm hz hfz) pgs_nil)))) hs hw) λσ H E h=>?_;obtain⟨H0,O0,O,ρ,j,h⟩:=h;refine⟨ρ,O,j.inn,?_⟩;unfold bB fZ at h;cases e1:f ρ with
 |bad=>rw[e1] at h;exact h
 |err c=>rw[e1] at h;exact h σ H O j
 | ok d=>
  rw[e1] at h;intro v H' s r;cases d with
  | tup ds=>
   match ds,h,r with
   |[],h,_=>exact h.elim
   |[_],h,_=>exact h.elim
   |[_,_],h,_=>exact h.elim
   |_::_::_::_::_,h,_=>exact (show False by simpa[cR,cT,oK] using h).elim
   | [d1,d2,d3],h,r=>
    obtain⟨a,xs,rfl,hq,rs⟩:=r.tup;obtain⟨v1,v2,v3,rfl,r1,r2,r3⟩:=rs.three;refine⟨a,[v1,v2,v3],rfl,hq,rfl,v1,[v2,v3],rfl,v2,[v3],rfl,v3,[],rfl,rfl,?_⟩;exact h _ H' O ((((j.grow s).set (z1b hi).1 r1).set (z1b hk).1 r2).set (z1b hm).1 r3) (Same.dR s)
  |_=>exact h.elim
end
section
variable{X:Cx}{e:aee}{f:aA->R D}
def adO:D->R Bool
 | .lst ds=> .ok (!ds.isEmpty)
 | .tup ds=> .ok (!ds.isEmpty)
 |_=> .bad
def Nm(f:aA->R D):aA->R Bool:=λρ=>(f ρ).bind adO
theorem aP.empty{K:PySem.W.Frag}{O:ad5->Prop}{H:Hp}{ds:List D}{vs:List V}(r:aP K O H ds vs):ds.isEmpty=vs.isEmpty:=by
 have:=r.length;cases ds <;> cases vs <;> simp_all
theorem V5(h:DE X e f)(he:∀whole,isTrue e X.env whole=(do let v <-whole;ahC e.pos;holding [v] (truthy v)):=by intro _;rfl):DT X e (Nm f):=by
 refine PT.imp (pt_truth h he) λσ H Q h=>?_;obtain⟨ρ,O,j,h⟩:=h;refine go j h λd v H1 e1 s1 r1 j1 h1=>?_;cases d with
 | lst ds=>
  obtain⟨a,xs,rfl,hq,hn,rs⟩:=r1.lst;exact⟨!xs.isEmpty,.inl ⟨xs,hq,rfl⟩,by rw[<-rs.empty];exact fin h1 rfl⟩
 | tup ds=>
  obtain⟨a,xs,rfl,hq,rs⟩:=r1.tup;exact⟨!xs.isEmpty,.inr (.inl ⟨xs,hq,rfl⟩),by rw[<-rs.empty];exact fin h1 rfl⟩
 |_=>exact h1.elim
end
theorem Np{A:aer}{k:Nat}(hr:Room k A):A.units+2<afJ:=by have:=hr.un;omega
def FnS(P:aek)(w:aep)(K:PySem.W.Frag)(mg:Str->Option ad7)(base:aeo)(k:Nat)(x:Str)(kG n q:Nat)(F:ad5->(List D->R D)->List D->R D):Prop:=
 ∃f fd ps,FnOk P w K mg base CX0 k f fd ps (spS P w mg base kG K n q F)/\mg x=some (.ref f)/\PySem.W.keepIn K (.ref f)=true/\Binds K fd ps []
theorem Dl:∀{xs:List V} {us:List ad7},xs.length=us.length->(∀(i:Nat) x u,xs[i]?=some x->us[i]?=some u->RelV x u)->Vals xs us
 |[],[],_,_=> .nil
 |[],_::_,h,_=>by simp at h
 |_::_,[],h,_=>by simp at h
 |x::xs,u::us,h,p=> .cons (p 0 x u rfl rfl) (Dl (by simpa using h) λi d' v' e1 e2=>p (i+1) d' v' (by simpa using e1) (by simpa using e2))
theorem J8{lo:Int}{acc:Array ad7}{n:Nat}(h:ItemsOf (λi v=>∃t,v= .int (lo+i*1) t) acc n):Vals ((ad6 n).map λ(i:Nat)=>V.int (lo+(i:Int))) acc.toList:=by
 refine Dl (by simp[h.1]) λi x u e1 e2=>?_;rw[ahE] at e2;obtain⟨t,rfl⟩:=h.2 i u e2;rw[z2b] at e1;cases q:(ad6 n)[i]? with
 |none=>rw[q] at e1;cases e1
 | some k=>
  rw[q] at e1;have hk:i<n/\i=k:=by simpa[aei] using (z1b q)
  obtain⟨_,rfl⟩:=hk;cases e1;exact⟨t,by rw[Int.mul_one]⟩
section
variable{X:Cx}{a b:aee}{p pos p2 pos2:Pos}{fa:aA->R (List D)}{ta:TA}
def adk(ta:TA):TE:=λσ H Q=>ta σ H λvs H1=>∃i j:Int,vs=[.int i,.int j]/\∀q,H1 q=none->Q (.ref q) (upd H1 q (.rng i j))
theorem aaW(hg:Gl X "range")(hm:X.mg "range" =none)(ha:PA X [a,b] ta)(hs:aea [a,b] X.env=[(false,eval a X.env),(false,eval b X.env)]:=by rfl)(hs2:aea [b] X.env=[(false,eval b X.env)]:=by rfl):PE X (.Call (.Name "range" p) [a,b] [] pos) (adk ta):=by
 intro pins s σ H Q I h;refine Call_ (ld_blt I hg hm boot_range (ae1 (thn (ha pos pins s σ H _ I h) λus s1 ⟨vs,H1,I1,r1,q1⟩=>?_) (by rw[hs,hs2]) (by rw[hs2];rfl)));obtain⟨i,j,e,q⟩:=q1;subst e;cases r1 with
 | cons r rr=>
  cases rr with
  | cons r' rr=>
   cases rr;obtain⟨t,rfl⟩:=r;obtain⟨t',rfl⟩:=r';refine call_range_2 ?_;exact⟨.ref s1.heap.objs.size,upd H1 s1.heap.objs.size (.rng i j),I1.laid (λb o e=>z1a _ e) (z0g _) ⟨_,_,_,z1f _ rfl⟩,rfl,q _ (I1.hok.fresh (z0g _))⟩
theorem J9(hc:X.calm=true):CallR X (.type "list") (λxs H Q=>∃(b:ad5) (i j:Int),xs=[.ref b]/\H b=some (.rng i j)/\-1000<=i/\i<=1000/\-1000<=j/\j<=1000/\∀B,H B=none->Q (.ref B) (upd H B (.lst ((ad6 (j - i).toNat).map λ(k:Nat)=>V.int (i+(k:Int)))))):=by
 intro pins s σ H xs us Q I r h;obtain⟨b,i,j,rfl,hb,h0,h1,h2,h3,q⟩:=h;obtain⟨u,rfl,rx⟩:=vals1 r;cases rx;obtain⟨t,u,v,hr⟩:=(show ObjOk X.prog X.w H s.heap b (.rng i j) from I.hok b _ hb);have hn:afO i j 1=(((j - i).toNat:Nat):Int):=by rw[ahs];split <;> omega
 refine call_list_range (I.ok.hd hc) hr (small_one (by omega) (by omega) (by omega) (by omega)) hn (by omega) λh' tk acc c' hk he hacc=>?_;have hf:H s.heap.objs.size=none:=I.hok.fresh (z0g _);refine⟨.ref s.heap.objs.size,_,I.laid (t':=tk) (o:= .lst ((ad6 (j - i).toNat).map λ(k:Nat)=>V.int (i+(k:Int)))) hk (z0g _) ⟨?_,acc.toList,c',J8 hacc,by simpa using he⟩,rfl,q _ hf⟩;rw[z1g,z2d];exact z0b (by omega) (z0e eU)
theorem xW{K:PySem.W.Frag}{O:ad5->Prop}{H:Hp}{lo:Int}{n:Nat}:aP K O H (upto lo n) ((ad6 n).map λ(i:Nat)=>V.int (lo+(i:Int))):=by
 unfold upto
 generalize ad6 n=l
 induction l with
 |nil=>exact .nil
 |cons x l ih=>exact .cons (cB _) ih
def rN:List D->R D
 |[.int j]=>if 0<=j/\j<=1000 then .ok (.lst (upto 0 j.toNat)) else .bad
 |_=> .bad
def Uc:List D->R D
 |[.int i,.int j]=>if -1000<=i/\i<=1000/\-1000<=j/\j<=1000 then .ok (.lst (upto i (j - i).toNat)) else .bad
 |_=> .bad
theorem Nq(hc:X.calm=true)(hg:Gl X "list")(hm:X.mg "list" =none)(hg2:Gl X "range")(hm2:X.mg "range" =none)(ha:DA X [a] fa)(hs2:aea [a] X.env=[(false,eval a X.env)]:=by rfl)
  (he:aea [.Call (.Name "range" p) [a] [] pos] X.env=(false,eval (.Call (.Name "range" p) [a] [] pos) X.env)::aea [] X.env:=by rfl)(hpl:(aeR pos2 (aea [] X.env)).any (·.1)=false:=by rfl):
  DE X (.Call (.Name "list" p2) [.Call (.Name "range" p) [a] [] pos] [] pos2) (aD rN fa):=by
 refine PE.imp (pe_callTy (J9 hc) hg hm boot_list (pa_cons (Gg hg2 hm2 ha hs2) pa_nil he) (by decide) (by decide) he hpl) λσ H Q q=>?_;obtain⟨ρ,O,j,q⟩:=q;refine go j q λds vs H1 e1 s1 r1 j1 h1=>?_;unfold rN at h1;split at h1
 ·obtain⟨x,rfl,rx⟩:=r1.one;rename_i i;by_cases hi:0<=i/\i<=1000
  ·rw[if_pos hi] at h1;refine⟨i,by rw[rx.int],hi.1,hi.2,λq hq=>⟨q,0,i,rfl,upd_same,by omega,by omega,by omega,hi.2,λB hB=>?_⟩⟩;have s2:Same H1 (upd H1 q (.rng 0 i)):=Same.upd hq;rw[Int.sub_zero];exact h1 _ _ (s2.trans (Same.upd hB)) (Rep.je hB ((j1.same s2).mJ hB) xW)
  ·rw[if_neg hi] at h1;exact h1.elim
 ·exact h1.elim
theorem Yu(hc:X.calm=true)(hg:Gl X "list")(hm:X.mg "list" =none)(hg2:Gl X "range")(hm2:X.mg "range" =none)(ha:DA X [a,b] fa)(hs2:aea [a,b] X.env=[(false,eval a X.env),(false,eval b X.env)]:=by rfl)(hs3:aea [b] X.env=[(false,eval b X.env)]:=by rfl)
  (he:aea [.Call (.Name "range" p) [a,b] [] pos] X.env=(false,eval (.Call (.Name "range" p) [a,b] [] pos) X.env)::aea [] X.env:=by rfl)(hpl:(aeR pos2 (aea [] X.env)).any (·.1)=false:=by rfl):
  DE X (.Call (.Name "list" p2) [.Call (.Name "range" p) [a,b] [] pos] [] pos2) (aD Uc fa):=by
 refine PE.imp (pe_callTy (J9 hc) hg hm boot_list (pa_cons (aaW hg2 hm2 ha hs2 hs3) pa_nil he) (by decide) (by decide) he hpl) λσ H Q q=>?_;obtain⟨ρ,O,j,q⟩:=q;refine go j q λds vs H1 e1 s1 r1 j1 h1=>?_;unfold Uc at h1;split at h1
 ·rename_i i k;obtain⟨x,y,rfl,rx,ry⟩:=r1.two;by_cases hi: -1000<=i/\i<=1000/\-1000<=k/\k<=1000
  ·rw[if_pos hi] at h1;refine⟨i,k,by rw[rx.int,ry.int],λq hq=>⟨q,i,k,rfl,upd_same,hi.1,hi.2.1,hi.2.2.1,hi.2.2.2,λB hB=>?_⟩⟩;have s2:Same H1 (upd H1 q (.rng i k)):=Same.upd hq;exact h1 _ _ (s2.trans (Same.upd hB)) (Rep.je hB ((j1.same s2).mJ hB) xW)
  ·rw[if_neg hi] at h1;exact h1.elim
 ·exact h1.elim
end
end Pu
namespace Pu
open PySem PySem.Spec PySem.W L2
open PyProof.Rows hiding St
variable{l' c':Int}{ps qs:List Int}{E:ad7->ad8->Prop}
section
variable{prog:aek}{w:aep}{A:aer}{s:ad8}
def Z4(prog:aek)(w:aep)(A:aer)(s:ad8)(u v:ad7)(b:Bool):Prop:=∀(Q:Bool->ad8->Prop) (E:ad7->ad8->Prop),Q b s->aec (model prog w) A (eqBool u v) Q E s
def LtB(prog:aek)(w:aep)(A:aer)(s:ad8)(u v:ad7)(b:Bool):Prop:=∀(Q:ad7->ad8->Prop) (E:ad7->ad8->Prop),Q (.bool b) s->aec (model prog w) A (aex .Lt u v) Q E s
inductive Lx (prog:aek) (w:aep) (A:aer) (s:ad8) (r:Bool):List ad7->List ad7->Prop
 |nil:r=false->Lx prog w A s r [] []
 |yes {u v xs ys}:Z4 prog w A s u v true->Lx prog w A s r xs ys->Lx prog w A s r (u::xs) (v::ys)
 |no {u v xs ys}:Z4 prog w A s u v false->LtB prog w A s u v r->Lx prog w A s r (u::xs) (v::ys)
theorem Qp{a b:ad5}{oa ob:Obj}{xs ys:Array ad7}{na nb:Nat}{r:Bool}{P:PySem.Fin->ad8->Prop}(hoa:s.heap.get? a=some oa)(hda:oa.data= .seq xs na)(hob:s.heap.get? b=some ob)(hcb:ob.cls= .type "tuple")(hdb:ob.data= .seq ys nb)
  (hl:Lx prog w A s r xs.toList ys.toList)(hsz:xs.size=ys.size)(h:P (.done (.ret (.bool r))) s):
  aec (model prog w) A (afA.«tuple.__lt__» ⟨[.ref a,.ref b],[]⟩) P E s:=by
 have hTb:s.TypeIs (.ref b) "tuple" :=⟨ob,hob,hcb⟩;show aec _ _ (isInstance (.ref b) (.type "tuple") >>=_) _ _ s;refine ad4 (ahy hTb isSubtype_tuple_tuple ?_);simp only[ag0,afg,if_false];refine ad4 (ahd hoa hda ?_);refine ad4 (ahd hob hdb ?_);refine ad4 ?_;refine aiQ _
  (λrest q s'=>q.1=none/\s'=s/\∃xs' ys',rest=List.zip xs' ys'/\Lx prog w A s r xs' ys')
  _ ?_ ?_ _ _ ⟨rfl,rfl,xs.toList,ys.toList,rfl,hl⟩
 ·rintro⟨u,v⟩ rest q s' ⟨hr,rfl,xs',ys',hz,hx'⟩
  cases hx' with
  |nil _=>simp at hz
  | yes he hx''=>
   simp only[ahe,aiY,ai6] at hz;obtain⟨⟨rfl,rfl⟩,rfl⟩:=hz;refine ad4 (he _ _ ?_);simp only[ag0,afg,if_false];exact ad9 ⟨rfl,rfl,_,_,rfl,hx''⟩
  | no he hlt=>
   simp only[ahe,aiY,ai6] at hz;obtain⟨⟨rfl,rfl⟩,rfl⟩:=hz;refine ad4 (he _ _ ?_);simp only[Bool.not_false,if_true];refine ad4 (ags ?_);refine ad4 (m:=richCompare .Lt u v) (show aec _ _ (aex .Lt u v) _ _ _ from hlt _ _ ?_)
   first
    |exact ad9 (ad9 h)
    |exact ad4 (ad9 (ad9 (ad9 h)))
    |exact ad4 (ad9 (ad9 h))
 ·rintro⟨r1,r2⟩ s' ⟨hr,rfl,xs',ys',hz,hx'⟩
  simp only at hr;subst hr;refine ad9 ?_;have hfin:decide (xs.size<ys.size)=r:=by
   cases hx' with
   |nil e=>rw[e];exact decide_eq_false (by omega)
   |yes _ _=>simp at hz
   |no _ _=>simp at hz
  show P (.done (.ret (.bool (decide (xs.size<ys.size))))) s';rw[hfin];exact h
theorem CP{i j:Int}{t u:Tok}{b:Bool}(e:(i ==j)=b):Z4 prog w A s (.int i t) (.int j u) b:=λQ E h=>aiG (by rw[e];exact h)
theorem RL{i j:Int}{t u:Tok}:LtB prog w A s (.int i t) (.int j u) (decide (i<j)):=λQ E h=>lt_int h
theorem aaX{x y:ad5}{l c:Int}(hu:A.units<afJ)(hx:gW s.heap x l c ps)(hy:gW s.heap y l' c' qs):∃(oa ob:Obj) (xs ys:Array ad7) (na nb:Nat),s.heap.get? x=some oa/\oa.cls= .type "tuple"/\oa.data= .seq xs na/\s.heap.get? y=some ob/\ob.cls= .type "tuple"/\ob.data= .seq ys nb/\xs.size=ys.size/\Lx prog w A s (eX (l::c::ps) (l'::c'::qs)) xs.toList ys.toList:=by
 obtain⟨o,o2,n,n2,t,u,p,vs,h1,h2,h3,h4,h5,h6,h7⟩:=hx;obtain⟨o',o2',n',Z1,t',u',p',vs',g1,g2,g3,g4,g5,g6,g7⟩:=hy;refine⟨o,o',_,_,n,n',h1,h2,h3,g1,g2,g3,rfl,?_⟩;show Lx prog w A s _ [.int l t,.int c u,.ref p] [.int l' t',.int c' u',.ref p'];rw[eX,eX];by_cases e1:l=l'
 ·rw[if_pos e1];refine .yes (CP (by simpa using e1)) ?_;by_cases e2:c=c'
  ·rw[if_pos e2];refine .yes (CP (by simpa using e2)) ?_;have eq:Z4 prog w A s (.ref p) (.ref p') (decide (ps=qs)):=λQ E h=>wpAny_eqBool_tuple (knd:=intKind prog w) hu ⟨o2,vs,n2,h4,h5,h6,tQ h7⟩ ⟨o2',vs',Z1,g4,g5,g6,tQ g7⟩ h;by_cases e3:ps=qs
   ·rw[decide_eq_true e3] at eq;exact .yes eq (.nil (by rw[e3];exact mZ _))
   ·rw[decide_eq_false e3] at eq;exact .no eq λQ E h=>RK hu h4 h5 h6 g4 g5 g6 h7 g7 h
  ·rw[if_neg e2];exact .no (CP (by simpa using e2)) RL
 ·rw[if_neg e1];exact .no (CP (by simpa using e1)) RL
theorem Nr{a b:ad5}{l c:Int}{P:PySem.Fin->ad8->Prop}(hu:A.units<afJ)(hx:gW s.heap a l c ps)(hy:gW s.heap b l' c' qs)(h:P (.done (.ret (.bool (eX (l::c::ps) (l'::c'::qs))))) s):
  aec (model prog w) A (afA.«tuple.__lt__» ⟨[.ref a,.ref b],[]⟩) P E s:=by
 obtain⟨oa,ob,xs,ys,na,nb,h1,h2,h3,h4,h5,h6,h7,h8⟩:=aaX (prog:=prog) (w:=w) hu hx hy;exact Qp h1 h3 h4 h5 h6 h8 h7 h
theorem Yv{a b:ad5}{l c:Int}{Q:ad7->ad8->Prop}(hu:A.units+2<afJ)(hx:gW s.heap a l c ps)(hy:gW s.heap b l' c' qs)(h:Q (.bool (eX (l::c::ps) (l'::c'::qs))) s):aec (model prog w) A (aex .Lt (.ref a) (.ref b)) Q E s:=by
 obtain⟨oa,o2,n,n2,t,u,p,vs,h1,h2,_⟩:=id hx;obtain⟨ob,o2',n',Z1,t',u',p',vs',g1,g2,_⟩:=id hy;show aec _ _ (richCompare .Lt (.ref a) (.ref b)) _ _ _;refine wpAny_richCompare_same_room (op:= .Lt) ⟨oa,h1,h2⟩ ⟨ob,g1,g2⟩ PySem.F.slot_tuple_lt
   (ae5 PySem.F.slot_tuple_lt ⟨oa,h1,h2⟩ PySem.F.entry_tuple_lt (Nr ?_ hx hy ⟨_,rfl,(λe=>nomatch e),h⟩) (PySem.F.args_tuple_lt_2 _ _)) (by omega)
 first |exact ahf (by simp) hu |(show A.units+_<afJ;omega)
end
section
variable{X:Cx}
theorem ab6(hu:X.A.units+2<afJ):OpR X (aex .Lt) (λx y H Q=>∃a b,∃ns ms:List Int,x= .ref a/\y= .ref b/\CK X.K H a ns/\CK X.K H b ms/\Q (.bl (eX ns ms)) H):=by
 intro pins s σ H x y v u Q I rx ry h;obtain⟨a,b,ns,ms,rfl,rfl,ha,hb,q⟩:=h;cases rx;cases ry;obtain⟨l,c,ps,rfl,h1⟩:=Iw I ha;obtain⟨l',c',qs,rfl,h2⟩:=Iw I hb;exact Yv hu h1 h2 ⟨.bl _,H,I,rfl,q⟩
def Nt(x y:D):R D:=match lq x,lq y with
 |some a,some b=> .ok (.bl (eX a b))
 |_,_=> .bad
theorem ab7(hu:X.A.units+2<afJ):iM X (aex .Lt) Nt:=by
 refine⟨_,ab6 hu,λρ O σ H Q x y dx dy j0 rx ry h=>?_⟩;unfold Nt at h;cases e1:lq dx with
 |none=>rw[e1] at h;exact h.elim
 | some ns=>
  cases e2:lq dy with
  |none=>rw[e1,e2] at h;exact h.elim
  | some ms=>
   rw[e1,e2] at h;obtain⟨a,rfl,ha,_⟩:=Et e1 rx;obtain⟨b,rfl,hb,_⟩:=Et e2 ry;exact⟨a,b,ns,ms,rfl,rfl,ha,hb,fin h (fL _)⟩
end
end Pu
namespace Pu
open PySem PySem.Spec L2
open PyProof.Rows hiding St
section
variable{X:Cx}{pins:List (ad5×Obj)}{σ:St}{H:Hp}{s:ad8}
end
section
variable{X:Cx}{qual:Str}{params:agv}{body:aee}{scope:afB}{xS:Str}{cc P fS:ad5}{Nb:aeU}{J2:List Str}{kS kG q:Nat}{FS:ad5->(List D->R D)->List D->R D}{GG:List D->R D}{p p4 pos2 ab5:Pos}{e1 e2 e3:aee}{f1 f2 f3:aA->R D}
end
end Pu
namespace Pu
open PySem PySem.Spec PySem.W L2
open PyProof.Rows hiding St
section
variable{prog:aek}{w:aep}{A:aer}{R:Result->ad8->Prop}{I l S:ad5}{its:Array ad7}{h0:aeo}{bt:Nat->Nat->Bool}
end
section
variable{prog:aek}{w:aep}{A:aer}{E:ad7->ad8->Prop}{s:ad8}{l:ad5}{its:Array ad7}{bt:Nat->Nat->Bool}{Q:ad7->ad8->Prop}
end
section
variable{X:Cx}
end
end Pu
namespace Pu
open PySem PySem.Spec PySem.W L2
open PyProof.Rows hiding St
open PySem.SeqAt
section
variable{X:Cx}{e1 e2:aee}{f g:aA->R D}
end
end Pu
namespace Pu
open PySem PySem.Spec L2
open PyProof.Rows hiding St
section
variable{X:Cx}
end
section
variable{X:Cx}{e:aee}{f:aA->R D}{pos:Pos}
end
end Pu
namespace Pu
open PySem PySem.Spec PySem.W L2
open PyProof.Rows hiding St
section
variable{prog:aek}{w:aep}{A:aer}{E:ad7->ad8->Prop}{s:ad8}
end
section
variable{X:Cx}
end
end Pu
namespace Pu
open PySem PySem.Spec L2
open PyProof.Rows hiding St
def Ud(ts:List (ad5×Str))(K:PySem.W.Frag)(n:Nat)(F:List D->R D):Sp:=λvs H Q E=>Tb ts H/\spX K n F vs H Q E
section
variable{P:aek}{w:aep}{K:PySem.W.Frag}{mg:Str->Option ad7}{base:aeo}
theorem adP{ts:List (ad5×Str)}{x qual:Str}{st:aeu}{f:ad5}{fd:aeU}{N ps:List Str}{k n m:Nat}{g:aA->So}(Fn:Fun K x qual st f fd)(S:FnScope N ps (defScope st))(hn:ps.length=n)(hm:N.length=n+m)
  (hb:∀(cdv:ad7) (A:aer) (outer:List PySem.Env) (s:ad8) (H:Hp) (E:XK),Room k (A.deeper (afP qual (defScope st) s.heap.objs.size f cdv))->Tb ts H->kI (cxOf (Ru P w) P w K mg base N qual (defScope st) f cdv A outer s H E) (defBody st) g):
  FnOk P w K mg base (Ru P w) (k+1) f fd ps (Ud ts K n (cu m g)):=by
 obtain⟨oc,od,kV,doc,pm,an,cdv,ct,osl,rfl,lk,hcd⟩:=Fn.ex;refine fn_of lk hcd S (λvs H Q E h=>?_) λA outer s H vs Q E hr h=>?_
 ·obtain⟨_,O,ds,r,hl,_⟩:=h;rw[hn,<-hl,r.length]
 ·obtain ⟨hT,O,ds,r,hl,al,h⟩:=h;refine⟨_,hb cdv A outer s H E hr hT,H,O,O,ds.map (λd=>some (.val d))++aeb m none,?_,?_⟩
  ·have hst:L2.start N vs=vs.map some++aeb m none:=by
    unfold L2.start;rw[show N.length - vs.length=m by rw[<-r.length];omega]
   refine⟨Same.refl _,.refl,λ_ z=>z,⟨⟨λi e q=>?_,λi k e e' v _ hi _ oi=>?_,λi k rows a rs e v _ hi=>by obtain⟨_,_,_,h3⟩:=jQ r m i _ hi;cases h3⟩,al,?_,?_⟩,λi e a q ho=>?_,λi rows a rs q=>by obtain⟨_,_,_,h3⟩:=jQ r m i _ q;cases h3⟩
   ·obtain⟨v,h1,h2,_⟩:=jQ r m i e q;exact⟨v,by rw[hst];exact h1,h2⟩
   ·obtain⟨_,_,_,h3⟩:=jQ r m i e hi;rw[h3] at oi;cases oi
   ·show (L2.start N vs).length=N.length;rw[hst,z1d,z1g,aeG,<-r.length];omega
   ·show (ds.map (λd=>some (Ent.val d))++aeb m none).length=N.length;rw[z1d,z1g,aeG];omega
   ·obtain⟨_,_,_,h3⟩:=jQ r m i e q;rw[h3] at ho;cases ho
  ·unfold cu at h;cases e2:g (ds.map (λd=>some (.val d))++aeb m none) with
   |rt d=>rw[e2] at h;exact λv H' s' r'=>h v H' s' r'
   |nx ρ'=>rw[e2] at h;exact λσ' H' O' j' _=>h .non H' j'.same mW
   |bk _=>rw[e2] at h;exact h.elim
   |ct _=>rw[e2] at h;exact h.elim
   |bad=>rw[e2] at h;exact h.elim
   | ex c ρ'=>
    rw[e2] at h;intro σ' H' O' j' H1 pins s1 a C T s2 H2 sm I hC rs;have J:Inv (cxOf (Ru P w) P w K mg base N qual (defScope st) f cdv A outer s H E) pins σ' H2 s2:=I.call' rs.os rs.un rs.hok rs.bare λb z=>absurd z (by simp);have mC:yW P w (frs outer) H s a C T s2 H2:=yW.from I rfl rs (j'.same.trans sm);refine VP (b0:=base) (L:=s.heap.objs.size) (outer:=outer) J.ok.frames J.stack rfl rs.exc λh' t' ld=>?_;refine⟨a,C,some t',H2,rfl,h C H2 hC,?_⟩;have ne:∀b o,s.heap.get? b=some o->b≠a/\T≠some b:=λb o q=>⟨λz=>(by rw[z,mC.na] at q;cases q),λz=>(by rw[(mC.nt b z).1] at q;cases q)⟩;have nL:∀b o,s.heap.get? b=some o->b≠s.heap.objs.size:=λb o q=>aeW (z2c q);have fr:∀b,b∈frs (afP qual (defScope st) s.heap.objs.size f cdv::outer)->b=s.heap.objs.size\/b∈frs outer:=λb hb=>ael.mp hb;have fr':∀b,b∈frs outer->b∈frs (afP qual (defScope st) s.heap.objs.size f cdv::outer):=λb hb=>z2f _ hb;have hfree:∀b,b∈frs (afP qual (defScope st) s.heap.objs.size f cdv::outer)->H2 b=none:=J.stkFree;refine⟨mC.same,⟨λb o q n hb hx=>?_,λb o q n hb hx=>?_,mC.un.free,λb o q hx=>?_,mC.un.tups,mC.un.frzs,mC.un.tbls⟩,ld.hok mC.hok mC.ha (λt z=>(mC.nt t z).2) hfree,mC.os,mC.bare,ld.exc,mC.na,mC.ha,λt z=>?_⟩
    ·exact ld.keep b o (mC.un.keep b o q n hb hx) (ne b o q).1 (ne b o q).2 λz=>(fr b z).elim (nL b o q) hb
    ·obtain⟨sl,e⟩:=mC.un.slot b o q n hb hx;obtain⟨sl',e'⟩:=ld.slot b _ e (fr' b hb);exact⟨sl',e'⟩
    ·obtain⟨o',e⟩:=mC.un.there b o q hx;by_cases hb:b∈frs (afP qual (defScope st) s.heap.objs.size f cdv::outer)
     ·obtain⟨sl',e'⟩:=ld.slot b _ e hb;exact⟨_,e'⟩
     ·exact⟨o',ld.keep b o' e (ne b o q).1 (ne b o q).2 hb⟩
    ·cases z;rcases ld.old with z |z
     ·exact mC.nt t' z
     ·refine⟨?_,xT mC.hok z⟩;cases q:s.heap.get? t' with
      |none=>rfl
      | some o=>
       obtain⟨o',e⟩:=mC.un.there t' o q (by simp);rw[z] at e;cases e
end
def ab8(P:aek)(w:aep)(K:PySem.W.Frag)(mg:Str->Option ad7)(base:aeo)(k:Nat)(x:Str)(n:Nat)(F:List D->R D)(fd:aeU)(ps:List Str)(ts:List (ad5×Str)):Prop:=
 ∃f,FnOk P w K mg base (Ru P w) k f fd ps (Ud ts K n F)/\mg x=some (.ref f)/\PySem.W.keepIn K (.ref f)=true
def gY(F:List D->R D)(n m:Nat)(sel:List (Sum Nat D))(fa fk:aA->R (List D)):aA->R D:=λρ=>(fa ρ).bind λds=>(fk ρ).bind λzs=>if zs.length=m then okN F n (ds++pickK .non sel zs) else .bad
section
variable{X:Cx}{k m n:Nat}{f:ad5}{fd:aeU}{ps ks:List Str}{F:List D->R D}{x:Str}{p pos:Pos}{e:aee}{es:List aee}{kws:List agc}{fa fk:aA->R (List D)}{ts:List (ad5×Str)}
theorem ab9(ok:FnOk X.prog X.w X.K X.mg X.base (Ru X.prog X.w) k f fd ps (Ud ts X.K n F))(hr:Room m X.A)(hkm:k<=m){pins:List (ad5×Obj)}{σ:St}{H:Hp}{s:ad8}{O:ad5->Prop}{ρ:aA}{ds:List D}{vs:List V}{us:List ad7}{pa:List ad7}{kw:List (Str×ad7)}{Q:VK}
  (I:Inv X pins σ H s)(hT:Tb ts H)(r1:aP X.K O H ds vs)(r:Vals vs us)(j:In X O H ρ σ)(hb:us.length=ps.length->ahh s fd ⟨pa,kw⟩ (ps.zip us))(h:good X (rD X) O (okN F n ds) σ H Q):aec (model X.prog X.w) X.A (PySem.call (.ref f) pa kw) (EP X pins σ Q) X.xe s:=by
 unfold okN at h;by_cases hl:ds.length=n
 ·rw[if_pos hl] at h;have sp:Ud ts X.K n F vs H Q λu _ _=>∃c C,F ds= .err c/\u= .ref C/\PySem.W.nsIn X.K aed c=some (some (.ref C)):=by
   refine⟨hT,O,ds,r1,hl,j.al,?_⟩;cases q:F ds with
   |ok d=>rw[q] at h;exact h
   |bad=>rw[q] at h;exact h
   |err c=>exact λC _ hC=>⟨c,C,rfl,rfl,hC⟩
  have hll:us.length=ps.length:=by rw[<-r.length];exact ok.len _ _ _ _ sp
  refine ahj (agx ((ok.mono hkm).run X.A X.stack s H ⟨pa,kw⟩ us vs Q _ hr I.env0 (hb hll) r sp) λr s' hq=>?_);cases r with
  | error ev=>
   obtain⟨a,C,T,H',rfl,hE,rs⟩:=hq;obtain⟨c,C',q,z,hC⟩:=hE;cases z;rw[q] at h;exact h H pins s a C T s' H' (Same.refl _) I hC rs
  | ok fl=>
   cases fl with
   |ret u=>exact I.after hq
   |next=>exact aeJ hq
   |brk=>exact aeJ hq
   |cont=>exact aeJ hq
 ·rw[if_neg hl] at h;exact h.elim
theorem aaY{sa sb sc}(S:Sel sa sb sc)(G:ab8 X.prog X.w X.K X.mg X.base k x n F fd ps ts)(hT:Tb ts X.H₀)(hr:Room m X.A)(hkm:k<=m)(hb:KB X.K fd ps [] sa)
  (ha:DA X (e::es) fa)(hg:Gl X x:=by rfl)(hdb:(x ==("__debug__" :Str))=false:=by decide)(he:aea (e::es) X.env=(false,eval e X.env)::aea es X.env:=by rfl)(hpl:(aeR pos (aea es X.env)).any (·.1)=false:=by rfl):
  DE X (.Call (.Name x p) (e::es) [] pos) (gY F n 0 sc fa (λ_=> .ok [])):=by
 obtain⟨f,ok,hm,hk⟩:=G;intro pins s σ H Q I h;obtain⟨ρ,O,j,h⟩:=h;refine af3 (ld_glob I hg hm ?_ hdb);have key:tG X (Fy X) fa σ H (λvs H1=>∃ds,Same H H1/\aP X.K O H1 ds vs/\In X O H1 ρ σ/\good X (rD X) O (okN F n (ds++pickK .non sc [])) σ H1 Q):=go j h λds vs H1 e1 s1 r1 j1 h1=>⟨ds,s1,r1,j1,h1⟩;refine PySem.W.callWith_K (h₀:=X.base) I.ok.mod.kin hk (thn (ha pos pins s σ H _ I key) λus s1 ⟨vs,H1,I1,r,q⟩=>⟨I1.kIn,?_⟩) he hpl;obtain⟨ds,sm,r1,j1,h1⟩:=q;exact ab9 ok hr hkm I1 (hT.un I1.base) (r1.append (S.reps .nil)) (r.append (S.vals .nil)) j1 (λhl=>hb s1 us [] I1.kIn (by rw[z1d,zQ] at hl;exact hl) rfl) h1
theorem adl{K:PySem.W.Frag}(b:Binds K fd ps []):KB K fd ps [] []:=λs us ws i hl hw=>by
 cases aeA hw;have:=b s us i (by rw[aeK];exact hl);simpa[pickK] using this
end
section
variable{X:Cx}{tg a b c:aee}{p pos p2 pos2:Pos}{fa:aA->R (List D)}{ta:TA}
end
end Pu
namespace Pu
open PySem PySem.Spec PySem.W L2
open PyProof.Rows hiding St
open PySem.SeqAt
section
variable{X:Cx}{e1 e2:aee}{f g:aA->R D}
theorem Yw{pins:List (ad5×Obj)}{σ:St}{H:Hp}{s:ad8}{A:aer}{O O':ad5->Prop}{d:D}{y:V}{u:ad7}(I:Inv X pins σ H s)(re:Rep X.K O' H d y)(ru:RelV y u)(hA:∀(d':D) (v:V) (w:ad7),dep d'<=40->Rep X.K O H d' v->RelV v w->EqAt A s w u (dF d' d)):
  ∃e:ad7->Bool,∀(ds:List D) (vs:List V) (its:List ad7),aP X.K O H ds vs->Vals vs its->(∀d'∈ds,dep d'<=40)->its.map e=ds.map (dF · d)/\∀w∈its,EqAt A s w u (e w):=by
 classical
 have key:∀d' v w,Rep X.K O H d' v->RelV v w->(decide (∃d' v,Rep X.K O H d' v/\RelV v w/\dF d' d=true))=dF d' d:=λd' v w r1 q1=>by
  cases z:dF d' d with
  |true=>exact decide_eq_true ⟨d',v,r1,q1,z⟩
  | false=>
   refine decide_eq_false λbJ=>?_;obtain⟨d2,v2,r2,q2,z2⟩:=bJ;have ev:v2=v:=RelV.inj q2 q1;subst ev;rw[Rep.inj I d2 d' v2 r2 r1,z] at z2;cases z2
 refine⟨λw=>decide (∃d' v,Rep X.K O H d' v/\RelV v w/\dF d' d=true),λds=>?_⟩
 induction ds with
 |nil=>intro vs its r q _;rw[r.nil_inv] at q;cases q;exact⟨rfl,λw m=>by cases m⟩
 | cons a ds ih=>
  intro vs its r q hd;obtain⟨x,t,rfl,h1,h2⟩:=r.cons_inv;cases q with
  | cons q1 q2=>
   obtain⟨i1,i2⟩:=ih _ _ h2 q2 λd' m=>hd d' (z2f _ m);refine⟨by rw[z1h,z1h,i1,key a _ _ h1 q1],λw m=>?_⟩;rcases ael.mp m with rfl |m
   ·show EqAt _ _ _ _ (decide _);rw[key a _ _ h1 q1];exact hA a _ _ (hd a aen) h1 q1
   ·exact i2 w m
end
end Pu
namespace Pu
open PySem PySem.Spec L2
open PyProof.Rows hiding St
section
variable{X:Cx}
theorem V6{tg iter elt:aee}{ifs:List aee}{scope:afB}{pos pos2:Pos}{fi:aA->R (List D)}{gt:D->aA->R aA}{ft:aA->R Bool}{fe:aA->R D}(ts:List Str)(caps:List Nat)
  (hc:X.calm=true)(hb:sW X.env.scope scope ts X.N=true)(hcap:(dY scope).map (λx=>iT x X.N)=caps)
  (hi:DI X tg iter fi)(hk:jE ts.length gt)(hg:∀C s H ex,(bZ X scope ts C s H ex).N.Nodup->DG (bZ X scope ts C s H ex) tg gt){Ka:List (ad5×Str)}(hT:Tb Ka X.H₀)(ht:∀C s H ex,Tb Ka H->zM (bZ X scope ts C s H ex) ifs ft)(he:∀C s H ex,Tb Ka H->DE (bZ X scope ts C s H ex) elt fe)
  (hs:∀x,afo iter X.env x=pure x){use:Option (ad7->Sem Unit)}{Qr:ad7->ad8->Prop}{pins:List (ad5×Obj)}{s:ad8}{σ:St}{H:Hp}{ρ:aA}{O:ad5->Prop}{Q:VK}(I:Inv X pins σ H s)(j:In X O H ρ σ)
  (hQ:∀(v:V) (H':Hp) (s5:ad8) (C:ad5) (m:Str->Option ad7) (f:Flow) (acc:ad7),Q v H'->Inv X pins σ H' s5->s5.heap.Ns C m->FpOk X pins H' C->RelV v acc->aiP (model X.prog X.w) X.A X.xe use Qr acc C (.ok f) s5)
  (h:good X (rD X) O (bA ts.length caps fi gt ft fe ρ) σ H Q):
  aec (model X.prog X.w) X.A (comprehension (.ListComp elt [⟨tg,iter,ifs,0⟩] scope pos) scope X.env pos2 (ahG []) false (eval iter X.env) use) Qr X.xe s:=by
 refine JZ (Tb Ka) (λI=>hT.un I.base) MP ts caps hc hb hcap hi hk hg ht (λC s H ex z=>(he C s H ex z).toP) hs I j hQ (good.rel (λd v H' sm q=>?_) h);obtain⟨Hs,a,ys,ds,rfl,rfl,s1,n1,k1,s2,e3,r⟩:=q;refine lG (SqL.of e3) (λz=>?_) (r.fewer λa z=> .inl z);obtain⟨u,e⟩:=j.al a z;rw[s1 _ _ e] at n1;cases n1
theorem Eu{tg iter elt:aee}{ifs:List aee}{scope:afB}{pos:Pos}{fi:aA->R (List D)}{gt:D->aA->R aA}{ft:aA->R Bool}{fe:aA->R D}(ts:List Str)(caps:List Nat)
  (hc:X.calm=true)(hb:sW X.env.scope scope ts X.N=true)(hcap:(dY scope).map (λx=>iT x X.N)=caps)
  (hi:DI X tg iter fi)(hk:jE ts.length gt)(hg:∀C s H ex,(bZ X scope ts C s H ex).N.Nodup->DG (bZ X scope ts C s H ex) tg gt){Ka:List (ad5×Str)}(hT:Tb Ka X.H₀)(ht:∀C s H ex,Tb Ka H->zM (bZ X scope ts C s H ex) ifs ft)(he:∀C s H ex,Tb Ka H->DE (bZ X scope ts C s H ex) elt fe)
  (hs:∀x,afo iter X.env x=pure x:=by intro _;rfl):
  DE X (.ListComp elt [⟨tg,iter,ifs,0⟩] scope pos) (bA ts.length caps fi gt ft fe):=by
 intro pins s σ H Q I h;obtain⟨ρ,O,j,h⟩:=h;rw[eval_ListComp];exact V6 ts caps hc hb hcap hi hk hg hT ht he hs (use:=none) (Qr:=EP X pins σ Q) I j (λv H' s5 C m f acc hv I6 hns fp rv=>⟨m,hns,λh' sb=>⟨v,H',I6.fp fp sb,rv,hv⟩⟩) h
end
end Pu
namespace Pu
open PySem PySem.Spec PySem.W L2
open PyProof.Rows hiding St
section
variable{prog:aek}{w:aep}{A:aer}{s:ad8}
end
section
variable{X:Cx}
end
section
variable{X:Cx}
end
end Pu
namespace Pu
open PySem PySem.Spec L2
open PyProof.Rows hiding St
variable{O:ad5->Prop}{pos pos':Pos}{K:PySem.W.Frag}
section
variable{X:Cx}
def reF(K:PySem.W.Frag):Hp->(ad5->Prop)->Hp->D->V->Prop:=λH0 O H' d v=>∃a ys ds,d= .lst ds/\v= .ref a/\H0 a=none/\K.lookup a=none/\H' a=some (.lst ys)/\aP K (λb=>O b\/b=a) H' ds ys
abbrev DEF(X:Cx)(e:aee)(f:aA->R D):Prop:=Rq X (reF X.K) e f
theorem At.Yx{H0 H H':Hp}{O0:ad5->Prop}{ρ:aA}{σ:St}(j:At X H0 O0 O H ρ σ){i:Nat}(hi:i<X.N.length){a:ad5}{ys:List V}{ds:List D}(sm:Same H H')(hp:H a=none)(hk:X.K.lookup a=none)(e:H' a=some (.lst ys))(r:aP X.K (λb=>O b\/b=a) H' ds ys):
  At X H0 O0 (λb=>O b\/b=a) H' (ρ.set i (some (.lst ds))) (σ.set i (some (.ref a)))/\eG X.K O H (λb=>O b\/b=a) H':=by
 have s1:Same H (λb=>if b=a then none else H' b):=λb o q=>by
  show (if b=a then none else H' b)=_;rw[if_neg (ne_of_none q hp)];exact sm _ _ q
 have eu:upd (λb=>if b=a then none else H' b) a (.lst ys)=H':=funext λb=>by
  by_cases z:b=a
  ·rw[z,upd_same,e]
  ·rw[upd_ne z];exact if_neg z
 have h:=(j.grow s1).own hi (p:=a) (o:= .lst ys) (en:= .lst ds) (if_pos rfl) hk rfl (by rw[eu];exact⟨a,ys,rfl,.inr rfl,e,r⟩);rw[eu] at h;exact⟨h.1,(Same.dR s1).trans h.2⟩
def xX(f:aA->R D)(i:Nat):aA->So:=λρ=>fZ (f ρ) ρ λd=>match d with
 | .lst ds=> .nx (ρ.set i (some (.lst ds)))
 |_=> .bad
theorem V7(i:Nat){x:Str}{e:aee}{f:aA->R D}(hN:X.N.Nodup)(he:DEF X e f)(hi:X.N[i]?=some x:=by rfl)(hx:Loc X.env.scope x:=by first |exact aeM rfl |exact aeB rfl)(hs:agu e (some (.Name x pos')) pos.line X.env=pure false:=by rfl)
  (hf:X.fn x=true\/X.env.scope.names.lookup x=some .local:=by first |exact .inl rfl |exact .inr rfl):DS X (.Assign [.Name x pos'] e pos) (xX f i):=by
 refine PS.imp (ps_set hN hi hx he hs hf) λσ H E h=>?_;obtain⟨H0,O0,O,ρ,j,h⟩:=h;refine⟨ρ,O,j.inn,?_⟩;unfold xX fZ at h;cases e1:f ρ with
 |bad=>rw[e1] at h;exact h
 |err c=>rw[e1] at h;exact h σ H O j
 | ok d=>
  rw[e1] at h
  rintro v H' sm ⟨a,ys,ds,rfl,rfl,n1,k1,e3,r⟩
  obtain⟨j2,r2⟩:=j.Yx (z1b hi).1 sm n1 k1 e3 r;exact h _ _ _ j2 r2
theorem Yy(i:Nat){x:Str}{cpos:Pos}{tg iter elt:aee}{ifs:List aee}{scope:afB}{fi:aA->R (List D)}{gt:D->aA->R aA}{ft:aA->R Bool}{fe:aA->R D}(hN:X.N.Nodup)(ts:List Str)(caps:List Nat)
  (hc:X.calm=true)(hb:sW X.env.scope scope ts X.N=true)(hcap:(dY scope).map (λx=>iT x X.N)=caps)
  (hi:DI X tg iter fi)(hk:jE ts.length gt)(hg:∀C s H ex,(bZ X scope ts C s H ex).N.Nodup->DG (bZ X scope ts C s H ex) tg gt)(ht:∀C s H ex,zM (bZ X scope ts C s H ex) ifs ft)(he:∀C s H ex,DE (bZ X scope ts C s H ex) elt fe)
  (hix:X.N[i]?=some x:=by rfl)(hx:Loc X.env.scope x:=by first |exact aeM rfl |exact aeB rfl)(hf:X.fn x=true\/X.env.scope.names.lookup x=some .local:=by first |exact .inl rfl |exact .inr rfl)
  (hsw:agu (.ListComp elt [⟨tg,iter,ifs,0⟩] scope cpos) (some (.Name x pos')) pos.line X.env=pure true:=by rfl)
  (hs:∀x,afo iter X.env x=pure x:=by intro _;rfl):
  DS X (.Assign [.Name x pos'] (.ListComp elt [⟨tg,iter,ifs,0⟩] scope cpos) pos) (xX (bA ts.length caps fi gt ft fe) i):=by
 intro pins s σ H E I h;obtain⟨H0,O0,O,ρ,j,h⟩:=h;rw[ahH _ _ _ _ hsw];refine ad4 (agG (ad4 ?_));show aec _ _ (comprehension (.ListComp elt [⟨tg,iter,ifs,0⟩] scope cpos) scope X.env _ (ahG []) false (eval iter X.env) (some (assign (.Name x pos') X.env)) >>=λ_=>pure ()) _ _ _;unfold xX fZ at h;refine ad4 (zU (Q:=λv H'=>∃d,bA ts.length caps fi gt ft fe ρ= .ok d/\Same H H'/\MN X H (acP X.K) O H' d v) (Qr:=λ_ s'=>aec (model X.prog X.w) X.A (pure ()) (λ_ s1=>aec (model X.prog X.w) X.A (pure aiW) (SP X pins E) X.xe s1) X.xe s') MP ts caps hc hb hcap hi hk hg ht (λC s H ex=>(he C s H ex).toP) hs I j.inn ?_ ?_)
 ·intro v H' s5 C m f acc hq I5 hns fC rel;obtain⟨d,ed,sm,Hs,a,ys,ds,rfl,rfl,s1,n1,k1,s2,e3,r⟩:=hq;rw[ed] at h;have h:oK X H0 O0 O H E (.nx (ρ.set i (some (.lst ds)))):=h;obtain⟨o,es,ep,ho,hd,hr⟩:=hns;have Ip:=I5.pinned (fp:=[C]) (λb hb=>by rw[aeD.mp hb];exact fC) (λb hb=>by rw[aeD.mp hb];exact⟨o,ho,λv z=>by rw[hd] at z;cases z⟩);show aec (model X.prog X.w) X.A (assign (.Name x pos') X.env acc) _ X.xe s5;refine ae0 (pg_name hN hix hx hf _ s5 σ H' (.ref a) acc (λσ' tL=>σ'=σ.set i (some (.ref a))/\tL=H') Ip rel ⟨rfl,rfl⟩) (λ_ s6 ⟨σ',tL,I',e1,e2⟩=>?_) λ_ _ z=>z;subst e1 e2;have pn:=(I'.pin (C,o) (aeC _ (aeC _ (mem_pinsAt (aeD.mpr rfl) ho)))).1;obtain⟨j2,r2⟩:=j.Yx (z1b hix).1 sm (Same.free s1 n1) k1 e3 r;refine⟨m,⟨o,es,ep,pn,hd,hr⟩,λh' sb=>ad9 (ad9 ⟨_,tL,(I'.unpinned).fp fC sb,h _ _ _ j2 r2⟩)⟩
 ·cases e1:bA ts.length caps fi gt ft fe ρ with
  |bad=>rw[e1] at h;exact h
  |err c=>rw[e1] at h;exact h σ H O j
  |ok d=>exact λv H' sm r=>⟨d,rfl,sm,r⟩
theorem Yz:OpR X (afj .Mult) (λx y H Q=>∃a k xs,x= .ref a/\y= .int k/\SqL X.K H a xs/\1<=k/\k<2^63/\xs.length*k.toNat<=1000000/\∀p,H p=none->X.K.lookup p=none->Q (.ref p) (upd H p (.lst (aeb k.toNat xs).flatten))):=by
 intro pins s σ H x y v u Q I rx ry h;obtain⟨a,k,xs,rfl,rfl,hq,h1,h2,hz,q⟩:=h;cases rx;obtain⟨t,rfl⟩:=ry;obtain⟨its,r,p1,_⟩:=I.list hq;obtain⟨⟨cls,dd,data,sl⟩,ho,hc,n,hd⟩:=id p1.isList;simp only at hc hd;subst hc hd;have hlen:=r.length;have hz':its.toArray.size*k.toNat<=1000000:=by rw[z1c,<-hlen];exact hz
 have hz2:its.length*k.toNat<=1000000:=by rw[<-hlen];exact hz
 refine ag8 (T:= "list") (U:= "int") (by decide) ⟨_,ho,rfl⟩ (λs'=>ahk s' k t) noFill_list_mul F.fills_int_mul F.slot_int_rmul repeat_list F.slot_int_index.lookup
  (af6 F.slot_int_rmul (ahk s k t) F.entry_int_rmul (F.args_int_rmul_2 _ _) (lm_int_rmul_list_any k t a its.toArray n dd sl) ⟨ho,rfl,⟨_,ho,rfl⟩,?_⟩)
 refine af6 F.slot_list_mul ⟨_,ho,rfl⟩ F.entry_list_mul (F.args_list_mul_2 _ _) (lm_list_mul_any a its.toArray n dd sl k t (by simp[air];omega) (by omega) (by simp[af8,sizeLine];omega)) ⟨ho,?_⟩;rw[listMul_foldl_if];refine⟨.ref s.heap.objs.size,_,I.laid (t':=s.toks) (o:= .lst (aeb k.toNat xs).flatten) (λb ob z=>z1a _ z) (z0g _) ?_,rfl,q _ (I.hok.fresh (z0g _)) (Inv.XJ I)⟩;exact⟨by rw[len_rep,ahc];exact z0b hz dJ,_,_,r.rep k.toNat,z1f _ rfl⟩
theorem aP.acd{H:Hp}{p:ad5}{o:HO}{ds:List D}{vs:List V}(h:aP K O H ds vs)(hp:H p=none)(hk:K.lookup p=none):aP K (λb=>O b\/b=p) (upd H p o) ds vs:=
 h.go ⟨(Same.dR (K:=K) (O:=O) (Same.upd hp)).ext,λa z=>z.elim .inl λe=> .inr (by rw[e];exact⟨hp,hk⟩),(Same.dR (K:=K) (O:=O) (Same.upd hp)).dom⟩
def Ae:D->D->R D
 | .lst ds,.int k=>if ds≠[]/\1<=k/\k<2^63/\ds.length*k.toNat<=1000000 then .ok (.lst (aeb k.toNat ds).flatten) else .bad
 |_,_=> .bad
theorem RM{a b:aee}{f g:aA->R D}(ha:DE X a f)(hb:DE X b g):DEF X (.BinOp a .Mult b pos) (bin f g Ae):=by
 refine PE.imp (pe_op Yz ha hb) λσ H Q h=>?_;obtain⟨ρ,O,j,h⟩:=h;refine go j h λdx x H1 e1 s1 r1 j1 h1=>go j1 h1 λdy y H2 e2 s2 r2 j2 h2=>?_;unfold Ae at h2;split at h2
 ·rename_i ds k;by_cases hc:ds≠[]/\1<=k/\k<2^63/\ds.length*k.toNat<=1000000
  ·rw[if_pos hc] at h2;obtain⟨a,us,rfl,ha,_,q1⟩:=(r1.same s2).lst;obtain⟨h0,h1',h2',h3⟩:=hc;exact⟨a,k,us,rfl,r2.int,ha,h1',h2',by rw[<-q1.length];exact h3,λp hp hk=>h2 _ _ (Same.upd hp) ⟨p,_,_,rfl,rfl,Same.free (s1.trans s2) hp,hk,upd_same,(xO q1 _).acd hp hk⟩⟩
  ·rw[if_neg hc] at h2;exact h2.elim
 ·exact h2.elim
def En(i:Nat)(fk fv:aA->R D):aA->So:=λρ=>fZ (zL (fv ρ)) ρ λd=>match ρ[i]? with
 | some (some (.lst ds))=>fZ (zL (fk ρ)) ρ λk=>match k with
  | .int k=>if 0<=k/\k<ds.length then .nx (ρ.set i (some (.lst (ds.set k.toNat d)))) else .bad
  |_=> .bad
 |_=> .bad
theorem aP.set{H:Hp}{d:D}{v:V}(rv:Rep K O H d v):∀{ds:List D} {vs:List V} (k:Nat),aP K O H ds vs->aP K O H (ds.set k d) (vs.set k v)
 |[],vs,_,h=>by rw[h.nil_inv];exact .nil
 | x::ds,vs,k,h=>by
  obtain⟨w,r,rfl,h1,h2⟩:=h.cons_inv;cases k with
  |zero=>exact .cons rv h2
  |succ k=>exact .cons h1 (aP.set rv k h2)
theorem aaZ(i:Nat){x:Str}{ek ev:aee}{fk fv:aA->R D}{px:Pos}(hk:DE X ek fk)(hv:DE X ev fv)(hN:X.N[i]?=some x:=by rfl)(hvs:Vis X.env.scope x:=by first |exact aeM rfl |exact aeB (aeM rfl) |exact aeB (aeB rfl))
  (hd:(x ==("__debug__" :Str))=false:=by decide)(hcd:(x ==("__classdict__" :Str))=false:=by decide)
  (ha:∀v,assign (.Subscript (.Name x px) ek pos') X.env v=(do
   let ov <-holding [v] (eval (.Name x px) X.env)
   let iv <-holding [v,ov] (eval ek X.env)
   ahC pos'
   holding [v,ov,iv] (setItem ov iv v)
   release [v,ov,iv] []):=by intro _;rfl)
  (hs:afU [.Subscript (.Name x px) ek pos'] ev pos.line X.env=pure false:=by rfl) (hw:afV [.Subscript (.Name x px) ek pos'] ev X.env=pure none:=by rfl)
  (h1:(afT [.Subscript (.Name x px) ek pos'] X.env).map (·.2)=[assign (.Subscript (.Name x px) ek pos') X.env]:=by rfl):
  DS X (.Assign [.Subscript (.Name x px) ek pos'] ev pos) (En i fk fv):=by
 refine PS.imp (ps_asg hv (pg_sub (pe_var hN hvs hd hcd) hk set_list ha) hs hw h1) λσ H E h=>?_;obtain⟨H0,O0,O,ρ,j,h⟩:=h;unfold En at h;refine⟨ρ,O,j.inn,?_⟩;cases q2:fv ρ with
 |bad=>rw[q2] at h;exact h.elim
 |err c=>rw[q2] at h;exact h.elim
 | ok d =>
  rw[q2] at h;intro v H1 s1 rv;have h:oK X H0 O0 O H E (match ρ[i]? with
   | some (some (.lst ds))=>fZ (zL (fk ρ)) ρ λk=>match k with
    | .int k=>if 0<=k/\k<ds.length then .nx (ρ.set i (some (.lst (ds.set k.toNat d)))) else .bad
    |_=> .bad
   |_=> .bad):=h
  split at h
  ·rename_i ds q;obtain⟨w,hw1,a,xs,rfl,hO,hH,rs⟩:=j.inn.env.get i _ q;refine⟨.ref a,hw1,?_⟩;have j1:=j.grow s1;refine⟨ρ,O,j1.inn,?_⟩;cases q1:fk ρ with
   |bad=>rw[q1] at h;exact h.elim
   |err c=>rw[q1] at h;exact h.elim
   | ok k=>
    rw[q1] at h;intro y H2 s2 ry;cases k with
    | int k=>
     have h:oK X H0 O0 O H E (if 0<=k/\k<ds.length then .nx (ρ.set i (some (.lst (ds.set k.toNat d)))) else .bad):=h;by_cases hc:0<=k/\k<ds.length
     ·rw[if_pos hc] at h;have j2:=j1.grow s2;have hH2:=s2 _ _ (s1 _ _ hH);have yX:=(rs.same s1).same s2;have hlen:=yX.length;refine⟨a,xs,k,k.toNat,rfl,ry.int,hH2,by unfold ixN;rw[if_pos hc.1,if_pos (by omega)],?_⟩;obtain⟨j3,r3⟩:=j2.chg (o:= .lst (xs.set k.toNat v)) (en:= .lst (ds.set k.toNat d)) q rfl hw1 hO hH2 trivial rfl λr=>⟨a,_,rfl,hO,upd_same,(aP.set (rv.same s2) k.toNat yX).go r⟩;exact h _ _ _ j3 ((Same.dR (s1.trans s2)).trans r3)
     ·rw[if_neg hc] at h;exact h.elim
    |_=>exact h.elim
  ·exact h.elim
end
inductive fX (K:PySem.W.Frag) (O:ad5->Prop) (H:Hp):List ad5->List D->Prop
 |nil:fX K O H [] []
 |cons {r:ad5} {zs:List V} {es:List D} {rs:List ad5} {ds:List D}:H r=some (.lst zs)->aP K O H es zs->fX K O H rs ds->fX K O H (r::rs) (.lst es::ds)
section
variable{K:PySem.W.Frag}{O O':ad5->Prop}{H H':Hp}{rs:List ad5}{ds:List D}
theorem fX.same(s:Same H H')(h:fX K O H rs ds):fX K O H' rs ds:=by
 induction h with
 |nil=>exact .nil
 |cons e r _ ih=>exact .cons (s _ _ e) (r.same s) ih
theorem fX.fewer(w:∀a,O' a->O a)(h:fX K O H rs ds):fX K O' H rs ds:=by
 induction h with
 |nil=>exact .nil
 |cons e r _ ih=>exact .cons e (r.fewer w) ih
theorem fX.app{r:ad5}{zs:List V}{es:List D}(e:H r=some (.lst zs))(q:aP K O H es zs)(h:fX K O H rs ds):fX K O H (rs++[r]) (ds++[.lst es]):=by
 induction h with
 |nil=>exact .cons e q .nil
 |cons e' r' _ ih=>exact .cons e' r' ih
theorem fX.len(h:fX K O H rs ds):rs.length=ds.length:=by
 induction h with
 |nil=>rfl
 |cons _ _ _ ih=>rw[aef,aef,ih]
theorem fX.go(rc:eG K O H O' H')(st:∀r∈rs,∀zs,H r=some (.lst zs)->H' r=some (.lst zs))(h:fX K O H rs ds):fX K O' H' rs ds:=by
 induction h with
 |nil=>exact .nil
 |cons e q _ ih=>exact .cons (st _ (aen ..) _ e) (q.go rc) (ih λr hr=>st r (z2f _ hr))
theorem fX.there(h:fX K O H rs ds):∀r∈rs,∃zs,H r=some (.lst zs):=by
 induction h with
 |nil=>exact λr hr=>absurd hr (by simp)
 | cons e q _ ih=>
  intro r hr;rcases ael.mp hr with z |z
  ·rw[z];exact⟨_,e⟩
  ·exact ih r z
end
def acN(K:PySem.W.Frag):Hp->ad5->(ad5->Prop)->Hp->List D->List V->Prop:=λH2 a O H' ds ys=>
 ∃rs:List ad5,ys=rs.map V.ref/\rs.Nodup/\(∀r∈rs,H2 r=none/\K.lookup r=none/\r≠a)/\fX K (λb=>O b\/b=a) H' rs ds
theorem ace:ZR K (reF K) (acN K) where
 nil:=⟨[],rfl,.nil,λ_ h=>absurd h (by simp),.nil⟩
 same:=λ⟨rs,e,nd,al,rr⟩ _ s=>⟨rs,e,nd,al,rr.same s⟩
 len:=λ⟨rs,e,_,_,rr⟩=>by rw[e,z1g,rr.len]
 app :=by
  rintro H2 a O H7 H8 ds ys d v ⟨rs,e,nd,al,rr⟩ ha h7 s1 s2 ⟨r,zs,es,rfl,rfl,n7,nk,e8,q⟩ rc
  have hra:r≠a:=λz=>by rw[z,h7] at n7;cases n7
  have hnr:r∉rs:=λz=>by
   obtain⟨zs',e'⟩:=rr.there r z;rw[n7] at e';cases e'
  subst e;refine⟨rs++[r],by rw[afi];rfl,?_,λx hx=>?_,?_⟩
  ·refine aho.mpr ⟨nd,afq.mpr ⟨by simp,.nil⟩,λx hx y hy z=>?_⟩;rw[aeD] at hy;subst hy;subst z;exact hnr hx
  ·rcases afF.mp hx with z |z
   ·exact al x z
   ·rw[aeD.mp z];exact⟨Same.free s1 n7,nk,hra⟩
  ·refine ((rr.same s2).go rc λx hx zs e=>?_).app ?_ ((q.fewer λb z=> .inl z).go rc)
   ·rw[upd_ne (al x hx).2.2];exact e
   ·rw[upd_ne hra];exact e8
section
variable{X:Cx}
end
section
variable{P:aek}{w:aep}{K:PySem.W.Frag}{mg:Str->Option ad7}{base:aeo}
end
section
variable{X:Cx}{c x y:Str}{C:ad5}{np cpos pos p1 p2 p3 p4:Pos}{k1 k2:Nat}{a b:aee}{f g:aA->R D}
def YB(k:Int->R D):D->R D
 | .int i=>k i
 |_=> .bad
def Z5(x y:Str)(f g:aA->R D):aA->R D:=λρ=>(f ρ).bind (YB λi=>if i.natAbs.log2<1920 then (g ρ).bind (YB λj=>if j.natAbs.log2<1920 then .ok (.str (((ahI++x++aeH (toString i))++y)++aeH (toString j))) else .bad) else .bad)
theorem RN{i:Int}(h:i.natAbs.log2<1920):(aeH (toString i)).length<=1921:=by
 rw[PySem.ofString_length];exact int_text_length_le (by decide) h
theorem adn(ha:DE X a f)(hb:DE X b g)(hx:x.length<=1000:=by decide +kernel)(hy:y.length<=1000:=by decide +kernel):DE X (.JoinedStr [.Constant (.str x) k1 p1,.FormattedValue a (-1) none p2,.Constant (.str y) k2 p3,.FormattedValue b (-1) none p4] pos) (Z5 x y f g):=by
 intro pins s σ H Q I h;obtain⟨ρ,O,j,h⟩:=h;refine wpAny_JoinedStr ?_;have key:tG X (rD X) f σ H (λv H1=>∃i,v= .int i/\i.natAbs.log2<1920/\tG X (rD X) g σ H1 (λu H2=>∃i',u= .int i'/\i'.natAbs.log2<1920/\Q (.str (((ahI++x++aeH (toString i))++y)++aeH (toString i'))) H2)):=by
  refine go j h λdx v H1 e1 s1 r1 j1 h1=>?_;cases dx with
  | int i =>
   have h1:good X (rD X) O (if i.natAbs.log2<1920 then (g ρ).bind (YB λj=>if j.natAbs.log2<1920 then .ok (.str (((ahI++x++aeH (toString i))++y)++aeH (toString j))) else .bad) else .bad) σ H1 Q:=h1;by_cases c:i.natAbs.log2<1920
   ·rw[if_pos c] at h1;refine⟨i,r1.int,c,go j1 h1 λdy u H2 e2 s2 r2 j2 h2=>?_⟩;cases dy with
    | int i'=>
     have h2:good X (rD X) O (if i'.natAbs.log2<1920 then .ok (.str (((ahI++x++aeH (toString i))++y)++aeH (toString i'))) else .bad) σ H2 Q:=h2;by_cases c':i'.natAbs.log2<1920
     ·rw[if_pos c'] at h2;exact⟨i',r2.int,c',fin h2 (Cm _)⟩
     ·rw[if_neg c'] at h2;exact h2.elim
    |_=>exact h2.elim
   ·rw[if_neg c] at h1;exact h1.elim
  |_=>exact h1.elim
 have L0:(ahI++x).length=x.length:=by rw[afY];exact agU _
 refine ah6 ⟨x,_,rfl,by rw[L0,aft];omega,wpAny_FormattedValue_plain (thn (ha pins _ σ H _ (I.tok _) key) λv s1 bJ=>?_)⟩;obtain⟨v',H1,I1,r1,i,e1,fact,q1⟩:=bJ;subst e1;obtain⟨t1,rfl⟩:=r1;have l1:=RN fact;refine wpAny_formatField_int fact ⟨_,_,rfl,by rw[afY,L0,aft];omega,?_⟩;refine ah6 ⟨y,_,rfl,by rw[afY,afY,L0,aft];omega,wpAny_FormattedValue_plain (thn (hb pins _ σ H1 _ ((I1.tok _).tok _) q1) λu s2 bJ=>?_)⟩;obtain⟨u',H2,I2,r2,i',e2,c,q2⟩:=bJ;subst e2;obtain⟨t2,rfl⟩:=r2;have l2:=RN c;refine wpAny_formatField_int c ⟨_,_,rfl,by rw[afY,afY,afY,L0,aft];omega,?_,(.str (((ahI++x++aeH (toString i))++y)++aeH (toString i'))),H2,((I2.tok _).tok _),⟨_,rfl⟩,q2⟩;rw[afY,afY,afY,L0,aft];omega
def RP(fa:aA->R (List D))(c:Str):aA->So:=λρ=>match fa ρ with
 | .ok ds=>if ds.length<=1000000 then .ex c ρ else .bad
 |_=> .bad
theorem V8{e:aee}{fa:aA->R (List D)}(hc:X.calm=true)(hx:ZV X.K X.mg c C)(ha:DA X [e] fa)(hg:Gl X c:=by rfl)(hdb:(c ==("__debug__" :Str))=false:=by decide)
  (he:aea [e] X.env=(false,eval e X.env)::aea [] X.env:=by rfl)(hpl:(aeR cpos (aea [e] X.env)).any (·.1)=false:=by rfl):
  DS X (.Raise (some (.Call (.Name c np) [e] [] cpos)) none pos) (RP fa c):=by
 intro pins s σ H E I h;obtain⟨H0,O0,O,ρ,j,h⟩:=h;obtain⟨bm,N,nm,qn,bs,hdct,sn,sub,ab,col,dd,k0,k1,k2,k3,k5,mN,o1,o2,o3,o4⟩:=VR I.mod.kin hx.ex;obtain⟨ds,ef,dl,e0⟩:∃ds,fa ρ= .ok ds/\ds.length<=1000000/\RP fa c ρ= .ex c ρ:=by
  unfold RP at h |-;cases q:fa ρ with
  | ok ds=>
   rw[q] at h;by_cases l:ds.length<=1000000
   ·exact⟨ds,rfl,l,by simp only[if_pos l]⟩
   ·simp only[if_neg l] at h;exact h.elim
  |err z=>rw[q] at h;exact h.elim
  |bad=>rw[q] at h;exact h.elim
 rw[e0] at h;have key:tG X (Fy X) fa σ H (λvs H1=>ds.length=vs.length/\Same H H1):=⟨ρ,O,j.inn,by rw[ef];exact λvs H1 s1 r1=>⟨r1.length,s1⟩⟩;refine wpAny_Raise_call_subU (C:=C) (nm:=nm) (q:=qn) (N:=N) (bs:=bs) (bm:=bm) (hdct:=hdct) (sn:=sn) (sub:=sub) (ab:=ab) (col:=col) (dd:=dd) (k0:=k0) (k1:=k1) (k2:=k2) (k3:=k3) (k5:=k5)
  PySem.F.excBase_ValueError (by rfl) PySem.F.excBase_ValueError (mN:=mN) (o4.hasType PySem.F.excBase_ValueError.hasBase) (I.ok.hd hc) hpl o3 (ld_glob I hg hx.mg ⟨rfl,?_⟩ hdb)
 have hA:=ha cpos pins s σ H _ I key;rw[he] at hA |-;refine ahO (ae0 hA (λus s1 ⟨vs,H1,I1,r,hl,sm⟩=>?_) λ_ _ z=>z);refine⟨rfl,?_,I1.bk _ _ o1,o2.keeps I1.bk,o4.keeps I1.bk,λh' ev hm=>?_⟩
 ·show us.length<=sizeLine;rw[<-r.length,<-hl];exact z0b dl dJ
 ·obtain⟨t,ht,_,_⟩:=hm.there;exact h σ H1 O (j.grow sm) H1 pins s1 ev C none _ H1 (Same.refl _) I1 hx.ns ⟨Same.refl _,Un.kept hm.keeps,I1.hok.kept hm.keeps,rfl,I1.bare,⟨_,_,ht,rfl,rfl,rfl,rfl⟩,hm.new,xT I1.hok hm.new,λ_ z=>by cases z⟩
theorem Z6{ρ:aA}{i j:Int}(e1:f ρ= .ok (.int i))(e2:g ρ= .ok (.int j))(hi:i.natAbs<1000)(hj:j.natAbs<1000):∃d,Z5 x y f g ρ= .ok d:=by
 have l1:i.natAbs.log2<1920:=ahf (Nat.log2_le_self _) (by omega);have l2:j.natAbs.log2<1920:=ahf (Nat.log2_le_self _) (by omega);refine⟨.str (((ahI++x++aeH (toString i))++y)++aeH (toString j)),?_⟩;rw[Z5,e1,R.bf];show (if _ then _ else _)=_;rw[if_pos l1,e2,R.bf];show (if _ then _ else _)=_;rw[if_pos l2]
theorem Z7{ρ:aA}(e:∃d,f ρ= .ok d):RP (ak f (λ_=> .ok [])) c ρ= .ex c ρ:=by
 obtain⟨d,e⟩:=e;unfold RP ak;rw[e];rfl
end
end Pu
namespace L2
open PySem PySem.Spec PyProof.Rows
section
variable{X:Cx}{pos:Pos}
end
end L2
namespace Pu
open PySem PySem.Spec L2
open PyProof.Rows hiding St
variable{rows:List (List D)}{rs:List ad5}{pos':Pos}{K:PySem.W.Frag}
section
variable{X:Cx}{a b c:aee}{f g u:aA->R D}{pos:Pos}
end
section
variable{X:Cx}{H0 H:Hp}{O0 O:ad5->Prop}{ρ:aA}{σ:St}{sts:List aeu}{g:aA->So}
end
section
variable{X:Cx}
theorem aa0{O:ad5->Prop}{H:Hp}{p:ad5}{u o:HO}(hO:O p)(hu:H p=some u)(hm:Mut (some u)):eG K O H O (upd H p o):=by
 have nt:∀b xs,Rd H b (.tup xs)->b≠p:=λb xs h z=>by
  subst z;rcases h with h |⟨_,h⟩ <;> rw[hu] at h <;> cases h <;> exact hm
 refine⟨⟨λb xs h=>?_,λb xs n h=>?_⟩,λa z=> .inl z,λa z=>?_⟩
 ·have nb:=nt b xs h;rcases h with h |⟨q,h⟩
  ·exact .inl (by rw[upd_ne nb];exact h)
  ·exact .inr ⟨q,by rw[upd_ne nb];exact h⟩
 ·have nb:b≠p:=λz=>n (by rw[z];exact hO);rcases h with h |⟨q,h⟩
  ·exact .inl (by rw[upd_ne nb];exact h)
  ·exact .inr ⟨q,by rw[upd_ne nb];exact h⟩
 ·by_cases ea:a=p
  ·rw[ea,upd_same] at z;cases z
  ·rw[upd_ne ea] at z;exact z
theorem At.adQ{H0 H:Hp}{O0 O:ad5->Prop}{ρ:aA}{σ:St}(j:At X H0 O0 O H ρ σ){i n:Nat}{a r:ad5}{row Ue:List D}{xs xs':List V}(hi:ρ[i]?=some (some (.rws rows)))(hs:σ[i]?=some (some (.ref a)))(R:DQ X.K O H rows a rs)(hr:rs[n]?=some r)(hw:rows[n]?=some row)(hH:H r=some (.lst xs))(q:aP X.K O H Ue xs'):
  At X H0 O0 O (upd H r (.lst xs')) (ρ.set i (some (.rws (rows.set n Ue)))) σ/\eG X.K O H O (upd H r (.lst xs')):=by
 have hO:O r:=(R.row n r row hr hw).1;have r1:eG X.K O H O (upd H r (.lst xs')):=aa0 hO hH trivial;have h1:i<ρ.length:=(z1b hi).1;have hmem:r∈rs:=aeE hr;obtain⟨Vk,ZG⟩:=j.pW i rows a rs hi hs R.at_ r hmem;have nar:a≠r:=λz=>(afq.mp R.nd).1 (by rw[z];exact hmem);have nown:∀{k:Nat} {e:Ent} {v:V},k≠i->ρ[k]?=some (some e)->e.own=true->σ[k]?=some (some v)->v≠.ref r/\∀rows',e≠.rws rows':=λ{k e v} hki h ho hk=>
  let⟨z1,z2⟩:=j.inn.env.lU i k rows a rs e v (aeh hki) hi hs R.at_ h ho hk
  ⟨z1 r hmem,z2⟩
 have eat:upd H r (.lst xs') a=some (.lst (rs.map V.ref)):=by rw[upd_ne nar];exact R.at_
 refine⟨⟨λb o z=>?_,j.dR.trans r1,j.sub,⟨⟨λk e h=>?_,λk l e e' v hkl hk hl ok ol sk sl=>?_,λk l rw' b bs e v hkl hk sk hb hl ol sl=>?_⟩,λb z=>?_,j.inn.len,by rw[aeL];exact j.inn.jr⟩,λk e b h ho hk=>?_,λk rw' b bs h hk hb=>?_⟩,r1⟩
 ·rw[upd_ne (ne_of_none z Vk)];exact j.same _ _ z
 ·by_cases hki:k=i
  ·subst hki;rw[z2a h1] at h;cases h;refine⟨_,hs,a,rs,rfl,eat,R.oa,R.nd,by rw[aeL];exact R.len,λm r' row2 z1 z2=>?_⟩;by_cases hmn:m=n
   ·subst hmn;rw[hr] at z1;cases z1;rw[z2a (z1b hw).1] at z2;cases z2;exact⟨hO,xs',upd_same,q.go r1⟩
   ·rw[z1e (aeh hmn)] at z2;obtain⟨o1,ys,z3,z4⟩:=R.row m r' row2 z1 z2;have nr:r'≠r:=λz=>by
     have hn:=(afq.mp R.nd).2;rw[z] at z1;exact hmn ((List.getElem?_inj (z1b z1).1 hn).mp (z1.trans hr.symm))
    exact⟨o1,ys,by rw[upd_ne nr];exact z3,z4.go r1⟩
  ·rw[z1e (aeh hki)] at h;obtain⟨v,q1,q2⟩:=j.inn.env.get k e h;refine⟨v,q1,?_⟩;cases e with
   |val d=>exact Rep.go r1 q2
   | obj t=>exact lR.fz (λb o' u hb=>by
     have nb:b≠r:=λz=>by rw[z,hH] at hb;cases hb
     rw[upd_ne nb];exact hb) q2
   | lst ds=>
    obtain⟨b,ys,e1,o1,e2,rr⟩:=q2;have na:b≠r:=λz=>(nown hki h rfl q1).1 (by rw[e1,z]);exact⟨b,ys,e1,o1,by rw[upd_ne na];exact e2,rr.go r1⟩
   | rG kvs=>
    obtain⟨b,ys,e1,o1,e2,kk,rr⟩:=q2;have na:b≠r:=λz=>(nown hki h rfl q1).1 (by rw[e1,z]);exact⟨b,ys,e1,o1,by rw[upd_ne na];exact e2,kk,rr.go r1⟩
   |rws Z8=>exact absurd rfl ((nown hki h rfl q1).2 Z8)
 ·have un:∀{m:Nat} {x:Ent},(ρ.set i (some (.rws (rows.set n Ue))))[m]?=some (some x)->x.own=true->∃y,ρ[m]?=some (some y)/\y.own=true:=λ{m x} h ho'=>by
   by_cases hmi:m=i
   ·rw[hmi];exact⟨_,hi,rfl⟩
   ·rw[z1e (aeh hmi)] at h;exact⟨x,h,ho'⟩
  obtain⟨y,hy,oy⟩:=un hk ok;obtain⟨y',hy',oy'⟩:=un hl ol;exact j.inn.env.sep k l y y' v hkl hy hy' oy oy' sk sl
 ·by_cases hki:k=i
  ·subst hki;rw[hs] at sk;cases sk;rw[eat] at hb;have eb:=jO (HO.lst.inj (aeg hb));rw[z1e hkl] at hl;rw[<-eb];exact j.inn.env.lU k l rows a rs e v hkl hi hs R.at_ hl ol sl
  ·rw[z1e (aeh hki)] at hk;exact absurd rfl ((nown hki hk rfl sk).2 rw')
 ·by_cases ea:b=r
  ·rw[ea];exact⟨_,upd_same⟩
  ·obtain⟨w,q⟩:=j.inn.al b z;exact⟨w,by rw[upd_ne ea];exact q⟩
 ·by_cases hki:k=i
  ·subst hki;rw[hs] at hk;cases hk;exact j.mine k _ a hi rfl hs
  ·rw[z1e (aeh hki)] at h;exact j.mine k e b h ho hk
 ·by_cases hki:k=i
  ·subst hki;rw[hs] at hk;cases hk;rw[eat] at hb;rw[<-jO (HO.lst.inj (aeg hb))];exact j.pW k rows a rs hi hs R.at_
  ·rw[z1e (aeh hki)] at h;exact absurd rfl ((nown hki h rfl hk).2 rw')
def isAtom:D->Bool
 | .int _=>true
 | .non=>true
 |_=>false
def rowOf:D->Option (List D)
 | .lst es=>if es.all isAtom then some es else none
 |_=>none
def rowsOf:List D->Option (List (List D))
 |[]=>some []
 | d::ds=>match rowOf d,rowsOf ds with
  |some r,some rs=>some (r::rs)
  |_,_=>none
def Iz:Option Ent->Bool
 |some (.rws _)=>false
 |_=>true
theorem Nu{K:PySem.W.Frag}{O O':ad5->Prop}{H H':Hp}:∀{es:List D} {zs:List V},es.all isAtom=true->aP K O H es zs->aP K O' H' es zs
 |[],_,_,h=>by simpa only[aP] using h
 | d::ds,zs,e,h=>by
  simp only[aP] at h |-;obtain⟨x,r,h1,h2,h3⟩:=h;rw[agg,ae6] at e;refine⟨x,r,h1,?_,Nu e.2 h3⟩;cases d with
  |int k=>rw[h2.int];exact cB k
  |non=>rw[h2.non];exact mW
  |_=>exact absurd e.1 (by simp[isAtom])
theorem YC{O:ad5->Prop}{H:Hp}{ds:List D}(h:fX K O H rs ds):∀{rows:List (List D)},rowsOf ds=some rows->rs.length=rows.length/\∀(i:Nat) r row,rs[i]?=some r->rows[i]?=some row->row.all isAtom=true/\∃xs,H r=some (.lst xs)/\aP K O H row xs:=by
 induction h with
 |nil=>intro rows e;cases e;exact⟨rfl,λi r row z=>by simp at z⟩
 | @cons r zs es rs ds e q h ih=>
  intro rows er;unfold rowsOf at er;cases e1:rowOf (.lst es) with
  |none=>rw[e1] at er;cases er
  | some r0=>
   cases e2:rowsOf ds with
   |none=>rw[e1,e2] at er;cases er
   | some mC=>
    rw[e1,e2] at er;cases er;unfold rowOf at e1;by_cases c:es.all isAtom=true
    ·simp only[if_pos c] at e1;cases e1;obtain⟨l,g⟩:=ih e2;refine⟨by rw[aef,aef,l],λi r' row z1 z2=>?_⟩;cases i with
     |zero=>cases z1;cases z2;exact⟨c,zs,e,q⟩
     |succ i=>exact g i r' row z1 z2
    ·simp only[if_neg c] at e1;cases e1
theorem aa1{O:ad5->Prop}{H:Hp}{e:Ent}{v:V}(ho:e.own=true)(h:oW K O H e v):∃b o,v= .ref b/\H b=some o:=by
 cases e with
 |val d=>cases ho
 |obj t=>cases ho
 |lst ds=>obtain⟨a,xs,e1,_,e2,_⟩:=h;exact⟨a,_,e1,e2⟩
 |rG kvs=>obtain⟨a,xs,e1,_,e2,_⟩:=h;exact⟨a,_,e1,e2⟩
 |rws rows=>obtain⟨a,rs,e1,R⟩:=h;exact⟨a,_,e1,R.at_⟩
theorem xY{ρ:aA}{i k:Nat}(hR:(ρ.set i none).all Iz=true)(hki:k≠i)(h:ρ[k]?=some (some (.rws rows))):False:=by
 have h2:(ρ.set i none)[k]?=some (some (.rws rows)):=by rw[z1e (aeh hki)];exact h
 have:=agA.mp hR _ (aeE h2);cases this
theorem At.adR{H0 H H':Hp}{O0 O:ad5->Prop}{ρ:aA}{σ:St}(j:At X H0 O0 O H ρ σ){i:Nat}(hi:i<X.N.length){a:ad5}{ds:List D}(sm:Same H H')(hp:H a=none)(hk:X.K.lookup a=none)(ea:H' a=some (.lst (rs.map V.ref)))(nd:rs.Nodup)
  (al:∀r∈rs,H r=none/\X.K.lookup r=none/\r≠a)(rr:fX X.K O H' rs ds)(er:rowsOf ds=some rows)(hR:(ρ.set i none).all Iz=true):
  At X H0 O0 (λb=>O b\/b∈a::rs) H' (ρ.set i (some (.rws rows))) (σ.set i (some (.ref a)))/\eG X.K O H (λb=>O b\/b∈a::rs) H':=by
 have fr:∀b,b∈a::rs->H b=none/\X.K.lookup b=none:=λb hb=>by
  rcases ael.mp hb with z |z
  ·rw[z];exact⟨hp,hk⟩
  ·exact⟨(al b z).1,(al b z).2.1⟩
 have r1:eG X.K O H (λb=>O b\/b∈a::rs) H':=⟨(Same.dR (K:=X.K) (O:=O) sm).ext,λb z=>z.elim .inl λe=> .inr (fr b e),(Same.dR (K:=X.K) (O:=O) sm).dom⟩;have h1:i<ρ.length:=by rw[j.inn.jr];exact hi
 have h2:i<σ.length:=by rw[j.inn.len];exact hi
 obtain⟨hl,hrow⟩:=YC rr er;have RR:DQ X.K (λb=>O b\/b∈a::rs) H' rows a rs:=⟨ea,.inr (aen ..),afq.mpr ⟨λz=>(al a z).2.2 rfl,nd⟩,hl,λn r row z1 z2=>
  let⟨c,xs,q1,q2⟩:=hrow n r row z1 z2
  ⟨.inr (z2f _ (aeE z1)),xs,q1,Nu c q2⟩⟩
 have nown:∀{k:Nat} {e:Ent} {v:V} {b:ad5},ρ[k]?=some (some e)->e.own=true->σ[k]?=some (some v)->b∈a::rs->v≠.ref b:=λ{k e v b} h ho hs hb z=>by
  obtain⟨v',q1,q2⟩:=j.inn.env.get k e h;rw[hs] at q1;cases q1;obtain⟨c,o,e1,e2⟩:=aa1 ho q2;rw[z] at e1;cases e1;rw[(fr b hb).1] at e2;cases e2
 refine⟨⟨j.same.trans sm,j.dR.trans r1,λb z=> .inl (j.sub b z),⟨⟨λk e h=>?_,λk l e e' v hkl hk' hl' ok ol sk sl=>?_,λk l rw' b bs e v hkl hk' sk hb hl' ol sl=>?_⟩,λb z=>?_,by rw[aeL];exact j.inn.len,by rw[aeL];exact j.inn.jr⟩,λk e b h hoo hs=>?_,λk rw' b bs h hs hb=>?_⟩,r1⟩
 ·by_cases hki:k=i
  ·subst hki;rw[z2a h1] at h;cases h;exact⟨.ref a,z2a h2,a,rs,rfl,RR⟩
  ·rw[z1e (aeh hki)] at h;obtain⟨v,q1,q2⟩:=j.inn.env.get k e h;refine⟨v,by rw[z1e (aeh hki)];exact q1,?_⟩;cases e with
   |val d=>exact Rep.go r1 q2
   | lst ds=>
    obtain⟨a,xs,e1,o1,e2,r⟩:=q2;exact⟨a,xs,e1,.inl o1,sm _ _ e2,r.go r1⟩
   |obj t=>exact lR.same sm q2
   | rG kvs=>
    obtain⟨a,xs,e1,o1,e2,k,r⟩:=q2;exact⟨a,xs,e1,.inl o1,sm _ _ e2,k,r.go r1⟩
   |rws Z8=>exact (xY hR hki h).elim
 ·by_cases hki:k=i
  ·subst hki;rw[z2a h2] at sk;cases sk;rw[z1e hkl] at hl' sl;exact nown hl' ol sl (aen ..) rfl
  ·rw[z1e (aeh hki)] at hk' sk;by_cases hli:l=i
   ·subst hli;rw[z2a h2] at sl;cases sl;exact nown hk' ok sk (aen ..) rfl
   ·rw[z1e (aeh hli)] at hl' sl;exact j.inn.env.sep k l e e' v hkl hk' hl' ok ol sk sl
 ·by_cases hki:k=i
  ·subst hki;rw[z2a h2] at sk;cases sk;rw[ea] at hb;rw[<-jO (HO.lst.inj (aeg hb))];rw[z1e hkl] at hl' sl;exact⟨λr hr=>nown hl' ol sl (z2f _ hr),λrows' z=>by rw[z] at hl';exact xY hR (aeh hkl) hl'⟩
  ·rw[z1e (aeh hki)] at hk';exact (xY hR hki hk').elim
 ·rcases z with z |z
  ·obtain⟨u,q⟩:=j.inn.al b z;exact⟨u,sm _ _ q⟩
  ·rcases ael.mp z with z |z
   ·rw[z];exact⟨_,ea⟩
   ·obtain⟨zs,q⟩:=rr.there b z;exact⟨_,q⟩
 ·by_cases hki:k=i
  ·subst hki;rw[z2a h2] at hs;cases hs;exact⟨j.same.free hp,λz=>j.inn.mJ hp (j.sub _ z)⟩
  ·rw[z1e (aeh hki)] at h hs;exact j.mine k e b h hoo hs
 ·by_cases hki:k=i
  ·subst hki;rw[z2a h2] at hs;cases hs;rw[ea] at hb;rw[<-jO (HO.lst.inj (aeg hb))];exact λr hr=>⟨j.same.free (al r hr).1,λz=>j.inn.mJ (al r hr).1 (j.sub _ z)⟩
  ·rw[z1e (aeh hki)] at h;exact (xY hR hki h).elim
end
section
variable{X:Cx}{pos:Pos}
theorem aa2{α:Type}{xs:List α}{y:Int}{v:α}(h0:0<=y)(h:xs[y.toNat]?=some v):L2.atI xs y=some v:=by
 have:=(z1b h).1;unfold L2.atI ixN;rw[if_pos h0,if_pos (by omega)];exact h
def Gs(i:Nat)(fy fk fv:aA->R D):aA->So:=λρ=>match ρ[i]?,fy ρ,fk ρ,fv ρ with
 | some (some (.rws rows)),.ok (.int y),.ok (.int k),.ok d=>match rows[y.toNat]? with
  |some row=>if 0<=y/\0<=k/\k<row.length then .nx (ρ.set i (some (.rws (rows.set y.toNat (row.set k.toNat d))))) else .bad
  |none=> .bad
 |_,_,_,_=> .bad
theorem YD(i:Nat){t:Str}{ey ek ev:aee}{fy fk fv:aA->R D}{pt ps:Pos}(hy:DE X ey fy)(hk:DE X ek fk)(hv:DE X ev fv)(hN:X.N[i]?=some t:=by rfl)
  (hvt:Vis X.env.scope t:=by first |exact aeM rfl |exact aeB (aeM rfl) |exact aeB (aeB rfl))
  (hd:(t ==("__debug__" :Str))=false:=by decide)(hcd:(t ==("__classdict__" :Str))=false:=by decide)
  (hp:PlainIx ey:=by exact λ_ _=>rfl)
  (ha:∀v,assign (.Subscript (.Subscript (.Name t pt) ey ps) ek pos') X.env v=(do
   let ov <-holding [v] (eval (.Subscript (.Name t pt) ey ps) X.env)
   let iv <-holding [v,ov] (eval ek X.env)
   ahC pos'
   holding [v,ov,iv] (setItem ov iv v)
   release [v,ov,iv] []):=by intro _;rfl)
  (hs:afU [.Subscript (.Subscript (.Name t pt) ey ps) ek pos'] ev pos.line X.env=pure false:=by rfl) (hw:afV [.Subscript (.Subscript (.Name t pt) ey ps) ek pos'] ev X.env=pure none:=by rfl)
  (h1:(afT [.Subscript (.Subscript (.Name t pt) ey ps) ek pos'] X.env).map (·.2)=[assign (.Subscript (.Subscript (.Name t pt) ey ps) ek pos') X.env]:=by rfl):
  DS X (.Assign [.Subscript (.Subscript (.Name t pt) ey ps) ek pos'] ev pos) (Gs i fy fk fv):=by
 refine PS.imp (ps_asg hv (pg_sub (pe_ix ix_seq (pe_var hN hvt hd hcd) hy hp) hk set_list ha) hs hw h1) λσ H E h=>?_;obtain⟨H0,O0,O,ρ,j,h⟩:=h;unfold Gs at h;split at h
 ·rename_i rows y k d e1 e2 e3 e4;split at h
  ·rename_i row e5;by_cases hc:0<=y/\0<=k/\k<row.length
   ·rw[if_pos hc] at h;refine⟨ρ,O,j.inn,?_⟩;rw[e4];intro v H1 s1 rv;obtain⟨w,hw1,a,rs,rfl,R⟩:=j.inn.env.get i _ e1;refine⟨.ref a,hw1,ρ,O,(j.grow s1).inn,?_⟩;rw[e2];intro vy H2 s2 ry;rw[ry.int];have R2:=(R.same s1).same s2;have j2:=(j.grow s1).grow s2;have hyl:y.toNat<rs.length:=by rw[R.len];exact (z1b e5).1
    obtain⟨r,er⟩:∃r,rs[y.toNat]?=some r:=⟨_,aem hyl⟩;refine .inl ⟨a,rs.map V.ref,y,.ref r,rfl,rfl,SqL.of R2.at_,aa2 hc.1 (by rw[z2b,er];rfl),ρ,O,j2.inn,?_⟩;rw[e3];intro vk H3 s3 rk;have R3:=R2.same s3;have j3:=j2.grow s3;obtain⟨oR,xs,hH,rx⟩:=R3.row y.toNat r row er e5;have hlen:=rx.length;refine⟨r,xs,k,k.toNat,rfl,rk.int,hH,by unfold ixN;rw[if_pos hc.2.1,if_pos (by omega)],?_⟩;obtain⟨j4,r4⟩:=j3.adQ (Ue:=row.set k.toNat d) (xs':=xs.set k.toNat v) e1 hw1 R3 er e5 hH (aP.set ((rv.same s2).same s3) k.toNat rx);exact h _ _ _ j4 ((Same.dR ((s1.trans s2).trans s3)).trans r4)
   ·rw[if_neg hc] at h;exact h.elim
  ·exact h.elim
 ·exact h.elim
def Gu(f:aA->R D)(i:Nat):aA->So:=λρ=>fZ (f ρ) ρ λd=>match d with
 | .lst ds=>match rowsOf ds with
  |some rows=>if (ρ.set i none).all Iz then .nx (ρ.set i (some (.rws rows))) else .bad
  |none=> .bad
 |_=> .bad
end
section
variable{X:Cx}
theorem YF(i:Nat){x:Str}{cpos pos:Pos}{tg iter elt:aee}{ifs:List aee}{scope:afB}{fi:aA->R (List D)}{gt:D->aA->R aA}{ft:aA->R Bool}{fe:aA->R D}(hN:X.N.Nodup)(ts:List Str)(caps:List Nat)
  (hc:X.calm=true)(hb:sW X.env.scope scope ts X.N=true)(hcap:(dY scope).map (λx=>iT x X.N)=caps)
  (hi:DI X tg iter fi)(hk:jE ts.length gt)(hg:∀C s H ex,(bZ X scope ts C s H ex).N.Nodup->DG (bZ X scope ts C s H ex) tg gt)(ht:∀C s H ex,zM (bZ X scope ts C s H ex) ifs ft)(he:∀C s H ex,DEF (bZ X scope ts C s H ex) elt fe)
  (hix:X.N[i]?=some x:=by rfl)(hx:Loc X.env.scope x:=by first |exact aeM rfl |exact aeB rfl)(hf:X.fn x=true\/X.env.scope.names.lookup x=some .local:=by first |exact .inl rfl |exact .inr rfl)
  (hsw:agu (.ListComp elt [⟨tg,iter,ifs,0⟩] scope cpos) (some (.Name x pos')) pos.line X.env=pure true:=by rfl)
  (hs:∀x,afo iter X.env x=pure x:=by intro _;rfl):
  DS X (.Assign [.Name x pos'] (.ListComp elt [⟨tg,iter,ifs,0⟩] scope cpos) pos) (Gu (bA ts.length caps fi gt ft fe) i):=by
 intro pins s σ H E I h;obtain⟨H0,O0,O,ρ,j,h⟩:=h;rw[ahH _ _ _ _ hsw];refine ad4 (agG (ad4 ?_));show aec _ _ (comprehension (.ListComp elt [⟨tg,iter,ifs,0⟩] scope cpos) scope X.env _ (ahG []) false (eval iter X.env) (some (assign (.Name x pos') X.env)) >>=λ_=>pure ()) _ _ _;unfold Gu fZ at h;refine ad4 (zU (Q:=λv H'=>∃d,bA ts.length caps fi gt ft fe ρ= .ok d/\Same H H'/\MN X H (acN X.K) O H' d v) (Qr:=λ_ s'=>aec (model X.prog X.w) X.A (pure ()) (λ_ s1=>aec (model X.prog X.w) X.A (pure aiW) (SP X pins E) X.xe s1) X.xe s') ace ts caps hc hb hcap hi hk hg ht he hs I j.inn ?_ ?_)
 ·intro v H' s5 C m f acc hq I5 hns fC rel;obtain⟨d,ed,sm,Hs,a,ys,ds,rfl,rfl,s1,n1,k1,s2,e3,rs,e4,nd,al,rr⟩:=hq;rw[ed] at h;have h:oK X H0 O0 O H E (match rowsOf ds with
   |some rows=>if (ρ.set i none).all Iz then .nx (ρ.set i (some (.rws rows))) else .bad
   |none=> .bad):=h
  cases er:rowsOf ds with
  |none=>rw[er] at h;exact h.elim
  | some rows=>
   rw[er] at h;by_cases c:(ρ.set i none).all Iz=true
   ·simp only[if_pos c] at h;obtain⟨o,es,ep,ho,hd,hr⟩:=hns;have Ip:=I5.pinned (fp:=[C]) (λb hb=>by rw[aeD.mp hb];exact fC) (λb hb=>by rw[aeD.mp hb];exact⟨o,ho,λv z=>by rw[hd] at z;cases z⟩);show aec (model X.prog X.w) X.A (assign (.Name x pos') X.env acc) _ X.xe s5;refine ae0 (pg_name hN hix hx hf _ s5 σ H' (.ref a) acc (λσ' tL=>σ'=σ.set i (some (.ref a))/\tL=H') Ip rel ⟨rfl,rfl⟩) (λ_ s6 ⟨σ',tL,I',e1,e2⟩=>?_) λ_ _ z=>z;subst e1 e2;have pn:=(I'.pin (C,o) (aeC _ (aeC _ (mem_pinsAt (aeD.mpr rfl) ho)))).1;obtain⟨j2,r2⟩:=j.adR (z1b hix).1 sm (Same.free s1 n1) k1 (by rw[e3,e4]) nd (λr hr=>⟨Same.free s1 (al r hr).1,(al r hr).2⟩) (rr.fewer λ_ z=> .inl z) er c;exact⟨m,⟨o,es,ep,pn,hd,hr⟩,λh' sb=>ad9 (ad9 ⟨_,tL,(I'.unpinned).fp fC sb,h _ _ _ j2 r2⟩)⟩
   ·simp only[if_neg c] at h;exact h.elim
 ·cases e1:bA ts.length caps fi gt ft fe ρ with
  |bad=>rw[e1] at h;exact h
  |err c=>rw[e1] at h;exact h σ H O j
  |ok d=>exact λv H' sm r=>⟨d,rfl,sm,r⟩
end
section
variable{X:Cx}
abbrev ReT:=Hp->(ad5->Prop)->Hp->D->V->Prop
abbrev IK:=D->Nat->aA->Option aA
structure Kd(X:Cx)(Re:ReT)(put:IK):Prop where
 step:∀{H0:Hp} {O0 O:ad5->Prop} {H H':Hp} {ρ ρ':aA} {σ:St} {i:Nat} {d:D} {v:V},At X H0 O0 O H ρ σ->i<X.N.length->Same H H'->Re H O H' d v->put d i ρ=some ρ'->∃O',At X H0 O0 O' H' ρ' (σ.set i (some v))/\eG X.K O H O' H'/\∀a,O a->O' a
def YG:IK:=λd i ρ=>match d with
 | .lst ds=>some (ρ.set i (some (.lst ds)))
 |_=>none
theorem V9:Kd X (reF X.K) YG:=⟨λ{H0 O0 O H H' ρ ρ' σ i d v} j hi sm r e=>by
 obtain⟨a,ys,ds,rfl,rfl,n1,k1,e3,r⟩:=r;cases e;obtain⟨j2,r2⟩:=j.Yx hi sm n1 k1 e3 r;exact⟨_,j2,r2,λ_ z=> .inl z⟩⟩
theorem In.wide{O O':ad5->Prop}{H H':Hp}{ρ:aA}{σ:St}(j:In X O H ρ σ)(sm:Same H H')(rc:eG X.K O H O' H')(w:∀a,O a->O' a)(al:∀a,O' a->∃o,H' a=some o):In X O' H' ρ σ:=by
 have j1:=j.same sm;refine⟨⟨λk e h=>?_,j.env.sep,j1.env.lU⟩,al,j.len,j.jr⟩;obtain⟨v,q1,q2⟩:=j.env.get k e h;refine⟨v,q1,?_⟩;cases e with
 |val d=>exact Rep.go rc q2
 | lst ds=>
  obtain⟨a,xs,e1,o1,e2,r⟩:=q2;exact⟨a,xs,e1,w _ o1,sm _ _ e2,r.go rc⟩
 |obj t=>exact lR.same sm q2
 | rG kvs=>
  obtain⟨a,xs,e1,o1,e2,k,r⟩:=q2;exact⟨a,xs,e1,w _ o1,sm _ _ e2,k,r.go rc⟩
 | rws rows=>
  obtain⟨a,rs,e1,R⟩:=q2;exact⟨a,rs,e1,sm _ _ R.at_,w _ R.oa,R.nd,R.len,λi r row z1 z2=>let⟨o1,xs,q3,q4⟩:=R.row i r row z1 z2;⟨w _ o1,xs,sm _ _ q3,q4.go rc⟩⟩
def CQ(p q:IK)(i k:Nat)(f g:aA->R D):aA->So:=λρ=>fZ (f ρ) ρ λd=>match p d i ρ with
 |none=> .bad
 | some ρ1=>fZ (g ρ) ρ λe=>match q e k ρ1 with
  |none=> .bad
  |some ρ2=> .nx ρ2
section
variable{R1 R2 R3:ReT}{p q r:IK}{i k l:Nat}{f g u:aA->R D}{H0 H:Hp}{O0 O:ad5->Prop}{ρ:aA}{σ:St}{E:Ends}
theorem Wa{P:V->V->Hp->Prop}(K1:Kd X R1 p)(K2:Kd X R2 q)(hi:i<X.N.length)(hk:k<X.N.length)(j:At X H0 O0 O H ρ σ)(h:oK X H0 O0 O H E (CQ p q i k f g ρ))
  (fin:∀v w H2,(∀H3,Same H2 H3->E.nx ((σ.set i (some v)).set k (some w)) H3)->P v w H2):ZQ X R1 f σ H λv H1=>ZQ X R2 g σ H1 λw H2=>P v w H2:=by
 refine⟨ρ,O,j.inn,?_⟩;unfold CQ at h;cases e1:f ρ with
 |bad=>rw[e1] at h;exact h
 |err c=>rw[e1] at h;exact h σ H O j
 | ok d =>
  rw[e1] at h;simp only[fZ] at h;cases e2:p d i ρ with
  |none=>simp only[e2] at h;exact h.elim
  | some ρ1=>
   simp only[e2] at h;intro v H1 s1 rv;obtain⟨O1,j1,r1,w1⟩:=K1.step j hi s1 rv e2;refine⟨ρ,O1,j.inn.wide s1 r1 w1 j1.inn.al,?_⟩;cases e3:g ρ with
   |bad=>simp only[e3] at h;exact h
   |err c=>simp only[e3] at h;exact Fx.same (h σ H O j) s1
   | ok e=>
    simp only[e3] at h;cases e4:q e k ρ1 with
    |none=>simp only[e4] at h;exact h.elim
    | some ρ2=>
     simp only[e4] at h;intro w H2 s2 rw2;obtain⟨O2,j2,r2,w2⟩:=K2.step j1 hk s2 rw2 e4;exact fin v w H2 λH3 s3=>h _ H3 O2 (j2.grow s3) ((r1.trans r2).trans (Same.dR s3))
end
section
variable{R1 R2 R3:ReT}{p q r:IK}{f g u:aA->R D}{a b c:aee}{pos:Pos}
theorem YH(i k:Nat){x y:Str}{px py pt:Pos}{kt k2 pt2}(hc:X.calm=true)(hN:X.N.Nodup)(K1:Kd X R1 p)(K2:Kd X R2 q)(ha:Rq X R1 a f)(hb:Rq X R2 b g)(hi:X.N[i]?=some x:=by rfl)(hk:X.N[k]?=some y:=by rfl)(hik:i≠k:=by decide)
  (hx:X.env.scope.names.lookup x=some .local:=by rfl)(hy:X.env.scope.names.lookup y=some .local:=by rfl)
  (h1:aea [a,b] X.env=(false,eval a X.env)::aea [b] X.env:=by rfl)(h2:aea [b] X.env=(false,eval b X.env)::aea [] X.env:=by rfl)
  (hw:afV [.Tuple [.Name x px,.Name y py] kt pt] (.Tuple [a,b] k2 pt2) X.env=pure (some [x,y]):=by rfl)
  (hs:afU [.Tuple [.Name x px,.Name y py] kt pt] (.Tuple [a,b] k2 pt2) pos.line X.env=pure false:=by rfl):
  DS X (.Assign [.Tuple [.Name x px,.Name y py] kt pt] (.Tuple [a,b] k2 pt2) pos) (CQ p q i k f g):=by
 refine PS.imp (ps_par hc hN hi hk hik hx hy (pa_cons ha (pa_cons hb pa_nil h2) h1) hw hs) λσ H E h=>?_;obtain⟨H0,O0,O,ρ,j,h⟩:=h;exact Wa K1 K2 (z1b hi).1 (z1b hk).1 j h λv w H2 z=>⟨v,w,rfl,z H2 (Same.refl _)⟩
end
end
section
variable{X:Cx}{pos:Pos}
theorem aP.erase{O:ad5->Prop}{H:Hp}:∀{ds:List D} {xs:List V} (n:Nat),aP K O H ds xs->aP K O H (ds.eraseIdx n) (xs.eraseIdx n)
 | [],_,n,h=>by
  rw[h.nil_inv,aiy,aiy];exact .nil
 | d ::ds,xs,n,h=>by
  simp only[aP] at h;obtain⟨x,r,rfl,h2,h3⟩:=h;cases n with
  |zero=>exact h3
  | succ n=>
   simp only[List.eraseIdx_cons_succ,aP];exact⟨x,_,rfl,h2,aP.erase n h3⟩
def setPop(i k:Nat)(fp fv:aA->R D):aA->So:=λρ=>match ρ[i]?,ρ[k]?,fp ρ,fv ρ with
 | some (some (.lst row)),some (some (.lst left)),.ok (.int p),.ok d=>match left[p.toNat]? with
  |some (.int c)=>if 0<=p/\p<1000000/\0<=c/\c<row.length then .nx ((ρ.set k (some (.lst (left.eraseIdx p.toNat)))).set i (some (.lst (row.set c.toNat d)))) else .bad
  |_=> .bad
 |_,_,_,_=> .bad
theorem Wb(i k:Nat){x y:Str}{ep ev:aee}{fp fv:aA->R D}{px py apos cpos:Pos}(hp:DE X ep fp)(hv:DE X ev fv)(hN:X.N[i]?=some x:=by rfl)(hK:X.N[k]?=some y:=by rfl)(hik:i≠k:=by decide)
  (hvx:Vis X.env.scope x:=by first |exact aeM rfl |exact aeB (aeM rfl) |exact aeB (aeB rfl))(hvy:Vis X.env.scope y:=by first |exact aeM rfl |exact aeB (aeM rfl) |exact aeB (aeB rfl))
  (hd:(x ==("__debug__" :Str))=false:=by decide)(hcd:(x ==("__classdict__" :Str))=false:=by decide)(Vp:(y ==("__debug__" :Str))=false:=by decide)(adS:(y ==("__classdict__" :Str))=false:=by decide)
  (hbase:aht (.Name y py) "pop" X.env (eval (.Name y py) X.env)=eval (.Name y py) X.env:=by rfl)
  (hfew:((aeR cpos (aea [ep] X.env)).all (λx=> !x.1) && (agW cpos (agk [] X.env)).all (λx=>x.1.isSome)
   && decide ([ep].length+([]:List agc).length+(if ([]:List agc).isEmpty then 0 else 1)<30))=true:=by rfl)
  (hline:(apos.endLine ==cpos.line)=true:=by rfl) (hs1:aea [ep] X.env=(false,eval ep X.env)::aea [] X.env:=by rfl) (hplain:(aeR cpos (aea [] X.env)).any (·.1)=false:=by rfl)
  (ha:∀v,assign (.Subscript (.Name x px) (.Call (.Attribute (.Name y py) "pop" apos) [ep] [] cpos) pos') X.env v=(do
   let ov <-holding [v] (eval (.Name x px) X.env)
   let iv <-holding [v,ov] (eval (.Call (.Attribute (.Name y py) "pop" apos) [ep] [] cpos) X.env)
   ahC pos'
   holding [v,ov,iv] (setItem ov iv v)
   release [v,ov,iv] []):=by intro _;rfl)
  (hs:afU [.Subscript (.Name x px) (.Call (.Attribute (.Name y py) "pop" apos) [ep] [] cpos) pos'] ev pos.line X.env=pure false:=by rfl) (hw:afV [.Subscript (.Name x px) (.Call (.Attribute (.Name y py) "pop" apos) [ep] [] cpos) pos'] ev X.env=pure none:=by rfl)
  (h1:(afT [.Subscript (.Name x px) (.Call (.Attribute (.Name y py) "pop" apos) [ep] [] cpos) pos'] X.env).map (·.2)=[assign (.Subscript (.Name x px) (.Call (.Attribute (.Name y py) "pop" apos) [ep] [] cpos) pos') X.env]:=by rfl):
  DS X (.Assign [.Subscript (.Name x px) (.Call (.Attribute (.Name y py) "pop" apos) [ep] [] cpos) pos'] ev pos) (setPop i k fp fv):=by
 refine PS.imp (ps_asg hv (pg_sub (pe_var hN hvx hd hcd) (pe_bm PySem.F.plainAttrs_list PySem.F.slot_list_pop PySem.F.type_list_pop mt_popAt (pe_var hK hvy Vp adS) (pa_cons hp pa_nil hs1) hbase hfew hline hs1 hplain) set_list ha) hs hw h1) λσ H E h=>?_;obtain⟨H0,O0,O,ρ,j,h⟩:=h;unfold setPop at h;split at h
 ·rename_i row left p d e1 e2 e3 e4;split at h
  ·rename_i c e5;by_cases hc:0<=p/\p<1000000/\0<=c/\c<row.length
   ·rw[if_pos hc] at h;refine⟨ρ,O,j.inn,?_⟩;rw[e4];intro v H1 s1 rv;have j1:=j.grow s1;obtain⟨_,hx1,a,xs,rfl,hOa,hHa,ra⟩:=j1.inn.env.get i _ e1;obtain⟨_,hy1,b,ys,rfl,hOb,hHb,rb⟩:=j1.inn.env.get k _ e2;refine⟨.ref a,hx1,.ref b,hy1,.inl ⟨rfl,ys,SqL.of hHb⟩,ρ,O,j1.inn,?_⟩;rw[e3];intro vp H2 s2 rp;rw[rp.int];have j2:=j1.grow s2;have rb2:=rb.same s2;have hl:=rb2.length;have hpl:=(z1b e5).1;obtain⟨z,hz,rz⟩:=rb2.get e5;have hz2:=rz.int;subst hz2;have hix:ixN ys.length p=some p.toNat:=by unfold ixN;rw[if_pos hc.1,if_pos (by omega)]
    refine⟨b,ys,p,p.toNat,.int c,rfl,rfl,s2 _ _ hHb,by omega,by omega,(ixN_seq hix).1,hz,?_⟩;obtain⟨j3,r3⟩:=j2.chg (o:= .lst (ys.eraseIdx p.toNat)) (en:= .lst (left.eraseIdx p.toNat)) e2 rfl hy1 hOb (s2 _ _ hHb) trivial rfl λr=>⟨b,_,rfl,hOb,upd_same,(aP.erase p.toNat rb2).go r⟩;have e1':(ρ.set k (some (.lst (left.eraseIdx p.toNat))))[i]?=some (some (.lst row)):=by rw[z1e (aeh hik)];exact e1
    obtain⟨_,hx3,a3,xs3,e6,hO3,hH3,ra3⟩:=j3.inn.env.get i _ e1';rw[hx1] at hx3;cases hx3;cases e6;have hl3:=ra3.length;refine⟨a,xs3,c,c.toNat,rfl,rfl,hH3,by unfold ixN;rw[if_pos hc.2.2.1,if_pos (by omega)],?_⟩;obtain⟨j4,r4⟩:=j3.chg (o:= .lst (xs3.set c.toNat v)) (en:= .lst (row.set c.toNat d)) e1' rfl hx1 hO3 hH3 trivial rfl λr=>⟨a,_,rfl,hO3,upd_same,(aP.set ((rv.same s2).go r3) c.toNat ra3).go r⟩;exact h _ _ _ j4 (((Same.dR (s1.trans s2)).trans r3).trans r4)
   ·rw[if_neg hc] at h;exact h.elim
  ·exact h.elim
 ·exact h.elim
end
end Pu
namespace PyProof.Rows
open PySem PySem.Spec
section
variable{prog:aek}{w:aep}{A:aer}{E:ad7->ad8->Prop}{s:ad8}
theorem Qq{l:ad5}{vs:List ad7}{Q:List ad7->ad8->Prop}(hl:IsTup s.heap l vs.toArray)
  (h:Q vs {s with heap:=(s.heap.push (afH "list" #[] 0)).update s.heap.objs.size (afd (· ++vs.toArray))})(hsz:vs.length<=sizeLine):
  aec (model prog w) A (collect (.ref l)) Q E s:=by
 obtain⟨o,ho,hc,n,hd⟩:=id hl;unfold collect;refine ad4 (wpAny_runValue (ag9 entry_proto_collect' ?_));show aec _ _ (do again (.builtin "list.__iadd__" ⟨[<-ahG [],.ref l],[]⟩)) _ _ s;refine ad4 (aio (ad9 ⟨Code.quiet_builtin _ (by decide +kernel),ag9 entry_list_iadd' ?_⟩));show aec _ _ (agV (.ref s.heap.objs.size) (.ref l) (.ref s.heap.objs.size)) _ _ {s with heap:=s.heap.push (afH "list" #[] 0)};unfold agV;have ho':(s.heap.push (afH "list" #[] 0)).get? l=some o:=z1a _ ho;refine ad4 (agR (T:= "tuple") ⟨o,ho',hc⟩ ?_);have ht:(aej "tuple" ==aej "tuple")=true:=by rfl
 rw[if_pos (by rw[ht];simp)];refine ad4 (listItems_at ho' hd ?_);refine ad4 (listItems_at (xs:= #[]) (n:=0) (z1f _ rfl) rfl ?_);rw[if_neg (by simp)];refine ad4 (ain (xs:= #[]) (n:=0) (z1f _ rfl) rfl ?_ (afN _) (by show (#[]++vs.toArray).size<=sizeLine+1;simp only[Array.size_append,z1c,afQ];omega));refine ad9 ?_;show aec (model prog w) A (do
   let o <-load s.heap.objs.size
   match o.data with
   | .seq xs _=>pure xs.toList
   |_=>unsupported "internal:collect") Q E {s with heap:=(s.heap.push (afH "list" #[] 0)).update s.heap.objs.size (afd (· ++vs.toArray))}
 refine ad4 (wpAny_load (ahR (z1f _ rfl) _) ?_);show aec _ _ (pure ((#[]:Array ad7)++vs.toArray).toList) Q E _;rw[show ((#[]:Array ad7)++vs.toArray).toList=vs by simp];exact ad9 h
theorem Ug{l:ad5}{vs:List ad7}{ns:List Int}{Q:ad7->ad8->Prop}(hl:IsTup s.heap l vs.toArray)(hI:afS vs ns)(h64:vs.length<64)
  (h:∀(out:Array ad7) (ns':List Int),afS out.toList ns'->ns'.Perm ns->ns'.Pairwise (· <= ·)->Q (.ref (s.heap.objs.size+1)) {s with heap:=sortedAll s.heap vs out}):
  aec (model prog w) A (call (.builtin "sorted") [.ref l]) Q E s:=by
 refine aiF kind_sorted plain_sorted entry_sorted (args_sorted1 _) ?_;unfold afA.«sorted»;refine ad4 (m:=checkCount "sorted" 1 1 _) (ad9 ?_);refine ad4 (Qq hl ?_ (by rw[aft];omega));refine ad4 (aio ?_);have hsz:((s.heap.push (afH "list" #[] 0)).update s.heap.objs.size (afd (· ++vs.toArray))).objs.size=s.heap.objs.size+1:=by
  rw[Heap.size_update,size_push']
 have hoL:(((s.heap.push (afH "list" #[] 0)).update s.heap.objs.size (afd (· ++vs.toArray))).push (afH "list" vs.toArray 0)).get? (s.heap.objs.size+1)=some (afH "list" vs.toArray 0):=by
  rw[<-hsz];exact z1f _ rfl
 show aec _ _ _ _ _ {s with heap:=((s.heap.push (afH "list" #[] 0)).update s.heap.objs.size (afd (· ++vs.toArray))).push (afH "list" vs.toArray 0)};rw[hsz];refine ad4 (afv (ae5 slot_list_sort ⟨_,hoL,rfl⟩ entry_list_sort (list_sort_tree hoL hI h64 λout ns' a1 a2 a3=>⟨_,rfl,?_⟩) (args_list_sort _)));exact ad9 ⟨_,rfl,h out ns' a1 a2 a3⟩
end
end PyProof.Rows
namespace Pu
open PySem PySem.Spec L2
open PyProof.Rows hiding St
section
variable{X:Cx}
theorem Uh:CallR X (.builtin "sorted") (λxs H Q=>∃(a:ad5) (ns:List Int),xs=[.ref a]/\SqT X.K H a (ns.map V.int)/\ns.length<64/\∀B,H B=none->Q (.ref B) (upd H B (.lst ((JT ns).map V.int)))):=by
 intro pins s σ H xs us Q I r h;obtain⟨a,ns,rfl,hq,h64,q⟩:=h;obtain⟨u,rfl,rx⟩:=vals1 r;cases rx;obtain⟨its,rv,p,hz⟩:=I.tuple hq;have hI:=Ik rv;have hl:=rv.length;rw[z1g] at hl;refine Ug p hI (by omega) λout ns' a1 a2 a3=>?_;have e:=Em a2 a3;subst e;obtain⟨c,he⟩:=sortedAll_at s.heap its out;have hf:H (s.heap.objs.size+1)=none:=I.hok.fresh (ah4 _);refine⟨.ref (s.heap.objs.size+1),upd H (s.heap.objs.size+1) (.lst ((JT ns).map V.int)),I.laid (t':=s.toks) (λb o e=>sortedAll_old e) (ah4 _) ?_,rfl,q _ hf⟩;refine⟨?_,out.toList,c,Rn a1,by simpa using he⟩;rw[z1g,a2.length_eq];exact z0b (by omega) (z0e eU)
def tR:List D->R D
 | [.tup es]=>match intsOf es with
  |some ns=>if ns.length<64 then .ok (.lst ((JT ns).map .int)) else .bad
  |none=> .bad
 |_=> .bad
theorem YJ:CallD X (.builtin "sorted") tR:=by
 refine⟨_,Uh,λρ O σ H Q xs ds j r h=>?_⟩;unfold tR at h;split at h
 ·rename_i es;obtain⟨x,rfl,rx⟩:=r.one;obtain⟨a,ys,rfl,hq,rs⟩:=rx.tup;cases e:intsOf es with
  |none=>rw[e] at h;exact h.elim
  | some ns=>
   rw[e] at h;have h:good X (rD X) O (if ns.length<64 then R.ok (.lst ((JT ns).map .int)) else .bad) σ H Q:=h;by_cases hl:ns.length<64
   ·rw[if_pos hl] at h;have e2:=zR e rs;subst e2;exact⟨a,ns,rfl,hq,hl,λB hB=>h _ _ (Same.upd hB) (Rep.je hB (j.mJ hB) tK)⟩
   ·rw[if_neg hl] at h;exact h.elim
 ·exact h.elim
end
end Pu
namespace PySem
open AutoSeq1 (wpAny_loadPart')
open MeetsSeq MeetsSeq2 SeqAt
theorem IV{M:Model}{A:aer}{E:ad7->ad8->Prop}{s:ad8}{β:Type}(f:Nat->β->Sem (ForInStep β))(N:Nat)(I:Nat->β->ad8->Prop)(Q:β->ad8->Prop)
  (turn:∀i b s,i<N->I i b s->aec M A (f i b) (λr s'=>match r with | .yield b'=>I (i+1) b' s' | .done b'=>Q b' s') E s)
  (fin:∀b s,I N b s->Q b s)(b:β)(h:I 0 b s):aec M A (forIn [:N] b f) Q E s:=by
 rw[Std.Legacy.Range.forIn_eq_forIn_range'];simp only[Std.Legacy.Range.size,agT,aif,Nat.div_one];refine aiQ f (λrest b s'=>∃i,rest=af5 i (N - i)/\i<=N/\I i b s') Q ?_ ?_ _ b ⟨0,rfl,afN _,h⟩
 ·rintro x rest b s' ⟨i,hr,hi,hI⟩
  have hlt:i<N:=by
   rcases Nat.lt_or_ge i N with z |z
   ·exact z
   ·rw[Nat.sub_eq_zero_of_le z] at hr;cases hr
  have e:N - i=(N - (i+1))+1:=by omega
  rw[e,af0] at hr;injection hr with h1 h2;subst h1;refine ae0 (turn x b s' hlt hI) (λr s2 q=>?_) λ_ _ z=>z;cases r with
  |yield b'=>exact⟨x+1,h2,hlt,q⟩
  |done b'=>exact q
 ·rintro b s' ⟨i,hr,hi,hI⟩
  have:i=N:=by
   rcases Nat.lt_or_ge i N with z |z
   ·have e:N - i=(N - (i+1))+1:=by omega
    rw[e,af0] at hr;cases hr
   ·omega
  subst this;exact fin b s' hI
theorem Wc(l:ad5)(items:Array ad7)(n:Nat)(dd:Option ad5)(sl:Array (Option ad7))(x:ad7)(e:ad7->Bool)(j:Nat)(hj:j<items.size)
  (hit:e items[j]=true)(hno:∀m (hm:m<items.size),m<j->e items[m]=false):
  Meets (afA.«tuple.index» ⟨[.ref l,x],[]⟩)
   (λA R s=>s.heap.get? l=some {cls:= .type "tuple",dict:=dd,data:= .seq items n,slots:=sl}/\(∀y,y∈items->EqAt A.in1 s y x (e y))/\R (.ok (.ret (.int j s.toks))) {s with toks:=s.toks+1}):=
 .of_wp λprog w A R s h=>by
  obtain⟨hp,g,d,tk,os⟩:=s;obtain⟨hl,he,h⟩:=h
  wp_walk using afy hl,IV _ _ (λi b s'=>b.1=none/\i<=j/\s'=⟨hp,g,d,tk,os⟩) _
  case turn=>
   rintro i b s' hi ⟨hb,hij,rfl⟩
   have hi':i<items.size:=by simpa using hi
   rw[Array.getElem?_eq_getElem hi'];refine ad4 (he _ (Array.getElem_mem hi') prog w _ _ ?_);by_cases hjj:i=j
   ·subst hjj;rw[hit]
    wp_walk
    exact⟨_,rfl,h⟩
   ·rw[hno i hi' (by omega)]
    wp_walk
    exact⟨rfl,by omega,rfl⟩
  case fin=>
   rintro b s' ⟨hb,hij,rfl⟩
   simp at hij;omega
  case h=>
   exact⟨rfl,afN _,rfl⟩
end PySem
namespace Pu
open PySem PySem.Spec L2 PySem.SeqAt
open PyProof.Rows hiding St
section
variable{X:Cx}{e1 e2:aee}{f g:aA->R D}
theorem Wd(hu:X.A.units+60<afJ):MtR X "tuple.index" (λx xs H Q=>∃(l:ad5) (ds:List D) (vs:List V) (O O':ad5->Prop) (d:D) (y:V),x= .ref l/\xs=[y]/\SqT X.K H l vs/\aP X.K O H ds vs/\Rep X.K O' H d y/\(∀d'∈ds,dep d'<=40)/\ds.findIdx (dF · d)<ds.length/\Q (.int (ds.findIdx (dF · d):Nat)) H):=by
 intro pins s σ H x xs v us Q I rx rv h;obtain⟨l,ds,vs,O,O',d,y,rfl,rfl,hq,rs,re,hd,hlt,q⟩:=h;cases rx;obtain⟨u,rfl,ru⟩:=rv.one;obtain⟨its,r',pl,hz⟩:=I.tuple hq;obtain⟨⟨cls,dd,data,sl⟩,ho,hc,n,hdt⟩:=id pl;simp only at hc hdt;subst hc hdt;obtain⟨e,he⟩:=Yw (A:=X.A.in1) I re ru (O:=O) λd' v' w hd' r q=>Eh I 40 _ d' hd' (by simp;omega) d v' y w u r re q ru;obtain⟨h1,h2⟩:=he ds vs its rs r' hd;have hlen:its.length=ds.length:=by have:=congrArg ah3 h1;simpa using this
 have hat:∀(i:Nat) (hi:i<its.length),e its[i]=dF (ds[i]'(by omega)) d:=λi hi=>by
  have:=congrArg (λl=>l[i]?) h1;simp only[z2b,aem hi,aem (show i<ds.length by omega),af7] at this;exact aeg this
 refine af6 PySem.F.slot_tuple_index ⟨_,ho,rfl⟩ PySem.F.entry_tuple_index (PySem.F.args_tuple_index_2 _ _) (Wc l its.toArray n dd sl u e (ds.findIdx (dF · d)) (by simp;omega) ?_ λm hm hj=>?_) ⟨ho,λw hw=>h2 w (by simpa using hw),?_⟩
 ·rw[List.getElem_toArray,hat _ (by omega)];exact List.findIdx_getElem (w:=hlt)
 ·rw[List.getElem_toArray,hat _ (by simpa using hm)];have:=List.not_of_lt_findIdx hj;simpa using this
 ·exact⟨.int _,H,I.tok _,⟨_,rfl⟩,q⟩
def Lz(ds:List D)(d:D):R D:=if ds.all (λd'=>decide (dep d'<=40))=true/\ds.findIdx (dF · d)<ds.length then .ok (.int (ds.findIdx (dF · d):Nat)) else .bad
def acf(f g:aA->R D):aA->R D:=λρ=>(f ρ).bind λx=>match x with
 | .tup ds=>(g ρ).bind λy=>Lz ds y
 |_=> .bad
theorem Wf{apos cpos:Pos}(hu:X.A.units+60<afJ)(h1:DE X e1 f)(h2:DE X e2 g)
  (hbase:aht e1 "index" X.env (eval e1 X.env)=eval e1 X.env:=by rfl)
  (hfew:((aeR cpos (aea [e2] X.env)).all (λx=> !x.1) && (agW cpos (agk [] X.env)).all (λx=>x.1.isSome)
   && decide ([e2].length+([]:List agc).length+(if ([]:List agc).isEmpty then 0 else 1)<30))=true:=by rfl)
  (hline:(apos.endLine ==cpos.line)=true:=by rfl) (hs1:aea [e2] X.env=(false,eval e2 X.env)::aea [] X.env:=by rfl) (hplain:(aeR cpos (aea [] X.env)).any (·.1)=false:=by rfl):
  DE X (.Call (.Attribute e1 "index" apos) [e2] [] cpos) (acf f g):=by
 refine PE.imp (pe_bm PySem.F.plainAttrs_tuple PySem.F.slot_tuple_index PySem.F.type_tuple_index (Wd hu) h1 (pa_cons h2 pa_nil hs1) hbase hfew hline hs1 hplain) λσ H Q h=>?_;obtain⟨ρ,O,j,h⟩:=h;refine go j h λd v H1 e1 s1 r1 j1 h1=>?_;cases d with
 | tup ds=>
  obtain⟨a,xs,rfl,hq,rs⟩:=r1.tup;refine⟨.inr (.inl ⟨rfl,xs,hq⟩),?_⟩;refine go j1 h1 λdy y H2 e2 s2 r2 j2 h2=>?_;obtain⟨a',xs',ea,hq',rs'⟩:=(r1.same s2).tup;cases ea;have h2:good X (rD X) O (if ds.all (λd'=>decide (dep d'<=40))=true/\ds.findIdx (dF · dy)<ds.length then .ok (.int (ds.findIdx (dF · dy):Nat)) else .bad) σ H2 Q:=h2;by_cases hall:ds.all (λd'=>decide (dep d'<=40))=true/\ds.findIdx (dF · dy)<ds.length
  ·rw[if_pos hall] at h2;exact⟨a,ds,xs',O,O,dy,y,rfl,rfl,hq',rs',r2,λd m=>of_decide_eq_true (agA.mp hall.1 d m),hall.2,fin h2 (cB _)⟩
  ·rw[if_neg hall] at h2;exact h2.elim
 |_=>exact h1.elim
end
end Pu
namespace Pu
open PySem PySem.Spec L2
open PyProof.Rows hiding St
section
variable{X:Cx}{es:List aee}{fa:aA->R (List D)}{pos:Pos}
def LC(fa:aA->R (List D)):aA->R D:=λρ=>match fa ρ with
 | .ok ds=>if ds.length<=1000000 then .ok (.lst ds) else .bad
 | .err c=> .err c
 | .bad=> .bad
theorem RQ(ha:DA X es fa):DEF X (.List es pos) (LC fa):=by
 refine PE.imp (HY ha) λσ H Q h=>?_;obtain⟨ρ,O,j,h⟩:=h;refine⟨ρ,O,j,?_⟩;unfold LC at h;cases e:fa ρ with
 |bad=>rw[e] at h;exact h
 |err c=>rw[e] at h;exact h
 | ok ds=>
  rw[e] at h;intro vs H1 s1 r1;by_cases hl:ds.length<=1000000
  ·simp only[if_pos hl] at h;exact⟨by rw[<-r1.length];exact z0b hl dJ,λp hp hk=>h _ _ (s1.trans (Same.upd hp)) ⟨p,vs,ds,rfl,rfl,Same.free s1 hp,hk,upd_same,r1.acd hp hk⟩⟩
  ·simp only[if_neg hl] at h;exact h.elim
end
section
variable{X:Cx}{a:aee}{p pos p2 pos2:Pos}{fa:aA->R (List D)}
theorem Ui(hc:X.calm=true):CallR X (.type "list") (λxs H Q=>∃(b:ad5) (i j:Int),xs=[.ref b]/\H b=some (.rng i j)/\-1000<=i/\i<=1000/\-1000<=j/\j<=1000/\∀B,H B=none->X.K.lookup B=none->Q (.ref B) (upd H B (.lst ((ad6 (j - i).toNat).map λ(k:Nat)=>V.int (i+(k:Int)))))):=by
 intro pins s σ H xs us Q I r h;obtain⟨b,i,j,e0,hb,h0,h1,h2,h3,q⟩:=h;subst e0;obtain⟨u,rfl,rx⟩:=vals1 r;cases rx;obtain⟨t,u,v,hr⟩:=(show ObjOk X.prog X.w H s.heap b (.rng i j) from I.hok b _ hb);have hn:afO i j 1=(((j - i).toNat:Nat):Int):=by rw[ahs];split <;> omega
 refine call_list_range (I.ok.hd hc) hr (small_one (by omega) (by omega) (by omega) (by omega)) hn (by omega) λh' tk acc c' hk he hacc=>?_;have hf:H s.heap.objs.size=none:=I.hok.fresh (z0g _);refine⟨.ref s.heap.objs.size,_,I.laid (t':=tk) (o:= .lst ((ad6 (j - i).toNat).map λ(k:Nat)=>V.int (i+(k:Int)))) hk (z0g _) ⟨?_,acc.toList,c',J8 hacc,by simpa using he⟩,rfl,q _ hf (Inv.XJ I)⟩;rw[z1g,z2d];exact z0b (by omega) (z0e eU)
theorem Wg(hc:X.calm=true)(hg:Gl X "list")(hm:X.mg "list" =none)(hg2:Gl X "range")(hm2:X.mg "range" =none)(ha:DA X [a] fa)(hs2:aea [a] X.env=[(false,eval a X.env)]:=by rfl)
  (he:aea [.Call (.Name "range" p) [a] [] pos] X.env=(false,eval (.Call (.Name "range" p) [a] [] pos) X.env)::aea [] X.env:=by rfl)(hpl:(aeR pos2 (aea [] X.env)).any (·.1)=false:=by rfl):
  DEF X (.Call (.Name "list" p2) [.Call (.Name "range" p) [a] [] pos] [] pos2) (aD rN fa):=by
 refine PE.imp (pe_callTy (Ui hc) hg hm boot_list (pa_cons (Gg hg2 hm2 ha hs2) pa_nil he) (by decide) (by decide) he hpl) λσ H Q q=>?_;obtain⟨ρ,O,j,q⟩:=q;refine go j q λds vs H1 e1 s1 r1 j1 h1=>?_;unfold rN at h1;split at h1
 ·obtain⟨x,rfl,rx⟩:=r1.one;rename_i i;by_cases hi:0<=i/\i<=1000
  ·rw[if_pos hi] at h1;refine⟨i,by rw[rx.int],hi.1,hi.2,λq hq=>⟨q,0,i,rfl,upd_same,by omega,by omega,by omega,hi.2,λB hB hk=>?_⟩⟩;have s2:Same H1 (upd H1 q (.rng 0 i)):=Same.upd hq;rw[Int.sub_zero];exact h1 _ _ (s2.trans (Same.upd hB)) ⟨B,_,_,rfl,rfl,Same.free (s1.trans s2) hB,hk,upd_same,xW⟩
  ·rw[if_neg hi] at h1;exact h1.elim
 ·exact h1.elim
end
end Pu
namespace Af
open PySem PySem.Spec L2 Pu
open PyProof.Rows hiding St
abbrev gv(n:Nat):aA->R D:=λρ=>cj ρ n
abbrev ci(i:Int):aA->R D:=λ_=> .ok (.int i)
abbrev nA:aA->R (List D):=λ_=> .ok []
abbrev tT:aA->R Bool:=λ_=> .ok true
def gZ(c t:Str):Bool:=(c == "NoWidth" && (["NoWidth","SeamError","ValueError"]:List Str).contains t) || (c == "NoTable" && (["NoTable","SeamError","ValueError"]:List Str).contains t) || false
theorem Ag{c t:Str}(h:gZ c t=true):c= "NoWidth"\/c= "NoTable" :=by
 unfold gZ at h;simp only[Bool.or_eq_true,ae6,beq_iff_eq,afg,or_false,or_assoc] at h;rcases h with h |h
 ·exact .inl h.1
 ·exact .inr (h.1)
def Ah:aA->So:=(aR (bB (bin (ci 7) (gv 1) gO) (aH 3)) (aR (dU (cg (bin (gv 0) (dM nA) iC)) (aR (bB (bin (gv 0) (bin (gv 1) (aD cC (ak (gv 0) nA)) gF) bW) (aH 3)) (aR (bB (bin (gv 1) (aD cC (ak (gv 0) nA)) gP) (aH 4)) (aR (dU (lV (cg (bin (gv 3) (bin (ci 10) (ci 18) vd) LR)) (cg (bin (gv 4) (ci 60) ltI))) (aR (bB (bin (gv 3) (bin (ci 10) (ci 18) vd) gP) (aH 5)) (aR (iR (lV (cg (bin (gv 5) (ci 0) rH)) (cg (bin (gv 4) (ci 0) rH))) (aR (bB (bin (gv 5) (ci 1000000) gP) (aH 5)) (bB (bin (gv 4) (ci 1) cW) (aH 4))) 64) (dU (cg (bin (gv 5) (ci 0) rH)) (retS (bin (bin (gv 5) (ci 1000000) gF) (gv 2) gF)) So.nx))) So.nx) (bB (bin (gv 3) (bin (ci 6553) (bin (gv 1) (aD cC (ak (gv 0) nA)) gP) gO) fW) (aH 3))))) So.nx) (aR (bB (bin (bin (bin (bin (gv 3) (ci 2147483563) gF) (ci 69069) gO) (bin (ci 104723) (bin (gv 1) (ci 1) fW) gO) fW) (ci 2147483563) gF) (aH 3)) (aR (bB (bin (bin (bin (gv 3) (gv 3) gO) (bin (gv 3) (ci 3) gP) fW) (ci 2147483399) gF) (aH 3)) (retS (bin (bin (bin (bin (bin (gv 3) (gv 3) gO) (bin (gv 3) (ci 7) gP) fW) (ci 2147483647) gF) (ci 11) gP) (gv 2) gF))))))
def dI:List D->R D:=cu 3 Ah
def za:aA->So:=(retS (bin (dM (ak (λ_=> .ok (.str "worth")) (ak (λ_=> .ok (.str "joins")) nA))) (aD (aV dI 3) (ak (gv 0) (ak (gv 1) (ak (ci 2) nA)))) bW))
def qL:List D->R D:=cu 0 za
def Gv:aA->So:=(retS (zF (xK Cz (gv 0)) (abD (xK xM (gv 0)))))
def jw:List D->R D:=cu 0 Gv
def wQ:aA->So:=(aR (dU (sU (kh (cg (xK eO (gv 0)))) (kh (cg (aD nG (ak (bA 1 [] (dO (gv 0)) (aH 0) tT (aD (aV jw 1) (ak (gv 0) nA))) nA))))) (retS (λ_=> .ok (.bl false))) So.nx) (retS (bin (aD tR (ak (gv 0) nA)) (aD rN (ak (gv 1) nA)) kO)))
def fH:List D->R D:=cu 0 wQ
def Nv:aA->So:=(aR (dU (sU (kh (cg (xK eO (gv 0)))) (cg (bin (aD cC (ak (gv 0) nA)) (gv 2) iC))) (retS (λ_=> .ok (.bl false))) So.nx) (aR (dU (kh (cg (aD nG (ak (bA 1 [1] (dO (gv 0)) (aH 0) tT (zF (aD (aV jw 1) (ak (gv 0) nA)) (zE (ci 0) (gv 0) (gv 1) wD ltI))) nA)))) (retS (λ_=> .ok (.bl false))) So.nx) (retS (aD nG (ak (bA 1 [0] (λρ=>((ak (ci 1) (ak (gv 2) nA)) ρ).bind HW) (aH 0) tT (bin (aD qK (ak (bin (bin (gv 1) (gv 0) bW) (bin (gv 1) (bin (gv 0) (ci 1) cW) bW) cW) nA)) (ci 1) wD)) nA)))))
def xZ:List D->R D:=cu 0 Nv
def Ai:aA->So:=(retS (aD cC (ak (bA 1 [1] (dO (jj (gv 0) (λ_=> .ok none) (λρ=>((acf (gv 0) (gv 1)) ρ).bind qy))) (aH 0) (cg (bin (gv 0) (gv 1) rH)) (gv 0)) nA)))
def tU:List D->R D:=cu 0 Ai
def Gw:aA->So:=(retS (bA 1 [0] (λρ=>((ak (aD cC (ak (bin (gv 0) (ci 0) bW) nA)) nA) ρ).bind gQ) (aH 0) tT (aD gj (ak (bA 1 [0] (dO (gv 1)) (aH 0) tT (aD (aV tU 2) (ak (gv 0) (ak (gv 1) nA)))) nA))))
def nQ:List D->R D:=cu 0 Gw
def Kc:aA->So:=(retS (zF (xK eO (gv 0)) (zE (ci 1) (aD cC (ak (gv 0) nA)) (ci 20) wD wD)))
def qC:List D->R D:=cu 0 Kc
def Ke:aA->So:=(retS (zF (aD (aV jw 1) (ak (gv 0) nA)) (zE (ci 0) (gv 0) (ci 99) wD wD)))
def Aj:List D->R D:=cu 0 Ke
def Nx:aA->So:=(retS (zF (aD (aV qC 1) (ak (gv 0) nA)) (aD nG (ak (bA 1 [] (dO (gv 0)) (aH 0) tT (aD (aV Aj 1) (ak (gv 0) nA))) nA))))
def Ew:List D->R D:=cu 0 Nx
def Ak:aA->So:=(aR (dU (sU (kh (cg (aD (aV qC 1) (ak (gv 0) nA)))) (kh (cg (aD nG (ak (bA 1 [] (dO (gv 0)) (aH 0) tT (aD (aV Ew 1) (ak (gv 0) nA))) nA))))) (retS (λ_=> .ok (.bl false))) So.nx) (retS (aD nG (ak (bA 1 [0] (dO (gv 0)) (aH 0) tT (bin (aD cC (ak (gv 0) nA)) (aD cC (ak (bin (gv 1) (ci 0) bW) nA)) kO)) nA))))
def tV:List D->R D:=cu 0 Ak
def wR:aA->So:=(dU (kh (cg (aD (aV tV 1) (ak (gv 0) nA)))) (λ_=> .bad) So.nx)
def pD:List D->R D:=cu 0 wR
def Kf:aA->So:=(aR (jc (aD (aV pD 1) (ak (gv 0) nA))) (retS (dh (ak (aD cC (ak (bin (gv 0) (ci 0) bW) nA)) (ak (aD cC (ak (gv 0) nA)) nA)))))
def m7:List D->R D:=cu 0 Kf
def Dm:aA->So:=(aR (bB (aD (aV m7 1) (ak (gv 1) nA)) (cR (cT 2 (aW (aH 2) (aW (aH 3) nilG))))) (aR (dU (sU (kh (cg (xK eO (gv 0)))) (sU (cg (bin (aD cC (ak (gv 0) nA)) (gv 3) iC)) (kh (cg (aD nG (ak (bA 1 [2] (dO (gv 0)) (aH 0) tT (aD (aV fH 2) (ak (gv 0) (ak (gv 1) nA)))) nA)))))) (retS (λ_=> .ok (.bl false))) So.nx) (retS (aD nG (ak (bA 2 [3,2] (λρ=>((ak (aD (aV nQ 1) (ak (gv 0) nA)) nA) ρ).bind j5) (cR (cT 2 (aW (aH 0) (aW (aH 1) nilG)))) tT (aD (aV xZ 3) (ak (gv 1) (ak (bin (gv 3) (gv 0) cW) (ak (gv 2) nA))))) nA)))))
def gM:List D->R D:=cu 2 Dm
def zc:aA->So:=(dU (kh (cg (aD (aV gM 2) (ak (gv 0) (ak (gv 1) nA))))) (λρ=> .ex "NoTable" ρ) So.nx)
def iK:List D->R D:=cu 0 zc
def Al:aA->So:=(dU (sU (kh (cg (aD (aV jw 1) (ak (gv 0) nA)))) (kh (cg (zE (gv 1) (gv 0) (gv 2) wD wD)))) (RP (ak (Z5 "the width is to be a whole number from " " to " (gv 1) (gv 2)) nA) "NoWidth") So.nx)
def lu:List D->R D:=cu 0 Al
def Gx:aA->So:=(aR (jc (gY iK 2 0 [] (ak (gv 1) (ak (gv 0) nA)) nA)) (aR (jc (gY lu 3 0 [] (ak (gv 2) (ak (ci 1) (ak (aD cC (ak (bin (gv 0) (ci 0) bW) nA)) nA))) nA)) (aR (bB (bin (aD cC (ak (bin (gv 0) (ci 0) bW) nA)) (gv 2) cW) (aH 3)) (retS (aD gj (ak (bA 2 [3] (λρ=>((ak (gv 0) (ak (gv 1) nA)) ρ).bind zip2) (cR (cT 2 (aW (aH 0) (aW (aH 1) nilG)))) tT (aD gj (ak (bA 2 [2] (λρ=>((ak (gv 0) (ak (gv 1) nA)) ρ).bind zip2) (cR (cT 2 (aW (aH 0) (aW (aH 1) nilG)))) (cg (bin (gv 1) (gv 2) LR)) (gv 0)) nA))) nA))))))
def lM:List D->R D:=cu 1 Gx
def Gy:aA->So:=(aR (jc (gY iK 2 0 [] (ak (gv 1) (ak (gv 0) nA)) nA)) (retS (aD (aV nQ 1) (ak (gv 1) nA))))
def nR:List D->R D:=cu 0 Gy
def zf:aA->So:=(aR (bB (aD minD (ak (bin (gv 1) (ci 1) cL) (ak (bin (aD cC (ak (gv 0) nA)) (ci 1) cW) nA))) (aH 2)) (retS (bin (bin (bin (gv 0) (gv 1) bW) (bin (gv 0) (gv 2) bW) cL) (ci 2) gP)))
def zj:List D->R D:=cu 1 zf
def wrB:aA->So:=(aR (mO 3 (bin (gv 0) (gv 4) bW)) (dU (cg (bin (gv 5) (gv 2) ltI)) (mO 3 (aD (aV zj 2) (ak (gv 0) (ak (gv 4) nA)))) So.nx))
def zm:aA->So:=(aR (newL nA 3) (aR (kJ (λρ=>((ak (gv 1) nA) ρ).bind j5) (cR (cT 2 (aW (aH 4) (aW (aH 5) nilG)))) wrB) (retS (aD gj (ak (gv 3) nA)))))
def zp:List D->R D:=cu 3 zm
def Kg:aA->So:=(aR (jc (gY iK 2 0 [] (ak (gv 1) (ak (gv 0) nA)) nA)) (aR (bB (aD cC (ak (bin (gv 0) (ci 0) bW) nA)) (aH 3)) (aR (jc (gY lu 3 0 [] (ak (gv 2) (ak (gv 3) (ak (aD minD (ak (bin (ci 2) (gv 3) iH) (ak (ci 20) nA))) nA))) nA)) (retS (aD gj (ak (bA 2 [3,2] (λρ=>((ak (gv 0) (ak (gv 1) nA)) ρ).bind zip2) (cR (cT 2 (aW (aH 0) (aW (aH 1) nilG)))) tT (aD (aV zp 3) (ak (gv 0) (ak (gv 1) (ak (bin (gv 3) (gv 2) cW) nA))))) nA))))))
def uP:List D->R D:=cu 1 Kg
def Kh:aA->So:=(aR (M5 gZ "SeamError" 4 (dU (cg (bin (gv 0) (ci 0) kO)) (jc (gY nR 2 0 [] (ak (gv 1) (ak (gv 2) nA)) nA)) (dU (cg (bin (gv 0) (ci 1) kO)) (jc (gY lM 3 0 [] (ak (gv 1) (ak (gv 2) (ak (gv 3) nA))) nA)) (jc (gY uP 3 0 [] (ak (gv 1) (ak (gv 2) (ak (gv 3) nA))) nA)))) (retS (dM (ak (pX gZ 4 "NoTable") (ak (pX gZ 4 "NoWidth") nA))))) (retS (dM nA)))
def fQ(ds:List D):R D:=iI 1 Kh (ds.map .val)
def wU:aA->So:=(aR (Ms 4 5 (bin (dM (ak (ci 2) (ak (ci 5) (ak (ci 100) (ak (ci 10) nA))))) (aD (aV dI 3) (ak (gv 0) (ak (gv 1) (ak (ci 4) nA)))) bW) nA) (aR (kJ (λρ=>((ak (gv 3) nA) ρ).bind gQ) (aH 6) (mO 5 (aD gj (ak (bA 1 [1,2,4,0,6] (λρ=>((ak (gv 2) nA) ρ).bind gQ) (aH 0) tT (aD (aV dI 3) (ak (gv 4) (ak (bin (bin (bin (gv 1) (ci 1) fW) (bin (gv 2) (gv 5) gO) fW) (gv 0) fW) (ak (gv 3) nA))))) nA)))) (retS (aD gj (ak (gv 5) nA)))))
def pF:List D->R D:=cu 3 wU
def Dn:aA->So:=(retS (aD (aV pF 4) (ak (gv 0) (ak (bin (gv 1) (ci 2) fW) (ak (bin (ci 1) (aD (aV dI 3) (ak (gv 0) (ak (gv 1) (ak (gv 2) nA)))) fW) (ak (bin (ci 1) (aD (aV dI 3) (ak (gv 0) (ak (bin (gv 1) (ci 1) fW) (ak (gv 3) nA)))) fW) nA))))))
def vg:List D->R D:=cu 0 Dn
def Kl:aA->So:=(retS (bin (bin (gv 0) (aD maxD (ak (ci 0) (ak (aD minD (ak (bin (aD cC (ak (gv 0) nA)) (ci 1) cW) (ak (gv 2) nA))) nA))) bW) (aD maxD (ak (ci 0) (ak (aD minD (ak (bin (aD cC (ak (bin (gv 0) (ci 0) bW) nA)) (ci 1) cW) (ak (gv 1) nA))) nA))) bW))
def jo:List D->R D:=cu 0 Kl
def Dq:aA->So:=(aR (bB (aD qK (ak (bin (aD (aV jo 3) (ak (gv 0) (ak (bin (gv 2) (ci 1) cW) (ak (gv 3) nA)))) (aD (aV jo 3) (ak (gv 0) (ak (bin (gv 2) (ci 1) cL) (ak (gv 3) nA)))) cW) nA)) (aH 5)) (aR (dU (cg (bin (gv 1) (λ_=> .ok (.str "worth")) kO)) (retS (bin (gv 5) (aD qK (ak (bin (aD (aV jo 3) (ak (gv 0) (ak (gv 2) (ak (bin (gv 3) (ci 1) cW) nA)))) (aD (aV jo 3) (ak (gv 0) (ak (gv 2) (ak (bin (gv 3) (ci 1) cL) nA)))) cW) nA)) cL)) So.nx) (aR (dU (lV (cg (bin (gv 4) (λ_=> .ok .non) Vu)) (cg (bin (gv 4) (gv 2) iC))) (bB (bin (gv 5) (aD qK (ak (bin (bin (bin (gv 0) (bin (gv 3) (ci 1) cW) bW) (gv 2) bW) (bin (bin (gv 0) (gv 3) bW) (zK (cg (bin (gv 4) (gv 2) ltI)) (bin (gv 2) (ci 1) cW) (bin (gv 2) (ci 1) cL)) bW) cW) nA)) cL) (aH 5)) So.nx) (retS (gv 5)))))
def jW:List D->R D:=cu 1 Dq
def Dr:aA->So:=(aR (bB (bin (dh (ak (λ_=> .ok .non) nA)) (jj (gv 2) (λ_=> .ok none) (λρ=>(((jt (ci 1)):aA->R D) ρ).bind qy)) cL) (aH 3)) (retS (aD Mp (ak (bA 2 [3,1,0] (λρ=>((ak (gv 2) nA) ρ).bind j5) (cR (cT 2 (aW (aH 0) (aW (aH 1) nilG)))) tT (aD (aV jW 5) (ak (gv 4) (ak (gv 3) (ak (gv 1) (ak (gv 0) (ak (bin (gv 2) (gv 0) bW) nA))))))) nA))))
def pZ:List D->R D:=cu 1 Dr
def Am:aA->So:=(retS (aD cC (ak (bA 2 [2] (λρ=>((ak (gv 0) (ak (gv 1) nA)) ρ).bind zip2) (cR (cT 2 (aW (aH 0) (aW (aH 1) nilG)))) (cg (bin (bin (gv 0) (gv 1) bW) (gv 2) kO)) (gv 1)) nA)))
def lA:List D->R D:=cu 0 Am
def wyI:aA->So:=(bB (bin (gv 4) (bA 1 [0,5] (dO (dh (ak (bin (bin (gv 5) (jt (ci 1)) bW) (ci 1) cW) (ak (bin (gv 5) (jt (ci 1)) bW) (ak (bin (bin (gv 5) (jt (ci 1)) bW) (ci 1) cL) nA))))) (aH 0) (lV (cg (bin (ci 0) (gv 0) wD)) (cg (bin (gv 0) (gv 1) ltI))) (bin (gv 2) (dh (ak (gv 0) nA)) cL)) cL) (aH 4))
def wyO:aA->So:=(aR (bB (dM nA) (aH 4)) (aR (kJ (dO (gv 2)) (aH 5) wyI) (bB (gv 4) (aH 2))))
def Ds:aA->So:=(aR (bB (bA 1 [] (λρ=>((ak (gv 0) nA) ρ).bind gQ) (aH 0) tT (dh (ak (gv 0) nA))) (aH 2)) (aR (kJ (λρ=>((ak (bin (gv 1) (ci 1) cW) nA) ρ).bind gQ) (aH 3) wyO) (retS (gv 2))))
def vh:List D->R D:=cu 4 Ds
def beB:aA->So:=(dU (cg (bin (aD (aV lA 3) (ak (gv 2) (ak (gv 4) (ak (ci 1) nA)))) (ci 0) kO)) (aR (bB (dh (ak (jt (aD (aV lA 3) (ak (gv 2) (ak (gv 4) (ak (ci 2) nA))))) (ak (aD (aV pZ 3) (ak (gv 0) (ak (gv 1) (ak (gv 4) nA)))) (ak (gv 4) nA)))) (aH 5)) (bB (zK (sU (cg (bin (gv 3) (λ_=> .ok .non) isD)) (cg (bin (gv 5) (gv 3) Nt))) (gv 5) (gv 3)) (aH 3))) So.nx)
def Dt:aA->So:=(aR (bB (λ_=> .ok .non) (aH 3)) (aR (kJ (dO (aD (aV vh 2) (ak (aD cC (ak (bin (gv 0) (ci 0) bW) nA)) (ak (aD cC (ak (gv 0) nA)) nA)))) (aH 4) beB) (retS (zK (cg (bin (gv 3) (λ_=> .ok .non) isD)) (λ_=> .ok .non) (bin (gv 3) (ci 2) bW)))))
def vm:List D->R D:=cu 3 Dt
def Gz:aA->So:=(retS (aD gj (ak (bA 2 [] (λρ=>((ak (gv 0) (ak (gv 1) nA)) ρ).bind zip2) (cR (cT 2 (aW (aH 0) (aW (aH 1) nilG)))) tT (aD gj (ak (bA 2 [1] (λρ=>((ak (gv 0) nA) ρ).bind j5) (cR (cT 2 (aW (aH 0) (aW (aH 1) nilG)))) (cg (bin (gv 0) (gv 2) iC)) (gv 1)) nA))) nA)))
def yc:List D->R D:=cu 0 Gz
def Du:aA->So:=(retS (aD gj (ak (bA 1 [] (dO (gv 0)) (aH 0) tT (bin (dh (ak (ci 0) nA)) (aD cC (ak (gv 0) nA)) iH)) nA)))
def vo:List D->R D:=cu 0 Du
def Z9:aA->So:=(aR (Gs 4 (gv 9) (bin (tM 3 (gv 9)) (gv 10) bW) (gv 7)) (En 3 (gv 9) (bin (gw (tM 3 (gv 9)) (λ_=> .ok none) (λρ=>((gv 10) ρ).bind qy)) (gw (tM 3 (gv 9)) (λρ=>((bin (gv 10) (ci 1) cL) ρ).bind qy) (λ_=> .ok none)) cL)))
def ltB:aA->So:=(aR (bB (aD (aV vm 3) (ak (tM 6 (jt (ci 1))) (ak (gv 1) (ak (aD (aV vo 1) (ak (tM 6 (jt (ci 1))) nA)) nA)))) (aH 8)) (aR (mO 5 (gv 8)) (aR (kJ (λρ=>((ak (gv 8) nA) ρ).bind j5) (cR (cT 2 (aW (aH 9) (aW (aH 10) nilG)))) Z9) (dU (cg (bin (gv 7) (bin (gv 2) (ci 1) cW) ltI)) (mO 6 (aD (aV yc 2) (ak (tM 6 (jt (ci 1))) (ak (gv 8) nA)))) So.nx))))
def Ao:aA->So:=(aR (bB (aD cC (ak (bin (gv 0) (ci 0) bW) nA)) (aH 2)) (aR (xX (bA 1 [2] (dO (gv 0)) (aH 0) tT (aD rN (ak (gv 1) nA))) 3) (aR (Gu (bA 1 [2] (dO (gv 0)) (aH 0) tT (bin (dM (ak (λ_=> .ok .non) nA)) (gv 1) Ae)) 4) (aR (CQ YG YG 5 6 (LC nA) (LC (ak (gv 0) nA))) (aR (kJ (λρ=>((ak (gv 2) nA) ρ).bind gQ) (aH 7) ltB) (retS (dh (ak (aD gj (ak (bA 1 [] (dO (gv 4)) (aH 0) tT (aD gj (ak (gv 0) nA))) nA)) (ak (gv 5) (ak (gv 6) nA))))))))))
def nU:List D->R D:=cu 9 Ao
def GC:aA->So:=(retS (bin (dh (ak (bin (dh (ak (ci 0) nA)) (aD cC (ak (bin (gv 0) (ci 0) bW) nA)) iH) nA)) (aD cC (ak (gv 0) nA)) iH))
def yd:List D->R D:=cu 0 GC
def zq:aA->So:=(dU (cg (bin (gv 0) (λ_=> .ok (.tup [.str "worth",.str "joins"])) (Rj true))) (λ_=> .bad) So.nx)
def qM:List D->R D:=cu 0 zq
def Dv:aA->So:=(aR (xX (aD rN (ak (gv 1) nA)) 2) (aR (xX (bin (dM (ak (ci 0) nA)) (gv 1) Ae) 3) (aR (kJ (λρ=>((ak (gv 0) nA) ρ).bind j5) (cR (cT 2 (aW (aH 4) (aW (aH 5) nilG)))) (setPop 3 2 (gv 5) (gv 4))) (retS (aD gj (ak (gv 3) nA))))))
def vB:List D->R D:=cu 4 Dv
def zu:aA->So:=(retS (aD gj (ak (bA 2 [] (λρ=>((ak (gv 0) (ak (gv 1) nA)) ρ).bind zip2) (cR (cT 2 (aW (aH 0) (aW (aH 1) nilG)))) tT (bin (gv 0) (gv 1) bW)) nA)))
def qN:List D->R D:=cu 0 zu
def Wh:aA->So:=(aR (bB (bin (aD cC (ak (gv 0) nA)) (ci 1) cW) (aH 1)) (retS (bA 1 [1,0] (λρ=>((ak (aD cC (ak (gv 0) nA)) nA) ρ).bind gQ) (aH 0) tT (aD qK (ak (bin (bin (gv 2) (aD maxD (ak (bin (gv 0) (ci 1) cW) (ak (ci 0) nA))) bW) (bin (gv 2) (aD minD (ak (bin (gv 0) (ci 1) cL) (ak (gv 1) nA))) bW) cW) nA)))))
def Aq:List D->R D:=cu 1 Wh
def Ar:aA->So:=(aR (bB (bin (gv 0) (gv 1) bW) (aH 2)) (aR (bB (bin (gv 0) (aD maxD (ak (bin (gv 1) (ci 1) cW) (ak (ci 0) nA))) bW) (aH 3)) (aR (bB (bin (aD cC (ak (gv 2) nA)) (ci 1) cW) (aH 4)) (aR (newL nA 5) (aR (kJ (λρ=>((ak (aD (aV Aq 1) (ak (gv 2) nA)) nA) ρ).bind j5) (cR (cT 2 (aW (aH 6) (aW (aH 7) nilG)))) (aR (bB (bin (gv 7) (aD qK (ak (bin (bin (gv 3) (gv 6) bW) (bin (gv 2) (aD maxD (ak (bin (gv 6) (ci 1) cW) (ak (ci 0) nA))) bW) cW) nA)) cL) (aH 8)) (aR (bB (bin (gv 7) (aD qK (ak (bin (bin (gv 3) (gv 6) bW) (bin (gv 2) (aD minD (ak (bin (gv 6) (ci 1) cL) (ak (gv 4) nA))) bW) cW) nA)) cL) (aH 9)) (mO 5 (dh (ak (gv 8) (ak (gv 7) (ak (gv 9) nA)))))))) (retS (gv 5)))))))
def tW:List D->R D:=cu 8 Ar
def Ny:aA->So:=(aR (bB (aD (aV m7 1) (ak (gv 0) nA)) (cR (cT 2 (aW (aH 1) (aW (aH 2) nilG))))) (retS (aD gj (ak (bA 1 [2,0] (λρ=>((ak (gv 1) nA) ρ).bind gQ) (aH 0) tT (aD gj (ak (bA 1 [2,0] (λρ=>((ak (gv 1) nA) ρ).bind gQ) (aH 0) tT (bin (bin (gv 1) (gv 0) bW) (gv 2) bW)) nA))) nA))))
def Ey:List D->R D:=cu 2 Ny
def Nz:aA->So:=(aR (bB (aD (aV m7 1) (ak (gv 0) nA)) (cR (cT 2 (aW (aH 1) (aW (aH 2) nilG))))) (aR (bB (bA 1 [] (dO (gv 0)) (aH 0) tT (aD (aV Aq 1) (ak (gv 0) nA))) (aH 3)) (aR (bB (bA 1 [] (dO (aD (aV Ey 1) (ak (gv 0) nA))) (aH 0) tT (aD (aV Aq 1) (ak (gv 0) nA))) (aH 4)) (retS (aD gj (ak (bA 1 [3,4,1] (λρ=>((ak (gv 2) nA) ρ).bind gQ) (aH 0) tT (aD gj (ak (bA 1 [1,2,0] (λρ=>((ak (gv 3) nA) ρ).bind gQ) (aH 0) tT (bin (bin (bin (gv 1) (gv 3) bW) (gv 0) bW) (bin (bin (gv 2) (gv 0) bW) (gv 3) bW) cL)) nA))) nA))))))
def Ez:List D->R D:=cu 4 Nz
def RT:aA->So:=(aR (dU (cg (bin (gv 1) (λ_=> .ok (.str "worth")) kO)) (retS (bA 1 [] (dO (aD (aV Ez 1) (ak (gv 0) nA))) (aH 0) tT (bA 1 [] (dO (gv 0)) (aH 0) tT (dh (ak (gv 0) (ak (gv 0) (ak (gv 0) nA))))))) So.nx) (retS (bA 1 [0] (λρ=>((ak (aD cC (ak (gv 0) nA)) nA) ρ).bind gQ) (aH 0) tT (aD (aV tW 2) (ak (gv 1) (ak (gv 0) nA))))))
def wV:List D->R D:=cu 0 RT
def Km:aA->So:=(retS (bin (bin (gv 0) (gv 2) bW) (bin (bin (gv 1) (gv 2) cW) (ci 1) cL) bW))
def m8:List D->R D:=cu 0 Km
def Wi:aA->So:=(retS (aD Uc (ak (aD maxD (ak (bin (gv 0) (ci 1) cW) (ak (ci 0) nA))) (ak (aD minD (ak (bin (gv 0) (ci 2) cL) (ak (gv 1) nA))) nA))))
def NK:List D->R D:=cu 0 Wi
def onB:aA->So:=(aR (bB (aD (aV m8 3) (ak (gv 1) (ak (gv 2) (ak (gv 4) nA)))) (aH 5)) (Er 3 (bA 3 [5] (dO (bin (gv 0) (gv 4) bW)) (cR (cT 3 (aW (aH 0) (aW (aH 1) (aW (aH 2) nilG))))) tT (dh (ak (gv 0) (ak (bin (gv 1) (gv 3) cL) (ak (gv 2) nA)))))))
def NP:aA->So:=(aR (newL nA 3) (aR (kJ (dO (aD (aV NK 2) (ak (gv 2) (ak (aD cC (ak (gv 0) nA)) nA)))) (aH 4) onB) (retS (gv 3))))
def yg:List D->R D:=cu 3 NP
def aac(aG:Nat)(GG:List D->R D):aA->So:=(dU (cg (bin (gv 8) (ci 1) kO)) (bB (dM nA) (aH 9)) (dU (kh (Nm (gv 4))) (bB (CJ 3 aG GG 2 (ak (gv 7) (ak (dM (ak (dh (ak (ci 0) (ak (ci 0) (ak (gv 2) nA)))) nA)) nA))) (aH 9)) (bB (CJ 3 aG GG 2 (ak (gv 7) (ak (aD (aV yg 3) (ak (tM 4 (jt (ci 1))) (ak (bin (gv 0) (bin (gv 5) (ci 1) cL) bW) (ak (gv 7) nA)))) nA))) (aH 9))))
def aad:aA->So:=(aR (bB (zK (cg (bin (gv 8) (ci 2) kO)) (ci 1) (ci 0)) (aH 10)) (mO 6 (bA 3 [10] (dO (gv 9)) (cR (cT 3 (aW (aH 0) (aW (aH 1) (aW (aH 2) nilG))))) tT (dh (ak (bin (gv 0) (gv 3) cW) (ak (gv 1) (ak (gv 2) nA)))))))
def inW(aG:Nat)(GG:List D->R D):aA->So:=(aR (aac aG GG) aad)
def YK(aG:Nat)(GG:List D->R D):aA->So:=(aR (newL nA 6) (aR (kJ (λρ=>((ak (bin (gv 1) (gv 5) bW) nA) ρ).bind j5) (cR (cT 2 (aW (aH 7) (aW (aH 8) nilG)))) (inW aG GG)) (Nf 4 6)))
def IW(aG:Nat)(GG:List D->R D):aA->So:=(aR (newL nA 4) (aR (kJ (λρ=>((ak (aD cC (ak (gv 1) nA)) nA) ρ).bind Ng) (aH 5) (YK aG GG)) (retS (Ly (gv 4)))))
def wW(aG:Nat)(GG:List D->R D)(ds:List D):R D:=iI 7 (IW aG GG) (ds.map .val++[.obj (.fn aG)])
def Av:aA->So:=(retS (bA 3 [0] (dO (gw (aD nP (ak (gv 1) nA)) (λ_=> .ok none) (λρ=>((gv 2) ρ).bind qy))) (cR (cT 3 (aW (aH 0) (aW (aH 1) (aW (aH 2) nilG))))) tT (dh (ak (gv 0) (ak (gv 1) (ak (bin (dh (ak (gv 3) nA)) (gv 2) cL) nA))))))
def fD(my:Int)(ds:List D):R D:=iI 0 Av (ds.map .val++[.val (.int my)])
def vC:aA->So:=(T7 3 2 ((gv 0):aA->R D) ((gv 1):aA->R D) ((dh nA):aA->R D) wW fD)
def vG(ds:List D):R D:=iI 1 vC (ds.map .val)
def GD:aA->So:=(aR (newL nA 2) (aR (kJ (λρ=>((ak (bin (gv 1) (ci 0) bW) nA) ρ).bind j5) (cR (cT 2 (aW (aH 3) (aW (aH 4) nilG)))) (aR (bB (aD (aV m8 3) (ak (bin (gv 0) (ci 0) bW) (ak (gv 3) (ak (gv 3) nA)))) (aH 5)) (Er 2 (bA 3 [5] (dO (gv 4)) (cR (cT 3 (aW (aH 0) (aW (aH 1) (aW (aH 2) nilG))))) tT (dh (ak (gv 0) (ak (bin (gv 1) (gv 3) cL) (ak (gv 2) nA)))))))) (retS (gv 2))))
def yh:List D->R D:=cu 4 GD
def zx:aA->So:=(retS (gw (aD nP (ak (aD (aV yh 2) (ak (gv 0) (ak (aD (aV vG 3) (ak (gv 0) (ak (gv 1) (ak (gv 2) nA)))) nA))) nA)) (λ_=> .ok none) (λρ=>((gv 2) ρ).bind qy)))
def qO(ds:List D):R D:=iI 0 zx (ds.map .val)
def Dw:aA->So:=(aR (bB (aD (aV qO 3) (ak (gv 0) (ak (gv 1) (ak (ci 1) nA)))) (aH 2)) (aR (dU (kh (Nm (gv 2))) (retS (λ_=> .ok .non)) So.nx) (aR (bB (bin (gv 2) (ci 0) bW) (cR (cT 3 (aW (aH 3) (aW (aH 4) (aW (aH 5) nilG)))))) (retS (dh (ak (gv 4) (ak (gv 5) nA)))))))
def p7(ds:List D):R D:=iI 4 Dw (ds.map .val)
def Ko:aA->So:=(retS (aD gj (ak (bA 2 [] (λρ=>((ak (gv 0) (ak (gv 1) nA)) ρ).bind zip2) (cR (cT 2 (aW (aH 0) (aW (aH 1) nilG)))) tT (bin (jj (gv 0) (λ_=> .ok none) (λρ=>((gv 1) ρ).bind qy)) (jj (gv 0) (λρ=>((bin (gv 1) (ci 1) cL) ρ).bind qy) (λ_=> .ok none)) cL)) nA)))
def uQ:List D->R D:=cu 0 Ko
def Wj:aA->R Bool:=(cg (bin (aD cC (ak (gv 6) nA)) (gv 1) ltI))
def tkB:aA->So:=(aR (bB (aD (aV p7 2) (ak (aD (aV wV 2) (ak (gv 4) (ak (gv 2) nA))) (ak (gv 5) nA))) (aH 8)) (aR (dU (cg (bin (gv 8) (λ_=> .ok .non) isD)) (retS (λ_=> .ok .non)) So.nx) (aR (bB (gv 8) (cR (cT 2 (aW (aH 9) (aW (aH 10) nilG))))) (aR (mO 6 (dh (ak (gv 10) (ak (aD (aV qN 2) (ak (gv 4) (ak (gv 10) nA))) nA)))) (aR (MK 7 (gv 9)) (Ib 4 5 (aD (aV uQ 2) (ak (gv 4) (ak (gv 10) nA))) (aD (aV uQ 2) (ak (gv 5) (ak (gv 10) nA)))))))))
def RV:aA->So:=(aR (Ib 4 5 (gv 0) (gv 3)) (aR (newL nA 6) (aR (bB (ci 0) (aH 7)) (aR (iR Wj tkB 64) (retS (dh (ak (gv 4) (ak (gv 6) (ak (gv 7) nA)))))))))
def Ja(ds:List D):R D:=iI 7 RV (ds.map .val)
def NQ:aA->So:=(aR (bB (aD (aV m7 1) (ak (gv 0) nA)) (cR (cT 2 (aW (aH 2) (aW (aH 3) nilG))))) (aR (jc (aD (aV qM 1) (ak (gv 1) nA))) (aR (bB (aD (aV Ja 4) (ak (gv 0) (ak (gv 2) (ak (gv 1) (ak (aD (aV yd 1) (ak (gv 0) nA)) nA))))) (cR (cT 3 (aW (aH 4) (aW (aH 5) (aW (aH 6) nilG)))))) (retS (aD gj (ak (bA 1 [5,2] (λρ=>((ak (gv 3) nA) ρ).bind gQ) (aH 0) tT (aD (aV vB 2) (ak (bA 2 [0] (dO (gv 1)) (cR (cT 2 (aW (aH 0) (aW (aH 1) nilG)))) tT (bin (gv 0) (gv 2) bW)) (ak (gv 2) nA)))) nA))))))
def yj(ds:List D):R D:=iI 5 NQ (ds.map .val)
def aae:aA->So:=(aR (bB (aD (aV vg 4) (ak (gv 0) (ak (ci 0) (ak (ci 4) (ak (ci 3) nA))))) (aH 1)) (aR (bB (dh (ak (aD cC (ak (bin (gv 1) (ci 0) bW) nA)) (ak (aD cC (ak (gv 1) nA)) (ak (aD (aV qL 2) (ak (gv 0) (ak (ci 40) nA))) nA)))) (cR (cT 3 (aW (aH 2) (aW (aH 3) (aW (aH 4) nilG)))))) (aR (bB (aD (aV nU 2) (ak (gv 1) (ak (gv 4) nA))) (cR (cT 3 (aW (aH 5) (aW (aH 6) (aW (aH 7) nilG)))))) (aR (dU (cg (bin (CG yj 2 1 [.inl 0] (ak (gv 1) nA) (ak (gv 4) nA)) (gv 5) iC)) (retS (λ_=> .ok (.bl false))) So.nx) (aR (dU (cg (bin (CG yj 2 0 [.inr (.str "worth")] (ak (gv 1) nA) nA) (bin (aD (aV nU 2) (ak (gv 1) (ak (λ_=> .ok (.str "worth")) nA))) (ci 0) bW) iC)) (retS (λ_=> .ok (.bl false))) So.nx) (aR (dU (sU (cg (bin (aD (aV gM 2) (ak (gv 5) (ak (gv 1) nA))) (λ_=> .ok (.bl true)) T4)) (cg (bin (gY nR 2 0 [] (ak (gv 1) (ak (gv 5) nA)) nA) (gv 6) iC))) (retS (λ_=> .ok (.bl false))) So.nx) (aR (dU (cg (bin (bA 1 [2,1,5] (λρ=>((ak (gv 2) nA) ρ).bind gQ) (aH 0) tT (gY lM 3 0 [] (ak (gv 2) (ak (gv 3) (ak (bin (gv 1) (gv 0) cW) nA))) nA)) (gv 7) iC)) (retS (λ_=> .ok (.bl false))) So.nx) (aR (bB (dM (ak (λ_=> .ok .non) (ak (aD Tt (ak (gv 5) nA)) (ak (bin (gv 5) (jj (gv 5) (λ_=> .ok none) (λρ=>(((ci 1):aA->R D) ρ).bind qy)) cL) (ak (bin (dh (ak (bin (dh (ak (ci 0) nA)) (bin (gv 2) (ci 1) cL) iH) nA)) (gv 3) iH) nA))))) (aH 8)) (aR (bB (bin (gv 8) (dM (ak (bin (dh (ak (bin (dh (ak (gv 2) nA)) (gv 2) iH) nA)) (gv 3) iH) (ak (bin (dh (ak (bin (dh (ak (λ_=> .ok .non) nA)) (gv 2) iH) nA)) (gv 3) iH) (ak (jj (gv 5) (λ_=> .ok none) (λρ=>(((jt (ci 1)):aA->R D) ρ).bind qy)) nA)))) cL) (aH 8)) (aR (bB (bin (gv 8) (dM (ak (ci 7) (ak (aD gj (ak (bA 1 [] (dO (gv 5)) (aH 0) tT (aD Tt (ak (gv 0) nA))) nA)) nA))) cL) (aH 8)) (aR (dU (lV (cg (bin (gv 2) (ci 2) rH)) (cg (bin (gv 3) (ci 1) rH))) (aR (bB (bin (gv 8) (dM (ak (bin (dh (ak (aD Il (ak (gv 2) nA)) nA)) (bin (dh (ak (Tv (aD Il (ak (gv 2) nA))) nA)) (bin (gv 3) (ci 1) cW) iH) cL) nA)) cL) (aH 8)) (bB (bin (gv 8) (dM (ak (bin (dh (ak (bin (dh (ak (ci 0) nA)) (gv 2) iH) nA)) (gv 3) iH) nA)) cL) (aH 8))) So.nx) (aR (bB (bin (gv 8) (aD (aV dI 3) (ak (gv 0) (ak (ci 41) (ak (aD cC (ak (gv 8) nA)) nA)))) bW) (aH 9)) (aR (bB (bin (dM (ak (ci 0) (ak (λ_=> .ok .non) (ak (λ_=> .ok (.bl true)) (ak (λ_=> .ok (.str "1")) (ak (jt (ci 1)) (ak (bin (bin (ci 2) (gv 2) iH) (ci 1) cL) nA))))))) (aD (aV dI 3) (ak (gv 0) (ak (ci 42) (ak (ci 6) nA)))) bW) (aH 10)) (aR (dU (cg (bin (bA 1 [1] (dO (gv 8)) (aH 0) (cg (bin (aD (aV gM 2) (ak (gv 0) (ak (gv 1) nA))) (λ_=> .ok (.bl false)) T4)) (gv 0)) (dM nA) iC)) (retS (λ_=> .ok (.bl false))) So.nx) (aR (dU (cg (bin (bA 1 [10,1,9] (λρ=>((ak (ci 3) nA) ρ).bind gQ) (aH 0) tT (aD (aV fQ 4) (ak (gv 0) (ak (gv 2) (ak (gv 3) (ak (gv 1) nA)))))) (bin (dM (ak (dM (ak (λ_=> .ok (.bl true)) (ak (λ_=> .ok (.bl false)) nA))) nA)) (ci 3) mulL) iC)) (retS (λ_=> .ok (.bl false))) So.nx) (aR (dU (cg (bin (aD (aV fQ 4) (ak (ci 1) (ak (gv 1) (ak (gv 5) (ak (bin (gv 2) (ci 1) cL) nA))))) (dM (ak (λ_=> .ok (.bl false)) (ak (λ_=> .ok (.bl true)) nA))) iC)) (retS (λ_=> .ok (.bl false))) So.nx) (aR (dU (cg (bin (aD (aV fQ 4) (ak (ci 2) (ak (gv 1) (ak (gv 5) (ak (bin (gv 2) (ci 1) cW) nA))))) (dM (ak (λ_=> .ok (.bl false)) (ak (λ_=> .ok (.bl true)) nA))) iC)) (retS (λ_=> .ok (.bl false))) So.nx) (retS (bin (bA 1 [10,1,5] (dO (dh (ak (ci 1) (ak (ci 2) nA)))) (aH 0) tT (aD (aV fQ 4) (ak (gv 0) (ak (gv 2) (ak (gv 3) (ak (gv 1) nA)))))) (bin (dM (ak (dM (ak (λ_=> .ok (.bl false)) (ak (λ_=> .ok (.bl true)) nA))) nA)) (ci 2) mulL) kO)))))))))))))))))))
def GF(ds:List D):R D:=iI 10 aae (ds.map .val)
end Af
namespace Af
open PySem PySem.Spec L2 Pu
variable{j m:Int}{seen:List (List Int)}{ds acc:List D}{F:List D->R D}{ps l:List Nat}{L:List rK}{cs:List Wy}{x y i k a:Nat}{rf:Nat->List D}{Lf:Nat->List Nat}{s s':Nat->Nat}{e1 e0 e3 e5 e2 e8 e9 e10 e4 e7 e6:Option Ent}{r:R D}{ρ1:aA}{fa:aA->R (List D)}{u fv:aA->R D}{α:Type}{b t:Wy}
def row(w:Nat)(f:Nat->Int):D:= .tup ((ad6 w).map λx=> .int (f x))
def bx(w h:Nat)(f:Nat->Nat->Int):D:= .tup ((ad6 h).map λy=>row w (f y))
structure Ok(w h:Nat)(f:Nat->Nat->Int):Prop where
 w1:1<=w
 w2:w<=20
 h1:1<=h
 h2:h<=20
 c:∀y<h,∀x<w,0<=f y x/\f y x<=99
theorem nW{i:Int}(h:i<=j):wD (.int i) (.int j)= .ok (.bl true):=by
 show R.ok (D.bl (decide (i<=j)))=_;rw[decide_eq_true h]
theorem GJ(h1:1<=ds.length)(h2:ds.length<=20):qC [.tup ds]= .ok (.bl true):=
 bR (bw (zO rfl (wK rfl (aO (ao rfl) rfl) (nW (by omega)) rfl (nW (by omega)))))
theorem iY{i:Int}:jw [.int i]= .ok (.bl true):=rfl
theorem Uj{i:Int}(h0:0<=i)(h1:i<=99):Aj [.int i]= .ok (.bl true):=by
 exact bR (bw (zO (aX (ao rfl) iY) (wK rfl rfl (nW h0) rfl (nW h1))))
theorem Wk{w:Nat}{f:Nat->Int}(h1:1<=w)(h2:w<=20)(hc:∀x<w,0<=f x/\f x<=99):Ew [row w f]= .ok (.bl true):=by
 refine bR (bw (zO (aX (ao rfl) (GJ (by simpa using h1) (by simpa using h2))) (aO (ao (bC (c:=λx=> .int (f x)) (h:=λ_=> .bl true) (l:=ad6 w) (cZ rfl) (by rw[z2d];omega) λx hx=>?_)) ji)));obtain⟨a,b⟩:=hc x (z2e hx);exact bK rfl (aX (ao rfl) (Uj a b))
section
variable{w h:Nat}{f:Nat->Nat->Int}
theorem K4(o:Ok w h f):tV [bx w h f]= .ok (.bl true):=by
 have e1:qC [bx w h f]= .ok (.bl true):=GJ (by simpa using o.h1) (by simpa using o.h2);refine bR (aK (bU (f9 (cP (aN (aX (ao rfl) e1))) (cP (aN (aO (ao (bC (c:=λy=>row w (f y)) (h:=λ_=> .bl true) (l:=ad6 h) (cZ rfl) (by rw[z2d];have:=o.h2;omega) λy hy=>?_)) ji)))) rfl) (bw (aO (ao (bC (c:=λy=>row w (f y)) (h:=λ_=> .bl true) (l:=ad6 h) (cZ rfl) (by rw[z2d];have:=o.h2;omega) λy hy=>?_)) ji)))
 ·exact bK rfl (aX (ao rfl) (Wk o.w1 o.w2 (o.c y (z2e hy))))
 ·refine bK rfl (au (aO (ao rfl) rfl) (aO (ao (au rfl rfl (gK (i:=0) (d:=row w (f 0)) ?_))) rfl) (Ej ?_ ?_))
  ·rw[z2b,aei o.h1];rfl
  ·simp
  ·simp[dep]
theorem aa3(o:Ok w h f):pD [bx w h f]= .ok .non:=Ga (bU (cP (aN (aX (ao rfl) (K4 o)))) rfl)
theorem size_eq(o:Ok w h f):m7 [bx w h f]= .ok (.tup [.int w,.int h]):=by
 refine bR (aK (pq (aX (ao rfl) (aa3 o))) (bw (cO (aB (aO (ao (au rfl rfl (gK (i:=0) (d:=row w (f 0)) ?_))) ?_) (ao (aO (ao rfl) ?_))))))
 ·rw[z2b,aei o.h1];rfl
 ·simp[row,cC]
 ·simp[bx,cC]
theorem Wm(o:Ok w h f):Ey [bx w h f]= .ok (bx h w λy x=>f x y):=by
 refine bR (aK (aZ (aX (ao rfl) (size_eq o)) rfl) (bw (aO (ao (bC (c:=λ(x:Nat)=> .int (x:Int)) (h:=λx=>row h λy=>f y x) (l:=ad6 w) (gJ (ao rfl) (by have:=o.w2;omega)) (by rw[z2d];have:=o.w2;omega) λx hx=>?_)) rfl)));refine bK rfl (aO (ao (bC (c:=λ(y:Nat)=> .int (y:Int)) (h:=λy=> .int (f y x)) (l:=ad6 h) (gJ (ao rfl) (by have:=o.h2;omega)) (by rw[z2d];have:=o.h2;omega) λy hy=>?_)) rfl);refine bK rfl (au (au rfl rfl (gK (i:=y) (d:=row w (f y)) ?_)) rfl (gK (i:=x) ?_))
 ·rw[z2b,aei (z2e hy)];rfl
 ·rw[z2b,aei (z2e hx)];rfl
end
def YL:aA->So:=(mO 5 (aD gj (ak (bA 1 [1,2,4,0,6] (λρ=>((ak (gv 2) nA) ρ).bind gQ) (aH 0) tT (aD (aV dI 3) (ak (gv 4) (ak (bin (bin (bin (gv 1) (ci 1) fW) (bin (gv 2) (gv 5) gO) fW) (gv 0) fW) (ak (gv 3) nA))))) nA)))
section
variable{ns:List Int}{a m:Int}{w h:Nat}
def vA(d:D):Option Ent:=some (.val d)
theorem acg(hns:ns.length<=1000000)(ha:0<=a)(hm:0<m)(hw:w<=20){tl:Option Ent}(hl:acc.length<1000000):
  YL [vA (.lst (ns.map .int)),vA (.int a),vA (.int (w:Int)),tl,vA (.int m),some (.lst acc),vA (.int (y:Int))] =
   .nx [vA (.lst (ns.map .int)),vA (.int a),vA (.int (w:Int)),tl,vA (.int m),some (.lst (acc++[row w λx=>dr ns (a+1+(w:Int)*(y:Int)+(x:Int)) m])),vA (.int (y:Int))]:=by
 have e:aD gj (ak (bA 1 [1,2,4,0,6] (λρ=>((ak (gv 2) nA) ρ).bind gQ) (aH 0) tT (aD (aV dI 3) (ak (gv 4) (ak (bin (bin (bin (gv 1) (ci 1) fW) (bin (gv 2) (gv 5) gO) fW) (gv 0) fW) (ak (gv 3) nA))))) nA)
   [vA (.lst (ns.map .int)),vA (.int a),vA (.int (w:Int)),tl,vA (.int m),some (.lst acc),vA (.int (y:Int))]= .ok (row w λx=>dr ns (a+1+(w:Int)*(y:Int)+(x:Int)) m):=by
  refine aO (ao (bC (c:=λ(x:Nat)=>D.int (x:Int)) (h:=λ(x:Nat)=>D.int (dr ns (a+1+(w:Int)*(y:Int)+(x:Int)) m)) (l:=ad6 w) (gJ (ao rfl) (by omega)) (by rw[z2d];omega) λx hx=>?_)) rfl;refine bK rfl (aX (aB rfl (aB (au (au (au rfl rfl rfl) (au rfl rfl (mq (.inl ⟨by omega,by omega⟩))) rfl) rfl rfl) (ao rfl))) ?_);have hp:(0:Int)<=(w:Int)*(y:Int):=Int.mul_nonneg (by omega) (by omega);exact (uM hns (by omega) hm).1
 unfold YL mO;rw[e];show (if acc.length<1000000 then So.nx _ else .bad)=_;rw[if_pos hl];rfl
theorem NT(hns:ns.length<=1000000)(ha:0<=a)(hm:0<m)(hw:w<=20){tl:Option Ent}:∀{ys:List Nat} {acc:List D} {x:Option Ent},acc.length+ys.length<=1000000->
  ∃x',forL (aH 6) YL (ys.map λ(y:Nat)=>D.int (y:Int)) [vA (.lst (ns.map .int)),vA (.int a),vA (.int (w:Int)),tl,vA (.int m),some (.lst acc),x] =
   .nx [vA (.lst (ns.map .int)),vA (.int a),vA (.int (w:Int)),tl,vA (.int m),some (.lst (acc++ys.map λ(y:Nat)=>row w λx=>dr ns (a+1+(w:Int)*(y:Int)+(x:Int)) m)),x']
 |[],acc,x,_=>⟨x,by rw[agz,agz,aeK];rfl⟩
 | y::ys,acc,x,hl=>by
  rw[aef] at hl;obtain⟨x',e⟩:=NT hns ha hm hw (tl:=tl) (ys:=ys) (acc:=acc++[row w λx=>dr ns (a+1+(w:Int)*(y:Int)+(x:Int)) m]) (x:=vA (.int (y:Int))) (by rw[z1d];simp only[aef,afQ];omega);refine⟨x',?_⟩;rw[afb] at e;rw[z1h,z1h];exact fG rfl (acg hns ha hm hw (by omega)) e
theorem Uk(hns:ns.length<=1000000)(ha:0<=a)(hw:w<=20)(hw1:1<=w)(hh:h<=20)(hh1:1<=h):∃f,pF [.lst (ns.map .int),.int a,.int (w:Int),.int (h:Int)]= .ok (bx w h f)/\Ok w h f:=by
 obtain⟨e1,h0,h4⟩:=uM (k:=a) (m:=4) hns ha (by omega);obtain⟨d,hd,ed⟩:=wJ (xs:=[D.int 2,.int 5,.int 100,.int 10]) h0 h4;have hm:∃m,d= .int m/\0<m/\m<=100:=by
  simp only[ael,afl,or_false] at hd;rcases hd with rfl |rfl |rfl |rfl
  ·exact⟨_,rfl,by omega,by omega⟩
  ·exact⟨_,rfl,by omega,by omega⟩
  ·exact⟨_,rfl,by omega,by omega⟩
  ·exact⟨_,rfl,by omega,by omega⟩
 obtain⟨m,rfl,hm0,hm1⟩:=hm;obtain⟨x',er⟩:=NT hns ha hm0 hw (tl:=vA (.int (h:Int))) (ys:=ad6 h) (acc:=[]) (x:=none) (by rw[z2d,afQ];omega);refine⟨λy x=>dr ns (a+1+(w:Int)*(y:Int)+(x:Int)) m,bR (aK (ρ':=[vA (.lst (ns.map .int)),vA (.int a),vA (.int (w:Int)),vA (.int (h:Int)),vA (.int m),some (.lst []),none]) ?_ (aK (jM (gJ (m:=h) (ao rfl) (by omega)) er) (bw (aO (ao (x:= .lst ((ad6 h).map λ(y:Nat)=>row w λx=>dr ns (a+1+(w:Int)*(y:Int)+(x:Int)) m)) rfl) rfl)))),hw1,hw,hh1,hh,λy hy x hx=>?_⟩
 ·exact aaz (au (x:= .lst [D.int 2,.int 5,.int 100,.int 10]) (y:= .int (dr ns a 4)) (dG rfl) (aX (aB rfl (aB rfl (ao rfl))) e1) (qw ed)) rfl
 ·have hp:(0:Int)<=(w:Int)*(y:Int):=Int.mul_nonneg (by omega) (by omega);have:=(uM (k:=a+1+(w:Int)*(y:Int)+(x:Int)) (m:=m) hns (by omega) hm0).2;show 0<=dr _ _ _/\dr _ _ _<=99;omega
end
section
variable{w h:Nat}{f g:Nat->Nat->Int}
theorem mR{β:Type}{p q:α->β}{l:List α}(e:∀a∈l,p a=q a):l.map p=l.map q:=aeY e
end
structure mU(w h:Nat)(s:Nat->Nat):Prop where
 lt:∀y<h,s y<w
 st:∀y,y+1<h->s (y+1)<=s y+1/\s y<=s (y+1)+1
abbrev sm(h:Nat)(s:Nat->Nat):D:=row h λy=>((s y:Nat):Int)
section
variable{ρ:aA}{fa:aA->R (List D)}{α:Type}{l:List α}{p q r:α->D}{x y z:D}
theorem RW{m:Nat}(e:fa ρ= .ok [.int 1,.int (m:Int)])(h:m<2^62):(λρ=>(fa ρ).bind HW) ρ= .ok ((ad6 (m - 1)).map λ(i:Nat)=>D.int ((i+1:Nat):Int)):=by
 show (fa ρ).bind HW=_;rw[e,R.bf,HW,if_pos ⟨by omega,by omega,by omega,by omega⟩];unfold upto;rw[show ((m:Int) - 1).toNat=m - 1 by omega];refine congrArg R.ok (mR λi _=>?_);rw[show (1:Int)+(i:Int)=((i+1:Nat):Int) by omega]
theorem wX(e:fa ρ= .ok [x,y])(h1:jC x= .ok (l.map p))(h2:jC y= .ok (l.map q)):(λρ=>(fa ρ).bind zip2) ρ= .ok (l.map λa=> .tup [p a,q a]):=by
 show (fa ρ).bind zip2=_;rw[e,R.bf,zip2,h1,R.bf,h2,R.bf,xQ,List.zip_map',aev];rfl
theorem Wn{i:Int}:wD (.int i) (.int j)= .ok (.bl (decide (i<=j))):=rfl
theorem Ul{i:Int}(h:i<j):ltI (.int i) (.int j)= .ok (.bl true):=by
 show R.ok (D.bl (decide (i<j)))=_;rw[decide_eq_true h]
theorem sE{i:Int}(h:i=j):iC (.int i) (.int j)= .ok (.bl false):=iU (by rw[h]) (by simp[dep])
theorem Wo{n d:Nat}:HT.sIx n d (some (k:Int))=min k n:=by
 show (if (k:Int)<0 then ((k:Int)+(n:Int)).toNat else min (k:Int).toNat n)=min k n;rw[if_neg (by omega),aeQ]
theorem wY{n d:Nat}:HT.sIx n d none=d:=rfl
theorem RX{n:Nat}(h:n<=ds.length):iG ds none (some (n:Int))=ds.take n:=by
 rw[iG,Wo,wY,ag4 h,agT];rfl
theorem Kp{n:Nat}(h:n<=ds.length):iG ds (some (n:Int)) none=ds.drop n:=by
 rw[iG,Wo,wY,ag4 h,ahr (by rw[ahu];exact z0g _)]
theorem Jb{f:aA->R D}{fu:aA->R (Option Int)}{n:Nat}(e1:f ρ= .ok (.tup ds))(e2:fu ρ= .ok (some (n:Int)))(h:n<=ds.length):jj f (λ_=> .ok none) fu ρ= .ok (.tup (ds.take n)):=by
 rw[jj,e1,R.bf,R.bf,e2,R.bf,Mv,RX h]
theorem Wq{f:aA->R D}{fl:aA->R (Option Int)}{n:Nat}(e1:f ρ= .ok (.tup ds))(e2:fl ρ= .ok (some (n:Int)))(h:n<=ds.length):jj f fl (λ_=> .ok none) ρ= .ok (.tup (ds.drop n)):=by
 rw[jj,e1,R.bf,e2,R.bf,R.bf,Mv,Kp h]
theorem sG{xs ys:List D}(h:xs.length+ys.length<=1000000):cL (.tup xs) (.tup ys)= .ok (.tup (xs++ys)):=by
 rw[cL,if_pos h]
theorem sH{xs ys:List D}(h:xs.length+ys.length<=1000000):cL (.lst xs) (.lst ys)= .ok (.lst (xs++ys)):=by
 rw[cL,if_pos h]
end
section
variable{w h:Nat}{g:Nat->Int}{n:Nat}{c:Int}
theorem NZ(hn:n<w):((ad6 w).map λx=>D.int (g x)).take n++((ad6 w).map λx=>D.int (g x)).drop (n+1)=(ad6 (w - 1)).map λx=>D.int (if x<n then g x else g (x+1)):=by
 refine agB (by simp;omega) λi h1 h2=>?_;rw[List.getElem_append];by_cases hi:i<n
 ·rw[dif_pos (by simp;omega)];simp[hi]
 ·rw[dif_neg (by simp;omega)];have e:n+1+(i - min n w)=i+1:=by omega
  simp[hi,e]
end
section
variable{w h:Nat}{f:Nat->Nat->Int}{s:Nat->Nat}
theorem Wr(q:mU w h s)(qD:h<=20):xZ [sm h s,.int (w:Int),.int (h:Int)]= .ok (.bl true):=by
 refine bR (aK (bU (f9 (cP (aN (b:=true) rfl)) (aN (au (aO (ao rfl) rfl) rfl (sE ?_)))) rfl)
  (aK (bU (cP (aN (aO (ao (bC (c:=λy=> .int ((s y:Nat):Int)) (h:=λ_=> .bl true) (l:=ad6 h) (cZ rfl) (by rw[z2d];omega) λy hy=>?_)) ji))) rfl)
  (bw (aO (ao (bC (c:=λy=> .int ((y+1:Nat):Int)) (h:=λ_=> .bl true) (l:=ad6 (h - 1)) (RW (aB rfl (ao rfl)) (by omega)) (by rw[z2d];omega) λy hy=>?_)) ji))))
 ·simp
 ·have:=q.lt y (z2e hy);exact bK rfl (zO (aX (ao rfl) iY) (wK rfl rfl (nW (by omega)) rfl (Ul (by omega))))
 ·have hy:y<h - 1:=z2e hy;obtain⟨h1,h2⟩:=q.st y (by omega);refine bK rfl (au (aO (ao (au (x:= .int ((s (y+1):Nat):Int)) (y:= .int ((s y:Nat):Int)) (au rfl rfl (gK (i:=y+1) ?_)) (au rfl (au (x:= .int ((y+1:Nat):Int)) (y:= .int 1) rfl rfl ?_) (gK (i:=y) ?_)) rfl)) rfl) rfl (nW ?_))
  ·rw[z2b,aei (by omega)];rfl
  ·show R.ok (D.int (((y+1:Nat):Int) - 1))=_;rw[show ((y+1:Nat):Int) - 1=(y:Int) by omega]
  ·rw[z2b,aei (by omega)];rfl
  ·split <;> omega
theorem len0(o:Ok w h f){ρ:aA}(e:u ρ= .ok (bx w h f)):aD cC (ak (bin u (ci 0) bW) nA) ρ= .ok (.int (w:Int)):=by
 refine aO (ao (au e rfl (gK (i:=0) (d:=row w (f 0)) ?_))) ?_
 ·rw[z2b,aei o.h1];rfl
 ·simp[row,cC]
theorem Jc(q:mU w h s)(qD:h<=20):qN [bx w h f,sm h s]= .ok (row h λy=>f y (s y)):=by
 refine bR (bw (aO (ao (bC (c:=λy=> .tup [row w (f y),.int ((s y:Nat):Int)]) (h:=λy=> .int (f y (s y))) (l:=ad6 h) (wX (aB rfl (ao rfl)) rfl rfl) (by rw[z2d];omega) λy hy=>?_)) rfl));refine bK rfl (au rfl rfl (gK (i:=s y) ?_));rw[z2b,aei (q.lt y (z2e hy))];rfl
def less(s:Nat->Nat)(f:Nat->Nat->Int):Nat->Nat->Int:=λy x=>if x<s y then f y x else f y (x+1)
def more(s:Nat->Nat)(c:Nat->Int)(f:Nat->Nat->Int):Nat->Nat->Int:=λy x=>if x<s y then f y x else if x=s y then c y else f y (x - 1)
theorem GK(q:mU w h s)(qD:h<=20)(w20:w<=20):uQ [bx w h f,sm h s]= .ok (bx (w - 1) h (less s f)):=by
 refine bR (bw (aO (ao (bC (c:=λy=> .tup [row w (f y),.int ((s y:Nat):Int)]) (h:=λy=>row (w - 1) (less s f y)) (l:=ad6 h) (wX (aB rfl (ao rfl)) rfl rfl) (by rw[z2d];omega) λy hy=>?_)) rfl));have hs:=q.lt y (z2e hy);refine bK rfl (au (Jb (n:=s y) rfl rfl (by simp;omega)) (Wq (n:=s y+1) rfl rfl (by simp;omega)) ((sG (by simp;omega)).trans ?_));rw[NZ hs];rfl
end
theorem pG{ρ:aA}(e:fa ρ= .ok ds)(h:ds.length<=1000000:=by exact agS rfl):newL fa i ρ= .nx (ρ.set i (some (.lst ds))):=by
 unfold newL;rw[e];show (if _ then _ else _)=_;rw[if_pos h]
def pl(ps:List Nat):List D:=ps.map λp=> .int ((p:Nat):Int)
section
variable{ns:List Int}{a:Int}{w h:Nat}{t:Option Ent}
end
section
variable{w h:Nat}{f:Nat->Nat->Int}
end
section
variable{w h:Nat}{f:Nat->Nat->Int}{s:Nat->Nat}{c:Nat->Int}
theorem Ok.less(o:Ok w h f)(h1:1<w):Ok (w - 1) h (less s f):=by
 refine⟨by omega,by have:=o.w2;omega,o.h1,o.h2,λy hy x hx=>?_⟩;unfold Af.less;split
 ·exact o.c y hy x (by omega)
 ·exact o.c y hy (x+1) (by omega)
end
def ab(i:Int):Int:=if i<0 then -i else i
def gap(n:Nat)(g:Nat->Int)(x:Nat):Int:=ab (g (x - 1) - g (min (x+1) (n - 1)))
def N5(w h:Nat)(f:Nat->Nat->Int)(y x:Nat):Int:=gap w (f y) x+gap h (λy=>f y x) y
section
variable{n w h:Nat}{g:Nat->Int}{f:Nat->Nat->Int}{s:Nat->Nat}{ρ:aA}
theorem CV:cC [row n g]= .ok (.int (n:Int)):=by simp[row,cC]
theorem wZ:cC [bx w h f]= .ok (.int (h:Int)):=by simp[bx,cC]
theorem Aw{n:Nat}(h1:1<=n):cW (.int (n:Int)) (.int 1)= .ok (.int ((n - 1:Nat):Int)):=by
 show R.ok (D.int ((n:Int) - 1))=_;rw[show (n:Int) - 1=((n - 1:Nat):Int) by omega]
theorem Um:maxD [.int ((x:Int) - 1),.int 0]= .ok (.int ((x - 1:Nat):Int)):=by
 show R.ok (D.int (if (0:Int) > (x:Int) - 1 then 0 else (x:Int) - 1))=_;congr 2;split <;> omega
theorem min1{n:Nat}:minD [.int ((x+1:Nat):Int),.int (n:Int)]= .ok (.int ((min (x+1) n:Nat):Int)):=by
 show R.ok (D.int (if (n:Int)<((x+1:Nat):Int) then (n:Int) else ((x+1:Nat):Int)))=_;congr 2;split <;> omega
theorem jN(hx:x<n):bW (row n g) (.int (x:Int))= .ok (.int (g x)):=by
 refine gK (i:=x) ?_;rw[z2b,aei hx];rfl
theorem qF(hy:y<h):bW (bx w h f) (.int (y:Int))= .ok (row w (f y)):=by
 refine gK (i:=y) ?_;rw[z2b,aei hy];rfl
theorem nY{α:Type}{p:Nat->D}(hx:x<n):bW (.lst ((ad6 n).map p)) (.int (x:Int))= .ok (p x):=by
 refine FZ (i:=x) ?_;rw[z2b,aei hx];rfl
theorem Jd(h1:1<=n)(qD:n<=20):Aq [row n g]= .ok (.lst ((ad6 n).map λx=> .int (gap n g x))):=by
 refine bR (aK (aZ (au (aO (ao rfl) CV) rfl (Aw h1)) rfl) (bw (bC (c:=λ(x:Nat)=>D.int (x:Int)) (h:=λx=> .int (gap n g x)) (l:=ad6 n) (gJ (ao (aO (ao rfl) CV)) (by omega)) (by rw[z2d];omega) λx hx=>?_)));have hx:=z2e hx;exact bK rfl (aO (ao (au (x:= .int (g (x - 1))) (y:= .int (g (min (x+1) (n - 1)))) (au rfl (aO (aB (au rfl rfl rfl) (ao rfl)) Um) (jN (by omega))) (au rfl (aO (aB (x:= .int ((x+1:Nat):Int)) (au rfl rfl rfl) (ao rfl)) min1) (jN (by omega))) rfl)) rfl)
theorem Ws(o:Ok w h f):Ez [bx w h f]= .ok (bx w h (N5 w h f)):=by
 have qD:=o.h2;have w20:=o.w2;refine bR (aK (aZ (aX (ao rfl) (size_eq o)) rfl)
  (aK (aZ (bC (c:=λy=>row w (f y)) (h:=λy=> .lst ((ad6 w).map λx=> .int (gap w (f y) x))) (l:=ad6 h) (cZ rfl) (by rw[z2d];omega) λy hy=>bK rfl (aX (ao rfl) (Jd o.w1 o.w2))) rfl)
  (aK (aZ (bC (c:=λx=>row h λy=>f y x) (h:=λx=> .lst ((ad6 h).map λy=> .int (gap h (λy=>f y x) y))) (l:=ad6 w) (cZ (aX (ao rfl) (Wm o))) (by rw[z2d];omega) λy hy=>bK rfl (aX (ao rfl) (Jd o.h1 o.h2))) rfl)
  (bw (aO (ao (bC (c:=λ(y:Nat)=>D.int (y:Int)) (h:=λy=>row w (N5 w h f y)) (l:=ad6 h) (gJ (ao rfl) (by omega)) (by rw[z2d];omega) λy hy=>?_)) rfl)))))
 have hy:=z2e hy;refine bK rfl (aO (ao (bC (c:=λ(x:Nat)=>D.int (x:Int)) (h:=λx=> .int (N5 w h f y x)) (l:=ad6 w) (gJ (ao rfl) (by omega)) (by rw[z2d];omega) λx hx=>?_)) rfl);have hx:=z2e hx;exact bK rfl (au (x:= .int (gap w (f y) x)) (y:= .int (gap h (λy=>f y x) y)) (au (au rfl rfl (nY (α:=D) hy)) rfl (nY (α:=D) hx)) (au (au rfl rfl (nY (α:=D) hx)) rfl (nY (α:=D) hy)) rfl)
def gB(T:Nat->Int):D:= .tup [.int (T 0),.int (T 1),.int (T 2)]
def tab(w h:Nat)(T:Nat->Nat->Nat->Int):D:= .lst ((ad6 h).map λy=> .lst ((ad6 w).map λx=>gB (T y x)))
def lB(w:Nat)(f:Nat->Nat->Int)(y x i:Nat):Int:=gap w (f y) x+(if i=0 then ab (f (y - 1) x - f y (x - 1)) else if i=1 then 0 else ab (f (y - 1) x - f y (min (x+1) (w - 1))))
def aaf:aA->So:=(aR (bB (bin (gv 7) (aD qK (ak (bin (bin (gv 3) (gv 6) bW) (bin (gv 2) (aD maxD (ak (bin (gv 6) (ci 1) cW) (ak (ci 0) nA))) bW) cW) nA)) cL) (aH 8)) (aR (bB (bin (gv 7) (aD qK (ak (bin (bin (gv 3) (gv 6) bW) (bin (gv 2) (aD minD (ak (bin (gv 6) (ci 1) cL) (ak (gv 4) nA))) bW) cW) nA)) cL) (aH 9)) (mO 5 (dh (ak (gv 8) (ak (gv 7) (ak (gv 9) nA)))))))
theorem Ax{d:D}(e:u ρ= .ok d)(h:ρ[i]?=some (some (.lst ds)))(hl:ds.length<1000000):mO i u ρ= .nx (ρ.set i (some (.lst (ds++[d])))):=by
 unfold mO;rw[e];simp only[wH,fZ,h];rw[if_pos hl]
theorem YM(h1:1<=w)(hx:x<w)(hl:acc.length<1000000):
  ∃z8 z9,aaf [e0,e1,vA (row w (f y)),vA (row w (f (y - 1))),vA (.int ((w - 1:Nat):Int)),some (.lst acc),vA (.int (x:Int)),vA (.int (gap w (f y) x)),e8,e9] =
   .nx [e0,e1,vA (row w (f y)),vA (row w (f (y - 1))),vA (.int ((w - 1:Nat):Int)),some (.lst (acc++[gB (lB w f y x)])),vA (.int (x:Int)),vA (.int (gap w (f y) x)),z8,z9]:=by
 refine⟨_,_,aK (aZ (d:= .int (lB w f y x 0)) (au (x:= .int (gap w (f y) x)) (y:= .int (ab (f (y - 1) x - f y (x - 1)))) rfl (aO (ao (au (x:= .int (f (y - 1) x)) (y:= .int (f y (x - 1))) (au rfl rfl (jN hx)) (au rfl (aO (aB (au rfl rfl rfl) (ao rfl)) Um) (jN (by omega))) rfl)) rfl) rfl) rfl)
  (aK (aZ (d:= .int (lB w f y x 2)) (au (x:= .int (gap w (f y) x)) (y:= .int (ab (f (y - 1) x - f y (min (x+1) (w - 1))))) rfl (aO (ao (au (x:= .int (f (y - 1) x)) (y:= .int (f y (min (x+1) (w - 1)))) (au rfl rfl (jN hx)) (au rfl (aO (aB (x:= .int ((x+1:Nat):Int)) (au rfl rfl rfl) (ao rfl)) min1) (jN (by omega))) rfl)) rfl) rfl) rfl)
  (Ax (d:=gB (lB w f y x)) ((cO (aB rfl (aB rfl (ao rfl)))).trans ?_) rfl hl))⟩
 have:lB w f y x 1=gap w (f y) x:=by simp[lB]
 rw[gB,this]
theorem join_loop(h1:1<=w){y:Nat}{e0 e1:Option Ent}:∀{xs:List Nat} {acc:List D} {e6 e7 e8 e9:Option Ent},(∀x∈xs,x<w)->acc.length+xs.length<=1000->
  ∃z6 z7 z8 z9,forL (cR (cT 2 (aW (aH 6) (aW (aH 7) nilG)))) aaf (xs.map λ(x:Nat)=>D.tup [.int (x:Int),.int (gap w (f y) x)]) [e0,e1,vA (row w (f y)),vA (row w (f (y - 1))),vA (.int ((w - 1:Nat):Int)),some (.lst acc),e6,e7,e8,e9] =
   .nx [e0,e1,vA (row w (f y)),vA (row w (f (y - 1))),vA (.int ((w - 1:Nat):Int)),some (.lst (acc++xs.map λx=>gB (lB w f y x))),z6,z7,z8,z9]
 |[],acc,e6,e7,e8,e9,_,_=>⟨e6,e7,e8,e9,by rw[agz,agz,aeK];rfl⟩
 | x::xs,acc,e6,e7,e8,e9,hx,hl=>by
  rw[aef] at hl;obtain⟨z8,z9,e⟩:=YM (f:=f) (y:=y) h1 (hx x (by simp)) (e0:=e0) (e1:=e1) (e8:=e8) (e9:=e9) (acc:=acc) (by omega);obtain⟨y6,y7,y8,y9,e'⟩:=join_loop h1 (y:=y) (e0:=e0) (e1:=e1) (xs:=xs) (acc:=acc++[gB (lB w f y x)]) (e6:=vA (.int (x:Int))) (e7:=vA (.int (gap w (f y) x))) (e8:=z8) (e9:=z9) (λz hz=>hx z (by simp[hz])) (by simp;omega);refine⟨y6,y7,y8,y9,?_⟩;rw[afb] at e';rw[z1h,z1h];exact fG rfl e e'
theorem Kq{p:Nat->D}:∀{n m:Nat},lJ m ((af5 m n).map p)=(af5 m n).map λ(x:Nat)=>D.tup [.int (x:Int),p x]
 |0,_=>rfl
 |n+1,m=>by rw[af0,z1h,z1h,lJ,Kq]
theorem m9{x:D}{n:Nat}{p:Nat->D}(e:fa ρ= .ok [x])(h:jC x= .ok ((ad6 n).map p)):(λρ=>(fa ρ).bind j5) ρ= .ok ((ad6 n).map λ(y:Nat)=>D.tup [.int (y:Int),p y]):=by
 show (fa ρ).bind j5=_;rw[e,R.bf,j5,h,R.bf,af9,Kq]
theorem K5(o:Ok w h f)(hy:y<h):tW [bx w h f,.int (y:Int)]= .ok (.lst ((ad6 w).map λx=>gB (lB w f y x))):=by
 have w20:=o.w2;obtain⟨z6,z7,z8,z9,e⟩:=join_loop (f:=f) (y:=y) o.w1 (e0:=vA (bx w h f)) (e1:=vA (.int (y:Int))) (xs:=ad6 w) (acc:=[]) (e6:=none) (e7:=none) (e8:=none) (e9:=none) (λx hx=>z2e hx) (by rw[z2d,afQ];omega);exact bR (aK (aZ (au rfl rfl (qF hy)) rfl) (aK (aZ (au rfl (aO (aB (au rfl rfl rfl) (ao rfl)) Um) (qF (by omega))) rfl) (aK (aZ (au (aO (ao rfl) CV) rfl (Aw o.w1)) rfl) (aK (pG rfl)
  (aK (jM (m9 (ao (aX (ao rfl) (Jd o.w1 o.w2))) rfl) e) (bw (d:= .lst ((ad6 w).map λx=>gB (lB w f y x))) rfl))))))
theorem pH{a b:Str}:kO (.str a) (.str b)= .ok (.bl (a ==b)):=by
 rw[kO,if_pos (by simp[dep])];show R.ok (D.bl (dF (.str a) (.str b)))=_;simp[jF,jG,jH,jJ,jK,gC,eV]
def wo3(w h:Nat)(f:Nat->Nat->Int)(y x i:Nat):Int:=N5 w h f y x
theorem aa4(o:Ok w h f):wV [bx w h f,.str "worth"]= .ok (tab w h (wo3 w h f)):=by
 have qD:=o.h2;have w20:=o.w2;exact bR (gk (cX (aN (b:=true) (au rfl rfl pH)) (bw (bC (c:=λy=>row w (N5 w h f y)) (h:=λy=> .lst ((ad6 w).map λx=>gB (wo3 w h f y x))) (l:=ad6 h) (cZ (aX (ao rfl) (Ws o))) (by rw[z2d];omega) λy hy=>
  bK rfl (bC (c:=λx=> .int (N5 w h f y x)) (h:=λx=>gB (wo3 w h f y x)) (l:=ad6 w) (cZ rfl) (by rw[z2d];omega) λx hx=>bK rfl (cO (aB rfl (aB rfl (ao rfl)))))))))
theorem aa5(o:Ok w h f):wV [bx w h f,.str "joins"]= .ok (tab w h (lB w f)):=by
 have qD:=o.h2;exact bR (aK (bU (aN (b:=false) (au rfl rfl pH)) rfl) (bw (bC (c:=λ(y:Nat)=>D.int (y:Int)) (h:=λy=> .lst ((ad6 w).map λx=>gB (lB w f y x))) (l:=ad6 h) (gJ (ao (aO (ao rfl) wZ)) (by omega)) (by rw[z2d];omega) λy hy=>
  bK rfl (aX (aB rfl (ao rfl)) (K5 o (z2e hy))))))
def fare(T:Nat->Nat->Nat->Int)(s:Nat->Nat)(y:Nat):Int:=T y (s y) (s (y - 1)+1 - s y)
def cost(h:Nat)(T:Nat->Nat->Nat->Int)(s:Nat->Nat):Int:=T 0 (s 0) 1+((ad6 (h - 1)).map λy=>fare T s (y+1)).sum
theorem GQ{T:Nat->Int}{p:Nat->D}{b:Nat}(hb:b<w)(h1:b<=a+1)(h2:a<=b+1)(hp:p b=gB T):m8 [.lst ((ad6 w).map p),.int (a:Int),.int (b:Int)]= .ok (.int (T (a+1 - b))):=by
 refine bR (bw (au (x:=gB T) (y:= .int ((a+1 - b:Nat):Int)) (au rfl rfl ((nY (α:=D) hb).trans (congrArg R.ok hp))) (au (au rfl rfl rfl) rfl ?_) (gK (i:=a+1 - b) ?_)))
 ·show R.ok (D.int ((a:Int) - (b:Int)+1))=_;rw[show (a:Int) - (b:Int)+1=((a+1 - b:Nat):Int) by omega]
 ·have:a+1 - b=0\/a+1 - b=1\/a+1 - b=2:=by omega
  rcases this with e |e |e <;> rw[e] <;> rfl
theorem ach{a b:Int}(h:ρ[i]?=some (some (.val (.int a))))(e:u ρ= .ok (.int b)):MK i u ρ= .nx (ρ.set i (some (.val (.int (a+b))))):=by
 unfold MK;simp only[h];rw[e];rfl
theorem Je{m:Str}(hm:m= "worth"\/m= "joins"):qM [.str m]= .ok .non:=by
 rcases hm with rfl |rfl
 ·exact Ga (bU (aN (b:=false) (au rfl rfl (by simp[Rj,TJ,iB,jF,jG,jH,jJ,jK,gC,eV]))) rfl)
 ·exact Ga (bU (aN (b:=false) (au rfl rfl (by simp[Rj,TJ,iB,jF,jG,jH,jJ,jK,gC,eV]))) rfl)
def tbl(m:Str)(w h:Nat)(f:Nat->Nat->Int):Nat->Nat->Nat->Int:=if m= "worth" then wo3 w h f else lB w f
end
section
variable{n w h:Nat}{g:Nat->Int}{f:Nat->Nat->Int}{s:Nat->Nat}{c:Int}{m:Str}{ρ:aA}
theorem N6{n j:Nat}{sel:List (Sum Nat D)}{fk:aA->R (List D)}{zs:List D}{d:D}(e1:fa ρ= .ok ds)(e2:fk ρ= .ok zs)(e3:F (ds++pickK .non sel zs)= .ok d)(hl:(ds++pickK .non sel zs).length=n:=by rfl)(hj:zs.length=j:=by rfl):CG F n j sel fa fk ρ= .ok d:=by
 rw[CG,e1,R.bf,e2,R.bf,if_pos hj,aV,if_pos hl,e3];rfl
theorem Wt{p:Nat->Int}(hh:1<=h):((ad6 h).map p).sum=p 0+((ad6 (h - 1)).map λy=>p (y+1)).sum:=by
 obtain⟨k,rfl⟩:∃k,h=k+1:=⟨h - 1,by omega⟩;rw[aeN,z1h,agK,aev];rfl
abbrev clip(n:Nat)(X:Int):Int:=if (if X<((n - 1:Nat):Int) then X else ((n - 1:Nat):Int)) > 0 then (if X<((n - 1:Nat):Int) then X else ((n - 1:Nat):Int)) else 0
theorem LK{X Y:Int}(o:Ok w h f)(hy:clip h Y=(y:Int))(hyh:y<h)(hx:clip w X=(x:Int))(hxw:x<w):jo [bx w h f,.int X,.int Y]= .ok (.int (f y x)):=by
 refine bR (bw (au (x:=row w (f y)) (y:= .int (x:Int)) (au rfl (aO (aB rfl (ao (aO (aB (au (aO (ao rfl) wZ) rfl (Aw o.h1)) (ao rfl)) rfl))) ?_) (qF hyh)) (aO (aB rfl (ao (aO (aB (au (len0 o rfl) rfl (Aw o.w1)) (ao rfl)) rfl))) ?_) (jN hxw)))
 ·exact congrArg (λz=>R.ok (D.int z)) hy
 ·exact congrArg (λz=>R.ok (D.int z)) hx
theorem CW(hx:x<n):clip n (x:Int)=(x:Int):=by unfold clip;split <;> split <;> omega
theorem RZ(hx:x<n):clip n ((x+1:Nat):Int)=((min (x+1) (n - 1):Nat):Int):=by unfold clip;split <;> split <;> omega
theorem R0(hx:x<n):clip n ((x:Int) - 1)=((x - 1:Nat):Int):=by unfold clip;split <;> split <;> omega
theorem tX(o:Ok w h f)(hx:x<w)(hy:y<h):aD qK (ak (bin (aD (aV jo 3) (ak (gv 0) (ak (bin (gv 2) (ci 1) cW) (ak (gv 3) nA)))) (aD (aV jo 3) (ak (gv 0) (ak (bin (gv 2) (ci 1) cL) (ak (gv 3) nA)))) cW) nA)
  [vA (bx w h f),e1,vA (.int (x:Int)),vA (.int (y:Int)),e4,e5]= .ok (.int (gap w (f y) x)):=
 aO (ao (au (x:= .int (f y (x - 1))) (y:= .int (f y (min (x+1) (w - 1)))) (aX (aB rfl (aB (x:= .int ((x:Int) - 1)) (au rfl rfl rfl) (ao rfl))) (LK o (CW hy) hy (R0 hx) (by omega))) (aX (aB rfl (aB (x:= .int ((x+1:Nat):Int)) (au rfl rfl rfl) (ao rfl))) (LK o (CW hy) hy (RZ hx) (by omega))) rfl)) rfl
theorem aci(o:Ok w h f)(hx:x<w)(hy:y<h){d:D}:jW [bx w h f,.str "worth",.int (x:Int),.int (y:Int),d]= .ok (.int (N5 w h f y x)):=by
 refine bR (aK (aZ (tX o hx hy) rfl) (gk (cX (aN (b:=true) (au rfl rfl pH)) (bw (au (x:= .int (gap w (f y) x)) (y:= .int (gap h (λy=>f y x) y)) rfl (aO (ao (au (x:= .int (f (y - 1) x)) (y:= .int (f (min (y+1) (h - 1)) x)) ?_ ?_ rfl)) rfl) rfl)))))
 ·exact aX (aB rfl (aB rfl (ao (x:= .int ((y:Int) - 1)) (au rfl rfl rfl)))) (LK o (R0 hy) (by omega) (CW hx) hx)
 ·exact aX (aB rfl (aB rfl (ao (x:= .int ((y+1:Nat):Int)) (au rfl rfl rfl)))) (LK o (RZ hy) (by omega) (CW hx) hx)
theorem w5{c:aA->R Bool}{f g:aA->R D}(e:c ρ= .ok true)(h:f ρ=r):zK c f g ρ=r:=by rw[zK,e,R.bf,if_pos rfl,h]
theorem CZ{c:aA->R Bool}{f g:aA->R D}(e:c ρ= .ok false)(h:g ρ=r):zK c f g ρ=r:=by rw[zK,e,R.bf,if_neg (by decide),h]
theorem aag{i:Int}:iC (.int i) (.int j)= .ok (.bl (!decide (i=j))):=by
 rw[iC,if_pos (by simp[dep])];show R.ok (D.bl (!dF (.int i) (.int j)))=_;by_cases h:i=j <;> simp[jF,jG,jH,jJ,jK,gC,eV,h]
theorem aa6(o:Ok w h f)(hx:x<w)(hy:y<h):jW [bx w h f,.str "joins",.int (x:Int),.int (y:Int),.non]= .ok (.int (lB w f y x 1)):=by
 have e:lB w f y x 1=gap w (f y) x:=by simp[lB]
 rw[e];exact bR (aK (aZ (tX o hx hy) rfl) (aK (bU (aN (b:=false) (au rfl rfl pH)) rfl) (aK (bU (wL (aN (b:=false) (au rfl rfl rfl))) rfl) (bw rfl))))
theorem acj(o:Ok w h f){b:Nat}(hx:x<w)(hy:y+1<h)(hb:b<w)(h1:b<=x+1)(h2:x<=b+1):jW [bx w h f,.str "joins",.int (x:Int),.int ((y+1:Nat):Int),.int (b:Int)]= .ok (.int (lB w f (y+1) x (b+1 - x))):=by
 by_cases hbx:b=x
 ·subst hbx;have e:lB w f (y+1) b (b+1 - b)=gap w (f (y+1)) b:=by simp[lB,show b+1 - b=1 by omega]
  rw[e];exact bR (aK (aZ (tX o hx hy) rfl) (aK (bU (aN (b:=false) (au rfl rfl pH)) rfl) (aK (bU (jU (aN (b:=true) (au rfl rfl rfl)) (aN (au rfl rfl (sE rfl)))) rfl) (bw rfl))))
 ·have hne:iC (.int (b:Int)) (.int (x:Int))= .ok (.bl true):=by rw[aag,decide_eq_false (by omega)];rfl
  by_cases hlt:b<x
  ·have e:lB w f (y+1) x (b+1 - x)=gap w (f (y+1)) x+ab (f y x - f (y+1) (x - 1)):=by simp[lB,show b+1 - x=0 by omega]
   rw[e];exact bR (aK (aZ (tX o hx hy) rfl) (aK (bU (aN (b:=false) (au rfl rfl pH)) rfl) (aK (cX (jU (aN (b:=true) (au rfl rfl rfl)) (aN (au rfl rfl hne)))
    (aZ (d:= .int (gap w (f (y+1)) x+ab (f y x - f (y+1) (x - 1)))) (au (x:= .int (gap w (f (y+1)) x)) (y:= .int (ab (f y x - f (y+1) (x - 1)))) rfl (aO (ao (au (x:= .int (f y x)) (y:= .int (f (y+1) (x - 1))) (au (au rfl (au (x:= .int ((y+1:Nat):Int)) rfl rfl (Aw (by omega))) (qF (y:=y+1 - 1) (by omega))) rfl (jN hx)) (au (au rfl rfl (qF hy)) (w5 (aN (au rfl rfl (Ul (by omega)))) (au (x:= .int (x:Int)) rfl rfl (Aw (by omega)))) (jN (by omega))) rfl)) rfl) rfl) rfl)) (bw rfl))))
  ·have e:lB w f (y+1) x (b+1 - x)=gap w (f (y+1)) x+ab (f y x - f (y+1) (x+1)):=by simp[lB,show b+1 - x=2 by omega,show min (x+1) (w - 1)=x+1 by omega]
   have hf:ltI (.int (b:Int)) (.int (x:Int))= .ok (.bl false):=by
    show R.ok (D.bl (decide _))=_;rw[decide_eq_false (by omega)]
   rw[e];exact bR (aK (aZ (tX o hx hy) rfl) (aK (bU (aN (b:=false) (au rfl rfl pH)) rfl) (aK (cX (jU (aN (b:=true) (au rfl rfl rfl)) (aN (au rfl rfl hne)))
    (aZ (d:= .int (gap w (f (y+1)) x+ab (f y x - f (y+1) (x+1)))) (au (x:= .int (gap w (f (y+1)) x)) (y:= .int (ab (f y x - f (y+1) (x+1)))) rfl (aO (ao (au (x:= .int (f y x)) (y:= .int (f (y+1) (x+1))) (au (au rfl (au (x:= .int ((y+1:Nat):Int)) rfl rfl (Aw (by omega))) (qF (y:=y+1 - 1) (by omega))) rfl (jN hx)) (au (au rfl rfl (qF hy)) (CZ (aN (au rfl rfl hf)) (au (x:= .int (x:Int)) (y:= .int 1) rfl rfl rfl)) (jN (x:=x+1) (by omega))) rfl)) rfl) rfl) rfl)) (bw rfl))))
def bef(h:Nat)(s:Nat->Nat):List D:=D.non::(ad6 (h - 1)).map λy=>D.int ((s y:Nat):Int)
theorem acn(hh:1<=h)(qD:h<=20):bin (dh (ak (λ_=> .ok .non) nA)) (jj (gv 2) (λ_=> .ok none) (λρ=>(((jt (ci 1)):aA->R D) ρ).bind qy)) cL [e0,e1,vA (sm h s),e3]= .ok (.tup (bef h s)):=by
 have e:jj (gv 2) (λ_=> .ok none) (λρ=>(((jt (ci 1)):aA->R D) ρ).bind qy) [e0,e1,vA (sm h s),e3]= .ok (.tup ((ad6 (h - 1)).map λy=>D.int ((s y:Nat):Int))):=by
  show R.ok (D.tup (iG ((ad6 h).map λy=>D.int ((s y:Nat):Int)) none (some (-1))))=_;have e2:∀{n d:Nat},HT.sIx n d (some (-1))=n - 1:=λ{n d}=>by
   show (if (-1:Int)<0 then ((-1:Int)+(n:Int)).toNat else min (-1:Int).toNat n)=n - 1;rw[if_pos (by decide)];omega
  rw[iG,e2,wY,agT,z1g,z2d,ahl,<-afZ,List.take_range,ag4 (by omega)]
 exact au (cO (ao rfl)) e (sG (by simp;omega))
theorem aco(hy:y<h):bW (.tup (bef h s)) (.int (y:Int))= .ok (if y=0 then .non else .int ((s (y - 1):Nat):Int)):=by
 refine gK (i:=y) ?_;cases y with
 |zero=>rfl
 | succ y=>
  show ((ad6 (h - 1)).map λy=>D.int ((s y:Nat):Int))[y]?=_;rw[z2b,aei (by omega)];rfl
theorem step_eq(hm:m= "worth"\/m= "joins")(o:Ok w h f)(q:mU w h s)(hy:y<h):jW [bx w h f,.str m,.int ((s y:Nat):Int),.int (y:Int),if y=0 then .non else .int ((s (y - 1):Nat):Int)]= .ok (.int (if y=0 then tbl m w h f 0 (s 0) 1 else fare (tbl m w h f) s y)):=by
 rcases hm with rfl |rfl
 ·rw[aci o (q.lt y hy) hy];by_cases h0:y=0
  ·subst h0;rfl
  ·rw[if_neg h0];rfl
 ·by_cases h0:y=0
  ·subst h0;rw[if_pos rfl,if_pos rfl];exact aa6 o (q.lt 0 hy) hy
  ·obtain⟨k,rfl⟩:∃k,y=k+1:=⟨y - 1,by omega⟩;rw[if_neg h0,if_neg h0];obtain⟨k1,k2⟩:=q.st k hy;exact acj o (q.lt _ hy) hy (q.lt k (by omega)) k2 k1
theorem Qs(hm:m= "worth"\/m= "joins")(o:Ok w h f)(q:mU w h s):pZ [bx w h f,.str m,sm h s]= .ok (.int (cost h (tbl m w h f) s)):=by
 have qD:=o.h2;have e:((ad6 h).map λy=>if y=0 then tbl m w h f 0 (s 0) 1 else fare (tbl m w h f) s y).sum=cost h (tbl m w h f) s:=by
  rw[Wt o.h1,if_pos rfl];rfl
 rw[<-e];refine bR (aK (aZ (acn o.h1 qD) rfl) (bw (aO (ao (bC (c:=λ(y:Nat)=>D.tup [.int (y:Int),.int ((s y:Nat):Int)]) (h:=λy=> .int (if y=0 then tbl m w h f 0 (s 0) 1 else fare (tbl m w h f) s y)) (l:=ad6 h) (m9 (ao rfl) rfl) (by rw[z2d];omega) λy hy=>?_)) aay)));have hy:=z2e hy;exact bK rfl (aX (aB rfl (aB rfl (aB rfl (aB rfl (ao (au rfl rfl (aco hy))))))) (step_eq hm o q hy))
end
abbrev Wy:=Int×Int×List Int
def fl(t:Wy):List Int:=t.1::t.2.1::t.2.2
def un(l:List Int):Wy:=(l.getD 0 0,l.getD 1 0,l.drop 2)
theorem Uo(t:Wy):un (fl t)=t:=rfl
theorem N7{a:Wy}(h:fl a=fl b):a=b:=by have:=congrArg un h;simpa[Uo] using this
def eY(t:Wy):D:= .tup [.int t.1,.int t.2.1,.tup (t.2.2.map .int)]
theorem yp(t:Wy):eY t=jd (fl t):=rfl
def c7(l:List Wy):D:= .lst (l.map eY)
section
variable{n w h:Nat}{g:Nat->Int}{f:Nat->Nat->Int}{ρ:aA}
theorem R4{es:List D}(h:ρ[i]?=some (some (.lst ds)))(e:u ρ= .ok (.lst es))(hl:ds.length+es.length<=1000000):Er i u ρ= .nx (ρ.set i (some (.lst (ds++es)))):=by
 unfold Er;simp only[h,e,wH,fZ];rw[if_pos hl]
theorem aa7{es:List D}(h:ρ[i]?=some (some (.lst ds)))(h2:ρ[k]?=some (some (.lst es)))(hl:ds.length<1000000):Nf i k ρ= .nx ((ρ.set i (some (.lst (ds++[.lst es])))).set k (some (.val (.lst es)))):=by
 unfold Nf;simp only[h,h2];rw[if_pos hl]
theorem N8{G:List D->R D}{n:Nat}{d:D}(h:ρ[i]?=some (some (.obj (.fn a))))(e:fa ρ= .ok ds)(e2:G ds= .ok d)(hl:ds.length=n:=by rfl):CJ i a G n fa ρ= .ok d:=by
 unfold CJ;simp only[h,e,if_true,R.bf,aV,hl,e2];rfl
theorem acp{k:Int}{d:D}(h:ρ[i]?=some (some (.lst ds)))(e:u ρ= .ok (.int k))(e2:bW (.lst ds) (.int k)= .ok d):tM i u ρ= .ok d:=by
 unfold tM;simp only[h,e,R.bf,e2]
theorem Dc(e:u ρ= .ok (.lst ds)):Nm u ρ= .ok (!ds.isEmpty):=by unfold Nm;rw[e];rfl
theorem jk{m:Nat}{s:aA->So}{es:List Ent}{d:D}(e:s (es.map some++aeb m none)= .rt d):iI m s es= .ok d:=by rw[iI,e]
def nr(w x:Nat):List Nat:=af5 (x - 1) (min (x+2) w - (x - 1))
theorem GR{p:Nat}(hx:x<w):p∈nr w x↔p<w/\p<=x+1/\x<=p+1:=by
 unfold nr;rw[List.mem_range'_1,Nat.add_sub_cancel' (Nat.le_min.mpr ⟨z0b (Nat.sub_le x 1) (ahw x 2),z0b (Nat.sub_le x 1) (z0e hx)⟩),Nat.lt_min];exact⟨λh=>⟨h.2.2,Nat.le_of_lt_succ h.2.1,Nat.le_add_of_sub_le h.1⟩,λh=>⟨Nat.sub_le_of_le_add h.2.2,Nat.lt_succ_of_le h.2.1,h.1⟩⟩
theorem Wu:(nr w x).length<=3:=by unfold nr;rw[List.length_range'];omega
theorem aa8(hx:x<w)(hw:w<=20):NK [.int (x:Int),.int (w:Int)]= .ok (.lst ((nr w x).map λ(p:Nat)=>D.int (p:Int))):=by
 have e2:minD [.int ((x+2:Nat):Int),.int (w:Int)]= .ok (.int ((min (x+2) w:Nat):Int)):=by
  show R.ok (D.int (if (w:Int)<((x+2:Nat):Int) then (w:Int) else ((x+2:Nat):Int)))=_;congr 2;by_cases hz:w<x+2
  ·rw[if_pos (Int.ofNat_lt.mpr hz),Nat.min_eq_right (z0e hz)]
  ·rw[if_neg (λq=>hz (Int.ofNat_lt.mp q)),ag4 (Nat.le_of_not_lt hz)]
 refine bR (bw (aO (aB (x:= .int ((x - 1:Nat):Int)) (aO (aB (au rfl rfl rfl) (ao rfl)) Um) (ao (x:= .int ((min (x+2) w:Nat):Int)) (aO (aB (x:= .int ((x+2:Nat):Int)) (au rfl rfl rfl) (ao rfl)) e2))) ?_));show (if _ then _ else _)=_;have b1:x - 1<=1000:=z0b (Nat.sub_le x 1) (z0b (z0e hx) (z0b hw (by decide)));have b2:min (x+2) w<=1000:=z0b (Nat.min_le_right _ _) (z0b hw (by decide));rw[if_pos ⟨Int.le_trans (by decide) (agM _),aiM.mpr b1,Int.le_trans (by decide) (agM _),aiM.mpr b2⟩];congr 2;unfold upto nr;rw[Int.toNat_sub,aiR,aev];refine aeY λi _=>?_;simp
def gD(c:Int)(t:Wy):Wy:=(t.1,t.2.1+c,t.2.2)
def cands(w:Nat)(C:Nat->List Wy)(T:Nat->Nat->Int)(x:Nat):List Wy:=(nr w x).flatMap λp=>(C p).map (gD (T p (x+1 - p)))
variable{C:Nat->List Wy}{T:Nat->Nat->Int}
theorem acq{p:Nat}(hx:x<w)(hp:p∈nr w x)(hC:(C p).length<=1)(hl:acc.length<=1000):
  onB [vA (.lst ((ad6 w).map λx=>c7 (C x))),vA (.lst ((ad6 w).map λx=>gB (T x))),vA (.int (x:Int)),some (.lst acc),vA (.int (p:Int)),e5] =
   .nx [vA (.lst ((ad6 w).map λx=>c7 (C x))),vA (.lst ((ad6 w).map λx=>gB (T x))),vA (.int (x:Int)),some (.lst (acc++((C p).map (gD (T p (x+1 - p)))).map eY)),vA (.int (p:Int)),vA (.int (T p (x+1 - p)))]:=by
 obtain⟨h1,h2,h3⟩:=(GR hx).mp hp;refine aK (aZ (aX (aB rfl (aB rfl (ao rfl))) (GQ (T:=T p) (p:=λx=>gB (T x)) h1 (by omega) (by omega) rfl)) rfl) ?_;refine R4 (ds:=acc) rfl (bC (c:=eY) (h:=λt=>eY (gD (T p (x+1 - p)) t)) (l:=C p) (jT (au rfl rfl (nY (α:=D) h1))) (by omega) λt ht=>?_) (by simp;omega) |>.trans ?_
 ·exact bK rfl (cO (aB rfl (aB (x:= .int (t.2.1+T p (x+1 - p))) (au rfl rfl rfl) (ao rfl))))
 ·rw[aev];rfl
theorem R5{x:Nat}(hx:x<w)(hC:∀p<w,(C p).length<=1):∀{ps:List Nat} {acc:List D} {e4 e5:Option Ent},(∀p∈ps,p∈nr w x)->acc.length+ps.length<=1000->
  ∃z4 z5,forL (aH 4) onB (ps.map λ(p:Nat)=>D.int (p:Int)) [vA (.lst ((ad6 w).map λx=>c7 (C x))),vA (.lst ((ad6 w).map λx=>gB (T x))),vA (.int (x:Int)),some (.lst acc),e4,e5] =
   .nx [vA (.lst ((ad6 w).map λx=>c7 (C x))),vA (.lst ((ad6 w).map λx=>gB (T x))),vA (.int (x:Int)),some (.lst (acc++(ps.flatMap λp=>(C p).map (gD (T p (x+1 - p)))).map eY)),z4,z5]
 |[],acc,e4,e5,_,_=>⟨e4,e5,by simp[forL]⟩
 | p::ps,acc,e4,e5,hp,hl=>by
  rw[aef] at hl;have hpn:=hp p (by simp);have hpw:=((GR hx).mp hpn).1;have hc:=hC p hpw;obtain⟨z4,z5,e⟩:=R5 hx hC (ps:=ps) (acc:=acc++((C p).map (gD (T p (x+1 - p)))).map eY) (e4:=vA (.int (p:Int))) (e5:=vA (.int (T p (x+1 - p)))) (λq hq=>hp q (by simp[hq])) (by simp;omega);refine⟨z4,z5,fG rfl (acq hx hpn hc (by omega)) (e.trans ?_)⟩;rw[agP,afi,afb]
theorem Wv(hx:x<w)(hw:w<=20)(hC:∀p<w,(C p).length<=1):yg [.lst ((ad6 w).map λx=>c7 (C x)),.lst ((ad6 w).map λx=>gB (T x)),.int (x:Int)]= .ok (.lst ((cands w C T x).map eY)):=by
 obtain⟨z4,z5,e⟩:=R5 (T:=T) hx hC (ps:=nr w x) (acc:=[]) (e4:=none) (e5:=none) (λp hp=>hp) (by have:=Wu (w:=w) (x:=x);simp;omega);have hlen:cC [.lst ((ad6 w).map λx=>c7 (C x))]= .ok (.int (w:Int)):=by simp[cC]
 refine bR (aK (pG rfl) (aK (jM (jT (aX (aB rfl (ao (aO (ao rfl) hlen))) (aa8 hx hw))) e) (bw rfl)))
end
section
variable{n w h:Nat}{g:Nat->Int}{f:Nat->Nat->Int}{ρ:aA}
theorem nZ{i:Int}:kO (.int i) (.int j)= .ok (.bl (decide (i=j))):=by
 rw[kO,if_pos (by simp[dep])];show R.ok (D.bl (dF (.int i) (.int j)))=_;by_cases h:i=j <;> simp[jF,jG,jH,jJ,jK,gC,eV,h]
def cI(cs:List Wy):List Wy:=((lg (cs.map fl)).take 1).map un
def pre(x:Nat)(t:Wy):Wy:=(t.1,t.2.1,(x:Int)::t.2.2)
theorem yq:∀cs:List Wy,pC (cs.map eY)=some (cs.map fl)
 |[]=>rfl
 | t::cs=>by
  rw[z1h,pC,yq cs,yp,show lq (jd (fl t))=some (fl t) from Ad];rfl
theorem Oa:∀l∈lg (cs.map fl),fl (un l)=l:=λl hl=>by
 obtain⟨t,_,rfl⟩:=ae2.mp ((jm _).mem_iff.mp hl);rw[Uo]
theorem yt:∀t∈cI cs,t∈cs:=λt ht=>by
 obtain⟨l,hl,rfl⟩:=ae2.mp ht;have hl:=ahU hl;obtain⟨t,h1,rfl⟩:=ae2.mp ((jm _).mem_iff.mp hl);rw[Uo];exact h1
theorem rO:(cI cs).length<=1:=by unfold cI;simp;omega
theorem zy(hl:cs.length<64)(hn:(cs.map fl).Nodup)(hp:∀t∈cs,t.2.2.length<=100):fD 1 [.int (x:Int),.lst (cs.map eY)]= .ok (c7 ((cI cs).map (pre x))):=by
 have e1:nP [.lst (cs.map eY)]= .ok (.lst ((lg (cs.map fl)).map jd)):=by
  rw[nP,yq];show (if _ then _ else _)=_;rw[if_pos ⟨by simpa using hl,hn⟩]
 have e2:iG ((lg (cs.map fl)).map jd) none (some 1)=(cI cs).map eY:=by
  have e3:∀{n d:Nat},HT.sIx n d (some 1)=min 1 n:=λ{n d}=>by
   show (if (1:Int)<0 then ((1:Int)+(n:Int)).toNat else min (1:Int).toNat n)=min 1 n;rw[if_neg (by decide)];rfl
  rw[iG,e3,wY,agT,ahl,<-afZ];have e4:∀l:List (List Int),l.take (min 1 (l.map jd).length)=l.take 1:=λl=>by cases l <;> simp
  rw[e4];unfold cI;rw[aev];refine aeY λl hl=>?_;show jd l=eY (un l);rw[yp,Oa l (ahU hl)]
 have e5:c7 ((cI cs).map (pre x))= .lst ((cI cs).map λt=>eY (pre x t)):=by unfold c7;rw[aev];rfl
 rw[e5];refine jk (bw (bC (c:=eY) (h:=λt=>eY (pre x t)) (l:=cI cs) (jT (ds:=(cI cs).map eY) ?_) (by have:=rO (cs:=cs);omega) λt ht=>?_))
 ·show gw _ _ _ _=_;unfold gw;rw[aO (ao rfl) e1];show R.ok (D.lst (iG _ none (some 1)))=_;rw[e2]
 ·refine bK rfl (cO (aB rfl (aB rfl (ao (x:= .tup ((((x:Int)::t.2.2)).map .int)) (au (cO (ao rfl)) rfl ?_)))));have:=hp t (yt t ht);exact sG (xs:=[.int (x:Int)]) (ys:=t.2.2.map .int) (by simp;omega)
end
def fY(m:Int):Int:=if m=2 then 1 else 0
def sb(c:Int)(t:Wy):Wy:=(t.1 - c,t.2.1,t.2.2)
def lC(x:Nat)(m:Int)(cs:List Wy):List Wy:=if m=1 then[] else ((cI cs).map (pre x)).map (sb (fY m))
section
variable{w h a y:Nat}{T:Nat->Nat->Nat->Int}{M:Nat->Nat->Int}{ρ:aA}
theorem YQ{l:List Wy}(hl:l.length<=1)(ha:acc.length<=1000):
  aad [e0,e1,e2,e3,e4,e5,some (.lst acc),e7,vA (.int m),vA (c7 l),e10]= .nx [e0,e1,e2,e3,e4,e5,some (.lst (acc++[c7 (l.map (sb (fY m)))])),e7,vA (.int m),vA (c7 l),vA (.int (fY m))]:=by
 have e:(zK (cg (bin (gv 8) (ci 2) kO)) (ci 1) (ci 0)) [e0,e1,e2,e3,e4,e5,some (.lst acc),e7,vA (.int m),vA (c7 l),e10]= .ok (.int (fY m)):=by
  unfold fY;by_cases hm:m=2
  ·rw[if_pos hm];exact w5 (aN (au rfl rfl (by rw[nZ,decide_eq_true hm]))) rfl
  ·rw[if_neg hm];exact CZ (aN (au rfl rfl (by rw[nZ,decide_eq_false hm]))) rfl
 refine aK (aZ e rfl) ?_;have e2:c7 (l.map (sb (fY m)))= .lst (l.map λt=>eY (sb (fY m) t)):=by unfold c7;rw[aev];rfl
 rw[e2];refine Ax (ds:=acc) (bC (c:=eY) (h:=λt=>eY (sb (fY m) t)) (l:=l) (jT rfl) (by omega) λt ht=>?_) rfl (by omega);exact bK rfl (cO (aB (x:= .int (t.1 - fY m)) (au rfl rfl rfl) (aB rfl (ao rfl))))
inductive Ww (w:Nat) (T:Nat->Nat->Nat->Int) (y:Nat):List D->(Nat->List Wy)->Prop
 |last:Ww w T y [] λ_=>[(0,0,[])]
 |more (rs:List D) (C:Nat->List Wy):(∀p<w,(C p).length<=1)->Ww w T y (rs++[.lst ((ad6 w).map λx=>c7 (C x))]) (cands w C (T (y+1)))
theorem YS{rows:List D}{cs:Nat->List Wy}(B:Ww w T y rows cs)(hy:rows≠[]->y+1<h)(hx:x<w)(hw:w<=20)(hl:(cs x).length<64)(hn:((cs x).map fl).Nodup)(hp:∀t∈cs x,t.2.2.length<=100):
  aac a (fD 1) [vA (tab w h T),e1,vA (.tup []),some (.obj (.fn a)),some (.lst rows),vA (.int (y:Int)),e6,vA (.int (x:Int)),vA (.int m),e9,e10] =
   .nx [vA (tab w h T),e1,vA (.tup []),some (.obj (.fn a)),some (.lst rows),vA (.int (y:Int)),e6,vA (.int (x:Int)),vA (.int m),vA (c7 (if m=1 then[] else (cI (cs x)).map (pre x))),e10]:=by
 have th:∀(u:Option Ent),Tr (vA (.int m))=vA (.int m):=λ_=>rfl;by_cases hm:m=1
 ·rw[if_pos hm];exact cX (aN (au rfl rfl (by rw[nZ,decide_eq_true hm]))) (aZ (dG rfl) rfl)
 ·rw[if_neg hm];refine bU (aN (au rfl rfl (by rw[nZ,decide_eq_false hm]))) ?_;cases B with
  | last=>
   refine cX (cP (Dc (ds:=[]) rfl)) (aZ (N8 rfl (aB rfl (ao (dG (ao (cO (aB rfl (aB rfl (ao rfl)))))))) (zy (cs:=[(0,0,[])]) hl hn hp)) rfl)
  | more rs C hC=>
   have hy:=hy (by simp);refine bU (cP (Dc (ds:=rs++[.lst ((ad6 w).map λx=>c7 (C x))]) rfl) |>.trans (by simp)) (aZ (N8 rfl (aB rfl (ao (aX (aB (x:= .lst ((ad6 w).map λx=>c7 (C x))) (acp rfl (k:= -1) rfl ?_) (aB (au rfl (au (x:= .int (y:Int)) (y:= .int 1) (r:= .ok (.int ((y+1:Nat):Int))) rfl rfl rfl) (nY (α:=D) hy)) (ao rfl))) (Wv (C:=C) (T:=T (y+1)) hx hw hC)))) (zy hl hn hp)) rfl);rw[bW];have:L2.atI (rs++[D.lst ((ad6 w).map λx=>c7 (C x))]) (-1)=some (.lst ((ad6 w).map λx=>c7 (C x))):=by
    unfold L2.atI ixN;rw[if_neg (by decide),if_pos (by simp;omega)];simp only[z1d,afI,ahx];rw[show ((-1:Int)+((rs.length+1:Nat):Int)).toNat=rs.length by omega,aeO (z0g _)];simp
   rw[this]
end
def oM(w h:Nat)(T:Nat->Nat->Nat->Int)(M:Nat->Nat->Int):Nat->Nat->List Wy
 |0,_=>[(0,0,[])]
 |k+1,x=>cands w (λp=>lC p (M (h - 1 - k) p) (oM w h T M k p)) (T (h - 1 - k)) x
def oN(w h:Nat)(T:Nat->Nat->Nat->Int)(M:Nat->Nat->Int)(k x:Nat):List Wy:=lC x (M (h - 1 - k) x) (oM w h T M k x)
section
variable{w h a:Nat}{T:Nat->Nat->Nat->Int}{M:Nat->Nat->Int}{ρ:aA}
theorem pI:oM w h T M (k+1) x=cands w (oN w h T M k) (T (h - 1 - k)) x:=rfl
theorem pJ:(lC x m cs).length<=1:=by
 unfold lC;split
 ·simp
 ·have:=rO (cs:=cs);simpa using this
theorem mV(h:t∈lC x m cs):∃u∈cs,t=sb (fY m) (pre x u):=by
 unfold lC at h;split at h
 ·simp at h
 ·rw[aev] at h;obtain⟨u,hu,rfl⟩:=ae2.mp h;exact⟨u,yt u hu,rfl⟩
theorem EY{α β:Type}{F:α->List β}:∀{l:List α},(∀a∈l,(F a).length<=1)->(l.flatMap F).length<=l.length
 |[],_=>by simp
 | a::l,h=>by
  rw[agP,z1d,aef];have h1:=h a (by simp);have h2:=EY (l:=l) λb hb=>h b (by simp[hb]);omega
theorem aa9:∀{k x:Nat},(oM w h T M k x).length<64
 |0,_=>by simp[oM]
 | k+1,x=>by
  rw[pI];unfold cands;have:=EY (F:=λp=>(oN w h T M k p).map (gD (T (h - 1 - k) p (x+1 - p)))) (l:=nr w x) λp _=>by rw[z1g];exact pJ
  have h2:=Wu (w:=w) (x:=x);omega
theorem Wx:∀{k x:Nat},∀t∈oM w h T M k x,t.2.2.length=k
 |0,_,t,ht=>by simp[oM] at ht;subst ht;rfl
 | k+1,x,t,ht=>by
  rw[pI] at ht;obtain⟨p,_,hp⟩:=agC.mp ht;obtain⟨u,hu,rfl⟩:=ae2.mp hp;obtain⟨v,hv,rfl⟩:=mV hu;show (((p:Nat):Int)::v.2.2).length=k+1;rw[aef,Wx v hv]
theorem Oc:∀{k x:Nat},((oM w h T M k x).map fl).Nodup
 |0,_=>by simp[oM]
 | k +1,x=>by
  rw[pI];unfold cands List.Nodup;rw[ahp,List.pairwise_flatMap];refine⟨λp _=>?_,?_⟩
  ·have hl:((oN w h T M k p).map (gD (T (h - 1 - k) p (x+1 - p)))).length<=1:=by rw[z1g];exact pJ
   match (oN w h T M k p).map (gD (T (h - 1 - k) p (x+1 - p))),hl with
   |[],_=>exact .nil
   |[_],_=>simp
   |_::_::_,hl=>simp at hl
  ·have nd:(nr w x).Nodup:=List.nodup_range';refine nd.imp λ{p q} hpq t ht u hu z=>?_;obtain⟨t',ht',rfl⟩:=ae2.mp ht;obtain⟨u',hu',rfl⟩:=ae2.mp hu;obtain⟨t2,_,rfl⟩:=mV ht';obtain⟨u2,_,rfl⟩:=mV hu';have:=N7 z;have h2:((p:Nat):Int)::t2.2.2=((q:Nat):Int)::u2.2.2:=congrArg (λt:Wy=>t.2.2) this;have h3:((p:Nat):Int)=((q:Nat):Int):=(ai7 h2).1;exact hpq (by omega)
def vH(w h:Nat)(T:Nat->Nat->Nat->Int)(M:Nat->Nat->Int)(k:Nat):D:= .lst ((ad6 w).map λx=>c7 (oN w h T M k x))
theorem R6{y:Nat}{rows:List D}{cs:Nat->List Wy}(B:Ww w T y rows cs)(hy:rows≠[]->y+1<h)(hw:w<=20)(hl:∀x,(cs x).length<64)(hn:∀x,((cs x).map fl).Nodup)(hp:∀x,∀t∈cs x,t.2.2.length<=100){e1:Option Ent}:∀{xs:List Nat} {acc:List D} {e7 e8 e9 e10:Option Ent},(∀x∈xs,x<w)->acc.length+xs.length<=1000->
  ∃z7 z8 z9 jq,forL (cR (cT 2 (aW (aH 7) (aW (aH 8) nilG)))) (inW a (fD 1)) (xs.map λ(x:Nat)=>D.tup [.int (x:Int),.int (M y x)]) [vA (tab w h T),e1,vA (.tup []),some (.obj (.fn a)),some (.lst rows),vA (.int (y:Int)),some (.lst acc),e7,e8,e9,e10] =
   .nx [vA (tab w h T),e1,vA (.tup []),some (.obj (.fn a)),some (.lst rows),vA (.int (y:Int)),some (.lst (acc++xs.map λx=>c7 (lC x (M y x) (cs x)))),z7,z8,z9,jq]
 |[],acc,e7,e8,e9,e10,_,_=>⟨e7,e8,e9,e10,by simp[forL]⟩
 | x ::xs,acc,e7,e8,e9,e10,hx,hle=>by
  rw[aef] at hle;have hxw:=hx x (by simp);obtain⟨z7,z8,z9,jq,e⟩:=R6 B hy hw hl hn hp (e1:=e1) (xs:=xs) (acc:=acc++[c7 (lC x (M y x) (cs x))]) (e7:=vA (.int (x:Int))) (e8:=vA (.int (M y x))) (e9:=vA (c7 (if M y x=1 then[] else (cI (cs x)).map (pre x)))) (e10:=vA (.int (fY (M y x)))) (λq hq=>hx q (by simp[hq])) (by simp;omega);refine⟨z7,z8,z9,jq,fG rfl (aK (YS B hy hxw hw (hl x) (hn x) (hp x)) (YQ ?_ (by omega) |>.trans ?_)) (e.trans ?_)⟩
  ·split
   ·simp
   ·have:=rO (cs:=cs x);simpa using this
  ·have:lC x (M y x) (cs x)=(if M y x=1 then[] else (cI (cs x)).map (pre x)).map (sb (fY (M y x))):=by unfold lC;split <;> rfl
   rw[this]
  ·rw[z1h,afb];rfl
def dn(r:Nat):List D:=(ad6 r).map λ(i:Nat)=>D.int ((r:Int) - 1 - (i:Int))
theorem abb(r:Nat):dn (r+1)=D.int (r:Int)::dn r:=by
 unfold dn;rw[aeN,z1h,aev];congr 1
 ·congr 1;omega
 ·refine aeY λi _=>?_;show D.int _=D.int _;congr 1;simp only[Nat.succ_eq_add_one];omega
theorem acr(hk:k<h)(hy:y=h - 1 - k):Ww w T y ((ad6 k).map (vH w h T M)) (oM w h T M k):=by
 cases k with
 |zero=>exact .last
 | succ k=>
  rw[ahS,afi];have e:oM w h T M (k+1)=cands w (oN w h T M k) (T (y+1)):=by
   funext x;rw[pI,show y+1=h - 1 - k by omega]
  rw[e];exact .more _ _ λp _=>pJ
theorem acs(hk:k<h)(hy:y=h - 1 - k)(hh:h<=20)(hw:w<=20):∃z6 z7 z8 z9 jq,YK a (fD 1) [vA (tab w h T),vA (bx w h M),vA (.tup []),some (.obj (.fn a)),some (.lst ((ad6 k).map (vH w h T M))),vA (.int (y:Int)),e6,e7,e8,e9,e10] =
  .nx [vA (tab w h T),vA (bx w h M),vA (.tup []),some (.obj (.fn a)),some (.lst ((ad6 (k+1)).map (vH w h T M))),vA (.int (y:Int)),z6,z7,z8,z9,jq]:=by
 obtain⟨z7,z8,z9,jq,e⟩:=R6 (h:=h) (a:=a) (M:=M) (e1:=vA (bx w h M)) (acr (w:=w) (T:=T) (M:=M) hk hy) (λhne=>by
  have:k≠0:=λz=>hne (by rw[z];rfl);omega) hw (λx=>aa9) (λx=>Oc) (λx t ht=>by rw[Wx t ht];omega) (xs:=ad6 w) (acc:=[]) (e7:=e7) (e8:=e8) (e9:=e9) (e10:=e10) (λx hx=>z2e hx) (by simp;omega)
 refine⟨vA (.lst ([]++(ad6 w).map λx=>c7 (lC x (M y x) (oM w h T M k x)))),z7,z8,z9,jq,aK (pG rfl) (aK (jM (m9 (ao (au rfl rfl (qF (by omega)))) rfl) e) ((aa7 (ds:=(ad6 k).map (vH w h T M)) (es:=[]++(ad6 w).map λx=>c7 (lC x (M y x) (oM w h T M k x))) rfl rfl (by rw[z1g,z2d];omega)).trans ?_))⟩;rw[ahS,afi];have er:((ad6 w).map λx=>c7 (lC x (M y x) (oM w h T M k x)))=(ad6 w).map λx=>c7 (oN w h T M k x):=by
  refine aeY λx _=>?_;unfold oN;rw[hy]
 simp only[ago];rw[er];rfl
theorem Od(hh:h<=20)(hw:w<=20):∀{r k:Nat} {e5 e6 e7 e8 e9 e10:Option Ent},k+r=h->∃z5 z6 z7 z8 z9 jq,forL (aH 5) (YK a (fD 1)) (dn r) [vA (tab w h T),vA (bx w h M),vA (.tup []),some (.obj (.fn a)),some (.lst ((ad6 k).map (vH w h T M))),e5,e6,e7,e8,e9,e10] =
  .nx [vA (tab w h T),vA (bx w h M),vA (.tup []),some (.obj (.fn a)),some (.lst ((ad6 h).map (vH w h T M))),z5,z6,z7,z8,z9,jq]
 |0,k,e5,e6,e7,e8,e9,e10,hk=>⟨e5,e6,e7,e8,e9,e10,by rw[show k=h by omega];rfl⟩
 | r+1,k,e5,e6,e7,e8,e9,e10,hk=>by
  obtain⟨y6,y7,y8,y9,y10,e1⟩:=acs (a:=a) (w:=w) (T:=T) (M:=M) (k:=k) (y:=r) (by omega) (by omega) hh hw (e6:=e6) (e7:=e7) (e8:=e8) (e9:=e9) (e10:=e10);obtain⟨z5,z6,z7,z8,z9,jq,e2⟩:=Od hh hw (r:=r) (k:=k+1) (e5:=vA (.int (r:Int))) (e6:=y6) (e7:=y7) (e8:=y8) (e9:=y9) (e10:=y10) (by omega);rw[abb];exact⟨z5,z6,z7,z8,z9,jq,fG rfl e1 e2⟩
theorem YT(hh:h<=20)(hw:w<=20):wW a (fD 1) [tab w h T,bx w h M,.tup []]= .ok (.lst ((ad6 h).map (vH w h T M)).reverse):=by
 obtain⟨z5,z6,z7,z8,z9,jq,e⟩:=Od (a:=a) (w:=w) (T:=T) (M:=M) hh hw (r:=h) (k:=0) (e5:=none) (e6:=none) (e7:=none) (e8:=none) (e9:=none) (e10:=none) (by omega);have er:Ng [.int (h:Int)]= .ok (dn h):=by
  show (if _ then _ else _)=_;rw[if_pos (by omega)];rfl
 refine jk (aK (pG rfl) (aK (jM ?_ e) (bw ?_)))
 ·show ((ak (aD cC (ak (gv 1) nA)) nA) _).bind Ng=_;rw[ao (aO (ao rfl) wZ)];exact er
 ·show Ly _ _=_;unfold Ly;rfl
end
section
variable{w h:Nat}{T:Nat->Nat->Nat->Int}{M:Nat->Nat->Int}{f:Nat->Nat->Int}{m:Str}{ρ:aA}
theorem abd(hh:h<=20)(hw:w<=20):vG [tab w h T,bx w h M,.int 1]= .ok (.lst ((ad6 h).map (vH w h T M)).reverse):=by
 refine jk ?_;show (match allOf (λx=>wW x (fD 1) [tab w h T,bx w h M,.tup []]) with | .ok r=>So.rt r |_=> .bad)=_;rw[Yr λa=>YT hh hw]
theorem Wz{F:Nat->D}:((ad6 h).map F).reverse=(ad6 h).map λy=>F (h - 1 - y):=by
 apply agr;intro i;by_cases hi:i<h
 ·rw[List.getElem?_reverse (by simpa using hi),z2b,z2b,aei hi,z1g,z2d,aei (by omega)];rfl
 ·rw[afx (by simp;omega),afx (by simp;omega)]
theorem mul_one{d:D}(h1:1<=k)(qD:k<=20):iH (.tup [d]) (.int (k:Int))= .ok (.tup ((ad6 k).map λ_=>d)):=by
 rw[iH,if_pos ⟨by simp,by omega,by omega,by simp;omega⟩];congr 2;rw[show ((k:Nat):Int).toNat=k by omega]
 clear h1 qD
 induction k with
 |zero=>rfl
 |succ k ih=>rw[afm,agd,ih,aeN,z1h,aev];rfl
theorem Qt(o:Ok w h f):yd [bx w h f]= .ok (bx w h λ_ _=>0):=
 bR (bw (au (cO (ao (au (cO (ao rfl)) (len0 o rfl) (mul_one o.w1 o.w2)))) (aO (ao rfl) wZ) (mul_one o.h1 o.h2)))
theorem Oe(hm:m= "worth"\/m= "joins")(o:Ok w h f):wV [bx w h f,.str m]= .ok (tab w h (tbl m w h f)):=by
 rcases hm with rfl |rfl
 ·exact aa4 o
 ·exact aa5 o
end
abbrev lt(a b:Wy):Bool:=eX (fl a) (fl b)
section
variable{w h:Nat}{T:Nat->Nat->Nat->Int}{M:Nat->Nat->Int}
theorem WD{c:Int}{a:Wy}:lt (gD c a) (gD c b)=lt a b:=by
 obtain⟨a1,a2,a3⟩:=a;obtain⟨b1,b2,b3⟩:=b;simp only[lt,fl,gD,eX];by_cases e1:a1=b1
 ·rw[if_pos e1,if_pos e1];by_cases e:a2=b2
  ·rw[if_pos (by omega),if_pos e]
  ·rw[if_neg (by omega),if_neg e];exact decide_eq_decide.mpr (by omega)
 ·rw[if_neg e1,if_neg e1]
theorem ado{c:Int}{a:Wy}:lt (sb c a) (sb c b)=lt a b:=by
 obtain⟨a1,a2,a3⟩:=a;obtain⟨b1,b2,b3⟩:=b;simp only[lt,fl,sb,eX];by_cases e:a1=b1
 ·rw[if_pos (by omega),if_pos e]
 ·rw[if_neg (by omega),if_neg e];exact decide_eq_decide.mpr (by omega)
theorem acu{a:Wy}:lt (pre x a) (pre x b)=lt a b:=by
 obtain⟨a1,a2,a3⟩:=a;obtain⟨b1,b2,b3⟩:=b;simp only[lt,fl,pre,eX,if_true]
theorem Og{a c:Wy}(h1:lt b a=false)(h2:lt c b=false):lt c a=false:=by
 cases z:lt c a with
 |false=>rfl
 | true=>
  by_cases e:fl b=fl a
  ·have h2:eX (fl c) (fl b)=false:=h2;rw[e] at h2;exact h2.symm.trans z |>.symm
  ·have:=kZ z (wO e h1);exact (this.symm.trans h2)
theorem acv{a:Wy}(h1:lt a b=false)(h2:lt b a=false):a=b:=by
 by_cases e:fl a=fl b
 ·exact N7 e
 ·have h3:eX (fl b) (fl a)=true:=wO e h1;exact absurd (h3.symm.trans h2) (by decide)
theorem tY(hn:(cs.map fl).Nodup)(hne:cs≠[]):∃v,cI cs=[v]/\v∈cs/\∀u∈cs,lt u v=false:=by
 have hr:=Ab hn;cases es:lg (cs.map fl) with
 | nil=>
  have:=(jm (cs.map fl)).length_eq;rw[es,z1g] at this;exact absurd (ahn.mp this.symm) hne
 | cons l ls=>
  have ef:cI cs=[un l]:=by unfold cI;rw[es];rfl
  rw[es] at hr;obtain⟨hr1,_⟩:=afM.mp hr;have hl:l∈lg (cs.map fl):=by rw[es];exact aen
  have hul:fl (un l)=l:=Oa l hl;refine⟨un l,ef,yt _ (by rw[ef];exact aen),λu hu=>?_⟩;have hm:fl u∈lg (cs.map fl):=(jm _).mem_iff.mpr (ahX hu);rw[es] at hm;show eX (fl u) (fl (un l))=false;rw[hul];rcases ael.mp hm with z |z
  ·rw[z];exact mZ _
  ·cases q:eX (fl u) l with
   |false=>rfl
   |true=>have:=kZ q (hr1 _ z);rw[mZ] at this;cases this
def vl(T:Nat->Nat->Nat->Int)(M:Nat->Nat->Int):Nat->List Nat->Wy
 |_,[]=>(0,0,[])
 |y,[x]=>sb (fY (M y x)) (pre x (0,0,[]))
 |y,x::p::l=>sb (fY (M y x)) (pre x (gD (T (y+1) p (x+1 - p)) (vl T M (y+1) (p::l))))
def Pa(w:Nat)(M:Nat->Nat->Int):Nat->List Nat->Prop
 |_,[]=>True
 |y,[x]=>x<w/\M y x≠1
 |y,x::p::l=>x<w/\M y x≠1/\p<=x+1/\x<=p+1/\Pa w M (y+1) (p::l)
theorem Pa.lt(h:Pa w M y (x::l)):x<w:=by
 cases l with
 |nil=>exact h.1
 |cons p l=>exact h.1
theorem Pa.ne(h:Pa w M y (x::l)):M y x≠1:=by
 cases l with
 |nil=>exact h.2
 |cons p l=>exact h.2.1
theorem R7(h:t∈lC x m cs):m≠1:=λe=>by
 unfold lC at h;rw[if_pos e] at h;cases h
theorem WK{h:Nat}(hk:k+1<h):h - 1 - k=h - 1 - (k+1)+1:=by omega
theorem Kr:∀{k x:Nat} {t:Wy},x<w->k<h->t∈oN w h T M k x->∃l,l.length=k/\Pa w M (h - 1 - k) (x::l)/\t=vl T M (h - 1 - k) (x::l)
 | 0,x,t,hx,hk,ht=>by
  obtain⟨u,hu,e⟩:=mV ht;have hu:u=(0,0,[]):=by simpa[oM] using hu
  subst hu;exact⟨[],rfl,⟨hx,R7 ht⟩,e⟩
 | k+1,x,t,hx,hk,ht=>by
  obtain⟨u,hu,e⟩:=mV ht;have hm:=R7 ht;rw[pI] at hu;obtain⟨p,hp,hu⟩:=agC.mp hu;obtain⟨v,hv,rfl⟩:=ae2.mp hu;obtain⟨h1,h2,h3⟩:=(GR hx).mp hp;obtain⟨l,hl,hP,hvl⟩:=Kr h1 (by omega) hv;have ey:h - 1 - k=h - 1 - (k+1)+1:=WK hk;rw[ey] at hP hvl e;exact⟨p::l,by rw[aef,hl],⟨hx,hm,h2,h3,hP⟩,by rw[e,hvl];rfl⟩
theorem Ks{v:Wy}(hm:m≠1)(e:cI cs=[v]):lC x m cs=[sb (fY m) (pre x v)]:=by
 unfold lC;rw[if_neg hm,e];rfl
theorem Ku:∀{k x:Nat} {l:List Nat},l.length=k->k<h->Pa w M (h - 1 - k) (x::l)->∃t∈oN w h T M k x,lt (vl T M (h - 1 - k) (x::l)) t=false
 | 0,x,l,hl,hk,hP=>by
  cases ahn.mp hl;obtain⟨v,ev,hv,_⟩:=tY (Oc (w:=w) (h:=h) (T:=T) (M:=M) (k:=0) (x:=x)) (by simp[oM]);have hv:v=(0,0,[]):=by simpa[oM] using hv
  subst hv;exact⟨_,by unfold oN;rw[Ks hP.ne ev];exact aen,mZ _⟩
 | k+1,x,l,hl,hk,hP=>by
  cases l with
  |nil=>cases hl
  | cons p l=>
   have ey:h - 1 - k=h - 1 - (k+1)+1:=WK hk;obtain⟨hx,hm,h2,h3,hP'⟩:=hP;have hl:l.length=k:=by simpa using hl
   rw[<-ey] at hP';obtain⟨t,ht,hlt⟩:=Ku hl (by omega) hP';have hu:gD (T (h - 1 - k) p (x+1 - p)) t∈oM w h T M (k+1) x:=by
    rw[pI];exact agC.mpr ⟨p,(GR hx).mpr ⟨hP'.lt,h2,h3⟩,ahX ht⟩
   obtain⟨v,ev,hv,hle⟩:=tY (Oc (w:=w) (h:=h) (T:=T) (M:=M) (k:=k+1) (x:=x)) (List.ne_nil_of_mem hu);refine⟨_,by unfold oN;rw[Ks hm ev];exact aen,?_⟩;show lt (sb _ (pre x (gD (T (h - 1 - (k+1)+1) p (x+1 - p)) (vl T M (h - 1 - (k+1)+1) (p::l))))) _=false;rw[ado,acu,<-ey];exact Og (hle _ hu) (by rw[WD];exact hlt)
def topC(w h:Nat)(T:Nat->Nat->Nat->Int)(M:Nat->Nat->Int):List Wy:=(ad6 w).flatMap λx=>(oN w h T M (h - 1) x).map (gD (T 0 x 1))
theorem YW:(topC w h T M).length<=w:=by
 have:=EY (F:=λx=>(oN w h T M (h - 1) x).map (gD (T 0 x 1))) (l:=ad6 w) λp _=>by rw[z1g];exact pJ
 rw[z2d] at this;exact this
theorem R8:((topC w h T M).map fl).Nodup:=by
 unfold topC List.Nodup;rw[ahp,List.pairwise_flatMap];refine⟨λp _=>?_,?_⟩
 ·have hl:((oN w h T M (h - 1) p).map (gD (T 0 p 1))).length<=1:=by rw[z1g];exact pJ
  match (oN w h T M (h - 1) p).map (gD (T 0 p 1)),hl with
  |[],_=>exact .nil
  |[_],_=>simp
  |_::_::_,hl=>simp at hl
 ·have nd:(ad6 w).Nodup:=ahv;refine nd.imp λ{p q} hpq t ht u hu z=>?_;obtain⟨t',ht',rfl⟩:=ae2.mp ht;obtain⟨u',hu',rfl⟩:=ae2.mp hu;obtain⟨t2,_,rfl⟩:=mV ht';obtain⟨u2,_,rfl⟩:=mV hu';have:=N7 z;have h2:((p:Nat):Int)::t2.2.2=((q:Nat):Int)::u2.2.2:=congrArg (λt:Wy=>t.2.2) this;have h3:((p:Nat):Int)=((q:Nat):Int):=(ai7 h2).1;exact hpq (by omega)
def gn(M:Nat->Nat->Int)(h:Nat)(s:Nat->Nat):Int:=((ad6 h).map λy=>fY (M y (s y))).sum
def wS(T:Nat->Nat->Nat->Int)(M:Nat->Nat->Int)(h:Nat)(s:Nat->Nat):Wy:=(-gn M h s,cost h T s,(ad6 h).map λy=>((s y:Nat):Int))
structure ni(w h:Nat)(M:Nat->Nat->Int)(s:Nat->Nat):Prop where
 sm:mU w h s
 ne:∀y<h,M y (s y)≠1
theorem acw{s:Nat->Nat}:∀{k y:Nat},vl T M y ((af5 y (k+1)).map s)=(-((af5 y (k+1)).map λy=>fY (M y (s y))).sum,((af5 (y+1) k).map λy=>fare T s y).sum,(af5 y (k+1)).map λy=>((s y:Nat):Int))
 | 0,y=>by
  show (0 - fY (M y (s y)),(0:Int),[((s y:Nat):Int)])=(-(fY (M y (s y))+0),0,[((s y:Nat):Int)]);rw[show 0 - fY (M y (s y))= -(fY (M y (s y))+0) by omega]
 | k +1,y=>by
  have ih:=acw (s:=s) (k:=k) (y:=y+1);rw[af0 (s:=y),z1h,z1h,z1h,agK];rw[af0 (s:=y+1),z1h,z1h,z1h,agK] at ih |-;show sb _ (pre _ (gD _ (vl T M (y+1) _)))=_;rw[ih];simp only[sb,pre,gD];refine ai3 ?_ (ai3 ?_ rfl)
  ·show -_ - fY _= -_;omega
  ·rw[z1h,agK];show _+T (y+1) (s (y+1)) (s y+1 - s (y+1))=T (y+1) (s (y+1)) (s y+1 - s (y+1))+_;rw[Int.add_comm]
theorem acy(h1:1<=h):gD (T 0 (s 0) 1) (vl T M 0 ((ad6 h).map s))=wS T M h s:=by
 obtain⟨k,rfl⟩:∃k,h=k+1:=⟨h - 1,by omega⟩;rw[af9,acw];simp only[gD,wS,gn,cost];refine ai3 ?_ (ai3 ?_ ?_)
 ·rw[af9]
 ·show ((af5 (0+1) k).map λy=>fare T s y).sum+T 0 (s 0) 1=T 0 (s 0) 1+((ad6 (k+1 - 1)).map λy=>fare T s (y+1)).sum;rw[Int.add_comm,aif,aiR,aev];congr 3;funext i;show fare T s (0+1+i)=fare T s (i+1);rw[show 0+1+i=i+1 by omega]
 ·rw[af9]
theorem acz{s : Nat -> Nat} : ∀{k y : Nat},Pa w M y ((af5 y (k+1)).map s)↔(∀z,y<=z->z<=y+k->s z<w/\M z (s z)≠1)/\∀z,y<=z->z<y+k->s (z+1)<=s z+1/\s z<=s (z+1)+1
 | 0, y => ⟨λ h => ⟨λ z h1 h2 => by have:z=y:=by omega
                                    subst this;exact h,λz h1 h2=>by omega⟩,λh=>h.1 y (z0g _) (z0g _)⟩
 | k+1,y=>by
  have ih:=acz (s:=s) (k:=k) (y:=y+1);rw[af0 (s:=y),z1h];rw[af0 (s:=y+1),z1h] at ih |-;constructor
  ·rintro⟨h1,h2,h3,h4,h5⟩
   obtain⟨q1,q2⟩:=ih.mp h5;refine⟨λz z1 z2=>?_,λz z1 z2=>?_⟩
   ·by_cases e:z=y
    ·subst e;exact⟨h1,h2⟩
    ·exact q1 z (by omega) (by omega)
   ·by_cases e:z=y
    ·subst e;exact⟨h3,h4⟩
    ·exact q2 z (by omega) (by omega)
  ·rintro⟨q1,q2⟩
   have a:=q1 y (z0g _) (by omega);have b:=q2 y (z0g _) (by omega);exact⟨a.1,a.2,b.1,b.2,ih.mpr ⟨λz z1 z2=>q1 z (by omega) (by omega),λz z1 z2=>q2 z (by omega) (by omega)⟩⟩
theorem WL(h1:1<=h):Pa w M 0 ((ad6 h).map s)↔ni w h M s:=by
 obtain⟨k,rfl⟩:∃k,h=k+1:=⟨h - 1,by omega⟩;rw[af9,acz];constructor
 ·rintro⟨a,b⟩
  exact⟨⟨λy hy=>(a y (by omega) (by omega)).1,λy hy=>b y (by omega) (by omega)⟩,λy hy=>(a y (by omega) (by omega)).2⟩
 ·rintro⟨⟨a,b⟩,c⟩
  exact⟨λz _ z2=>⟨a z (by omega),c z (by omega)⟩,λz _ z2=>b z (by omega)⟩
theorem abe(l:List Nat):∃s:Nat->Nat,l=(ad6 l.length).map s:=
 ⟨λy=>l.getD y 0,by
  apply agr;intro i;rw[z2b];by_cases hi:i<l.length
  ·rw[aei hi];simp[hi]
  ·rw[afx (by omega),afx (by simp;omega)];rfl⟩
theorem abf(h1:1<=h)(ht:t∈topC w h T M):∃s,ni w h M s/\t=wS T M h s:=by
 obtain⟨x,hx,hu⟩:=agC.mp ht;obtain⟨u,hv,rfl⟩:=ae2.mp hu;obtain⟨l,hl,hP,rfl⟩:=Kr (k:=h - 1) (h:=h) (z2e hx) (by omega) hv;rw[show h - 1 - (h - 1)=0 by omega] at hP |-;obtain⟨s,hs⟩:=abe (x::l);have hlen:(x::l).length=h:=by rw[aef,hl];omega
 rw[hlen] at hs;have h0:s 0=x:=by
  obtain⟨k,rfl⟩:∃k,h=k+1:=⟨h - 1,by omega⟩;rw[aeN,z1h] at hs;exact (ai7 hs).1.symm
 rw[hs] at hP |-;refine⟨s,(WL h1).mp hP,?_⟩;rw[<-acy h1,h0]
theorem WM(h1:1<=h)(q:ni w h M s):∃t∈topC w h T M,lt (wS T M h s) t=false:=by
 have hP:=(WL h1).mpr q;rw[<-acy h1];obtain⟨k,rfl⟩:∃k,h=k+1:=⟨h - 1,by omega⟩;have e:(ad6 (k+1)).map s=s 0::(ad6 k).map λy=>s (y+1):=by
  rw[aeN,z1h,aev];rfl
 rw[e] at hP |-;obtain⟨t,ht,hl⟩:=Ku (w:=w) (h:=k+1) (T:=T) (M:=M) (k:=k+1 - 1) (x:=s 0) (l:=(ad6 k).map λy=>s (y+1)) (by simp) (by omega) (by rw[show k+1 - 1 - (k+1 - 1)=0 by omega];exact hP);rw[show k+1 - 1 - (k+1 - 1)=0 by omega] at hl;exact⟨_,agC.mpr ⟨s 0,afE.mpr (q.sm.lt 0 (by omega)),ahX ht⟩,by rw[WD];exact hl⟩
def Bst(w h:Nat)(T:Nat->Nat->Nat->Int)(M:Nat->Nat->Int)(s:Nat->Nat):Prop:=ni w h M s/\∀s',ni w h M s'->lt (wS T M h s') (wS T M h s)=false
theorem least(h1:1<=h):(cI (topC w h T M)=[]/\∀s,¬ni w h M s)\/∃s,cI (topC w h T M)=[wS T M h s]/\Bst w h T M s:=by
 by_cases hne:topC w h T M=[]
 ·left;refine⟨by rw[hne];rfl,λs q=>?_⟩;obtain⟨t,ht,_⟩:=WM (T:=T) h1 q;rw[hne] at ht;cases ht
 ·right;obtain⟨v,ev,hv,hle⟩:=tY R8 hne;obtain⟨s,q,rfl⟩:=abf h1 hv;refine⟨s,ev,q,λs' q'=>?_⟩;obtain⟨t,ht,hl⟩:=WM (T:=T) h1 q';exact Og (hle t ht) hl
end
section
variable{w h:Nat}{T:Nat->Nat->Nat->Int}{M:Nat->Nat->Int}{f:Nat->Nat->Int}{m:Str}{ρ:aA}
def acA:aA->So:=(aR (bB (aD (aV m8 3) (ak (bin (gv 0) (ci 0) bW) (ak (gv 3) (ak (gv 3) nA)))) (aH 5)) (Er 2 (bA 3 [5] (dO (gv 4)) (cR (cT 3 (aW (aH 0) (aW (aH 1) (aW (aH 2) nilG))))) tT (dh (ak (gv 0) (ak (bin (gv 1) (gv 3) cL) (ak (gv 2) nA)))))))
theorem abg(h1:1<=h){C:Nat->List Wy}(hx:x<w)(hC:(C x).length<=1)(hl:acc.length<=1000):
  acA [vA (tab w h T),e1,some (.lst acc),vA (.int (x:Int)),vA (c7 (C x)),e5]= .nx [vA (tab w h T),e1,some (.lst (acc++((C x).map (gD (T 0 x 1))).map eY)),vA (.int (x:Int)),vA (c7 (C x)),vA (.int (T 0 x 1))]:=by
 have e0:m8 [.lst ((ad6 w).map λx=>gB (T 0 x)),.int (x:Int),.int (x:Int)]= .ok (.int (T 0 x 1)):=by
  have:=GQ (T:=T 0 x) (p:=λx=>gB (T 0 x)) (a:=x) (b:=x) hx (by omega) (by omega) rfl
  rwa [show x+1 - x=1 by omega] at this
 refine aK (aZ (aX (aB (au rfl rfl (nY (α:=D) (x:=0) h1)) (aB rfl (ao rfl))) e0) rfl) ?_;refine (R4 (ds:=acc) rfl (bC (c:=eY) (h:=λt=>eY (gD (T 0 x 1) t)) (l:=C x) (jT rfl) (by omega) λt ht=>?_) (by simp;omega)).trans ?_
 ·exact bK rfl (cO (aB rfl (aB (x:= .int (t.2.1+T 0 x 1)) (au rfl rfl rfl) (ao rfl))))
 ·rw[aev];rfl
theorem Oh(h1:1<=h){C:Nat->List Wy}(hC:∀p,(C p).length<=1){e1:Option Ent}:∀{ps:List Nat} {acc:List D} {e3 e4 e5:Option Ent},(∀p∈ps,p<w)->acc.length+ps.length<=1000->
  ∃z3 z4 z5,forL (cR (cT 2 (aW (aH 3) (aW (aH 4) nilG)))) acA (ps.map λ(p:Nat)=>D.tup [.int (p:Int),c7 (C p)]) [vA (tab w h T),e1,some (.lst acc),e3,e4,e5] =
   .nx [vA (tab w h T),e1,some (.lst (acc++(ps.flatMap λp=>(C p).map (gD (T 0 p 1))).map eY)),z3,z4,z5]
 |[],acc,e3,e4,e5,_,_=>⟨e3,e4,e5,by simp[forL]⟩
 | p::ps,acc,e3,e4,e5,hp,hl=>by
  rw[aef] at hl;have hpw:=hp p (by simp);have hc:=hC p;obtain⟨z3,z4,z5,e⟩:=Oh h1 hC (e1:=e1) (ps:=ps) (acc:=acc++((C p).map (gD (T 0 p 1))).map eY) (e3:=vA (.int (p:Int))) (e4:=vA (c7 (C p))) (e5:=vA (.int (T 0 p 1))) (λq hq=>hp q (by simp[hq])) (by simp;omega);refine⟨z3,z4,z5,fG rfl (abg h1 hpw hc (by omega)) (e.trans ?_)⟩;rw[agP,afi,afb]
theorem Qu(h1:1<=h)(hw:w<=20):yh [tab w h T,.lst ((ad6 h).map λy=>vH w h T M (h - 1 - y))]= .ok (.lst ((topC w h T M).map eY)):=by
 obtain⟨z3,z4,z5,e⟩:=Oh (T:=T) h1 (C:=oN w h T M (h - 1)) (λp=>pJ) (e1:=vA (.lst ((ad6 h).map λy=>vH w h T M (h - 1 - y)))) (ps:=ad6 w) (acc:=[]) (e3:=none) (e4:=none) (e5:=none) (λp hp=>z2e hp) (by simp;omega);exact bR (aK (pG rfl) (aK (jM (m9 (p:=λp=>c7 (oN w h T M (h - 1) p)) (ao (au rfl rfl (nY (α:=D) (x:=0) h1))) rfl) e) (bw rfl)))
theorem Uq(hl:cs.length<64)(hn:(cs.map fl).Nodup){v:aA->R (Option Int)}(e:u ρ= .ok (.lst (cs.map eY)))(e0:v ρ= .ok (some 1)):gw (aD nP (ak u nA)) (λ_=> .ok none) v ρ= .ok (.lst ((cI cs).map eY)):=by
 have e1:nP [.lst (cs.map eY)]= .ok (.lst ((lg (cs.map fl)).map jd)):=by
  rw[nP,yq];show (if _ then _ else _)=_;rw[if_pos ⟨by simpa using hl,hn⟩]
 have e2:iG ((lg (cs.map fl)).map jd) none (some 1)=(cI cs).map eY:=by
  have e3:∀{n d:Nat},HT.sIx n d (some 1)=min 1 n:=λ{n d}=>by
   show (if (1:Int)<0 then ((1:Int)+(n:Int)).toNat else min (1:Int).toNat n)=min 1 n;rw[if_neg (by decide)];rfl
  rw[iG,e3,wY,agT,ahl,<-afZ];have e4:∀l:List (List Int),l.take (min 1 (l.map jd).length)=l.take 1:=λl=>by cases l <;> simp
  rw[e4];unfold cI;rw[aev];refine aeY λl hl=>?_;show jd l=eY (un l);rw[yp,Oa l (ahU hl)]
 unfold gw;rw[aO (ao e) e1,e0];show R.ok (D.lst (iG _ none (some 1)))=_;rw[e2]
theorem Jf(h1:1<=h)(hh:h<=20)(hw:w<=20):qO [tab w h T,bx w h M,.int 1]= .ok (.lst ((cI (topC w h T M)).map eY)):=by
 have hl:=YW (w:=w) (h:=h) (T:=T) (M:=M);exact jk (bw (Uq (by omega) R8 (aX (aB rfl (ao (aX (aB rfl (aB rfl (ao rfl))) ((abd hh hw).trans (by rw[Wz]))))) (Qu h1 hw)) rfl))
def lwD:List Wy->D
 |[]=> .non
 |t::_=> .tup [.int t.2.1,.tup (t.2.2.map .int)]
def lsD:List Wy->D
 |[]=> .non
 |t::_=> .tup (t.2.2.map .int)
theorem Oi(h1:1<=h)(hh:h<=20)(hw:w<=20):p7 [tab w h T,bx w h M]= .ok (lwD (cI (topC w h T M))):=by
 have e:=Jf (T:=T) (M:=M) h1 hh hw;have hl:=rO (cs:=topC w h T M)
 match cI (topC w h T M),e,hl with
 |[],e,_=>exact jk (aK (aZ (aX (aB rfl (aB rfl (ao rfl))) e) rfl) (gk (cX (cP (Dc (ds:=[]) rfl)) (bw rfl))))
 |[t],e,_=>exact jk (aK (aZ (aX (aB rfl (aB rfl (ao rfl))) e) rfl) (aK (bU (cP (Dc (ds:=[eY t]) rfl)) rfl) (aK (aZ (d:=eY t) (au (y:= .int 0) rfl rfl (FZ (i:=0) rfl)) rfl) (bw (cO (aB rfl (ao rfl)))))))
 |_::_::_,_,hl=>simp at hl
theorem WQ{α:Type}{k:D->R (Option D)}{c:α->D}{o:α->Option D}:∀{l:List α},(∀a∈l,k (c a)= .ok (o a))->jY k (l.map c)= .ok (l.filterMap o)
 |[],_=>rfl
 | a::l,h=>by
  rw[z1h,jY,h a (by simp),wH,R.bf,WQ λb hb=>h b (by simp[hb]),R.bf];cases e:o a with
  |none=>rw[aga e];rfl
  |some d=>rw[agb e];rfl
theorem w6{n:Nat}{caps:List Nat}{fi:aA->R (List D)}{gt:D->aA->R aA}{ft:aA->R Bool}{fe:aA->R D}{ρ:aA}{c:α->D}{o:α->Option D}{l:List α}(e1:fi ρ= .ok (l.map c))(hl:l.length<=1000000)
  (e2:∀a∈l,oZ gt ft fe (Cv n caps ρ) (c a)= .ok (o a)):bA n caps fi gt ft fe ρ= .ok (.lst (l.filterMap o)):=by
 rw[bA,e1,R.bf,WQ e2,R.bf,cap,if_pos (z0b (ahb _ _) hl)]
theorem sI{ρ:aA}{gt:D->aA->R aA}{ft:aA->R Bool}{fe:aA->R D}{x d:D}{b:Bool}(e1:gt x ρ= .ok ρ1)(e2:ft ρ1= .ok b)(e3:fe ρ1= .ok d):oZ gt ft fe ρ x= .ok (if b=true then some d else none):=by
 rw[oZ,e1,R.bf,e2,R.bf];cases b with
 |true=>rw[if_pos rfl,if_pos rfl,e3];rfl
 |false=>rw[if_neg (by decide),if_neg (by decide)]
theorem acB{i:Int}(e:u ρ= .ok (.int i)):jt u ρ= .ok (.int (-i)):=by rw[jt,e];rfl
def cnt(M:Nat->Nat->Int)(h:Nat)(s:Nat->Nat)(k:Int):Int:=((ad6 h).map λy=>if M y (s y)=k then (1:Int) else 0).sum
theorem Oj{α:Type}{p:α->Bool}{g:α->D}:∀{l:List α},((l.filterMap λa=>if p a=true then some (g a) else none).length:Int)=(l.map λa=>if p a=true then (1:Int) else 0).sum
 |[]=>rfl
 | a::l=>by
  rw[z1h,agK];cases e:p a with
  |true=>rw[agb (b:=g a) (by simp[e]),aef,if_pos rfl,<-Oj (g:=g)];omega
  |false=>rw[aga (by simp[e]),if_neg (by decide),<-Oj (g:=g)];omega
theorem Ol(hh:h<=20)(q:mU w h s){k:Int}:lA [bx w h M,sm h s,.int k]= .ok (.int (cnt M h s k)):=by
 have e:cnt M h s k=(((ad6 h).filterMap λy=>if decide (M y (s y)=k)=true then some (D.int ((s y:Nat):Int)) else none).length:Int):=by
  rw[Oj];unfold cnt;simp only[decide_eq_true_eq]
 rw[e];refine bR (bw (aO (ao (x:= .lst ((ad6 h).filterMap λy=>if decide (M y (s y)=k)=true then some (D.int ((s y:Nat):Int)) else none)) (w6 (l:=ad6 h) (c:=λy=> .tup [row w (M y),.int ((s y:Nat):Int)]) (wX (aB rfl (ao rfl)) rfl rfl) (by rw[z2d];omega) λy hy=>?_)) rfl));exact sI rfl (aN (au (au rfl rfl (jN (q.lt y (z2e hy)))) rfl nZ)) rfl
theorem Om{p:Nat->Bool}:∀{l:List Nat},(l.map λa=>if p a=true then (1:Int) else 0).sum=0↔∀a∈l,p a=false
 |[]=>by simp
 | a ::l=>by
  have ih:=Om (p:=p) (l:=l);have hp:∀l:List Nat,0<=(l.map λa=>if p a=true then (1:Int) else 0).sum:=λl=>by
   induction l with
   |nil=>exact Int.le_refl 0
   |cons a l ih=>rw[z1h,agK];split <;> omega
  have:=hp l;rw[z1h,agK];cases e:p a with
  | true=>
   rw[if_pos rfl];exact⟨λz=>by omega,λz=>by have:=z a (by simp);rw[e] at this;cases this⟩
  | false=>
   rw[if_neg (by decide),Int.zero_add,ih];exact⟨λz b hb=>by rcases ael.mp hb with q |q;(· rw[q];exact e);exact z b q,λz b hb=>z b (by simp[hb])⟩
theorem Oo{k:Int}:cnt M h s k=0↔∀y<h,M y (s y)≠k:=by
 have:cnt M h s k=((ad6 h).map λy=>if decide (M y (s y)=k)=true then (1:Int) else 0).sum:=by unfold cnt;simp only[decide_eq_true_eq]
 rw[this,Om];exact⟨λz y hy=>of_decide_eq_false (z y (afE.mpr hy)),λz y hy=>decide_eq_false (z y (z2e hy))⟩
end
section
variable{ns:List Int}{w h k:Nat}{f M:Nat->Nat->Int}{T:Nat->Nat->Nat->Int}{m:Str}{s:Nat->Nat}{ρ:aA}
theorem WR{i:Int}(hi:0<=i)(hns:ns.length<=1000000):∃m:Str,(m= "worth"\/m= "joins")/\qL [.lst (ns.map .int),.int i]= .ok (.str m):=by
 obtain⟨e1,h0,h2⟩:=uM (k:=i) (m:=2) hns (by omega) (by omega);obtain⟨d,hd,ed⟩:=wJ (xs:=[D.str "worth",.str "joins"]) h0 h2;simp only[ael,afl,or_false] at hd;rcases hd with rfl |rfl
 ·exact⟨"worth",.inl rfl,bR (bw (au (x:= .lst [D.str "worth",.str "joins"]) (dG rfl) (aX (aB rfl (aB rfl (ao rfl))) e1) (qw ed)))⟩
 ·exact⟨"joins",.inr rfl,bR (bw (au (x:= .lst [D.str "worth",.str "joins"]) (dG rfl) (aX (aB rfl (aB rfl (ao rfl))) e1) (qw ed)))⟩
theorem acC:lwD [wS T M h s]= .tup [.int (cost h T s),sm h s]:=by
 show D.tup [.int (cost h T s),.tup (((ad6 h).map λy=>((s y:Nat):Int)).map .int)]=_;rw[aev];rfl
theorem Df{p q:aA->R Bool}(e1:p ρ= .ok true):sU p q ρ= .ok true:=by rw[sU,e1,R.bf,if_pos rfl]
theorem adT{p:aA->R Bool}{b:aA->So}{n:Nat}(e:p (dN ρ)= .ok false):iR p b (n+1) ρ= .nx ρ:=by rw[iR,e]
theorem acD{p:aA->R Bool}{b:aA->So}{n:Nat}{o:So}(e:p (dN ρ)= .ok true)(e1:b ρ= .nx ρ1)(e2:iR p b n ρ1=o):iR p b (n+1) ρ=o:=by rw[iR,e];simp only[e1,e2]
theorem adp{p:aA->R Bool}{b:aA->So}{n:Nat}{d:D}(e:p (dN ρ)= .ok true)(e1:b ρ= .rt d):iR p b (n+1) ρ= .rt d:=by rw[iR,e];simp only[e1]
end
section
variable{ns:List Int}{w h k:Nat}{f M:Nat->Nat->Int}{T:Nat->Nat->Nat->Int}{m:Str}{s:Nat->Nat}{ρ:aA}
abbrev rK:=(Nat->Nat)×(Nat->Int)
def Dg(h:Nat)(p:rK):D:= .tup [sm h p.1,row h p.2]
theorem YX{l:List D}{n:Nat}(h:∀d∈l,dep d<=n):deps l<=n:=by
 have:=jR (c:=id) (n:=n) (l:=l) h
 rwa [List.map_id] at this
def Go(m:Str)(h:Nat):Nat->Nat->(Nat->Nat->Int)->(Nat->Nat->Int)->Option (List rK)->Prop
 |0,_,_,_,r=>r=some []
 |k+1,w,f,M,r=>(cI (topC w h (tbl m w h f) M)=[]/\(∀s,¬ni w h M s)/\r=none)\/∃s r',ni w h M s/\cI (topC w h (tbl m w h f) M)=[wS (tbl m w h f) M h s]/\Go m h k (w - 1) (less s f) (less s M) r'/\r=r'.map ((s,λy=>f y (s y)):: ·)
def Ay:(Nat->Nat->Int)->List rK->Nat->Nat->Int
 |f,[]=>f
 |f,p::L=>Ay (less p.1 f) L
def tot(m:Str)(h:Nat):Nat->(Nat->Nat->Int)->List rK->Int
 |_,_,[]=>0
 |w,f,p::L=>cost h (tbl m w h f) p.1+tot m h (w - 1) (less p.1 f) L
theorem Ur(h1:1<=h):∀{k w:Nat} {f M:Nat->Nat->Int},∃r,Go m h k w f M r
 |0,w,f,M=>⟨_,rfl⟩
 | k +1,w,f,M=>by
  rcases least (w:=w) (T:=tbl m w h f) (M:=M) h1 with⟨e,q⟩ |⟨s,e,q,_⟩
  ·exact⟨none,.inl ⟨e,q,rfl⟩⟩
  ·obtain⟨r,g⟩:=Ur h1 (k:=k) (w:=w - 1) (f:=less s f) (M:=less s M);exact⟨_,.inr ⟨s,r,q,e,g,rfl⟩⟩
theorem GX:∀{k w:Nat} {f M:Nat->Nat->Int} {L:List rK},Go m h k w f M (some L)->L.length=k
 |0,w,f,M,L,g=>by cases aeg g;rfl
 | k +1,w,f,M,L,g=>by
  rcases g with⟨_,_,e⟩ |⟨s,r,_,_,g,e⟩
  ·cases e
  ·cases r with
   |none=>cases e
   |some L'=>cases aeg e;rw[aef,GX g]
theorem WT:less s (λ_ _=>(0:Int))=λ_ _=>0:=by funext y x;unfold less;split <;> rfl
theorem Jg:∀{k w:Nat} {f M:Nat->Nat->Int} {r:Option (List rK)},k<=w->(∀y<h,∀x<w,M y x≠1)->Go m h k w f M r->∃L,r=some L
 |0,w,f,M,r,_,_,g=>⟨_,g⟩
 | k +1,w,f,M,r,hk,z,g=>by
  rcases g with⟨_,q,_⟩ |⟨s,r',q,_,g,e⟩
  ·exact absurd ⟨⟨λy hy=>by show 0<w;omega,λy hy=>by show 0<=0+1/\0<=0+1;omega⟩,λy hy=>z y hy 0 (by omega)⟩ (q λ_=>0)
  ·obtain⟨L,rfl⟩:=Jg (by omega) (λy hy x hx=>by unfold less;split;exact z _ hy _ (by omega);exact z _ hy _ (by omega)) g;exact⟨_,e⟩
def tkD(m:Str)(w h k:Nat)(f:Nat->Nat->Int):Option (List rK)->D
 |none=> .non
 |some L=> .tup [bx (w - k) h (Ay f L),.lst (L.map (Dg h)),.int (tot m h w f L)]
section
variable(hm:m= "worth"\/m= "joins")(o:Ok w h f)
include hm o
theorem aah:p7 [tab w h (tbl m w h f),bx w h M]= .ok (lwD (cI (topC w h (tbl m w h f) M))):=Oi o.h1 o.h2 o.w2
theorem YZ(e:cI (topC w h (tbl m w h f) M)=[]):tkB [e0,e1,vA (.str m),e3,vA (bx w h f),vA (bx w h M),some (.lst acc),e7,e8,e9,e10]= .rt .non:=by
 have el:=aah (M:=M) hm o;rw[e] at el;exact aK (aZ (aX (aB (aX (aB rfl (ao rfl)) (Oe hm o)) (ao rfl)) el) rfl) (gk (cX (aN (au rfl rfl rfl)) (bw rfl)))
theorem WW(q:ni w h M s)(e:cI (topC w h (tbl m w h f) M)=[wS (tbl m w h f) M h s]){t:Int}(hl:acc.length<=1000):tkB [e0,e1,vA (.str m),e3,vA (bx w h f),vA (bx w h M),some (.lst acc),vA (.int t),e8,e9,e10] =
  .nx [e0,e1,vA (.str m),e3,vA (bx (w - 1) h (less s f)),vA (bx (w - 1) h (less s M)),some (.lst (acc++[Dg h (s,λy=>f y (s y))])),vA (.int (t+cost h (tbl m w h f) s)),vA (.tup [.int (cost h (tbl m w h f) s),sm h s]),vA (.int (cost h (tbl m w h f) s)),vA (sm h s)]:=by
 have el:=aah (M:=M) hm o;rw[e,acC] at el;refine aK (aZ (aX (aB (aX (aB rfl (ao rfl)) (Oe hm o)) (ao rfl)) el) rfl) (aK (bU (aN (au rfl rfl rfl)) rfl) (aK (aZ rfl rfl) (aK (Ax (ds:=acc) (d:=Dg h (s,λy=>f y (s y))) (cO (aB rfl (ao (aX (aB rfl (ao rfl)) (Jc q.sm o.h2))))) rfl (by omega)) (aK (ach (a:=t) (b:=cost h (tbl m w h f) s) rfl rfl) ?_))));exact Ih (aX (aB rfl (ao rfl)) (GK q.sm o.h2 o.w2)) (aX (aB rfl (ao rfl)) (GK q.sm o.h2 o.w2))
end
theorem WX{K:Nat}:Wj (dN [e0,vA (.int (K:Int)),e2,e3,e4,e5,some (.lst acc),e7,e8,e9,e10])= .ok (decide (acc.length<K)):=by
 refine aN (au (aO (ao rfl) rfl) rfl ?_);show R.ok (D.bl (decide ((acc.length:Int)<(K:Int))))=_;rw[decide_eq_decide.mpr (by omega:(acc.length:Int)<(K:Int)↔acc.length<K)]
theorem R9(hm:m= "worth"\/m= "joins"){e0 e3:Option Ent}:∀{k w n K:Nat} {f M:Nat->Nat->Int} {r:Option (List rK)} {acc:List D} {t:Int} {e8 e9 e10:Option Ent},Go m h k w f M r->(1<=k->Ok w h f)->k<=w->k<n->acc.length+k=K->K<=500->
  match (generalizing:=false) r with
  |none=>iR Wj tkB n [e0,vA (.int (K:Int)),vA (.str m),e3,vA (bx w h f),vA (bx w h M),some (.lst acc),vA (.int t),e8,e9,e10]= .rt .non
  | some L=>∃z5 z8 z9 jq,iR Wj tkB n [e0,vA (.int (K:Int)),vA (.str m),e3,vA (bx w h f),vA (bx w h M),some (.lst acc),vA (.int t),e8,e9,e10] =
    .nx [e0,vA (.int (K:Int)),vA (.str m),e3,vA (bx (w - k) h (Ay f L)),z5,some (.lst (acc++L.map (Dg h))),vA (.int (t+tot m h w f L)),z8,z9,jq]
 | 0,w,n,K,f,M,r,acc,t,e8,e9,e10,g,o,hw,hn,hK,hb=>by
  obtain⟨n,rfl⟩:∃j,n=j+1:=⟨n - 1,by omega⟩;have g:r=some []:=g;subst g;refine⟨vA (bx w h M),e8,e9,e10,?_⟩;rw[adT (by rw[WX,decide_eq_false (by omega)]),agz,aeK,Ay,tot,Int.add_zero];rfl
 | k+1,w,n,K,f,M,r,acc,t,e8,e9,e10,g,o,hw,hn,hK,hb=>by
  obtain⟨n,rfl⟩:∃j,n=j+1:=⟨n - 1,by omega⟩;have o:=o (by omega);have et:∀e8 e9 e10,Wj (dN [e0,vA (.int (K:Int)),vA (.str m),e3,vA (bx w h f),vA (bx w h M),some (.lst acc),vA (.int t),e8,e9,e10])= .ok true:=λ_ _ _=>by rw[WX,decide_eq_true (by omega)]
  rcases g with⟨e,_,rfl⟩ |⟨s,r',q,e,g,rfl⟩
  ·exact adp (et _ _ _) (YZ hm o e)
  ·have ih:=R9 hm (e0:=e0) (e3:=e3) (n:=n) (K:=K) (acc:=acc++[Dg h (s,λy=>f y (s y))]) (t:=t+cost h (tbl m w h f) s) (e8:=vA (.tup [.int (cost h (tbl m w h f) s),sm h s])) (e9:=vA (.int (cost h (tbl m w h f) s))) (e10:=vA (sm h s)) g (λhk=>o.less (by omega)) (by omega) (by omega) (by rw[z1d,afI];omega) hb;cases r' with
   |none=>exact acD (et _ _ _) (WW hm o q e (by omega)) ih
   | some L=>
    obtain⟨z5,z8,z9,jq,e'⟩:=ih;refine⟨z5,z8,z9,jq,acD (et _ _ _) (WW hm o q e (by omega)) ?_⟩;rw[e',afb,Int.add_assoc,show w - (k+1)=w - 1 - k by omega];rfl
theorem Y0{r:Option (List rK)}(hm:m= "worth"\/m= "joins")(o:Ok w h f)(hk:k<=w)(g:Go m h k w f M r):Ja [bx w h f,.int (k:Int),.str m,bx w h M]= .ok (tkD m w h k f r):=by
 have ow:=o.w2;have e:=R9 hm (e0:=vA (bx w h f)) (e3:=vA (bx w h M)) (n:=64) (K:=k) (acc:=[]) (t:=0) (e8:=none) (e9:=none) (e10:=none) g (λ_=>o) hk (by omega) (by rw[afQ];omega) (by omega);cases r with
 |none=>exact jk (aK (Ih rfl rfl) (aK (pG rfl) (aK (aZ rfl rfl) (gk e))))
 | some L=>
  obtain⟨z5,z8,z9,jq,e⟩:=e;rw[ago,Int.zero_add] at e;exact jk (aK (Ih rfl rfl) (aK (pG rfl) (aK (aZ rfl rfl) (aK e (bw (cO (aB rfl (aB rfl (ao rfl)))))))))
end
section
variable{ns:List Int}{w h k:Nat}{f M:Nat->Nat->Int}{T:Nat->Nat->Nat->Int}{m:Str}{s:Nat->Nat}{ρ:aA}
def bY:List Nat->List Nat
 |[]=>[]
 |p::ps=>((bY ps).map (· +1)).take p++0::((bY ps).map (· +1)).drop p
def Pv:List Nat->Prop
 |[]=>True
 |p::ps=>p<=ps.length/\Pv ps
theorem ig:∀{ps:List Nat},Pv ps->(bY ps).length=ps.length
 |[],_=>rfl
 | p::ps,v=>by
  have i:=ig v.2;have:=v.1;simp[bY,i];omega
theorem yu{p:Nat}(v:Pv (p::ps)):∃A B,bY ps=A++B/\A.length=p/\bY (p::ps)=A.map (· +1)++0::B.map (· +1):=by
 refine⟨(bY ps).take p,(bY ps).drop p,(ahJ _ _).symm,?_,?_⟩
 ·rw[afk,ig v.2];have:=v.1;omega
 ·rw[bY,afZ,ais]
theorem Az:∀{ps:List Nat},Pv ps->(bY ps).Perm (ad6 ps.length)
 |[],_=> .refl _
 | p::ps,v=>by
  obtain⟨A,B,e,_,e2⟩:=yu v;have i:=Az v.2;rw[e2,aef,aeN];refine List.perm_middle.trans (.cons _ ?_);rw[<-afi,<-e];exact i.map _
def oO:List Nat->Nat->Nat
 |[],_=>0
 |a::l,i=>if a=i then 0 else (if i<a then 1 else 0)+oO l i
theorem aai{B:List Nat}:∀{A:List Nat},oO (A.map (· +1)++0::B) 0=A.length
 |[]=>rfl
 | a::A=>by
  show (if a+1=0 then 0 else (if 0<a+1 then 1 else 0)+oO (A.map (· +1)++0::B) 0)=_;rw[if_neg (by omega),if_pos (by omega),aai,aef];omega
theorem aaj{i:Nat}:∀{B:List Nat},oO (B.map (· +1)) (i+1)=oO B i
 |[]=>rfl
 | b ::B=>by
  show (if b+1=i+1 then 0 else (if i+1<b+1 then 1 else 0)+oO (B.map (· +1)) (i+1))=if b=i then 0 else (if i<b then 1 else 0)+oO B i;rw[aaj];by_cases c:b=i
  ·rw[if_pos c,if_pos (by omega)]
  ·rw[if_neg c,if_neg (by omega)];by_cases d:i<b
   ·rw[if_pos d,if_pos (by omega)]
   ·rw[if_neg d,if_neg (by omega)]
theorem aak{i:Nat}{B:List Nat}:∀{A:List Nat},oO (A.map (· +1)++0::B.map (· +1)) (i+1)=oO (A++B) i
 | []=>by
  show (if 0=i+1 then 0 else (if i+1<0 then 1 else 0)+oO (B.map (· +1)) (i+1))=_;rw[if_neg (by omega),if_neg (by omega),agU,aaj];rfl
 | b ::A=>by
  show (if b+1=i+1 then 0 else (if i+1<b+1 then 1 else 0)+oO (A.map (· +1)++0::B.map (· +1)) (i+1))=if b=i then 0 else (if i<b then 1 else 0)+oO (A++B) i;rw[aak];by_cases c:b=i
  ·rw[if_pos c,if_pos (by omega)]
  ·rw[if_neg c,if_neg (by omega)];by_cases d:i<b
   ·rw[if_pos d,if_pos (by omega)]
   ·rw[if_neg d,if_neg (by omega)]
theorem Jh:∀{ps:List Nat} {i p:Nat},Pv ps->ps[i]?=some p->oO (bY ps) i=p
 | q::ps,0,p,v,e=>by
  obtain⟨A,B,_,l,e2⟩:=yu v;rw[e2,aai,l];exact aeg e
 | q::ps,i+1,p,v,e=>by
  obtain⟨A,B,e1,_,e2⟩:=yu v;rw[e2,aak,<-e1];exact Jh v.2 e
theorem WY{i:Nat}:∀{l:List Nat},((l.take (l.findIdx (· ==i))).filter λo=>decide (i<o)).length=oO l i
 |[]=>rfl
 | a ::l=>by
  rw[aiz,oO];by_cases c:a=i
  ·subst c;simp
  ·rw[if_neg c,show (a ==i)=false from beq_eq_false_iff_ne.mpr c,cond_false,List.take_succ_cons,aiS,<-WY];by_cases d:i<a
   ·rw[if_pos (decide_eq_true d),if_pos d,aef,Nat.add_comm]
   ·rw[if_neg (by simpa using d),if_neg d,agU]
def j7{α:Type}(k:Nat):List α->List Nat->List α
 |x::xs,n::ns=>if k<=n then x::j7 k xs ns else j7 k xs ns
 |_,_=>[]
theorem aal{α:Type}:∀{xs:List α} {l:List Nat},xs.length=l.length->j7 0 xs l=xs
 |[],[],_=>rfl
 |x::xs,n::l,h=>by rw[j7,if_pos (afN _),aal (ajc h)]
theorem aam{α:Type}{k:Nat}:∀{xs:List α} {B:List Nat},j7 (k+1) xs (B.map (· +1))=j7 k xs B
 |[],B=>by cases B <;> rfl
 |x::xs,[]=>rfl
 | x::xs,b::B=>by
  show (if k+1<=b+1 then x::j7 (k+1) xs (B.map (· +1)) else j7 (k+1) xs (B.map (· +1)))=if k<=b then x::j7 k xs B else j7 k xs B;rw[aam];by_cases c:k<=b
  ·rw[if_pos c,if_pos (by omega)]
  ·rw[if_neg c,if_neg (by omega)]
theorem aan{α:Type}{k:Nat}{B:List Nat}:∀{A:List Nat} {xs:List α},j7 (k+1) xs (A.map (· +1)++0::B.map (· +1))=j7 k (xs.eraseIdx A.length) (A++B)
 | A,[]=>by
  rw[aiy,j7,j7]
  ·intro _ _ _ _ h;cases h
  ·intro _ _ _ _ h;cases h
 | [],x::xs=>by
  show (if k+1<=0 then _ else j7 (k+1) xs (B.map (· +1)))=_;rw[if_neg (by omega),aam];rfl
 | a::A,x::xs=>by
  show (if k+1<=a+1 then x::j7 (k+1) xs (A.map (· +1)++0::B.map (· +1)) else j7 (k+1) xs (A.map (· +1)++0::B.map (· +1)))=if k<=a then x::j7 k (xs.eraseIdx A.length) (A++B) else j7 k (xs.eraseIdx A.length) (A++B);rw[aan];by_cases c:k<=a
  ·rw[if_pos c,if_pos (by omega)]
  ·rw[if_neg c,if_neg (by omega)]
def era{α:Type}:List α->List Nat->List α
 |xs,[]=>xs
 |xs,p::ps=>era (xs.eraseIdx p) ps
theorem Sd{α:Type}:∀{k:Nat} {ps:List Nat} {xs:List α},Pv ps->xs.length=ps.length->k<=ps.length->j7 k xs (bY ps)=era xs (ps.take k)
 |0,ps,xs,v,h,_=>by rw[aal (by rw[ig v,h]),ai2];rfl
 | k+1,p::ps,xs,v,h,hk=>by
  obtain⟨A,B,e1,l,e2⟩:=yu v;have:=v.1;rw[aef] at h hk;rw[e2,aan,<-e1,l,Sd v.2 (by rw[afC,if_pos (by omega)];omega) (by omega)];rfl
section
variable{α:Type}{g:Nat->α}
def imp(g:Nat->α):List Nat->Nat->List Nat->List α->List α
 |[],_,_,r=>r
 |p::ps,k,L,r=>imp g ps (k+1) (L.eraseIdx p) (r.set (L.getD p 0) (g k))
theorem Sg:∀{ps:List Nat} {k:Nat} {L:List Nat} {r:List α},(imp g ps k L r).length=r.length
 |[],_,_,_=>rfl
 |p::ps,k,L,r=>by rw[imp,Sg,aeL]
theorem Sh{q:Nat}:∀{ps:List Nat} {k:Nat} {L:List Nat} {r:List α},Pv ps->ps.length=L.length->q∉L->(imp g ps k L r)[q]?=r[q]?
 |[],_,_,_,_,_,_=>rfl
 | p::ps,k,L,r,v,h,hq=>by
  have:=v.1;rw[aef] at h;have hp:p<L.length:=by omega
  rw[imp,Sh v.2 (by rw[afC,if_pos hp];omega) (λz=>hq (agD z))];have hne:q≠L.getD p 0:=λz=>hq (by rw[z,ae8,aem hp];exact agX _);rw[z1e (aeh hne)]
theorem W0:∀{ps:List Nat} {k:Nat} {L:List Nat} {r:List α},Pv ps->ps.length=L.length->L.Nodup->(∀q∈L,q<r.length)->L.map (λq=>(imp g ps k L r)[q]?)=(bY ps).map λn=>some (g (k+n))
 |[],_,L,_,_,h,_,_=>by cases aeA h.symm;rfl
 | p::ps,k,L,r,v,h,nd,hr=>by
  have:=v.1;rw[aef] at h;have hp:p<L.length:=by omega
  have e:L=L.take p++L[p]::L.drop (p+1):=by rw[<-agt hp,ahJ]
  have ec:L.getD p 0=L[p]:=by rw[ae8,aem hp];rfl
  have ee:L.eraseIdx p=L.take p++L.drop (p+1):=af4 _ _;have nd':=nd;rw[e] at nd';have hc:=afq.mp (List.perm_middle.nodup_iff.mp nd');have i:=W0 (k:=k+1) (L:=L.eraseIdx p) (r:=r.set (L.getD p 0) (g k)) v.2 (by rw[afC,if_pos hp];omega) (by rw[ee];exact hc.2) (λq hq=>by rw[aeL];exact hr q (agD hq));have o:=Sh (g:=g) (q:=L[p]) (k:=k+1) (r:=r.set (L.getD p 0) (g k)) v.2 (show ps.length=(L.eraseIdx p).length by rw[afC,if_pos hp];omega) (by rw[ee];exact hc.1);rw[ec,z2a (hr _ (agX _))] at o;rw[imp];rw[ec] at i |-
  generalize hX:imp g ps (k+1) (L.eraseIdx p) (r.set L[p] (g k))=X at *
  have ol:(bY ps).length=ps.length:=ig v.2;rw[ee,afi] at i;have l1:((L.take p).map λq=>X[q]?).length=p:=by rw[z1g,afk];omega
  have t1:(L.take p).map (λq=>X[q]?)=((bY ps).map λn=>some (g (k+1+n))).take p:=by rw[<-i,List.take_left' l1]
  have t2:(L.drop (p+1)).map (λq=>X[q]?)=((bY ps).map λn=>some (g (k+1+n))).drop p:=by rw[<-i,List.drop_left' l1]
  have m:((bY ps).map (· +1)).map (λn=>some (g (k+n)))=(bY ps).map λn=>some (g (k+1+n)):=by rw[aev];exact aeY λa _=>by show some (g (k+(a+1)))=some (g (k+1+a));rw[show k+(a+1)=k+1+a by omega]
  clear hX
  rw[e,afi,z1h,t1,t2,o,bY,afi,z1h,afZ,ais,m];rfl
theorem Ss{r:List α}(v:Pv ps)(h:r.length=ps.length):imp g ps 0 (ad6 ps.length) r=(bY ps).map g:=by
 have i:=W0 (g:=g) (k:=0) (r:=r) v (z2d).symm ahv (λq hq=>by rw[h];exact z2e hq);have l:(imp g ps 0 (ad6 ps.length) r).length=ps.length:=by rw[Sg,h]
 refine agr λj=>?_;by_cases c:j<ps.length
 ·have i:=congrArg (·[j]?) i;simp only[z2b,aei c,af7,agU] at i;rw[z2b];cases q:(bY ps)[j]? with
  |none=>rw[q] at i;cases i
  |some n=>rw[q] at i;exact aeg i
 ·rw[afx (by omega),afx (by rw[z1g,ig v];omega)]
end
end
section
variable{ns:List Int}{w h k:Nat}{f M:Nat->Nat->Int}{T:Nat->Nat->Nat->Int}{m:Str}{s:Nat->Nat}{ρ:aA}
theorem ou:(pl ps).length=ps.length:=z1g _
theorem W2{p:Nat}(e:ps[i]?=some p):(pl ps)[i]?=some (.int (p:Int)):=by rw[pl,z2b,e];rfl
theorem W3:(pl ps).eraseIdx i=pl (ps.eraseIdx i):=by rw[af4,af4,pl,pl,afi,afZ,ais]
theorem Sv{n:Nat}:upto 0 n=pl (ad6 n):=by unfold upto pl;exact mR λi _=>by rw[Int.zero_add]
theorem acE{n:Nat}:(aeb n [D.int 0]).flatten=pl (aeb n 0):=by rw[agE,pl,List.map_replicate];rfl
theorem yw{n:Nat}(h:n<=1000):rN [.int (n:Int)]= .ok (.lst (pl (ad6 n))):=by
 rw[rN,if_pos ⟨by omega,by omega⟩,aeQ,Sv]
theorem abh{n:Nat}(h1:1<=n)(h:n<=1000):Ae (.lst [.int 0]) (.int (n:Int))= .ok (.lst (pl (aeb n 0))):=by
 rw[Ae,if_pos ⟨by simp,by omega,by omega,by rw[aeQ];simp;omega⟩,aeQ,acE]
theorem Oq(e:u ρ= .ok (.lst ds)):xX u i ρ= .nx (ρ.set i (some (.lst ds))):=by unfold xX;rw[e];rfl
theorem W4{k:Nat}{fp:aA->R D}{row left:List D}{p c:Nat}{d:D}(e1:ρ[i]?=some (some (.lst row)))(e2:ρ[k]?=some (some (.lst left)))(e3:fp ρ= .ok (.int (p:Int)))(e4:fv ρ= .ok d)(e5:left[p]?=some (.int (c:Int)))(hp:p<1000000)(hc:c<row.length):
  Pu.setPop i k fp fv ρ= .nx ((ρ.set k (some (.lst (left.eraseIdx p)))).set i (some (.lst (row.set c d)))):=by
 unfold Pu.setPop;rw[e1,e2,e3,e4];simp only[aeQ,e5];rw[if_pos ⟨by omega,by omega,by omega,by omega⟩]
abbrev nI:Nat->D:=λp=> .int ((p:Nat):Int)
abbrev orB:aA->So:=Pu.setPop 3 2 (gv 5) (gv 4)
theorem Sx{e0 e1:Option Ent}:∀{ps:List Nat} {k:Nat} {L:List Nat} {r:List D} {x4 x5:Option Ent},Pv ps->ps.length=L.length->(∀q∈L,q<r.length)->L.length<=1000->
  ∃z2 z4 z5,forL (cR (cT 2 (aW (aH 4) (aW (aH 5) nilG)))) orB (lJ k (pl ps)) [e0,e1,some (.lst (pl L)),some (.lst r),x4,x5]= .nx [e0,e1,z2,some (.lst (imp nI ps k L r)),z4,z5]
 |[],k,L,r,x4,x5,_,_,_,_=>⟨_,x4,x5,rfl⟩
 | p::ps,k,L,r,x4,x5,v,hl,hr,hb=>by
  have:=v.1;rw[aef] at hl;have hp:p<L.length:=by omega
  have ec:L.getD p 0=L[p]:=by rw[ae8,aem hp];rfl
  have hc:=hr _ (agX hp);obtain⟨z2,z4,z5,i⟩:=Sx (e0:=e0) (e1:=e1) (ps:=ps) (k:=k+1) (L:=L.eraseIdx p) (r:=r.set (L.getD p 0) (nI k)) (x4:=vA (.int (k:Int))) (x5:=vA (.int (p:Int))) v.2 (by rw[afC,if_pos hp];omega) (λq hq=>by rw[aeL];exact hr q (agD hq)) (by rw[afC,if_pos hp];omega);refine⟨z2,z4,z5,fG (ρ1:=[e0,e1,some (.lst (pl L)),some (.lst r),vA (.int (k:Int)),vA (.int (p:Int))]) rfl (W4 (row:=r) (left:=pl L) (p:=p) (c:=L.getD p 0) (d:= .int (k:Int)) rfl rfl rfl rfl (W2 (by rw[ec,aem hp])) (by omega) (by rw[ec];exact hc)) ?_⟩;rw[W3];exact i
theorem Ot{n:Nat}(v:Pv ps)(hn:ps.length=n)(n1:1<=n)(n20:n<=20):vB [.lst (pl ps),.int (n:Int)]= .ok (.tup (pl (bY ps))):=by
 subst hn;obtain⟨z2,z4,z5,e⟩:=Sx (e0:=vA (.lst (pl ps))) (e1:=vA (.int (ps.length:Int))) (k:=0) (L:=ad6 ps.length) (r:=pl (aeb ps.length 0)) (x4:=none) (x5:=none) v (z2d).symm (λq hq=>by rw[ou,aeG];exact z2e hq) (by rw[z2d];omega);rw[Ss v (by rw[ou,aeG])] at e;exact bR (aK (Oq (aO (ao rfl) (yw (by omega)))) (aK (Oq (au (dG (ao rfl)) rfl (abh n1 (by omega)))) (aK (jM (xs:=lJ 0 (pl ps)) rfl e) (bw (aO (ao rfl) rfl)))))
theorem Ou{α:Type}{p:α->Bool}{g:α->D}:∀{l:List α},(l.filterMap λa=>if p a=true then some (g a) else none).length=(l.filter p).length
 |[]=>rfl
 | a::l=>by
  cases e:p a with
  |true=>rw[agb (b:=g a) (by simp[e]),aef,aiS,if_pos e,aef,Ou]
  |false=>rw[aga (by simp[e]),aiS,if_neg (by simp[e]),Ou]
theorem idx_eq(hi:i∈l):Lz (pl l) (.int (i:Int))= .ok (.int ((l.findIdx (· ==i):Nat):Int)):=by
 have e:(pl l).findIdx (dF · (.int (i:Int)))=l.findIdx (· ==i):=by
  clear hi
  induction l with
  |nil=>rfl
  | cons a l ih=>
   show (D.int (a:Int)::pl l).findIdx _=_;rw[aiz,aiz,ih];have:dF (.int (a:Int)) (.int (i:Int))=(a ==i):=by
    by_cases c:a=i
    ·subst c;simp[jF,jG,jH,jJ,jK,gC,eV]
    ·have:¬(a:Int)=(i:Int):=by omega
     show ((a:Int) ==(i:Int))=_;rw[beq_eq_false_iff_ne.mpr this,beq_eq_false_iff_ne.mpr c]
   rw[this]
 have hlt:l.findIdx (· ==i)<l.length:=List.findIdx_lt_length_of_exists ⟨i,hi,by simp⟩;rw[Lz,e,if_pos ⟨agA.mpr λd hd=>by
  obtain⟨a,_,rfl⟩:=ae2.mp hd;simp[dep],by rw[ou];exact hlt⟩]
theorem zA(hi:i∈l)(hl:l.length<=1000):tU [.tup (pl l),.int (i:Int)]= .ok (.int ((oO l i:Nat):Int)):=by
 rw[<-WY,<-Ou (g:=λ(a:Nat)=>D.int (a:Int))];have hb:l.findIdx (· ==i)<=l.length:=List.findIdx_le_length;refine bR (bw (aO (ao (w6 (c:=λ(a:Nat)=>D.int (a:Int)) (o:=λ(a:Nat)=>if decide (i<a)=true then some (D.int (a:Int)) else none) (l:=l.take (l.findIdx (· ==i))) ?_ (by rw[afk];omega) λa _=>?_)) rfl))
 ·refine cZ ?_;rw[afZ];refine Jb (ds:=pl l) (n:=l.findIdx (· ==i)) rfl ?_ (by rw[ou];exact hb);show (Lz (pl l) (.int (i:Int))).bind qy=_;rw[idx_eq hi];rfl
 ·refine sI rfl (aN (au rfl rfl ?_)) rfl;show R.ok (D.bl (decide ((i:Int)<(a:Int))))=_;rw[decide_eq_decide.mpr (by omega:(i:Int)<(a:Int)↔i<a)]
def nj(h:Nat):Nat->List (Nat->Nat)->Prop
 |_,[]=>True
 |w,s::S=>mU w h s/\nj h (w - 1) S
def col(y:Nat)(S:List (Nat->Nat)):List Nat:=S.map (· y)
theorem fM{S:List (Nat->Nat)}:(col y S).length=S.length:=z1g _
theorem tZ{y:Nat}(hy:y<h):∀{S:List (Nat->Nat)},nj h S.length S->Pv (col y S)
 |[],_=>trivial
 |s::S,v=>⟨by have:=v.1.lt y hy;rw[aef] at this;show s y<=(col y S).length;rw[fM];omega,tZ hy v.2⟩
theorem Sy:∀{S:List (Nat->Nat)} {w i:Nat} {s:Nat->Nat},nj h w S->S[i]?=some s->mU (w - i) h s
 |t::S,w,0,s,v,e=>by cases aeg e;exact v.1
 |t::S,w,i+1,s,v,e=>by rw[show w - (i+1)=w - 1 - i by omega];exact Sy v.2 e
def tabS(h:Nat)(S:List (Nat->Nat)):D:= .tup ((ad6 h).map λy=> .tup (pl (bY (col y S))))
theorem len_tab{S:List (Nat->Nat)}(h1:1<=h)(v:nj h S.length S)(e:u ρ= .ok (tabS h S)):aD cC (ak (bin u (ci 0) bW) nA) ρ= .ok (.int (S.length:Int)):=by
 refine aO (ao (au e rfl (gK (i:=0) (d:= .tup (pl (bY (col 0 S)))) ?_))) ?_
 ·rw[z2b,aei h1];rfl
 ·show R.ok (D.int ((pl (bY (col 0 S))).length:Int))=_;rw[ou,ig (tZ h1 v),fM]
theorem SJ(v:Pv ps)(hi:i<ps.length):i∈bY ps:=(Az v).mem_iff.mpr (afE.mpr hi)
theorem Dy{S:List (Nat->Nat)}(h1:1<=h)(qD:h<=20)(w20:S.length<=20)(v:nj h S.length S):nQ [tabS h S]= .ok (.lst (S.map (sm h))):=by
 have e:S.map (sm h)=(ad6 S.length).map λn=>sm h (S.getD n λ_=>0):=by
  refine agB (by simp) λi h1 h2=>?_;have:i<S.length:=by simpa using h1
  simp[this]
 rw[e];refine bR (bw (bC (c:=λ(n:Nat)=> .int (n:Int)) (l:=ad6 S.length) (gJ (ao (len_tab h1 v rfl)) (by omega)) (by rw[z2d];omega) λn hn=>?_));have hn:n<S.length:=z2e hn;refine bK rfl (aO (ao (bC (c:=λy=> .tup (pl (bY (col y S)))) (h:=λy=> .int ((S.getD n (λ_=>0) y:Nat):Int)) (l:=ad6 h) (cZ rfl) (by rw[z2d];omega) λy hy=>?_)) rfl);have hy:y<h:=z2e hy;have pv:=tZ hy v;have ep:oO (bY (col y S)) n=S.getD n (λ_=>0) y:=Jh pv (by rw[col,z2b,aem hn,ae8,aem hn];rfl);rw[<-ep];exact bK rfl (aX (aB rfl (ao rfl)) (zA (SJ pv (by rw[fM];exact hn)) (by rw[ig pv,fM];omega)))
theorem Kv:intsOf (pl l)=some (l.map λ(a:Nat)=>(a:Int)):=uL
theorem abj(v:Pv ps):(JT ((bY ps).map λ(a:Nat)=>(a:Int))).map D.int=pl (ad6 ps.length):=by
 rw[<-Em (a:=(ad6 ps.length).map λ(a:Nat)=>(a:Int)) ((Az v).symm.map _) (ahp.mpr (List.pairwise_le_range.imp λh=>by omega)),aev];rfl
theorem Ov:deps (pl l)<=0:=jR (c:=λ(a:Nat)=>D.int (a:Int)) (λa _=>by simp[dep])
theorem uR{n:Nat}(v:Pv ps)(hn:ps.length=n)(n20:n<=20):fH [.tup (pl (bY ps)),.int (n:Int)]= .ok (.bl true):=by
 subst hn;have hl:(bY ps).length=ps.length:=ig v;refine bR (aK (bU (f9 (cP (b:=true) (aN rfl)) (cP (aN (aO (ao (bC (c:=λ(a:Nat)=> .int (a:Int)) (h:=λ_=> .bl true) (l:=bY ps) (cZ rfl) (by omega) λa _=>bK rfl (aX (ao rfl) iY))) ji)))) rfl) (bw (au (x:= .lst (pl (ad6 ps.length))) (aO (ao rfl) ?_) (aO (ao rfl) (yw (by omega))) (Ej rfl ?_))))
 ·show tR [.tup (pl (bY ps))]=_;rw[tR,Kv];show (if _ then _ else _)=_;rw[if_pos (by rw[z1g];omega),abj v]
 ·rw[dep];have:=Ov (l:=ad6 ps.length);omega
theorem Ba{S:List (Nat->Nat)}(o:Ok w h f)(hw:S.length=w)(v:nj h S.length S):gM [tabS h S,bx w h f]= .ok (.bl true):=by
 subst hw;have ow:=o.w2;have oh:=o.h2;have en:S.map (sm h)=(ad6 S.length).map λn=>sm h (S.getD n λ_=>0):=by
  refine agB (by simp) λi h1 h2=>?_;have:i<S.length:=by simpa using h1
  simp[this]
 have es:=Dy o.h1 oh ow v;rw[en] at es;refine bR (aK (aZ (aX (ao rfl) (size_eq o)) rfl) (aK (bU (f9 (cP (b:=true) (aN rfl)) (f9 (aN (au (aO (ao rfl) rfl) rfl (sE ?_))) (cP (aN (aO (ao (bC (c:=λy=> .tup (pl (bY (col y S)))) (h:=λ_=> .bl true) (l:=ad6 h) (cZ rfl) (by rw[z2d];omega) λy hy=>?_)) ji))))) rfl)
  (bw (aO (ao (bC (c:=λ(n:Nat)=> .tup [.int (n:Int),sm h (S.getD n λ_=>0)]) (h:=λ_=> .bl true) (l:=ad6 S.length) (m9 (ao (aX (ao rfl) es)) rfl) (by rw[z2d];omega) λn hn=>?_)) ji))))
 ·rw[z1g,z2d]
 ·exact bK rfl (aX (aB rfl (ao rfl)) (uR (tZ (z2e hy) v) fM ow))
 ·have hn:n<S.length:=z2e hn;have q:=Sy v (aem hn);have eg:S.getD n (λ_=>0)=S[n]:=by rw[ae8,aem hn];rfl
  rw[eg];refine bK rfl (aX (aB rfl (aB (x:= .int ((S.length - n:Nat):Int)) (au rfl rfl ?_) (ao rfl))) (Wr q oh));show R.ok (D.int ((S.length:Int) - (n:Int)))=_;rw[show (S.length:Int) - (n:Int)=((S.length - n:Nat):Int) by omega]
theorem lN{S:List (Nat->Nat)}(o:Ok w h f)(hw:S.length=w)(v:nj h S.length S):iK [tabS h S,bx w h f]= .ok .non:=Ga (bU (cP (aN (aX (aB rfl (ao rfl)) (Ba o hw v)))) rfl)
theorem Ow{n:Nat}(h1:a<=i)(h2:i<=n):lu [.int (i:Int),.int (a:Int),.int (n:Int)]= .ok .non:=
 Ga (bU (f9 (cP (aN (aX (ao rfl) iY))) (cP (aN (wK rfl rfl (nW (by omega)) rfl (nW (by omega)))))) rfl)
def eF(L:List rK):List (Nat->Nat):=L.map (·.1)
theorem GZ:∀{k w:Nat} {f M:Nat->Nat->Int} {L:List rK},Go m h k w f M (some L)->nj h w (eF L)
 |0,w,f,M,L,g=>by cases aeg g;trivial
 | k +1,w,f,M,L,g=>by
  rcases g with⟨_,_,e⟩ |⟨s,r,q,_,g,e⟩
  ·cases e
  ·cases r with
   |none=>cases e
   |some L'=>cases aeg e;exact⟨q.sm,GZ g⟩
theorem Kw(hm:m= "worth"\/m= "joins")(o:Ok w h f)(g:Go m h w w f (λ_ _=>0) (some L)):yj [bx w h f,.str m]= .ok (tabS h (eF L)):=by
 have hl:=GX g;have v:=GZ g;have hS:(eF L).length=w:=by rw[eF,z1g,hl]
 have v':nj h (eF L).length (eF L):=by rw[hS];exact v
 have ow:=o.w2;have oh:=o.h2;refine jk (aK (aZ (aX (ao rfl) (size_eq o)) rfl) (aK (pq (aX (ao rfl) (Je hm))) (aK (aZ (aX (aB rfl (aB rfl (aB rfl (ao (aX (ao rfl) (Qt o)))))) (Y0 hm o (z0g _) g)) rfl) (bw (aO (ao (bC (c:=λ(y:Nat)=> .int (y:Int)) (h:=λy=> .tup (pl (bY (col y (eF L))))) (l:=ad6 h) (gJ (ao rfl) (by omega)) (by rw[z2d];omega) λy hy=>?_)) rfl)))));have hy:y<h:=z2e hy;refine bK rfl (aX (aB (x:= .lst (pl (col y (eF L)))) ?_ (ao rfl)) (Ot (tZ hy v') (by rw[fM,hS]) o.w1 ow));have:pl (col y (eF L))=L.map λp=>D.int ((p.1 y:Nat):Int):=by rw[pl,col,eF,aev,aev];rfl
 rw[this];refine bC (c:=Dg h) (l:=L) (jT rfl) (by omega) λp _=>bK rfl (au rfl rfl (gK (i:=y) ?_));rw[z2b,aei hy];rfl
end
section
variable{ns:List Int}{w h:Nat}{f M:Nat->Nat->Int}{T:Nat->Nat->Nat->Int}{m:Str}{s:Nat->Nat}{ρ:aA}
def tI(l:List Int):D:= .tup (l.map .int)
def cF(h:Nat)(s:Nat->Nat):List Int:=(ad6 h).map λy=>((s y:Nat):Int)
theorem aao:tI (cF h s)=sm h s:=by unfold tI cF;rw[aev];rfl
def ext(w:Nat)(l:List Int)(a:Int):List (List Int):=[a - 1,a,a+1].filterMap λx=>if (decide (0<=x) && decide (x<(w:Int)))=true then some (l++[x]) else none
def lst(l:List Int):Int:=l.getD (l.length - 1) 0
def lO(w:Nat):Nat->List (List Int)
 |0=>(ad6 w).map λx=>[((x:Nat):Int)]
 |k+1=>(lO w k).flatMap λl=>ext w l (lst l)
theorem Ji:lst (cF (k+1) s)=((s k:Nat):Int):=by simp[lst,cF]
theorem Ox:cF (k+1) s=cF k s++[((s k:Nat):Int)]:=by unfold cF;rw[ahS,afi];rfl
theorem SM{l r:List Int}{a:Int}:r∈ext w l a↔∃x,(x=a - 1\/x=a\/x=a+1)/\0<=x/\x<(w:Int)/\r=l++[x]:=by
 unfold ext;rw[ah9];constructor
 ·rintro⟨x,hx,e⟩
  split at e
  ·rename_i hb;cases e;simp only[ael,afl,or_false] at hx;simp only[ae6,decide_eq_true_eq] at hb;exact⟨x,hx,hb.1,hb.2,rfl⟩
  ·cases e
 ·rintro⟨x,hx,h0,h1,rfl⟩
  refine⟨x,by simpa using hx,?_⟩;rw[if_pos (by simp[h0,h1])]
theorem Ky(e:∀y<k,s y=s' y):cF k s=cF k s':=by
 unfold cF;exact aeY λy hy=>by rw[e y (z2e hy)]
theorem Jj(e:cF k s=cF k s'):∀y<k,s y=s' y:=λy hy=>by
 have:=congrArg (λl:List Int=>l[y]?) e;simp only[cF,z2b,aei hy,af7,Option.some.injEq] at this;omega
theorem xg:∀{k:Nat} {l:List Int},l∈lO w k↔∃s,mU w (k+1) s/\l=cF (k+1) s
 | 0,l=>by
  unfold lO;rw[ae2];constructor
  ·rintro⟨x,hx,rfl⟩
   exact⟨λ_=>x,⟨λ_ _=>z2e hx,λy hy=>by omega⟩,rfl⟩
  ·rintro⟨s,q,rfl⟩
   exact⟨s 0,afE.mpr (q.lt 0 (by omega)),rfl⟩
 | k+1,l=>by
  unfold lO;rw[agC];constructor
  ·rintro⟨l',h',hl⟩
   obtain⟨s,q,rfl⟩:=xg.mp h';rw[Ji] at hl;obtain⟨x,hx,h0,h1,rfl⟩:=SM.mp hl;obtain⟨p,rfl⟩:=afz h0;have e1:∀y<k+1,(λy=>if y=k+1 then p else s y) y=s y:=λy hy=>if_neg (by omega);refine⟨λy=>if y=k+1 then p else s y,⟨λy hy=>?_,λy hy=>?_⟩,?_⟩
   ·by_cases e:y=k+1
    ·simp only[e,if_true];omega
    ·simp only[e,if_false];exact q.lt y (by omega)
   ·by_cases e:y=k
    ·subst e;simp only[if_true,show ¬y=y+1 by omega,if_false];omega
    ·simp only[show ¬y+1=k+1 by omega,show ¬y=k+1 by omega,if_false];exact q.st y (by omega)
   ·rw[Ox (k:=k+1),Ky e1];simp
  ·rintro⟨s,q,rfl⟩
   refine⟨cF (k+1) s,xg.mpr ⟨s,⟨λy hy=>q.lt y (by omega),λy hy=>q.st y (by omega)⟩,rfl⟩,?_⟩;rw[Ji,SM];have a:=q.st k (by omega);have b:=q.lt (k+1) (by omega);exact⟨((s (k+1):Nat):Int),by omega,by omega,by omega,Ox⟩
theorem Jk{l:List Int}{a:Int}:(ext w l a).length<=3:=by unfold ext;exact ahb _ _
theorem Kz{F:List Int->List (List Int)}:∀{l:List (List Int)},(∀a∈l,(F a).length<=3)->(l.flatMap F).length<=3*l.length
 |[],_=>by simp
 | a::l,h=>by
  rw[agP,z1d,aef];have h1:=h a (by simp);have h2:=Kz (l:=l) λb hb=>h b (by simp[hb]);omega
theorem SN:∀{k:Nat},(lO w k).length<=w*3^k
 |0=>by simp[lO]
 | k+1=>by
  unfold lO;have:=Kz (F:=λl=>ext w l (lst l)) (l:=lO w k) λa _=>Jk;have h2:=SN (k:=k);rw[Nat.pow_succ];have:w*(3^k*3)=3*(w*3^k):=by rw[ahc (3^k) 3,<-Nat.mul_assoc,ahc w 3,Nat.mul_assoc]
  omega
theorem Y4(hw:w<=4)(hk:k<=3):(lO w k).length<=108:=by
 have:=SN (w:=w) (k:=k);have h3:3^k<=27:=by
  have:k=0\/k=1\/k=2\/k=3:=by omega
  rcases this with rfl |rfl |rfl |rfl <;> decide
 have:w*3^k<=4*27:=Nat.mul_le_mul hw h3;omega
theorem Jl:bW (tI (cF (k+1) s)) (.int (-1))= .ok (.int ((s k:Nat):Int)):=by
 have:atI ((cF (k+1) s).map D.int) (-1)=some (.int ((s k:Nat):Int)):=by
  unfold atI ixN;rw[if_neg (by omega),if_pos (by simp[cF];omega)];show ((cF (k+1) s).map D.int)[_]?=_;have e:(-1+(((cF (k+1) s).map D.int).length:Int)).toNat=k:=by simp[cF];omega
  rw[e];simp[cF]
 show bW (.tup ((cF (k+1) s).map D.int)) (.int (-1))=_;rw[bW,this]
theorem abk{l:List Int}{a:Int}:(ext w l a).map tI=[a - 1,a,a+1].filterMap λx=>if (decide (0<=x) && decide (x<(w:Int)))=true then some (tI (l++[x])) else none:=by
 unfold ext;rw[List.map_filterMap];congr 1;funext x;split <;> rfl
theorem acF(hk:k<20)(q:mU w (k+1) s)(hl:acc.length<=1000):
  wyI [vA (.int (w:Int)),e1,e2,e3,vA (.lst acc),vA (tI (cF (k+1) s))]= .nx [vA (.int (w:Int)),e1,e2,e3,vA (.lst (acc++(ext w (cF (k+1) s) (lst (cF (k+1) s))).map tI)),vA (tI (cF (k+1) s))]:=by
 have hlen:=Jk (w:=w) (l:=cF (k+1) s) (a:=lst (cF (k+1) s));have hwl:(cF (k+1) s).length=k+1:=by simp[cF]
 rw[Ji] at hlen |-;refine aZ (au rfl (y:= .lst ((ext w (cF (k+1) s) ((s k:Nat):Int)).map tI)) ?_ (sH (by rw[z1g];omega))) rfl;rw[abk];refine w6 (l:=[((s k:Nat):Int) - 1,((s k:Nat):Int),((s k:Nat):Int)+1]) (c:=D.int) (cZ (cO (aB (au (au rfl rfl Jl) rfl rfl) (aB (au rfl rfl Jl) (ao (au (au rfl rfl Jl) rfl rfl)))))) (by simp) λx hx=>?_;refine sI rfl ?_ (au rfl (cO (ao rfl)) ((sG (by rw[z1g,hwl];simp;omega)).trans (by rw[tI,afi];rfl)));by_cases h0:0<=x
 ·rw[decide_eq_true h0,Bool.true_and];exact jU (aN (au rfl rfl (nW h0))) (aN (au rfl rfl rfl))
 ·rw[decide_eq_false h0,ahg];refine wL (aN (au rfl rfl ?_));show R.ok (D.bl (decide _))=_;rw[decide_eq_false h0]
theorem Oz{k:Nat}(hk:k<20){e1 e2 e3:Option Ent}:∀{ws:List (List Int)} {acc:List D} {e5:Option Ent},(∀l∈ws,∃s,mU w (k+1) s/\l=cF (k+1) s)->acc.length+3*ws.length<=1000->
  ∃z5,forL (aH 5) wyI (ws.map tI) [vA (.int (w:Int)),e1,e2,e3,vA (.lst acc),e5]= .nx [vA (.int (w:Int)),e1,e2,e3,vA (.lst (acc++(ws.flatMap λl=>ext w l (lst l)).map tI)),z5]
 |[],acc,e5,_,_=>⟨e5,by simp[forL]⟩
 | l::ws,acc,e5,hw,hl=>by
  rw[aef] at hl;obtain⟨s,q,rfl⟩:=hw l (by simp);have hlen:=Jk (w:=w) (l:=cF (k+1) s) (a:=lst (cF (k+1) s));obtain⟨z5,e⟩:=Oz hk (e1:=e1) (e2:=e2) (e3:=e3) (ws:=ws) (acc:=acc++(ext w (cF (k+1) s) (lst (cF (k+1) s))).map tI) (e5:=vA (tI (cF (k+1) s))) (λl hl=>hw l (by simp[hl])) (by rw[z1d,z1g];omega);refine⟨z5,fG rfl (acF hk q (by omega)) (e.trans ?_)⟩;rw[agP,afi,afb]
theorem acG(hk:k<3)(hw:w<=4):∃z4 z5,wyO [vA (.int (w:Int)),e1,vA (.lst ((lO w k).map tI)),e3,e4,e5]= .nx [vA (.int (w:Int)),e1,vA (.lst ((lO w (k+1)).map tI)),e3,z4,z5]:=by
 have hl:=Y4 (k:=k) hw (by omega);obtain⟨z5,e⟩:=Oz (w:=w) (k:=k) (by omega) (e1:=e1) (e2:=vA (.lst ((lO w k).map tI))) (e3:=e3) (ws:=lO w k) (acc:=[]) (e5:=e5) (λl hl=>xg.mp hl) (by simp;omega);exact⟨_,z5,aK (aZ (dG rfl) rfl) (aK (jM (jT rfl) e) (aZ (d:= .lst ((lO w (k+1)).map tI)) rfl rfl))⟩
theorem OD(hw:w<=4){e1:Option Ent}:∀{r k:Nat} {ys:List Nat} {e3 e4 e5:Option Ent},ys.length=r->k+r<=3->∃z3 z4 z5,forL (aH 3) wyO (ys.map λ(y:Nat)=>D.int (y:Int)) [vA (.int (w:Int)),e1,vA (.lst ((lO w k).map tI)),e3,e4,e5]= .nx [vA (.int (w:Int)),e1,vA (.lst ((lO w (k+r)).map tI)),z3,z4,z5]
 |0,k,ys,e3,e4,e5,hl,_=>by cases ahn.mp hl;exact⟨e3,e4,e5,rfl⟩
 | r +1,k,ys,e3,e4,e5,hl,hk=>by
  cases ys with
  |nil=>cases hl
  | cons y ys=>
   obtain⟨y4,y5,e⟩:=acG (k:=k) (by omega) hw (e1:=e1) (e3:=vA (.int (y:Int))) (e4:=e4) (e5:=e5);obtain⟨z3,z4,z5,e'⟩:=OD hw (e1:=e1) (r:=r) (k:=k+1) (ys:=ys) (e3:=vA (.int (y:Int))) (e4:=y4) (e5:=y5) (by simpa using hl) (by omega);rw[show k+1+r=k+(r+1) by omega] at e';exact⟨z3,z4,z5,fG rfl e e'⟩
theorem abl(hw:w<=4)(h1:1<=h)(hh:h<=4):vh [.int (w:Int),.int (h:Int)]= .ok (.lst ((lO w (h - 1)).map tI)):=by
 obtain⟨z3,z4,z5,e⟩:=OD hw (e1:=vA (.int (h:Int))) (r:=h - 1) (k:=0) (ys:=ad6 (h - 1)) (e3:=none) (e4:=none) (e5:=none) (by simp) (by omega);rw[agU] at e;refine bR (aK (aZ (d:= .lst ((lO w 0).map tI)) ?_ rfl) (aK (jM (gJ (m:=h - 1) (ao (au rfl rfl (Aw h1))) (by omega)) e) (bw rfl)));have:(lO w 0).map tI=(ad6 w).map λ(x:Nat)=>D.tup [.int (x:Int)]:=by unfold lO;rw[aev];rfl
 rw[this];exact bC (c:=λ(x:Nat)=>D.int (x:Int)) (h:=λ(x:Nat)=>D.tup [.int (x:Int)]) (l:=ad6 w) (gJ (ao rfl) (by omega)) (by rw[z2d];omega) λx hx=>bK rfl (cO (ao rfl))
theorem acH{p q:aA->R Bool}(e1:p ρ= .ok true):sU p q ρ= .ok true:=by rw[sU,e1,R.bf,if_pos rfl]
def bD:Option Wy->D
 |none=> .non
 |some t=>eY t
theorem W5{a:Wy}:Nt (eY a) (eY b)= .ok (.bl (lt a b)):=by
 have e:∀t:Wy,lq (eY t)=some (fl t):=λt=>by rw[yp];exact Ad
 rw[Nt,e,e]
theorem adU:eY (wS T M h s)= .tup [.int (-gn M h s),.int (cost h T s),sm h s]:=by
 rw[<-aao];rfl
theorem Us(h1:1<=h)(e:∀y<h,s y=s' y):cost h T s=cost h T s':=by
 unfold cost;rw[e 0 h1];congr 2;refine aeY λy hy=>?_;have hy:y+1<h:=by have:=z2e hy;omega
 unfold fare;rw[e (y+1) hy,e (y+1 - 1) (by omega)]
theorem OJ(h1:1<=h)(e:∀y<h,s y=s' y):wS T M h s=wS T M h s':=by
 unfold wS;rw[Us h1 e,show gn M h s=gn M h s' by unfold gn;exact congrArg List.sum (aeY λy hy=>by rw[e y (z2e hy)])];exact congrArg (λz=>(_,_,z)) (Ky e)
theorem W6(e:∀y<h,s y=s' y)(q:ni w h M s):ni w h M s':=
 ⟨⟨λy hy=>by rw[<-e y hy];exact q.sm.lt y hy,λy hy=>by rw[<-e y (by omega),<-e (y+1) hy];exact q.sm.st y hy⟩,λy hy=>by rw[<-e y hy];exact q.ne y hy⟩
def Dz(w h:Nat)(T:Nat->Nat->Nat->Int)(M:Nat->Nat->Int)(seen:List (List Int)):Option Wy->Prop
 |none=>∀s,cF h s∈seen->¬ni w h M s
 |some t=>(∃s,ni w h M s/\t=wS T M h s)/\∀s,cF h s∈seen->ni w h M s->lt (wS T M h s) t=false
theorem Y5{b:Option Wy}(hs:¬ni w h M s)(q:Dz w h T M seen b):Dz w h T M (seen++[cF h s]) b:=by
 have key:∀s',cF h s'∈seen++[cF h s]->ni w h M s'->cF h s'∈seen:=λs' h' q'=>by
  rcases afF.mp h' with z |z
  ·exact z
  ·exact absurd (W6 (Jj (aeD.mp z)) q') hs
 cases b with
 |none=>exact λs' h' q'=>q s' (key s' h' q') q'
 |some t=>exact⟨q.1,λs' h' q'=>q.2 s' (key s' h' q') q'⟩
theorem O5{b:Option Wy}(h1:1<=h)(hs:ni w h M s)(q:Dz w h T M seen b)(hb:∀t,b=some t->lt (wS T M h s) t=true):Dz w h T M (seen++[cF h s]) (some (wS T M h s)):=by
 refine⟨⟨s,hs,rfl⟩,λs' h' q'=>?_⟩;rcases afF.mp h' with z |z
 ·cases b with
  |none=>exact absurd q' (q s' z)
  | some t=>
   have a:=q.2 s' z q';cases e:lt (wS T M h s') (wS T M h s) with
   |false=>rfl
   | true=>
    have:=kZ e (hb t rfl);exact this.symm.trans a
 ·rw[OJ (T:=T) (M:=M) h1 (Jj (aeD.mp z))];exact mZ _
theorem W7(h1:1<=h)(q:Dz w h T M seen (some t))(hb:lt (wS T M h s) t=false):Dz w h T M (seen++[cF h s]) (some t):=by
 refine⟨q.1,λs' h' q'=>?_⟩;rcases afF.mp h' with z |z
 ·exact q.2 s' z q'
 ·rw[OJ (T:=T) (M:=M) h1 (Jj (aeD.mp z))];exact hb
theorem acI(hm:m= "worth"\/m= "joins")(o:Ok w h f)(q:mU w h s){b:Option Wy}(hb:Dz w h (tbl m w h f) M seen b):
  ∃b' z5,beB [vA (bx w h f),vA (.str m),vA (bx w h M),vA (bD b),vA (tI (cF h s)),e5]= .nx [vA (bx w h f),vA (.str m),vA (bx w h M),vA (bD b'),vA (tI (cF h s)),z5]/\Dz w h (tbl m w h f) M (seen++[cF h s]) b':=by
 have e1:=Ol (M:=M) (k:=1) o.h2 q;rw[aao];by_cases hc:cnt M h s 1=0
 ·have fr:ni w h M s:=⟨q,Oo.mp hc⟩;have eh:dh (ak (jt (aD (aV lA 3) (ak (gv 2) (ak (gv 4) (ak (ci 2) nA))))) (ak (aD (aV pZ 3) (ak (gv 0) (ak (gv 1) (ak (gv 4) nA)))) (ak (gv 4) nA))) [vA (bx w h f),vA (.str m),vA (bx w h M),vA (bD b),vA (sm h s),e5]= .ok (eY (wS (tbl m w h f) M h s)):=by
   rw[adU];exact cO (aB (acB (aX (aB rfl (aB rfl (ao rfl))) (Ol o.h2 q))) (aB (aX (aB rfl (aB rfl (ao rfl))) (Qs hm o q)) (ao rfl)))
  cases b with
  | none=>
   exact⟨some (wS (tbl m w h f) M h s),vA (eY (wS (tbl m w h f) M h s)),cX (aN (au (aX (aB rfl (aB rfl (ao rfl))) e1) rfl (by rw[nZ,decide_eq_true hc]))) (aK (aZ eh rfl) (aZ (w5 (acH (aN (au rfl rfl rfl))) rfl) rfl)),O5 o.h1 fr hb λt e=>nomatch e⟩
  | some t=>
   cases hlt:lt (wS (tbl m w h f) M h s) t with
   | true=>
    exact⟨some (wS (tbl m w h f) M h s),vA (eY (wS (tbl m w h f) M h s)),cX (aN (au (aX (aB rfl (aB rfl (ao rfl))) e1) rfl (by rw[nZ,decide_eq_true hc]))) (aK (aZ eh rfl) (aZ (w5 (f9 (aN (au rfl rfl rfl)) (aN (au rfl rfl (W5.trans (by rw[hlt]))))) rfl) rfl)),O5 o.h1 fr hb λt' e=>by cases e;exact hlt⟩
   | false=>
    exact⟨some t,vA (eY (wS (tbl m w h f) M h s)),cX (aN (au (aX (aB rfl (aB rfl (ao rfl))) e1) rfl (by rw[nZ,decide_eq_true hc]))) (aK (aZ eh rfl) (aZ (CZ (f9 (aN (au rfl rfl rfl)) (aN (au rfl rfl (W5.trans (by rw[hlt]))))) rfl) rfl)),W7 o.h1 hb hlt⟩
 ·exact⟨b,e5,bU (aN (au (aX (aB rfl (aB rfl (ao rfl))) e1) rfl (by rw[nZ,decide_eq_false hc]))) rfl,Y5 (λz=>hc (Oo.mpr z.ne)) hb⟩
theorem SQ(hm:m= "worth"\/m= "joins")(o:Ok w h f):∀{ws seen:List (List Int)} {b:Option Wy} {e4 e5:Option Ent},(∀l∈ws,∃s,mU w h s/\l=cF h s)->Dz w h (tbl m w h f) M seen b->
  ∃b' z4 z5,forL (aH 4) beB (ws.map tI) [vA (bx w h f),vA (.str m),vA (bx w h M),vA (bD b),e4,e5]= .nx [vA (bx w h f),vA (.str m),vA (bx w h M),vA (bD b'),z4,z5]/\Dz w h (tbl m w h f) M (seen++ws) b'
 |[],seen,b,e4,e5,_,hb=>⟨b,e4,e5,rfl,by rw[aeK];exact hb⟩
 | l::ws,seen,b,e4,e5,hw,hb=>by
  obtain⟨s,q,rfl⟩:=hw l (by simp);obtain⟨b1,y5,e1,h1⟩:=acI hm o q hb (e5:=e5);obtain⟨b',z4,z5,e2,h2⟩:=SQ hm o (ws:=ws) (seen:=seen++[cF h s]) (b:=b1) (e4:=vA (tI (cF h s))) (e5:=y5) (λl hl=>hw l (by simp[hl])) h1;exact⟨b',z4,z5,fG rfl e1 e2,by rw[afb] at h2;exact h2⟩
theorem Y6(hm:m= "worth"\/m= "joins")(o:Ok w h f)(hw:w<=4)(hh:h<=4):vm [bx w h f,.str m,bx w h M]= .ok (lsD (cI (topC w h (tbl m w h f) M))):=by
 have h1:=o.h1;have hk:h - 1+1=h:=by omega
 obtain⟨b,z4,z5,e,hb⟩:=SQ (M:=M) hm o (ws:=lO w (h - 1)) (seen:=[]) (b:=none) (e4:=none) (e5:=none) (λl hl=>by have:=xg.mp hl;rwa [hk] at this) (λs hs=>by cases hs);rw[ago] at hb;have all:∀s,ni w h M s->cF h s∈lO w (h - 1):=λs q=>xg.mpr ⟨s,by rw[hk];exact⟨q.sm,rfl⟩⟩;have fin:(retS (zK (cg (bin (gv 3) (λ_=> .ok .non) isD)) (λ_=> .ok .non) (bin (gv 3) (ci 2) bW))) [vA (bx w h f),vA (.str m),vA (bx w h M),vA (bD b),z4,z5]= .rt (lsD (cI (topC w h (tbl m w h f) M))):=by
  rcases least (w:=w) (h:=h) (T:=tbl m w h f) (M:=M) h1 with⟨en,hno⟩ |⟨s,en,hs⟩
  ·rw[en];cases b with
   |none=>exact bw (w5 (aN (au rfl rfl rfl)) rfl)
   |some t=>obtain⟨⟨s,q,_⟩,_⟩:=hb;exact absurd q (hno s)
  ·rw[en];cases b with
   |none=>exact absurd hs.1 (hb s (all s hs.1))
   | some t=>
    obtain⟨⟨s',q',rfl⟩,hle⟩:=hb;have e1:=hs.2 s' q';have e2:=hle s (all s hs.1) hs.1;rw[acv e2 e1];exact bw (CZ (aN (au rfl rfl rfl)) (au (y:= .int 2) rfl rfl (gK (i:=2) rfl)))
 exact bR (aK (aZ rfl rfl) (aK (jM (jT (aX (aB (len0 o rfl) (ao (aO (ao rfl) wZ))) (abl hw h1 hh))) e) fin))
end
section
variable{ns:List Int}{w h k:Nat}{f M:Nat->Nat->Int}{T:Nat->Nat->Nat->Int}{m:Str}{s:Nat->Nat}{ρ:aA}
theorem acJ(hns:ns.length<=1000000):∃w h f,vg [.lst (ns.map .int),.int 0,.int 4,.int 3]= .ok (bx w h f)/\Ok w h f/\w<=4/\h<=3:=by
 obtain⟨e1,h1,h2⟩:=uM (k:=0) (m:=4) hns (by omega) (by omega);obtain⟨e2,h3,h4⟩:=uM (k:=0+1) (m:=3) hns (by omega) (by omega);obtain⟨w,hw⟩:=afz (show 0<=1+dr ns 0 4 by omega);obtain⟨h,hh⟩:=afz (show 0<=1+dr ns (0+1) 3 by omega);obtain⟨f,e,o⟩:=Uk (ns:=ns) (a:=0+2) (w:=w) (h:=h) hns (by omega) (by omega) (by omega) (by omega) (by omega);refine⟨w,h,f,bR (bw (aX (aB rfl (aB (au rfl rfl rfl) (aB (au rfl (aX (aB rfl (aB rfl (ao rfl))) e1) (congrArg (λz=>R.ok (D.int z)) hw)) (ao (au rfl (aX (aB rfl (aB (au rfl rfl rfl) (ao rfl))) e2) (congrArg (λz=>R.ok (D.int z)) hh)))))) e)),o,by omega,by omega⟩
theorem O6{α β:Type}{f:α->Option β}{g:α->β}:∀{l:List α},(∀a∈l,f a=some (g a))->l.filterMap f=l.map g
 |[],_=>rfl
 |a::l,h=>by rw[agb (h a (by simp)),z1h,O6 λb hb=>h b (by simp[hb])]
theorem abm{g:Nat->Int}{n:Nat}(hn:n<w):(ad6 w).filterMap (λx=>if x=n then none else some (D.int (g x)))=(ad6 (w - 1)).map λx=>D.int (if x<n then g x else g (x+1)):=by
 rw[<-NZ hn,<-afZ,<-ais];have e2:ad6 w=(ad6 w).take n++n::(ad6 w).drop (n+1):=by
  have:=ahJ n (ad6 w);rw[agt (by simpa using hn)] at this;simpa using this.symm
 conv=>lhs;rw[e2]
 rw[List.filterMap_append,aga (by simp),O6 (g:=λx=>D.int (g x)) λx hx=>?_,O6 (g:=λx=>D.int (g x)) λx hx=>?_]
 ·obtain⟨i,hi,e⟩:=List.mem_iff_getElem.mp hx;simp at e;rw[if_neg (by omega)]
 ·rw[List.take_range] at hx;have:=z2e hx;rw[if_neg (by omega)]
theorem W8(q:mU w h s)(qD:h<=20)(w20:w<=20):yc [bx w h f,sm h s]= .ok (bx (w - 1) h (less s f)):=by
 refine bR (bw (aO (ao (bC (c:=λy=> .tup [row w (f y),.int ((s y:Nat):Int)]) (h:=λy=>row (w - 1) (less s f y)) (l:=ad6 h) (wX (aB rfl (ao rfl)) rfl rfl) (by rw[z2d];omega) λy hy=>?_)) rfl));refine bK rfl (aO (ao (x:= .lst ((ad6 w).filterMap λx=>if x=s y then none else some (D.int (f y x)))) (w6 (l:=ad6 w) (c:=λ(x:Nat)=>D.tup [.int (x:Int),.int (f y x)]) (m9 (ao rfl) rfl) (by rw[z2d];omega) λx hx=>?_)) ?_)
 ·have e:iC (.int (x:Int)) (.int ((s y:Nat):Int))= .ok (.bl (!decide (x=s y))):=by
   rw[iC,if_pos (by simp[dep])];show R.ok (D.bl (!dF (.int (x:Int)) (.int ((s y:Nat):Int))))=_;by_cases h:x=s y
   ·simp[jF,jG,jH,jJ,jK,gC,eV,h]
   ·have h':¬(x:Int)=((s y:Nat):Int):=by omega
    simp[dF,h,h']
  refine (sI rfl (aN (au rfl rfl e)) rfl).trans ?_;by_cases h:x=s y
  ·simp[h]
  ·simp[h]
 ·rw[abm (q.lt y (z2e hy))];rfl
theorem free_eq(o:Ok w h f):vo [bx w h f]= .ok (bx w h λ_ _=>0):=by
 have qD:=o.h2;exact bR (bw (aO (ao (bC (c:=λy=>row w (f y)) (h:=λ_=>row w λ_=>0) (l:=ad6 h) (cZ rfl) (by rw[z2d];omega) λy hy=>bK rfl (au (cO (ao rfl)) (aO (ao rfl) CV) (mul_one o.w1 o.w2)))) rfl))
theorem acK:lsD [wS T M h s]=sm h s:=by
 show D.tup (((ad6 h).map λy=>((s y:Nat):Int)).map .int)=_;rw[aev];rfl
theorem W9{n j:Nat}{sel:List (Sum Nat D)}{fk:aA->R (List D)}{zs:List D}(e1:fa ρ= .ok ds)(e2:fk ρ= .ok zs)(e3:F (ds++pickK .non sel zs)=r)(hl:(ds++pickK .non sel zs).length=n:=by rfl)(hj:zs.length=j:=by rfl):gY F n j sel fa fk ρ=r:=by
 unfold gY;rw[e1,R.bf,e2,R.bf,if_pos hj,okN,if_pos hl,e3]
def jZ(h:Nat)(Lf:Nat->List Nat):Option Ent:=some (.lst ((ad6 h).map λy=> .lst (pl (Lf y))))
def jz(h:Nat)(rf:Nat->List D):Option Ent:=some (.rws ((ad6 h).map rf))
theorem Xa{g:Nat->α}{v:α}(hy:y<h):((ad6 h).map g).set y v=(ad6 h).map λz=>if z=y then v else g z:=by
 refine agB (by simp) λi h1 h2=>?_;rw[List.getElem_set];by_cases c:y=i
 ·subst c;simp
 ·have c':¬i=y:=λe=>c e.symm;simp[c,c']
theorem yx{p q:Nat->List D}(e:∀y<h,p y=q y):jz h p=jz h q:=by unfold jz;rw[mR λy hy=>e y (z2e hy)]
theorem G3{p q:Nat->List Nat}(e:∀y<h,p y=q y):jZ h p=jZ h q:=by unfold jZ;rw[mR λy hy=>by rw[e y (z2e hy)]]
theorem Y7{c:Nat}{fy fk:aA->R D}{d:D}(e1:ρ[i]?=some (jz h rf))(e2:fy ρ= .ok (.int (y:Int)))(e3:fk ρ= .ok (.int (c:Int)))(e4:fv ρ= .ok d)(hy:y<h)(hc:c<(rf y).length):Gs i fy fk fv ρ= .nx (ρ.set i (jz h λz=>if z=y then (rf y).set c d else rf z)):=by
 unfold Gs;rw[e1,e2,e3,e4];simp only[jz,aeQ,z2b,aei hy,af7];rw[if_pos ⟨by omega,by omega,by omega⟩,Xa hy]
theorem Xb(e1:ρ[i]?=some (jZ h Lf))(e2:u ρ= .ok (.int (y:Int)))(hy:y<h):tM i u ρ= .ok (.lst (pl (Lf y))):=by
 unfold tM;rw[e1,e2];show bW (.lst _) (.int (y:Int))=_;exact FZ (by rw[z2b,aei hy];rfl)
theorem abn{L':List Nat}{fk:aA->R D}(e1:ρ[i]?=some (jZ h Lf))(e2:fk ρ= .ok (.int (y:Int)))(e3:fv ρ= .ok (.lst (pl L')))(hy:y<h):En i fk fv ρ= .nx (ρ.set i (jZ h λz=>if z=y then L' else Lf z)):=by
 unfold En;rw[e3,wH];show (match ρ[i]? with |some (some (.lst ds))=>_ |_=>_)=_;rw[e1];show fZ (zL (fk ρ)) ρ _=_;rw[e2,wH];show (if _ then _ else _)=_;rw[if_pos ⟨by omega,by rw[z1g,z2d];omega⟩,aeQ,Xa hy];unfold jZ;refine congrArg (λz=>So.nx (ρ.set i (some (Ent.lst z)))) (mR λz _=>?_);by_cases c:z=y
 ·rw[if_pos c];simp only[if_pos c]
 ·rw[if_neg c];simp only[if_neg c]
theorem Y8{fu:aA->R (Option Int)}{n:Nat}(e1:u ρ= .ok (.lst ds))(e2:fu ρ= .ok (some (n:Int)))(hn:n<=ds.length):gw u (λ_=> .ok none) fu ρ= .ok (.lst (ds.take n)):=by
 rw[gw,e1,R.bf,R.bf,e2,R.bf,Ir,RX hn]
theorem Ut{fl:aA->R (Option Int)}{n:Nat}(e1:u ρ= .ok (.lst ds))(e2:fl ρ= .ok (some (n:Int)))(hn:n<=ds.length):gw u fl (λ_=> .ok none) ρ= .ok (.lst (ds.drop n)):=by
 rw[gw,e1,R.bf,e2,R.bf,R.bf,Ir,Kp hn]
theorem acL{fx:aA->R D}{L:List Nat}(e1:u ρ= .ok (.lst (pl L)))(e2:fx ρ= .ok (.int (x:Int)))(hx:x<L.length)(hl:L.length<=1000):
  bin (gw u (λ_=> .ok none) (λρ=>(fx ρ).bind qy)) (gw u (λρ=>(bin fx (ci 1) cL ρ).bind qy) (λ_=> .ok none)) cL ρ= .ok (.lst (pl (L.eraseIdx x))):=by
 refine au (Y8 (n:=x) e1 (by rw[e2];rfl) (by rw[ou];omega)) (Ut (n:=x+1) e1 ?_ (by rw[ou];omega)) ?_
 ·show (bin fx (ci 1) cL ρ).bind qy=_;rw[au (x:= .int (x:Int)) (y:= .int 1) e2 rfl rfl];rfl
 ·rw[sH (by rw[afk,ahu,ou];omega),<-W3,af4]
theorem KC{α:Type}{p:α->List D}:∀{l:List α},(∀a∈l,(p a).all isAtom=true)->rowsOf (l.map λa=>D.lst (p a))=some (l.map p)
 |[],_=>rfl
 | a::l,e=>by
  rw[z1h,rowsOf,KC λb hb=>e b (by simp[hb]),rowOf,if_pos (e a (by simp))];rfl
theorem Y9{p q:IK}{k:Nat}{g:aA->R D}{d e:D}{ρ2:aA}(e1:u ρ= .ok d)(e2:p d i ρ=some ρ1)(e3:g ρ= .ok e)(e4:q e k ρ1=some ρ2):CQ p q i k u g ρ= .nx ρ2:=by
 unfold CQ;rw[e1];show (match p d i ρ with |none=>_ |some ρ1=>_)=_;rw[e2];show fZ (g ρ) ρ _=_;rw[e3];show (match q e k ρ1 with |none=>_ |some ρ1=>_)=_;rw[e4]
theorem acM{n:Nat}(hy:y<h)(hx:x<(Lf y).length)(hr:∀q∈Lf y,q<(rf y).length)(hl:(Lf y).length<=1000):
  Z9 [e0,e1,e2,(jZ h Lf),(jz h rf),e5,e6,(vA (.int (n:Int))),e8,(vA (.int (y:Int))),(vA (.int (x:Int)))]= .nx [e0,e1,e2,(jZ h λz=>if z=y then (Lf y).eraseIdx x else Lf z),(jz h λz=>if z=y then (rf y).set ((Lf y).getD x 0) (nI n) else rf z),e5,e6,(vA (.int (n:Int))),e8,(vA (.int (y:Int))),(vA (.int (x:Int)))]:=by
 have ec:(Lf y).getD x 0=(Lf y)[x]:=by rw[ae8,aem hx];rfl
 refine aK (Y7 (h:=h) (rf:=rf) (y:=y) (c:=(Lf y).getD x 0) (d:=nI n) rfl rfl (au (x:= .lst (pl (Lf y))) (y:= .int (x:Int)) (Xb (h:=h) (Lf:=Lf) (y:=y) rfl rfl hy) rfl (FZ (i:=x) (W2 (by rw[ec,aem hx])))) rfl hy (by rw[ec];exact hr _ (agX hx))) ?_;exact abn (h:=h) (Lf:=Lf) (y:=y) (L':=(Lf y).eraseIdx x) rfl rfl (acL (Xb (h:=h) (Lf:=Lf) (y:=y) rfl rfl hy) rfl hx hl) hy
theorem SX{n:Nat}{e0 e1 e2 e5 e6 e8:Option Ent}:∀{ys:List Nat} {Lf:Nat->List Nat} {rf:Nat->List D} {x7 x8:Option Ent},ys.Nodup->(∀y∈ys,y<h/\s y<(Lf y).length/\(∀q∈Lf y,q<(rf y).length)/\(Lf y).length<=1000)->
  ∃z7 z8,forL (cR (cT 2 (aW (aH 9) (aW (aH 10) nilG)))) Z9 (ys.map λ(y:Nat)=> .tup [.int (y:Int),.int ((s y:Nat):Int)]) [e0,e1,e2,(jZ h Lf),(jz h rf),e5,e6,(vA (.int (n:Int))),e8,x7,x8] =
   .nx [e0,e1,e2,(jZ h λz=>if z∈ys then (Lf z).eraseIdx (s z) else Lf z),(jz h λz=>if z∈ys then (rf z).set ((Lf z).getD (s z) 0) (nI n) else rf z),e5,e6,(vA (.int (n:Int))),e8,z7,z8]
 |[],Lf,rf,x7,x8,_,_=>⟨x7,x8,by simp only[afl,if_false];rfl⟩
 | y ::ys,Lf,rf,x7,x8,nd,hy=>by
  obtain⟨h1,h2,h3,h4⟩:=hy y (by simp);have ny:=(afq.mp nd).1;obtain⟨z7,z8,i⟩:=SX (e0:=e0) (e1:=e1) (e2:=e2) (e5:=e5) (e6:=e6) (e8:=e8) (n:=n) (ys:=ys) (Lf:=λz=>if z=y then (Lf y).eraseIdx (s y) else Lf z) (rf:=λz=>if z=y then (rf y).set ((Lf y).getD (s y) 0) (nI n) else rf z) (x7:=vA (.int (y:Int))) (x8:=vA (.int ((s y:Nat):Int))) (afq.mp nd).2 (λz hz=>by
   have hzy:¬z=y:=λe=>ny (e▸hz);simp only[if_neg hzy];exact hy z (by simp[hz]))
  refine⟨z7,z8,fG rfl (acM h1 h2 h3 h4) (i.trans ?_)⟩;have a1:(jZ h λz=>if z∈ys then (if z=y then (Lf y).eraseIdx (s y) else Lf z).eraseIdx (s z) else if z=y then (Lf y).eraseIdx (s y) else Lf z)=jZ h λz=>if z∈y::ys then (Lf z).eraseIdx (s z) else Lf z:=G3 λz _=>by
   by_cases c:z=y
   ·subst c;simp[ny]
   ·simp[c]
  have a2:(jz h λz=>if z∈ys then (if z=y then (rf y).set ((Lf y).getD (s y) 0) (nI n) else rf z).set ((if z=y then (Lf y).eraseIdx (s y) else Lf z).getD (s z) 0) (nI n) else if z=y then (rf y).set ((Lf y).getD (s y) 0) (nI n) else rf z)=jz h λz=>if z∈y::ys then (rf z).set ((Lf z).getD (s z) 0) (nI n) else rf z:=yx λz _=>by
   by_cases c:z=y
   ·subst c;simp[ny]
   ·simp[c]
  rw[a1,a2]
theorem acO{n:Nat}{x7 x8:Option Ent}(hy:∀y<h,s y<(Lf y).length/\(∀q∈Lf y,q<(rf y).length)/\(Lf y).length<=1000):
  ∃z7 z8,forL (cR (cT 2 (aW (aH 9) (aW (aH 10) nilG)))) Z9 ((ad6 h).map λ(y:Nat)=> .tup [.int (y:Int),.int ((s y:Nat):Int)]) [e0,e1,e2,(jZ h Lf),(jz h rf),e5,e6,(vA (.int (n:Int))),e8,x7,x8] =
   .nx [e0,e1,e2,(jZ h λz=>(Lf z).eraseIdx (s z)),(jz h λz=>(rf z).set ((Lf z).getD (s z) 0) (nI n)),e5,e6,(vA (.int (n:Int))),e8,z7,z8]:=by
 obtain⟨z7,z8,i⟩:=SX (s:=s) (e0:=e0) (e1:=e1) (e2:=e2) (e5:=e5) (e6:=e6) (e8:=e8) (n:=n) (ys:=ad6 h) (Lf:=Lf) (rf:=rf) (x7:=x7) (x8:=x8) ahv (λy h'=>⟨z2e h',hy y (z2e h')⟩);refine⟨z7,z8,i.trans ?_⟩;rw[G3 (q:=λz=>(Lf z).eraseIdx (s z)) λz hz=>if_pos (afE.mpr hz),yx (q:=λz=>(rf z).set ((Lf z).getD (s z) 0) (nI n)) λz hz=>if_pos (afE.mpr hz)]
end
section
variable{ns:List Int}{w h k:Nat}{f M:Nat->Nat->Int}{T:Nat->Nat->Nat->Int}{m:Str}{s:Nat->Nat}{ρ:aA}
def Bb:(Nat->Nat->Int)->List (Nat->Nat)->Nat->Nat->Int
 |f,[]=>f
 |f,s::S=>Bb (less s f) S
theorem Za{g:Nat->Int}{n:Nat}(hn:n<w):((ad6 w).map g).eraseIdx n=(ad6 (w - 1)).map λx=>if x<n then g x else g (x+1):=by
 refine agB (by rw[afC,if_pos (by simpa using hn)];simp) λi h1 h2=>?_;rw[List.getElem_eraseIdx];by_cases c:i<n
 ·simp[c]
 ·simp[c]
theorem S5{y:Nat}(hy:y<h):∀{S:List (Nat->Nat)} {w:Nat} {f:Nat->Nat->Int},nj h w S->era ((ad6 w).map (f y)) (col y S)=(ad6 (w - S.length)).map (Bb f S y)
 |[],w,f,_=>rfl
 | s::S,w,f,v=>by
  have hs:=v.1.lt y hy;show era (((ad6 w).map (f y)).eraseIdx (s y)) (col y S)=_;rw[Za hs,aef,show w - (S.length+1)=w - 1 - S.length by omega];exact S5 hy (f:=less s f) v.2
theorem O7:∀{k:Nat} {S:List (Nat->Nat)} {w:Nat},nj h w S->nj h w (S.take k)
 |0,S,w,_=>by rw[ai2];trivial
 |k+1,[],w,_=>trivial
 |k+1,s::S,w,v=>⟨v.1,O7 v.2⟩
theorem O8{k:Nat}:∀{xs:List Int} {l:List Nat},(xs.zip l).filterMap (λp=>if decide (k<=p.2)=true then some (D.int p.1) else none)=(j7 k xs l).map D.int
 |[],l=>by rw[List.zip_nil_left,j7];rfl;intro _ _ _ _ h;cases h
 |x::xs,[]=>rfl
 | x::xs,n::l=>by
  rw[ahe,j7];by_cases c:k<=n
  ·rw[agb (b:=D.int x) (by simp[c]),if_pos c,O8,z1h]
  ·rw[aga (by simp[c]),if_neg c,O8]
theorem acQ{xs:List Int}:xQ (xs.map D.int) (pl l)=(xs.zip l).map λp=>D.tup [.int p.1,.int ((p.2:Nat):Int)]:=by
 rw[xQ,pl,List.zip_map,aev];rfl
section
variable{S:List (Nat->Nat)}{n:Nat}
theorem Xc(o:Ok w h f)(hw:S.length=w)(v:nj h S.length S)(h2:n<=w){z:List (Option Ent)}:
  aD gj (ak (bA 2 [3] (λρ=>((ak (gv 0) (ak (gv 1) nA)) ρ).bind zip2) (cR (cT 2 (aW (aH 0) (aW (aH 1) nilG)))) tT (aD gj (ak (bA 2 [2] (λρ=>((ak (gv 0) (ak (gv 1) nA)) ρ).bind zip2) (cR (cT 2 (aW (aH 0) (aW (aH 1) nilG)))) (cg (bin (gv 1) (gv 2) LR)) (gv 0)) nA))) nA) (vA (bx w h f)::vA (tabS h S)::e2::vA (.int ((w - n:Nat):Int))::z)= .ok (bx n h (Bb f (S.take (w - n)))):=by
 have ow:=o.w2;refine aO (ao (bC (c:=λy=> .tup [row w (f y),.tup (pl (bY (col y S)))]) (h:=λy=>row n (Bb f (S.take (w - n)) y)) (l:=ad6 h) (wX (aB rfl (ao rfl)) rfl rfl) (by rw[z2d];have:=o.h2;omega) λy hy=>?_)) rfl;have hy:y<h:=z2e hy;have pv:=tZ hy v;have hl:(bY (col y S)).length=w:=by rw[ig pv,fM,hw]
 have ek:(j7 (w - n) ((ad6 w).map (f y)) (bY (col y S))).map D.int=(ad6 n).map λx=>D.int (Bb f (S.take (w - n)) y x):=by
  rw[Sd pv (by rw[z1g,z2d,fM,hw]) (by rw[fM,hw];omega),show (col y S).take (w - n)=col y (S.take (w - n)) by rw[col,col,afZ],S5 hy (O7 (by rw[<-hw];exact v)),afk,hw,show w - min (w - n) w=n by omega,aev];rfl
 refine bK rfl (aO (ao (x:= .lst ((ad6 n).map λx=>D.int (Bb f (S.take (w - n)) y x))) ?_) rfl);rw[<-ek,<-O8];refine w6 (l:=((ad6 w).map (f y)).zip (bY (col y S))) (c:=λp=>D.tup [.int p.1,.int ((p.2:Nat):Int)]) ?_ (by rw[List.length_zip,z1g,z2d];omega) λp _=>?_
 ·show (R.ok (xQ _ _))=_;rw[<-acQ,aev];rfl
 ·refine sI rfl (aN (au rfl rfl ?_)) rfl;show R.ok (D.bl (decide (((w - n:Nat):Int)<=((p.2:Nat):Int))))=_;rw[decide_eq_decide.mpr (by omega:((w - n:Nat):Int)<=((p.2:Nat):Int)↔w - n<=p.2)]
end
theorem O9:∀{L:List rK} {f:Nat->Nat->Int},Bb f (eF L)=Ay f L
 |[],f=>rfl
 |p::L,f=>O9 (L:=L)
theorem d9{n:Nat}(e1:fa ρ= .ok ds)(e3:F ds=r)(hl:ds.length=n:=by rfl):gY F n 0 [] fa nA ρ=r:=
 W9 (ds:=ds) (zs:=[]) e1 rfl (by show F (ds++[])=r;rw[aeK];exact e3) (by show (ds++[]).length=n;rw[aeK];exact hl)
section
variable{S:List (Nat->Nat)}{n:Nat}(o:Ok w h f)(hw:S.length=w)(v:nj h S.length S)
include o hw v
theorem Qv(h1:1<=n)(h2:n<=w):lM [bx w h f,tabS h S,.int (n:Int)]= .ok (bx n h (Bb f (S.take (w - n)))):=by
 refine bR (aK (pq (d9 (aB rfl (ao rfl)) (lN o hw v))) (aK (pq (d9 (aB rfl (aB (x:= .int ((1:Nat):Int)) rfl (ao (len0 o rfl)))) (Ow h1 h2))) (aK (aZ (d:= .int ((w - n:Nat):Int)) (au (len0 o rfl) rfl ?_) rfl) (bw (Xc o hw v h2)))));show R.ok (D.int ((w:Int) - (n:Int)))=_;rw[show (w:Int) - (n:Int)=((w - n:Nat):Int) by omega]
theorem Qw:nR [bx w h f,tabS h S]= .ok (.lst (S.map (sm h))):=by
 have ow:=o.w2;exact bR (aK (pq (d9 (aB rfl (ao rfl)) (lN o hw v))) (bw (aX (ao rfl) (Dy o.h1 o.h2 (by omega) v))))
end
theorem abo{f g h:aA->R D}{k l:D->D->R D}{x y:D}(e1:f ρ= .ok x)(e2:g ρ= .ok y)(e3:k x y= .ok (.bl false)):zE f g h k l ρ= .ok (.bl false):=by
 rw[zE,e1,R.bf,e2,R.bf,e3,R.bf]
theorem aap{i:Int}(h:j<i):wD (.int i) (.int j)= .ok (.bl false):=by rw[Wn,decide_eq_false (by omega)]
def Fb(a n:Nat)(d:D):Prop:=jw [d]= .ok (.bl false)\/∃i:Int,d= .int i/\(i<(a:Int)\/(n:Int)<i)
theorem KD{n:Nat}{d:D}(ha:a<=20)(hn:n<=20)(z:Fb a n d):lu [d,.int (a:Int),.int (n:Int)]= .err "NoWidth" :=by
 rcases z with z |⟨i,rfl,z⟩
 ·exact qz (cX (Df (cP (b:=false) (aN (aX (ao rfl) z)))) (Z7 (Z6 rfl rfl (by omega) (by omega))))
 ·refine qz (cX (f9 (cP (b:=true) (aN (aX (ao rfl) iY))) (cP (b:=false) (aN ?_))) (Z7 (Z6 rfl rfl (by omega) (by omega))));by_cases c:i<(a:Int)
  ·exact abo rfl rfl (aap c)
  ·exact wK rfl rfl (nW (by omega)) rfl (aap (by omega))
theorem acR{n:Nat}(hn:n<=1000):iH (.int 2) (.int (n:Int))= .ok (.int ((2*n:Nat):Int)):=by
 show gO (.int 2) (.int (n:Int))=_;rw[mq (.inl ⟨by omega,by omega⟩),show (2:Int)*(n:Int)=((2*n:Nat):Int) by omega]
theorem minD_eq{b:Nat}:minD [.int (a:Int),.int (b:Int)]= .ok (.int ((min a b:Nat):Int)):=by
 show R.ok (D.int (if (b:Int)<(a:Int) then _ else _))=_;congr 2;split <;> omega
section
variable{S:List (Nat->Nat)}{d:D}(o:Ok w h f)(hw:S.length=w)(v:nj h S.length S)
include o hw v
theorem K6(z:Fb 1 w d):lM [bx w h f,tabS h S,d]= .err "NoWidth" :=
 qz (aK (pq (d9 (aB rfl (ao rfl)) (lN o hw v))) (zV (jV (d9 (aB rfl (aB (x:= .int ((1:Nat):Int)) rfl (ao (len0 o rfl)))) (KD (by omega) o.w2 z)))))
theorem Pb(z:Fb w (min (2*w) 20) d):uP [bx w h f,tabS h S,d]= .err "NoWidth" :=by
 have ow:=o.w2;exact qz (aK (pq (d9 (aB rfl (ao rfl)) (lN o hw v))) (aK (aZ (len0 o rfl) rfl) (zV (jV (d9 (aB rfl (aB rfl (ao (aO (aB (au rfl rfl (acR (by omega))) (ao (x:= .int ((20:Nat):Int)) rfl)) minD_eq)))) (KD ow (by omega) z))))))
end
abbrev DN(w h:Nat)(f:Nat->Nat->Int)(d:D):Prop:=gM [d,bx w h f]= .ok (.bl false)
theorem oA{d:D}(z:DN w h f d):iK [d,bx w h f]= .err "NoTable" :=qz (ρ1:=[vA d,vA (bx w h f)]) (cX (cP (b:=false) (aN (aX (aB rfl (ao rfl)) z))) rfl)
section
variable{d x:D}(z:DN w h f d)
include z
theorem K7:nR [bx w h f,d]= .err "NoTable" :=qz (zV (jV (d9 (aB rfl (ao rfl)) (oA z))))
theorem K8:lM [bx w h f,d,x]= .err "NoTable" :=qz (zV (jV (d9 (aB rfl (ao rfl)) (oA z))))
theorem Pg:uP [bx w h f,d,x]= .err "NoTable" :=qz (zV (jV (d9 (aB rfl (ao rfl)) (oA z))))
end
abbrev tf(a b:Bool):D:= .lst [.bl a,.bl b]
theorem abp:retS (dM (ak (pX gZ 4 "NoTable") (ak (pX gZ 4 "NoWidth") nA))) [e0,e1,e2,e3,some (.obj (.exc "NoTable"))]= .rt (tf true false):=
 bw (dG (aB (xR (c:= "NoTable") rfl (by decide)) (ao (xR (c:= "NoTable") rfl (by decide)))))
theorem S6:retS (dM (ak (pX gZ 4 "NoTable") (ak (pX gZ 4 "NoWidth") nA))) [e0,e1,e2,e3,some (.obj (.exc "NoWidth"))]= .rt (tf false true):=
 bw (dG (aB (xR (c:= "NoWidth") rfl (by decide)) (ao (xR (c:= "NoWidth") rfl (by decide)))))
theorem acS{d x:D}{k:Int}(z:DN w h f d):fQ [.int k,bx w h f,d,x]= .ok (tf true false):=by
 refine jk (gk (M6 (c:= "NoTable") (ρ1:=[vA (.int k),vA (bx w h f),vA d,vA x,none]) ?_ (by decide) abp));by_cases c0:k=0
 ·subst c0;exact cX (aN (au rfl rfl rfl)) (jV (d9 (aB rfl (ao rfl)) (K7 z)))
 ·refine bU (aN (au rfl rfl (by rw[nZ,decide_eq_false c0]))) ?_;by_cases c1:k=1
  ·subst c1;exact cX (aN (au rfl rfl rfl)) (jV (d9 (aB rfl (aB rfl (ao rfl))) (K8 z)))
  ·exact bU (aN (au rfl rfl (by rw[nZ,decide_eq_false c1]))) (jV (d9 (aB rfl (aB rfl (ao rfl))) (Pg z)))
theorem S7{S:List (Nat->Nat)}{x:D}(o:Ok w h f)(hw:S.length=w)(v:nj h S.length S)(z:Fb 1 w x):fQ [.int 1,bx w h f,tabS h S,x]= .ok (tf false true):=
 jk (gk (M6 (c:= "NoWidth") (ρ1:=[vA (.int 1),vA (bx w h f),vA (tabS h S),vA x,none]) (bU (aN (au rfl rfl rfl)) (cX (aN (au rfl rfl rfl)) (jV (d9 (aB rfl (aB rfl (ao rfl))) (K6 o hw v z))))) (by decide) S6))
theorem S8{S:List (Nat->Nat)}{x:D}(o:Ok w h f)(hw:S.length=w)(v:nj h S.length S)(z:Fb w (min (2*w) 20) x):fQ [.int 2,bx w h f,tabS h S,x]= .ok (tf false true):=
 jk (gk (M6 (c:= "NoWidth") (ρ1:=[vA (.int 2),vA (bx w h f),vA (tabS h S),vA x,none]) (bU (aN (au rfl rfl rfl)) (bU (aN (au rfl rfl rfl)) (jV (d9 (aB rfl (aB rfl (ao rfl))) (Pb o hw v z))))) (by decide) S6))
theorem Ph{α:Type}{c:α->Bool}:∀{l:List α},boolsOf (l.map λa=>D.bl (c a))=some (l.map c)
 |[]=>rfl
 | a::l=>by
  show (boolsOf (l.map λa=>D.bl (c a))).map (c a:: ·)=_;rw[Ph];rfl
theorem LQ{c:α->Bool}{l:List α}:nG [.lst (l.map λa=> .bl (c a))]= .ok (.bl (l.all c)):=by
 rw[nG,Ph];show R.ok (D.bl ((l.map c).all id))=_;rw[List.all_map];rfl
theorem Xd{n:Nat}(h1:1<=n):(ad6 n).all (λ_=>false)=false:=aiA.mpr ⟨0,afE.mpr h1,by decide⟩
theorem Jm{d:D}(o:Ok w h f)(hd:eO (jh d)=false):DN w h f d:=
 bR (aK (aZ (aX (ao rfl) (size_eq o)) rfl) (gk (cX (Df (cP (b:=false) (aN (by show R.ok (D.bl (eO (jh d)))=_;rw[hd])))) (bw rfl))))
theorem Xe(o:Ok w h f)(hl:ds.length≠h):DN w h f (.tup ds):=
 bR (aK (aZ (aX (ao rfl) (size_eq o)) rfl) (gk (cX (f9 (cP (b:=true) (aN rfl)) (Df (aN (au (aO (ao rfl) rfl) rfl (aag.trans (by rw[decide_eq_false (by omega)];rfl)))))) (bw rfl))))
theorem xq{c:Nat->D}(o:Ok w h f)(hc:∀y<h,fH [c y,.int (w:Int)]= .ok (.bl false)):DN w h f (.tup ((ad6 h).map c)):=by
 refine bR (aK (aZ (aX (ao rfl) (size_eq o)) rfl) (gk (cX (f9 (cP (b:=true) (aN rfl)) (f9 (aN (au (aO (ao rfl) rfl) rfl (sE (by rw[z1g,z2d])))) (cP (b:=false) (aN (aO (ao (bC (c:=c) (h:=λ_=> .bl false) (l:=ad6 h) (cZ rfl) (by rw[z2d];have:=o.h2;omega) λy hy=>?_)) ?_))))) (bw rfl))))
 ·exact bK rfl (aX (aB rfl (ao rfl)) (hc y (z2e hy)))
 ·rw[LQ,Xd o.h1]
theorem Zb{d:D}(hd:eO (jh d)=false):fH [d,.int (w:Int)]= .ok (.bl false):=
 bR (gk (cX (Df (cP (b:=false) (aN (by show R.ok (D.bl (eO (jh d)))=_;rw[hd])))) (bw rfl)))
theorem abq(w1:1<=w)(w20:w<=20):fH [.tup ((ad6 w).map λ_=> .non),.int (w:Int)]= .ok (.bl false):=by
 refine bR (gk (cX (f9 (cP (b:=true) (aN rfl)) (cP (b:=false) (aN (aO (ao (bC (c:=λ_=> .non) (h:=λ_=> .bl false) (l:=ad6 w) (cZ rfl) (by rw[z2d];omega) λy _=>bK rfl (aX (ao rfl) rfl))) ?_)))) (bw rfl)));rw[LQ,Xd w1]
theorem S9:∀{a b:List Nat},mQ (pl a) (pl b)=decide (a=b)
 |[],[]=>rfl
 |[],b::l=>rfl
 |a::l,[]=>rfl
 | a ::l,b::r=>by
  show (dF (.int (a:Int)) (.int (b:Int)) && mQ (pl l) (pl r))=_;rw[S9];by_cases c:a=b
  ·subst c;have:dF (.int (a:Int)) (.int (a:Int))=true:=by simp[jF,jG,jH,jJ,jK,gC,eV]
   rw[this,Bool.true_and];exact decide_eq_decide.mpr (by simp)
  ·have:dF (.int (a:Int)) (.int (b:Int))=false:=by
    show ((a:Int) ==(b:Int))=false;exact beq_eq_false_iff_ne.mpr (by omega)
   rw[this,ahg,decide_eq_false (by simp[c])]
theorem acT{a b:List Nat}:kO (.lst (pl a)) (.lst (pl b))= .ok (.bl (decide (a=b))):=by
 rw[kO,if_pos (by rw[dep];have:=Ov (l:=a);omega)];show R.ok (D.bl (mQ (pl a) (pl b)))=_;rw[S9]
theorem Zc{r:List Nat}(hp:l.Perm r)(hr:r.Pairwise (· <= ·))(hl:l.length<=60)(w20:w<=20):fH [.tup (pl l),.int (w:Int)]= .ok (.bl (decide (r=ad6 w))):=by
 refine bR (aK (bU (f9 (cP (b:=true) (aN rfl)) (cP (aN (aO (ao (bC (c:=λ(a:Nat)=> .int (a:Int)) (h:=λ_=> .bl true) (l:=l) (cZ rfl) (by omega) λa _=>bK rfl (aX (ao rfl) iY))) ji)))) rfl) (bw (au (x:= .lst (pl r)) (aO (ao rfl) ?_) (aO (ao rfl) (yw (by omega))) acT)));show tR [.tup (pl l)]=_;rw[tR,Kv];show (if _ then _ else _)=_;rw[if_pos (by rw[z1g];omega),<-Em (a:=r.map λ(a:Nat)=>(a:Int)) (hp.symm.map _) (ahp.mpr (hr.imp λh=>by omega)),aev];rfl
theorem Jo{n:Nat}(hn:n<=60)(w20:w<=20)(hne:aeb n a≠ad6 w):fH [.tup (pl (aeb n a)),.int (w:Int)]= .ok (.bl false):=by
 rw[Zc (.refl _) (List.pairwise_replicate.mpr (.inr (z0g _))) (by rw[aeG];exact hn) w20,decide_eq_false hne]
theorem jA{d:D}{n:Nat}(h1:1<=n)(qD:n<=1000):iH (.tup [d]) (.int (n:Int))= .ok (.tup (aeb n d)):=by
 rw[iH,if_pos ⟨by simp,by omega,by omega,by rw[aeQ];simp;omega⟩,aeQ,agE]
theorem pK{n:Nat}{d:α}:aeb n d=(ad6 n).map λ_=>d:=by
 refine agB (by simp) λi h1 h2=>?_;simp
theorem Fd:∀{n:Nat},Pv (aeb n 0)/\bY (aeb n 0)=ad6 n
 |0=>⟨trivial,rfl⟩
 | n+1=>by
  obtain⟨a,b⟩:=Fd (n:=n);refine⟨⟨afN _,a⟩,?_⟩;rw[afm,bY,b,ai2,ahl,aeN];rfl
def lQ(w:Nat):Nat->List (Nat->Nat)
 |0=>[]
 |j+1=>(λy=>if y=0 then 0 else j)::lQ w j
theorem xr:∀{j:Nat},(lQ w j).length=j
 |0=>rfl
 |j+1=>by rw[lQ,aef,xr]
theorem Jp:∀{j:Nat},col 0 (lQ w j)=aeb j 0
 |0=>rfl
 |j+1=>by rw[afm,<-Jp];rfl
theorem Pj{y:Nat}(hy:y≠0):∀{j:Nat},Pv (col y (lQ w j))/\bY (col y (lQ w j))=(ad6 j).reverse
 |0=>⟨trivial,rfl⟩
 | j+1=>by
  obtain⟨a,b⟩:=Pj hy (j:=j);have e:col y (lQ w (j+1))=j::col y (lQ w j):=by show (if y=0 then 0 else j)::_=_;rw[if_neg hy];rfl
  refine⟨by rw[e];exact⟨by rw[fM,xr];exact z0g _,a⟩,?_⟩;rw[e,bY,b,ahr (by simp),List.drop_of_length_le (by simp),aeN,aiw,List.map_reverse]
theorem aaq:Pv (col y (lQ w w)):=by
 by_cases c:y=0
 ·subst c;rw[Jp];exact Fd.1
 ·exact (Pj c).1
theorem Xf:∀{j n:Nat},n<j->(lQ w j)[n]?=some λy=>if y=0 then 0 else j - 1 - n
 |j+1,0,_=>rfl
 | j+1,n+1,hn=>by
  show (lQ w j)[n]?=_;rw[Xf (by omega),show j+1 - 1 - (n+1)=j - 1 - n by omega]
theorem acU(h1:1<=h):tabS h (lQ w w)= .tup ([.tup (pl (ad6 w))]++aeb (h - 1) (.tup (pl (ad6 w)).reverse)):=by
 obtain⟨n,rfl⟩:∃n,h=n+1:=⟨h - 1,by omega⟩;unfold tabS;rw[aeN,z1h,Jp,Fd.2,aev,aif,pK];refine congrArg D.tup (congrArg (D.tup (pl (ad6 w)):: ·) (mR λy _=>?_));show D.tup (pl (bY (col (y+1) (lQ w w))))=_;rw[(Pj (Nat.succ_ne_zero y)).2,pl,pl,List.map_reverse]
theorem Uu(lt:∀y<h,s y<w)(qD:h<=20):xZ [sm h s,.int (w:Int),.int (h:Int)]= .ok (.bl ((ad6 (h - 1)).all λy=>decide (s (y+1)<=s y+1/\s y<=s (y+1)+1))):=by
 refine bR (aK (bU (f9 (cP (aN (b:=true) rfl)) (aN (au (aO (ao rfl) rfl) rfl (sE ?_)))) rfl)
  (aK (bU (cP (aN (aO (ao (bC (c:=λy=> .int ((s y:Nat):Int)) (h:=λ_=> .bl true) (l:=ad6 h) (cZ rfl) (by rw[z2d];omega) λy hy=>?_)) ji))) rfl)
  (bw (aO (ao (bC (c:=λy=> .int ((y+1:Nat):Int)) (h:=λy=> .bl (decide (s (y+1)<=s y+1/\s y<=s (y+1)+1))) (l:=ad6 (h - 1)) (RW (aB rfl (ao rfl)) (by omega)) (by rw[z2d];omega) λy hy=>?_)) LQ))))
 ·simp
 ·have:=lt y (z2e hy);exact bK rfl (zO (aX (ao rfl) iY) (wK rfl rfl (nW (by omega)) rfl (Ul (by omega))))
 ·have hy:y<h - 1:=z2e hy;refine bK rfl (au (aO (ao (au (x:= .int ((s (y+1):Nat):Int)) (y:= .int ((s y:Nat):Int)) (au rfl rfl (gK (i:=y+1) ?_)) (au rfl (au (x:= .int ((y+1:Nat):Int)) (y:= .int 1) rfl rfl ?_) (gK (i:=y) ?_)) rfl)) rfl) rfl (Wn.trans ?_))
  ·rw[z2b,aei (by omega)];rfl
  ·show R.ok (D.int (((y+1:Nat):Int) - 1))=_;rw[show ((y+1:Nat):Int) - 1=(y:Int) by omega]
  ·rw[z2b,aei (by omega)];rfl
  ·congr 2;refine decide_eq_decide.mpr ?_;constructor
   ·intro q;split at q <;> omega
   ·intro q;split <;> omega
theorem Zd{S:List (Nat->Nat)}(h1:1<=h)(qD:h<=20)(w20:S.length<=20)(pv:∀y<h,Pv (col y S)):nQ [tabS h S]= .ok (.lst ((ad6 S.length).map λn=>sm h (S.getD n λ_=>0))):=by
 refine bR (bw (bC (c:=λ(n:Nat)=> .int (n:Int)) (l:=ad6 S.length) (gJ (ao ?_) (by omega)) (by rw[z2d];omega) λn hn=>?_))
 ·refine aO (ao (au (x:=tabS h S) rfl rfl (gK (i:=0) (d:= .tup (pl (bY (col 0 S)))) ?_))) ?_
  ·rw[z2b,aei h1];rfl
  ·show R.ok (D.int ((pl (bY (col 0 S))).length:Int))=_;rw[ou,ig (pv 0 h1),fM]
 have hn:n<S.length:=z2e hn;refine bK rfl (aO (ao (bC (c:=λy=> .tup (pl (bY (col y S)))) (h:=λy=> .int ((S.getD n (λ_=>0) y:Nat):Int)) (l:=ad6 h) (cZ rfl) (by rw[z2d];omega) λy hy=>?_)) rfl);have hy:y<h:=z2e hy;have ep:oO (bY (col y S)) n=S.getD n (λ_=>0) y:=Jh (pv y hy) (by rw[col,z2b,aem hn,ae8,aem hn];rfl);rw[<-ep];exact bK rfl (aX (aB rfl (ao rfl)) (zA (SJ (pv y hy) (by rw[fM];exact hn)) (by rw[ig (pv y hy),fM];omega)))
theorem Ze(o:Ok w h f)(w3:2<w)(h2:1<h):DN w h f (tabS h (lQ w w)):=by
 have ow:=o.w2;have oh:=o.h2;have es:=Zd (S:=lQ w w) o.h1 oh (by rw[xr];exact ow) (λy _=>aaq);rw[xr] at es;have eb:(ad6 w).all (λn=>(ad6 (h - 1)).all λy=>decide ((if y+1=0 then 0 else w - 1 - n)<=(if y=0 then 0 else w - 1 - n)+1/\(if y=0 then 0 else w - 1 - n)<=(if y+1=0 then 0 else w - 1 - n)+1))=false:=by
  refine aiA.mpr ⟨0,afE.mpr (by omega),?_⟩;rw[Bool.not_eq_true];refine aiA.mpr ⟨0,afE.mpr (by omega),?_⟩;simp;omega
 show gM [tabS h (lQ w w),bx w h f]= .ok (.bl false);rw[<-eb];refine bR (aK (aZ (aX (ao rfl) (size_eq o)) rfl) (aK (bU (f9 (cP (b:=true) (aN rfl)) (f9 (aN (au (aO (ao rfl) rfl) rfl (sE ?_))) (cP (aN (aO (ao (bC (c:=λy=> .tup (pl (bY (col y (lQ w w))))) (h:=λ_=> .bl true) (l:=ad6 h) (cZ rfl) (by rw[z2d];omega) λy hy=>?_)) ji))))) rfl)
  (bw (aO (ao (bC (c:=λ(n:Nat)=> .tup [.int (n:Int),sm h ((lQ w w).getD n λ_=>0)]) (h:=λn=> .bl ((ad6 (h - 1)).all λy=>decide ((if y+1=0 then 0 else w - 1 - n)<=(if y=0 then 0 else w - 1 - n)+1/\(if y=0 then 0 else w - 1 - n)<=(if y+1=0 then 0 else w - 1 - n)+1))) (l:=ad6 w) (m9 (ao (aX (ao rfl) es)) rfl) (by rw[z2d];omega) λn hn=>?_)) LQ))))
 ·rw[z1g,z2d]
 ·exact bK rfl (aX (aB rfl (ao rfl)) (uR aaq (by rw[fM,xr]) ow))
 ·have hn:n<w:=z2e hn;have eg:(lQ w w).getD n (λ_=>0)=λy=>if y=0 then 0 else w - 1 - n:=by rw[ae8,Xf hn];rfl
  rw[eg];refine bK rfl (aX (aB rfl (aB (x:= .int ((w - n:Nat):Int)) (au rfl rfl ?_) (ao rfl))) (Uu (s:=λy=>if y=0 then 0 else w - 1 - n) (λy hy=>by show (if y=0 then 0 else w - 1 - n)<w - n;split <;> omega) oh));show R.ok (D.int ((w:Int) - (n:Int)))=_;rw[show (w:Int) - (n:Int)=((w - n:Nat):Int) by omega]
theorem Zf(e:u ρ= .ok (.lst ((ad6 h).map λy=> .lst (rf y))))(ha:∀y<h,(rf y).all isAtom=true)(hR:(ρ.set i none).all Iz=true):Gu u i ρ= .nx (ρ.set i (jz h rf)):=by
 unfold Gu;rw[e];show (match rowsOf _ with |some rows=>_ |none=>_)=_;rw[KC λa h'=>ha a (z2e h')];show (if _ then _ else _)=_;rw[if_pos hR];rfl
theorem Jq{d:D}(e:ρ[i]?=some (some (.lst (ds++[d])))):tM i (jt (ci 1)) ρ= .ok d:=by
 unfold tM;rw[e];show bW (.lst (ds++[d])) (.int (-1))=_;have:atI (ds++[d]) (-1)=some d:=by
  unfold atI ixN;rw[if_neg (by omega),if_pos (by simp;omega)];show (ds++[d])[_]?=_;have e:(-1+((ds++[d]).length:Int)).toNat=ds.length:=by simp;omega
  rw[e];simp
 exact qw this
theorem acV{n:Nat}{qs:List D}{x8 x9 x10:Option Ent}{W:Nat}(hm:m= "worth"\/m= "joins")(o:Ok w h f)(w4:w<=4)(h4:h<=4)(q:ni w h (λ_ _=>0) s)(e:cI (topC w h (tbl m w h f) λ_ _=>0)=[wS (tbl m w h f) (λ_ _=>0) h s])(hW:n+w=W)(hL:∀y<h,(Lf y).length=w/\∀q∈Lf y,q<(rf y).length)(ha:acc.length<=100)(hq:qs.length<=100):
  ∃z9 jq,ltB [e0,vA (.str m),vA (.int (W:Int)),jZ h Lf,jz h rf,some (.lst acc),some (.lst (qs++[bx w h f])),vA (.int (n:Int)),x8,x9,x10] =
   .nx [e0,vA (.str m),vA (.int (W:Int)),jZ h λz=>(Lf z).eraseIdx (s z),jz h λz=>(rf z).set ((Lf z).getD (s z) 0) (nI n),some (.lst (acc++[sm h s])),some (.lst ((qs++[bx w h f])++if w=1 then[] else[bx (w - 1) h (less s f)])),vA (.int (n:Int)),vA (sm h s),z9,jq]:=by
 have eb:=Y6 (M:=λ_ _=>0) hm o w4 h4;rw[e,acK] at eb;have ow:=o.w1;obtain⟨z9,jq,i⟩:=acO (s:=s) (n:=n) (Lf:=Lf) (rf:=rf) (x7:=x9) (x8:=x10) (e0:=e0) (e1:=vA (.str m)) (e2:=vA (.int (W:Int))) (e5:=some (.lst (acc++[sm h s]))) (e6:=some (.lst (qs++[bx w h f]))) (e8:=vA (sm h s)) (λy hy=>⟨by rw[(hL y hy).1];exact q.sm.lt y hy,(hL y hy).2,by rw[(hL y hy).1];omega⟩);refine⟨z9,jq,aK (aZ (aX (aB (Jq rfl) (aB rfl (ao (aX (ao (Jq rfl)) (free_eq o))))) eb) rfl) (aK (Ax (ds:=acc) rfl rfl (by omega)) (aK (jM (m9 (x:=sm h s) (p:=λy=> .int ((s y:Nat):Int)) (ao rfl) rfl) i) ?_))⟩;by_cases c:w=1
 ·rw[if_pos c,aeK];refine bU (aN (au rfl (au (x:= .int (W:Int)) (y:= .int 1) rfl rfl rfl) ?_)) rfl;show R.ok (D.bl (decide ((n:Int)<(W:Int) - 1)))=_;rw[decide_eq_false (by omega)]
 ·rw[if_neg c];refine cX (aN (au rfl (au (x:= .int (W:Int)) (y:= .int 1) rfl rfl rfl) ?_)) (Ax (ds:=qs++[bx w h f]) (aX (aB (Jq rfl) (ao rfl)) (W8 q.sm o.h2 o.w2)) rfl (by simp;omega));show R.ok (D.bl (decide ((n:Int)<(W:Int) - 1)))=_;rw[decide_eq_true (by omega)]
theorem Tc{e0:Option Ent}{W:Nat}(hm:m= "worth"\/m= "joins")(h1:1<=h)(h4:h<=4):∀{w n:Nat} {f:Nat->Nat->Int} {L:List rK} {Lf:Nat->List Nat} {rf:Nat->List D} {acc qs:List D} {x7 x8 x9 x10:Option Ent},Go m h (w+1) (w+1) f (λ_ _=>0) (some L)->Ok (w+1) h f->w+1<=4->n+(w+1)=W->(∀y<h,(Lf y).length=w+1/\∀q∈Lf y,q<(rf y).length)->acc.length+w<=50->qs.length+w<=50->
  ∃zP z7 z8 z9 jq,forL (aH 7) ltB ((af5 n (w+1)).map λ(k:Nat)=> .int (k:Int)) [e0,vA (.str m),vA (.int (W:Int)),jZ h Lf,jz h rf,some (.lst acc),some (.lst (qs++[bx (w+1) h f])),x7,x8,x9,x10] =
   .nx [e0,vA (.str m),vA (.int (W:Int)),zP,jz h λy=>imp nI (col y (eF L)) n (Lf y) (rf y),some (.lst (acc++(eF L).map (sm h))),some (.lst (qs++(ad6 (w+1)).map λk=>bx (w+1 - k) h (Ay f (L.take k)))),z7,z8,z9,jq]
 | w, n, f,L,Lf,rf,acc,qs,x7,x8,x9,x10,g,o,w4,hW,hL,ha,hq=>by
  rcases g with⟨_,_,e⟩ |⟨s,r,q,e1,g,e⟩
  ·cases e
  ·cases r with
   |none=>cases e
   | some L'=>
    cases aeg e;obtain⟨z9,jq,i⟩:=acV (n:=n) (Lf:=Lf) (rf:=rf) (acc:=acc) (qs:=qs) (e0:=e0) (x8:=x8) (x9:=x9) (x10:=x10) hm o w4 h4 q e1 hW hL (by omega) (by omega);rw[WT] at g;rw[af0,z1h];cases w with
    | zero=>
     have g:some L'=some []:=g;cases aeg g;rw[if_pos (by omega),aeK] at i;exact⟨_,_,_,_,_,fG rfl i rfl⟩
    | succ w=>
     rw[if_neg (by omega)] at i;obtain⟨zP,y7,y8,y9,y10,j⟩:=Tc (e0:=e0) (W:=W) hm h1 h4 (w:=w) (n:=n+1) (f:=less s f) (L:=L') (Lf:=λz=>(Lf z).eraseIdx (s z)) (rf:=λz=>(rf z).set ((Lf z).getD (s z) 0) (nI n)) (acc:=acc++[sm h s]) (qs:=qs++[bx (w+1+1) h f]) (x7:=vA (.int (n:Int))) (x8:=vA (sm h s)) (x9:=z9) (x10:=jq) g (o.less (by omega)) (by omega) (by omega) (λy hy=>by
      have a:=hL y hy;have b:=q.sm.lt y hy;exact⟨by rw[afC,if_pos (by omega)];omega,λz hz=>by rw[aeL];exact a.2 z (agD hz)⟩) (by rw[z1d,afI];omega) (by rw[z1d,afI];omega)
     refine⟨zP,y7,y8,y9,y10,fG rfl i (j.trans ?_)⟩;have a1:(acc++[sm h s])++(eF L').map (sm h)=acc++(eF ((s,λy=>f y (s y))::L')).map (sm h):=by rw[afb];rfl
     have a2:(qs++[bx (w+1+1) h f])++((ad6 (w+1)).map λk=>bx (w+1 - k) h (Ay (less s f) (L'.take k)))=qs++(ad6 (w+1+1)).map λk=>bx (w+1+1 - k) h (Ay f ((((s,λy=>f y (s y)):rK)::L').take k)):=by
      rw[afb,aeN (n:=w+1),z1h,aev];refine congrArg (qs++ ·) (congrArg (bx (w+1+1) h f:: ·) (mR λk _=>?_));show _=bx (w+1+1 - (k+1)) h (Ay (less s f) (L'.take k));rw[show w+1+1 - (k+1)=w+1 - k by omega]
     rw[a1,a2];rfl
termination_by w=>w
def ltD(w h:Nat)(f:Nat->Nat->Int)(L:List rK):D:= .tup [tabS h (eF L),.lst ((eF L).map (sm h)),.lst ((ad6 w).map λk=>bx (w - k) h (Ay f (L.take k)))]
theorem table_eq(hm:m= "worth"\/m= "joins")(o:Ok w h f)(w4:w<=4)(h4:h<=4)(g:Go m h w w f (λ_ _=>0) (some L)):nU [bx w h f,.str m]= .ok (ltD w h f L):=by
 have Pk:=o.w1;have lL:=GX g;have hS:(eF L).length=w:=by rw[eF,z1g,lL]
 have vL:nj h (eF L).length (eF L):=by rw[hS];exact GZ g
 obtain⟨v,rfl⟩:∃v,w=v+1:=⟨w - 1,by omega⟩;obtain⟨zP,z7,z8,z9,jq,e⟩:=Tc (W:=v+1) (e0:=vA (bx (v+1) h f)) hm o.h1 h4 (n:=0) (Lf:=λ_=>ad6 (v+1)) (rf:=λ_=>(ad6 (v+1)).map λ_=> .non) (acc:=[]) (qs:=[]) (x7:=none) (x8:=none) (x9:=none) (x10:=none) g o w4 (by omega) (λy hy=>⟨z2d,λq hq=>by rw[z1g,z2d];exact z2e hq⟩) (by rw[afQ];omega) (by rw[afQ];omega);rw[<-af9,yx (p:=λy=>imp nI (col y (eF L)) 0 (ad6 (v+1)) ((ad6 (v+1)).map λ_=>D.non)) (q:=λy=>pl (bY (col y (eF L)))) λy hy=>by
  have pv:=tZ hy vL;have:=Ss (g:=nI) (r:=(ad6 (v+1)).map λ_=>D.non) pv (by rw[z1g,z2d,fM,hS]);rw[fM,hS] at this;exact this] at e
 refine bR (aK (aZ (len0 o rfl) rfl) (aK (Oq (ds:=(ad6 h).map λ_=> .lst (pl (ad6 (v+1)))) (bC (c:=λy=>row (v+1) (f y)) (l:=ad6 h) (cZ rfl) (by rw[z2d];omega) λy _=>bK rfl (aO (ao rfl) (yw (by omega))))) (aK (Zf (h:=h) (rf:=λ_=>(ad6 (v+1)).map λ_=> .non) (bC (c:=λy=>row (v+1) (f y)) (l:=ad6 h) (cZ rfl) (by rw[z2d];omega) λy _=>bK rfl (au (dG (ao rfl)) rfl ?_)) (λ_ _=>agA.mpr λd hd=>by obtain⟨_,_,rfl⟩:=ae2.mp hd;rfl) rfl) (aK (Y9 (d:= .lst []) (e:= .lst [bx (v+1) h f]) rfl rfl rfl rfl) (aK (jM (gJ (m:=v+1) (ao rfl) (by omega)) e) (bw (cO (aB (x:=tabS h (eF L)) ?_ (aB rfl (ao rfl))))))))))
 ·show Ae (.lst [.non]) (.int ((v+1:Nat):Int))=_;rw[Ae,if_pos ⟨by simp,by omega,by omega,by rw[aeQ];simp;omega⟩,aeQ,agE,pK]
 ·refine aO (ao (bC (c:=λy=> .lst (pl (bY (col y (eF L))))) (h:=λy=> .tup (pl (bY (col y (eF L))))) (l:=ad6 h) (jT ?_) (by rw[z2d];omega) λy _=>bK rfl (aO (ao rfl) rfl))) rfl;show R.ok (D.lst (((ad6 h).map λy=>pl (bY (col y (eF L)))).map D.lst))=_;rw[aev];rfl
end
section
variable{ns:List Int}{w h k:Nat}{f M:Nat->Nat->Int}{T:Nat->Nat->Nat->Int}{m:Str}{s:Nat->Nat}{ρ:aA}
def adV:aA->So:=(aR (bB (bin (gv 8) (aD (aV dI 3) (ak (gv 0) (ak (ci 41) (ak (aD cC (ak (gv 8) nA)) nA)))) bW) (aH 9)) (aR (bB (bin (dM (ak (ci 0) (ak (λ_=> .ok .non) (ak (λ_=> .ok (.bl true)) (ak (λ_=> .ok (.str "1")) (ak (jt (ci 1)) (ak (bin (bin (ci 2) (gv 2) iH) (ci 1) cL) nA))))))) (aD (aV dI 3) (ak (gv 0) (ak (ci 42) (ak (ci 6) nA)))) bW) (aH 10)) (aR (dU (cg (bin (bA 1 [1] (dO (gv 8)) (aH 0) (cg (bin (aD (aV gM 2) (ak (gv 0) (ak (gv 1) nA))) (λ_=> .ok (.bl false)) T4)) (gv 0)) (dM nA) iC)) (retS (λ_=> .ok (.bl false))) So.nx) (aR (dU (cg (bin (bA 1 [10,1,9] (λρ=>((ak (ci 3) nA) ρ).bind gQ) (aH 0) tT (aD (aV fQ 4) (ak (gv 0) (ak (gv 2) (ak (gv 3) (ak (gv 1) nA)))))) (bin (dM (ak (dM (ak (λ_=> .ok (.bl true)) (ak (λ_=> .ok (.bl false)) nA))) nA)) (ci 3) mulL) iC)) (retS (λ_=> .ok (.bl false))) So.nx) (aR (dU (cg (bin (aD (aV fQ 4) (ak (ci 1) (ak (gv 1) (ak (gv 5) (ak (bin (gv 2) (ci 1) cL) nA))))) (dM (ak (λ_=> .ok (.bl false)) (ak (λ_=> .ok (.bl true)) nA))) iC)) (retS (λ_=> .ok (.bl false))) So.nx) (aR (dU (cg (bin (aD (aV fQ 4) (ak (ci 2) (ak (gv 1) (ak (gv 5) (ak (bin (gv 2) (ci 1) cW) nA))))) (dM (ak (λ_=> .ok (.bl false)) (ak (λ_=> .ok (.bl true)) nA))) iC)) (retS (λ_=> .ok (.bl false))) So.nx) (retS (bin (bA 1 [10,1,5] (dO (dh (ak (ci 1) (ak (ci 2) nA)))) (aH 0) tT (aD (aV fQ 4) (ak (gv 0) (ak (gv 2) (ak (gv 3) (ak (gv 1) nA)))))) (bin (dM (ak (dM (ak (λ_=> .ok (.bl false)) (ak (λ_=> .ok (.bl true)) nA))) nA)) (ci 2) mulL) kO))))))))
theorem abr{l:List D}(hl:∀d∈l,∃a b,d=tf a b):dep (.lst l)<=40:=by
 rw[dep];have:=YX (l:=l) (n:=2) (λd hd=>by obtain⟨a,b,rfl⟩:=hl d hd;simp[dep,deps]);omega
theorem rest_eq{S:List (Nat->Nat)}{bad:List D}(hns:ns.length<=1000000)(o:Ok w h f)(hw:S.length=w)(v:nj h S.length S)(hb:∀d∈bad,DN w h f d)(hb1:1<=bad.length)(hb2:bad.length<=100):
  adV [vA (.lst (ns.map .int)),vA (bx w h f),vA (.int (w:Int)),e3,e4,vA (tabS h S),e6,e7,vA (.lst bad),none,none]= .rt (.bl true):=by
 have ow:=o.w2;have Pk:=o.w1;obtain⟨d1,d2,d3⟩:=uM (k:=41) (m:=(bad.length:Int)) hns (by omega) (by omega);obtain⟨th,ht,et⟩:=wJ (xs:=bad) d2 d3;obtain⟨c1,c2,c3⟩:=uM (k:=42) (m:=6) hns (by omega) (by omega);obtain⟨od,ho,eo⟩:=wJ (xs:=[D.int 0,.non,.bl true,.str "1",.int (-1),.int ((2*w:Nat)+1)]) c2 c3;have zo:Fb 1 w od/\Fb w (min (2*w) 20) od:=by
  simp only[ael,afl,or_false] at ho;rcases ho with rfl |rfl |rfl |rfl |rfl |rfl
  ·exact⟨.inr ⟨_,rfl,.inl (by omega)⟩,.inr ⟨_,rfl,.inl (by omega)⟩⟩
  ·exact⟨.inl rfl,.inl rfl⟩
  ·exact⟨.inl rfl,.inl rfl⟩
  ·exact⟨.inl rfl,.inl rfl⟩
  ·exact⟨.inr ⟨_,rfl,.inl (by omega)⟩,.inr ⟨_,rfl,.inl (by omega)⟩⟩
  ·exact⟨.inr ⟨_,rfl,.inr (by omega)⟩,.inr ⟨_,rfl,.inr (by omega)⟩⟩
 refine aK (aZ (d:=th) (au rfl (aX (aB rfl (aB rfl (ao (aO (ao rfl) rfl)))) d1) (qw et)) rfl) ?_;refine aK (aZ (d:=od) (au (dG (aB rfl (aB rfl (aB rfl (aB rfl (aB rfl (ao (au (au rfl rfl (acR (by omega))) rfl rfl)))))))) (aX (aB rfl (aB rfl (ao rfl))) c1) (qw eo)) rfl) ?_;refine aK (bU (aN (au (x:= .lst []) (y:= .lst []) ?_ (dG rfl) (Pu.iU rfl (by simp[dep,deps])))) rfl) ?_
 ·have e0:(bad.filterMap λd=>if false=true then some d else none)=[]:=List.filterMap_eq_nil_iff.mpr λ_ _=>rfl;refine Eq.trans ?_ (congrArg (λz=>R.ok (D.lst z)) e0);refine w6 (c:=λd=>d) (l:=bad) (jT (by rw[List.map_id'];rfl)) (by omega) λd hd=>?_;exact sI rfl (aN (au (aX (aB rfl (ao rfl)) (hb d hd)) rfl rfl)) rfl
 refine aK (bU (aN (au (x:= .lst ((ad6 3).map λ_=>tf true false)) (y:= .lst [tf true false,tf true false,tf true false]) (bC (c:=λ(y:Nat)=> .int (y:Int)) (l:=ad6 3) (gJ (ao rfl) (by omega)) (by rw[z2d];omega) λy _=>bK rfl (aX (aB rfl (aB rfl (aB rfl (ao rfl)))) (acS (hb th ht)))) (au (dG (ao (dG (aB rfl (ao rfl))))) rfl rfl) (Pu.iU rfl (abr λd hd=>by obtain⟨_,_,rfl⟩:=ae2.mp hd;exact⟨_,_,rfl⟩)))) rfl) ?_;refine aK (bU (aN (au (aX (aB rfl (aB rfl (aB rfl (ao (au rfl rfl rfl))))) (S7 o hw v (.inr ⟨_,rfl,.inr (by omega)⟩))) (dG (aB rfl (ao rfl))) (Pu.iU rfl (by simp[dep,deps,tf])))) rfl) ?_;refine aK (bU (aN (au (aX (aB rfl (aB rfl (aB rfl (ao (au rfl rfl rfl))))) (S8 o hw v (.inr ⟨_,rfl,.inl (by omega)⟩))) (dG (aB rfl (ao rfl))) (Pu.iU rfl (by simp[dep,deps,tf])))) rfl) ?_;refine bw (au (x:= .lst ([1,2].map λ(_:Int)=>tf false true)) (y:= .lst [tf false true,tf false true]) (bC (c:=λ(y:Int)=> .int y) (l:=[1,2]) (cZ (cO (aB rfl (ao rfl)))) (by decide) λy hy=>?_) (au (dG (ao (dG (aB rfl (ao rfl))))) rfl rfl) (Ej rfl (by simp[dep,deps,tf])));have hy:y=1\/y=2:=by simpa using hy
 rcases hy with rfl |rfl
 ·exact bK rfl (aX (aB rfl (aB rfl (aB rfl (ao rfl)))) (S7 o hw v zo.1))
 ·exact bK rfl (aX (aB rfl (aB rfl (aB rfl (ao rfl)))) (S8 o hw v zo.2))
theorem Jr{n:Nat}:aeb n (D.int (a:Int))=pl (aeb n a):=by rw[pl,List.map_replicate]
theorem Xg{k:Nat}:eF (L.take k)=(eF L).take k:=by rw[eF,eF,afZ]
theorem Td{S:List (Nat->Nat)}:dep (tabS h S)<=40:=by
 unfold tabS;rw[dep];have:=jR (c:=λy=>D.tup (pl (bY (col y S)))) (n:=1) (l:=ad6 h) (λy _=>by
  rw[dep];have:=Ov (l:=bY (col y S));omega)
 omega
theorem abt{S:List (Nat->Nat)}:dep (.lst (S.map (sm h)))<=40:=by
 rw[dep];have:=jR (c:=sm h) (n:=1) (l:=S) (λs _=>by
  unfold sm row;rw[dep];have:deps ((ad6 h).map λx=>D.int ((λy=>((s y:Nat):Int)) x))<=0:=jR (c:=λx=>D.int ((s x:Nat):Int)) (n:=0) (l:=ad6 h) (λx _=>by simp[dep]);omega)
 omega
theorem Zg{g:Nat->Nat->Nat->Int}{n:Nat}{u:Nat->Nat}:dep (.lst ((ad6 n).map λk=>bx (u k) h (g k)))<=40:=by
 rw[dep];have:=jR (c:=λk=>bx (u k) h (g k)) (n:=2) (l:=ad6 n) (λk _=>by
  unfold bx;rw[dep];have:=jR (c:=λy=>row (u k) (g k y)) (n:=1) (l:=ad6 h) (λy _=>by
   unfold row;rw[dep];have:=jR (c:=λx=>D.int (g k y x)) (n:=0) (l:=ad6 (u k)) (λx _=>by simp[dep]);omega)
  omega)
 omega
def qP(w h:Nat)(S:List (Nat->Nat)):List D:=
 [.non,.lst ((ad6 h).map λy=> .tup (pl (bY (col y S)))),.tup (((ad6 h).map λy=> .tup (pl (bY (col y S))))++((ad6 h).map λy=> .tup (pl (bY (col y S)))).take 1),.tup (aeb h (.tup (aeb (w+1) (.int 0))))]
  ++[.tup (aeb h (.tup (aeb w (.int (w:Int))))),.tup (aeb h (.tup (aeb w .non))),.tup (((ad6 h).map λy=> .tup (pl (bY (col y S)))).take (h - 1))]
  ++[.int 7,.tup ((ad6 h).map λy=> .lst (pl (bY (col y S))))]
theorem Te{S:List (Nat->Nat)}(o:Ok w h f):∀d∈qP w h S,DN w h f d:=by
 have ow:=o.w2;have Pk:=o.w1;have KH:=o.h1;intro d hd;simp only[qP,ahz,ago,ael,afl,or_false] at hd;rcases hd with rfl |rfl |rfl |rfl |rfl |rfl |rfl |rfl |rfl
 ·exact Jm o rfl
 ·exact Jm o rfl
 ·refine Xe o ?_;rw[z1d,afk,z1g,z2d];omega
 ·rw[pK (n:=h)];refine xq o λy _=>?_;rw[show (D.int 0)=D.int ((0:Nat):Int) from rfl,Jr];refine Jo (by omega) ow λe=>?_;have:=congrArg ah3 e;rw[aeG,z2d] at this;omega
 ·rw[pK (n:=h)];refine xq o λy _=>?_;rw[Jr];refine Jo (by omega) ow λe=>?_;have:=congrArg (·[0]?) e;simp only[ae9,if_pos (show 0<w by omega),aei (show 0<w by omega)] at this;exact absurd (aeg this) (by omega)
 ·rw[pK (n:=h),pK (n:=w)];exact xq o λy _=>abq Pk ow
 ·refine Xe o ?_;rw[afk,z1g,z2d];omega
 ·exact Jm o rfl
 ·exact xq o λy _=>Zb rfl
theorem abu(o:Ok w h f)(w3:2<w):DN w h f (.tup (aeb h (.tup (aeb w (.int 0))))):=by
 rw[pK (n:=h)];refine xq o λy _=>?_;rw[show (D.int 0)=D.int ((0:Nat):Int) from rfl,Jr];refine Jo (by have:=o.w2;omega) o.w2 λe=>?_;have:=congrArg (·[1]?) e;simp only[ae9,if_pos (show 1<w by omega),aei (show 1<w by omega)] at this;exact absurd (aeg this) (by omega)
theorem Xh(h1:1<=ds.length):iG ds none (some (-1))=ds.take (ds.length - 1):=by
 have:HT.sIx ds.length ds.length (some (-1))=ds.length - 1:=by
  show (if (-1:Int)<0 then ((-1:Int)+(ds.length:Int)).toNat else min (-1:Int).toNat ds.length)=_;rw[if_pos (by omega)];omega
 rw[iG,this,wY,agT];rfl
theorem Tf{n:Nat}(hn:n<=1000):Il [.int (n:Int)]= .ok (.tup (pl (ad6 n))):=by
 rw[Il,if_pos ⟨by omega,by omega⟩,aeQ,Sv]
theorem Zh(ns:List Int)(hns:ns.length<=63):GF [.lst (ns.map .int)]= .ok (.bl true):=by
 have hn:ns.length<=1000000:=by omega
 obtain⟨w,h,f,e1,o,hw,hh⟩:=acJ (ns:=ns) hn;have ow:=o.w2;have Pk:=o.w1;have oh:=o.h2;have KH:=o.h1;obtain⟨m,hm,e3⟩:=WR (i:=40) (by omega) (ns:=ns) hn;obtain⟨r,g⟩:=Ur (m:=m) o.h1 (k:=w) (w:=w) (f:=f) (M:=λ_ _=>0);obtain⟨L,rfl⟩:=Jg (z0g _) (λ_ _ _ _=>by decide) g;obtain⟨r2,g2⟩:=Ur (m:= "worth") o.h1 (k:=w) (w:=w) (f:=f) (M:=λ_ _=>0);obtain⟨L2,rfl⟩:=Jg (z0g _) (λ_ _ _ _=>by decide) g2;have lL:=GX g;have hS:(eF L).length=w:=by rw[eF,z1g,lL]
 have vL:nj h (eF L).length (eF L):=by rw[hS];exact GZ g
 refine jk (aK (aZ (aX (aB rfl (aB rfl (aB rfl (ao rfl)))) e1) rfl) ?_);refine aK (aZ (cO (aB (len0 o rfl) (aB (x:= .int (h:Int)) (aO (ao rfl) (by show R.ok (D.int (((ad6 h).map λy=>row w (f y)).length:Int))=_;rw[z1g,z2d])) (ao (aX (aB rfl (ao rfl)) e3))))) rfl) ?_;refine aK (aZ (aX (aB rfl (ao rfl)) (table_eq hm o hw (by omega) g)) rfl) ?_;refine aK (bU (aN (au (N6 (ao rfl) (ao rfl) (Kw hm o g)) rfl (Pu.iU rfl Td))) rfl) ?_;refine aK (bU (aN (au (N6 (ao rfl) rfl (Kw (.inl rfl) o g2)) (au (aX (aB rfl (ao rfl)) (table_eq (.inl rfl) o hw (by omega) g2)) rfl (gK (i:=0) rfl)) (Pu.iU rfl Td))) rfl) ?_;refine aK (bU (f9 (aN (au (aX (aB rfl (ao rfl)) (Ba o hS vL)) rfl rfl)) (aN (au (d9 (aB rfl (ao rfl)) (Qw o hS vL)) rfl (Pu.iU rfl abt)))) rfl) ?_;refine aK (bU (aN (au (x:= .lst ((ad6 w).map λk=>bx (w - k) h (Ay f (L.take k)))) (bC (c:=λ(k:Nat)=> .int (k:Int)) (l:=ad6 w) (gJ (ao rfl) (by omega)) (by rw[z2d];omega) λk hk=>?_) rfl (Pu.iU rfl Zg))) rfl) ?_
 ·have hk:k<w:=z2e hk;have ea:=Qv (n:=w - k) o hS vL (by omega) (by omega);rw[show w - (w - k)=k by omega,<-Xg,O9] at ea;refine bK rfl (d9 (aB rfl (aB rfl (ao (x:= .int ((w - k:Nat):Int)) (au rfl rfl ?_)))) ea);show R.ok (D.int ((w:Int) - (k:Int)))=_;rw[show (w:Int) - (k:Int)=((w - k:Nat):Int) by omega]
 have tl:((ad6 h).map λy=>D.tup (pl (bY (col y (eF L))))).length=h:=by rw[z1g,z2d]
 refine aK (aZ (dG (aB rfl (aB (aO (ao rfl) rfl) (aB (au (x:=tabS h (eF L)) (y:= .tup (((ad6 h).map λy=> .tup (pl (bY (col y (eF L))))).take 1)) rfl (Jb (n:=1) rfl rfl (by rw[tl];exact KH)) (sG (by rw[afk,tl];omega))) (ao (au (cO (ao (au (x:= .tup [.int 0]) (y:= .int ((w+1:Nat):Int)) (cO (ao rfl)) (au (x:= .int (w:Int)) (y:= .int 1) rfl rfl rfl) (jA (by omega) (by omega))))) rfl (jA KH (by omega)))))))) rfl) ?_;refine aK (aZ (au rfl (dG (aB (au (cO (ao (au (cO (ao rfl)) rfl (jA Pk (by omega))))) rfl (jA KH (by omega))) (aB (au (cO (ao (au (cO (ao rfl)) rfl (jA Pk (by omega))))) rfl (jA KH (by omega))) (ao (x:= .tup (((ad6 h).map λy=> .tup (pl (bY (col y (eF L))))).take (h - 1))) ?_)))) (sH (by simp))) rfl) ?_
 ·show R.ok (D.tup (iG ((ad6 h).map λy=>D.tup (pl (bY (col y (eF L))))) none (some (-1))))=_;rw[Xh (by rw[tl];exact KH),tl]
 refine aK (aZ (d:= .lst (qP w h (eF L))) (au rfl (dG (aB rfl (ao (aO (ao (bC (c:=λy=> .tup (pl (bY (col y (eF L))))) (h:=λy=> .lst (pl (bY (col y (eF L))))) (l:=ad6 h) (cZ rfl) (by rw[z2d];omega) λy _=>bK rfl (aO (ao rfl) rfl))) rfl)))) (sH (by simp))) rfl) ?_;by_cases c:2<w/\1<h
 ·refine aK (cX (jU (aN (au rfl rfl (by rw[mH,decide_eq_true (by omega)]))) (aN (au rfl rfl (by rw[mH,decide_eq_true (by omega)])))) (aK (aZ (d:= .lst (qP w h (eF L)++[tabS h (lQ w w)])) (au (x:= .lst (qP w h (eF L))) (y:= .lst [tabS h (lQ w w)]) rfl (dG (ao ?_)) (sH (by simp[qP]))) rfl) (aZ (d:= .lst (qP w h (eF L)++[tabS h (lQ w w)]++[.tup (aeb h (.tup (aeb w (.int 0))))])) (au rfl (dG (ao (au (cO (ao (au (cO (ao rfl)) rfl (jA Pk (by omega))))) rfl (jA KH (by omega))))) (sH (by simp[qP]))) rfl))) ?_
  ·rw[acU KH];refine au (cO (ao (aO (ao rfl) (Tf (by omega))))) (au (x:= .tup [.tup (pl (ad6 w)).reverse]) (y:= .int ((h - 1:Nat):Int)) (cO (ao (abQ (aO (ao rfl) (Tf (by omega)))))) (au (x:= .int (h:Int)) (y:= .int 1) rfl rfl ?_) (jA (by omega) (by omega))) (sG (by simp;omega));show R.ok (D.int ((h:Int) - 1))=_;rw[show (h:Int) - 1=((h - 1:Nat):Int) by omega]
  refine rest_eq hn o hS vL (λd hd=>?_) (by simp[qP]) (by simp[qP]);rcases afF.mp hd with hd |hd
  ·rcases afF.mp hd with hd |hd
   ·exact Te o d hd
   ·rw[aeD.mp hd];exact Ze o c.1 c.2
  ·rw[aeD.mp hd];exact abu o c.1
 ·refine aK (bU ?_ rfl) ?_
  ·by_cases c2:2<w
   ·exact jU (aN (au rfl rfl (by rw[mH,decide_eq_true (by omega)]))) (aN (au rfl rfl (by rw[mH,decide_eq_false (by omega)])))
   ·exact wL (aN (au rfl rfl (by rw[mH,decide_eq_false (by omega)])))
  exact rest_eq hn o hS vL (Te o) (by simp[qP]) (by simp[qP])
end
end Af
namespace Af
open PySem PySem.Spec L2 Pu
open PyProof.Rows hiding St
variable{f:ad5}{F:aeU}{outer:List PySem.Env}{ps N:List Str}{us:List ad7}{n:Nat}{K:PySem.W.Frag}{g:aA->So}{st:aeu}{x:Str}{cdv:ad7}
def DX(K:PySem.W.Frag)(x:Str)(st:aeu):Prop:=∃f fd,Fun K x x st f fd/\PySem.W.nsIn K aed x=some (some (.ref f))
theorem adq{oc:ad7}{od an:Option ad5}{osl:Array (Option ad7)}{kV doc pm ct:ad7}(a:PySem.W.nsIn K aed x=some (some (.ref f)))(l:K.lookup f=some ⟨oc,od,.func (PySem.W.fnOf x x (defArgs st) (defBody st) (defScope st) .none kV doc pm an cdv ct),osl⟩)
  (c:PySem.W.codeIn K cdv x=true)(k:PySem.W.keepIn K (.ref f)=true):DX K x st:=⟨f,_,fun_mk l c k,a⟩
def DY(K:PySem.W.Frag)(mg:Str->Option ad7)(x:Str)(st:aeu)(ps:List Str):Prop:=∃f fd,Fun K x x st f fd/\mg x=some (.ref f)/\Binds K fd ps []
theorem dy{mg:Str->Option ad7}{h:aeo}(X:K.In h)(G:h.Ns aed mg)(q:DX K x st)
  (b:∀(kV doc pm:ad7) (an:Option ad5) (cdv ct:ad7) (us:List ad7),us.length=ps.length->agh (PySem.W.fnOf x x (defArgs st) (defBody st) (defScope st) .none kV doc pm an cdv ct) ⟨us,[]⟩=pure (ps.zip us)):DY K mg x st ps:=
 let⟨f,fd,u,a⟩:=q;⟨f,fd,u,PySem.W.mg_of X G a,u.binds b⟩
section
variable{P:aek}{w:aep}{K:PySem.W.Frag}{mg:Str->Option ad7}{base:aeo}
theorem fJ{k m:Nat}(q:DY K mg x st ps)(S:FnScope N ps (defScope st))(hn:ps.length=n)(hm:N.length=n+m)
  (hb:∀{f:ad5} (cdv:ad7) (A:aer) (outer:List PySem.Env) (s:ad8) (H:Hp) (E:XK),Room k (A.deeper (afP x (defScope st) s.heap.objs.size f cdv))->kI (cxOf CX0 P w K mg base N x (defScope st) f cdv A outer s H E).nox (defBody st) g):eN P w K mg base (k+1) x n (cu m g):=
 let⟨_,_,Fn,hmg,b⟩:=q;abP Fn hmg b S hn hm hb
def yC(P:aek)(w:aep)(K:PySem.W.Frag)(mg:Str->Option ad7)(base:aeo)(k:Nat)(x:Str)(n:Nat)(F:List D->R D)(ps:List Str)(ts:List (ad5×Str)):Prop:=∃fd,Im P w K mg base k x n F fd ps ts/\Binds K fd ps []
def yD(P:aek)(w:aep)(K:PySem.W.Frag)(mg:Str->Option ad7)(base:aeo)(k:Nat)(x:Str)(n:Nat)(F:List D->R D)(ps:List Str)(ts:List (ad5×Str)):Prop:=∃fd,ab8 P w K mg base k x n F fd ps ts/\Binds K fd ps []
theorem Uv{k m:Nat}{ts:List (ad5×Str)}(q:DY K mg x st ps)(S:FnScope N ps (defScope st))(hn:ps.length=n)(hm:N.length=n+m)
  (hb:∀{f:ad5} (cdv:ad7) (A:aer) (outer:List PySem.Env) (s:ad8) (H:Hp) (E:XK),True->Room k (A.deeper (afP x (defScope st) s.heap.objs.size f cdv))->Tb ts H->kI (cxOf CX0 P w K mg base N x (defScope st) f cdv A outer s H E).nox (defBody st) g):yC P w K mg base (k+1) x n (λds=>iI m g (ds.map .val)) ps ts:=
 let⟨f,fd,Fn,hmg,b⟩:=q;⟨fd,⟨f,ZW Fn S hn hm λcdv A outer s H E _=>hb cdv A outer s H E trivial,hmg,Fn.kp⟩,b⟩
theorem Pn{k m:Nat}{ts:List (ad5×Str)}(q:DY K mg x st ps)(S:FnScope N ps (defScope st))(hn:ps.length=n)(hm:N.length=n+m)
  (hb:∀{f:ad5} (cdv:ad7) (A:aer) (outer:List PySem.Env) (s:ad8) (H:Hp) (E:XK),Room k (A.deeper (afP x (defScope st) s.heap.objs.size f cdv))->Tb ts H->kI (cxOf (Ru P w) P w K mg base N x (defScope st) f cdv A outer s H E) (defBody st) g):yD P w K mg base (k+1) x n (cu m g) ps ts:=
 let⟨f,fd,Fn,hmg,b⟩:=q;⟨fd,⟨f,adP Fn S hn hm hb,hmg,Fn.kp⟩,b⟩
end
section
variable{X:Cx}{k m n:Nat}{ps:List Str}{F:List D->R D}{x:Str}{p pos:Pos}{e:aee}{es:List aee}{fa:aA->R (List D)}{ts:List (ad5×Str)}
theorem nq(G:yC X.prog X.w X.K X.mg X.base k x n F ps ts)(hT:Tb ts X.H₀)(hr:Room m X.A)(hkm:k<=m)(ha:DA X (e::es) fa)(hg:Gl X x:=by rfl)
  (hdb:(x ==("__debug__" :Str))=false:=by decide)(he:aea (e::es) X.env=(false,eval e X.env)::aea es X.env:=by rfl)(hpl:(aeR pos (aea es X.env)).any (·.1)=false:=by rfl):
  DE X (.Call (.Name x p) (e::es) [] pos) (aD (aV F n) fa):=let⟨_,g,b⟩:=G;ab1 g hT hr hkm b ha hg hdb he hpl
theorem jX(G:yD X.prog X.w X.K X.mg X.base k x n F ps ts)(hT:Tb ts X.H₀)(hr:Room m X.A)(hkm:k<=m)(ha:DA X (e::es) fa)(hg:Gl X x:=by rfl)
  (hdb:(x ==("__debug__" :Str))=false:=by decide)(he:aea (e::es) X.env=(false,eval e X.env)::aea es X.env:=by rfl)(hpl:(aeR pos (aea es X.env)).any (·.1)=false:=by rfl):
  DE X (.Call (.Name x p) (e::es) [] pos) (gY F n 0 [] fa nA):=let⟨_,g,b⟩:=G;aaY Sel.nil g hT hr hkm (adl b) ha hg hdb he hpl
end
theorem uc(hl:us.length=n+1):∃a u,us=a::u/\u.length=n:=by
 cases us with
 |nil=>cases hl
 |cons a u=>exact⟨a,u,rfl,ajc hl⟩
theorem uT(hl:us.length=1)(h:∀a0,agh F ⟨[a0],[]⟩=pure (ps.zip [a0])):agh F ⟨us,[]⟩=pure (ps.zip us):=by
 obtain⟨a0,u1,rfl,h1⟩:=uc hl;cases aeA h1;exact h a0
theorem oE(hl:us.length=2)(h:∀a0 a1,agh F ⟨[a0,a1],[]⟩=pure (ps.zip [a0,a1])):agh F ⟨us,[]⟩=pure (ps.zip us):=by
 obtain⟨a0,u1,rfl,h1⟩:=uc hl;obtain⟨a1,u2,rfl,h2⟩:=uc h1;cases aeA h2;exact h a0 a1
theorem uU(hl:us.length=3)(h:∀a0 a1 a2,agh F ⟨[a0,a1,a2],[]⟩=pure (ps.zip [a0,a1,a2])):agh F ⟨us,[]⟩=pure (ps.zip us):=by
 obtain⟨a0,u1,rfl,h1⟩:=uc hl;obtain⟨a1,u2,rfl,h2⟩:=uc h1;obtain⟨a2,u3,rfl,h3⟩:=uc h2;cases aeA h3;exact h a0 a1 a2
theorem Xi(hl:us.length=4)(h:∀a0 a1 a2 a3,agh F ⟨[a0,a1,a2,a3],[]⟩=pure (ps.zip [a0,a1,a2,a3])):agh F ⟨us,[]⟩=pure (ps.zip us):=by
 obtain⟨a0,u1,rfl,h1⟩:=uc hl;obtain⟨a1,u2,rfl,h2⟩:=uc h1;obtain⟨a2,u3,rfl,h3⟩:=uc h2;obtain⟨a3,u4,rfl,h4⟩:=uc h3;cases aeA h4;exact h a0 a1 a2 a3
theorem lk5(hl:us.length=5)(h:∀a0 a1 a2 a3 a4,agh F ⟨[a0,a1,a2,a3,a4],[]⟩=pure (ps.zip [a0,a1,a2,a3,a4])):agh F ⟨us,[]⟩=pure (ps.zip us):=by
 obtain⟨a0,u1,rfl,h1⟩:=uc hl;obtain⟨a1,u2,rfl,h2⟩:=uc h1;obtain⟨a2,u3,rfl,h3⟩:=uc h2;obtain⟨a3,u4,rfl,h4⟩:=uc h3;obtain⟨a4,u5,rfl,h5⟩:=uc h4;cases aeA h5;exact h a0 a1 a2 a3 a4
def top(i:Nat):aeu:=PySem.Challenge.pw_seamhall_k40_ladders.main.body.getD i (.Pass ⟨0,0,0,0⟩)
abbrev ud:aeu:=top 58
theorem eE:FnScope ["_law_script","_law_k","_law_many","_law_cell","_law_turn","_law_rest"] ["_law_script","_law_k","_law_many"] (defScope ud):=⟨rfl,rfl,rfl,by decide +kernel,rfl,by decide +kernel,by decide +kernel⟩
abbrev qQ:aeu:=top 69
theorem Js:FnScope ["_law_script","_law_at_here"] ["_law_script","_law_at_here"] (defScope qQ):=⟨rfl,rfl,rfl,by decide +kernel,rfl,by decide +kernel,by decide +kernel⟩
abbrev yE:aeu:=top 9
theorem Qx:FnScope ["thing"] ["thing"] (defScope yE):=⟨rfl,rfl,rfl,by decide +kernel,rfl,by decide +kernel,by decide +kernel⟩
abbrev pL:aeu:=top 46
theorem G4:FnScope ["thing","wide"] ["thing","wide"] (defScope pL):=⟨rfl,rfl,rfl,by decide +kernel,rfl,by decide +kernel,by decide +kernel⟩
abbrev Fe:aeu:=top 27
theorem Xj:FnScope ["thing","wide","high"] ["thing","wide","high"] (defScope Fe):=⟨rfl,rfl,rfl,by decide +kernel,rfl,by decide +kernel,by decide +kernel⟩
abbrev uf:aeu:=top 47
theorem K9:FnScope ["row","number"] ["row","number"] (defScope uf):=⟨rfl,rfl,rfl,by decide +kernel,rfl,by decide +kernel,by decide +kernel⟩
abbrev yF:aeu:=top 48
theorem Qy:FnScope ["table"] ["table"] (defScope yF):=⟨rfl,rfl,rfl,by decide +kernel,rfl,by decide +kernel,by decide +kernel⟩
abbrev Bc:aeu:=top 11
theorem Uw:FnScope ["thing"] ["thing"] (defScope Bc):=⟨rfl,rfl,rfl,by decide +kernel,rfl,by decide +kernel,by decide +kernel⟩
abbrev Bd:aeu:=top 10
theorem Ux:FnScope ["thing"] ["thing"] (defScope Bd):=⟨rfl,rfl,rfl,by decide +kernel,rfl,by decide +kernel,by decide +kernel⟩
abbrev Fg:aeu:=top 12
theorem Xk:FnScope ["thing"] ["thing"] (defScope Fg):=⟨rfl,rfl,rfl,by decide +kernel,rfl,by decide +kernel,by decide +kernel⟩
abbrev ug:aeu:=top 13
theorem La:FnScope ["thing"] ["thing"] (defScope ug):=⟨rfl,rfl,rfl,by decide +kernel,rfl,by decide +kernel,by decide +kernel⟩
abbrev pN:aeu:=top 14
theorem G5:FnScope ["thing"] ["thing"] (defScope pN):=⟨rfl,rfl,rfl,by decide +kernel,rfl,by decide +kernel,by decide +kernel⟩
abbrev Bf:aeu:=top 15
theorem Uy:FnScope ["picture"] ["picture"] (defScope Bf):=⟨rfl,rfl,rfl,by decide +kernel,rfl,by decide +kernel,by decide +kernel⟩
abbrev vI:aeu:=top 49
theorem Bg:FnScope ["thing","picture","wide","high"] ["thing","picture"] (defScope vI):=⟨rfl,rfl,rfl,by decide +kernel,rfl,by decide +kernel,by decide +kernel⟩
abbrev qR:aeu:=top 50
theorem Jt:FnScope ["thing","picture"] ["thing","picture"] (defScope qR):=⟨rfl,rfl,rfl,by decide +kernel,rfl,by decide +kernel,by decide +kernel⟩
abbrev uh:aeu:=top 43
theorem Lb:FnScope ["thing","least","most"] ["thing","least","most"] (defScope uh):=⟨rfl,rfl,rfl,by decide +kernel,rfl,by decide +kernel,by decide +kernel⟩
abbrev yG:aeu:=top 54
theorem DP:FnScope ["picture","table","wide","lacking"] ["picture","table","wide"] (defScope yG):=⟨rfl,rfl,rfl,by decide +kernel,rfl,by decide +kernel,by decide +kernel⟩
abbrev yH:aeu:=top 53
theorem Qz:FnScope ["picture","table"] ["picture","table"] (defScope yH):=⟨rfl,rfl,rfl,by decide +kernel,rfl,by decide +kernel,by decide +kernel⟩
abbrev qT:aeu:=top 41
theorem xu:FnScope ["row","place","following"] ["row","place"] (defScope qT):=⟨rfl,rfl,rfl,by decide +kernel,rfl,by decide +kernel,by decide +kernel⟩
abbrev qU:aeu:=top 55
theorem pO:FnScope ["row","numbers","more","told","place","number"] ["row","numbers","more"] (defScope qU):=⟨rfl,rfl,rfl,by decide +kernel,rfl,by decide +kernel,by decide +kernel⟩
abbrev Bh:aeu:=top 56
theorem G6:FnScope ["picture","table","wide","least"] ["picture","table","wide"] (defScope Bh):=⟨rfl,rfl,rfl,by decide +kernel,rfl,by decide +kernel,by decide +kernel⟩
abbrev Bj:aeu:=top 71
theorem G7:FnScope ["_law_way","_law_picture_here","_law_table_here","_law_broad","e"] ["_law_way","_law_picture_here","_law_table_here","_law_broad"] (defScope Bj):=⟨rfl,rfl,rfl,by decide +kernel,rfl,by decide +kernel,by decide +kernel⟩
abbrev pP:aeu:=top 59
theorem oF:FnScope ["_law_script","_law_at_here","_law_broad","_law_tall","_law_most","_law_rows","_law_y"] ["_law_script","_law_at_here","_law_broad","_law_tall"] (defScope pP):=⟨rfl,rfl,rfl,by decide +kernel,rfl,by decide +kernel,by decide +kernel⟩
abbrev vJ:aeu:=top 60
theorem Pq:FnScope ["_law_script","_law_at_here","_law_broad","_law_tall"] ["_law_script","_law_at_here","_law_broad","_law_tall"] (defScope vJ):=⟨rfl,rfl,rfl,by decide +kernel,rfl,by decide +kernel,by decide +kernel⟩
abbrev Bk:aeu:=top 61
theorem Uz:FnScope ["_law_picture_here","_law_x","_law_y"] ["_law_picture_here","_law_x","_law_y"] (defScope Bk):=⟨rfl,rfl,rfl,by decide +kernel,rfl,by decide +kernel,by decide +kernel⟩
abbrev vK:aeu:=top 62
theorem um:FnScope ["_law_picture_here","_law_mode","_law_x","_law_y","_law_before","_law_found"] ["_law_picture_here","_law_mode","_law_x","_law_y","_law_before"] (defScope vK):=⟨rfl,rfl,rfl,by decide +kernel,rfl,by decide +kernel,by decide +kernel⟩
abbrev vM:aeu:=top 63
theorem Bl:FnScope ["_law_picture_here","_law_mode","_law_seam","_law_befores"] ["_law_picture_here","_law_mode","_law_seam"] (defScope vM):=⟨rfl,rfl,rfl,by decide +kernel,rfl,by decide +kernel,by decide +kernel⟩
abbrev uo:aeu:=top 66
theorem Ld:FnScope ["_law_tags","_law_seam","_law_sign"] ["_law_tags","_law_seam","_law_sign"] (defScope uo):=⟨rfl,rfl,rfl,by decide +kernel,rfl,by decide +kernel,by decide +kernel⟩
abbrev vN:aeu:=top 64
theorem iu:FnScope ["_law_broad","_law_tall","_law_found","_law_y","_law_more","_law_way"] ["_law_broad","_law_tall"] (defScope vN):=⟨rfl,rfl,rfl,by decide +kernel,rfl,by decide +kernel,by decide +kernel⟩
abbrev vO:aeu:=top 67
theorem lD:FnScope ["_law_picture_here","_law_mode","_law_tags","_law_best_here","_law_way","_law_here"] ["_law_picture_here","_law_mode","_law_tags"] (defScope vO):=⟨rfl,rfl,rfl,by decide +kernel,rfl,by decide +kernel,by decide +kernel⟩
abbrev yI:aeu:=top 68
theorem QB:FnScope ["_law_rows","_law_seam"] ["_law_rows","_law_seam"] (defScope yI):=⟨rfl,rfl,rfl,by decide +kernel,rfl,by decide +kernel,by decide +kernel⟩
abbrev vP:aeu:=top 65
theorem Pr:FnScope ["_law_picture_here"] ["_law_picture_here"] (defScope vP):=⟨rfl,rfl,rfl,by decide +kernel,rfl,by decide +kernel,by decide +kernel⟩
abbrev uq:aeu:=top 70
theorem fU:FnScope ["_law_picture_here","_law_mode","_law_broad","_law_rows","_law_found","_law_seams","_law_pictures","_law_number","_law_seam","_law_y","_law_x"] ["_law_picture_here","_law_mode"] (defScope uq):=⟨rfl,rfl,rfl,by decide +kernel,rfl,by decide +kernel,by decide +kernel⟩
abbrev yJ:aeu:=top 26
theorem QC:FnScope ["picture"] ["picture"] (defScope yJ):=⟨rfl,rfl,rfl,by decide +kernel,rfl,by decide +kernel,by decide +kernel⟩
abbrev qW:aeu:=top 25
theorem Ju:FnScope ["thing"] ["thing"] (defScope qW):=⟨rfl,rfl,rfl,by decide +kernel,rfl,by decide +kernel,by decide +kernel⟩
abbrev vQ:aeu:=top 51
theorem oG:FnScope ["places","wide","left","row","number","place"] ["places","wide"] (defScope vQ):=⟨rfl,rfl,rfl,by decide +kernel,rfl,by decide +kernel,by decide +kernel⟩
abbrev qX:aeu:=top 39
theorem Jv:FnScope ["picture","seam"] ["picture","seam"] (defScope qX):=⟨rfl,rfl,rfl,by decide +kernel,rfl,by decide +kernel,by decide +kernel⟩
abbrev Px:aeu:=top 18
theorem Tg:FnScope ["line","last"] ["line"] (defScope Px):=⟨rfl,rfl,rfl,by decide +kernel,rfl,by decide +kernel,by decide +kernel⟩
abbrev ur:aeu:=top 29
theorem fV:FnScope ["picture","y","row","above","last","told","x","gap","from_left","from_right"] ["picture","y"] (defScope ur):=⟨rfl,rfl,rfl,by decide +kernel,rfl,by decide +kernel,by decide +kernel⟩
abbrev Fi:aeu:=top 16
theorem KJ:FnScope ["picture","wide","high"] ["picture"] (defScope Fi):=⟨rfl,rfl,rfl,by decide +kernel,rfl,by decide +kernel,by decide +kernel⟩
abbrev Fj:aeu:=top 19
theorem uV:FnScope ["picture","wide","high","across","down"] ["picture"] (defScope Fj):=⟨rfl,rfl,rfl,by decide +kernel,rfl,by decide +kernel,by decide +kernel⟩
abbrev Jw:aeu:=top 30
theorem Zi:FnScope ["picture","manner"] ["picture","manner"] (defScope Jw):=⟨rfl,rfl,rfl,by decide +kernel,rfl,by decide +kernel,by decide +kernel⟩
abbrev Bm:aeu:=top 31
theorem UG:FnScope ["row","above","place"] ["row","above","place"] (defScope Bm):=⟨rfl,rfl,rfl,by decide +kernel,rfl,by decide +kernel,by decide +kernel⟩
abbrev Py:aeu:=top 28
theorem abv:FnScope ["place","wide"] ["place","wide"] (defScope Py):=⟨rfl,rfl,rfl,by decide +kernel,rfl,by decide +kernel,by decide +kernel⟩
abbrev Fl:aeu:=top 32
theorem qG:FnScope ["beneath","row","x","told","place","fare"] ["beneath","row","x"] (defScope Fl):=⟨rfl,rfl,rfl,by decide +kernel,rfl,by decide +kernel,by decide +kernel⟩
abbrev sJ:aeu:=top 33
theorem jB:FnScope ["table","marks","start","gather","rows","y","row","x","mark","told","lost"] ["table","marks","start","gather"] (defScope sJ):=⟨rfl,rfl,rfl,by decide +kernel,rfl,by decide +kernel,by decide +kernel⟩
abbrev iZ:aeu:=top 34
theorem Bo:FnScope ["table","marks","many","first_ones"] ["table","marks","many"] (defScope iZ):=⟨rfl,rfl,rfl,by decide +kernel,rfl,by decide +kernel,by decide +kernel⟩
abbrev yK:aeu:=top 35
theorem mD:FnScope ["table","rows","told","x","cell","fare"] ["table","rows"] (defScope yK):=⟨rfl,rfl,rfl,by decide +kernel,rfl,by decide +kernel,by decide +kernel⟩
abbrev qY:aeu:=top 36
theorem Jx:FnScope ["table","marks","many"] ["table","marks","many"] (defScope qY):=⟨rfl,rfl,rfl,by decide +kernel,rfl,by decide +kernel,by decide +kernel⟩
abbrev vR:aeu:=top 37
theorem uw:FnScope ["table","marks","found","less","cost","seam"] ["table","marks"] (defScope vR):=⟨rfl,rfl,rfl,by decide +kernel,rfl,by decide +kernel,by decide +kernel⟩
abbrev Bp:aeu:=top 40
theorem UJ:FnScope ["rows","seam"] ["rows","seam"] (defScope Bp):=⟨rfl,rfl,rfl,by decide +kernel,rfl,by decide +kernel,by decide +kernel⟩
abbrev Jy:aeu:=top 44
theorem lE:FnScope ["picture","many","manner","marks","left","marked","steps","total","found","cost","seam"] ["picture","many","manner","marks"] (defScope Jy):=⟨rfl,rfl,rfl,by decide +kernel,rfl,by decide +kernel,by decide +kernel⟩
abbrev gG:aeu:=top 52
theorem Bq:FnScope ["picture","manner","wide","high","left","steps","cost"] ["picture","manner"] (defScope gG):=⟨rfl,rfl,rfl,by decide +kernel,rfl,by decide +kernel,by decide +kernel⟩
abbrev rP:aeu:=top 72
theorem lF:FnScope ["_law_script","_law_picture_here","_law_broad","_law_tall","_law_mode","_law_table_here","_law_seams","_law_pictures","_law_bad","_law_thing","_law_odd"] ["_law_script"] (defScope rP):=⟨rfl,rfl,rfl,by decide +kernel,rfl,by decide +kernel,by decide +kernel⟩
abbrev iw:aeu:=(defBody iZ).getD 0 (.Pass ⟨0,0,0,0⟩)
theorem Le:Io ["x","told","many"] ["x","told"] "many" (defScope iw):=⟨rfl,rfl,rfl,by decide +kernel,rfl,by decide +kernel,by decide +kernel,by decide +kernel,by decide +kernel⟩
structure Txt(K:PySem.W.Frag)(mg:Str->Option ad7):Prop where
 Pz:∃t,mg "FREE" =some (.int 0 t)
 PB:∃t,mg "GONE" =some (.int 2 t)
 PJ:∃t,mg "KEPT" =some (.int 1 t)
 vU:∃t,mg "MOST_CELL" =some (.int 99 t)
 p8:∃t,mg "MOST_LONG" =some (.int 20 t)
 Br:Yi K mg "MANNERS" ["worth","joins"]
 rQ:mg "abs" =none
 qb:mg "all" =none
 PL:mg "bool" =none
 eZ:mg "enumerate" =none
 UL:mg "int" =none
 fj:mg "isinstance" =none
 cU:mg "len" =none
 qH:mg "list" =none
 uW:mg "max" =none
 rR:mg "min" =none
 cV:mg "range" =none
 yL:mg "reversed" =none
 ux:mg "sorted" =none
 UW:mg "sum" =none
 cJ:mg "tuple" =none
 rT:mg "zip" =none
 G8:∀d:D,PySem.W.kitOne K (.type (jh d)) (.type "int")=some (Cz (jh d))
 Bs:∀d:D,PySem.W.kitOne K (.type (jh d)) (.type "bool")=some (xM (jh d))
 nu:∀d:D,PySem.W.kitOne K (.type (jh d)) (.type "tuple")=some (eO (jh d))
 G9:∀d:D,PySem.W.kitOne K (.type (jh d)) (.type "list")=some (Mt (jh d))
 Bt:∃C,ZV K mg "NoTable" C
 Bu:∃C,ZV K mg "NoWidth" C
 vV:∃C,mg "SeamError" =some (.ref C)/\∀c C',gZ c "SeamError" =true->PySem.W.nsIn K aed c=some (some (.ref C'))->PySem.W.exmOne K (.ref C') (.ref C)=some true
 qI:∃C,mg "NoTable" =some (.ref C)/\∀c C',gZ c c=true->PySem.W.nsIn K aed c=some (some (.ref C'))->Di K C'/\PySem.W.kitOne K (.ref C') (.ref C)=some (gZ c "NoTable")
 qJ:∃C,mg "NoWidth" =some (.ref C)/\∀c C',gZ c c=true->PySem.W.nsIn K aed c=some (some (.ref C'))->Di K C'/\PySem.W.kitOne K (.ref C') (.ref C)=some (gZ c "NoWidth")
abbrev tz(TP:ad5):List (ad5×Str):=[(TP,"best_ways.<locals>.first_ones")]
structure HX(K:PySem.W.Frag)(mg:Str->Option ad7):Prop extends Txt K mg where
 uz:DY K mg "_law_drawn" ud ["_law_script","_law_k","_law_many"]
 qZ:DY K mg "_law_manner" qQ ["_law_script","_law_at_here"]
 yM:DY K mg "is_whole" yE ["thing"]
 pQ:DY K mg "is_order_row" pL ["thing","wide"]
 Fo:DY K mg "is_way" Fe ["thing","wide","high"]
 uD:DY K mg "place_left" uf ["row","number"]
 yN:DY K mg "seams_in" yF ["table"]
 Bv:DY K mg "is_line" Bc ["thing"]
 Bw:DY K mg "is_cell" Bd ["thing"]
 Fp:DY K mg "is_row" Fg ["thing"]
 uE:DY K mg "is_picture" ug ["thing"]
 pR:DY K mg "need_picture" pN ["thing"]
 Bx:DY K mg "size_of" Bf ["picture"]
 vW:DY K mg "is_orders" vI ["thing","picture"]
 q8:DY K mg "need_orders" qR ["thing","picture"]
 uF:DY K mg "need_width" uh ["thing","least","most"]
 yO:DY K mg "at_width" yG ["picture","table","wide"]
 yP:DY K mg "seams_of" yH ["picture","table"]
 q9:DY K mg "mean_behind" qT ["row","place"]
 rm:DY K mg "widened_row" qU ["row","numbers","more"]
 BJ:DY K mg "widened" Bh ["picture","table","wide"]
 BK:DY K mg "_law_no" Bj ["_law_way","_law_picture_here","_law_table_here","_law_broad"]
 pU:DY K mg "_law_picture" pP ["_law_script","_law_at_here","_law_broad","_law_tall"]
 vX:DY K mg "_law_some" vJ ["_law_script","_law_at_here","_law_broad","_law_tall"]
 BL:DY K mg "_law_at" Bk ["_law_picture_here","_law_x","_law_y"]
 vY:DY K mg "_law_step" vK ["_law_picture_here","_law_mode","_law_x","_law_y","_law_before"]
 vZ:DY K mg "_law_cost" vM ["_law_picture_here","_law_mode","_law_seam"]
 uG:DY K mg "_law_signs" uo ["_law_tags","_law_seam","_law_sign"]
 wg:DY K mg "_law_ways" vN ["_law_broad","_law_tall"]
 wj:DY K mg "_law_best" vO ["_law_picture_here","_law_mode","_law_tags"]
 yQ:DY K mg "_law_cut" yI ["_law_rows","_law_seam"]
 wk:DY K mg "_law_free" vP ["_law_picture_here"]
 uH:DY K mg "_law_table" uq ["_law_picture_here","_law_mode"]
 yR:DY K mg "all_free" yJ ["picture"]
 rA:DY K mg "need_manner" qW ["thing"]
 wu:DY K mg "order_row" vQ ["places","wide"]
 rC:DY K mg "cells_along" qX ["picture","seam"]
 PN:DY K mg "gaps" Px ["line"]
 uI:DY K mg "join_fares" ur ["picture","y"]
 Fq:DY K mg "turned" Fi ["picture"]
 Ft:DY K mg "worths" Fj ["picture"]
 Jz:DY K mg "fares" Jw ["picture","manner"]
 BP:DY K mg "fare_of" Bm ["row","above","place"]
 PX:DY K mg "near" Py ["place","wide"]
 Fv:DY K mg "onward" Fl ["beneath","row","x"]
 JB:DY K mg "swept" sJ ["table","marks","start","gather"]
 wz:DY K mg "best_ways" iZ ["table","marks","many"]
 yS:DY K mg "from_top" yK ["table","rows"]
 rE:DY K mg "first_seams" qY ["table","marks","many"]
 wA:DY K mg "least_way" vR ["table","marks"]
 BR:DY K mg "without" Bp ["rows","seam"]
 JC:DY K mg "taken" Jy ["picture","many","manner","marks"]
 Zj:∃f fd,Fun K "orders" "orders" gG f fd/\mg "orders" =some (.ref f)/\(∃gA,KB K fd ["picture","manner"] [] [.inr (.str "worth" gA)])/\KB K fd ["picture","manner"] ["manner"] [.inl 0]
structure HB(K:PySem.W.Frag)(mg:Str->Option ad7)(base:aeo)(cN TP:ad5):Prop extends HX K mg where
 hB:pY base mg cN TP
 hC:zY K mg "best_ways" cN
section
variable{P:aek}{w:aep}{K:PySem.W.Frag}{mg:Str->Option ad7}{base:aeo}{cN TP:ad5}
theorem Lg{c:ad5}{A:aer}{s:ad8}{H:Hp}(T:Txt K mg)(hr:Room 0 (A.deeper (xU "best_ways.<locals>.first_ones" (defScope iw) f cdv s "many" c))):kI (xV P w K mg base ["x","told","many"] "best_ways.<locals>.first_ones" (defScope iw) f cdv A outer s H "many" c) (defBody iw) Av:=by
 exact (aL (bh (bM ["less","cost","places"] [0] rfl (by kernel_rfl) (by kernel_rfl) (dg (uO (aU (Nk (Np hr)) rfl T.ux boot_sorted (aj (dv 1) aq)) iV (iW (dv 2)))) (d7 (bF (aQ (by decide)) (bF (aQ (by decide)) (bF (aQ (by decide)) dZ)))) (λ_ _ _ _ nd=>gR rfl (bQ (aY 0 nd) (bQ (aY 1 nd) (bQ (aY 2 nd) gb)))) (λ_ _ _ _=>bL) (λ_ _ _ _=>(cG (aj (dv 0) (aj (dv 1) (aj (aM cA (cG (aj (dv 3) aq)) (dv 2)) aq))))))))
theorem JD(T:Txt K mg)(my:Int)(a c:ad5)(H:Hp)(co:Obj)(uy:ad7)(fh:kY H a "first_ones" "best_ways.<locals>.first_ones" (defArgs iw) (defBody iw) (defScope iw) [("many",c)])(hc:H c=some (.frz co (.own c)))(hcd:co.data= .cell (some uy))(hy:RelV (.int my) uy):zX P w K mg base 1 (fD my) 2 a H:=
 ab4 (k:=0) (m:=0) Le rfl rfl (λ_ _ _ _ _ us hl=>oE hl λ_ _=>rfl) (λcdv A outer s H f c hr=>Lg T  hr) fh hc hcd hy
theorem iz(T:HX K mg):eN P w K mg base 1 "_law_drawn" 3 dI:=
 fJ (k:=0) (g:=Ah) T.uz eE rfl rfl λcdv A outer s H E hr=>(aF (bO 3 eE.nd (aM qd aJ (dv 1))) (aF (dD (bV (lH (dH hr)) (dv 0) (dW aq)) (aF (bO 3 eE.nd (bN (dv 0) (aM qg (dv 1) (aU cD rfl T.cU PySem.boot_len (aj (dv 0) aq))))) (aF (bO 4 eE.nd (aM qe (dv 1) (aU cD rfl T.cU PySem.boot_len (aj (dv 0) aq)))) (aF (dD (DW.dt (zJ (bV Zz (dv 3) (aM Vd aJ aJ)) (wF (bV xG (dv 4) aJ)))) (aF (bO 5 eE.nd (aM qe (dv 3) (aM Vd aJ aJ))) (aF (Mh 64 aeZ (DW.dt (zJ (bV Cq (dv 5) aJ) (wF (bV Cq (dv 4) aJ)))) (aF (bO 5 eE.nd (aM qe (dv 5) aJ)) (aL (bO 4 eE.nd (aM cM (dv 4) aJ))))) (aL (dD (bV Cq (dv 5) aJ) (aL (bh (aM qg (aM qg (dv 5) aJ) (dv 2)))) cH)))) cH) (aL (bO 3 eE.nd (aM jL (dv 3) (aM qd aJ (aM qe (dv 1) (aU cD rfl T.cU PySem.boot_len (aj (dv 0) aq)))))))))) cH) (aF (bO 3 eE.nd (aM qg (aM jL (aM qd (aM qg (dv 3) aJ) aJ) (aM qd aJ (aM jL (dv 1) aJ))) aJ)) (aF (bO 3 eE.nd (aM qg (aM jL (aM qd (dv 3) (dv 3)) (aM qe (dv 3) aJ)) aJ)) (aL (bh (aM qg (aM qe (aM qg (aM jL (aM qd (dv 3) (dv 3)) (aM qe (dv 3) aJ)) aJ) aJ) (dv 2))))))))
theorem Lh(T:HX K mg):eN P w K mg base 2 "_law_manner" 2 qL:=
 fJ (k:=1) (g:=za) T.qZ Js rfl rfl λcdv A outer s H E hr=>(aL (bh (bN (dW (aj sO (aj sO aq))) (bH (iz T) hr (by decide) (aj (dv 0) (aj (dv 1) (aj aJ aq)))))))
theorem rW(T:HX K mg):eN P w K mg base 1 "is_whole" 1 jw:=
 fJ (k:=0) (g:=Gv) T.yM Qx rfl rfl λcdv A outer s H E hr=>(aL (bh (zH (sy (ans:=Cz) T.G8 (dv 0) rfl T.fj agp rfl T.UL boot_int) (zG (abE (sy (ans:=xM) T.Bs (dv 0) rfl T.fj agp rfl T.PL boot_bool))))))
theorem JF(T:HX K mg):eN P w K mg base 2 "is_order_row" 2 fH:=
 fJ (k:=1) (g:=wQ) T.pQ G4 rfl rfl λcdv A outer s H E hr=>(aF (dD (DW.dt (uJ (iQ (j9 (sy (ans:=eO) T.nu (dv 0) rfl T.fj agp rfl T.cJ aeP))) (sV (iQ (j9 (aU (qm rfl) rfl T.qb ahA (aj (bM ["number"] [] rfl (by kernel_rfl) (by kernel_rfl) (dg (dv 0)) (aQ (by decide)) (λ_ _ _ _ nd=>aY 0 nd) (λ_ _ _ _=>bL) (λ_ _ _ _=>(bH (rW T) hr (by decide) (aj (dv 0) aq)))) aq))))))) (aL (bh fK)) cH) (aL (bh (FJ (nH (dH hr)) (aU YJ rfl T.ux boot_sorted (aj (dv 0) aq)) (Nq rfl rfl T.qH rfl T.cV (aj (dv 1) aq))))))
theorem Zk(T:HX K mg):eN P w K mg base 2 "is_way" 3 xZ:=
 fJ (k:=1) (g:=Nv) T.Fo Xj rfl rfl λcdv A outer s H E hr=>(aF (dD (DW.dt (uJ (iQ (j9 (sy (ans:=eO) T.nu (dv 0) rfl T.fj agp rfl T.cJ aeP))) (sV (bV (lH (dH hr)) (aU cD rfl T.cU PySem.boot_len (aj (dv 0) aq)) (dv 2))))) (aL (bh fK)) cH) (aF (dD (iQ (j9 (aU (qm rfl) rfl T.qb ahA (aj (bM ["place"] [1] rfl (by kernel_rfl) (by kernel_rfl) (dg (dv 0)) (aQ (by decide)) (λ_ _ _ _ nd=>aY 0 nd) (λ_ _ _ _=>bL) (λ_ _ _ _=>(zH (bH (rW T) hr (by decide) (aj (dv 0) aq)) (zG (Ea rM xG aJ (dv 0) (dv 1)))))) aq)))) (aL (bh fK)) cH) (aL (bh (aU (qm rfl) rfl T.qb ahA (aj (bM ["y"] [0] rfl (by kernel_rfl) (by kernel_rfl) (Ve rfl T.cV (aj aJ (aj (dv 2) aq))) (aQ (by decide)) (λ_ _ _ _ nd=>aY 0 nd) (λ_ _ _ _=>bL) (λ_ _ _ _=>(FJ rM (aU tE rfl T.rQ ah0 (aj (aM cM (bN (dv 1) (dv 0)) (bN (dv 1) (aM cM (dv 0) aJ))) aq)) aJ))) aq))))))
theorem P0(T:HX K mg):eN P w K mg base 1 "place_left" 2 tU:=
 fJ (k:=0) (g:=Ai) T.uD K9 rfl rfl λcdv A outer s H E hr=>(aL (bh (aU cD rfl T.cU PySem.boot_len (aj (bM ["other"] [1] rfl (by kernel_rfl) (by kernel_rfl) (dg (pA (dv 0) iV (iW (Wf (dH hr) (dv 0) (dv 1))))) (aQ (by decide)) (λ_ _ _ _ nd=>aY 0 nd) (λ_ _ _ _=>(rZ (bV Cq (dv 0) (dv 1)))) (λ_ _ _ _=>(dv 0))) aq))))
theorem Hf(T:HX K mg):eN P w K mg base 2 "seams_in" 1 nQ:=
 fJ (k:=1) (g:=Gw) T.yN Qy rfl rfl λcdv A outer s H E hr=>(aL (bh (bM ["number"] [0] rfl (by kernel_rfl) (by kernel_rfl) (dX rfl T.cV (aj (aU cD rfl T.cU PySem.boot_len (aj (bN (dv 0) aJ) aq)) aq)) (aQ (by decide)) (λ_ _ _ _ nd=>aY 0 nd) (λ_ _ _ _=>bL) (λ_ _ _ _=>(cQ cY rfl T.cJ aeP (aj (bM ["row"] [0] rfl (by kernel_rfl) (by kernel_rfl) (dg (dv 1)) (aQ (by decide)) (λ_ _ _ _ nd=>aY 0 nd) (λ_ _ _ _=>bL) (λ_ _ _ _=>(bH (P0 T) hr (by decide) (aj (dv 0) (aj (dv 1) aq))))) aq))))))
theorem KN(T:HX K mg):eN P w K mg base 1 "is_line" 1 qC:=
  fJ (k:=0) (g:=Kc) T.Bv Uw rfl rfl fun cdv A outer s H E hr=>(by
    obtain⟨QD,wB⟩:=T.p8
    exact (aL (bh (zH (sy (ans:=eO) T.nu (dv 0) rfl T.fj agp rfl T.cJ aeP) (zG (Ea rM rM aJ (aU cD rfl T.cU PySem.boot_len (aj (dv 0) aq)) (rY rfl wB)))))))
theorem Xl(T:HX K mg):eN P w K mg base 2 "is_cell" 1 Aj:=
  fJ (k:=1) (g:=Ke) T.Bw Ux rfl rfl fun cdv A outer s H E hr=>(by
    obtain⟨ac4,QF⟩:=T.vU
    exact (aL (bh (zH (bH (rW T) hr (by decide) (aj (dv 0) aq)) (zG (Ea rM rM aJ (dv 0) (rY rfl QF)))))))
theorem Zm(T:HX K mg):eN P w K mg base 3 "is_row" 1 Ew:=
 fJ (k:=2) (g:=Nx) T.Fp Xk rfl rfl λcdv A outer s H E hr=>(aL (bh (zH (bH (KN T) hr (by decide) (aj (dv 0) aq)) (zG (aU (qm rfl) rfl T.qb ahA (aj (bM ["cell"] [] rfl (by kernel_rfl) (by kernel_rfl) (dg (dv 0)) (aQ (by decide)) (λ_ _ _ _ nd=>aY 0 nd) (λ_ _ _ _=>bL) (λ_ _ _ _=>(bH (Xl T) hr (by decide) (aj (dv 0) aq)))) aq))))))
theorem Qa(T:HX K mg):eN P w K mg base 4 "is_picture" 1 tV:=
 fJ (k:=3) (g:=Ak) T.uE La rfl rfl λcdv A outer s H E hr=>(aF (dD (DW.dt (uJ (iQ (j9 (bH (KN T) hr (by decide) (aj (dv 0) aq)))) (sV (iQ (j9 (aU (qm rfl) rfl T.qb ahA (aj (bM ["row"] [] rfl (by kernel_rfl) (by kernel_rfl) (dg (dv 0)) (aQ (by decide)) (λ_ _ _ _ nd=>aY 0 nd) (λ_ _ _ _=>bL) (λ_ _ _ _=>(bH (Zm T) hr (by decide) (aj (dv 0) aq)))) aq))))))) (aL (bh fK)) cH) (aL (bh (aU (qm rfl) rfl T.qb ahA (aj (bM ["row"] [0] rfl (by kernel_rfl) (by kernel_rfl) (dg (dv 0)) (aQ (by decide)) (λ_ _ _ _ nd=>aY 0 nd) (λ_ _ _ _=>bL) (λ_ _ _ _=>(FJ (nH (dH hr)) (aU cD rfl T.cU PySem.boot_len (aj (dv 0) aq)) (aU cD rfl T.cU PySem.boot_len (aj (bN (dv 1) aJ) aq))))) aq)))))
theorem JG(T:HX K mg):eN P w K mg base 5 "need_picture" 1 pD:=
 fJ (k:=4) (g:=wR) T.pR G5 rfl rfl λcdv A outer s H E hr=>(aL (dD (iQ (j9 (bH (Qa T) hr (by decide) (aj (dv 0) aq)))) (aL Mg) cH))
theorem uX(T:HX K mg):eN P w K mg base 6 "size_of" 1 m7:=
 fJ (k:=5) (g:=Kf) T.Bx Uy rfl rfl λcdv A outer s H E hr=>(aF (jP (bH (JG T) hr (by decide) (aj (dv 0) aq))) (aL (bh (cG (aj (aU cD rfl T.cU PySem.boot_len (aj (bN (dv 0) aJ) aq)) (aj (aU cD rfl T.cU PySem.boot_len (aj (dv 0) aq)) aq))))))
theorem wC(T:HX K mg):eN P w K mg base 7 "is_orders" 2 gM:=
 fJ (k:=6) (g:=Dm) T.vW Bg rfl rfl λcdv A outer s H E hr=>(aF (wI 2 3 rfl Bg.nd (bH (uX T) hr (by decide) (aj (dv 1) aq))) (aF (dD (DW.dt (uJ (iQ (j9 (sy (ans:=eO) T.nu (dv 0) rfl T.fj agp rfl T.cJ aeP))) (uJ (bV (lH (dH hr)) (aU cD rfl T.cU PySem.boot_len (aj (dv 0) aq)) (dv 3)) (sV (iQ (j9 (aU (qm rfl) rfl T.qb ahA (aj (bM ["row"] [2] rfl (by kernel_rfl) (by kernel_rfl) (dg (dv 0)) (aQ (by decide)) (λ_ _ _ _ nd=>aY 0 nd) (λ_ _ _ _=>bL) (λ_ _ _ _=>(bH (JF T) hr (by decide) (aj (dv 0) (aj (dv 1) aq))))) aq)))))))) (aL (bh fK)) cH) (aL (bh (aU (qm rfl) rfl T.qb ahA (aj (bM ["gone","seam"] [3,2] rfl (by kernel_rfl) (by kernel_rfl) (lK rfl T.eZ (aj (bH (Hf T) hr (by decide) (aj (dv 0) aq)) aq)) (d7 (bF (aQ (by decide)) (bF (aQ (by decide)) dZ))) (λ_ _ _ _ nd=>gR rfl (bQ (aY 0 nd) (bQ (aY 1 nd) gb))) (λ_ _ _ _=>bL) (λ_ _ _ _=>(bH (Zk T) hr (by decide) (aj (dv 1) (aj (aM cM (dv 3) (dv 0)) (aj (dv 2) aq)))))) aq))))))
theorem rF(T:HB K mg base cN TP):yD P w K mg base 8 "need_orders" 2 iK ["thing","picture"] (tz TP):=
  Pn (k:=7) (m:=0) (g:=zc) T.q8 Jt rfl rfl fun cdv A outer s H E hr hT=>((by
    obtain⟨dj,Bt⟩:=T.Bt
    exact (aL (dD (iQ (j9 (bH (wC T.toHX) hr (by decide) (aj (dv 0) (aj (dv 1) aq))))) (aL (Ym rfl Bt (aj sO aq) (fun _=>⟨_,rfl,by decide⟩))) cH))))
theorem BW(T:HB K mg base cN TP):yD P w K mg base 2 "need_width" 3 lu ["thing","least","most"] (tz TP):=
  Pn (k:=1) (m:=0) (g:=Al) T.uF Lb rfl rfl fun cdv A outer s H E hr hT=>((by
    obtain⟨dB,Bu⟩:=T.Bu
    exact (aL (dD (DW.dt (uJ (iQ (j9 (bH (rW T.toHX) hr (by decide) (aj (dv 0) aq)))) (sV (iQ (XF rM rM (dv 1) (dv 0) (dv 2)))))) (aL (V8 rfl Bu (aj (adn (dv 1) (dv 2)) aq))) cH))))
theorem Hg(T:HB K mg base cN TP):yD P w K mg base 9 "at_width" 3 lM ["picture","table","wide"] (tz TP):=
 Pn (k:=8) (m:=1) (g:=Gx) T.yO DP rfl rfl λcdv A outer s H E hr hT=>((aF (jP (jX (rF T) hT hr (by decide) (aj (dv 1) (aj (dv 0) aq)))) (aF (jP (jX (BW T) hT hr (by decide) (aj (dv 2) (aj aJ (aj (aU cD rfl T.cU PySem.boot_len (aj (bN (dv 0) aJ) aq)) aq))))) (aF (bO 3 DP.nd (aM cM (aU cD rfl T.cU PySem.boot_len (aj (bN (dv 0) aJ) aq)) (dv 2))) (aL (bh (cQ cY rfl T.cJ aeP (aj (bM ["row","numbers"] [3] rfl (by kernel_rfl) (by kernel_rfl) (pB rfl T.rT (aj (dv 0) (aj (dv 1) aq))) (d7 (bF (aQ (by decide)) (bF (aQ (by decide)) dZ))) (λ_ _ _ _ nd=>gR rfl (bQ (aY 0 nd) (bQ (aY 1 nd) gb))) (λ_ _ _ _=>bL) (λ_ _ _ _=>(cQ cY rfl T.cJ aeP (aj (bM ["cell","number"] [2] rfl (by kernel_rfl) (by kernel_rfl) (pB rfl T.rT (aj (dv 0) (aj (dv 1) aq))) (d7 (bF (aQ (by decide)) (bF (aQ (by decide)) dZ))) (λ_ _ _ _ nd=>gR rfl (bQ (aY 0 nd) (bQ (aY 1 nd) gb))) (λ_ _ _ _=>(rZ (bV Zz (dv 1) (dv 2)))) (λ_ _ _ _=>(dv 0))) aq)))) aq))))))))
theorem Hh(T:HB K mg base cN TP):yD P w K mg base 9 "seams_of" 2 nR ["picture","table"] (tz TP):=
 Pn (k:=8) (m:=0) (g:=Gy) T.yP Qz rfl rfl λcdv A outer s H E hr hT=>((aF (jP (jX (rF T) hT hr (by decide) (aj (dv 1) (aj (dv 0) aq)))) (aL (bh (bH (Hf T.toHX) hr (by decide) (aj (dv 1) aq))))))
theorem Li(T:HX K mg):eN P w K mg base 1 "mean_behind" 2 zj:=
 fJ (k:=0) (g:=zf) T.q9 xu rfl rfl λcdv A outer s H E hr=>(aF (bO 2 xu.nd (aU (tH rfl) rfl T.rR ah1 (aj (aM cA (dv 1) aJ) (aj (aM cM (aU cD rfl T.cU PySem.boot_len (aj (dv 0) aq)) aJ) aq)))) (aL (bh (aM qe (aM cA (bN (dv 0) (dv 1)) (bN (dv 0) (dv 2))) aJ))))
theorem Lj(T:HX K mg):eN P w K mg base 2 "widened_row" 3 zp:=
 fJ (k:=1) (g:=zm) T.rm pO rfl rfl λcdv A outer s H E hr=>(aF (o7 3 pO.nd aq) (aF (jg aeZ rfl (lK rfl T.eZ (aj (dv 1) aq)) (su 4 5 rfl pO.nd) (aF (qj 3 (bN (dv 0) (dv 4))) (aL (dD (bV xG (dv 5) (dv 2)) (aL (qj 3 (bH (Li T) hr (by decide) (aj (dv 0) (aj (dv 4) aq))))) cH)))) (aL (bh (cQ cY rfl T.cJ aeP (aj (dv 3) aq))))))
theorem Xm(T:HB K mg base cN TP):yD P w K mg base 9 "widened" 3 uP ["picture","table","wide"] (tz TP):=
  Pn (k:=8) (m:=1) (g:=Kg) T.BJ G6 rfl rfl fun cdv A outer s H E hr hT=>((by
    obtain⟨QD,wB⟩:=T.p8
    exact (aF (jP (jX (rF T) hT hr (by decide) (aj (dv 1) (aj (dv 0) aq)))) (aF (bO 3 G6.nd (aU cD rfl T.cU PySem.boot_len (aj (bN (dv 0) aJ) aq))) (aF (jP (jX (BW T) hT hr (by decide) (aj (dv 2) (aj (dv 3) (aj (aU (tH rfl) rfl T.rR ah1 (aj (aM gq aJ (dv 3)) (aj (rY rfl wB) aq))) aq))))) (aL (bh (cQ cY rfl T.cJ aeP (aj (bM ["row","numbers"] [3,2] rfl (by kernel_rfl) (by kernel_rfl) (pB rfl T.rT (aj (dv 0) (aj (dv 1) aq))) (d7 (bF (aQ (by decide)) (bF (aQ (by decide)) dZ))) (fun _ _ _ _ nd=>gR rfl (bQ (aY 0 nd) (bQ (aY 1 nd) gb))) (fun _ _ _ _=>bL) (fun _ _ _ _=>(bH (Lj T.toHX) hr (by decide) (aj (dv 0) (aj (dv 1) (aj (aM cM (dv 3) (dv 2)) aq)))))) aq)))))))))
theorem uY(T:HB K mg base cN TP):yC P w K mg base 10 "_law_no" 4 fQ ["_law_way","_law_picture_here","_law_table_here","_law_broad"] (tz TP):=
  Uv (k:=9) (m:=1) (g:=Kh) T.BK G7 rfl rfl fun cdv A outer s H E _ hr hT=>((by
    obtain⟨acW,QG,QH⟩:=T.vV
    obtain⟨U0,qI,Xn⟩:=T.qI
    obtain⟨U3,qJ,Xo⟩:=T.qJ
    exact (aF (abZ 4 G7.nd rfl rfl rfl QG QH (fun _ _=>(aL (dD (bV (nH (dH hr)) (dv 0) aJ) (aL (jP (jX (Hh T) hT hr (by decide) (aj (dv 1) (aj (dv 2) aq))))) (aL (dD (bV (nH (dH hr)) (dv 0) aJ) (aL (jP (jX (Hg T) hT hr (by decide) (aj (dv 1) (aj (dv 2) (aj (dv 3) aq)))))) (aL (jP (jX (Xm T) hT hr (by decide) (aj (dv 1) (aj (dv 2) (aj (dv 3) aq))))))))))) (fun _=>(aL (bh (dW (aj (M8 4 rfl T.fj (pe_glob (v:= .ref U0) rfl qI rfl (by decide)) (fun _ z=>z) Xn) (aj (M8 4 rfl T.fj (pe_glob (v:= .ref U3) rfl qJ rfl (by decide)) (fun _ z=>z) Xo) aq))))))) (aL (bh (dW aq))))))
theorem JH(T:HX K mg):eN P w K mg base 2 "_law_picture" 4 pF:=
 fJ (k:=1) (g:=wU) T.pU oF rfl rfl λcdv A outer s H E hr=>(aF (aax 4 5 rfl oF.nd (bN (dW (aj aJ (aj aJ (aj aJ (aj aJ aq))))) (bH (iz T) hr (by decide) (aj (dv 0) (aj (dv 1) (aj aJ aq))))) aq) (aF (jg aeZ rfl (dX rfl T.cV (aj (dv 3) aq)) (mL 6 oF.nd) (aL (qj 5 (cQ cY rfl T.cJ aeP (aj (bM ["_law_x"] [1,2,4,0,6] rfl (by kernel_rfl) (by kernel_rfl) (dX rfl T.cV (aj (dv 2) aq)) (aQ (by decide)) (λ_ _ _ _ nd=>aY 0 nd) (λ_ _ _ _=>bL) (λ_ _ _ _=>(bH (iz T) hr (by decide) (aj (dv 4) (aj (aM jL (aM jL (aM jL (dv 1) aJ) (aM qd (dv 2) (dv 5))) (dv 0)) (aj (dv 3) aq)))))) aq))))) (aL (bh (cQ cY rfl T.cJ aeP (aj (dv 5) aq))))))
theorem QJ(T:HX K mg):eN P w K mg base 3 "_law_some" 4 vg:=
 fJ (k:=2) (g:=Dn) T.vX Pq rfl rfl λcdv A outer s H E hr=>(aL (bh (bH (JH T) hr (by decide) (aj (dv 0) (aj (aM jL (dv 1) aJ) (aj (aM jL aJ (bH (iz T) hr (by decide) (aj (dv 0) (aj (dv 1) (aj (dv 2) aq))))) (aj (aM jL aJ (bH (iz T) hr (by decide) (aj (dv 0) (aj (aM jL (dv 1) aJ) (aj (dv 3) aq))))) aq)))))))
theorem uZ(T:HX K mg):eN P w K mg base 1 "_law_at" 3 jo:=
 fJ (k:=0) (g:=Kl) T.BL Uz rfl rfl λcdv A outer s H E hr=>(aL (bh (bN (bN (dv 0) (aU (wM rfl) rfl T.uW aiT (aj aJ (aj (aU (tH rfl) rfl T.rR ah1 (aj (aM cM (aU cD rfl T.cU PySem.boot_len (aj (dv 0) aq)) aJ) (aj (dv 2) aq))) aq)))) (aU (wM rfl) rfl T.uW aiT (aj aJ (aj (aU (tH rfl) rfl T.rR ah1 (aj (aM cM (aU cD rfl T.cU PySem.boot_len (aj (bN (dv 0) aJ) aq)) aJ) (aj (dv 1) aq))) aq))))))
theorem QK(T:HX K mg):eN P w K mg base 2 "_law_step" 5 jW:=
 fJ (k:=1) (g:=Dq) T.vY um rfl rfl λcdv A outer s H E hr=>(aF (bO 5 um.nd (aU tE rfl T.rQ ah0 (aj (aM cM (bH (uZ T) hr (by decide) (aj (dv 0) (aj (aM cM (dv 2) aJ) (aj (dv 3) aq)))) (bH (uZ T) hr (by decide) (aj (dv 0) (aj (aM cA (dv 2) aJ) (aj (dv 3) aq))))) aq))) (aF (dD (bV (nH (dH hr)) (dv 1) sO) (aL (bh (aM cA (dv 5) (aU tE rfl T.rQ ah0 (aj (aM cM (bH (uZ T) hr (by decide) (aj (dv 0) (aj (dv 2) (aj (aM cM (dv 3) aJ) aq)))) (bH (uZ T) hr (by decide) (aj (dv 0) (aj (dv 2) (aj (aM cA (dv 3) aJ) aq))))) aq))))) cH) (aF (dD (DW.dt (zJ (bV X4 (dv 4) jf) (wF (bV (lH (dH hr)) (dv 4) (dv 2))))) (aL (bO 5 um.nd (aM cA (dv 5) (aU tE rfl T.rQ ah0 (aj (aM cM (bN (bN (dv 0) (aM cM (dv 3) aJ)) (dv 2)) (bN (bN (dv 0) (dv 3)) (Lr (bV xG (dv 4) (dv 2)) (aM cM (dv 2) aJ) (aM cA (dv 2) aJ)))) aq))))) cH) (aL (bh (dv 5))))))
theorem QL(T:HX K mg):eN P w K mg base 3 "_law_cost" 3 pZ:=
 fJ (k:=2) (g:=Dr) T.vZ Bl rfl rfl λcdv A outer s H E hr=>(aF (bO 3 Bl.nd (aM cA (cG (aj jf aq)) (pA (dv 2) iV (iW (kW aJ))))) (aL (bh (aU (abK rfl) rfl T.UW boot_sum (aj (bM ["_law_y","_law_x"] [3,1,0] rfl (by kernel_rfl) (by kernel_rfl) (lK rfl T.eZ (aj (dv 2) aq)) (d7 (bF (aQ (by decide)) (bF (aQ (by decide)) dZ))) (λ_ _ _ _ nd=>gR rfl (bQ (aY 0 nd) (bQ (aY 1 nd) gb))) (λ_ _ _ _=>bL) (λ_ _ _ _=>(bH (QK T) hr (by decide) (aj (dv 4) (aj (dv 3) (aj (dv 1) (aj (dv 0) (aj (bN (dv 2) (dv 0)) aq)))))))) aq)))))
theorem BX(T:HX K mg):eN P w K mg base 1 "_law_signs" 3 lA:=
 fJ (k:=0) (g:=Am) T.uG Ld rfl rfl λcdv A outer s H E hr=>(aL (bh (aU cD rfl T.cU PySem.boot_len (aj (bM ["_law_row","_law_x"] [2] rfl (by kernel_rfl) (by kernel_rfl) (pB rfl T.rT (aj (dv 0) (aj (dv 1) aq))) (d7 (bF (aQ (by decide)) (bF (aQ (by decide)) dZ))) (λ_ _ _ _ nd=>gR rfl (bQ (aY 0 nd) (bQ (aY 1 nd) gb))) (λ_ _ _ _=>(rZ (bV (nH (dH hr)) (bN (dv 0) (dv 1)) (dv 2)))) (λ_ _ _ _=>(dv 1))) aq))))
theorem QM(T:HX K mg):eN P w K mg base 1 "_law_ways" 2 vh:=
 fJ (k:=0) (g:=Ds) T.wg iu rfl rfl λcdv A outer s H E hr=>(aF (aaK 2 iu.nd ["_law_x"] [] rfl (by kernel_rfl) (by kernel_rfl) (dX rfl T.cV (aj (dv 0) aq)) (aQ (by decide)) (λ_ _ _ _ nd=>aY 0 nd) (λ_ _ _ _=>bL) (λ_ _ _ _=>(cG (aj (dv 0) aq)))) (aF (jg aeZ rfl (dX rfl T.cV (aj (aM cM (dv 1) aJ) aq)) (mL 3 iu.nd) (aF (bO 4 iu.nd (dW aq)) (aF (jg aeZ rfl (dg (dv 2)) (mL 5 iu.nd) (aL (bO 4 iu.nd (aM cA (dv 4) (bM ["_law_x"] [0,5] rfl (by kernel_rfl) (by kernel_rfl) (dg (cG (aj (aM cM (bN (dv 5) (kW aJ)) aJ) (aj (bN (dv 5) (kW aJ)) (aj (aM cA (bN (dv 5) (kW aJ)) aJ) aq))))) (aQ (by decide)) (λ_ _ _ _ nd=>aY 0 nd) (λ_ _ _ _=>(rZ (DW.dt (zJ (bV rM aJ (dv 0)) (wF (bV xG (dv 0) (dv 1))))))) (λ_ _ _ _=>(aM cA (dv 2) (cG (aj (dv 0) aq))))))))) (aL (bO 2 iu.nd (dv 4)))))) (aL (bh (dv 2)))))
theorem QS(T:HX K mg):eN P w K mg base 4 "_law_best" 3 vm:=
 fJ (k:=3) (g:=Dt) T.wj lD rfl rfl λcdv A outer s H E hr=>(aF (bO 3 lD.nd jf) (aF (jg aeZ rfl (dg (bH (QM T) hr (by decide) (aj (aU cD rfl T.cU PySem.boot_len (aj (bN (dv 0) aJ) aq)) (aj (aU cD rfl T.cU PySem.boot_len (aj (dv 0) aq)) aq)))) (mL 4 lD.nd) (aL (dD (bV (nH (dH hr)) (bH (BX T) hr (by decide) (aj (dv 2) (aj (dv 4) (aj aJ aq)))) aJ) (aF (bO 5 lD.nd (cG (aj (kW (bH (BX T) hr (by decide) (aj (dv 2) (aj (dv 4) (aj aJ aq))))) (aj (bH (QL T) hr (by decide) (aj (dv 0) (aj (dv 1) (aj (dv 4) aq)))) (aj (dv 4) aq))))) (aL (bO 3 lD.nd (Lr (DW.dt (uJ (bV Tw (dv 3) jf) (sV (bV (ab7 (Np hr)) (dv 5) (dv 3))))) (dv 5) (dv 3))))) cH))) (aL (bh (Lr (bV Tw (dv 3) jf) jf (bN (dv 3) aJ))))))
theorem U4(T:HX K mg):eN P w K mg base 1 "_law_cut" 2 yc:=
 fJ (k:=0) (g:=Gz) T.yQ QB rfl rfl λcdv A outer s H E hr=>(aL (bh (cQ cY rfl T.cJ aeP (aj (bM ["_law_row","_law_x"] [] rfl (by kernel_rfl) (by kernel_rfl) (pB rfl T.rT (aj (dv 0) (aj (dv 1) aq))) (d7 (bF (aQ (by decide)) (bF (aQ (by decide)) dZ))) (λ_ _ _ _ nd=>gR rfl (bQ (aY 0 nd) (bQ (aY 1 nd) gb))) (λ_ _ _ _=>bL) (λ_ _ _ _=>(cQ cY rfl T.cJ aeP (aj (bM ["_law_at_here","_law_one"] [1] rfl (by kernel_rfl) (by kernel_rfl) (lK rfl T.eZ (aj (dv 0) aq)) (d7 (bF (aQ (by decide)) (bF (aQ (by decide)) dZ))) (λ_ _ _ _ nd=>gR rfl (bQ (aY 0 nd) (bQ (aY 1 nd) gb))) (λ_ _ _ _=>(rZ (bV (lH (dH hr)) (dv 0) (dv 2)))) (λ_ _ _ _=>(dv 1))) aq)))) aq))))
theorem QT(T:HX K mg):eN P w K mg base 1 "_law_free" 1 vo:=
 fJ (k:=0) (g:=Du) T.wk Pr rfl rfl λcdv A outer s H E hr=>(aL (bh (cQ cY rfl T.cJ aeP (aj (bM ["_law_row"] [] rfl (by kernel_rfl) (by kernel_rfl) (dg (dv 0)) (aQ (by decide)) (λ_ _ _ _ nd=>aY 0 nd) (λ_ _ _ _=>bL) (λ_ _ _ _=>(aM gq (cG (aj aJ aq)) (aU cD rfl T.cU PySem.boot_len (aj (dv 0) aq))))) aq))))
theorem BZ(T:HX K mg):eN P w K mg base 5 "_law_table" 2 nU:=
 fJ (k:=4) (g:=Ao) T.uH fU rfl rfl λcdv A outer s H E hr=>(aF (bO 2 fU.nd (aU cD rfl T.cU PySem.boot_len (aj (bN (dv 0) aJ) aq))) (aF (Yy 3 fU.nd ["_law_row"] [2] rfl (by kernel_rfl) (by kernel_rfl) (dg (dv 0)) (aQ (by decide)) (λ_ _ _ _ nd=>aY 0 nd) (λ_ _ _ _=>bL) (λ_ _ _ _=>(Nq rfl rfl T.qH rfl T.cV (aj (dv 1) aq)))) (aF (YF 4 fU.nd ["_law_row"] [2] rfl (by kernel_rfl) (by kernel_rfl) (dg (dv 0)) (aQ (by decide)) (λ_ _ _ _ nd=>aY 0 nd) (λ_ _ _ _=>bL) (λ_ _ _ _=>(RM (dW (aj jf aq)) (dv 1)))) (aF (YH 5 6 rfl fU.nd V9 V9 (RQ aq) (RQ (aj (dv 0) aq))) (aF (jg aeZ rfl (dX rfl T.cV (aj (dv 2) aq)) (mL 7 fU.nd) (aF (bO 8 fU.nd (bH (QS T) hr (by decide) (aj (tO 6 (kW aJ)) (aj (dv 1) (aj (bH (QT T) hr (by decide) (aj (tO 6 (kW aJ)) aq)) aq))))) (aF (qj 5 (dv 8)) (aF (jg aeZ rfl (lK rfl T.eZ (aj (dv 8) aq)) (su 9 10 rfl fU.nd) (aF (YD 4 (dv 9) (bN (tO 3 (dv 9)) (dv 10)) (dv 7)) (aL (aaZ 3 (dv 9) (aM cA (uO (tO 3 (dv 9)) iV (iW (dv 10))) (uO (tO 3 (dv 9)) (iW (aM cA (dv 10) aJ)) iV)))))) (aL (dD (bV xG (dv 7) (aM cM (dv 2) aJ)) (aL (qj 6 (bH (U4 T) hr (by decide) (aj (tO 6 (kW aJ)) (aj (dv 8) aq))))) cH)))))) (aL (bh (cG (aj (cQ cY rfl T.cJ aeP (aj (bM ["_law_row"] [] rfl (by kernel_rfl) (by kernel_rfl) (dg (dv 4)) (aQ (by decide)) (λ_ _ _ _ nd=>aY 0 nd) (λ_ _ _ _=>bL) (λ_ _ _ _=>(cQ cY rfl T.cJ aeP (aj (dv 0) aq)))) aq)) (aj (dv 5) (aj (dv 6) aq)))))))))))
theorem U5(T:HX K mg):eN P w K mg base 1 "all_free" 1 yd:=
  fJ (k:=0) (g:=GC) T.yR QC rfl rfl fun cdv A outer s H E hr=>(by
    obtain⟨adX,acX⟩:=T.Pz
    exact (aL (bh (aM gq (cG (aj (aM gq (cG (aj (rY rfl acX) aq)) (aU cD rfl T.cU PySem.boot_len (aj (bN (dv 0) aJ) aq))) aq)) (aU cD rfl T.cU PySem.boot_len (aj (dv 0) aq))))))
theorem Ln(T:HX K mg):eN P w K mg base 1 "need_manner" 1 qM:=
 fJ (k:=0) (g:=zq) T.rA Ju rfl rfl λcdv A outer s H E hr=>(aL (dD (bV X5 (dv 0) (aaH (ss:=["worth","joins"]) rfl T.Br) (by rfl)) (aL Mg) cH))
theorem QV(T:HX K mg):eN P w K mg base 1 "order_row" 2 vB:=
 fJ (k:=0) (g:=Dv) T.wu oG rfl rfl λcdv A outer s H E hr=>(aF (V7 2 oG.nd (Wg rfl rfl T.qH rfl T.cV (aj (dv 1) aq))) (aF (V7 3 oG.nd (RM (dW (aj aJ aq)) (dv 1))) (aF (jg aeZ rfl (lK rfl T.eZ (aj (dv 0) aq)) (su 4 5 rfl oG.nd) (aL (Wb 3 2 (dv 5) (dv 4)))) (aL (bh (cQ cY rfl T.cJ aeP (aj (dv 3) aq)))))))
theorem Lp(T:HX K mg):eN P w K mg base 1 "cells_along" 2 qN:=
 fJ (k:=0) (g:=zu) T.rC Jv rfl rfl λcdv A outer s H E hr=>(aL (bh (cQ cY rfl T.cJ aeP (aj (bM ["row","place"] [] rfl (by kernel_rfl) (by kernel_rfl) (pB rfl T.rT (aj (dv 0) (aj (dv 1) aq))) (d7 (bF (aQ (by decide)) (bF (aQ (by decide)) dZ))) (λ_ _ _ _ nd=>gR rfl (bQ (aY 0 nd) (bQ (aY 1 nd) gb))) (λ_ _ _ _=>bL) (λ_ _ _ _=>(bN (dv 0) (dv 1)))) aq))))
theorem Qc(T:HX K mg):eN P w K mg base 1 "gaps" 1 Aq:=
 fJ (k:=0) (g:=Wh) T.PN Tg rfl rfl λcdv A outer s H E hr=>(aF (bO 1 Tg.nd (aM cM (aU cD rfl T.cU PySem.boot_len (aj (dv 0) aq)) aJ)) (aL (bh (bM ["at"] [1,0] rfl (by kernel_rfl) (by kernel_rfl) (dX rfl T.cV (aj (aU cD rfl T.cU PySem.boot_len (aj (dv 0) aq)) aq)) (aQ (by decide)) (λ_ _ _ _ nd=>aY 0 nd) (λ_ _ _ _=>bL) (λ_ _ _ _=>(aU tE rfl T.rQ ah0 (aj (aM cM (bN (dv 2) (aU (wM rfl) rfl T.uW aiT (aj (aM cM (dv 0) aJ) (aj aJ aq)))) (bN (dv 2) (aU (tH rfl) rfl T.rR ah1 (aj (aM cA (dv 0) aJ) (aj (dv 1) aq))))) aq)))))))
theorem Qd(T:HX K mg):eN P w K mg base 2 "join_fares" 2 tW:=
 fJ (k:=1) (g:=Ar) T.uI fV rfl rfl λcdv A outer s H E hr=>(aF (bO 2 fV.nd (bN (dv 0) (dv 1))) (aF (bO 3 fV.nd (bN (dv 0) (aU (wM rfl) rfl T.uW aiT (aj (aM cM (dv 1) aJ) (aj aJ aq))))) (aF (bO 4 fV.nd (aM cM (aU cD rfl T.cU PySem.boot_len (aj (dv 2) aq)) aJ)) (aF (o7 5 fV.nd aq) (aF (jg aeZ rfl (lK rfl T.eZ (aj (bH (Qc T) hr (by decide) (aj (dv 2) aq)) aq)) (su 6 7 rfl fV.nd) (aF (bO 8 fV.nd (aM cA (dv 7) (aU tE rfl T.rQ ah0 (aj (aM cM (bN (dv 3) (dv 6)) (bN (dv 2) (aU (wM rfl) rfl T.uW aiT (aj (aM cM (dv 6) aJ) (aj aJ aq))))) aq)))) (aF (bO 9 fV.nd (aM cA (dv 7) (aU tE rfl T.rQ ah0 (aj (aM cM (bN (dv 3) (dv 6)) (bN (dv 2) (aU (tH rfl) rfl T.rR ah1 (aj (aM cA (dv 6) aJ) (aj (dv 4) aq))))) aq)))) (aL (qj 5 (cG (aj (dv 8) (aj (dv 7) (aj (dv 9) aq))))))))) (aL (bh (dv 5))))))))
theorem Zn(T:HX K mg):eN P w K mg base 7 "turned" 1 Ey:=
 fJ (k:=6) (g:=Ny) T.Fq KJ rfl rfl λcdv A outer s H E hr=>(aF (wI 1 2 rfl KJ.nd (bH (uX T) hr (by decide) (aj (dv 0) aq))) (aL (bh (cQ cY rfl T.cJ aeP (aj (bM ["x"] [2,0] rfl (by kernel_rfl) (by kernel_rfl) (dX rfl T.cV (aj (dv 1) aq)) (aQ (by decide)) (λ_ _ _ _ nd=>aY 0 nd) (λ_ _ _ _=>bL) (λ_ _ _ _=>(cQ cY rfl T.cJ aeP (aj (bM ["y"] [2,0] rfl (by kernel_rfl) (by kernel_rfl) (dX rfl T.cV (aj (dv 1) aq)) (aQ (by decide)) (λ_ _ _ _ nd=>aY 0 nd) (λ_ _ _ _=>bL) (λ_ _ _ _=>(bN (bN (dv 1) (dv 0)) (dv 2)))) aq)))) aq)))))
theorem Zo(T:HX K mg):eN P w K mg base 8 "worths" 1 Ez:=
 fJ (k:=7) (g:=Nz) T.Ft uV rfl rfl λcdv A outer s H E hr=>(aF (wI 1 2 rfl uV.nd (bH (uX T) hr (by decide) (aj (dv 0) aq))) (aF (bO 3 uV.nd (bM ["row"] [] rfl (by kernel_rfl) (by kernel_rfl) (dg (dv 0)) (aQ (by decide)) (λ_ _ _ _ nd=>aY 0 nd) (λ_ _ _ _=>bL) (λ_ _ _ _=>(bH (Qc T) hr (by decide) (aj (dv 0) aq))))) (aF (bO 4 uV.nd (bM ["column"] [] rfl (by kernel_rfl) (by kernel_rfl) (dg (bH (Zn T) hr (by decide) (aj (dv 0) aq))) (aQ (by decide)) (λ_ _ _ _ nd=>aY 0 nd) (λ_ _ _ _=>bL) (λ_ _ _ _=>(bH (Qc T) hr (by decide) (aj (dv 0) aq))))) (aL (bh (cQ cY rfl T.cJ aeP (aj (bM ["y"] [3,4,1] rfl (by kernel_rfl) (by kernel_rfl) (dX rfl T.cV (aj (dv 2) aq)) (aQ (by decide)) (λ_ _ _ _ nd=>aY 0 nd) (λ_ _ _ _=>bL) (λ_ _ _ _=>(cQ cY rfl T.cJ aeP (aj (bM ["x"] [1,2,0] rfl (by kernel_rfl) (by kernel_rfl) (dX rfl T.cV (aj (dv 3) aq)) (aQ (by decide)) (λ_ _ _ _ nd=>aY 0 nd) (λ_ _ _ _=>bL) (λ_ _ _ _=>(aM cA (bN (bN (dv 1) (dv 3)) (dv 0)) (bN (bN (dv 2) (dv 0)) (dv 3))))) aq)))) aq)))))))
theorem abw(T:HX K mg):eN P w K mg base 9 "fares" 2 wV:=
 fJ (k:=8) (g:=RT) T.Jz Zi rfl rfl λcdv A outer s H E hr=>(aF (dD (bV (nH (dH hr)) (dv 1) sO) (aL (bh (bM ["row"] [] rfl (by kernel_rfl) (by kernel_rfl) (dg (bH (Zo T) hr (by decide) (aj (dv 0) aq))) (aQ (by decide)) (λ_ _ _ _ nd=>aY 0 nd) (λ_ _ _ _=>bL) (λ_ _ _ _=>(bM ["worth"] [] rfl (by kernel_rfl) (by kernel_rfl) (dg (dv 0)) (aQ (by decide)) (λ_ _ _ _ nd=>aY 0 nd) (λ_ _ _ _=>bL) (λ_ _ _ _=>(cG (aj (dv 0) (aj (dv 0) (aj (dv 0) aq)))))))))) cH) (aL (bh (bM ["y"] [0] rfl (by kernel_rfl) (by kernel_rfl) (dX rfl T.cV (aj (aU cD rfl T.cU PySem.boot_len (aj (dv 0) aq)) aq)) (aQ (by decide)) (λ_ _ _ _ nd=>aY 0 nd) (λ_ _ _ _=>bL) (λ_ _ _ _=>(bH (Qd T) hr (by decide) (aj (dv 1) (aj (dv 0) aq))))))))
theorem KQ(T:HX K mg):eN P w K mg base 1 "fare_of" 3 m8:=
 fJ (k:=0) (g:=Km) T.BP UG rfl rfl λcdv A outer s H E hr=>(aL (bh (bN (bN (dv 0) (dv 2)) (aM cA (aM cM (dv 1) (dv 2)) aJ))))
theorem acY(T:HX K mg):eN P w K mg base 1 "near" 2 NK:=
 fJ (k:=0) (g:=Wi) T.PX abv rfl rfl λcdv A outer s H E hr=>(aL (bh (Yu rfl rfl T.qH rfl T.cV (aj (aU (wM rfl) rfl T.uW aiT (aj (aM cM (dv 0) aJ) (aj aJ aq))) (aj (aU (tH rfl) rfl T.rR ah1 (aj (aM cA (dv 0) aJ) (aj (dv 1) aq))) aq)))))
theorem Fw(T:HX K mg):eN P w K mg base 2 "onward" 3 yg:=
 fJ (k:=1) (g:=NP) T.Fv qG rfl rfl λcdv A outer s H E hr=>(aF (o7 3 qG.nd aq) (aF (jg aeZ rfl (dg (bH (acY T) hr (by decide) (aj (dv 2) (aj (aU cD rfl T.cU PySem.boot_len (aj (dv 0) aq)) aq)))) (mL 4 qG.nd) (aF (bO 5 qG.nd (bH (KQ T) hr (by decide) (aj (dv 1) (aj (dv 2) (aj (dv 4) aq))))) (aL (RJ 3 qG.nd (bM ["less","cost","rest"] [5] rfl (by kernel_rfl) (by kernel_rfl) (dg (bN (dv 0) (dv 4))) (d7 (bF (aQ (by decide)) (bF (aQ (by decide)) (bF (aQ (by decide)) dZ)))) (λ_ _ _ _ nd=>gR rfl (bQ (aY 0 nd) (bQ (aY 1 nd) (bQ (aY 2 nd) gb)))) (λ_ _ _ _=>bL) (λ_ _ _ _=>(cG (aj (dv 0) (aj (aM cA (dv 1) (dv 3)) (aj (dv 2) aq)))))))))) (aL (bh (dv 3)))))
theorem Zq{A:aer}{s:ad8}{H:Hp}{E:XK}(T:Txt K mg)(Fw:eN P w K mg base 2 "onward" 3 yg){aG:Nat}{GG:List D->R D}(hG:zX P w K mg base 1 GG 2 aG H)(hr:Room 2 (A.deeper (afP "swept" (defScope sJ) s.heap.objs.size f cdv))):kI (cxOf CX0 P w K mg base ["table","marks","start","gather","rows","y","row","x","mark","told","lost"] "swept" (defScope sJ) f cdv A outer s H E).nox (defBody sJ) (IW aG GG):=by
 obtain⟨adY,acZ⟩:=T.PB;obtain⟨adZ,ac0⟩:=T.PJ;exact (aF (o7 4 jB.nd aq) (aF (jg aeZ rfl (aaT rfl T.yL rfl T.cV (aj (aU cD rfl T.cU PySem.boot_len (aj (dv 1) aq)) aq)) (mL 5 jB.nd) (aF (o7 6 jB.nd aq) (aF (jg aeZ rfl (lK rfl T.eZ (aj (bN (dv 1) (dv 5)) aq)) (su 7 8 rfl jB.nd) (aF (dD (bV (nH (dH hr)) (dv 8) (rY rfl ac0)) (aL (bO 9 jB.nd (dW aq))) (aL (dD (iQ (V5 (dv 4))) (aL (bO 9 jB.nd (M9 3 hG hr (by decide) (aj (dv 7) (aj (dW (aj (cG (aj aJ (aj aJ (aj (dv 2) aq)))) aq)) aq))))) (aL (bO 9 jB.nd (M9 3 hG hr (by decide) (aj (dv 7) (aj (bH Fw hr (by decide) (aj (tO 4 (kW aJ)) (aj (bN (dv 0) (aM cA (dv 5) aJ)) (aj (dv 7) aq)))) aq)))))))) (aF (bO 10 jB.nd (Lr (bV (nH (dH hr)) (dv 8) (rY rfl acZ)) aJ aJ)) (aL (qj 6 (bM ["less","cost","rest"] [10] rfl (by kernel_rfl) (by kernel_rfl) (dg (dv 9)) (d7 (bF (aQ (by decide)) (bF (aQ (by decide)) (bF (aQ (by decide)) dZ)))) (λ_ _ _ _ nd=>gR rfl (bQ (aY 0 nd) (bQ (aY 1 nd) (bQ (aY 2 nd) gb)))) (λ_ _ _ _=>bL) (λ_ _ _ _=>(cG (aj (aM cM (dv 0) (dv 3)) (aj (dv 1) (aj (dv 2) aq))))))))))) (aL (aaR 4 6 (by decide)))))) (aL (bh (aaQ (dv 4))))))
theorem JK(T:HX K mg):FnS P w K mg base 3 "swept" 1 3 2 wW:=by
 obtain⟨f,fd,Fn,hmg,hb⟩:=T.JB;exact⟨f,fd,["table","marks","start","gather"],fnS (k:=2) (m:=7) (g:=IW) Fn jB rfl rfl λcdv A outer s H E a G hr hG=>Zq T.toTxt (Fw T) hG hr,hmg,Fn.kp,hb⟩
theorem Qe{cc TP:ad5}{A:aer}{s:ad8}{H:Hp}{E:XK}(T:Txt K mg)(JK:FnS P w K mg base 3 "swept" 1 3 2 wW)(hB:pY base mg cc TP)(hT:Tb [(TP,"best_ways.<locals>.first_ones")] H)(hr:Room 3 (A.deeper (afP "best_ways" (defScope iZ) s.heap.objs.size f (.ref cc)))):kI (cxOf CX0 P w K mg base ["table","marks","many","first_ones"] "best_ways" (defScope iZ) f (.ref cc) A outer s H E).nox (defBody iZ) vC:=by
 obtain⟨fS,Nb,J2,Sw,hm,hk,hb⟩:=JK;exact Yt (c:=s.heap.objs.size+1) (y:= "many") 3 2 Bo.nd hB hT rfl Sw (hr.mono (by decide)) hm hk hb (JD T ) (dv 0) (dv 1) (cG aq) rfl rfl rfl rfl (by decide) (.inl rfl)
theorem QW(T:HB K mg base cN TP):yC P w K mg base 4 "best_ways" 3 vG ["table","marks","many"] (tz TP):=by
 obtain⟨f,fd,Fn,hmg,hb⟩:=T.wz;refine⟨fd,⟨f,ZW (k:=3) (m:=1) (g:=vC) Fn Bo rfl rfl λcdv A outer s H E hcd hr hT=>?_,hmg,Fn.kp⟩,hb⟩;have e:fd.code= .ref cN:=by
  obtain⟨oc,od,kV,doc,pm,an,ad3,ct,osl,e1,lk,_⟩:=Fn.ex;exact T.hC f oc od fd osl hmg lk
 cases hcd.symm.trans e;exact Qe T.toHX.toTxt (JK T.toHX) T.hB hT hr
theorem U6(T:HX K mg):eN P w K mg base 2 "from_top" 2 yh:=
 fJ (k:=1) (g:=GD) T.yS mD rfl rfl λcdv A outer s H E hr=>(aF (o7 2 mD.nd aq) (aF (jg aeZ rfl (lK rfl T.eZ (aj (bN (dv 1) aJ) aq)) (su 3 4 rfl mD.nd) (aF (bO 5 mD.nd (bH (KQ T) hr (by decide) (aj (bN (dv 0) aJ) (aj (dv 3) (aj (dv 3) aq))))) (aL (RJ 2 mD.nd (bM ["less","cost","rest"] [5] rfl (by kernel_rfl) (by kernel_rfl) (dg (dv 4)) (d7 (bF (aQ (by decide)) (bF (aQ (by decide)) (bF (aQ (by decide)) dZ)))) (λ_ _ _ _ nd=>gR rfl (bQ (aY 0 nd) (bQ (aY 1 nd) (bQ (aY 2 nd) gb)))) (λ_ _ _ _=>bL) (λ_ _ _ _=>(cG (aj (dv 0) (aj (aM cA (dv 1) (dv 3)) (aj (dv 2) aq)))))))))) (aL (bh (dv 2)))))
theorem Lq(T:HB K mg base cN TP):yC P w K mg base 5 "first_seams" 3 qO ["table","marks","many"] (tz TP):=
 Uv (k:=4) (m:=0) (g:=zx) T.rE Jx rfl rfl λcdv A outer s H E _ hr hT=>((aL (bh (uO (aU (Nk (Np hr)) rfl T.ux boot_sorted (aj (bH (U6 T.toHX) hr (by decide) (aj (dv 0) (aj (nq (QW T) hT hr (by decide) (aj (dv 0) (aj (dv 1) (aj (dv 2) aq)))) aq))) aq)) iV (iW (dv 2))))))
theorem QX(T:HB K mg base cN TP):yC P w K mg base 6 "least_way" 2 p7 ["table","marks"] (tz TP):=
 Uv (k:=5) (m:=4) (g:=Dw) T.wA uw rfl rfl λcdv A outer s H E _ hr hT=>((aF (bO 2 uw.nd (nq (Lq T) hT hr (by decide) (aj (dv 0) (aj (dv 1) (aj aJ aq))))) (aF (dD (iQ (V5 (dv 2))) (aL (bh jf)) cH) (aF (CN 3 4 5 rfl uw.nd (bN (dv 2) aJ)) (aL (bh (cG (aj (dv 4) (aj (dv 5) aq)))))))))
theorem KR(T:HX K mg):eN P w K mg base 1 "without" 2 uQ:=
 fJ (k:=0) (g:=Ko) T.BR UJ rfl rfl λcdv A outer s H E hr=>(aL (bh (cQ cY rfl T.cJ aeP (aj (bM ["row","place"] [] rfl (by kernel_rfl) (by kernel_rfl) (pB rfl T.rT (aj (dv 0) (aj (dv 1) aq))) (d7 (bF (aQ (by decide)) (bF (aQ (by decide)) dZ))) (λ_ _ _ _ nd=>gR rfl (bQ (aY 0 nd) (bQ (aY 1 nd) gb))) (λ_ _ _ _=>bL) (λ_ _ _ _=>(aM cA (pA (dv 0) iV (iW (dv 1))) (pA (dv 0) (iW (aM cA (dv 1) aJ)) iV)))) aq))))
theorem abx(T:HB K mg base cN TP):yC P w K mg base 10 "taken" 4 Ja ["picture","many","manner","marks"] (tz TP):=
 Uv (k:=9) (m:=7) (g:=RV) T.JC lE rfl rfl λcdv A outer s H E _ hr hT=>((aF (Vt 4 5 rfl lE.nd (dv 0) (dv 3)) (aF (o7 6 lE.nd aq) (aF (bO 7 lE.nd aJ) (aF (Mh 64 aeZ (bV xG (aU cD rfl T.cU PySem.boot_len (aj (dv 6) aq)) (dv 1)) (aF (bO 8 lE.nd (nq (QX T) hT hr (by decide) (aj (bH (abw T.toHX) hr (by decide) (aj (dv 4) (aj (dv 2) aq))) (aj (dv 5) aq)))) (aF (dD (bV Tw (dv 8) jf) (aL (bh jf)) cH) (aF (wI 9 10 rfl lE.nd (dv 8)) (aF (qj 6 (cG (aj (dv 10) (aj (bH (Lp T.toHX) hr (by decide) (aj (dv 4) (aj (dv 10) aq))) aq)))) (aF (abW 7 lE.nd (dv 9)) (aL (Vt 4 5 rfl lE.nd (bH (KR T.toHX) hr (by decide) (aj (dv 4) (aj (dv 10) aq))) (bH (KR T.toHX) hr (by decide) (aj (dv 5) (aj (dv 10) aq))))))))))) (aL (bh (cG (aj (dv 4) (aj (dv 6) (aj (dv 7) aq)))))))))))
theorem yU(T:HB K mg base cN TP):∃fd,Im P w K mg base 11 "orders" 2 yj fd ["picture","manner"] (tz TP)/\(∃gA,KB K fd ["picture","manner"] [] [.inr (.str "worth" gA)])/\KB K fd ["picture","manner"] ["manner"] [.inl 0]:=by
 obtain⟨f,fd,Fn,hmg,B⟩:=T.Zj;exact⟨fd,⟨f,ZW (k:=10) (m:=5) (g:=NQ) Fn Bq rfl rfl λcdv A outer s H E _ hr hT=>((aF (wI 2 3 rfl Bq.nd (bH (uX T.toHX) hr (by decide) (aj (dv 0) aq))) (aF (jP (bH (Ln T.toHX) hr (by decide) (aj (dv 1) aq))) (aF (CN 4 5 6 rfl Bq.nd (nq (abx T) hT hr (by decide) (aj (dv 0) (aj (dv 2) (aj (dv 1) (aj (bH (U5 T.toHX) hr (by decide) (aj (dv 0) aq)) aq)))))) (aL (bh (cQ cY rfl T.cJ aeP (aj (bM ["y"] [5,2] rfl (by kernel_rfl) (by kernel_rfl) (dX rfl T.cV (aj (dv 3) aq)) (aQ (by decide)) (λ_ _ _ _ nd=>aY 0 nd) (λ_ _ _ _=>bL) (λ_ _ _ _=>(bH (QV T.toHX) hr (by decide) (aj (bM ["seam","cells"] [0] rfl (by kernel_rfl) (by kernel_rfl) (dg (dv 1)) (d7 (bF (aQ (by decide)) (bF (aQ (by decide)) dZ))) (λ_ _ _ _ nd=>gR rfl (bQ (aY 0 nd) (bQ (aY 1 nd) gb))) (λ_ _ _ _=>bL) (λ_ _ _ _=>(bN (dv 0) (dv 2)))) (aj (dv 2) aq))))) aq)))))))),hmg,Fn.kp⟩,B⟩
theorem ok_law{fd:aeU}(Fn:Fun K "law" "law" rP f fd)(hmg:mg "law" =some (.ref f))(T:HB K mg base cN TP):Im P w K mg base 12 "law" 1 GF fd ["_law_script"] (tz TP):=
  ⟨f,ZW (k:=11) (m:=10) (g:=aae) Fn lF rfl rfl fun cdv A outer s H E _ hr hT=>((by
    obtain⟨adx,yU,⟨gA,oH⟩,oJ⟩:=yU T
    exact (aF (bO 1 lF.nd (bH (QJ T.toHX) hr (by decide) (aj (dv 0) (aj aJ (aj aJ (aj aJ aq)))))) (aF (CN 2 3 4 rfl lF.nd (cG (aj (aU cD rfl T.cU PySem.boot_len (aj (bN (dv 1) aJ) aq)) (aj (aU cD rfl T.cU PySem.boot_len (aj (dv 1) aq)) (aj (bH (Lh T.toHX) hr (by decide) (aj (dv 0) (aj aJ aq))) aq))))) (aF (CN 5 6 7 rfl lF.nd (bH (BZ T.toHX) hr (by decide) (aj (dv 1) (aj (dv 4) aq)))) (aF (dD (bV (lH (dH hr)) (aaM (ks:=["manner"]) (.at 0 .nil) yU hT hr (by decide) oJ (aj (dv 1) aq) (aaD (dv 4) abT)) (dv 5)) (aL (bh fK)) cH) (aF (dD (bV (lH (dH hr)) (aaN (.str _ _ .nil) yU hT hr (by decide) oH (aj (dv 1) aq)) (bN (bH (BZ T.toHX) hr (by decide) (aj (dv 1) (aj sO aq))) aJ)) (aL (bh fK)) cH) (aF (dD (DW.dt (uJ (bV Rp (bH (wC T.toHX) hr (by decide) (aj (dv 5) (aj (dv 1) aq))) fK) (sV (bV (lH (dH hr)) (jX (Hh T) hT hr (by decide) (aj (dv 1) (aj (dv 5) aq))) (dv 6))))) (aL (bh fK)) cH) (aF (dD (bV (lH (dH hr)) (Eu ["_law_number"] [2,1,5] rfl (by kernel_rfl) (by kernel_rfl) (dX rfl T.cV (aj (dv 2) aq)) (aQ (by decide)) (fun _ _ _ _ nd=>aY 0 nd) hT (fun _ _ _ _ hT=>bL) (fun _ _ _ _ hT=>(jX (Hg T) hT hr (by decide) (aj (dv 2) (aj (dv 3) (aj (aM cM (dv 1) (dv 0)) aq)))))) (dv 7)) (aL (bh fK)) cH) (aF (bO 8 lF.nd (dW (aj jf (aj (cQ Q8 rfl T.qH boot_list (aj (dv 5) aq)) (aj (aM cA (dv 5) (pA (dv 5) iV (iW aJ))) (aj (aM gq (cG (aj (aM gq (cG (aj aJ aq)) (aM cA (dv 2) aJ)) aq)) (dv 3)) aq)))))) (aF (bO 8 lF.nd (aM cA (dv 8) (dW (aj (aM gq (cG (aj (aM gq (cG (aj (dv 2) aq)) (dv 2)) aq)) (dv 3)) (aj (aM gq (cG (aj (aM gq (cG (aj jf aq)) (dv 2)) aq)) (dv 3)) (aj (pA (dv 5) iV (iW (kW aJ))) aq)))))) (aF (bO 8 lF.nd (aM cA (dv 8) (dW (aj aJ (aj (cQ cY rfl T.cJ aeP (aj (bM ["_law_row"] [] rfl (by kernel_rfl) (by kernel_rfl) (dg (dv 5)) (aQ (by decide)) (fun _ _ _ _ nd=>aY 0 nd) (fun _ _ _ _=>bL) (fun _ _ _ _=>(cQ Q8 rfl T.qH boot_list (aj (dv 0) aq)))) aq)) aq))))) (aF (dD (DW.dt (zJ (bV Cq (dv 2) aJ) (wF (bV Cq (dv 3) aJ)))) (aF (bO 8 lF.nd (aM cA (dv 8) (dW (aj (aM cA (cG (aj (Ro rfl rfl T.cJ rfl T.cV (aj (dv 2) aq)) aq)) (aM gq (cG (aj (abO (Ro rfl rfl T.cJ rfl T.cV (aj (dv 2) aq))) aq)) (aM cM (dv 3) aJ))) aq)))) (aL (bO 8 lF.nd (aM cA (dv 8) (dW (aj (aM gq (cG (aj (aM gq (cG (aj aJ aq)) (dv 2)) aq)) (dv 3)) aq)))))) cH) (aF (bO 9 lF.nd (bN (dv 8) (bH (iz T.toHX) hr (by decide) (aj (dv 0) (aj aJ (aj (aU cD rfl T.cU PySem.boot_len (aj (dv 8) aq)) aq)))))) (aF (bO 10 lF.nd (bN (dW (aj aJ (aj jf (aj fK (aj sO (aj (kW aJ) (aj (aM cA (aM gq aJ (dv 2)) aJ) aq))))))) (bH (iz T.toHX) hr (by decide) (aj (dv 0) (aj aJ (aj aJ aq)))))) (aF (dD (bV (lH (dH hr)) (bM ["_law_one"] [1] rfl (by kernel_rfl) (by kernel_rfl) (dg (dv 8)) (aQ (by decide)) (fun _ _ _ _ nd=>aY 0 nd) (fun _ _ _ _=>(rZ (bV Rp (bH (wC T.toHX) hr (by decide) (aj (dv 0) (aj (dv 1) aq))) fK))) (fun _ _ _ _=>(dv 0))) (dW aq)) (aL (bh fK)) cH) (aF (dD (bV (lH (dH hr)) (Eu ["_law_way"] [10,1,9] rfl (by kernel_rfl) (by kernel_rfl) (dX rfl T.cV (aj aJ aq)) (aQ (by decide)) (fun _ _ _ _ nd=>aY 0 nd) hT (fun _ _ _ _ hT=>bL) (fun _ _ _ _ hT=>(nq (uY T) hT hr (by decide) (aj (dv 0) (aj (dv 2) (aj (dv 3) (aj (dv 1) aq))))))) (aM Rw (dW (aj (dW (aj fK (aj fK aq))) aq)) aJ)) (aL (bh fK)) cH) (aF (dD (bV (lH (dH hr)) (nq (uY T) hT hr (by decide) (aj aJ (aj (dv 1) (aj (dv 5) (aj (aM cA (dv 2) aJ) aq))))) (dW (aj fK (aj fK aq)))) (aL (bh fK)) cH) (aF (dD (bV (lH (dH hr)) (nq (uY T) hT hr (by decide) (aj aJ (aj (dv 1) (aj (dv 5) (aj (aM cM (dv 2) aJ) aq))))) (dW (aj fK (aj fK aq)))) (aL (bh fK)) cH) (aL (bh (FJ (nH (dH hr)) (Eu ["_law_way"] [10,1,5] rfl (by kernel_rfl) (by kernel_rfl) (dg (cG (aj aJ (aj aJ aq)))) (aQ (by decide)) (fun _ _ _ _ nd=>aY 0 nd) hT (fun _ _ _ _ hT=>bL) (fun _ _ _ _ hT=>(nq (uY T) hT hr (by decide) (aj (dv 0) (aj (dv 2) (aj (dv 3) (aj (dv 1) aq))))))) (aM Rw (dW (aj (dW (aj fK (aj fK aq))) aq)) aJ))))))))))))))))))))))),hmg,Fn.kp⟩
end
theorem all_mk{l:PySem.W.OpenLaw}{w:aep}{h:aeo}{mg:Str->Option ad7}{fa yV U7:ad5}(X:K.In h)(G:h.Ns aed mg)(hfa:mg "law" =some (.ref fa))
  {Xp Ca:Option ad5}{Xq:Array (Option ad7)}{Xr Cd Ce Cg u6 Ci:ad7}
  {ac1 Xu:Option ad5}{ac2:Array (Option ad7)}{ac3 Xv Xw Xx Qf Xy:ad7}
  {aby:Tok}(Pz:PySem.W.nsIn K aed "FREE" =some (some (.int 0 aby)))
  {abz:Tok}(PB:PySem.W.nsIn K aed "GONE" =some (some (.int 2 abz)))
  {abA:Tok}(PJ:PySem.W.nsIn K aed "KEPT" =some (some (.int 1 abA)))
  {Qg:Tok}(vU:PySem.W.nsIn K aed "MOST_CELL" =some (some (.int 99 Qg)))
  {Qh:Tok}(p8:PySem.W.nsIn K aed "MOST_LONG" =some (some (.int 20 Qh)))
  {Hi:ad5}{U8:Nat}{U9:Array (Option ad7)}{Qi Qj:Tok}(Br:PySem.W.nsIn K aed "MANNERS" =some (some (.ref Hi)))(Xz:K.lookup Hi=some ⟨.type "tuple",none,.seq #[.str "worth" Qi,.str "joins" Qj] U8,U9⟩)
  (rQ:PySem.W.nsIn K aed "abs" =some none)
  (qb:PySem.W.nsIn K aed "all" =some none)
  (PL:PySem.W.nsIn K aed "bool" =some none)
  (eZ:PySem.W.nsIn K aed "enumerate" =some none)
  (UL:PySem.W.nsIn K aed "int" =some none)
  (fj:PySem.W.nsIn K aed "isinstance" =some none)
  (cU:PySem.W.nsIn K aed "len" =some none)
  (qH:PySem.W.nsIn K aed "list" =some none)
  (uW:PySem.W.nsIn K aed "max" =some none)
  (rR:PySem.W.nsIn K aed "min" =some none)
  (cV:PySem.W.nsIn K aed "range" =some none)
  (yL:PySem.W.nsIn K aed "reversed" =some none)
  (ux:PySem.W.nsIn K aed "sorted" =some none)
  (UW:PySem.W.nsIn K aed "sum" =some none)
  (cJ:PySem.W.nsIn K aed "tuple" =some none)
  (rT:PySem.W.nsIn K aed "zip" =some none)
  (G8:∀d:D,PySem.W.kitOne K (.type (jh d)) (.type "int")=some (Cz (jh d)))
  (Bs:∀d:D,PySem.W.kitOne K (.type (jh d)) (.type "bool")=some (xM (jh d)))
  (nu:∀d:D,PySem.W.kitOne K (.type (jh d)) (.type "tuple")=some (eO (jh d)))
  (G9:∀d:D,PySem.W.kitOne K (.type (jh d)) (.type "list")=some (Mt (jh d)))
  {dj:ad5}(nD:PySem.W.nsIn K aed "NoTable" =some (some (.ref dj)))
  {dB:ad5}(nF:PySem.W.nsIn K aed "NoWidth" =some (some (.ref dB)))
  {mF:ad5}(QZ:PySem.W.nsIn K aed "SeamError" =some (some (.ref mF)))
  (Cj:PySem.W.excIn K dj Yl "ValueError.__new__" =true)
  (Hj:PySem.W.findIn K (.ref dj) "__getattribute__" =some (some (.builtin "BaseException.__getattribute__")))(Hl:PySem.W.findIn K (.ref dj) "__getattr__" =some none)(Ho:(PySem.W.clsIn K dj).isSome=true)(Hq:PySem.W.findIn K (.ref dj) "__class__" =some (some (.builtin "object.__class__")))
  (Hr:PySem.W.specialIn K (.builtin "object.__class__") "__get__" =some (some (.builtin "getset_descriptor.__get__")))(Ht:PySem.W.takesIn K (.builtin "object.__class__")=some true)(Hu:PySem.W.mroIn K dj (.type "object")=some true)(Hv:PySem.W.mroIn K dj (.type "BaseException")=some true)
  (oU:PySem.W.exmOne K (.ref dj) (.ref mF)=some true)
  (lW:PySem.W.kitOne K (.ref dj) (.ref dj)=some true)
  (lX:PySem.W.kitOne K (.ref dj) (.ref dB)=some false)
  (Ck:PySem.W.excIn K dB Yl "ValueError.__new__" =true)
  (Hw:PySem.W.findIn K (.ref dB) "__getattribute__" =some (some (.builtin "BaseException.__getattribute__")))(Hx:PySem.W.findIn K (.ref dB) "__getattr__" =some none)(Hy:(PySem.W.clsIn K dB).isSome=true)(Hz:PySem.W.findIn K (.ref dB) "__class__" =some (some (.builtin "object.__class__")))
  (HD:PySem.W.specialIn K (.builtin "object.__class__") "__get__" =some (some (.builtin "getset_descriptor.__get__")))(HF:PySem.W.takesIn K (.builtin "object.__class__")=some true)(HJ:PySem.W.mroIn K dB (.type "object")=some true)(HN:PySem.W.mroIn K dB (.type "BaseException")=some true)
  (oV:PySem.W.exmOne K (.ref dB) (.ref mF)=some true)
  (lY:PySem.W.kitOne K (.ref dB) (.ref dj)=some false)
  (lZ:PySem.W.kitOne K (.ref dB) (.ref dB)=some true)
  (uz:DX K "_law_drawn" ud)
  (qZ:DX K "_law_manner" qQ)
  (yM:DX K "is_whole" yE)
  (pQ:DX K "is_order_row" pL)
  (Fo:DX K "is_way" Fe)
  (uD:DX K "place_left" uf)
  (yN:DX K "seams_in" yF)
  (Bv:DX K "is_line" Bc)
  (Bw:DX K "is_cell" Bd)
  (Fp:DX K "is_row" Fg)
  (uE:DX K "is_picture" ug)
  (pR:DX K "need_picture" pN)
  (Bx:DX K "size_of" Bf)
  (vW:DX K "is_orders" vI)
  (q8:DX K "need_orders" qR)
  (uF:DX K "need_width" uh)
  (yO:DX K "at_width" yG)
  (yP:DX K "seams_of" yH)
  (q9:DX K "mean_behind" qT)
  (rm:DX K "widened_row" qU)
  (BJ:DX K "widened" Bh)
  (BK:DX K "_law_no" Bj)
  (pU:DX K "_law_picture" pP)
  (vX:DX K "_law_some" vJ)
  (BL:DX K "_law_at" Bk)
  (vY:DX K "_law_step" vK)
  (vZ:DX K "_law_cost" vM)
  (uG:DX K "_law_signs" uo)
  (wg:DX K "_law_ways" vN)
  (wj:DX K "_law_best" vO)
  (yQ:DX K "_law_cut" yI)
  (wk:DX K "_law_free" vP)
  (uH:DX K "_law_table" uq)
  (yR:DX K "all_free" yJ)
  (rA:DX K "need_manner" qW)
  (wu:DX K "order_row" vQ)
  (rC:DX K "cells_along" qX)
  (PN:DX K "gaps" Px)
  (uI:DX K "join_fares" ur)
  (Fq:DX K "turned" Fi)
  (Ft:DX K "worths" Fj)
  (Jz:DX K "fares" Jw)
  (BP:DX K "fare_of" Bm)
  (PX:DX K "near" Py)
  (Fv:DX K "onward" Fl)
  (JB:DX K "swept" sJ)
  (wz:DX K "best_ways" iZ)
  (yS:DX K "from_top" yK)
  (rE:DX K "first_seams" qY)
  (wA:DX K "least_way" vR)
  (BR:DX K "without" Bp)
  (JC:DX K "taken" Jy)
  (Zr:PySem.W.nsIn K aed "orders" =some (some (.ref yV)))(Zt:K.lookup yV=some ⟨Xr,Xp,.func (PySem.W.fnOf "orders" "orders" (defArgs gG) (defBody gG) (defScope gG) .none Cd Ce Cg Ca u6 Ci),Xq⟩)(Zu:PySem.W.codeIn K u6 "orders" =true)(Zv:PySem.W.keepIn K (.ref yV)=true)
  (Va:PySem.W.nsIn K aed "law" =some (some (.ref U7)))(adt:K.lookup U7=some ⟨ac3,ac1,.func (PySem.W.fnOf "law" "law" (defArgs rP) (defBody rP) (defScope rP) .none Xv Xw Xx Xu Qf Xy),ac2⟩)(adu:PySem.W.codeIn K Qf "law" =true)(adv:PySem.W.keepIn K (.ref U7)=true)
  {gA:Tok}
  (oH:KB K (PySem.W.fnOf "orders" "orders" (defArgs gG) (defBody gG) (defScope gG) .none Cd Ce Cg Ca u6 Ci) ["picture","manner"] [] [.inr (.str "worth" gA)])
  (oJ:KB K (PySem.W.fnOf "orders" "orders" (defArgs gG) (defBody gG) (defScope gG) .none Cd Ce Cg Ca u6 Ci) ["picture","manner"] ["manner"] [.inl 0])
  :∃fd:aeU,(∀(s:ad8) (v:ad7),ahh s fd ⟨[v],[]⟩ [("_law_script",v)])/\∀(base:aeo) (c TP:ad5),K.In base->base.Ns aed mg->pY base mg c TP->zY K mg "best_ways" c->FnOk l.prog w K mg base CX0 12 fa fd ["_law_script"] (spT [(TP,"best_ways.<locals>.first_ones")] K 1 GF):=by
 have e:=hfa.symm.trans (PySem.W.mg_of X G Va);cases e;have KY:Di K dj:=⟨Hj,Hl,Ho,Hq,Hr,Ht,Hu,Hv⟩;have KZ:Di K dB:=⟨Hw,Hx,Hy,Hz,HD,HF,HJ,HN⟩;have vV:∀c C',gZ c "SeamError" =true->PySem.W.nsIn K aed c=some (some (.ref C'))->PySem.W.exmOne K (.ref C') (.ref mF)=some true:=by
  intro c C' h1 h2;rcases Ag h1 with rfl |rfl
  ·cases nF.symm.trans h2;exact oV
  ·cases nD.symm.trans h2;exact oU
 have qI:∀c C',gZ c c=true->PySem.W.nsIn K aed c=some (some (.ref C'))->Di K C'/\PySem.W.kitOne K (.ref C') (.ref dj)=some (gZ c "NoTable"):=by
  intro c C' h1 h2;rcases Ag h1 with rfl |rfl
  ·cases nF.symm.trans h2;exact⟨KZ,by rw[show gZ "NoWidth" "NoTable" =false from by decide];exact lY⟩
  ·cases nD.symm.trans h2;exact⟨KY,by rw[show gZ "NoTable" "NoTable" =true from by decide];exact lW⟩
 have qJ:∀c C',gZ c c=true->PySem.W.nsIn K aed c=some (some (.ref C'))->Di K C'/\PySem.W.kitOne K (.ref C') (.ref dB)=some (gZ c "NoWidth"):=by
  intro c C' h1 h2;rcases Ag h1 with rfl |rfl
  ·cases nF.symm.trans h2;exact⟨KZ,by rw[show gZ "NoWidth" "NoWidth" =true from by decide];exact lZ⟩
  ·cases nD.symm.trans h2;exact⟨KY,by rw[show gZ "NoTable" "NoWidth" =false from by decide];exact lX⟩
 have T:Txt K mg:=⟨⟨_,PySem.W.mg_of X G Pz⟩,⟨_,PySem.W.mg_of X G PB⟩,⟨_,PySem.W.mg_of X G PJ⟩,⟨_,PySem.W.mg_of X G vU⟩,⟨_,PySem.W.mg_of X G p8⟩,aaI X G Br Xz (show 2<=sizeLine from z0b (by decide) (z0e eU)) (.cons ⟨_,rfl⟩ (.cons ⟨_,rfl⟩ (.nil))),PySem.W.mg_none_of X G rQ,PySem.W.mg_none_of X G qb,PySem.W.mg_none_of X G PL,PySem.W.mg_none_of X G eZ,PySem.W.mg_none_of X G UL,PySem.W.mg_none_of X G fj,PySem.W.mg_none_of X G cU,PySem.W.mg_none_of X G qH,PySem.W.mg_none_of X G uW,PySem.W.mg_none_of X G rR,PySem.W.mg_none_of X G cV,PySem.W.mg_none_of X G yL,PySem.W.mg_none_of X G ux,PySem.W.mg_none_of X G UW,PySem.W.mg_none_of X G cJ,PySem.W.mg_none_of X G rT,G8,Bs,nu,G9,⟨dj,nD,PySem.W.mg_of X G nD,Cj⟩,⟨dB,nF,PySem.W.mg_of X G nF,Ck⟩,⟨mF,PySem.W.mg_of X G QZ,vV⟩,⟨dj,PySem.W.mg_of X G nD,qI⟩,⟨dB,PySem.W.mg_of X G nF,qJ⟩⟩;have Zw:=fun_mk (st:=gG) Zt Zu Zv;have adw:=fun_mk (st:=rP) adt adu adv;have hX:HX K mg:=⟨T,dy X G uz (λ_ _ _ _ _ _ us hl=>uU hl λ_ _ _=>rfl),dy X G qZ (λ_ _ _ _ _ _ us hl=>oE hl λ_ _=>rfl),dy X G yM (λ_ _ _ _ _ _ us hl=>uT hl λ_=>rfl),dy X G pQ (λ_ _ _ _ _ _ us hl=>oE hl λ_ _=>rfl),dy X G Fo (λ_ _ _ _ _ _ us hl=>uU hl λ_ _ _=>rfl),dy X G uD (λ_ _ _ _ _ _ us hl=>oE hl λ_ _=>rfl),dy X G yN (λ_ _ _ _ _ _ us hl=>uT hl λ_=>rfl),dy X G Bv (λ_ _ _ _ _ _ us hl=>uT hl λ_=>rfl),dy X G Bw (λ_ _ _ _ _ _ us hl=>uT hl λ_=>rfl),dy X G Fp (λ_ _ _ _ _ _ us hl=>uT hl λ_=>rfl),dy X G uE (λ_ _ _ _ _ _ us hl=>uT hl λ_=>rfl),dy X G pR (λ_ _ _ _ _ _ us hl=>uT hl λ_=>rfl),dy X G Bx (λ_ _ _ _ _ _ us hl=>uT hl λ_=>rfl),dy X G vW (λ_ _ _ _ _ _ us hl=>oE hl λ_ _=>rfl),dy X G q8 (λ_ _ _ _ _ _ us hl=>oE hl λ_ _=>rfl),dy X G uF (λ_ _ _ _ _ _ us hl=>uU hl λ_ _ _=>rfl),dy X G yO (λ_ _ _ _ _ _ us hl=>uU hl λ_ _ _=>rfl),dy X G yP (λ_ _ _ _ _ _ us hl=>oE hl λ_ _=>rfl),dy X G q9 (λ_ _ _ _ _ _ us hl=>oE hl λ_ _=>rfl),dy X G rm (λ_ _ _ _ _ _ us hl=>uU hl λ_ _ _=>rfl),dy X G BJ (λ_ _ _ _ _ _ us hl=>uU hl λ_ _ _=>rfl),dy X G BK (λ_ _ _ _ _ _ us hl=>Xi hl λ_ _ _ _=>rfl),dy X G pU (λ_ _ _ _ _ _ us hl=>Xi hl λ_ _ _ _=>rfl),dy X G vX (λ_ _ _ _ _ _ us hl=>Xi hl λ_ _ _ _=>rfl),dy X G BL (λ_ _ _ _ _ _ us hl=>uU hl λ_ _ _=>rfl),dy X G vY (λ_ _ _ _ _ _ us hl=>lk5 hl λ_ _ _ _ _=>rfl),dy X G vZ (λ_ _ _ _ _ _ us hl=>uU hl λ_ _ _=>rfl),dy X G uG (λ_ _ _ _ _ _ us hl=>uU hl λ_ _ _=>rfl),dy X G wg (λ_ _ _ _ _ _ us hl=>oE hl λ_ _=>rfl),dy X G wj (λ_ _ _ _ _ _ us hl=>uU hl λ_ _ _=>rfl),dy X G yQ (λ_ _ _ _ _ _ us hl=>oE hl λ_ _=>rfl),dy X G wk (λ_ _ _ _ _ _ us hl=>uT hl λ_=>rfl),dy X G uH (λ_ _ _ _ _ _ us hl=>oE hl λ_ _=>rfl),dy X G yR (λ_ _ _ _ _ _ us hl=>uT hl λ_=>rfl),dy X G rA (λ_ _ _ _ _ _ us hl=>uT hl λ_=>rfl),dy X G wu (λ_ _ _ _ _ _ us hl=>oE hl λ_ _=>rfl),dy X G rC (λ_ _ _ _ _ _ us hl=>oE hl λ_ _=>rfl),dy X G PN (λ_ _ _ _ _ _ us hl=>uT hl λ_=>rfl),dy X G uI (λ_ _ _ _ _ _ us hl=>oE hl λ_ _=>rfl),dy X G Fq (λ_ _ _ _ _ _ us hl=>uT hl λ_=>rfl),dy X G Ft (λ_ _ _ _ _ _ us hl=>uT hl λ_=>rfl),dy X G Jz (λ_ _ _ _ _ _ us hl=>oE hl λ_ _=>rfl),dy X G BP (λ_ _ _ _ _ _ us hl=>uU hl λ_ _ _=>rfl),dy X G PX (λ_ _ _ _ _ _ us hl=>oE hl λ_ _=>rfl),dy X G Fv (λ_ _ _ _ _ _ us hl=>uU hl λ_ _ _=>rfl),dy X G JB (λ_ _ _ _ _ _ us hl=>Xi hl λ_ _ _ _=>rfl),dy X G wz (λ_ _ _ _ _ _ us hl=>uU hl λ_ _ _=>rfl),dy X G yS (λ_ _ _ _ _ _ us hl=>oE hl λ_ _=>rfl),dy X G rE (λ_ _ _ _ _ _ us hl=>uU hl λ_ _ _=>rfl),dy X G wA (λ_ _ _ _ _ _ us hl=>oE hl λ_ _=>rfl),dy X G BR (λ_ _ _ _ _ _ us hl=>oE hl λ_ _=>rfl),dy X G JC (λ_ _ _ _ _ _ us hl=>Xi hl λ_ _ _ _=>rfl),⟨yV,_,Zw,PySem.W.mg_of X G Zr,⟨_,oH⟩,oJ⟩⟩;refine⟨PySem.W.fnOf "law" "law" (defArgs rP) (defBody rP) (defScope rP) .none Xv Xw Xx Xu Qf Xy,λs v=> .of_eq rfl,λbase cN TP _ _ hB hCI=>?_⟩;obtain⟨f',ok',hm',_⟩:=ok_law (P:=l.prog) (w:=w) (base:=base) adw (PySem.W.mg_of X G Va) ⟨hX,hB,hCI⟩;cases (PySem.W.mg_of X G Va).symm.trans hm';exact ok'
end Af
namespace Af
open PySem PySem.Spec L2 Pu
theorem walk{l:PySem.W.OpenLaw}{q:aek}{loose:List Str}{XP:(Str->Option ad7)->aeo->Prop}{YP:aep->aeo->Prop}{d:DefRec}{K:Params->PySem.W.Frag}(hn:l.most=some 63)(hdf:d.params.defaults=[])
  (hY:∀(w:aep) (h:aeo),YP w h->(K w.params).In h)(hnt:∀w:aep,PySem.W.noTabs (K w.params)=true)(hrec:∃dy,(PyProof.Rows.recsOf q).find? (λe:DefRec=>e.name ==("best_ways" :Str))=some dy)
  (F:∀(w:aep) (mg:Str->Option ad7) (fa:ad5) (h:aeo),(K w.params).In h->h.Ns aed mg->mg d.name=some (.ref fa)->
   ∃fd:aeU,(∀(s:ad8) (u:ad7),ahh s fd ⟨[u],[]⟩ [("_law_script",u)])/\∀(base:aeo) (c T:ad5),(K w.params).In base->base.Ns aed mg->pY base mg c T->zY (K w.params) mg "best_ways" c->FnOk l.prog w (K w.params) mg base CX0 12 fa fd ["_law_script"] (spT [(T,"best_ways.<locals>.first_ones")] (K w.params) 1 GF)):
  PySem.W.WalkO q loose XP YP l.row.toRowW d [] (λf vs=>PySem.call f vs):=
 Pu.adh (n:=63) (k:=12) (x:= "_law_script") (y:= "best_ways") (q:= "best_ways.<locals>.first_ones") (FL:=GF) hn (by decide) hdf ⟨rfl,by decide,by decide⟩ hY hnt (by obtain⟨dy,e⟩:=hrec;exact⟨dy,List.mem_of_find?_eq_some e,beq_iff_eq.mp (List.find?_some (p:=λe:DefRec=>e.name ==("best_ways" :Str)) e)⟩) F Zh
end Af
namespace PySem.W.Fast
theorem tw12141180872573777746:True:=trivial
theorem tw18155064873136131664:True:=trivial
theorem tw6706579825622309429:True:=trivial
theorem tw8035672269375422408:True:=trivial
theorem tw15940333580924129493:True:=trivial
theorem tw12202978232929943100:True:=trivial
theorem tw11220535804285331004:True:=trivial
theorem tw7072474305548263030:True:=trivial
theorem tw15365276317834968243:True:=trivial
theorem tw4568747548090551419:True:=trivial
theorem tw2682603355713340173:True:=trivial
theorem tw12226435491839840127:True:=trivial
theorem tw8522571812050701995:True:=trivial
theorem tw15982574275987191933:True:=trivial
theorem tw2372810838501443112:True:=trivial
theorem tw17553097138776846643:True:=trivial
theorem tw5043319494347897209:True:=trivial
theorem tw17712560814702082767:True:=trivial
theorem tw11791054867826165049:True:=trivial
theorem tw6878872791169965664:True:=trivial
theorem tw116917034784549457:True:=trivial
theorem tw5490049431427648744:True:=trivial
theorem tw1292574241941929419:True:=trivial
theorem tw87421629058877402:True:=trivial
end PySem.W.Fast
open PySem PySem.W PyProof.Rows
set_option bootstrap.genMatcherCode true
set_option compiler.extract_closed true
set_option maxRecDepth 100000 in
set_option maxHeartbeats 0 in
theorem PySem.Challenge.cw_seamhall_k40_ladders_holds : PySem.Challenge.rw_seamhall_k40_ladders.Holds := by
 w_on;o_law;k_head;(case hw=>w_witness2)
 k_fill
 refine Af.walk (l:=PySem.Challenge.rw_seamhall_k40_ladders) rfl rfl (λw h Y=>PySem.W.km_in_of Y) ?nt ?rec ?F
 case nt=>intro w;kernel_rfl
 case rec=>exact⟨_,rfl⟩
 case F=>
  intro w mg fa h KX G hmg
  refine' Af.all_mk KX G hmg ?_ ?_ ?_ ?_ ?_ ?_ ?_ ?_ ?_ ?_ ?_ ?_ ?_ ?_ ?_ ?_ ?_ ?_ ?_ ?_ ?_ ?_ ?_ ?G8 ?Bs ?nu ?G9 ?_ ?_ ?_ ?Cj ?Hj ?Hl ?Ho ?Hq ?Hr ?Ht ?Hu ?Hv ?oU ?lW ?lX ?Ck ?Hw ?Hx ?Hy ?Hz ?HD ?HF ?HJ ?HN ?oV ?lY ?lZ ?_ ?_ ?_ ?_ ?_ ?_ ?_ ?_ ?_ ?_ ?_ ?_ ?_ ?_ ?_ ?_ ?_ ?_ ?_ ?_ ?_ ?_ ?_ ?_ ?_ ?_ ?_ ?_ ?_ ?_ ?_ ?_ ?_ ?_ ?_ ?_ ?_ ?_ ?_ ?_ ?_ ?_ ?_ ?_ ?_ ?_ ?_ ?_ ?_ ?_ ?_ ?_ ?_ ?_ ?_ ?_ ?_ ?_ ?_ ?_ ?oH ?oJ
  all_goals try first |k_is |(refine' Af.adq ?qa ?ql ?qc ?qp;(case qa=>k_is);(case ql=>k_is);(case qc=>k_is);(case qp=>k_is))
  (case G8=>intro d;cases d;(show PySem.W.kitOne _ (aej "NoneType") (aej "int")=some false);kit_is;(show PySem.W.kitOne _ (aej "bool") (aej "int")=some true);kit_is;(show PySem.W.kitOne _ (aej "int") (aej "int")=some true);kit_is;(show PySem.W.kitOne _ (aej "str") (aej "int")=some false);kit_is;(show PySem.W.kitOne _ (aej "tuple") (aej "int")=some false);kit_is;(show PySem.W.kitOne _ (aej "list") (aej "int")=some false);kit_is)
  (case Bs=>intro d;cases d;(show PySem.W.kitOne _ (aej "NoneType") (aej "bool")=some false);kit_is;(show PySem.W.kitOne _ (aej "bool") (aej "bool")=some true);kit_is;(show PySem.W.kitOne _ (aej "int") (aej "bool")=some false);kit_is;(show PySem.W.kitOne _ (aej "str") (aej "bool")=some false);kit_is;(show PySem.W.kitOne _ (aej "tuple") (aej "bool")=some false);kit_is;(show PySem.W.kitOne _ (aej "list") (aej "bool")=some false);kit_is)
  (case nu=>intro d;cases d;(show PySem.W.kitOne _ (aej "NoneType") (aej "tuple")=some false);kit_is;(show PySem.W.kitOne _ (aej "bool") (aej "tuple")=some false);kit_is;(show PySem.W.kitOne _ (aej "int") (aej "tuple")=some false);kit_is;(show PySem.W.kitOne _ (aej "str") (aej "tuple")=some false);kit_is;(show PySem.W.kitOne _ (aej "tuple") (aej "tuple")=some true);kit_is;(show PySem.W.kitOne _ (aej "list") (aej "tuple")=some false);kit_is)
  (case G9=>intro d;cases d;(show PySem.W.kitOne _ (aej "NoneType") (aej "list")=some false);kit_is;(show PySem.W.kitOne _ (aej "bool") (aej "list")=some false);kit_is;(show PySem.W.kitOne _ (aej "int") (aej "list")=some false);kit_is;(show PySem.W.kitOne _ (aej "str") (aej "list")=some false);kit_is;(show PySem.W.kitOne _ (aej "tuple") (aej "list")=some false);kit_is;(show PySem.W.kitOne _ (aej "list") (aej "list")=some true);kit_is)
  (case Cj=>k_exc)
  (case lW=>kit_is)
  (case lX=>kit_is)
  (case Ck=>k_exc)
  (case lY=>kit_is)
  (case lZ=>kit_is)
  (case oH=>intro s us ws i hl hw;have h0:us.length=1:=(by simp only[aef,afQ] at hl;omega);clear hl;obtain⟨u0,us0,rfl,h1⟩:=Pu.Ii h0;clear h0;cases Pu.len0 h1;have g0:ws.length=0:=hw;clear hw;cases Pu.len0 g0;exact PySem.W.kp_binds i (λS=>rfl))
  (case oJ=>intro s us ws i hl hw;have h0:us.length=1:=(by simp only[aef,afQ] at hl;omega);clear hl;obtain⟨u0,us0,rfl,h1⟩:=Pu.Ii h0;clear h0;cases Pu.len0 h1;have g0:ws.length=1:=hw;clear hw;obtain⟨w0,ws0,rfl,g1⟩:=Pu.Ii g0;clear g0;cases Pu.len0 g1;exact PySem.W.kp_binds i (λS=>rfl))
  all_goals first |k_is |kernel_rfl
