import PyProof.Rows.All
import Wide.All
import OpenK.AllK
import Wide.FinOn
import Lean
import PyProof.EqAt
import PyProof.EqKinds
import PyProof.TupleCall
import PyProof.NeKinds
import PySem.Challenge.RW_seamhall_k16_seam_refusals
open PySem renaming wpAny_bind→aec,Addr→aed,Value→aef,Shared→aeg,starEach→aei,wpAny_pure→aej,mainGlobals→ael,wpAny→aen,Expr→aer,Heap→aes,Program→aew,World→aey,Stmt→aeA,boot_len→aeB,mem_of_lookup→aeE,Around→aeF,cellsFrom→aeH,wpAny_field→aeI,Spec→aeS,wpAny_setField_rec→aeV,wpAny_seqItems→aeX,FuncData→aeZ,backTo→ae7,rawInt→ae8,compareOp→ae9,wpAny_callSpecial?_slot→afb,Env→afd,wpAny_mono→afl,wpAny_call_entry→afn,wpAny_newObj_type→afq,binaryOp→afs,wpAny_truthy_bool→afw,Scope→afz,cLine→afE,Builtin→afH,bootBuiltins→afI,wpAny_letGo→afJ,Arguments→afN,wpAny_loadPart'→afO,wpAny_holding→afT,wpAny_onRaise→afU,storeName→afX,wpAny_Call_Name_kw→afY,bindArgs→af2,foldedSetIterable→af6,Keyword→af7,argBest→agb,behindInMarks→agc,wpAny_rule→agi,sizeLine_eq→agj,keywordEach→agk,wpAny_of_eq→agn,wpAny_passesOwn→agq,wpAny_attempt→agv,assignEach→agy,call_meets→agA,NameKind→agE,IsZip→agK,callerA→agM,builtinsNs→agP,wpAny_pyIter_list→agU,codeAny_mono→agX,codeAmong→ag3,backToKw→ag6,closureFor→ag7,swapsWithSole→ahf,swappedStores→ahg,codeAny→ahi,sliceBounds→ahj,wpAny_execs_nil→ahl,pushCells_keeps→ahq,wpAny_updateSeq→ahv,TriplesOk→ahx,swapsWith→ahy,BindsTo→ahC,wpAny_setField→ahD,wpAny_pyNext_list_item→ahH,wpAny_pyIter_rangeiter→ahI,attributeBase→ahM,plainId_quiet→ahN,wpAny_isInstance→ahP,wpAny_pyIter_zip→ahQ,wpAny_call→ahW,IsPart→ahY,codeAny_builtin→ah3,newFunctionEnv→ah9,wpAny_newTuple→aia,wpAny_tryCatch→aic,IsRangeIter→aie,wpAny_standAt→aip,typeIs_int→aiD,call→aiF,concat_meets→aiL,noFill_tuple_add→aiM,wpAny_typeOf→aiP,seqSlot_of→aiU,checkBuiltinCall→aiW
open List renaming range→aee,replicate→aem,mem_cons→aev,mem_cons_self→aex,length_cons→aeC,getElem?_range→aeJ,eq_nil_of_length_eq_zero→aeP,getElem?_eq_getElem→aeQ,getElem?_append_right→aeT,not_mem_nil→aeU,mem_of_getElem?→ae0,mem_append_right→ae1,getElem?_append_left→ae5,map_map→afc,append_nil→afg,length_replicate→afh,lookup_append→aft,mem_map→afu,append_assoc→afx,getElem?_replicate→afA,replicate_succ→afF,map_congr_left→afG,length_set→afP,length_nil→afQ,mem_singleton→afZ,map_append→af4,flatten_cons→af9,lookup_cons→agg,range_succ_eq_map→agm,toArray→ago,pairwise_cons→agp,length_singleton→agr,forIn_cons→ags,range_eq_range'→agB,range'→agC,length_take→agF,all_eq_true→agI,flatMap_cons→agV,map_nil→agY,getElem?_eq_none→ag2,range'_succ→ahc,mem_flatMap→ahd,filterMap_cons→ahk,nodup_cons→ahm,of_mem_zip→ahn,range_succ→ahs,nil_append→ahu,getElem?_zip_eq_some→ahw,getD→ahA,mem_range→ahB,ext_getElem?→ahG,zipIdx_cons→ahO,mem_filter→ahT,mem_append→ahU,mem_append_left→ahV,zipIdx_nil→ah2,mem_of_mem_take→ah4,getElem_append→ah6,mem_map_of_mem→ah7,forIn_nil→aib,sum_cons→aiw,size_toArray→aix,nodup_append→aiA,foldl→aiE,drop_eq_getElem_cons→aiG,getElem_inj→aiI,getElem?_take_of_lt→aiK,length_drop→aiO,cons_append→aiX,ext_getElem→aiY,range'_eq_map_range→aiZ,filterMap_cons_none→ai0,filterMap_cons_some→ai1,getElem?_cons_succ→ai2,length_eq_zero_iff→ai5,length_map→ai6,length→ai9,drop_zero→ajc,zip_map'→ajk
open PySem.W renaming Frag→aeh,kitOne→aek,nsIn→aep,mg_of→aeK,mg_none_of→aeR,findIn→aeY,keepIn→ae2,fnOf→ae3,mroIn→afD,codeIn→afK,specialIn→aga,clsIn→agd,exmOne→agh,cellsFrom_some→agl,kia_one→agt,takesIn→agu,excIn→agw,tabObj→agD,CodeHd→ag1,kp_binds→ahe,OpenLaw→ahZ,callWith_K→aik,tabIn→aiv,methodObj→aiy,mem_of_lookupK→aja,noTabs→aje,looks_findIn→aji,WalkO→ajj
open Ne renaming symm→aeo
open PySem.Value renaming type→aeu,ref→aez,none→aeL,builtin→afW,bool→aiC,int→ai7
open PySem.Builtin.SmallTypes renaming nextOf→aeD,ownedTupleIsFree→aeM,ownedTupleHandOut→afe
open Option.some renaming inj→aeG
open Nat renaming ne_of_lt→aeN,lt_irrefl→afj,zero_le→agT,le_of_ble_eq_true→agZ,le_add_right→ag9,min_eq_left→ahX,lt_succ_of_lt→aiB,ne_of_gt→aiJ,sub_zero→aiT,le_refl→ai8
open Bool renaming false_ne_true→aeO,false_eq_true→afm,and_eq_true→agG,false_and→ah8,not_true→ait,and_false→ajb
open PySem.Heap renaming size_push→aeW,get?_update_other→afv,SameBut→afB,get?_update_ne→afR,get?_update_self→ag0,ExtBut→aii
open False renaming elim→ae4
open PyProof.Rows renaming callWith_type1→ae6,boot_tuple→afi,slot_tuple_getitem→afr,envOfC→afC,seqObj→af0,boot_isinstance→af3,IntsAre→af8,AllBare→agW,get?_update_seq→ahr,boot_all→ahR,sortedHeap→ah1,assignInOrder_cons→aij,recsOf→ajn
open Or renaming inr→afa,inl→afo
open PySem.NameKind renaming free→afk,cell→agN
open PySem.Builtin.Range renaming rangeFitsLong→afp,rangeSize→ahE
open Option renaming isSome_iff_exists→afy,getD_some→ag8,bind_some→aha,map_some→ahp
open PySem.Obj renaming mapSeq→afL,mapFields→agO,data_mapFields→agS,isFreed_of_fields→ahS
open Int renaming eq_ofNat_of_zero_le→afM,toNat_natCast→agx,natCast_nonneg→agQ,emod_lt_of_pos→agR,emod_nonneg→aht,ofNat_le→aiN
open PySem.Str renaming ofString→afS
open Array renaming getElem?_eq_some_iff→afV,length_toList→agf,getD_eq_getD_getElem?→ail,getElem?_eq_getElem→aiH,getD→ajh
open PySem.PassesOwn renaming never→af5
open PySem.Builtin.Slice renaming slicePlaces→agz,sliceAdjust→aho,sliceApplied→aiq
open PySem.Builtin.Tuple renaming tupleExact→agH,tupleItemsOf→air,tupleTooMany→ais
open PySem.Builtin.List renaming listTooLong→agJ
open PySem.F renaming plainAttrs_list→agL,slot_range_reversed→ag5,excBase_ValueError→ahh,args_tuple_add_2→ahz,entry_tuple_add→ahF,slot_tuple_add→ahJ,slot_list_iadd→ahL,attrBase_ValueError→ain,plain_reversed_new→aiu,slot_list_append→aiR,type_list_append→aiS,slot_list_count→ai3,slot_list_index→ai4,slot_tuple_lt→ajd
open PySem.Data renaming cell→ag4,fields→aif,seq→aiQ
open PySem.Around renaming under_plainId→ahb
open PySem.Shared renaming heap→ahK
open ForInStep renaming yield→ah0
open PySem.Heap.SameBut renaming update→ah5
open PySem.Calls renaming Name_function_global→aio
open List.Pairwise renaming nil→aiz
open PySem.AutoSeq1 renaming idx_int→aiV
open Prod renaming ext→ajf
open True renaming intro→ajg
open List.cons renaming inj→ajl
open PySem.EntryCells renaming newEntry→ajm
open PySem.Heap.IsSliceOf renaming new→ajo
open PySem.SeqAt.EqAt renaming int_int→ajp
noncomputable section
set_option bootstrap.genMatcherCode false
set_option compiler.extract_closed false
set_option Elab.async false
set_option linter.all false
set_option maxRecDepth 100000
set_option maxHeartbeats 4000000
theorem z0b{a b c : Nat}(h : a ≤ b)(k : b ≤ c) : a ≤ c := Nat.le_trans h k
theorem z0d{a b c : Nat}(h : a<b)(k : b ≤ c) : a<c := Nat.lt_of_lt_of_le h k
theorem z0e{a b : Nat}(h : a<b) : a ≤ b := Nat.le_of_lt h
theorem z0g(a : Nat) : a ≤ a := ai8 a
theorem z1a{h : PySem.Heap}{a : PySem.Addr}{o' : PySem.Obj}(o : PySem.Obj)(e : h.get? a=some o') : (h.push o).get? a=some o' := PySem.Heap.get?_push_of_some o e
theorem z1b{α : Type _}{i : Nat}{a : α}{l : List α}(h : l[i]?=some a) : ∃h : i<l.length, l[i]=a := List.getElem?_eq_some_iff.mp h
theorem z1c{α : Type _}{as : List α} : as.toArray.size=as.length := aix
theorem z1d{α : Type _}{as bs : List α} : (as ++ bs).length=as.length+bs.length := List.length_append
theorem z1e{α : Type _}{l : List α}{i j : Nat}(h : i ≠ j){a : α} : (l.set i a)[j]?=l[j]? := List.getElem?_set_ne h
theorem z1f(h : PySem.Heap){o : PySem.Obj}(e : o.isFreed=false) : (h.push o).get? h.objs.size=some o := PySem.Heap.get?_push_size h e
theorem z1g{α : Type _}{β : Type _}{as : List α}(f : α → β) : (as.map f).length=as.length := ai6 f
theorem z1h{α : Type _}{β : Type _}{f : α → β}{a : α}{l : List α} : (a :: l).map f=f a :: l.map f := rfl
theorem z2a{α : Type _}{l : List α}{i : Nat}{a : α}(h : i<l.length) : (l.set i a)[i]?=some a := List.getElem?_set_self h
theorem z2b{α : Type _}{β : Type _}{f : α → β}{l : List α}{i : Nat} : (l.map f)[i]?=Option.map f l[i]? := List.getElem?_map
theorem z2c{h : PySem.Heap}{a : PySem.Addr}{o : PySem.Obj}(e : h.get? a=some o) : a<h.objs.size := PySem.Heap.lt_size e
theorem z2d{n : Nat} : (aee n).length=n := List.length_range
theorem z2e{m n : Nat}(h : m ∈ aee n) : m<n := ahB.mp h
theorem z2f{α : Type _}(y : α){a : α}{l : List α}(h : a ∈ l) : a ∈ y :: l := List.mem_cons_of_mem y h
namespace L2
open PySem PySem.Spec PyProof.Rows
variable{A:aeF}{CX:CXT}{e tg:aer}{o:HO}{h base:aes}{H:Hp}{pins:List (aed×Obj)}{ch:List aed}{body:List aeA}{ps N:List Str}{us:List aef}{M:Model}{t' k:Nat}{P:aew}{K:aeh}{r:R2}{s:aeg}{σ:St}{mg:Str->Option aef}{t:TE}{Q:Unit->aeg->Prop}{E:aef->aeg->Prop}{f:aef->aef->Sem aef}{w:aey}
abbrev Key:=Sum Int Str
def keyIs:Key->aef->Bool
 | .inl k,v=>Value.isInt k v
 | .inr x,v=>Value.isStrOf x v
def keyH(w:aey):Key->Int
 | .inl k=>hashInt k
 | .inr x=>hashStr w x
theorem keyIs_shape:∀{k:Key} {v:aef},keyIs k v=true->(∃i t,k=Sum.inl i/\v=ai7 i t)\/(∃x t,k=Sum.inr x/\v=Value.str x t)
 | .inl i,v,h=>by
  obtain⟨t,e⟩:=Value.isInt_shape (k:=i) (v:=v) h;exact .inl ⟨i,t,rfl,e⟩
 | .inr x,v,h=>by
  obtain⟨t,e⟩:=Value.isStrOf_shape (x:=x) (v:=v) h;exact .inr ⟨x,t,rfl,e⟩
theorem key_ll(a b:Int):decide ((Sum.inl a:Key)=Sum.inl b)=(a ==b):=by
 by_cases e:a=b
 ·subst e;simp
 ·have h:¬(Sum.inl a:Key)=Sum.inl b:=λq=>e (Sum.inl.inj q);rw[decide_eq_false h];exact (beq_eq_false_iff_ne.mpr e).symm
theorem key_rr(a b:Str):decide ((Sum.inr a:Key)=Sum.inr b)=decide (a=b):=by
 by_cases e:a=b
 ·subst e;simp
 ·have h:¬(Sum.inr a:Key)=Sum.inr b:=λq=>e (Sum.inr.inj q);rw[decide_eq_false h,decide_eq_false e]
theorem key_lr(a:Int)(b:Str):decide ((Sum.inl a:Key)=Sum.inr b)=false:=decide_eq_false (λq=>nomatch q)
theorem key_rl(a:Str)(b:Int):decide ((Sum.inr a:Key)=Sum.inl b)=false:=decide_eq_false (λq=>nomatch q)
def mixKind(prog:aew)(w:aey):PySem.KeyKind prog w Key where
 is:=keyIs
 hash:=keyH w
 inj :=λv a b ha hb=>by
  rcases keyIs_shape ha with⟨i,t,rfl,rfl⟩ |⟨x,t,rfl,rfl⟩
  ·rcases keyIs_shape hb with⟨j,u,rfl,e⟩ |⟨y,u,rfl,e⟩
   ·injection e with e1 _;rw[e1]
   ·exact nomatch e
  ·rcases keyIs_shape hb with⟨j,u,rfl,e⟩ |⟨y,u,rfl,e⟩
   ·exact nomatch e
   ·injection e with e1 _;rw[e1]
 byValue:=λk v h=>by
  rcases keyIs_shape h with⟨i,t,rfl,rfl⟩ |⟨x,t,rfl,rfl⟩ <;> rfl
 pyHash:=λhv h=>by
  rcases keyIs_shape hv with⟨i,t,rfl,rfl⟩ |⟨x,t,rfl,rfl⟩
  ·exact wpAny_pyHash_int h
  ·exact wpAny_pyHash_str h
 eqBool:=λhu hv h=>by
  rcases keyIs_shape hu with⟨i,t,rfl,rfl⟩ |⟨x,t,rfl,rfl⟩
  ·rcases keyIs_shape hv with⟨j,u,rfl,rfl⟩ |⟨y,u,rfl,rfl⟩
   ·rw[key_ll] at h;exact wpAny_eqBool_int h
   ·rw[key_lr] at h;exact SeqAt.EqAt.int_str i t y u _ _ _ _ h
  ·rcases keyIs_shape hv with⟨j,u,rfl,rfl⟩ |⟨y,u,rfl,rfl⟩
   ·rw[key_rl] at h;exact SeqAt.EqAt.str_int x t j u _ _ _ _ h
   ·rw[key_rr] at h;exact wpAny_eqBool_str h
 «strs»:=λk x t v h=>by
  rcases keyIs_shape h with⟨i,u,rfl,e⟩ |⟨y,u,rfl,e⟩
  ·exact nomatch e
  ·injection e with e1 _;subst e1;cases v <;> rfl
inductive V where
 |non |bl (b:Bool) |int (i:Int) |str (x:Str) |byt (b:Array UInt8) |flt (b:UInt64) |ref (a:aed) |ty (n:String)
 deriving DecidableEq
def RelV:V->aef->Prop
 | .non,u=>u=aeL
 | .bl b,u=>u=aiC b
 | .int i,u=>∃t,u=ai7 i t
 | .str x,u=>∃t,u=Value.str x t
 | .byt b,u=>∃t,u=Value.bytes b t
 | .flt b,u=>∃t,u=Value.float b t
 | .ref a,u=>u=aez a
 | .ty n,u=>u=aeu n
abbrev Vals:List V->List aef->Prop:=Paired RelV
theorem Vals.length{xs:List V}(r:Vals xs us):xs.length=us.length:=Paired.length r
theorem Vals.get:∀{xs:List V} {us:List aef} {i:Nat} {x:V},Vals xs us->xs[i]?=some x->∃u,us[i]?=some u/\RelV x u
 |_,_,_,_,.nil,e=>by simp at e
 |_,_,0,_,.cons r _,e=>by simp at e;subst e;exact⟨_,rfl,r⟩
 | _,_,i+1,x,.cons _ t,e=>by
  obtain⟨u,h1,h2⟩:=Vals.get (i:=i) (x:=x) t (by simpa using e);exact⟨u,by simpa using h1,h2⟩
theorem Vals.append:∀{xs ys:List V} {us ws:List aef},Vals xs us->Vals ys ws->Vals (xs++ys) (us++ws)
 :=by
 intro xs ys us ws h q
 induction h with
 |nil=>exact q
 |cons r t ih=>exact .cons r ih
theorem Vals.take:∀{xs:List V} {us:List aef} (n:Nat),Vals xs us->Vals (xs.take n) (us.take n)
 |_,_,0,_=> .nil
 |_,_,_+1,.nil=> .nil
 |_,_,n+1,.cons r t=> .cons r (Vals.take n t)
theorem Vals.drop:∀{xs:List V} {us:List aef} (n:Nat),Vals xs us->Vals (xs.drop n) (us.drop n)
 |_,_,0,r=>r
 |_,_,_+1,.nil=> .nil
 |_,_,n+1,.cons _ t=>Vals.drop n t
def RelO:Option V->Option aef->Prop
 |some v,some u=>RelV v u
 |none,none=>True
 |_,_=>False
def KV{κ:Type}:List (κ×V)->List (κ×aef)->Prop:=Paired λ(p:κ×V) (q:κ×aef)=>p.1=q.1/\RelV p.2 q.2
def kV:Key->V
 | .inl i=> .int i
 | .inr x=> .str x
inductive HO where
 /-- a list -/
 |lst (xs:List V)
 /-- a tuple (never changes) -/
 |tup (xs:List V)
 /-- a dict whose keys are ints and texts;one whose keys are tuples of ints and texts (the empty one is both) -/
 |dK (kvs:List (Key×V)) |dT (kvs:List (List Key×V))
 /-- a set of ints:its members,its size -/
 |set (S:Int->Bool) (n:Nat)
 /-- an instance of the class at C,its dict at dx,its attributes -/
 |ins (C dx:aed) (fs:List (Str×V))
 /-- the dict of the instance at x -/
 |own (x:aed)
 /-- the dict of an exception -/
 |xd (fs:List (Str×V))
 /-- a bound method,f of x -/
 |met (f x:aed)
 /-- a range object lo,lo+1,.. below hi -/
 |rng (lo hi:Int)
 /-- a thing that is known to the object (the script;a dict while a loop walks it):read,never written while it is so -/
 |frz (o:Obj) (u:HO)
 /-- a code object's table -/
 |tbl (ps:Array aef)
 /-- any other thing,by what is true of its one object (a def of one's own:SetO a S n:=HO.ext λh=> ..) -/
 |ext (φ:aes->Prop)
abbrev Hp:=aed->Option HO
def upd(H:Hp)(a:aed)(o:HO):Hp:=λb=>if b=a then some o else H b
theorem upd_same{a:aed}:upd H a o a=some o:=by unfold upd;rw[if_pos rfl]
theorem upd_ne{a b:aed}(h:b≠a):upd H a o b=H b:=by unfold upd;rw[if_neg h]
theorem ne_of_none{a b:aed}(h:H a=some o)(h':H b=none):a≠b:=by
 intro e;subst e;rw[h] at h';cases h'
def za(h:aes)(a:aed)(items:Array aef):Prop:=∃o,h.get? a=some o/\o.cls= .type "tuple"/\o.dict=none/\∃n,o.data= .seq items n
theorem za.tup{a:aed}{items:Array aef}(x:za h a items):IsTup h a items:=let⟨o,e,c,_,d⟩:=x;⟨o,e,c,d⟩
theorem za.new(h:aes)(items:Array aef):za (h.push {cls:= .type "tuple",data:= .seq items}) h.objs.size items:=⟨_,z1f _ rfl,rfl,rfl,_,rfl⟩
section
variable(P:aew)(w:aey)
def ObjOk(H:Hp)(h:aes)(a:aed):HO->Prop
 | .lst xs=>xs.length<=sizeLine/\∃(its:List aef) (n:Nat),Vals xs its/\h.get? a=some {cls:= .type "list",data:= .seq its.toArray n}
 | .tup xs=>xs.length<=sizeLine/\∃its:List aef,Vals xs its/\za h a its.toArray
 | .dK kvs=>kvs.length<=sizeLine/\(a ==sysModules)=false/\∃vs,KV kvs vs/\h.DictOf (mixKind P w) a vs
 | .dT kvs=>kvs.length<=sizeLine/\(a ==sysModules)=false/\∃xs:List (List Key×aed×aef),
   Paired (λ(p:List Key×V) (q:List Key×aed×aef)=>p.1=q.1/\H q.2.1=some (.tup (p.1.map kV))/\RelV p.2 q.2.2) kvs xs/\
   ∃o es ep,h.get? a=some o/\o.ExactDict/\o.data= .dict es ep/\es.toList=xs.map (entryOfKey (tupleKind (mixKind P w)))/\(xs.map (·.1)).Nodup
 | .set S n=>h.SetOf (intKind P w) a S n
 | .ins C dx fs=>H dx=some (.own a)/\fs.length<=1000/\dx≠a/\h.get? a=some (PySem.W.instObj C dx)/\
   ∃mA,h.Ns1 dx mA/\(∀f,RelO (fs.lookup f) (mA f))/\PySem.Within mA (fs.map (·.1))
 | .own _=>∃o,h.get? a=some o
 | .xd fs=>∃mA,h.Ns1 a mA/\∀f,RelO (fs.lookup f) (mA f)
 | .rng lo hi=>∃t u v,h.get? a=some {cls:= .type "range",data:= .fields #[.int lo t,.int hi u,.int 1 v]}
 | .frz o u=>h.get? a=some o/\ObjOk H h a u
 | .tbl ps=>∃qs:Array aef,h.get? a=some (agD qs)/\ahx qs.toList/\∀pos cv,ag3 pos qs.toList=some cv->∃c oc vs q t tq,cv= .ref c/\H c=some (.frz oc (.own c))/\oc.data= .fields vs/\vs[1]?=some (.str q t)/\ps[0]?=some (.str q tq)
 | .met f x=>h.get? a=some (aiy (.ref f) (.ref x))
 | .ext φ=>φ h/\(∃o,h.get? a=some o)/\∀h1 h2:aes,φ h1->(∀o,h1.get? a=some o->h2.get? a=some o)->φ h2
def HOk(H:Hp)(h:aes):Prop:=∀a o,H a=some o->ObjOk P w H h a o
end
section
variable{P:aew}{w:aey}{H H':Hp}{h h':aes}{a:aed}{o:HO}
theorem ObjOk.lt(x:ObjOk P w H h a o):a<h.objs.size:=by
 cases o with
 |lst xs=>obtain⟨_,_,_,_,e⟩:=x;exact z2c e
 |tup xs=>obtain⟨_,_,_,_,e,_⟩:=x;exact z2c e
 |dK kvs=>obtain⟨_,_,_,_,o,_,_,e,_⟩:=x;exact z2c e
 |dT kvs=>obtain⟨_,_,_,_,o,_,_,e,_⟩:=x;exact z2c e
 |set S n=>obtain⟨o,_,_,_,e,_⟩:=x;exact z2c e
 |ins C dx fs=>obtain⟨_,_,_,e,_⟩:=x;exact z2c e
 |own y=>obtain⟨_,e⟩:=x;exact z2c e
 |xd fs=>obtain⟨_,⟨_,_,_,e,_⟩,_⟩:=x;exact z2c e
 |rng lo hi=>obtain⟨_,_,_,e⟩:=x;exact z2c e
 |frz ob u=>obtain⟨e,_⟩:=x;exact z2c e
 |tbl ps=>obtain⟨_,e,_⟩:=x;exact z2c e
 |met f y=>exact z2c (show h.get? a=some _ from x)
 |ext φ=>obtain⟨_,⟨_,e⟩,_⟩:=x;exact z2c e
theorem Paired.mapP{α β:Type}{F G:α->β->Prop}:∀{l₁:List α} {l₂:List β},Paired F l₁ l₂->(∀a b,F a b->G a b)->Paired G l₁ l₂
 :=by
 intro l₁ l₂ h f
 induction h with
 |nil=>exact .nil
 |cons r t ih=>exact .cons (f _ _ r) ih
theorem ObjOk.stay(x:ObjOk P w H h a o)(k:∀b u,(b=a\/H b=some (.own a))->h.get? b=some u->h'.get? b=some u)
  (ho:∀b,H b=some (.own a)->H' b=some (.own a))(ht:∀b xs,H b=some (.tup xs)->H' b=some (.tup xs))(hz:∀b o u,(∃vs,o.data= .fields vs)->H b=some (.frz o u)->H' b=some (.frz o u)):ObjOk P w H' h' a o:=by
 induction o with
 |lst xs=>obtain⟨z,its,n,r,e⟩:=x;exact⟨z,its,n,r,k _ _ (.inl rfl) e⟩
 |tup xs=>obtain⟨z,its,r,ob,e,c⟩:=x;exact⟨z,its,r,ob,k _ _ (.inl rfl) e,c⟩
 |dK kvs=>obtain⟨z,y,vs,r,ob,es,ep,e,c⟩:=x;exact⟨z,y,vs,r,ob,es,ep,k _ _ (.inl rfl) e,c⟩
 | dT kvs=>
  obtain⟨z,y,xs,r,ob,es,ep,e,c⟩:=x;exact⟨z,y,xs,Paired.mapP r λp q z=>⟨z.1,ht _ _ z.2.1,z.2.2⟩,ob,es,ep,k _ _ (.inl rfl) e,c⟩
 |set S n=>obtain⟨ob,es,ep,t,e,c⟩:=x;exact⟨ob,es,ep,t,k _ _ (.inl rfl) e,c⟩
 | ins C dx fs=>
  obtain⟨d,z,ne,e,mA,⟨od,es,ep,e2,c⟩,r⟩:=x;exact⟨ho _ d,z,ne,k _ _ (.inl rfl) e,mA,⟨od,es,ep,k _ _ (.inr d) e2,c⟩,r⟩
 |own y=>obtain⟨ob,e⟩:=x;exact⟨ob,k _ _ (.inl rfl) e⟩
 |xd fs=>obtain⟨mA,⟨od,es,ep,e,c⟩,r⟩:=x;exact⟨mA,⟨od,es,ep,k _ _ (.inl rfl) e,c⟩,r⟩
 |rng lo hi=>obtain⟨t,u,v,e⟩:=x;exact⟨t,u,v,k _ _ (.inl rfl) e⟩
 |frz ob u ih=>obtain⟨e,q⟩:=x;exact⟨k _ _ (.inl rfl) e,ih q⟩
 | tbl ps=>
  obtain⟨qs,e,tr,al⟩:=x;exact⟨qs,k a _ (.inl rfl) e,tr,λp cv z=>by
   obtain⟨c,oc,vs,q,t,tq,e1,e2,e3,r⟩:=al p cv z;exact⟨c,oc,vs,q,t,tq,e1,hz _ _ _ ⟨vs,e3⟩ e2,e3,r⟩⟩
 | met f y=>
  have e:h.get? a=some (aiy (.ref f) (.ref y)):=x;show h'.get? a=some (aiy (.ref f) (.ref y));exact k a _ (.inl rfl) e
 |ext φ=>obtain⟨p,⟨o,e⟩,st⟩:=x;exact⟨st _ _ p λo q=>k _ _ (.inl rfl) q,⟨o,k _ _ (.inl rfl) e⟩,st⟩
theorem HOk.lt(x:HOk P w H h)(e:H a=some o):a<h.objs.size:=(x a o e).lt
theorem HOk.fresh(x:HOk P w H h)(e:h.objs.size<=a):H a=none:=by
 cases q:H a with
 |none=>rfl
 |some u=>exact absurd (z0d (x.lt q) e) (afj _)
theorem HOk.kept(x:HOk P w H h)(k:∀b u,h.get? b=some u->h'.get? b=some u):HOk P w H h':=λa o e=>
 (x a o e).stay (λb u _ q=>k b u q) (λ_ q=>q) (λ_ _ q=>q) λ_ _ _ _ q=>q
theorem HOk.laid(x:HOk P w H h)(k:∀b u,h.get? b=some u->h'.get? b=some u)(hp:h.objs.size<=a)(new:ObjOk P w (upd H a o) h' a o):HOk P w (upd H a o) h':=λb u e=>by
 have hn:=x.fresh hp;by_cases hb:b=a
 ·subst hb;rw[upd_same] at e;cases e;exact new
 ·rw[upd_ne hb] at e;exact (x b u e).stay (λc v _ q=>k c v q) (λc q=>by rw[upd_ne (ne_of_none q hn)];exact q) (λc xs q=>by rw[upd_ne (ne_of_none q hn)];exact q) λc _ _ _ q=>by rw[upd_ne (ne_of_none q hn)];exact q
end
def Rd(H:Hp)(a:aed)(u:HO):Prop:=H a=some u\/∃o,H a=some (.frz o u)
theorem Rd.ok{a:aed}{u:HO}(r:Rd H a u)(x:HOk P w H h):ObjOk P w H h a u:=by
 rcases r with r |⟨o,r⟩
 ·exact x a u r
 ·obtain⟨_,q⟩:=x a _ r;exact q
def Mut:Option HO->Prop
 |some (.lst _)=>True
 |some (.dK _)=>True
 |some (.dT _)=>True
 |some (.set _ _)=>True
 |some (.ins _ _ _)=>True
 |some (.ext _)=>True
 |_=>False
section
variable{P:aew}{w:aey}{H:Hp}{h h':aes}{x e:aed}{o':HO}
theorem HOk.write(ok:HOk P w H h)(mu:Mut (H x))(he:e=x\/H e=some (.own x))(k:∀b u,b≠e->h.get? b=some u->h'.get? b=some u)(heo:∃u,h'.get? e=some u)
  (new:ObjOk P w (upd H x o') h' x o'):HOk P w (upd H x o') h':=λb u q=>by
 have nown:∀c y,H c=some (.own y)->c≠x:=λc y r z=>by subst z;rw[r] at mu;exact mu
 have ntup:∀c xs,H c=some (.tup xs)->c≠x:=λc xs r z=>by subst z;rw[r] at mu;exact mu
 by_cases hb:b=x
 ·subst hb;rw[upd_same] at q;cases q;exact new
 ·rw[upd_ne hb] at q;by_cases hbe:b=e
  ·have q':H b=some (.own x):=by
    rcases he with z |z
    ·exact absurd (hbe.trans z) hb
    ·rw[hbe];exact z
   rw[q] at q';cases q';obtain⟨v,hv⟩:=heo;exact⟨v,by rw[hbe];exact hv⟩
  ·refine (ok b u q).stay (λc v hc r=>k c v ?_ r) (λc r=>by rw[upd_ne (nown c b r)];exact r) (λc xs r=>by rw[upd_ne (ntup c xs r)];exact r) λc o1 u1 _ r=>by rw[upd_ne (λz=>by rw[z] at r;rw[r] at mu;exact mu)];exact r
   rcases hc with rfl |hc
   ·exact hbe
   ·rintro rfl
    rcases he with z |z
    ·exact nown c b hc z
    ·rw[hc] at z;cases z;exact hb rfl
end
structure Un(fs ex:List aed)(H H':Hp)(h h':aes):Prop where
 keep:∀b o,h.get? b=some o->H b=none->b∉fs->b∉ex->h'.get? b=some o
 slot:∀b o,h.get? b=some o->H b=none->b∈fs->b∉ex->∃sl,h'.get? b=some {o with slots:=sl}
 free:∀b o,h.get? b=some o->H b=none->b∉ex->H' b=none
 there:∀b o,h.get? b=some o->b∉ex->∃o',h'.get? b=some o'
 tups:∀b xs,H b=some (.tup xs)->H' b=some (.tup xs)
 frzs:∀b o u,H b=some (.frz o u)->H' b=some (.frz o u)
 tbls:∀b ps,H b=some (.tbl ps)->∃more,H' b=some (.tbl (ps++more))
section
variable{fs fs' ex ex':List aed}{H H1 H2:Hp}{h h1 h2 h':aes}{a x e:aed}{o:HO}
theorem Un.any(u:Un fs ex H H1 h h1){b:aed}{ob:Obj}(q:h.get? b=some ob)(n:H b=none)(hx:b∉ex):∃sl,h1.get? b=some {ob with slots:=sl}:=by
 by_cases hb:b∈fs
 ·exact u.slot b ob q n hb hx
 ·exact⟨ob.slots,u.keep b ob q n hb hx⟩
theorem Un.kept(k:∀b u,h.get? b=some u->h'.get? b=some u):Un fs ex H H h h':=
 ⟨λb ob q _ _ _=>k b ob q,λb ob q _ _ _=>⟨ob.slots,k b ob q⟩,λ_ _ _ n _=>n,λb ob q _=>⟨ob,k b ob q⟩,λ_ _ q=>q,λ_ _ _ q=>q,λ_ ps q=>⟨#[],by rw[q];simp⟩⟩
theorem Un.refl:Un fs ex H H h h:=Un.kept λ_ _ q=>q
theorem Un.laid(k:∀b u,h.get? b=some u->h'.get? b=some u)(hp:h.objs.size<=a)(hn:H a=none):Un fs ex H (upd H a o) h h' where
 keep:=λb u q _ _ _=>k b u q
 slot:=λb u q _ _ _=>⟨u.slots,k b u q⟩
 free:=λb u q n _=>by rw[upd_ne (aeN (z0d (z2c q) hp))];exact n
 there:=λb u q _=>⟨u,k b u q⟩
 tups:=λb xs q=>by rw[upd_ne (ne_of_none q hn)];exact q
 frzs:=λb u xs q=>by rw[upd_ne (ne_of_none q hn)];exact q
 tbls:=λb ps q=>⟨#[],by rw[upd_ne (ne_of_none q hn),q];simp⟩
theorem Un.write(mu:Mut (H x))(he:e=x\/H e=some (.own x))(k:∀b u,b≠e->h.get? b=some u->h'.get? b=some u)(heo:∃u,h'.get? e=some u):Un fs ex H (upd H x o) h h':=by
 have hx:∀b,H b=none->b≠x:=λb n z=>by subst z;rw[n] at mu;exact mu
 have hb:∀b,H b=none->b≠e:=λb n z=>by
  subst z;rcases he with r |r
  ·exact hx b n r
  ·rw[n] at r;cases r
 have hm:∀b u,H b=some u->¬Mut (some u)->b≠x:=λb u q nm z=>by subst z;rw[q] at mu;exact nm mu
 refine⟨λb u q n _ _=>k b u (hb b n) q,λb u q n _ _=>⟨u.slots,k b u (hb b n) q⟩,λb u q n _=>by rw[upd_ne (hx b n)];exact n,λb u q _=>?_,
  λb xs q=>by rw[upd_ne (hm b _ q λz=>z)];exact q,λb u xs q=>by rw[upd_ne (hm b _ q λz=>z)];exact q,λb ps q=>⟨#[],by rw[upd_ne (hm b _ q λz=>z),q];simp⟩⟩
 by_cases hbe:b=e
 ·subst hbe;exact heo
 ·exact⟨u,k b u hbe q⟩
end
def trk(h:aes)(H:Hp):List aed:=(aee h.objs.size).filter λa=>(H a).isSome
def hidT(h:aes)(H:Hp):aes:=PySem.W.hideAll h (trk h H)
theorem hidT_size(h:aes)(H:Hp):(hidT h H).objs.size=h.objs.size:=PySem.W.hideAll_size _ _
theorem hidT_get{b:aed}{o:Obj}(e:h.get? b=some o)(n:H b=none):(hidT h H).get? b=some o:=
 PySem.W.hideAll_get _ e λhm=>by
  have q:(H b).isSome=true:=(ahT.mp hm).2;rw[n] at q;simp at q
theorem of_hidT{b:aed}{o:Obj}(e:(hidT h H).get? b=some o):h.get? b=some o/\H b=none:=by
 have e':h.get? b=some o:=PySem.W.of_hideAll (trk h H) e;refine⟨e',?_⟩;cases q:H b with
 |none=>rfl
 | some x=>
  have hm:b∈trk h H:=ahT.mpr ⟨ahB.mpr (z2c e'),by simp[q]⟩;have z:(hidT h H).get? b=none:=PySem.W.hideAll_none (trk h H) hm;rw[z] at e;cases e
def allNews(g h:aes)(L:aed):List (aed×Obj):=(aee h.objs.size).filterMap λa=>if a=L\/(g.get? a).isSome=true then none else (h.get? a).map λo=>(a,o)
def rest(g h:aes)(L d:aed):List (aed×Obj):=(allNews g h L).filter λp=>decide (p.1≠d)
structure Mod(K:aeh)(mg:Str->Option aef)(base:aes):Prop where
 kin:K.In base
 glob:base.Ns ael mg
 blt:∃mb,base.Ns agP mb/\∀x:Str,x≠"__name__"->mb x=afI x
 nolimit:base.NoLimit
structure Cx where
 prog:aew
 w:aey
 K:aeh
 mg:Str->Option aef
 base:aes
 A:aeF
 N:List Str
 s₀:aeg
 H₀:Hp
 env:Env
 outer:List Env
 stack:List Env
 ex:List aed
 fn:Str->Bool
 calm:Bool
 pn:List (aed×Obj)
 xe:aef->aeg->Prop
def frs(l:List Env):List aed:=l.filterMap (·.frame)
abbrev Cx.fs(X:Cx):List aed:=frs X.outer
def Vis(sc:afz)(x:Str):Prop:=sc.names.lookup x=some .local\/sc.names.lookup x=some .cell\/sc.names.lookup x=some .free
def Loc(sc:afz)(x:Str):Prop:=sc.names.lookup x=some .local\/sc.names.lookup x=some .cell
def Look(env:Env)(h:aes)(m:Str->Option aef)(x:Str)(u:aef):Prop:=
 (env.kindOf x=some .local/\m x=some u)\/((env.kindOf x=some .cell\/env.kindOf x=some .free)/\∃c,env.cells.lookup x=some c/\h.IsCell c (some u))
structure Cx.Ok(X:Cx):Prop where
 mod:Mod X.K X.mg X.base
 kind:X.env.scope.kind= .function
 glob:X.env.globals=ael
 blt:X.env.builtins=agP
 above:X.s₀.heap.objs.size<=X.env.locals
 inj:∀x y c,X.env.cells.lookup x=some c->X.env.cells.lookup y=some c->x=y
 has:∀x,(X.env.kindOf x=some .cell\/X.env.kindOf x=some .free)->∃c,X.env.cells.lookup x=some c
 cab:∀x c,X.fn x=true->X.env.cells.lookup x=some c->X.s₀.heap.objs.size<=c
 hd:X.calm=true->X.A.handled=none
 frames:X.A.frames=some X.stack
 stk:X.stack=X.outer\/(X.stack=X.env::X.outer/\X.env.frame=some X.env.locals)
 exf:∀b∈X.ex,b≠X.env.locals/\∀x c,X.env.cells.lookup x=some c->c≠b
 bs:∀b o,X.base.get? b=some o->X.s₀.heap.get? b=some o/\X.H₀ b=none
 bsz:X.base.objs.size<=X.s₀.heap.objs.size
 noex:∀b o,X.base.get? b=some o->b∉X.ex
 exfs:∀b∈X.ex,b∉X.fs
 funs:X.s₀.heap.FunFrames X.base X.outer
 frf:∀b∈X.fs,X.H₀ b=none
structure Inv(X:Cx)(pins:List (aed×Obj))(σ:List (Option V))(H:Hp)(s:aeg):Prop where
 ok:X.Ok
 os:s.os=X.s₀.os
 bare:agW s.gens
 base:Un X.fs X.ex X.H₀ H X.s₀.heap s.heap
 loc:∃m,s.heap.Ns X.env.locals m/\∀(i:Nat) (x:Str) (v:V),X.N[i]?=some x->σ[i]?=some (some v)->Vis X.env.scope x->∃u,RelV v u/\Look X.env s.heap m x u
 cell:∀x c,X.env.cells.lookup x=some c->∃v,s.heap.IsCell c v
 free:H X.env.locals=none
 freeC:∀x c,X.env.cells.lookup x=some c->H c=none
 pin:∀p∈X.pn++pins,s.heap.get? p.1=some p.2/\H p.1=none/\p.1≠X.env.locals/\p.1∉X.fs/\∀v,p.2.data≠.cell v
 hok:HOk X.prog X.w H s.heap
 len:σ.length=X.N.length
section
variable{X:Cx}{pins:List (aed×Obj)}{σ:List (Option V)}{H H':Hp}{s:aeg}{h':aes}
theorem Cx.Ok.nofr(ok:X.Ok){b:aed}{o:Obj}(e:X.base.get? b=some o):b∉X.fs:=λhb=>by
 have:=(ok.funs.mem hb).1;rw[e] at this;cases this
theorem Inv.bs(I:Inv X pins σ H s):∀b o,X.base.get? b=some o->s.heap.get? b=some o/\H b=none:=λb o e=>
 ⟨I.base.keep b o (I.ok.bs b o e).1 (I.ok.bs b o e).2 (I.ok.nofr e) (I.ok.noex b o e),I.base.free b o (I.ok.bs b o e).1 (I.ok.bs b o e).2 (I.ok.noex b o e)⟩
theorem Inv.bk(I:Inv X pins σ H s):∀b o,X.base.get? b=some o->s.heap.get? b=some o:=λb o e=>(I.bs b o e).1
theorem Inv.mod(I:Inv X pins σ H s):Mod X.K X.mg X.base:=I.ok.mod
theorem Inv.kIn(I:Inv X pins σ H s):X.K.In s.heap:=I.ok.mod.kin.keeps I.bk
theorem Inv.lt(I:Inv X pins σ H s):X.env.locals<s.heap.objs.size:=let⟨_,hn,_⟩:=I.loc;hn.lt
theorem Inv.sz(I:Inv X pins σ H s):X.s₀.heap.objs.size<=s.heap.objs.size:=z0b I.ok.above (z0e I.lt)
theorem Inv.nofs(I:Inv X pins σ H s){a:aed}(h:s.heap.objs.size<=a):a∉X.fs:=λhb=>by
 obtain⟨_,o,ho,_⟩:=I.ok.funs.mem hb;exact absurd (z0d (z2c ho) (z0b I.sz h)) (afj _)
theorem Inv.cne(I:Inv X pins σ H s):∀x c,X.env.cells.lookup x=some c->c≠X.env.locals:=λx c e z=>by
 obtain⟨v,o,ho,hd⟩:=I.cell x c e;obtain⟨m,⟨o',es,ep,ho',hd',_⟩,_⟩:=I.loc;rw[z,ho'] at ho;cases ho;rw[hd'] at hd;cases hd
theorem Inv.funs(I:Inv X pins σ H s):s.heap.FunFrames X.base X.outer:=by
 have all:∀(l:List Env),(∀b∈frs l,b∈X.fs)->X.s₀.heap.FunFrames X.base l->s.heap.FunFrames X.base l:=by
  intro l
  induction l with
  |nil=>intro _ _;trivial
  | cons env r ih=>
   intro hs hl;obtain⟨hk,⟨L,o,hf,hn,ho,hd⟩,hr⟩:=hl;have hL:L∈X.fs:=hs L (by unfold frs;rw[ahk,hf];exact aex);obtain⟨sl,e⟩:=I.base.slot L o ho (I.ok.frf L hL) hL λz=>I.ok.exfs L z hL;exact⟨hk,⟨L,_,hf,hn,e,hd⟩,ih (λb hb=>hs b (by unfold frs;rw[ahk,hf];exact z2f _ hb)) hr⟩
 exact all X.outer (λ_ hb=>hb) I.ok.funs
theorem Inv.stack(I:Inv X pins σ H s):s.heap.FunFrames X.base X.stack:=by
 rcases I.ok.stk with e |⟨e,hf⟩
 ·rw[e];exact I.funs
 ·rw[e];obtain⟨m,hn,_⟩:=I.loc;refine .cons (by rw[I.ok.kind];decide) hf hn ?_ I.funs;exact Heap.get?_none_of_le (z0b I.ok.bsz I.ok.above)
theorem Inv.stkSub(I:Inv X pins σ H s):∀b∈frs X.stack,b∈X.env.locals::X.fs:=λb hb=>by
 rcases I.ok.stk with e |⟨e,hf⟩
 ·rw[e] at hb;exact z2f _ hb
 ·rw[e] at hb;unfold frs at hb;rw[ahk,hf] at hb;exact hb
theorem Inv.stkFree(I:Inv X pins σ H s):∀b∈frs X.stack,H b=none:=λb hb=>by
 rcases aev.mp (I.stkSub b hb) with e |hb
 ·rw[e];exact I.free
 ·obtain⟨_,o,ho,_⟩:=I.ok.funs.mem hb;exact I.base.free b o ho (I.ok.frf b hb) λz=>I.ok.exfs b z hb
theorem Inv.step{g':Array GenState}{d':Drawn}(I:Inv X pins σ H s)
  (hch:∀b∈ch,(b∈X.ex\/X.s₀.heap.objs.size<=b)/\b≠X.env.locals/\(∀x c,X.env.cells.lookup x=some c->c≠b)/\∀p∈X.pn++pins,p.1≠b)
  (keep:∀b o,b≠X.env.locals->b∉X.fs->b∉ch->s.heap.get? b=some o->H b=none->h'.get? b=some o)
  (slot:∀b o,b≠X.env.locals->b∈X.fs->b∉ch->s.heap.get? b=some o->H b=none->∃sl,h'.get? b=some {o with slots:=sl})(free:∀b o,b∉ch->s.heap.get? b=some o->H b=none->H' b=none)
  (there:∀b o,b∉ch->s.heap.get? b=some o->∃o',h'.get? b=some o')
  (tups:∀b xs,H b=some (.tup xs)->H' b=some (.tup xs))(frzs:∀b o u,H b=some (.frz o u)->H' b=some (.frz o u))(tbls:∀b ps,H b=some (.tbl ps)->∃more,H' b=some (.tbl (ps++more)))
  (ns:∀m,s.heap.Ns X.env.locals m->h'.Ns X.env.locals m)(hok:HOk X.prog X.w H' h')(hg:agW g'):
  Inv X pins σ H' {s with heap:=h',gens:=g',drawn:=d',toks:=t'}:=by
 have neL:∀b o,X.s₀.heap.get? b=some o->b≠X.env.locals:=λb o e=>aeN (z0d (z2c e) I.ok.above);have neC:∀b o,X.s₀.heap.get? b=some o->b∉X.ex->b∉ch:=λb o e hx hb=>by
  rcases (hch b hb).1 with z |z
  ·exact hx z
  ·exact absurd (z0d (z2c e) z) (afj _)
 have cellK:∀x c,X.env.cells.lookup x=some c->∀v,s.heap.IsCell c v->h'.IsCell c v:=λx c e v ⟨o,ho,hd⟩=>by
  have nch:c∉ch:=λz=>(hch c z).2.2.1 x c e rfl;by_cases hc:c∈X.fs
  ·obtain⟨sl,q⟩:=slot c o (I.cne x c e) hc nch ho (I.freeC x c e);exact⟨_,q,hd⟩
  ·exact⟨o,keep c o (I.cne x c e) hc nch ho (I.freeC x c e),hd⟩
 refine⟨I.ok,I.os,hg,⟨λb o e n hb hx=>?_,λb o e n hb hx=>?_,λb o e n hx=>?_,λb o e hx=>?_,λb xs e=>tups b xs (I.base.tups b xs e),λb o xs e=>frzs b o xs (I.base.frzs b o xs e),λb ps e=>?_⟩,?_,λx c e=>?_,?_,λx c e=>?_,λp hp=>?_,hok,I.len⟩
 ·exact keep b o (neL b o e) hb (neC b o e hx) (I.base.keep b o e n hb hx) (I.base.free b o e n hx)
 ·obtain⟨sl,e1⟩:=I.base.slot b o e n hb hx;obtain⟨sl',e2⟩:=slot b _ (neL b o e) hb (neC b o e hx) e1 (I.base.free b o e n hx);exact⟨sl',e2⟩
 ·obtain⟨o',e1⟩:=I.base.there b o e hx;exact free b o' (neC b o e hx) e1 (I.base.free b o e n hx)
 ·obtain⟨o',e1⟩:=I.base.there b o e hx;exact there b o' (neC b o e hx) e1
 ·obtain⟨m1,e1⟩:=I.base.tbls b ps e;obtain⟨m2,e2⟩:=tbls b _ e1;exact⟨m1++m2,by rw[e2,Array.append_assoc]⟩
 ·obtain⟨m,hn,hl⟩:=I.loc;refine⟨m,ns m hn,λi x v e1 e2 e3=>?_⟩;obtain⟨u,r,l⟩:=hl i x v e1 e2 e3;refine⟨u,r,?_⟩;rcases l with l |⟨k,c,e,z⟩
  ·exact .inl l
  ·exact .inr ⟨k,c,e,cellK x c e _ z⟩
 ·obtain⟨v,z⟩:=I.cell x c e;exact⟨v,cellK x c e v z⟩
 ·obtain⟨m,⟨o,_,_,ho,_⟩,_⟩:=I.loc;exact free _ o (λz=>(hch _ z).2.1 rfl) ho I.free
 ·obtain⟨v,o,ho,hd⟩:=I.cell x c e;exact free c o (λz=>(hch c z).2.2.1 x c e rfl) ho (I.freeC x c e)
 ·obtain⟨e,n,ne,nf,d⟩:=I.pin p hp;have nch:p.1∉ch:=λz=>(hch p.1 z).2.2.2 p hp rfl;exact⟨keep p.1 p.2 ne nf nch e n,free p.1 p.2 nch e n,ne,nf,d⟩
theorem Inv.un(I:Inv X pins σ H s)(u:Un X.fs [] H H' s.heap h')(hok:HOk X.prog X.w H' h'):Inv X pins σ H' {s with heap:=h',toks:=t'}:=by
 obtain⟨m,⟨o,es,ep,ho,r⟩,_⟩:=id I.loc;obtain⟨sl,hL⟩:=u.any ho I.free (by simp);exact I.step (g':=s.gens) (d':=s.drawn) (ch:=[]) (λ_ z=>nomatch z) (λb o _ hb _ e n=>u.keep b o e n hb (by simp)) (λb o _ hb _ e n=>u.slot b o e n hb (by simp)) (λb o _ e n=>u.free b o e n (by simp)) (λb o _ e=>u.there b o e (by simp)) u.tups u.frzs u.tbls (λm' hm=>by
  obtain⟨o',es',ep',ho',r'⟩:=hm;rw[ho] at ho';cases ho';exact⟨_,es',ep',hL,r'⟩) hok I.bare
theorem Inv.call{g':Array GenState}{d':Drawn}(I:Inv X pins σ H s)(u:Un (frs X.stack) ch H H' s.heap h')(hok:HOk X.prog X.w H' h')(hg:agW g')
  (hch:∀b∈ch,(b∈X.ex\/X.s₀.heap.objs.size<=b)/\b≠X.env.locals/\(∀x c,X.env.cells.lookup x=some c->c≠b)/\∀p∈X.pn++pins,p.1≠b):
  Inv X pins σ H' {s with heap:=h',gens:=g',drawn:=d',toks:=t'}:=by
 obtain⟨m,⟨o,es,ep,ho,r⟩,_⟩:=id I.loc;obtain⟨sl,hL⟩:=u.any ho I.free λz=>(hch _ z).2.1 rfl;exact I.step (ch:=ch) hch (λb o hL hb hc e n=>u.keep b o e n (λz=>(aev.mp (I.stkSub b z)).elim hL hb) hc) (λb o _ _ hc e n=>u.any e n hc) (λb o hc e n=>u.free b o e n hc) (λb o hc e=>u.there b o e hc) u.tups u.frzs u.tbls (λm' hm=>by
  obtain⟨o',es',ep',ho',r'⟩:=hm;rw[ho] at ho';cases ho';exact⟨_,es',ep',hL,r'⟩) hok hg
theorem Inv.turned{it:aed}(I:Inv X pins σ H s)(k:∀b o,b≠it->s.heap.get? b=some o->h'.get? b=some o)(hn:H it=none)(hL:it≠X.env.locals)
  (h1:it∈X.ex\/X.s₀.heap.objs.size<=it)(h2:∀x c,X.env.cells.lookup x=some c->c≠it)(h3:∀p∈X.pn++pins,p.1≠it):Inv X pins σ H {s with heap:=h',toks:=t'}:=by
 have nit:∀b u,H b=some u->b≠it:=λb u e z=>by rw[z,hn] at e;cases e
 refine I.step (g':=s.gens) (d':=s.drawn) (ch:=[it]) (λb hb=>?_) (λb o _ _ hc e _=>k b o (λz=>hc (by simp[z])) e) (λb o _ _ hc e _=>⟨o.slots,k b o (λz=>hc (by simp[z])) e⟩) (λ_ _ _ _ n=>n)
  (λb o hc e=>⟨o,k b o (λz=>hc (by simp[z])) e⟩) (λ_ _ e=>e) (λ_ _ _ e=>e) (λb ps e=>⟨#[],by rw[e];simp⟩) (λm hm=>?_) (λb u e=>?_) I.bare
 ·have e:b=it:=by simpa using hb
  subst e;exact⟨h1,hL,h2,h3⟩
 ·obtain⟨o,es,ep,ho,r⟩:=hm;exact⟨o,es,ep,k _ o (aeo hL) ho,r⟩
 ·refine (I.hok b u e).stay (λc v hc q=>k c v ?_ q) (λ_ q=>q) (λ_ _ q=>q) λ_ _ _ _ q=>q;rcases hc with z |z
  ·rw[z];exact nit b u e
  ·exact nit c _ z
theorem Inv.tok(I:Inv X pins σ H s)(t:Nat):Inv X pins σ H {s with toks:=t}:=I.un (h':=s.heap) (t':=t) Un.refl I.hok
theorem Inv.kept(I:Inv X pins σ H s)(k:∀b u,s.heap.get? b=some u->h'.get? b=some u):Inv X pins σ H {s with heap:=h',toks:=t'}:=I.un (Un.kept k) (I.hok.kept k)
theorem Inv.laid{a:aed}(I:Inv X pins σ H s)(k:∀b u,s.heap.get? b=some u->h'.get? b=some u)(hp:s.heap.objs.size<=a)(new:ObjOk X.prog X.w (upd H a o) h' a o):
  Inv X pins σ (upd H a o) {s with heap:=h',toks:=t'}:=I.un (Un.laid k hp (I.hok.fresh hp)) (I.hok.laid k hp new)
theorem Inv.write{x e:aed}(I:Inv X pins σ H s)(mu:Mut (H x))(he:e=x\/H e=some (.own x))(k:∀b u,b≠e->s.heap.get? b=some u->h'.get? b=some u)(heo:∃u,h'.get? e=some u)
  (new:ObjOk X.prog X.w (upd H x o) h' x o):Inv X pins σ (upd H x o) {s with heap:=h',toks:=t'}:=I.un (Un.write mu he k heo) (I.hok.write mu he k heo new)
theorem Inv.pins_of{pins':List (aed×Obj)}(I:Inv X pins σ H s)(h:∀p∈pins',s.heap.get? p.1=some p.2/\H p.1=none/\p.1≠X.env.locals/\p.1∉X.fs/\∀v,p.2.data≠.cell v):Inv X pins' σ H s:=
 ⟨I.ok,I.os,I.bare,I.base,I.loc,I.cell,I.free,I.freeC,λp hp=>(ahU.mp hp).elim (λz=>I.pin p (ahV _ z)) (h p),I.hok,I.len⟩
theorem nodup_ix(hN:N.Nodup){i j:Nat}{x:Str}(a:N[i]?=some x)(b:N[j]?=some x):i=j:=by
 obtain⟨h1,e1⟩:=z1b a;obtain⟨h2,e2⟩:=z1b b;exact (aiI hN).mp (e1.trans e2.symm)
theorem store_ok2{i:Nat}{x:Str}{v:V}{u:aef}(I:Inv X pins σ H s)(hN:X.N.Nodup)(hi:X.N[i]?=some x)(hx:Loc X.env.scope x)(r:RelV v u)
  (h:∀s',Inv X pins (σ.set i (some v)) H s'->(∃a,afB a s.heap s'.heap/\(a=X.env.locals\/X.env.cells.lookup x=some a))->Q () s')(hf:X.fn x=true\/X.env.scope.names.lookup x=some .local:=by first |exact .inl rfl |exact .inr rfl |assumption):aen M A (afX X.env x u) Q E s:=by
 obtain⟨m,hn,hl⟩:=id I.loc;have hcls:(X.env.scope.kind == .class || (X.env.scope.kind == .module && X.env.locals !=X.env.globals))=false:=by rw[I.ok.kind];rfl
 have hiσ:i<σ.length:=by rw[I.len];exact (z1b hi).1
 have cne:=I.cne;have tracked:∀{a:aed} {h':aes},(∃o,s.heap.get? a=some o/\H a=none)->afB a s.heap h'->HOk X.prog X.w H h':=λ{a h'} ha hs b ob e=>by
  obtain⟨_,_,hfree⟩:=ha;refine (I.hok b ob e).stay (λc w' hc q=>(hs.2 c ?_).trans q) (λ_ q=>q) (λ_ _ q=>q) λ_ _ _ _ q=>q
  rintro rfl
  rcases hc with rfl |hc
  ·rw[hfree] at e;cases e
  ·rw[hfree] at hc;cases hc
 rcases hx with hk |hk
 ·refine wpAny_storeName_local hk hn (λh' hn' hs=>?_) hcls;obtain⟨oL,_,_,hoL,_⟩:=id hn;refine h _ ⟨I.ok,I.os,I.bare,⟨λb o e n hb hx=>?_,λb o e n hb hx=>?_,I.base.free,λb o e hx=>?_,I.base.tups,I.base.frzs,I.base.tbls⟩,⟨_,hn',λj y v' e1 e2 e3=>?_⟩,λy c e=>?_,I.free,I.freeC,λp hp=>?_,tracked ⟨oL,hoL,I.free⟩ hs,by simpa using I.len⟩ ⟨_,hs,.inl rfl⟩
  ·exact (hs.2 b (aeN (z0d (z2c e) I.ok.above))).trans (I.base.keep b o e n hb hx)
  ·obtain⟨sl,e1⟩:=I.base.slot b o e n hb hx;exact⟨sl,(hs.2 b (aeN (z0d (z2c e) I.ok.above))).trans e1⟩
  ·obtain⟨o',e1⟩:=I.base.there b o e hx;exact⟨o',(hs.2 b (aeN (z0d (z2c e) I.ok.above))).trans e1⟩
  ·by_cases hj:j=i
   ·subst hj;rw[hi] at e1;cases e1;rw[z2a hiσ] at e2;cases e2;exact⟨u,r,.inl ⟨hk,by simp⟩⟩
   ·rw[z1e (aeo hj)] at e2;obtain⟨u',r',q⟩:=hl j y v' e1 e2 e3;refine⟨u',r',?_⟩;rcases q with⟨k,e⟩ |⟨k,c,e,z⟩
    ·refine .inl ⟨k,?_⟩;have:y≠x:=λe=>hj (nodup_ix hN e1 (e▸hi));simp[this,e]
    ·exact .inr ⟨k,c,e,z.sameBut hs (cne y c e)⟩
  ·obtain⟨w',z⟩:=I.cell y c e;exact⟨w',z.sameBut hs (cne y c e)⟩
  ·obtain⟨e,n,ne,nf,d⟩:=I.pin p hp;exact⟨(hs.2 p.1 ne).trans e,n,ne,nf,d⟩
 ·have hfn:X.fn x=true:=by
   rcases hf with z |z
   ·exact z
   ·rw[z] at hk;cases hk
  obtain⟨c,hc⟩:=I.ok.has x (.inl hk);obtain⟨w',z⟩:=I.cell x c hc;refine wpAny_storeName_cell I.ok.kind hk hc z (λh' hc' hs=>?_);obtain⟨oc,hoc,hocd⟩:=id z;refine h {s with heap:=h'} ⟨I.ok,I.os,I.bare,⟨λb o e n hb hx=>?_,λb o e n hb hx=>?_,I.base.free,λb o e hx=>?_,I.base.tups,I.base.frzs,I.base.tbls⟩,⟨m,hn.sameBut hs (aeo (cne x c hc)),λj y v' e1 e2 e3=>?_⟩,λy c' e=>?_,I.free,I.freeC,λp hp=>?_,tracked ⟨oc,hoc,I.freeC x c hc⟩ hs,by simpa using I.len⟩ ⟨c,hs,.inr hc⟩
  ·exact (hs.2 b (aeN (z0d (z2c e) (I.ok.cab x c hfn hc)))).trans (I.base.keep b o e n hb hx)
  ·obtain⟨sl,e1⟩:=I.base.slot b o e n hb hx;exact⟨sl,(hs.2 b (aeN (z0d (z2c e) (I.ok.cab x c hfn hc)))).trans e1⟩
  ·obtain⟨o',e1⟩:=I.base.there b o e hx;exact⟨o',(hs.2 b (aeN (z0d (z2c e) (I.ok.cab x c hfn hc)))).trans e1⟩
  ·by_cases hj:j=i
   ·subst hj;rw[hi] at e1;cases e1;rw[z2a hiσ] at e2;cases e2;exact⟨u,r,.inr ⟨.inl hk,c,hc,hc'⟩⟩
   ·rw[z1e (aeo hj)] at e2;obtain⟨u',r',q⟩:=hl j y v' e1 e2 e3;refine⟨u',r',?_⟩;rcases q with q |⟨k,c',e,z'⟩
    ·exact .inl q
    ·refine .inr ⟨k,c',e,z'.sameBut hs ?_⟩
     rintro rfl
     exact hj (nodup_ix hN e1 (I.ok.inj _ _ _ e hc▸hi))
  ·by_cases hcc:c'=c
   ·subst hcc;exact⟨_,hc'⟩
   ·obtain⟨w2,z2⟩:=I.cell y c' e;exact⟨w2,z2.sameBut hs hcc⟩
  ·obtain⟨e,n,ne,nf,d⟩:=I.pin p hp;refine⟨(hs.2 p.1 ?_).trans e,n,ne,nf,d⟩;intro q;rw[q,hoc] at e;have q':oc=p.2:=aeG e;exact d w' (by rw[<-q'];exact hocd)
theorem store_ok{i:Nat}{x:Str}{v:V}{u:aef}(I:Inv X pins σ H s)(hN:X.N.Nodup)(hi:X.N[i]?=some x)(hx:Loc X.env.scope x)(r:RelV v u)
  (h:∀s',Inv X pins (σ.set i (some v)) H s'->Q () s')(hf:X.fn x=true\/X.env.scope.names.lookup x=some .local:=by first |exact .inl rfl |exact .inr rfl |assumption):aen M A (afX X.env x u) Q E s:=
 store_ok2 I hN hi hx r (λs' I' _=>h s' I') hf
theorem Inv.call'{s':aeg}(I:Inv X pins σ H s)(ho:s'.os=s.os)(u:Un (frs X.stack) ch H H' s.heap s'.heap)(hok:HOk X.prog X.w H' s'.heap)(hg:agW s'.gens)
  (hch:∀b∈ch,(b∈X.ex\/X.s₀.heap.objs.size<=b)/\b≠X.env.locals/\(∀x c,X.env.cells.lookup x=some c->c≠b)/\∀p∈X.pn++pins,p.1≠b):Inv X pins σ H' s':=by
 obtain⟨h',g',d',t',o'⟩:=s';have e:o'=s.os:=ho;subst e;exact I.call (g':=g') (t':=t') (d':=d') u hok hg hch
end
abbrev XK:=aef->Option aed->Hp->Prop
abbrev St:=List (Option V)
abbrev VK:=V->Hp->Prop
abbrev TE:=St->Hp->VK->Prop
abbrev TT:=St->Hp->(Bool->Hp->Prop)->Prop
abbrev TA:=St->Hp->(List V->Hp->Prop)->Prop
structure Ends where
 nx:St->Hp->Prop
 rt:VK
 bk:St->Hp->Prop:=λ_ _=>False
 ct:St->Hp->Prop:=λ_ _=>False
abbrev TS:=Ends->St->Hp->Prop
inductive EP (X:Cx) (pins:List (aed×Obj)) (σ:St) (Q:VK) (u:aef) (s':aeg):Prop
 |mk (v:V) (H':Hp) (I:Inv X pins σ H' s') (r:RelV v u) (q:Q v H'):EP X pins σ Q u s'
inductive TP (X:Cx) (pins:List (aed×Obj)) (σ:St) (Q:Bool->Hp->Prop) (b:Bool) (s':aeg):Prop
 |mk (H':Hp) (I:Inv X pins σ H' s') (q:Q b H'):TP X pins σ Q b s'
inductive AP (X:Cx) (pins:List (aed×Obj)) (σ:St) (Q:List V->Hp->Prop) (us:List aef) (s':aeg):Prop
 |mk (vs:List V) (H':Hp) (I:Inv X pins σ H' s') (r:Vals vs us) (q:Q vs H'):AP X pins σ Q us s'
inductive Uj (X:Cx) (pins:List (aed×Obj)) (D:St->Hp->Prop) (s':aeg):Prop
 |mk (σ':St) (H':Hp) (I:Inv X pins σ' H' s') (d:D σ' H'):Uj X pins D s'
inductive SPr (X:Cx) (pins:List (aed×Obj)) (D:V->Hp->Prop) (u:aef) (s':aeg):Prop
 |mk (v:V) (σ':St) (H':Hp) (I:Inv X pins σ' H' s') (r:RelV v u) (d:D v H'):SPr X pins D u s'
def SP(X:Cx)(pins:List (aed×Obj))(D:Ends)(f:Flow)(s':aeg):Prop:=
 match f with
 | .next=>Uj X pins D.nx s'
 | .brk=>Uj X pins D.bk s'
 | .cont=>Uj X pins D.ct s'
 | .ret u=>SPr X pins D.rt u s'
def PE(X:Cx)(e:aer)(t:TE):Prop:=
 ∀(pins:List (aed×Obj)) (s:aeg) (σ:St) (H:Hp) (Q:VK),Inv X pins σ H s->t σ H Q->aen (model X.prog X.w) X.A (eval e X.env) (EP X pins σ Q) X.xe s
def PT(X:Cx)(e:aer)(t:TT):Prop:=
 ∀(pins:List (aed×Obj)) (s:aeg) (σ:St) (H:Hp) (Q:Bool->Hp->Prop),Inv X pins σ H s->t σ H Q->aen (model X.prog X.w) X.A (isTrue e X.env (eval e X.env)) (TP X pins σ Q) X.xe s
def PW(X:Cx)(e:aer)(t:TT):Prop:=
 ∀(whole:Sem aef) (pins:List (aed×Obj)) (s:aeg) (σ:St) (H:Hp) (Q:Bool->Hp->Prop),Inv X pins σ H s->t σ H Q->aen (model X.prog X.w) X.A (isTrue e X.env whole) (TP X pins σ Q) X.xe s
def PA(X:Cx)(es:List aer)(t:TA):Prop:=
 ∀(pos:Pos) (pins:List (aed×Obj)) (s:aeg) (σ:St) (H:Hp) (Q:List V->Hp->Prop),Inv X pins σ H s->t σ H Q->aen (model X.prog X.w) X.A (spliced (ae7 pos (aei es X.env))) (AP X pins σ Q) X.xe s
def PS(X:Cx)(st:aeA)(t:TS):Prop:=
 ∀(pins:List (aed×Obj)) (s:aeg) (σ:St) (H:Hp) (D:Ends),Inv X pins σ H s->t D σ H->aen (model X.prog X.w) X.A (exec st X.env) (SP X pins D) X.xe s
def PSs(X:Cx)(st:List aeA)(t:TS):Prop:=
 ∀(pins:List (aed×Obj)) (s:aeg) (σ:St) (H:Hp) (D:Ends),Inv X pins σ H s->t D σ H->aen (model X.prog X.w) X.A (execs st X.env) (SP X pins D) X.xe s
theorem thn{α:Type}{t:Sem α}{Q Q':α->aeg->Prop}(h:aen M A t Q E s)(hQ:∀a s,Q a s->Q' a s):aen M A t Q' E s:=afl h hQ λ_ _ x=>x
section
variable{X:Cx}
theorem bin{a b:aer}{ta tb:TE}(ha:PE X a ta)(hb:PE X b tb){R:V->V->Hp->Prop}(I:Inv X pins σ H s)(h:ta σ H λx H1=>tb σ H1 λy H2=>R x y H2)
  {α:Type}{Q:α->aeg->Prop}{f:aef->aef->Sem α}
  (hf:∀v u s2 x y H2,Inv X pins σ H2 s2->RelV x v->RelV y u->R x y H2->aen (model X.prog X.w) X.A (f v u) Q X.xe s2):
  aen (model X.prog X.w) X.A (eval a X.env) (λv s₁=>aen (model X.prog X.w) X.A (eval b X.env) (λu s₂=>aen (model X.prog X.w) X.A (f v u) Q X.xe s₂) X.xe s₁) X.xe s:=by
 refine thn (ha pins s σ H _ I h) λv s1 bQ=>?_;obtain⟨x,H1,I1,r1,q1⟩:=bQ;refine thn (hb pins s1 σ H1 _ I1 q1) λu s2 bQ=>?_;obtain⟨y,H2,I2,r2,q2⟩:=bQ;exact hf v u s2 x y H2 I2 r1 r2 q2
def tVar(i:Nat):TE:=λσ H Q=>∃v,σ[i]?=some (some v)/\Q v H
def tC(v:V):TE:=λ_ H Q=>Q v H
theorem pe_var{i:Nat}{x:Str}{pos:Pos}(hN:X.N[i]?=some x)(hv:Vis X.env.scope x)(hd:(x ==("__debug__" :Str))=false:=by decide)(hcd:(x ==("__classdict__" :Str))=false:=by decide):PE X (.Name x pos) (tVar i):=by
 intro pins s σ H Q I h;obtain⟨v,e,h⟩:=h;obtain⟨m,hn,hl⟩:=I.loc;obtain⟨u,r,l⟩:=hl i x v hN e hv;have fin:EP X pins σ Q u s:=⟨v,H,I,r,h⟩;rcases l with⟨hk,hm⟩ |⟨hk,c,hc,hcell⟩
 ·exact wpAny_Name (wpAny_loadName_local I.ok.kind hk hn hm fin) hd
 ·rcases hk with hk |hk
  ·exact wpAny_Name (wpAny_loadName_cell I.ok.kind hk hc hcell fin) hd
  ·exact wpAny_Name (wpAny_loadName_free I.ok.kind hk hc hcell fin hcd) hd
theorem pe_int{i j pos}:PE X (.Constant (.int i) j pos) (tC (.int i)):=λ_ _ _ H _ I h=>wpAny_Constant_int ⟨.int i,H,I.tok _,⟨_,rfl⟩,h⟩
theorem pe_bl{b j pos}:PE X (.Constant (.bool b) j pos) (tC (.bl b)):=λ_ _ _ H _ I h=>Constant_bool ⟨.bl b,H,I,rfl,h⟩
theorem pe_non{j pos}:PE X (.Constant .none j pos) (tC .non):=λ_ _ _ H _ I h=>Constant_none ⟨.non,H,I,rfl,h⟩
theorem pe_str{x j pos}:PE X (.Constant (.str x) j pos) (tC (.str x)):=λ_ _ _ H _ I h=>Calls.Constant_str ⟨.str x,H,I.tok _,⟨_,rfl⟩,h⟩
def Gl(X:Cx)(x:Str):Prop:=X.env.kindOf x=some .globalImplicit
theorem ld_glob{x:Str}{u:aef}{pos:Pos}{Q:aef->aeg->Prop}(I:Inv X pins σ H s)(hg:Gl X x)(hm:X.mg x=some u)(h:Q u s)
  (hd:(x ==("__debug__" :Str))=false:=by decide):aen (model X.prog X.w) X.A (eval (.Name x pos) X.env) Q E s:=
 aio I.ok.kind hg (Calls.loadGlobal_global (by rw[I.ok.glob];exact I.mod.glob.keeps I.bk) hm h) hd
theorem ld_blt{x:Str}{u:aef}{pos:Pos}{Q:aef->aeg->Prop}(I:Inv X pins σ H s)(hg:Gl X x)(hm:X.mg x=none)(hv:afI x=some u)(h:Q u s)
  (hn:x≠"__name__" :=by decide)(hd:(x ==("__debug__" :Str))=false:=by decide):aen (model X.prog X.w) X.A (eval (.Name x pos) X.env) Q E s:=by
 obtain⟨mb,h1,h2⟩:=I.mod.blt;exact aio I.ok.kind hg (Calls.loadGlobal_builtin (by rw[I.ok.glob];exact I.mod.glob.keeps I.bk) hm (by rw[I.ok.blt];exact h1.keeps I.bk) ((h2 x hn).trans hv) h) hd
theorem pe_glob{x:Str}{v:V}{u:aef}{pos:Pos}(hg:Gl X x)(hm:X.mg x=some u)(r:RelV v u)(hd:(x ==("__debug__" :Str))=false:=by decide):PE X (.Name x pos) (tC v):=
 λ_ _ _ H _ I h=>ld_glob I hg hm ⟨v,H,I,r,h⟩ hd
theorem pe_bltn{x:Str}{v:V}{u:aef}{pos:Pos}(hg:Gl X x)(hm:X.mg x=none)(hv:afI x=some u)(r:RelV v u)(hn:x≠"__name__" :=by decide)(hd:(x ==("__debug__" :Str))=false:=by decide):PE X (.Name x pos) (tC v):=
 λ_ _ _ H _ I h=>ld_blt I hg hm hv ⟨v,H,I,r,h⟩ hn hd
variable{a b:aer}{ta tb:TE}{pos:Pos}
def PC(X:Cx)(op:CmpOp)(a b:aer)(t:TE):Prop:=
 ∀(pins:List (aed×Obj)) (s:aeg) (σ:St) (H:Hp) (Q:VK),Inv X pins σ H s->t σ H Q->
  aen (model X.prog X.w) X.A (eval a X.env) (λv s₁=>aen (model X.prog X.w) X.A (eval b X.env) (λu s₂=>aen (model X.prog X.w) X.A (ae9 op v u) (EP X pins σ Q) X.xe s₂) X.xe s₁) X.xe s
theorem nobehind(b:aer){op:CmpOp}(h:op≠.In)(h2:op≠.NotIn):agc op b=false:=by
 have e1:(op ==CmpOp.In)=false:=by cases op <;> first |rfl |exact absurd rfl h
 have e2:(op ==CmpOp.NotIn)=false:=by cases op <;> first |rfl |exact absurd rfl h2
 cases b <;> simp[agc,e1,e2]
def tB(t:TE):TT:=λσ H Q=>t σ H λx H1=>∃c,x= .bl c/\Q c H1
theorem pt_cmp{op:CmpOp}(h:PC X op a b t)(h1:agc op b=false:=by first |exact nobehind _ (by decide) (by decide) |rfl):PT X (.Compare a [op] [b] pos) (tB t):=by
 intro pins s σ H Q I hw;refine wpAny_isTrue_Compare1 (thn (h pins s σ H _ I hw) λv s1 h1=>thn h1 λu s2 h2=>thn h2 λc s3 ⟨x,H1,I1,r1,q1⟩=>?_) h1;obtain⟨d,rfl,q⟩:=q1;cases r1;exact afw ⟨H1,I1,q⟩
theorem pt_val(h:PE X e t)(he:∀whole,isTrue e X.env whole=(do let v <-whole;standAt e.pos;holding [v] (truthy v)):=by intro _;rfl):PT X e (tB t):=by
 intro pins s σ H Q I hw;refine isTrue_plain (thn (h pins s σ H _ I hw) λv s1 ⟨x,H1,I1,r1,q1⟩=>?_) (he _);obtain⟨d,rfl,q⟩:=q1;cases r1;exact afw ⟨H1,I1,q⟩
variable{tA tB':TT}{rest:List aer}
def tAnd(t u:TT):TT:=λσ H Q=>t σ H λc H1=>if c=true then u σ H1 Q else Q false H1
def tOr(t u:TT):TT:=λσ H Q=>t σ H λc H1=>if c=true then Q true H1 else u σ H1 Q
def tNot(t:TT):TT:=λσ H Q=>t σ H λc H1=>Q (!c) H1
theorem pw_and1(ha:PT X a tA):PW X (.BoolOp .And [a] pos) tA:=by
 intro wh pins s σ H Q I h;refine isTrue_and (thn (ha pins s σ H Q I h) λc s1 e=>?_);cases c with
 |true=>exact isTrue_and_nil e
 |false=>exact e
theorem pw_or1(ha:PT X a tA):PW X (.BoolOp .Or [a] pos) tA:=by
 intro wh pins s σ H Q I h;refine isTrue_or (thn (ha pins s σ H Q I h) λc s1 e=>?_);cases c with
 |false=>exact isTrue_or_nil e
 |true=>exact e
theorem pw_and(ha:PT X a tA)(hb:PW X (.BoolOp .And (b::rest) pos) tB'):PW X (.BoolOp .And (a::b::rest) pos) (tAnd tA tB'):=by
 intro wh pins s σ H Q I h;refine isTrue_and (thn (ha pins s σ H _ I h) λc s1 bQ=>?_);obtain⟨H1,I1,q1⟩:=bQ;cases c with
 |true=>exact hb wh pins s1 σ H1 Q I1 q1
 |false=>exact⟨H1,I1,q1⟩
theorem pw_or(ha:PT X a tA)(hb:PW X (.BoolOp .Or (b::rest) pos) tB'):PW X (.BoolOp .Or (a::b::rest) pos) (tOr tA tB'):=by
 intro wh pins s σ H Q I h;refine isTrue_or (thn (ha pins s σ H _ I h) λc s1 bQ=>?_);obtain⟨H1,I1,q1⟩:=bQ;cases c with
 |true=>exact⟨H1,I1,q1⟩
 |false=>exact hb wh pins s1 σ H1 Q I1 q1
theorem pt_not(ha:PT X a tA):PT X (.UnaryOp .Not a pos) (tNot tA):=by
 intro pins s σ H Q I h;refine isTrue_not (thn (ha pins s σ H (λc H1=>Q (!c) H1) I h) λc s1 hz=>?_);obtain⟨H1,I1,q1⟩:=hz;exact⟨H1,I1,q1⟩
def tAndV(ta tb:TE):TE:=λσ H Q=>ta σ H λx H1=>∃c,x= .bl c/\if c=true then tb σ H1 Q else Q (.bl false) H1
def tNotV(ta:TE):TE:=λσ H Q=>ta σ H λx H1=>∃c,x= .bl c/\Q (.bl (!c)) H1
theorem pe_one{op}(h:PE X a t):PE X (.BoolOp op [a] pos) t:=λpins s σ H Q I hw=>BoolOp_one (h pins s σ H Q I hw)
theorem pe_and(ha:PE X a ta)(hb:PE X (.BoolOp .And (b::rest) pos) tb):PE X (.BoolOp .And (a::b::rest) pos) (tAndV ta tb):=by
 intro pins s σ H Q I h;refine BoolOp_and (thn (ha pins s σ H _ I h) λv s1 bQ=>?_);obtain⟨x,H1,I1,r1,q1⟩:=bQ;obtain⟨c,rfl,q1⟩:=q1;cases r1;refine afw ?_;cases c with
 |true=>exact hb pins s1 σ H1 Q I1 q1
 |false=>exact⟨.bl false,H1,I1,rfl,q1⟩
theorem pe_not(ha:PE X a ta):PE X (.UnaryOp .Not a pos) (tNotV ta):=by
 intro pins s σ H Q I h;refine UnaryOp_ (thn (ha pins s σ H _ I h) λv s1 bQ=>?_);obtain⟨x,H1,I1,r1,q1⟩:=bQ;obtain⟨c,rfl,q1⟩:=q1;cases r1;exact not_of (afw ⟨.bl (!c),H1,I1,rfl,q1⟩)
def tIf(t:TT)(ta tb:TE):TE:=λσ H Q=>t σ H λc H1=>if c=true then ta σ H1 Q else tb σ H1 Q
theorem pe_ifExp{c:aer}(hc:PT X c tA)(ha:PE X a ta)(hb:PE X b tb):PE X (.IfExp c a b pos) (tIf tA ta tb):=by
 intro pins s σ H Q I h;refine wpAny_IfExp (thn (hc pins s σ H _ I h) λd s1 bQ=>?_);obtain⟨H1,I1,q1⟩:=bQ;cases d with
 |true=>exact ha pins s1 σ H1 Q I1 q1
 |false=>exact hb pins s1 σ H1 Q I1 q1
end
def SqL(K:aeh)(H:Hp)(a:aed)(xs:List V):Prop:=
 Rd H a (.lst xs)\/
  ∃(o:Obj) (its:Array aef) (n:Nat),K.lookup a=some o/\o.cls= .type "list"/\o.dict=none/\o.data= .seq its n/\its.size<=sizeLine/\Vals xs its.toList
def SqT(K:aeh)(H:Hp)(a:aed)(xs:List V):Prop:=
 Rd H a (.tup xs)\/
  ∃(o:Obj) (its:Array aef) (n:Nat),K.lookup a=some o/\o.cls= .type "tuple"/\o.dict=none/\o.data= .seq its n/\its.size<=sizeLine/\Vals xs its.toList
def absV:aef->Option V
 | .none=>some .non
 | .bool b=>some (.bl b)
 | .int i _=>some (.int i)
 | .str x _=>some (.str x)
 | .bytes b _=>some (.byt b)
 | .float b _=>some (.flt b)
 | .ref a=>some (.ref a)
 | .type n=>some (.ty n)
 |_=>none
theorem RelV.abs{x:V}{u:aef}(r:RelV x u):absV u=some x:=by
 cases x with
 |non=>cases r;rfl
 |bl _=>cases r;rfl
 |int _=>obtain⟨t,rfl⟩:=r;rfl
 |str _=>obtain⟨t,rfl⟩:=r;rfl
 |byt _=>obtain⟨t,rfl⟩:=r;rfl
 |flt _=>obtain⟨t,rfl⟩:=r;rfl
 |ref _=>cases r;rfl
 |ty _=>cases r;rfl
theorem RelV.inj{x y:V}{u:aef}(r:RelV x u)(q:RelV y u):x=y:=aeG (r.abs.symm.trans q.abs)
theorem Vals.inj:∀{xs ys:List V} {us:List aef},Vals xs us->Vals ys us->xs=ys
 :=by
 intro xs ys us h
 induction h generalizing ys with
 |nil=>intro q;cases q;rfl
 |cons r t ih=>intro q;cases q with |cons r' t'=>rw[r.inj r',ih t']
section
variable{X:Cx}{pins:List (aed×Obj)}{σ:St}{H:Hp}{s:aeg}{a:aed}{xs ys:List V}
theorem SqL.of(h:H a=some (.lst xs)):SqL K H a xs:= .inl (.inl h)
theorem SqT.of(h:H a=some (.tup xs)):SqT K H a xs:= .inl (.inl h)
theorem Inv.list(I:Inv X pins σ H s)(h:SqL X.K H a xs):∃its:List aef,Vals xs its/\PlainL s.heap a its.toArray/\xs.length<=sizeLine:=by
 rcases h with h |⟨o,its,n,hk,hc,hd,hs,hz,r⟩
 ·obtain⟨z,its,n,r,e⟩:=h.ok I.hok;exact⟨its,r,⟨_,n,e,rfl,rfl,rfl⟩,z⟩
 ·refine⟨its.toList,r,⟨o,n,I.kIn a o hk,hc,hd,by simpa using hs⟩,?_⟩;have e:=r.length;simp only[agf] at e;omega
theorem Inv.tuple(I:Inv X pins σ H s)(h:SqT X.K H a xs):∃its:List aef,Vals xs its/\IsTup s.heap a its.toArray/\xs.length<=sizeLine:=by
 rcases h with h |⟨o,its,n,hk,hc,_,hs,hz,r⟩
 ·obtain⟨z,its,r,p⟩:=h.ok I.hok;exact⟨its,r,p.tup,z⟩
 ·refine⟨its.toList,r,⟨o,I.kIn a o hk,hc,n,by simpa using hs⟩,?_⟩;have e:=r.length;simp only[agf] at e;omega
theorem Inv.list_inj(I:Inv X pins σ H s)(h:SqL X.K H a xs)(h':SqL X.K H a ys):xs=ys:=by
 obtain⟨its,r,⟨o,n,e,_,_,d⟩,_⟩:=I.list h;obtain⟨its',r',⟨o',n',e',_,_,d'⟩,_⟩:=I.list h';rw[e] at e';cases e';rw[d] at d';injection d' with d1 _;have:its=its':=by simpa using congrArg Array.toList d1
 subst this;exact r.inj r'
theorem Inv.tuple_inj(I:Inv X pins σ H s)(h:SqT X.K H a xs)(h':SqT X.K H a ys):xs=ys:=by
 obtain⟨its,r,⟨o,e,_,n,d⟩,_⟩:=I.tuple h;obtain⟨its',r',⟨o',e',_,n',d'⟩,_⟩:=I.tuple h';rw[e] at e';cases e';rw[d] at d';injection d' with d1 _;have:its=its':=by simpa using congrArg Array.toList d1
 subst this;exact r.inj r'
end
abbrev Cx.wish(X:Cx)(E:aef->aeg->Prop):Cx:={X with xe:=E}
abbrev Cx.nox(X:Cx):Cx:=X.wish λ_ _=>False
theorem Cx.Ok.wish{X:Cx}(ok:X.Ok)(E:aef->aeg->Prop):(X.wish E).Ok:=
 ⟨ok.mod,ok.kind,ok.glob,ok.blt,ok.above,ok.inj,ok.has,ok.cab,ok.hd,ok.frames,ok.stk,ok.exf,ok.bs,ok.bsz,ok.noex,ok.exfs,ok.funs,ok.frf⟩
theorem Cx.Ok.unwish{X:Cx}(ok:(X.wish E).Ok):X.Ok:=
 ⟨ok.mod,ok.kind,ok.glob,ok.blt,ok.above,ok.inj,ok.has,ok.cab,ok.hd,ok.frames,ok.stk,ok.exf,ok.bs,ok.bsz,ok.noex,ok.exfs,ok.funs,ok.frf⟩
section
variable{X:Cx}{pins:List (aed×Obj)}{σ:St}{H:Hp}{s:aeg}{E:aef->aeg->Prop}
theorem Inv.wish(I:Inv X pins σ H s)(E:aef->aeg->Prop):Inv (X.wish E) pins σ H s:=⟨I.ok.wish E,I.os,I.bare,I.base,I.loc,I.cell,I.free,I.freeC,I.pin,I.hok,I.len⟩
theorem Inv.unwish(I:Inv (X.wish E) pins σ H s):Inv X pins σ H s:=⟨I.ok.unwish,I.os,I.bare,I.base,I.loc,I.cell,I.free,I.freeC,I.pin,I.hok,I.len⟩
theorem SP.unwish{D:Ends}{f:Flow}{s':aeg}(h:SP (X.wish E) pins D f s'):SP X pins D f s':=by
 cases f with
 |next=>obtain⟨σ',H',I,q⟩:=h;exact⟨σ',H',I.unwish,q⟩
 |brk=>obtain⟨σ',H',I,q⟩:=h;exact⟨σ',H',I.unwish,q⟩
 |cont=>obtain⟨σ',H',I,q⟩:=h;exact⟨σ',H',I.unwish,q⟩
 |ret u=>obtain⟨v,σ',H',I,r,q⟩:=h;exact⟨v,σ',H',I.unwish,r,q⟩
theorem PE.nox(h:PE X.nox e t):PE X e t:=λpins s σ H Q I hw=>
 afl (h pins s σ H Q (I.wish _) hw) (λ_ _ ⟨v,H',I',r,q⟩=>⟨v,H',I'.unwish,r,q⟩) λ_ _ z=>ae4 z
theorem PSs.nox{st:List aeA}{t:TS}(h:PSs X.nox st t):PSs X st t:=λpins s σ H D I hw=>
 afl (h pins s σ H D (I.wish _) hw) (λ_ _ q=>q.unwish) λ_ _ z=>ae4 z
end
section
variable{X:Cx}{st:aeA}{rest:List aeA}{t u:TS}{e:aer}{te:TE}{pos:Pos}
def tNext:TS:=λD σ H=>D.nx σ H
def tSeq(t u:TS):TS:=λD σ H=>t {D with nx:=u D} σ H
theorem pss_nil:PSs X [] tNext:=λ_ _ σ H _ I h=>ahl ⟨σ,H,I,h⟩
theorem pss_cons(h1:PS X st t)(h2:PSs X rest u):PSs X (st::rest) (tSeq t u):=by
 intro pins s σ H D I h;refine wpAny_execs_cons (thn (h1 pins s σ H {D with nx:=u D} I h) λf s1 q=>?_);cases f with
 | next=>
  obtain⟨σ',H',I',q⟩:=q;exact h2 pins s1 σ' H' D I' q
 |ret v=>exact q
 |brk=>exact q
 |cont=>exact q
theorem pss_one(h1:PS X st t):PSs X [st] t:=by
 intro pins s σ H D I h;refine wpAny_execs_cons (thn (h1 pins s σ H D I h) λf s1 q=>?_);cases f with
 |next=>exact ahl q
 |ret v=>exact q
 |brk=>exact q
 |cont=>exact q
theorem Inv.quiet(I:Inv X pins σ H s):interactive X.env=false:=by simp[interactive,I.ok.kind]
def tDrop(te:TE):TS:=λD σ H=>te σ H λ_ H1=>D.nx σ H1
theorem ps_expr(he:PE X e te)(hs:ahy e none pos.line X.env=pure false:=by rfl):PS X (.Expr e pos) (tDrop te):=by
 intro pins s σ H D I h;exact wpAny_Expr_any (thn (he pins s σ H _ I h) λv s1 ⟨x,H1,I1,r1,q1⟩=>⟨σ,H1,I1,q1⟩) I.quiet hs
def tRet(te:TE):TS:=λD σ H=>te σ H D.rt
theorem ps_ret(he:PE X e te):PS X (.Return (some e) pos) (tRet te):=by
 intro pins s σ H D I h;exact wpAny_Return_some (thn (he pins s σ H _ I h) λv s1 ⟨x,H1,I1,r1,q1⟩=>⟨x,σ,H1,I1,r1,q1⟩)
def tIfS(c:TT)(t u:TS):TS:=λD σ H=>c σ H λb H1=>if b=true then t D σ H1 else u D σ H1
theorem ps_if{c:aer}{a b:List aeA}{tc:TT}(hc:PT X c tc)(ha:PSs X a t)(hb:PSs X b u):PS X (.If c a b pos) (tIfS tc t u):=by
 intro pins s σ H D I h;refine wpAny_If (thn (hc pins s σ H _ I h) λd s1 bQ=>?_);obtain⟨H1,I1,q1⟩:=bQ;cases d with
 |true=>exact ha pins s1 σ H1 D I1 q1
 |false=>exact hb pins s1 σ H1 D I1 q1
end
abbrev TG:=V->St->Hp->(St->Hp->Prop)->Prop
abbrev TGs:=List V->St->Hp->(St->Hp->Prop)->Prop
def PG(X:Cx)(target:aer)(t:TG):Prop:=
 ∀(pins:List (aed×Obj)) (s:aeg) (σ:St) (H:Hp) (v:V) (u:aef) (Q:St->Hp->Prop),Inv X pins σ H s->RelV v u->t v σ H Q->
  aen (model X.prog X.w) X.A (assign target X.env u) (λ_ s'=>Uj X pins Q s') X.xe s
def PGs(X:Cx)(ts:List aer)(t:TGs):Prop:=
 ∀(pins:List (aed×Obj)) (s:aeg) (σ:St) (H:Hp) (vs:List V) (us:List aef) (Q:St->Hp->Prop),Inv X pins σ H s->Vals vs us->t vs σ H Q->
  aen (model X.prog X.w) X.A (assignInOrder ((agy ts X.env).map (·.2)) us) (λ_ s'=>Uj X pins Q s') X.xe s
abbrev TIp:=V->V->Hp->VK->Prop
def PIp(X:Cx)(op:Operator)(t:TIp):Prop:=
 ∀(pins:List (aed×Obj)) (s:aeg) (σ:St) (H:Hp) (x y:V) (v u:aef) (Q:VK),Inv X pins σ H s->RelV x v->RelV y u->t x y H Q->
  aen (model X.prog X.w) X.A (inplaceOp op v u) (EP X pins σ Q) X.xe s
section
variable{X:Cx}{pos:Pos}
def gName(i:Nat):TG:=λv σ H Q=>Q (σ.set i (some v)) H
theorem pg_name{i:Nat}{x:Str}(hN:X.N.Nodup)(hi:X.N[i]?=some x)(hx:Loc X.env.scope x)(hf:X.fn x=true\/X.env.scope.names.lookup x=some .local:=by first |exact .inl rfl |exact .inr rfl |assumption):PG X (.Name x pos) (gName i):=by
 intro pins s σ H v u Q I r h;exact wpAny_assign_Name (store_ok I hN hi hx r (λs' I'=>⟨_,H,I',h⟩) hf)
def gNil:TGs:=λvs σ H Q=>vs=[]/\Q σ H
def gCons(t:TG)(u:TGs):TGs:=λvs σ H Q=>∃v r,vs=v::r/\t v σ H λσ' H'=>u r σ' H' Q
theorem pgs_nil:PGs X [] gNil:=by
 intro pins s σ H vs us Q I r h;obtain⟨e,h⟩:=h;subst e;cases r;exact assignInOrder_nil ⟨σ,H,I,h⟩
theorem pgs_cons{es:List aer}{t:TG}{u:TGs}(h1:PG X e t)(h2:PGs X es u)
  (hs:(agy (e::es) X.env).map (·.2)=assign e X.env::(agy es X.env).map (·.2):=by rfl):PGs X (e::es) (gCons t u):=by
 intro pins s σ H vs us Q I r h;obtain⟨v,vr,e1,h⟩:=h;subst e1;cases r with
 | cons r rr=>
  rw[hs];refine aij (thn (h1 pins s σ H _ _ _ I r h) λ_ s1 bQ=>?_);obtain⟨σ1,H1,I1,q1⟩:=bQ;exact h2 pins s1 σ1 H1 _ _ Q I1 rr q1
def gTup(K:aeh)(n:Nat)(t:TGs):TG:=λv σ H Q=>∃a xs,v= .ref a/\SqT K H a xs/\xs.length=n/\t xs σ H Q
theorem pg_tup{es:List aer}{t:TGs}{n:Nat}(hc:X.calm=true)(h:PGs X es t)
  (hn:(agy es X.env).length=n:=by rfl)(hst:(agy es X.env).findIdx? (·.1)=none:=by rfl):PG X (.Tuple es k pos) (gTup X.K n t):=by
 intro pins s σ H v u Q I r hw;obtain⟨a,xs,e1,hq,hl,hw⟩:=hw;subst e1;cases r;obtain⟨its,rv,ht,hz⟩:=I.tuple hq;refine assign_Tuple_tuple (I.ok.hd hc) ht (by simp[hn,<-hl,rv.length]) hst λh' hx=>?_;have I1:Inv X pins σ H {s with heap:=h'}:=I.kept (t':=s.toks) λb o e=>hx b o (aeN (z2c e)) e;exact h pins _ σ H xs _ Q I1 (by simpa using rv) hw
def tAsg(te:TE)(g:TG):TS:=λD σ H=>te σ H λx H1=>g x σ H1 D.nx
theorem ps_asg{te:TE}{g:TG}(he:PE X e te)(hg:PG X tg g)(hs:ahf [tg] e pos.line X.env=pure false:=by rfl)(hw:ahg [tg] e X.env=pure none:=by rfl)
  (h1:(agy [tg] X.env).map (·.2)=[assign tg X.env]:=by rfl):PS X (.Assign [tg] e pos) (tAsg te g):=by
 intro pins s σ H D I h;refine wpAny_Assign_stores (thn (he pins s σ H _ I h) λv s1 ⟨x,H1,I1,r1,q1⟩=>?_) hs hw;rw[h1];exact thn (hg pins s1 σ H1 x v _ I1 r1 q1) λ_ s2 q=>q
theorem ps_set{i:Nat}{x:Str}{te:TE}{pos':Pos}(hN:X.N.Nodup)(hi:X.N[i]?=some x)(hx:Loc X.env.scope x)(he:PE X e te)(hs:ahy e (some (.Name x pos')) pos.line X.env=pure false:=by rfl)(hf:X.fn x=true\/X.env.scope.names.lookup x=some .local:=by first |exact .inl rfl |exact .inr rfl |assumption):
  PS X (.Assign [.Name x pos'] e pos) (tAsg te (gName i)):=by
 intro pins s σ H D I h;refine wpAny_Assign_Name (thn (he pins s σ H _ I h) λv s1 ⟨y,H1,I1,r1,q1⟩=>?_) hs;exact store_ok I1 hN hi hx r1 (λs2 I2=>⟨_,H1,I2,q1⟩) hf
def tPar(i j:Nat)(ta:TA):TS:=λD σ H=>ta σ H λvs H1=>∃v w,vs=[v,w]/\D.nx ((σ.set i (some v)).set j (some w)) H1
theorem ps_par{i j:Nat}{x y:Str}{a b:aer}{ta:TA}{px py pt:Pos}{kt k2 pt2}(hc:X.calm=true)(hN:X.N.Nodup)(hi:X.N[i]?=some x)(hj:X.N[j]?=some y)(hij:i≠j)
  (hx:X.env.scope.names.lookup x=some .local)(hy:X.env.scope.names.lookup y=some .local)(ha:PA X [a,b] ta)
  (hw:ahg [.Tuple [.Name x px,.Name y py] kt pt] (.Tuple [a,b] k2 pt2) X.env=pure (some [x,y]))
  (hs:ahf [.Tuple [.Name x px,.Name y py] kt pt] (.Tuple [a,b] k2 pt2) pos.line X.env=pure false:=by rfl):
  PS X (.Assign [.Tuple [.Name x px,.Name y py] kt pt] (.Tuple [a,b] k2 pt2) pos) (tPar i j ta):=by
 intro pins s σ H D I h;rw[exec_Assign_arm];refine aec (aip ?_);rw[hs];refine aec (aej ?_);rw[if_neg (by decide)];refine aec (Tuple_ (thn (ha _ pins s σ H _ I h) λus s1 bQ=>?_));obtain⟨vs,H1,I1,r1,q1⟩:=bQ;obtain⟨v,w,e1,q1⟩:=q1;subst e1;obtain⟨u1,u2,rfl,rv,rw'⟩:∃u1 u2,us=[u1,u2]/\RelV v u1/\RelV w u2:=by
  cases r1 with
  | cons p q=>
   cases q with
   | cons p' q'=>
    cases q';exact⟨_,_,rfl,p,p'⟩
 refine afq ?_ (by show 2<=sizeLine;decide);have I2:Inv X pins σ H1 {s1 with heap:=s1.heap.push {cls:= .type "tuple",data:= .seq [u1,u2].toArray}}:=I1.kept (t':=s1.toks) λb o e=>z1a _ e;rw[hw];refine aec (aej ?_);show aen (model X.prog X.w) X.A (do rule "assign.swapped-stores";let items <-unpackItems (.ref s1.heap.objs.size) 2 none;assignInOrder [λv=>bindName X.env y v,λv=>bindName X.env x v] items.reverse;pure Flow.next) _ _ _;refine aec (agi (aec (unpackItems_tuple (items:= #[u1,u2]) (I.ok.hd hc) (IsTup.new s1.heap _) λh' hx'=>?_)));have I3:=I2.kept (h':=h') (t':=s1.toks) λb o e=>hx' b o (aeN (z2c e)) e;show aen _ _ (assignInOrder [λv=>bindName X.env y v,λv=>bindName X.env x v] [u2,u1] >>=λ_=>pure Flow.next) _ _ _;refine aec (aij (wpAny_bindName (store_ok I3 hN hj (.inl hy) rw' (λs2 I4=>?_) (.inr hy))));refine aij (wpAny_bindName (store_ok I4 hN hi (.inl hx) rv (λs3 I5=>assignInOrder_nil (aej ?_)) (.inr hx)));rw[List.set_comm _ _ (aeo hij)] at I5;exact⟨_,H1,I5,q1⟩
def tAug(i:Nat)(te:TE)(ti:TIp):TS:=λD σ H=>∃x,σ[i]?=some (some x)/\te σ H λy H1=>ti x y H1 λz H2=>D.nx (σ.set i (some z)) H2
theorem ps_aug{i:Nat}{x:Str}{te:TE}{op:Operator}{ti:TIp}{pos':Pos}(hN:X.N.Nodup)(hi:X.N[i]?=some x)(hx:Loc X.env.scope x)(he:PE X e te)(ho:PIp X op ti)(hf:X.fn x=true\/X.env.scope.names.lookup x=some .local:=by first |exact .inl rfl |exact .inr rfl |assumption):
  PS X (.AugAssign (.Name x pos') op e pos) (tAug i te ti):=by
 intro pins s σ H D I h;obtain⟨v,e1,h⟩:=h;obtain⟨m,hn,hl⟩:=I.loc;have vis:Vis X.env.scope x:=by rcases hx with k |k;exact .inl k;exact .inr (.inl k)
 obtain⟨u,r,l⟩:=hl i x v hi e1 vis;refine wpAny_AugAssign_Name ?_;have go:aen (model X.prog X.w) X.A (eval e X.env) (λw s₂=>aen (model X.prog X.w) X.A (inplaceOp op u w) (λr s₃=>aen (model X.prog X.w) X.A (afX X.env x r) (λ_=>SP X pins D .next) X.xe s₃) X.xe s₂) X.xe s:=by
  refine thn (he pins s σ H _ I h) λw s1 bQ=>?_;obtain⟨y,H1,I1,r1,q1⟩:=bQ;refine thn (ho pins s1 σ H1 v y u w _ I1 r r1 q1) λz s2 bQ=>?_;obtain⟨zv,H2,I2,r2,q2⟩:=bQ;exact store_ok I2 hN hi hx r2 (λs3 I3=>⟨_,H2,I3,q2⟩) hf
 rcases l with⟨hk,hm⟩ |⟨hk,c,hc,hcell⟩
 ·exact wpAny_loadName_local I.ok.kind hk hn hm go
 ·rcases hk with hk |hk
  ·exact wpAny_loadName_cell I.ok.kind hk hc hcell go
  ·rcases hx with k |k
   ·have:X.env.scope.names.lookup x=some .free:=hk;rw[k] at this;cases this
   ·have:X.env.scope.names.lookup x=some .free:=hk;rw[k] at this;cases this
def ipI(f:Int->Int->Int):TIp:=λx y H Q=>∃i j,x= .int i/\y= .int j/\Q (.int (f i j)) H
theorem ip_add:PIp X .Add (ipI λi j=>i+j):=by
 intro pins s σ H x y v u Q I r1 r2 h;obtain⟨i,j,e1,e2,q⟩:=h;subst e1;subst e2;obtain⟨t,rfl⟩:=r1;obtain⟨t',rfl⟩:=r2;exact iadd_int ⟨.int _,H,I.tok _,⟨_,rfl⟩,q⟩
end
section
variable{X:Cx}{pos:Pos}
def tWhile(c:TT)(tb:TS):TS:=λD σ H=>∃W:Nat->St->Hp->Prop,(∃m,W m σ H)/\∀m σ H,W m σ H->
 c σ H λb H1=>if b=true then ∃N:St->Hp->Prop,(∀σ' H',N σ' H'->∃m',m'<m/\W m' σ' H')/\tb {D with nx:=N,ct:=N,bk:=D.nx} σ H1 else D.nx σ H1
theorem ps_while{c:aer}{tc:TT}{tb:TS}(hp:PassesOwn (model X.prog X.w) X.A X.env X.xe)(hc:PT X c tc)(hb:PSs X body tb):PS X (.While c body [] pos) (tWhile tc tb):=by
 intro pins s σ H D I h;obtain⟨W,⟨m0,w0⟩,turn⟩:=h;refine wpAny_While (codeAny_whileLoop (λn s'=>∃σ' H',Inv X pins σ' H' s'/\W n σ' H') ?_ m0 ⟨σ,H,I,w0⟩)
 rintro n s1 ⟨σ1,H1,I1,w1⟩
 refine agq hp (thn (hc pins s1 σ1 H1 _ I1 (turn n σ1 H1 w1)) λb s2 bQ=>?_);obtain⟨H2,I2,q2⟩:=bQ;cases b with
 | true=>
  obtain⟨N,hN,q2⟩:=q2;rw[if_pos rfl];refine agq hp (thn (hb pins s2 σ1 H2 _ I2 q2) λf s3 q3=>?_);cases f with
  | next=>
   obtain⟨σ3,H3,I3,n3⟩:=q3;obtain⟨m',hm,w3⟩:=hN σ3 H3 n3;exact⟨m',hm,σ3,H3,I3,w3⟩
  | cont=>
   obtain⟨σ3,H3,I3,n3⟩:=q3;obtain⟨m',hm,w3⟩:=hN σ3 H3 n3;exact⟨m',hm,σ3,H3,I3,w3⟩
  |brk=>exact q3
  |ret v=>exact q3
 | false=>
  rw[if_neg aeO];exact ahl ⟨σ1,H2,I2,q2⟩
end
structure It where
 go:Nat->Hp->Prop
 yld:Nat->Hp->V->Hp->Prop
 stop:Nat->Hp->Prop
def FpOk(X:Cx)(pins:List (aed×Obj))(H:Hp)(b:aed):Prop:=
 H b=none/\b≠X.env.locals/\b∉X.fs/\(b∈X.ex\/X.s₀.heap.objs.size<=b)/\(∀x c,X.env.cells.lookup x=some c->c≠b)/\∀p∈X.pn++pins,p.1≠b
theorem Inv.fpOk{X:Cx}{H':Hp}{b:aed}(I:Inv X pins σ H s)(hb:s.heap.objs.size<=b)(hn:H' b=none):FpOk X pins H' b:=by
 refine⟨hn,aiJ (z0d I.lt hb),I.nofs hb,.inr (z0b I.sz hb),λx c e z=>?_,λp hp z=>?_⟩
 ·obtain⟨v,q⟩:=I.cell x c e;exact absurd (z0d q.lt (by rw[z];exact hb)) (afj _)
 ·exact absurd (z0d (z2c (I.pin p hp).1) (by rw[z];exact hb)) (afj _)
inductive aaI (X:Cx) (pins:List (aed×Obj)) (σ:St) (H:Hp) (J:It) (tn:Nat->aes->Prop) (fp:List aed) (i:Nat) (u:aef) (s2:aeg):Prop
 |mk (x:V) (H':Hp) (I:Inv X pins σ H' s2) (r:RelV x u) (y:J.yld i H x H') (st:tn (i+1) s2.heap) (f:∀b∈fp,H' b=none):aaI X pins σ H J tn fp i u s2
structure Turn(P:aew)(w:aey)(K:aeh)(tg:aer)(J:It)(fp:List aed)(it:aed)(tn:Nat->aes->Prop):Prop where
 mem:it∈fp
 obj:∀i h,tn i h->∀b∈fp,∃o,h.get? b=some o/\∀v,o.data≠.cell v
 keep:∀i h h',tn i h->(∀b∈fp,∀o,h.get? b=some o->h'.get? b=some o)->tn i h'
 item:∀(X:Cx),X.prog=P->X.w=w->X.K=K->X.calm=true->∀(i:Nat) (pins:List (aed×Obj)) (s:aeg) (σ:St) (H:Hp) (E:aef->aeg->Prop),Inv X pins σ H s->(∀b∈fp,FpOk X pins H b)->tn i s.heap->J.go i H->
  aen (model P w) X.A (pyNext (.ref it)) (λr s1=>∃u,r=some u/\
   aen (model P w) X.A (letOwnedTupleGo tg (.ref it) u) (λ_ s2=>aaI X pins σ H J tn fp i u s2) E s1) E s
 done:∀(X:Cx),X.prog=P->X.w=w->X.K=K->X.calm=true->∀(i:Nat) (pins:List (aed×Obj)) (s:aeg) (σ:St) (H:Hp) (E:aef->aeg->Prop),Inv X pins σ H s->(∀b∈fp,FpOk X pins H b)->tn i s.heap->J.stop i H->
  aen (model P w) X.A (pyNext (.ref it)) (λr s1=>r=none/\Inv X pins σ H s1) E s
 self:∀(A:aeF) (i:Nat) (s:aeg) (Q:aef->aeg->Prop) (E:aef->aeg->Prop),tn i s.heap->Q (.ref it) s->aen (model P w) A (pyIter (.ref it)) Q E s
abbrev TI:=St->Hp->(It->Hp->Prop)->Prop
inductive PIE (X:Cx) (pins:List (aed×Obj)) (σ:St) (tg:aer) (R:It->Hp->Prop) (itv:aef) (s2:aeg):Prop
 |mk (it:aed) (fp:List aed) (tn:Nat->aes->Prop) (J:It) (H':Hp) (e:itv= .ref it) (I:Inv X pins σ H' s2) (T:Turn X.prog X.w X.K tg J fp it tn) (st:tn 0 s2.heap) (f:∀b∈fp,FpOk X pins H' b) (r:R J H'):PIE X pins σ tg R itv s2
def PI(X:Cx)(tg iter:aer)(wi:TI):Prop:=
 ∀(pins:List (aed×Obj)) (s:aeg) (σ:St) (H:Hp) (R:It->Hp->Prop),Inv X pins σ H s->wi σ H R->
  aen (model X.prog X.w) X.A (eval iter X.env) (λv s1=>aen (model X.prog X.w) X.A (pyIter v) (PIE X pins σ tg R) X.xe s1) X.xe s
theorem go_of{it:aed}{u:aef}{o:Obj}{n:String}{vs:Array aef}(ho:s.heap.get? it=some o)(hc:o.cls= .type n)(hd:o.data= .fields vs)
  (hn:["enumerate","zip","dict_itemiterator","dict_reverseitemiterator","odict_iterator","itertools.zip_longest","itertools.pairwise"].contains n=false)(hQ:Q () s):aen M A (letOwnedTupleGo tg (.ref it) u) Q E s:=by
 unfold letOwnedTupleGo;cases tg <;> first
  |exact aej hQ
  | (cases u <;> first
    |exact aej hQ
    | (refine aec (wpAny_load ho ?_)
       rw[hc,hd];show aen M A (if (["enumerate","zip","dict_itemiterator","dict_reverseitemiterator","odict_iterator","itertools.zip_longest","itertools.pairwise"].contains n && vs[0]? ==some (ae8 _))=true then _ else _) Q E s;rw[if_neg (by intro h;rw[hn,ah8] at h;cases h)];exact aej hQ))
def Itl(K:aeh)(a:aed):It:=
 ⟨λi H=>∃xs x,SqL K H a xs/\xs[i]?=some x,λi H x H'=>H'=H/\∀xs,SqL K H a xs->xs[i]?=some x,λi H=>∃xs,SqL K H a xs/\xs.length<=i⟩
def Itt(K:aeh)(a:aed):It:=
 ⟨λi H=>∃xs x,SqT K H a xs/\xs[i]?=some x,λi H x H'=>H'=H/\∀xs,SqT K H a xs->xs[i]?=some x,λi H=>∃xs,SqT K H a xs/\xs.length<=i⟩
def Itr(lo:Int)(n:Nat):It:=⟨λi _=>i<n,λi H x H'=>H'=H/\x= .int (lo+i),λi _=>n<=i⟩
theorem turn_list(a it:aed):Turn P w K tg (Itl K a) [it] it (λi h=>h.IsListIter it a i) where
 mem:=by simp
 obj:=λi h st b hb=>by
  have e:b=it:=by simpa using hb
  subst e;obtain⟨o,e,c,d⟩:=st;exact⟨o,e,λv z=>by rw[d] at z;cases z⟩
 keep:=λi h h' st k=>st.at λo e=>k it (by simp) o e
 item:=by
  intro X hP hw hK hc i pins s σ H E I hf st hg;subst hP hw hK;obtain⟨xs,x,hq,hx⟩:=hg;obtain⟨its,rv,p,hz⟩:=I.list hq;obtain⟨u,hu,ru⟩:=rv.get hx;obtain⟨f0,f1,f2,f3,f4,f5⟩:=hf it (by simp);refine ahH st p.isList (x:=u) (by simpa using hu) λh' st' sb=>?_;have I1:Inv X pins σ H {s with heap:=h'}:=I.turned (t':=s.toks) (λb o hb e=>(sb.2 b hb).trans e) f0 f1 f3 f4 f5;obtain⟨o,e,c,d⟩:=id st';exact⟨u,rfl,go_of (s:={s with heap:=h'}) e c d (by decide) ⟨x,H,I1,ru,⟨rfl,λys hy=>by rw[I.list_inj hy hq];exact hx⟩,st',λb hb=>(hf b hb).1⟩⟩
 done:=by
  intro X hP hw hK hc i pins s σ H E I hf st hg;subst hP hw hK;obtain⟨xs,hq,hx⟩:=hg;obtain⟨its,rv,p,hz⟩:=I.list hq;obtain⟨f0,f1,f2,f3,f4,f5⟩:=hf it (by simp);have hl:=rv.length;exact wpAny_pyNext_list_end (I.ok.hd hc) st p.isList (by simp;omega) λh' eb=>⟨rfl,I.turned (t':=s.toks) (λb o hb e=>eb b o hb e) f0 f1 f3 f4 f5⟩
 self:=λ_ _ _ _ _ st h=>wpAny_pyIter_listiter st h
theorem turn_tuple(a it:aed):Turn P w K tg (Itt K a) [it] it (λi h=>h.IsTupleIter it a i) where
 mem:=by simp
 obj:=λi h st b hb=>by
  have e:b=it:=by simpa using hb
  subst e;obtain⟨o,e,c,d⟩:=st;exact⟨o,e,λv z=>by rw[d] at z;cases z⟩
 keep:=λi h h' st k=>st.at λo e=>k it (by simp) o e
 item:=by
  intro X hP hw hK hc i pins s σ H E I hf st hg;subst hP hw hK;obtain⟨xs,x,hq,hx⟩:=hg;obtain⟨its,rv,p,hz⟩:=I.tuple hq;obtain⟨u,hu,ru⟩:=rv.get hx;obtain⟨f0,f1,f2,f3,f4,f5⟩:=hf it (by simp);refine wpAny_pyNext_tuple_item st (show s.heap.IsTuple a its.toArray from p) (x:=u) (by simpa using hu) λh' st' sb=>?_;have I1:Inv X pins σ H {s with heap:=h'}:=I.turned (t':=s.toks) (λb o hb e=>(sb.2 b hb).trans e) f0 f1 f3 f4 f5;obtain⟨o,e,c,d⟩:=id st';exact⟨u,rfl,go_of (s:={s with heap:=h'}) e c d (by decide) ⟨x,H,I1,ru,⟨rfl,λys hy=>by rw[I.tuple_inj hy hq];exact hx⟩,st',λb hb=>(hf b hb).1⟩⟩
 done:=by
  intro X hP hw hK hc i pins s σ H E I hf st hg;subst hP hw hK;obtain⟨xs,hq,hx⟩:=hg;obtain⟨its,rv,p,hz⟩:=I.tuple hq;obtain⟨f0,f1,f2,f3,f4,f5⟩:=hf it (by simp);have hl:=rv.length;exact wpAny_pyNext_tuple_end (I.ok.hd hc) st (show s.heap.IsTuple a its.toArray from p) (by simp;omega) λh' eb=>⟨rfl,I.turned (t':=s.toks) (λb o hb e=>eb b o hb e) f0 f1 f3 f4 f5⟩
 self:=λ_ _ _ _ _ st h=>wpAny_pyIter_tupleiter st h
theorem turn_range(it:aed)(lo:Int)(n:Nat):Turn P w K tg (Itr lo n) [it] it (λi h=>aie h it (lo+(i:Nat)*1) ((n:Int) - (i:Nat)) 1) where
 mem:=by simp
 obj :=λi h st b hb=>by
  have e:b=it:=by simpa using hb
  subst e;exact⟨_,st,λv z=>by
   have z':aif _=ag4 v:=z;cases z'⟩
 keep:=λi h h' st k=>k it (by simp) _ st
 item:=by
  intro X hP hw hK hc i pins s σ H E I hf st hg;subst hP hw hK;obtain⟨f0,f1,f2,f3,f4,f5⟩:=hf it (by simp);have W:=Walks.range (prog:=X.prog) (w:=X.w) (I.ok.hd hc) it lo 1 n;refine W.item i s _ _ hg st λv h' tk hv st' kk=>?_;obtain⟨t,rfl⟩:=hv;have I1:Inv X pins σ H {s with heap:=h',toks:=tk}:=I.turned (λb o hb e=>kk b o (by simpa using hb) e) f0 f1 f3 f4 f5;refine⟨_,rfl,go_of (s:={s with heap:=h',toks:=tk}) (n:= "range_iterator") st' rfl rfl (by decide) ⟨.int (lo+i),H,I1,⟨t,?_⟩,⟨rfl,rfl⟩,st',λb hb=>(hf b hb).1⟩⟩;rw[Int.mul_one]
 done:=by
  intro X hP hw hK hc i pins s σ H E I hf st hg;subst hP hw hK;obtain⟨f0,f1,f2,f3,f4,f5⟩:=hf it (by simp);exact wpAny_pyNext_range_end (I.ok.hd hc) st (by have:n<=i:=hg;omega) λh' eb=>⟨rfl,I.turned (t':=s.toks) (λb o hb e=>eb b o hb e) f0 f1 f3 f4 f5⟩
 self:=λ_ _ _ _ _ st h=>ahI st h
section
variable{X:Cx}{tg:aer}
theorem range_it{R:It->Hp->Prop}{lo hi:Int}{t u v:Tok}{tk:Nat}(I:Inv X pins σ H s)(h1: -(2^62)<=lo)(h2:lo<2^62)(h3: -(2^62)<=hi)(h4:hi<2^62)
  (q:R (Itr lo (hi - lo).toNat) H):aen (model X.prog X.w) X.A (pyIter (.ref s.heap.objs.size)) (PIE X pins σ tg R) E {s with heap:=s.heap.push {cls:= .type "range",data:= .fields #[.int lo t,.int hi u,.int 1 v]},toks:=tk}:=by
 refine wpAny_pyIter_range (IsRange.new ..) (small_one h1 h2 h3 h4) ?_;have I1:Inv X pins σ H {s with heap:=s.heap.push {cls:= .type "range",data:= .fields #[.int lo t,.int hi u,.int 1 v]},toks:=tk}:=I.kept λb o e=>z1a _ e;refine⟨(s.heap.push {cls:= .type "range",data:= .fields #[.int lo t,.int hi u,.int 1 v]}).objs.size,[(s.heap.push {cls:= .type "range",data:= .fields #[.int lo t,.int hi u,.int 1 v]}).objs.size],_,_,H,rfl,
  I1.kept (t':=tk) λb o e=>z1a _ e,turn_range _ lo (hi - lo).toNat,?_,λb hb=>?_,q⟩
 ·have e1:lo+((0:Nat):Int)*1=lo:=by simp
  have e2:(((hi - lo).toNat:Nat):Int) - ((0:Nat):Int)=ahE lo hi 1:=by rw[rangeSize_one];split <;> omega
  show aie _ _ (lo+((0:Nat):Int)*1) ((((hi - lo).toNat:Nat):Int) - ((0:Nat):Int)) 1;rw[e1,e2];exact z1f _ rfl
 ·have e:b=(s.heap.push {cls:= .type "range",data:= .fields #[.int lo t,.int hi u,.int 1 v]}).objs.size:=by simpa using hb
  subst e;exact I1.fpOk (z0g _) (I1.hok.fresh (z0g _))
def iRng1(ta:TA):TI:=λσ H R=>ta σ H λvs H1=>∃j:Int,vs=[.int j]/\-(2^62)<=j/\j<2^62/\R (Itr 0 j.toNat) H1
def iRng2(ta:TA):TI:=λσ H R=>ta σ H λvs H1=>∃i j:Int,vs=[.int i,.int j]/\(-(2^62)<=i/\i<2^62/\-(2^62)<=j/\j<2^62)/\R (Itr i (j - i).toNat) H1
theorem pi_range1{a:aer}{ta:TA}{p pos:Pos}(hg:Gl X "range")(hm:X.mg "range" =none)(ha:PA X [a] ta)(hs:aei [a] X.env=[(false,eval a X.env)]:=by rfl):PI X tg (.Call (.Name "range" p) [a] [] pos) (iRng1 ta):=by
 intro pins s σ H R I h;refine Call_ (ld_blt I hg hm boot_range (ae6 (thn (ha pos pins s σ H _ I h) λus s1 ⟨vs,H1,I1,r1,q1⟩=>?_) hs rfl));obtain⟨j,e,q1,q2,q⟩:=q1;subst e;cases r1 with
 | cons r rr=>
  cases rr;obtain⟨t,rfl⟩:=r;exact call_range_1 (range_it I1 (by omega) (by omega) q1 q2 (by simpa using q))
theorem pi_range2{a b:aer}{ta:TA}{p pos:Pos}(hg:Gl X "range")(hm:X.mg "range" =none)(ha:PA X [a,b] ta)(hs:aei [a,b] X.env=[(false,eval a X.env),(false,eval b X.env)]:=by rfl)(hs2:aei [b] X.env=[(false,eval b X.env)]:=by rfl):
  PI X tg (.Call (.Name "range" p) [a,b] [] pos) (iRng2 ta):=by
 intro pins s σ H R I h;refine Call_ (ld_blt I hg hm boot_range (ae6 (thn (ha pos pins s σ H _ I h) λus s1 ⟨vs,H1,I1,r1,q1⟩=>?_) (by rw[hs,hs2]) (by rw[hs2];rfl)));obtain⟨i,j,e,⟨q1,q2,q3,q4⟩,q⟩:=q1;subst e;cases r1 with
 | cons r rr=>
  cases rr with
  | cons r' rr=>
   cases rr;obtain⟨t,rfl⟩:=r;obtain⟨t',rfl⟩:=r';exact call_range_2 (range_it I1 q1 q2 q3 q4 q)
def tFor(wi:TI)(g:TG)(tb:TS):TS:=λD σ H=>wi σ H λJ H1=>∃W:Nat->Nat->St->Hp->Prop,(∃m,W 0 m σ H1)/\∀i m σ H,W i m σ H->
 (J.stop i H/\D.nx σ H)\/(J.go i H/\∃N:St->Hp->Prop,(∀σ' H',N σ' H'->∃m',m'<m/\W (i+1) m' σ' H')/\∀x H',J.yld i H x H'->g x σ H' λσ2 H2=>tb {D with nx:=N,ct:=N,bk:=D.nx} σ2 H2)
def pinsAt(fp:List aed)(h:aes):List (aed×Obj):=fp.filterMap λb=>(h.get? b).map λo=>(b,o)
theorem mem_pinsAt{fp:List aed}{b:aed}{o:Obj}(hb:b∈fp)(e:h.get? b=some o):(b,o)∈pinsAt fp h:=List.mem_filterMap.mpr ⟨b,hb,by rw[e];rfl⟩
theorem of_pinsAt{fp:List aed}{p:aed×Obj}(hp:p∈pinsAt fp h):p.1∈fp/\h.get? p.1=some p.2:=by
 obtain⟨b,hb,e⟩:=List.mem_filterMap.mp hp;cases q:h.get? b with
 |none=>rw[q] at e;cases e
 | some o=>
  rw[q] at e;have e':(b,o)=p:=aeG e;subst e';exact⟨hb,q⟩
theorem Inv.pinned{fp:List aed}(I:Inv X pins σ H s)(hf:∀b∈fp,FpOk X pins H b)(ho:∀b∈fp,∃o,s.heap.get? b=some o/\∀v,o.data≠.cell v):Inv X (pins++pinsAt fp s.heap) σ H s:=
 I.pins_of λp hp=>(ahU.mp hp).elim (λz=>I.pin p (ae1 _ z)) λz=>by
  obtain⟨hb,e⟩:=of_pinsAt z;obtain⟨f0,f1,f2,_⟩:=hf p.1 hb;obtain⟨o,e',d⟩:=ho p.1 hb;rw[e] at e';cases e';exact⟨e,f0,f1,f2,d⟩
theorem Inv.unpinned{pl:List (aed×Obj)}(I:Inv X (pins++pl) σ H s):Inv X pins σ H s:=I.pins_of λp hp=>I.pin p (ae1 _ (ahV _ hp))
inductive Zr (X:Cx) (pins:List (aed×Obj)) (tn:Nat->aes->Prop) (fp:List aed) (W:Nat->Nat->St->Hp->Prop) (n:Nat) (s':aeg):Prop
 |mk (i:Nat) (σ':St) (H':Hp) (I:Inv X pins σ' H' s') (st:tn i s'.heap) (fr:∀b∈fp,H' b=none) (w:W i n σ' H'):Zr X pins tn fp W n s'
theorem ps_for{iter:aer}{wi:TI}{g:TG}{tb:TS}{pos:Pos}(hp:PassesOwn (model X.prog X.w) X.A X.env X.xe)(hc:X.calm=true)(hi:PI X tg iter wi)(hg:PG X tg g)(hb:PSs X body tb)
  (hs:∀x,af6 iter X.env x=pure x:=by intro _;rfl):PS X (.For tg iter body [] pos) (tFor wi g tb):=by
 intro pins s σ H D I h;refine wpAny_For (thn (hi pins s σ H _ I h) λv s1 h1=>thn h1 λitv s2 h2=>?_) hs;obtain⟨it,fp,tn,J,H2,e,I2,T,st2,f2,W,⟨m0,w0⟩,turn⟩:=h2;subst e;have stat:∀{H':Hp},(∀b∈fp,H' b=none)->∀b∈fp,FpOk X pins H' b:=λhn b hb=>⟨hn b hb,(f2 b hb).2⟩;refine codeAny_forLoop_any (λn s'=>Zr X pins tn fp W n s') ?_ m0 ⟨0,σ,H2,I2,st2,λb hb=>(f2 b hb).1,w0⟩
 rintro n s3 ⟨i,σ3,H3,I3,st3,fr3,w3⟩
 rcases turn i n σ3 H3 w3 with⟨stop,qn⟩ |⟨go,N,hN,step⟩
 ·refine agq hp (thn (T.done X rfl rfl rfl hc i pins s3 σ3 H3 X.xe I3 (stat fr3) st3 stop) λr s4 bQ=>?_);obtain⟨hr,I4⟩:=bQ;subst hr;exact ahl ⟨σ3,H3,I4,qn⟩
 ·refine agq hp (thn (T.item X rfl rfl rfl hc i pins s3 σ3 H3 X.xe I3 (stat fr3) st3 go) λr s4 bQ=>?_);obtain⟨u,hr,h4⟩:=bQ;subst hr;refine agq hp (thn h4 λ_ s5 bQ=>?_);obtain⟨x,H5,I5,r5,y5,st5,fr5⟩:=bQ;have I5':=I5.pinned (stat fr5) (T.obj _ _ st5);refine agq hp (thn (hg _ s5 σ3 H5 x u _ I5' r5 (step x H5 y5)) λ_ s6 bQ=>?_);obtain⟨σ6,H6,I6,q6⟩:=bQ;refine agq hp (thn (hb _ s6 σ6 H6 _ I6 q6) λf s7 q7=>?_);have again:∀{σ7:St} {H7:Hp},Inv X (pins++pinsAt fp s5.heap) σ7 H7 s7->N σ7 H7->∃m,m<n/\Zr X pins tn fp W m s7:=λ{σ7 H7} I7 n7=>by
   obtain⟨m',hm,w7⟩:=hN σ7 H7 n7;refine⟨m',hm,i+1,σ7,H7,I7.unpinned,T.keep _ _ _ st5 λb hb o e=>(I7.pin (b,o) (ae1 _ (ae1 _ (mem_pinsAt hb e)))).1,λb hb=>?_,w7⟩;obtain⟨o,e,d⟩:=T.obj _ _ st5 b hb;exact (I7.pin (b,o) (ae1 _ (ae1 _ (mem_pinsAt hb e)))).2.1
  cases f with
  |next=>obtain⟨σ7,H7,I7,n7⟩:=q7;exact again I7 n7
  |cont=>obtain⟨σ7,H7,I7,n7⟩:=q7;exact again I7 n7
  |brk=>obtain⟨σ7,H7,I7,q7⟩:=q7;exact⟨σ7,H7,I7.unpinned,q7⟩
  |ret v=>obtain⟨x7,σ7,H7,I7,r7,q7⟩:=q7;exact⟨x7,σ7,H7,I7.unpinned,r7,q7⟩
end
abbrev R2:=V->V->Hp->VK->Prop
def OpR(X:Cx)(f:aef->aef->Sem aef)(r:R2):Prop:=
 ∀(pins:List (aed×Obj)) (s:aeg) (σ:St) (H:Hp) (x y:V) (v u:aef) (Q:VK),Inv X pins σ H s->RelV x v->RelV y u->r x y H Q->
  aen (model X.prog X.w) X.A (f v u) (EP X pins σ Q) X.xe s
def UnR(X:Cx)(f:aef->Sem aef)(r:V->Hp->VK->Prop):Prop:=
 ∀(pins:List (aed×Obj)) (s:aeg) (σ:St) (H:Hp) (x:V) (v:aef) (Q:VK),Inv X pins σ H s->RelV x v->r x H Q->
  aen (model X.prog X.w) X.A (f v) (EP X pins σ Q) X.xe s
def CallR(X:Cx)(f:aef)(r:List V->Hp->VK->Prop):Prop:=
 ∀(pins:List (aed×Obj)) (s:aeg) (σ:St) (H:Hp) (xs:List V) (us:List aef) (Q:VK),Inv X pins σ H s->Vals xs us->r xs H Q->
  aen (model X.prog X.w) X.A (call f us) (EP X pins σ Q) X.xe s
def TruR(X:Cx)(r:V->Hp->(Bool->Hp->Prop)->Prop):Prop:=
 ∀(pins:List (aed×Obj)) (s:aeg) (σ:St) (H:Hp) (x:V) (v:aef) (Q:Bool->Hp->Prop),Inv X pins σ H s->RelV x v->r x H Q->
  aen (model X.prog X.w) X.A (truthy v) (TP X pins σ Q) X.xe s
def tOp(r:R2)(ta tb:TE):TE:=λσ H Q=>ta σ H λx H1=>tb σ H1 λy H2=>r x y H2 Q
def tUn(r:V->Hp->VK->Prop)(ta:TE):TE:=λσ H Q=>ta σ H λx H1=>r x H1 Q
def rI(C:Int->Int->Prop)(g:Int->Int->V):R2:=λx y H Q=>∃i j,x= .int i/\y= .int j/\C i j/\Q (g i j) H
def rI0(g:Int->Int->V):R2:=λx y H Q=>∃i j,x= .int i/\y= .int j/\Q (g i j) H
def rU(g:Int->V):V->Hp->VK->Prop:=λx H Q=>∃i,x= .int i/\Q (g i) H
section
variable{X:Cx}{a b c:aer}{ta tb tc:TE}{pos:Pos}
theorem binT(ha:PE X a ta)(hb:PE X b tb){R:V->V->Hp->Prop}(I:Inv X pins σ H s)
  (h:ta σ H λx H1=>tb σ H1 λy H2=>R x y H2){Q:aef->aeg->Prop}
  (hf:∀v u s2 x y H2,Inv X pins σ H2 s2->RelV x v->RelV y u->R x y H2->aen (model X.prog X.w) X.A (f v u) Q X.xe s2):
  aen (model X.prog X.w) X.A (eval a X.env) (λv s₁=>aen (model X.prog X.w) X.A (eval b X.env) (λu s₂=>aen (model X.prog X.w) X.A (f v u) Q X.xe s₂) X.xe s₁) X.xe s:=by
 refine thn (ha pins s σ H _ I h) λv s1 bQ=>?_;obtain⟨x,H1,I1,r1,q1⟩:=bQ;refine thn (hb pins s1 σ H1 _ I1 q1) λu s2 bQ=>?_;obtain⟨y,H2,I2,r2,q2⟩:=bQ;exact hf v u s2 x y H2 I2 r1 r2 q2
theorem pe_op{op:Operator}(ho:OpR X (afs op) r)(ha:PE X a ta)(hb:PE X b tb):PE X (.BinOp a op b pos) (tOp r ta tb):=by
 intro pins s σ H Q I h;exact wpAny_BinOp (binT ha hb I h λv u s2 x y H2 I2 rx ry q=>ho pins s2 σ H2 x y v u Q I2 rx ry q)
theorem pe_un{op:UnaryOp}{r:V->Hp->VK->Prop}(ho:UnR X (unaryOp op) r)(ha:PE X a ta):PE X (.UnaryOp op a pos) (tUn r ta):=by
 intro pins s σ H Q I h;exact UnaryOp_ (thn (ha pins s σ H _ I h) λv s1 ⟨x,H1,I1,r1,q1⟩=>ho pins s1 σ H1 x v Q I1 r1 q1)
theorem opI{C:Int->Int->Prop}{g:Int->Int->Int}
  (rule:∀(i j:Int) (t u:Tok) (s:aeg) (Q:aef->aeg->Prop) (E:aef->aeg->Prop),C i j->Q (.int (g i j) s.toks) {s with toks:=s.toks+1}->aen (model X.prog X.w) X.A (f (.int i t) (.int j u)) Q E s):
  OpR X f (rI C λi j=> .int (g i j)):=by
 intro pins s σ H x y v u Q I rx ry h;obtain⟨i,j,rfl,rfl,hc,q⟩:=h;obtain⟨t,rfl⟩:=rx;obtain⟨t',rfl⟩:=ry;exact rule i j t t' s _ _ hc ⟨.int (g i j),H,I.tok _,⟨_,rfl⟩,q⟩
theorem opI0{g:Int->Int->Int}
  (rule:∀(i j:Int) (t u:Tok) (s:aeg) (Q:aef->aeg->Prop) (E:aef->aeg->Prop),Q (.int (g i j) s.toks) {s with toks:=s.toks+1}->aen (model X.prog X.w) X.A (f (.int i t) (.int j u)) Q E s):
  OpR X f (rI0 λi j=> .int (g i j)):=by
 intro pins s σ H x y v u Q I rx ry h;obtain⟨i,j,rfl,rfl,q⟩:=h;obtain⟨t,rfl⟩:=rx;obtain⟨t',rfl⟩:=ry;exact rule i j t t' s _ _ ⟨.int (g i j),H,I.tok _,⟨_,rfl⟩,q⟩
theorem opB0{g:Int->Int->Bool}
  (rule:∀(i j:Int) (t u:Tok) (s:aeg) (Q:aef->aeg->Prop) (E:aef->aeg->Prop),Q (.bool (g i j)) s->aen (model X.prog X.w) X.A (f (.int i t) (.int j u)) Q E s):
  OpR X f (rI0 λi j=> .bl (g i j)):=by
 intro pins s σ H x y v u Q I rx ry h;obtain⟨i,j,rfl,rfl,q⟩:=h;obtain⟨t,rfl⟩:=rx;obtain⟨t',rfl⟩:=ry;exact rule i j t t' s _ _ ⟨.bl (g i j),H,I,rfl,q⟩
def CPow(i j:Int):Prop:=0<=j/\j<=1000000/\i.natAbs<2^64
def CMul(i j:Int):Prop:=(-(2^64)<i/\i<2^64)\/(-(2^64)<j/\j<2^64)
theorem CMul.ok{i j:Int}(h:CMul i j):IntMulOk i j:=by
 rcases h with⟨h1,h2⟩ |⟨h1,h2⟩
 ·exact .of_left (intBits_le_64 h1 h2)
 ·exact .of_right (intBits_le_64 h1 h2)
theorem op_add:OpR X (afs .Add) (rI0 λi j=> .int (i+j)):=opI0 λ_ _ _ _ _ _ _ q=>add_int q
theorem op_sub:OpR X (afs .Sub) (rI0 λi j=> .int (i - j)):=opI0 λ_ _ _ _ _ _ _ q=>sub_int q
theorem op_mul:OpR X (afs .Mult) (rI CMul λi j=> .int (i*j)):=opI λ_ _ _ _ _ _ _ hc q=>mul_int q hc.ok
theorem op_mod:OpR X (afs .Mod) (rI (λ_ j=>0<j) λi j=> .int (i % j)):=opI λi j _ _ _ _ _ hc q=>by
 have h1:(0:Int)<j:=hc;exact mod_int' (by omega) (by rw[Int.fmod_eq_emod_of_nonneg i (by omega)];exact q)
theorem op_pow:OpR X (afs .Pow) (rI CPow λi j=> .int (i^j.toNat)):=opI λ_ _ _ _ _ _ _ hc q=>pow_int_small hc.1 hc.2.1 hc.2.2 q
theorem unI{f:aef->Sem aef}{g:Int->Int}
  (rule:∀(i:Int) (t:Tok) (s:aeg) (Q:aef->aeg->Prop) (E:aef->aeg->Prop),Q (.int (g i) s.toks) {s with toks:=s.toks+1}->aen (model X.prog X.w) X.A (f (.int i t)) Q E s):
  UnR X f (rU λi=> .int (g i)):=by
 intro pins s σ H x v Q I rx h;obtain⟨i,rfl,q⟩:=h;obtain⟨t,rfl⟩:=rx;exact rule i t s _ _ ⟨.int (g i),H,I.tok _,⟨_,rfl⟩,q⟩
theorem un_neg:UnR X (unaryOp .USub) (rU λi=> .int (-i)):=unI λ_ _ _ _ _ q=>neg_int q
end
section
variable{X:Cx}{a b c:aer}{ta tb tc:TE}{pos:Pos}
theorem fin_bl{Q:VK}{k k':Bool}(I:Inv X pins σ H s)(q:Q (.bl k) H)(e:k=k'):EP X pins σ Q (.bool k') s:=by
 subst e;exact⟨.bl k,H,I,rfl,q⟩
theorem op_lt:OpR X (ae9 .Lt) (rI0 λi j=> .bl (decide (i<j))):=opB0 λ_ _ _ _ _ _ _ q=>lt_int q
theorem op_le:OpR X (ae9 .LtE) (rI0 λi j=> .bl (decide (i<=j))):=opB0 λ_ _ _ _ _ _ _ q=>le_int q
theorem op_gt:OpR X (ae9 .Gt) (rI0 λi j=> .bl (decide (j<i))):=opB0 λ_ _ _ _ _ _ _ q=>gt_int q
theorem op_ge:OpR X (ae9 .GtE) (rI0 λi j=> .bl (decide (j<=i))):=opB0 λ_ _ _ _ _ _ _ q=>ge_int q
theorem op_isN:OpR X (ae9 .Is) (λx y H Q=>y= .non/\Q (.bl (decide (x= .non))) H):=by
 intro pins s σ H x y v u Q I rx ry h;obtain⟨rfl,q⟩:=h;cases ry;refine is_none_gen (fin_bl I q ?_);cases x <;> first
  |(cases rx;rfl)
  |(obtain⟨t,rfl⟩:=rx;rfl)
theorem OpR.or{r':R2}(h:OpR X f r)(h':OpR X f r'):OpR X f (λx y H Q=>r x y H Q\/r' x y H Q):=by
 intro pins s σ H x y v u Q I rx ry q;rcases q with q |q
 ·exact h pins s σ H x y v u Q I rx ry q
 ·exact h' pins s σ H x y v u Q I rx ry q
theorem nomark(b:aer){op:CmpOp}(h:op≠.In:=by decide)(h2:op≠.NotIn:=by decide):agc op b=false:=by
 have e1:(op ==CmpOp.In)=false:=by cases op <;> first |rfl |exact absurd rfl h
 have e2:(op ==CmpOp.NotIn)=false:=by cases op <;> first |rfl |exact absurd rfl h2
 cases b <;> simp[agc,e1,e2]
theorem pe_cmpR{op:CmpOp}(ho:OpR X (ae9 op) r)(ha:PE X a ta)(hb:PE X b tb)(hm:agc op b=false):PE X (.Compare a [op] [b] pos) (tOp r ta tb):=by
 intro pins s σ H Q I h;exact wpAny_Compare1 (binT ha hb I h λv u s2 x y H2 I2 rx ry q=>ho pins s2 σ H2 x y v u Q I2 rx ry q) hm
def tTest(t:TE):TT:=λσ H Q=>t σ H λx H'=>∃k,x= .bl k/\Q k H'
theorem pt_cmpR{op:CmpOp}(ho:OpR X (ae9 op) r)(ha:PE X a ta)(hb:PE X b tb)(hm:agc op b=false):PT X (.Compare a [op] [b] pos) (tTest (tOp r ta tb)):=by
 intro pins s σ H Q I h;refine wpAny_isTrue_Compare1 (thn (ha pins s σ H _ I h) λv s1 ⟨x,H1,I1,r1,q1⟩=>thn (hb pins s1 σ H1 _ I1 q1) λu s2 ⟨y,H2,I2,r2,q2⟩=>
  thn (ho pins s2 σ H2 x y v u _ I2 r1 r2 q2) λc s3 ⟨z,H3,I3,r3,k,e,q3⟩=>?_) hm
 subst e;cases r3;exact afw ⟨H3,I3,q3⟩
def tChain(r r':R2)(ta tb tc:TE):TE:=λσ H Q=>ta σ H λx H1=>tb σ H1 λy H2=>r x y H2 λz H3=>∃k,z= .bl k/\
 (if k=true then tc σ H3 λw' H4=>r' y w' H4 Q else Q (.bl false) H3)
theorem pe_chain{op op':CmpOp}{r':R2}(ho:OpR X (ae9 op) r)(ho':OpR X (ae9 op') r')(ha:PE X a ta)(hb:PE X b tb)(hc:PE X c tc)
  (hm:lastMarks [op,op'] [b,c]=false:=by with_unfolding_all rfl):PE X (.Compare a [op,op'] [b,c] pos) (tChain r r' ta tb tc):=by
 intro pins s σ H Q I h;refine Compare_chain (thn (ha pins s σ H _ I h) λv s1 ⟨x,H1,I1,r1,q1⟩=>chain_link (thn (hb pins s1 σ H1 _ I1 q1) λu s2 ⟨y,H2,I2,r2,q2⟩=>
  thn (ho pins s2 σ H2 x y v u _ I2 r1 r2 q2) λd s3 ⟨z,H3,I3,r3,k,e,q3⟩=>?_)) hm
 subst e;cases r3;refine afw ?_;cases k with
 |false=>exact ite_ff ⟨.bl false,H3,I3,rfl,q3⟩
 |true=>exact ite_tt (chain_last (thn (hc pins s3 σ H3 _ I3 q3) λw' s4 ⟨z',H4,I4,r4,q4⟩=>ho' pins s4 σ H4 y z' u w' Q I4 r2 r4 q4))
def TruV(K:aeh)(x:V)(H:Hp)(k:Bool):Prop:=
 match x with
 | .non=>k=false
 | .bl b=>k=b
 | .int i=>k=(i !=0)
 | .str y=>y.length<=sizeLine/\k=((y.length:Int) !=0)
 | .byt y=>y.size<=sizeLine/\k=((y.size:Int) !=0)
 | .ref p=>(∃xs,SqL K H p xs/\k= !xs.isEmpty)\/(∃xs,SqT K H p xs/\k= !xs.isEmpty)\/∃kvs,H p=some (.dK kvs)/\k= !kvs.isEmpty
 |_=>False
theorem isEmpty_kv{κ:Type}{kvs:List (κ×V)}{vs:List (κ×aef)}(r:KV kvs vs):(!vs.isEmpty)= !kvs.isEmpty:=by
 cases r <;> rfl
theorem isEmpty_of{xs:List V}{its:List aef}(r:Vals xs its):(!its.toArray.isEmpty)= !xs.isEmpty:=by
 cases r <;> simp
theorem line63:(sizeLine:Nat)<2^63:=by rw[agj];decide
theorem tru_ok:TruR X (λx H Q=>∃k,TruV X.K x H k/\Q k H):=by
 intro pins s σ H x v Q I rx h;obtain⟨k,e,q⟩:=h;have hl:=line63;have hs:sizeLine=16777216:=agj;cases x with
 | non=>
  cases rx;have e':k=false:=e;subst e';exact truthy_none ⟨H,I,q⟩
 | bl b=>
  cases rx;have e':k=b:=e;subst e';exact afw ⟨H,I,q⟩
 | int i=>
  obtain⟨t,rfl⟩:=rx;have e':k=(i !=0):=e;subst e';exact PySem.P.truthy_int ⟨H,I,q⟩
 | str y=>
  obtain⟨t,rfl⟩:=rx;obtain⟨hy,e'⟩:y.length<=sizeLine/\k=((y.length:Int) !=0):=e;subst e';exact PySem.P.truthy_str (by omega) ⟨H,I.tok _,q⟩
 | byt y=>
  obtain⟨t,rfl⟩:=rx;obtain⟨hy,e'⟩:y.size<=sizeLine/\k=((y.size:Int) !=0):=e;subst e';exact PySem.W.truthy_bytes (by omega) ⟨H,I.tok _,q⟩
 | ref p=>
  cases rx;have e':(∃xs,SqL X.K H p xs/\k= !xs.isEmpty)\/(∃xs,SqT X.K H p xs/\k= !xs.isEmpty)\/∃kvs,H p=some (.dK kvs)/\k= !kvs.isEmpty:=e;rcases e' with⟨xs,hx,e'⟩ |⟨xs,hx,e'⟩ |⟨kvs,hx,e'⟩
  ·subst e';obtain⟨its,r,pl,hz⟩:=I.list hx;have hlen:=r.length;exact wpAny_truthy_list pl.isList (by simp only[z1c];omega) ⟨H,I.tok _,by rw[isEmpty_of r];exact q⟩
  ·subst e';obtain⟨its,r,pl,hz⟩:=I.tuple hx;have hlen:=r.length;exact truthy_tuple pl (by simp only[z1c];omega) ⟨H,I.tok _,by rw[isEmpty_of r];exact q⟩
  ·subst e';obtain⟨hz,hS,vs,r,m⟩:kvs.length<=sizeLine/\(p ==sysModules)=false/\∃vs,KV kvs vs/\s.heap.DictOf (mixKind X.prog X.w) p vs:=I.hok p _ hx;have hlen:kvs.length=vs.length:=Paired.length r;exact wpAny_truthy_dict hS m (by omega) ⟨H,I.tok _,by rw[isEmpty_kv r];exact q⟩
 |_=>exact (show False from e).elim
theorem pt_truth(ha:PE X a ta)(he:∀whole,isTrue a X.env whole=(do let v <-whole;standAt a.pos;holding [v] (truthy v))):
  PT X a (λσ H Q=>ta σ H λx H'=>∃k,TruV X.K x H' k/\Q k H'):=by
 intro pins s σ H Q I h;exact isTrue_plain (thn (ha pins s σ H _ I h) λv s1 ⟨x,H1,I1,r1,q1⟩=>tru_ok pins s1 σ H1 x v Q I1 r1 q1) (he _)
theorem vals1{x:V}(r:Vals [x] us):∃u,us=[u]/\RelV x u:=by
 cases r with
 |cons r1 r2=>cases r2;exact⟨_,rfl,r1⟩
theorem vals2{x y:V}(r:Vals [x,y] us):∃u w',us=[u,w']/\RelV x u/\RelV y w':=by
 cases r with
 | cons r1 r2=>
  cases r2 with
  |cons r3 r4=>cases r4;exact⟨_,_,rfl,r1,r3⟩
theorem call_abs:CallR X (.builtin "abs") (λxs H Q=>∃i,xs=[.int i]/\Q (.int (if i<0 then -i else i)) H):=by
 intro pins s σ H xs us Q I r h;obtain⟨i,rfl,q⟩:=h;obtain⟨u,rfl,t,rfl⟩:=vals1 r;exact call_abs_int λu tk=>⟨.int (if i<0 then -i else i),H,I.tok _,⟨_,rfl⟩,q⟩
theorem call_max2(hc:X.calm=true):CallR X (.builtin "max") (λxs H Q=>∃i j,xs=[.int i,.int j]/\Q (.int (if j > i then j else i)) H):=by
 intro pins s σ H xs us Q I r h;obtain⟨i,j,rfl,q⟩:=h;obtain⟨u,w',rfl,⟨t,rfl⟩,⟨t',rfl⟩⟩:=vals2 r;refine max_two_ints (I.ok.hd hc) λh' tk k=>⟨_,H,I.kept k,?_,q⟩;by_cases hj:j > i
 ·rw[if_pos hj,if_pos hj];exact⟨_,rfl⟩
 ·rw[if_neg hj,if_neg hj];exact⟨_,rfl⟩
theorem call_min2(hc:X.calm=true):CallR X (.builtin "min") (λxs H Q=>∃i j,xs=[.int i,.int j]/\Q (.int (if j<i then j else i)) H):=by
 intro pins s σ H xs us Q I r h;obtain⟨i,j,rfl,q⟩:=h;obtain⟨u,w',rfl,⟨t,rfl⟩,⟨t',rfl⟩⟩:=vals2 r;refine min_two_ints (I.ok.hd hc) λh' tk k=>⟨_,H,I.kept k,?_,q⟩;by_cases hj:j<i
 ·rw[if_pos hj,if_pos hj];exact⟨_,rfl⟩
 ·rw[if_neg hj,if_neg hj];exact⟨_,rfl⟩
end
section
variable{prog:aew}{w:aey}{A:aeF}{E:aef->aeg->Prop}{s:aeg}{K:aeh}{x dx C f:aed}{mA:Str->Option aef}{name:Str}{v:aef}
end
section
variable{P:aew}{w:aey}{H H':Hp}{h h':aes}{a C dx:aed}{fs fs':List (Str×V)}
end
section
variable{X:Cx}{pins:List (aed×Obj)}{σ:St}{H:Hp}{s:aeg}{a C dx:aed}{fs:List (Str×V)}{f:Str}{v:V}{A:aeF}{E:aef->aeg->Prop}
end
section
variable{X:Cx}{o e value:aer}{f:Str}{pos pos' tpos:Pos}{ta tv:TE}
end
section
variable{X:Cx}{pins:List (aed×Obj)}{σ:St}{H:Hp}{s:aeg}{A:aeF}{E:aef->aeg->Prop}{Q:aef->aeg->Prop}{c:aef}{b:Bool}
end
structure Room(k:Nat)(A:aeF):Prop where
 hd:A.handled=none
 dp:A.depth+3*k+5<recursionLimit
 un:A.units+16*k+200<afE
theorem Room.mono{j:Nat}(r:Room k A)(h:j<=k):Room j A:=⟨r.hd,by have:=r.dp;omega,by have:=r.un;omega⟩
theorem Room.deeper(r:Room (k+1) A)(env:Env):Room k (A.deeper env):=
 ⟨r.hd,by have:=r.dp;show A.depth+1+3*k+5<_;omega,by have:=r.un;show A.units+3+16*k+200<_;omega⟩
theorem Room.depth(r:Room k A):A.depth<recursionLimit:=by have:=r.dp;omega
def tNil:TA:=λ_ H Q=>Q [] H
def tCons(ta:TE)(tr:TA):TA:=λσ H Q=>ta σ H λx H1=>tr σ H1 λxs H2=>Q (x::xs) H2
section
variable{X:Cx}{e:aer}{es:List aer}{te:TE}{t:TA}{pos:Pos}
theorem pa_nil:PA X [] tNil:=λ_ _ _ _ H Q I h=>Calls.spliced_nil ⟨[],H,I,.nil,h⟩
theorem pa_cons(ha:PE X e te)(hr:PA X es t)(hs:aei (e::es) X.env=(false,eval e X.env)::aei es X.env:=by rfl):PA X (e::es) (tCons te t):=by
 intro pos pins s σ H Q I h;rw[hs];show aen _ _ (spliced ((false,eval e X.env)::ae7 pos (aei es X.env))) _ _ s;refine Calls.spliced_cons (thn (ha pins s σ H _ I h) λu s1 bQ=>?_);obtain⟨x,H1,I1,r1,q1⟩:=bQ;refine thn (hr pos pins s1 σ H1 _ I1 q1) λus s2 bQ=>?_;obtain⟨xs,H2,I2,r2,q2⟩:=bQ;exact⟨x::xs,H2,I2,.cons r1 r2,q2⟩
def tTup(t:TA):TE:=λσ H Q=>t σ H λxs H1=>xs.length<=sizeLine/\∀p,H1 p=none->Q (.ref p) (upd H1 p (.tup xs))
def tLst(t:TA):TE:=λσ H Q=>t σ H λxs H1=>xs.length<=sizeLine/\∀p,H1 p=none->Q (.ref p) (upd H1 p (.lst xs))
theorem pe_tup{x1}(h:PA X es t):PE X (.Tuple es x1 pos) (tTup t):=by
 intro pins s σ H Q I hq;refine wpAny_Tuple_spliced (thn (h pos pins s σ H _ I hq) λus s1 ⟨xs,H1,I1,r,z,q⟩=>⟨by rw[<-r.length];exact z,?_⟩);have hf:H1 s1.heap.objs.size=none:=I1.hok.fresh (z0g _);refine⟨.ref s1.heap.objs.size,upd H1 s1.heap.objs.size (.tup xs),I1.laid (t':=s1.toks) (λb u e=>z1a _ e) (z0g _) ?_,rfl,q _ hf⟩;exact⟨z,us,r,⟨_,z1f _ rfl,rfl,rfl,_,rfl⟩⟩
theorem pe_lst(h:PA X es t):PE X (.List es pos) (tLst t):=by
 intro pins s σ H Q I hq;refine wpAny_List_spliced (thn (h pos pins s σ H _ I hq) λus s1 ⟨xs,H1,I1,r,z,q⟩=>⟨by rw[<-r.length];exact z,?_⟩);have hf:H1 s1.heap.objs.size=none:=I1.hok.fresh (z0g _);refine⟨.ref s1.heap.objs.size,upd H1 s1.heap.objs.size (.lst xs),I1.laid (t':=s1.toks) (λb u e=>z1a _ e) (z0g _) ?_,rfl,q _ hf⟩;exact⟨z,us,0,r,z1f _ rfl⟩
end
abbrev Sp:=List V->Hp->VK->XK->Prop
abbrev CXT:=List Env->Hp->aeg->XK->aef->aeg->Prop
structure Env0(P:aew)(w:aey)(K:aeh)(mg:Str->Option aef)(base:aes)(A:aeF)(outer:List Env)(s:aeg)(H:Hp):Prop where
 frames:A.frames=some outer
 mod:Mod K mg base
 bs:∀b o,base.get? b=some o->s.heap.get? b=some o/\H b=none
 bsz:base.objs.size<=s.heap.objs.size
 funs:s.heap.FunFrames base outer
 frf:∀b∈frs outer,H b=none
 hok:HOk P w H s.heap
 bare:agW s.gens
inductive CE (outer:List Env) (P:aew) (w:aey) (H:Hp) (s:aeg) (Q:VK) (u:aef) (s':aeg):Prop
 |mk (v:V) (H':Hp) (os:s'.os=s.os) (bare:agW s'.gens) (un:Un (frs outer) [] H H' s.heap s'.heap) (hok:HOk P w H' s'.heap) (r:RelV v u) (q:Q v H'):CE outer P w H s Q u s'
def CR(CX:CXT)(outer:List Env)(P:aew)(w:aey)(H:Hp)(s:aeg)(Q:VK)(E:XK)(r:Result)(s':aeg):Prop:=
 match r with
 | .ok (.ret u)=>CE outer P w H s Q u s'
 | .ok _=>False
 | .error e=>CX outer H s E e s'
structure FnOk(P:aew)(w:aey)(K:aeh)(mg:Str->Option aef)(base:aes)(CX:CXT)(k:Nat)(f:aed)(fd:aeZ)(ps:List Str)(sp:Sp):Prop where
 len:∀vs H Q E,sp vs H Q E->vs.length=ps.length
 run:∀(A:aeF) (outer:List Env) (s:aeg) (H:Hp) (args:Args) (us:List aef) (vs:List V) (Q:VK) (E:XK),Room k A->Env0 P w K mg base A outer s H->ahC s fd args (ps.zip us)->Vals vs us->sp vs H Q E->
  ahi (model P w) A (.call (.ref f) args) (CR CX outer P w H s Q E) s
theorem FnOk.mono{j:Nat}{f:aed}{fd:aeZ}{sp:Sp}(F:FnOk P w K mg base CX j f fd ps sp)(h:j<=k):
  FnOk P w K mg base CX k f fd ps sp:=⟨F.len,λA outer s H args us vs Q E hr=>F.run A outer s H args us vs Q E (hr.mono h)⟩
section
variable{X:Cx}{pins:List (aed×Obj)}{σ:St}{H:Hp}{s s':aeg}
theorem Inv.env0(I:Inv X pins σ H s):Env0 X.prog X.w X.K X.mg X.base X.A X.stack s H:=
 ⟨I.ok.frames,I.ok.mod,I.bs,z0b I.ok.bsz I.sz,I.stack,I.stkFree,I.hok,I.bare⟩
theorem Inv.after{Q:VK}{u:aef}(I:Inv X pins σ H s)(h:CE X.stack X.prog X.w H s Q u s'):EP X pins σ Q u s':=by
 obtain⟨v,H',os,bare,un,hok,r,q⟩:=h;obtain⟨hh,g,d,t,os'⟩:=s';obtain rfl:os'=s.os:=os;exact⟨v,H',I.call (h':=hh) (g':=g) (d':=d) (t':=t) (ch:=[]) un hok bare (λb z=>absurd z (by simp)),r,q⟩
end
def tCall(sp:Sp)(dvs:List V)(E:XK)(t:TA):TE:=λσ H Q=>t σ H λvs H1=>sp (vs++dvs) H1 Q E
def Binds(K:aeh)(fd:aeZ)(ps:List Str)(ds:List aef):Prop:=
 ∀(s:aeg) (us:List aef),K.In s.heap->(us++ds).length=ps.length->ahC s fd ⟨us,[]⟩ (ps.zip (us++ds))
theorem Binds.all{fd:aeZ}(h:∀us:List aef,us.length=ps.length->af2 fd ⟨us,[]⟩=pure (ps.zip us)):Binds K fd ps []:=λs us _ hl=>by
 rw[afg] at hl |-;exact .of_eq (h us hl)
def Passes(CX:CXT)(X:Cx)(E:XK):Prop:=∀(pins:List (aed×Obj)) (σ:St) (H:Hp) (s:aeg) (e:aef) (s':aeg),Inv X pins σ H s->CX X.stack H s E e s'->X.xe e s'
section
variable{X:Cx}{CX:CXT}{k:Nat}{f C:aed}{fd:aeZ}{ps:List Str}{sp:Sp}{dvs:List V}{ds:List aef}{E:XK}{x m:Str}{p pos apos:Pos}{e o:aer}{es:List aer}{ta:TE}{t:TA}
theorem run_fn{Q:VK}{vs:List V}(F:FnOk X.prog X.w X.K X.mg X.base CX k f fd ps sp)(hr:Room k X.A)(hb:Binds X.K fd ps ds)(hd:Vals dvs ds)(hx:Passes CX X E)
  (I:Inv X pins σ H s)(r:Vals vs us)(h:sp (vs++dvs) H Q E):aen (model X.prog X.w) X.A (call (.ref f) us) (EP X pins σ Q) X.xe s:=by
 have r2:Vals (vs++dvs) (us++ds):=r.append hd;have hl:(us++ds).length=ps.length:=by rw[<-r2.length];exact F.len _ _ _ _ h
 refine ahW (agX (F.run X.A X.stack s H ⟨us,[]⟩ (us++ds) (vs++dvs) Q E hr I.env0 (hb s us I.kIn hl) r2 h) λr s' hq=>?_);cases r with
 |error e=>exact hx pins σ H s e s' I hq
 | ok fl=>
  cases fl with
  |ret u=>exact I.after hq
  |next=>exact ae4 hq
  |brk=>exact ae4 hq
  |cont=>exact ae4 hq
theorem pe_call(F:FnOk X.prog X.w X.K X.mg X.base CX k f fd ps sp)(hr:Room k X.A)(hg:Gl X x)(hm:X.mg x=some (.ref f))(hk:ae2 X.K (.ref f)=true)(hb:Binds X.K fd ps ds)(hd:Vals dvs ds)(hx:Passes CX X E)
  (ha:PA X (e::es) t)(hdb:(x ==("__debug__" :Str))=false:=by decide)(he:aei (e::es) X.env=(false,eval e X.env)::aei es X.env:=by rfl)(hpl:(ae7 pos (aei es X.env)).any (·.1)=false:=by rfl):
  PE X (.Call (.Name x p) (e::es) [] pos) (tCall sp dvs E t):=by
 intro pins s σ H Q I h;refine afY (ld_glob I hg hm ?_ hdb);refine aik (h₀:=X.base) I.ok.mod.kin hk (thn (ha pos pins s σ H _ I h) λus s1 ⟨vs,H1,I1,r,q⟩=>⟨I1.kIn,?_⟩) he hpl;exact run_fn F hr hb hd hx I1 r q
end
def PK(X:Cx)(kws:List af7)(t:TA):Prop:=
 ∀(pos:Pos) (pins:List (aed×Obj)) (s:aeg) (σ:St) (H:Hp) (Q:List V->Hp->Prop),Inv X pins σ H s->t σ H Q->aen (model X.prog X.w) X.A (evalAll ((ag6 pos (agk kws X.env)).map (·.2))) (AP X pins σ Q) X.xe s
section
variable{X:Cx}{CX:CXT}{k:Nat}{f C:aed}{fd:aeZ}{ps ks:List Str}{sp:Sp}{E:XK}{x m:Str}{p pos apos kpos:Pos}{e o:aer}{es:List aer}{kws:List af7}{te ta:TE}{t tk:TA}{nm:Option Str}
theorem pk_nil:PK X [] tNil:=λ_ _ _ _ H Q I h=>wpAny_evalAll_nil ⟨[],H,I,.nil,h⟩
theorem pk_cons(ha:PE X e te)(hr:PK X kws t):PK X (⟨nm,e,kpos⟩::kws) (tCons te t):=by
 intro pos pins s σ H Q I h;show aen _ _ (evalAll ((do let v <-eval e X.env;standAt pos;pure v)::(ag6 pos (agk kws X.env)).map (·.2))) _ _ s;refine wpAny_evalAll_cons (aec (thn (ha pins s σ H _ I h) λu s1 ⟨x,H1,I1,r1,q1⟩=>aec (aip (aej ?_))));refine thn (hr pos pins s1 σ H1 _ I1 q1) λus s2 bQ=>?_;obtain⟨xs,H2,I2,r2,q2⟩:=bQ;exact⟨x::xs,H2,I2,.cons r1 r2,q2⟩
variable{g:List aef->List aef->List aef}{gV:List V->List V->List V}
end
structure FnScope(N P:List Str)(sc:afz):Prop where
 kind:sc.kind= .function
 co:sc.isCoroutine=false
 gen:sc.isGenerator=false
 nd:N.Nodup
 pre:N.take P.length=P
 par:∀x∈P,sc.names.lookup x=some .local\/sc.names.lookup x=some .cell
 nofree:∀y∈sc.names,y.2≠.free
theorem bindL_out{kindOf:Str->Option agE}{x:Str}:∀{binds:List (Str×aef)} {m:Str->Option aef},(∀v,(x,v)∉binds)->bindL kindOf binds m x=m x
 |[],_,_=>rfl
 | (n,v)::r,m,h=>by
  unfold bindL;rw[bindL_out λw hw=>h w (z2f _ hw)];split
  ·have:x≠n:=by rintro rfl;exact h v aex
   simp[this]
  ·rfl
theorem bindC_out{kindOf:Str->Option agE}{x:Str}:∀{binds:List (Str×aef)} {m:Str->Option aef},(∀v,(x,v)∉binds)->bindC kindOf binds m x=m x
 |[],_,_=>rfl
 | (n,v)::r,m,h=>by
  unfold bindC;rw[bindC_out λw hw=>h w (z2f _ hw)];split
  ·rfl
  ·have:x≠n:=by rintro rfl;exact h v aex
   simp[this]
theorem bindL_get{kindOf:Str->Option agE}{x:Str}{v:aef}:∀{P:List Str} {vs:List aef} {i:Nat} {m:Str->Option aef},P.Nodup->P[i]?=some x->vs[i]?=some v->kindOf x=some .local->
  bindL kindOf (P.zip vs) m x=some v
 |[],_,_,_,_,h,_,_=>by simp at h
 |_::_,[],_,_,_,_,h,_=>by simp at h
 | p::P,w::vs,0,m,nd,h1,h2,hk=>by
  simp at h1 h2;subst h1;subst h2;show bindL kindOf ((p,w)::P.zip vs) m p=_;unfold bindL;rw[bindL_out λv hv=>(ahm.mp nd).1 (ahn hv).1,if_pos hk];simp
 | p::P,w::vs,i+1,m,nd,h1,h2,hk=>by
  show bindL kindOf ((p,w)::P.zip vs) m x=_;unfold bindL;exact bindL_get (i:=i) (ahm.mp nd).2 (by simpa using h1) (by simpa using h2) hk
theorem bindC_get{kindOf:Str->Option agE}{x:Str}{v:aef}:∀{P:List Str} {vs:List aef} {i:Nat} {m:Str->Option aef},P.Nodup->P[i]?=some x->vs[i]?=some v->kindOf x≠some .local->
  bindC kindOf (P.zip vs) m x=some v
 |[],_,_,_,_,h,_,_=>by simp at h
 |_::_,[],_,_,_,_,h,_=>by simp at h
 | p::P,w::vs,0,m,nd,h1,h2,hk=>by
  simp at h1 h2;subst h1;subst h2;show bindC kindOf ((p,w)::P.zip vs) m p=_;unfold bindC;rw[bindC_out λv hv=>(ahm.mp nd).1 (ahn hv).1,if_neg hk];simp
 | p::P,w::vs,i+1,m,nd,h1,h2,hk=>by
  show bindC kindOf ((p,w)::P.zip vs) m x=_;unfold bindC;exact bindC_get (i:=i) (ahm.mp nd).2 (by simpa using h1) (by simpa using h2) hk
def start(N:List Str)(vs:List V):St:=vs.map some++aem (N.length - vs.length) none
def cxOf(CX:CXT)(P:aew)(w:aey)(K:aeh)(mg:Str->Option aef)(base:aes)(N:List Str)(qual:Str)(scope:afz)(f:aed)(cd:aef)(A:aeF)(outer:List Env)(s:aeg)(H:Hp)(E:XK):Cx where
 prog:=P
 w:=w
 K:=K
 mg:=mg
 base:=base
 A:=A.deeper (afC qual scope s.heap.objs.size f cd)
 N:=N
 s₀:=s
 H₀:=H
 env:=afC qual scope s.heap.objs.size f cd
 outer:=outer
 stack:=afC qual scope s.heap.objs.size f cd::outer
 ex:=[]
 calm:=true
 fn:=λ_=>true
 pn:=[]
 xe:=λe s'=>aen (model P w) (A.deeper (afC qual scope s.heap.objs.size f cd)) (leaving (afC qual scope s.heap.objs.size f cd) e) (λ_ s''=>CX outer H s E e s'') (λe' s''=>CX outer H s E e' s'') s'
theorem cell_has{sc:afz}{n:Nat}{x:Str}(h:sc.names.lookup x=some .cell):∃c,(aeH n sc.names []).lookup x=some c:=by
 have q:=agl sc.names n [] (.inl h);exact afy.mp q
theorem inv_start{qual:Str}{scope:afz}{f:aed}{cd:aef}{outer:List Env}{s1:aeg}{E:XK}{vs:List V}
  (S:FnScope N ps scope)(hd:A.handled=none)(e0:Env0 P w K mg base A outer s H)(hl:vs.length=ps.length)(r:Vals vs us)
  (x:InCallC s s.heap.objs.size (bindL (afC qual scope s.heap.objs.size f cd).kindOf (ps.zip us) λ_=>none) (aeH (s.heap.objs.size+1) scope.names []) (bindC (afC qual scope s.heap.objs.size f cd).kindOf (ps.zip us) λ_=>none) s1):
  Inv (cxOf CX P w K mg base N qual scope f cd A outer s H E) [] (start N vs) H s1:=by
 have hpl:ps.length<=N.length:=by have:=congrArg ai9 S.pre;rw[agF] at this;omega
 obtain⟨h1,tk,rfl,hk⟩:=x.done;have noA:∀b:aed,b∉(cxOf CX P w K mg base N qual scope f cd A outer s H E).ex:=λb z=>absurd (show b∈([]:List aed) from z) (by simp);refine⟨⟨e0.mod,S.kind,rfl,rfl,z0g _,λy z c h1 h2=>?_,λy hy=>?_,λy c _ h=>?_,λ_=>hd,Around.frames_deeper e0.frames,.inr ⟨rfl,rfl⟩,λb z=>absurd z (noA b),e0.bs,e0.bsz,λb _ _=>noA b,λb z=>absurd z (noA b),e0.funs,e0.frf⟩,
  rfl,e0.bare,Un.kept hk,⟨_,x.toInCall.ns,λi y v h1 h2 h3=>?_⟩,λy c h=>⟨_,x.cell y c h⟩,e0.hok.fresh (z0g _),λy c h=>?_,λp hp=>absurd (show p∈([]:List (aed×Obj)) from hp) (by simp),e0.hok.kept hk,?_⟩
 ·exact name_of_addr x.apart (aeE h1) (aeE h2)
 ·have hy:scope.names.lookup y=some .cell\/scope.names.lookup y=some .free:=hy;rcases hy with hy |hy
  ·exact cell_has hy
  ·exact absurd rfl (S.nofree _ (aeE hy))
 ·exact z0e (x.above y c (aeE h))
 ·have hi:i<vs.length:=by
   unfold start at h2;by_cases hi:i<vs.length
   ·exact hi
   ·rw[aeT (by simpa using hi)] at h2;rw[afA] at h2;split at h2 <;> cases h2
  have ha:vs[i]?=some v:=by
   unfold start at h2;rw[ae5 (by simpa using hi),z2b] at h2;cases e:vs[i]? with
   |none=>rw[e] at h2;cases h2
   |some a=>rw[e] at h2;cases h2;rfl
  obtain⟨u,hu,rv⟩:=r.get ha;have hp:ps[i]?=some y:=by
   rw[<-S.pre,aiK (by omega)];exact h1
  have ndP:ps.Nodup:=by rw[<-S.pre];exact S.nd.sublist (List.take_sublist _ _)
  refine⟨u,rv,?_⟩;rcases S.par y (ae0 hp) with k |k
  ·exact .inl ⟨k,bindL_get ndP hp hu k⟩
  ·obtain⟨c,e⟩:=cell_has (n:=s.heap.objs.size+1) k;refine .inr ⟨.inl k,c,e,?_⟩;have q:=x.cell y c e;rw[bindC_get ndP hp hu (by show scope.names.lookup y≠_;rw[k];decide)] at q;exact q
 ·exact e0.hok.fresh (z0e (x.above y c (aeE h)))
 ·unfold start;show _=N.length;rw[z1d,z1g,afh];omega
theorem fn_of{f:aed}{name qual:Str}{params:afN}{scope:afz}{dV kV doc pm cdv ct oc:aef}{an od:Option aed}
  {osl:Array (Option aef)}{sp:Sp}(lk:K.lookup f=some ⟨oc,od,.func (ae3 name qual params body scope dV kV doc pm an cdv ct),osl⟩)(hcd:afK K cdv qual=true)(S:FnScope N ps scope)
  (len:∀vs H Q E,sp vs H Q E->vs.length=ps.length)
  (hbody:∀(A:aeF) (outer:List Env) (s:aeg) (H:Hp) (vs:List V) (Q:VK) (E:XK),Room k (A.deeper (afC qual scope s.heap.objs.size f cdv))->sp vs H Q E->
   ∃t,PSs (cxOf CX P w K mg base N qual scope f cdv A outer s H E) body t/\t {nx:=λ_ H'=>Q .non H',rt:=Q} (start N vs) H):
  FnOk P w K mg base CX (k+1) f (ae3 name qual params body scope dV kV doc pm an cdv ct) ps sp:=by
 refine⟨len,λA outer s H args us vs Q E hr e0 hb r hsp=>?_⟩;have hl:=len _ _ _ _ hsp;have KX:K.In s.heap:=e0.mod.kin.keeps λb o e=>(e0.bs b o e).1;have lim:s.heap.NoLimit:=e0.mod.nolimit.keeps λb o e=>(e0.bs b o e).1;have hkind:∀y∈ps.zip us,scope.names.lookup y.1=some .local\/(scope.names.lookup y.1=some .cell/\((aeH (s.heap.objs.size+1) scope.names []).lookup y.1).isSome=true):=λ⟨n,v⟩ hy=>by
  rcases S.par n (ahn hy).1 with q |q
  ·exact .inl q
  ·exact .inr ⟨q,agl _ _ _ (.inl q)⟩
 refine codeAny_call_function hr.depth (KX _ _ lk) rfl S.co S.gen rfl (PySem.W.codeRec_of KX hcd) (hb _ _ _ _ ?_);refine wpAny_newFunctionEnv_cells S.kind hkind λenv he s1 x=>?_;subst he;refine⟨lim.keeps x.toInCall.keep,codeAny_func ?_⟩;obtain⟨t,ht,hq⟩:=hbody A outer s H vs Q E (hr.deeper _) hsp;have I:Inv (cxOf CX P w K mg base N qual scope f cdv A outer s H E) [] (start N vs) H s1:=inv_start S hr.hd e0 hl r x;refine afl (ht [] s1 (start N vs) H _ I hq) (λfl s' hs=>?_) λe s' hs=>hs;have fin:∀{σ':St} {H':Hp} {v:V} {u:aef},Inv (cxOf CX P w K mg base N qual scope f cdv A outer s H E) [] σ' H' s'->RelV v u->Q v H'->CE outer P w H s Q u s':=
  λ{σ' H' v u} J rv q=>⟨v,H',J.os,J.bare,J.base,J.hok,rv,q⟩
 cases fl with
 | ret u=>
  obtain⟨v,σ',H',J,rv,q⟩:=hs;exact fin J rv q
 | next=>
  obtain⟨σ',H',J,q⟩:=hs;exact fin (v:=V.non) (u:=aeL) J rfl q
 | brk=>
  obtain⟨_,_,_,q⟩:=hs;exact ae4 q
 | cont=>
  obtain⟨_,_,_,q⟩:=hs;exact ae4 q
section
variable{X:Cx}{x:Str}{p pos:Pos}{e:aer}{es:List aer}{t:TA}{id T:String}{r:List V->Hp->VK->Prop}
def tCB(r:List V->Hp->VK->Prop)(t:TA):TE:=λσ H Q=>t σ H λvs H1=>r vs H1 Q
theorem pe_callB(hc:CallR X (.builtin id) r)(hg:Gl X x)(hm:X.mg x=none)(hv:afI x=some (.builtin id))(ha:PA X (e::es) t)(hn:x≠"__name__" :=by decide)(hdb:(x ==("__debug__" :Str))=false:=by decide)
  (he:aei (e::es) X.env=(false,eval e X.env)::aei es X.env:=by rfl)(hpl:(ae7 pos (aei es X.env)).any (·.1)=false:=by rfl):PE X (.Call (.Name x p) (e::es) [] pos) (tCB r t):=by
 intro pins s σ H Q I h;refine afY (ld_blt I hg hm hv ?_ hn hdb);exact PyProof.Rows.callWith_builtin1 (thn (ha pos pins s σ H _ I h) λus s1 ⟨vs,H1,I1,r1,q1⟩=>hc pins s1 σ H1 vs us Q I1 r1 q1) he hpl
theorem pe_callTy(hc:CallR X (.type T) r)(hg:Gl X x)(hm:X.mg x=none)(hv:afI x=some (.type T))(ha:PA X (e::es) t)(hn:x≠"__name__" :=by decide)(hdb:(x ==("__debug__" :Str))=false:=by decide)
  (he:aei (e::es) X.env=(false,eval e X.env)::aei es X.env:=by rfl)(hpl:(ae7 pos (aei es X.env)).any (·.1)=false:=by rfl):PE X (.Call (.Name x p) (e::es) [] pos) (tCB r t):=by
 intro pins s σ H Q I h;refine afY (ld_blt I hg hm hv ?_ hn hdb);exact ae6 (thn (ha pos pins s σ H _ I h) λus s1 ⟨vs,H1,I1,r1,q1⟩=>hc pins s1 σ H1 vs us Q I1 r1 q1) he hpl
end
end L2
namespace HT
open PySem PyProof.Rows
section
open PySem.SeqAt
open PySem.AutoSeq1 (wpAny_loadPart')
open PySem.MeetsSeq PySem.MeetsSeq2 PySem.MeetsSeq3
end
section
variable{prog:aew}{w:aey}{A:aeF}{E:aef->aeg->Prop}{s:aeg}
theorem cat_tup{t b:aed}{vs ws:List aef}{Q:aef->aeg->Prop}(ht:IsTup s.heap t vs.toArray)(hb:IsTup s.heap b ws.toArray)(hv:vs≠[])
  (h1:ws=[]->Q (.ref t) s)(h2:ws≠[]->Q (.ref s.heap.objs.size) {s with heap:=s.heap.push {cls:= .type "tuple",data:= .seq (vs++ws).toArray}})
  (hsz:vs.length+ws.length<=sizeLine):aen (model prog w) A (afs .Add (.ref t) (.ref b)) Q E s:=by
 obtain⟨⟨cls,dd,data,sl⟩,ho,hc,n,hd⟩:=id ht;obtain⟨⟨cls2,dd2,data2,sl2⟩,ho2,hc2,n2,hd2⟩:=id hb;simp only at hc hd hc2 hd2;subst hc hd hc2 hd2;have e:vs.toArray++ws.toArray=(vs++ws).toArray:=by simp
 by_cases hw:ws=[]
 ·exact aiL ⟨_,ho,rfl⟩ ⟨_,ho2,rfl⟩ aiM seq_tuple_add ahJ ahF (ahz _ _)
   (tuple_addW1 t b vs.toArray ws.toArray n n2 dd dd2 sl sl2 (by simpa using hv) (by simp[hw])) ⟨ho,ho2,h1 hw⟩
 ·refine aiL ⟨_,ho,rfl⟩ ⟨_,ho2,rfl⟩ aiM seq_tuple_add ahJ ahF (ahz _ _)
   (tuple_addW2 t b vs.toArray ws.toArray n n2 dd dd2 sl sl2 (by simpa using hv) (by simpa using hw) (by rw[z1c,z1c];exact hsz)) ⟨ho,ho2,?_⟩
  rw[e];exact h2 hw
def sIx(n d:Nat):Option Int->Nat
 |none=>d
 |some v=>if v<0 then (v+(n:Int)).toNat else min v.toNat n
theorem sIx_le(n d:Nat)(hd:d<=n)(o:Option Int):sIx n d o<=n:=by
 cases o with
 |none=>exact hd
 | some v=>
  show (if v<0 then (v+(n:Int)).toNat else min v.toNat n)<=n;by_cases hv:v<0
  ·rw[if_pos hv];omega
  ·rw[if_neg hv];exact Nat.min_le_right _ _
theorem W9(a b:Nat):((min a b:Nat):Int)=min (a:Int) (b:Int):=by
 rcases Nat.le_total a b with h |h
 ·rw[ahX h,Int.min_eq_left (aiN.mpr h)]
 ·rw[Nat.min_eq_right h,Int.min_eq_right (aiN.mpr h)]
theorem ab3{i:Int}(n:Nat)(h:i<0):max 0 (min (i+(n:Int)) (n:Int))=(((i+(n:Int)).toNat:Nat):Int):=by
 rw[Int.min_eq_left (by omega),Int.max_comm];exact (Int.ofNat_toNat _).symm
theorem ab4(k n:Nat):max 0 (min (k:Int) (n:Int))=((min (k:Int).toNat n:Nat):Int):=by
 rw[Int.max_eq_right (Int.le_min.mpr ⟨agQ _,agQ _⟩)];exact (W9 k n).symm
theorem clip_eq(v:Int)(n d:Nat):(if v<0 then max (v+(n:Int)) 0 else min v (n:Int))=((sIx n d (some v):Nat):Int):=by
 show (if v<0 then max (v+(n:Int)) 0 else min v (n:Int))=(((if v<0 then (v+(n:Int)).toNat else min v.toNat n):Nat):Int);by_cases hv:v<0
 ·simp only[if_pos hv];exact (Int.ofNat_toNat _).symm
 ·simp only[if_neg hv];obtain⟨k,rfl⟩:=afM (Int.not_lt.mp hv);exact (W9 k n).symm
theorem adjust_gen(lo hi:Option Int)(n:Nat):aho lo hi 1 (n:Int)=(((sIx n 0 lo:Nat):Int),((sIx n n hi:Nat):Int)):=by
 have h1:¬((1:Int)<0):=by omega
 unfold aho;simp only[h1,if_false];refine ajf ?_ ?_
 ·cases lo with
  |none=>rfl
  |some v=>exact clip_eq v n 0
 ·cases hi with
  |none=>rfl
  |some v=>exact clip_eq v n n
theorem places_gen(i j:Nat):agz (i:Int) (j:Int) 1=j - i:=by
 unfold agz;have h1:(1:Int) > 0:=by omega
 simp only[h1,if_true,Int.ediv_one];split <;> omega
theorem slicePart_{v:aef}{o:Option Int}{Q:Option Int->aeg->Prop}(p:ahY v o)(h:Q o s):aen (model prog w) A (Builtin.Slice.slicePartIndex v) Q E s:=by
 cases p with
 |none=>exact slicePart_none h
 |int i t=>exact slicePart_int h
theorem sliceApplied_gen{sl:aed}{vl vu:aef}{lo hi:Option Int}{n:Nat}{Q:Int×Int×Nat->aeg->Prop}(hs:s.heap.IsSliceOf sl vl vu .none)(pl:ahY vl lo)(pu:ahY vu hi)
  (h:Q (((sIx n 0 lo:Nat):Int),1,sIx n n hi - sIx n 0 lo) s):aen (model prog w) A (aiq (.ref sl) (pure (n:Int))) Q E s:=by
 obtain⟨os,hos,hcs,hds⟩:=id hs;unfold aiq Builtin.Slice.sliceFields;refine aec (aec (aeI hos hds (x:=vl) rfl (aec (aeI hos hds (x:=vu) rfl (aec (aeI hos hds (x:= .none) rfl (aej ?_)))))));refine aec (slicePart_none ?_);show aen _ _ (if ((1:Int) ==0)=true then _ else _) _ _ s;rw[if_neg (by decide)];refine aec (slicePart_ pl (aec (slicePart_ pu (aec (aej ?_)))));show aen _ _ (match aho lo hi 1 (n:Int) with |(lo,hi)=>pure (lo,(1:Int),agz lo hi 1)) _ _ s;rw[adjust_gen lo hi n];show aen _ _ (pure (((sIx n 0 lo:Nat):Int),(1:Int),agz ((sIx n 0 lo:Nat):Int) ((sIx n n hi:Nat):Int) 1)) _ _ s;rw[places_gen];exact aej h
theorem pick_gen(xs:Array aef)(i k:Nat):((aee k).filterMap λ(m:Nat)=>xs[((i:Int)+(m:Int)*1).toNat]?).toArray=((xs.toList.drop i).take k).toArray:=by
 have e:(λ(m:Nat)=>xs[((i:Int)+(m:Int)*1).toNat]?)=λm=>xs[i+m]?:=by
  funext m;have:((i:Int)+(m:Int)*1).toNat=i+m:=by omega
  rw[this]
 rw[e];have:=pick_run xs i k;rw[List.filterMap_map] at this;have e2:((λx=>xs[x]?) ∘ λx=>i+x)=λm=>xs[i+m]?:=rfl;rw[e2] at this;rw[this]
theorem getItem_tuple_cut{t sl:aed}{items:Array aef}{vl vu:aef}{lo hi:Option Int}{Q:aef->aeg->Prop}(ht:IsTup s.heap t items)(hs:s.heap.IsSliceOf sl vl vu .none)(pl:ahY vl lo)(pu:ahY vu hi)
  (hw:¬(sIx items.size 0 lo=0/\sIx items.size items.size hi=items.size))
  (h:Q (.ref s.heap.objs.size) {s with heap:=s.heap.push {cls:= .type "tuple",data:= .seq ((items.toList.drop (sIx items.size 0 lo)).take (sIx items.size items.size hi - sIx items.size 0 lo)).toArray}})
  (hsz:items.size<=sizeLine):aen (model prog w) A (getItem (.ref t) (.ref sl)) Q E s:=by
 have htake:sizeOk (.seq ((items.toList.drop (sIx items.size 0 lo)).take (sIx items.size items.size hi - sIx items.size 0 lo)).toArray):=by
  show ((items.toList.drop (sIx items.size 0 lo)).take (sIx items.size items.size hi - sIx items.size 0 lo)).toArray.size<=sizeLine;rw[z1c,agF,aiO,agf];omega
 have hj:sIx items.size items.size hi<=items.size:=sIx_le _ _ (z0g _) hi;obtain⟨os,hos,hcs,hds⟩:=id hs;have hTs:s.TypeIs (.ref sl) "slice" :=⟨os,hos,hcs⟩;unfold getItem
 try with_reducible refine afT ?_
 first |refine aec (aej ?_) |skip
 refine aec (wpAny_sequenceKey ht.typeIs (by decide) ?_);refine aec (afb (name:=afS "__getitem__") ht.typeIs afr
  (afn afr ht.typeIs entry_tuple_getitem ?_ (args_tuple_getitem _ _)))
 show aen _ _ (air (.ref t) >>=_) _ _ s;refine aec (tupleItemsOf_ ht ?_);refine aec (aiP hTs ?_);rw[if_pos (by decide)];refine aec (sliceApplied_gen hs pl pu ?_);have hno:¬((((sIx items.size 0 lo:Nat):Int) ==0 && (1:Int) ==1 && (sIx items.size items.size hi - sIx items.size 0 lo) ==items.size)=true):=by
  intro q;rw[agG,agG] at q;have q1:((sIx items.size 0 lo:Nat):Int)=0:=eq_of_beq q.1.1;have q2:sIx items.size items.size hi - sIx items.size 0 lo=items.size:=eq_of_beq q.2;exact hw ⟨by omega,by omega⟩
 show aen _ _ (if (((sIx items.size 0 lo:Nat):Int) ==0 && (1:Int) ==1 && (sIx items.size items.size hi - sIx items.size 0 lo) ==items.size)=true then _ else _) _ _ s;rw[if_neg hno,pick_gen]
 first
  |exact aec (m:=agH _) (afq (aej ⟨_,rfl,aej h⟩) htake)
  |exact aec (m:=agH _) (afq (aec (aej (aej ⟨_,rfl,aej h⟩))) htake)
  |exact aec (aec (m:=agH _) (afq (aej (aej ⟨_,rfl,aej h⟩)) htake))
  |exact aec (aec (m:=agH _) (afq (aej ⟨_,rfl,aej h⟩) htake))
end
end HT
namespace L2
open PySem PySem.Spec PyProof.Rows
abbrev TO:=St->Hp->(Option Int->Hp->Prop)->Prop
def PO(X:Cx)(e:Option aer)(t:TO):Prop:=
 ∀(pins:List (aed×Obj)) (s:aeg) (σ:St) (H:Hp) (Q:Option Int->Hp->Prop),Inv X pins σ H s->t σ H Q->
  aen (model X.prog X.w) X.A (evalPart e X.env) (λu s'=>∃o H',Inv X pins σ H' s'/\ahY u o/\Q o H') X.xe s
def tNoPart:TO:=λ_ H Q=>Q none H
def tPart(t:TE):TO:=λσ H Q=>t σ H λx H1=>∃i,x= .int i/\Q (some i) H1
theorem intsAre_of{ns:List Int}:∀{us:List aef},Vals (ns.map V.int) us->af8 us ns:=by
 induction ns with
 |nil=>intro us r;rw[agY] at r;cases r;exact .nil
 | cons n ns ih=>
  intro us r;rw[z1h] at r;cases r with
  | cons r1 r2=>
   obtain⟨t,e⟩:=r1;subst e;exact .cons n t (ih r2)
section
variable{X:Cx}{e:aer}{te:TE}{lo hi:Option aer}{tl th:TO}{pos p2:Pos}
theorem po_none:PO X none tNoPart:=by
 intro pins s σ H Q I h;rw[evalPart_none];exact aej ⟨none,H,I,.none,h⟩
theorem po_some(h:PE X e te):PO X (some e) (tPart te):=by
 intro pins s σ H Q I hw;rw[evalPart_some];refine thn (h pins s σ H _ I hw) λu s1 bQ=>?_;obtain⟨x,H1,I1,r1,q1⟩:=bQ;obtain⟨i,rfl,q⟩:=q1;obtain⟨t,rfl⟩:=r1;exact⟨some i,H1,I1,.int i t,q⟩
def SlR(X:Cx)(r:V->Option Int->Option Int->Hp->VK->Prop):Prop:=
 ∀(pins:List (aed×Obj)) (s:aeg) (σ:St) (H:Hp) (x:V) (v vl vu:aef) (lo hi:Option Int) (sl:aed) (Q:VK),Inv X pins σ H s->RelV x v->s.heap.IsSliceOf sl vl vu .none->ahY vl lo->ahY vu hi->r x lo hi H Q->
  ∃T id,typeLookup (.type T) "__getitem__" =pure (some (.builtin id))/\s.TypeIs v T/\aen (model X.prog X.w) X.A (getItem v (.ref sl)) (EP X pins σ Q) X.xe s
theorem SlR.or{r r':V->Option Int->Option Int->Hp->VK->Prop}(h:SlR X r)(h':SlR X r'):SlR X (λx lo hi H Q=>r x lo hi H Q\/r' x lo hi H Q):=by
 intro pins s σ H x v vl vu lo hi sl Q I rx hs pl pu q;rcases q with q |q
 ·exact h pins s σ H x v vl vu lo hi sl Q I rx hs pl pu q
 ·exact h' pins s σ H x v vl vu lo hi sl Q I rx hs pl pu q
def tSl(r:V->Option Int->Option Int->Hp->VK->Prop)(te:TE)(tl th:TO):TE:=λσ H Q=>te σ H λx H1=>tl σ H1 λl H2=>th σ H2 λu H3=>r x l u H3 Q
theorem pe_slice{r:V->Option Int->Option Int->Hp->VK->Prop}(hr:SlR X r)(he:PE X e te)(hl:PO X lo tl)(hu:PO X hi th):PE X (.Subscript e (.Slice lo hi none p2) pos) (tSl r te tl th):=by
 intro pins s σ H Q I h;refine Subscript_ (thn (he pins s σ H _ I h) λv s1 bQ=>?_);obtain⟨x,H1,I1,r1,q1⟩:=bQ;refine wpAny_Slice (thn (hl pins s1 σ H1 _ I1 q1) λvl s2 ⟨l,H2,I2,pl,q2⟩=>thn (hu pins s2 σ H2 _ I2 q2) λvu s3 bQ=>?_);obtain⟨u,H3,I3,pu,q3⟩:=bQ;rw[evalPart_none];refine aej ?_;have I4:Inv X pins σ H3 {s3 with heap:=s3.heap.push {cls:= .type "slice",data:= .fields #[vl,vu,.none]}}:=I3.kept (t':=s3.toks) λb ob q=>z1a _ q;obtain⟨T,id,hT,ht,hg⟩:=hr pins {s3 with heap:=s3.heap.push {cls:= .type "slice",data:= .fields #[vl,vu,.none]}} σ H3 x v vl vu l u s3.heap.objs.size Q I4 r1 (ajo ..) pl pu q3;show aen (model X.prog X.w) X.A (subscriptTail e (.Slice lo hi none p2) v (.ref s3.heap.objs.size)) (EP X pins σ Q) X.xe {s3 with heap:=s3.heap.push {cls:= .type "slice",data:= .fields #[vl,vu,.none]}};exact tail_any (ops:=[.ref s3.heap.objs.size,v]) ht hT hg (by with_unfolding_all rfl)
def cutV(xs:List V)(lo hi:Option Int):List V:=(xs.drop (HT.sIx xs.length 0 lo)).take (HT.sIx xs.length xs.length hi - HT.sIx xs.length 0 lo)
theorem cutV_length(xs:List V)(lo hi:Option Int):(cutV xs lo hi).length<=xs.length:=by
 unfold cutV;rw[agF,aiO];omega
def rSlT(K:aeh):V->Option Int->Option Int->Hp->VK->Prop:=λx lo hi H Q=>∃a xs,x= .ref a/\SqT K H a xs/\
 ¬(HT.sIx xs.length 0 lo=0/\HT.sIx xs.length xs.length hi=xs.length)/\∀p,H p=none->Q (.ref p) (upd H p (.tup (cutV xs lo hi)))
theorem sl_tup:SlR X (rSlT X.K):=by
 intro pins s σ H x v vl vu lo hi sl Q I rx hs pl pu h;obtain⟨a,xs,rfl,hx,hw,q⟩:=h;cases rx;obtain⟨its,r,ht,hz⟩:=I.tuple hx;have hlen:its.toArray.size=xs.length:=by rw[z1c];exact r.length.symm
 refine⟨"tuple",_,afr.lookup,ht.typeIs,?_⟩;refine HT.getItem_tuple_cut ht hs pl pu (by rw[hlen];exact hw) ?_ (by rw[hlen];exact hz);rw[hlen];refine⟨.ref s.heap.objs.size,_,I.laid (t':=s.toks) (o:= .tup (cutV xs lo hi)) (λb ob q=>z1a _ q) (z0g _) ?_,rfl,q _ (I.hok.fresh (z0g _))⟩;exact⟨z0b (cutV_length xs lo hi) hz,_,(r.drop (HT.sIx xs.length 0 lo)).take (HT.sIx xs.length xs.length hi - HT.sIx xs.length 0 lo),za.new _ _⟩
def rCatT(K:aeh):R2:=λx y H Q=>∃a b xs ys,x= .ref a/\y= .ref b/\SqT K H a xs/\SqT K H b ys/\xs≠[]/\xs.length+ys.length<=sizeLine/\
 (ys=[]->Q (.ref a) H)/\(ys≠[]->∀p,H p=none->Q (.ref p) (upd H p (.tup (xs++ys))))
theorem Vals.nil_iff{xs:List V}{us:List aef}(r:Vals xs us):us=[]↔xs=[]:=by
 cases r with
 |nil=>simp
 |cons _ _=>simp
theorem op_catT:OpR X (afs .Add) (rCatT X.K):=by
 intro pins s σ H x y v u Q I rx ry h;obtain⟨a,b,xs,ys,rfl,rfl,ha,hb,hx,hz,q1,q2⟩:=h;cases rx;cases ry;obtain⟨its,r1,p1,_⟩:=I.tuple ha;obtain⟨its2,r2,p2,_⟩:=I.tuple hb;refine HT.cat_tup p1 p2 (λz=>hx (r1.nil_iff.mp z)) (λz=>⟨.ref a,H,I,rfl,q1 (r2.nil_iff.mp z)⟩) (λz=>?_) (by rw[<-r1.length,<-r2.length];exact hz);refine⟨.ref s.heap.objs.size,_,I.laid (t':=s.toks) (o:= .tup (xs++ys)) (λb ob q=>z1a _ q) (z0g _) ?_,rfl,q2 (λw=>z (r2.nil_iff.mpr w)) _ (I.hok.fresh (z0g _))⟩;exact⟨by rw[z1d];exact hz,_,r1.append r2,za.new _ _⟩
end
def ixN(n:Nat)(i:Int):Option Nat:=if 0<=i then (if i<n then some i.toNat else none) else if -(n:Int)<=i then some (i+n).toNat else none
def atI{α:Type}(xs:List α)(i:Int):Option α:=(ixN xs.length i).bind λj=>xs[j]?
theorem ixN_seq{n:Nat}{i:Int}{j:Nat}(h:ixN n i=some j):seqIndex? i n=some j/\j<n/\-(n:Int)<=i/\i<n:=by
 unfold ixN at h;by_cases h0:0<=i
 ·rw[if_pos h0] at h;by_cases h1:i<n
  ·rw[if_pos h1] at h;have e:i.toNat=j:=aeG h;exact⟨by rw[seqIndex_of h0 h1,e],by omega,by omega,h1⟩
  ·rw[if_neg h1] at h;cases h
 ·rw[if_neg h0] at h;by_cases h1: -(n:Int)<=i
  ·rw[if_pos h1] at h;have e:(i+n).toNat=j:=aeG h;exact⟨by rw[seqIndex_neg (by omega) h1,e],by omega,h1,by omega⟩
  ·rw[if_neg h1] at h;cases h
theorem atI_get{α:Type}{xs:List α}{i:Int}{v:α}(h:atI xs i=some v):∃j,seqIndex? i xs.length=some j/\xs[j]?=some v/\j<xs.length/\-(xs.length:Int)<=i/\i<xs.length:=by
 unfold atI at h;cases e:ixN xs.length i with
 |none=>rw[e] at h;cases h
 | some j=>
  rw[e] at h;obtain⟨h1,h2,h3,h4⟩:=ixN_seq e;exact⟨j,h1,h,h2,h3,h4⟩
def PlainIx(b:aer):Prop:=∀o i,subscripted b false o i=operate [o,i] (getItem o i)
def IxR(X:Cx)(r:R2):Prop:=
 ∀(value slice:aer) (pins:List (aed×Obj)) (s:aeg) (σ:St) (H:Hp) (x y:V) (v u:aef) (Q:VK),Inv X pins σ H s->RelV x v->RelV y u->r x y H Q->
  subscripted slice false v u=operate [v,u] (getItem v u)->aen (model X.prog X.w) X.A (subscriptTail value slice v u) (EP X pins σ Q) X.xe s
def MtR(X:Cx)(id:String)(r:V->List V->Hp->VK->Prop):Prop:=
 ∀(pins:List (aed×Obj)) (s:aeg) (σ:St) (H:Hp) (x:V) (xs:List V) (v:aef) (us:List aef) (Q:VK),Inv X pins σ H s->RelV x v->Vals xs us->r x xs H Q->
  aen (model X.prog X.w) X.A (call (.builtin id) (v::us)) (EP X pins σ Q) X.xe s
section
variable{X:Cx}{a b:aer}{ta tb:TE}{pos:Pos}
theorem IxR.or{r r':R2}(h:IxR X r)(h':IxR X r'):IxR X (λx y H Q=>r x y H Q\/r' x y H Q):=by
 intro value slice pins s σ H x y v u Q I rx ry q hs;rcases q with q |q
 ·exact h value slice pins s σ H x y v u Q I rx ry q hs
 ·exact h' value slice pins s σ H x y v u Q I rx ry q hs
theorem pe_ix{r:R2}(hr:IxR X r)(ha:PE X a ta)(hb:PE X b tb)(hs:PlainIx b):PE X (.Subscript a b pos) (tOp r ta tb):=by
 intro pins s σ H Q I h;exact Subscript_ (binT ha hb I h λv u s2 x y H2 I2 rx ry q=>hr a b pins s2 σ H2 x y v u Q I2 rx ry q (hs _ _))
def rIxL(K:aeh):R2:=λx y H Q=>∃p xs i v,x= .ref p/\y= .int i/\SqL K H p xs/\atI xs i=some v/\Q v H
def rIxT(K:aeh):R2:=λx y H Q=>∃p xs i v,x= .ref p/\y= .int i/\SqT K H p xs/\atI xs i=some v/\Q v H
def rIxS:R2:=λx y H Q=>∃z i c,x= .str z/\y= .int i/\z.length<=sizeLine/\atI z.cps.toList i=some c/\Q (.str ⟨#[c]⟩) H
theorem ix_list:IxR X (rIxL X.K):=by
 intro value slice pins s σ H x y v u Q I rx ry h hs;obtain⟨p,xs,i,z,rfl,rfl,hq,he,q⟩:=h;cases rx;obtain⟨t,rfl⟩:=ry;obtain⟨its,r,pl,hz⟩:=I.list hq;obtain⟨j,h1,h2,h3,h4,h5⟩:=atI_get he;obtain⟨w,ew,rw'⟩:=r.get h2;have hl:=r.length;have hn:=line63;have fin:EP X pins σ Q w s:=⟨z,H,I,rw',q⟩;by_cases h0:0<=i
 ·have hj:i.toNat=j:=by
   rw[seqIndex_of h0 h5] at h1;exact aeG h1
  exact item_listR pl.isList h0 (by omega) (by rw[hj];simpa using ew) fin hs
 ·have hj:(i+(its.toArray.size:Int)).toNat=j:=by
   rw[seqIndex_neg (by omega) h4] at h1;rw[z1c,<-hl];exact aeG h1
  exact subscriptTail_builtinR (x:=w) pl.isList.typeIs slot_list_getitem.lookup
   (wpAny_getItem_list_neg (Q:=λr s'=>r=w/\EP X pins σ Q r s') pl.isList (by omega) (by rw[z1c] <;> omega) (by omega) (by rw[hj];simpa using ew) ⟨rfl,fin⟩) hs
theorem ix_tup:IxR X (rIxT X.K):=by
 intro value slice pins s σ H x y v u Q I rx ry h hs;obtain⟨p,xs,i,z,rfl,rfl,hq,he,q⟩:=h;cases rx;obtain⟨t,rfl⟩:=ry;obtain⟨its,r,pl,hz⟩:=I.tuple hq;obtain⟨j,h1,h2,h3,h4,h5⟩:=atI_get he;obtain⟨w,ew,rw'⟩:=r.get h2;have hl:=r.length;have hn:=line63;have fin:EP X pins σ Q w s:=⟨z,H,I,rw',q⟩;exact subscriptTail_builtinR (x:=w) pl.typeIs slot_tuple_getitem.lookup
  (getItem_tuple (j:=j) (Q:=λr s'=>r=w/\EP X pins σ Q r s') pl (by omega) (by omega) (by rw[z1c,<-hl];exact h1) (by simpa using ew) ⟨rfl,fin⟩) hs
theorem ix_str:IxR X rIxS:=by
 intro value slice pins s σ H x y v u Q I rx ry h hs;obtain⟨z,i,c,rfl,rfl,hz,he,q⟩:=h;obtain⟨t,rfl⟩:=rx;obtain⟨t',rfl⟩:=ry;obtain⟨j,h1,h2,h3,h4,h5⟩:=atI_get he;have hl:z.cps.toList.length=z.length:=by simp[Str.length]
 rw[hl] at h1 h4 h5;have hn:=line63;exact tail_any (typeIs_str s z t) slot_str_getitem.lookup (getItem_str (c:=c) (by
  have e1:decide (i < -(2^63:Int))=false:=decide_eq_false (by omega);have e2:decide (i>=2^63)=false:=decide_eq_false (by omega);rw[e1,e2,Bool.or_false]) (by rw[h1];simpa using h2) ⟨.str ⟨#[c]⟩,H,I.tok _,⟨_,rfl⟩,q⟩) hs
def rIx(K:aeh):R2:=λx y H Q=>rIxL K x y H Q\/rIxT K x y H Q\/rIxS x y H Q
theorem ix_seq:IxR X (rIx X.K):=ix_list.or (ix_tup.or ix_str)
theorem Inv.lst{pins:List (aed×Obj)}{σ:St}{H:Hp}{s:aeg}{p:aed}{xs:List V}(I:Inv X pins σ H s)(h:H p=some (.lst xs)):
  ∃(its:List aef) (n:Nat),Vals xs its/\s.heap.get? p=some {cls:= .type "list",data:= .seq its.toArray n}/\xs.length<=sizeLine:=by
 obtain⟨z,its,n,r,e⟩:=I.hok p _ h;exact⟨its,n,r,e,z⟩
theorem slice_bounds(lo hi:Option Int)(n:Nat):(ahj lo hi none n).1=((HT.sIx n 0 lo:Nat):Int)/\(ahj lo hi none n).2.1=((HT.sIx n n hi:Nat):Int)/\(ahj lo hi none n).2.2=1:=by
 refine⟨?_,?_,rfl⟩
 ·cases lo with
  |none=>simp[ahj,HT.sIx]
  | some i=>
   simp only[ahj,HT.sIx,Option.getD_none,show (1:Int) > 0 by decide,if_true];by_cases h:i<0
   ·simp only[h,if_true];exact HT.ab3 n h
   ·simp only[h,if_false];obtain⟨k,rfl⟩:=afM (Int.not_lt.mp h);exact HT.ab4 k n
 ·cases hi with
  |none=>simp[ahj,HT.sIx]
  | some i=>
   simp only[ahj,HT.sIx,Option.getD_none,show (1:Int) > 0 by decide,if_true];by_cases h:i<0
   ·simp only[h,if_true];exact HT.ab3 n h
   ·simp only[h,if_false];obtain⟨k,rfl⟩:=afM (Int.not_lt.mp h);exact HT.ab4 k n
theorem slicePick_cut(its:List aef)(lo hi:Option Int):slicePick its.toArray lo hi none=((its.drop (HT.sIx its.length 0 lo)).take (HT.sIx its.length its.length hi - HT.sIx its.length 0 lo)).toArray:=by
 obtain⟨h1,h2,h3⟩:=slice_bounds lo hi its.toArray.size;unfold slicePick;rw[h1,h2,h3];simp only[sliceRange_one,pick_run,z1c] <;> rfl
def rSlL(K:aeh):V->Option Int->Option Int->Hp->VK->Prop:=λx lo hi H Q=>∃a xs,x= .ref a/\SqL K H a xs/\∀p,H p=none->Q (.ref p) (upd H p (.lst (cutV xs lo hi)))
theorem sl_list:SlR X (rSlL X.K):=by
 intro pins s σ H x v vl vu lo hi sl Q I rx hs pl pu h;obtain⟨a,xs,rfl,hx,q⟩:=h;cases rx;obtain⟨its,r,ht,hz⟩:=I.list hx;have hlen:=r.length;refine⟨"list",_,slot_list_getitem.lookup,ht.isList.typeIs,?_⟩;refine wpAny_getItem_list_slice ht.isList hs pl pu .none (by simp) ?_ (by rw[z1c] <;> omega);rw[slicePick_cut,<-hlen];refine⟨.ref s.heap.objs.size,_,I.laid (t':=s.toks) (o:= .lst (cutV xs lo hi)) (λb ob q=>z1a _ q) (z0g _) ?_,rfl,q _ (I.hok.fresh (z0g _))⟩;exact⟨z0b (cutV_length xs lo hi) hz,_,0,(r.drop (HT.sIx xs.length 0 lo)).take (HT.sIx xs.length xs.length hi - HT.sIx xs.length 0 lo),z1f _ rfl⟩
theorem call_len_seq:CallR X (.builtin "len") (λxs H Q=>∃p ys,xs=[.ref p]/\(SqL X.K H p ys\/SqT X.K H p ys)/\Q (.int ys.length) H):=by
 intro pins s σ H xs us Q I r h;obtain⟨p,ys,rfl,hq,q⟩:=h;obtain⟨u,rfl,rx⟩:=vals1 r;cases rx;have hn:=line63;rcases hq with hq |hq
 ·obtain⟨its,r',pl,hz⟩:=I.list hq;have hlen:=r'.length;exact Calls.call_len_list pl.isList (by simp only[z1c] <;> omega) ⟨.int ys.length,H,I.tok _,⟨s.toks+1,by rw[z1c,hlen]⟩,q⟩
 ·obtain⟨its,r',pl,hz⟩:=I.tuple hq;have hlen:=r'.length;exact len_tuple pl (by simp only[z1c] <;> omega) ⟨.int ys.length,H,I.tok _,⟨s.toks+1,by rw[z1c,hlen]⟩,q⟩
theorem call_list_of:CallR X (.type "list") (λxs H Q=>∃p ys,xs=[.ref p]/\(SqL X.K H p ys\/SqT X.K H p ys)/\∀l,H l=none->Q (.ref l) (upd H l (.lst ys))):=by
 intro pins s σ H xs us Q I r h;obtain⟨p,ys,rfl,hq,q⟩:=h;obtain⟨u,rfl,rx⟩:=vals1 r;cases rx;have fin:∀(its:List aef),Vals ys its->ys.length<=sizeLine->∀(h':aes) (c':Nat),(∀b o',s.heap.get? b=some o'->h'.get? b=some o')->
   h'.get? s.heap.objs.size=some {cls:= .type "list",dict:=none,data:= .seq its.toArray c',slots:= #[]}->EP X pins σ Q (.ref s.heap.objs.size) {s with heap:=h'}:=λits r' hz h' c' kp e=>
  ⟨.ref s.heap.objs.size,_,I.laid (t':=s.toks) kp (z0g _) (show ObjOk X.prog X.w _ h' _ (.lst ys) from⟨hz,its,c',r',e⟩),rfl,q _ (I.hok.fresh (z0g _))⟩
 rcases hq with hq |hq
 ·obtain⟨its,r',pl,hz⟩:=I.list hq;have hlen:=r'.length;obtain⟨o,ho,hc,n,hd⟩:=pl.isList;exact call_list_seq p (.inl rfl) ho hc hd (λh' c' kp e=>fin its r' hz h' c' kp e) (by simp only[z1c] <;> omega)
 ·obtain⟨its,r',pl,hz⟩:=I.tuple hq;have hlen:=r'.length;obtain⟨o,ho,hc,n,hd⟩:=pl;exact call_list_seq p (.inr rfl) ho hc hd (λh' c' kp e=>fin its r' hz h' c' kp e) (by simp only[z1c] <;> omega)
theorem call_tuple_of:CallR X (.type "tuple") (λxs H Q=>∃p ys,xs=[.ref p]/\((SqL X.K H p ys/\∀l,H l=none->Q (.ref l) (upd H l (.tup ys)))\/(SqT X.K H p ys/\Q (.ref p) H))):=by
 intro pins s σ H xs us Q I r h;obtain⟨p,ys,rfl,h⟩:=h;obtain⟨u,rfl,rx⟩:=vals1 r;cases rx;rcases h with⟨hq,q⟩ |⟨hq,q⟩
 ·obtain⟨its,r',pl,hz⟩:=I.list hq;have hlen:=r'.length;refine call_tuple_list pl.isList (λh' kp=>?_) (by simp only[z1c] <;> omega);have I1:Inv X pins σ H {s with heap:=h'}:=I.kept (t':=s.toks) kp;have I2:Inv X pins σ (upd H h'.objs.size (.tup ys)) {s with heap:=h'.push {cls:= .type "tuple",data:= .seq its.toArray}}:=
   I1.laid (t':=s.toks) (λb o e=>z1a _ e) (z0g _) (show ObjOk X.prog X.w _ _ _ (.tup ys) from⟨hz,its,r',za.new _ _⟩)
  exact⟨.ref h'.objs.size,_,I2,rfl,q _ (I1.hok.fresh (z0g _))⟩
 ·obtain⟨its,r',pl,hz⟩:=I.tuple hq;exact call_tuple_same pl ⟨.ref p,H,I,rfl,q⟩
def tyV(K:aeh)(T:String)(x:V)(H:Hp):Prop:=match x with
 | .str _=>T= "str"
 | .int _=>T= "int"
 | .ref p=>(T= "list"/\∃xs,SqL K H p xs)\/(T= "tuple"/\∃xs,SqT K H p xs)\/
   (T= "dict"/\((∃kvs,H p=some (.dK kvs))\/∃kvs,H p=some (.dT kvs)))\/(T= "set"/\∃S n,H p=some (.set S n))
 |_=>False
theorem tyV_is{pins:List (aed×Obj)}{σ:St}{H:Hp}{s:aeg}{T:String}{x:V}{v:aef}(I:Inv X pins σ H s)(r:RelV x v)(ty:tyV X.K T x H):
  s.TypeIs v T/\∀a,v= .ref a->∃ob,s.heap.get? a=some ob/\ob.dict=none:=by
 cases x with
 | str z=>
  obtain⟨t,rfl⟩:=r;cases (show T= "str" from ty);exact⟨typeIs_str s z t,λ_ e=>nomatch e⟩
 | int i=>
  obtain⟨t,rfl⟩:=r;cases (show T= "int" from ty);exact⟨aiD s i t,λ_ e=>nomatch e⟩
 | ref p =>
  cases r;rcases ty with⟨rfl,xs,hq⟩ |⟨rfl,xs,h |⟨o,its,n,hk,hc,hd,_⟩⟩ |⟨rfl,hk⟩ |⟨rfl,S,n,hk⟩
  ·obtain⟨its,_,pl,_⟩:=I.list hq;refine⟨pl.isList.typeIs,λa e=>?_⟩;cases e;obtain⟨o,n,e,c,hd,_⟩:=pl;exact⟨o,e,hd⟩
  ·obtain⟨_,its,_,o,e1,c1,d1,_⟩:=h.ok I.hok;refine⟨⟨o,e1,c1⟩,λa e=>?_⟩;cases e;exact⟨o,e1,d1⟩
  ·refine⟨⟨o,I.kIn p o hk,hc⟩,λa e=>?_⟩;cases e;exact⟨o,I.kIn _ o hk,hd⟩
  ·have z:∃o,s.heap.get? p=some o/\o.ExactDict:=by
    rcases hk with⟨kvs,hk⟩ |⟨kvs,hk⟩
    ·obtain⟨_,_,_,_,o,_,_,e,ex,_⟩:=I.hok p _ hk;exact⟨o,e,ex⟩
    ·obtain⟨_,_,_,_,o,_,_,e,ex,_⟩:=I.hok p _ hk;exact⟨o,e,ex⟩
   obtain⟨o,e,ex⟩:=z;refine⟨⟨o,e,ex.1⟩,λa e2=>?_⟩;cases e2;exact⟨o,e,ex.2.1⟩
  ·obtain⟨o,_,_,_,e,ex,_⟩:=I.hok p _ hk;refine⟨⟨o,e,ex.1⟩,λa e2=>?_⟩;cases e2;exact⟨o,e,ex.2.1⟩
 |_=>exact ae4 ty
def tBM(K:aeh)(T:String)(r:V->List V->Hp->VK->Prop)(to:TE)(t:TA):TE:=λσ H Q=>to σ H λx H1=>tyV K T x H1/\t σ H1 λxs H2=>r x xs H2 Q
variable{o e:aer}{es:List aer}{to:TE}{t:TA}{name:Str}{apos cpos:Pos}{T id:String}{r:V->List V->Hp->VK->Prop}
theorem pe_bm(pa:PlainAttrs T)(slot:Slot T name id)(hty:typeOf (.builtin id)=pure (.type "method_descriptor"))(hm:MtR X id r)(ho:PE X o to)(ha:PA X (e::es) t)
  (hbase:ahM o name X.env (eval o X.env)=eval o X.env:=by rfl)
  (hfew:((ae7 cpos (aei (e::es) X.env)).all (λx=> !x.1) && (ag6 cpos (agk [] X.env)).all (λx=>x.1.isSome)
   && decide ((e::es).length+([]:List af7).length+(if ([]:List af7).isEmpty then 0 else 1)<30))=true:=by rfl)
  (hline:(apos.endLine ==cpos.line)=true:=by rfl) (hs:aei (e::es) X.env=(false,eval e X.env)::aei es X.env:=by rfl) (hplain:(ae7 cpos (aei es X.env)).any (·.1)=false:=by rfl):
  PE X (.Call (.Attribute o name apos) (e::es) [] cpos) (tBM X.K T r to t):=by
 intro pins s σ H Q I h;refine wpAny_Call_method_late hbase hfew hline rfl (thn (ho pins s σ H _ I h) λv s1 bQ=>?_);obtain⟨x,H1,I1,r1,ty,q1⟩:=bQ;obtain⟨h1,h2⟩:=tyV_is I1 r1 ty;refine⟨T,id,pa,slot,hty,h1,h2,?_⟩;have hA:=ha cpos pins s1 σ H1 _ I1 q1;rw[hs] at hA |-;refine Calls.callWith_builtin (by show (false || (ae7 cpos (aei es X.env)).any (·.1))=false;rw[hplain] <;> rfl) (Calls.evalArgs_plain ?_);refine thn hA λus s2 bQ=>?_;obtain⟨vs,H2,I2,r2,q2⟩:=bQ;exact hm pins s2 σ H2 x vs v us Q I2 r1 r2 q2
end
def MtM(X:Cx)(id:String)(r:V->List V->Hp->VK->Prop):Prop:=
 ∀(pins:List (aed×Obj)) (s:aeg) (σ:St) (H:Hp) (x:V) (xs:List V) (v:aef) (us:List aef) (Q:VK),Inv X pins σ H s->RelV x v->Vals xs us->r x xs H Q->
  aen (model X.prog X.w) X.A (call (.builtin id) (v::us)) (EP X pins σ Q) X.xe s
theorem Vals.one:∀{x:V} {us:List aef},Vals [x] us->∃u,us=[u]/\RelV x u
 | _,_,h=>by
  cases h with
  |cons r t=>cases t;exact⟨_,rfl,r⟩
theorem Vals.rep{xs:List V}{us:List aef}(h:Vals xs us):∀k:Nat,Vals (aem k xs).flatten (aem k us).flatten
 |0=> .nil
 | k+1=>by
  rw[afF,afF,af9,af9];exact Vals.append h (Vals.rep h k)
theorem foldl_rep(its:List aef):∀(k:Nat) (acc:List aef),
  aiE (λx1 x2=>x1++x2) acc.toArray (aem k its.toArray)=(acc++(aem k its).flatten).toArray
 |0,acc=>by simp
 | k +1,acc=>by
  have e:acc.toArray++its.toArray=(acc++its).toArray:=by simp
  have e2:(acc++its)++(aem k its).flatten=acc++(aem (k+1) its).flatten:=by
   rw[afF,af9,afx]
  rw[<-e2,<-foldl_rep its k (acc++its),<-e,afF,List.foldl_cons]
section
variable{X:Cx}{pins:List (aed×Obj)}{σ:St}{H:Hp}{s:aeg}{l b:aed}{xs ys zs:List V}
theorem Inv.lset{its its':List aef}{n:Nat}{f:Array aef->Array aef}{t':Nat}(I:Inv X pins σ H s)(hH:H l=some (.lst xs))
  (e:s.heap.get? l=some {cls:= .type "list",data:= .seq its.toArray n})(hf:f its.toArray=its'.toArray)(hv:Vals ys its')(hz:ys.length<=sizeLine):
  Inv X pins σ (upd H l (.lst ys)) {s with heap:=s.heap.update l (afL f),toks:=t'}:=by
 have q:=PySem.IsL.update e f;rw[hf] at q;refine I.write (x:=l) (e:=l) (by rw[hH];exact trivial) (.inl rfl) (λb' u hb hu=>(afv s.heap (afL f) (aeo hb)).trans hu) ⟨_,q⟩ ?_;exact⟨hz,its',_,hv,q⟩
theorem Inv.lnew{its:List aef}{t':Nat}(I:Inv X pins σ H s)(hv:Vals ys its)(hz:ys.length<=sizeLine):
  Inv X pins σ (upd H s.heap.objs.size (.lst ys)) {s with heap:=s.heap.push {cls:= .type "list",data:= .seq its.toArray},toks:=t'}:=
 I.laid (λ_ _ q=>z1a _ q) (z0g _) ⟨hz,its,0,hv,z1f _ rfl⟩
theorem Inv.fresh(I:Inv X pins σ H s):H s.heap.objs.size=none:=I.hok.fresh (z0g _)
theorem Inv.lstM(I:Inv X pins σ H s)(hH:H l=some (.lst xs)):xs.length<=sizeLine/\∃(its:List aef) (n:Nat),Vals xs its/\xs.length=its.length/\s.heap.get? l=some {cls:= .type "list",data:= .seq its.toArray n}:=by
 obtain⟨z,its,n,r,e⟩:=I.hok l _ hH;exact⟨z,its,n,r,r.length,e⟩
end
section
variable{X:Cx}
def rAppend:V->List V->Hp->VK->Prop:=λx vs H Q=>∃l xs y,x= .ref l/\vs=[y]/\H l=some (.lst xs)/\xs.length<sizeLine/\Q .non (upd H l (.lst (xs++[y])))
theorem mt_append:MtM X "list.append" rAppend:=by
 intro pins s σ H x vs v us Q I rx rv h;obtain⟨l,xs,y,rfl,rfl,hH,hz,q⟩:=h;cases rx;obtain⟨u,rfl,ru⟩:=rv.one;obtain⟨z,its,n,r,hl,e⟩:=I.lstM hH;refine agA F.slot_list_append ⟨_,e,rfl⟩ F.entry_list_append (F.args_list_append_2 _ _) (PySem.list_append l its.toArray n u (by rw[z1c];omega)) ⟨e,?_⟩;refine⟨.non,_,I.lset (its':=its++[u]) hH e (by simp) (r.append (.cons ru .nil)) ?_,rfl,q⟩;rw[z1d,agr];omega
theorem len_rep{α:Type}(xs:List α)(k:Nat):(aem k xs).flatten.length=k*xs.length:=by
 induction k with
 |zero=>simp
 |succ k ih=>rw[afF,af9,z1d,ih,Nat.succ_mul,Nat.add_comm]
end
section
variable{prog:aew}{w:aey}{A:aeF}{E:aef->aeg->Prop}{s:aeg}
end
section
variable{X:Cx}
end
section
variable{κ:Type}[DecidableEq κ]
end
section
variable{P:aew}{w:aey}{H:Hp}{h:aes}{a:aed}
end
section
variable{X:Cx}{pins:List (aed×Obj)}{σ:St}{H:Hp}{s:aeg}{a:aed}{y v:V}{u r:aef}{o:Option V}{A:aeF}{E:aef->aeg->Prop}
end
section
variable{X:Cx}{pins:List (aed×Obj)}{σ:St}{H:Hp}{s:aeg}{a:aed}{kvs:List (Key×V)}{k:Key}{u:aef}{A:aeF}{E:aef->aeg->Prop}
end
section
variable{X:Cx}{o i e value:aer}{pos pos' tpos:Pos}{td ty tv:TE}
end
section
variable{X:Cx}{pos:Pos}
end
section
variable{X:Cx}{pins:List (aed×Obj)}{σ:St}{H:Hp}{s:aeg}{a:aed}{y d:V}{u r:aef}{o:Option V}{A:aeF}{E:aef->aeg->Prop}
end
section
variable{X:Cx}{o e f:aer}{apos cpos:Pos}{td ty tx:TE}
end
section
variable{X:Cx}{pins:List (aed×Obj)}{σ:St}{H:Hp}{s:aeg}{a:aed}{kvs:List (Key×V)}{A:aeF}{E:aef->aeg->Prop}
end
section
variable{X:Cx}{pins:List (aed×Obj)}{σ:St}{H:Hp}{s:aeg}{a:aed}{y:V}{u:aef}{A:aeF}{E:aef->aeg->Prop}
end
end L2
namespace Att
open PySem PySem.W PySem.Calls PyProof.Rows
theorem ints_of_wellAll{P:Params}{h:aes}:∀(ns:List Int) (vs:List aef),WellAll P h vs (ns.map WData.int)->af8 vs ns:=by
 intro ns
 induction ns with
 | nil=>
  intro vs w;rw[agY] at w;cases w;exact .nil
 | cons n ns ih=>
  intro vs w;rw[z1h] at w;cases w with
  | cons a b=>
   cases a;exact .cons _ _ (ih _ b)
theorem script_of{l:OpenLaw}{n:Nat}(hn:l.most=some n){P:Params}{h:aes}{args:List WData}{vals:List aef}
  (hpre:l.row.toRowW.claim.pre args=true)(hwl:WellAll P h vals args):
  ∃a vs ns,vals=[aez a]/\args=[WData.list (ns.map WData.int)]/\h.get? a=some {cls:= .type "list",data:= .seq vs.toArray}/\af8 vs ns/\ns.length<=n:=by
 have hsh:WShape.hasAll [] args [.list .int]=true:=(pre_splitW hpre).1;have hc:l.pre.holds [] {args:=args}=true:=(pre_splitW hpre).2;obtain⟨d,r,rfl,h1,h2⟩:=hasAllW_cons hsh;obtain rfl:=hasAllW_nil h2;obtain⟨xs,rfl,h3⟩:=hasW_list h1;obtain⟨ns,rfl⟩:=items_int h3;have hlen:ns.length<=n:=by
  unfold OpenLaw.pre at hc;have h4:(WTm.not (.lt (.lit (.int (n:Int))) (.len (.arg 0)))).holds [] {args:=[.list (ns.map .int)]}=true:=by
   have h4:=(holds_andW hc).1;rw[hn] at h4;exact h4
  have h5:=condW_of h4 (w_not (w_lt w_lit (w_len_list (w_arg rfl))));rw[z1g] at h5;refine Nat.le_of_not_lt λq=>?_;have q':(n:Int)<((ns.length:Nat):Int):=by omega
  first
   |(rw[decide_eq_true q'] at h5;exact absurd h5 (by decide))
   |(simp at h5;omega)
 cases hwl with
 | cons w1 w2=>
  cases w2;cases w1 with
  |list ho hall=>exact⟨_,_,ns,rfl,rfl,ho,ints_of_wellAll ns _ hall,hlen⟩
theorem post_true(l:OpenLaw)(args:List WData):l.row.toRowW.claim.post args (.bool true) args=true:=
 postW_of (r:=l.row.toRowW) (X:=(true ==true))
  (show WShape.has [] (.bool true) .bool=true by first |rfl |decide |simp[WShape.has,WShape.arms,WShape.armsAll])
  (show (WTm.eq .res (.lit (.bool true))).value [] {args:=args,res:=some (.bool true),after:=args}=some (.bool (true ==true)) from w_eq_bool (w_res rfl) w_lit) rfl
theorem attach_call{l:OpenLaw}{n:Nat}{q:aew}{loose:List Str}{XP:(Str->Option aef)->aes->Prop}{YP:aey->aes->Prop}{d:DefRec}
  (hn:l.most=some n)(hdf:d.params.defaults=[])
  (call:∀(w:aey) (s₀ s₁:aeg) (mg mb:Str->Option aef) (fa:aed) (o:Obj) (pm cd doc:aef) (a:aed) (vs:List aef) (ns:List Int),
   Ground q loose [] XP w s₀ mg mb s₁.heap->YP w s₁.heap->
   s₁.heap.get? fa=some o->o.data= .func (docDef d.name d.params d.body d.scope pm cd doc)->s₁.heap.CodeRec cd d.name->mg d.name=some (.ref fa)->
   s₁.heap.get? a=some {cls:= .type "list",data:= .seq vs.toArray}->af8 vs ns->ns.length<=n->s₁.gens= #[]->
   ahi (model l.prog w) agM (.call (.ref fa) ⟨[.ref a],[]⟩) (λr s'=>r= .ok (.ret (.bool true))/\OldK s₁.heap s'.heap/\s'.os=s₁.os/\agW s'.gens) s₁):
  WalkO q loose XP YP l.row.toRowW d [] (λf vs=>aiF f vs):=by
 intro w s₀ s₁ mg mb G Y fa o pm cd doc dV kV ho hd hcd hD hmg hg args vals as hpre hlay hrd hwl hlo;obtain rfl:dV= .none:=Dflts.none hD hdf;obtain rfl:kV= .none:=Dflts.noKw hD;obtain⟨a,vs,ns,rfl,rfl,hobj,hints,hlen⟩:=script_of hn hpre hwl;refine enter_call (agX (call w s₀ s₁ mg mb fa o pm cd doc a vs ns G Y ho (fd_plain hd) hcd hmg hobj hints hlen hg) λr s' hq=>?_);obtain⟨rfl,h2,h3,h4⟩:=hq;exact⟨.inl ⟨.bool true,.bool true,[],rfl,λ_=>rfl,.bool true,post_true l _,λ_=>⟨aiz,λ_ hm=>(nomatch hm)⟩⟩,h2,h3,h4⟩
section
variable{prog:aew}{w:aey}{A:aeF}{E:aef->aeg->Prop}{s:aeg}{K:Frag}
end
end Att
namespace L2
open PySem PySem.Spec PyProof.Rows
variable{fd:aeZ}{st:aeA}{x qual:Str}
theorem vals_ints:∀{vs:List aef} {ns:List Int},af8 vs ns->Vals (ns.map V.int) vs
 :=by
 intro vs ns h
 induction h with
 |nil=>exact .nil
 |cons n t h ih=>exact .cons ⟨t,rfl⟩ ih
def Only(H:Hp):Prop:=∀b,H b=none\/∃o xs,H b=some (.frz o (.lst xs))
theorem law_call {P:Program} {w:World} {K:PySem.W.Frag} {mg mb:Str→Option Value} {CX:CXT} {k:Nat} {fa a:Addr} {sp:Sp} {s₁:Shared} {vs:List Value} {ns:List Int}
    (KX:K.In s₁.heap)(hns:s₁.heap.Ns ael mg)(hb:s₁.heap.Ns agP mb)(hbb:∀x:Str,x≠"__name__"→mb x=afI x)(hlim:s₁.heap.NoLimit)(hg:s₁.gens= #[])
    (ha:s₁.heap.get? a=some {cls:= .type "list",data:= .seq vs.toArray})(hi:af8 vs ns)(hl:ns.length≤sizeLine)(hr:Room k agM)
    (F:∀base:aes,K.In base→base.Ns ael mg→FnOk P w K mg base CX k fa fd [x] sp)(hbind:∀(s:aeg) (u:aef),ahC s fd ⟨[u],[]⟩ [(x,u)])
    (hsp:∀H:Hp,Only H→SqL K H a (ns.map V.int)→sp [.ref a] H (fun v _=>v= .bl true) fun _ _ _=>False)
    (hCX:∀H e s',CX [] H s₁ (fun _ _ _=>False) e s'→False):
    ahi (model P w) agM (.call (.ref fa) ⟨[.ref a],[]⟩) (fun r s'=>r= .ok (.ret (.bool true))∧OldK s₁.heap s'.heap∧s'.os=s₁.os∧agW s'.gens) s₁:=by
  have rv:=vals_ints hi
  have lenV:=hi.length
  have core :∀H:Hp,Only H→SqL K H a (ns.map V.int)→HOk P w H s₁.heap→(∀b,H b≠none→b=a)→(H a≠none→K.lookup a=none)→
      ahi (model P w) agM (.call (.ref fa) ⟨[.ref a],[]⟩) (fun r s'=>r= .ok (.ret (.bool true))∧OldK s₁.heap s'.heap∧s'.os=s₁.os∧agW s'.gens) s₁:=by
    intro H hO hS hok hA hK
    have base_of:∀{b:aed} {o:Obj},s₁.heap.get? b=some o→H b=none→(hidT s₁.heap H).get? b=some o:=fun e n=>hidT_get e n
    have noA:∀{b:aed} {o:Obj} {es:Array DictEntry} {ep:Nat},s₁.heap.get? b=some o→o.data= .dict es ep→H b=none:=fun {b o es ep} e d=>by
      cases q:H b with
      |none=>rfl
      | some u=>
        have e':b=a:=hA b (by rw[q];simp)
        subst e'
        rw[ha] at e;cases e
        have d':aiQ vs.toArray _=Data.dict es ep:=d
        cases d'
    have nsK:∀{b:aed} {m:Str→Option aef},s₁.heap.Ns b m→(hidT s₁.heap H).Ns b m:=fun {b m} ⟨o,es,ep,e,d,r⟩=>⟨o,es,ep,base_of e (noA e d),d,r⟩
    have hKb:K.In (hidT s₁.heap H):=fun b o e=>base_of (KX b o e) (by
      cases q:H b with
      |none=>rfl
      | some u=>
        have e':b=a:=hA b (by rw[q];simp)
        subst e'
        rw[hK (by rw[q];simp)] at e;cases e)
    have hM:Mod K mg (hidT s₁.heap H):=⟨hKb,nsK hns,⟨mb,nsK hb,hbb⟩,let⟨mc,h1,h2⟩:=hlim;⟨mc,nsK h1,h2⟩⟩
    have e0:Env0 P w K mg (hidT s₁.heap H) agM [] s₁ H:=⟨rfl,hM,fun b o e=>of_hidT e,Nat.le_of_eq (hidT_size _ _),trivial,fun b hb=>absurd (show b∈([]:List aed) from hb) (by simp),hok,.of_eq hg⟩
    refine agX ((F _ hKb (nsK hns)).run agM [] s₁ H ⟨[.ref a],[]⟩ [.ref a] [.ref a] _ _ hr e0 (hbind s₁ (.ref a)) (.cons rfl .nil) (hsp H hO hS)) fun r s' h=>?_
    cases r with
    |error e=>exact (hCX H e s' h).elim
    | ok fl =>
      cases fl with
      |next=>exact ae4 h
      |brk=>exact ae4 h
      |cont=>exact ae4 h
      | ret u=>
        obtain⟨v,H',os,bare,un,hok',r',q⟩:=h
        have q':v= .bl true:=q
        subst q'
        obtain rfl:u=aiC true:=r'
        refine⟨rfl,OldK.of_keep fun b o e=>?_,os,bare⟩
        cases q:H b with
        |none=>exact un.keep b o e q (by intro z;exact absurd (show b∈([]:List aed) from z) (by simp)) (by simp)
        | some u=>
          rcases hO b with z |⟨ob,xs,z⟩
          · rw[q] at z;cases z
          · have z2:=un.frzs b ob _ z
            obtain⟨e1,_⟩:=hok b _ z
            obtain⟨e2,_⟩:=hok' b _ z2
            rw[e] at e1;cases e1
            exact e2
  cases hk:K.lookup a with
  | some o=>
    have e:=KX a o hk
    rw[ha] at e
    cases e
    refine core (fun _=>none) (fun _=> .inl rfl) (.inr ⟨_,vs.toArray,_,hk,rfl,rfl,rfl,by rw[aix,lenV];exact hl,by simpa using rv⟩) (fun b u z=>by have z':(none:Option HO)=some u:=z;cases z') (fun b z=>absurd rfl z) fun z=>absurd rfl z
  | none=>
    refine core (fun b=>if b=a then some (.frz {cls:= .type "list",data:= .seq vs.toArray} (.lst (ns.map V.int))) else none) (fun b=>?_) (.inl (.inr ⟨{cls:= .type "list",data:= .seq vs.toArray},if_pos rfl⟩)) (fun b u z=>?_) (fun b z=>?_) fun _=>hk
    · by_cases hb:b=a
      · exact .inr ⟨_,_,if_pos hb⟩
      · exact .inl (if_neg hb)
    · by_cases hb:b=a
      · have z':=(if_pos hb).symm.trans z
        cases z'
        subst hb
        exact⟨ha,by rw[ai6];exact hl,vs,_,rv,ha⟩
      · have z':=(if_neg hb).symm.trans z
        cases z'
    · by_cases hb:b=a
      · exact hb
      · exact absurd (if_neg hb) z
theorem walk_of{l:ahZ}{n k:Nat}{q:aew}{loose:List Str}{XP:(Str->Option aef)->aes->Prop}{YP:aey->aes->Prop}{d:DefRec}{K:Params->aeh}{CX:aey->CXT}{sp:aey->Sp}
  (hn:l.most=some n)(hn2:n<=sizeLine)(hdf:d.params.defaults=[])(hr:Room k agM)
  (hY:∀(w:aey) (h:aes),YP w h->(K w.params).In h)
  (F:∀(w:aey) (mg:Str->Option aef) (fa:aed) (h:aes),(K w.params).In h->h.Ns ael mg->mg d.name=some (.ref fa)->
   ∃fd:aeZ,(∀(s:aeg) (u:aef),ahC s fd ⟨[u],[]⟩ [(x,u)])/\
    ∀base:aes,(K w.params).In base->base.Ns ael mg->FnOk l.prog w (K w.params) mg base (CX w) k fa fd [x] (sp w))
  (hsp:∀(w:aey) (H:Hp) (a:aed) (ns:List Int),ns.length<=n->Only H->SqL (K w.params) H a (ns.map V.int)->sp w [.ref a] H (λv _=>v= .bl true) λ_ _ _=>False)
  (hCX:∀(w:aey) (H:Hp) (s:aeg) (e:aef) (s':aeg),CX w [] H s (λ_ _ _=>False) e s'->False):
  ajj q loose XP YP l.row.toRowW d [] (λf vs=>aiF f vs):=by
 refine Att.attach_call hn hdf λw s₀ s₁ mg mb fa o pm cd doc a vs ns G Y ho hd hcd hmg hobj hints hlen hg=>?_;have KX:=hY w _ Y;obtain⟨fd,hb,hF⟩:=F w mg fa _ KX G.T.g hmg;exact law_call KX G.T.g G.T.b G.T.builtins G.T.nolimit hg hobj hints (z0b hlen hn2) hr hF hb (λH hO hS=>hsp w H a ns hlen hO hS) λH e s'=>hCX w H s₁ e s'
def defArgs(s:aeA):afN:=match s with
 | .FunctionDef _ a _ _ _ _ _ _ _ _=>a
 |_=>{posonlyargs:=[],args:=[],vararg:=none,kwonlyargs:=[],kw_defaults:=[],kwarg:=none,defaults:=[]}
def defBody(s:aeA):List aeA:=match s with
 | .FunctionDef _ _ b _ _ _ _ _ _ _=>b
 |_=>[]
def defScope(s:aeA):afz:=match s with
 | .FunctionDef _ _ _ _ _ _ sc _ _ _=>sc
 |_=>{kind:= .function,names:=[],isGenerator:=false,isCoroutine:=false}
abbrev CX0:CXT:=λ_ _ _ _ _ _=>False
abbrev E0:XK:=λ_ _ _=>False
theorem pass0{X:Cx}:Passes CX0 X E0:=λ_ _ _ _ _ _ _ h=>h.elim
inductive aaJ (K:aeh) (x qual:Str) (st:aeA) (f:aed) (fd:aeZ):Prop
 |mk (oc:aef) (od:Option aed) (kV doc pm:aef) (an:Option aed) (cdv ct:aef) (osl:Array (Option aef)) (e:fd=ae3 x qual (defArgs st) (defBody st) (defScope st) .none kV doc pm an cdv ct) (lk:K.lookup f=some ⟨oc,od,.func fd,osl⟩) (hcd:afK K cdv qual=true):aaJ K x qual st f fd
structure Fun(K:aeh)(x qual:Str)(st:aeA)(f:aed)(fd:aeZ):Prop where
 ex:aaJ K x qual st f fd
 kp:ae2 K (.ref f)=true
section
variable{P:aew}{w:aey}{K:aeh}{mg:Str->Option aef}{base:aes}
theorem Fun.ok{f:aed}{N ps:List Str}{k:Nat}{sp:Sp}(F:Fun K x qual st f fd)(S:FnScope N ps (defScope st))(len:∀vs H Q E,sp vs H Q E->vs.length=ps.length)
  (hbody:∀(cdv:aef) (A:aeF) (outer:List Env) (s:aeg) (H:Hp) (vs:List V) (Q:VK) (E:XK),Room k (A.deeper (afC qual (defScope st) s.heap.objs.size f cdv))->sp vs H Q E->
   ∃t,PSs (cxOf CX0 P w K mg base N qual (defScope st) f cdv A outer s H E).nox (defBody st) t/\t {nx:=λ_ H'=>Q .non H',rt:=Q} (start N vs) H):FnOk P w K mg base CX0 (k+1) f fd ps sp:=by
 obtain⟨oc,od,kV,doc,pm,an,cdv,ct,osl,rfl,lk,hcd⟩:=F.ex;refine fn_of lk hcd S len λA outer s H vs Q E hr hsp=>?_;obtain⟨t,h,q⟩:=hbody cdv A outer s H vs Q E hr hsp;exact⟨t,h.nox,q⟩
theorem Fun.binds{f:aed}{ps:List Str}(F:Fun K x qual st f fd)
  (h:∀(kV doc pm:aef) (an:Option aed) (cdv ct:aef) (us:List aef),us.length=ps.length->af2 (ae3 x qual (defArgs st) (defBody st) (defScope st) .none kV doc pm an cdv ct) ⟨us,[]⟩=pure (ps.zip us)):Binds K fd ps []:=by
 obtain⟨oc,od,kV,doc,pm,an,cdv,ct,osl,rfl,lk,hcd⟩:=F.ex;exact .all (h kV doc pm an cdv ct)
theorem fun_mk{f:aed}{oc:aef}{od an:Option aed}{osl:Array (Option aef)}{kV doc pm cdv ct:aef}(l:K.lookup f=some ⟨oc,od,.func (ae3 x qual (defArgs st) (defBody st) (defScope st) .none kV doc pm an cdv ct),osl⟩)
  (c:afK K cdv qual=true)(k:ae2 K (.ref f)=true):Fun K x qual st f (ae3 x qual (defArgs st) (defBody st) (defScope st) .none kV doc pm an cdv ct):=⟨⟨oc,od,kV,doc,pm,an,cdv,ct,osl,rfl,l,c⟩,k⟩
end
section
variable{X:Cx}
end
def Same(H H':Hp):Prop:=∀b o,H b=some o->H' b=some o
theorem Same.refl(H:Hp):Same H H:=λ_ _ h=>h
theorem Same.trans{H H1 H2:Hp}(a:Same H H1)(b:Same H1 H2):Same H H2:=λc o h=>b c o (a c o h)
theorem Same.free{H H':Hp}(e:Same H H'){l:aed}(h:H' l=Option.none):H l=Option.none:=by
 cases q:H l with
 |none=>rfl
 | some o=>
  rw[e l o q] at h;cases h
section
variable{κ:Type}[DecidableEq κ]
end
end L2
namespace Pu
open PySem PySem.Spec L2
open PyProof.Rows hiding St
inductive D where
 |non |bl (b:Bool) |int (i:Int) |str (x:Str) |tup (xs:List D) |lst (xs:List D)
inductive R (α:Type) where
 |bad |ok (a:α) |err (c:Str)
namespace R
def bind{α β:Type}(r:R α)(k:α->R β):R β:=match r with
 | .ok a=>k a
 | .err c=> .err c
 | .bad=> .bad
@[simp] theorem bB {α β:Type} (a:α) (k:α->R β):(R.ok a).bind k=k a:=rfl
end R
mutual
def Rep(K:aeh)(O:aed->Prop)(H:Hp):D->V->Prop
 | .non,v=>v= .non
 | .bl b,v=>v= .bl b
 | .int i,v=>v= .int i
 | .str x,v=>v= .str x
 | .tup ds,v=>∃a xs,v= .ref a/\SqT K H a xs/\aU K O H ds xs
 | .lst ds,v=>∃a xs,v= .ref a/\SqL K H a xs/\¬O a/\aU K O H ds xs
def aU(K:aeh)(O:aed->Prop)(H:Hp):List D->List V->Prop
 |[],xs=>xs=[]
 |d::ds,xs=>∃x r,xs=x::r/\Rep K O H d x/\aU K O H ds r
end
structure Ext(O:aed->Prop)(H H':Hp):Prop where
 tup:∀b xs,Rd H b (.tup xs)->Rd H' b (.tup xs)
 lst:∀b xs,¬O b->Rd H b (.lst xs)->Rd H' b (.lst xs)
section
variable{K:aeh}{O O':aed->Prop}{H H':Hp}
theorem SqL.ext(e:Ext O H H'){a:aed}{xs:List V}(n:¬O a)(h:SqL K H a xs):SqL K H' a xs:=by
 rcases h with h |h
 ·exact .inl (e.lst _ _ n h)
 ·exact .inr h
theorem SqT.ext(e:Ext O H H'){a:aed}{xs:List V}(h:SqT K H a xs):SqT K H' a xs:=by
 rcases h with h |h
 ·exact .inl (e.tup _ _ h)
 ·exact .inr h
mutual
theorem Rep.ext(e:Ext O H H')(o:∀b xs,¬O b->SqL K H b xs->¬O' b):∀(d:D) (v:V),Rep K O H d v->Rep K O' H' d v
 | .non,_,h=>by simpa only[Rep] using h
 | .bl _,_,h=>by simpa only[Rep] using h
 | .int _,_,h=>by simpa only[Rep] using h
 | .str _,_,h=>by simpa only[Rep] using h
 | .tup ds,v,h=>by
  simp only[Rep] at h |-;obtain⟨a,xs,e1,h1,h2⟩:=h;exact⟨a,xs,e1,SqT.ext e h1,aU.ext e o ds xs h2⟩
 | .lst ds,v,h=>by
  simp only[Rep] at h |-;obtain⟨a,xs,e1,h1,h2,h3⟩:=h;exact⟨a,xs,e1,SqL.ext e h2 h1,o _ _ h2 h1,aU.ext e o ds xs h3⟩
theorem aU.ext(e:Ext O H H')(o:∀b xs,¬O b->SqL K H b xs->¬O' b):∀(ds:List D) (xs:List V),aU K O H ds xs->aU K O' H' ds xs
 |[],xs,h=>by simpa only[aU] using h
 | d::ds,xs,h=>by
  simp only[aU] at h |-;obtain⟨x,r,e1,h1,h2⟩:=h;exact⟨x,r,e1,Rep.ext e o d x h1,aU.ext e o ds r h2⟩
end
end
structure gD(K:aeh)(O:aed->Prop)(H:Hp)(O':aed->Prop)(H':Hp):Prop where
 ext:Ext O H H'
 new:∀a,O' a->O a\/(H a=none/\K.lookup a=none)
 dom:∀a,H' a=none->H a=none
section
variable{K:aeh}{O O1 O2:aed->Prop}{H H1 H2:Hp}
theorem Rd.some{a:aed}{u:HO}(h:Rd H a u):H a≠none:=by
 rcases h with h |⟨o,h⟩ <;> rw[h] <;> simp
theorem gD.out(r:gD K O H O1 H1)(b:aed)(xs:List V)(n:¬O b)(h:SqL K H b xs):¬O1 b:=λz=>by
 rcases r.new b z with z |⟨z1,z2⟩
 ·exact n z
 ·rcases h with h |⟨o,_,_,h,_⟩
  ·exact Rd.some h z1
  ·rw[z2] at h;cases h
theorem gD.refl:gD K O H O H:=⟨⟨λ_ _ h=>h,λ_ _ _ h=>h⟩,λ_ h=> .inl h,λ_ h=>h⟩
theorem gD.trans(r:gD K O H O1 H1)(q:gD K O1 H1 O2 H2):gD K O H O2 H2 where
 ext:=⟨λb xs h=>q.ext.tup b xs (r.ext.tup b xs h),λb xs n h=>q.ext.lst b xs (r.out b xs n (.inl h)) (r.ext.lst b xs n h)⟩
 new:=λa z=>(q.new a z).elim (r.new a) λw=> .inr ⟨r.dom a w.1,w.2⟩
 dom:=λa z=>r.dom a (q.dom a z)
theorem Same.rd(s:Same H H1){a:aed}{u:HO}(h:Rd H a u):Rd H1 a u:=by
 rcases h with h |⟨o,h⟩
 ·exact .inl (s _ _ h)
 ·exact .inr ⟨o,s _ _ h⟩
theorem Same.gq(s:Same H H1):gD K O H O H1:=⟨⟨λ_ _ h=>Same.rd s h,λ_ _ _ h=>Same.rd s h⟩,λ_ h=> .inl h,λ_ h=>s.free h⟩
theorem Rep.go(r:gD K O H O1 H1){d:D}{v:V}(h:Rep K O H d v):Rep K O1 H1 d v:=Rep.ext r.ext r.out d v h
theorem aU.go(r:gD K O H O1 H1){d:List D}{v:List V}(h:aU K O H d v):aU K O1 H1 d v:=aU.ext r.ext r.out d v h
theorem Rep.same(s:Same H H1){d:D}{v:V}(h:Rep K O H d v):Rep K O H1 d v:=h.go (Same.gq s)
theorem aU.same(s:Same H H1){d:List D}{v:List V}(h:aU K O H d v):aU K O H1 d v:=h.go (Same.gq s)
theorem Rep.fewer(w:∀a,O1 a->O a){d:D}{v:V}(h:Rep K O H d v):Rep K O1 H d v:=Rep.ext ⟨λ_ _ h=>h,λ_ _ _ h=>h⟩ (λb _ n _ z=>n (w b z)) d v h
theorem aU.fewer(w:∀a,O1 a->O a){d:List D}{v:List V}(h:aU K O H d v):aU K O1 H d v:=aU.ext ⟨λ_ _ h=>h,λ_ _ _ h=>h⟩ (λb _ n _ z=>n (w b z)) d v h
theorem aU.nil:aU K O H [] []:=by simp only[aU]
theorem aU.cons{d:D}{v:V}{ds:List D}{vs:List V}(h:Rep K O H d v)(t:aU K O H ds vs):aU K O H (d::ds) (v::vs):=by simp only[aU];exact⟨v,vs,rfl,h,t⟩
theorem aU.cons_inv{d:D}{ds:List D}{vs:List V}(h:aU K O H (d::ds) vs):∃x r,vs=x::r/\Rep K O H d x/\aU K O H ds r:=by simpa only[aU] using h
theorem aU.nil_inv{vs:List V}(h:aU K O H [] vs):vs=[]:=by simpa only[aU] using h
theorem aU.length:∀{ds:List D} {vs:List V},aU K O H ds vs->ds.length=vs.length
 |[],vs,h=>by rw[h.nil_inv];rfl
 | d::ds,vs,h=>by
  obtain⟨x,r,rfl,_,t⟩:=h.cons_inv;simp[aU.length t]
theorem aU.get:∀{ds:List D} {vs:List V} {i:Nat} {d:D},aU K O H ds vs->ds[i]?=some d->∃v,vs[i]?=some v/\Rep K O H d v
 |[],_,_,_,_,e=>by simp at e
 | d::ds,vs,i,d',h,e=>by
  obtain⟨x,r,rfl,h1,t⟩:=h.cons_inv;cases i with
  |zero=>simp at e;subst e;exact⟨x,rfl,h1⟩
  |succ i=>simpa using aU.get t (i:=i) (by simpa using e)
theorem aU.bY{ds:List D}{vs:List V}{i:Nat}{v:V}(h:aU K O H ds vs)(e:vs[i]?=some v):∃d,ds[i]?=some d/\Rep K O H d v:=by
 have hl:=h.length;have hi:i<ds.length:=by rw[hl];exact (z1b e).1
 obtain⟨v',e',r⟩:=h.get (i:=i) (d:=ds[i]) (by simp[hi]);rw[e] at e';cases e';exact⟨_,by simp[hi],r⟩
theorem aU.append:∀{ds es:List D} {vs ws:List V},aU K O H ds vs->aU K O H es ws->aU K O H (ds++es) (vs++ws)
 |[],_,vs,_,h,t=>by rw[h.nil_inv];exact t
 | d::ds,es,vs,ws,h,t=>by
  obtain⟨x,r,rfl,h1,h2⟩:=h.cons_inv;exact .cons h1 (aU.append h2 t)
theorem aU.reverse:∀{ds:List D} {vs:List V},aU K O H ds vs->aU K O H ds.reverse vs.reverse
 |[],vs,h=>by rw[h.nil_inv];exact .nil
 | d::ds,vs,h=>by
  obtain⟨x,r,rfl,h1,h2⟩:=h.cons_inv;simp only[List.reverse_cons];exact h2.reverse.append (.cons h1 .nil)
theorem aU.drop:∀{ds:List D} {vs:List V} (n:Nat),aU K O H ds vs->aU K O H (ds.drop n) (vs.drop n)
 |_,_,0,h=>h
 |[],vs,n+1,h=>by rw[h.nil_inv];exact .nil
 | d::ds,vs,n+1,h=>by
  obtain⟨x,r,rfl,h1,h2⟩:=h.cons_inv;exact h2.drop n
theorem aU.take:∀{ds:List D} {vs:List V} (n:Nat),aU K O H ds vs->aU K O H (ds.take n) (vs.take n)
 |_,_,0,_=>by simpa using aU.nil
 |[],vs,n+1,h=>by rw[h.nil_inv];exact .nil
 | d::ds,vs,n+1,h=>by
  obtain⟨x,r,rfl,h1,h2⟩:=h.cons_inv;exact .cons h1 (h2.take n)
theorem Rep.int{i:Int}{v:V}(h:Rep K O H (.int i) v):v= .int i:=by simpa only[Rep] using h
theorem Rep.bl{b:Bool}{v:V}(h:Rep K O H (.bl b) v):v= .bl b:=by simpa only[Rep] using h
theorem Rep.non{v:V}(h:Rep K O H .non v):v= .non:=by simpa only[Rep] using h
theorem Rep.str{x:Str}{v:V}(h:Rep K O H (.str x) v):v= .str x:=by simpa only[Rep] using h
theorem Rep.tup{ds:List D}{v:V}(h:Rep K O H (.tup ds) v):∃a xs,v= .ref a/\SqT K H a xs/\aU K O H ds xs:=by simpa only[Rep] using h
theorem Rep.lst{ds:List D}{v:V}(h:Rep K O H (.lst ds) v):∃a xs,v= .ref a/\SqL K H a xs/\¬O a/\aU K O H ds xs:=by simpa only[Rep] using h
theorem cP(i:Int):Rep K O H (.int i) (.int i):=by simp only[Rep]
theorem gF(b:Bool):Rep K O H (.bl b) (.bl b):=by simp only[Rep]
theorem p8:Rep K O H .non .non:=by simp only[Rep]
theorem Ld(x:Str):Rep K O H (.str x) (.str x):=by simp only[Rep]
theorem iK{ds:List D}{a:aed}{xs:List V}(h:SqT K H a xs)(r:aU K O H ds xs):Rep K O H (.tup ds) (.ref a):=by simp only[Rep];exact⟨a,xs,rfl,h,r⟩
theorem oU{ds:List D}{a:aed}{xs:List V}(h:SqL K H a xs)(n:¬O a)(r:aU K O H ds xs):Rep K O H (.lst ds) (.ref a):=by simp only[Rep];exact⟨a,xs,rfl,h,n,r⟩
end
inductive Ob where
 |exc (c:Str) |fn (a:aed)
inductive Ent where
 |val (d:D) |lst (ds:List D) |Ay (kvs:List (Key×D)) |obj (t:Ob) |rws (rows:List (List D))
def Ent.own:Ent->Bool
 | .val _=>false
 | .obj _=>false
 |_=>true
def Ent.Uk:Ent->Bool
 | .val _=>true
 |_=>false
theorem aaU{e:Ent}(h:e.Uk=true):e.own=false:=by cases e <;> first |rfl |cases h
abbrev aB:=List (Option Ent)
def ac4(K:aeh)(O:aed->Prop)(H:Hp)(kvs:List (Key×D))(ys:List (Key×V)):Prop:=kvs.map (·.1)=ys.map (·.1)/\aU K O H (kvs.map (·.2)) (ys.map (·.2))
def qb(K:aeh)(H:Hp):Ob->V->Prop
 | .exc c,v=>∃a o C,v= .ref a/\H a=some (.frz o (.own a))/\o.cls= .ref C/\o.dict=none/\(∃vs,o.data= .fields vs)/\aep K ael c=some (some (.ref C))
 | .fn a,v=>v= .ref a/\∃o fd,H a=some (.frz o (.own a))/\o.data= .func fd
structure Qo(K:aeh)(O:aed->Prop)(H:Hp)(rows:List (List D))(a:aed)(rs:List aed):Prop where
 at_:H a=some (.lst (rs.map V.ref))
 oa:O a
 nd:(a::rs).Nodup
 len:rs.length=rows.length
 row:∀(i:Nat) r row,rs[i]?=some r->rows[i]?=some row->O r/\∃xs,H r=some (.lst xs)/\aU K O H row xs
def sE(K:aeh)(O:aed->Prop)(H:Hp):Ent->V->Prop
 | .val d,v=>Rep K O H d v
 | .lst ds,v=>∃a xs,v= .ref a/\O a/\H a=some (.lst xs)/\aU K O H ds xs
 | .Ay kvs,v=>∃a ys,v= .ref a/\O a/\H a=some (.dK ys)/\ac4 K O H kvs ys
 | .obj t,v=>qb K H t v
 | .rws rows,v=>∃a rs,v= .ref a/\Qo K O H rows a rs
def Vp(H:Hp)(ρ:aB)(σ:St):Prop:=∀(i j:Nat) (rows:List (List D)) (a:aed) (rs:List aed) (e:Ent) (v:V),i≠j->ρ[i]?=some (some (.rws rows))->σ[i]?=some (some (.ref a))->H a=some (.lst (rs.map V.ref))->ρ[j]?=some (some e)->e.own=true->σ[j]?=some (some v)->(∀r∈rs,v≠.ref r)/\∀rows',e≠.rws rows'
structure Env(K:aeh)(O:aed->Prop)(H:Hp)(ρ:aB)(σ:St):Prop where
 get:∀(i:Nat) e,ρ[i]?=some (some e)->∃v,σ[i]?=some (some v)/\sE K O H e v
 sep:∀(i j:Nat) e e' v,i≠j->ρ[i]?=some (some e)->ρ[j]?=some (some e')->e.own=true->e'.own=true->σ[i]?=some (some v)->σ[j]?=some (some v)->False
 qd:Vp H ρ σ
structure In(X:Cx)(O:aed->Prop)(H:Hp)(ρ:aB)(σ:St):Prop where
 env:Env X.K O H ρ σ
 al:∀a,O a->∃o,H a=some o
 len:σ.length=X.N.length
 oH:ρ.length=X.N.length
section
variable{X:Cx}{O:aed->Prop}{H H1:Hp}{ρ:aB}{σ:St}{K:aeh}
theorem qb.fz(s:∀b o u,H b=some (.frz o u)->H1 b=some (.frz o u)):∀{t:Ob} {v:V},qb K H t v->qb K H1 t v
 | .exc _,_,z=>by
  obtain⟨a,o,C,e,h,q,n⟩:=z;exact⟨a,o,C,e,s _ _ _ h,q,n⟩
 | .fn _,_,z=>by
  obtain⟨e,o,fd,h,q⟩:=z;exact⟨e,o,fd,s _ _ _ h,q⟩
theorem qb.same(s:Same H H1){t:Ob}{v:V}(h:qb K H t v):qb K H1 t v:=h.fz λ_ _ _ q=>s _ _ q
theorem Gh{rs rs':List aed}(h:rs.map V.ref=rs'.map V.ref):rs=rs':=(List.map_inj_right λ_ _ e=>V.ref.inj e).mp h
theorem Qo.same(s:Same H H1){rows:List (List D)}{a:aed}{rs:List aed}(h:Qo K O H rows a rs):Qo K O H1 rows a rs:=⟨s _ _ h.at_,h.oa,h.nd,h.len,λi r row e1 e2=>let⟨o,xs,q,r'⟩:=h.row i r row e1 e2;⟨o,xs,s _ _ q,r'.same s⟩⟩
theorem sE.same(s:Same H H1):∀{e:Ent} {v:V},sE K O H e v->sE K O H1 e v
 | .val d,v,h=>Rep.same s h
 | .lst ds,v,z=>by
  obtain⟨a,xs,e,o,h,r⟩:=z;exact⟨a,xs,e,o,s _ _ h,r.same s⟩
 | .Ay kvs,v,z=>by
  obtain⟨a,xs,e,o,h,k,r⟩:=z;exact⟨a,xs,e,o,s _ _ h,k,r.same s⟩
 | .obj t,v,h=>qb.same s h
 | .rws rows,v,⟨a,rs,e,h⟩=>⟨a,rs,e,h.same s⟩
theorem Vp.of(h:Vp H ρ σ)(w:∀(i:Nat) (rows:List (List D)) (a:aed) (rs:List aed),ρ[i]?=some (some (.rws rows))->σ[i]?=some (some (.ref a))->H1 a=some (.lst (rs.map V.ref))->H a=some (.lst (rs.map V.ref))):Vp H1 ρ σ:=λi j rows a rs e v hij hi hs ha=>h i j rows a rs e v hij hi hs (w i rows a rs hi hs ha)
theorem Env.rws(E:Env K O H ρ σ){i:Nat}{rows:List (List D)}{a:aed}(hi:ρ[i]?=some (some (.rws rows)))(hs:σ[i]?=some (some (.ref a))):∃rs,Qo K O H rows a rs:=by
 obtain⟨v,q,a',rs,e,r⟩:=E.get i _ hi;rw[q] at hs;cases hs;cases e;exact⟨rs,r⟩
theorem Env.back(E:Env K O H ρ σ)(s:Same H H1){i:Nat}{rows:List (List D)}{a:aed}{rs:List aed}(hi:ρ[i]?=some (some (.rws rows)))(hs:σ[i]?=some (some (.ref a)))(ha:H1 a=some (.lst (rs.map V.ref))):H a=some (.lst (rs.map V.ref)):=by
 obtain⟨rs',r⟩:=E.rws hi hs;have:=s _ _ r.at_;rw[ha] at this;rw[r.at_,Gh (HO.lst.inj (aeG this))]
theorem Env.same(E:Env K O H ρ σ)(s:Same H H1):Env K O H1 ρ σ:=⟨λj e h=>let⟨v,h1,h2⟩:=E.get j e h;⟨v,h1,h2.same s⟩,E.sep,E.qd.of λi rows a rs hi hs ha=>E.back s hi hs ha⟩
theorem In.same(i:In X O H ρ σ)(s:Same H H1):In X O H1 ρ σ:=
 ⟨i.env.same s,λa h=>let⟨o,q⟩:=i.al a h;⟨o,s _ _ q⟩,i.len,i.oH⟩
end
def Exc(h:aes)(e C:aed)(T:Option aed):Prop:=∃(oe:Obj) (vs:Array aef),h.get? e=some oe/\oe.cls= .ref C/\oe.dict=none/\oe.data= .fields vs/\match T with
 |none=>vs[1]?=some aeL
 |some t=>vs[1]?=some (.ref t)/\t≠e/\∃(ot:Obj) (ts:Array aef),h.get? t=some ot/\ot.data= .fields ts/\ts[3]?=some aeL
structure Az(P:aew)(w:aey)(fs:List aed)(H:Hp)(s:aeg)(a C:aed)(T:Option aed)(s':aeg)(H':Hp):Prop where
 same:Same H H'
 un:Un fs [] H H' s.heap s'.heap
 hok:HOk P w H' s'.heap
 os:s'.os=s.os
 bare:agW s'.gens
 exc:Exc s'.heap a C T
 na:s.heap.get? a=none
 ha:H' a=none
 nt:∀t,T=some t->s.heap.get? t=none/\H' t=none
def M8(X:Cx)(c:Str)(σ:St)(H:Hp):Prop:=∀(H1:Hp) (pins:List (aed×Obj)) (s:aeg) (a C:aed) (T:Option aed) (s':aeg) (H':Hp),Same H H1->Inv X pins σ H1 s->
 aep X.K ael c=some (some (.ref C))->Az X.prog X.w (frs X.stack) H1 s a C T s' H'->X.xe (.ref a) s'
theorem M8.same{X:Cx}{c:Str}{σ:St}{H H1:Hp}(h:M8 X c σ H)(s:Same H H1):M8 X c σ H1:=λH2 pins s0 a C T s' H' s2=>h H2 pins s0 a C T s' H' (s.trans s2)
def good{α β:Type}(X:Cx)(Rl:(aed->Prop)->Hp->α->β->Prop)(O:aed->Prop)(r:R α)(σ:St)(H:Hp)(Q:β->Hp->Prop):Prop:=match r with
 | .ok a=>∀b H',Same H H'->Rl O H' a b->Q b H'
 | .err c=>M8 X c σ H
 | .bad=>False
theorem good.same{α β:Type}{X:Cx}{Rl:(aed->Prop)->Hp->α->β->Prop}{O:aed->Prop}{r:R α}{σ:St}{H H1:Hp}{Q:β->Hp->Prop}(h:good X Rl O r σ H Q)(s:Same H H1):good X Rl O r σ H1 Q:=by
 cases r with
 |ok a=>exact λb H' s' q=>h b H' (s.trans s') q
 |err c=>exact M8.same (show M8 X c σ H from h) s
 |bad=>exact h
inductive TGd {α β:Type} (X:Cx) (Rl:(aed->Prop)->Hp->α->β->Prop) (f:aB->R α) (σ:St) (H:Hp) (Q:β->Hp->Prop):Prop
 |mk (ρ:aB) (O:aed->Prop) (j:In X O H ρ σ) (g:good X Rl O (f ρ) σ H Q):TGd X Rl f σ H Q
def tG{α β:Type}(X:Cx)(Rl:(aed->Prop)->Hp->α->β->Prop)(f:aB->R α):St->Hp->(β->Hp->Prop)->Prop:=λσ H Q=>TGd X Rl f σ H Q
abbrev rB:(aed->Prop)->Hp->Bool->Bool->Prop:=λ_ _ a b=>a=b
abbrev rD(X:Cx):(aed->Prop)->Hp->D->V->Prop:=λO H d v=>Rep X.K O H d v
abbrev M9(X:Cx):(aed->Prop)->Hp->List D->List V->Prop:=λO H d v=>aU X.K O H d v
def DE(X:Cx)(e:aer)(f:aB->R D):Prop:=PE X e (tG X (rD X) f)
def DT(X:Cx)(e:aer)(f:aB->R Bool):Prop:=PT X e (tG X rB f)
def DW(X:Cx)(e:aer)(f:aB->R Bool):Prop:=PW X e (tG X rB f)
def DA(X:Cx)(es:List aer)(f:aB->R (List D)):Prop:=PA X es (tG X (M9 X) f)
theorem PE.imp{X:Cx}{e:aer}{t t':TE}(h:PE X e t)(w:∀σ H Q,t' σ H Q->t σ H Q):PE X e t':=λpins s σ H Q I q=>h pins s σ H Q I (w σ H Q q)
theorem PT.imp{X:Cx}{e:aer}{t t':TT}(h:PT X e t)(w:∀σ H Q,t' σ H Q->t σ H Q):PT X e t':=λpins s σ H Q I q=>h pins s σ H Q I (w σ H Q q)
theorem PW.imp{X:Cx}{e:aer}{t t':TT}(h:PW X e t)(w:∀σ H Q,t' σ H Q->t σ H Q):PW X e t':=λwh pins s σ H Q I q=>h wh pins s σ H Q I (w σ H Q q)
theorem PA.imp{X:Cx}{e:List aer}{t t':TA}(h:PA X e t)(w:∀σ H Q,t' σ H Q->t σ H Q):PA X e t':=λpos pins s σ H Q I q=>h pos pins s σ H Q I (w σ H Q q)
section
variable{X:Cx}{O:aed->Prop}{H:Hp}{ρ:aB}{σ:St}
theorem go{α β γ δ:Type}{Rl:(aed->Prop)->Hp->α->β->Prop}{Rm:(aed->Prop)->Hp->γ->δ->Prop}{f:aB->R α}{g:α->R γ}{Q:δ->Hp->Prop}{Q':β->Hp->Prop}
  (i:In X O H ρ σ)(h:good X Rm O ((f ρ).bind g) σ H Q)
  (k:∀a b H1,f ρ= .ok a->Same H H1->Rl O H1 a b->In X O H1 ρ σ->good X Rm O (g a) σ H1 Q->Q' b H1):tG X Rl f σ H Q':=by
 refine⟨ρ,O,i,?_⟩;cases e:f ρ with
 |ok a=>rw[e] at h;exact λb H1 s r=>k a b H1 e s r (i.same s) (good.same h s)
 |err c=>rw[e] at h;exact h
 |bad=>rw[e] at h;exact h
theorem fin{α β:Type}{Rl:(aed->Prop)->Hp->α->β->Prop}{a:α}{b:β}{Q:β->Hp->Prop}(h:good X Rl O (.ok a) σ H Q)(r:Rl O H a b):Q b H:=h b H (Same.refl H) r
end
end Pu
namespace Pu
open PySem PySem.Spec L2
open PyProof.Rows hiding St
variable{p:aed}{O O0:aed->Prop}{X Y:Cx}{d:D}{H H0:Hp}{α:Type}{l:List (Option α)}{ds:List D}{u:List D->aB->R aB}{N caps ts:List Str}{xs:List V}{n i:Nat}{px:Pos}{K:aeh}{ρ:aB}{scope sc:afz}{σ:St}
theorem Same.upd{o:HO}(h:H p=none):Same H (L2.upd H p o):=λb u e=>by
 rw[upd_ne (ne_of_none e h)];exact e
theorem Rep.uw(h:H p=none)(r:aU X.K O H ds xs):Rep X.K O (upd H p (.tup xs)) (.tup ds) (.ref p):=
 iK (SqT.of upd_same) (r.same (Same.upd h))
theorem In.uJ(i:In X O H ρ σ)(h:H p=none):¬O p:=λz=>by
 obtain⟨o,e⟩:=i.al p z;rw[h] at e;cases e
theorem Rep.mQ(h:H p=none)(n:¬O p)(r:aU X.K O H ds xs):Rep X.K O (upd H p (.lst xs)) (.lst ds) (.ref p):=
 oU (SqL.of upd_same) n (r.same (Same.upd h))
section
variable{X:Cx}{a b c:aer}{f g h:aB->R D}{pos:Pos}
def bY(ρ:aB)(i:Nat):R D:=match ρ[i]? with
 |some (some (.val d))=> .ok d
 |_=> .bad
theorem dv(i:Nat){x:Str}{pos:Pos}(hN:X.N[i]?=some x:=by rfl)(hv:Vis X.env.scope x:=by first |exact afo rfl |exact afa (afo rfl) |exact afa (afa rfl))(hd:(x ==("__debug__" :Str))=false:=by decide)(hcd:(x ==("__classdict__" :Str))=false:=by decide):
  DE X (.Name x pos) (λρ=>bY ρ i):=by
 refine PE.imp (pe_var hN hv hd hcd) λσ H Q h=>?_;obtain⟨ρ,O,j,h⟩:=h;have h:good X (rD X) O (bY ρ i) σ H Q:=h;unfold bY at h;split at h
 ·rename_i d e;obtain⟨v,e1,r⟩:=j.env.get i _ e;exact⟨v,e1,fin h r⟩
 ·exact h.elim
theorem Le{e:aer}{v:V}(h:PE X e (tC v))(r:∀O H,Rep X.K O H d v):DE X e (λ_=> .ok d):=PE.imp h λσ H Q h=>by
 obtain⟨ρ,O,j,h⟩:=h;exact fin h (r O H)
theorem aF{i:Int}{j pos}:DE X (.Constant (.int i) j pos) (λ_=> .ok (.int i)):=Le pe_int λ_ _=>cP i
theorem lq{i:Bool}{j pos}:DE X (.Constant (.bool i) j pos) (λ_=> .ok (.bl i)):=Le pe_bl λ_ _=>gF i
theorem fU{j pos}:DE X (.Constant .none j pos) (λ_=> .ok .non):=Le pe_non λ_ _=>p8
theorem jt{x:Str}{j pos}:DE X (.Constant (.str x) j pos) (λ_=> .ok (.str x)):=Le pe_str λ_ _=>Ld x
theorem iM{x:Str}{i:Int}{t:Tok}{pos:Pos}(hg:Gl X x)(hm:X.mg x=some (.int i t))(hd:(x ==("__debug__" :Str))=false:=by decide):DE X (.Name x pos) (λ_=> .ok (.int i)):=
 Le (pe_glob (v:= .int i) hg hm ⟨t,rfl⟩ hd) λ_ _=>cP i
def lu(X:Cx)(o:aef->aef->Sem aef)(k:D->D->R D):Prop:=∃r:R2,OpR X o r/\
 ∀(ρ:aB) (O:aed->Prop) (σ:St) (H:Hp) (Q:VK) (x y:V) (dx dy:D),In X O H ρ σ->Rep X.K O H dx x->Rep X.K O H dy y->good X (rD X) O (k dx dy) σ H Q->r x y H Q
def bin(f g:aB->R D)(k:D->D->R D):aB->R D:=λρ=>(f ρ).bind λx=>(g ρ).bind λy=>k x y
theorem IV{r:R2}{k:D->D->R D}{Q:VK}
  (hr:∀(ρ:aB) (O:aed->Prop) (σ:St) (H:Hp) (Q:VK) (x y:V) (dx dy:D),In X O H ρ σ->Rep X.K O H dx x->Rep X.K O H dy y->good X (rD X) O (k dx dy) σ H Q->r x y H Q)
  (h:tG X (rD X) (bin f g k) σ H Q):tOp r (tG X (rD X) f) (tG X (rD X) g) σ H Q:=by
 obtain⟨ρ,O,j,h⟩:=h;refine go j h λdx x H1 e1 s1 r1 j1 h1=>?_;exact go j1 h1 λdy y H2 e2 s2 r2 j2 h2=>hr ρ O σ H2 Q x y dx dy j2 (r1.same s2) r2 h2
theorem aO{op:Operator}{k:D->D->R D}(ho:lu X (afs op) k)(ha:DE X a f)(hb:DE X b g):DE X (.BinOp a op b pos) (bin f g k):=by
 obtain⟨r,ho,hr⟩:=ho;exact PE.imp (pe_op ho ha hb) λσ H Q h=>IV hr h
theorem uK{op:CmpOp}{k:D->D->R D}(ho:lu X (ae9 op) k)(ha:DE X a f)(hb:DE X b g)(hm:agc op b=false:=by exact nomark _):DE X (.Compare a [op] [b] pos) (bin f g k):=by
 obtain⟨r,ho,hr⟩:=ho;exact PE.imp (pe_cmpR ho ha hb hm) λσ H Q h=>IV hr h
def asB:D->R Bool
 | .bl b=> .ok b
 |_=> .bad
def cC(f:aB->R D):aB->R Bool:=λρ=>(f ρ).bind asB
theorem Qp{t:TE}{k:aB->R D}{Q:Bool->Hp->Prop}(w:∀Q,tG X (rD X) k σ H Q->t σ H Q)(h:tG X rB (cC k) σ H Q):tTest t σ H Q:=by
 refine w _ ?_;obtain⟨ρ,O,j,h⟩:=h;refine go j h λd x H1 e1 s1 r1 j1 h1=>?_;cases d with
 |bl b=>exact⟨b,r1.bl,fin h1 rfl⟩
 |_=>exact h1.elim
theorem cQ{op:CmpOp}{k:D->D->R D}(ho:lu X (ae9 op) k)(ha:DE X a f)(hb:DE X b g)(hm:agc op b=false:=by exact nomark _):DT X (.Compare a [op] [b] pos) (cC (bin f g k)):=by
 obtain⟨r,ho,hr⟩:=ho;exact PT.imp (pt_cmpR ho ha hb hm) λσ H Q h=>Qp (λQ h=>IV hr h) h
theorem lE{e:aer}(h:DE X e f)(he:∀whole,isTrue e X.env whole=(do let v <-whole;standAt e.pos;holding [v] (truthy v)):=by intro _;rfl):DT X e (cC f):=
 PT.imp (pt_val h he) λσ H Q h=>Qp (t:=tG X (rD X) f) (λQ h=>h) h
def iD(k:Int->Int->R D):D->D->R D
 | .int i,.int j=>k i j
 |_,_=> .bad
theorem Fp{o:aef->aef->Sem aef}{C:Int->Int->Prop}{g:Int->Int->V}{k:Int->Int->R D}(ho:OpR X o (rI C g))(hk:∀i j,k i j= .bad\/∃d,k i j= .ok d/\C i j/\∀K O H,Rep K O H d (g i j)):lu X o (iD k):=by
 refine⟨_,ho,λρ O σ H Q x y dx dy j0 rx ry h=>?_⟩;cases dx <;> cases dy <;> first
  |exact h.elim
  |skip
 rename_i i j;rcases hk i j with e |⟨d,e,c,r⟩
 ·have h':good X (rD X) O (k i j) σ H Q:=h;rw[e] at h';exact h'.elim
 ·have h':good X (rD X) O (k i j) σ H Q:=h;rw[e] at h';exact⟨i,j,rx.int,ry.int,c,fin h' (r _ _ _)⟩
theorem uL{o:aef->aef->Sem aef}{g:Int->Int->V}{k:Int->Int->R D}(ho:OpR X o (rI0 g))(hk:∀i j,∃d,k i j= .ok d/\∀K O H,Rep K O H d (g i j)):lu X o (iD k):=by
 refine⟨_,ho,λρ O σ H Q x y dx dy j0 rx ry h=>?_⟩;cases dx <;> cases dy <;> first
  |exact h.elim
  |skip
 rename_i i j;obtain⟨d,e,r⟩:=hk i j;have h':good X (rD X) O (k i j) σ H Q:=h;rw[e] at h';exact⟨i,j,rx.int,ry.int,fin h' (r _ _ _)⟩
def gR:D->D->R D:=iD λi j=> .ok (.int (i - j))
def jc:D->D->R D:=iD λi j=>if (-(2^64)<i/\i<2^64)\/(-(2^64)<j/\j<2^64) then .ok (.int (i*j)) else .bad
def iT:D->D->R D:=iD λi j=>if 0<j/\j<2^64 then .ok (.int (i / j)) else .bad
def gU:D->D->R D:=iD λi j=>if 0<j then .ok (.int (i % j)) else .bad
def xq:D->D->R D:=iD λi j=>if 0<=j/\j<=1000000/\i.natAbs<2^64 then .ok (.int (i^j.toNat)) else .bad
def ltI:D->D->R D:=iD λi j=> .ok (.bl (decide (i<j)))
def wF:D->D->R D:=iD λi j=> .ok (.bl (decide (i<=j)))
def yj:D->D->R D:=iD λi j=> .ok (.bl (decide (j<i)))
def Xa:D->D->R D:=iD λi j=> .ok (.bl (decide (j<=i)))
theorem gZ:lu X (afs .Sub) gR:=uL op_sub λi j=>⟨_,rfl,λ_ _ _=>cP _⟩
theorem aaK:lu X (ae9 .Lt) ltI:=uL op_lt λi j=>⟨_,rfl,λ_ _ _=>gF _⟩
theorem wG:lu X (ae9 .LtE) wF:=uL op_le λi j=>⟨_,rfl,λ_ _ _=>gF _⟩
theorem Vq:lu X (ae9 .Gt) yj:=uL op_gt λi j=>⟨_,rfl,λ_ _ _=>gF _⟩
theorem ac5:lu X (ae9 .GtE) Xa:=uL op_ge λi j=>⟨_,rfl,λ_ _ _=>gF _⟩
theorem Fq{c:Prop}[Decidable c](d:D){P:D->Prop}(hP:c->P d):(if c then R.ok d else R.bad)=R.bad\/∃d',(if c then R.ok d else R.bad)=R.ok d'/\c/\P d':=by
 by_cases h:c
 ·exact .inr ⟨d,by rw[if_pos h],h,hP h⟩
 ·exact .inl (by rw[if_neg h])
theorem rA:lu X (afs .Mult) jc:=Fp op_mul λi j=>Fq (.int (i*j)) (P:=λd=>∀K O H,Rep K O H d (.int (i*j))) λ_ _ _ _=>cP _
theorem Xb{j:Int}(h0:0<j)(h:j<2^64):j.natAbs.log2<9000:=by
 have h1:j.natAbs≠0:=by omega
 have h2:j.natAbs<2^64:=by omega
 have h3:j.natAbs.log2<64:=(Nat.log2_lt h1).mpr h2;omega
theorem Zt:OpR X (afs .FloorDiv) (rI (λ_ j=>0<j/\j<2^64) λi j=> .int (i / j)):=opI λi j _ _ _ _ _ hc q=>by
 refine floordiv_int (by have:=hc.1;omega) ?_ (.inl (PyProof.noPylong_of_log2 (Xb hc.1 hc.2)));rw[Int.fdiv_eq_ediv_of_nonneg _ (by have:=hc.1;omega)];exact q
theorem rC:lu X (afs .FloorDiv) iT:=Fp Zt λi j=>Fq (.int (i / j)) (P:=λd=>∀K O H,Rep K O H d (.int (i / j))) λ_ _ _ _=>cP _
theorem rE:lu X (afs .Mod) gU:=Fp op_mod λi j=>Fq (.int (i % j)) (P:=λd=>∀K O H,Rep K O H d (.int (i % j))) λ_ _ _ _=>cP _
theorem Xc:lu X (afs .Pow) xq:=Fp op_pow λi j=>Fq (.int (i^j.toNat)) (P:=λd=>∀K O H,Rep K O H d (.int (i^j.toNat))) λ_ _ _ _=>cP _
def IW(f g h:aB->R D)(k l:D->D->R D):aB->R D:=λρ=>(f ρ).bind λx=>(g ρ).bind λy=>(k x y).bind λz=>match z with
 | .bl true=>(h ρ).bind λw=>l y w
 | .bl false=> .ok (.bl false)
 |_=> .bad
def nj(f g:aB->R D):aB->R D:=λρ=>(f ρ).bind λx=>match x with
 | .bl true=>g ρ
 | .bl false=> .ok (.bl false)
 |_=> .bad
def ab5(f:aB->R D):aB->R D:=λρ=>(f ρ).bind λx=>match x with
 | .bl b=> .ok (.bl (!b))
 |_=> .bad
variable{rest:List aer}
theorem rF{op}(h:DE X a f):DE X (.BoolOp op [a] pos) f:=pe_one h
theorem nO(ha:DE X a f)(hb:DE X (.BoolOp .And (b::rest) pos) g):DE X (.BoolOp .And (a::b::rest) pos) (nj f g):=by
 refine PE.imp (pe_and ha hb) λσ H Q h=>?_;obtain⟨ρ,O,j,h⟩:=h;refine go j h λd x H1 e1 s1 r1 j1 h1=>?_;cases d with
 | bl k=>
  cases k with
  |true=>exact⟨true,r1.bl,by rw[if_pos rfl];exact⟨ρ,O,j1,h1⟩⟩
  |false=>exact⟨false,r1.bl,by rw[if_neg aeO];exact fin h1 (gF _)⟩
 |_=>exact h1.elim
theorem ab6(ha:DE X a f):DE X (.UnaryOp .Not a pos) (ab5 f):=by
 refine PE.imp (pe_not ha) λσ H Q h=>?_;obtain⟨ρ,O,j,h⟩:=h;refine go j h λd x H1 e1 s1 r1 j1 h1=>?_;cases d with
 |bl k=>exact⟨k,r1.bl,fin h1 (gF _)⟩
 |_=>exact h1.elim
def o7(f g:aB->R Bool):aB->R Bool:=λρ=>(f ρ).bind λx=>if x=true then g ρ else .ok false
def Nb(f g:aB->R Bool):aB->R Bool:=λρ=>(f ρ).bind λx=>if x=true then .ok true else g ρ
def ju(f:aB->R Bool):aB->R Bool:=λρ=>(f ρ).bind λx=> .ok (!x)
variable{p q:aB->R Bool}
theorem Lf(ha:DT X a p):DW X (.BoolOp .And [a] pos) p:=pw_and1 ha
theorem Qq(ha:DT X a p):DW X (.BoolOp .Or [a] pos) p:=pw_or1 ha
theorem Qs(ha:DT X a p)(hb:DW X (.BoolOp .And (b::rest) pos) q):DW X (.BoolOp .And (a::b::rest) pos) (o7 p q):=by
 refine PW.imp (pw_and ha hb) λσ H Q h=>?_;obtain⟨ρ,O,j,h⟩:=h;refine go j h λd x H1 e1 s1 r1 j1 h1=>?_;subst r1;cases d with
 |true=>rw[if_pos rfl] at h1 |-;exact⟨ρ,O,j1,h1⟩
 |false=>rw[if_neg aeO] at h1 |-;exact fin h1 rfl
theorem Vr(ha:DT X a p)(hb:DW X (.BoolOp .Or (b::rest) pos) q):DW X (.BoolOp .Or (a::b::rest) pos) (Nb p q):=by
 refine PW.imp (pw_or ha hb) λσ H Q h=>?_;obtain⟨ρ,O,j,h⟩:=h;refine go j h λd x H1 e1 s1 r1 j1 h1=>?_;subst r1;cases d with
 |true=>rw[if_pos rfl] at h1 |-;exact fin h1 rfl
 |false=>rw[if_neg aeO] at h1 |-;exact⟨ρ,O,j1,h1⟩
theorem DW.dt{e:aer}(h:DW X e p):DT X e p:=h _
theorem jf(ha:DT X a p):DT X (.UnaryOp .Not a pos) (ju p):=by
 refine PT.imp (pt_not ha) λσ H Q h=>?_;obtain⟨ρ,O,j,h⟩:=h;refine go j h λd x H1 e1 s1 r1 j1 h1=>?_;subst r1;exact fin h1 rfl
def Ba(c:aB->R Bool)(f g:aB->R D):aB->R D:=λρ=>(c ρ).bind λx=>if x=true then f ρ else g ρ
theorem Qg(hc:DT X c p)(ha:DE X a f)(hb:DE X b g):DE X (.IfExp c a b pos) (Ba p f g):=by
 refine PE.imp (pe_ifExp hc ha hb) λσ H Q h=>?_;obtain⟨ρ,O,j,h⟩:=h;refine go j h λd x H1 e1 s1 r1 j1 h1=>?_;subst r1;cases d with
 |true=>rw[if_pos rfl] at h1 |-;exact⟨ρ,O,j1,h1⟩
 |false=>rw[if_neg aeO] at h1 |-;exact⟨ρ,O,j1,h1⟩
def ak(f:aB->R D)(g:aB->R (List D)):aB->R (List D):=λρ=>(f ρ).bind λx=>(g ρ).bind λxs=> .ok (x::xs)
variable{es:List aer}{fa:aB->R (List D)}
theorem aA:DA X [] (λ_=> .ok []):=PA.imp pa_nil λσ H Q h=>by
 obtain⟨ρ,O,j,h⟩:=h;exact fin h .nil
theorem aj(ha:DE X a f)(hr:DA X es fa)(hs:aei (a::es) X.env=(false,eval a X.env)::aei es X.env:=by rfl):DA X (a::es) (ak f fa):=by
 refine PA.imp (pa_cons ha hr hs) λσ H Q h=>?_;obtain⟨ρ,O,j,h⟩:=h;refine go j h λd x H1 e1 s1 r1 j1 h1=>?_;exact go j1 h1 λds xs H2 e2 s2 r2 j2 h2=>fin h2 (.cons (r1.same s2) r2)
def cap(k:List D->D)(ds:List D):R D:=if ds.length<=1000000 then .ok (k ds) else .bad
theorem fQ:1000000<=sizeLine:=by rw[agj];decide
def cY(fa:aB->R (List D)):aB->R D:=λρ=>(fa ρ).bind (cap .tup)
def fB(fa:aB->R (List D)):aB->R D:=λρ=>(fa ρ).bind (cap .lst)
theorem cA{x1}(h:DA X es fa):DE X (.Tuple es x1 pos) (cY fa):=by
 refine PE.imp (pe_tup h) λσ H Q h=>?_;obtain⟨ρ,O,j,h⟩:=h;refine go j h λds xs H1 e1 s1 r1 j1 h1=>?_;unfold cap at h1;split at h1
 ·rename_i hl;exact⟨by rw[<-r1.length];exact z0b hl fQ,λp hp=>h1 _ _ (Same.upd hp) (Rep.uw hp r1)⟩
 ·exact h1.elim
theorem fG(h:DA X es fa):DE X (.List es pos) (fB fa):=by
 refine PE.imp (pe_lst h) λσ H Q h=>?_;obtain⟨ρ,O,j,h⟩:=h;refine go j h λds xs H1 e1 s1 r1 j1 h1=>?_;unfold cap at h1;split at h1
 ·rename_i hl;exact⟨by rw[<-r1.length];exact z0b hl fQ,λp hp=>h1 _ _ (Same.upd hp) (Rep.mQ hp (j1.uJ hp) r1)⟩
 ·exact h1.elim
def cH:D->D->R D
 | .tup ds,.int i=>match atI ds i with |some d=> .ok d |none=> .bad
 | .lst ds,.int i=>match atI ds i with |some d=> .ok d |none=> .bad
 |_,_=> .bad
theorem aU.atI{K:aeh}{O:aed->Prop}{H:Hp}{ds:List D}{vs:List V}{i:Int}{d:D}(r:aU K O H ds vs)(e:atI ds i=some d):∃v,atI vs i=some v/\Rep K O H d v:=by
 unfold L2.atI at e |-;rw[r.length] at e;cases q:ixN vs.length i with
 |none=>rw[q] at e;cases e
 | some k=>
  rw[q] at e;obtain⟨v,h1,h2⟩:=r.get (i:=k) (d:=d) e;exact⟨v,h1,h2⟩
theorem bW(ha:DE X a f)(hb:DE X b g)(hs:PlainIx b:=by exact λ_ _=>rfl):DE X (.Subscript a b pos) (bin f g cH):=by
 refine PE.imp (pe_ix ix_seq ha hb hs) λσ H Q h=>IV (λρ O σ H Q x y dx dy j0 rx ry h=>?_) h;cases dx <;> cases dy <;> first
  |exact h.elim
  |skip
 ·rename_i ds i;obtain⟨p,xs,rfl,hq,r⟩:=rx.tup;have h':good X (rD X) O (match L2.atI ds i with |some d=>R.ok d |none=>R.bad) σ H Q:=h;cases e:L2.atI ds i with
  |none=>rw[e] at h';exact h'.elim
  | some d=>
   rw[e] at h';obtain⟨v,e1,rv⟩:=r.atI e;exact .inr (.inl ⟨p,xs,i,v,rfl,ry.int,hq,e1,fin h' rv⟩)
 ·rename_i ds i;obtain⟨p,xs,rfl,hq,_,r⟩:=rx.lst;have h':good X (rD X) O (match L2.atI ds i with |some d=>R.ok d |none=>R.bad) σ H Q:=h;cases e:L2.atI ds i with
  |none=>rw[e] at h';exact h'.elim
  | some d=>
   rw[e] at h';obtain⟨v,e1,rv⟩:=r.atI e;exact .inl ⟨p,xs,i,v,rfl,ry.int,hq,e1,fin h' rv⟩
def CallD(X:Cx)(u:aef)(k:List D->R D):Prop:=∃r:List V->Hp->VK->Prop,CallR X u r/\
 ∀(ρ:aB) (O:aed->Prop) (σ:St) (H:Hp) (Q:VK) (xs:List V) (ds:List D),In X O H ρ σ->aU X.K O H ds xs->good X (rD X) O (k ds) σ H Q->r xs H Q
def aH(k:List D->R D)(fa:aB->R (List D)):aB->R D:=λρ=>(fa ρ).bind k
variable{x:Str}{pp:Pos}{k:List D->R D}{id T:String}
theorem bf(hc:CallD X (.builtin id) k)(hg:Gl X x)(hm:X.mg x=none)(hv:afI x=some (.builtin id))(ha:DA X (a::es) fa)(hn:x≠"__name__" :=by decide)(hdb:(x ==("__debug__" :Str))=false:=by decide)
  (he:aei (a::es) X.env=(false,eval a X.env)::aei es X.env:=by rfl)(hpl:(ae7 pos (aei es X.env)).any (·.1)=false:=by rfl):DE X (.Call (.Name x pp) (a::es) [] pos) (aH k fa):=by
 obtain⟨r,hc,hr⟩:=hc;refine PE.imp (pe_callB hc hg hm hv ha hn hdb he hpl) λσ H Q h=>?_;obtain⟨ρ,O,j,h⟩:=h;exact go j h λds xs H1 e1 s1 r1 j1 h1=>hr ρ O σ H1 Q xs ds j1 r1 h1
theorem d8(hc:CallD X (.type T) k)(hg:Gl X x)(hm:X.mg x=none)(hv:afI x=some (.type T))(ha:DA X (a::es) fa)(hn:x≠"__name__" :=by decide)(hdb:(x ==("__debug__" :Str))=false:=by decide)
  (he:aei (a::es) X.env=(false,eval a X.env)::aei es X.env:=by rfl)(hpl:(ae7 pos (aei es X.env)).any (·.1)=false:=by rfl):DE X (.Call (.Name x pp) (a::es) [] pos) (aH k fa):=by
 obtain⟨r,hc,hr⟩:=hc;refine PE.imp (pe_callTy hc hg hm hv ha hn hdb he hpl) λσ H Q h=>?_;obtain⟨ρ,O,j,h⟩:=h;exact go j h λds xs H1 e1 s1 r1 j1 h1=>hr ρ O σ H1 Q xs ds j1 r1 h1
end
section
variable{X:Cx}{a b c:aer}{f g h:aB->R D}{pos:Pos}
theorem Xd{r r':R2}{k l:D->D->R D}{Q:VK}
  (hr:∀(ρ:aB) (O:aed->Prop) (σ:St) (H:Hp) (Q:VK) (x y:V) (dx dy:D),In X O H ρ σ->Rep X.K O H dx x->Rep X.K O H dy y->good X (rD X) O (k dx dy) σ H Q->r x y H Q)
  (hl:∀(ρ:aB) (O:aed->Prop) (σ:St) (H:Hp) (Q:VK) (x y:V) (dx dy:D),In X O H ρ σ->Rep X.K O H dx x->Rep X.K O H dy y->good X (rD X) O (l dx dy) σ H Q->r' x y H Q)
  (q:tG X (rD X) (IW f g h k l) σ H Q):tChain r r' (tG X (rD X) f) (tG X (rD X) g) (tG X (rD X) h) σ H Q:=by
 obtain⟨ρ,O,j,q⟩:=q;refine go j q λdx x H1 e1 s1 r1 j1 h1=>?_;refine go j1 h1 λdy y H2 e2 s2 r2 j2 h2=>?_;have r1':=r1.same s2;cases e3:k dx dy with
 |bad=>rw[e3] at h2;exact h2.elim
 |err n=>rw[e3] at h2;exact hr ρ O σ H2 _ x y dx dy j2 r1' r2 (by rw[e3];exact h2)
 | ok z=>
  rw[e3] at h2;refine hr ρ O σ H2 _ x y dx dy j2 r1' r2 ?_;rw[e3];intro v H3 s3 r3;have j3:=j2.same s3;cases z with
  | bl t=>
   refine⟨t,r3.bl,?_⟩;cases t with
   | true=>
    rw[if_pos rfl];exact go j3 (good.same h2 s3) λdw w H4 e4 s4 r4 j4 h4=>hl ρ O σ H4 Q y w dy dw j4 (r2.same (s3.trans s4)) r4 h4
   | false=>
    rw[if_neg aeO];exact fin (good.same h2 s3) (gF _)
  |_=>exact h2.elim
theorem zf{op op':CmpOp}{k l:D->D->R D}(ho:lu X (ae9 op) k)(ho':lu X (ae9 op') l)(ha:DE X a f)(hb:DE X b g)(hc:DE X c h)
  (hm:lastMarks [op,op'] [b,c]=false:=by with_unfolding_all rfl):DE X (.Compare a [op,op'] [b,c] pos) (IW f g h k l):=by
 obtain⟨r,ho,hr⟩:=ho;obtain⟨r',ho',hr'⟩:=ho';exact PE.imp (pe_chain ho ho' ha hb hc hm) λσ H Q q=>Xd hr hr' q
end
def YAt(K:aeh)(O:aed->Prop)(J:It)(xs:List D)(H:Hp):Prop:=
 ∀i:Nat,(∀d,xs[i]?=some d->J.go i H/\∀x H',J.yld i H x H'->Same H H'/\Rep K O H' d x)/\(xs.length<=i->J.stop i H)
def YR(K:aeh)(O:aed->Prop)(H:Hp)(J:It)(xs:List D):Prop:=∀O' H',gD K O H O' H'->YAt K O' J xs H'
abbrev rIt(X:Cx):(aed->Prop)->Hp->List D->It->Prop:=λO H xs J=>YR X.K O H J xs
def DI(X:Cx)(tg iter:aer)(fi:aB->R (List D)):Prop:=PI X tg iter (tG X (rIt X) fi)
theorem PI.imp{tg e:aer}{t t':TI}(h:PI X tg e t)(w:∀σ H Q,t' σ H Q->t σ H Q):PI X tg e t':=λpins s σ H Q I q=>h pins s σ H Q I (w σ H Q q)
section
variable{X:Cx}{tg:aer}
def adF(K:aeh)(tl:TE):TI:=λσ H R=>tl σ H λx H1=>∃a,x= .ref a/\(((∃xs,SqL K H1 a xs)/\R (Itl K a) H1)\/((∃xs,SqT K H1 a xs)/\R (Itt K a) H1))
theorem ab7{l:aer}{tl:TE}(hl:PE X l tl):PI X tg l (adF X.K tl):=by
 intro pins s σ H R I h;refine thn (hl pins s σ H _ I h) λv s1 bQ=>?_;obtain⟨x,H1,I1,r1,q1⟩:=bQ;obtain⟨a,e,q⟩:=q1;subst e;cases r1;have fp:∀b∈[s1.heap.objs.size],FpOk X pins H1 b:=λb hb=>by
  have e:b=s1.heap.objs.size:=by simpa using hb
  subst e;exact I1.fpOk (z0g _) (I1.hok.fresh (z0g _))
 rcases q with⟨⟨xs,hq⟩,q⟩ |⟨⟨xs,hq⟩,q⟩
 ·obtain⟨its,rv,p,hz⟩:=I1.list hq;refine agU p.isList ?_;exact⟨s1.heap.objs.size,[s1.heap.objs.size],_,_,H1,rfl,I1.kept (t':=s1.toks) λb o e=>z1a _ e,turn_list a _,⟨_,z1f _ rfl,rfl,rfl⟩,fp,q⟩
 ·obtain⟨its,rv,p,hz⟩:=I1.tuple hq;refine wpAny_pyIter_tuple (show s1.heap.IsTuple a its.toArray from p) ?_;exact⟨s1.heap.objs.size,[s1.heap.objs.size],_,_,H1,rfl,I1.kept (t':=s1.toks) λb o e=>z1a _ e,turn_tuple a _,⟨_,z1f _ rfl,rfl,rfl⟩,fp,q⟩
def eF:D->R (List D)
 | .tup ds=> .ok ds
 | .lst ds=> .ok ds
 |_=> .bad
theorem YR.lst{a:aed}(h:SqL K H a xs)(n:¬O a)(r:aU K O H ds xs):YR K O H (Itl K a) ds:=by
 intro O' H' q;have h':SqL K H' a xs:=SqL.ext q.ext n h;have r':=r.go q;intro i;refine⟨λd e=>?_,λe=>⟨xs,h',by rw[<-r.length];exact e⟩⟩;obtain⟨v,e1,rv⟩:=r'.get e;refine⟨⟨xs,v,h',e1⟩,λx H2 y=>?_⟩;obtain⟨eH,y⟩:=y;subst eH;have:=y xs h';rw[e1] at this;cases this;exact⟨Same.refl _,rv⟩
theorem YR.tup{a:aed}(h:SqT K H a xs)(r:aU K O H ds xs):YR K O H (Itt K a) ds:=by
 intro O' H' q;have h':SqT K H' a xs:=SqT.ext q.ext h;have r':=r.go q;intro i;refine⟨λd e=>?_,λe=>⟨xs,h',by rw[<-r.length];exact e⟩⟩;obtain⟨v,e1,rv⟩:=r'.get e;refine⟨⟨xs,v,h',e1⟩,λx H2 y=>?_⟩;obtain⟨eH,y⟩:=y;subst eH;have:=y xs h';rw[e1] at this;cases this;exact⟨Same.refl _,rv⟩
def eU(f:aB->R D):aB->R (List D):=λρ=>(f ρ).bind eF
theorem dU{l:aer}{f:aB->R D}(h:DE X l f):DI X tg l (eU f):=by
 refine PI.imp (ab7 h) λσ H Q q=>?_;obtain⟨ρ,O,j,q⟩:=q;refine go j q λd x H1 e1 s1 r1 j1 h1=>?_;cases d with
 | tup ds=>
  obtain⟨a,xs,rfl,hq,r⟩:=r1.tup;exact⟨a,rfl,.inr ⟨⟨xs,hq⟩,fin h1 (YR.tup hq r)⟩⟩
 | lst ds=>
  obtain⟨a,xs,rfl,hq,n,r⟩:=r1.lst;exact⟨a,rfl,.inl ⟨⟨xs,hq⟩,fin h1 (YR.lst hq n r)⟩⟩
 |_=>exact h1.elim
def upto(lo:Int)(n:Nat):List D:=(aee n).map λ(i:Nat)=>D.int (lo+(i:Int))
theorem YR.rng(lo:Int)(n:Nat):YR K O H (Itr lo n) (upto lo n):=by
 intro O' H' q i;have hl:(upto lo n).length=n:=by simp[upto]
 refine⟨λd e=>?_,λe=>by rw[hl] at e;exact e⟩;have hi:i<n:=by rw[<-hl];exact (z1b e).1
 have e2:d=D.int (lo+(i:Int)):=by
  simp only[upto,z2b,aeJ hi] at e;exact (aeG e).symm
 subst e2;refine⟨hi,λx H2 y=>?_⟩;obtain⟨eH,y⟩:=y;subst eH;subst y;exact⟨Same.refl _,cP _⟩
def jm:List D->R (List D)
 |[.int j]=>if -(2^62)<=j/\j<2^62 then .ok (upto 0 j.toNat) else .bad
 |_=> .bad
def Hf:List D->R (List D)
 |[.int i,.int j]=>if -(2^62)<=i/\i<2^62/\-(2^62)<=j/\j<2^62 then .ok (upto i (j - i).toNat) else .bad
 |_=> .bad
theorem aU.one(r:aU K O H [d] xs):∃x,xs=[x]/\Rep K O H d x:=by
 obtain⟨x,t,rfl,h1,h2⟩:=r.cons_inv;rw[h2.nil_inv];exact⟨x,rfl,h1⟩
theorem aU.two{e:D}(r:aU K O H [d,e] xs):∃x y,xs=[x,y]/\Rep K O H d x/\Rep K O H e y:=by
 obtain⟨x,t,rfl,h1,h2⟩:=r.cons_inv;obtain⟨y,rfl,h3⟩:=h2.one;exact⟨x,y,rfl,h1,h3⟩
variable{a b:aer}{fa:aB->R (List D)}{p pos:Pos}
theorem gG(hg:Gl X "range")(hm:X.mg "range" =none)(ha:DA X [a] fa)(hs:aei [a] X.env=[(false,eval a X.env)]:=by rfl):DI X tg (.Call (.Name "range" p) [a] [] pos) (λρ=>(fa ρ).bind jm):=by
 refine PI.imp (pi_range1 hg hm ha hs) λσ H Q q=>?_;obtain⟨ρ,O,j,q⟩:=q;refine go j q λds xs H1 e1 s1 r1 j1 h1=>?_;unfold jm at h1;split at h1
 ·obtain⟨x,rfl,rx⟩:=r1.one;split at h1
  ·rename_i i hi;exact⟨i,by rw[rx.int],hi.1,hi.2,fin h1 (YR.rng 0 i.toNat)⟩
  ·exact h1.elim
 ·exact h1.elim
theorem Nf(hg:Gl X "range")(hm:X.mg "range" =none)(ha:DA X [a,b] fa)(hs:aei [a,b] X.env=[(false,eval a X.env),(false,eval b X.env)]:=by rfl)(hs2:aei [b] X.env=[(false,eval b X.env)]:=by rfl):
  DI X tg (.Call (.Name "range" p) [a,b] [] pos) (λρ=>(fa ρ).bind Hf):=by
 refine PI.imp (pi_range2 hg hm ha hs hs2) λσ H Q q=>?_;obtain⟨ρ,O,j,q⟩:=q;refine go j q λds xs H1 e1 s1 r1 j1 h1=>?_;unfold Hf at h1;split at h1
 ·obtain⟨x,y,rfl,rx,ry⟩:=r1.two;split at h1
  ·rename_i i k hi;exact⟨i,k,by rw[rx.int,ry.int],hi,fin h1 (YR.rng i (k - i).toNat)⟩
  ·exact h1.elim
 ·exact h1.elim
end
inductive DGp (X:Cx) (gt:D->aB->R aB) (v:V) (σ:St) (H:Hp) (Q:St->Hp->Prop):Prop
 |mk (ρ:aB) (O:aed->Prop) (d:D) (ρ':aB) (j:In X O H ρ σ) (r:Rep X.K O H d v) (e:gt d ρ= .ok ρ') (q:∀σ',In X O H ρ' σ'->Q σ' H):DGp X gt v σ H Q
def DG(X:Cx)(tg:aer)(gt:D->aB->R aB):Prop:=PG X tg λv σ H Q=>DGp X gt v σ H Q
inductive ab8 (X:Cx) (gt:List D->aB->R aB) (vs:List V) (σ:St) (H:Hp) (Q:St->Hp->Prop):Prop
 |mk (ρ:aB) (O:aed->Prop) (ds:List D) (ρ':aB) (j:In X O H ρ σ) (r:aU X.K O H ds vs) (e:gt ds ρ= .ok ρ') (q:∀σ',In X O H ρ' σ'->Q σ' H):ab8 X gt vs σ H Q
def DGs(X:Cx)(ts:List aer)(gt:List D->aB->R aB):Prop:=PGs X ts λvs σ H Q=>ab8 X gt vs σ H Q
section
variable{X:Cx}{pos:Pos}
theorem In.set(j:In X O H ρ σ)(hi:i<X.N.length){v:V}(r:Rep X.K O H d v):In X O H (ρ.set i (some (.val d))) (σ.set i (some v)):=by
 have h1:i<ρ.length:=by rw[j.oH];exact hi
 have h2:i<σ.length:=by rw[j.len];exact hi
 refine⟨⟨λk e q=>?_,λk l e e' u hkl qk ql ok ol sk sl=>?_,λk l rows a rs e u hkl qk sk ha ql ol sl=>?_⟩,j.al,by rw[afP];exact j.len,by rw[afP];exact j.oH⟩
 ·by_cases hk:k=i
  ·subst hk;rw[z2a h1] at q;cases q;exact⟨v,z2a h2,r⟩
  ·rw[z1e (aeo hk)] at q;obtain⟨u,q1,q2⟩:=j.env.get k e q;exact⟨u,by rw[z1e (aeo hk)];exact q1,q2⟩
 ·have hk:k≠i:=λz=>by subst z;rw[z2a h1] at qk;cases qk;cases ok
  have hl:l≠i:=λz=>by subst z;rw[z2a h1] at ql;cases ql;cases ol
  rw[z1e (aeo hk)] at qk sk;rw[z1e (aeo hl)] at ql sl;exact j.env.sep k l e e' u hkl qk ql ok ol sk sl
 ·have hk:k≠i:=λz=>by subst z;rw[z2a h1] at qk;cases qk
  have hl:l≠i:=λz=>by subst z;rw[z2a h1] at ql;cases ql;cases ol
  rw[z1e (aeo hk)] at qk sk;rw[z1e (aeo hl)] at ql sl;exact j.env.qd k l rows a rs e u hkl qk sk ha ql ol sl
def aL(i:Nat)(d:D)(ρ:aB):R aB:= .ok (ρ.set i (some (.val d)))
theorem bx(i:Nat){x:Str}(hN:X.N.Nodup)(hi:X.N[i]?=some x:=by rfl)(hx:Loc X.env.scope x:=by first |exact afo rfl |exact afa rfl)(hf:X.fn x=true\/X.env.scope.names.lookup x=some .local:=by first |exact .inl rfl |exact .inr rfl):DG X (.Name x pos) (aL i):=by
 intro pins s σ H v u Q I r h;obtain⟨ρ,O,d,ρ',j,rd,e,q⟩:=h;cases e;exact pg_name hN hi hx hf pins s σ H v u Q I r (q _ (j.set (z1b hi).1 rd))
def nilG:List D->aB->R aB
 |[],ρ=> .ok ρ
 |_,_=> .bad
def bw(t:D->aB->R aB)(u:List D->aB->R aB):List D->aB->R aB
 |d::ds,ρ=>(t d ρ).bind λρ'=>u ds ρ'
 |_,_=> .bad
theorem jw:DGs X [] nilG:=by
 intro pins s σ H vs us Q I r h;obtain⟨ρ,O,ds,ρ',j,rd,e,q⟩:=h;cases ds with
 |nil=>cases e;exact pgs_nil pins s σ H vs us Q I r ⟨rd.nil_inv,q _ j⟩
 |cons d ds=>cases e
theorem cD{e:aer}{es:List aer}{t:D->aB->R aB}(h1:DG X e t)(h2:DGs X es u)
  (hs:(agy (e::es) X.env).map (·.2)=assign e X.env::(agy es X.env).map (·.2):=by rfl):DGs X (e::es) (bw t u):=by
 intro pins s σ H vs us Q I r h;obtain⟨ρ,O,ds,ρ',j,rd,e,q⟩:=h;cases ds with
 |nil=>cases e
 | cons d ds=>
  obtain⟨x,xs,rfl,rx,rxs⟩:=rd.cons_inv;have e':(t d ρ).bind (λρ'=>u ds ρ')= .ok ρ':=e;cases q1:t d ρ with
  |bad=>rw[q1] at e';cases e'
  |err c=>rw[q1] at e';cases e'
  | ok ρ1=>
   rw[q1] at e';refine pgs_cons h1 h2 hs pins s σ H _ us Q I r ⟨x,xs,rfl,ρ,O,d,ρ1,j,rx,q1,λσ1 j1=>?_⟩;exact⟨ρ1,O,ds,ρ',j1,rxs,e',q⟩
def dN(u:List D->aB->R aB):D->aB->R aB
 | .tup ds,ρ=>u ds ρ
 |_,_=> .bad
def dO(n:Nat)(u:List D->aB->R aB):List D->aB->R aB:=λds ρ=>if ds.length=n then u ds ρ else .bad
theorem lF{es:List aer}{k:Nat}(hc:X.calm=true)(h:DGs X es u)
  (hn:(agy es X.env).length=n:=by rfl)(hst:(agy es X.env).findIdx? (·.1)=none:=by rfl):DG X (.Tuple es k pos) (dN (dO n u)):=by
 intro pins s σ H v w Q I r q;obtain⟨ρ,O,d,ρ',j,rd,e,q⟩:=q;cases d with
 | tup ds=>
  obtain⟨a,xs,rfl,hq,rs⟩:=rd.tup;have e':(if ds.length=n then u ds ρ else .bad)= .ok ρ':=e;by_cases hl:ds.length=n
  ·rw[if_pos hl] at e';exact pg_tup hc h hn hst pins s σ H _ w Q I r ⟨a,xs,rfl,hq,by rw[<-rs.length];exact hl,ρ,O,ds,ρ',j,rs,e',q⟩
  ·rw[if_neg hl] at e';cases e'
 |_=>cases e
end
def lG(x:Str):List Str->Nat
 |[]=>0
 |y::r=>if x=y then 0 else lG x r+1
theorem qe{x:Str}:∀{N:List Str},x∈N->N[lG x N]?=some x
 |[],h=>by simp at h
 | y ::r,h=>by
  unfold lG;by_cases e:x=y
  ·rw[if_pos e,e];rfl
  ·rw[if_neg e];rcases aev.mp h with z |z
   ·exact absurd z e
   ·simpa using qe z
def pull{α:Type}(N caps:List Str)(n:Nat)(l:List (Option α)):List (Option α):=aem n none++caps.map λx=>(l[lG x N]?).join
theorem zj(N caps:List Str)(n:Nat)(l:List (Option α)):(pull N caps n l).length=n+caps.length:=by simp[pull]
theorem join_some{o:Option (Option α)}{a:α}(h:o.join=some a):o=some (some a):=by
 cases o with
 |none=>cases h
 |some o=>exact congrArg some h
theorem oJ{a:α}(h:(pull N caps n l)[i]?=some (some a)):∃j x,i=n+j/\caps[j]?=some x/\l[lG x N]?=some (some a):=by
 unfold pull at h;by_cases hi:i<n
 ·rw[ae5 (by simpa using hi),afA,if_pos hi] at h;cases h
 ·rw[aeT (by simpa using hi),afh,z2b] at h;cases e:caps[i - n]? with
  |none=>rw[e] at h;cases h
  | some x=>
   rw[e] at h;exact⟨i - n,x,by omega,e,join_some (aeG h)⟩
theorem yp{j:Nat}{x:Str}(h:caps[j]?=some x):(pull N caps n l)[n+j]?=some (l[lG x N]?).join:=by
 unfold pull;rw[aeT (by simp),afh,z2b,show n+j - n=j by omega,h];rfl
def fD(sc:afz):List Str:=(sc.names.filter λx=>decide (x.2= .free)).map (·.1)
def Hg(outer sc:afz)(ts N:List Str):Bool:=
 decide (sc.kind= .function) && sc.names.all (λx=>(!decide (x.2= .local)) || decide (sc.names.lookup x.1=some .local)) && sc.names.all (λx=>(!decide (x.2= .cell)) || decide (sc.names.lookup x.1=some .cell)) &&
  (fD sc).all (λx=>(decide (outer.names.lookup x=some .cell) || decide (outer.names.lookup x=some .free)) && decide (x∈N) && decide (sc.names.lookup x=some .free)) && decide (ts++fD sc).Nodup
structure Ft(outer sc:afz)(ts N:List Str):Prop where
 kind:sc.kind= .function
 loc:∀x∈sc.names,x.2= .local->sc.names.lookup x.1=some .local
 cel:∀x∈sc.names,x.2= .cell->sc.names.lookup x.1=some .cell
 out:∀x∈fD sc,outer.names.lookup x=some .cell\/outer.names.lookup x=some .free
 mem:∀x∈fD sc,x∈N
 Ng:∀x∈fD sc,sc.names.lookup x=some .free
 nd:(ts++fD sc).Nodup
theorem ac6{outer:afz}(h:Hg outer sc ts N=true):Ft outer sc ts N:=by
 unfold Hg at h;simp only[agG,agI,decide_eq_true_eq,Bool.or_eq_true,Bool.not_eq_true',decide_eq_false_iff_not] at h;obtain⟨⟨⟨⟨h1,h2⟩,h3⟩,h4⟩,h5⟩:=h;exact⟨h1,λx hx e=>(h2 x hx).resolve_left λn=>n e,λx hx e=>(h3 x hx).resolve_left λn=>n e,λx hx=>(h4 x hx).1.1,λx hx=>(h4 x hx).1.2,λx hx=>(h4 x hx).2,h5⟩
def iU(cs:List (Str×aed)):List (Str×agE)->List (Str×aed)->List (Str×aed)
 |[],acc=>acc
 |(n,k)::r,acc=>if k= .free then iU cs r ((n,(cs.lookup n).getD 0)::acc) else iU cs r acc
theorem Vs{env:afd}(h:∀x∈scope.names,x.2= .free->∃c,env.cells.lookup x.1=some c):ag7 scope env=pure (iU env.cells scope.names []):=by
 unfold ag7;have all:∀(l:List (Str×agE)) (acc:List (Str×aed)),(∀x∈l,x.2= .free->∃c,env.cells.lookup x.1=some c)->
   (forIn l acc λx r=>match x with |(name,kind)=>if (kind ==afk)=true then do let a <-cellOf env name;pure (ah0 ((name,a)::r)) else pure (ah0 r):Sem (List (Str×aed)))=pure (iU env.cells l acc):=by
  intro l
  induction l with
  |nil=>intro acc _;rfl
  | cons x r ih=>
   intro acc hx;obtain⟨n,k⟩:=x;rw[ags];unfold iU;by_cases hk:k= .free
   ·obtain⟨c,hc⟩:=hx (n,k) aex hk;have hc:env.cells.lookup n=some c:=hc;have e1:cellOf env n=pure c:=by unfold cellOf;rw[hc]
    subst hk;simp only[e1,hc,ag8,beq_self_eq_true,if_true,pure_bind];exact ih _ λy hy=>hx y (z2f _ hy)
   ·have e2:(k ==afk)=false:=by simpa using hk
    simp only[e2,afm,if_false,pure_bind,hk];exact ih _ λy hy=>hx y (z2f _ hy)
 simpa using all scope.names [] h
theorem nP(cs:List (Str×aed)):∀(l:List (Str×agE)) (acc:List (Str×aed)),iU cs l acc=iU cs l []++acc
 |[],acc=>rfl
 | (n,k)::r,acc=>by
  unfold iU;split
  ·rw[nP cs r (_::acc),nP cs r [_]];simp
  ·exact nP cs r acc
theorem uM(cs:List (Str×aed)):∀(l:List (Str×agE)) {n:Str} {c:aed},(n,c)∈iU cs l []->(n,afk)∈l/\c=(cs.lookup n).getD 0
 |[],_,_,h=>by simp[iU] at h
 | (m, k)::r,n,c,h=>by
  unfold iU at h;split at h
  ·rename_i hk;rw[nP] at h;rcases ahU.mp h with h |h
   ·obtain⟨h1,h2⟩:=uM cs r h;exact⟨z2f _ h1,h2⟩
   ·have e:=afZ.mp h;cases e;subst hk;exact⟨aex,rfl⟩
  ·obtain⟨h1,h2⟩:=uM cs r h;exact⟨z2f _ h1,h2⟩
theorem Hh(cs:List (Str×aed)):∀(l:List (Str×agE)) {n:Str},(n,afk)∈l->((iU cs l []).lookup n).isSome=true
 |[],_,h=>by simp at h
 | (m, k)::r,n,h=>by
  unfold iU;split
  ·rename_i hk;rw[nP,aft];rcases aev.mp h with e |h
   ·cases e;simp[agg]
   ·simp[Hh cs r h]
  ·rename_i hk;rcases aev.mp h with e |h
   ·cases e;exact absurd rfl hk
   ·exact Hh cs r h
theorem eZ:∀(l:List (Str×agE)) (n:Nat) (acc:List (Str×aed)),aeH n l acc=aeH n l []++acc
 |[],_,_=>rfl
 | (m,k)::r,n,acc=>by
  unfold aeH;split
  ·rw[eZ r _ (_::acc),eZ r _ [_]];simp
  ·exact eZ r n acc
theorem jV:∀(l:List (Str×agE)) (n:Nat) {x:Str} {c:aed},(x,c)∈aeH n l []->(x,agN)∈l/\n<=c
 |[],_,_,_,h=>by simp[aeH] at h
 | (m, k)::r,n,x,c,h=>by
  unfold aeH at h;split at h
  ·rename_i hk;rw[eZ] at h;rcases ahU.mp h with h |h
   ·obtain⟨h1,h2⟩:=jV r _ h;exact⟨z2f _ h1,by omega⟩
   ·have e:=afZ.mp h;cases e;have:k= .cell:=by simpa using hk
    subst this;exact⟨aex,z0g _⟩
  ·obtain⟨h1,h2⟩:=jV r _ h;exact⟨z2f _ h1,h2⟩
section
variable{M:Model}{A:aeF}{E:aef->aeg->Prop}{s:aeg}
theorem Xe{globals:aed}{cl:List (Str×aed)}{qual:Str}{env:afd}{Q:afd->aeg->Prop}
  (hQ:Q (newEnv scope s.heap.objs.size globals (aeH (s.heap.objs.size+1) scope.names cl) qual none .none (some env) agP) {s with heap:=pushCells (s.heap.push {cls:= .type "dict",data:= .dict #[]}) scope.names}):
  aen M A (ah9 scope globals cl [] qual none .none (some env)) Q E s:=by
 simp only[ah9,Option.isSome_some,if_true];refine aec (wpAny_alloc ?_);refine aec (wpAny_layCells _ (λname kind cells=>by cases hkc:kind ==agN <;> simp[hkc]) _ _ _ _ ?_);rw[show ({s with heap:=s.heap.push {cls:= .type "dict",data:= .dict #[]}}:aeg).heap.objs.size=s.heap.objs.size+1 from aeW ..];exact aec (aej (aej hQ))
end
def ig(scope:afz)(env:afd)(C:aed):afd:=
 {scope:=relabel scope env,locals:=C,globals:=env.globals,cells:=aeH (C+1) scope.names (iU env.cells scope.names []),qual:=env.qual,func:=none,code:=env.code,frame:=env.frame,builtins:=env.builtins}
def cZ(X:Cx)(scope:afz)(ts:List Str)(C:aed)(s:aeg)(H:Hp)(ex:List aed):Cx where
 prog:=X.prog
 w:=X.w
 K:=X.K
 mg:=X.mg
 base:=X.base
 A:=X.A
 N:=ts++fD scope
 s₀:=s
 H₀:=H
 env:=ig scope X.env C
 outer:=X.stack
 stack:=X.stack
 ex:=ex
 fn:=λx=>decide (scope.names.lookup x=some .cell)
 calm:=X.calm
 pn:=[]
 xe:=λ_ _=>False
theorem qg{scope:afz}{env:afd}{x:Str}:∀{names:List (Str×agE)},
  (names.map λ(n,k)=>if (k ==afk && env.scope.kind == .function && env.kindOf n ==some .cell) then (n,agN) else (n,k)).lookup x =
   (names.lookup x).map λk=>if (k ==afk && env.scope.kind == .function && env.kindOf x ==some .cell) then .cell else k
 |[]=>rfl
 | (n, k)::r=>by
  have ih:= @qg scope env x r;rw[z1h];show List.lookup x ((if (k ==afk && env.scope.kind == .function && env.kindOf n ==some .cell)=true then (n,agN) else (n,k))::_)=_;cases hx:x ==n with
  | true=>
   have e:x=n:=by simpa using hx
   subst e;by_cases hc:(k ==afk && env.scope.kind == .function && env.kindOf x ==some .cell)=true
   ·rw[if_pos hc];simp only[agg,beq_self_eq_true,ahp,hc,if_true]
   ·rw[if_neg hc];simp only[agg,beq_self_eq_true,ahp,hc,if_false] <;> rfl
  | false=>
   by_cases hc:(k ==afk && env.scope.kind == .function && env.kindOf n ==some .cell)=true
   ·rw[if_pos hc];simp only[agg,hx];exact ih
   ·rw[if_neg hc];simp only[agg,hx];exact ih
theorem uN{x:Str}(h:(x,afk)∈sc.names):x∈fD sc:=afu.mpr ⟨(x,.free),ahT.mpr ⟨h,by simp⟩,rfl⟩
theorem aaV{x:Str}(h:x∈fD sc):(x,afk)∈sc.names:=by
 obtain⟨⟨n,k⟩,h1,h2⟩:=afu.mp h;obtain⟨h3,h4⟩:=ahT.mp h1;have h4:k=afk:=by simpa using h4
 subst h4;have h2:n=x:=h2;subst h2;exact h3
section
variable{X:Cx}{scope:afz}{ts:List Str}{C:aed}
theorem lH(B:Ft X.env.scope scope ts X.N)(has:∀x,(X.env.kindOf x=some .cell\/X.env.kindOf x=some .free)->∃c,X.env.cells.lookup x=some c){x:Str}{c:aed}(h:(ig scope X.env C).cells.lookup x=some c):
  (scope.names.lookup x=some .cell/\@LE.le Nat _ (C+1) c)\/(x∈fD scope/\X.env.cells.lookup x=some c):=by
 have h:(aeH (C+1) scope.names (iU X.env.cells scope.names [])).lookup x=some c:=h;rw[eZ,aft] at h;cases e:(aeH (C+1) scope.names []).lookup x with
 | some c'=>
  rw[e] at h;have e2:c'=c:=by simpa using h
  subst e2;obtain⟨h1,h2⟩:=jV _ _ (aeE e);exact .inl ⟨B.cel _ h1 rfl,h2⟩
 | none=>
  rw[e] at h;have h:(iU X.env.cells scope.names []).lookup x=some c:=by simpa using h
  obtain⟨h1,h2⟩:=uM _ _ (aeE h);have hx:=uN h1;obtain⟨c',hc'⟩:=has x (B.out x hx);rw[hc'] at h2;have h2:c=c':=h2;subst h2;exact .inr ⟨hx,hc'⟩
theorem Qt(B:Ft X.env.scope scope ts X.N){x:Str}{c:aed}(hx:x∈fD scope)(hc:X.env.cells.lookup x=some c)(has:∀x,(X.env.kindOf x=some .cell\/X.env.kindOf x=some .free)->∃c,X.env.cells.lookup x=some c):(ig scope X.env C).cells.lookup x=some c:=by
 have hs:=Hh X.env.cells scope.names (aaV hx);obtain⟨c',e⟩:=afy.mp hs;have hl:∃d,(ig scope X.env C).cells.lookup x=some d:=by
  show ∃d,(aeH (C+1) scope.names (iU X.env.cells scope.names [])).lookup x=some d;rw[eZ,aft,e];cases (aeH (C+1) scope.names []).lookup x with
  |none=>exact⟨c',rfl⟩
  |some d=>exact⟨d,rfl⟩
 obtain⟨d,hd⟩:=hl;rcases lH B has hd with⟨h1,_⟩ |⟨_,h2⟩
 ·rw[B.Ng x hx] at h1;cases h1
 ·rw[hc] at h2;cases h2;exact hd
theorem Zu(B:Ft X.env.scope scope ts X.N){x:Str}(hx:x∈fD scope):(ig scope X.env C).kindOf x=some .cell\/(ig scope X.env C).kindOf x=some .free:=by
 show (relabel scope X.env).names.lookup x=some .cell\/(relabel scope X.env).names.lookup x=some .free;have e:(relabel scope X.env).names.lookup x=(scope.names.lookup x).map λk=>if (k ==afk && X.env.scope.kind == .function && X.env.kindOf x ==some .cell) then .cell else k:=qg (scope:=scope);rw[e,B.Ng x hx];simp only[ahp];split
 ·exact .inl rfl
 ·exact .inr rfl
end
def Qu{α:Type}:R α->R α
 | .err _=> .bad
 | .ok a=> .ok a
 | .bad=> .bad
@[simp] theorem Ja {α:Type} (a:α):Qu (R.ok a)= .ok a:=rfl
def kJ(k:D->R (Option D)):List D->R (List D)
 |[]=> .ok []
 |x::xs=>(Qu (k x)).bind λo=>(kJ k xs).bind λds=> .ok (o.toList++ds)
def qj(gt:D->aB->R aB)(ft:aB->R Bool)(fe:aB->R D)(ρ:aB)(x:D):R (Option D):=
 (gt x ρ).bind λρ1=>(ft ρ1).bind λb=>if b=true then (fe ρ1).bind λd=> .ok (some d) else .ok none
def zq:Option Ent->Option Ent
 |some (.val d)=>some (.val d)
 |_=>none
def Fv(n:Nat)(caps:List Nat)(ρ:aB):aB:=aem n none++caps.map λk=>((ρ.map zq)[k]?).join
def bJ(n:Nat)(caps:List Nat)(fi:aB->R (List D))(gt:D->aB->R aB)(ft:aB->R Bool)(fe:aB->R D):aB->R D:=
 λρ=>(fi ρ).bind λxs=>(kJ (qj gt ft fe (Fv n caps ρ)) xs).bind (cap .lst)
def rG(n:Nat)(gt:D->aB->R aB):Prop:=∀d ρ ρ',gt d ρ= .ok ρ'->∀i,n<=i->ρ'[i]?=ρ[i]?
def Fw(n:Nat)(gt:List D->aB->R aB):Prop:=∀d ρ ρ',gt d ρ= .ok ρ'->∀i,n<=i->ρ'[i]?=ρ[i]?
theorem aW(h:i<n):rG n (aL i):=λd ρ ρ' e j hj=>by
 cases e;rw[z1e (by omega)]
theorem gH:Fw n nilG:=λd ρ ρ' e j hj=>by
 cases d with
 |nil=>cases e;rfl
 |cons _ _=>cases e
theorem bK{t:D->aB->R aB}(h1:rG n t)(h2:Fw n u):Fw n (bw t u):=λd ρ ρ' e j hj=>by
 cases d with
 |nil=>cases e
 | cons d ds=>
  have e':(t d ρ).bind (λρ'=>u ds ρ')= .ok ρ':=e;cases q:t d ρ with
  |ok ρ1=>rw[q] at e';rw[h2 ds ρ1 ρ' e' j hj,h1 d ρ ρ1 q j hj]
  |err c=>rw[q] at e';cases e'
  |bad=>rw[q] at e';cases e'
theorem gJ{m:Nat}(h:Fw n u):rG n (dN (dO m u)):=λd ρ ρ' e j hj=>by
 cases d with
 | tup ds=>
  have e':(if ds.length=m then u ds ρ else .bad)= .ok ρ':=e;by_cases hl:ds.length=m
  ·rw[if_pos hl] at e';exact h ds ρ ρ' e' j hj
  ·rw[if_neg hl] at e';cases e'
 |_=>cases e
def Qv(Y:Cx)(ifs:List aer)(ft:aB->R Bool):Prop:=∀(pins:List (aed×Obj)) (s:aeg) (σ:St) (H:Hp) (Q:Bool->Hp->Prop),Inv Y pins σ H s->tG Y rB ft σ H Q->
 aen (model Y.prog Y.w) Y.A (forIn ifs true λc r=>if r=true then do let ok <-isTrue c Y.env (eval c Y.env);pure (ah0 ok) else pure (ah0 r)) (TP Y pins σ Q) Y.xe s
theorem bM:Qv Y [] (λ_=> .ok true):=λpins s σ H Q I h=>by
 obtain⟨ρ,O,j,h⟩:=h;exact wpAny_tests_nil ⟨H,I,fin h rfl⟩
theorem aaW{c:aer}{p:aB->R Bool}(hc:DT Y c p):Qv Y [c] p:=λpins s σ H Q I h=>wpAny_tests_one (hc pins s σ H Q I h)
theorem Xf{k:D->R (Option D)}{x:D}{xs:List D}{all:List D}(h:kJ k (x::xs)= .ok all):∃o rest,k x= .ok o/\kJ k xs= .ok rest/\all=o.toList++rest:=by
 have h:(Qu (k x)).bind (λo=>(kJ k xs).bind λds=> .ok (o.toList++ds))= .ok all:=h;cases e:k x with
 |bad=>rw[e] at h;cases h
 |err c=>rw[e] at h;cases h
 | ok o=>
  rw[e] at h;cases e2:kJ k xs with
  |bad=>rw[e2] at h;cases h
  |err c=>rw[e2] at h;cases h
  | ok rest=>
   rw[e2] at h;cases h;exact⟨o,rest,rfl,rfl,rfl⟩
theorem Jb{k:D->R (Option D)}:∀{xs:List D} {c:Str},kJ k xs≠.err c
 |[],c=>λh=>by cases h
 | x ::xs,c=>λh=>by
  have h:(Qu (k x)).bind (λo=>(kJ k xs).bind λds=> .ok (o.toList++ds))= .err c:=h;cases e:k x with
  |bad=>rw[e] at h;cases h
  |err c=>rw[e] at h;cases h
  | ok o=>
   rw[e] at h;cases e2:kJ k xs with
   |bad=>rw[e2] at h;cases h
   |err c'=>exact Jb e2
   |ok rest=>rw[e2] at h;cases h
section
variable{X:Cx}
theorem Vt{o:Option Ent}{e:Ent}(h:zq o=some e):o=some e/\e.Uk=true:=by
 cases o with
 |none=>cases h
 | some e'=>
  cases e' with
  |val d=>cases h;exact⟨rfl,rfl⟩
  |lst _=>cases h
  |Ay _=>cases h
  |rws _=>cases h
  |obj _=>cases h
theorem uO{e:Ent}(h:(ρ.map zq)[i]?=some (some e)):ρ[i]?=some (some e)/\e.Uk=true:=by
 rw[z2b] at h;cases q:ρ[i]? with
 |none=>rw[q] at h;cases h
 | some o=>
  rw[q] at h;obtain⟨h1,h2⟩:=Vt (aeG h);rw[h1];exact⟨rfl,h2⟩
theorem In.vals(j:In X O H ρ σ):In X O H (ρ.map zq) σ:=
 ⟨⟨λi e h=>j.env.get i e (uO h).1,λi k e e' v hik hi hk=>j.env.sep i k e e' v hik (uO hi).1 (uO hk).1,λi k rows a rs e v hik hi=>by cases (uO hi).2⟩,j.al,j.len,by rw[z1g];exact j.oH⟩
theorem Vu{ks:List Nat}(h:caps.map (λx=>lG x N)=ks):pull N caps n (ρ.map zq)=Fv n ks ρ:=by
 unfold pull Fv;rw[<-h,afc];rfl
theorem aaX{pins:List (aed×Obj)}{s:aeg}{fp:List aed}(I:Inv X pins σ H s)(B:Ft X.env.scope scope ts X.N)
  (hf:∀b∈fp,FpOk X pins H b)(ho:∀b∈fp,b<s.heap.objs.size){h4:aes}{C:Nat}(hC:C=s.heap.objs.size+1)
  (e4:h4=pushCells ((s.heap.push {cls:= .type "list",dict:=none,data:= .seq ([]:List aef).toArray}).push {cls:= .type "dict",data:= .dict #[]}) scope.names):
  Inv (cZ X scope ts C s H fp) [] (pull X.N (fD scope) ts.length σ) (upd H s.heap.objs.size (.lst [])) {s with heap:=h4}:=by
 have hD:H s.heap.objs.size=none:=I.hok.fresh (z0g _);have aaL:∀b o,(s.heap.push {cls:= .type "list",dict:=none,data:= .seq ([]:List aef).toArray}).get? b=some o->h4.get? b=some o:=λb o e=>by
  rw[e4];exact ahq _ _ b o (z1a _ e)
 have keep:∀b o,s.heap.get? b=some o->h4.get? b=some o:=λb o e=>aaL b o (z1a _ e);have sz3:(s.heap.push {cls:= .type "list",dict:=none,data:= .seq ([]:List aef).toArray}).objs.size=s.heap.objs.size+1:=aeW ..;have hns:h4.Ns C λ_=>none:=by
  rw[e4,hC,<-sz3];exact (Heap.Ns.new _ (.type "dict")).keeps (ahq _ _)
 have ok:=cellsFrom_ok scope.names ((s.heap.push {cls:= .type "list",dict:=none,data:= .seq ([]:List aef).toArray}).push {cls:= .type "dict",data:= .dict #[]}) (C+1) [] ⟨λ_ _ hm=>(nomatch hm),aiz⟩ (by rw[aeW,sz3,hC];exact z0g _);rw[aeW,sz3,<-hC,<-e4] at ok;have aaY:∀x c,(ig scope X.env C).cells.lookup x=some c->scope.names.lookup x=some .cell->h4.IsCell c none:=λx c h hk=>by
  have h:(aeH (C+1) scope.names (iU X.env.cells scope.names [])).lookup x=some c:=h;rw[eZ,aft] at h;cases e:(aeH (C+1) scope.names []).lookup x with
  | some c'=>
   rw[e] at h;have e2:c'=c:=by simpa using h
   subst e2;exact (ok.empty x c' (aeE e)).1
  | none=>
   rw[e] at h;have h:(iU X.env.cells scope.names []).lookup x=some c:=by simpa using h
   have:=B.Ng x (uN (uM _ _ (aeE h)).1);rw[hk] at this;cases this
 have Vv:∀x (c:Nat),X.env.cells.lookup x=some c->c<s.heap.objs.size:=λx c e=>by
  obtain⟨v,q⟩:=I.cell x c e;exact q.lt
 have ab9:∀x c,(ig scope X.env C).cells.lookup x=some c->∃v,h4.IsCell c v:=λx c h=>by
  rcases lH B I.ok.has h with⟨h1,_⟩ |⟨_,h2⟩
  ·exact⟨_,aaY x c h h1⟩
  ·obtain⟨v,q⟩:=I.cell x c h2;exact⟨v,q.keeps keep⟩
 refine⟨⟨I.ok.mod,B.kind,I.ok.glob,I.ok.blt,by show @LE.le Nat _ s.heap.objs.size C;omega,?inj,?has,?cab,I.ok.hd,I.ok.frames,.inl rfl,?exf,I.bs,z0b I.ok.bsz I.sz,?noex,?exfs,I.stack,I.stkFree⟩,
  rfl,I.bare,Un.laid keep (z0g _) hD,⟨_,hns,?loc⟩,ab9,?free,?freeC,λp hp=>absurd (show p∈([]:List (aed×Obj)) from hp) (by simp),I.hok.laid keep (z0g _) ?new,?len⟩
 case inj=>
  intro x y c h1 h2;have h1:(ig scope X.env C).cells.lookup x=some c:=h1;have h2:(ig scope X.env C).cells.lookup y=some c:=h2;rcases lH B I.ok.has h1 with⟨a1,a2⟩ |⟨a1,a2⟩ <;> rcases lH B I.ok.has h2 with⟨b1,b2⟩ |⟨b1,b2⟩
  ·-- both its own
   have look:∀z,(ig scope X.env C).cells.lookup z=some c->scope.names.lookup z=some .cell->(z,c)∈aeH (C+1) scope.names []:=λz h hk=>by
    have h:(aeH (C+1) scope.names (iU X.env.cells scope.names [])).lookup z=some c:=h;rw[eZ,aft] at h;cases e:(aeH (C+1) scope.names []).lookup z with
    | some c'=>
     rw[e] at h;have e2:c'=c:=by simpa using h
     subst e2;exact aeE e
    | none=>
     rw[e] at h;have h:(iU X.env.cells scope.names []).lookup z=some c:=by simpa using h
     have:=B.Ng z (uN (uM _ _ (aeE h)).1);rw[hk] at this;cases this
   exact name_of_addr ok.apart (look x h1 a1) (look y h2 b1)
  ·have:=Vv y c b2;omega
  ·have:=Vv x c a2;omega
  ·exact I.ok.inj x y c a2 b2
 case has=>
  intro x hx;have hx:(relabel scope X.env).names.lookup x=some .cell\/(relabel scope X.env).names.lookup x=some .free:=hx;have hx:(scope.names.map λ(n,k)=>if (k ==afk && X.env.scope.kind == .function && X.env.kindOf n ==some .cell) then (n,agN) else (n,k)).lookup x=some .cell\/(scope.names.map λ(n,k)=>if (k ==afk && X.env.scope.kind == .function && X.env.kindOf n ==some .cell) then (n,agN) else (n,k)).lookup x=some .free:=hx;rw[qg (scope:=scope)] at hx;cases e:scope.names.lookup x with
  |none=>rw[e] at hx;rcases hx with z |z <;> cases z
  | some k=>
   rw[e] at hx;by_cases hk:k= .free
   ·subst hk;have hm:=uN (aeE e);obtain⟨c,hc⟩:=I.ok.has x (B.out x hm);exact⟨c,Qt B hm hc I.ok.has⟩
   ·have hk':(k ==afk)=false:=by simpa using hk
    simp only[ahp,hk',ah8,afm,if_false] at hx;have hc:k= .cell:=by
     rcases hx with z |z
     ·exact aeG z
     ·exact absurd (aeG z) hk
    subst hc;have q:=agl scope.names (C+1) (iU X.env.cells scope.names []) (.inl e);exact afy.mp q
 case cab=>
  intro x c hfn h;have h:(ig scope X.env C).cells.lookup x=some c:=h;have hfn:scope.names.lookup x=some .cell:=of_decide_eq_true hfn;rcases lH B I.ok.has h with⟨_,a2⟩ |⟨a1,_⟩
  ·show @LE.le Nat _ s.heap.objs.size c;omega
  ·rw[B.Ng x a1] at hfn;cases hfn
 case exf=>
  intro b hb;have hb:b∈fp:=hb;have hl: @LT.lt Nat _ b s.heap.objs.size:=ho b hb;refine⟨by show @Ne Nat b C;omega,λx c h=>?_⟩;rcases lH B I.ok.has h with⟨_,a2⟩ |⟨_,a2⟩
  ·show @Ne Nat c b;omega
  ·exact (hf b hb).2.2.2.2.1 x c a2
 case noex=>
  intro b o e hb;have hb:b∈fp:=hb;rcases (hf b hb).2.2.2.1 with z |z
  ·exact I.ok.noex b o e z
  ·exact absurd (z0d (z2c e) (z0b I.ok.bsz z)) (afj _)
 case exfs=>
  intro b hb hz;have hb:b∈fp:=hb;have hz:b∈frs X.stack:=hz;rcases aev.mp (I.stkSub b hz) with z |z
  ·exact (hf b hb).2.1 z
  ·exact (hf b hb).2.2.1 z
 case loc=>
  intro i x v h1 h2 h3;have h1:(ts++fD scope)[i]?=some x:=h1;obtain⟨k,y,e1,e2,e3⟩:=oJ h2;have hy:x=y:=by
   rw[e1,aeT (by omega),show ts.length+k - ts.length=k by omega,e2] at h1;exact (aeG h1).symm
  subst hy;have hm:x∈fD scope:=ae0 e2;obtain⟨m,_,hl⟩:=I.loc;have vis:Vis X.env.scope x:=by
   rcases B.out x hm with z |z
   ·exact .inr (.inl z)
   ·exact .inr (.inr z)
  obtain⟨u,ru,lk⟩:=hl (lG x X.N) x v (qe (B.mem x hm)) e3 vis;refine⟨u,ru,.inr ⟨Zu B hm,?_⟩⟩;rcases lk with⟨z,_⟩ |⟨_,c,hc,q⟩
  ·have z:X.env.scope.names.lookup x=some .local:=z;rcases B.out x hm with z' |z' <;> rw[z] at z' <;> cases z'
  ·exact⟨c,Qt B hm hc I.ok.has,q.keeps keep⟩
 case free=>
  show upd H s.heap.objs.size (.lst []) C=none;rw[upd_ne (show @Ne Nat C s.heap.objs.size by omega)];exact I.hok.fresh (show @LE.le Nat _ s.heap.objs.size C by omega)
 case freeC=>
  intro x c h;rcases lH B I.ok.has h with⟨_,a2⟩ |⟨_,a2⟩
  ·rw[upd_ne (show @Ne Nat c s.heap.objs.size by omega)];exact I.hok.fresh (show @LE.le Nat _ s.heap.objs.size c by omega)
  ·have:=Vv x c a2;rw[upd_ne (show @Ne Nat c s.heap.objs.size by omega)];exact I.freeC x c a2
 case new=>
  exact⟨agT _,[],0,.nil,aaL _ _ (z1f _ rfl)⟩
 case len=>
  show (pull X.N (fD scope) ts.length σ).length=(ts++fD scope).length;rw[zj,z1d]
theorem acd{s:aeg}{fp:List aed}{C:aed}(B:Ft X.env.scope scope ts X.N)(j:In X O H ρ σ):In (cZ X scope ts C s H fp) O H (pull X.N (fD scope) ts.length ρ) (pull X.N (fD scope) ts.length σ):=by
 refine⟨⟨λi e h=>?_,λi k e e' v hik hi hk oi ok si sk=>?_,λi k rows a rs e v hik hi si ha hk ok sk=>?_⟩,j.al,?_,?_⟩
 ·obtain⟨m,x,rfl,e1,e2⟩:=oJ h;obtain⟨v,e3,r⟩:=j.env.get _ e e2;exact⟨v,by rw[yp e1,e3];rfl,r⟩
 ·obtain⟨m,x,rfl,e1,e2⟩:=oJ hi;obtain⟨m',x',rfl,e1',e2'⟩:=oJ hk;have hx:x≠x':=λz=>by
   subst z;have nd:=(aiA.mp B.nd).2.1;exact hik (by rw[nodup_ix nd e1 e1'])
  have hm:=B.mem x (ae0 e1);have hm':=B.mem x' (ae0 e1');have hne:lG x X.N≠lG x' X.N:=λz=>by
   have q1:=qe hm;have q2:=qe hm';rw[z,q2] at q1;exact hx (aeG q1).symm
  rw[yp e1] at si;rw[yp e1'] at sk;exact j.env.sep _ _ e e' v hne e2 e2' oi ok (join_some (aeG si)) (join_some (aeG sk))
 ·obtain⟨m,x,rfl,e1,e2⟩:=oJ hi;obtain⟨m',x',rfl,e1',e2'⟩:=oJ hk;have hx:x≠x':=λz=>by
   subst z;have nd:=(aiA.mp B.nd).2.1;exact hik (by rw[nodup_ix nd e1 e1'])
  have hm:=B.mem x (ae0 e1);have hm':=B.mem x' (ae0 e1');have hne:lG x X.N≠lG x' X.N:=λz=>by
   have q1:=qe hm;have q2:=qe hm';rw[z,q2] at q1;exact hx (aeG q1).symm
  rw[yp e1] at si;rw[yp e1'] at sk;exact j.env.qd _ _ rows a rs e v hne e2 (join_some (aeG si)) ha e2' ok (join_some (aeG sk))
 ·show (pull X.N (fD scope) ts.length σ).length=(ts++fD scope).length;rw[zj,z1d]
 ·show (pull X.N (fD scope) ts.length ρ).length=(ts++fD scope).length;rw[zj,z1d]
end
theorem iH:1000000<sizeLine:=by rw[agj];decide
section
variable{X:Cx}
theorem In.back{ρ1:aB}(j:In Y O H ρ1 σ)(h0:∀i,i<n->ρ[i]?=some none)(h1:∀i,n<=i->ρ1[i]?=ρ[i]?)(hl:ρ.length=Y.N.length):In Y O H ρ σ:=by
 have sub:∀(i:Nat) e,ρ[i]?=some (some e)->ρ1[i]?=some (some e):=λi e h=>by
  by_cases hi:i<n
  ·rw[h0 i hi] at h;cases h
  ·rw[h1 i (by omega)];exact h
 exact⟨⟨λi e h=>j.env.get i e (sub i e h),λi k e e' v hik hi hk=>j.env.sep i k e e' v hik (sub i e hi) (sub k e' hk),λi k rows a rs e v hik hi si ha hk=>j.env.qd i k rows a rs e v hik (sub i _ hi) si ha (sub k e hk)⟩,j.al,j.len,hl⟩
theorem Xg(h:i<n):(pull N caps n l)[i]?=some none:=by
 unfold pull;rw[ae5 (by simpa using h),afA,if_pos h]
theorem In.go{O':aed->Prop}{H':Hp}(j:In Y O H ρ σ)(hv:∀(i:Nat) e,ρ[i]?=some (some e)->e.Uk=true)(r:gD Y.K O H O' H')(al:∀a,O' a->∃o,H' a=some o):In Y O' H' ρ σ:=by
 refine⟨⟨λi e h=>?_,λi k e e' v _ hi _ oi=>?_,λi k rows a rs e v _ hi=>by cases hv i _ hi⟩,al,j.len,j.oH⟩
 ·obtain⟨v,h1,h2⟩:=j.env.get i e h;refine⟨v,h1,?_⟩;cases e with
  |val d=>exact Rep.go r h2
  |lst _=>cases hv i _ h
  |Ay _=>cases hv i _ h
  |rws _=>cases hv i _ h
  |obj _=>cases hv i _ h
 ·rw[aaU (hv i e hi)] at oi;cases oi
theorem Nh:∀(i:Nat) e,(pull N caps n (ρ.map zq))[i]?=some (some e)->e.Uk=true:=λi e h=>by
 obtain⟨_,_,_,_,q⟩:=oJ h;exact (uO q).2
end
inductive So where
 |bad |nx (ρ:aB) |rt (d:D) |bk (ρ:aB) |ct (ρ:aB) |ex (c:Str) (ρ:aB)
def Qh(H0:Hp)(O0:aed->Prop)(H:Hp)(ρ:aB)(σ:St):Prop:=∀(i:Nat) (rows:List (List D)) (a:aed) (rs:List aed),ρ[i]?=some (some (.rws rows))->σ[i]?=some (some (.ref a))->H a=some (.lst (rs.map V.ref))->∀r∈rs,H0 r=none/\¬O0 r
structure At(X:Cx)(H0:Hp)(O0 O:aed->Prop)(H:Hp)(ρ:aB)(σ:St):Prop where
 same:Same H0 H
 gq:gD X.K O0 H0 O H
 sub:∀a,O0 a->O a
 inn:In X O H ρ σ
 mine:∀(i:Nat) e a,ρ[i]?=some (some e)->e.own=true->σ[i]?=some (some (.ref a))->H0 a=none/\¬O0 a
 wH:Qh H0 O0 H ρ σ
def yq(X:Cx)(H0:Hp)(O0 O:aed->Prop)(H:Hp)(E:Ends)(o:So):Prop:=match o with
 | .nx ρ'=>∀σ' H' O',At X H0 O0 O' H' ρ' σ'->gD X.K O H O' H'->E.nx σ' H'
 | .bk ρ'=>∀σ' H' O',At X H0 O0 O' H' ρ' σ'->gD X.K O H O' H'->E.bk σ' H'
 | .ct ρ'=>∀σ' H' O',At X H0 O0 O' H' ρ' σ'->gD X.K O H O' H'->E.ct σ' H'
 | .rt d=>∀v H',Same H0 H'->Rep X.K O0 H' d v->E.rt v H'
 | .ex c ρ'=>∀σ' H' O',At X H0 O0 O' H' ρ' σ'->M8 X c σ' H'
 | .bad=>False
theorem yq.go{H1:Hp}{O1:aed->Prop}{E:Ends}{o:So}(h:yq X H0 O0 O H E o)(r:gD X.K O H O1 H1):yq X H0 O0 O1 H1 E o:=by
 cases o with
 |bad=>exact h
 |rt d=>exact h
 |bk ρ2=>exact λσ2 H2 O2 j2 r2=>h σ2 H2 O2 j2 (r.trans r2)
 |ct ρ2=>exact λσ2 H2 O2 j2 r2=>h σ2 H2 O2 j2 (r.trans r2)
 |nx ρ2=>exact λσ2 H2 O2 j2 r2=>h σ2 H2 O2 j2 (r.trans r2)
 |ex c ρ2=>exact h
def tS(X:Cx)(g:aB->So):TS:=λE σ H=>∃H0 O0 O ρ,At X H0 O0 O H ρ σ/\yq X H0 O0 O H E (g ρ)
def DS(X:Cx)(st:aeA)(g:aB->So):Prop:=PS X st (tS X g)
def jW(X:Cx)(st:List aeA)(g:aB->So):Prop:=PSs X st (tS X g)
theorem PS.imp{e:aeA}{t t':TS}(h:PS X e t)(w:∀σ H Q,t' Q σ H->t Q σ H):PS X e t':=λpins s σ H Q I q=>h pins s σ H Q I (w σ H Q q)
theorem PSs.imp{e:List aeA}{t t':TS}(h:PSs X e t)(w:∀σ H Q,t' Q σ H->t Q σ H):PSs X e t':=λpins s σ H Q I q=>h pins s σ H Q I (w σ H Q q)
section
variable{X:Cx}{H0 H H1:Hp}{O0 O:aed->Prop}{ρ:aB}{σ:St}
theorem Qh.of(h:Qh H0 O0 H ρ σ)(w:∀(i:Nat) (rows:List (List D)) (a:aed) (rs:List aed),ρ[i]?=some (some (.rws rows))->σ[i]?=some (some (.ref a))->H1 a=some (.lst (rs.map V.ref))->H a=some (.lst (rs.map V.ref))):Qh H0 O0 H1 ρ σ:=λi rows a rs hi hs ha=>h i rows a rs hi hs (w i rows a rs hi hs ha)
theorem At.grow(j:At X H0 O0 O H ρ σ)(s:Same H H1):At X H0 O0 O H1 ρ σ:=⟨j.same.trans s,j.gq.trans (Same.gq s),j.sub,j.inn.same s,j.mine,j.wH.of λi rows a rs hi hs ha=>j.inn.env.back s hi hs ha⟩
theorem At.set(j:At X H0 O0 O H ρ σ)(hi:i<X.N.length){v:V}(r:Rep X.K O H d v):At X H0 O0 O H (ρ.set i (some (.val d))) (σ.set i (some v)):=by
 have h1:i<ρ.length:=by rw[j.inn.oH];exact hi
 refine⟨j.same,j.gq,j.sub,j.inn.set hi r,λk e a h ho hs=>?_,λk rows a rs h hs=>?_⟩
 ·by_cases hk:k=i
  ·subst hk;rw[z2a h1] at h;cases h;cases ho
  ·rw[z1e (aeo hk)] at h hs;exact j.mine k e a h ho hs
 ·by_cases hk:k=i
  ·subst hk;rw[z2a h1] at h;cases h
  ·rw[z1e (aeo hk)] at h hs;exact j.wH k rows a rs h hs
def Qi:Option Ent->Option Ent
 |some (.lst ds)=>some (.val (.lst ds))
 |some (.rws rows)=>some (.val (.lst (rows.map D.lst)))
 |o=>o
def eE(ρ:aB):aB:=ρ.map Qi
def Ul(H:Hp)(ρ:aB)(σ:St)(O:aed->Prop):aed->Prop:=λa=>O a/\(∀(i:Nat) ds,ρ[i]?=some (some (.lst ds))->σ[i]?≠some (some (.ref a)))/\∀(i:Nat) (rows:List (List D)) (b:aed) (rs:List aed),ρ[i]?=some (some (.rws rows))->σ[i]?=some (some (.ref b))->H b=some (.lst (rs.map V.ref))->a∉b::rs
theorem Hi{e:Ent}(h:(eE ρ)[i]?=some (some e)):(ρ[i]?=some (some e)/\(∀ds,e≠.lst ds)/\∀rows,e≠.rws rows)\/(∃ds,ρ[i]?=some (some (.lst ds))/\e= .val (.lst ds))\/∃rows,ρ[i]?=some (some (.rws rows))/\e= .val (.lst (rows.map D.lst)):=by
 unfold eE at h;rw[z2b] at h;cases q:ρ[i]? with
 |none=>rw[q] at h;cases h
 | some o=>
  rw[q] at h;have h:Qi o=some e:=aeG h;cases o with
  |none=>cases h
  | some e'=>
   cases e' with
   |val d=>cases h;exact .inl ⟨rfl,(λ_ z=>by cases z),(λ_ z=>by cases z)⟩
   |lst ds=>cases h;exact .inr (.inl ⟨ds,rfl,rfl⟩)
   |Ay kvs=>cases h;exact .inl ⟨rfl,(λ_ z=>by cases z),(λ_ z=>by cases z)⟩
   |obj t=>cases h;exact .inl ⟨rfl,(λ_ z=>by cases z),(λ_ z=>by cases z)⟩
   |rws rows=>cases h;exact .inr (.inr ⟨rows,rfl,rfl⟩)
theorem Ni{K:aeh}{O':aed->Prop}:∀{rs:List aed} {rows:List (List D)},rs.length=rows.length->(∀(i:Nat) r row,rs[i]?=some r->rows[i]?=some row->Rep K O' H (.lst row) (.ref r))->aU K O' H (rows.map D.lst) (rs.map V.ref)
 |[],[],_,_=> .nil
 |[],_::_,h,_=>by cases h
 |_::_,[],h,_=>by cases h
 |r::rs,row::rows,h,n=> .cons (n 0 r row rfl rfl) (Ni (Nat.succ.inj h) λi r row e1 e2=>n (i+1) r row e1 e2)
theorem In.eE(j:In X O H ρ σ):In X (Ul H ρ σ O) H (Pu.eE ρ) σ:=by
 refine⟨⟨λi e h=>?_,λi k e e' v hik hi hk oi ok si sk=>?_,λi k rows a rs e v hik hi=>?_⟩,λa z=>j.al a z.1,j.len,by unfold Pu.eE;rw[z1g];exact j.oH⟩
 ·rcases Hi h with⟨h1,h2,h2'⟩ |⟨ds,h1,rfl⟩ |⟨rows,h1,rfl⟩
  ·obtain⟨v,h3,h4⟩:=j.env.get i e h1;refine⟨v,h3,?_⟩;cases e with
   |val d=>exact Rep.fewer (λa z=>z.1) h4
   |lst ds=>exact absurd rfl (h2 ds)
   |rws rows=>exact absurd rfl (h2' rows)
   |obj t=>exact h4
   | Ay kvs=>
    obtain⟨a,ys,e1,o1,e2,k1,r1⟩:=h4;refine⟨a,ys,e1,⟨o1,λk ds hk hs=>?_,λk rows b rs hk hs hb hm=>?_⟩,e2,k1,r1.fewer λa z=>z.1⟩
    ·by_cases hik:i=k
     ·subst hik;rw[h1] at hk;cases hk
     ·exact j.env.sep i k _ _ v hik h1 hk rfl rfl h3 (by rw[e1];exact hs)
    ·by_cases hik:i=k
     ·subst hik;rw[h1] at hk;cases hk
     ·rcases aev.mp hm with z |z
      ·exact j.env.sep i k _ _ v hik h1 hk rfl rfl h3 (by rw[e1,z];exact hs)
      ·exact (j.env.qd k i rows b rs _ v (aeo hik) hk hs hb h1 rfl h3).1 a z e1
  ·obtain⟨v,h3,a,xs,e1,o1,e2,r1⟩:=j.env.get i _ h1;exact⟨v,h3,by rw[e1];exact oU (SqL.of e2) (λz=>z.2.1 i ds h1 (by rw[<-e1];exact h3)) (r1.fewer λa z=>z.1)⟩
  ·obtain⟨v,h3,a,rs,e1,R⟩:=j.env.get i _ h1;refine⟨v,h3,?_⟩;have hs:σ[i]?=some (some (.ref a)):=by rw[<-e1];exact h3
   rw[e1];refine oU (SqL.of R.at_) (λz=>z.2.2 i rows a rs h1 hs R.at_ (aex ..)) (Ni R.len λk r row q1 q2=>?_);obtain⟨_,xs,q3,q4⟩:=R.row k r row q1 q2;exact oU (SqL.of q3) (λz=>z.2.2 i rows a rs h1 hs R.at_ (z2f _ (ae0 q1))) (q4.fewer λa z=>z.1)
 ·have un:∀{m:Nat} {e:Ent},(Pu.eE ρ)[m]?=some (some e)->e.own=true->ρ[m]?=some (some e):=λ{m e} h ho=>by
   rcases Hi h with⟨h1,_⟩ |⟨ds,_,rfl⟩ |⟨rows,_,rfl⟩
   ·exact h1
   ·cases ho
   ·cases ho
  exact j.env.sep i k e e' v hik (un hi oi) (un hk ok) oi ok si sk
 ·rcases Hi hi with⟨_,_,h2⟩ |⟨ds,_,z⟩ |⟨_,_,z⟩
  ·exact absurd rfl (h2 rows)
  ·cases z
  ·cases z
theorem At.adG(j:At X H0 O0 O H ρ σ):∀a,O0 a->Ul H ρ σ O a:=λa z=>⟨j.sub a z,λi ds h hs=>(j.mine i _ a h rfl hs).2 z,λi rows b rs h hs hb hm=>by
 rcases aev.mp hm with q |q
 ·subst q;exact (j.mine i _ _ h rfl hs).2 z
 ·exact (j.wH i rows b rs h hs hb a q).2 z⟩
end
section
variable{X:Cx}{st:aeA}{rest:List aeA}{g k:aB->So}{f:aB->R D}{p:aB->R Bool}{e:aer}{pos:Pos}
def aQ(g k:aB->So):aB->So:=λρ=>match g ρ with
 | .nx ρ'=>k ρ'
 |o=>o
theorem bZ:jW X [] .nx:=PSs.imp pss_nil λσ H E h=>by
 obtain⟨H0,O0,O,ρ,j,h⟩:=h;exact h σ H O j .refl
theorem aM(h:DS X st g):jW X [st] g:=pss_one h
theorem aK(h1:DS X st g)(h2:jW X rest k):jW X (st::rest) (aQ g k):=by
 refine PSs.imp (pss_cons h1 h2) λσ H E h=>?_;obtain⟨H0,O0,O,ρ,j,h⟩:=h;unfold aQ at h;refine⟨H0,O0,O,ρ,j,?_⟩;cases e1:g ρ with
 |bad=>rw[e1] at h;exact h
 |rt d=>rw[e1] at h;exact h
 |bk ρ'=>rw[e1] at h;exact h
 |ct ρ'=>rw[e1] at h;exact h
 |ex c ρ'=>rw[e1] at h;exact h
 | nx ρ'=>
  rw[e1] at h;have h:yq X H0 O0 O H E (k ρ'):=h;exact λσ' H' O' j' r'=>⟨H0,O0,O',ρ',j',h.go r'⟩
def lA(r:R D)(ρ:aB)(k:D->So):So:=match r with
 | .ok d=>k d
 | .err c=> .ex c ρ
 | .bad=> .bad
def retS(f:aB->R D):aB->So:=λρ=>lA (f (eE ρ)) ρ .rt
theorem aX(he:DE X e f):DS X (.Return (some e) pos) (retS f):=by
 refine PS.imp (ps_ret he) λσ H E h=>?_;obtain⟨H0,O0,O,ρ,j,h⟩:=h;refine⟨eE ρ,Ul H ρ σ O,j.inn.eE,?_⟩;unfold retS lA at h;cases e1:f (eE ρ) with
 |bad=>rw[e1] at h;exact h
 |err c=>rw[e1] at h;exact h σ H O j
 |ok d=>rw[e1] at h;exact λv H' s r=>h v H' (j.same.trans s) (Rep.fewer j.adG r)
def gP(f:aB->R D):aB->So:=λρ=>lA (f (eE ρ)) ρ λ_=> .nx ρ
theorem je(he:DE X e f)(hs:ahy e none pos.line X.env=pure false:=by rfl):DS X (.Expr e pos) (gP f):=by
 refine PS.imp (ps_expr he hs) λσ H E h=>?_;obtain⟨H0,O0,O,ρ,j,h⟩:=h;refine⟨eE ρ,Ul H ρ σ O,j.inn.eE,?_⟩;unfold gP lA at h;cases e1:f (eE ρ) with
 |bad=>rw[e1] at h;exact h
 |err c=>rw[e1] at h;exact h σ H O j
 |ok d=>rw[e1] at h;exact λv H' s r=>h σ H' O (j.grow s) (Same.gq s)
def bD(f:aB->R D)(gt:D->aB->R aB):aB->So:=λρ=>lA (f ρ) ρ λd=>match gt d ρ with
 | .ok ρ'=> .nx ρ'
 |_=> .bad
theorem cB(i:Nat){x:Str}{pos':Pos}(hN:X.N.Nodup)(he:DE X e f)(hi:X.N[i]?=some x:=by rfl)(hx:Loc X.env.scope x:=by first |exact afo rfl |exact afa rfl)(hs:ahy e (some (.Name x pos')) pos.line X.env=pure false:=by rfl)
  (hf:X.fn x=true\/X.env.scope.names.lookup x=some .local:=by first |exact .inl rfl |exact .inr rfl):DS X (.Assign [.Name x pos'] e pos) (bD f (aL i)):=by
 refine PS.imp (ps_set hN hi hx he hs hf) λσ H E h=>?_;obtain⟨H0,O0,O,ρ,j,h⟩:=h;refine⟨ρ,O,j.inn,?_⟩;unfold bD lA at h;cases e1:f ρ with
 |bad=>rw[e1] at h;exact h
 |err c=>rw[e1] at h;exact h σ H O j
 |ok d=>rw[e1] at h;exact λv H' s r=>h _ H' O ((j.grow s).set (z1b hi).1 r) (Same.gq s)
theorem kh(i k:Nat){x y:Str}{py pt:Pos}{kt}(hc:X.calm=true)(hN:X.N.Nodup)(he:DE X e f)(hi:X.N[i]?=some x:=by rfl)(hk:X.N[k]?=some y:=by rfl)
  (hx:Loc X.env.scope x:=by first |exact afo rfl |exact afa rfl)(hy:Loc X.env.scope y:=by first |exact afo rfl |exact afa rfl)
  (hfx:X.fn x=true\/X.env.scope.names.lookup x=some .local:=by first |exact .inl rfl |exact .inr rfl)(Qw:X.fn y=true\/X.env.scope.names.lookup y=some .local:=by first |exact .inl rfl |exact .inr rfl)
  (hs:ahf [.Tuple [.Name x px,.Name y py] kt pt] e pos.line X.env=pure false:=by rfl)(hw:ahg [.Tuple [.Name x px,.Name y py] kt pt] e X.env=pure none:=by rfl):
  DS X (.Assign [.Tuple [.Name x px,.Name y py] kt pt] e pos) (bD f (dN (dO 2 (bw (aL i) (bw (aL k) nilG))))):=by
 refine PS.imp (ps_asg he (pg_tup hc (pgs_cons (pg_name hN hi hx hfx) (pgs_cons (pg_name hN hk hy Qw) pgs_nil))) hs hw) λσ H E h=>?_;obtain⟨H0,O0,O,ρ,j,h⟩:=h;refine⟨ρ,O,j.inn,?_⟩;unfold bD lA at h;cases e1:f ρ with
 |bad=>rw[e1] at h;exact h
 |err c=>rw[e1] at h;exact h σ H O j
 | ok d=>
  rw[e1] at h;intro v H' s r;cases d with
  | tup ds=>
   match ds,h,r with
   |[],h,_=>exact h.elim
   |[_],h,_=>exact h.elim
   |_::_::_::_,h,_=>exact (show False by simpa[dN,dO,yq] using h).elim
   | [d1,d2],h,r=>
    obtain⟨a,xs,rfl,hq,rs⟩:=r.tup;obtain⟨v1,v2,rfl,r1,r2⟩:=rs.two;refine⟨a,[v1,v2],rfl,hq,rfl,v1,[v2],rfl,v2,[],rfl,rfl,?_⟩;exact h _ H' O (((j.grow s).set (z1b hi).1 r1).set (z1b hk).1 r2) (Same.gq s)
  |_=>exact h.elim
def dH(p:aB->R Bool)(g k:aB->So):aB->So:=λρ=>match p (eE ρ) with
 | .ok true=>g ρ
 | .ok false=>k ρ
 | .err c=> .ex c ρ
 | .bad=> .bad
theorem Um{g:aB->So}{E:Ends}{H1:Hp}(j:At X H0 O0 O H ρ σ)(s:Same H H1)(h:yq X H0 O0 O H E (g ρ)):tS X g E σ H1:=
 ⟨H0,O0,O,ρ,j.grow s,h.go (Same.gq s)⟩
theorem cV{c:aer}{a b:List aeA}(hc:DT X c p)(ha:jW X a g)(hb:jW X b k):DS X (.If c a b pos) (dH p g k):=by
 refine PS.imp (ps_if hc ha hb) λσ H E h=>?_;obtain⟨H0,O0,O,ρ,j,h⟩:=h;refine⟨eE ρ,Ul H ρ σ O,j.inn.eE,?_⟩;unfold dH at h;cases e1:p (eE ρ) with
 |bad=>rw[e1] at h;exact h
 |err c=>rw[e1] at h;exact h σ H O j
 | ok t=>
  rw[e1] at h;intro b' H' s e;subst e;cases t with
  |true=>rw[if_pos rfl];exact Um j s h
  |false=>rw[if_neg aeO];exact Um j s h
def forL(gt:D->aB->R aB)(b:aB->So):List D->aB->So
 |[],ρ=> .nx ρ
 | x ::xs,ρ=>match gt x ρ with
  | .ok ρ1=>match b ρ1 with
   | .nx ρ2=>forL gt b xs ρ2
   | .ct ρ2=>forL gt b xs ρ2
   | .bk ρ2=> .nx ρ2
   |o=>o
  |_=> .bad
def uP(fi:aB->R (List D))(gt:D->aB->R aB)(b:aB->So):aB->So:=λρ=>match fi ρ with
 | .ok xs=>forL gt b xs ρ
 | .err c=> .ex c ρ
 | .bad=> .bad
inductive ace (X:Cx) (gt:D->aB->R aB) (v:V) (σ:St) (H:Hp) (Q:St->Hp->Prop):Prop
 |mk (H0:Hp) (O0 O:aed->Prop) (ρ:aB) (d:D) (ρ':aB) (j:At X H0 O0 O H ρ σ) (r:Rep X.K O H d v) (e:gt d ρ= .ok ρ') (q:∀σ',At X H0 O0 O H ρ' σ'->Q σ' H):ace X gt v σ H Q
def DGA(X:Cx)(tg:aer)(gt:D->aB->R aB):Prop:=PG X tg λv σ H Q=>ace X gt v σ H Q
theorem zu(i:Nat){x:Str}(hN:X.N.Nodup)(hi:X.N[i]?=some x:=by rfl)(hx:Loc X.env.scope x:=by first |exact afo rfl |exact afa rfl)(hf:X.fn x=true\/X.env.scope.names.lookup x=some .local:=by first |exact .inl rfl |exact .inr rfl):DGA X (.Name x pos) (aL i):=by
 intro pins s σ H v u Q I r h;obtain⟨H0,O0,O,ρ,d,ρ',j,rd,e,q⟩:=h;cases e;exact pg_name hN hi hx hf pins s σ H v u Q I r (q _ (j.set (z1b hi).1 rd))
theorem Lg(i k:Nat){x y:Str}{py:Pos}{kt}(hc:X.calm=true)(hN:X.N.Nodup)(hi:X.N[i]?=some x:=by rfl)(hk:X.N[k]?=some y:=by rfl)
  (hx:Loc X.env.scope x:=by first |exact afo rfl |exact afa rfl)(hy:Loc X.env.scope y:=by first |exact afo rfl |exact afa rfl)
  (hfx:X.fn x=true\/X.env.scope.names.lookup x=some .local:=by first |exact .inl rfl |exact .inr rfl)(Qw:X.fn y=true\/X.env.scope.names.lookup y=some .local:=by first |exact .inl rfl |exact .inr rfl):
  DGA X (.Tuple [.Name x px,.Name y py] kt pos) (dN (dO 2 (bw (aL i) (bw (aL k) nilG)))):=by
 intro pins s σ H v u Q I r h;obtain⟨H0,O0,O,ρ,d,ρ',j,rd,e,q⟩:=h;cases d with
 | tup ds=>
  match ds,e,rd with
  |[],e,_=>cases e
  |[_],e,_=>cases e
  |_::_::_::_,e,_=>simp[dN,dO] at e
  | [d1,d2],e,rd=>
   obtain⟨a,xs,rfl,hq,rs⟩:=rd.tup;obtain⟨v1,v2,rfl,r1,r2⟩:=rs.two;cases e;refine pg_tup hc (pgs_cons (pg_name hN hi hx hfx) (pgs_cons (pg_name hN hk hy Qw) pgs_nil)) rfl rfl pins s σ H _ u Q I r ⟨a,[v1,v2],rfl,hq,rfl,v1,[v2],rfl,v2,[],rfl,rfl,?_⟩;exact q _ ((j.set (z1b hi).1 r1).set (z1b hk).1 r2)
 |_=>cases e
theorem uQ{tg iter:aer}{body:List aeA}{fi:aB->R (List D)}{gt:D->aB->R aB}{b:aB->So}(hp:PassesOwn (model X.prog X.w) X.A X.env X.xe)(hc:X.calm=true)(hi:DI X tg iter fi)(hg:DGA X tg gt)(hb:jW X body b)
  (hs:∀x,af6 iter X.env x=pure x:=by intro _;rfl):DS X (.For tg iter body [] pos) (uP fi gt b):=by
 refine PS.imp (ps_for hp hc hi hg hb hs) λσ H E h=>?_;obtain⟨H0,O0,O,ρ,j,h⟩:=h;refine⟨ρ,O,j.inn,?_⟩;unfold uP at h;cases e1:fi ρ with
 |bad=>rw[e1] at h;exact h
 |err c=>rw[e1] at h;exact h σ H O j
 | ok xs =>
  rw[e1] at h;have h:yq X H0 O0 O H E (forL gt b xs ρ):=h;intro J H1 s1 yr;have j1:=j.grow s1;have q1:gD X.K O H O H1:=Same.gq s1;refine⟨λi m σ' H'=>∃O' ρ',At X H0 O0 O' H' ρ' σ'/\gD X.K O H1 O' H'/\i<=xs.length/\m=xs.length - i/\forL gt b (xs.drop i) ρ'=forL gt b xs ρ,⟨_,O,ρ,j1,.refl,agT _,rfl,by simp⟩,?_⟩
  rintro i m σ' H' ⟨O',ρ',j',r',hil,rfl,hf⟩
  have Xh:=yr O' H' r' i;by_cases hlt:i<xs.length
  ·have ed:xs.drop i=xs[i]::xs.drop (i+1):=aiG hlt;obtain⟨jgo,jy⟩:=Xh.1 xs[i] (by simp[hlt]);refine .inr ⟨jgo,λσ2 H2=>∃O2 ρ2,At X H0 O0 O2 H2 ρ2 σ2/\gD X.K O H1 O2 H2/\forL gt b (xs.drop (i+1)) ρ2=forL gt b xs ρ,?_,λx H2 y=>?_⟩
   ·rintro σ2 H2 ⟨O2,ρ2,j2,r2,hf2⟩
    exact⟨xs.length - (i+1),by omega,O2,ρ2,j2,r2,by omega,rfl,hf2⟩
   ·obtain⟨sm,rep⟩:=jy x H2 y;rw[ed] at hf;have hf:(match gt xs[i] ρ' with
     | .ok ρ1=>match b ρ1 with
      | .nx ρ2=>forL gt b (xs.drop (i+1)) ρ2
      | .ct ρ2=>forL gt b (xs.drop (i+1)) ρ2
      | .bk ρ2=> .nx ρ2
      |o=>o
     |_=> .bad)=forL gt b xs ρ:=hf
    cases e2:gt xs[i] ρ' with
    |bad=>rw[e2] at hf;rw[<-hf] at h;exact h.elim
    |err c=>rw[e2] at hf;rw[<-hf] at h;exact h.elim
    | ok ρ1=>
     rw[e2] at hf;refine⟨H0,O0,O',ρ',xs[i],ρ1,j'.grow sm,rep,e2,λσ3 j3=>?_⟩;refine⟨H0,O0,O',ρ1,j3,?_⟩;have r3:gD X.K O H1 O' H2:=r'.trans (Same.gq sm);have hf:(match b ρ1 with
      | .nx ρ2=>forL gt b (xs.drop (i+1)) ρ2
      | .ct ρ2=>forL gt b (xs.drop (i+1)) ρ2
      | .bk ρ2=> .nx ρ2
      |o=>o)=forL gt b xs ρ:=hf
     cases e3:b ρ1 with
     |bad=>rw[e3] at hf;rw[<-hf] at h;exact h
     |rt d=>rw[e3] at hf;rw[<-hf] at h;exact h
     |ex c ρ2=>rw[e3] at hf;rw[<-hf] at h;exact h
     |bk ρ2=>rw[e3] at hf;rw[<-hf] at h;exact λσ4 H4 O4 j4 r4=>h σ4 H4 O4 j4 (q1.trans (r3.trans r4))
     |nx ρ2=>rw[e3] at hf;exact λσ4 H4 O4 j4 r4=>⟨O4,ρ2,j4,r3.trans r4,hf⟩
     |ct ρ2=>rw[e3] at hf;exact λσ4 H4 O4 j4 r4=>⟨O4,ρ2,j4,r3.trans r4,hf⟩
  ·have ei:i=xs.length:=by omega
   subst ei;have hf:forL gt b (xs.drop xs.length) ρ'=forL gt b xs ρ:=hf;rw[List.drop_length] at hf;rw[<-hf] at h;exact .inl ⟨Xh.2 (z0g _),h σ' H' O' j' (q1.trans r')⟩
def o8(p:aB->R Bool)(b:aB->So):Nat->aB->So
 |0,_=> .bad
 | n +1,ρ=>match p (eE ρ) with
  | .ok true=>match b ρ with
   | .nx ρ'=>o8 p b n ρ'
   | .ct ρ'=>o8 p b n ρ'
   | .bk ρ'=> .nx ρ'
   |o=>o
  | .ok false=> .nx ρ
  | .err c=> .ex c ρ
  | .bad=> .bad
theorem Zv(n:Nat){c:aer}{body:List aeA}{b:aB->So}(hp:PassesOwn (model X.prog X.w) X.A X.env X.xe)(hc:DT X c p)(hb:jW X body b):DS X (.While c body [] pos) (o8 p b n):=by
 refine PS.imp (ps_while hp hc hb) λσ H E h=>?_;obtain⟨H0,O0,O,ρ,j,h⟩:=h;have h:yq X H0 O0 O H E (o8 p b n ρ):=h;refine⟨λm σ' H'=>∃O' ρ',At X H0 O0 O' H' ρ' σ'/\gD X.K O H O' H'/\o8 p b m ρ'=o8 p b n ρ,⟨n,O,ρ,j,.refl,rfl⟩,?_⟩
 rintro m σ' H' ⟨O',ρ',j',r',hf⟩
 refine⟨eE ρ',Ul H' ρ' σ' O',j'.inn.eE,?_⟩;cases m with
 |zero=>rw[<-hf] at h;exact h.elim
 | succ m =>
  have hf:(match p (eE ρ') with
   | .ok true=>match b ρ' with
    | .nx ρ'=>o8 p b m ρ'
    | .ct ρ'=>o8 p b m ρ'
    | .bk ρ'=> .nx ρ'
    |o=>o
   | .ok false=> .nx ρ'
   | .err c=> .ex c ρ'
   | .bad=> .bad)=o8 p b n ρ:=hf
  cases e1:p (eE ρ') with
  |bad=>rw[e1] at hf;rw[<-hf] at h;exact h
  |err c=>rw[e1] at hf;rw[<-hf] at h;exact h σ' H' O' j'
  | ok t =>
   rw[e1] at hf;intro t' H1 s1 e;subst e;have j1:=j'.grow s1;have r1:gD X.K O H O' H1:=r'.trans (Same.gq s1);cases t with
   | false=>
    rw[if_neg aeO];rw[<-hf] at h;exact h σ' H1 O' j1 r1
   | true=>
    rw[if_pos rfl];refine⟨λσ2 H2=>∃O2 ρ2,At X H0 O0 O2 H2 ρ2 σ2/\gD X.K O H O2 H2/\o8 p b m ρ2=o8 p b n ρ,?_,H0,O0,O',ρ',j1,?_⟩
    ·rintro σ2 H2 ⟨O2,ρ2,j2,r2,hf2⟩
     exact⟨m,by omega,O2,ρ2,j2,r2,hf2⟩
    ·have hf:(match b ρ' with
      | .nx ρ'=>o8 p b m ρ'
      | .ct ρ'=>o8 p b m ρ'
      | .bk ρ'=> .nx ρ'
      |o=>o)=o8 p b n ρ:=hf
     cases e3:b ρ' with
     |bad=>rw[e3] at hf;rw[<-hf] at h;exact h
     |rt d=>rw[e3] at hf;rw[<-hf] at h;exact h
     |ex c ρ2=>rw[e3] at hf;rw[<-hf] at h;exact h
     |bk ρ2=>rw[e3] at hf;rw[<-hf] at h;exact λσ4 H4 O4 j4 r4=>h σ4 H4 O4 j4 (r1.trans r4)
     |nx ρ2=>rw[e3] at hf;exact λσ4 H4 O4 j4 r4=>⟨O4,ρ2,j4,r1.trans r4,hf⟩
     |ct ρ2=>rw[e3] at hf;exact λσ4 H4 O4 j4 r4=>⟨O4,ρ2,j4,r1.trans r4,hf⟩
end
section
variable{X:Cx}{a b e:aer}{es:List aer}{f g:aB->R D}{fa:aB->R (List D)}{pos:Pos}
def ac7(K:aeh)(t:TA):TE:=λσ H Q=>t σ H λxs H1=>xs.length<=sizeLine/\∀p,H1 p=none->K.lookup p=none->Q (.ref p) (upd H1 p (.lst xs))
theorem Inv.adH{pins:List (aed×Obj)}{s:aeg}(I:Inv X pins σ H s):X.K.lookup s.heap.objs.size=none:=by
 cases q:X.K.lookup s.heap.objs.size with
 |none=>rfl
 |some o=>exact absurd (z2c (I.kIn _ _ q)) (afj _)
theorem Uo{t:TA}(h:PA X es t):PE X (.List es pos) (ac7 X.K t):=by
 intro pins s σ H Q I hq;refine wpAny_List_spliced (thn (h pos pins s σ H _ I hq) λus s1 ⟨xs,H1,I1,r,z,q⟩=>⟨by rw[<-r.length];exact z,?_⟩);have hf:H1 s1.heap.objs.size=none:=I1.hok.fresh (z0g _);refine⟨.ref s1.heap.objs.size,upd H1 s1.heap.objs.size (.lst xs),I1.laid (t':=s1.toks) (λb u e=>z1a _ e) (z0g _) ?_,rfl,q _ hf (Inv.adH I1)⟩;exact⟨z,us,0,r,z1f _ rfl⟩
def newL(fa:aB->R (List D))(i:Nat):aB->So:=λρ=>match fa ρ with
 | .ok ds=>if ds.length<=1000000 then .nx (ρ.set i (some (.lst ds))) else .bad
 | .err c=> .ex c ρ
 | .bad=> .bad
theorem At.own(j:At X H0 O0 O H ρ σ)(hi:i<X.N.length){o:HO}{en:Ent}(hp:H p=none)(hk:X.K.lookup p=none)(ho:en.own=true)
  (hr:sE X.K (λa=>O a\/a=p) (upd H p o) en (.ref p))(hnr:∀rows,en≠.rws rows:=by intro _ z;cases z):
  At X H0 O0 (λa=>O a\/a=p) (upd H p o) (ρ.set i (some en)) (σ.set i (some (.ref p)))/\gD X.K O H (λa=>O a\/a=p) (upd H p o):=by
 have s1:Same H (upd H p o):=Same.upd hp;have r1:gD X.K O H (λa=>O a\/a=p) (upd H p o):=⟨(Same.gq (K:=X.K) (O:=O) s1).ext,λa z=>z.elim .inl λe=> .inr (by rw[e];exact⟨hp,hk⟩),(Same.gq (K:=X.K) (O:=O) s1).dom⟩;have h1:i<ρ.length:=by rw[j.inn.oH];exact hi
 have h2:i<σ.length:=by rw[j.inn.len];exact hi
 have Xi:¬O p:=j.inn.uJ hp;have old:∀{e:Ent} {v:V},sE X.K O H e v->sE X.K (λa=>O a\/a=p) (upd H p o) e v/\(e.own=true->v≠.ref p):=λ{e v} h=>by
  cases e with
  |val d=>exact⟨Rep.go r1 h,λz=>by cases z⟩
  | lst ds=>
   obtain⟨a,xs,e1,o1,e2,r⟩:=h;exact⟨⟨a,xs,e1,.inl o1,s1 _ _ e2,r.go r1⟩,λ_ z=>by rw[e1] at z;cases z;exact Xi o1⟩
  |obj t=>exact⟨qb.same s1 h,λz=>by cases z⟩
  | Ay kvs=>
   obtain⟨a,xs,e1,o1,e2,k,r⟩:=h;exact⟨⟨a,xs,e1,.inl o1,s1 _ _ e2,k,r.go r1⟩,λ_ z=>by rw[e1] at z;cases z;exact Xi o1⟩
  | rws rows=>
   obtain⟨a,rs,e1,R⟩:=h;exact⟨⟨a,rs,e1,s1 _ _ R.at_,.inl R.oa,R.nd,R.len,λi r row q1 q2=>let⟨o1,xs,q3,q4⟩:=R.row i r row q1 q2;⟨.inl o1,xs,s1 _ _ q3,q4.go r1⟩⟩,λ_ z=>by rw[e1] at z;cases z;exact Xi R.oa⟩
 have bk:∀{k:Nat} {rows:List (List D)} {a:aed} {rs:List aed},ρ[k]?=some (some (.rws rows))->σ[k]?=some (some (.ref a))->upd H p o a=some (.lst (rs.map V.ref))->H a=some (.lst (rs.map V.ref))/\∀r∈rs,O r:=λ{k rows a rs} q1 q2 q3=>by
  have q4:=j.inn.env.back s1 q1 q2 q3;refine⟨q4,λr hr=>?_⟩;obtain⟨rs',R⟩:=j.inn.env.rws q1 q2;have e:=R.at_;rw[q4] at e;rw[Gh (HO.lst.inj (aeG e))] at hr;obtain⟨n,hn⟩:=List.mem_iff_getElem?.mp hr;have hl:=R.len;have hn':=(z1b hn).1;exact (R.row n r _ hn (aeQ (by omega))).1
 refine⟨⟨j.same.trans s1,j.gq.trans r1,λa z=> .inl (j.sub a z),⟨⟨λk e h=>?_,λk l e e' v hkl hk' hl ok ol sk sl=>?_,λk l rows a rs e v hkl hk' sk ha hl ol sl=>?_⟩,λa z=>?_,by rw[afP];exact j.inn.len,by rw[afP];exact j.inn.oH⟩,λk e a h hoo hs=>?_,λk rows a rs h hs ha=>?_⟩,r1⟩
 ·by_cases hki:k=i
  ·subst hki;rw[z2a h1] at h;cases h;exact⟨.ref p,z2a h2,hr⟩
  ·rw[z1e (aeo hki)] at h;obtain⟨v,q1,q2⟩:=j.inn.env.get k e h;exact⟨v,by rw[z1e (aeo hki)];exact q1,(old q2).1⟩
 ·by_cases hki:k=i
  ·subst hki;rw[z2a h2] at sk;cases sk;rw[z1e hkl] at hl sl;obtain⟨v,q1,q2⟩:=j.inn.env.get l e' hl;rw[q1] at sl;cases sl;exact (old q2).2 ol rfl
  ·rw[z1e (aeo hki)] at hk' sk;by_cases hli:l=i
   ·subst hli;rw[z2a h2] at sl;cases sl;obtain⟨v,q1,q2⟩:=j.inn.env.get k e hk';rw[q1] at sk;cases sk;exact (old q2).2 ok rfl
   ·rw[z1e (aeo hli)] at hl sl;exact j.inn.env.sep k l e e' v hkl hk' hl ok ol sk sl
 ·by_cases hki:k=i
  ·subst hki;rw[z2a h1] at hk';cases hk';exact absurd rfl (hnr rows)
  ·rw[z1e (aeo hki)] at hk' sk;obtain⟨ha',hO'⟩:=bk hk' sk ha;by_cases hli:l=i
   ·subst hli;rw[z2a h2] at sl;rw[z2a h1] at hl;cases sl;cases hl;exact⟨λr hr z=>by cases z;exact Xi (hO' _ hr),hnr⟩
   ·rw[z1e (aeo hli)] at hl sl;exact j.inn.env.qd k l rows a rs e v hkl hk' sk ha' hl ol sl
 ·rcases z with z |z
  ·obtain⟨u,q⟩:=j.inn.al a z;exact⟨u,s1 _ _ q⟩
  ·rw[z];exact⟨o,upd_same⟩
 ·by_cases hki:k=i
  ·subst hki;rw[z2a h2] at hs;cases hs;exact⟨j.same.free hp,λz=>Xi (j.sub _ z)⟩
  ·rw[z1e (aeo hki)] at h hs;exact j.mine k e a h hoo hs
 ·by_cases hki:k=i
  ·subst hki;rw[z2a h1] at h;cases h;exact absurd rfl (hnr rows)
  ·rw[z1e (aeo hki)] at h hs;exact j.wH k rows a rs h hs (bk h hs ha).1
theorem yt(i:Nat){x:Str}{pos' p2:Pos}(hN:X.N.Nodup)(ha:DA X es fa)(hi:X.N[i]?=some x:=by rfl)(hx:Loc X.env.scope x:=by first |exact afo rfl |exact afa rfl)(hs:ahy (.List es p2) (some (.Name x pos')) pos.line X.env=pure false:=by rfl)
  (hf:X.fn x=true\/X.env.scope.names.lookup x=some .local:=by first |exact .inl rfl |exact .inr rfl):DS X (.Assign [.Name x pos'] (.List es p2) pos) (newL fa i):=by
 refine PS.imp (ps_set hN hi hx (Uo ha) hs hf) λσ H E h=>?_;obtain⟨H0,O0,O,ρ,j,h⟩:=h;refine⟨ρ,O,j.inn,?_⟩;unfold newL at h;cases e1:fa ρ with
 |bad=>rw[e1] at h;exact h
 |err c=>rw[e1] at h;exact h σ H O j
 | ok ds=>
  rw[e1] at h;intro vs H1 s1 r1;by_cases hl:ds.length<=1000000
  ·simp only[if_pos hl] at h;refine⟨by rw[<-r1.length];exact z0b hl fQ,λp hp hk=>?_⟩;obtain⟨j2,r2⟩:=(j.grow s1).own (z1b hi).1 (o:= .lst vs) (en:= .lst ds) hp hk rfl ⟨p,vs,rfl,.inr rfl,upd_same,r1.go ⟨(Same.gq (K:=X.K) (O:=O) (Same.upd hp)).ext,λa z=>z.elim .inl λe=> .inr (by rw[e];exact⟨hp,hk⟩),(Same.gq (K:=X.K) (O:=O) (Same.upd hp)).dom⟩⟩;exact h _ _ _ j2 ((Same.gq s1).trans r2)
  ·simp only[if_neg hl] at h;exact h.elim
theorem At.chg(j:At X H0 O0 O H ρ σ){e0 en:Ent}{u o:HO}(hi:ρ[i]?=some (some e0))(h0:e0.own=true)(hp:σ[i]?=some (some (.ref p)))(hO:O p)(hu:H p=some u)(hm:Mut (some u))(ho:en.own=true)
  (hr:gD X.K O H O (upd H p o)->sE X.K O (upd H p o) en (.ref p))(hnr:∀rows,en≠.rws rows:=by intro _ z;cases z):At X H0 O0 O (upd H p o) (ρ.set i (some en)) σ/\gD X.K O H O (upd H p o):=by
 have nt:∀b xs,Rd H b (.tup xs)->b≠p:=λb xs h z=>by
  subst z;rcases h with h |⟨_,h⟩ <;> rw[hu] at h <;> cases h <;> exact hm
 have r1:gD X.K O H O (upd H p o):=by
  refine⟨⟨λb xs h=>?_,λb xs n h=>?_⟩,λa z=> .inl z,λa z=>?_⟩
  ·have nb:=nt b xs h;rcases h with h |⟨q,h⟩
   ·exact .inl (by rw[upd_ne nb];exact h)
   ·exact .inr ⟨q,by rw[upd_ne nb];exact h⟩
  ·have nb:b≠p:=λz=>n (by rw[z];exact hO);rcases h with h |⟨q,h⟩
   ·exact .inl (by rw[upd_ne nb];exact h)
   ·exact .inr ⟨q,by rw[upd_ne nb];exact h⟩
  ·by_cases ea:a=p
   ·rw[ea,upd_same] at z;cases z
   ·rw[upd_ne ea] at z;exact z
 have h1:i<ρ.length:=(z1b hi).1;obtain⟨hH0,hO0⟩:=j.mine i e0 p hi h0 hp;have bk:∀{k:Nat} {rows:List (List D)} {a:aed} {rs:List aed},k≠i->ρ[k]?=some (some (.rws rows))->σ[k]?=some (some (.ref a))->upd H p o a=some (.lst (rs.map V.ref))->H a=some (.lst (rs.map V.ref)):=λ{k rows a rs} hki q1 q2 q3=>by
  have na:a≠p:=λz=>j.inn.env.sep k i _ e0 _ hki q1 hi rfl h0 q2 (by rw[z];exact hp);rw[upd_ne na] at q3;exact q3
 refine⟨⟨λb q z=>?_,j.gq.trans r1,j.sub,⟨⟨λk e h=>?_,λk l e e' v hkl hk' hl ok ol sk sl=>?_,λk l rows a rs e v hkl hk' sk ha hl ol sl=>?_⟩,λa z=>?_,j.inn.len,by rw[afP];exact j.inn.oH⟩,λk e a h hoo hs=>?_,λk rows a rs h hs ha=>?_⟩,r1⟩
 ·rw[upd_ne (ne_of_none z hH0)];exact j.same _ _ z
 ·by_cases hki:k=i
  ·subst hki;rw[z2a h1] at h;cases h;exact⟨_,hp,hr r1⟩
  ·rw[z1e (aeo hki)] at h;obtain⟨v,q1,q2⟩:=j.inn.env.get k e h;refine⟨v,q1,?_⟩;have nv:e.own=true->v≠.ref p:=λz w=>by
    subst w;exact j.inn.env.sep k i e e0 _ hki h hi z h0 q1 hp
   cases e with
   |val d=>exact Rep.go r1 q2
   | obj t=>exact qb.fz (λb o' u hb=>by
     have nb:b≠p:=λz=>by rw[z,hu] at hb;cases hb;exact hm
     rw[upd_ne nb];exact hb) q2
   | lst ds=>
    obtain⟨a,xs,e1,o1,e2,r⟩:=q2;have na:a≠p:=λz=>nv rfl (by rw[e1,z]);exact⟨a,xs,e1,o1,by rw[upd_ne na];exact e2,r.go r1⟩
   | Ay kvs=>
    obtain⟨a,xs,e1,o1,e2,kk,r⟩:=q2;have na:a≠p:=λz=>nv rfl (by rw[e1,z]);exact⟨a,xs,e1,o1,by rw[upd_ne na];exact e2,kk,r.go r1⟩
   | rws rows=>
    obtain⟨a,rs,e1,R⟩:=q2;have na:a≠p:=λz=>nv rfl (by rw[e1,z]);have Xj:σ[k]?=some (some (.ref a)):=by rw[<-e1];exact q1
    refine⟨a,rs,e1,by rw[upd_ne na];exact R.at_,R.oa,R.nd,R.len,λn r row z1 z2=>?_⟩;obtain⟨o1,xs,z3,z4⟩:=R.row n r row z1 z2;have nr:r≠p:=λz=>(j.inn.env.qd k i rows a rs e0 (.ref p) hki h Xj R.at_ hi h0 hp).1 r (ae0 z1) (by rw[z]);exact⟨o1,xs,by rw[upd_ne nr];exact z3,z4.go r1⟩
 ·have un:∀{m:Nat} {x:Ent},(ρ.set i (some en))[m]?=some (some x)->x.own=true->∃y,ρ[m]?=some (some y)/\y.own=true:=λ{m x} h ho'=>by
   by_cases hmi:m=i
   ·rw[hmi];exact⟨e0,hi,h0⟩
   ·rw[z1e (aeo hmi)] at h;exact⟨x,h,ho'⟩
  obtain⟨y,hy,oy⟩:=un hk' ok;obtain⟨y',hy',oy'⟩:=un hl ol;exact j.inn.env.sep k l y y' v hkl hy hy' oy oy' sk sl
 ·by_cases hki:k=i
  ·subst hki;rw[z2a h1] at hk';cases hk';exact absurd rfl (hnr rows)
  ·rw[z1e (aeo hki)] at hk';have ha':=bk hki hk' sk ha;by_cases hli:l=i
   ·subst hli;rw[hp] at sl;rw[z2a h1] at hl;cases sl;cases hl;exact⟨(j.inn.env.qd k l rows a rs e0 _ hkl hk' sk ha' hi h0 hp).1,hnr⟩
   ·rw[z1e (aeo hli)] at hl;exact j.inn.env.qd k l rows a rs e v hkl hk' sk ha' hl ol sl
 ·by_cases ea:a=p
  ·rw[ea];exact⟨o,upd_same⟩
  ·obtain⟨w,q⟩:=j.inn.al a z;exact⟨w,by rw[upd_ne ea];exact q⟩
 ·by_cases hki:k=i
  ·subst hki;rw[hp] at hs;cases hs;exact⟨hH0,hO0⟩
  ·rw[z1e (aeo hki)] at h;exact j.mine k e a h hoo hs
 ·by_cases hki:k=i
  ·subst hki;rw[z2a h1] at h;cases h;exact absurd rfl (hnr rows)
  ·rw[z1e (aeo hki)] at h;exact j.wH k rows a rs h hs (bk hki h hs ha)
def xr(i:Nat)(f:aB->R D):aB->So:=λρ=>lA (Qu (f ρ)) ρ λd=>match ρ[i]? with
 |some (some (.lst ds))=>if ds.length<1000000 then .nx (ρ.set i (some (.lst (ds++[d])))) else .bad
 |_=> .bad
theorem Qx(i:Nat){x:Str}{apos cpos:Pos}(he:DE X e f)(hN:X.N[i]?=some x:=by rfl)(hv:Vis X.env.scope x:=by first |exact afo rfl |exact afa (afo rfl) |exact afa (afa rfl))
  (hd:(x ==("__debug__" :Str))=false:=by decide)(hcd:(x ==("__classdict__" :Str))=false:=by decide)
  (hbase:ahM (.Name x px) "append" X.env (eval (.Name x px) X.env)=eval (.Name x px) X.env:=by rfl)
  (hfew:((ae7 cpos (aei [e] X.env)).all (λx=> !x.1) && (ag6 cpos (agk [] X.env)).all (λx=>x.1.isSome)
   && decide ([e].length+([]:List af7).length+(if ([]:List af7).isEmpty then 0 else 1)<30))=true:=by rfl)
  (hline:(apos.endLine ==cpos.line)=true:=by rfl) (hs1:aei [e] X.env=(false,eval e X.env)::aei [] X.env:=by rfl) (hplain:(ae7 cpos (aei [] X.env)).any (·.1)=false:=by rfl)
  (hs:ahy (.Call (.Attribute (.Name x px) "append" apos) [e] [] cpos) none pos.line X.env=pure false:=by rfl):
  DS X (.Expr (.Call (.Attribute (.Name x px) "append" apos) [e] [] cpos) pos) (xr i f):=by
 refine PS.imp (ps_expr (pe_bm agL aiR aiS mt_append (pe_var hN hv hd hcd) (pa_cons he pa_nil hs1) hbase hfew hline hs1 hplain) hs) λσ H E h=>?_;obtain⟨H0,O0,O,ρ,j,h⟩:=h;unfold xr lA at h;cases e1:f ρ with
 |bad=>rw[e1] at h;exact h.elim
 |err c=>rw[e1] at h;exact h.elim
 | ok d =>
  rw[e1] at h;cases e2:ρ[i]? with
  |none=>simp only[e2] at h;exact h.elim
  | some oe=>
   cases oe with
   |none=>simp only[e2] at h;exact h.elim
   | some en=>
    cases en with
    |val _=>simp only[e2] at h;exact h.elim
    |Ay _=>simp only[e2] at h;exact h.elim
    |rws _=>simp only[e2] at h;exact h.elim
    |obj _=>simp only[e2] at h;exact h.elim
    | lst ds=>
     simp only[e2] at h;by_cases hl:ds.length<1000000
     ·simp only[if_pos hl] at h;obtain⟨v,hv1,a,xs,rfl,hO,hH,rs⟩:=j.inn.env.get i _ e2;refine⟨.ref a,hv1,.inl ⟨rfl,xs,SqL.of hH⟩,?_⟩;refine⟨ρ,O,j.inn,?_⟩;rw[e1];intro w H1 s1 rw1;have j1:=j.grow s1;obtain⟨_,hv2,a2,xs2,e3,hO2,hH2,Jc⟩:=j1.inn.env.get i _ e2;rw[hv1] at hv2;cases hv2;cases e3;have hlen:=Jc.length;refine⟨a,xs2,w,rfl,rfl,hH2,by have:=iH;omega,?_⟩;obtain⟨j2,r2⟩:=j1.chg (o:= .lst (xs2++[w])) (en:= .lst (ds++[d])) e2 rfl hv1 hO2 hH2 trivial rfl λr=>⟨a,xs2++[w],rfl,hO2,upd_same,(Jc.append (.cons rw1 .nil)).go r⟩;exact h _ _ _ j2 ((Same.gq s1).trans r2)
     ·simp only[if_neg hl] at h;exact h.elim
end
inductive SpD (K:aeh) (n:Nat) (F:List D->R D) (vs:List V) (H:Hp) (Q:VK):Prop
 | mk (O:aed->Prop) (ds:List D) (r:aU K O H ds vs) (hl:ds.length=n) (al:∀a,O a->∃o,H a=some o) (h:match F ds with
  | .ok d=>∀v H',Same H H'->Rep K O H' d v->Q v H'
  |_=>False):SpD K n F vs H Q
def Qy(K:aeh)(n:Nat)(F:List D->R D):Sp:=λvs H Q _=>SpD K n F vs H Q
def bR(n:Nat)(g:aB->So)(ds:List D):R D:=match g (ds.map (λd=>some (.val d))++aem n none) with
 | .rt d=> .ok d
 | .nx _=> .ok .non
 | .ex c _=> .err c
 |_=> .bad
section
variable{P:aew}{w:aey}{K:aeh}{mg:Str->Option aef}{base:aes}
theorem kj{K:aeh}{vs:List V}(r:aU K O H ds vs)(m:Nat)(i:Nat)(e:Ent)(h:(ds.map (λd=>some (Ent.val d))++aem m none)[i]?=some (some e)):∃v,(vs.map some++aem m none)[i]?=some (some v)/\sE K O H e v/\e.own=false:=by
 by_cases hi:i<ds.length
 ·rw[ae5 (by simpa using hi),z2b] at h;cases q:ds[i]? with
  |none=>rw[q] at h;cases h
  | some d=>
   rw[q] at h;cases h;obtain⟨v,e1,rv⟩:=r.get q;exact⟨v,by rw[ae5 (by rw[z1g,<-r.length];exact hi),z2b,e1];rfl,rv,rfl⟩
 ·rw[aeT (by simpa using hi),afA] at h;split at h <;> cases h
theorem fnD{x qual:Str}{st:aeA}{f:aed}{fd:aeZ}{ps:List Str}{k m:Nat}{g:aB->So}{F:List D->R D}(Fn:Fun K x qual st f fd)(S:FnScope N ps (defScope st))(hn:ps.length=n)(hm:N.length=n+m)
  (hb:∀(cdv:aef) (A:aeF) (outer:List afd) (s:aeg) (H:Hp) (E:XK),Room k (A.deeper (afC qual (defScope st) s.heap.objs.size f cdv))->jW (cxOf CX0 P w K mg base N qual (defScope st) f cdv A outer s H E).nox (defBody st) g)
  (hF:∀ds d,ds.length=n->F ds= .ok d->bR m g ds= .ok d):FnOk P w K mg base CX0 (k+1) f fd ps (Qy K n F):=by
 refine Fn.ok S (λvs H Q E h=>?_) (λcdv A outer s H vs Q E hr h=>?_)
 ·obtain⟨O,ds,r,hl,_⟩:=h;rw[hn,<-hl,r.length]
 ·obtain⟨O,ds,r,hl,al,h⟩:=h;refine⟨_,hb cdv A outer s H E hr,H,O,O,ds.map (λd=>some (.val d))++aem m none,?_,?_⟩
  ·have hst:L2.start N vs=vs.map some++aem m none:=by
    unfold L2.start;rw[show N.length - vs.length=m by rw[<-r.length];omega]
   refine⟨Same.refl _,.refl,λ_ z=>z,⟨⟨λi e q=>?_,λi k e e' v _ hi _ oi=>?_,λi k rows a rs e v _ hi=>by obtain⟨_,_,_,h3⟩:=kj r m i _ hi;cases h3⟩,al,?_,?_⟩,λi e a q ho=>?_,λi rows a rs q=>by obtain⟨_,_,_,h3⟩:=kj r m i _ q;cases h3⟩
   ·obtain⟨v,h1,h2,_⟩:=kj r m i e q;exact⟨v,by rw[hst];exact h1,h2⟩
   ·obtain⟨_,_,_,h3⟩:=kj r m i e hi;rw[h3] at oi;cases oi
   ·show (L2.start N vs).length=N.length;rw[hst,z1d,z1g,afh,<-r.length];omega
   ·show (ds.map (λd=>some (Ent.val d))++aem m none).length=N.length;rw[z1d,z1g,afh];omega
   ·obtain⟨_,_,_,h3⟩:=kj r m i e q;rw[h3] at ho;cases ho
  ·cases e:F ds with
   |bad=>rw[e] at h;exact h.elim
   |err c=>rw[e] at h;exact h.elim
   | ok d=>
    rw[e] at h;have q:=hF ds d hl e;unfold bR at q;cases e2:g (ds.map (λd=>some (.val d))++aem m none) with
    | rt d'=>
     rw[e2] at q;cases q;exact λv H' s' r'=>h v H' s' r'
    | nx ρ'=>
     rw[e2] at q;cases q;exact λσ' H' O' j' _=>h .non H' j'.same p8
    |bk _=>rw[e2] at q;cases q
    |ct _=>rw[e2] at q;cases q
    |ex _ _=>rw[e2] at q;cases q
    |bad=>rw[e2] at q;cases q
end
section
variable{X:Cx}{k n:Nat}{f:aed}{fd:aeZ}{ps:List Str}{F:List D->R D}{x:Str}{p pos:Pos}{e:aer}{es:List aer}{fa:aB->R (List D)}
def aY(F:List D->R D)(n:Nat)(ds:List D):R D:=if ds.length=n then Qu (F ds) else .bad
theorem aaZ(G:FnOk X.prog X.w X.K X.mg X.base CX0 k f fd ps (Qy X.K n F))(hr:Room k X.A)(hg:Gl X x)(hm:X.mg x=some (.ref f))(hk:ae2 X.K (.ref f)=true)(hb:Binds X.K fd ps [])
  (ha:DA X (e::es) fa)(hdb:(x ==("__debug__" :Str))=false:=by decide)(he:aei (e::es) X.env=(false,eval e X.env)::aei es X.env:=by rfl)(hpl:(ae7 pos (aei es X.env)).any (·.1)=false:=by rfl):
  DE X (.Call (.Name x p) (e::es) [] pos) (aH (aY F n) fa):=by
 refine PE.imp (pe_call (dvs:=[]) G hr hg hm hk hb .nil pass0 ha hdb he hpl) λσ H Q h=>?_;obtain⟨ρ,O,j,h⟩:=h;refine go j h λds vs H1 e1 s1 r1 j1 h1=>?_;unfold aY at h1;by_cases hl:ds.length=n
 ·rw[if_pos hl] at h1;rw[afg];refine⟨O,ds,r1,hl,j1.al,?_⟩;cases q:F ds with
  |ok d=>rw[q] at h1;exact h1
  |err c=>rw[q] at h1;exact h1
  |bad=>rw[q] at h1;exact h1
 ·rw[if_neg hl] at h1;exact h1.elim
end
section
variable{X:Cx}
def cT:List D->R D
 |[.tup ds]=> .ok (.int ds.length)
 |[.lst ds]=> .ok (.int ds.length)
 |_=> .bad
theorem dD:CallD X (.builtin "len") cT:=by
 refine⟨_,call_len_seq,λρ O σ H Q xs ds j r h=>?_⟩;unfold cT at h;split at h
 ·obtain⟨x,rfl,rx⟩:=r.one;obtain⟨a,ys,rfl,hq,rs⟩:=rx.tup;exact⟨a,ys,rfl,.inr hq,by rw[<-rs.length];exact fin h (cP _)⟩
 ·obtain⟨x,rfl,rx⟩:=r.one;obtain⟨a,ys,rfl,hq,_,rs⟩:=rx.lst;exact⟨a,ys,rfl,.inl hq,by rw[<-rs.length];exact fin h (cP _)⟩
 ·exact h.elim
def jz:List D->R D
 |[.tup ds]=> .ok (.tup ds)
 |[.lst ds]=> .ok (.tup ds)
 |_=> .bad
theorem eV:CallD X (.type "tuple") jz:=by
 refine⟨_,call_tuple_of,λρ O σ H Q xs ds j r h=>?_⟩;unfold jz at h;split at h
 ·obtain⟨x,rfl,rx⟩:=r.one;obtain⟨a,ys,rfl,hq,rs⟩:=rx.tup;exact⟨a,ys,rfl,.inr ⟨hq,fin h (iK hq rs)⟩⟩
 ·obtain⟨x,rfl,rx⟩:=r.one;obtain⟨a,ys,rfl,hq,_,rs⟩:=rx.lst;exact⟨a,ys,rfl,.inl ⟨hq,λl hl=>h _ _ (Same.upd hl) (Rep.uw hl rs)⟩⟩
 ·exact h.elim
def Vw:List D->R D
 |[.tup ds]=> .ok (.lst ds)
 |[.lst ds]=> .ok (.lst ds)
 |_=> .bad
theorem Uq:CallD X (.type "list") Vw:=by
 refine⟨_,call_list_of,λρ O σ H Q xs ds j r h=>?_⟩;unfold Vw at h;split at h
 ·obtain⟨x,rfl,rx⟩:=r.one;obtain⟨a,ys,rfl,hq,rs⟩:=rx.tup;exact⟨a,ys,rfl,.inr hq,λl hl=>h _ _ (Same.upd hl) (Rep.mQ hl (j.uJ hl) rs)⟩
 ·obtain⟨x,rfl,rx⟩:=r.one;obtain⟨a,ys,rfl,hq,_,rs⟩:=rx.lst;exact⟨a,ys,rfl,.inl hq,λl hl=>h _ _ (Same.upd hl) (Rep.mQ hl (j.uJ hl) rs)⟩
 ·exact h.elim
def boolsOf:List D->Option (List Bool)
 |[]=>some []
 | .bl b::r=>(boolsOf r).map (b:: ·)
 |_=>none
def intsOf:List D->Option (List Int)
 |[]=>some []
 | .int i::r=>(intsOf r).map (i:: ·)
 |_=>none
theorem Lh{K:aeh}{O:aed->Prop}{H:Hp}:∀{ds:List D} {bs:List Bool} {vs:List V},boolsOf ds=some bs->aU K O H ds vs->vs=bs.map V.bl
 |[],bs,vs,e,r=>by cases e;exact r.nil_inv
 | d ::ds,bs,vs,e,r=>by
  cases d with
  | bl b=>
   have e:(boolsOf ds).map (b:: ·)=some bs:=e;cases q:boolsOf ds with
   |none=>rw[q] at e;cases e
   | some l=>
    rw[q] at e;cases e;obtain⟨x,t,rfl,rx,rt⟩:=r.cons_inv;rw[rx.bl,Lh q rt];rfl
  |_=>cases e
theorem Qz{K:aeh}{O:aed->Prop}{H:Hp}:∀{ds:List D} {bs:List Int} {vs:List V},intsOf ds=some bs->aU K O H ds vs->vs=bs.map V.int
 |[],bs,vs,e,r=>by cases e;exact r.nil_inv
 | d ::ds,bs,vs,e,r=>by
  cases d with
  | int b=>
   have e:(intsOf ds).map (b:: ·)=some bs:=e;cases q:intsOf ds with
   |none=>rw[q] at e;cases e
   | some l=>
    rw[q] at e;cases e;obtain⟨x,t,rfl,rx,rt⟩:=r.cons_inv;rw[rx.int,Qz q rt];rfl
  |_=>cases e
theorem Hj:∀{bs:List Bool} {us:List aef},Vals (bs.map V.bl) us->LSm.BoolsAre us bs
 |[],_,.nil=> .nil
 |b::bs,_,.cons r t=>by cases r;exact .cons b (Hj t)
theorem Xk(hc:X.calm=true):CallR X (.builtin "all") (λxs H Q=>∃p,∃bs:List Bool,xs=[.ref p]/\SqL X.K H p (bs.map V.bl)/\Q (.bl (bs.all id)) H):=by
 intro pins s σ H xs us Q I r h;obtain⟨p,bs,rfl,hq,q⟩:=h;obtain⟨u,rfl,rx⟩:=vals1 r;cases rx;obtain⟨its,r',pl,hz⟩:=I.list hq;have hb:=Hj r';have hl:=pl.isList;have hlt:p<s.heap.objs.size:=by obtain⟨_,e,_⟩:=hl;exact z2c e
 refine call_all_walk (agU hl ?_);refine⟨s.heap.objs.size,[s.heap.objs.size,p],[s.heap.objs.size],its.toArray.size,_,_,λi=>(bs[i]?).getD true,rfl,Walks.list (A:=X.A.in1) (I.ok.hd hc) _ p (aeN hlt) its.toArray,
  ⟨⟨_,z1f _ rfl,rfl,rfl⟩,hl.push _⟩,λi v s' Q' E' hP hQ=>?_,λh' tk hk=>?_⟩
 ·obtain⟨b,e,rfl⟩:=hb.get i v (by simpa using hP);simp only[e,ag8] at hQ;exact afw hQ
 ·have e:((aee its.toArray.size).all λi=>(bs[i]?).getD true)=bs.all id:=by
   rw[z1c,hb.length];exact LSm.range_all bs
  rw[e];exact⟨.bl _,H,I.kept (LSm.kept_iter hk),rfl,q⟩
def nq:List D->R D
 | [.lst ds]=>match boolsOf ds with
  |some bs=> .ok (.bl (bs.all id))
  |none=> .bad
 |_=> .bad
theorem rH(hc:X.calm=true):CallD X (.builtin "all") nq:=by
 refine⟨_,Xk hc,λρ O σ H Q xs ds j r h=>?_⟩;unfold nq at h;split at h
 ·rename_i ds;obtain⟨x,rfl,rx⟩:=r.one;obtain⟨a,ys,rfl,hq,_,rs⟩:=rx.lst;cases e:boolsOf ds with
  |none=>rw[e] at h;exact h.elim
  | some bs=>
   rw[e] at h;have ey:=Lh e rs;subst ey;exact⟨a,bs,rfl,hq,fin h (gF _)⟩
 ·exact h.elim
theorem Xl(hc:X.calm=true):CallR X (.builtin "sum") (λxs H Q=>∃p,∃ns:List Int,xs=[.ref p]/\(SqL X.K H p (ns.map V.int)\/SqT X.K H p (ns.map V.int))/\Q (.int ns.sum) H):=by
 intro pins s σ H xs us Q I r h;obtain⟨p,ns,rfl,hq,q⟩:=h;obtain⟨u,rfl,rx⟩:=vals1 r;cases rx;have key:∀(its:List aef),Vals (ns.map V.int) its->∃zs:Array (Int×Tok),its.toArray=intItems zs/\preSum (numAt zs) zs.size=ns.sum:=λits r'=>by
  have hi:=intsAre_of r';obtain⟨zs,hx⟩:=hi.allInts.items;refine⟨zs,hx,?_⟩;have e1:ns=zs.toList.map (·.1):=by
   rw[<-nums_intItems,<-hx];exact (show numsOf its.toArray.toList=ns from hi.numsOf).symm
  rw[preSum_eq,List.take_of_length_le (by simp),e1]
 rcases hq with hq |hq
 ·obtain⟨its,r',pl,hz⟩:=I.list hq;obtain⟨zs,e1,e2⟩:=key its r';refine sum_intListG (I.ok.hd hc) (e1▸pl.isList) λh' tk t' hk=>?_;rw[e2];exact⟨.int _,H,I.kept hk,⟨t',rfl⟩,q⟩
 ·obtain⟨its,r',pl,hz⟩:=I.tuple hq;obtain⟨zs,e1,e2⟩:=key its r';refine PySem.W.ktm_sumG (I.ok.hd hc) (show s.heap.IsTuple p (intItems zs) from e1▸pl) λh' tk t' hk=>?_;rw[e2];exact⟨.int _,H,I.kept hk,⟨t',rfl⟩,q⟩
def Li:List D->R D
 | [.lst ds]=>match intsOf ds with
  |some bs=> .ok (.int bs.sum)
  |none=> .bad
 | [.tup ds]=>match intsOf ds with
  |some bs=> .ok (.int bs.sum)
  |none=> .bad
 |_=> .bad
theorem Xm(hc:X.calm=true):CallD X (.builtin "sum") Li:=by
 refine⟨_,Xl hc,λρ O σ H Q xs ds j r h=>?_⟩;unfold Li at h;split at h
 ·rename_i ds;obtain⟨x,rfl,rx⟩:=r.one;obtain⟨a,ys,rfl,hq,_,rs⟩:=rx.lst;cases e:intsOf ds with
  |none=>rw[e] at h;exact h.elim
  | some bs=>
   rw[e] at h;have ey:=Qz e rs;subst ey;exact⟨a,bs,rfl,.inl hq,fin h (cP _)⟩
 ·rename_i ds;obtain⟨x,rfl,rx⟩:=r.one;obtain⟨a,ys,rfl,hq,rs⟩:=rx.tup;cases e:intsOf ds with
  |none=>rw[e] at h;exact h.elim
  | some bs=>
   rw[e] at h;have ey:=Qz e rs;subst ey;exact⟨a,bs,rfl,.inr hq,fin h (cP _)⟩
 ·exact h.elim
def lJ:D->String
 | .non=> "NoneType"
 | .bl _=> "bool"
 | .int _=> "int"
 | .str _=> "str"
 | .tup _=> "tuple"
 | .lst _=> "list"
theorem Xn(T:String)(ans:String->Bool)(hk:∀d:D,aek X.K (.type (lJ d)) (.type T)=some (ans (lJ d))):
  CallR X (.builtin "isinstance") (λxs H Q=>∃x O d,xs=[x,.ty T]/\Rep X.K O H d x/\Q (.bl (ans (lJ d))) H):=by
 intro pins s σ H xs us Q I r h;obtain⟨x,O,d,rfl,rd,q⟩:=h;obtain⟨u,u2,rfl,rx,r2⟩:=vals2 r;cases r2;have e:=hk d;have fin':∀tk,EP X pins σ Q (.bool (ans (lJ d))) {s with toks:=tk}:=λtk=>⟨.bl _,H,I.tok _,rfl,q⟩;cases d with
 | non=>
  cases rd.non;cases (show u=aeL from rx);exact agt PySem.W.kitx_none I.kIn ajg e (λz=>nomatch z) fin'
 | bl b=>
  cases rd.bl;cases (show u=aiC b from rx);exact agt PySem.W.kitx_bool I.kIn ajg e (λz=>nomatch z) fin'
 | int i=>
  cases rd.int;obtain⟨t,z⟩:=(show ∃t,u=ai7 i t from rx);cases z;exact agt PySem.W.kitx_int I.kIn ajg e (λz=>nomatch z) fin'
 | str y=>
  cases rd.str;obtain⟨t,z⟩:=(show ∃t,u=Value.str y t from rx);cases z;exact agt PySem.W.kitx_str I.kIn ajg e (λz=>nomatch z) fin'
 | tup ds=>
  obtain⟨a,ys,rfl,hq,_⟩:=rd.tup;cases (show u=aez a from rx);obtain⟨its,_,pl,_⟩:=I.tuple hq;obtain⟨o,h1,h2,_⟩:=pl;exact agt PySem.W.kitx_tuple I.kIn ⟨o,h1,h2⟩ e (λz=>nomatch z) fin'
 | lst ds=>
  obtain⟨a,ys,rfl,hq,_,_⟩:=rd.lst;cases (show u=aez a from rx);obtain⟨its,_,pl,_⟩:=I.list hq;obtain⟨o,n,h1,h2,_⟩:=pl;exact agt PySem.W.kitx_list I.kIn ⟨o,h1,h2⟩ e (λz=>nomatch z) fin'
def wI(ans:String->Bool)(f:aB->R D):aB->R D:=λρ=>(f ρ).bind λd=> .ok (.bl (ans (lJ d)))
theorem qm{T:String}{ans:String->Bool}{x y:Str}{e:aer}{f:aB->R D}{p p2 pos:Pos}(hk:∀d:D,aek X.K (.type (lJ d)) (.type T)=some (ans (lJ d)))(he:DE X e f)
  (hg:Gl X x)(hm:X.mg x=none)(hv:afI x=some (.builtin "isinstance"))(hgy:Gl X y)(hmy:X.mg y=none)(hvy:afI y=some (.type T))(hn:x≠"__name__" :=by decide)(hdb:(x ==("__debug__" :Str))=false:=by decide)
  (hny:y≠"__name__" :=by decide)(hdy:(y ==("__debug__" :Str))=false:=by decide)
  (hs:aei [e,.Name y p2] X.env=(false,eval e X.env)::aei [.Name y p2] X.env:=by rfl)(hs2:aei [.Name y p2] X.env=(false,eval (.Name y p2) X.env)::aei [] X.env:=by rfl)(hpl:(ae7 pos (aei [.Name y p2] X.env)).any (·.1)=false:=by rfl):
  DE X (.Call (.Name x p) [e,.Name y p2] [] pos) (wI ans f):=by
 refine PE.imp (pe_callB (Xn T ans hk) hg hm hv (pa_cons he (pa_cons (pe_bltn (v:= .ty T) hgy hmy hvy rfl hny hdy) pa_nil hs2) hs) hn hdb hs hpl) λσ H Q h=>?_;obtain⟨ρ,O,j,h⟩:=h;refine go j h λd v H1 e1 s1 r1 j1 h1=>?_;exact⟨v,O,d,rfl,r1,fin h1 (gF _)⟩
end
mutual
def cW:D->D->Bool
 | .non,.non=>true
 | .bl a,.bl b=>a ==b
 | .bl a,.int b=>(if a then 1 else 0) ==b
 | .int a,.bl b=>a ==(if b then 1 else 0)
 | .int a,.int b=>a ==b
 | .str a,.str b=>a ==b
 | .tup a,.tup b=>sG a b
 | .lst a,.lst b=>sG a b
 |_,_=>false
def sG:List D->List D->Bool
 |[],[]=>true
 |x::xs,y::ys=>cW x y && sG xs ys
 |_,_=>false
end
mutual
def dep:D->Nat
 | .tup a=>deps a+1
 | .lst a=>deps a+1
 |_=>0
def deps:List D->Nat
 |[]=>0
 |x::xs=>max (dep x) (deps xs)
end
theorem qu:∀{ds:List D} {d:D},d∈ds->dep d<=deps ds
 |[],_,h=>by simp at h
 | x::xs,d,h=>by
  rw[deps];rcases aev.mp h with e |h
  ·subst e;exact Nat.le_max_left _ _
  ·exact z0b (qu h) (Nat.le_max_right _ _)
theorem uR(a b:Bool):cW (.bl a) (.bl b)=(a ==b):=rfl
theorem uT(a:Bool)(b:Int):cW (.bl a) (.int b)=((if a then 1 else 0) ==b):=rfl
theorem uU(a:Int)(b:Bool):cW (.int a) (.bl b)=(a ==(if b then 1 else 0)):=rfl
theorem uV(a b:Int):cW (.int a) (.int b)=(a ==b):=rfl
theorem uW(a b:Str):cW (.str a) (.str b)=(a ==b):=rfl
theorem jX(a b:List D):cW (.tup a) (.tup b)=sG a b:=rfl
theorem iV(a b:List D):cW (.lst a) (.lst b)=sG a b:=rfl
mutual
theorem Hl:∀d:D,cW d d=true
 | .non=>rfl
 | .bl a=>by simp[uR,uT,uU,uV,uW,jX,iV]
 | .int a=>by simp[uR,uT,uU,uV,uW,jX,iV]
 | .str a=>by simp[uR,uT,uU,uV,uW,jX,iV]
 | .tup a=>by rw[jX];exact rJ a
 | .lst a=>by rw[iV];exact rJ a
theorem rJ:∀d:List D,sG d d=true
 |[]=>rfl
 |x::xs=>by rw[sG,Hl x,rJ xs];rfl
end
theorem uX:∀{xs ys:List D},xs.length≠ys.length->sG xs ys=false
 |[],[],h=>absurd rfl h
 |[],_::_,_=>rfl
 |_::_,[],_=>rfl
 | x::xs,y::ys,h=>by
  rw[sG,uX (xs:=xs) (ys:=ys) (λe=>h (by simp[e])),ajb]
theorem uY:∀{xs ys:List D},xs.length=ys.length->sG xs ys=(aee xs.length).all λi=>cW (xs.getD i .non) (ys.getD i .non)
 |[],[],_=>rfl
 |[],_::_,h=>by simp at h
 |_::_,[],h=>by simp at h
 | x::xs,y::ys,h=>by
  rw[sG,uY (xs:=xs) (ys:=ys) (by simpa using h),aeC,agm,List.all_cons,List.all_map];rfl
end Pu
namespace Pu
open PySem PySem.Spec L2
open PyProof.Rows hiding St
open PySem.SeqAt
variable{A:aeF}{d:D}{u u':aef}
inductive LkT (X:Cx) (O:aed->Prop) (H:Hp) (s:aeg) (ds:List D) (u:aef):Prop
 |mk (a:aed) (xs:List V) (its:List aef) (e:u=aez a) (q:SqT X.K H a xs) (v:Vals xs its) (p:s.heap.IsTuple a its.toArray) (r:aU X.K O H ds xs):LkT X O H s ds u
inductive LkL (X:Cx) (O:aed->Prop) (H:Hp) (s:aeg) (ds:List D) (u:aef):Prop
 |mk (a:aed) (xs:List V) (its:List aef) (e:u=aez a) (q:SqL X.K H a xs) (v:Vals xs its) (p:s.heap.IsList a its.toArray) (r:aU X.K O H ds xs):LkL X O H s ds u
def Lk(X:Cx)(O:aed->Prop)(H:Hp)(s:aeg):D->aef->Prop
 | .non,u=>u=aeL
 | .bl b,u=>u=aiC b
 | .int i,u=>∃t,u=ai7 i t
 | .str x,u=>∃t,u=Value.str x t
 | .tup ds,u=>LkT X O H s ds u
 | .lst ds,u=>LkL X O H s ds u
section
variable{X:Cx}{pins:List (aed×Obj)}{σ:St}{H:Hp}{s:aeg}{O O':aed->Prop}
theorem wJ(I:Inv X pins σ H s){v:V}(r:Rep X.K O H d v)(q:RelV v u):Lk X O H s d u:=by
 cases d with
 |non=>cases r.non;exact q
 |bl b=>cases r.bl;exact q
 |int i=>cases r.int;exact q
 |str x=>cases r.str;exact q
 | tup ds=>
  obtain⟨a,xs,rfl,hq,rs⟩:=r.tup;cases (show u=aez a from q);obtain⟨its,rv,p,_⟩:=I.tuple hq;exact⟨a,xs,its,rfl,hq,rv,p,rs⟩
 | lst ds=>
  obtain⟨a,xs,rfl,hq,_,rs⟩:=r.lst;cases (show u=aez a from q);obtain⟨its,rv,p,_⟩:=I.list hq;exact⟨a,xs,its,rfl,hq,rv,p.isList,rs⟩
theorem isTuple_list{a:aed}{p q:Array aef}(h1:s.heap.IsTuple a p)(h2:s.heap.IsList a q):False:=ne_of_list_tuple h2 h1 rfl
mutual
theorem Rep.inj(I:Inv X pins σ H s):∀(d e:D) (v:V),Rep X.K O H d v->Rep X.K O' H e v->d=e
 | .non,e,v,r,q=>by
  cases r.non;cases e with
  |non=>rfl
  |bl _=>cases q.bl
  |int _=>cases q.int
  |str _=>cases q.str
  |tup _=>obtain⟨_,_,z,_⟩:=q.tup;cases z
  |lst _=>obtain⟨_,_,z,_⟩:=q.lst;cases z
 | .bl b,e,v,r,q=>by
  cases r.bl;cases e with
  |non=>cases q.non
  |bl _=>cases q.bl;rfl
  |int _=>cases q.int
  |str _=>cases q.str
  |tup _=>obtain⟨_,_,z,_⟩:=q.tup;cases z
  |lst _=>obtain⟨_,_,z,_⟩:=q.lst;cases z
 | .int b,e,v,r,q=>by
  cases r.int;cases e with
  |non=>cases q.non
  |bl _=>cases q.bl
  |int _=>cases q.int;rfl
  |str _=>cases q.str
  |tup _=>obtain⟨_,_,z,_⟩:=q.tup;cases z
  |lst _=>obtain⟨_,_,z,_⟩:=q.lst;cases z
 | .str b,e,v,r,q=>by
  cases r.str;cases e with
  |non=>cases q.non
  |bl _=>cases q.bl
  |int _=>cases q.int
  |str _=>cases q.str;rfl
  |tup _=>obtain⟨_,_,z,_⟩:=q.tup;cases z
  |lst _=>obtain⟨_,_,z,_⟩:=q.lst;cases z
 | .tup ds,e,v,r,q=>by
  obtain⟨a,xs,rfl,hq,rs⟩:=r.tup;cases e with
  |non=>cases q.non
  |bl _=>cases q.bl
  |int _=>cases q.int
  |str _=>cases q.str
  | tup es=>
   obtain⟨b,ys,z,hq',rs'⟩:=q.tup;cases z;cases I.tuple_inj hq hq';rw[aU.inj I ds es xs rs rs']
  | lst es=>
   obtain⟨b,ys,z,hq',_,rs'⟩:=q.lst;cases z;obtain⟨_,_,p1,_⟩:=I.tuple hq;obtain⟨_,_,p2,_⟩:=I.list hq';exact (isTuple_list p1 p2.isList).elim
 | .lst ds,e,v,r,q=>by
  obtain⟨a,xs,rfl,hq,_,rs⟩:=r.lst;cases e with
  |non=>cases q.non
  |bl _=>cases q.bl
  |int _=>cases q.int
  |str _=>cases q.str
  | tup es=>
   obtain⟨b,ys,z,hq',rs'⟩:=q.tup;cases z;obtain⟨_,_,p1,_⟩:=I.tuple hq';obtain⟨_,_,p2,_⟩:=I.list hq;exact (isTuple_list p1 p2.isList).elim
  | lst es=>
   obtain⟨b,ys,z,hq',_,rs'⟩:=q.lst;cases z;cases I.list_inj hq hq';rw[aU.inj I ds es xs rs rs']
theorem aU.inj(I:Inv X pins σ H s):∀(ds es:List D) (vs:List V),aU X.K O H ds vs->aU X.K O' H es vs->ds=es
 | [],es,vs,r,q=>by
  rw[r.nil_inv] at q;cases es with
  |nil=>rfl
  |cons e es=>obtain⟨_,_,z,_⟩:=q.cons_inv;cases z
 | d ::ds,es,vs,r,q=>by
  obtain⟨x,t,rfl,rx,rt⟩:=r.cons_inv;cases es with
  |nil=>cases q.nil_inv
  | cons e es=>
   obtain⟨_,_,z,qx,qt⟩:=q.cons_inv;cases z;rw[Rep.inj I d e x rx qx,aU.inj I ds es t rt qt]
end
theorem qw{ds es:List D}{xs ys:List V}{its jts:List aef}(r1:aU X.K O H ds xs)(r2:aU X.K O' H es ys)(v1:Vals xs its)(v2:Vals ys jts)
  (ih:∀d∈ds,∀(e:D) (v w:V) (u u':aef),Rep X.K O H d v->Rep X.K O' H e w->RelV v u->RelV w u'->EqAt A s u u' (cW d e)):
  ∀j (h1:j<its.toArray.size) (h2:j<jts.toArray.size),EqAt A s its.toArray[j] jts.toArray[j] (cW (ds.getD j .non) (es.getD j .non)):=by
 intro j h1 h2;have e1:its[j]?=some its.toArray[j]:=by simp
 have e2:jts[j]?=some jts.toArray[j]:=by simp
 have l1:=v1.length;have l2:=v2.length;have k1:=r1.length;have k2:=r2.length;simp only[z1c] at h1 h2;obtain⟨v,ev,rv⟩:∃v,xs[j]?=some v/\RelV v its.toArray[j]:=by
  have hj:j<xs.length:=by omega
  obtain⟨u,eu,ru⟩:=v1.get (i:=j) (x:=xs[j]) (by simp[hj]);rw[e1] at eu;cases eu;exact⟨_,by simp[hj],ru⟩
 obtain⟨w,ew,rw'⟩:∃v,ys[j]?=some v/\RelV v jts.toArray[j]:=by
  have hj:j<ys.length:=by omega
  obtain⟨u,eu,ru⟩:=v2.get (i:=j) (x:=ys[j]) (by simp[hj]);rw[e2] at eu;cases eu;exact⟨_,by simp[hj],ru⟩
 obtain⟨d,ed,rd⟩:=r1.bY ev;obtain⟨e,ee,re⟩:=r2.bY ew;have g1:ds.getD j .non=d:=by simp[ahA,ed]
 have g2:es.getD j .non=e:=by simp[ahA,ee]
 rw[g1,g2];exact ih d (ae0 ed) e v w _ _ rd re rv rw'
theorem Ho{ds es:List D}{n m:Nat}(hn:ds.length=n)(hm:es.length=m):((aee (min n m)).all (λj=>cW (ds.getD j .non) (es.getD j .non)) && n ==m)=sG ds es:=by
 by_cases h:n=m
 ·subst h;rw[Nat.min_self,beq_self_eq_true,Bool.and_true,uY (by rw[hn,hm]),hn]
 ·rw[uX (by rw[hn,hm];exact h),show (n ==m)=false by simpa using h,ajb]
theorem QB(I:Inv X pins σ H s)(hu:A.units<afE){e:D}(h1:Lk X O H s d u)(h2:Lk X O' H s e u')
  (ih:∀c∈(match d with | .tup ds=>ds | .lst ds=>ds |_=>[]),∀(e:D) (v w:V) (u u':aef),Rep X.K O H c v->Rep X.K O' H e w->RelV v u->RelV w u'->EqAt A.in1 s u u' (cW c e)):EqAt A s u u' (cW d e):=by
 cases d with
 | non=>
  cases h1;cases e with
  | non=>
   cases h2;exact EqAt.same _
  | bl b=>
   cases h2;exact EqAt.none_bool _
  | int b=>
   obtain⟨t2,rfl⟩:=h2;exact EqAt.none_int _ _
  | str b=>
   obtain⟨t2,rfl⟩:=h2;exact EqAt.none_str _ _
  | tup es=>
   obtain⟨p2,ys,jts,rfl,hq2,v2,hp2,r2⟩:=h2;exact EqAt.none_tuple hp2 hu
  | lst es=>
   obtain⟨p2,ys,jts,rfl,hq2,v2,hp2,r2⟩:=h2;exact EqAt.none_list hp2 hu
 | bl a=>
  cases h1;cases e with
  | non=>
   cases h2;exact EqAt.bool_none _
  | bl b=>
   cases h2;exact EqAt.bool_bool _ _
  | int b=>
   obtain⟨t2,rfl⟩:=h2;exact EqAt.bool_int _ _ _
  | str b=>
   obtain⟨t2,rfl⟩:=h2;exact EqAt.bool_str _ _ _
  | tup es=>
   obtain⟨p2,ys,jts,rfl,hq2,v2,hp2,r2⟩:=h2;exact EqAt.bool_tuple _ hp2 hu
  | lst es=>
   obtain⟨p2,ys,jts,rfl,hq2,v2,hp2,r2⟩:=h2;exact EqAt.bool_list _ hp2 hu
 | int a=>
  obtain⟨t1,rfl⟩:=h1;cases e with
  | non=>
   cases h2;exact EqAt.int_none _ _
  | bl b=>
   cases h2;exact EqAt.int_bool _ _ _
  | int b=>
   obtain⟨t2,rfl⟩:=h2;exact EqAt.int_int _ _ _ _
  | str b=>
   obtain⟨t2,rfl⟩:=h2;exact EqAt.int_str _ _ _ _
  | tup es=>
   obtain⟨p2,ys,jts,rfl,hq2,v2,hp2,r2⟩:=h2;exact EqAt.int_tuple _ _ hp2 hu
  | lst es=>
   obtain⟨p2,ys,jts,rfl,hq2,v2,hp2,r2⟩:=h2;exact EqAt.int_list _ _ hp2 hu
 | str a=>
  obtain⟨t1,rfl⟩:=h1;cases e with
  | non=>
   cases h2;exact EqAt.str_none _ _
  | bl b=>
   cases h2;exact EqAt.str_bool _ _ _
  | int b=>
   obtain⟨t2,rfl⟩:=h2;exact EqAt.str_int _ _ _ _
  | str b=>
   obtain⟨t2,rfl⟩:=h2;exact EqAt.str_str _ _ _ _
  | tup es=>
   obtain⟨p2,ys,jts,rfl,hq2,v2,hp2,r2⟩:=h2;exact EqAt.str_tuple _ _ hp2 hu
  | lst es=>
   obtain⟨p2,ys,jts,rfl,hq2,v2,hp2,r2⟩:=h2;exact EqAt.str_list _ _ hp2 hu
 | tup ds=>
  obtain⟨p1,xs,its,rfl,hq1,v1,hp1,r1⟩:=h1;cases e with
  | non=>
   cases h2;exact EqAt.tuple_none hp1 hu
  | bl b=>
   cases h2;exact EqAt.tuple_bool _ hp1 hu
  | int b=>
   obtain⟨t2,rfl⟩:=h2;exact EqAt.tuple_int _ _ hp1 hu
  | str b=>
   obtain⟨t2,rfl⟩:=h2;exact EqAt.tuple_str _ _ hp1 hu
  | tup es=>
   obtain⟨p2,ys,jts,rfl,hq2,v2,hp2,r2⟩:=h2;by_cases hne:p1=p2
   ·subst hne;cases I.tuple_inj hq1 hq2;rw[jX,aU.inj I ds es xs r1 r2,rJ];exact EqAt.same _
   ·have q:=EqAt.of_refs hne (RcAt.tuples hp1 hp2 hu (qw r1 r2 v1 v2 ih));simp only[z1c] at q;rw[Ho (r1.length.trans v1.length) (r2.length.trans v2.length)] at q;rw[jX];exact q
  | lst es=>
   obtain⟨p2,ys,jts,rfl,hq2,v2,hp2,r2⟩:=h2;exact EqAt.tuple_list hp1 hp2 hu
 | lst ds=>
  obtain⟨p1,xs,its,rfl,hq1,v1,hp1,r1⟩:=h1;cases e with
  | non=>
   cases h2;exact EqAt.list_none hp1 hu
  | bl b=>
   cases h2;exact EqAt.list_bool _ hp1 hu
  | int b=>
   obtain⟨t2,rfl⟩:=h2;exact EqAt.list_int _ _ hp1 hu
  | str b=>
   obtain⟨t2,rfl⟩:=h2;exact EqAt.list_str _ _ hp1 hu
  | tup es=>
   obtain⟨p2,ys,jts,rfl,hq2,v2,hp2,r2⟩:=h2;exact EqAt.list_tuple hp1 hp2 hu
  | lst es=>
   obtain⟨p2,ys,jts,rfl,hq2,v2,hp2,r2⟩:=h2;by_cases hne:p1=p2
   ·subst hne;cases I.list_inj hq1 hq2;rw[iV,aU.inj I ds es xs r1 r2,rJ];exact EqAt.same _
   ·by_cases hz:ds.length=es.length
    ·have q:=EqAt.of_refs hne (RcAt.lists hp1 hp2 (by simp only[z1c];rw[<-v1.length,<-v2.length,<-r1.length,<-r2.length];exact hz) hu (qw r1 r2 v1 v2 ih));rw[z1c,<-v1.length,<-r1.length,<-uY hz] at q;rw[iV];exact q
    ·rw[iV,uX hz];exact EqAt.of_refs hne (RcAt.lists_lengths hp1 hp2 (by simp only[z1c];rw[<-v1.length,<-v2.length,<-r1.length,<-r2.length];simpa using hz) hu)
theorem Zw(I:Inv X pins σ H s)(hu:A.units<afE){e:D}(h1:Lk X O H s d u)(h2:Lk X O' H s e u')
  (ih:∀c∈(match d with | .tup ds=>ds | .lst ds=>ds |_=>[]),∀(e:D) (v w:V) (u u':aef),Rep X.K O H c v->Rep X.K O' H e w->RelV v u->RelV w u'->EqAt A.in1 s u u' (cW c e)):RcAt A s u u' (cW d e):=by
 cases d with
 | non=>
  cases h1;cases e with
  | non=>
   cases h2;exact RcAt.none_none
  | bl b=>
   cases h2;exact RcAt.none_bool _
  | int b=>
   obtain⟨t2,rfl⟩:=h2;exact RcAt.none_int _ _
  | str b=>
   obtain⟨t2,rfl⟩:=h2;exact RcAt.none_str _ _
  | tup es=>
   obtain⟨p2,ys,jts,rfl,hq2,v2,hp2,r2⟩:=h2;exact RcAt.none_tuple hp2 hu
  | lst es=>
   obtain⟨p2,ys,jts,rfl,hq2,v2,hp2,r2⟩:=h2;exact RcAt.none_list hp2 hu
 | bl a=>
  cases h1;cases e with
  | non=>
   cases h2;exact RcAt.bool_none _
  | bl b=>
   cases h2;exact RcAt.bool_bool _ _
  | int b=>
   obtain⟨t2,rfl⟩:=h2;exact RcAt.bool_int _ _ _
  | str b=>
   obtain⟨t2,rfl⟩:=h2;exact RcAt.bool_str _ _ _
  | tup es=>
   obtain⟨p2,ys,jts,rfl,hq2,v2,hp2,r2⟩:=h2;exact RcAt.bool_tuple _ hp2 hu
  | lst es=>
   obtain⟨p2,ys,jts,rfl,hq2,v2,hp2,r2⟩:=h2;exact RcAt.bool_list _ hp2 hu
 | int a=>
  obtain⟨t1,rfl⟩:=h1;cases e with
  | non=>
   cases h2;exact RcAt.int_none _ _
  | bl b=>
   cases h2;exact RcAt.int_bool _ _ _
  | int b=>
   obtain⟨t2,rfl⟩:=h2;exact RcAt.int_int _ _ _ _
  | str b=>
   obtain⟨t2,rfl⟩:=h2;exact RcAt.int_str _ _ _ _
  | tup es=>
   obtain⟨p2,ys,jts,rfl,hq2,v2,hp2,r2⟩:=h2;exact RcAt.int_tuple _ _ hp2 hu
  | lst es=>
   obtain⟨p2,ys,jts,rfl,hq2,v2,hp2,r2⟩:=h2;exact RcAt.int_list _ _ hp2 hu
 | str a=>
  obtain⟨t1,rfl⟩:=h1;cases e with
  | non=>
   cases h2;exact RcAt.str_none _ _
  | bl b=>
   cases h2;exact RcAt.str_bool _ _ _
  | int b=>
   obtain⟨t2,rfl⟩:=h2;exact RcAt.str_int _ _ _ _
  | str b=>
   obtain⟨t2,rfl⟩:=h2;exact RcAt.str_str _ _ _ _
  | tup es=>
   obtain⟨p2,ys,jts,rfl,hq2,v2,hp2,r2⟩:=h2;exact RcAt.str_tuple _ _ hp2 hu
  | lst es=>
   obtain⟨p2,ys,jts,rfl,hq2,v2,hp2,r2⟩:=h2;exact RcAt.str_list _ _ hp2 hu
 | tup ds=>
  obtain⟨p1,xs,its,rfl,hq1,v1,hp1,r1⟩:=h1;cases e with
  | non=>
   cases h2;exact RcAt.tuple_none hp1 hu
  | bl b=>
   cases h2;exact RcAt.tuple_bool _ hp1 hu
  | int b=>
   obtain⟨t2,rfl⟩:=h2;exact RcAt.tuple_int _ _ hp1 hu
  | str b=>
   obtain⟨t2,rfl⟩:=h2;exact RcAt.tuple_str _ _ hp1 hu
  | tup es=>
   obtain⟨p2,ys,jts,rfl,hq2,v2,hp2,r2⟩:=h2;have q:=RcAt.tuples hp1 hp2 hu (qw r1 r2 v1 v2 ih);simp only[z1c] at q;rw[Ho (r1.length.trans v1.length) (r2.length.trans v2.length)] at q;rw[jX];exact q
  | lst es=>
   obtain⟨p2,ys,jts,rfl,hq2,v2,hp2,r2⟩:=h2;exact RcAt.tuple_list hp1 hp2 hu
 | lst ds=>
  obtain⟨p1,xs,its,rfl,hq1,v1,hp1,r1⟩:=h1;cases e with
  | non=>
   cases h2;exact RcAt.list_none hp1 hu
  | bl b=>
   cases h2;exact RcAt.list_bool _ hp1 hu
  | int b=>
   obtain⟨t2,rfl⟩:=h2;exact RcAt.list_int _ _ hp1 hu
  | str b=>
   obtain⟨t2,rfl⟩:=h2;exact RcAt.list_str _ _ hp1 hu
  | tup es=>
   obtain⟨p2,ys,jts,rfl,hq2,v2,hp2,r2⟩:=h2;exact RcAt.list_tuple hp1 hp2 hu
  | lst es=>
   obtain⟨p2,ys,jts,rfl,hq2,v2,hp2,r2⟩:=h2;by_cases hz:ds.length=es.length
   ·have q:=RcAt.lists hp1 hp2 (by simp only[z1c];rw[<-v1.length,<-v2.length,<-r1.length,<-r2.length];exact hz) hu (qw r1 r2 v1 v2 ih);rw[z1c,<-v1.length,<-r1.length,<-uY hz] at q;rw[iV];exact q
   ·rw[iV,uX hz];exact RcAt.lists_lengths hp1 hp2 (by simp only[z1c];rw[<-v1.length,<-v2.length,<-r1.length,<-r2.length];simpa using hz) hu
theorem Zx(I:Inv X pins σ H s)(hu:A.units<afE){e:D}(h1:Lk X O H s d u)(h2:Lk X O' H s e u')
  (ih:∀c∈(match d with | .tup ds=>ds | .lst ds=>ds |_=>[]),∀(e:D) (v w:V) (u u':aef),Rep X.K O H c v->Rep X.K O' H e w->RelV v u->RelV w u'->EqAt A.in1 s u u' (cW c e)):RcNeAt A s u u' (!cW d e):=by
 cases d with
 | non=>
  cases h1;cases e with
  | non=>
   cases h2;exact RcNeAt.none_none
  | bl b=>
   cases h2;exact RcNeAt.none_bool _
  | int b=>
   obtain⟨t2,rfl⟩:=h2;exact RcNeAt.none_int _ _
  | str b=>
   obtain⟨t2,rfl⟩:=h2;exact RcNeAt.none_str _ _
  | tup es=>
   obtain⟨p2,ys,jts,rfl,hq2,v2,hp2,r2⟩:=h2;exact RcNeAt.none_tuple hp2 hu
  | lst es=>
   obtain⟨p2,ys,jts,rfl,hq2,v2,hp2,r2⟩:=h2;exact RcNeAt.none_list hp2 hu
 | bl a=>
  cases h1;cases e with
  | non=>
   cases h2;exact RcNeAt.bool_none _
  | bl b=>
   cases h2;exact RcNeAt.bool_bool _ _
  | int b=>
   obtain⟨t2,rfl⟩:=h2;exact RcNeAt.bool_int _ _ _
  | str b=>
   obtain⟨t2,rfl⟩:=h2;exact RcNeAt.bool_str _ _ _
  | tup es=>
   obtain⟨p2,ys,jts,rfl,hq2,v2,hp2,r2⟩:=h2;exact RcNeAt.bool_tuple _ hp2 hu
  | lst es=>
   obtain⟨p2,ys,jts,rfl,hq2,v2,hp2,r2⟩:=h2;exact RcNeAt.bool_list _ hp2 hu
 | int a=>
  obtain⟨t1,rfl⟩:=h1;cases e with
  | non=>
   cases h2;exact RcNeAt.int_none _ _
  | bl b=>
   cases h2;exact RcNeAt.int_bool _ _ _
  | int b=>
   obtain⟨t2,rfl⟩:=h2;exact RcNeAt.int_int _ _ _ _
  | str b=>
   obtain⟨t2,rfl⟩:=h2;exact RcNeAt.int_str _ _ _ _
  | tup es=>
   obtain⟨p2,ys,jts,rfl,hq2,v2,hp2,r2⟩:=h2;exact RcNeAt.int_tuple _ _ hp2 hu
  | lst es=>
   obtain⟨p2,ys,jts,rfl,hq2,v2,hp2,r2⟩:=h2;exact RcNeAt.int_list _ _ hp2 hu
 | str a=>
  obtain⟨t1,rfl⟩:=h1;cases e with
  | non=>
   cases h2;exact RcNeAt.str_none _ _
  | bl b=>
   cases h2;exact RcNeAt.str_bool _ _ _
  | int b=>
   obtain⟨t2,rfl⟩:=h2;exact RcNeAt.str_int _ _ _ _
  | str b=>
   obtain⟨t2,rfl⟩:=h2;exact RcNeAt.str_str _ _ _ _
  | tup es=>
   obtain⟨p2,ys,jts,rfl,hq2,v2,hp2,r2⟩:=h2;exact RcNeAt.str_tuple _ _ hp2 hu
  | lst es=>
   obtain⟨p2,ys,jts,rfl,hq2,v2,hp2,r2⟩:=h2;exact RcNeAt.str_list _ _ hp2 hu
 | tup ds=>
  obtain⟨p1,xs,its,rfl,hq1,v1,hp1,r1⟩:=h1;cases e with
  | non=>
   cases h2;exact RcNeAt.tuple_none hp1 hu
  | bl b=>
   cases h2;exact RcNeAt.tuple_bool _ hp1 hu
  | int b=>
   obtain⟨t2,rfl⟩:=h2;exact RcNeAt.tuple_int _ _ hp1 hu
  | str b=>
   obtain⟨t2,rfl⟩:=h2;exact RcNeAt.tuple_str _ _ hp1 hu
  | tup es=>
   obtain⟨p2,ys,jts,rfl,hq2,v2,hp2,r2⟩:=h2;have q:=RcNeAt.tuples hp1 hp2 hu (qw r1 r2 v1 v2 ih);simp only[z1c] at q;rw[Ho (r1.length.trans v1.length) (r2.length.trans v2.length)] at q;rw[jX];exact q
  | lst es=>
   obtain⟨p2,ys,jts,rfl,hq2,v2,hp2,r2⟩:=h2;exact RcNeAt.tuple_list hp1 hp2 hu
 | lst ds=>
  obtain⟨p1,xs,its,rfl,hq1,v1,hp1,r1⟩:=h1;cases e with
  | non=>
   cases h2;exact RcNeAt.list_none hp1 hu
  | bl b=>
   cases h2;exact RcNeAt.list_bool _ hp1 hu
  | int b=>
   obtain⟨t2,rfl⟩:=h2;exact RcNeAt.list_int _ _ hp1 hu
  | str b=>
   obtain⟨t2,rfl⟩:=h2;exact RcNeAt.list_str _ _ hp1 hu
  | tup es=>
   obtain⟨p2,ys,jts,rfl,hq2,v2,hp2,r2⟩:=h2;exact RcNeAt.list_tuple hp1 hp2 hu
  | lst es=>
   obtain⟨p2,ys,jts,rfl,hq2,v2,hp2,r2⟩:=h2;by_cases hz:ds.length=es.length
   ·have q:=RcNeAt.lists hp1 hp2 (by simp only[z1c];rw[<-v1.length,<-v2.length,<-r1.length,<-r2.length];exact hz) hu (qw r1 r2 v1 v2 ih);rw[z1c,<-v1.length,<-r1.length,<-uY hz] at q;rw[iV];exact q
   ·rw[iV,uX hz];exact RcNeAt.lists_lengths hp1 hp2 (by simp only[z1c];rw[<-v1.length,<-v2.length,<-r1.length,<-r2.length];simpa using hz) hu
theorem uZ(I:Inv X pins σ H s):∀(n:Nat) (A:aeF) (d:D),dep d<=n->A.units+n<afE->∀(e:D) (v w:V) (u u':aef),Rep X.K O H d v->Rep X.K O' H e w->RelV v u->RelV w u'->EqAt A s u u' (cW d e):=by
 intro n
 induction n with
 | zero=>
  intro A d hd hu e v w u u' r1 r2 q1 q2;refine QB I (by omega) (wJ I r1 q1) (wJ I r2 q2) λc hc=>?_;cases d with
  |tup ds=>rw[dep] at hd;omega
  |lst ds=>rw[dep] at hd;omega
  |_=>simp at hc
 | succ n ihn=>
  intro A d hd hu e v w u u' r1 r2 q1 q2;refine QB I (by omega) (wJ I r1 q1) (wJ I r2 q2) λc hc=>?_;have hc':dep c<=n:=by
   cases d with
   |tup ds=>rw[dep] at hd;have:=qu (ds:=ds) hc;omega
   |lst ds=>rw[dep] at hd;have:=qu (ds:=ds) hc;omega
   |_=>simp at hc
  exact ihn A.in1 c hc' (by show A.units+1+n<afE;omega)
end
def fM(d e:D):R D:=if dep d<=40 then .ok (.bl (cW d e)) else .bad
def jF(d e:D):R D:=if dep d<=40 then .ok (.bl (!cW d e)) else .bad
section
variable{X:Cx}
theorem acf(hu:X.A.units+60<afE):OpR X (ae9 .Eq) (λx y H Q=>∃O O' d e,Rep X.K O H d x/\Rep X.K O' H e y/\dep d<=40/\Q (.bl (cW d e)) H):=by
 intro pins s σ H x y v u Q I rx ry h;obtain⟨O,O',d,e,r1,r2,hd,q⟩:=h;refine Zw I (show X.A.units<afE by omega) (wJ I r1 rx) (wJ I r2 ry) (λc hc=>?_) X.prog X.w X.xe _ ⟨.bl _,H,I,rfl,q⟩;have hc':dep c<=40:=by
  cases d with
  |tup ds=>rw[dep] at hd;have:=qu (ds:=ds) hc;omega
  |lst ds=>rw[dep] at hd;have:=qu (ds:=ds) hc;omega
  |_=>simp at hc
 exact uZ I 40 X.A.in1 c hc' (by show X.A.units+1+40<afE;omega)
theorem acg(hu:X.A.units+60<afE):OpR X (ae9 .NotEq) (λx y H Q=>∃O O' d e,Rep X.K O H d x/\Rep X.K O' H e y/\dep d<=40/\Q (.bl (!cW d e)) H):=by
 intro pins s σ H x y v u Q I rx ry h;obtain⟨O,O',d,e,r1,r2,hd,q⟩:=h;refine Zx I (show X.A.units<afE by omega) (wJ I r1 rx) (wJ I r2 ry) (λc hc=>?_) X.prog X.w X.xe _ ⟨.bl _,H,I,rfl,q⟩;have hc':dep c<=40:=by
  cases d with
  |tup ds=>rw[dep] at hd;have:=qu (ds:=ds) hc;omega
  |lst ds=>rw[dep] at hd;have:=qu (ds:=ds) hc;omega
  |_=>simp at hc
 exact uZ I 40 X.A.in1 c hc' (by show X.A.units+1+40<afE;omega)
theorem fL(hu:X.A.units+60<afE):lu X (ae9 .Eq) fM:=by
 refine⟨_,acf hu,λρ O σ H Q x y dx dy j rx ry h=>?_⟩;unfold fM at h;by_cases hd:dep dx<=40
 ·rw[if_pos hd] at h;exact⟨O,O,dx,dy,rx,ry,hd,fin h (gF _)⟩
 ·rw[if_neg hd] at h;exact h.elim
theorem tX(hu:X.A.units+60<afE):lu X (ae9 .NotEq) jF:=by
 refine⟨_,acg hu,λρ O σ H Q x y dx dy j rx ry h=>?_⟩;unfold jF at h;by_cases hd:dep dx<=40
 ·rw[if_pos hd] at h;exact⟨O,O,dx,dy,rx,ry,hd,fin h (gF _)⟩
 ·rw[if_neg hd] at h;exact h.elim
end
end Pu
namespace Pu
open PySem PySem.Spec L2
open PyProof.Rows hiding St
section
variable{prog:aew}{w:aey}{A:aeF}{E:aef->aeg->Prop}{s:aeg}
end
section
variable{X:Cx}{e:aer}{te:TE}{pos p2 p3 p4:Pos}{j:Nat}{f:aB->R D}
theorem Vals.rev{xs:List V}{us:List aef}(h:Vals xs us):Vals xs.reverse us.reverse:=by
 induction h with
 |nil=>exact .nil
 | cons r _ ih=>
  simp only[List.reverse_cons];exact ih.append (.cons r .nil)
def ad8:D->R D
 | .tup ds=> .ok (.tup ds.reverse)
 |_=> .bad
def gk:D->D->R D
 | .int i,.int j=> .ok (.int (i+j))
 | .tup xs,.tup ys=>if 0<xs.length/\xs.length+ys.length<=1000000 then .ok (.tup (xs++ys)) else .bad
 |_,_=> .bad
theorem jY:lu X (afs .Add) gk:=by
 refine⟨_,OpR.or op_add op_catT,λρ O σ H Q x y dx dy j0 rx ry h=>?_⟩;cases dx <;> cases dy <;> first
  |exact h.elim
  |skip
 ·rename_i i j;exact .inl ⟨i,j,rx.int,ry.int,fin h (cP _)⟩
 ·rename_i xs ys;have h:good X (rD X) O (if 0<xs.length/\xs.length+ys.length<=1000000 then .ok (.tup (xs++ys)) else .bad) σ H Q:=h;by_cases hc:0<xs.length/\xs.length+ys.length<=1000000
  ·rw[if_pos hc] at h;obtain⟨a,us,rfl,ha,r1⟩:=rx.tup;obtain⟨b,ws,rfl,hb,r2⟩:=ry.tup;refine .inr ⟨a,b,us,ws,rfl,rfl,ha,hb,λz=>?_,?_,λz=>?_,λz l hl=>?_⟩
   ·have h1:=r1.length;have h2:=hc.1;rw[z] at h1;rw[h1] at h2;exact afj _ h2
   ·rw[<-r1.length,<-r2.length];exact z0b hc.2 fQ
   ·subst z;have:ys=[]:=aeP r2.length;subst this;rw[afg] at h;exact fin h (iK ha r1)
   ·exact h _ _ (Same.upd hl) (Rep.uw hl (r1.append r2))
  ·rw[if_neg hc] at h;exact h.elim
end
section
variable{K:aeh}{O:aed->Prop}{H:Hp}
end
section
variable{X:Cx}{e e1 e2:aer}{f g:aB->R D}{pos:Pos}
end
end Pu
namespace Pu
open PySem PySem.W PyProof.Rows
variable{p:Array Nat}
def Sat{α:Type}(n:Nat)(lt:Nat->Nat->Bool):KasT α->(α->Prop)->Prop
 | .ret a,Q=>Q a
 | .ask i j k,Q=>i<n/\j<n/\Sat n lt (k (lt i j)) Q
section
variable{n:Nat}{lt:Nat->Nat->Bool}
theorem Sat.bind{α β:Type}{f:α->KasT β}{Q:β->Prop}:∀{t:KasT α},Sat n lt t (λa=>Sat n lt (f a) Q)->Sat n lt (t.bind f) Q
 | .ret _,h=>h
 | .ask i j k,h=>⟨h.1,h.2.1,Sat.bind h.2.2⟩
theorem Sat.mono{α:Type}{Q Q':α->Prop}(w:∀a,Q a->Q' a):∀{t:KasT α},Sat n lt t Q->Sat n lt t Q'
 | .ret _,h=>w _ h
 | .ask _ _ _,h=>⟨h.1,h.2.1,Sat.mono w h.2.2⟩
theorem Sat.wp{α:Type}{cmp:Nat->Nat->(Bool->aeg->Prop)->aeg->Prop}{s:aeg}{P:α->Prop}{Q:α->aeg->Prop}(hc:∀i j C,i<n->j<n->C (lt i j) s->cmp i j C s)(hQ:∀a,P a->Q a s):
  ∀{t:KasT α},Sat n lt t P->t.kasWp cmp Q s
 | .ret _,h=>hQ _ h
 | .ask i j k,h=>hc i j _ h.1 h.2.1 (Sat.wp hc hQ h.2.2)
structure Ord(n:Nat)(lt:Nat->Nat->Bool):Prop where
 tr:∀a b c,a<n->b<n->c<n->lt a b=true->lt b c=true->lt a c=true
 tot:∀a b,a<n->b<n->a≠b->lt a b=false->lt b a=true
structure Pm(n:Nat)(p:Array Nat):Prop where
 size:p.size=n
 perm:p.toList.Perm (aee n)
theorem Pm.bd(h:Pm n p){i:Nat}(hi:i<n):p.getD i 0<n:=by
 have hs:i<p.size:=by rw[h.size];exact hi
 have:p.getD i 0=p[i]:=by simp[ajh,hs]
 rw[this];have hm:p[i]∈p.toList:=by simp
 exact z2e (h.perm.mem_iff.mp hm)
theorem Pm.ne(h:Pm n p){i j:Nat}(hi:i<n)(hj:j<n)(hij:i≠j):p.getD i 0≠p.getD j 0:=by
 have hs:i<p.size:=by rw[h.size];exact hi
 have hs2:j<p.size:=by rw[h.size];exact hj
 have e1:p.getD i 0=p.toList[i]'(by simpa using hs):=by simp[ajh,hs]
 have e2:p.getD j 0=p.toList[j]'(by simpa using hs2):=by simp[ajh,hs2]
 rw[e1,e2];have nd:p.toList.Nodup:=h.perm.nodup_iff.mpr List.nodup_range;intro z;exact hij ((aiI nd).mp z)
theorem Pm.of{q:Array Nat}(h:Pm n p)(w:q.Perm p):Pm n q:=
 ⟨by rw[<-h.size];exact w.size_eq,(Array.perm_iff_toList_perm.mp w).trans h.perm⟩
def S(lt:Nat->Nat->Bool)(p:Array Nat)(k:Nat):Prop:=∀i j,i<j->j<k->lt (p.getD i 0) (p.getD j 0)=true
def De(lt:Nat->Nat->Bool)(p:Array Nat)(k:Nat):Prop:=∀i j,i<j->j<k->lt (p.getD j 0) (p.getD i 0)=true
theorem S.one:S lt p 1:=λi j h1 h2=>by omega
theorem S.ext(o:Ord n lt)(h:Pm n p){a:Nat}(ha:1<=a)(hn:a<n)(s:S lt p a)(e:lt (p.getD (a - 1) 0) (p.getD a 0)=true):S lt p (a+1):=λi j h1 h2=>by
 by_cases hj:j<a
 ·exact s i j h1 hj
 ·have ej:j=a:=by omega
  subst ej;by_cases hi:i=j - 1
  ·rw[hi];exact e
  ·exact o.tr _ _ _ (h.bd (by omega)) (h.bd (by omega)) (h.bd hn) (s i (j - 1) (by omega) (by omega)) e
theorem De.ext(o:Ord n lt)(h:Pm n p){a:Nat}(ha:1<=a)(hn:a<n)(s:De lt p a)(e:lt (p.getD a 0) (p.getD (a - 1) 0)=true):De lt p (a+1):=λi j h1 h2=>by
 by_cases hj:j<a
 ·exact s i j h1 hj
 ·have ej:j=a:=by omega
  subst ej;by_cases hi:i=j - 1
  ·rw[hi];exact e
  ·exact o.tr _ _ _ (h.bd hn) (h.bd (by omega)) (h.bd (by omega)) e (s i (j - 1) (by omega) (by omega))
theorem Lj(o:Ord n lt){p:Array Nat}(h:Pm n p):∀(f a:Nat),1<=a->a+f<=n->S lt p a->Sat n lt (kas_asc p f a) (λm=>a<=m/\m<=a+f/\S lt p m/\(m<a+f->lt (p.getD m 0) (p.getD (m - 1) 0)=true))
 |0,a,h1,h2,s=>⟨z0g _,z0g _,s,λz=>absurd z (by omega)⟩
 | f +1,a,h1,h2,s=>by
  refine⟨h.bd (by omega),h.bd (by omega),?_⟩;cases e:lt (p.getD a 0) (p.getD (a - 1) 0) with
  |true=>exact⟨z0g _,by omega,s,λ_=>e⟩
  | false=>
   have e':=o.tot _ _ (h.bd (by omega)) (h.bd (by omega)) (h.ne (i:=a) (j:=a - 1) (by omega) (by omega) (by omega)) e;show Sat n lt (kas_asc p f (a+1)) _;refine Sat.mono (λm ⟨m1,m2,m3,m4⟩=>⟨by omega,by omega,m3,λz=>m4 (by omega)⟩) (Lj o h f (a+1) (by omega) (by omega) (S.ext o h h1 (by omega) s e'))
theorem QC(o:Ord n lt){p:Array Nat}(h:Pm n p):∀(f a:Nat),1<=a->a+f<=n->De lt p a->Sat n lt (kas_desc f p a 0) (λr=>r.1=p/\r.2.2=0/\a<=r.2.1/\r.2.1<=a+f/\De lt p r.2.1)
 |0,a,h1,h2,s=>⟨rfl,rfl,z0g _,z0g _,s⟩
 | f +1,a,h1,h2,s=>by
  refine⟨h.bd (by omega),h.bd (by omega),?_⟩;cases e:lt (p.getD a 0) (p.getD (a - 1) 0) with
  | true=>
   show Sat n lt (kas_desc f p (a+1) 0) _;exact Sat.mono (λr ⟨m1,m2,m3,m4,m5⟩=>⟨m1,m2,by omega,by omega,m5⟩) (QC o h f (a+1) (by omega) (by omega) (De.ext o h h1 (by omega) s e))
  | false=>
   have e':=o.tot _ _ (h.bd (by omega)) (h.bd (by omega)) (h.ne (i:=a) (j:=a - 1) (by omega) (by omega) (by omega)) e;refine⟨h.bd (by omega),h.bd (by omega),?_⟩;rw[e'];exact⟨rfl,rfl,z0g _,ag9 _ _,s⟩
theorem Fx{q:Array Nat}{i j:Nat}(h:p[i]?=q[j]?):p.getD i 0=q.getD j 0:=by
 rw[ail,ail,h]
theorem Xo(o:Ord n lt)(h:Pm n p){m:Nat}(h1:1<=m)(h2:m<=n)(s:De lt p m):Sat n lt (kas_tail3 m n p) (λr=>Pm n r.2/\1<=r.1/\r.1<=n/\S lt r.2 r.1):=by
 have hq:Pm n (kas_rev p 0 m):=h.of (mirror_perm _ _ _ _);have hs:S lt (kas_rev p 0 m) m:=λi j hij hj=>by
  have g:∀k,k<m->(kas_rev p 0 m).getD k 0=p.getD (m - 1 - k) 0:=λk hk=>by
   apply Fx;show (mirror p 0 m ((m - 0) / 2))[k]?=_;rw[getElem?_mirror_all (by rw[h.size];exact h2),if_pos ⟨by omega,hk⟩];congr 1;omega
  rw[g i (by omega),g j hj];exact s (m - 1 - j) (m - 1 - i) (by omega) (by omega)
 exact Sat.bind (Sat.mono (λk ⟨k1,k2,k3,_⟩=>⟨hq,by omega,by omega,k3⟩) (Lj o hq (n - m) m h1 (by omega) hs))
theorem Xp(o:Ord n lt)(h:Pm n p)(hn:1<=n):Sat n lt (kas_count n p) (λr=>Pm n r.2/\1<=r.1/\r.1<=n/\S lt r.2 r.1):=by
 refine Sat.bind (Sat.mono (λm ⟨m1,m2,m3,m4⟩=>?_) (Lj o h (n - 1) 1 (z0g _) (by omega) S.one));by_cases e:m=n
 ·rw[if_pos (by simp[e])];exact⟨h,m1,by omega,m3⟩
 ·rw[if_neg (by simp[e])];by_cases hm:m > 1
  ·rw[if_pos hm];refine⟨h.bd (by omega),h.bd (by omega),?_⟩;rw[m3 0 (m - 1) (by omega) (by omega)];exact⟨h,m1,by omega,m3⟩
  ·rw[if_neg hm];have em:m=1:=by omega
   subst em;have e0:=m4 (by omega);have d2:De lt p 2:=De.ext o h (a:=1) (z0g _) (by omega) (λi j a1 a2=>by omega) e0;refine Sat.bind (Sat.mono (λr ⟨r1,r2,r3,r4,r5⟩=>?_) (QC o h (n - (1+1)) (1+1) (by omega) (by omega) d2));rw[if_neg (by omega),r1];exact Xo o h (by omega) (by omega) r5
theorem BW(o:Ord n lt){p:Array Nat}(h:Pm n p){k:Nat}(hk:k<n)(s:S lt p k):∀(f l r:Nat),l<=r->r<=k->r - l<=f->(∀i,i<l->lt (p.getD i 0) (p.getD k 0)=true)->(∀i,r<=i->i<k->lt (p.getD k 0) (p.getD i 0)=true)->
  Sat n lt (kas_place p k f l r) (λm=>m<=k/\(∀i,i<m->lt (p.getD i 0) (p.getD k 0)=true)/\∀i,m<=i->i<k->lt (p.getD k 0) (p.getD i 0)=true)
 |0,l,r,h1,h2,h3,hl,hr=>⟨by omega,hl,λi a b=>hr i (by omega) b⟩
 | f+1,l,r,h1,h2,h3,hl,hr=>by
  unfold kas_place;by_cases hlr:l>=r
  ·rw[if_pos hlr];exact⟨by omega,hl,λi a b=>hr i (by omega) b⟩
  ·rw[if_neg hlr];have hm:(l+r) / 2<k:=by omega
   refine⟨h.bd hk,h.bd (by omega),?_⟩;cases e:lt (p.getD k 0) (p.getD ((l+r) / 2) 0) with
   | true=>
    refine BW o h hk s f l ((l+r) / 2) (by omega) (by omega) (by omega) hl λi a b=>?_;by_cases hi:i=(l+r) / 2
    ·rw[hi];exact e
    ·exact o.tr _ _ _ (h.bd hk) (h.bd (by omega)) (h.bd (by omega)) e (s _ _ (by omega) b)
   | false=>
    have e':=o.tot _ _ (h.bd hk) (h.bd (by omega)) (h.ne (i:=k) (j:=(l+r) / 2) hk (by omega) (by omega)) e;refine BW o h hk s f ((l+r) / 2+1) r (by omega) h2 (by omega) (λi a=>?_) hr;by_cases hi:i=(l+r) / 2
    ·rw[hi];exact e'
    ·exact o.tr _ _ _ (h.bd (by omega)) (h.bd (by omega)) (h.bd hk) (s i ((l+r) / 2) (by omega) hm) e'
theorem Ur(o:Ord n lt):∀(f:Nat) (p:Array Nat) (k:Nat),Pm n p->S lt p k->k+f<=n->Sat n lt (kas_bin f p k) (λq=>Pm n q/\S lt q (k+f))
 |0,p,k,h,s,_=>⟨h,s⟩
 | f+1, p, k,h,s,hk=>by
  refine Sat.bind (Sat.mono (λl ⟨l1,l2,l3⟩=>?_) (BW o h (by omega) s k 0 k (agT _) (z0g _) (by omega) (λi a=>by omega) λi a b=>by omega));have hq:Pm n (bubble p k (k - l)):=h.of (bubble_perm _ _ _);have g:∀i,(bubble p k (k - l)).getD i 0=if i=l then p.getD k 0 else if l<i/\i<=k then p.getD (i - 1) 0 else p.getD i 0:=λi=>by
   have e:=getElem?_bubble (xs:=p) (src:=k) (by rw[h.size];omega) (k - l) (by omega) i;rw[show k - (k - l)=l by omega] at e;by_cases c1:i=l
   ·rw[if_pos c1] at e |-;exact Fx e
   ·rw[if_neg c1] at e |-;by_cases c2:l<i/\i<=k
    ·rw[if_pos c2] at e |-;exact Fx e
    ·rw[if_neg c2] at e |-;exact Fx e
  have hs : S lt (bubble p k (k - l)) (k+1):=λi j hij hj=>by
   rw[g i,g j];by_cases c1:i=l
   ·rw[if_pos c1,if_neg (by omega),if_pos ⟨by omega,by omega⟩];exact l3 (j - 1) (by omega) (by omega)
   ·rw[if_neg c1];by_cases c2:l<i/\i<=k
    ·rw[if_pos c2,if_neg (by omega),if_pos ⟨by omega,by omega⟩];exact s (i - 1) (j - 1) (by omega) (by omega)
    ·rw[if_neg c2];have hil:i<l:=by omega
     by_cases c3:j=l
     ·rw[if_pos c3];exact l2 i hil
     ·rw[if_neg c3];by_cases c4:l<j/\j<=k
      ·rw[if_pos c4];by_cases c5:i=j - 1
       ·omega
       ·exact s i (j - 1) (by omega) (by omega)
      ·rw[if_neg c4];exact s i j hij (by omega)
  have:=Ur o f (bubble p k (k - l)) (k+1) hq hs (by omega);exact Sat.mono (λq ⟨q1,q2⟩=>⟨q1,by rw[show k+(f+1)=k+1+f by omega];exact q2⟩) this
theorem Zy(o:Ord n lt)(hn:1<=n):Sat n lt (kas_sort n) (λq=>Pm n q/\S lt q n):=by
 have h0:Pm n (ago (aee n)):=⟨by simp,by simp⟩;refine Sat.bind (Sat.mono (λr ⟨r1,r2,r3,r4⟩=>?_) (Xp o h0 hn));by_cases hr:r.1<n
 ·rw[if_pos hr];have e:max r.1 1=r.1:=by omega
  rw[e];refine Sat.mono (λq ⟨q1,q2⟩=>⟨q1,?_⟩) (Ur o (n - r.1) r.2 r.1 r1 r4 (by omega));rw[show r.1+(n - r.1)=n by omega] at q2;exact q2
 ·rw[if_neg hr];have e:r.1=n:=by omega
  rw[e] at r4;exact⟨r1,r4⟩
end
end Pu
namespace Pu
open PySem PySem.Spec PySem.W L2
open PyProof.Rows hiding St
variable{vs:List aef}
theorem Jd{h:aes}{a b:aed}{out:Array aef}{o:Obj}(hb:b≠a)(e:h.get? b=some o):(ah1 h a vs out).get? b=some o:=by
 unfold ah1;rw[afR _ _ _ _ hb];exact z1a _ (z1a _ (by rw[afR _ _ _ _ hb];exact e))
theorem sortedHeap_at{h:aes}{a:aed}{out:Array aef}{n:Nat}(e:h.get? a=some (af0 "list" vs.toArray n)):∃c,(ah1 h a vs out).get? a=some (af0 "list" out c):=by
 unfold ah1;have h1:=ahr e (λ_=>(#[]:Array aef));exact⟨_,ahr (z1a _ (z1a _ h1)) λ_=>out⟩
theorem Xq(vs:List aef)(h:vs.length<2):(vs.toArray.zip vs.toArray).map (·.2)=ago ((ago (aee vs.length)).toList.map λi=>vs.getD i aeL):=by
 match vs,h with
 |[],_=>simp
 |[v],_=>simp[ahs]
 |_::_::_,h=>exact absurd h (by simp)
section
variable{prog:aew}{w:aey}{A:aeF}{E:aef->aeg->Prop}{s:aeg}
theorem aa0{a:aed}{n:Nat}{P:PySem.Fin->aeg->Prop}{lt:Nat->Nat->Bool}{kk:SortKind}(ho:s.heap.get? a=some (af0 "list" vs.toArray n))(h64:vs.length<64)(od:Ord vs.length lt)
  (kind:2<=vs.length->∀h':aes,(∀b ob,b≠a->s.heap.get? b=some ob->h'.get? b=some ob)->∀Q:SortKind->aeg->Prop,Q kk {s with heap:=h'}->aen (model prog w) A (keyKind' vs.toArray) Q (λ_ _=>False) {s with heap:=h'})
  (ask:∀h':aes,(∀b ob,b≠a->s.heap.get? b=some ob->h'.get? b=some ob)->∀i j C,i<vs.length->j<vs.length->C (lt i j) {s with heap:=h'}->kas_ask prog w A kk vs i j C {s with heap:=h'})
  (h:∀q:Array Nat,Pm vs.length q->S lt q vs.length->P (.done (.ret .none)) {s with heap:=ah1 s.heap a vs (ago (q.toList.map λi=>vs.getD i aeL))}):
  aen (model prog w) A (afH.«list.sort» ⟨[.ref a],[]⟩) P E s:=by
 rw[list_sort_plain];have ha:a<s.heap.objs.size:=z2c ho;refine aec (listItems_at ho rfl ?_);refine aec (listUpdate_at ho rfl ?_ (by rw[z1c,agj];omega) (agT _));obtain⟨e1,ho1⟩:∃e1,(s.heap.update a (afL λ_=>(#[]:Array aef))).get? a=some (af0 "list" #[] e1):=⟨_,ahr ho (λ_=> #[])⟩;refine aec (seqEpoch_at ho1 rfl ?_);refine aec (aia ?_ (by show vs.length<=_;rw[agj];omega));refine aec (wpAny_newList ?_ (agT _));refine afT ?_
 generalize hh6:((s.heap.update a (afL λ_=>(#[]:Array aef))).push (af0 "tuple" vs.toArray 0)).push (af0 "list" #[] 0)=h6
 have ho6:h6.get? a=some (af0 "list" #[] e1):=by
  rw[<-hh6];exact z1a _ (z1a _ ho1)
 have keep:∀b ob,b≠a->s.heap.get? b=some ob->h6.get? b=some ob:=λb ob hb e=>by
  rw[<-hh6];exact z1a _ (z1a _ (by rw[afR _ _ _ _ hb];exact e))
 have hsh:∀out:Array aef,ah1 s.heap a vs out=h6.update a (afL λ_=>out):=λout=>by rw[<-hh6];rfl
 show aen (model prog w) A _ P E {s with heap:=h6}
 dsimp only
 have hsz:vs.toArray.size=vs.length:=by simp
 by_cases h2:vs.toArray.size<2
 ·rw[if_pos h2,if_pos h2];refine aec (aej ?_);rw[StateT.run_pure];refine aec (aej ?_)
  dsimp only
  refine aec (seqEpoch_at ho6 rfl ?_);refine aec (listUpdate_at ho6 rfl ?_ (agT _) (by show (((pairsOf vs)).map (·.2)).size<=_;rw[Array.size_map,pairsOf_size,agj];omega));simp only[bne_self_eq_false,afm,if_false];have q:=h (ago (aee vs.length)) ⟨by simp,by simp⟩ (λi j h1 h3=>by omega);rw[hsh] at q;have eo:(arrOf (SortSt.mk' general' (vs.toArray.zip vs.toArray) #[] 7 none)).map (·.2)=ago ((ago (aee vs.length)).toList.map λi=>vs.getD i aeL):=by
   show (vs.toArray.zip vs.toArray).map (·.2)=_;exact Xq vs (by rw[<-hsz];exact h2)
  refine aej ?_;show P _ {s with heap:=h6.update a (afL λ_=>(arrOf (SortSt.mk' general' (vs.toArray.zip vs.toArray) #[] 7 none)).map (·.2))};rw[eo];exact q
 ·rw[if_neg h2,if_neg h2];have h2':2<=vs.length:=by rw[hsz] at h2;omega
  refine aec (afl (kind h2' h6 keep (λκ s'=>κ=kk/\s'={s with heap:=h6}) ⟨rfl,rfl⟩) (λκ s0 hk=>?_) λ_ _ x=>x.elim);obtain⟨rfl,rfl⟩:=hk;have wp:(kas_sort vs.length).kasWp (kas_ask prog w A κ vs) (λp s''=>(Pm vs.length p/\S lt p vs.length)/\s''={s with heap:=h6}) {s with heap:=h6}:=
   Sat.wp (ask h6 keep) (λp hp=>⟨hp,rfl⟩) (Zy od (by omega))
  refine aec (afl (kat_run (Q:=λst' s'=>∃p:Array Nat,p.size=vs.length/\arrOf st'=p.map (kas_item (vs.toArray.zip vs.toArray))/\failedOf st'=none/\(Pm vs.length p/\S lt p vs.length)/\s'={s with heap:=h6})
   rfl h2' h64 (λp' st' s' a1 a2 a3 a4=>⟨p',a1,a2,a3,a4⟩) wp) ?_ λ_ _ e=>e)
  rintro⟨⟨⟩,st'⟩ s' ⟨p,hp,har,hf,⟨hpm,hps⟩,rfl⟩
  dsimp only
  have hout:=kat_snds rfl har;rw[hout];refine aec (seqEpoch_at ho6 rfl ?_);refine aec (listUpdate_at ho6 rfl ?_ (agT _) (by show (ago (p.toList.map λi=>vs.getD i aeL)).size<=_;rw[z1c,z1g,agf,hp,agj];omega));rw[hf];simp only[bne_self_eq_false,afm,if_false];have q:=h p hpm hps;rw[hsh] at q;exact aej q
end
section
variable{prog:aew}{w:aey}{A:aeF}{E:aef->aeg->Prop}{s:aeg}
end
section
variable{X:Cx}{pins:List (aed×Obj)}{σ:St}{H:Hp}{s:aeg}
end
theorem Us:∀as:List aed,Vals (as.map V.ref) (as.map aez)
 |[]=> .nil
 |a::as=> .cons rfl (Us as)
section
variable{X:Cx}
end
section
variable{X:Cx}
end
end Pu
namespace Pu
open PySem PySem.Spec L2
open PyProof.Rows hiding St
section
variable{X:Cx}{a b:aer}{es:List aer}{f g:aB->R D}{fa:aB->R (List D)}{pos:Pos}
def QD(i k:Nat)(f g:aB->R D):aB->So:=λρ=>lA (f ρ) ρ λd=>lA (g ρ) ρ λe=> .nx ((ρ.set i (some (.val d))).set k (some (.val e)))
theorem ach(i k:Nat){x y:Str}{px py pt:Pos}{kt k2 pt2}(hc:X.calm=true)(hN:X.N.Nodup)(ha:DE X a f)(hb:DE X b g)(hi:X.N[i]?=some x:=by rfl)(hk:X.N[k]?=some y:=by rfl)(hik:i≠k:=by decide)
  (hx:X.env.scope.names.lookup x=some .local:=by rfl)(hy:X.env.scope.names.lookup y=some .local:=by rfl)
  (h1:aei [a,b] X.env=(false,eval a X.env)::aei [b] X.env:=by rfl)(h2:aei [b] X.env=(false,eval b X.env)::aei [] X.env:=by rfl)
  (hw:ahg [.Tuple [.Name x px,.Name y py] kt pt] (.Tuple [a,b] k2 pt2) X.env=pure (some [x,y]):=by rfl)
  (hs:ahf [.Tuple [.Name x px,.Name y py] kt pt] (.Tuple [a,b] k2 pt2) pos.line X.env=pure false:=by rfl):
  DS X (.Assign [.Tuple [.Name x px,.Name y py] kt pt] (.Tuple [a,b] k2 pt2) pos) (QD i k f g):=by
 refine PS.imp (ps_par hc hN hi hk hik hx hy (pa_cons ha (pa_cons hb pa_nil h2) h1) hw hs) λσ H E h=>?_;obtain⟨H0,O0,O,ρ,j,h⟩:=h;refine⟨ρ,O,j.inn,?_⟩;unfold QD lA at h;cases e1:f ρ with
 |bad=>rw[e1] at h;exact h
 |err c=>rw[e1] at h;exact h σ H O j
 | ok d=>
  rw[e1] at h;intro v H1 s1 rv;have j1:=j.grow s1;refine⟨ρ,O,j1.inn,?_⟩;cases e2:g ρ with
  |bad=>simp only[e2] at h;exact h
  |err c=>simp only[e2] at h;exact M8.same (h σ H O j) s1
  | ok e=>
   simp only[e2] at h;intro w H2 s2 rw2;refine⟨v,w,rfl,?_⟩;exact h _ H2 O (((j1.grow s2).set (z1b hi).1 (rv.same s2)).set (z1b hk).1 rw2) ((Same.gq s1).trans (Same.gq s2))
def QF(i k:Nat)(f:aB->R D)(fa:aB->R (List D)):aB->So:=λρ=>lA (f ρ) ρ λd=>match fa ρ with
 | .ok ds=>if ds.length<=1000000 then .nx ((ρ.set i (some (.val d))).set k (some (.lst ds))) else .bad
 |_=> .bad
theorem aa1(i k:Nat){x y:Str}{px py pt p3:Pos}{kt k2 pt2}(hc:X.calm=true)(hN:X.N.Nodup)(ha:DE X a f)(hb:DA X es fa)(hi:X.N[i]?=some x:=by rfl)(hk:X.N[k]?=some y:=by rfl)
  (hx:Loc X.env.scope x:=by first |exact afo rfl |exact afa rfl)(hy:Loc X.env.scope y:=by first |exact afo rfl |exact afa rfl)
  (hfx:X.fn x=true\/X.env.scope.names.lookup x=some .local:=by first |exact .inl rfl |exact .inr rfl)(Qw:X.fn y=true\/X.env.scope.names.lookup y=some .local:=by first |exact .inl rfl |exact .inr rfl)
  (h1:aei [a,.List es p3] X.env=(false,eval a X.env)::aei [.List es p3] X.env:=by rfl)(h2:aei [.List es p3] X.env=(false,eval (.List es p3) X.env)::aei [] X.env:=by rfl)
  (hs:ahf [.Tuple [.Name x px,.Name y py] kt pt] (.Tuple [a,.List es p3] k2 pt2) pos.line X.env=pure false:=by rfl)(hw:ahg [.Tuple [.Name x px,.Name y py] kt pt] (.Tuple [a,.List es p3] k2 pt2) X.env=pure none:=by rfl):
  DS X (.Assign [.Tuple [.Name x px,.Name y py] kt pt] (.Tuple [a,.List es p3] k2 pt2) pos) (QF i k f fa):=by
 refine PS.imp (ps_asg (pe_tup (pa_cons ha (pa_cons (Uo hb) pa_nil h2) h1)) (pg_tup hc (pgs_cons (pg_name hN hi hx hfx) (pgs_cons (pg_name hN hk hy Qw) pgs_nil))) hs hw) λσ H E h=>?_;obtain⟨H0,O0,O,ρ,j,h⟩:=h;refine⟨ρ,O,j.inn,?_⟩;unfold QF lA at h;cases e1:f ρ with
 |bad=>rw[e1] at h;exact h
 |err c=>rw[e1] at h;exact h σ H O j
 | ok d=>
  rw[e1] at h;intro v H1 s1 rv;have j1:=j.grow s1;refine⟨ρ,O,j1.inn,?_⟩;cases e2:fa ρ with
  |bad=>simp only[e2] at h;exact h
  |err c=>simp only[e2] at h;exact h.elim
  | ok ds=>
   simp only[e2] at h;by_cases hl:ds.length<=1000000
   ·simp only[if_pos hl] at h;intro vs H2 s2 rvs;refine⟨by rw[<-rvs.length];exact z0b hl fQ,λp hp hpk=>?_⟩;refine⟨by show 2<=sizeLine;decide,λt ht=>?_⟩;refine⟨t,[v,.ref p],rfl,SqT.of upd_same,rfl,v,[.ref p],rfl,.ref p,[],rfl,rfl,?_⟩;have j2:=(j1.grow s2).set (z1b hi).1 (rv.same s2);obtain⟨j3,r3⟩:=j2.own (z1b hk).1 (o:= .lst vs) (en:= .lst ds) hp hpk rfl ⟨p,vs,rfl,.inr rfl,upd_same,rvs.go ⟨(Same.gq (K:=X.K) (O:=O) (Same.upd hp)).ext,λa z=>z.elim .inl λe=> .inr (by rw[e];exact⟨hp,hpk⟩),(Same.gq (K:=X.K) (O:=O) (Same.upd hp)).dom⟩⟩;have s4:Same (upd H2 p (.lst vs)) (upd (upd H2 p (.lst vs)) t (.tup [v,.ref p])):=Same.upd ht;exact h _ _ _ (j3.grow s4) ((((Same.gq s1).trans (Same.gq s2)).trans r3).trans (Same.gq s4))
   ·simp only[if_neg hl] at h;exact h.elim
end
def Fy(s:String):Bool:=s == "int" || s == "bool"
def zx(s:String):Bool:=s == "bool"
def gb(s:String):Bool:=s == "tuple"
def QG(s:String):Bool:=s == "list"
def fV(P:aew)(w:aey)(K:aeh)(mg:Str->Option aef)(base:aes)(k:Nat)(x:Str)(n:Nat)(F:List D->R D):Prop:=
 ∃f fd ps,FnOk P w K mg base CX0 k f fd ps (Qy K n F)/\mg x=some (.ref f)/\ae2 K (.ref f)=true/\Binds K fd ps []
theorem bN{X:Cx}{k n m:Nat}{F:List D->R D}{x:Str}{p pos:Pos}{e:aer}{es:List aer}{fa:aB->R (List D)}(G:fV X.prog X.w X.K X.mg X.base k x n F)(hr:Room m X.A)(hkm:k<=m)(ha:DA X (e::es) fa)(hg:Gl X x:=by rfl)
  (hdb:(x ==("__debug__" :Str))=false:=by decide)(he:aei (e::es) X.env=(false,eval e X.env)::aei es X.env:=by rfl)(hpl:(ae7 pos (aei es X.env)).any (·.1)=false:=by rfl):
  DE X (.Call (.Name x p) (e::es) [] pos) (aH (aY F n) fa):=by
 obtain⟨f,fd,ps,ok,hm,hk,hb⟩:=G;exact aaZ ok (hr.mono hkm) hg hm hk hb ha hdb he hpl
theorem cL{A:aeF}{k:Nat}(hr:Room k A):A.units+60<afE:=by have:=hr.un;omega
theorem aci{P:aew}{w:aey}{K:aeh}{mg:Str->Option aef}{base:aes}{x qual:Str}{st:aeA}{f:aed}{fd:aeZ}{N ps:List Str}{k n m:Nat}{g:aB->So}(Fn:Fun K x qual st f fd)(hmg:mg x=some (.ref f))(hb:Binds K fd ps [])(S:FnScope N ps (defScope st))(hn:ps.length=n)(hm:N.length=n+m)
  (hbody:∀(cdv:aef) (A:aeF) (outer:List afd) (s:aeg) (H:Hp) (E:XK),Room k (A.deeper (afC qual (defScope st) s.heap.objs.size f cdv))->jW (cxOf CX0 P w K mg base N qual (defScope st) f cdv A outer s H E).nox (defBody st) g):
  fV P w K mg base (k+1) x n (bR m g):=⟨f,fd,ps,fnD Fn S hn hm hbody λds d _ e=>e,hmg,Fn.kp,hb⟩
theorem sp_law{K:aeh}{F:List D->R D}{H:Hp}{a:aed}{ns:List Int}{E:XK}(hS:SqL K H a (ns.map V.int))(hF:F [.lst (ns.map D.int)]= .ok (.bl true)):Qy K 1 F [.ref a] H (λv _=>v= .bl true) E:=by
 refine⟨λ_=>False,[.lst (ns.map D.int)],.cons (oU hS (λz=>z) ?_) .nil,rfl,λa z=>z.elim,?_⟩
 ·have:∀l:List Int,aU K (λ_=>False) H (l.map D.int) (l.map V.int):=by
   intro l
   induction l with
   |nil=>exact .nil
   |cons i l ih=>exact .cons (cP i) ih
  exact this ns
 ·rw[hF];exact λv H' _ r=>r.bl
end Pu
namespace Pu
open PySem PySem.Spec L2
variable{d:D}{gt:D->aB->R aB}{i j:Int}{xs:List D}{α:Type}{l:List α}{ρ:aB}
theorem Ut{α:Type}{k:D->R (Option D)}{c h:α->D}:∀{l:List α},(∀a∈l,k (c a)= .ok (some (h a)))->kJ k (l.map c)= .ok (l.map h)
 |[],_=>rfl
 | a::l,q=>by
  rw[z1h,kJ,q a (by simp),Ja,R.bB,Ut λb hb=>q b (by simp[hb])];rfl
theorem Je{α:Type}{c:α->Bool}:∀{l:List α},boolsOf (l.map λa=> .bl (c a))=some (l.map c)
 |[]=>rfl
 | a::l=>by
  rw[z1h,boolsOf,Je];rfl
theorem BX{α:Type}{c:α->Int}:∀{l:List α},intsOf (l.map λa=> .int (c a))=some (l.map c)
 |[]=>rfl
 | a::l=>by
  rw[z1h,intsOf,BX];rfl
theorem Ln{α:Type}{c:α->D}{n:Nat}:∀{l:List α},(∀a∈l,dep (c a)<=n)->deps (l.map c)<=n
 |[],_=>by rw[agY,deps];omega
 | a::l,h=>by
  rw[z1h,deps];have:=h a (by simp);have:=Ln (l:=l) λb hb=>h b (by simp[hb]);omega
theorem lK{e:D}(h:d=e)(hd:dep d<=40):jF d e= .ok (.bl false):=by
 subst h;rw[jF,if_pos hd,Hl];rfl
theorem u6{e:D}(h:d=e)(hd:dep d<=40):fM d e= .ok (.bl true):=by
 subst h;rw[fM,if_pos hd,Hl]
theorem all_true:(l.map λ_=>true).all id=true:=by
 induction l with
 |nil=>rfl
 |cons a l ih=>rw[z1h,List.all_cons,ih];rfl
theorem atI_nat{xs:List α}{j:Nat}(h:j<xs.length):atI xs (j:Int)=some xs[j]:=by
 unfold atI ixN;rw[if_pos (by omega),if_pos (by omega),agx,aha,aeQ h]
theorem qy{xs:List α}(h0:0<=i)(h1:i<xs.length):∃x∈xs,atI xs i=some x:=by
 obtain⟨j,rfl⟩:=afM h0;have hj:j<xs.length:=by omega
 exact⟨xs[j],List.getElem_mem hj,atI_nat hj⟩
theorem bF{n:Nat}{caps:List Nat}{fi:aB->R (List D)}{ft:aB->R Bool}{fe:aB->R D}{c h:α->D}(e1:fi ρ= .ok (l.map c))(hl:l.length<=1000000)
  (e2:∀a∈l,qj gt ft fe (Fv n caps ρ) (c a)= .ok (some (h a))):bJ n caps fi gt ft fe ρ= .ok (.lst (l.map h)):=by
 rw[bJ,e1,R.bB,Ut e2,R.bB,cap,if_pos (by rw[z1g];exact hl)]
def look:List (Int×Int)->Int->Int
 |[],_=>0
 |(k,v)::r,c=>if k=c then v else look r c
abbrev keys(ps:List (Int×Int)):List Int:=ps.map (·.1)
section
variable{ρ ρ':aB}{f g:aB->R D}{fa:aB->R (List D)}{p q:aB->R Bool}{x y d:D}{xs ds:List D}{r:R D}{k:D->D->R D}{c:List D->R D}{n:Nat}{F:List D->R D}{o:So}{s t:aB->So}{gt:D->aB->R aB}{b:Bool}
theorem aN(e:fa ρ= .ok ds)(h:c ds=r):aH c fa ρ=r:=by rw[aH,e];exact h
theorem aZ(e:fa ρ= .ok ds)(h:F ds= .ok d)(hl:ds.length=n:=by rfl):aH (aY F n) fa ρ= .ok d:=by rw[aH,e,R.bB,aY,if_pos hl,h];rfl
theorem aq(e1:f ρ= .ok x)(e2:fa ρ= .ok xs):ak f fa ρ= .ok (x::xs):=by rw[ak,e1,R.bB,e2];rfl
theorem ao(e:f ρ= .ok x):ak f (λ_=> .ok []) ρ= .ok [x]:=aq e rfl
theorem au(e1:f ρ= .ok x)(e2:g ρ= .ok y)(h:k x y=r):bin f g k ρ=r:=by rw[bin,e1,R.bB,e2];exact h
theorem fH(e1:f ρ= .ok (.bl true))(e2:g ρ=r):nj f g ρ=r:=by rw[nj,e1];exact e2
theorem u9{h:aB->R D}{l:D->D->R D}{z:D}(e1:f ρ= .ok x)(e2:g ρ= .ok y)(e3:k x y= .ok (.bl true))(e4:h ρ= .ok z)(e5:l y z=r):IW f g h k l ρ=r:=by
 rw[IW,e1,R.bB,e2,R.bB,e3,R.bB];show (h ρ).bind _=_;rw[e4];exact e5
theorem bU(e:fa ρ= .ok ds)(h:ds.length<=1000000:=by exact agZ rfl):cY fa ρ= .ok (.tup ds):=by rw[cY,e,R.bB,cap,if_pos h]
theorem d9(e:fa ρ= .ok ds)(h:ds.length<=1000000:=by exact agZ rfl):fB fa ρ= .ok (.lst ds):=by rw[fB,e,R.bB,cap,if_pos h]
theorem dW(e:f ρ= .ok (.tup ds)):eU f ρ= .ok ds:=by rw[eU,e];rfl
theorem iQ(e:f ρ= .ok (.lst ds)):eU f ρ= .ok ds:=by rw[eU,e];rfl
theorem lM{m:Nat}(e:fa ρ= .ok [.int (m:Int)])(h:m<2^62):(λρ=>(fa ρ).bind jm) ρ= .ok ((aee m).map λ(i:Nat)=>D.int (i:Int)):=by
 show (fa ρ).bind jm=_;rw[e,R.bB,jm,if_pos ⟨by have:(0:Int)<=m:=agQ m;omega,by omega⟩];simp[upto]
theorem bL{ρ1:aB}(e1:gt x ρ= .ok ρ1)(e2:f ρ1= .ok d):qj gt (λ_=> .ok true) f ρ x= .ok (some d):=by
 rw[qj,e1,R.bB,R.bB,if_pos rfl,e2];rfl
theorem aJ(e:f ρ= .ok (.bl b)):cC f ρ= .ok b:=by rw[cC,e];rfl
theorem cO(e:p ρ= .ok b):ju p ρ= .ok (!b):=by rw[ju,e];rfl
theorem vd(e1:p ρ= .ok false)(e2:q ρ= .ok b):Nb p q ρ= .ok b:=by rw[Nb,e1,R.bB,if_neg (by decide)];exact e2
theorem yu(e1:p ρ= .ok true)(e2:q ρ= .ok b):o7 p q ρ= .ok b:=by rw[o7,e1,R.bB,if_pos rfl];exact e2
theorem Lp(e1:p ρ= .ok false):o7 p q ρ= .ok false:=by rw[o7,e1,R.bB,if_neg (by decide)]
theorem lB{i:Nat}(h:xs[i]?=some d):cH (.tup xs) (.int (i:Int))= .ok d:=by
 obtain⟨hi,e⟩:=z1b h;rw[cH,atI_nat hi,e]
theorem Jf{i:Nat}(h:xs[i]?=some d):cH (.lst xs) (.int (i:Int))= .ok d:=by
 obtain⟨hi,e⟩:=z1b h;rw[cH,atI_nat hi,e]
theorem aD(e1:s ρ= .nx ρ')(e2:t ρ'=o):aQ s t ρ=o:=by rw[aQ,e1];exact e2
theorem aR(e:f (eE ρ)= .ok d):retS f ρ= .rt d:=by rw[retS,e];rfl
theorem bh(e:f ρ= .ok d)(e2:gt d ρ= .ok ρ'):bD f gt ρ= .nx ρ':=by rw[bD,e];show (match gt d ρ with | .ok ρ'=>So.nx ρ' |_=> .bad)=_;rw[e2]
theorem eY(e:f (eE ρ)= .ok d):gP f ρ= .nx ρ:=by rw[gP,e];rfl
theorem bV(e:p (eE ρ)= .ok true)(e2:s ρ=o):dH p s t ρ=o:=by rw[dH,e];exact e2
theorem aP(e:p (eE ρ)= .ok false)(e2:t ρ=o):dH p s t ρ=o:=by rw[dH,e];exact e2
theorem bA{m:Nat}(e:s (ds.map (λd=>some (.val d))++aem m none)= .rt d):bR m s ds= .ok d:=by rw[bR,e]
theorem Qj{m:Nat}(e:s (ds.map (λd=>some (.val d))++aem m none)= .nx ρ):bR m s ds= .ok .non:=by rw[bR,e]
theorem o9(h:(-(2^64)<i/\i<2^64)\/(-(2^64)<j/\j<2^64)):jc (.int i) (.int j)= .ok (.int (i*j)):=by
 show (if _ then _ else _)=_;rw[if_pos h]
theorem nQ(h:0<j/\j<2^64):iT (.int i) (.int j)= .ok (.int (i / j)):=by
 show (if _ then _ else _)=_;rw[if_pos h]
theorem pq(h:0<j):gU (.int i) (.int j)= .ok (.int (i % j)):=by
 show (if _ then _ else _)=_;rw[if_pos h]
theorem qz:nq [.lst (l.map λ_=> .bl true)]= .ok (.bl true):=by
 have:=Je (c:=λ_:α=>true) (l:=l);rw[nq,this];show R.ok (D.bl _)=_;rw[all_true]
theorem Uu{c:α->Int}:Li [.lst (l.map λa=> .int (c a))]= .ok (.int (l.map c).sum):=by rw[Li,BX]
end
def Lq:aB->So:=(aQ (bD (bin (λ_=> .ok (.int 7)) (λρ=>bY ρ 1) jc) (aL 3)) (aQ (dH (cC (bin (λρ=>bY ρ 0) (fB (λ_=> .ok [])) jF)) (aQ (bD (bin (λρ=>bY ρ 0) (bin (λρ=>bY ρ 1) (aH cT (ak (λρ=>bY ρ 0) (λ_=> .ok []))) gU) cH) (aL 3)) (aQ (bD (bin (λρ=>bY ρ 1) (aH cT (ak (λρ=>bY ρ 0) (λ_=> .ok []))) iT) (aL 4)) (aQ (dH (o7 (cC (bin (λρ=>bY ρ 3) (bin (λ_=> .ok (.int 10)) (λ_=> .ok (.int 18)) xq) Xa)) (cC (bin (λρ=>bY ρ 4) (λ_=> .ok (.int 60)) ltI))) (aQ (bD (bin (λρ=>bY ρ 3) (bin (λ_=> .ok (.int 10)) (λ_=> .ok (.int 18)) xq) iT) (aL 5)) (aQ (o8 (o7 (cC (bin (λρ=>bY ρ 5) (λ_=> .ok (.int 0)) yj)) (cC (bin (λρ=>bY ρ 4) (λ_=> .ok (.int 0)) yj))) (aQ (bD (bin (λρ=>bY ρ 5) (λ_=> .ok (.int 1000000)) iT) (aL 5)) (bD (bin (λρ=>bY ρ 4) (λ_=> .ok (.int 1)) gR) (aL 4))) 64) (dH (cC (bin (λρ=>bY ρ 5) (λ_=> .ok (.int 0)) yj)) (retS (bin (bin (λρ=>bY ρ 5) (λ_=> .ok (.int 1000000)) gU) (λρ=>bY ρ 2) gU)) So.nx))) So.nx) (bD (bin (λρ=>bY ρ 3) (bin (λ_=> .ok (.int 6553)) (bin (λρ=>bY ρ 1) (aH cT (ak (λρ=>bY ρ 0) (λ_=> .ok []))) iT) jc) gk) (aL 3))))) So.nx) (aQ (bD (bin (bin (bin (bin (λρ=>bY ρ 3) (λ_=> .ok (.int 2147483563)) gU) (λ_=> .ok (.int 69069)) jc) (bin (λ_=> .ok (.int 104723)) (bin (λρ=>bY ρ 1) (λ_=> .ok (.int 1)) gk) jc) gk) (λ_=> .ok (.int 2147483563)) gU) (aL 3)) (aQ (bD (bin (bin (bin (λρ=>bY ρ 3) (λρ=>bY ρ 3) jc) (bin (λρ=>bY ρ 3) (λ_=> .ok (.int 3)) iT) gk) (λ_=> .ok (.int 2147483399)) gU) (aL 3)) (retS (bin (bin (bin (bin (bin (λρ=>bY ρ 3) (λρ=>bY ρ 3) jc) (bin (λρ=>bY ρ 3) (λ_=> .ok (.int 7)) iT) gk) (λ_=> .ok (.int 2147483647)) gU) (λ_=> .ok (.int 11)) iT) (λρ=>bY ρ 2) gU))))))
def tailD:aB->So:=(aQ (bD (bin (bin (bin (bin (λρ=>bY ρ 3) (λ_=> .ok (.int 2147483563)) gU) (λ_=> .ok (.int 69069)) jc) (bin (λ_=> .ok (.int 104723)) (bin (λρ=>bY ρ 1) (λ_=> .ok (.int 1)) gk) jc) gk) (λ_=> .ok (.int 2147483563)) gU) (aL 3)) (aQ (bD (bin (bin (bin (λρ=>bY ρ 3) (λρ=>bY ρ 3) jc) (bin (λρ=>bY ρ 3) (λ_=> .ok (.int 3)) iT) gk) (λ_=> .ok (.int 2147483399)) gU) (aL 3)) (retS (bin (bin (bin (bin (bin (λρ=>bY ρ 3) (λρ=>bY ρ 3) jc) (bin (λρ=>bY ρ 3) (λ_=> .ok (.int 7)) iT) gk) (λ_=> .ok (.int 2147483647)) gU) (λ_=> .ok (.int 11)) iT) (λρ=>bY ρ 2) gU))))
def acj:aB->So:=(dH (o7 (cC (bin (λρ=>bY ρ 3) (bin (λ_=> .ok (.int 10)) (λ_=> .ok (.int 18)) xq) Xa)) (cC (bin (λρ=>bY ρ 4) (λ_=> .ok (.int 60)) ltI))) (aQ (bD (bin (λρ=>bY ρ 3) (bin (λ_=> .ok (.int 10)) (λ_=> .ok (.int 18)) xq) iT) (aL 5)) (aQ (o8 (o7 (cC (bin (λρ=>bY ρ 5) (λ_=> .ok (.int 0)) yj)) (cC (bin (λρ=>bY ρ 4) (λ_=> .ok (.int 0)) yj))) (aQ (bD (bin (λρ=>bY ρ 5) (λ_=> .ok (.int 1000000)) iT) (aL 5)) (bD (bin (λρ=>bY ρ 4) (λ_=> .ok (.int 1)) gR) (aL 4))) 64) (dH (cC (bin (λρ=>bY ρ 5) (λ_=> .ok (.int 0)) yj)) (retS (bin (bin (λρ=>bY ρ 5) (λ_=> .ok (.int 1000000)) gU) (λρ=>bY ρ 2) gU)) So.nx))) So.nx)
def wcD:aB->R Bool:=(o7 (cC (bin (λρ=>bY ρ 5) (λ_=> .ok (.int 0)) yj)) (cC (bin (λρ=>bY ρ 4) (λ_=> .ok (.int 0)) yj)))
def wbD:aB->So:=(aQ (bD (bin (λρ=>bY ρ 5) (λ_=> .ok (.int 1000000)) iT) (aL 5)) (bD (bin (λρ=>bY ρ 4) (λ_=> .ok (.int 1)) gR) (aL 4)))
section
variable{S s0 s1 s2 s3 x y:Option Ent}{k m c:Int}
theorem tail_eq(hm:0<m):∃v,tailD [S,some (.val (.int k)),some (.val (.int m)),some (.val (.int c)),x,y]= .rt (.int v)/\0<=v/\v<m:=by
 refine⟨_,aD (bh (au (au (au (au rfl rfl (pq (by omega))) rfl (o9 (.inr ⟨by omega,by omega⟩))) (au rfl (au rfl rfl rfl) (o9 (.inl ⟨by omega,by omega⟩))) rfl) rfl (pq (by omega))) rfl)
  (aD (bh (au (au (au rfl rfl (o9 (.inl ?b1))) (au rfl rfl (nQ ⟨by omega,by omega⟩)) rfl) rfl (pq (by omega))) rfl)
  (aR (au (au (au (au (au rfl rfl (o9 (.inl ?b2))) (au rfl rfl (nQ ⟨by omega,by omega⟩)) rfl) rfl (pq (by omega))) rfl (nQ ⟨by omega,by omega⟩)) rfl (pq hm)))),aht _ (by omega),agR _ hm⟩
 case b1=>
  have h1:=aht (c % 2147483563*69069+104723*(k+1)) (b:=2147483563) (by omega);have h2:=agR (c % 2147483563*69069+104723*(k+1)) (b:=2147483563) (by omega);constructor <;> omega
 case b2=>
  generalize (c % 2147483563*69069+104723*(k+1)) % 2147483563=z
  have h1:=aht (z*z+z / 3) (b:=2147483399) (by omega);have h2:=agR (z*z+z / 3) (b:=2147483399) (by omega);constructor <;> omega
theorem zy:yj (.int i) (.int j)= .ok (.bl (decide (j<i))):=rfl
theorem QH:∀{n:Nat} {t r:Int},0<=t->t<n->∃t' r',o8 wcD wbD n [s0,s1,s2,s3,some (.val (.int t)),some (.val (.int r))]= .nx [s0,s1,s2,s3,some (.val (.int t')),some (.val (.int r'))]
 |0,t,r,h0,h1=>by omega
 | n+1,t,r,h0,h1=>by
  rw[o8];by_cases hr:0<r
  ·by_cases ht:0<t
   ·obtain⟨t',r',e⟩:=QH (n:=n) (t:=t - 1) (r:=r / 1000000) (by omega) (by omega);refine⟨t',r',?_⟩;have e1:wcD (eE [s0,s1,s2,s3,some (.val (.int t)),some (.val (.int r))])= .ok true:=yu (aJ (au rfl rfl (by rw[zy,decide_eq_true hr]))) (aJ (au rfl rfl (by rw[zy,decide_eq_true ht])));have e2:wbD [s0,s1,s2,s3,some (.val (.int t)),some (.val (.int r))]= .nx [s0,s1,s2,s3,some (.val (.int (t - 1))),some (.val (.int (r / 1000000)))]:=aD (bh (au rfl rfl (nQ ⟨by omega,by omega⟩)) rfl) (bh (au rfl rfl rfl) rfl);simp only[e1,e2];exact e
   ·refine⟨t,r,?_⟩;have e1:wcD (eE [s0,s1,s2,s3,some (.val (.int t)),some (.val (.int r))])= .ok false:=yu (aJ (au rfl rfl (by rw[zy,decide_eq_true hr]))) (aJ (au rfl rfl (by rw[zy,decide_eq_false ht])));simp only[e1]
  ·refine⟨t,r,?_⟩;have e1:wcD (eE [s0,s1,s2,s3,some (.val (.int t)),some (.val (.int r))])= .ok false:=Lp (aJ (au rfl rfl (by rw[zy,decide_eq_false hr])));simp only[e1]
theorem Jg:xq (.int 10) (.int 18)= .ok (.int 1000000000000000000):=by
 unfold xq iD;simp only[];rw[if_pos ⟨by decide,by decide,by decide⟩];rfl
theorem acn{t:Int}(hm:0<m)(ht:0<=t):(∃t' x',acj [S,some (.val (.int k)),some (.val (.int m)),some (.val (.int c)),some (.val (.int t)),x]= .nx [S,some (.val (.int k)),some (.val (.int m)),some (.val (.int c)),some (.val (.int t')),x'])\/
  ∃v,acj [S,some (.val (.int k)),some (.val (.int m)),some (.val (.int c)),some (.val (.int t)),x]= .rt (.int v)/\0<=v/\v<m:=by
 by_cases h1:1000000000000000000<=c
 ·by_cases h2:t<60
  ·have e:(o7 (cC (bin (λρ=>bY ρ 3) (bin (λ_=> .ok (.int 10)) (λ_=> .ok (.int 18)) xq) Xa)) (cC (bin (λρ=>bY ρ 4) (λ_=> .ok (.int 60)) ltI))) (eE [S,some (.val (.int k)),some (.val (.int m)),some (.val (.int c)),some (.val (.int t)),x])= .ok true:=
    yu (aJ (au rfl (au rfl rfl Jg) (by show R.ok (D.bl (decide _))=_;rw[decide_eq_true h1]))) (aJ (au rfl rfl (by show R.ok (D.bl (decide _))=_;rw[decide_eq_true h2])))
   obtain⟨t',r',ew⟩:=QH (s0:=S) (s1:=some (.val (.int k))) (s2:=some (.val (.int m))) (s3:=some (.val (.int c))) (n:=64) (t:=t) (r:=c / 1000000000000000000) ht (by omega);by_cases h3:0<r'
   ·exact .inr ⟨_,bV e (aD (bh (au rfl (au rfl rfl Jg) (nQ ⟨by omega,by omega⟩)) rfl) (aD ew (bV (aJ (au rfl rfl (by rw[zy,decide_eq_true h3]))) (aR (au (au rfl rfl (pq (by omega))) rfl (pq hm)))))),aht _ (by omega),agR _ hm⟩
   ·exact .inl ⟨t',some (.val (.int r')),bV e (aD (bh (au rfl (au rfl rfl Jg) (nQ ⟨by omega,by omega⟩)) rfl) (aD ew (aP (aJ (au rfl rfl (by rw[zy,decide_eq_false h3]))) rfl)))⟩
  ·exact .inl ⟨t,x,aP (yu (aJ (au rfl (au rfl rfl Jg) (by show R.ok (D.bl (decide _))=_;rw[decide_eq_true h1]))) (aJ (au rfl rfl (by show R.ok (D.bl (decide _))=_;rw[decide_eq_false h2])))) rfl⟩
 ·exact .inl ⟨t,x,aP (Lp (aJ (au rfl (au rfl rfl Jg) (by show R.ok (D.bl (decide _))=_;rw[decide_eq_false h1])))) rfl⟩
end
theorem dg{s t:aB->So}(e1:s ρ= .rt d):aQ s t ρ= .rt d:=by rw[aQ,e1]
theorem rK(h:atI xs i=some d):cH (.lst xs) (.int i)= .ok d:=by rw[cH,h]
theorem Zz{ns:List Int}{k m:Int}(hl:ns.length<=1000000)(hk:0<=k)(hm:0<m):∃v,bR 3 Lq [.lst (ns.map .int),.int k,.int m]= .ok (.int v)/\0<=v/\v<m:=by
 have hd:dep (.lst (ns.map .int))<=40:=by
  rw[dep];have:=Ln (c:=D.int) (n:=0) (l:=ns) (λa _=>by simp[dep]);omega
 cases ns with
 | nil=>
  obtain⟨v,e,h⟩:=tail_eq (S:=some (.val (.lst []))) (k:=k) (c:=7*k) (x:=none) (y:=none) hm;exact⟨v,bA (aD (bh (au rfl rfl (o9 (.inl ⟨by omega,by omega⟩))) rfl) (aD (aP (aJ (au rfl (d9 rfl) (lK rfl hd))) rfl) e)),h⟩
 | cons a ns=>
  have hn:jF (.lst ((a::ns).map .int)) (.lst [])= .ok (.bl true):=by
   rw[jF,if_pos hd];rfl
  have hlen:(0:Int)<(((a::ns).map D.int).length:Int):=by rw[z1g,aeC];omega
  have hlen2:(((a::ns).map D.int).length:Int)<2^64:=by rw[z1g];omega
  obtain⟨d,hd1,hd2⟩:=qy (xs:=(a::ns).map D.int) (i:=k % (((a::ns).map D.int).length:Int)) (aht _ (by omega)) (agR _ hlen);obtain⟨c,-,rfl⟩:=afu.mp hd1;have ht:0<=k / (((a::ns).map D.int).length:Int):=Int.ediv_nonneg hk (by omega)
  generalize hL:(((a::ns).map D.int).length:Int)=L at *
  have Jh:∀(S x1 x2 x3 x4 x5:Option Ent),S=some (Ent.val (.lst ((a::ns).map D.int)))->aH cT (ak (λρ=>bY ρ 0) (λ_=> .ok [])) [S,x1,x2,x3,x4,x5]= .ok (.int L):=by
   intro S x1 x2 x3 x4 x5 e;subst e;rw[<-hL];exact aN (ao rfl) rfl
  rcases acn (S:=some (.val (.lst ((a::ns).map .int)))) (k:=k) (m:=m) (c:=c) (x:=none) hm ht with⟨t',x',e⟩ |⟨v,e,h⟩
  ·obtain⟨v,e2,h⟩:=tail_eq (S:=some (.val (.lst ((a::ns).map .int)))) (k:=k) (c:=c+6553*(k / L)) (x:=some (.val (.int t'))) (y:=x') hm;exact⟨v,bA (aD (bh (au rfl rfl (o9 (.inl ⟨by omega,by omega⟩))) rfl) (aD (bV (aJ (au rfl (d9 rfl) hn))
    (aD (bh (au rfl (au rfl (Jh _ _ _ _ _ _ rfl) (pq hlen)) (rK hd2)) rfl) (aD (bh (au rfl (Jh _ _ _ _ _ _ rfl) (nQ ⟨hlen,hlen2⟩)) rfl) (aD e (bh (au rfl (au rfl (au rfl (Jh _ _ _ _ _ _ rfl) (nQ ⟨hlen,hlen2⟩)) (o9 (.inl ⟨by omega,by omega⟩))) rfl) rfl))))) e2)),h⟩
  ·exact⟨v,bA (aD (bh (au rfl rfl (o9 (.inl ⟨by omega,by omega⟩))) rfl) (dg (bV (aJ (au rfl (d9 rfl) hn))
    (aD (bh (au rfl (au rfl (Jh _ _ _ _ _ _ rfl) (pq hlen)) (rK hd2)) rfl) (aD (bh (au rfl (Jh _ _ _ _ _ _ rfl) (nQ ⟨hlen,hlen2⟩)) rfl) (dg e)))))),h⟩
theorem gK{ρ1 ρ2:aB}{b:aB->So}{x:D}{o:So}(e1:gt x ρ= .ok ρ1)(e2:b ρ1= .nx ρ2)(e3:forL gt b xs ρ2=o):forL gt b (x::xs) ρ=o:=by
 rw[forL];simp only[e1,e2];exact e3
theorem lN{fi:aB->R (List D)}{b:aB->So}{o:So}(e1:fi ρ= .ok xs)(e2:forL gt b xs ρ=o):uP fi gt b ρ=o:=by
 rw[uP,e1];exact e2
theorem aa2{i k:Nat}{f:aB->R D}{fa:aB->R (List D)}{ds:List D}(e1:f ρ= .ok d)(e2:fa ρ= .ok ds)(h:ds.length<=1000000:=by exact agZ rfl):QF i k f fa ρ= .nx ((ρ.set i (some (.val d))).set k (some (.lst ds))):=by
 unfold QF;rw[e1];simp only[lA,e2];rw[if_pos h]
theorem aa3{i k:Nat}{f g:aB->R D}{e:D}(e1:f ρ= .ok d)(e2:g ρ= .ok e):QD i k f g ρ= .nx ((ρ.set i (some (.val d))).set k (some (.val e))):=by
 unfold QD;rw[e1];simp only[lA,e2]
def dr(ns:List Int)(k m:Int):Int:=match bR 3 Lq [.lst (ns.map .int),.int k,.int m] with
 | .ok (.int v)=>v
 |_=>0
theorem qX{ns:List Int}{k m:Int}(hl:ns.length<=1000000)(hk:0<=k)(hm:0<m):bR 3 Lq [.lst (ns.map .int),.int k,.int m]= .ok (.int (dr ns k m))/\0<=dr ns k m/\dr ns k m<m:=by
 obtain⟨v,e,h⟩:=Zz hl hk hm;have:dr ns k m=v:=by rw[dr,e]
 rw[this];exact⟨e,h⟩
end Pu
namespace Pu
open PySem PySem.Spec L2
open PyProof.Rows hiding St
variable{l it l1 l2 z i1 i2 l3 C i3:aed}{O O0:aed->Prop}{params:afN}{xs:Array aef}{t t1 t2 t3:Bool}{tg iter elt:aer}{h h' b0:aes}{H:Hp}{pins:List (aed×Obj)}{ts:List (aed×Str)}{clos:List (Str×aed)}{ifs wK:List aer}{outer:List afd}{body:List aeA}{N ps:List Str}{zs vs:List V}{k i n:Nat}{pos pp pos':Pos}{P:aew}{env:afd}{K:aeh}{ρ:aB}{ft:aB->R Bool}{scope:afz}{σ:St}{qual name:Str}{ta:TA}{α:Type}{Q:aef->aeg->Prop}{w:aey}
section
variable{X:Cx}
def BZ:List D->R D
 |[.int i]=> .ok (.int (if i<0 then -i else i))
 |_=> .bad
theorem Ji:CallD X (.builtin "abs") BZ:=by
 refine⟨_,call_abs,λρ O σ H Q xs ds j r h=>?_⟩;unfold BZ at h;split at h
 ·rename_i i;obtain⟨x,rfl,rx⟩:=r.one;exact⟨i,by rw[rx.int],fin h (cP _)⟩
 ·exact h.elim
def maxD:List D->R D
 |[.int i,.int j]=> .ok (.int (if j > i then j else i))
 |_=> .bad
theorem Jj(hc:X.calm=true):CallD X (.builtin "max") maxD:=by
 refine⟨_,call_max2 hc,λρ O σ H Q xs ds j r h=>?_⟩;unfold maxD at h;split at h
 ·rename_i i k;obtain⟨x,y,rfl,rx,ry⟩:=r.two;exact⟨i,k,by rw[rx.int,ry.int],fin h (cP _)⟩
 ·exact h.elim
def minD:List D->R D
 |[.int i,.int j]=> .ok (.int (if j<i then j else i))
 |_=> .bad
theorem Jk(hc:X.calm=true):CallD X (.builtin "min") minD:=by
 refine⟨_,call_min2 hc,λρ O σ H Q xs ds j r h=>?_⟩;unfold minD at h;split at h
 ·rename_i i k;obtain⟨x,y,rfl,rx,ry⟩:=r.two;exact⟨i,k,by rw[rx.int,ry.int],fin h (cP _)⟩
 ·exact h.elim
def Vx:D->Bool
 | .non=>true
 |_=>false
theorem aa4{d:D}{v:V}(r:Rep K O H d v):decide (v= .non)=Vx d:=by
 cases d with
 |non=>rw[r.non];rfl
 |bl b=>rw[r.bl];rfl
 |int i=>rw[r.int];rfl
 |str x=>rw[r.str];rfl
 |tup ds=>obtain⟨a,xs,rfl,_⟩:=r.tup;rfl
 |lst ds=>obtain⟨a,xs,rfl,_⟩:=r.lst;rfl
def isD:D->D->R D
 |d,.non=> .ok (.bl (Vx d))
 |_,_=> .bad
theorem aaM:lu X (ae9 .Is) isD:=by
 refine⟨_,op_isN,λρ O σ H Q x y dx dy j0 rx ry h=>?_⟩;cases dy with
 |non=>exact⟨ry.non,by rw[aa4 rx];exact fin (a:=D.bl (Vx dx)) h (gF _)⟩
 |_=>cases dx <;> exact h.elim
theorem aa5:OpR X (afs .Add) (λx y H Q=>∃a b ys,x= .ref a/\y= .ref b/\SqT X.K H a []/\SqT X.K H b ys/\Q (.ref b) H):=by
 intro pins s σ H x y v u Q I rx ry h;obtain⟨a,b,ys,rfl,rfl,ha,hb,q⟩:=h;cases rx;cases ry;obtain⟨its,r1,p1,_⟩:=I.tuple ha;obtain⟨its2,r2,p2,_⟩:=I.tuple hb;cases r1;obtain⟨⟨cls,dd,data,sl⟩,ho,hc,n,hd⟩:=id p1;obtain⟨⟨cls2,dd2,data2,sl2⟩,ho2,hc2,n2,hd2⟩:=id p2;simp only at hc hd hc2 hd2;subst hc hd hc2 hd2;exact aiL ⟨_,ho,rfl⟩ ⟨_,ho2,rfl⟩ aiM seq_tuple_add ahJ ahF (ahz _ _)
   (tuple_addW0 a b _ _ n n2 dd dd2 sl sl2 rfl) ⟨ho,ho2,⟨.ref b,H,I,rfl,q⟩⟩
def adI:D->R D
 | .int i=> .ok (.int (-i))
 |_=> .bad
def Lr(f:aB->R D):aB->R D:=λρ=>(f ρ).bind adI
theorem Jl{e:aer}{f:aB->R D}(he:DE X e f):DE X (.UnaryOp .USub e pos) (Lr f):=by
 refine PE.imp (pe_un un_neg he) λσ H Q h=>?_;obtain⟨ρ,O,j,h⟩:=h;refine go j h λd v H1 e1 s1 r1 j1 h1=>?_;cases d with
 |int i=>exact⟨i,r1.int,fin h1 (cP _)⟩
 |_=>exact h1.elim
theorem aa6:OpR X (afs .Add) (λx y H Q=>∃a b xs ys,x= .ref a/\y= .ref b/\SqL X.K H a xs/\SqL X.K H b ys/\xs.length+ys.length<=sizeLine/\∀p,H p=none->Q (.ref p) (upd H p (.lst (xs++ys)))):=by
 intro pins s σ H x y v u Q I rx ry h;obtain⟨a,b,xs,ys,rfl,rfl,ha,hb,hz,q⟩:=h;cases rx;cases ry;obtain⟨its,r1,p1,_⟩:=I.list ha;obtain⟨its2,r2,p2,_⟩:=I.list hb;obtain⟨⟨cls,dd,data,sl⟩,n,ho,hc,hdd,hd⟩:=id p1;obtain⟨⟨cls2,dd2,data2,sl2⟩,n2,ho2,hc2,ad9,hd2⟩:=id p2;simp only at hc hd hc2 hd2;subst hc hd hc2 hd2;refine aiL ⟨_,ho,rfl⟩ ⟨_,ho2,rfl⟩ noFill_list_add seq_list_add PySem.F.slot_list_add PySem.F.entry_list_add (PySem.F.args_list_add_2 _ _)
   (list_addW a b _ _ n n2 dd dd2 sl sl2 (by rw[z1c,z1c,<-r1.length,<-r2.length];exact hz)) ⟨ho,ho2,?_⟩
 have ea:its.toArray++its2.toArray=(its++its2).toArray:=by simp
 rw[ea];exact⟨.ref _,_,I.lnew (t':=s.toks) (r1.append r2) (by rw[z1d];omega),rfl,q _ I.fresh⟩
def eX:D->D->R D
 | .int i,.int j=> .ok (.int (i+j))
 | .tup xs,.tup ys=>if xs.length+ys.length<=1000000 then .ok (.tup (xs++ys)) else .bad
 | .lst xs,.lst ys=>if xs.length+ys.length<=1000000 then .ok (.lst (xs++ys)) else .bad
 |_,_=> .bad
theorem dh:lu X (afs .Add) eX:=by
 refine⟨_,OpR.or op_add (OpR.or op_catT (OpR.or aa5 aa6)),λρ O σ H Q x y dx dy j0 rx ry h=>?_⟩;cases dx <;> cases dy <;> first
  |exact h.elim
  |skip
 ·rename_i i j;exact .inl ⟨i,j,rx.int,ry.int,fin h (cP _)⟩
 ·rename_i xs ys;have h:good X (rD X) O (if xs.length+ys.length<=1000000 then .ok (.tup (xs++ys)) else .bad) σ H Q:=h;by_cases hc:xs.length+ys.length<=1000000
  ·rw[if_pos hc] at h;obtain⟨a,us,rfl,ha,r1⟩:=rx.tup;obtain⟨b,ws,rfl,hb,r2⟩:=ry.tup;by_cases hx:us=[]
   ·subst hx;have:xs=[]:=aeP r1.length;subst this;exact .inr (.inr (.inl ⟨a,b,ws,rfl,rfl,ha,hb,fin h (iK hb r2)⟩))
   ·refine .inr (.inl ⟨a,b,us,ws,rfl,rfl,ha,hb,hx,?_,λz=>?_,λz l hl=>?_⟩)
    ·rw[<-r1.length,<-r2.length];exact z0b hc fQ
    ·subst z;have:ys=[]:=aeP r2.length;subst this;rw[afg] at h;exact fin h (iK ha r1)
    ·exact h _ _ (Same.upd hl) (Rep.uw hl (r1.append r2))
  ·rw[if_neg hc] at h;exact h.elim
 ·rename_i xs ys;have h:good X (rD X) O (if xs.length+ys.length<=1000000 then .ok (.lst (xs++ys)) else .bad) σ H Q:=h;by_cases hc:xs.length+ys.length<=1000000
  ·rw[if_pos hc] at h;obtain⟨a,us,rfl,ha,_,r1⟩:=rx.lst;obtain⟨b,ws,rfl,hb,_,r2⟩:=ry.lst;refine .inr (.inr (.inr ⟨a,b,us,ws,rfl,rfl,ha,hb,?_,λl hl=>?_⟩))
   ·rw[<-r1.length,<-r2.length];exact z0b hc fQ
   ·exact h _ _ (Same.upd hl) (Rep.mQ hl (j0.uJ hl) (r1.append r2))
  ·rw[if_neg hc] at h;exact h.elim
end
section
variable{prog:aew}{w:aey}{A:aeF}{E:aef->aeg->Prop}{s:aeg}
open HT in
theorem BP{t sl:aed}{items:Array aef}{vl vu:aef}{lo hi:Option Int}(ht:IsTup s.heap t items)(hs:s.heap.IsSliceOf sl vl vu .none)(pl:ahY vl lo)(pu:ahY vu hi)
  (hw:sIx items.size 0 lo=0/\sIx items.size items.size hi=items.size)(h:Q (.ref t) s):aen (model prog w) A (getItem (.ref t) (.ref sl)) Q E s:=by
 obtain⟨os,hos,hcs,hds⟩:=id hs;have hTs:s.TypeIs (.ref sl) "slice" :=⟨os,hos,hcs⟩;unfold getItem
 try with_reducible refine afT ?_
 first |refine aec (aej ?_) |skip
 refine aec (wpAny_sequenceKey ht.typeIs (by decide) ?_);refine aec (afb (name:=afS "__getitem__") ht.typeIs afr
  (afn afr ht.typeIs entry_tuple_getitem ?_ (args_tuple_getitem _ _)))
 show aen _ _ (air (.ref t) >>=_) _ _ s;refine aec (tupleItemsOf_ ht ?_);refine aec (aiP hTs ?_);rw[if_pos (by decide)];refine aec (sliceApplied_gen hs pl pu ?_);show aen _ _ (if (((sIx items.size 0 lo:Nat):Int) ==0 && (1:Int) ==1 && (sIx items.size items.size hi - sIx items.size 0 lo) ==items.size)=true then _ else _) _ _ s;rw[if_pos (by rw[hw.1,hw.2];simp)];refine aec (m:=Builtin.Tuple.tupleIsExact _) (aec (aiP ht.typeIs (aej ?_)));rw[if_pos (beq_self_eq_true _)]
 first
  |exact aec (aej (aej ⟨_,rfl,aej h⟩))
  |exact aec (agi (aej ⟨_,rfl,aej h⟩))
end
section
variable{X:Cx}{e e1:aer}{lo hi:Option aer}{f f1:aB->R D}{fl fu:aB->R (Option Int)}{pos p2:Pos}
def adJ(K:aeh):V->Option Int->Option Int->Hp->VK->Prop:=λx lo hi H Q=>∃a xs,x= .ref a/\SqT K H a xs/\
 (HT.sIx xs.length 0 lo=0/\HT.sIx xs.length xs.length hi=xs.length)/\Q (.ref a) H
theorem aa7:SlR X (adJ X.K):=by
 intro pins s σ H x v vl vu lo hi sl Q I rx hs pl pu h;obtain⟨a,xs,rfl,hx,hw,q⟩:=h;cases rx;obtain⟨its,r,ht,hz⟩:=I.tuple hx;have hlen:its.toArray.size=xs.length:=by rw[z1c];exact r.length.symm
 exact⟨"tuple",_,afr.lookup,ht.typeIs,BP ht hs pl pu (by rw[hlen];exact hw) ⟨.ref a,H,I,rfl,q⟩⟩
abbrev adK:(aed->Prop)->Hp->Option Int->Option Int->Prop:=λ_ _ a b=>a=b
def Uv(X:Cx)(lo:Option aer)(fo:aB->R (Option Int)):Prop:=PO X lo (tG X adK fo)
theorem PO.imp{t t':TO}(h:PO X lo t)(w:∀σ H Q,t' σ H Q->t σ H Q):PO X lo t':=λpins s σ H Q I q=>h pins s σ H Q I (w σ H Q q)
theorem lO:Uv X none (λ_=> .ok none):=by
 refine PO.imp po_none λσ H Q h=>?_;obtain⟨ρ,O,j,h⟩:=h;exact fin h rfl
def Gi:D->R (Option Int)
 | .int i=> .ok (some i)
 |_=> .bad
theorem lQ(h:DE X e1 f1):Uv X (some e1) (λρ=>(f1 ρ).bind Gi):=by
 refine PO.imp (po_some h) λσ H Q h=>?_;obtain⟨ρ,O,j,h⟩:=h;refine go j h λd v H1 e1 s1 r1 j1 h1=>?_;cases d with
 |int i=>exact⟨i,r1.int,fin h1 rfl⟩
 |_=>exact h1.elim
def lR(ds:List D)(lo hi:Option Int):List D:=(ds.drop (HT.sIx ds.length 0 lo)).take (HT.sIx ds.length ds.length hi - HT.sIx ds.length 0 lo)
def QJ(d:D)(lo hi:Option Int):R D:=match d with
 | .tup ds=> .ok (.tup (lR ds lo hi))
 |_=> .bad
def jA(f:aB->R D)(fl fu:aB->R (Option Int)):aB->R D:=λρ=>(f ρ).bind λd=>(fl ρ).bind λl=>(fu ρ).bind λu=>QJ d l u
theorem qC(he:DE X e f)(hl:Uv X lo fl)(hu:Uv X hi fu):DE X (.Subscript e (.Slice lo hi none p2) pos) (jA f fl fu):=by
 refine PE.imp (pe_slice (SlR.or sl_tup aa7) he hl hu) λσ H Q h=>?_;obtain⟨ρ,O,j,h⟩:=h;refine go j h λd v H1 e1 s1 r1 j1 h1=>?_;refine go j1 h1 λl l' H2 e2 s2 r2 j2 h2=>?_;refine go j2 h2 λu u' H3 e3 s3 r3 j3 h3=>?_;have r2:l=l':=r2;have r3:u=u':=r3;subst r2 r3;cases d with
 | tup ds=>
  have r1':=(r1.same s2).same s3;obtain⟨a,xs,rfl,hq,rs⟩:=r1'.tup;have hlen:=rs.length;by_cases hw:HT.sIx xs.length 0 l=0/\HT.sIx xs.length xs.length u=xs.length
  ·refine .inr ⟨a,xs,rfl,hq,hw,?_⟩;have e:lR ds l u=ds:=by
    unfold lR;rw[hlen,hw.1,hw.2,ajc,aiT,<-hlen,List.take_length]
   have h3:good X (rD X) O (.ok (.tup (lR ds l u))) σ H3 Q:=h3;rw[e] at h3;exact fin h3 (iK hq rs)
  ·refine .inl ⟨a,xs,rfl,hq,hw,λp hp=>?_⟩;refine h3 _ _ (Same.upd hp) (Rep.uw hp ?_);unfold lR cutV;rw[hlen];exact (rs.drop _).take _
 |_=>exact h3.elim
end
def pickK{α:Type}(z:α)(sel:List (Sum Nat α))(ws:List α):List α:=sel.map λ
 | .inl i=>ws.getD i z
 | .inr c=>c
inductive Sel:List (Sum Nat aef)->List (Sum Nat V)->List (Sum Nat D)->Prop
 |nil:Sel [] [] []
 |at (i:Nat) {a b c}:Sel a b c->Sel (.inl i::a) (.inl i::b) (.inl i::c)
 |non {a b c}:Sel a b c->Sel (.inr .none::a) (.inr .non::b) (.inr .non::c)
 |str (x:Str) (t:Tok) {a b c}:Sel a b c->Sel (.inr (.str x t)::a) (.inr (.str x)::b) (.inr (.str x)::c)
 |int (x:Int) (t:Tok) {a b c}:Sel a b c->Sel (.inr (.int x t)::a) (.inr (.int x)::b) (.inr (.int x)::c)
 |bl (x:Bool) {a b c}:Sel a b c->Sel (.inr (.bool x)::a) (.inr (.bl x)::b) (.inr (.bl x)::c)
theorem Xr{ws:List aef}(r:Vals zs ws)(i:Nat):RelV (zs.getD i .non) (ws.getD i .none):=by
 induction r generalizing i with
 |nil=>exact rfl
 | cons h _ ih=>
  cases i with
  |zero=>exact h
  |succ i=>exact ih i
theorem Sel.vals{a b c}(s:Sel a b c){ws:List aef}(r:Vals zs ws):Vals (pickK .non b zs) (pickK .none a ws):=by
 induction s with
 |nil=>exact .nil
 | «at» i _ ih=>exact .cons (Xr r i) ih
 |non _ ih=>exact .cons rfl ih
 |str x t _ ih=>exact .cons ⟨t,rfl⟩ ih
 |int x t _ ih=>exact .cons ⟨t,rfl⟩ ih
 |bl x _ ih=>exact .cons rfl ih
section
variable{K:aeh}{O:aed->Prop}{H:Hp}
theorem Nj:∀{ds:List D} {zs:List V},aU K O H ds zs->∀i:Nat,Rep K O H (ds.getD i .non) (zs.getD i .non)
 |[],zs,r,i=>by rw[r.nil_inv];exact p8
 | d::ds,zs,r,i=>by
  obtain⟨x,t,rfl,h1,h2⟩:=r.cons_inv;cases i with
  |zero=>exact h1
  |succ i=>exact Nj h2 i
theorem Sel.reps{a b c}(s:Sel a b c){ds:List D}(r:aU K O H ds zs):aU K O H (pickK .non c ds) (pickK .non b zs):=by
 induction s with
 |nil=>exact .nil
 | «at» i _ ih=>exact .cons (Nj r i) ih
 |non _ ih=>exact .cons p8 ih
 |str x t _ ih=>exact .cons (Ld x) ih
 |int x t _ ih=>exact .cons (cP x) ih
 |bl x _ ih=>exact .cons (gF x) ih
end
section
variable{X:Cx}{k n:Nat}{f:aed}{fd:aeZ}{ps ks:List Str}{F:List D->R D}{x:Str}{p pos kpos:Pos}{e:aer}{es:List aer}{kws:List af7}{fa fk:aB->R (List D)}{fe:aB->R D}{nm:Option Str}
def DK(X:Cx)(kws:List af7)(fk:aB->R (List D)):Prop:=PK X kws (tG X (M9 X) fk)
theorem PK.imp{t t':TA}(h:PK X kws t)(w:∀σ H Q,t' σ H Q->t σ H Q):PK X kws t':=λpos pins s σ H Q I q=>h pos pins s σ H Q I (w σ H Q q)
theorem Ca:DK X [] (λ_=> .ok []):=by
 refine PK.imp pk_nil λσ H Q h=>?_;obtain⟨ρ,O,j,h⟩:=h;exact fin h .nil
theorem mR(he:DE X e fe)(hr:DK X kws fk):DK X (⟨nm,e,kpos⟩::kws) (ak fe fk):=by
 refine PK.imp (pk_cons he hr) λσ H Q h=>?_;obtain⟨ρ,O,j,h⟩:=h;refine go j h λd v H1 e1 s1 r1 j1 h1=>?_;refine go j1 h1 λds vs H2 e2 s2 r2 j2 h2=>?_;exact fin h2 (.cons (r1.same s2) r2)
theorem Nk{z:α}{sel:List (Sum Nat α)}{ws:List α}:(pickK z sel ws).length=sel.length:=by unfold pickK;rw[z1g]
def KB(K:aeh)(fd:aeZ)(ps ks:List Str)(sel:List (Sum Nat aef)):Prop:=∀(s:aeg) (us ws:List aef),K.In s.heap->us.length+sel.length=ps.length->ws.length=ks.length->ahC s fd ⟨us,ks.zip ws⟩ (ps.zip (us++pickK .none sel ws))
end
section
variable{X:Cx}{k n:Nat}{f:aed}{fd:aeZ}{ps:List Str}{F:List D->R D}{x:Str}{p pos:Pos}{e:aer}{es:List aer}{fa:aB->R (List D)}
end
theorem len0{l:List α}(h:l.length=0):l=[]:=aeP h
theorem jL{l:List α}(h:l.length=n+1):∃a m,l=a::m/\m.length=n:=by
 cases l with
 |nil=>simp at h
 |cons a m=>exact⟨a,m,rfl,by simpa using h⟩
section
variable{X:Cx}{k m n:Nat}{fd:aeZ}{ps ks:List Str}{F:List D->R D}{x:Str}{p pos:Pos}{e:aer}{es:List aer}{kws:List af7}{fa fk:aB->R (List D)}
end
section
variable{K:aeh}{kV doc pm cdv ct:aef}{an:Option aed}{body:List aeA}{scope:afz}{d:aed}{t:Tok}{q:Pos}
def Xu(q:Pos):afN:={posonlyargs:=[],args:=[⟨"p",none,q⟩],vararg:=none,kwonlyargs:=[⟨"manner",none,q⟩,⟨"marks",none,q⟩],kw_defaults:=[some (.Constant (.str "worth") 0 q),some (.Constant .none 0 q)],kwarg:=none,defaults:=[]}
example:KB K (ae3 "f" "f" (Xu q) body scope .none kV doc pm an cdv ct) ["p","manner","marks"] ["marks","manner"] [.inl 1,.inl 0]:=by
 intro s us ws i hl hw;have hl1:us.length=1:=by simpa using hl
 clear hl
 obtain⟨u,us',rfl,hl2⟩:=jL hl1
 clear hl1
 cases len0 hl2;obtain⟨w1,ws1,rfl,hw1⟩:=jL hw
 clear hw
 obtain⟨w2,ws2,rfl,hw2⟩:=jL hw1
 clear hw1
 cases len0 hw2;exact .of_eq rfl
end
section
variable{X:Cx}
end
section
variable{K:aeh}{O O':aed->Prop}{H:Hp}
end
section
variable{X:Cx}{e:aer}{f:aB->R D}{pos:Pos}
end
section
variable{prog:aew}{w:aey}{A:aeF}{E:aef->aeg->Prop}{s:aeg}{t:aed}
end
section
variable{X:Cx}
end
theorem Hq:fillsNumberSlot (.type "tuple") "mul" =pure false:=
 PySem.fillsNumberSlot_seq (id:= "tuple.__mul__") (r:=some (.builtin "tuple.__rmul__")) F.slot_tuple_mul.lookup (by decide +kernel) F.slot_tuple_rmul.lookup (by decide +kernel)
theorem QK:seqRepeat? (.type "tuple")=pure (some (.builtin "tuple.__mul__")):=by
 unfold seqRepeat?;rw[aiU (T:= "tuple") (name:= "__mul__") (id:= "tuple.__mul__") F.slot_tuple_mul.lookup (by decide +kernel),aiU (T:= "tuple") (name:= "__rmul__") (id:= "tuple.__rmul__") F.slot_tuple_rmul.lookup (by decide +kernel)];rfl
theorem Ls(a:Int)(t:Tok)(l:aed)(items:Array aef)(n:Nat)(dd:Option aed)(sl:Array (Option aef)):
  Meets (afH.«int.__rmul__» ⟨[.int a t,.ref l],[]⟩) (λ_ R s=>s.heap.get? l=some {cls:= .type "tuple",dict:=dd,data:= .seq items n,slots:=sl}/\R (.ok (.ret Value.notImplemented)) s):=
 .of_wp λprog w A R s h=>by obtain⟨hp,g,d,tk,os⟩:=s;obtain⟨hl,h⟩:=h;wp_walk;exact⟨_,rfl,h⟩
theorem Vy(l:aed)(items:Array aef)(n:Nat)(dd:Option aed)(sl:Array (Option aef))(t:Tok):
  Meets (afH.«tuple.__mul__» ⟨[.ref l,.int 1 t],[]⟩) (λ_ R s=>s.heap.get? l=some {cls:= .type "tuple",dict:=dd,data:= .seq items n,slots:=sl}/\R (.ok (.ret (.ref l))) {s with heap:=s.heap,toks:=s.toks}):=
 .of_wp λprog w A R s h=>by obtain⟨hp,g,d,tk,os⟩:=s;obtain⟨hl,h⟩:=h;have f1:=aiV;have hc0:(items.isEmpty || (1:Int) ==1)=true:=(by simp);unfold afH.«tuple.__mul__»;wp_walk using afO hl;exact⟨_,rfl,h⟩
theorem Vz(l:aed)(items:Array aef)(n:Nat)(dd:Option aed)(sl:Array (Option aef))(k:Int)(t:Tok)(hf:¬(decide (k < -(2^63)) || decide (k>=2^63))=true)(hc0:¬(items.isEmpty || k ==1)=true)(hc1:¬(decide (k<=0) || items.isEmpty)=true)
  (hc2:¬(items.size:Int)*k > (2^63 - 1) / 8)(hc3:¬ais ((items.size:Int)*k)=true)(hsz:sizeOk (.seq (aiE (λx1 x2=>x1++x2) #[] (aem k.toNat items)))):
  Meets (afH.«tuple.__mul__» ⟨[.ref l,.int k t],[]⟩) (λ_ R s=>s.heap.get? l=some {cls:= .type "tuple",dict:=dd,data:= .seq items n,slots:=sl}/\R (.ok (.ret (.ref s.heap.objs.size))) {s with heap:=s.heap.push {cls:=aeu "tuple",data:=aiQ (aiE (λx1 x2=>x1++x2) #[] (aem k.toNat items))},toks:=s.toks}):=
 .of_wp λprog w A R s h=>by
  obtain⟨hp,g,d,tk,os⟩:=s;obtain⟨hl,h⟩:=h;have f1:=aiV;unfold afH.«tuple.__mul__»
  wp_walk using afO hl
  refine wpAny_ite_false (by simpa using hf) ?_
  wp_walk using afO hl
  refine wpAny_ite_false (by simpa using hc2) ?_
  wp_walk using afO hl
  refine wpAny_ite_false (by simpa[sizeOk] using hsz) ?_
  wp_walk using afO hl
  exact⟨_,rfl,h⟩
section
variable{X:Cx}
theorem aa8:OpR X (afs .Mult) (λx y H Q=>∃a k xs,x= .ref a/\y= .int k/\SqT X.K H a xs/\xs≠[]/\1<=k/\k<2^63/\xs.length*k.toNat<=sizeLine/\(k=1->Q (.ref a) H)/\
  (k≠1->∀p,H p=none->Q (.ref p) (upd H p (.tup (aem k.toNat xs).flatten)))):=by
 intro pins s σ H x y v u Q I rx ry h;obtain⟨a,k,xs,rfl,rfl,hq,hx,h1,h2,hz,q1,q2⟩:=h;cases rx;obtain⟨t,rfl⟩:=ry;obtain⟨its,r,p1,_⟩:=I.tuple hq;obtain⟨⟨cls,dd,data,sl⟩,ho,hc,n,hd⟩:=id p1;simp only at hc hd;subst hc hd;have hlen:=r.length;have hne:its≠[]:=λz=>hx (by rw[z] at r;cases r;rfl);have hpos:0<its.length:=by cases its with |nil=>exact absurd rfl hne |cons _ _=>simp
 have hemp:its.toArray.isEmpty=false:=by cases its with |nil=>exact absurd rfl hne |cons _ _=>simp
 refine wpAny_binaryOp_repeat_ref (T:= "tuple") (U:= "int") (by decide) ⟨_,ho,rfl⟩ (λs'=>aiD s' k t) Hq F.fills_int_mul F.slot_int_rmul QK F.slot_int_index.lookup
  (agA F.slot_int_rmul (aiD s k t) F.entry_int_rmul (F.args_int_rmul_2 _ _) (Ls k t a its.toArray n dd sl) ⟨ho,rfl,⟨_,ho,rfl⟩,?_⟩)
 by_cases hk:k=1
 ·subst hk;exact agA F.slot_tuple_mul ⟨_,ho,rfl⟩ F.entry_tuple_mul (F.args_tuple_mul_2 _ _) (Vy a its.toArray n dd sl t) ⟨ho,⟨.ref a,H,I,rfl,q1 rfl⟩⟩
 ·have hmul:(its.toArray.size:Int)*k=((xs.length*k.toNat:Nat):Int):=by
   rw[z1c,<-hlen,Int.natCast_mul,Int.toNat_of_nonneg (by omega)]
  have hnew:aiE (λx1 x2=>x1++x2) #[] (aem k.toNat its.toArray)=(aem k.toNat its).flatten.toArray:=by
   have:=foldl_rep its k.toNat [];rw[ahu] at this;exact this
  have hs:sizeOk (.seq (aiE (λx1 x2=>x1++x2) #[] (aem k.toNat its.toArray))):=by
   rw[hnew];show (aem k.toNat its).flatten.toArray.size<=sizeLine;rw[z1c,len_rep,<-hlen,Nat.mul_comm];exact hz
  have hbig:(sizeLine:Nat)<=(2^63 - 1) / 8:=by decide
  refine agA F.slot_tuple_mul ⟨_,ho,rfl⟩ F.entry_tuple_mul (F.args_tuple_mul_2 _ _) (Vz a its.toArray n dd sl k t (by simp;omega) (by rw[hemp];simp[hk]) (by rw[hemp];simp;omega) (by rw[hmul];omega) (by rw[hmul];unfold ais;intro z;have z:=of_decide_eq_true z;omega) hs) ⟨ho,?_⟩;rw[hnew];refine⟨.ref s.heap.objs.size,_,I.laid (t':=s.toks) (o:= .tup (aem k.toNat xs).flatten) (λb ob q=>z1a _ q) (z0g _) ?_,rfl,q2 hk _ (I.hok.fresh (z0g _))⟩;exact⟨by rw[len_rep,Nat.mul_comm];exact hz,_,r.rep k.toNat,za.new _ _⟩
theorem Hr{K:aeh}{O:aed->Prop}{H:Hp}{ds:List D}{xs:List V}(r:aU K O H ds xs):∀k:Nat,aU K O H (aem k ds).flatten (aem k xs).flatten
 |0=> .nil
 |k+1=>by rw[afF,afF,af9,af9];exact r.append (Hr r k)
def lU:D->D->R D
 | .int i,.int j=>jc (.int i) (.int j)
 | .tup ds,.int k=>if ds≠[]/\1<=k/\k<2^63/\ds.length*k.toNat<=1000000 then .ok (.tup (aem k.toNat ds).flatten) else .bad
 |_,_=> .bad
theorem gQ:lu X (afs .Mult) lU:=by
 obtain⟨r0,o0,c0⟩:=rA (X:=X);refine⟨_,OpR.or o0 aa8,λρ O σ H Q x y dx dy j0 rx ry h=>?_⟩;cases dx <;> cases dy <;> first
  |exact h.elim
  |skip
 ·exact .inl (c0 ρ O σ H Q x y _ _ j0 rx ry h)
 ·rename_i ds k;have h:good X (rD X) O (if ds≠[]/\1<=k/\k<2^63/\ds.length*k.toNat<=1000000 then .ok (.tup (aem k.toNat ds).flatten) else .bad) σ H Q:=h;by_cases hc:ds≠[]/\1<=k/\k<2^63/\ds.length*k.toNat<=1000000
  ·rw[if_pos hc] at h;obtain⟨a,us,rfl,ha,r1⟩:=rx.tup;obtain⟨h0,h1,h2,h3⟩:=hc;refine .inr ⟨a,k,us,rfl,ry.int,ha,λz=>h0 (by have:=r1.length;rw[z] at this;exact aeP this),h1,h2,by rw[<-r1.length];exact z0b h3 fQ,λz=>?_,λz l hl=>?_⟩
   ·subst z;have e:(aem (1:Int).toNat ds).flatten=ds:=by simp
    rw[e] at h;exact fin h (iK ha r1)
   ·exact h _ _ (Same.upd hl) (Rep.uw hl (Hr r1 _))
  ·rw[if_neg hc] at h;exact h.elim
end
section
variable{K:aeh}{O:aed->Prop}{H:Hp}
end
section
variable{X:Cx}
end
def jZ:Bool->aes->aed->aed->Nat->Prop
 |true,h,it,l,k=>h.IsTupleIter it l k
 |false,h,it,l,k=>h.IsListIter it l k
def j5:Bool->aes->aed->Array aef->Prop
 |true,h,l,xs=>h.IsTuple l xs
 |false,h,l,xs=>h.IsList l xs
def itC(t:Bool):String:=if t then "tuple_iterator" else "list_iterator"
def Sq:Bool->aeh->Hp->aed->List V->Prop
 |true,K,H,a,xs=>SqT K H a xs
 |false,K,H,a,xs=>SqL K H a xs
theorem jZ.of(x:jZ t h it l k)(q:∀o,h.get? it=some o->h'.get? it=some o):jZ t h' it l k:=by
 cases t <;> (obtain⟨o,e,r⟩:=x;exact⟨o,q o e,r⟩)
theorem jZ.obj(x:jZ t h it l k):∃o,h.get? it=some o/\∀v,o.data≠.cell v:=by
 cases t <;> (obtain⟨o,e,c,d⟩:=x;exact⟨o,e,λv z=>by rw[d] at z;cases z⟩)
theorem jZ.new(e:h.get? it=some {cls:= .type (itC t),data:= .fields #[.ref l,.int 0 0]}):jZ t h it l 0:=by
 cases t <;> exact⟨_,e,rfl,rfl⟩
theorem j5.of(x:j5 t h l xs)(q:∀o,h.get? l=some o->h'.get? l=some o):j5 t h' l xs:=by
 cases t <;> (obtain⟨o,e,r⟩:=x;exact⟨o,q o e,r⟩)
section
variable{prog:aew}{w:aey}{A:aeF}{E:aef->aeg->Prop}{s:aeg}
theorem nextT{v:aef}(hit:s.heap.IsTupleIter it l i)(hl:s.heap.IsTuple l xs)(hv:xs[i]?=some v)
  (hQ:∀h',h'.IsTupleIter it l (i+1)->afB it s.heap h'->Q v {s with heap:=h'}):aen (model prog w) A (aeD (.ref it)) Q E s:=by
 have ty:=hit.typeIs;obtain⟨o,g,c,dt⟩:=hit;obtain⟨p,gp,_,m,dp⟩:=hl;unfold aeD;refine aec (afb (name:=afS "__next__") ty F.slot_tuple_iterator_next (afn F.slot_tuple_iterator_next ty F.entry_tuple_iterator_next ?_ (F.args_tuple_iterator_next_1 _)));show aen _ _ (field (.ref it) 0 >>=_) _ _ s;refine aec (aeI g dt (x:= .ref l) rfl ?_);show aen _ _ (if (aez l ==aeL)=true then _ else _) _ _ s;rw[if_neg (show ¬((aez l ==aeL)=true) from aeO)];show aen _ _ (field (.ref it) 1 >>=_) _ _ s;refine aec (aeI g dt (x:= .int i 0) rfl ?_);show aen _ _ (seqItems? (.ref l) >>=_) _ _ s;refine aec (aeX gp dp ?_);simp only[agx,hv];refine aec (ahD g dt (by simp) (aej ⟨v,rfl,aej (hQ _ ⟨_,ag0 _ g (ahS (agS dt _)),(Obj.cls_mapFields ..).trans c,?_⟩ (ah5 ..))⟩));rw[agS dt];simp[ae8]
theorem ZC(hh:A.handled=none)(hit:s.heap.IsTupleIter it l i)(hl:s.heap.IsTuple l xs)(hv:xs[i]?=none)
  (hE:∀h' e,aii it s.heap h'->(∃o,h'.get? e=some o/\o.cls= .type "StopIteration")->E (.ref e) {s with heap:=h'}):aen (model prog w) A (aeD (.ref it)) Q E s:=by
 have ty:=hit.typeIs;obtain⟨o,g,c,dt⟩:=hit;obtain⟨p,gp,_,m,dp⟩:=hl;unfold aeD;refine aec (afb (name:=afS "__next__") ty F.slot_tuple_iterator_next (afn F.slot_tuple_iterator_next ty F.entry_tuple_iterator_next ?_ (F.args_tuple_iterator_next_1 _)));show aen _ _ (field (.ref it) 0 >>=_) _ _ s;refine aec (aeI g dt (x:= .ref l) rfl ?_);show aen _ _ (if (aez l ==aeL)=true then _ else _) _ _ s;rw[if_neg (show ¬((aez l ==aeL)=true) from aeO)];show aen _ _ (field (.ref it) 1 >>=_) _ _ s;refine aec (aeI g dt (x:= .int i 0) rfl ?_);show aen _ _ (seqItems? (.ref l) >>=_) _ _ s;refine aec (aeX gp dp ?_);simp only[agx,hv];refine aec (agi (aec (ahD g dt (by simp) ?_)));show aen _ _ (newExc (.type "StopIteration") [] >>=_) _ _ _;refine aec ?_;simp only[newExc,newTuple];refine aec (afq ?_ (by size_fits));refine aec (m:=firstArgMember _ _) (agn (a:=aeL) (by first |(simp only[firstArgMember];rfl) |rfl) ?_);refine afq ?_ (by size_fits);simp only[raiseNew];refine aec (wpAny_handled ?_);first |rw[show A.in1.handled=none from hh] |rw[hh]
 exact aec (aej (wpAny_throw (hE _ _ (((ah5 ..).extBut.push _).push _) ⟨_,z1f _ rfl,rfl⟩)))
theorem tY{v:aef}(hit:jZ t s.heap it l i)(hl:j5 t s.heap l xs)(hv:xs[i]?=some v)
  (hQ:∀h',jZ t h' it l (i+1)->afB it s.heap h'->Q v {s with heap:=h'}):aen (model prog w) A (aeD (.ref it)) Q E s:=by
 cases t with
 |true=>exact nextT hit hl hv hQ
 |false=>exact wpAny_nextOf_list_item hit hl hv hQ
theorem qD(hh:A.handled=none)(hit:jZ t s.heap it l i)(hl:j5 t s.heap l xs)(hv:xs[i]?=none)
  (hE:∀h' e,aii it s.heap h'->(∃o,h'.get? e=some o/\o.cls= .type "StopIteration")->E (.ref e) {s with heap:=h'}):aen (model prog w) A (aeD (.ref it)) Q E s:=by
 cases t with
 |true=>exact ZC hh hit hl hv hE
 |false=>exact wpAny_nextOf_list_end hh hit hl hv hE
theorem wL(hl:j5 t s.heap l xs)(hQ:Q (.ref s.heap.objs.size) {s with heap:=s.heap.push {cls:= .type (itC t),data:= .fields #[.ref l,.int 0 0]}}):
  aen (model prog w) A (pyIter (.ref l)) Q E s:=by
 cases t with
 |true=>exact wpAny_pyIter_tuple hl hQ
 |false=>exact agU hl hQ
theorem rM{T:aed}{arr:Array aef}{x:aef}{Q:Unit->aeg->Prop}(hT:s.heap.get? T=some {cls:= .type "tuple",data:= .seq arr})
  (h:∀h',h'.get? T=some {cls:= .type "tuple",data:= .seq (arr.setIfInBounds k x)}->afB T s.heap h'->Q () {s with heap:=h'})(hs:arr.size<=sizeLine:=by size_fits):aen (model prog w) A (updateSeq T (·.setIfInBounds k x)) Q E s:=by
 refine ahv (hz:=hs) (_hz':=by simpa using Nat.le_succ_of_le hs) hT rfl (h _ (by rw[ag0 _ hT rfl];simp[afL]) (ah5 ..))
end
section
variable{X:Cx}{pins:List (aed×Obj)}{σ:St}{H:Hp}{s:aeg}
theorem _root_.L2.Inv.fp{b:aed}(I:Inv X pins σ H s)(f:FpOk X pins H b)(sb:afB b s.heap h'):Inv X pins σ H {s with heap:=h'}:=
 I.turned (t':=s.toks) (λc o hc e=>(sb.2 c hc).trans e) f.1 f.2.1 f.2.2.2.1 f.2.2.2.2.1 f.2.2.2.2.2
theorem _root_.L2.Inv.fpE{b:aed}(I:Inv X pins σ H s)(f:FpOk X pins H b)(sb:aii b s.heap h'):Inv X pins σ H {s with heap:=h'}:=
 I.turned (t':=s.toks) (λc o hc e=>sb c o hc e) f.1 f.2.1 f.2.2.2.1 f.2.2.2.2.1 f.2.2.2.2.2
theorem _root_.L2.FpOk.upd{b p:aed}{o:HO}(f:FpOk X pins H b)(n:b≠p):FpOk X pins (L2.upd H p o) b:=⟨by rw[upd_ne n];exact f.1,f.2⟩
theorem _root_.L2.Inv.sq{xs:List V}(I:Inv X pins σ H s)(q:Sq t X.K H l xs):∃its:List aef,Vals xs its/\j5 t s.heap l its.toArray:=by
 cases t with
 |true=>obtain⟨its,r,p,_⟩:=I.tuple q;exact⟨its,r,p⟩
 |false=>obtain⟨its,r,p,_⟩:=I.list q;exact⟨its,r,p.isList⟩
theorem _root_.L2.Inv.yw{xs ys:List V}(I:Inv X pins σ H s)(q:Sq t X.K H l xs)(r:Sq t X.K H l ys):xs=ys:=by
 cases t with
 |true=>exact I.tuple_inj q r
 |false=>exact I.list_inj q r
end
abbrev iW(h:aes)(T:aed)(arr:Array aef):Prop:=h.get? T=some {cls:= .type "tuple",data:= .seq arr}
structure Z2(h:aes)(z TI TO i1 i2:aed)(t1 t2:Bool)(l1 l2:aed)(k:Nat):Prop where
 z:agK h z TI TO .none
 ti:iW h TI #[.ref i1,.ref i2]
 to:∃a b,iW h TO #[a,b]
 s1:jZ t1 h i1 l1 k
 s2:jZ t2 h i2 l2 k
structure Z3(h:aes)(z TI TO i1 i2 i3:aed)(t1 t2 t3:Bool)(l1 l2 l3:aed)(k:Nat):Prop where
 z:agK h z TI TO .none
 ti:iW h TI #[.ref i1,.ref i2,.ref i3]
 to:∃a b c,iW h TO #[a,b,c]
 s1:jZ t1 h i1 l1 k
 s2:jZ t2 h i2 l2 k
 s3:jZ t3 h i3 l3 k
def ZD(K:aeh)(t1:Bool)(l1:aed)(t2:Bool)(l2:aed):It:=
 ⟨λi H=>∃xs ys x y,Sq t1 K H l1 xs/\xs[i]?=some x/\Sq t2 K H l2 ys/\ys[i]?=some y,
  λi H v H'=>∃p x y,H p=none/\v= .ref p/\H'=upd H p (.tup [x,y])/\(∀xs,Sq t1 K H l1 xs->xs[i]?=some x)/\∀ys,Sq t2 K H l2 ys->ys[i]?=some y,
  λi H=>∃xs ys,Sq t1 K H l1 xs/\Sq t2 K H l2 ys/\(xs.length<=i\/ys.length<=i)⟩
def ZF(K:aeh)(t1:Bool)(l1:aed)(t2:Bool)(l2:aed)(t3:Bool)(l3:aed):It:=
 ⟨λi H=>∃xs ys zs x y z,Sq t1 K H l1 xs/\xs[i]?=some x/\Sq t2 K H l2 ys/\ys[i]?=some y/\Sq t3 K H l3 zs/\zs[i]?=some z,
  λi H v H'=>∃p x y z,H p=none/\v= .ref p/\H'=upd H p (.tup [x,y,z])/\(∀xs,Sq t1 K H l1 xs->xs[i]?=some x)/\(∀ys,Sq t2 K H l2 ys->ys[i]?=some y)/\∀zs,Sq t3 K H l3 zs->zs[i]?=some z,
  λi H=>∃xs ys zs,Sq t1 K H l1 xs/\Sq t2 K H l2 ys/\Sq t3 K H l3 zs/\(xs.length<=i\/ys.length<=i\/zs.length<=i)⟩
section
variable{X:Cx}{pins:List (aed×Obj)}{σ:St}{H:Hp}{s:aeg}{A':aeF}{E:aef->aeg->Prop}
theorem Xv:2<=sizeLine:=z0b (by decide) (z0e iH)
theorem ZG:3<=sizeLine:=z0b (by decide) (z0e iH)
theorem Xw{TI TO:aed}{xs ys:List V}{x y:V}(I:Inv X pins σ H s)
  (fz:FpOk X pins H z)(fO:FpOk X pins H TO)(f1:FpOk X pins H i1)(f2:FpOk X pins H i2)
  (n1:TI≠z)(n2:TO≠z)(n3:i1≠z)(n4:i2≠z)(n5:TI≠TO)(n6:TI≠i1)(n7:TI≠i2)(n8:TO≠i1)(n9:TO≠i2)(n10:i1≠i2)
  (st:Z2 s.heap z TI TO i1 i2 t1 t2 l1 l2 k)(q1:Sq t1 X.K H l1 xs)(e1:xs[k]?=some x)(q2:Sq t2 X.K H l2 ys)(e2:ys[k]?=some y)
  (hQ:∀h',Inv X pins σ (upd H s.heap.objs.size (.tup [x,y])) {s with heap:=h'}->agK h' z TI TO (ae8 s.heap.objs.size)->iW h' TI #[.ref i1,.ref i2]->(∃a b,iW h' TO #[a,b])->
   jZ t1 h' i1 l1 (k+1)->jZ t2 h' i2 l2 (k+1)->Q (.ref s.heap.objs.size) {s with heap:=h'}):
  aen (model X.prog X.w) A' (afH.«zip.__next__» ⟨[.ref z],[]⟩) (λfin s'=>∃v,fin= .done (.ret v)/\Q v s') E s:=by
 obtain⟨hz,hTI,⟨a,b,hTO⟩,h1,h2⟩:=st;show aen _ _ (field (.ref z) 2 >>=_) _ _ _;refine aec (aeI hz rfl (x:= .bool false) rfl ?_);show aen _ _ (field (.ref z) 3 >>=_) _ _ _;refine aec (aeI hz rfl (x:= .ref TI) rfl ?_);refine aec (aeX hTI rfl ?_);show aen _ _ (aeM (.ref z) >>=_) _ _ _;refine aec ?_;unfold aeM;refine aec (aeI hz rfl (x:= .none) rfl (aej ?_));simp only[if_true];refine aec (agi (aec (aeI hz rfl (x:= .ref TO) rfl ?_)));refine aec (aeV hz (by simp) λg1 z1 b1=>?_)
 replace z1:agK g1 z TI TO .ellipsis:=z1
 have I1:=I.fp fz b1;refine aec ?_;simp only[ahO,ah2,ags,aib];obtain⟨us,r1,p1⟩:=I1.sq q1;obtain⟨u,hu,ru⟩:=r1.get e1;refine aec (aec (afU ?_));show aen _ _ (aeD (.ref i1) >>=_) _ _ _;refine aec (tY (h1.of λo e=>b1.extBut _ _ n3 e) p1 (v:=u) (by simpa using hu) λg2 s12 b2=>aej ?_);have I2:=I1.fp f1 b2;have o2:iW g2 TO #[a,b]:=b2.extBut _ _ n8 (b1.extBut _ _ n2 hTO);refine aec (aeX o2 rfl (aec (rM o2 λg3 o3 b3=>aec (afJ (aej ?_)))))
 replace o3:iW g3 TO #[u,b]:=o3
 have I3:=I2.fp fO b3;obtain⟨vs,r2,p2⟩:=I3.sq q2;obtain⟨v,hv,rv⟩:=r2.get e2;refine aec (aec (afU ?_));show aen _ _ (aeD (.ref i2) >>=_) _ _ _;refine aec (tY (h2.of λo e=>b3.extBut _ _ (aeo n9) (b2.extBut _ _ (aeo n10) (b1.extBut _ _ n4 e))) p2 (v:=v) (by simpa using hv) λg4 s24 b4=>aej ?_);have I4:=I3.fp f2 b4;have o4:iW g4 TO #[u,b]:=b4.extBut _ _ n9 o3;refine aec (aeX o4 rfl (aec (rM o4 λg5 o5 b5=>aec (afJ (aej (aej ?_))))))
 replace o5:iW g5 TO #[u,v]:=o5
 have I5:=I4.fp fO b5;refine aec (aeX o5 rfl (aec (aia ?_)));have sz:g5.objs.size=s.heap.objs.size:=by rw[b5.1,b4.1,b3.1,b2.1,b1.1]
 have I6:Inv X pins σ (upd H g5.objs.size (.tup [x,y])) {s with heap:=g5.push {cls:= .type "tuple",data:= .seq #[u,v]}}:=
  I5.laid (t':=s.toks) (λb u e=>z1a _ e) (z0g _) ⟨Xv,[u,v],.cons ru (.cons rv .nil),⟨_,z1f _ rfl,rfl,rfl,_,rfl⟩⟩
 have z5:agK g5 z TI TO .ellipsis:=b5.extBut _ _ (aeo n2) (b4.extBut _ _ (aeo n4) (b3.extBut _ _ (aeo n2) (b2.extBut _ _ (aeo n3) z1)));have lt:∀{c o},g5.get? c=some o->c≠g5.objs.size:=λe=>aeN (z2c e);show aen _ _ (afe (.ref z) (.ref g5.objs.size) >>=_) _ _ _;refine aec ?_;unfold afe;refine aec (aeV (z1a _ z5) (by simp) λg7 z7 b7=>?_)
 replace z7:agK g7 z TI TO (ae8 g5.objs.size):=z7
 have I7:=I6.fp (fz.upd (lt z5)) b7;refine aeV z7 (by simp) λg8 z8 b8=>?_
 replace z8:agK g8 z TI TO (ae8 g5.objs.size):=z8
 have I8:=I7.fp (fz.upd (lt z5)) b8;have up:∀c o,c≠z->g5.get? c=some o->g8.get? c=some o:=λc o c1 e=>b8.extBut _ _ c1 (b7.extBut _ _ c1 (z1a _ e));refine aej ⟨_,rfl,?_⟩;rw[sz] at I8 z8;show Q (.ref g5.objs.size) _;rw[sz];refine hQ g8 I8 z8 (up _ _ n1 (b5.extBut _ _ n5 (b4.extBut _ _ n7 (b3.extBut _ _ n5 (b2.extBut _ _ n6 (b1.extBut _ _ n1 hTI)))))) ⟨u,v,up _ _ n2 o5⟩ ?_ ?_
 ·exact s12.of λo e=>up _ _ n3 (b5.extBut _ _ (aeo n8) (b4.extBut _ _ n10 (b3.extBut _ _ (aeo n8) e)))
 ·exact s24.of λo e=>up _ _ n4 (b5.extBut _ _ (aeo n9) e)
theorem ZJ{TI TO:aed}{xs ys:List V}{Q:Fin->aeg->Prop}(hh:A'.handled=none)(I:Inv X pins σ H s)
  (fz:FpOk X pins H z)(fO:FpOk X pins H TO)(f1:FpOk X pins H i1)(f2:FpOk X pins H i2)
  (n1:TI≠z)(n2:TO≠z)(n3:i1≠z)(n4:i2≠z)(n5:TI≠TO)(n6:TI≠i1)(n7:TI≠i2)(n8:TO≠i1)(n9:TO≠i2)(n10:i1≠i2)
  (st:Z2 s.heap z TI TO i1 i2 t1 t2 l1 l2 k)(q1:Sq t1 X.K H l1 xs)(q2:Sq t2 X.K H l2 ys)(en:xs.length<=k\/ys.length<=k)
  (hE:∀h' e,Inv X pins σ H {s with heap:=h'}->(∃o,h'.get? e=some o/\o.cls= .type "StopIteration")->E (.ref e) {s with heap:=h'}):
  aen (model X.prog X.w) A' (afH.«zip.__next__» ⟨[.ref z],[]⟩) Q E s:=by
 obtain⟨hz,hTI,⟨a,b,hTO⟩,h1,h2⟩:=st;show aen _ _ (field (.ref z) 2 >>=_) _ _ _;refine aec (aeI hz rfl (x:= .bool false) rfl ?_);show aen _ _ (field (.ref z) 3 >>=_) _ _ _;refine aec (aeI hz rfl (x:= .ref TI) rfl ?_);refine aec (aeX hTI rfl ?_);show aen _ _ (aeM (.ref z) >>=_) _ _ _;refine aec ?_;unfold aeM;refine aec (aeI hz rfl (x:= .none) rfl (aej ?_));simp only[if_true];refine aec (agi (aec (aeI hz rfl (x:= .ref TO) rfl ?_)));refine aec (aeV hz (by simp) λg1 z1 b1=>?_)
 replace z1:agK g1 z TI TO .ellipsis:=z1
 have I1:=I.fp fz b1;refine aec ?_;simp only[ahO,ah2,ags,aib];obtain⟨us,r1,p1⟩:=I1.sq q1;have leave:∀{g g':aes} {e:aed} {c:aed},Inv X pins σ H {s with heap:=g}->agK g z TI TO .ellipsis->FpOk X pins H c->c≠z->aii c g g'->(∃o,g'.get? e=some o/\o.cls= .type "StopIteration")->
   aen (model X.prog X.w) A' (setField (.ref z) 0 .none) (λ_ s'=>E (.ref e) s') E {s with heap:=g'}:=λ{g g' e c} Ig zg fc nc eb ⟨oe,hoe,hce⟩=>by
  have Xx:agK g' z TI TO .ellipsis:=eb _ _ (aeo nc) zg;have hez:e≠z:=λq=>by subst q;rw[Xx] at hoe;cases hoe;simp at hce
  have Ig':Inv X pins σ H {s with heap:=g'}:=Ig.fpE fc eb;exact aeV Xx (by simp) λg'' _ b''=>hE g'' e (Ig'.fp fz b'') ⟨oe,b''.extBut _ _ hez hoe,hce⟩
 refine aec (aec (afU ?_));show aen _ _ (aeD (.ref i1) >>=_) _ _ _;have h1':=h1.of (h':=g1) λo e=>b1.extBut _ _ n3 e;by_cases hx:xs.length<=k
 ·exact aec (qD hh h1' p1 (by have:=r1.length;simp;omega) λg2 e eb ex=>leave I1 z1 f1 n3 eb ex)
 ·have hy:ys.length<=k:=by rcases en with h |h;exact absurd h hx;exact h
  obtain⟨u,hu,ru⟩:=r1.get (i:=k) (x:=xs[k]'(by omega)) (aeQ (by omega));refine aec (tY h1' p1 (v:=u) (by simpa using hu) λg2 s12 b2=>aej ?_);have I2:=I1.fp f1 b2;have o2:iW g2 TO #[a,b]:=b2.extBut _ _ n8 (b1.extBut _ _ n2 hTO);refine aec (aeX o2 rfl (aec (rM o2 λg3 o3 b3=>aec (afJ (aej ?_)))));have I3:=I2.fp fO b3;obtain⟨vs,r2,p2⟩:=I3.sq q2;have z3:agK g3 z TI TO .ellipsis:=b3.extBut _ _ (aeo n2) (b2.extBut _ _ (aeo n3) z1);refine aec (aec (afU ?_));show aen _ _ (aeD (.ref i2) >>=_) _ _ _;exact aec (qD hh (h2.of λo e=>b3.extBut _ _ (aeo n9) (b2.extBut _ _ (aeo n10) (b1.extBut _ _ n4 e))) p2 (by have:=r2.length;simp;omega) λg4 e eb ex=>leave I3 z3 f2 n4 eb ex)
end
theorem Xy{kk}{TI TO:aed}
  (n1:TI≠z)(n2:TO≠z)(n3:i1≠z)(n4:i2≠z)(n5:TI≠TO)(n6:TI≠i1)(n7:TI≠i2)(n8:TO≠i1)(n9:TO≠i2)(n10:i1≠i2):
  Turn P w K (.Tuple wK kk pp) (ZD K t1 l1 t2 l2) [z,TI,TO,i1,i2] z (λi h=>Z2 h z TI TO i1 i2 t1 t2 l1 l2 i) where
 mem:=by simp
 obj:=λi h st b hb=>by
  obtain⟨hz,hTI,⟨x,y,hTO⟩,h1,h2⟩:=st;simp only[aev,aeU,or_false] at hb;rcases hb with rfl |rfl |rfl |rfl |rfl
  ·exact⟨_,hz,λv q=>by have q':aif _=ag4 v:=q;cases q'⟩
  ·exact⟨_,hTI,λv q=>by have q':aiQ _=ag4 v:=q;cases q'⟩
  ·exact⟨_,hTO,λv q=>by have q':aiQ _=ag4 v:=q;cases q'⟩
  ·exact h1.obj
  ·exact h2.obj
 keep:=λi h h' st k=>by
  obtain⟨hz,hTI,⟨x,y,hTO⟩,h1,h2⟩:=st;exact⟨k _ (by simp) _ hz,k _ (by simp) _ hTI,⟨x,y,k _ (by simp) _ hTO⟩,h1.of λo e=>k _ (by simp) o e,h2.of λo e=>k _ (by simp) o e⟩
 item :=by
  intro X hP hw hK hc i pins s σ H E I hf st hg;subst hP hw hK;obtain⟨xs,ys,x,y,q1,e1,q2,e2⟩:=hg;have hT:s.TypeIs (.ref z) "zip" :=⟨_,st.z,rfl⟩;unfold pyNext;refine aec (agv (afb (name:=afS "__next__") hT F.slot_zip_next (afn F.slot_zip_next hT F.entry_zip_next
   (Xw I (hf z (by simp)) (hf TO (by simp)) (hf i1 (by simp)) (hf i2 (by simp)) n1 n2 n3 n4 n5 n6 n7 n8 n9 n10 st q1 e1 q2 e2 λh' I' z' ti' QL s1' s2'=>aej ⟨_,rfl,?_⟩) (F.args_zip_next_1 _))))
  have hp:H s.heap.objs.size=none:=I.hok.fresh (z0g _);have nz:∀b,b∈[z,TI,TO,i1,i2]->b≠s.heap.objs.size:=λb hb q=>by
   obtain⟨o,e,_⟩:∃o,s.heap.get? b=some o/\True:=by
    obtain⟨hz,hTI,⟨x,y,hTO⟩,h1,h2⟩:=st;simp only[aev,aeU,or_false] at hb;rcases hb with rfl |rfl |rfl |rfl |rfl
    ·exact⟨_,hz,trivial⟩
    ·exact⟨_,hTI,trivial⟩
    ·exact⟨_,hTO,trivial⟩
    ·obtain⟨o,e,_⟩:=h1.obj;exact⟨o,e,trivial⟩
    ·obtain⟨o,e,_⟩:=h2.obj;exact⟨o,e,trivial⟩
   exact absurd (z2c e) (by rw[q];exact afj _)
  refine wpAny_letOwnedTupleGo_zip z' λh'' z'' b''=>⟨.ref s.heap.objs.size,upd H s.heap.objs.size (.tup [x,y]),I'.fp ((hf z (by simp)).upd (nz z (by simp))) b'',rfl,⟨_,x,y,hp,rfl,rfl,λxs' q=>by rw[I.yw q q1];exact e1,λys' q=>by rw[I.yw q q2];exact e2⟩,?_,λb hb=>?_⟩
  ·obtain⟨a,b,QL⟩:=QL;exact⟨z'',b''.extBut _ _ n1 ti',⟨a,b,b''.extBut _ _ n2 QL⟩,s1'.of λo e=>b''.extBut _ _ n3 e,s2'.of λo e=>b''.extBut _ _ n4 e⟩
  ·rw[upd_ne (nz b hb)];exact (hf b hb).1
 done:=by
  intro X hP hw hK hc i pins s σ H E I hf st hg;subst hP hw hK;obtain⟨xs,ys,q1,q2,en⟩:=hg;have hT:s.TypeIs (.ref z) "zip" :=⟨_,st.z,rfl⟩;unfold pyNext;refine aec (agv (afb (name:=afS "__next__") hT F.slot_zip_next (afn F.slot_zip_next hT F.entry_zip_next
   (ZJ (I.ok.hd hc) I (hf z (by simp)) (hf TO (by simp)) (hf i1 (by simp)) (hf i2 (by simp)) n1 n2 n3 n4 n5 n6 n7 n8 n9 n10 st q1 q2 en λh' e I' ex=>?_) (F.args_zip_next_1 _))))
  obtain⟨o,ho,ec⟩:=ex;exact aec (ahP (T:= "StopIteration") (b:=true) ⟨o,ho,ec⟩ isSubtype_stop (aej ⟨rfl,I'⟩))
 self:=λ_ _ _ _ _ st h=>ahQ st.z h
abbrev itR(t:Bool)(l:aed):Obj:={cls:= .type (itC t),data:= .fields #[.ref l,.int 0 0]}
abbrev Xz(h:aes)(t1:Bool)(l1:aed):aes:=h.push (itR t1 l1)
abbrev zA2(h:aes)(t1:Bool)(l1:aed)(t2:Bool)(l2:aed):aes:=(Xz h t1 l1).push (itR t2 l2)
abbrev zA3(h:aes)(t1:Bool)(l1:aed)(t2:Bool)(l2:aed):aes:=(zA2 h t1 l1 t2 l2).push {cls:= .type "tuple",data:= .seq #[.ref h.objs.size,.ref (Xz h t1 l1).objs.size]}
abbrev zA4(h:aes)(t1:Bool)(l1:aed)(t2:Bool)(l2:aed):aes:=(zA3 h t1 l1 t2 l2).push {cls:= .type "tuple",data:= .seq #[.none,.none]}
abbrev Uw(h:aes)(t1:Bool)(l1:aed)(t2:Bool)(l2:aed):aes:=(zA4 h t1 l1 t2 l2).push {cls:= .type "zip",data:= .fields #[.none,.bool false,.bool false,.ref (zA2 h t1 l1 t2 l2).objs.size,.ref (zA3 h t1 l1 t2 l2).objs.size]}
theorem VB(t1:Bool)(l1:aed)(t2:Bool)(l2:aed)(xs ys:Array aef):Meets (afH.«zip.__new__» ⟨[.type "zip",.ref l1,.ref l2],[]⟩)
  (λ_ R s=>j5 t1 s.heap l1 xs/\j5 t2 s.heap l2 ys/\R (.ok (.ret (.ref (zA4 s.heap t1 l1 t2 l2).objs.size))) {s with heap:=Uw s.heap t1 l1 t2 l2}):=
 .of_wp λprog w A R s h=>by
  obtain⟨hp,g,d,tk,os⟩:=s;obtain⟨k1,k2,h⟩:=h;have hsub:=sub_zip;have L1:j5 t1 (ahK ⟨hp,g,d,tk,os⟩) l1 xs:=k1;have L2:j5 t2 (ahK ⟨Xz hp t1 l1,g,d,tk,os⟩) l2 ys:=k2.of λo e=>z1a _ e
  wp_walk using wL L1,wL L2
  exact⟨_,rfl,h⟩
section
variable{prog:aew}{w:aey}{A:aeF}{E:aef->aeg->Prop}{s:aeg}
theorem XC{ys:Array aef}(k1:j5 t1 s.heap l1 xs)(k2:j5 t2 s.heap l2 ys)
  (h:∀h',Z2 h' (s.heap.objs.size+4) (s.heap.objs.size+2) (s.heap.objs.size+3) s.heap.objs.size (s.heap.objs.size+1) t1 t2 l1 l2 0->(∀c o,s.heap.get? c=some o->h'.get? c=some o)->Q (.ref (s.heap.objs.size+4)) {s with heap:=h'}):
  aen (model prog w) A (call (.type "zip") [.ref l1,.ref l2]) Q E s:=by
 refine callType_new F.called_zip (by decide) (F.typeCall_zip_2 _ _) (F.newCall_zip_2 _ _) (λobj=>F.args_object_init_3 obj _ _) F.entry_zip_new (VB t1 l1 t2 l2 xs ys) ⟨k1,k2,?_⟩;have z1:(Xz s.heap t1 l1).objs.size=s.heap.objs.size+1:=aeW ..;have z2:(zA2 s.heap t1 l1 t2 l2).objs.size=s.heap.objs.size+2:=by rw[aeW,z1]
 have z3:(zA3 s.heap t1 l1 t2 l2).objs.size=s.heap.objs.size+3:=by rw[aeW,z2]
 have z4:(zA4 s.heap t1 l1 t2 l2).objs.size=s.heap.objs.size+4:=by rw[aeW,z3]
 have a5:(Uw s.heap t1 l1 t2 l2).get? (zA4 s.heap t1 l1 t2 l2).objs.size=some _:=z1f _ rfl;have a4:(Uw s.heap t1 l1 t2 l2).get? (zA3 s.heap t1 l1 t2 l2).objs.size=some _:=z1a _ (z1f _ rfl);have a3:(Uw s.heap t1 l1 t2 l2).get? (zA2 s.heap t1 l1 t2 l2).objs.size=some _:=z1a _ (z1a _ (z1f _ rfl));have a2:(Uw s.heap t1 l1 t2 l2).get? (Xz s.heap t1 l1).objs.size=some (itR t2 l2):=z1a _ (z1a _ (z1a _ (z1f _ rfl)));have a1:(Uw s.heap t1 l1 t2 l2).get? s.heap.objs.size=some (itR t1 l1):=z1a _ (z1a _ (z1a _ (z1a _ (z1f _ rfl))));show _/\_;rw[z2,z3,z4] at a5;rw[z1,z2] at a3;rw[z3] at a4;rw[z1] at a2;rw[z4];exact⟨⟨_,a5,rfl⟩,h _ ⟨a5,a3,⟨_,_,a4⟩,.new a1,.new a2⟩ λc o e=>z1a _ (z1a _ (z1a _ (z1a _ (z1a _ e))))⟩
end
theorem XD:afI "zip" =some (.type "zip"):=by decide +kernel
section
variable{X:Cx}{wK:List aer}{kk:Nat}{pp:Pos}{a b:aer}{p pos:Pos}
def ac8(K:aeh)(ta:TA):TI:=λσ H R=>ta σ H λvs H1=>∃t1 l1 t2 l2,vs=[.ref l1,.ref l2]/\(∃xs,Sq t1 K H1 l1 xs)/\(∃ys,Sq t2 K H1 l2 ys)/\R (ZD K t1 l1 t2 l2) H1
theorem aa9 (hg:Gl X "zip") (hm:X.mg "zip" =none) (ha:PA X [a,b] ta) (he:starEach [a,b] X.env=(false,eval a X.env)::starEach [b] X.env:=by rfl) (hpl:(backTo pos (starEach [b] X.env)).any (·.1)=false:=by rfl):
    PI X (.Tuple wK kk pp) (.Call (.Name "zip" p) [a,b] [] pos) (ac8 X.K ta):=by
  intro pins s σ H R I h
  refine Call_ (ld_blt I hg hm XD (ae6 (thn (ha pos pins s σ H _ I h) fun us s1 ⟨vs,H1,I1,r1,q1⟩=>?_) he hpl))
  obtain⟨t1,l1,t2,l2,e,⟨xs,w1⟩,⟨ys,w2⟩,q⟩:=q1
  subst e
  cases r1 with
  | cons r rr=>
    cases rr with
    | cons r' rr=>
      cases rr
      cases r
      cases r'
      obtain⟨vs1,_,p1⟩:=I1.sq w1
      obtain⟨vs2,_,p2⟩:=I1.sq w2
      refine XC p1 p2 fun h' st k=>ahQ st.z ⟨s1.heap.objs.size+4,[s1.heap.objs.size+4,s1.heap.objs.size+2,s1.heap.objs.size+3,s1.heap.objs.size,s1.heap.objs.size+1],_,_,H1,rfl,I1.kept (t':=s1.toks) k,Xy ?_ ?_ ?_ ?_ ?_ ?_ ?_ ?_ ?_ ?_,st,fun c hc=>(by
        have hle:s1.heap.objs.size≤c:=by
          simp only[aev,aeU,or_false] at hc
          rcases hc with rfl |rfl |rfl |rfl |rfl <;> first |exact ai8 _ |exact ag9 _ _
        exact I1.fpOk hle (I1.hok.fresh hle)),q⟩
      all_goals (show @Ne Nat _ _;omega)
end
def Lw(xs ys:List D):List D:=(xs.zip ys).map λp=> .tup [p.1,p.2]
def Fz(xs ys zs:List D):List D:=(xs.zip (ys.zip zs)).map λp=> .tup [p.1,p.2.1,p.2.2]
def zip2:List D->R (List D)
 |[x,y]=>(eF x).bind λxs=>(eF y).bind λys=> .ok (Lw xs ys)
 |_=> .bad
def Ce:List D->R (List D)
 |[x,y,z]=>(eF x).bind λxs=>(eF y).bind λys=>(eF z).bind λzs=> .ok (Fz xs ys zs)
 |_=> .bad
section
variable{K:aeh}{O:aed->Prop}{H:Hp}
structure Src(K:aeh)(O:aed->Prop)(H:Hp)(t:Bool)(a:aed)(ds:List D):Prop where
 ex:∃vs,Sq t K H a vs/\aU K O H ds vs
 no:t=false->¬O a
theorem yx{d:D}{v:V}{ds:List D}(r:Rep K O H d v)(h:eF d= .ok ds):∃t a,v= .ref a/\Src K O H t a ds:=by
 cases d with
 |tup es=>cases h;obtain⟨a,xs,rfl,q,rs⟩:=r.tup;exact⟨true,a,rfl,⟨xs,q,rs⟩,λz=>by cases z⟩
 |lst es=>cases h;obtain⟨a,xs,rfl,q,n,rs⟩:=r.lst;exact⟨false,a,rfl,⟨xs,q,rs⟩,λ_=>n⟩
 |_=>cases h
theorem Src.go{O':aed->Prop}{H':Hp}{a:aed}{ds:List D}(s:Src K O H t a ds)(q:gD K O H O' H'):∃vs,Sq t K H' a vs/\aU K O' H' ds vs:=by
 obtain⟨vs,h,r⟩:=s.ex;cases t with
 |true=>exact⟨vs,SqT.ext q.ext h,r.go q⟩
 |false=>exact⟨vs,SqL.ext q.ext (s.no rfl) h,r.go q⟩
theorem ZK{xs ys:List D}{d:D}(h:(Lw xs ys)[i]?=some d):∃x y,xs[i]?=some x/\ys[i]?=some y/\d= .tup [x,y]:=by
 unfold Lw at h;rw[z2b] at h;cases e:(xs.zip ys)[i]? with
 |none=>rw[e] at h;cases h
 |some p=>rw[e] at h;cases h;obtain⟨h1,h2⟩:=ahw.mp e;exact⟨_,_,h1,h2,rfl⟩
theorem YR.zip2{a1 a2:aed}{xs ys:List D}(s1:Src K O H t1 a1 xs)(s2:Src K O H t2 a2 ys):YR K O H (ZD K t1 a1 t2 a2) (Lw xs ys):=by
 intro O' H' q i;obtain⟨v1,q1,r1⟩:=s1.go q;obtain⟨v2,q2,r2⟩:=s2.go q;refine⟨λd e=>?_,λe=>⟨v1,v2,q1,q2,?_⟩⟩
 ·obtain⟨x,y,e1,e2,rfl⟩:=ZK e;obtain⟨u1,g1,w1⟩:=r1.get e1;obtain⟨u2,g2,w2⟩:=r2.get e2;refine⟨⟨v1,v2,u1,u2,q1,g1,q2,g2⟩,λx H2 y=>?_⟩;obtain⟨p,x1,x2,hp,rfl,rfl,k1,k2⟩:=y;have k1:=k1 _ q1;have k2:=k2 _ q2;rw[g1] at k1;cases k1;rw[g2] at k2;cases k2;exact⟨Same.upd hp,iK (SqT.of upd_same) ((aU.cons w1 (.cons w2 .nil)).same (Same.upd hp))⟩
 ·rw[<-r1.length,<-r2.length];simp only[Lw,z1g,List.length_zip] at e;omega
end
section
variable{X:Cx}{wK:List aer}{kk:Nat}{pp:Pos}{a b:aer}{p pos:Pos}{fa:aB->R (List D)}
theorem FJ(hg:Gl X "zip")(hm:X.mg "zip" =none)(ha:DA X [a,b] fa)(he:aei [a,b] X.env=(false,eval a X.env)::aei [b] X.env:=by rfl)(hpl:(ae7 pos (aei [b] X.env)).any (·.1)=false:=by rfl):
  DI X (.Tuple wK kk pp) (.Call (.Name "zip" p) [a,b] [] pos) (λρ=>(fa ρ).bind zip2):=by
 refine PI.imp (aa9 hg hm ha he hpl) λσ H Q q=>?_;obtain⟨ρ,O,j,q⟩:=q;refine go j q λds vs H1 e1 s1 r1 j1 h1=>?_;unfold zip2 at h1;split at h1
 ·rename_i x y;obtain⟨v1,v2,rfl,w1,w2⟩:=r1.two;cases ex:eF x with
  |bad=>rw[ex] at h1;exact h1.elim
  |err c=>rw[ex] at h1;cases x <;> cases ex
  | ok xs=>
   cases ey:eF y with
   |bad=>rw[ex,R.bB,ey] at h1;exact h1.elim
   |err c=>cases y <;> cases ey
   | ok ys=>
    rw[ex,R.bB,ey,R.bB] at h1;obtain⟨t1,a1,rfl,c1⟩:=yx w1 ex;obtain⟨t2,a2,rfl,c2⟩:=yx w2 ey;obtain⟨vs1,k1,_⟩:=c1.ex;obtain⟨vs2,k2,_⟩:=c2.ex;exact⟨t1,a1,t2,a2,rfl,⟨vs1,k1⟩,⟨vs2,k2⟩,fin h1 (YR.zip2 c1 c2)⟩
 ·exact h1.elim
end
section
variable{X:Cx}{pins:List (aed×Obj)}{σ:St}{H:Hp}{s:aeg}{A':aeF}{E:aef->aeg->Prop}
theorem XF{TI TO:aed}{xs1 xs2 Nm:List V}{x1 x2 x3:V}(I:Inv X pins σ H s)(fz:FpOk X pins H z)(fO:FpOk X pins H TO)(f1:FpOk X pins H i1)(f2:FpOk X pins H i2)(f3:FpOk X pins H i3)
  (QM:TI≠z)(wM:TO≠z)(QS:TI≠TO)(Bb:i1≠z)(Cg:i2≠z)(Gj:i3≠z)(XH:TI≠i1)(XJ:TI≠i2)(XM:TI≠i3)(Jm:TO≠i1)(Gk:TO≠i2)(Gm:TO≠i3)(n12:i1≠i2)(n13:i1≠i3)(n23:i2≠i3)
  (st:Z3 s.heap z TI TO i1 i2 i3 t1 t2 t3 l1 l2 l3 k)(q1:Sq t1 X.K H l1 xs1)(q2:Sq t2 X.K H l2 xs2)(q3:Sq t3 X.K H l3 Nm)(e1:xs1[k]?=some x1)(e2:xs2[k]?=some x2)(e3:Nm[k]?=some x3)
  (hQ:∀h',Inv X pins σ (upd H s.heap.objs.size (.tup [x1,x2,x3])) {s with heap:=h'}->agK h' z TI TO (ae8 s.heap.objs.size)->iW h' TI #[.ref i1,.ref i2,.ref i3]->(∃a b c,iW h' TO #[a,b,c])->
   jZ t1 h' i1 l1 (k+1)->jZ t2 h' i2 l2 (k+1)->jZ t3 h' i3 l3 (k+1)->Q (.ref s.heap.objs.size) {s with heap:=h'}):
  aen (model X.prog X.w) A' (afH.«zip.__next__» ⟨[.ref z],[]⟩) (λfin s'=>∃v,fin= .done (.ret v)/\Q v s') E s:=by
 obtain⟨hz,hTI,⟨a1,a2,a3,hTO⟩,h1,h2,h3⟩:=st;show aen _ _ (field (.ref z) 2 >>=_) _ _ _;refine aec (aeI hz rfl (x:= .bool false) rfl ?_);show aen _ _ (field (.ref z) 3 >>=_) _ _ _;refine aec (aeI hz rfl (x:= .ref TI) rfl ?_);refine aec (aeX hTI rfl ?_);show aen _ _ (aeM (.ref z) >>=_) _ _ _;refine aec ?_;unfold aeM;refine aec (aeI hz rfl (x:= .none) rfl (aej ?_));simp only[if_true];refine aec (agi (aec (aeI hz rfl (x:= .ref TO) rfl ?_)));refine aec (aeV hz (by simp) λc0 z0 b0=>?_)
 replace z0:agK c0 z TI TO .ellipsis:=z0
 have J0:=I.fp fz b0;refine aec ?_;simp only[ahO,ah2,ags,aib];obtain⟨us1,r1,p1⟩:=J0.sq q1;obtain⟨u1,hu1,ru1⟩:=r1.get e1;refine aec (aec (afU ?_));show aen _ _ (aeD (.ref i1) >>=_) _ _ _;refine aec (tY (h1.of λo e=>(b0.extBut _ _ Bb e)) p1 (v:=u1) (by simpa using hu1) λd1 sd1 wN=>aej ?_);have Jd1:=J0.fp f1 wN;have od1:iW d1 TO #[a1,a2,a3]:=wN.extBut _ _ Jm (b0.extBut _ _ wM hTO);refine aec (aeX od1 rfl (aec (rM od1 λc1 o1 yC=>aec (afJ (aej ?_)))))
 replace o1:iW c1 TO #[u1,a2,a3]:=o1
 have J1:=Jd1.fp fO yC;obtain⟨us2,r2,p2⟩:=J1.sq q2;obtain⟨u2,hu2,ru2⟩:=r2.get e2;refine aec (aec (afU ?_));show aen _ _ (aeD (.ref i2) >>=_) _ _ _;refine aec (tY (h2.of λo e=>(yC.extBut _ _ (aeo Gk) (wN.extBut _ _ (aeo n12) (b0.extBut _ _ Cg e)))) p2 (v:=u2) (by simpa using hu2) λd2 sd2 Bc=>aej ?_);have Jd2:=J1.fp f2 Bc;have od2:iW d2 TO #[u1,a2,a3]:=Bc.extBut _ _ Gk o1;refine aec (aeX od2 rfl (aec (rM od2 λc2 o2 Ci=>aec (afJ (aej ?_)))))
 replace o2:iW c2 TO #[u1,u2,a3]:=o2
 have J2:=Jd2.fp fO Ci;obtain⟨us3,r3,p3⟩:=J2.sq q3;obtain⟨u3,hu3,ru3⟩:=r3.get e3;refine aec (aec (afU ?_));show aen _ _ (aeD (.ref i3) >>=_) _ _ _;refine aec (tY (h3.of λo e=>(Ci.extBut _ _ (aeo Gm) (Bc.extBut _ _ (aeo n23) (yC.extBut _ _ (aeo Gm) (wN.extBut _ _ (aeo n13) (b0.extBut _ _ Gj e)))))) p3 (v:=u3) (by simpa using hu3) λd3 sd3 QT=>aej ?_);have Jd3:=J2.fp f3 QT;have od3:iW d3 TO #[u1,u2,a3]:=QT.extBut _ _ Gm o2;refine aec (aeX od3 rfl (aec (rM od3 λc3 o3 QV=>aec (afJ (aej (aej ?_))))))
 replace o3:iW c3 TO #[u1,u2,u3]:=o3
 have J3:=Jd3.fp fO QV;refine aec (aeX o3 rfl (aec (aia ?_)));have sz:c3.objs.size=s.heap.objs.size:=by rw[QV.1,QT.1,Ci.1,Bc.1,yC.1,wN.1,b0.1]
 have J7:Inv X pins σ (upd H c3.objs.size (.tup [x1,x2,x3])) {s with heap:=c3.push {cls:= .type "tuple",data:= .seq #[u1,u2,u3]}}:=
  J3.laid (t':=s.toks) (λb u e=>z1a _ e) (z0g _) ⟨ZG,[u1,u2,u3],.cons ru1 (.cons ru2 (.cons ru3 .nil)),⟨_,z1f _ rfl,rfl,rfl,_,rfl⟩⟩
 have zc:agK c3 z TI TO .ellipsis:=(QV.extBut _ _ (aeo wM) (QT.extBut _ _ (aeo Gj) (Ci.extBut _ _ (aeo wM) (Bc.extBut _ _ (aeo Cg) (yC.extBut _ _ (aeo wM) (wN.extBut _ _ (aeo Bb) z0))))));have lt:∀{b o},c3.get? b=some o->b≠c3.objs.size:=λe=>aeN (z2c e);show aen _ _ (afe (.ref z) (.ref c3.objs.size) >>=_) _ _ _;refine aec ?_;unfold afe;refine aec (aeV (z1a _ zc) (by simp) λg7 z7 b7=>?_)
 replace z7:agK g7 z TI TO (ae8 c3.objs.size):=z7
 have J8:=J7.fp (fz.upd (lt zc)) b7;refine aeV z7 (by simp) λg8 z8 b8=>?_
 replace z8:agK g8 z TI TO (ae8 c3.objs.size):=z8
 have J9:=J8.fp (fz.upd (lt zc)) b8;have up:∀b o,b≠z->c3.get? b=some o->g8.get? b=some o:=λb o nb e=>b8.extBut _ _ nb (b7.extBut _ _ nb (z1a _ e));refine aej ⟨_,rfl,?_⟩;rw[sz] at J9 z8;show Q (.ref c3.objs.size) _;rw[sz];refine hQ g8 J9 z8 (up _ _ QM (QV.extBut _ _ QS (QT.extBut _ _ XM (Ci.extBut _ _ QS (Bc.extBut _ _ XJ (yC.extBut _ _ QS (wN.extBut _ _ XH (b0.extBut _ _ QM hTI)))))))) ⟨u1,u2,u3,up _ _ wM o3⟩ ?_ ?_ ?_
 ·exact sd1.of λo e=>up _ _ Bb (QV.extBut _ _ (aeo Jm) (QT.extBut _ _ n13 (Ci.extBut _ _ (aeo Jm) (Bc.extBut _ _ n12 (yC.extBut _ _ (aeo Jm) e)))))
 ·exact sd2.of λo e=>up _ _ Cg (QV.extBut _ _ (aeo Gk) (QT.extBut _ _ n23 (Ci.extBut _ _ (aeo Gk) e)))
 ·exact sd3.of λo e=>up _ _ Gj (QV.extBut _ _ (aeo Gm) e)
theorem ZL{TI TO:aed}{xs1 xs2 Nm:List V}{Q:Fin->aeg->Prop}(hh:A'.handled=none)(I:Inv X pins σ H s)(fz:FpOk X pins H z)(fO:FpOk X pins H TO)(f1:FpOk X pins H i1)(f2:FpOk X pins H i2)(f3:FpOk X pins H i3)
  (QM:TI≠z)(wM:TO≠z)(QS:TI≠TO)(Bb:i1≠z)(Cg:i2≠z)(Gj:i3≠z)(XH:TI≠i1)(XJ:TI≠i2)(XM:TI≠i3)(Jm:TO≠i1)(Gk:TO≠i2)(Gm:TO≠i3)(n12:i1≠i2)(n13:i1≠i3)(n23:i2≠i3)
  (st:Z3 s.heap z TI TO i1 i2 i3 t1 t2 t3 l1 l2 l3 k)(q1:Sq t1 X.K H l1 xs1)(q2:Sq t2 X.K H l2 xs2)(q3:Sq t3 X.K H l3 Nm)(en:xs1.length<=k\/xs2.length<=k\/Nm.length<=k)
  (hE:∀h' e,Inv X pins σ H {s with heap:=h'}->(∃o,h'.get? e=some o/\o.cls= .type "StopIteration")->E (.ref e) {s with heap:=h'}):
  aen (model X.prog X.w) A' (afH.«zip.__next__» ⟨[.ref z],[]⟩) Q E s:=by
 obtain⟨hz,hTI,⟨a1,a2,a3,hTO⟩,h1,h2,h3⟩:=st;show aen _ _ (field (.ref z) 2 >>=_) _ _ _;refine aec (aeI hz rfl (x:= .bool false) rfl ?_);show aen _ _ (field (.ref z) 3 >>=_) _ _ _;refine aec (aeI hz rfl (x:= .ref TI) rfl ?_);refine aec (aeX hTI rfl ?_);show aen _ _ (aeM (.ref z) >>=_) _ _ _;refine aec ?_;unfold aeM;refine aec (aeI hz rfl (x:= .none) rfl (aej ?_));simp only[if_true];refine aec (agi (aec (aeI hz rfl (x:= .ref TO) rfl ?_)));refine aec (aeV hz (by simp) λc0 z0 b0=>?_)
 replace z0:agK c0 z TI TO .ellipsis:=z0
 have J0:=I.fp fz b0;refine aec ?_;simp only[ahO,ah2,ags,aib];have leave:∀{g g':aes} {e:aed} {c:aed},Inv X pins σ H {s with heap:=g}->agK g z TI TO .ellipsis->FpOk X pins H c->c≠z->aii c g g'->(∃o,g'.get? e=some o/\o.cls= .type "StopIteration")->
   aen (model X.prog X.w) A' (setField (.ref z) 0 .none) (λ_ s'=>E (.ref e) s') E {s with heap:=g'}:=λ{g g' e c} Ig zg fc nc eb ⟨oe,hoe,hce⟩=>by
  have Xx:agK g' z TI TO .ellipsis:=eb _ _ (aeo nc) zg;have hez:e≠z:=λq=>by subst q;rw[Xx] at hoe;cases hoe;simp at hce
  have Ig':Inv X pins σ H {s with heap:=g'}:=Ig.fpE fc eb;exact aeV Xx (by simp) λg'' _ b''=>hE g'' e (Ig'.fp fz b'') ⟨oe,b''.extBut _ _ hez hoe,hce⟩
 obtain⟨us1,r1,p1⟩:=J0.sq q1;refine aec (aec (afU ?_));show aen _ _ (aeD (.ref i1) >>=_) _ _ _;have h1':=h1.of (h':=c0) λo e=>(b0.extBut _ _ Bb e);by_cases hx1:xs1.length<=k
 ·exact aec (qD hh h1' p1 (by have:=r1.length;simp;omega) λg e eb ex=>leave J0 z0 f1 Bb eb ex)
 ·obtain⟨u1,hu1,ru1⟩:=r1.get (i:=k) (x:=xs1[k]'(by omega)) (aeQ (by omega));refine aec (tY h1' p1 (v:=u1) (by simpa using hu1) λd1 sd1 wN=>aej ?_);have Jd1:=J0.fp f1 wN;have od1:iW d1 TO #[a1,a2,a3]:=wN.extBut _ _ Jm (b0.extBut _ _ wM hTO);refine aec (aeX od1 rfl (aec (rM od1 λc1 o1 yC=>aec (afJ (aej ?_)))))
  replace o1:iW c1 TO #[u1,a2,a3]:=o1
  have J1:=Jd1.fp fO yC;obtain⟨us2,r2,p2⟩:=J1.sq q2;refine aec (aec (afU ?_));show aen _ _ (aeD (.ref i2) >>=_) _ _ _;have h2':=h2.of (h':=c1) λo e=>(yC.extBut _ _ (aeo Gk) (wN.extBut _ _ (aeo n12) (b0.extBut _ _ Cg e)));by_cases hx2:xs2.length<=k
  ·exact aec (qD hh h2' p2 (by have:=r2.length;simp;omega) λg e eb ex=>leave J1 (yC.extBut _ _ (aeo wM) (wN.extBut _ _ (aeo Bb) z0)) f2 Cg eb ex)
  ·obtain⟨u2,hu2,ru2⟩:=r2.get (i:=k) (x:=xs2[k]'(by omega)) (aeQ (by omega));refine aec (tY h2' p2 (v:=u2) (by simpa using hu2) λd2 sd2 Bc=>aej ?_);have Jd2:=J1.fp f2 Bc;have od2:iW d2 TO #[u1,a2,a3]:=Bc.extBut _ _ Gk o1;refine aec (aeX od2 rfl (aec (rM od2 λc2 o2 Ci=>aec (afJ (aej ?_)))))
   replace o2:iW c2 TO #[u1,u2,a3]:=o2
   have J2:=Jd2.fp fO Ci;obtain⟨us3,r3,p3⟩:=J2.sq q3;refine aec (aec (afU ?_));show aen _ _ (aeD (.ref i3) >>=_) _ _ _;have h3':=h3.of (h':=c2) λo e=>(Ci.extBut _ _ (aeo Gm) (Bc.extBut _ _ (aeo n23) (yC.extBut _ _ (aeo Gm) (wN.extBut _ _ (aeo n13) (b0.extBut _ _ Gj e)))));have hy3:Nm.length<=k:=by omega
   exact aec (qD hh h3' p3 (by have:=r3.length;simp;omega) λg e eb ex=>leave J2 (Ci.extBut _ _ (aeo wM) (Bc.extBut _ _ (aeo Cg) (yC.extBut _ _ (aeo wM) (wN.extBut _ _ (aeo Bb) z0)))) f3 Gj eb ex)
end
theorem XQ{kk}{TI TO:aed}
  (QM:TI≠z)(wM:TO≠z)(QS:TI≠TO)(Bb:i1≠z)(Cg:i2≠z)(Gj:i3≠z)(XH:TI≠i1)(XJ:TI≠i2)(XM:TI≠i3)(Jm:TO≠i1)(Gk:TO≠i2)(Gm:TO≠i3)(n12:i1≠i2)(n13:i1≠i3)(n23:i2≠i3):
  Turn P w K (.Tuple wK kk pp) (ZF K t1 l1 t2 l2 t3 l3) [z,TI,TO,i1,i2,i3] z (λi h=>Z3 h z TI TO i1 i2 i3 t1 t2 t3 l1 l2 l3 i) where
 mem:=by simp
 obj:=λi h st b hb=>by
  obtain⟨hz,hTI,⟨x,y,v,hTO⟩,h1,h2,h3⟩:=st;simp only[aev,aeU,or_false] at hb;rcases hb with rfl |rfl |rfl |rfl |rfl |rfl
  ·exact⟨_,hz,λv q=>by have q':aif _=ag4 v:=q;cases q'⟩
  ·exact⟨_,hTI,λv q=>by have q':aiQ _=ag4 v:=q;cases q'⟩
  ·exact⟨_,hTO,λv q=>by have q':aiQ _=ag4 v:=q;cases q'⟩
  ·exact h1.obj
  ·exact h2.obj
  ·exact h3.obj
 keep:=λi h h' st k=>by
  obtain⟨hz,hTI,⟨x,y,v,hTO⟩,h1,h2,h3⟩:=st;exact⟨k _ (by simp) _ hz,k _ (by simp) _ hTI,⟨x,y,v,k _ (by simp) _ hTO⟩,h1.of λo e=>k _ (by simp) o e,h2.of λo e=>k _ (by simp) o e,h3.of λo e=>k _ (by simp) o e⟩
 item :=by
  intro X hP hw hK hc i pins s σ H E I hf st hg;subst hP hw hK;obtain⟨xs1,xs2,Nm,x1,x2,x3,q1,e1,q2,e2,q3,e3⟩:=hg;have hT:s.TypeIs (.ref z) "zip" :=⟨_,st.z,rfl⟩;unfold pyNext;refine aec (agv (afb (name:=afS "__next__") hT F.slot_zip_next (afn F.slot_zip_next hT F.entry_zip_next
   (XF I (hf z (by simp)) (hf TO (by simp)) (hf i1 (by simp)) (hf i2 (by simp)) (hf i3 (by simp)) QM wM QS Bb Cg Gj XH XJ XM Jm Gk Gm n12 n13 n23 st q1 q2 q3 e1 e2 e3 λh' I' z' ti' QL s1' s2' s3'=>aej ⟨_,rfl,?_⟩) (F.args_zip_next_1 _))))
  have hp:H s.heap.objs.size=none:=I.hok.fresh (z0g _);have nz:∀b,b∈[z,TI,TO,i1,i2,i3]->b≠s.heap.objs.size:=λb hb q=>by
   obtain⟨o,e,_⟩:∃o,s.heap.get? b=some o/\True:=by
    obtain⟨hz,hTI,⟨x,y,v,hTO⟩,h1,h2,h3⟩:=st;simp only[aev,aeU,or_false] at hb;rcases hb with rfl |rfl |rfl |rfl |rfl |rfl
    ·exact⟨_,hz,trivial⟩
    ·exact⟨_,hTI,trivial⟩
    ·exact⟨_,hTO,trivial⟩
    ·obtain⟨o,e,_⟩:=h1.obj;exact⟨o,e,trivial⟩
    ·obtain⟨o,e,_⟩:=h2.obj;exact⟨o,e,trivial⟩
    ·obtain⟨o,e,_⟩:=h3.obj;exact⟨o,e,trivial⟩
   exact absurd (z2c e) (by rw[q];exact afj _)
  refine wpAny_letOwnedTupleGo_zip z' λh'' z'' b''=>⟨.ref s.heap.objs.size,upd H s.heap.objs.size (.tup [x1,x2,x3]),I'.fp ((hf z (by simp)).upd (nz z (by simp))) b'',rfl,⟨_,x1,x2,x3,hp,rfl,rfl,λxs' q=>by rw[I.yw q q1];exact e1,λxs' q=>by rw[I.yw q q2];exact e2,λxs' q=>by rw[I.yw q q3];exact e3⟩,?_,λb hb=>?_⟩
  ·obtain⟨a,b,c,QL⟩:=QL;exact⟨z'',b''.extBut _ _ QM ti',⟨a,b,c,b''.extBut _ _ wM QL⟩,s1'.of λo e=>b''.extBut _ _ Bb e,s2'.of λo e=>b''.extBut _ _ Cg e,s3'.of λo e=>b''.extBut _ _ Gj e⟩
  ·rw[upd_ne (nz b hb)];exact (hf b hb).1
 done:=by
  intro X hP hw hK hc i pins s σ H E I hf st hg;subst hP hw hK;obtain⟨xs1,xs2,Nm,q1,q2,q3,en⟩:=hg;have hT:s.TypeIs (.ref z) "zip" :=⟨_,st.z,rfl⟩;unfold pyNext;refine aec (agv (afb (name:=afS "__next__") hT F.slot_zip_next (afn F.slot_zip_next hT F.entry_zip_next
   (ZL (I.ok.hd hc) I (hf z (by simp)) (hf TO (by simp)) (hf i1 (by simp)) (hf i2 (by simp)) (hf i3 (by simp)) QM wM QS Bb Cg Gj XH XJ XM Jm Gk Gm n12 n13 n23 st q1 q2 q3 en λh' e I' ex=>?_) (F.args_zip_next_1 _))))
  obtain⟨o,ho,ec⟩:=ex;exact aec (ahP (T:= "StopIteration") (b:=true) ⟨o,ho,ec⟩ isSubtype_stop (aej ⟨rfl,I'⟩))
 self:=λ_ _ _ _ _ st h=>ahQ st.z h
theorem Lx(a b c:aef):checkTypeCall "zip" ⟨[a,b,c],[]⟩=pure ():=by kernel_rfl
theorem O8(a b c:aef):aiW "zip.__new__" ⟨[.type "zip",a,b,c],[]⟩=pure ():=by kernel_rfl
theorem abb(a b c d:aef):argsOk "object.__init__" ⟨[a,b,c,d],[]⟩:=by
 unfold argsOk;rw[signature?_of (id:= "object.__init__") (n:=['_','_','t','i','n','i','_','_']) (o:=['t','c','e','j','b','o']) (by kernel_rfl) F.owner_object];kernel_rfl
abbrev XR(h:aes)(t1:Bool)(l1:aed):aes:=h.push (itR t1 l1)
abbrev XS(h:aes)(t1:Bool)(l1:aed)(t2:Bool)(l2:aed):aes:=(XR h t1 l1).push (itR t2 l2)
abbrev zB3(h:aes)(t1:Bool)(l1:aed)(t2:Bool)(l2:aed)(t3:Bool)(l3:aed):aes:=(XS h t1 l1 t2 l2).push (itR t3 l3)
abbrev zB4(h:aes)(t1:Bool)(l1:aed)(t2:Bool)(l2:aed)(t3:Bool)(l3:aed):aes:=(zB3 h t1 l1 t2 l2 t3 l3).push {cls:= .type "tuple",data:= .seq #[.ref h.objs.size,.ref (XR h t1 l1).objs.size,.ref (XS h t1 l1 t2 l2).objs.size]}
abbrev zB5(h:aes)(t1:Bool)(l1:aed)(t2:Bool)(l2:aed)(t3:Bool)(l3:aed):aes:=(zB4 h t1 l1 t2 l2 t3 l3).push {cls:= .type "tuple",data:= .seq #[.none,.none,.none]}
abbrev QW(h:aes)(t1:Bool)(l1:aed)(t2:Bool)(l2:aed)(t3:Bool)(l3:aed):aes:=(zB5 h t1 l1 t2 l2 t3 l3).push {cls:= .type "zip",data:= .fields #[.none,.bool false,.bool false,.ref (zB3 h t1 l1 t2 l2 t3 l3).objs.size,.ref (zB4 h t1 l1 t2 l2 t3 l3).objs.size]}
theorem VD(t1:Bool)(l1:aed)(t2:Bool)(l2:aed)(t3:Bool)(l3:aed)(xs ys zs:Array aef):Meets (afH.«zip.__new__» ⟨[.type "zip",.ref l1,.ref l2,.ref l3],[]⟩)
  (λ_ R s=>j5 t1 s.heap l1 xs/\j5 t2 s.heap l2 ys/\j5 t3 s.heap l3 zs/\R (.ok (.ret (.ref (zB5 s.heap t1 l1 t2 l2 t3 l3).objs.size))) {s with heap:=QW s.heap t1 l1 t2 l2 t3 l3}):=
 .of_wp λprog w A R s h=>by
  obtain⟨hp,g,d,tk,os⟩:=s;obtain⟨k1,k2,k3,h⟩:=h;have hsub:=sub_zip;have L1:j5 t1 (ahK ⟨hp,g,d,tk,os⟩) l1 xs:=k1;have L2:j5 t2 (ahK ⟨XR hp t1 l1,g,d,tk,os⟩) l2 ys:=k2.of λo e=>z1a _ e;have L3:j5 t3 (ahK ⟨XS hp t1 l1 t2 l2,g,d,tk,os⟩) l3 zs:=k3.of λo e=>z1a _ (z1a _ e)
  wp_walk using wL L1,wL L2,wL L3
  exact⟨_,rfl,h⟩
section
variable{prog:aew}{w:aey}{A:aeF}{E:aef->aeg->Prop}{s:aeg}
theorem X3{ys zs:Array aef}(k1:j5 t1 s.heap l1 xs)(k2:j5 t2 s.heap l2 ys)(k3:j5 t3 s.heap l3 zs)
  (h:∀h',Z3 h' (s.heap.objs.size+5) (s.heap.objs.size+3) (s.heap.objs.size+4) s.heap.objs.size (s.heap.objs.size+1) (s.heap.objs.size+2) t1 t2 t3 l1 l2 l3 0->(∀c o,s.heap.get? c=some o->h'.get? c=some o)->Q (.ref (s.heap.objs.size+5)) {s with heap:=h'}):
  aen (model prog w) A (call (.type "zip") [.ref l1,.ref l2,.ref l3]) Q E s:=by
 refine callType_new F.called_zip (by decide) (Lx _ _ _) (O8 _ _ _) (λobj=>abb obj _ _ _) F.entry_zip_new (VD t1 l1 t2 l2 t3 l3 xs ys zs) ⟨k1,k2,k3,?_⟩;have z1:(XR s.heap t1 l1).objs.size=s.heap.objs.size+1:=aeW ..;have z2:(XS s.heap t1 l1 t2 l2).objs.size=s.heap.objs.size+2:=by rw[aeW,z1]
 have z3:(zB3 s.heap t1 l1 t2 l2 t3 l3).objs.size=s.heap.objs.size+3:=by rw[aeW,z2]
 have z4:(zB4 s.heap t1 l1 t2 l2 t3 l3).objs.size=s.heap.objs.size+4:=by rw[aeW,z3]
 have z5:(zB5 s.heap t1 l1 t2 l2 t3 l3).objs.size=s.heap.objs.size+5:=by rw[aeW,z4]
 have a6:(QW s.heap t1 l1 t2 l2 t3 l3).get? (zB5 s.heap t1 l1 t2 l2 t3 l3).objs.size=some _:=z1f _ rfl;have a5:(QW s.heap t1 l1 t2 l2 t3 l3).get? (zB4 s.heap t1 l1 t2 l2 t3 l3).objs.size=some _:=z1a _ (z1f _ rfl);have a4:(QW s.heap t1 l1 t2 l2 t3 l3).get? (zB3 s.heap t1 l1 t2 l2 t3 l3).objs.size=some _:=z1a _ (z1a _ (z1f _ rfl));have a3:(QW s.heap t1 l1 t2 l2 t3 l3).get? (XS s.heap t1 l1 t2 l2).objs.size=some (itR t3 l3):=z1a _ (z1a _ (z1a _ (z1f _ rfl)));have a2:(QW s.heap t1 l1 t2 l2 t3 l3).get? (XR s.heap t1 l1).objs.size=some (itR t2 l2):=z1a _ (z1a _ (z1a _ (z1a _ (z1f _ rfl))));have a1:(QW s.heap t1 l1 t2 l2 t3 l3).get? s.heap.objs.size=some (itR t1 l1):=z1a _ (z1a _ (z1a _ (z1a _ (z1a _ (z1f _ rfl)))));show _/\_;rw[z3,z4,z5] at a6;rw[z4] at a5;rw[z1,z2,z3] at a4;rw[z2] at a3;rw[z1] at a2;rw[z5];exact⟨⟨_,a6,rfl⟩,h _ ⟨a6,a4,⟨_,_,_,a5⟩,.new a1,.new a2,.new a3⟩ λc o e=>z1a _ (z1a _ (z1a _ (z1a _ (z1a _ (z1a _ e)))))⟩
end
section
variable{X:Cx}{wK:List aer}{kk:Nat}{pp:Pos}{a b c:aer}{p pos:Pos}
def ac9(K:aeh)(ta:TA):TI:=λσ H R=>ta σ H λvs H1=>∃t1 l1 t2 l2 t3 l3,vs=[.ref l1,.ref l2,.ref l3]/\(∃xs,Sq t1 K H1 l1 xs)/\(∃ys,Sq t2 K H1 l2 ys)/\(∃zs,Sq t3 K H1 l3 zs)/\R (ZF K t1 l1 t2 l2 t3 l3) H1
theorem abd (hg:Gl X "zip") (hm:X.mg "zip" =none) (ha:PA X [a,b,c] ta) (he:starEach [a,b,c] X.env=(false,eval a X.env)::starEach [b,c] X.env:=by rfl) (hpl:(backTo pos (starEach [b,c] X.env)).any (·.1)=false:=by rfl):
    PI X (.Tuple wK kk pp) (.Call (.Name "zip" p) [a,b,c] [] pos) (ac9 X.K ta):=by
  intro pins s σ H R I h
  refine Call_ (ld_blt I hg hm XD (ae6 (thn (ha pos pins s σ H _ I h) fun us s1 ⟨vs,H1,I1,r1,q1⟩=>?_) he hpl))
  obtain⟨t1,l1,t2,l2,t3,l3,e,⟨xs,w1⟩,⟨ys,w2⟩,⟨zs,w3⟩,q⟩:=q1
  subst e
  cases r1 with
  | cons r rr=>
    cases rr with
    | cons r' rr=>
      cases rr with
      | cons r'' rr=>
        cases rr
        cases r
        cases r'
        cases r''
        obtain⟨vs1,_,p1⟩:=I1.sq w1
        obtain⟨vs2,_,p2⟩:=I1.sq w2
        obtain⟨vs3,_,p3⟩:=I1.sq w3
        refine X3 p1 p2 p3 fun h' st k=>ahQ st.z ⟨s1.heap.objs.size+5,[s1.heap.objs.size+5,s1.heap.objs.size+3,s1.heap.objs.size+4,s1.heap.objs.size,s1.heap.objs.size+1,s1.heap.objs.size+2],_,_,H1,rfl,I1.kept (t':=s1.toks) k,XQ ?_ ?_ ?_ ?_ ?_ ?_ ?_ ?_ ?_ ?_ ?_ ?_ ?_ ?_ ?_,st,fun c hc=>(by
        have hle:s1.heap.objs.size≤c:=by
          simp only[aev,aeU,or_false] at hc
          rcases hc with rfl |rfl |rfl |rfl |rfl |rfl <;> first |exact ai8 _ |exact ag9 _ _
        exact I1.fpOk hle (I1.hok.fresh hle)),q⟩
        all_goals (show @Ne Nat _ _;omega)
end
section
variable{K:aeh}{O:aed->Prop}{H:Hp}
theorem aU.three{d e f:D}{xs:List V}(r:aU K O H [d,e,f] xs):∃x y z,xs=[x,y,z]/\Rep K O H d x/\Rep K O H e y/\Rep K O H f z:=by
 obtain⟨x,t,rfl,h1,h2⟩:=r.cons_inv;obtain⟨y,z,rfl,h3,h4⟩:=h2.two;exact⟨x,y,z,rfl,h1,h3,h4⟩
theorem X4{xs ys zs:List D}{d:D}(h:(Fz xs ys zs)[i]?=some d):∃x y z,xs[i]?=some x/\ys[i]?=some y/\zs[i]?=some z/\d= .tup [x,y,z]:=by
 unfold Fz at h;rw[z2b] at h;cases e:(xs.zip (ys.zip zs))[i]? with
 |none=>rw[e] at h;cases h
 | some p=>
  rw[e] at h;cases h;obtain⟨h1,h2⟩:=ahw.mp e;obtain⟨h3,h4⟩:=ahw.mp h2;exact⟨_,_,_,h1,h3,h4,rfl⟩
theorem YR.Ce{a1 a2 a3:aed}{xs ys zs:List D}(s1:Src K O H t1 a1 xs)(s2:Src K O H t2 a2 ys)(s3:Src K O H t3 a3 zs):YR K O H (ZF K t1 a1 t2 a2 t3 a3) (Fz xs ys zs):=by
 intro O' H' q i;obtain⟨v1,q1,r1⟩:=s1.go q;obtain⟨v2,q2,r2⟩:=s2.go q;obtain⟨v3,q3,r3⟩:=s3.go q;refine⟨λd e=>?_,λe=>⟨v1,v2,v3,q1,q2,q3,?_⟩⟩
 ·obtain⟨x,y,z,e1,e2,e3,rfl⟩:=X4 e;obtain⟨u1,g1,w1⟩:=r1.get e1;obtain⟨u2,g2,w2⟩:=r2.get e2;obtain⟨u3,g3,w3⟩:=r3.get e3;refine⟨⟨v1,v2,v3,u1,u2,u3,q1,g1,q2,g2,q3,g3⟩,λx H2 y=>?_⟩;obtain⟨p,x1,x2,x3,hp,rfl,rfl,k1,k2,k3⟩:=y;have k1:=k1 _ q1;have k2:=k2 _ q2;have k3:=k3 _ q3;rw[g1] at k1;cases k1;rw[g2] at k2;cases k2;rw[g3] at k3;cases k3;exact⟨Same.upd hp,iK (SqT.of upd_same) ((aU.cons w1 (.cons w2 (.cons w3 .nil))).same (Same.upd hp))⟩
 ·rw[<-r1.length,<-r2.length,<-r3.length];simp only[Fz,z1g,List.length_zip] at e;omega
end
section
variable{X:Cx}{wK:List aer}{kk:Nat}{pp:Pos}{a b c:aer}{p pos:Pos}{fa:aB->R (List D)}
theorem qY{x:D}{c:Str}(h:eF x= .err c):False:=by cases x <;> cases h
theorem abe(hg:Gl X "zip")(hm:X.mg "zip" =none)(ha:DA X [a,b,c] fa)(he:aei [a,b,c] X.env=(false,eval a X.env)::aei [b,c] X.env:=by rfl)(hpl:(ae7 pos (aei [b,c] X.env)).any (·.1)=false:=by rfl):
  DI X (.Tuple wK kk pp) (.Call (.Name "zip" p) [a,b,c] [] pos) (λρ=>(fa ρ).bind Ce):=by
 refine PI.imp (abd hg hm ha he hpl) λσ H Q q=>?_;obtain⟨ρ,O,j,q⟩:=q;refine go j q λds vs H1 e1 s1 r1 j1 h1=>?_;unfold Ce at h1;split at h1
 ·rename_i x y z;obtain⟨v1,v2,v3,rfl,w1,w2,w3⟩:=r1.three;cases ex:eF x with
  |bad=>rw[ex] at h1;exact h1.elim
  |err c=>exact (qY ex).elim
  | ok xs=>
   cases ey:eF y with
   |bad=>rw[ex,R.bB,ey] at h1;exact h1.elim
   |err c=>exact (qY ey).elim
   | ok ys=>
    cases ez:eF z with
    |bad=>rw[ex,R.bB,ey,R.bB,ez] at h1;exact h1.elim
    |err c=>exact (qY ez).elim
    | ok zs=>
     rw[ex,R.bB,ey,R.bB,ez,R.bB] at h1;obtain⟨t1,a1,rfl,c1⟩:=yx w1 ex;obtain⟨t2,a2,rfl,c2⟩:=yx w2 ey;obtain⟨t3,a3,rfl,c3⟩:=yx w3 ez;obtain⟨vs1,k1,_⟩:=c1.ex;obtain⟨vs2,k2,_⟩:=c2.ex;obtain⟨vs3,k3,_⟩:=c3.ex;exact⟨t1,a1,t2,a2,t3,a3,rfl,⟨vs1,k1⟩,⟨vs2,k2⟩,⟨vs3,k3⟩,fin h1 (YR.Ce c1 c2 c3)⟩
 ·exact h1.elim
end
section
variable{X:Cx}
theorem Ly:∀{ns:List Int} {its:List aef},Vals (ns.map V.int) its->af8 its ns
 |[],_,r=>by cases r;exact .nil
 | n::ns,_,r=>by
  cases r with
  |cons h t=>obtain⟨tk,rfl⟩:=h;exact .cons n tk (Ly t)
theorem Cj{K:aeh}{O:aed->Prop}{H:Hp}:∀{ds:List D} {ns:List Int} {vs:List V},intsOf ds=some ns->aU K O H ds vs->vs=ns.map V.int
 |[],ns,vs,e,r=>by cases e;exact r.nil_inv
 | d ::ds,ns,vs,e,r=>by
  obtain⟨x,t,rfl,h1,h2⟩:=r.cons_inv;cases d with
  | int i=>
   have e:(intsOf ds).map (i:: ·)=some ns:=e;cases q:intsOf ds with
   |none=>rw[q] at e;cases e
   |some l=>rw[q] at e;cases e;rw[h1.int,Cj q h2];rfl
  |_=>cases e
theorem vf{K:aeh}{O:aed->Prop}{H:Hp}:∀{ns:List Int},aU K O H (ns.map D.int) (ns.map V.int)
 |[]=> .nil
 |_::_=> .cons (cP _) vf
variable{pos:Pos}
end
def Ite(K:aeh)(t:Bool)(l:aed):It:=
 ⟨λi H=>∃xs x,Sq t K H l xs/\xs[i]?=some x,
  λi H v H'=>∃p x,H p=none/\v= .ref p/\H'=upd H p (.tup [.int (i:Int),x])/\∀xs,Sq t K H l xs->xs[i]?=some x,
  λi H=>∃xs,Sq t K H l xs/\xs.length<=i⟩
section
variable{X:Cx}{pins:List (aed×Obj)}{σ:St}{H:Hp}{s:aeg}{A':aeF}{E:aef->aeg->Prop}
theorem X5{e:aed}{xs:List V}{x:V}{old:aef}(I:Inv X pins σ H s)(fe:FpOk X pins H e)(fi:FpOk X pins H it)(ne:e≠it)
  (he:IsEnum s.heap e it k old)(hs:jZ t s.heap it l k)(q:Sq t X.K H l xs)(ex:xs[k]?=some x)
  (hQ:∀h' u,Inv X pins σ (upd H s.heap.objs.size (.tup [.int (k:Int),x])) {s with heap:=h',toks:=s.toks+1}->IsEnumOut h' e it ((k:Int)+1) u s.heap.objs.size->jZ t h' it l (k+1)->Q (.ref s.heap.objs.size) {s with heap:=h',toks:=s.toks+1}):
  aen (model X.prog X.w) A' (afH.«enumerate.__next__» ⟨[.ref e],[]⟩) (λfin s'=>∃v,fin= .done (.ret v)/\Q v s') E s:=by
 obtain⟨us,r1,p1⟩:=I.sq q;obtain⟨u,hu,ru⟩:=r1.get ex;obtain⟨hp,g,d,tk,os⟩:=s;show aen _ _ (field (.ref e) 2 >>=_) _ _ _;refine aec (aeI he rfl (x:= .ref it) rfl ?_);refine aec (tY hs p1 (v:=u) (by simpa using hu) λg1 s1 b1=>?_);have I1:=I.fp fi b1
 replace b1:afB it hp g1:=b1
 have e1:IsEnum g1 e it k old:=(b1.2 e ne).trans he;show aen _ _ (field (.ref e) 3 >>=_) _ _ ⟨g1,g,d,tk,os⟩;refine aec (aeI e1 rfl (x:=ae8 k) rfl ?_);show aen _ _ (field (.ref e) 4 >>=_) _ _ ⟨g1,g,d,tk,os⟩;refine aec (aeI e1 rfl (x:= .none) rfl ?_);show aen _ _ (mkInt k >>=_) _ _ ⟨g1,g,d,tk,os⟩;refine aec (wpAny_mkInt ?_);have I1':Inv X pins σ H ⟨g1,g,d,tk+1,os⟩:=Inv.tok (s:=⟨g1,g,d,tk,os⟩) I1 (tk+1);show aen _ _ (setField (.ref e) 3 (ae8 ((k:Int)+1)) >>=_) _ _ ⟨g1,g,d,tk+1,os⟩;refine aec (aeV e1 (by simp) λg2 e2 b2=>?_);have I2:=I1'.fp fe b2
 replace b2:afB e g1 g2:=b2
 replace e2:IsEnum g2 e it ((k:Int)+1) old:=e2
 show aen _ _ (setField (.ref e) 4 .none >>=_) _ _ ⟨g2,g,d,tk+1,os⟩;refine aec (aeV e2 (by simp) λg3 e3 b3=>?_);have I3:=I2.fp fe b3
 replace b3:afB e g2 g3:=b3
 replace e3:IsEnum g3 e it ((k:Int)+1) old:=e3
 show aen _ _ (newTuple [.int k tk,u] >>=_) _ _ ⟨g3,g,d,tk+1,os⟩;refine aec (aia ?_);have sz:g3.objs.size=hp.objs.size:=by rw[b3.1,b2.1,b1.1]
 have lt:e≠g3.objs.size:=aeN (z2c e3);have I4:Inv X pins σ (upd H g3.objs.size (.tup [.int (k:Int),x])) ⟨g3.push {cls:= .type "tuple",data:= .seq #[.int k tk,u]},g,d,tk+1,os⟩:=
  Inv.laid (s:=⟨g3,g,d,tk+1,os⟩) (t':=tk+1) I3 (λb u e=>z1a _ e) (z0g _) ⟨Xv,[.int k tk,u],.cons ⟨tk,rfl⟩ (.cons ru .nil),⟨_,z1f _ rfl,rfl,rfl,_,rfl⟩⟩
 have e4:IsEnum (g3.push {cls:= .type "tuple",data:= .seq #[.int k tk,u]}) e it ((k:Int)+1) old:=z1a _ e3;have s4:jZ t (g3.push {cls:= .type "tuple",data:= .seq #[.int k tk,u]}) it l (k+1):=s1.of λo z=>z1a _ (b3.extBut _ _ (aeo ne) (b2.extBut _ _ (aeo ne) z));show aen _ _ (aeM (.ref e) >>=_) _ _ ⟨g3.push {cls:= .type "tuple",data:= .seq #[.int k tk,u]},g,d,tk+1,os⟩
 generalize g3.push {cls:= .type "tuple",data:= .seq #[.int k tk,u]}=g4 at *
 refine aec ?_;unfold aeM;refine aec (aeI e4 rfl (x:= .none) rfl (aej ?_));simp only[if_true];refine aec (agi (aec (aeI e4 rfl (x:=old) rfl ?_)));refine aec (aeV e4 (by simp) λg5 e5 b5=>?_);have I5:=I4.fp (fe.upd lt) b5
 replace b5:afB e g4 g5:=b5
 replace e5:IsEnum g5 e it ((k:Int)+1) u:=e5
 show aen _ _ (afe (.ref e) (.ref g3.objs.size) >>=_) _ _ ⟨g5,g,d,tk+1,os⟩;refine aec ?_;unfold afe;refine aec (aeV e5 (by simp) λg6 e6 b6=>?_);have I6:=I5.fp (fe.upd lt) b6
 replace b6:afB e g5 g6:=b6
 replace e6:IsEnumOut g6 e it ((k:Int)+1) u g3.objs.size:=e6
 refine aeV e6 (by simp) λg7 e7 b7=>?_;have I7:=I6.fp (fe.upd lt) b7
 replace b7:afB e g6 g7:=b7
 replace e7:IsEnumOut g7 e it ((k:Int)+1) u g3.objs.size:=e7
 refine aec (afJ (aej ⟨_,rfl,?_⟩));rw[sz] at I7 e7;show Q (.ref g3.objs.size) _;rw[sz];exact hQ g7 u I7 e7 (s4.of λo z=>b7.extBut _ _ (aeo ne) (b6.extBut _ _ (aeo ne) (b5.extBut _ _ (aeo ne) z)))
end
theorem X6{kk}{e:aed}(ne:e≠it):
  Turn P w K (.Tuple wK kk pp) (Ite K t l) [e,it] e (λi h=>(∃old,IsEnum h e it i old)/\jZ t h it l i) where
 mem:=by simp
 obj:=λi h st b hb=>by
  obtain⟨⟨old,he⟩,hs⟩:=st;simp only[aev,aeU,or_false] at hb;rcases hb with rfl |rfl
  ·exact⟨_,he,λv q=>by have q':aif _=ag4 v:=q;cases q'⟩
  ·exact hs.obj
 keep:=λi h h' st k=>by
  obtain⟨⟨old,he⟩,hs⟩:=st;exact⟨⟨old,k _ (by simp) _ he⟩,hs.of λo z=>k _ (by simp) o z⟩
 item :=by
  intro X hP hw hK hc i pins s σ H E I hf st hg;subst hP hw hK;obtain⟨⟨old,he⟩,hs⟩:=st;obtain⟨xs,x,q,ex⟩:=hg;have hT:s.TypeIs (.ref e) "enumerate" :=⟨_,he,rfl⟩;have hp:H s.heap.objs.size=none:=I.hok.fresh (z0g _);have nz:∀b,b∈[e,it]->b≠s.heap.objs.size:=λb hb z=>by
   obtain⟨o,eo⟩:∃o,s.heap.get? b=some o:=by
    simp only[aev,aeU,or_false] at hb;rcases hb with rfl |rfl
    ·exact⟨_,he⟩
    ·obtain⟨o,eo,_⟩:=hs.obj;exact⟨o,eo⟩
   exact absurd (z2c eo) (by rw[z];exact afj _)
  unfold pyNext;refine aec (agv (afb (name:=afS "__next__") hT F.slot_enumerate_next (afn F.slot_enumerate_next hT F.entry_enumerate_next
   (X5 I (hf e (by simp)) (hf it (by simp)) ne he hs q ex λh' u I' e' s'=>aej ⟨_,rfl,?_⟩) (F.args_enumerate_next_1 _))))
  refine wpAny_letOwnedTupleGo_enum e' λh'' e'' b''=>⟨.ref s.heap.objs.size,upd H s.heap.objs.size (.tup [.int (i:Int),x]),I'.fp ((hf e (by simp)).upd (nz e (by simp))) b'',rfl,⟨_,x,hp,rfl,rfl,λxs' q'=>by rw[I.yw q' q];exact ex⟩,⟨⟨u,by simpa using e''⟩,s'.of λo z=>b''.extBut _ _ (aeo ne) z⟩,λb hb=>?_⟩;rw[upd_ne (nz b hb)];exact (hf b hb).1
 done:=by
  intro X hP hw hK hc i pins s σ H E I hf st hg;subst hP hw hK;obtain⟨⟨old,he⟩,hs⟩:=st;obtain⟨xs,q,en⟩:=hg;obtain⟨us,r1,p1⟩:=I.sq q;have hT:s.TypeIs (.ref e) "enumerate" :=⟨_,he,rfl⟩;unfold pyNext;refine aec (agv (afb (name:=afS "__next__") hT F.slot_enumerate_next (afn F.slot_enumerate_next hT F.entry_enumerate_next ?_ (F.args_enumerate_next_1 _))));show aen _ _ (field (.ref e) 2 >>=_) _ _ _;refine aec (aeI he rfl (x:= .ref it) rfl ?_);refine aec (qD (I.ok.hd hc) hs p1 (by have:=r1.length;simp;omega) λg1 x eb bQ=>?_);obtain⟨o,ho,ec⟩:=bQ;exact aec (ahP (T:= "StopIteration") (b:=true) ⟨o,ho,ec⟩ isSubtype_stop (aej ⟨rfl,I.fpE (hf it (by simp)) eb⟩))
 self:=λ_ _ _ _ _ st h=>by
  obtain⟨⟨old,he⟩,_⟩:=st;exact wpAny_pyIter_enum he h
theorem Tp(t:Bool)(l:aed)(xs:Array aef):Meets (afH.«enumerate.__new__» ⟨[.type "enumerate",.ref l],[]⟩)
  (λ_ R s=>j5 t s.heap l xs/\R (.ok (.ret (.ref (s.heap.push (itR t l)).objs.size))) {s with heap:=(s.heap.push (itR t l)).push {cls:= .type "enumerate",data:= .fields #[.none,.bool false,.ref s.heap.objs.size,ae8 0,.none,.none]}}):=
 .of_wp λprog w A R s h=>by
  obtain⟨hp,g,d,tk,os⟩:=s;obtain⟨k1,h⟩:=h;have hsub:=sub_enumerate;have L1:j5 t (ahK ⟨hp,g,d,tk,os⟩) l xs:=k1
  wp_walk using wL L1
  refine wpAny_stack_any λst=>aej ?_;split
  ·rename_i c _ _ _ _ _;cases (c ==aeu "enumerate") <;> (wp_walk using wL L1;exact⟨_,rfl,h⟩)
  ·wp_walk using wL L1
   exact⟨_,rfl,h⟩
section
variable{prog:aew}{w:aey}{A:aeF}{E:aef->aeg->Prop}{s:aeg}
theorem VF(k1:j5 t s.heap l xs)
  (h:∀h',IsEnum h' (s.heap.objs.size+1) s.heap.objs.size 0 .none->jZ t h' s.heap.objs.size l 0->(∀c o,s.heap.get? c=some o->h'.get? c=some o)->Q (.ref (s.heap.objs.size+1)) {s with heap:=h'}):
  aen (model prog w) A (call (.type "enumerate") [.ref l]) Q E s:=by
 refine callType_new F.called_enumerate (by decide) (F.typeCall_enumerate_1 _) (F.newCall_enumerate_1 _) (λobj=>F.args_object_init_2 obj _) F.entry_enumerate_new (Tp t l xs) ⟨k1,?_⟩;have z1:(s.heap.push (itR t l)).objs.size=s.heap.objs.size+1:=aeW ..;have a2:((s.heap.push (itR t l)).push {cls:= .type "enumerate",data:= .fields #[.none,.bool false,.ref s.heap.objs.size,ae8 0,.none,.none]}).get? (s.heap.push (itR t l)).objs.size=some _:=z1f _ rfl;show _/\_;rw[z1] at a2 |-;exact⟨⟨_,a2,rfl⟩,h _ a2 (.new (z1a _ (z1f _ rfl))) λc o e=>z1a _ (z1a _ e)⟩
end
section
variable{X:Cx}{wK:List aer}{kk:Nat}{pp:Pos}{a:aer}{p pos:Pos}{fa:aB->R (List D)}
def ada(K:aeh)(ta:TA):TI:=λσ H R=>ta σ H λvs H1=>∃t l,vs=[.ref l]/\(∃xs,Sq t K H1 l xs)/\R (Ite K t l) H1
theorem abf (hg:Gl X "enumerate") (hm:X.mg "enumerate" =none) (ha:PA X [a] ta) (he:starEach [a] X.env=(false,eval a X.env)::starEach [] X.env:=by rfl) (hpl:(backTo pos (starEach [] X.env)).any (·.1)=false:=by rfl):
    PI X (.Tuple wK kk pp) (.Call (.Name "enumerate" p) [a] [] pos) (ada X.K ta):=by
  intro pins s σ H R I h
  refine Call_ (ld_blt I hg hm boot_enumerate (ae6 (thn (ha pos pins s σ H _ I h) fun us s1 ⟨vs,H1,I1,r1,q1⟩=>?_) he hpl))
  obtain⟨t,l,e,⟨xs,w1⟩,q⟩:=q1
  subst e
  cases r1 with
  | cons r rr=>
    cases rr
    cases r
    obtain⟨vs1,_,p1⟩:=I1.sq w1
    refine VF p1 fun h' e' s' k=>wpAny_pyIter_enum e' ⟨s1.heap.objs.size+1,[s1.heap.objs.size+1,s1.heap.objs.size],_,_,H1,rfl,I1.kept (t':=s1.toks) k,X6 ?_,⟨⟨_,e'⟩,s'⟩,fun c hc=>(by
        have hle:s1.heap.objs.size≤c:=by
          simp only[aev,aeU,or_false] at hc
          rcases hc with rfl |rfl <;> first |exact ai8 _ |exact ag9 _ _
        exact I1.fpOk hle (I1.hok.fresh hle)),q⟩
    all_goals (show @Ne Nat _ _;omega)
def pA:Nat->List D->List D
 |_,[]=>[]
 |n,d::ds=> .tup [.int (n:Int),d]::pA (n+1) ds
theorem Np:∀{ds:List D} {n i:Nat} {d:D},(pA n ds)[i]?=some d->∃x,ds[i]?=some x/\d= .tup [.int ((n+i:Nat):Int),x]
 |[],_,_,_,h=>by simp[pA] at h
 |x::ds,n,0,d,h=>by simp[pA] at h;exact⟨x,rfl,by rw[<-h];rfl⟩
 | x::ds,n,i+1,d,h=>by
  rw[pA,ai2] at h;obtain⟨y,e1,e2⟩:=Np h;exact⟨y,by rw[ai2];exact e1,by rw[e2,show n+1+i=n+(i+1) by omega]⟩
theorem Nq:∀{ds:List D} {n:Nat},(pA n ds).length=ds.length
 |[],_=>rfl
 |_::ds,n=>by rw[pA,aeC,Nq,aeC]
def wO:List D->R (List D)
 |[x]=>(eF x).bind λxs=> .ok (pA 0 xs)
 |_=> .bad
theorem YR.enum{a:aed}{xs:List D}(s1:Src K O H t a xs):YR K O H (Ite K t a) (pA 0 xs):=by
 intro O' H' q i;obtain⟨v1,q1,r1⟩:=s1.go q;refine⟨λd e=>?_,λe=>⟨v1,q1,?_⟩⟩
 ·obtain⟨x,e1,rfl⟩:=Np e;obtain⟨u1,g1,w1⟩:=r1.get e1;refine⟨⟨v1,u1,q1,g1⟩,λx H2 y=>?_⟩;obtain⟨p,x1,hp,rfl,rfl,k1⟩:=y;have k1:=k1 _ q1;rw[g1] at k1;cases k1;rw[Nat.zero_add];exact⟨Same.upd hp,iK (SqT.of upd_same) ((aU.cons (cP _) (.cons w1 .nil)).same (Same.upd hp))⟩
 ·rw[<-r1.length,<-Nq (n:=0)];exact e
theorem Lz(hg:Gl X "enumerate")(hm:X.mg "enumerate" =none)(ha:DA X [a] fa)(he:aei [a] X.env=(false,eval a X.env)::aei [] X.env:=by rfl)(hpl:(ae7 pos (aei [] X.env)).any (·.1)=false:=by rfl):
  DI X (.Tuple wK kk pp) (.Call (.Name "enumerate" p) [a] [] pos) (λρ=>(fa ρ).bind wO):=by
 refine PI.imp (abf hg hm ha he hpl) λσ H Q q=>?_;obtain⟨ρ,O,j,q⟩:=q;refine go j q λds vs H1 e1 s1 r1 j1 h1=>?_;unfold wO at h1;split at h1
 ·rename_i x;obtain⟨v1,rfl,w1⟩:=r1.one;cases ex:eF x with
  |bad=>rw[ex] at h1;exact h1.elim
  |err c=>exact (qY ex).elim
  | ok xs=>
   rw[ex,R.bB] at h1;obtain⟨t1,a1,rfl,c1⟩:=yx w1 ex;obtain⟨vs1,k1,_⟩:=c1.ex;exact⟨t1,a1,rfl,⟨vs1,k1⟩,fin h1 (YR.enum c1)⟩
 ·exact h1.elim
end
section
variable{prog:aew}{w:aey}{A:aeF}{E:aef->aeg->Prop}{s:aeg}
end
section
variable{X:Cx}{a:aer}{p pos p2 pos2:Pos}{fa:aB->R (List D)}
def aco(K:aeh)(ta:TA):TE:=λσ H Q=>ta σ H λvs H1=>∃j:Int,vs=[.int j]/\0<=j/\j<=1000/\∀q,H1 q=none->Q (.ref q) (upd H1 q (.rng 0 j))
theorem acp(hg:Gl X "range")(hm:X.mg "range" =none)(ha:PA X [a] ta)(hs:aei [a] X.env=[(false,eval a X.env)]:=by rfl):PE X (.Call (.Name "range" p) [a] [] pos) (aco X.K ta):=by
 intro pins s σ H Q I h;refine Call_ (ld_blt I hg hm boot_range (ae6 (thn (ha pos pins s σ H _ I h) λus s1 ⟨vs,H1,I1,r1,q1⟩=>?_) hs rfl));obtain⟨j,e,h0,h1,q⟩:=q1;subst e;cases r1 with
 | cons r rr=>
  cases rr;obtain⟨t,rfl⟩:=r;refine call_range_1 ?_;exact⟨.ref s1.heap.objs.size,upd H1 s1.heap.objs.size (.rng 0 j),I1.laid (λb o e=>z1a _ e) (z0g _) ⟨_,_,_,z1f _ rfl⟩,rfl,q _ (I1.hok.fresh (z0g _))⟩
end
section
variable{X:Cx}{e:aer}{f:aB->R D}{pos:Pos}
def LC(i:Nat)(f:aB->R D):aB->So:=λρ=>match ρ[i]? with
 | some (some (.val (.int a)))=>lA (f ρ) ρ λd=>match d with
  | .int b=> .nx (ρ.set i (some (.val (.int (a+b)))))
  |_=> .bad
 |_=> .bad
theorem acq(i:Nat){x:Str}(hN:X.N.Nodup)(he:DE X e f)(hi:X.N[i]?=some x:=by rfl)(hx:Loc X.env.scope x:=by first |exact afo rfl |exact afa rfl)
  (hf:X.fn x=true\/X.env.scope.names.lookup x=some .local:=by first |exact .inl rfl |exact .inr rfl):DS X (.AugAssign (.Name x pos') .Add e pos) (LC i f):=by
 refine PS.imp (ps_aug hN hi hx he ip_add hf) λσ H E h=>?_;obtain⟨H0,O0,O,ρ,j,h⟩:=h;unfold LC at h;cases e1:ρ[i]? with
 |none=>simp only[e1] at h;exact h.elim
 | some oe =>
  cases oe with
  |none=>simp only[e1] at h;exact h.elim
  | some en=>
   cases en with
   |lst _=>simp only[e1] at h;exact h.elim
   |Ay _=>simp only[e1] at h;exact h.elim
   |rws _=>simp only[e1] at h;exact h.elim
   |obj _=>simp only[e1] at h;exact h.elim
   | val d=>
    cases d with
    | int a=>
     simp only[e1] at h;obtain⟨v,hv,rv⟩:=j.inn.env.get i _ e1;have rv:v= .int a:=Rep.int (K:=X.K) (O:=O) (H:=H) rv;subst rv;refine⟨.int a,hv,ρ,O,j.inn,?_⟩;unfold lA at h;cases e2:f ρ with
     |bad=>rw[e2] at h;exact h
     |err c=>rw[e2] at h;exact h σ H O j
     | ok d=>
      rw[e2] at h;intro v' H' s r;cases d with
      |int b=>exact⟨a,b,rfl,r.int,h _ H' O ((j.grow s).set (z1b hi).1 (cP _)) (Same.gq s)⟩
      |_=>exact h.elim
    |_=>simp only[e1] at h;exact h.elim
def ZM(K:aeh)(mg:Str->Option aef)(x:Str)(ss:List Str):Prop:=∃a,mg x=some (.ref a)/\∀H,SqT K H a (ss.map V.str)
theorem Nr{K:aeh}{O:aed->Prop}{H:Hp}:∀{ss:List Str},aU K O H (ss.map D.str) (ss.map V.str)
 |[]=> .nil
 |_::_=> .cons (Ld _) Nr
theorem abg{x:Str}{ss:List Str}{pos:Pos}(hg:Gl X x)(h:ZM X.K X.mg x ss)(hd:(x ==("__debug__" :Str))=false:=by decide):DE X (.Name x pos) (λ_=> .ok (.tup (ss.map D.str))):=by
 obtain⟨a,hm,hq⟩:=h;exact Le (pe_glob (v:= .ref a) hg hm rfl hd) λ_ H=>iK (hq H) Nr
end
theorem abh{mg:Str->Option aef}{x:Str}{ss:List Str}{a:aed}{its:Array aef}{sl:Array (Option aef)}(X:K.In h)(G:h.Ns ael mg)
  (y:aep K ael x=some (some (.ref a)))(l:K.lookup a=some ⟨.type "tuple",none,.seq its n,sl⟩)(hz:its.size<=sizeLine)(hv:Vals (ss.map V.str) its.toList):ZM K mg x ss:=
 ⟨a,aeK X G y,λ_=> .inr ⟨_,its,n,l,rfl,rfl,rfl,hz,hv⟩⟩
section
variable{X:Cx}
end
section
variable{X:Cx}
inductive ZP (XB:Cx) (K:aeh) (O:aed->Prop) (H2:Hp) (Dd:aed) (fp:List aed) (tn:Nat->aes->Prop) (ρ0:aB) (xs:List D) (F:D->R (Option D)) (all:List D) (n:Nat) (s':aeg):Prop
 |mk (i:Nat) (σ':St) (H':Hp) (ys:List V) (ds rest:List D) (en:n=xs.length+1 - i) (hil:i<=xs.length) (I:Inv XB [] σ' H' s') (st:tn i s'.heap) (fr:∀b∈fp,H' b=none) (j:In XB O H' ρ0 σ') (sm:Same H2 H') (hD:H' Dd=some (.lst ys)) (rp:aU K O H' ds ys) (hm:kJ F (xs.drop i)= .ok rest) (hr:ds++rest=all):ZP XB K O H2 Dd fp tn ρ0 xs F all n s'
def Tb(ts:List (aed×Str))(H:Hp):Prop:=∀p∈ts,∃(ps:Array aef) (tq:Tok),H p.1=some (.tbl ps)/\ps[0]?=some (.str p.2 tq)
theorem Tb.un{fs ex:List aed}{H':Hp}(t:Tb ts H)(u:Un fs ex H H' h h'):Tb ts H':=λp hp=>by
 obtain⟨ps,tq,e,q⟩:=t p hp;obtain⟨more,e'⟩:=u.tbls _ _ e;refine⟨_,tq,e',?_⟩;obtain⟨hl,_⟩:=afV.mp q;rw[Array.getElem?_append_left hl];exact q
theorem Nt{pos2:Pos}{fi:aB->R (List D)}{gt:D->aB->R aB}{fe:aB->R D}(ts:List Str)(caps:List Nat)
  (hc:X.calm=true)(hb:Hg X.env.scope scope ts X.N=true)(hcap:(fD scope).map (λx=>lG x X.N)=caps)
  (hi:DI X tg iter fi)(hk:rG ts.length gt)(hg:∀C s H ex,(cZ X scope ts C s H ex).N.Nodup->DG (cZ X scope ts C s H ex) tg gt){Jo:List (aed×Str)}(hT:Tb Jo X.H₀)(ht:∀C s H ex,Tb Jo H->Qv (cZ X scope ts C s H ex) ifs ft)(he:∀C s H ex,Tb Jo H->DE (cZ X scope ts C s H ex) elt fe)
  (hs:∀x,af6 iter X.env x=pure x){use:Option (aef->Sem Unit)}{Qr:aef->aeg->Prop}{s:aeg}{Q:VK}(I:Inv X pins σ H s)(j:In X O H ρ σ)
  (hQ:∀(v:V) (H':Hp) (s5:aeg) (C:aed) (m:Str->Option aef) (f:Flow) (acc:aef),Q v H'->Inv X pins σ H' s5->s5.heap.Ns C m->FpOk X pins H' C->RelV v acc->compPost (model X.prog X.w) X.A X.xe use Qr acc C (.ok f) s5)
  (h:good X (rD X) O (bJ ts.length caps fi gt ft fe ρ) σ H Q):
  aen (model X.prog X.w) X.A (comprehension (.ListComp elt [⟨tg,iter,ifs,0⟩] scope pos) scope X.env pos2 (newList []) false (eval iter X.env) use) Qr X.xe s:=by
 have B:=ac6 hb;refine wpAny_comprehension_free (cl:=iU X.env.cells scope.names []) (use:=use) rfl hs (Vs λx hx e=>?_) B.kind B.loc ?_
 ·obtain⟨n,k⟩:=x;have e:k= .free:=e;subst e;exact I.ok.has n (B.out n (uN hx))
 refine thn (hi pins s σ H (λJ H1=>∃xs,YR X.K O H1 J xs/\In X O H1 ρ σ/\good X (rD X) O ((kJ (qj gt ft fe (Fv ts.length caps ρ)) xs).bind (cap .lst)) σ H1 Q) I (Pu.go j h λxs J H1 e1 s1 y1 j1 h1=>⟨xs,y1,j1,h1⟩)) λxv s1 h1=>thn h1 λitv s2 h2=>?_;obtain⟨it,fp,tn,J,H2,e,I2,T,st2,f2,xs,yr,j2,g2⟩:=h2;have tb2:Tb Jo H2:=hT.un I2.base;subst e;rw[<-Vu hcap] at g2
 generalize eρ:pull X.N (fD scope) ts.length (ρ.map zq)=ρ0 at g2
 obtain⟨all,hall,hlen,g3⟩:∃all,kJ (qj gt ft fe ρ0) xs= .ok all/\all.length<=1000000/\good X (rD X) O (.ok (.lst all)) σ H2 Q:=by
  cases e:kJ (qj gt ft fe ρ0) xs with
  |bad=>rw[e] at g2;exact g2.elim
  |err c=>exact absurd e Jb
  | ok all=>
   rw[e] at g2;have g2:good X (rD X) O (if all.length<=1000000 then .ok (.lst all) else .bad) σ H2 Q:=g2;by_cases hl:all.length<=1000000
   ·rw[if_pos hl] at g2;exact⟨all,rfl,hl,g2⟩
   ·rw[if_neg hl] at g2;exact g2.elim
 have hlt:∀b∈fp,b<s2.heap.objs.size:=λb hb=>by
  obtain⟨o,e,_⟩:=T.obj 0 _ st2 b hb;exact z2c e
 refine afq (Xe ?_)
 generalize hC:(s2.heap.push {cls:= .type "list",dict:=none,data:= .seq ([]:List aef).toArray}).objs.size=C
 have hC':C=s2.heap.objs.size+1:=by rw[<-hC];exact aeW ..
 generalize e4:pushCells ((s2.heap.push {cls:= .type "list",dict:=none,data:= .seq ([]:List aef).toArray}).push {cls:= .type "dict",data:= .dict #[]}) scope.names=h4
 show ahi (model X.prog X.w) X.A (.compStart (.ListComp elt [⟨tg,iter,ifs,0⟩] scope pos) 0 (.ref it) (.ref s2.heap.objs.size) (ig scope X.env C)) (compPost (model X.prog X.w) X.A X.xe use Qr (.ref s2.heap.objs.size) C) {s2 with heap:=h4};have hDn:H2 s2.heap.objs.size=none:=I2.hok.fresh (z0g _);have hOn:¬O s2.heap.objs.size:=j2.uJ hDn;have hDk:X.K.lookup s2.heap.objs.size=none:=by
  cases q:X.K.lookup s2.heap.objs.size with
  |none=>rfl
  |some o=>exact absurd (z2c (I2.kIn _ _ q)) (afj _)
 have I4:=aaX (ts:=ts) I2 B f2 hlt hC' e4.symm;have sD:Same H2 (upd H2 s2.heap.objs.size (.lst [])):=Same.upd hDn;have lρ0:ρ0.length=(ts++fD scope).length:=by rw[<-eρ,zj,z1d]
 generalize eD:s2.heap.objs.size=Dd at *
 have acr:∀{H':Hp},Same H2 H'->gD X.K O H2 (λa=>O a\/a=Dd) H':=λsm=>⟨(Same.gq (K:=X.K) (O:=O) sm).ext,λa z=>z.elim .inl λe=> .inr (by rw[e];exact⟨hDn,hDk⟩),(Same.gq (K:=X.K) (O:=O) sm).dom⟩;have alO:∀{H':Hp} {ys:List V},Same H2 H'->H' Dd=some (.lst ys)->∀a,(O a\/a=Dd)->∃o,H' a=some o:=λsm e a z=>z.elim (λq=>let⟨o,h⟩:=j2.al a q;⟨o,sm _ _ h⟩) λq=>by rw[q];exact⟨_,e⟩
 have j4:In (cZ X scope ts C s2 H2 fp) (λa=>O a\/a=Dd) (upd H2 Dd (.lst [])) ρ0 (pull X.N (fD scope) ts.length σ):=by
  rw[<-eρ];exact In.go (acd B j2.vals) Nh (acr sD) (alO sD upd_same)
 have hv0:∀(i:Nat) e,ρ0[i]?=some (some e)->e.Uk=true:=by rw[<-eρ];exact Nh
 have hn0:∀i,i<ts.length->ρ0[i]?=some none:=by rw[<-eρ];exact λi h=>Xg h
 have adb:∀b o,s2.heap.get? b=some o->h4.get? b=some o:=λb o e=>by
  rw[<-e4];exact ahq _ _ b o (z1a _ (z1a _ e))
 have st4:tn 0 h4:=T.keep _ _ _ st2 λb _ o e=>adb b o e;have stat:∀{H':Hp},(∀b∈fp,H' b=none)->∀b∈fp,FpOk (cZ X scope ts C s2 H2 fp) [] H' b:=λ{H'} hn b hb=>by
  have hl: @LT.lt Nat _ b Dd:=hlt b hb;obtain⟨_,a1,a2,a3,a4,_⟩:=f2 b hb;refine⟨hn b hb,by show @Ne Nat b C;omega,λz=>?_,.inl hb,λx c h=>?_,λp hp=>absurd (show p∈([]:List (aed×Obj)) from hp) (by simp)⟩
  ·rcases aev.mp (I2.stkSub b z) with z |z
   ·exact a1 z
   ·exact a2 z
  ·rcases lH B I2.ok.has h with⟨_,q⟩ |⟨_,q⟩
   ·show @Ne Nat c b;omega
   ·exact a4 x c q
 have fr4:∀b∈fp,(upd H2 Dd (.lst [])) b=none:=λb hb=>by
  have hl: @LT.lt Nat _ b Dd:=hlt b hb;rw[upd_ne (show @Ne Nat b Dd by omega)];exact (f2 b hb).1
 have loop : ∀s0:aeg,s0={s2 with heap:=h4}->ahi (model X.prog X.w) X.A (.compLoop (.ListComp elt [⟨tg,iter,ifs,0⟩] scope pos) 0 (.ref it) (.ref Dd) (ig scope X.env C)) (compPost (model X.prog X.w) X.A X.xe use Qr (.ref Dd) C) s0:=by
  intro s0 e0;refine codeAny_loop rfl (λn s'=>ZP (cZ X scope ts C s2 H2 fp) X.K (λa=>O a\/a=Dd) H2 Dd fp tn ρ0 xs (qj gt ft fe ρ0) all n s') (λn s' hI=>?_) (xs.length+1)
   ⟨0,_,_,[],[],all,rfl,agT _,e0▸I4,e0▸st4,fr4,j4,sD,upd_same,.nil,by simpa using hall,rfl⟩
  obtain⟨i,σ',H',ys,ds,rest,rfl,hil,I',st',fr',j',sm',hD',rp',hm',hr'⟩:=hI;show aen (model X.prog X.w) X.A ((compTurn (.ListComp elt [⟨tg,iter,ifs,0⟩] scope pos) 0 (.ref it) (.ref Dd) (ig scope X.env C)).onRaise (λx=>do noteFrame x (ig scope X.env C);theTreesLotGoes x)) _ _ s';refine wpAny_noted ?_;rw[compTurn_list];have Xh:=yr _ H' (acr sm') i;refine aec (aip (aec ?_));by_cases hlt':i<xs.length
  ·-- a turn
   have ex:xs[i]?=some xs[i]:=by simp[hlt']
   have ed:xs.drop i=xs[i]::xs.drop (i+1):=aiG hlt';rw[ed] at hm';obtain⟨o,rest',k1,k2,k3⟩:=Xf hm';obtain⟨jgo,jy⟩:=Xh.1 _ ex;refine afl (T.item (cZ X scope ts C s2 H2 fp) rfl rfl rfl hc i [] s' σ' H' (λ_ _=>False) I' (stat fr') st' jgo) (λr s4 ⟨u,hr,h4'⟩=>?_) λ_ _ z=>z.elim;subst hr;refine aec (afl h4' (λ_ s5 ⟨x,H5,I5,r5,y5,st5,fr5⟩=>?_) λ_ _ z=>z.elim);obtain⟨QX,adL⟩:=jy x H5 y5;have I5':=I5.pinned (stat fr5) (T.obj _ _ st5);have k1:(gt xs[i] ρ0).bind (λρ1=>(ft ρ1).bind λb=>if b=true then (fe ρ1).bind λd=> .ok (some d) else .ok none)= .ok o:=k1;cases q1:gt xs[i] ρ0 with
   |bad=>rw[q1] at k1;cases k1
   |err c=>rw[q1] at k1;cases k1
   | ok ρ1 =>
    rw[q1] at k1;have k1:(ft ρ1).bind (λb=>if b=true then (fe ρ1).bind λd=> .ok (some d) else .ok none)= .ok o:=k1;refine aec (afl (hg C s2 H2 fp B.nd _ s5 σ' H5 x u (λσ6 H6=>H6=H5/\In (cZ X scope ts C s2 H2 fp) (λa=>O a\/a=Dd) H5 ρ1 σ6) I5' r5 ⟨ρ0,_,xs[i],ρ1,j'.same QX,adL,q1,λσ6 j6=>⟨rfl,j6⟩⟩) (λ_ s6 ⟨σ6,H6,I6,eH,j6⟩=>?_) λ_ _ z=>(show False from z).elim);subst eH;cases q2:ft ρ1 with
    |bad=>rw[q2] at k1;cases k1
    |err c=>rw[q2] at k1;cases k1
    | ok bb =>
     rw[q2] at k1;have k1:(if bb=true then (fe ρ1).bind λd=>R.ok (some d) else .ok none)= .ok o:=k1;have gtest:tG (cZ X scope ts C s2 H2 fp) rB ft σ6 H6 (λb H7=>b=bb/\Same H6 H7):=⟨ρ1,_,j6,by rw[q2];exact λb H7 s7 e7=>⟨e7.symm,s7⟩⟩;refine aec (afl (ht C s2 H2 fp tb2 _ s6 σ6 H6 _ I6 gtest) (λok s7 ⟨H7,I7,ok7,Jp⟩=>?_) λ_ _ z=>(show False from z).elim);subst ok7;have back:∀{H8:Hp} {s8:aeg} {ys':List V} {ds':List D},Inv (cZ X scope ts C s2 H2 fp) ([]++pinsAt fp s5.heap) σ6 H8 s8->Same H2 H8->In (cZ X scope ts C s2 H2 fp) (λa=>O a\/a=Dd) H8 ρ0 σ6->H8 Dd=some (.lst ys')->aU X.K (λa=>O a\/a=Dd) H8 ds' ys'->ds'++rest'=all->
       ∃m,m<xs.length+1 - i/\ZP (cZ X scope ts C s2 H2 fp) X.K (λa=>O a\/a=Dd) H2 Dd fp tn ρ0 xs (qj gt ft fe ρ0) all m s8:=by
      intro H8 s8 ys' ds' I8 Ux j8 hD8 rp8 hr8;refine⟨xs.length+1 - (i+1),by omega,i+1,σ6,H8,ys',ds',rest',rfl,by omega,I8.unpinned,T.keep _ _ _ st5 λb hb o e=>(I8.pin (b,o) (ae1 _ (ae1 _ (mem_pinsAt hb e)))).1,λb hb=>?_,j8,Ux,hD8,rp8,k2,hr8⟩;obtain⟨o,e,d⟩:=T.obj _ _ st5 b hb;exact (I8.pin (b,o) (ae1 _ (ae1 _ (mem_pinsAt hb e)))).2.1
     have j60:In (cZ X scope ts C s2 H2 fp) (λa=>O a\/a=Dd) H6 ρ0 σ6:=In.back (n:=ts.length) j6 hn0 (λk hk'=>hk _ _ _ q1 k hk') lρ0;cases ok with
     | false=>
      have k1:R.ok none=R.ok o:=k1;cases k1;refine aej ⟨rfl,?_⟩;refine back I7 (sm'.trans (QX.trans Jp)) (j60.same Jp) (Jp _ _ (QX _ _ hD')) (rp'.same (QX.trans Jp)) ?_;rw[<-hr',k3];rfl
     | true =>
      have k1:(fe ρ1).bind (λd=>R.ok (some d))= .ok o:=k1;cases q3:fe ρ1 with
      |bad=>rw[q3] at k1;cases k1
      |err c=>rw[q3] at k1;cases k1
      | ok d =>
       rw[q3] at k1;have k1:R.ok (some d)=R.ok o:=k1;cases k1;have adM:tG (cZ X scope ts C s2 H2 fp) (rD (cZ X scope ts C s2 H2 fp)) fe σ6 H7 (λv H8=>Same H7 H8/\Rep X.K (λa=>O a\/a=Dd) H8 d v):=⟨ρ1,_,j6.same Jp,by rw[q3];exact λv H8 s8 r8=>⟨s8,r8⟩⟩;refine aec (aec (afl (he C s2 H2 fp tb2 _ s7 σ6 H7 _ I7 adM) (λxv s8 ⟨v8,H8,I8,r8,Ux,adN⟩=>?_) λ_ _ z=>(show False from z).elim));have hD8:H8 Dd=some (.lst ys):=Ux _ _ (Jp _ _ (QX _ _ hD'));have rp8:aU X.K (λa=>O a\/a=Dd) H8 ds ys:=rp'.same (QX.trans (Jp.trans Ux));have hds:ds++d::rest'=all:=by rw[<-hr',k3];rfl
       have hyl:ys.length<sizeLine:=by
        have:=iH;have e1:=rp8.length;have e2:=congrArg ai9 hds;rw[z1d,aeC] at e2;omega
       refine aec (afl (mt_append (X:=cZ X scope ts C s2 H2 fp) _ s8 σ6 H8 (.ref Dd) [v8] (.ref Dd) [xv] (λ_ H9=>H9=upd H8 Dd (.lst (ys++[v8]))) I8 rfl (.cons r8 .nil) ⟨_,ys,v8,rfl,rfl,hD8,hyl,rfl⟩) (λ_ s9 ⟨_,H9,I9,_,eH9⟩=>?_) λ_ _ z=>(show False from z).elim);subst eH9;have adO:Same H2 H8:=sm'.trans (QX.trans (Jp.trans Ux));have acs:gD X.K (λa=>O a\/a=Dd) H8 (λa=>O a\/a=Dd) (upd H8 Dd (.lst (ys++[v8]))):=by
        refine⟨⟨λb zs h=>?_,λb zs n h=>?_⟩,λa z=> .inl z,λa z=>?_⟩
        ·have nb:b≠Dd:=λe=>by
          rw[e] at h;rcases h with h |⟨o,h⟩ <;> rw[hD8] at h <;> cases h
         rcases h with h |⟨o,h⟩
         ·exact .inl (by rw[upd_ne nb];exact h)
         ·exact .inr ⟨o,by rw[upd_ne nb];exact h⟩
        ·have nb:b≠Dd:=λe=>n (.inr e);rcases h with h |⟨o,h⟩
         ·exact .inl (by rw[upd_ne nb];exact h)
         ·exact .inr ⟨o,by rw[upd_ne nb];exact h⟩
        ·by_cases ea:a=Dd
         ·rw[ea,upd_same] at z;cases z
         ·rw[upd_ne ea] at z;exact z
       have sm9:Same H2 (upd H8 Dd (.lst (ys++[v8]))):=λb o e=>by
        rw[upd_ne (ne_of_none e hDn)];exact adO _ _ e
       refine aej (aej ⟨rfl,?_⟩);refine back I9 sm9 (In.go (j60.same (Jp.trans Ux)) hv0 acs (alO sm9 upd_same)) upd_same ((rp8.append (.cons adN .nil)).go acs) ?_;rw[afx];exact hds
  ·-- the end
   have ei:i=xs.length:=by omega
   subst ei;have hrest:rest=[]:=by
    have hm':kJ (qj gt ft fe ρ0) (xs.drop xs.length)= .ok rest:=hm';rw[List.drop_length] at hm';cases hm';rfl
   subst hrest;rw[afg] at hr';subst hr';refine afl (T.done (cZ X scope ts C s2 H2 fp) rfl rfl rfl hc _ [] s' σ' H' (λ_ _=>False) I' (stat fr') st' (Xh.2 (z0g _))) (λr s5 ⟨hr,I5⟩=>?_) λ_ _ z=>z.elim;subst hr;refine aej ?_;obtain⟨m,hns,_⟩:=I5.loc;have hCn:H' C=none:=I5.free;have I6:Inv X pins σ H' s5:=by
    refine I2.call' (s':=s5) (ch:=fp) I5.os ⟨λb o e n hb hx=>I5.base.keep b o e n hb hx,λb o e n hb hx=>I5.base.slot b o e n hb hx,I5.base.free,λb o e hx=>I5.base.there b o e hx,I5.base.tups,I5.base.frzs,I5.base.tbls⟩ (λb u e=>I5.hok b u e) I5.bare λb hb=>⟨(f2 b hb).2.2.2.1,(f2 b hb).2.1,(f2 b hb).2.2.2.2.1,(f2 b hb).2.2.2.2.2⟩
   exact hQ (.ref Dd) H' s5 C m _ (.ref Dd) (g3 _ _ sm' (oU (SqL.of hD') hOn (rp'.fewer λa z=> .inl z))) I6 hns (I2.fpOk (show @LE.le Nat _ _ C by omega) hCn) rfl
 exact codeAny_compStart_list (loop _ rfl) (T.self _ 0 _ _ _ st4 (loop _ rfl))
theorem QZ{pos2:Pos}{fi:aB->R (List D)}{gt:D->aB->R aB}{fe:aB->R D}(ts:List Str)(caps:List Nat)
  (hc:X.calm=true)(hb:Hg X.env.scope scope ts X.N=true)(hcap:(fD scope).map (λx=>lG x X.N)=caps)
  (hi:DI X tg iter fi)(hk:rG ts.length gt)(hg:∀C s H ex,(cZ X scope ts C s H ex).N.Nodup->DG (cZ X scope ts C s H ex) tg gt)(ht:∀C s H ex,Qv (cZ X scope ts C s H ex) ifs ft)(he:∀C s H ex,DE (cZ X scope ts C s H ex) elt fe)
  (hs:∀x,af6 iter X.env x=pure x){use:Option (aef->Sem Unit)}{Qr:aef->aeg->Prop}{s:aeg}{Q:VK}(I:Inv X pins σ H s)(j:In X O H ρ σ)
  (hQ:∀(v:V) (H':Hp) (s5:aeg) (C:aed) (m:Str->Option aef) (f:Flow) (acc:aef),Q v H'->Inv X pins σ H' s5->s5.heap.Ns C m->FpOk X pins H' C->RelV v acc->compPost (model X.prog X.w) X.A X.xe use Qr acc C (.ok f) s5)
  (h:good X (rD X) O (bJ ts.length caps fi gt ft fe ρ) σ H Q):
  aen (model X.prog X.w) X.A (comprehension (.ListComp elt [⟨tg,iter,ifs,0⟩] scope pos) scope X.env pos2 (newList []) false (eval iter X.env) use) Qr X.xe s:=
 Nt (Jo:=[]) ts caps hc hb hcap hi hk hg (λ_ z=>absurd z aeU) (λC s H ex _=>ht C s H ex) (λC s H ex _=>he C s H ex) hs I j hQ h
theorem cg{fi:aB->R (List D)}{gt:D->aB->R aB}{fe:aB->R D}(ts:List Str)(caps:List Nat)
  (hc:X.calm=true)(hb:Hg X.env.scope scope ts X.N=true)(hcap:(fD scope).map (λx=>lG x X.N)=caps)
  (hi:DI X tg iter fi)(hk:rG ts.length gt)(hg:∀C s H ex,(cZ X scope ts C s H ex).N.Nodup->DG (cZ X scope ts C s H ex) tg gt)(ht:∀C s H ex,Qv (cZ X scope ts C s H ex) ifs ft)(he:∀C s H ex,DE (cZ X scope ts C s H ex) elt fe)
  (hs:∀x,af6 iter X.env x=pure x:=by intro _;rfl):
  DE X (.ListComp elt [⟨tg,iter,ifs,0⟩] scope pos) (bJ ts.length caps fi gt ft fe):=by
 intro pins s σ H Q I h;obtain⟨ρ,O,j,h⟩:=h;rw[eval_ListComp];exact QZ ts caps hc hb hcap hi hk hg ht he hs (use:=none) (Qr:=EP X pins σ Q) I j (λv H' s5 C m f acc hv I6 hns fp rv=>⟨m,hns,λh' sb=>⟨v,H',I6.fp fp sb,rv,hv⟩⟩) h
theorem abj(i:Nat){x:Str}{cpos:Pos}{fi:aB->R (List D)}{gt:D->aB->R aB}{fe:aB->R D}(hN:X.N.Nodup)(ts:List Str)(caps:List Nat)
  (hc:X.calm=true)(hb:Hg X.env.scope scope ts X.N=true)(hcap:(fD scope).map (λx=>lG x X.N)=caps)
  (hi:DI X tg iter fi)(hk:rG ts.length gt)(hg:∀C s H ex,(cZ X scope ts C s H ex).N.Nodup->DG (cZ X scope ts C s H ex) tg gt)(ht:∀C s H ex,Qv (cZ X scope ts C s H ex) ifs ft)(he:∀C s H ex,DE (cZ X scope ts C s H ex) elt fe)
  (hix:X.N[i]?=some x:=by rfl)(hx:Loc X.env.scope x:=by first |exact afo rfl |exact afa rfl)(hf:X.fn x=true\/X.env.scope.names.lookup x=some .local:=by first |exact .inl rfl |exact .inr rfl)
  (hsw:ahy (.ListComp elt [⟨tg,iter,ifs,0⟩] scope cpos) (some (.Name x pos')) pos.line X.env=pure true:=by rfl)
  (hs:∀x,af6 iter X.env x=pure x:=by intro _;rfl):
  DS X (.Assign [.Name x pos'] (.ListComp elt [⟨tg,iter,ifs,0⟩] scope cpos) pos) (bD (bJ ts.length caps fi gt ft fe) (aL i)):=by
 intro pins s σ H E I h;obtain⟨H0,O0,O,ρ,j,h⟩:=h;rw[exec_Assign_Name_used _ _ _ _ hsw];refine aec (aip (aec ?_));show aen _ _ (comprehension (.ListComp elt [⟨tg,iter,ifs,0⟩] scope cpos) scope X.env _ (newList []) false (eval iter X.env) (some (assign (.Name x pos') X.env)) >>=λ_=>pure ()) _ _ _;unfold bD lA at h;refine aec (QZ (Q:=λv H'=>∃d,bJ ts.length caps fi gt ft fe ρ= .ok d/\Same H H'/\Rep X.K O H' d v) (Qr:=λ_ s'=>aen (model X.prog X.w) X.A (pure ()) (λ_ s1=>aen (model X.prog X.w) X.A (pure Flow.next) (SP X pins E) X.xe s1) X.xe s') ts caps hc hb hcap hi hk hg ht he hs I j.inn ?_ ?_)
 ·intro v H' s5 C m f acc hq I5 hns fC rel;obtain⟨d,ed,sm,rd⟩:=hq;rw[ed] at h;have h:yq X H0 O0 O H E (.nx (ρ.set i (some (.val d)))):=h;obtain⟨o,es,ep,ho,hd,hr⟩:=hns;have Ip:=I5.pinned (fp:=[C]) (λb hb=>by rw[afZ.mp hb];exact fC) (λb hb=>by rw[afZ.mp hb];exact⟨o,ho,λv z=>by rw[hd] at z;cases z⟩);show aen (model X.prog X.w) X.A (assign (.Name x pos') X.env acc) _ X.xe s5;refine afl (pg_name hN hix hx hf _ s5 σ H' v acc (λσ' H''=>σ'=σ.set i (some v)/\H''=H') Ip rel ⟨rfl,rfl⟩) (λ_ s6 ⟨σ',H'',I',e1,e2⟩=>?_) λ_ _ z=>z;subst e1 e2;have pn:=(I'.pin (C,o) (ae1 _ (ae1 _ (mem_pinsAt (afZ.mpr rfl) ho)))).1;refine⟨m,⟨o,es,ep,pn,hd,hr⟩,λh' sb=>aej (aej ⟨_,H'',(I'.unpinned).fp fC sb,h _ H'' O ((j.grow sm).set (z1b hix).1 rd) (Same.gq sm)⟩)⟩
 ·cases e1:bJ ts.length caps fi gt ft fe ρ with
  |bad=>rw[e1] at h;exact h
  |err c=>rw[e1] at h;exact h σ H O j
  |ok d=>exact λv H' sm r=>⟨d,rfl,sm,r⟩
end
def okN(F:List D->R D)(n:Nat)(ds:List D):R D:=if ds.length=n then F ds else .bad
def lC(sub:Str->Str->Bool)(i:Nat)(t:Str):aB->R D:=λρ=>match ρ[i]? with
 |some (some (.obj (.exc c)))=>if sub c c=true then .ok (.bl (sub c t)) else .bad
 |_=> .bad
def Hs(sub:Str->Str->Bool)(t:Str)(i:Nat)(g h:aB->So):aB->So:=λρ=>match g ρ with
 | .ex c ρ1=>if sub c t=true then (match h (ρ1.set i (some (.obj (.exc c)))) with
  | .rt d=> .rt d
  |_=> .bad) else .bad
 |o=>o
def aea:List D->R (List D)
 |[.lst ds]=> .ok ds.reverse
 |_=> .bad
def mulL:D->D->R D
 | .lst ds,.int k=>if ds≠[]/\1<=k/\k<2^63/\ds.length*k.toNat<=1000000 then .ok (.lst (aem k.toNat ds).flatten) else .bad
 |x,y=>lU x y
section
variable{ρ ρ1:aB}{fa:aB->R (List D)}{F:List D->R D}{ds:List D}{n:Nat}{d:D}{c:Str}{f:aB->R D}{gt:D->aB->R aB}{p:aB->R Bool}{s t:aB->So}{o:So}
theorem gw(e:f (eE ρ)= .err c):gP f ρ= .ex c ρ:=by rw[gP,e];rfl
theorem lV(e:f ρ= .err c):bD f gt ρ= .ex c ρ:=by rw[bD,e];rfl
theorem cU(e:s ρ= .ex c ρ1):aQ s t ρ= .ex c ρ1:=by rw[aQ,e]
theorem cF{m:Nat}(e:s (ds.map (λd=>some (.val d))++aem m none)= .ex c ρ1):bR m s ds= .err c:=by rw[bR,e]
theorem vg{sub:Str->Str->Bool}{t:Str}(h:ρ[i]?=some (some (.obj (.exc c))))(hk:sub c c=true):lC sub i t ρ= .ok (.bl (sub c t)):=by
 unfold lC;rw[h];show (if sub c c=true then R.ok (D.bl (sub c t)) else .bad)=_;rw[if_pos hk]
theorem X7{sub:Str->Str->Bool}{u:Str}(e1:s ρ= .ex c ρ1)(hs:sub c u=true)(e2:t (ρ1.set i (some (.obj (.exc c))))= .rt d):Hs sub u i s t ρ= .rt d:=by
 unfold Hs;rw[e1];simp only[hs,if_true,e2]
end
structure yD(fs:List aed)(h h':aes)(a C:aed)(T:Option aed)(t':aed):Prop where
 exc:Exc h' a C (some t')
 old:T=some t'\/h.get? t'=none
 keep:∀b o,h.get? b=some o->b≠a->T≠some b->b∉fs->h'.get? b=some o
 slot:∀b o,h.get? b=some o->b∈fs->∃sl,h'.get? b=some {o with slots:=sl}
section
variable{M:Model}{A:aeF}{E:aef->aeg->Prop}{s:aeg}
theorem Ck{h h1 b0 b1:aes}:∀{l:List afd},h.FunFrames b0 l->(∀b∈frs l,b1.get? b=none)->(∀b o,h.get? b=some o->b∈frs l->h1.get? b=some o)->h1.FunFrames b1 l
 |[],_,_,_=>trivial
 | env::r,hl,hn,hs=>by
  obtain⟨hk,⟨L,o,hf,_,ho,hd⟩,hr⟩:=hl;have e:frs (env::r)=L::frs r:=by unfold frs;rw[ahk,hf]
  rw[e] at hn hs;exact⟨hk,⟨L,o,hf,hn L aex,hs L o ho aex,hd⟩,Ck hr (λb hb=>hn b (z2f _ hb)) λb o q hb=>hs b o q (z2f _ hb)⟩
theorem X8{o:Obj}{g:Array aef->Array aef}:(o.mapFields g).dict=o.dict:=by
 obtain⟨c,d,dt,sl⟩:=o;cases dt <;> rfl
theorem Nu{L a:aed}{oe:Obj}{vs:Array aef}{hd0:aef}{had:Bool}{Q:Unit->aeg->Prop}(hfr:A.frames=some (env::outer))(hl:s.heap.FunFrames b0 (env::outer))(hf:env.frame=some L)
  (he:s.heap.get? a=some oe)(hc:oe.cls= .ref C)(hn:oe.dict=none)(hv:oe.data= .fields vs)(hz:1<vs.size)
  (h:∀h' t',yD (frs (env::outer)) s.heap h' a C none t'->Q () {s with heap:=h'}):
  aen M A (do let x <-frameOf env;let y <-entryPlaceOf L had;let z <-ajm hd0 x .none (ae8 L) .none y;setField (.ref a) 1 z) (λ_ s'=>aen M A (setFlight (.ref a) none) Q E s') E s:=by
 have na:a∉frs (env::outer):=λz=>by
  obtain⟨_,o',ho',hd'⟩:=hl.mem z;rw[he] at ho';cases ho';exact hd' vs hv
 refine aec (wpAny_frameOf_fun hfr hl hf λg1 sl1=>aec (wpAny_entryPlaceOf λpl ok=>?_));unfold ajm newFields;refine aec (afq ?_ (ok.sizeOk5 _ _ _ _ _));have e1:g1.get? a=some oe:=(sl1.2.1 a na).trans he
 generalize hob:({cls:= .type "traceback",dict:=none,data:= .fields ([hd0,.ref L,.none,ae8 L,.none]++(if pl.isEmpty then aem 6 aeL else pl)).toArray}:Obj)=ob
 have ZQ:ob.data= .fields ([hd0,.ref L,.none,ae8 L,.none]++(if pl.isEmpty then aem 6 aeL else pl)).toArray:=by rw[<-hob]
 have adP:ob.isFreed=false:=by rw[<-hob];rfl
 have e2:(g1.push ob).get? a=some oe:=z1a ob e1;refine ahD e2 hv hz ?_;have nT:g1.objs.size≠a:=aiJ (z2c e1);have d3:=agS hv (·.setIfInBounds 1 (aez g1.objs.size));have e3:=ag0 (agO (·.setIfInBounds 1 (aez g1.objs.size))) e2 (ahS d3);have T3:=(afv (g1.push ob) (agO (·.setIfInBounds 1 (aez g1.objs.size))) (aeo nT)).trans (z1f g1 adP);unfold setFlight;refine aec (aeI e3 d3 (x:= .ref g1.objs.size) (by simp[hz]) ?_);rw[if_pos (show (aez g1.objs.size !=aeL)=true from by simp)];have hsz:3<(([hd0,.ref L,.none,ae8 L,.none]++(if pl.isEmpty then aem 6 aeL else pl)).toArray).size:=by
  rw[z1c,z1d];show 3<5+_;omega
 refine ahD T3 ZQ hsz (h _ g1.objs.size ⟨⟨_,_,(afv _ _ nT).trans e3,(Obj.cls_mapFields _ _).trans hc,X8.trans hn,d3,by simp[hz],nT,_,_,ag0 _ T3 (ahS (agS ZQ _)),agS ZQ _,?_⟩,.inr (Heap.get?_none_of_le (by rw[sl1.1];exact z0g _)),λb o hb n1 _ n3=>?_,λb o hb hm=>?_⟩)
 ·rw[Array.getElem?_setIfInBounds,if_pos rfl,if_pos hsz];rfl
 ·have q1:g1.get? b=some o:=(sl1.2.1 b n3).trans hb;rw[afv _ _ (aiJ (z2c q1)),afv _ _ (aeo n1)];exact z1a _ q1
 ·obtain⟨sl,q1⟩:=sl1.2.2 b o hb;refine⟨sl,?_⟩;rw[afv _ _ (aiJ (z2c q1)),afv _ _ (λz=>na (by rw[z];exact hm))];exact z1a _ q1
theorem Q0{L a:aed}{T:Option aed}{Q:Unit->aeg->Prop}(hfr:A.frames=some (env::outer))(hl:s.heap.FunFrames b0 (env::outer))(hf:env.frame=some L)(x:Exc s.heap a C T)
  (h:∀h' t',yD (frs (env::outer)) s.heap h' a C T t'->Q () {s with heap:=h'}):aen M A (noteFrame (.ref a) env) (λ_ s2=>aen M A (setFlight (.ref a) none) Q E s2) E s:=by
 obtain⟨oe,vs,he,hc,hn,hd,hx⟩:=x;unfold noteFrame;simp only[hf];cases T with
 | none=>
  have h1:vs[1]?=some aeL:=hx;refine aec (aeI he hd h1 ?_);rw[if_neg (by decide)];exact Nu hfr hl hf he hc hn hd (afV.mp h1).1 h
 | some t=>
  obtain⟨h1,hne,ot,ts,ht,hdt,h3⟩:=hx;have nt:t∉frs (env::outer):=λz=>by
   obtain⟨_,o',ho',hd'⟩:=hl.mem z;rw[ht] at ho';cases ho';exact hd' ts hdt
  refine aec (aeI he hd h1 ?_);rw[if_pos (show (aez t !=aeL)=true from by simp)];refine aec (aeI ht hdt h3 ?_);rw[if_neg (show ¬((aeL ==ae8 L)=true) from by simp[ae8])];refine aec (ahD ht hdt (afV.mp h3).1 ?_);have other:∀b o,s.heap.get? b=some o->b≠t->(s.heap.update t (agO (·.setIfInBounds 3 aeL))).get? b=some o:=λb o q hb=>(afv _ _ (aeo hb)).trans q;refine Nu (s:={s with heap:=s.heap.update t (agO (·.setIfInBounds 3 aeL))}) (b0:=b0) hfr (Ck hl (λb hb=>(hl.mem hb).1) λb o q hb=>other b o q λz=>nt (z▸hb)) hf (other a oe he (aeo hne)) hc hn hd (afV.mp h1).1 λh' t' ld=>?_;refine h h' t' ⟨ld.exc,?_,λb o q n1 n2 n3=>ld.keep b o (other b o q λz=>n2 (by rw[z])) n1 (by simp) n3,λb o q hm=>ld.slot b o (other b o q λz=>nt (z▸hm)) hm⟩;by_cases z:t'=t
  ·exact .inl (by rw[z])
  ·refine .inr ?_;rcases ld.old with q |q
   ·cases q
   ·cases q2:s.heap.get? t' with
    |none=>rfl
    | some o=>
     have q3:=other t' o q2 z;have q:(s.heap.update t (agO (·.setIfInBounds 3 aeL))).get? t'=none:=q;rw[q] at q3;cases q3
theorem Yb{L a:aed}{T:Option aed}{Q:Unit->aeg->Prop}(hfr:A.frames=some (env::outer))(hl:s.heap.FunFrames b0 (env::outer))(hf:env.frame=some L)(x:Exc s.heap a C T)
  (h:∀h' t',yD (frs (env::outer)) s.heap h' a C T t'->Q () {s with heap:=h'}):aen M A (leaving env (.ref a)) Q E s:=by
 unfold leaving;exact aec (Q0 hfr hl hf x h)
end
section
variable{P:aew}{w:aey}{fs fs':List aed}{H H' H0:Hp}{s s' s0:aeg}{a C:aed}{T:Option aed}{h':aes}{t':aed}
theorem ObjOk.ex{H:Hp}{a:aed}{o:HO}(x:ObjOk P w H h a o):∃ob,h.get? a=some ob:=by
 induction o with
 |lst xs=>obtain⟨_,_,_,_,e⟩:=x;exact⟨_,e⟩
 |tup xs=>obtain⟨_,_,_,ob,e,_⟩:=x;exact⟨_,e⟩
 |dK kvs=>obtain⟨_,_,_,_,ob,_,_,e,_⟩:=x;exact⟨_,e⟩
 |dT kvs=>obtain⟨_,_,_,_,ob,_,_,e,_⟩:=x;exact⟨_,e⟩
 |set S n=>obtain⟨ob,_,_,_,e,_⟩:=x;exact⟨_,e⟩
 |ins C dx fs=>obtain⟨_,_,_,e,_⟩:=x;exact⟨_,e⟩
 |own y=>exact x
 |xd fs=>obtain⟨_,⟨_,_,_,e,_⟩,_⟩:=x;exact⟨_,e⟩
 |rng lo hi=>obtain⟨_,_,_,e⟩:=x;exact⟨_,e⟩
 |frz ob u ih=>exact⟨_,x.1⟩
 |tbl ps=>obtain⟨_,e,_⟩:=x;exact⟨_,e⟩
 |met f y=>exact⟨_,x⟩
 |ext φ=>exact x.2.1
theorem Ht{b:aed}(x:HOk P w H h)(e:h.get? b=none):H b=none:=by
 cases q:H b with
 |none=>rfl
 | some u=>
  obtain⟨o,z⟩:=ObjOk.ex (x b u q);rw[e] at z;cases z
theorem yD.hok(ld:yD fs h h' a C T t')(x:HOk P w H h)(ha:H a=none)(ht:∀t,T=some t->H t=none)(hf:∀b∈fs,H b=none):HOk P w H h':=λb u e=>by
 have ne:∀c v,H c=some v->c≠a/\T≠some c/\c∉fs:=λc v q=>⟨λz=>(by rw[z,ha] at q;cases q),λz=>(by rw[ht c z] at q;cases q),λz=>(by rw[hf c z] at q;cases q)⟩;refine (x b u e).stay (λc v hc q=>?_) (λ_ q=>q) (λ_ _ q=>q) λ_ _ _ _ q=>q;rcases hc with rfl |hc
 ·obtain⟨n1,n2,n3⟩:=ne _ _ e;exact ld.keep _ _ q n1 n2 n3
 ·obtain⟨n1,n2,n3⟩:=ne _ _ hc;exact ld.keep _ _ q n1 n2 n3
theorem Az.land(r:Az P w fs H s a C T s' H')(hs:∀b∈fs',b∈fs)(ld:yD fs' s'.heap h' a C T t')(hf:∀b∈fs,H' b=none):Az P w fs H s a C (some t') {s' with heap:=h'} H':=by
 have ne:∀b o,s.heap.get? b=some o->b≠a/\T≠some b:=λb o q=>⟨λz=>(by rw[z,r.na] at q;cases q),λz=>(by rw[(r.nt b z).1] at q;cases q)⟩;have any:∀b o,s.heap.get? b=some o->∀o',s'.heap.get? b=some o'->∃sl,h'.get? b=some {o' with slots:=sl}:=λb o q o' q'=>by
  by_cases hb:b∈fs'
  ·exact ld.slot b o' q' hb
  ·exact⟨o'.slots,ld.keep b o' q' (ne b o q).1 (ne b o q).2 hb⟩
 refine⟨r.same,⟨λb o q n hb hx=>?_,λb o q n hb hx=>?_,r.un.free,λb o q hx=>?_,r.un.tups,r.un.frzs,r.un.tbls⟩,ld.hok r.hok r.ha (λt z=>(r.nt t z).2) λb hb=>hf b (hs b hb),r.os,r.bare,ld.exc,r.na,r.ha,λt z=>?_⟩
 ·exact ld.keep b o (r.un.keep b o q n hb hx) (ne b o q).1 (ne b o q).2 λz=>hb (hs b z)
 ·obtain⟨sl,e⟩:=r.un.slot b o q n hb hx;obtain⟨sl',e'⟩:=any b o q _ e;exact⟨sl',e'⟩
 ·obtain⟨o',e⟩:=r.un.there b o q hx;obtain⟨sl',e'⟩:=any b o q _ e;exact⟨_,e'⟩
 ·cases z;rcases ld.old with z |z
  ·exact r.nt t' z
  ·refine⟨?_,Ht r.hok z⟩;cases q:s.heap.get? t' with
   |none=>rfl
   | some o=>
    obtain⟨o',e⟩:=r.un.there t' o q (by simp);rw[z] at e;cases e
theorem Az.from{X:Cx}(I:Inv X pins σ H s)(hex:X.ex=[])(r:Az X.prog X.w (frs X.stack) H s a C T s' H')(sm:Same X.H₀ H):Az X.prog X.w X.fs X.H₀ X.s₀ a C T s' H':=by
 have J:Inv X pins σ H' s':=I.call' r.os r.un r.hok r.bare λb z=>absurd z (by simp);have b:=J.base;rw[hex] at b;have no:∀c,s.heap.get? c=none->X.s₀.heap.get? c=none:=λc e=>by
  cases q:X.s₀.heap.get? c with
  |none=>rfl
  | some o=>
   obtain⟨o',e'⟩:=I.base.there c o q (by rw[hex];simp);rw[e] at e';cases e'
 exact⟨sm.trans r.same,b,r.hok,J.os,r.bare,r.exc,no a r.na,r.ha,λt z=>⟨no t (r.nt t z).1,(r.nt t z).2⟩⟩
end
def Uy(P:aew)(w:aey):CXT:=λouter H s E e s'=>∃a C T H',e= .ref a/\E (.ref C) none H'/\Az P w (frs outer) H s a C T s' H'
def spX(K:aeh)(n:Nat)(F:List D->R D):Sp:=λvs H Q E=>∃O ds,aU K O H ds vs/\ds.length=n/\(∀a,O a->∃o,H a=some o)/\match F ds with
 | .ok d=>∀v H',Same H H'->Rep K O H' d v->Q v H'
 | .err c=>∀C H',aep K ael c=some (some (.ref C))->E (.ref C) none H'
 | .bad=>False
section
variable{P:aew}{w:aey}{K:aeh}{mg:Str->Option aef}{base:aes}
end
section
variable{X:Cx}{k n m:Nat}{F:List D->R D}{x:Str}{p pos:Pos}{e:aer}{es:List aer}{fa:aB->R (List D)}
end
abbrev LK:List aef:=[.type "ValueError",.type "Exception",.type "BaseException",.type "object"]
structure Uz(K:aeh)(mg:Str->Option aef)(c:Str)(C:aed):Prop where
 ns:aep K ael c=some (some (.ref C))
 mg:mg c=some (.ref C)
 ex:agw K C LK "ValueError.__new__" =true
theorem acu{bmB:List aef}{newId:String}(X:K.In h)(q:agw K C bmB newId=true):
  ∃bm N nm qn bs hdct sn sub ab col dd k0 k1 k2 k3 k5 mN,h.get? C=some (excClassObj nm qn C N bs bm hdct sn sub ab col dd k0 k1 k2 k3 k5 newId)/\h.Ns N mN/\mN "__init__" =none/\OwnTail h bmB bm:=by
 unfold agw at q;split at q
 ·rename_i d0 cd sl0 e0;split at q
  ·rename_i C1 b1 a0 a1 a2 a3 n1 a5 e1 e2;simp only[agG,beq_iff_eq,Bool.not_eq_true'] at q;obtain⟨⟨⟨⟨⟨rfl,rfl⟩,z1⟩,z2⟩,z3⟩,z4⟩:=q;obtain⟨v1,v2,v3,v4,v5,v6,v7,v8,v9,v10,v11⟩:=cd
   dsimp only at e1 z1 z3 z4
   subst e1 z1;obtain⟨l0⟩:=sl0;simp only at e2;subst e2;exact⟨b1,v4,v1,v5,v2,v6,v7,v8,v9,v10,d0,a0,a1,a2,a3,a5,_,X _ _ e0,.of_isNs (PySem.W.isNs_of_in X z3),PySem.W.nsMap_none_of_in X z3 z4,PySem.W.tail_of_in X z2⟩
  ·cases q
 ·cases q
section
variable{X:Cx}{c:Str}{C:aed}{np cpos pos:Pos}{e:aer}{fa:aB->R (List D)}
theorem qF(hc:X.calm=true)(hx:Uz X.K X.mg c C)(ha:DA X [e] fa)(hfa:∀ρ,∃ds,fa ρ= .ok ds/\ds.length<=1000000)(hg:Gl X c:=by rfl)(hdb:(c ==("__debug__" :Str))=false:=by decide)
  (he:aei [e] X.env=(false,eval e X.env)::aei [] X.env:=by rfl)(hpl:(ae7 cpos (aei [e] X.env)).any (·.1)=false:=by rfl):
  DS X (.Raise (some (.Call (.Name c np) [e] [] cpos)) none pos) (λρ=> .ex c ρ):=by
 intro pins s σ H E I h;obtain⟨H0,O0,O,ρ,j,h⟩:=h;obtain⟨bm,N,nm,qn,bs,hdct,sn,sub,ab,col,dd,k0,k1,k2,k3,k5,mN,o1,o2,o3,o4⟩:=acu I.mod.kin hx.ex;obtain⟨ds,ef,dl⟩:=hfa ρ;have key:tG X (M9 X) fa σ H (λvs H1=>ds.length=vs.length/\Same H H1):=⟨ρ,O,j.inn,by rw[ef];exact λvs H1 s1 r1=>⟨r1.length,s1⟩⟩;refine wpAny_Raise_call_subU (C:=C) (nm:=nm) (q:=qn) (N:=N) (bs:=bs) (bm:=bm) (hdct:=hdct) (sn:=sn) (sub:=sub) (ab:=ab) (col:=col) (dd:=dd) (k0:=k0) (k1:=k1) (k2:=k2) (k3:=k3) (k5:=k5)
  ahh (by rfl) ahh (mN:=mN) (o4.hasType ahh.hasBase) (I.ok.hd hc) hpl o3 (ld_glob I hg hx.mg ⟨rfl,?_⟩ hdb)
 have hA:=ha cpos pins s σ H _ I key;rw[he] at hA |-;refine Calls.evalArgs_plain (afl hA (λus s1 ⟨vs,H1,I1,r,hl,sm⟩=>?_) λ_ _ z=>z);refine⟨rfl,?_,I1.bk _ _ o1,o2.keeps I1.bk,o4.keeps I1.bk,λh' ev hm=>?_⟩
 ·show us.length<=sizeLine;rw[<-r.length,<-hl];exact z0b dl fQ
 ·obtain⟨t,ht,_,_⟩:=hm.there;exact h σ H1 O (j.grow sm) H1 pins s1 ev C none _ H1 (Same.refl _) I1 hx.ns ⟨Same.refl _,Un.kept hm.keeps,I1.hok.kept hm.keeps,rfl,I1.bare,⟨_,_,ht,rfl,rfl,rfl,rfl⟩,hm.new,Ht I1.hok hm.new,λ_ z=>by cases z⟩
end
section
variable{X:Cx}{pins:List (aed×Obj)}{σ:St}{H:Hp}{s:aeg}
theorem _root_.L2.Inv.track{a:aed}{o:Obj}(I:Inv X pins σ H s)(ha:H a=none)(ho:s.heap.get? a=some o)(n0:X.s₀.heap.get? a=none)(nL:a≠X.env.locals)(nc:∀x c,X.env.cells.lookup x=some c->c≠a)(np:∀p∈X.pn++pins,p.1≠a):
  Inv X pins σ (upd H a (.frz o (.own a))) s:=by
 have old:∀b u,H b=some u->upd H a (.frz o (.own a)) b=some u:=λb u q=>by rw[upd_ne (ne_of_none q ha)];exact q
 refine⟨I.ok,I.os,I.bare,⟨I.base.keep,I.base.slot,λb ob q n hx=>?_,I.base.there,λb xs q=>old _ _ (I.base.tups b xs q),λb ob u q=>old _ _ (I.base.frzs b ob u q),λb ps q=>?_⟩,I.loc,I.cell,?_,λx c q=>?_,λp hp=>?_,λb u q=>?_,I.len⟩
 ·rw[upd_ne (λz=>by rw[z,n0] at q;cases q)];exact I.base.free b ob q n hx
 ·obtain⟨more,e⟩:=I.base.tbls b ps q;exact⟨more,old _ _ e⟩
 ·rw[upd_ne (aeo nL)];exact I.free
 ·rw[upd_ne (nc x c q)];exact I.freeC x c q
 ·obtain⟨e,n,r⟩:=I.pin p hp;exact⟨e,by rw[upd_ne (np p hp)];exact n,r⟩
 ·by_cases hb:b=a
  ·subst hb;rw[upd_same] at q;cases q;exact⟨ho,o,ho⟩
  ·rw[upd_ne hb] at q;exact (I.hok b u q).stay (λ_ _ _ z=>z) (λc z=>old _ _ z) (λc xs z=>old _ _ z) λc o u _ z=>old _ _ z
theorem _root_.L2.Inv.gone{m':Str->Option aef}{t':Nat}(I:Inv X pins σ H s)(hn:h'.Ns X.env.locals m')(hs:afB X.env.locals s.heap h'):Inv X pins (aem X.N.length none) H {s with heap:=h',toks:=t'}:=by
 have to:∀b ob,X.s₀.heap.get? b=some ob->b≠X.env.locals:=λb ob q=>aeN (z0d (z2c q) I.ok.above);refine⟨I.ok,I.os,I.bare,⟨λb ob q n hb hx=>?_,λb ob q n hb hx=>?_,I.base.free,λb ob q hx=>?_,I.base.tups,I.base.frzs,I.base.tbls⟩,⟨m',hn,λi x v _ e2 _=>?_⟩,λx c q=>?_,I.free,I.freeC,λp hp=>?_,λb u q=>?_,by simp⟩
 ·exact (hs.2 b (to b ob q)).trans (I.base.keep b ob q n hb hx)
 ·obtain⟨sl,e⟩:=I.base.slot b ob q n hb hx;exact⟨sl,(hs.2 b (to b ob q)).trans e⟩
 ·obtain⟨o',e⟩:=I.base.there b ob q hx;exact⟨o',(hs.2 b (to b ob q)).trans e⟩
 ·rw[afA] at e2;split at e2 <;> cases e2
 ·obtain⟨v,z⟩:=I.cell x c q;exact⟨v,z.sameBut hs (I.cne x c q)⟩
 ·obtain⟨e,n,ne,r⟩:=I.pin p hp;exact⟨(hs.2 p.1 ne).trans e,n,ne,r⟩
 ·refine (I.hok b u q).stay (λc w' hc z=>(hs.2 c ?_).trans z) (λ_ z=>z) (λ_ _ z=>z) λ_ _ _ _ z=>z
  rintro rfl
  rcases hc with hc |hc
  ·rw[<-hc,I.free] at q;cases q
  ·rw[I.free] at hc;cases hc
abbrev _root_.L2.Cx.Gn(X:Cx)(a:aed):Cx:={X with A:=X.A.mark (some (.ref a)),calm:=false,xe:=λ_ _=>False}
theorem _root_.L2.Inv.Gn(I:Inv X pins σ H s)(a:aed):Inv (X.Gn a) pins σ H s:=
 ⟨⟨I.ok.mod,I.ok.kind,I.ok.glob,I.ok.blt,I.ok.above,I.ok.inj,I.ok.has,I.ok.cab,λz=>Bool.noConfusion z,I.ok.frames,I.ok.stk,I.ok.exf,I.ok.bs,I.ok.bsz,I.ok.noex,I.ok.exfs,I.ok.funs,I.ok.frf⟩,I.os,I.bare,I.base,I.loc,I.cell,I.free,I.freeC,I.pin,I.hok,I.len⟩
theorem _root_.L2.Inv.adQ{a:aed}(ok:X.Ok)(I:Inv (X.Gn a) pins σ H s):Inv X pins σ H s:=⟨ok,I.os,I.bare,I.base,I.loc,I.cell,I.free,I.freeC,I.pin,I.hok,I.len⟩
theorem At.cx{Y:Cx}{H0:Hp}(j:At X H0 O0 O H ρ σ)(hK:Y.K=X.K)(hN:Y.N=X.N):At Y H0 O0 O H ρ σ:=
 ⟨j.same,by rw[hK];exact j.gq,j.sub,⟨by rw[hK];exact j.inn.env,j.inn.al,by rw[hN];exact j.inn.len,by rw[hN];exact j.inn.oH⟩,j.mine,j.wH⟩
theorem At.adR{H0:Hp}(j:At X H0 O0 O H ρ σ)(hi:i<X.N.length){t:Ob}{v:V}(r:qb X.K H t v):At X H0 O0 O H (ρ.set i (some (.obj t))) (σ.set i (some v)):=by
 have h1:i<ρ.length:=by rw[j.inn.oH];exact hi
 have h2:i<σ.length:=by rw[j.inn.len];exact hi
 refine⟨j.same,j.gq,j.sub,⟨⟨λk e q=>?_,λk l e e' u hkl hk hl ok ol sk sl=>?_,λk l rows a rs e u hkl hk sk ha hl ol sl=>?_⟩,j.inn.al,by rw[afP];exact j.inn.len,by rw[afP];exact j.inn.oH⟩,λk e a q ho hs=>?_,λk rows a rs q hs=>?_⟩
 ·by_cases hki:k=i
  ·subst hki;rw[z2a h1] at q;cases q;exact⟨v,z2a h2,r⟩
  ·rw[z1e (aeo hki)] at q |-;exact j.inn.env.get k e q
 ·by_cases hki:k=i
  ·subst hki;rw[z2a h1] at hk;cases hk;cases ok
  ·by_cases hli:l=i
   ·subst hli;rw[z2a h1] at hl;cases hl;cases ol
   ·rw[z1e (aeo hki)] at hk sk;rw[z1e (aeo hli)] at hl sl;exact j.inn.env.sep k l e e' u hkl hk hl ok ol sk sl
 ·by_cases hki:k=i
  ·subst hki;rw[z2a h1] at hk;cases hk
  ·by_cases hli:l=i
   ·subst hli;rw[z2a h1] at hl;cases hl;cases ol
   ·rw[z1e (aeo hki)] at hk sk;rw[z1e (aeo hli)] at hl sl;exact j.inn.env.qd k l rows a rs e u hkl hk sk ha hl ol sl
 ·by_cases hki:k=i
  ·subst hki;rw[z2a h1] at q;cases q;cases ho
  ·rw[z1e (aeo hki)] at q hs;exact j.mine k e a q ho hs
 ·by_cases hki:k=i
  ·subst hki;rw[z2a h1] at q;cases q
  ·rw[z1e (aeo hki)] at q hs;exact j.wH k rows a rs q hs
end
abbrev _root_.L2.Cx.UG(X:Cx)(E:aef->aeg->Prop)(pn:List (aed×Obj)):Cx:={X with xe:=E,pn:=pn}
section
variable{X:Cx}{pins:List (aed×Obj)}{σ:St}{H:Hp}{s:aeg}{E:aef->aeg->Prop}
theorem _root_.L2.Inv.UG(I:Inv X pins σ H s)(E:aef->aeg->Prop):Inv (X.UG E (X.pn++pins)) [] σ H s:=
 ⟨⟨I.ok.mod,I.ok.kind,I.ok.glob,I.ok.blt,I.ok.above,I.ok.inj,I.ok.has,I.ok.cab,I.ok.hd,I.ok.frames,I.ok.stk,I.ok.exf,I.ok.bs,I.ok.bsz,I.ok.noex,I.ok.exfs,I.ok.funs,I.ok.frf⟩,I.os,I.bare,I.base,I.loc,I.cell,I.free,I.freeC,λp hp=>I.pin p (by rw[afg] at hp;exact hp),I.hok,I.len⟩
theorem _root_.L2.Inv.xu{p1:List (aed×Obj)}(ok:X.Ok)(I:Inv (X.UG E (X.pn++pins)) p1 σ H s):Inv X pins σ H s:=
 ⟨ok,I.os,I.bare,I.base,I.loc,I.cell,I.free,I.freeC,λp hp=>I.pin p (ahV _ hp),I.hok,I.len⟩
theorem _root_.L2.SP.xu{D:Ends}{f:Flow}{s':aeg}(ok:X.Ok)(h:SP (X.UG E (X.pn++pins)) [] D f s'):SP X pins D f s':=by
 cases f with
 |next=>obtain⟨σ',H',I,q⟩:=h;exact⟨σ',H',I.xu ok,q⟩
 |brk=>obtain⟨σ',H',I,q⟩:=h;exact⟨σ',H',I.xu ok,q⟩
 |cont=>obtain⟨σ',H',I,q⟩:=h;exact⟨σ',H',I.xu ok,q⟩
 |ret u=>obtain⟨v,σ',H',I,r,q⟩:=h;exact⟨v,σ',H',I.xu ok,r,q⟩
end
section
variable{X:Cx}{t n:Str}{CT:aed}{np hpos pos:Pos}{body suite:List aeA}{b₀:aeA}{g h:aB->So}{sub:Str->Str->Bool}
theorem acv(i:Nat)(hN:X.N.Nodup)(hst:X.stack=X.env::X.outer)(hfr:X.env.frame=some X.env.locals)(hex:X.ex=[])(hm:X.mg t=some (.ref CT))
  (hx:∀c C,sub c t=true->aep X.K ael c=some (some (.ref C))->agh X.K (.ref C) (.ref CT)=some true)
  (hb:∀E pn,jW (X.UG E pn) body g)(hh:∀a,jW (X.Gn a) (b₀::suite) h)(hg:Gl X t:=by rfl)(hi:X.N[i]?=some n:=by rfl)(hl:X.env.kindOf n=some .local:=by rfl)(hdb:(t ==("__debug__" :Str))=false:=by decide):
  DS X (.Try body [.ExceptHandler (some (.Name t np)) (some n) (b₀::suite) hpos] [] [] pos) (Hs sub t i g h):=by
 intro pins s σ H E I q;obtain⟨H0,O0,O,ρ,j,q⟩:=q;refine wpAny_Try_except ?_;have hin:i<X.N.length:=(z1b hi).1;have hcls:(X.env.scope.kind == .class || (X.env.scope.kind == .module && X.env.locals !=X.env.globals))=false:=by rw[I.ok.kind];rfl
 refine afl (hb _ (X.pn++pins) [] s σ H E (I.UG _) ⟨H0,O0,O,ρ,j.cx rfl rfl,?_⟩) (λf s1 z=>?_) λ_ _ z=>z
 ·-- the body's ends
  unfold Hs at q;cases eg:g ρ with
  |bad=>rw[eg] at q;exact q
  |nx ρ1=>rw[eg] at q;exact λσ' H' O' j' r'=>q σ' H' O' (j'.cx rfl rfl) r'
  |bk ρ1=>rw[eg] at q;exact λσ' H' O' j' r'=>q σ' H' O' (j'.cx rfl rfl) r'
  |ct ρ1=>rw[eg] at q;exact λσ' H' O' j' r'=>q σ' H' O' (j'.cx rfl rfl) r'
  |rt d=>rw[eg] at q;exact q
  | ex c ρ1 =>
   rw[eg] at q;simp only at q;by_cases hs:sub c t=true
   ·rw[if_pos hs] at q;intro σ1 H1' O1 j1 H1 ad6 s1 a C T s2 H2 sm I1w hC rs;have I1:Inv X pins σ1 H1 s1:=I1w.xu I.ok;have J1:Inv X pins σ1 H2 s2:=I1.call' rs.os rs.un rs.hok rs.bare λb z=>absurd z (by simp);refine Q0 (b0:=X.base) (outer:=X.outer) (by rw[J1.ok.frames,hst]) (by have:=J1.stack;rwa [hst] at this) hfr rs.exc λh3 t3 ld=>?_;have adS:∀b∈frs (X.env::X.outer),b∈frs X.stack:=λb z=>by rw[hst];exact z
    have r3:Az X.prog X.w (frs X.stack) H1 s1 a C (some t3) {s2 with heap:=h3} H2:=Az.land rs adS ld J1.stkFree;have J3:Inv X pins σ1 H2 {s2 with heap:=h3}:=I1.call' r3.os r3.un r3.hok r3.bare λb z=>absurd z (by simp);obtain⟨oe,vs,x1,x2,x3,x4,x5,x6,ot,ts,y1,y2,y3⟩:=r3.exc;refine wpAny_handleBy_cons (codeAny_handlers_test (ld_glob (X:=X.Gn a) (J3.Gn a) hg hm ?_ hdb)) (by intro z;cases z);have LT:PySem.W.Looks (model X.prog X.w) h3 (typeOf (.ref a)) (.ref C):=x2▸(PySem.W.Looks.ld x1).andThen .now;refine (PySem.W.exm_one J3.kIn LT (hx c C hs hC)).here ?_;simp only[if_true];refine codeAny_handlers_suite_as ?_;refine wpAny_setFlight_none x1 x4 x5 y1 y2 (afV.mp y3).1 ?_;have ade:h3.update t3 (agO (·.setIfInBounds 3 aeL))=h3:=Heap.update_setField_same h3 t3 ot ts 3 aeL y1 y2 y3;show aen _ _ _ _ _ {s2 with heap:=h3.update t3 (agO (·.setIfInBounds 3 aeL))};rw[ade];have na1:∀b ob,s1.heap.get? b=some ob->b≠a:=λb ob z e=>by rw[e,rs.na] at z;cases z
    have K3:Inv X pins σ1 (upd H2 a (.frz oe (.own a))) {s2 with heap:=h3}:=by
     refine J3.track r3.ha x1 ?_ ?_ (λy cc z=>?_) λp hp=>?_
     ·cases z:X.s₀.heap.get? a with
      |none=>rfl
      | some ob=>
       obtain⟨o',e⟩:=I1.base.there a ob z (by rw[hex];simp);rw[rs.na] at e;cases e
     ·intro z;obtain⟨m,⟨ob,_,_,e,_⟩,_⟩:=I1.loc;exact na1 _ _ e z.symm
     ·obtain⟨v,ob,e,_⟩:=I1.cell y cc z;exact na1 _ _ e
     ·exact na1 _ _ (I1.pin p hp).1
    refine store_ok (X:=X.Gn a) (v:= .ref a) (K3.Gn a) hN hi (.inl hl) rfl (λs4 J4=>?_) (.inr hl);have jx:At X H0 O0 O1 H1' ρ1 σ1:=j1.cx rfl rfl;have sm3:Same H1' (upd H2 a (.frz oe (.own a))):=(sm.trans rs.same).trans (Same.upd r3.ha);have j4:At (X.Gn a) H0 O0 O1 (upd H2 a (.frz oe (.own a))) (ρ1.set i (some (.obj (.exc c)))) (σ1.set i (some (.ref a))):=
     ((jx.grow sm3).adR (t:= .exc c) (v:= .ref a) hin ⟨a,oe,C,rfl,upd_same,x2,x3,⟨vs,x4⟩,hC⟩).cx rfl rfl
    cases eh:h (ρ1.set i (some (.obj (.exc c)))) with
    | rt d=>
     rw[eh] at q;refine afl (hh a pins s4 _ _ {nx:=λ_ _=>False,rt:=E.rt} J4 ⟨H0,O0,O1,_,j4,by rw[eh];exact q⟩) (λf s5 z=>?_) λ_ _ z=>z.elim;cases f with
     |next=>obtain⟨_,_,_,z⟩:=z;exact z.elim
     |brk=>obtain⟨_,_,_,z⟩:=z;exact z.elim
     |cont=>obtain⟨_,_,_,z⟩:=z;exact z.elim
     | ret u=>
      obtain⟨v,σ5,H5,J5,r5,q5⟩:=z;have J5':Inv X pins σ5 H5 s5:=J5.adQ I.ok;obtain⟨m,hn,_⟩:=J5'.loc;exact wpAny_nameGoes hl hn hcls λh6 m6 hn6 hs6=>⟨v,_,H5,J5'.gone hn6 hs6,r5,q5⟩
    |bad=>rw[eh] at q;exact q.elim
    |nx _=>rw[eh] at q;exact q.elim
    |bk _=>rw[eh] at q;exact q.elim
    |ct _=>rw[eh] at q;exact q.elim
    |ex _ _=>rw[eh] at q;exact q.elim
   ·rw[if_neg hs] at q;exact q.elim
 ·cases f with
  |next=>exact ahl (z.xu I.ok)
  |brk=>exact z.xu I.ok
  |cont=>exact z.xu I.ok
  |ret u=>exact z.xu I.ok
end
structure pB(K:aeh)(C:aed):Prop where
 g1:aeY K (.ref C) "__getattribute__" =some (some (.builtin "BaseException.__getattribute__"))
 g2:aeY K (.ref C) "__getattr__" =some none
 cl:(agd K C).isSome=true
 ha:aeY K (.ref C) "__class__" =some (some (.builtin "object.__class__"))
 hn:aga K (.builtin "object.__class__") "__get__" =some (some (.builtin "getset_descriptor.__get__"))
 ht:agu K (.builtin "object.__class__")=some true
 hm:afD K C (.type "object")=some true
 hb:afD K C (.type "BaseException")=some true
section
variable{prog:aew}{w:aey}{A:aeF}{E:aef->aeg->Prop}{s:aeg}{K:aeh}{x C:aed}{ox:Obj}{od:Option Obj}
theorem Yc{K:aeh}{C:aed}{od:Option Obj}{a g:aef}(hc:(agd K C).isSome=true)(ha:aeY K (.ref C) name=some (some a))(hg:aga K a "__get__" =some (some g))(ht:agu K a=some true):PySem.W.findObj K C od name=some (.bind g a):=by
 obtain⟨cd,e⟩:=afy.mp hc;unfold PySem.W.findObj;rw[e,aha,ha,aha];simp[hg,ht]
theorem Yd{Q:Option aef->aeg->Prop}(X:K.In s.heap)(I:PySem.W.InstAt s.heap x ox C od)(F:pB K C)(h:Q (some (.ref C)) {s with toks:=s.toks+1}):aen (model prog w) A (getAttr? (.ref x) "__class__") Q E s:=by
 obtain⟨hh,g,d,t,os⟩:=s;have L0:=I.type (M:=model prog w);have L1:=aji (M:=model prog w) X F.g1;have L2:=aji (M:=model prog w) X F.g2;have L4:=PySem.W.looks_find (M:=model prog w) X I (Yc (od:=od) F.cl F.ha F.hn F.ht);have LB:=PySem.W.looks_mroIn (M:=model prog w) X F.hb;have f3:=ain.ga.bind (.ref x);unfold getAttr? getAttrBy? getAttrBy;refine aec (wpAny_mkText (aec (agv (afT (aec (L0.at (aec (L1.at ?_))))))));have hx1:(onTheHeap (aez C) && afW "BaseException.__getattribute__" ==afW "object.__getattribute__")=false:=by
  rw[show (afW "BaseException.__getattribute__" ==afW "object.__getattribute__")=false from by decide +kernel];exact ajb _
 dsimp only
 rw[hx1,if_neg aeO];unfold getAttrByItsOwn hookBefore;rw[if_pos (show onTheHeap (aez C)=true from rfl)];refine aec (L2.at (aec (agv (afT ?_))));unfold callGetattribute;rw[ah8,if_neg aeO];unfold boundAndCalled;rw[f3];refine aec (aej ?_);refine ahW (codeAny_call_builtin ain.ga.plain PySem.F.entry_bexc_ga ?_);have hk:builtinKind "BaseException.__getattribute__" =some .slot:=by decide +kernel
 have hsp:splitId "BaseException.__getattribute__" =some ("BaseException","__getattribute__"):=by decide +kernel
 have ha:=PySem.F.args_bexc_ga (.ref x) (.str (afS "__class__") t);simp only[aiW,hk,hsp,aiX,ahu];unfold isInstance;refine aec (aec (L0.at (LB.at ?_)));rw[ait,if_neg aeO];refine agn (a:=()) ha ?_;unfold afH.«object.__getattribute__»;refine aec (aej ?_);refine aec (aej ?_);refine aec (L0.at (aec (L4.at ?_)));show aen _ _ (holding [afW "object.__class__"] (call (afW "getset_descriptor.__get__") [afW "object.__class__",.ref x,.ref C]) >>=ret) _ _ _;refine aec (afT (ahW (PySem.W.class_get (s:=⟨hh,g,d,t+1,os⟩) (od:=od) X I F.hm (aej ?_))));exact PySem.W.handed_on rfl (aej h)
theorem ZR(F:pB K C):PySem.W.KitX K (.ref x) (.ref C) (λh=>PySem.W.InstAt h x ox C od) where
 ty:=λ_ _ _ I=>I.type
 it :=λ_ _ X _=>by
  obtain⟨cd,hcd⟩:=afy.mp F.cl;unfold agd at hcd;split at hcd
  ·rename_i v1 v2 v3 v4 ho;intro A' Q' E' s' k q;unfold isType loadHead;exact aec (wpAny_loadPart (k _ _ (X _ _ ho)) (aej q))
  ·cases hcd
 ne :=λh tp dd its n sl X htp=>by
  obtain⟨cd,hcd⟩:=afy.mp F.cl;refine Bool.eq_false_iff.mpr λq=>?_;have e:C=tp:=Value.ref.inj (beq_iff_eq.mp q);subst e;unfold agd at hcd;split at hcd
  ·rename_i v1 v2 v3 v4 ho;cases (X _ _ ho).symm.trans htp
  ·cases hcd
 ca:=λX I k=>Yd X I F k
end
section
variable{X:Cx}{sub:Str->Str->Bool}
theorem VG{T:Str}{vt:V}{ut:aef}(hut:∀u,RelV vt u->u=ut)(hq:∀c C,sub c c=true->aep X.K ael c=some (some (.ref C))->pB X.K C/\aek X.K (.ref C) ut=some (sub c T)):
  CallR X (.builtin "isinstance") (λxs H Q=>∃x c,xs=[x,vt]/\sub c c=true/\qb X.K H (.exc c) x/\Q (.bl (sub c T)) H):=by
 intro pins s σ H xs us Q I r h;obtain⟨x,c,rfl,hc,⟨a,o,C,rfl,hH,h1,h2,⟨vs,h3⟩,h4⟩,q⟩:=h;obtain⟨u,u2,rfl,rx,r2⟩:=vals2 r;cases (show u=aez a from rx);cases hut u2 r2;obtain⟨F,e⟩:=hq c C hc h4;obtain⟨ho,_⟩:=I.hok a _ hH;refine agt (ZR (x:=a) (ox:=o) (od:=none) F) I.kIn ⟨ho,h1,by unfold PySem.W.notCls;rw[h3],by rw[h2];trivial⟩ e (λz=>nomatch z) λtk=>⟨.bl _,H,I.tok _,rfl,q⟩
theorem vh(i:Nat){T n:Str}{vt:V}{ut:aef}{p p1 p2:Pos}(hg:Gl X "isinstance")(hm:X.mg "isinstance" =none)(hT:PE X (.Name T p2) (tC vt))(hut:∀u,RelV vt u->u=ut)
  (hq:∀c C,sub c c=true->aep X.K ael c=some (some (.ref C))->pB X.K C/\aek X.K (.ref C) ut=some (sub c T))
  (hN:X.N[i]?=some n:=by rfl)(hv:Vis X.env.scope n:=by first |exact afo rfl |exact afa (afo rfl) |exact afa (afa rfl))(hd:(n ==("__debug__" :Str))=false:=by decide)(hcd:(n ==("__classdict__" :Str))=false:=by decide)
  (hs:aei [.Name n p1,.Name T p2] X.env=(false,eval (.Name n p1) X.env)::aei [.Name T p2] X.env:=by rfl)(hs2:aei [.Name T p2] X.env=(false,eval (.Name T p2) X.env)::aei [] X.env:=by rfl)(hpl:(ae7 pos (aei [.Name T p2] X.env)).any (·.1)=false:=by rfl):
  DE X (.Call (.Name "isinstance" p) [.Name n p1,.Name T p2] [] pos) (lC sub i T):=by
 refine PE.imp (pe_callB (VG (T:=T) hut hq) hg hm af3 (pa_cons (pe_var hN hv hd hcd) (pa_cons hT pa_nil hs2) hs) (by decide) (by decide) hs hpl) λσ H Q h=>?_;obtain⟨ρ,O,j,h⟩:=h;unfold lC at h;cases q:ρ[i]? with
 |none=>rw[q] at h;exact h.elim
 | some oe =>
  rw[q] at h;cases oe with
  |none=>exact h.elim
  | some en=>
   cases en with
   |val _=>exact h.elim
   |lst _=>exact h.elim
   |Ay _=>exact h.elim
   |rws _=>exact h.elim
   | obj t=>
    cases t with
    |fn _=>exact h.elim
    | exc c=>
     have h:good X (rD X) O (if sub c c=true then .ok (.bl (sub c T)) else .bad) σ H Q:=h;by_cases hc:sub c c=true
     ·rw[if_pos hc] at h;obtain⟨v,hv1,hv2⟩:=j.env.get i _ q;exact⟨v,hv1,v,c,rfl,hc,hv2,fin h (gF _)⟩
     ·rw[if_neg hc] at h;exact h.elim
end
section
variable{X:Cx}{tg a:aer}{p pos:Pos}{fa:aB->R (List D)}
end
section
variable{X:Cx}
theorem abk:OpR X (afs .Mult) (λx y H Q=>∃a k xs,x= .ref a/\y= .int k/\SqL X.K H a xs/\1<=k/\k<2^63/\xs.length*k.toNat<=1000000/\∀p,H p=none->Q (.ref p) (upd H p (.lst (aem k.toNat xs).flatten))):=by
 intro pins s σ H x y v u Q I rx ry h;obtain⟨a,k,xs,rfl,rfl,hq,h1,h2,hz,q⟩:=h;cases rx;obtain⟨t,rfl⟩:=ry;obtain⟨its,r,p1,_⟩:=I.list hq;obtain⟨⟨cls,dd,data,sl⟩,ho,hc,n,hd⟩:=id p1.isList;simp only at hc hd;subst hc hd;have hlen:=r.length;have hz':its.toArray.size*k.toNat<=1000000:=by rw[z1c,<-hlen];exact hz
 have hz2:its.length*k.toNat<=1000000:=by rw[<-hlen];exact hz
 refine wpAny_binaryOp_repeat_ref (T:= "list") (U:= "int") (by decide) ⟨_,ho,rfl⟩ (λs'=>aiD s' k t) noFill_list_mul F.fills_int_mul F.slot_int_rmul repeat_list F.slot_int_index.lookup
  (agA F.slot_int_rmul (aiD s k t) F.entry_int_rmul (F.args_int_rmul_2 _ _) (lm_int_rmul_list_any k t a its.toArray n dd sl) ⟨ho,rfl,⟨_,ho,rfl⟩,?_⟩)
 refine agA F.slot_list_mul ⟨_,ho,rfl⟩ F.entry_list_mul (F.args_list_mul_2 _ _) (lm_list_mul_any a its.toArray n dd sl k t (by simp[Builtin.List.listFitsIndex];omega) (by omega) (by simp[agJ,sizeLine];omega)) ⟨ho,?_⟩;rw[listMul_foldl_if];refine⟨.ref s.heap.objs.size,_,I.laid (t':=s.toks) (o:= .lst (aem k.toNat xs).flatten) (λb ob z=>z1a _ z) (z0g _) ?_,rfl,q _ (I.hok.fresh (z0g _))⟩;exact⟨by rw[len_rep,Nat.mul_comm];exact z0b hz fQ,_,_,r.rep k.toNat,z1f _ rfl⟩
theorem ux:lu X (afs .Mult) mulL:=by
 obtain⟨r0,o0,c0⟩:=gQ (X:=X);refine⟨_,OpR.or o0 abk,λρ O σ H Q x y dx dy j0 rx ry h=>?_⟩;cases dx with
 | lst ds=>
  cases dy with
  | int k=>
   have h:good X (rD X) O (if ds≠[]/\1<=k/\k<2^63/\ds.length*k.toNat<=1000000 then .ok (.lst (aem k.toNat ds).flatten) else .bad) σ H Q:=h;by_cases hc:ds≠[]/\1<=k/\k<2^63/\ds.length*k.toNat<=1000000
   ·rw[if_pos hc] at h;obtain⟨a,us,rfl,ha,hn,r1⟩:=rx.lst;obtain⟨h0,h1,h2,h3⟩:=hc;exact .inr ⟨a,k,us,rfl,ry.int,ha,h1,h2,by rw[<-r1.length];exact h3,λl hl=>h _ _ (Same.upd hl) (Rep.mQ hl (j0.uJ hl) (Hr r1 _))⟩
   ·rw[if_neg hc] at h;exact h.elim
  |_=>exact h.elim
 |_=>exact .inl (c0 ρ O σ H Q x y _ _ j0 rx ry h)
end
theorem Tb.same{H':Hp}(t:Tb ts H)(s:Same H H'):Tb ts H':=λp hp=>let⟨ps,tq,e,q⟩:=t p hp;⟨ps,tq,s _ _ e,q⟩
theorem Tb.fewer{us:List (aed×Str)}(t:Tb ts H)(h:∀p∈us,p∈ts):Tb us H:=λp hp=>t p (h p hp)
theorem Jq{α β:Type}{F:α->β->Prop}:∀{es:List α} {vs:List β} {i:Nat} {e:α},Paired F es vs->es[i]?=some e->∃v,vs[i]?=some v/\F e v
 |_,_,_,_,.nil,h=>by simp at h
 |_,_,0,_,.cons r _,h=>by simp at h;subst h;exact⟨_,rfl,r⟩
 | _,_,i+1,e,.cons _ t,h=>by
  obtain⟨v,h1,h2⟩:=Jq (i:=i) (e:=e) t (by simpa using h);exact⟨v,by simpa using h1,h2⟩
theorem VH{β:Type}{F:α->β->Prop}:∀{es:List α} {vs:List β},Paired F es vs->es.length=vs.length
 :=by
 intro es vs h
 induction h with
 |nil=>rfl
 |cons r t ih=>rw[aeC,aeC,ih]
theorem Jr{β:Type}{F:α->β->Prop}:∀{es fs:List α} {vs ws:List β},Paired F es vs->Paired F fs ws->Paired F (es++fs) (vs++ws)
 :=by
 intro es fs vs ws h q
 induction h with
 |nil=>exact q
 |cons r t ih=>exact .cons r ih
abbrev acw(K:aeh)(O:aed->Prop)(H:Hp):Ent->V->Prop:=λe v=>sE K O H e v/\e.own=false
theorem rN{K:aeh}{O:aed->Prop}{H:Hp}:∀{ds:List D} {vs:List V},aU K O H ds vs->Paired (acw K O H) (ds.map .val) vs
 |[],vs,r=>by rw[r.nil_inv];exact .nil
 | d::ds,vs,r=>by
  obtain⟨x,t,rfl,h1,h2⟩:=r.cons_inv;exact .cons ⟨h1,rfl⟩ (rN h2)
theorem zA{X:Cx}{es:List Ent}{m:Nat}(hl:X.N.length=es.length+m)(r:Paired (acw X.K O H) es vs)(al:∀a,O a->∃o,H a=some o):
  At X H O O H (es.map some++aem m none) (vs.map some++aem m none):=by
 have hlen:=VH r;have get:∀(i:Nat) e,(es.map some++aem m none)[i]?=some (some e)->∃v,(vs.map some++aem m none)[i]?=some (some v)/\sE X.K O H e v/\e.own=false:=λi e q=>by
  by_cases hi:i<es.length
  ·rw[ae5 (by simpa using hi),z2b] at q;cases z:es[i]? with
   |none=>rw[z] at q;cases q
   | some e'=>
    rw[z] at q;cases q;obtain⟨v,h1,h2,h3⟩:=Jq r z;exact⟨v,by rw[ae5 (by rw[z1g,<-hlen];exact hi),z2b,h1];rfl,h2,h3⟩
  ·rw[aeT (by simpa using hi),afA] at q;split at q <;> cases q
 refine⟨Same.refl _,.refl,λ_ z=>z,⟨⟨λi e q=>?_,λi k e e' v _ hi _ oi=>?_,λi k rows a rs e v _ hi=>by obtain⟨_,_,_,h3⟩:=get i _ hi;cases h3⟩,al,?_,?_⟩,λi e a q ho=>?_,λi rows a rs q=>by obtain⟨_,_,_,h3⟩:=get i _ q;cases h3⟩
 ·obtain⟨v,h1,h2,_⟩:=get i e q;exact⟨v,h1,h2⟩
 ·obtain⟨_,_,_,h3⟩:=get i e hi;rw[h3] at oi;cases oi
 ·rw[z1d,z1g,afh,<-hlen];exact hl.symm
 ·rw[z1d,z1g,afh];exact hl.symm
 ·obtain⟨_,_,_,h3⟩:=get i e q;rw[h3] at ho;cases ho
theorem zB{m:Nat}(h:N.length=vs.length+m):L2.start N vs=vs.map some++aem m none:=by
 unfold L2.start;rw[show N.length - vs.length=m by omega]
def spT(ts:List (aed×Str))(K:aeh)(n:Nat)(F:List D->R D):Sp:=λvs H Q E=>Tb ts H/\Qy K n F vs H Q E
section
variable{P:aew}{w:aey}{K:aeh}{mg:Str->Option aef}{base:aes}
def iz(m:Nat)(g:aB->So)(es:List Ent):R D:=match g (es.map some++aem m none) with
 | .rt d=> .ok d
 | .nx _=> .ok .non
 |_=> .bad
theorem UJ{X:Cx}{m:Nat}{g:aB->So}{es:List Ent}{Q:VK}(h:match iz m g es with | .ok d=>∀v H',Same H H'->Rep X.K O H' d v->Q v H' |_=>False):
  yq X H O O H {nx:=λ_ H'=>Q .non H',rt:=Q} (g (es.map some++aem m none)):=by
 unfold iz at h;cases e2:g (es.map some++aem m none) with
 |rt d=>rw[e2] at h;exact λv H' s' r'=>h v H' s' r'
 |nx ρ'=>rw[e2] at h;exact λσ' H' O' j' _=>h .non H' j'.same p8
 |bk _=>rw[e2] at h;exact h.elim
 |ct _=>rw[e2] at h;exact h.elim
 |ex _ _=>rw[e2] at h;exact h.elim
 |bad=>rw[e2] at h;exact h.elim
theorem fnT{x:Str}{st:aeA}{f:aed}{fd:aeZ}{m:Nat}{g:aB->So}(Fn:Fun K x qual st f fd)(S:FnScope N ps (defScope st))(hn:ps.length=n)(hm:N.length=n+m)
  (hb:∀(cdv:aef) (A:aeF) (outer:List afd) (s:aeg) (H:Hp) (E:XK),fd.code=cdv->Room k (A.deeper (afC qual (defScope st) s.heap.objs.size f cdv))->Tb ts H->jW (cxOf CX0 P w K mg base N qual (defScope st) f cdv A outer s H E).nox (defBody st) g):
  FnOk P w K mg base CX0 (k+1) f fd ps (spT ts K n (λds=>iz m g (ds.map .val))):=by
 obtain⟨oc,od,kV,doc,pm,an,cdv,ct,osl,rfl,lk,hcd⟩:=Fn.ex;refine fn_of lk hcd S (λvs H Q E h=>?_) λA outer s H vs Q E hr h=>?_
 ·obtain⟨_,O,ds,r,hl,_⟩:=h;rw[hn,<-hl,r.length]
 ·obtain⟨hT,O,ds,r,hl,al,h⟩:=h;have yE:N.length=vs.length+m:=by rw[hm,<-hl,r.length]
  refine⟨_,(hb cdv A outer s H E rfl hr hT).nox,H,O,O,(ds.map Ent.val).map some++aem m none,?_,UJ h⟩;rw[zB yE];exact zA (X:=(cxOf CX0 P w K mg base N qual (defScope st) f cdv A outer s H E).nox) (by rw[z1g,r.length];exact yE) (rN r) al
end
def ZS(P:aew)(w:aey)(K:aeh)(mg:Str->Option aef)(base:aes)(k:Nat)(x:Str)(n:Nat)(F:List D->R D)(fd:aeZ)(ps:List Str)(ts:List (aed×Str)):Prop:=
 ∃f,FnOk P w K mg base CX0 k f fd ps (spT ts K n F)/\mg x=some (.ref f)/\ae2 K (.ref f)=true
section
variable{X:Cx}{k m n:Nat}{fd:aeZ}{ps ks:List Str}{F:List D->R D}{x:Str}{p pos:Pos}{e:aer}{es:List aer}{kws:List af7}{fa fk:aB->R (List D)}{ts:List (aed×Str)}
theorem acy(G:ZS X.prog X.w X.K X.mg X.base k x n F fd ps ts)(hT:Tb ts X.H₀)(hr:Room m X.A)(hkm:k<=m)(hb:Binds X.K fd ps [])(ha:DA X (e::es) fa)(hg:Gl X x:=by rfl)
  (hdb:(x ==("__debug__" :Str))=false:=by decide)(he:aei (e::es) X.env=(false,eval e X.env)::aei es X.env:=by rfl)(hpl:(ae7 pos (aei es X.env)).any (·.1)=false:=by rfl):
  DE X (.Call (.Name x p) (e::es) [] pos) (aH (aY F n) fa):=by
 obtain⟨f,ok,hm,hk⟩:=G;intro pins s σ H Q I h;refine pe_call (dvs:=[]) (ok.mono hkm) hr hg hm hk hb .nil pass0 ha hdb he hpl pins s σ H Q I ?_;obtain⟨ρ,O,j,h⟩:=h;refine go j h λds vs H1 e1 s1 r1 j1 h1=>?_;unfold aY at h1;by_cases hl:ds.length=n
 ·rw[if_pos hl] at h1;rw[afg];refine⟨(hT.un I.base).same s1,O,ds,r1,hl,j1.al,?_⟩;cases q:F ds with
  |ok d=>rw[q] at h1;exact h1
  |err c=>rw[q] at h1;exact h1
  |bad=>rw[q] at h1;exact h1
 ·rw[if_neg hl] at h1;exact h1.elim
end
theorem Gp{a b:Int}{s t:Tok}{c:aef}(l:List aef)(h:ahx l):ahx (l++[.int a s,.int b t,c]):=by
 fun_induction ahx l with
 |case1=>simp[ahx]
 |case2 x1 x2 x3 x4 x5 rest ih=>simp only[aiX,ahx];exact ih h
 |case3=>exact h.elim
theorem Nv{a b:Int}{s t:Tok}{c cv:aef}(l:List aef)(h:ahx l)(e:ag3 pos (l++[.int a s,.int b t,c])=some cv):ag3 pos l=some cv\/cv=c:=by
 fun_induction ahx l with
 | case1=>
  simp only[ahu,ag3] at e;split at e
  ·cases e;exact .inr rfl
  ·cases e
 | case2 x1 x2 x3 x4 x5 rest ih=>
  simp only[aiX,ag3] at e |-;split at e
  ·rename_i z;rw[if_pos z];exact .inl e
  ·rename_i z;rw[if_neg z];exact ih h e
 |case3=>exact h.elim
inductive lW (H:Hp) (a:aed) (name qual:Str) (params:afN) (body:List aeA) (scope:afz) (clos:List (Str×aed)):Prop
 |mk (fo:Obj) (doc pm:aef) (c':aed) (ctv:aef) (oc:Obj) (vs:Array aef) (t:Tok) (h1:H a=some (.frz fo (.own a))) (h2:fo.data= .func (PySem.W.fnX name qual params body scope clos .none .none doc pm none (.ref c') ctv)) (h3:H c'=some (.frz oc (.own c'))) (h4:oc.data= .fields vs) (h5:vs[1]?=some (.str qual t)):lW H a name qual params body scope clos
theorem lW.fz{H':Hp}{a:aed}(h:lW H a name qual params body scope clos)(s:∀b o u,H b=some (.frz o u)->H' b=some (.frz o u)):lW H' a name qual params body scope clos:=
 by
 obtain⟨fo,doc,pm,c',ctv,oc,vs,t,h1,h2,h3,h4,h5⟩:=h;exact⟨fo,doc,pm,c',ctv,oc,vs,t,s _ _ _ h1,h2,s _ _ _ h3,h4,h5⟩
structure iB(base:aes)(mg:Str->Option aef)(c P:aed):Prop where
 code:ag1 base c P
 blt:∃bm ob,mg "__builtins__" =some (.ref bm)/\bm≠agP/\base.get? bm=some ob/\ob.cls= .type "module"/\ob.dict=some agP/\ob.data= .plain
section
variable{X:Cx}{pins:List (aed×Obj)}{σ:St}{H:Hp}{s:aeg}
theorem abl{M:Model}{A:aeF}{E:aef->aeg->Prop}{line:Nat}{c P:aed}{ps:Array aef}{tq:Tok}
  (I:Inv X pins σ H s)(hB:iB X.base X.mg c P)(hc:X.env.code= .ref c)(e0:H P=some (.tbl ps))(q0:ps[0]?=some (.str qual tq))(hcl:ag7 scope X.env=pure clos):
  aen M A (makeFunction name qual params (.stmts body) scope X.env [] [] [] pos line) (λv s'=>∃a H1,v= .ref a/\Inv X pins σ H1 s'/\Same H H1/\lW H1 a name qual params body scope clos) E s:=by
 obtain⟨qs,hP,tr,al⟩:=I.hok P _ e0;have hgs:s.heap.Ns ael X.mg:=I.mod.glob.keeps I.bk;have C:ag1 s.heap c P:=hB.code.keeps I.bk;obtain⟨bm,ob,b1,b2,b3,b4,b5,b6⟩:=hB.blt;have hgP:ael≠P:=λq=>by
  obtain⟨o,es,ep,e,hd,_⟩:=hgs;rw[q,hP] at e;cases e;cases hd
 have hbP:bm≠P:=λq=>by
  have e:=I.bk _ _ b3;rw[q,hP] at e;cases e;cases b4
 have hbG:bm≠ael:=λq=>by
  obtain⟨o,es,ep,e,hd,_⟩:=I.mod.glob;rw[q,e] at b3;cases b3;rw[hd] at b6;cases b6
 have hbb:s.heap.BuiltinsAt X.mg P:=⟨bm,ob,b1,b2,hbG,hbP,I.bk _ _ b3,b4,b5,b6⟩;cases hf:ag3 pos qs.toList with
 | some cv=>
  obtain⟨c',oc,vs,q,t,tq',rfl,h1,h2,h3,h4⟩:=al pos cv hf;rw[q0] at h4;cases h4;refine PySem.W.makeFunction_hit (mg:=X.mg) hcl I.ok.glob hgs hc C hP tr hf hbb λctv doc h' tk hk hsz=>?_;have I1:Inv X pins σ H {s with heap:=h',toks:=tk}:=I.kept (t':=tk) hk;have hn:H h'.objs.size=none:=I1.hok.fresh (z0g _);refine⟨h'.objs.size,upd H h'.objs.size (.frz _ (.own h'.objs.size)),rfl,I1.laid (t':=tk) (λb u z=>z1a _ z) (z0g _) ⟨z1f _ rfl,_,z1f _ rfl⟩,Same.upd hn,?_⟩;exact⟨_,doc,_,c',ctv,oc,vs,t,upd_same,rfl,by rw[upd_ne (ne_of_none h1 hn)];exact h1,h2,h3⟩
 | none =>
  refine PySem.W.makeFunction_K (mg:=X.mg) hcl I.ok.glob hgs hc C hP tr hf hgP hbb λc' ctv doc h' tk hx hge hlt hrec htb=>?_;obtain⟨c2,oc,vs,t,e2,hoc,hd,hv⟩:=hrec;cases e2;have hn:H c'=none:=I.hok.fresh hge;have old:∀b u,H b=some u->upd H c' (.frz oc (.own c')) b=some u:=λb u z=>by rw[upd_ne (ne_of_none z hn)];exact z
  have I1 : Inv X pins σ (upd H c' (.frz oc (.own c'))) {s with heap:=h',toks:=tk}:=by
   refine I.call' (ch:=[]) rfl ⟨λb o q n _ _=>hx b o (λz=>by rw[z,e0] at n;cases n) q,λb o q n _ _=>⟨o.slots,hx b o (λz=>by rw[z,e0] at n;cases n) q⟩,λb o q n _=>?_,λb o q _=>?_,λb xs q=>old _ _ q,λb o u q=>old _ _ q,λb p q=>⟨#[],by rw[old _ _ q];simp⟩⟩ (λb u q=>?_) I.bare (λb z=>absurd z (by simp))
   ·rw[upd_ne (aeN (z0d (z2c q) hge))];exact n
   ·by_cases hb:b=P
    ·rw[hb];exact⟨_,htb⟩
    ·exact⟨o,hx b o hb q⟩
   ·by_cases hb:b=c'
    ·subst hb;rw[upd_same] at q;cases q;exact⟨hoc,oc,hoc⟩
    ·rw[upd_ne hb] at q;by_cases hp:b=P
     ·subst hp;rw[e0] at q;cases q;refine⟨_,htb,?_,λp cv z=>?_⟩
      ·have:=Gp (a:=pos.line) (s:=0) (b:=pos.col) (t:=0) (c:=aez c') qs.toList tr;simpa[ae8] using this
      ·have z':ag3 p (qs.toList++[.int pos.line 0,.int pos.col 0,.ref c'])=some cv:=by simpa[ae8] using z
       rcases Nv _ tr z' with z1 |z1
       ·obtain⟨c3,o3,v3,q3,t3,tq3,y1,y2,y3⟩:=al p cv z1;exact⟨c3,o3,v3,q3,t3,tq3,y1,old _ _ y2,y3⟩
       ·exact⟨c',oc,vs,qual,t,tq,z1,upd_same,hd,hv,q0⟩
     ·exact (I.hok b u q).stay (λd v hd z=>hx d v (λy=>hd.elim (λx=>hp (x.symm.trans y)) λx=>by rw[y,e0] at x;cases x) z) (λd z=>old _ _ z) (λd xs z=>old _ _ z) λd o u _ z=>old _ _ z
  have hn2:upd H c' (.frz oc (.own c')) h'.objs.size=none:=I1.hok.fresh (z0g _);refine⟨h'.objs.size,upd (upd H c' (.frz oc (.own c'))) h'.objs.size (.frz _ (.own h'.objs.size)),rfl,I1.laid (t':=tk) (λb u z=>z1a _ z) (z0g _) ⟨z1f _ rfl,_,z1f _ rfl⟩,(Same.upd hn).trans (Same.upd hn2),?_⟩;exact⟨_,doc,_,c',ctv,oc,vs,t,upd_same,rfl,by rw[upd_ne (aeN hlt),upd_same],hd,hv⟩
def adT(i:Nat)(name qual:Str)(params:afN)(body:List aeA)(scope:afz)(clos:List (Str×aed)):TS:=λD σ H=>∀a H1,Same H H1->lW H1 a name qual params body scope clos->D.nx (σ.set i (some (.ref a))) H1
theorem acz(i:Nat){c P:aed}(hN:X.N.Nodup)(hB:iB X.base X.mg c P)(hT:Tb [(P,qual)] X.H₀)(hc:X.env.code= .ref c)(hcl:ag7 scope X.env=pure clos)
  (hi:X.N[i]?=some name:=by rfl)(hl:Loc X.env.scope name:=by first |exact afo rfl |exact afa rfl)(hq:qualnameIn X.env name name=qual:=by rfl)(hd0:params.defaults=[]:=by rfl)(hk0:params.kw_defaults=[]:=by rfl)(ha:annTrees params none X.env=[]:=by rfl)
  (hf:X.fn name=true\/X.env.scope.names.lookup name=some .local:=by first |exact .inl rfl |exact .inr rfl):PS X (.FunctionDef name params body [] none [] scope none name pos) (adT i name qual params body scope clos):=by
 intro pins s σ H D I h;obtain⟨ps,tq,e0,q0⟩:=(hT.un I.base) (P,qual) (by simp);refine PySem.W.nestDef_K hd0 hk0 ha ?_;rw[hq];refine afl (abl I hB hc e0 q0 hcl) (λv s1 ⟨a,H1,ev,I1,sm,fh⟩=>?_) λ_ _ z=>z;subst ev;exact store_ok I1 hN hi hl (v:= .ref a) rfl (λs2 I2=>⟨_,H1,I2,h a H1 sm fh⟩) hf
end
def pC(P:aew)(w:aey)(K:aeh)(mg:Str->Option aef)(base:aes)(k:Nat)(G:List D->R D)(n:Nat)(a:aed)(H:Hp):Prop:=
 ∀(A:aeF) (outer:List afd) (s:aeg) (H1:Hp) (us:List aef) (vs:List V) (Q:VK) (E:XK),Room k A->Env0 P w K mg base A outer s H1->(∀b o u,H b=some (.frz o u)->H1 b=some (.frz o u))->Vals vs us->Qy K n G vs H1 Q E->
  ahi (model P w) A (.call (.ref a) ⟨us,[]⟩) (CR CX0 outer P w H1 s Q E) s
def FN(i a:Nat)(G:List D->R D)(n:Nat)(fa:aB->R (List D)):aB->R D:=λρ=>match ρ[i]? with
 |some (some (.obj (.fn b)))=>if b=a then (fa ρ).bind (aY G n) else .bad
 |_=> .bad
section
variable{X:Cx}{k m n:Nat}{G:List D->R D}{x:Str}{p pos:Pos}{e:aer}{es:List aer}{fa:aB->R (List D)}{a:aed}
theorem Q5(i:Nat)(hc:pC X.prog X.w X.K X.mg X.base k G n a X.H₀)(hr:Room m X.A)(hkm:k<=m)(ha:DA X (e::es) fa)(hN:X.N[i]?=some x:=by rfl)(hv:Vis X.env.scope x:=by first |exact afo rfl |exact afa (afo rfl) |exact afa (afa rfl))
  (hd:(x ==("__debug__" :Str))=false:=by decide)(hcd:(x ==("__classdict__" :Str))=false:=by decide)(he:aei (e::es) X.env=(false,eval e X.env)::aei es X.env:=by rfl)(hpl:(ae7 pos (aei es X.env)).any (·.1)=false:=by rfl):
  DE X (.Call (.Name x p) (e::es) [] pos) (FN i a G n fa):=by
 intro pins s σ H Q I h;obtain⟨ρ,O,j,h⟩:=h;unfold FN at h;split at h
 ·rename_i b q;by_cases hb:b=a
  ·subst hb;rw[if_pos rfl] at h;obtain⟨v,hv1,rfl,o,fd,ho,hod⟩:=j.env.get i _ q;have at':∀{s':aeg} {H':Hp},Inv X pins σ H' s'->Same H H'->PySem.W.FnAt b s'.heap:=λ{s' H'} I' sm=>by
    obtain⟨ho',_⟩:=I'.hok b _ (sm _ _ ho);obtain⟨v1,v2,v3,v4⟩:=o;have hod:v3= .func fd:=hod;subst hod;exact⟨v1,v2,fd,v4,ho'⟩
   refine afY (thn (pe_var hN hv hd hcd pins s σ H (λv H1=>v= .ref b/\H1=H) I ⟨_,hv1,rfl,rfl⟩) λu s1 bQ=>?_);obtain⟨v',H1,I1,r1,e1,e2⟩:=bQ;subst e1 e2;cases (show u=aez b from r1);have key:tG X (M9 X) fa σ H1 (λvs H2=>Same H1 H2/\Qy X.K n G vs H2 Q E0):=by
    refine go j h λds vs H2 e1 s2 r2 j2 h2=>⟨s2,?_⟩;unfold aY at h2;by_cases hl:ds.length=n
    ·rw[if_pos hl] at h2;refine⟨O,ds,r2,hl,j2.al,?_⟩;cases q:G ds with
     |ok d=>rw[q] at h2;exact h2
     |err c=>rw[q] at h2;exact h2
     |bad=>rw[q] at h2;exact h2
    ·rw[if_neg hl] at h2;exact h2.elim
   refine PySem.W.callWith_F (at' I1 (Same.refl _)) (thn (ha pos pins s1 σ H1 _ I1 key) λus s2 ⟨vs,H2,I2,r,sm,q2⟩=>⟨at' I2 sm,?_⟩) he hpl;refine ahW (agX (hc X.A X.stack s2 H2 us vs Q E0 (hr.mono hkm) I2.env0 I2.base.frzs r q2) λr s' hq=>?_);cases r with
   |error e=>exact pass0 pins σ H2 s2 e s' I2 hq
   | ok fl=>
    cases fl with
    |ret u=>exact I2.after hq
    |next=>exact ae4 hq
    |brk=>exact ae4 hq
    |cont=>exact ae4 hq
  ·rw[if_neg hb] at h;exact h.elim
 ·exact h.elim
end
inductive SpS (P:aew) (w:aey) (mg:Str->Option aef) (base:aes) (k:Nat) (K:aeh) (n q:Nat) (F:aed->(List D->R D)->List D->R D) (vs:List V) (H:Hp) (Q:VK):Prop
 | mk (O:aed->Prop) (ds:List D) (xs:List V) (a:aed) (G:List D->R D) (e:vs=xs++[.ref a]) (r:aU K O H ds xs) (hl:ds.length=n) (al:∀b,O b->∃o,H b=some o) (ro:qb K H (.fn a) (.ref a)) (hc:pC P w K mg base k G q a H) (h:match F a G ds with
  | .ok d=>∀v H',Same H H'->Rep K O H' d v->Q v H'
  |_=>False):SpS P w mg base k K n q F vs H Q
def spS(P:aew)(w:aey)(mg:Str->Option aef)(base:aes)(k:Nat)(K:aeh)(n q:Nat)(F:aed->(List D->R D)->List D->R D):Sp:=λvs H Q _=>SpS P w mg base k K n q F vs H Q
section
variable{P:aew}{w:aey}{K:aeh}{mg:Str->Option aef}{base:aes}
theorem fnS{x:Str}{st:aeA}{f:aed}{fd:aeZ}{kG m q:Nat}{g:aed->(List D->R D)->aB->So}(Fn:Fun K x qual st f fd)(S:FnScope N ps (defScope st))(hn:ps.length=n+1)(hm:N.length=n+1+m)
  (hb:∀(cdv:aef) (A:aeF) (outer:List afd) (s:aeg) (H:Hp) (E:XK) (a:aed) (G:List D->R D),Room k (A.deeper (afC qual (defScope st) s.heap.objs.size f cdv))->pC P w K mg base kG G q a H->jW (cxOf CX0 P w K mg base N qual (defScope st) f cdv A outer s H E).nox (defBody st) (g a G)):
  FnOk P w K mg base CX0 (k+1) f fd ps (spS P w mg base kG K n q (λa G ds=>iz m (g a G) (ds.map .val++[.obj (.fn a)]))):=by
 obtain⟨oc,od,kV,doc,pm,an,cdv,ct,osl,rfl,lk,hcd⟩:=Fn.ex;refine fn_of lk hcd S (λvs H Q E h=>?_) λA outer s H vs Q E hr h=>?_
 ·obtain⟨O,ds,xs,a,G,rfl,r,hl,_⟩:=h;rw[hn,z1d,<-r.length,hl];rfl
 ·obtain⟨O,ds,xs,a,G,rfl,r,hl,al,ro,hc,h⟩:=h;have yE:N.length=(xs++[V.ref a]).length+m:=by rw[hm,z1d,<-r.length,hl];rfl
  refine⟨_,(hb cdv A outer s H E a G hr hc).nox,H,O,O,(ds.map Ent.val++[Ent.obj (.fn a)]).map some++aem m none,?_,UJ h⟩;rw[zB yE];refine zA (X:=(cxOf CX0 P w K mg base N qual (defScope st) f cdv A outer s H E).nox) (by rw[z1d,z1g,r.length];rw[z1d] at yE;exact yE) (Jr (rN r) (.cons ⟨ro,rfl⟩ .nil)) al
end
def del(H:Hp)(c:aed):Hp:=λb=>if b=c then none else H b
theorem jM{c:aed}:del H c c=none:=if_pos rfl
theorem eG{b c:aed}(h:b≠c):del H c b=H b:=if_neg h
theorem ZV{b c:aed}{u:HO}(h:del H c b=some u):b≠c/\H b=some u:=by
 by_cases e:b=c
 ·rw[e,jM] at h;cases h
 ·rw[eG e] at h;exact⟨e,h⟩
section
variable{P:aew}{w:aey}{H:Hp}{h:aes}{c:aed}{co:Obj}{u:Option aef}
theorem UL(x:HOk P w H h)(hc:H c=some (.frz co (.own c)))(hd:co.data= .cell u):HOk P w (del H c) h:=λb v q=>by
 obtain⟨nb,q⟩:=ZV q;refine (x b v q).stay (λ_ _ _ z=>z) (λd z=>?_) (λd xs z=>?_) λd o v' hv z=>?_
 ·rw[eG (λe=>by rw[e,hc] at z;cases z)];exact z
 ·rw[eG (λe=>by rw[e,hc] at z;cases z)];exact z
 ·rw[eG (λe=>by rw[e,hc] at z;cases z;obtain⟨vs,y⟩:=hv;rw[hd] at y;cases y)];exact z
theorem UW(x:HOk P w H h)(hn:H c=none)(ho:h.get? c=some co):HOk P w (upd H c (.frz co (.own c))) h:=λb v q=>by
 have old:∀b u,H b=some u->upd H c (.frz co (.own c)) b=some u:=λb u z=>by rw[upd_ne (ne_of_none z hn)];exact z
 by_cases hb:b=c
 ·subst hb;rw[upd_same] at q;cases q;exact⟨ho,co,ho⟩
 ·rw[upd_ne hb] at q;exact (x b v q).stay (λ_ _ _ z=>z) (λd z=>old _ _ z) (λd xs z=>old _ _ z) λd o v' _ z=>old _ _ z
theorem U0(hc:H c=some (.frz co (.own c))):Ext O H (del H c):=by
 refine⟨λb xs z=>?_,λb xs _ z=>?_⟩
 ·have nb:b≠c:=λe=>by rcases z with z |⟨o,z⟩ <;> rw[e,hc] at z <;> cases z
  rcases z with z |⟨o,z⟩
  ·exact .inl (by rw[eG nb];exact z)
  ·exact .inr ⟨o,by rw[eG nb];exact z⟩
 ·have nb:b≠c:=λe=>by rcases z with z |⟨o,z⟩ <;> rw[e,hc] at z <;> cases z
  rcases z with z |⟨o,z⟩
  ·exact .inl (by rw[eG nb];exact z)
  ·exact .inr ⟨o,by rw[eG nb];exact z⟩
end
section
variable{M:Model}{A:aeF}{E:aef->aeg->Prop}{s:aeg}
theorem Js{env env':afd}(f f':Str×aef->PUnit->Sem (ForInStep PUnit))(hf:∀n v u,f (n,v) u=(do afX env n v;pure (.yield ⟨⟩)))(hf':∀n v u,f' (n,v) u=(do afX env' n v;pure (.yield ⟨⟩))):
  ∀binds:List (Str×aef),(∀x∈binds,∀v,afX env x.1 v=afX env' x.1 v)->(forIn binds (⟨⟩:PUnit) f:Sem PUnit)=forIn binds (⟨⟩:PUnit) f'
 |[],_=>rfl
 | (n,v)::r,h=>by
  rw[ags,ags,hf,hf',h (n,v) aex v];simp only[bind_assoc,pure_bind];rw[Js f f' hf hf' r λx hx=>h x (z2f _ hx)]
theorem U3{n:Str}{v:aef}(hk:env.scope.kind= .function)(h:env.scope.names.lookup n=some .local):afX env n v=nsSet env.locals n v:=by
 have h:env.kindOf n=some .local:=h;simp[afX,h,hk]
theorem U4{n:Str}{v:aef}{d:aed}(hk:env.scope.kind= .function)(h:env.scope.names.lookup n=some .cell)(hd:env.cells.lookup n=some d):afX env n v=cellSet d (some v):=by
 have h:env.kindOf n=some .cell:=h;simp[afX,h,hk,cellOf,hd]
theorem Tq{globals:aed}{binds:List (Str×aef)}{func:Option aed}{code:aef}{builtins:aed}{Q:afd->aeg->Prop}
  (hk:scope.kind= .function)
  (hkind:∀x∈binds,scope.names.lookup x.1=some .local\/(scope.names.lookup x.1=some .cell/\((aeH (s.heap.objs.size+1) scope.names []).lookup x.1).isSome=true))
  (hQ:∀s',InCallC s s.heap.objs.size (bindL (λq=>scope.names.lookup q) binds λ_=>none) (aeH (s.heap.objs.size+1) scope.names []) (bindC (λq=>scope.names.lookup q) binds λ_=>none) s'->
   Q (newEnv scope s.heap.objs.size globals (aeH (s.heap.objs.size+1) scope.names []++clos) qual func code none builtins) s'):
  aen M A (ah9 scope globals clos binds qual func code none builtins) Q E s:=by
 simp only[ah9,Option.isSome_none,afm,if_false];refine aec (wpAny_alloc ?_);refine aec (wpAny_layCells _ (λname kind cells=>by cases hkc:kind ==agN <;> simp[hkc]) _ _ _ _ ?_);have ok:=cellsFrom_ok scope.names (s.heap.push {cls:= .type "frame",data:= .dict #[]}) (s.heap.objs.size+1) [] ⟨λ_ _ hm=>(nomatch hm),aiz⟩ (by rw[aeW];exact z0g _);rw[aeW] at ok;rw[show ({s with heap:=s.heap.push {cls:= .type "frame",data:= .dict #[]}}:aeg).heap.objs.size=s.heap.objs.size+1 from aeW ..];rw[eZ];have eq:=Js (env:=newEnv scope s.heap.objs.size globals (aeH (s.heap.objs.size+1) scope.names []++clos) qual func code none builtins) (env':=newEnv scope s.heap.objs.size globals (aeH (s.heap.objs.size+1) scope.names []) qual func code none builtins)
  (λx _=>do afX (newEnv scope s.heap.objs.size globals (aeH (s.heap.objs.size+1) scope.names []++clos) qual func code none builtins) x.1 x.2;pure (.yield ⟨⟩))
  (λx _=>do afX (newEnv scope s.heap.objs.size globals (aeH (s.heap.objs.size+1) scope.names []) qual func code none builtins) x.1 x.2;pure (.yield ⟨⟩)) (λ_ _ _=>rfl) (λ_ _ _=>rfl) binds (λx hx v=>by
   rcases hkind x hx with z |⟨z,z2⟩
   ·rw[U3 hk z,U3 hk z];rfl
   ·obtain⟨d,hd⟩:=afy.mp z2;have e1:(aeH (s.heap.objs.size+1) scope.names []++clos).lookup x.1=some d:=by rw[aft,hd];rfl
    rw[U4 hk z e1,U4 hk z hd])
 refine aec ?_;show aen M A (forIn binds (⟨⟩:PUnit) (λx _=>do afX (newEnv scope s.heap.objs.size globals (aeH (s.heap.objs.size+1) scope.names []++clos) qual func code none builtins) x.1 x.2;pure (.yield ⟨⟩))) _ E _;rw[eq];exact wpAny_bindParams (s₀:=s) (env:=newEnv scope s.heap.objs.size globals (aeH (s.heap.objs.size+1) scope.names []) qual func code none builtins)
  _ (λ_ _ _=>rfl) hk binds (λ_=>none) (λ_=>none) _ _
  ⟨⟨⟨_,_,rfl⟩,(Heap.Ns.new s.heap (.type "frame")).keeps (ahq _ _),λb o e=>ahq _ _ b o (z1a _ e),z0g _⟩,
   λn c hc=>(ok.empty n c (mem_of_lookup hc)).1,ok.apart,λn c hm=>(ok.empty n c hm).2⟩
  hkind λs' x=>aej (hQ s' x)
end
structure LQ(N P:List Str)(y:Str)(sc:afz):Prop where
 kind:sc.kind= .function
 co:sc.isCoroutine=false
 gen:sc.isGenerator=false
 nd:N.Nodup
 pre:N.take (P.length+1)=P++[y]
 par:∀x∈P,sc.names.lookup x=some .local\/sc.names.lookup x=some .cell
 Ng:sc.names.lookup y=some .free
 only:∀z∈sc.names,z.2= .free->z.1=y
 cel:∀z∈sc.names,z.2= .cell->sc.names.lookup z.1=some .cell
section
variable(P:aew)(w:aey)(K:aeh)(mg:Str->Option aef)(base:aes)(N:List Str)(qual:Str)(scope:afz)(f:aed)(cd:aef)(A:aeF)(outer:List afd)(s:aeg)(H:Hp)(y:Str)(c:aed)
abbrev zE:afd:=PySem.W.envX qual scope s.heap.objs.size f cd (aeH (s.heap.objs.size+1) scope.names []++[(y,c)])
def zF:Cx where
 prog:=P
 w:=w
 K:=K
 mg:=mg
 base:=base
 A:=A.deeper (zE qual scope f cd s y c)
 N:=N
 s₀:=s
 H₀:=H
 env:=zE qual scope f cd s y c
 outer:=outer
 stack:=zE qual scope f cd s y c::outer
 ex:=[]
 calm:=true
 fn:=λx=>decide (x≠y)
 pn:=[]
 xe:=λ_ _=>False
end
section
variable{P:aew}{w:aey}{K:aeh}{mg:Str->Option aef}{base:aes}
theorem acA{f:aed}{cd:aef}{A:aeF}{s s1:aeg}{us:List aef}{y:Str}{c:aed}{vy:V}{uy:aef}
  (S:LQ N ps y scope)(hd:A.handled=none)(e0:Env0 P w K mg base A outer s H)(hl:vs.length=ps.length)(r:Vals vs us)(hc:s.heap.IsCell c (some uy))(hy:RelV vy uy)(hHc:H c=none)
  (x:InCallC s s.heap.objs.size (bindL (λq=>scope.names.lookup q) (ps.zip us) λ_=>none) (aeH (s.heap.objs.size+1) scope.names []) (bindC (λq=>scope.names.lookup q) (ps.zip us) λ_=>none) s1):
  Inv (zF P w K mg base N qual scope f cd A outer s H y c) [] (start N (vs++[vy])) H s1:=by
 have hpl:ps.length+1<=N.length:=by have:=congrArg ai9 S.pre;rw[agF,z1d,agr] at this;omega
 obtain⟨h1,tk,rfl,hk⟩:=x.done;have noA:∀b:aed,b∉(zF P w K mg base N qual scope f cd A outer s H y c).ex:=λb z=>absurd (show b∈([]:List aed) from z) (by simp);have clt:c<s.heap.objs.size:=hc.lt;have cells:∀z d,(zE qual scope f cd s y c).cells.lookup z=some d->((aeH (s.heap.objs.size+1) scope.names []).lookup z=some d/\scope.names.lookup z=some .cell)\/(z=y/\d=c):=λz d q=>by
  have q:(aeH (s.heap.objs.size+1) scope.names []++[(y,c)]).lookup z=some d:=q;rw[aft] at q;cases e:(aeH (s.heap.objs.size+1) scope.names []).lookup z with
  | some d'=>
   rw[e] at q;have q:d'=d:=by simpa using q
   subst q;obtain⟨m1,_⟩:=jV _ _ (aeE e);exact .inl ⟨rfl,S.cel _ m1 rfl⟩
  | none=>
   rw[e] at q;have q:List.lookup z [(y,c)]=some d:=by simpa using q
   rw[agg] at q;cases hz:z ==y with
   |true=>rw[hz] at q;cases q;exact .inr ⟨by simpa using hz,rfl⟩
   |false=>rw[hz] at q;cases q
 have kept:(zE qual scope f cd s y c).cells.lookup y=some c:=by
  show (aeH (s.heap.objs.size+1) scope.names []++[(y,c)]).lookup y=some c;rw[aft];cases e:(aeH (s.heap.objs.size+1) scope.names []).lookup y with
  | some d=>
   obtain⟨m1,_⟩:=jV _ _ (aeE e);have:=S.cel _ m1 rfl;rw[S.Ng] at this;cases this
  |none=>simp[agg]
 refine⟨⟨e0.mod,S.kind,rfl,rfl,z0g _,λz z' d h1 h2=>?_,λz hz=>?_,λz d hf h=>?_,λ_=>hd,Around.frames_deeper e0.frames,.inr ⟨rfl,rfl⟩,λb z=>absurd z (noA b),e0.bs,e0.bsz,λb _ _=>noA b,λb z=>absurd z (noA b),e0.funs,e0.frf⟩,
  rfl,e0.bare,Un.kept hk,⟨_,x.toInCall.ns,λi z v h1 h2 h3=>?_⟩,λz d h=>?_,e0.hok.fresh (z0g _),λz d h=>?_,λp hp=>absurd (show p∈([]:List (aed×Obj)) from hp) (by simp),e0.hok.kept hk,?_⟩
 ·rcases cells z d h1 with⟨q1,_⟩ |⟨q1,q2⟩ <;> rcases cells z' d h2 with⟨q3,_⟩ |⟨q3,q4⟩
  ·exact name_of_addr x.apart (aeE q1) (aeE q3)
  ·have:=x.above z d (aeE q1);rw[q4] at this;exact absurd (Nat.lt_trans clt this) (afj _)
  ·have:=x.above z' d (aeE q3);rw[q2] at this;exact absurd (Nat.lt_trans clt this) (afj _)
  ·rw[q1,q3]
 ·have hz:scope.names.lookup z=some .cell\/scope.names.lookup z=some .free:=hz;rcases hz with hz |hz
  ·obtain⟨d,e⟩:=cell_has (n:=s.heap.objs.size+1) hz;exact⟨d,by show (aeH (s.heap.objs.size+1) scope.names []++[(y,c)]).lookup z=some d;rw[aft,e];rfl⟩
  ·have e:=S.only _ (aeE hz) rfl;have e:z=y:=e;rw[e];exact⟨c,kept⟩
 ·have hf:z≠y:=of_decide_eq_true hf;rcases cells z d h with⟨q1,_⟩ |⟨q1,_⟩
  ·exact z0e (x.above z d (aeE q1))
  ·exact absurd q1 hf
 ·have hi:i<vs.length+1:=by
   unfold L2.start at h2;by_cases hi:i<vs.length+1
   ·exact hi
   ·rw[aeT (by simpa using hi)] at h2;rw[afA] at h2;split at h2 <;> cases h2
  have ha:(vs++[vy])[i]?=some v:=by
   unfold L2.start at h2;rw[ae5 (by simpa using hi),z2b] at h2;cases e:(vs++[vy])[i]? with
   |none=>rw[e] at h2;cases h2
   |some a=>rw[e] at h2;cases h2;rfl
  have hp:(ps++[y])[i]?=some z:=by
   rw[<-S.pre,aiK (by omega)];exact h1
  by_cases hiv:i<vs.length
  ·rw[ae5 hiv] at ha;rw[ae5 (by omega)] at hp;obtain⟨u,hu,rv⟩:=r.get ha;have ndP:ps.Nodup:=by
    have q:(ps++[y]).Nodup:=by rw[<-S.pre];exact S.nd.sublist (List.take_sublist _ _)
    exact (aiA.mp q).1
   refine⟨u,rv,?_⟩;rcases S.par z (ae0 hp) with k |k
   ·exact .inl ⟨k,bindL_get ndP hp hu k⟩
   ·obtain⟨d,e⟩:=cell_has (n:=s.heap.objs.size+1) k;refine .inr ⟨.inl k,d,?_,?_⟩
    ·show (aeH (s.heap.objs.size+1) scope.names []++[(y,c)]).lookup z=some d;rw[aft,e];rfl
    ·have q:=x.cell z d e;rw[bindC_get ndP hp hu (by rw[k];decide)] at q;exact q
  ·have ei:i=vs.length:=by omega
   subst ei;rw[aeT (z0g _)] at ha;rw[hl,aeT (z0g _)] at hp;have ha:vy=v:=by simpa using ha
   have hp:y=z:=by simpa using hp
   subst ha hp;exact⟨uy,hy,.inr ⟨.inr S.Ng,c,kept,hc.keeps hk⟩⟩
 ·rcases cells z d h with⟨q1,_⟩ |⟨_,q2⟩
  ·exact⟨_,x.cell z d q1⟩
  ·rw[q2];exact⟨_,hc.keeps hk⟩
 ·rcases cells z d h with⟨q1,_⟩ |⟨_,q2⟩
  ·exact e0.hok.fresh (z0e (x.above z d (aeE q1)))
  ·rw[q2];exact hHc
 ·unfold L2.start;show _=N.length;rw[z1d,z1g,afh,z1d,agr];omega
theorem acB{y:Str}{m:Nat}{g:aB->So}{my:Int}{a c:aed}{co:Obj}{uy:aef}
  (S:LQ N ps y scope)(hn:ps.length=n)(hm:N.length=n+1+m)
  (hbind:∀(doc pm:aef) (cl:List (Str×aed)) (cdv ct:aef) (us:List aef),us.length=ps.length->af2 (PySem.W.fnX name qual params body scope cl .none .none doc pm none cdv ct) ⟨us,[]⟩=pure (ps.zip us))
  (hb:∀(cdv:aef) (A:aeF) (outer:List afd) (s:aeg) (H:Hp) (f c:aed),Room k (A.deeper (zE qual scope f cdv s y c))->jW (zF P w K mg base N qual scope f cdv A outer s H y c) body g)
  (fh:lW H a name qual params body scope [(y,c)])(hc:H c=some (.frz co (.own c)))(hcd:co.data= .cell (some uy))(hy:RelV (.int my) uy):
  pC P w K mg base (k+1) (λds=>iz m g (ds.map .val++[.val (.int my)])) n a H:=by
 intro A outer s H1 us vs Q E hr e0 hz r sp;obtain⟨O,ds,rs,hl,al,sp⟩:=sp;have sp:(match iz m g (ds.map Ent.val++[Ent.val (.int my)]) with | .ok d=>∀v H',Same H1 H'->Rep K O H' d v->Q v H' |_=>False):=sp;obtain⟨fo,doc,pm,c',ctv,oc,vq,t,f1,f2,f3,f4,f5⟩:=fh.fz hz;have hc1:=hz _ _ _ hc;obtain⟨hco,_⟩:=e0.hok c _ hc1;obtain⟨hfo,_⟩:=e0.hok a _ f1;obtain⟨hoc,_⟩:=e0.hok c' _ f3;have KX:K.In s.heap:=e0.mod.kin.keeps λb o e=>(e0.bs b o e).1;have lim:s.heap.NoLimit:=e0.mod.nolimit.keeps λb o e=>(e0.bs b o e).1;have e1:Env0 P w K mg base A outer s (del H1 c):=⟨e0.frames,e0.mod,λb o e=>⟨(e0.bs b o e).1,by
  by_cases q:b=c
  ·rw[q];exact jM
  ·rw[eG q];exact (e0.bs b o e).2⟩,e0.bsz,e0.funs,λb hb=>by
  by_cases q:b=c
  ·rw[q];exact jM
  ·rw[eG q];exact e0.frf b hb,UL e0.hok hc1 hcd,e0.bare⟩
 have hlu:us.length=ps.length:=by rw[<-r.length,<-rs.length,hl,hn]
 have hkind:∀z∈ps.zip us,scope.names.lookup z.1=some .local\/(scope.names.lookup z.1=some .cell/\((aeH (s.heap.objs.size+1) scope.names []).lookup z.1).isSome=true):=λ⟨q,v⟩ hy=>by
  rcases S.par q (ahn hy).1 with z |z
  ·exact .inl z
  ·exact .inr ⟨z,agl _ _ _ (.inl z)⟩
 refine codeAny_call_function hr.depth hfo f2 S.co S.gen rfl ⟨c',oc,vq,t,rfl,hoc,f4,f5⟩ ?_;rw[hbind doc pm _ _ _ us hlu];refine aej (Tq S.kind hkind λs1 x=>?_);refine⟨lim.keeps x.toInCall.keep,codeAny_func ?_⟩;have I:Inv (zF P w K mg base N qual scope a (.ref c') A outer s (del H1 c) y c) [] (start N (vs++[.int my])) (del H1 c) s1:=
  acA S hr.hd e1 (by rw[<-rs.length,hl,hn]) r ⟨co,hco,hcd⟩ hy jM x
 have yE:N.length=(vs++[V.int my]).length+m:=by rw[hm,z1d,<-rs.length,hl];rfl
 have rs':aU K (λb=>O b/\b≠c) (del H1 c) ds vs:=aU.ext (U0 hc1) (λb xs nb _ z=>nb z.1) ds vs rs;have J:At (zF P w K mg base N qual scope a (.ref c') A outer s (del H1 c) y c) (del H1 c) (λb=>O b/\b≠c) (λb=>O b/\b≠c) (del H1 c) ((ds.map Ent.val++[Ent.val (.int my)]).map some++aem m none) (start N (vs++[.int my])):=by
  rw[zB yE];refine zA (by show N.length=_;rw[z1d,z1g,rs.length];rw[z1d] at yE;exact yE) (Jr (rN rs') (.cons ⟨(cP (K:=K) (O:=λb=>O b/\b≠c) (H:=del H1 c) my:sE K (λb=>O b/\b≠c) (del H1 c) (.val (.int my)) (.int my)),rfl⟩ .nil)) λb z=>?_;obtain⟨o,q⟩:=al b z.1;exact⟨o,by rw[eG z.2];exact q⟩
 have run:=hb (.ref c') A outer s (del H1 c) a c (hr.deeper _) [] s1 _ _ {nx:=λ_ H'=>iz m g (ds.map .val++[.val (.int my)])= .ok .non/\Same (del H1 c) H',rt:=λv H'=>∃d,iz m g (ds.map .val++[.val (.int my)])= .ok d/\Same (del H1 c) H'/\Rep K (λb=>O b/\b≠c) H' d v} I ⟨_,_,_,_,J,by
  unfold iz at sp |-;cases e2:g ((ds.map Ent.val++[Ent.val (.int my)]).map some++aem m none) with
  |rt d=>exact λv H' s' r'=>⟨d,by simp only[e2],s',r'⟩
  |nx ρ'=>exact λσ' H' O' j' _=>⟨by simp only[e2],j'.same⟩
  |bk _=>rw[e2] at sp;exact sp.elim
  |ct _=>rw[e2] at sp;exact sp.elim
  |ex _ _=>rw[e2] at sp;exact sp.elim
  |bad=>rw[e2] at sp;exact sp.elim⟩
 have cfr:c∉frs outer:=λz=>by rw[e0.frf c z] at hc1;cases hc1
 have fin:∀{σ':St} {H':Hp} {v:V} {u:aef} {s':aeg} {d:D},Inv (zF P w K mg base N qual scope a (.ref c') A outer s (del H1 c) y c) [] σ' H' s'->RelV v u->iz m g (ds.map .val++[.val (.int my)])= .ok d->Same (del H1 c) H'->Rep K (λb=>O b/\b≠c) H' d v->CE outer P w H1 s Q u s':=λ{σ' H' v u s' d} J rv ed sm rd=>by
  have hn':H' c=none:=J.base.free c co hco jM (by simp[zF]);have hc':s'.heap.get? c=some co:=J.base.keep c co hco jM cfr (by simp[zF]);have ol:∀b,b≠c->upd H' c (.frz co (.own c)) b=H' b:=λb z=>upd_ne z;have kIn:K.In s'.heap:=J.kIn;refine⟨v,upd H' c (.frz co (.own c)),J.os,J.bare,⟨λb o q nb hb hx=>?_,λb o q nb hb hx=>?_,λb o q nb hx=>?_,λb o q hx=>J.base.there b o q hx,λb xs q=>?_,λb o u q=>?_,λb ps q=>?_⟩,UW J.hok hn' hc',rv,?_⟩
  ·exact J.base.keep b o q (show del H1 c b=none by by_cases z:b=c;(rw[z];exact jM);rw[eG z];exact nb) hb hx
  ·exact J.base.slot b o q (show del H1 c b=none by by_cases z:b=c;(rw[z];exact jM);rw[eG z];exact nb) hb hx
  ·have nc:b≠c:=λz=>by rw[z,hc1] at nb;cases nb
   rw[ol b nc];exact J.base.free b o q (show del H1 c b=none by rw[eG nc];exact nb) hx
  ·have nc:b≠c:=λz=>by rw[z,hc1] at q;cases q
   rw[ol b nc];exact J.base.tups b xs (show del H1 c b=some _ by rw[eG nc];exact q)
  ·by_cases nc:b=c
   ·rw[nc,hc1] at q;cases q;rw[nc,upd_same]
   ·rw[ol b nc];exact J.base.frzs b o u (show del H1 c b=some _ by rw[eG nc];exact q)
  ·have nc:b≠c:=λz=>by rw[z,hc1] at q;cases q
   rw[ol b nc];exact J.base.tbls b ps (show del H1 c b=some _ by rw[eG nc];exact q)
  ·rw[ed] at sp;have s2:Same H' (upd H' c (.frz co (.own c))):=Same.upd hn';refine sp v _ (λb o q=>?_) ?_
   ·by_cases nc:b=c
    ·rw[nc,hc1] at q;cases q;rw[nc,upd_same]
    ·exact s2 _ _ (sm b o (by rw[eG nc];exact q))
   ·refine Rep.ext ⟨λb xs z=>Same.rd s2 z,λb xs _ z=>Same.rd s2 z⟩ (λb xs nb hq z=>?_) d v rd;by_cases nc:b=c
    ·subst nc;rcases hq with (hq |⟨o,hq⟩) |⟨o,its,n',hq,h4,_⟩
     ·rw[hn'] at hq;cases hq
     ·rw[hn'] at hq;cases hq
     ·have:=kIn _ _ hq;rw[hc'] at this;cases this;simp_all
    ·exact nb ⟨z,nc⟩
 refine afl run (λfl s' hs=>?_) λe s' hs=>hs.elim;cases fl with
 | ret u=>
  obtain⟨v,σ',H',J,rv,d,q1,q2,q3⟩:=hs;exact fin J rv q1 q2 q3
 | next=>
  obtain⟨σ',H',J,q1,q2⟩:=hs;exact fin (v:=V.non) (u:=aeL) J rfl q1 q2 p8
 |brk=>obtain⟨_,_,_,q⟩:=hs;exact ae4 q
 |cont=>obtain⟨_,_,_,q⟩:=hs;exact ae4 q
end
section
variable{X:Cx}{name qual:Str}{params:afN}{body:List aeA}{scope:afz}{y xS:Str}{c fS:aed}{Gq:aeZ}{Cm:List Str}{kS kG n q iy:Nat}{FS:aed->(List D->R D)->List D->R D}{GG:Int->List D->R D}{p pos:Pos}{e:aer}{es:List aer}{ta:TA}
inductive aaN (K:aeh) (name qual:Str) (params:afN) (body:List aeA) (scope:afz) (y:Str) (c:aed) (iy n:Nat) (FS:aed->(List D->R D)->List D->R D) (GG:Int->List D->R D) (σ:St) (Q:VK) (vs:List V) (H1:Hp):Prop
 |mk (O:aed->Prop) (ds:List D) (xs:List V) (a:aed) (my:Int) (d:D) (e:vs=xs++[.ref a]) (r:aU K O H1 ds xs) (hl:ds.length=n) (al:∀b,O b->∃o,H1 b=some o) (fh:lW H1 a name qual params body scope [(y,c)]) (hσ:σ[iy]?=some (some (.int my))) (hF:∀a,FS a (GG my) ds= .ok d) (hQ:∀v H',Same H1 H'->Rep K O H' d v->Q v H'):aaN K name qual params body scope y c iy n FS GG σ Q vs H1
def adf(K:aeh)(name qual:Str)(params:afN)(body:List aeA)(scope:afz)(y:Str)(c:aed)(iy n:Nat)(FS:aed->(List D->R D)->List D->R D)(GG:Int->List D->R D)(ta:TA):TE:=λσ H Q=>ta σ H λvs H1=>aaN K name qual params body scope y c iy n FS GG σ Q vs H1
theorem ZW(Sw:FnOk X.prog X.w X.K X.mg X.base CX0 kS fS Gq Cm (spS X.prog X.w X.mg X.base kG X.K n q FS))(hr:Room kS X.A)(hg:Gl X xS)(hm:X.mg xS=some (.ref fS))(hk:ae2 X.K (.ref fS)=true)(hb:Binds X.K Gq Cm [])
  (Q6:∀my a c H co uy,lW H a name qual params body scope [(y,c)]->H c=some (.frz co (.own c))->co.data= .cell (some uy)->RelV (.int my) uy->pC X.prog X.w X.K X.mg X.base kG (GG my) q a H)
  (hc:X.env.cells.lookup y=some c)(hyk:X.env.scope.names.lookup y=some .cell)(hfn:X.fn y=true)(hiy:X.N[iy]?=some y)(ha:PA X (e::es) ta)(hdb:(xS ==("__debug__" :Str))=false:=by decide)
  (he:aei (e::es) X.env=(false,eval e X.env)::aei es X.env:=by rfl)(hpl:(ae7 pos (aei es X.env)).any (·.1)=false:=by rfl):
  PE X (.Call (.Name xS p) (e::es) [] pos) (adf X.K name qual params body scope y c iy n FS GG ta):=by
 intro pins s σ H Q I h;refine afY (ld_glob I hg hm ?_ hdb);refine aik (h₀:=X.base) I.ok.mod.kin hk (thn (ha pos pins s σ H _ I h) λus s1 ⟨vs,H1,I1,r,hq⟩=>⟨I1.kIn,?_⟩) he hpl;obtain⟨O,ds,xs,a,my,d,rfl,rs,hl,al,fh,hσ,hF,hQ⟩:=hq;obtain⟨m,hn,hl'⟩:=I1.loc;obtain⟨uy,ry,look⟩:=hl' iy y (.int my) hiy hσ (.inr (.inl hyk));have hcell:s1.heap.IsCell c (some uy):=by
  rcases look with⟨z,_⟩ |⟨_,c2,z,hz⟩
  ·have z:X.env.scope.names.lookup y=some .local:=z;rw[hyk] at z;cases z
  ·rw[hc] at z;cases z;exact hz
 obtain⟨co,hco,hcd⟩:=hcell;have hnc:H1 c=none:=I1.freeC y c hc;have cab:X.s₀.heap.objs.size<=c:=I1.ok.cab y c hfn hc;have sm:Same H1 (upd H1 c (.frz co (.own c))):=Same.upd hnc;have nfr:∀b∈frs X.stack,b≠c:=λb hb z=>by
  rcases aev.mp (I1.stkSub b hb) with e |hb'
  ·exact I1.cne y c hc (z.symm.trans e)
  ·obtain⟨_,o,ho,_⟩:=I1.ok.funs.mem hb';exact absurd (z0d (z2c ho) cab) (by rw[z];exact afj _)
 have e0:=I1.env0;have e1:Env0 X.prog X.w X.K X.mg X.base X.A X.stack s1 (upd H1 c (.frz co (.own c))):=⟨e0.frames,e0.mod,λb o z=>⟨(e0.bs b o z).1,by
  rw[upd_ne (λw=>by
   have:=z2c (I1.ok.bs b o z).1;rw[w] at this;exact absurd (z0d this cab) (afj _))]
  exact (e0.bs b o z).2⟩,e0.bsz,e0.funs,λb hb=>by rw[upd_ne (nfr b hb)];exact e0.frf b hb,UW e0.hok hnc hco,e0.bare⟩
 obtain⟨fo,doc,pm,c',ctv,oc,vq,t,f1,f2,f3,f4,f5⟩:=id fh;have fh1:=fh.fz λb o u z=>sm b _ z;have sp:spS X.prog X.w X.mg X.base kG X.K n q FS (xs++[.ref a]) (upd H1 c (.frz co (.own c))) (λv H'=>Same (upd H1 c (.frz co (.own c))) H'/\Rep X.K O H' d v) E0:=by
  refine⟨O,ds,xs,a,GG my,rfl,rs.same sm,hl,λb z=>let⟨o,w⟩:=al b z;⟨o,sm _ _ w⟩,⟨rfl,fo,_,sm _ _ f1,f2⟩,Q6 my a c _ co uy fh1 upd_same hcd ry,?_⟩;rw[hF a];exact λv H' s' r'=>⟨s',r'⟩
 have hll:us.length=Cm.length:=by rw[<-r.length];exact Sw.len _ _ _ _ sp
 have hbb:=hb s1 us I1.kIn (by rw[afg];exact hll);rw[afg] at hbb;refine ahW (agX (Sw.run X.A X.stack s1 _ ⟨us,[]⟩ us _ _ E0 hr e1 hbb r sp) λrr s' hq=>?_);cases rr with
 |error ev=>exact hq.elim
 | ok fl =>
  cases fl with
  |next=>exact ae4 hq
  |brk=>exact ae4 hq
  |cont=>exact ae4 hq
  | ret u =>
   obtain⟨v,H',os,bare,un,hok,rv,q1,q2⟩:=hq;have hc':H' c=some (.frz co (.own c)):=un.frzs c co _ upd_same;have up:∀b,b≠c->upd H1 c (.frz co (.own c)) b=H1 b:=λb z=>upd_ne z;have un':Un (frs X.stack) [] H1 (del H' c) s1.heap s'.heap:=by
    refine⟨λb o z nb hb hx=>?_,λb o z nb hb hx=>?_,λb o z nb hx=>?_,un.there,λb xs z=>?_,λb o u z=>?_,λb ps z=>?_⟩
    ·by_cases bc:b=c
     ·subst bc;rw[hco] at z;cases z;exact (hok b _ hc').1
     ·exact un.keep b o z (by rw[up b bc];exact nb) hb hx
    ·exact un.slot b o z (by rw[up b (nfr b hb)];exact nb) hb hx
    ·by_cases bc:b=c
     ·rw[bc];exact jM
     ·rw[eG bc];exact un.free b o z (by rw[up b bc];exact nb) hx
    ·have bc:=ne_of_none z hnc;rw[eG bc];exact un.tups b xs (by rw[up b bc];exact z)
    ·have bc:=ne_of_none z hnc;rw[eG bc];exact un.frzs b o u (by rw[up b bc];exact z)
    ·have bc:=ne_of_none z hnc;rw[eG bc];exact un.tbls b ps (by rw[up b bc];exact z)
   have J:Inv X pins σ (del H' c) s':=I1.call' os un' (UL hok hc' hcd) bare λb z=>absurd z (by simp);refine⟨v,del H' c,J,rv,hQ v _ (λb o z=>?_) ?_⟩
   ·have bc:=ne_of_none z hnc;rw[eG bc];exact q1 b o (by rw[up b bc];exact z)
   ·exact Rep.ext (U0 hc') (λb xs nb _ z=>nb z) d v q2
end
open Classical in
def allOf(f:aed->R D):R D:=if h:∃d,∀a,f a= .ok d then .ok h.choose else .bad
theorem Q7{f:aed->R D}{d:D}(h:∀a,f a= .ok d):allOf f= .ok d:=by
 have e:∃d,∀a,f a= .ok d:=⟨d,h⟩;unfold allOf;rw[dif_pos e];have:=e.choose_spec 0;rw[h 0] at this;exact this.symm
theorem Q8{f:aed->R D}{d:D}(h:allOf f= .ok d)(a:aed):f a= .ok d:=by
 unfold allOf at h;by_cases e:∃d,∀a,f a= .ok d
 ·rw[dif_pos e] at h;cases h;exact e.choose_spec a
 ·rw[dif_neg e] at h;cases h
def VJ(i iy:Nat)(f1 f2 f3:aB->R D)(FS:aed->(List D->R D)->List D->R D)(GG:Int->List D->R D):aB->So:=λρ=>match ρ[i]?,ρ[iy]? with
 | some none,some (some (.val (.int my)))=>(match f1 ρ,f2 ρ,f3 ρ with
  | .ok a,.ok b,.ok d=>(match allOf (λx=>FS x (GG my) [a,b,d]) with
   | .ok r=> .rt r
   |_=> .bad)
  |_,_,_=> .bad)
 |_,_=> .bad
section
variable{X:Cx}{name qual:Str}{params:afN}{body:List aeA}{scope:afz}{y xS:Str}{c cc P fS:aed}{Gq:aeZ}{Cm:List Str}{kS kG q:Nat}{FS:aed->(List D->R D)->List D->R D}{GG:Int->List D->R D}{p p4 pos pos2 ZX:Pos}{e1 e2 e3:aer}{f1 f2 f3:aB->R D}
theorem In.adU{v:V}(j:In X O H ρ σ)(hn:ρ[i]?=some none):In X O H ρ (σ.set i (some v)):=by
 have ne:∀(k:Nat) e,ρ[k]?=some (some e)->i≠k:=λk e h z=>by rw[<-z,hn] at h;cases h
 refine⟨⟨λk e h=>?_,λk l e e' u hkl hk hl ok ol sk sl=>?_,λk l rows a rs e u hkl hk sk ha hl ol sl=>?_⟩,j.al,by rw[afP];exact j.len,j.oH⟩
 ·rw[z1e (ne k e h)];exact j.env.get k e h
 ·rw[z1e (ne k e hk)] at sk;rw[z1e (ne l e' hl)] at sl;exact j.env.sep k l e e' u hkl hk hl ok ol sk sl
 ·rw[z1e (ne k _ hk)] at sk;rw[z1e (ne l e hl)] at sl;exact j.env.qd k l rows a rs e u hkl hk sk ha hl ol sl
theorem Z0(i iy:Nat)(hN:X.N.Nodup)(hB:iB X.base X.mg cc P)(hT:Tb [(P,qual)] X.H₀)(hcode:X.env.code= .ref cc)(Sw:FnOk X.prog X.w X.K X.mg X.base CX0 kS fS Gq Cm (spS X.prog X.w X.mg X.base kG X.K 3 q FS))(hr:Room kS X.A)(hm:X.mg xS=some (.ref fS))(hk:ae2 X.K (.ref fS)=true)(hb:Binds X.K Gq Cm [])
  (Q6:∀my a c H co uy,lW H a name qual params body scope [(y,c)]->H c=some (.frz co (.own c))->co.data= .cell (some uy)->RelV (.int my) uy->pC X.prog X.w X.K X.mg X.base kG (GG my) q a H)
  (h1:DE X e1 f1)(h2:DE X e2 f2)(h3:DE X e3 f3)
  (hcl:ag7 scope X.env=pure [(y,c)])(hc:X.env.cells.lookup y=some c)(hyk:X.env.scope.names.lookup y=some .cell)(hfn:X.fn y=true)(hii:i≠iy)(hnv:Vis X.env.scope name)
  (hiy:X.N[iy]?=some y:=by rfl)(hi:X.N[i]?=some name:=by rfl)(hl:Loc X.env.scope name:=by first |exact afo rfl |exact afa rfl)(hq:qualnameIn X.env name name=qual:=by rfl)(hd0:params.defaults=[]:=by rfl)(hk0:params.kw_defaults=[]:=by rfl)(ha:annTrees params none X.env=[]:=by rfl)
  (hg:Gl X xS:=by rfl)(hdb:(xS ==("__debug__" :Str))=false:=by decide)(hdn:(name ==("__debug__" :Str))=false:=by decide)(hdc:(name ==("__classdict__" :Str))=false:=by decide)
  (Ye:aei [e1,e2,e3,.Name name p4] X.env=(false,eval e1 X.env)::aei [e2,e3,.Name name p4] X.env:=by rfl)(he2:aei [e2,e3,.Name name p4] X.env=(false,eval e2 X.env)::aei [e3,.Name name p4] X.env:=by rfl)
  (he3:aei [e3,.Name name p4] X.env=(false,eval e3 X.env)::aei [.Name name p4] X.env:=by rfl)(he4:aei [.Name name p4] X.env=(false,eval (.Name name p4) X.env)::aei [] X.env:=by rfl)
  (hpl:(ae7 pos2 (aei [e2,e3,.Name name p4] X.env)).any (·.1)=false:=by rfl)(hf:X.fn name=true\/X.env.scope.names.lookup name=some .local:=by first |exact .inl rfl |exact .inr rfl):
  jW X [.FunctionDef name params body [] none [] scope none name pos,.Return (some (.Call (.Name xS p) [e1,e2,e3,.Name name p4] [] pos2)) ZX] (VJ i iy f1 f2 f3 FS GG):=by
 have A:=pa_cons h1 (pa_cons h2 (pa_cons h3 (pa_cons (pe_var (X:=X) (pos:=p4) hi hnv hdn hdc) pa_nil he4) he3) he2) Ye;refine PSs.imp (pss_cons (acz i hN hB hT hcode hcl hi hl hq hd0 hk0 ha hf) (pss_one (ps_ret (ZW (iy:=iy) (p:=p) (pos:=pos2) Sw hr hg hm hk hb Q6 hc hyk hfn hiy A hdb Ye hpl)))) λσ H E h=>?_;obtain⟨H0,O0,O,ρ,j,h⟩:=h;intro a H1 sm fh;unfold VJ at h;split at h
 ·rename_i my en em;have hil:i<X.N.length:=(z1b hi).1;obtain⟨v,hv,rv⟩:=j.inn.env.get iy _ em;have rv:v= .int my:=Rep.int (show Rep X.K O H (.int my) v from rv);subst rv;split at h
  ·rename_i d1 d2 d3 q1 q2 q3;cases q4:allOf (λx=>FS x (GG my) [d1,d2,d3]) with
   |bad=>rw[q4] at h;exact h.elim
   |err _=>rw[q4] at h;exact h.elim
   | ok d=>
    rw[q4] at h;have jn:In X O H1 ρ (σ.set i (some (.ref a))):=In.adU (j.inn.same sm) en;refine⟨ρ,O,jn,?_⟩;rw[q1];intro v1 H2 s2 r1;refine⟨ρ,O,jn.same s2,?_⟩;rw[q2];intro v2 H3 s3 r2;refine⟨ρ,O,(jn.same s2).same s3,?_⟩;rw[q3];intro v3 H4 s4 r3;have jl:i<σ.length:=by rw[j.inn.len];exact hil
    refine⟨.ref a,z2a jl,?_⟩;have s14:Same H1 H4:=(s2.trans s3).trans s4;refine⟨O,[d1,d2,d3],[v1,v2,v3],a,my,d,rfl,.cons (r1.same (s3.trans s4)) (.cons (r2.same s4) (.cons r3 .nil)),rfl,(jn.same s14).al,fh.fz λb o u z=>s14 _ _ z,?_,Q8 q4,λv' H' s' r'=>?_⟩
    ·rw[z1e hii];exact hv
    ·exact h v' H' (j.same.trans (sm.trans (s14.trans s'))) (r'.fewer j.sub)
  ·exact h.elim
 ·exact h.elim
end
def pD(K:aeh)(mg:Str->Option aef)(x:Str)(c:aed):Prop:=∀f oc od fd osl,mg x=some (.ref f)->K.lookup f=some ⟨oc,od,.func fd,osl⟩->fd.code= .ref c
section
variable{X:Cx}{e lo hi:aer}{f g:aB->R D}{fl fu:aB->R (Option Int)}{pos p2 p3 p4:Pos}
def abm(d:D)(lo hi:Option Int):R D:=match d with
 | .lst ds=> .ok (.lst (lR ds lo hi))
 |_=> .bad
def qG(f:aB->R D)(fl fu:aB->R (Option Int)):aB->R D:=λρ=>(f ρ).bind λd=>(fl ρ).bind λl=>(fu ρ).bind λu=>abm d l u
theorem Nx{lo hi:Option aer}(he:DE X e f)(hl:Uv X lo fl)(hu:Uv X hi fu):DE X (.Subscript e (.Slice lo hi none p2) pos) (qG f fl fu):=by
 refine PE.imp (pe_slice sl_list he hl hu) λσ H Q h=>?_;obtain⟨ρ,O,j,h⟩:=h;refine go j h λd v H1 e1 s1 r1 j1 h1=>?_;refine go j1 h1 λl l' H2 e2 s2 r2 j2 h2=>?_;refine go j2 h2 λu u' H3 e3 s3 r3 j3 h3=>?_;have r2:l=l':=r2;have r3:u=u':=r3;subst r2 r3;cases d with
 | lst ds=>
  have r1':=(r1.same s2).same s3;obtain⟨a,xs,rfl,hq,hn,rs⟩:=r1'.lst;have hlen:=rs.length;refine⟨a,xs,rfl,hq,λp hp=>?_⟩;refine h3 _ _ (Same.upd hp) (Rep.mQ hp (j3.uJ hp) ?_);unfold lR cutV;rw[hlen];exact (rs.drop _).take _
 |_=>exact h3.elim
theorem abn{kk}{te:TE}(he:PE X e te):PE X (.Subscript e (.Slice none none (some (.UnaryOp .USub (.Constant (.int 1) kk p3) p4)) p2) pos) (λσ H Q=>te σ H λx H1=>∃a xs,x= .ref a/\SqL X.K H1 a xs/\∀p,H1 p=none->Q (.ref p) (upd H1 p (.lst xs.reverse))):=by
 intro pins s σ H Q I h;refine Subscript_ (thn (he pins s σ H _ I h) λv s1 bQ=>?_);obtain⟨x,H1,I1,r1,q1⟩:=bQ;obtain⟨a,xs,rfl,hq,q⟩:=q1;cases r1;refine wpAny_Slice ?_;rw[evalPart_none,evalPart_some];refine aej (aej ?_);refine thn (pe_un (X:=X) un_neg pe_int pins s1 σ H1 (λy H2=>y= .int (-1)/\H2=H1) I1 ⟨1,rfl,rfl,rfl⟩) λvs s2 bQ=>?_;obtain⟨y,H2,I2,r2,ey,eH⟩:=bQ;subst ey;subst eH;obtain⟨t,rfl⟩:=r2;have I4:Inv X pins σ H2 {s2 with heap:=s2.heap.push {cls:= .type "slice",data:= .fields #[.none,.none,.int (-1) t]}}:=I2.kept (t':=s2.toks) λb ob q=>z1a _ q;obtain⟨its,rv,ht,hz⟩:=I4.list hq;have hlen:=rv.length;show aen (model X.prog X.w) X.A (subscriptTail e (.Slice none none (some (.UnaryOp .USub (.Constant (.int 1) kk p3) p4)) p2) (.ref a) (.ref s2.heap.objs.size)) (EP X pins σ Q) X.xe {s2 with heap:=s2.heap.push {cls:= .type "slice",data:= .fields #[.none,.none,.int (-1) t]}};refine tail_any (ops:=[.ref a,.ref s2.heap.objs.size]) ht.isList.typeIs slot_list_getitem.lookup (wpAny_getItem_list_slice ht.isList (ajo ..) .none .none (.int (-1) t) (by simp) ?_ (by rw[z1c];omega)) (by with_unfolding_all rfl);rw[PySem.W.krv_pick];refine⟨.ref _,_,I4.laid (t':=s2.toks) (o:= .lst xs.reverse) (λb ob q=>z1a _ q) (z0g _) ?_,rfl,q _ (I4.hok.fresh (z0g _))⟩;exact⟨by rw[List.length_reverse];exact hz,its.reverse,0,Vals.rev rv,(by have e:its.toArray.toList.reverse=its.reverse:=(by simp);rw[e];exact z1f _ rfl)⟩
def adg:D->R D
 | .lst ds=> .ok (.lst ds.reverse)
 |_=> .bad
def FQ(f:aB->R D):aB->R D:=λρ=>(f ρ).bind adg
theorem abo{kk}(he:DE X e f):DE X (.Subscript e (.Slice none none (some (.UnaryOp .USub (.Constant (.int 1) kk p3) p4)) p2) pos) (FQ f):=by
 refine PE.imp (abn he) λσ H Q h=>?_;obtain⟨ρ,O,j,h⟩:=h;refine go j h λd v H1 e1 s1 r1 j1 h1=>?_;cases d with
 | lst ds=>
  obtain⟨a,xs,rfl,hq,hn,rs⟩:=r1.lst;exact⟨a,xs,rfl,hq,λp hp=>h1 _ _ (Same.upd hp) (Rep.mQ hp (j1.uJ hp) rs.reverse)⟩
 |_=>exact h1.elim
def Yg(i:Nat)(f:aB->R D):aB->R D:=λρ=>match ρ[i]? with
 |some (some (.lst ds))=>(f ρ).bind λd=>cH (.lst ds) d
 |_=> .bad
theorem acC(i:Nat){x:Str}{px:Pos}(hb:DE X e f)(hs:PlainIx e:=by exact λ_ _=>rfl)(hN:X.N[i]?=some x:=by rfl)(hv:Vis X.env.scope x:=by first |exact afo rfl |exact afa (afo rfl) |exact afa (afa rfl))
  (hd:(x ==("__debug__" :Str))=false:=by decide)(hcd:(x ==("__classdict__" :Str))=false:=by decide):DE X (.Subscript (.Name x px) e pos) (Yg i f):=by
 refine PE.imp (pe_ix ix_seq (pe_var hN hv hd hcd) hb hs) λσ H Q h=>?_;obtain⟨ρ,O,j,h⟩:=h;unfold Yg at h;split at h
 ·rename_i ds q;obtain⟨v,hv1,a,xs,rfl,hO,hH,rs⟩:=j.env.get i _ q;refine⟨.ref a,hv1,?_⟩;refine go j h λd y H1 e1 s1 r1 j1 h1=>?_;cases d with
  | int k=>
   have h':good X (rD X) O (match L2.atI ds k with |some d=>R.ok d |none=>R.bad) σ H1 Q:=h1;cases e2:L2.atI ds k with
   |none=>rw[e2] at h';exact h'.elim
   | some d=>
    rw[e2] at h';obtain⟨v,e3,rv⟩:=(rs.same s1).atI e2;exact .inl ⟨a,xs,k,v,rfl,r1.int,SqL.of (s1 _ _ hH),e3,fin h' rv⟩
  |_=>exact h1.elim
 ·exact h.elim
end
section
variable{X:Cx}{pos:Pos}
def Q9(i k:Nat):aB->So:=λρ=>match ρ[i]?,ρ[k]? with
 |some (some (.lst ds)),some (some (.lst es))=>if ds.length<1000000 then .nx ((ρ.set i (some (.lst (ds++[.lst es])))).set k (some (.val (.lst es)))) else .bad
 |_,_=> .bad
theorem At.give{H0:Hp}(j:At X H0 O0 O H ρ σ){es:List D}{b:aed}(hk:ρ[k]?=some (some (.lst es)))(hb:σ[k]?=some (some (.ref b))):
  At X H0 O0 (λa=>O a/\a≠b) H (ρ.set k (some (.val (.lst es)))) σ/\gD X.K O H (λa=>O a/\a≠b) H:=by
 obtain⟨hH0,hO0⟩:=j.mine k _ b hk rfl hb;have rc:gD X.K O H (λa=>O a/\a≠b) H:=⟨⟨λ_ _ z=>z,λ_ _ _ z=>z⟩,λa z=> .inl z.1,λ_ z=>z⟩;have hkl:k<ρ.length:=(z1b hk).1;obtain⟨v,hv,b',xs,e1,hO,hH,rs⟩:=j.inn.env.get k _ hk;rw[hb] at hv;cases hv;cases e1;have un:∀{m:Nat} {x:Ent},(ρ.set k (some (.val (.lst es))))[m]?=some (some x)->x.own=true->ρ[m]?=some (some x):=λ{m x} h ho=>by
  by_cases hmk:m=k
  ·subst hmk;rw[z2a hkl] at h;cases h;cases ho
  ·rw[z1e (aeo hmk)] at h;exact h
 refine⟨⟨j.same,j.gq.trans rc,λa z=>⟨j.sub a z,λe=>hO0 (e▸z)⟩,⟨⟨λm e q=>?_,λm l e e' u hml hm hl om ol sm sl=>?_,λm l rows a rs' e u hml hm sm ha hl ol sl=>?_⟩,λa z=>j.inn.al a z.1,j.inn.len,by rw[afP];exact j.inn.oH⟩,λm e a q ho hs=>?_,λm rows a rs' q hs=>?_⟩,rc⟩
 ·by_cases hmk:m=k
  ·subst hmk;rw[z2a hkl] at q;cases q;exact⟨_,hb,oU (SqL.of hH) (λz=>z.2 rfl) (rs.go rc)⟩
  ·rw[z1e (aeo hmk)] at q;obtain⟨v,q1,q2⟩:=j.inn.env.get m e q;refine⟨v,q1,?_⟩;have nb:e.own=true->v≠.ref b:=λoe z=>by subst z;exact j.inn.env.sep m k _ _ _ hmk q hk oe rfl q1 hb
   cases e with
   |val d=>exact Rep.go rc q2
   |obj t=>exact q2
   | rws rows=>
    obtain⟨a,rs',e2,R⟩:=q2;have Xj:σ[m]?=some (some (.ref a)):=by rw[<-e2];exact q1
    refine⟨a,rs',e2,R.at_,⟨R.oa,λz=>nb rfl (by rw[e2,z])⟩,R.nd,R.len,λn r row z1 z2=>?_⟩;obtain⟨o1,ys,z3,z4⟩:=R.row n r row z1 z2;exact⟨⟨o1,λz=>(j.inn.env.qd m k rows a rs' _ (.ref b) hmk q Xj R.at_ hk rfl hb).1 r (ae0 z1) (by rw[z])⟩,ys,z3,z4.go rc⟩
   | lst ds=>
    obtain⟨a,ys,e2,o2,h2,r2⟩:=q2;exact⟨a,ys,e2,⟨o2,λz=>nb rfl (by rw[e2,z])⟩,h2,r2.go rc⟩
   | Ay kvs=>
    obtain⟨a,ys,e2,o2,h2,kk,r2⟩:=q2;exact⟨a,ys,e2,⟨o2,λz=>nb rfl (by rw[e2,z])⟩,h2,kk,r2.go rc⟩
 ·exact j.inn.env.sep m l e e' u hml (un hm om) (un hl ol) om ol sm sl
 ·exact j.inn.env.qd m l rows a rs' e u hml (un hm rfl) sm ha (un hl ol) ol sl
 ·by_cases hmk:m=k
  ·subst hmk;rw[z2a hkl] at q;cases q;cases ho
  ·rw[z1e (aeo hmk)] at q;exact j.mine m e a q ho hs
 ·exact j.wH m rows a rs' (un q rfl) hs
theorem abp(i k:Nat){x y:Str}{px py apos cpos:Pos}(hik:i≠k)(hN:X.N[i]?=some x:=by rfl)(hNk:X.N[k]?=some y:=by rfl)(hv:Vis X.env.scope x:=by first |exact afo rfl |exact afa (afo rfl) |exact afa (afa rfl))(hvk:Vis X.env.scope y:=by first |exact afo rfl |exact afa (afo rfl) |exact afa (afa rfl))
  (hd:(x ==("__debug__" :Str))=false:=by decide)(hcd:(x ==("__classdict__" :Str))=false:=by decide)(hdk:(y ==("__debug__" :Str))=false:=by decide)(adV:(y ==("__classdict__" :Str))=false:=by decide)
  (hbase:ahM (.Name x px) "append" X.env (eval (.Name x px) X.env)=eval (.Name x px) X.env:=by rfl)
  (hfew:((ae7 cpos (aei [.Name y py] X.env)).all (λx=> !x.1) && (ag6 cpos (agk [] X.env)).all (λx=>x.1.isSome)
   && decide ([Expr.Name y py].length+([]:List af7).length+(if ([]:List af7).isEmpty then 0 else 1)<30))=true:=by rfl)
  (hline:(apos.endLine ==cpos.line)=true:=by rfl) (hs1:aei [.Name y py] X.env=(false,eval (.Name y py) X.env)::aei [] X.env:=by rfl) (hplain:(ae7 cpos (aei [] X.env)).any (·.1)=false:=by rfl)
  (hs:ahy (.Call (.Attribute (.Name x px) "append" apos) [.Name y py] [] cpos) none pos.line X.env=pure false:=by rfl):
  DS X (.Expr (.Call (.Attribute (.Name x px) "append" apos) [.Name y py] [] cpos) pos) (Q9 i k):=by
 refine PS.imp (ps_expr (pe_bm agL aiR aiS mt_append (pe_var hN hv hd hcd) (pa_cons (pe_var hNk hvk hdk adV) pa_nil hs1) hbase hfew hline hs1 hplain) hs) λσ H E h=>?_;obtain⟨H0,O0,O,ρ,j,h⟩:=h;unfold Q9 at h;split at h
 ·rename_i ds es q1 q2;by_cases hl:ds.length<1000000
  ·rw[if_pos hl] at h;obtain⟨v,hv1,a,xs,rfl,hO,hH,rs⟩:=j.inn.env.get i _ q1;obtain⟨v,hv2,b,ys,rfl,hO2,hH2,Jc⟩:=j.inn.env.get k _ q2;have hab:a≠b:=λz=>j.inn.env.sep i k _ _ _ hik q1 q2 rfl rfl hv1 (by rw[z];exact hv2);refine⟨.ref a,hv1,.inl ⟨rfl,xs,SqL.of hH⟩,.ref b,hv2,?_⟩;have hlen:=rs.length;refine⟨a,xs,.ref b,rfl,rfl,hH,by have:=iH;omega,?_⟩;obtain⟨j1,r1⟩:=j.give q2 hv2;have Xj:(ρ.set k (some (.val (.lst es))))[i]?=some (some (.lst ds)):=by rw[z1e (aeo hik)];exact q1
   obtain⟨j2,r2⟩:=j1.chg (o:= .lst (xs++[.ref b])) (en:= .lst (ds++[.lst es])) Xj rfl hv1 ⟨hO,hab⟩ hH trivial rfl λr=>⟨a,xs++[.ref b],rfl,⟨hO,hab⟩,upd_same,by
    have z1:aU X.K (λc=>O c/\c≠b) H (ds++[.lst es]) (xs++[.ref b]):=(rs.go r1).append (.cons (oU (SqL.of hH2) (λz=>z.2 rfl) (Jc.go r1)) .nil);exact z1.go r⟩
   rw[List.set_comm _ _ (aeo hik)] at j2;exact h _ _ _ j2 (r1.trans r2)
  ·rw[if_neg hl] at h;exact h.elim
 ·exact h.elim
end
section
open PySem
theorem VL(l b:aed)(items:Array aef)(n:Nat)(items2:Array aef)(n2:Nat)(dd:Option aed)(sl:Array (Option aef))(hs0:¬(!items.isEmpty && agJ (items.size+items2.size))=true)(hs1:items.size<=sizeLine)(hs2:items.size+items2.size<=sizeLine+1):
  Meets (afH.«list.__iadd__» ⟨[.ref l,.ref b],[]⟩) (λ_ R s=>s.heap.get? l=some {cls:= .type "list",dict:=none,data:= .seq items n,slots:= #[]}/\s.heap.get? b=some {cls:= .type "list",dict:=dd,data:= .seq items2 n2,slots:=sl}/\R (.ok (.ret (aez l))) {s with heap:=s.heap.update l (afL λx=>x++items2),toks:=s.toks}):=
 .of_wp λprog w A R s h=>by
  obtain⟨hp,g,d,tk,os⟩:=s;obtain⟨hl,hb,h⟩:=h;have f1:=aiV;have f2:=AutoSeq1.sub_tuple_tuple;have f3:=AutoSeq1.sub_list_list;have f4:=AutoSeq1.sub_tuple_list;have f5:=AutoSeq1.sub_list_tuple;
  have hz':(items++items2).size<=sizeLine+1:=by rw[Array.size_append];exact hs2
  wp_walk using (ahv hl rfl (hz:=hs1) (_hz':=hz')),afO hl,afO hb;exact⟨_,rfl,h⟩
end
section
variable{X:Cx}{e:aer}{f:aB->R D}{pos:Pos}
theorem abq:PIp X .Add (λx y H Q=>∃a b xs ys,x= .ref a/\y= .ref b/\H a=some (.lst xs)/\SqL X.K H b ys/\xs.length+ys.length<=1000000/\Q (.ref a) (upd H a (.lst (xs++ys)))):=by
 intro pins s σ H x y v u Q I rx ry h;obtain⟨a,b,xs,ys,rfl,rfl,ha,hb,hz,q⟩:=h;cases rx;cases ry;obtain⟨its,n,r,ho,hzl⟩:=I.lst ha;obtain⟨its2,r2,p2,hz2⟩:=I.list hb;obtain⟨⟨cls2,dd2,data2,sl2⟩,ho2,hc2,n2,hd2⟩:=id p2.isList;simp only at hc2 hd2;subst hc2 hd2;have l1:=r.length;have l2:=r2.length;have hsl:=iH;have hT:s.TypeIs (.ref a) "list" :=⟨_,ho,rfl⟩;have hT2:s.TypeIs (.ref b) "list" :=⟨_,ho2,rfl⟩;unfold inplaceOp;refine afT ?_;have hfi:fillsInplaceSlot (.type "list") "add" (Operator.Add == .Add)=pure false:=by
  unfold fillsInplaceSlot;show (typeLookup (.type "list") (dunderI "add") >>=λfi=>pure (fi.isSome && !isSeqSlot fi))=pure false;rw[ahL.lookup,pure_bind,show isSeqSlot (some (.builtin "list.__iadd__"))=true from by decide +kernel];rfl
 refine aec (aiP hT (aec (agn hfi ?_)));show aen _ _ (if false=true then _ else _) _ _ s;rw[if_neg aeO];refine aec (binaryOp1_none (nm:= "add") hT hT2 PySem.noFill_list_add ?_);refine aec (agn (aiU (T:= "list") (name:=dunderI "add") (id:= "list.__iadd__") ahL.lookup (by decide +kernel)) ?_);refine aec (agi ?_);refine agA ahL hT PySem.F.entry_list_iadd (PySem.F.args_list_iadd_2 _ _) (VL a b its.toArray n its2.toArray n2 dd2 sl2 ?_ (by rw[z1c];omega) (by rw[z1c,z1c];omega)) ⟨ho,ho2,?_⟩
 ·rw[z1c,z1c];have:agJ (its.length+its2.length)=false:=by unfold agJ;exact decide_eq_false (by omega)
  rw[this];simp
 ·refine⟨.ref a,upd H a (.lst (xs++ys)),I.lset (its':=its++its2) ha ho (by simp) (r.append r2) (by rw[z1d];omega),rfl,q⟩
def Hu(i:Nat)(f:aB->R D):aB->So:=λρ=>match ρ[i]? with
 | some (some (.lst ds))=>lA (Qu (f ρ)) ρ λd=>match d with
  | .lst es=>if ds.length+es.length<=1000000 then .nx (ρ.set i (some (.lst (ds++es)))) else .bad
  |_=> .bad
 |_=> .bad
theorem U5(i:Nat){x:Str}(hN:X.N.Nodup)(he:DE X e f)(hi:X.N[i]?=some x:=by rfl)(hx:Loc X.env.scope x:=by first |exact afo rfl |exact afa rfl)
  (hf:X.fn x=true\/X.env.scope.names.lookup x=some .local:=by first |exact .inl rfl |exact .inr rfl):DS X (.AugAssign (.Name x pos') .Add e pos) (Hu i f):=by
 refine PS.imp (ps_aug hN hi hx he abq hf) λσ H E h=>?_;obtain⟨H0,O0,O,ρ,j,h⟩:=h;unfold Hu at h;split at h
 ·rename_i ds q;obtain⟨v,hv1,a,xs,rfl,hO,hH,rs⟩:=j.inn.env.get i _ q;refine⟨.ref a,hv1,ρ,O,j.inn,?_⟩;unfold lA at h;cases e1:f ρ with
  |bad=>rw[e1] at h;exact h.elim
  |err c=>rw[e1] at h;exact h.elim
  | ok d =>
   rw[e1] at h;intro w H1 s1 rw1;cases d with
   | lst es=>
    have h:yq X H0 O0 O H E (if ds.length+es.length<=1000000 then .nx (ρ.set i (some (.lst (ds++es)))) else .bad):=h;by_cases hl:ds.length+es.length<=1000000
    ·rw[if_pos hl] at h;have j1:=j.grow s1;obtain⟨b,ys,rfl,hb,hnb,Jc⟩:=rw1.lst;have rs1:=rs.same s1;have hH1:=s1 _ _ hH;refine⟨a,b,xs,ys,rfl,rfl,hH1,hb,by rw[<-rs1.length,<-Jc.length];exact hl,?_⟩;obtain⟨j2,r2⟩:=j1.chg (o:= .lst (xs++ys)) (en:= .lst (ds++es)) q rfl hv1 hO hH1 trivial rfl λr=>⟨a,xs++ys,rfl,hO,upd_same,(rs1.append Jc).go r⟩;have eσ:σ.set i (some (V.ref a))=σ:=by
      apply ahG;intro m;by_cases hm:m=i
      ·subst hm;rw[z2a (z1b hv1).1,hv1]
      ·rw[z1e (aeo hm)]
     rw[eσ];exact h _ _ _ j2 ((Same.gq s1).trans r2)
    ·rw[if_neg hl] at h;exact h.elim
   |_=>exact h.elim
 ·exact h.elim
end
def Its(lo:Int)(n:Nat)(c:Int):It:=⟨λi _=>i<n,λi H x H'=>H'=H/\x= .int (lo+i*c),λi _=>n<=i⟩
theorem Yh(it:aed)(lo:Int)(n:Nat)(c:Int):Turn P w K tg (Its lo n c) [it] it (λi h=>aie h it (lo+(i:Nat)*c) ((n:Int) - (i:Nat)) c) where
 mem:=by simp
 obj :=λi h st b hb=>by
  have e:b=it:=by simpa using hb
  subst e;exact⟨_,st,λv z=>by
   have z':aif _=ag4 v:=z;cases z'⟩
 keep:=λi h h' st k=>k it (by simp) _ st
 item:=by
  intro X hP hw hK hc i pins s σ H E I hf st hg;subst hP hw hK;obtain⟨f0,f1,f2,f3,f4,f5⟩:=hf it (by simp);have W:=Walks.range (prog:=X.prog) (w:=X.w) (I.ok.hd hc) it lo c n;refine W.item i s _ _ hg st λv h' tk hv st' kk=>?_;obtain⟨t,rfl⟩:=hv;have I1:Inv X pins σ H {s with heap:=h',toks:=tk}:=I.turned (λb o hb e=>kk b o (by simpa using hb) e) f0 f1 f3 f4 f5;exact⟨_,rfl,go_of (s:={s with heap:=h',toks:=tk}) (n:= "range_iterator") st' rfl rfl (by decide) ⟨.int (lo+i*c),H,I1,⟨t,rfl⟩,⟨rfl,rfl⟩,st',λb hb=>(hf b hb).1⟩⟩
 done:=by
  intro X hP hw hK hc i pins s σ H E I hf st hg;subst hP hw hK;obtain⟨f0,f1,f2,f3,f4,f5⟩:=hf it (by simp);exact wpAny_pyNext_range_end (I.ok.hd hc) st (by have:n<=i:=hg;omega) λh' eb=>⟨rfl,I.turned (t':=s.toks) (λb o hb e=>eb b o hb e) f0 f1 f3 f4 f5⟩
 self:=λ_ _ _ _ _ st h=>ahI st h
def Cp(hi:Int)(n:Nat):List D:=(aee n).map λ(i:Nat)=>D.int (hi - (i:Int))
theorem YR.step(hi:Int)(n:Nat):YR K O H (Its hi n (-1)) (Cp hi n):=by
 intro O' H' _;intro i;refine⟨λd e=>?_,λe=>?_⟩
 ·unfold Cp at e;rw[z2b] at e;cases q:(aee n)[i]? with
  |none=>rw[q] at e;cases e
  | some k=>
   rw[q] at e;have hk:i<n/\i=k:=by simpa[aeJ] using (z1b q)
   obtain⟨h1,rfl⟩:=hk;cases e;refine⟨h1,λx H2 y=>?_⟩;obtain⟨rfl,rfl⟩:=y;exact⟨Same.refl _,by rw[show hi+(i:Int)*(-1)=hi - (i:Int) by omega];exact cP _⟩
 ·show n<=i;unfold Cp at e;simpa using e
section
variable{X:Cx}{tg a b c:aer}{p pos p2 pos2:Pos}{fa:aB->R (List D)}{ta:TA}
def ad5:List D->R (List D)
 |[.int i,.int j,.int k]=>if k= -1/\-(2^62)<=i/\i<2^62/\-(2^62)<=j/\j<2^62 then .ok (Cp i (i - j).toNat) else .bad
 |_=> .bad
end
section
variable{prog:aew}{w:aey}{A:aeF}{E:aef->aeg->Prop}{s:aeg}
theorem Jt(r:aed)(j:Int)(t u v:Tok)(h0:0<=j)(h1:j<=1000):Meets (afH.«range.__reversed__» ⟨[.ref r],[]⟩) (λ_ R s=>IsRange s.heap r 0 j 1 t u v/\R (.ok (.ret (.ref s.heap.objs.size))) {s with heap:=s.heap.push {cls:= .type "range_iterator",data:= .fields #[ae8 (j - 1),ae8 j,ae8 (-1)]}}):=
 .of_wp λprog w A R s h=>by
  obtain⟨hp,g,d,tk,os⟩:=s;obtain⟨hr,h⟩:=h;have e1:ahE 0 j 1=j:=by rw[rangeSize_one];split <;> omega
  have e2:(afp 0 && afp j && afp 1 && afp (-1) && afp (0 - 1) && afp j)=true:=by
   simp only[afp,agG,decide_eq_true_eq];omega
  have e3:(0:Int)+(j - 1)*1=j - 1:=by omega
  unfold afH.«range.__reversed__» Builtin.Range.rangeFields
  wp_walk using afO hr
  rw[e1];simp only[e2,e3,ait,afm,if_false,if_true];unfold newFields;refine aec (afq (aej ⟨_,rfl,h⟩) (by size_fits))
theorem Ju:isSubtype (.type "range_iterator") (.type "reversed")=pure false:=by rw[isSubtype_type];kernel_rfl
theorem LR{r:aed}{j:Int}{t u v:Tok}{Q₁:aef->aeg->Prop}(h0:0<=j)(h1:j<=1000)(hr:IsRange s.heap r 0 j 1 t u v)
  (h:Q₁ (.ref s.heap.objs.size) {s with heap:=s.heap.push {cls:= .type "range_iterator",data:= .fields #[ae8 (j - 1),ae8 j,ae8 (-1)]}}):
  ahi (model prog w) A (.call (.builtin "reversed.__new__") ⟨[.type "reversed",.ref r],[]⟩) (wants Q₁ E) s:=by
 have hT:s.TypeIs (.ref r) "range" :=⟨_,hr,rfl⟩;refine codeAny_of_tree ?_;show aen _ A.in1 (do aiW "reversed.__new__" ⟨[.type "reversed",.ref r],[]⟩;again (.builtin "reversed.__new__" ⟨[.type "reversed",.ref r],[]⟩)) _ _ s;refine aec (agn (PySem.F.newCall_reversed_1 _) (aej ⟨ahN aiu _,ah3 PySem.F.entry_reversed_new ?_⟩));rw[ahb aiu _];unfold afH.«reversed.__new__»;refine aec (agn (newClass_reversed _) ?_)
 try dsimp only
 refine aec (agn (a:=()) (by first |rfl |kernel_rfl) ?_);refine aec (agn (a:=()) (by first |rfl |kernel_rfl) ?_)
 try dsimp only
 refine aec (wpAny_specialOf hT ag5.lookup ?_)
 try dsimp only
 refine aec (agn (ag5.bind _) ?_)
 try dsimp only
 first
 |rw[if_neg (show ¬((afW "range.__reversed__" ==aeL)=true) from aeO)]
 |(show aen _ _ (if (afW "range.__reversed__" ==aeL)=true then _ else _) _ _ _;rw[if_neg (show ¬((afW "range.__reversed__" ==aeL)=true) from aeO)])
 refine aec (agi ?_);refine aec (m:=runValue (.call (.builtin "range.__reversed__") ⟨[.ref r],[]⟩)) (show aen _ _ (call (.builtin "range.__reversed__") [.ref r]) _ _ _ from agA ag5 hT PySem.F.entry_range_reversed (PySem.F.args_range_reversed_1 _) (Jt r j t u v h0 h1) ⟨hr,?_⟩)
 first
 |exact aej h
 |exact aec (aej (aej h))
theorem Ma{r:aed}{j:Int}{t u v:Tok}(h0:0<=j)(h1:j<=1000)(hr:IsRange s.heap r 0 j 1 t u v)
  (h:Q (.ref s.heap.objs.size) {s with heap:=s.heap.push {cls:= .type "range_iterator",data:= .fields #[ae8 (j - 1),ae8 j,ae8 (-1)]}}):aen (model prog w) A (call (.type "reversed") [.ref r]) Q E s:=by
 refine callType_other (U:= "range_iterator") (Q₁:=λobj s₁=>obj= .ref s.heap.objs.size/\s₁={s with heap:=s.heap.push {cls:= .type "range_iterator",data:= .fields #[ae8 (j - 1),ae8 j,ae8 (-1)]}}) (by decide +kernel) PySem.F.create_reversed ⟨_,_,PySem.F.mro_reversed⟩ PySem.F.made_reversed Ju (PySem.F.typeCall_reversed_1 _) (LR h0 h1 hr ⟨rfl,rfl⟩) ?_
 rintro obj s₁ ⟨rfl,rfl⟩
 exact⟨⟨_,z1f _ rfl,rfl⟩,h⟩
end
section
variable{X:Cx}{tg a:aer}{p pos p2 pos2:Pos}{fa:aB->R (List D)}
def Hv:List D->R (List D)
 |[.int j]=>if 0<=j/\j<=1000 then .ok (Cp (j - 1) j.toNat) else .bad
 |_=> .bad
theorem abr(hg:Gl X "reversed")(hm:X.mg "reversed" =none)(hg2:Gl X "range")(hm2:X.mg "range" =none)(ha:DA X [a] fa)(hs:aei [a] X.env=[(false,eval a X.env)]:=by rfl)
  (he:aei [.Call (.Name "range" p2) [a] [] pos2] X.env=(false,eval (.Call (.Name "range" p2) [a] [] pos2) X.env)::aei [] X.env:=by rfl)(hpl:(ae7 pos (aei [] X.env)).any (·.1)=false:=by rfl):
  DI X tg (.Call (.Name "reversed" p) [.Call (.Name "range" p2) [a] [] pos2] [] pos) (λρ=>(fa ρ).bind Hv):=by
 intro pins s σ H R I h;have A:=pa_cons (acp (p:=p2) (pos:=pos2) hg2 hm2 ha hs) pa_nil he;obtain⟨ρ,O,jn,h⟩:=h;have key:tCons (aco X.K (tG X (M9 X) fa)) tNil σ H (λvs H1=>∃q j,vs=[.ref q]/\H1 q=some (.rng 0 j)/\0<=j/\j<=1000/\R (Its (j - 1) j.toNat (-1)) H1):=by
  refine go jn h λds vs H1 e1 s1 r1 j1 h1=>?_;unfold Hv at h1;split at h1
  ·rename_i j;by_cases hh:0<=j/\j<=1000
   ·rw[if_pos hh] at h1;obtain⟨v,rfl,w⟩:=r1.one;exact⟨j,by rw[w.int],hh.1,hh.2,λq hq=>⟨q,j,rfl,upd_same,hh.1,hh.2,h1 _ _ (Same.upd hq) (YR.step _ _)⟩⟩
   ·rw[if_neg hh] at h1;exact h1.elim
  ·exact h1.elim
 refine Call_ (ld_blt I hg hm boot_reversed (ae6 (thn (A pos pins s σ H _ I key) λus s1 ⟨vs,H1,I1,r1,q1⟩=>?_) he hpl));obtain⟨q,j,e,hq,h0,h1,q⟩:=q1;subst e;cases r1 with
 | cons r rr=>
  cases rr;cases r;obtain⟨t,u,v,hr⟩:=I1.hok _ _ hq;refine Ma h0 h1 hr ?_;have hit:aie (s1.heap.push {cls:= .type "range_iterator",data:= .fields #[ae8 (j - 1),ae8 j,ae8 (-1)]}) s1.heap.objs.size (j - 1) j (-1):=z1f _ rfl;refine ahI (s:={s1 with heap:=s1.heap.push {cls:= .type "range_iterator",data:= .fields #[ae8 (j - 1),ae8 j,ae8 (-1)]}}) hit ?_;refine⟨s1.heap.objs.size,[s1.heap.objs.size],_,_,H1,rfl,I1.kept (t':=s1.toks) λb o e=>z1a _ e,Yh _ (j - 1) j.toNat (-1),?_,λb hb=>?_,q⟩
  ·show aie _ _ (j - 1+((0:Nat):Int)*(-1)) (((j.toNat:Nat):Int) - ((0:Nat):Int)) (-1);rw[show j - 1+((0:Nat):Int)*(-1)=j - 1 by simp,show ((j.toNat:Nat):Int) - ((0:Nat):Int)=j by omega];exact hit
  ·have e:b=s1.heap.objs.size:=by simpa using hb
   subst e;exact I1.fpOk (z0g _) (I1.hok.fresh (z0g _))
end
end Pu
namespace Pu
open PySem PySem.Spec PySem.W L2
open PyProof.Rows hiding St
variable{a:aed}{ts:List (List Int)}{ns:List Int}
def c7:List Int->List Int->Bool
 |[],[]=>false
 |[],_::_=>true
 |_::_,[]=>false
 |x::xs,y::ys=>if x=y then c7 xs ys else decide (x<y)
theorem oV:∀a:List Int,c7 a a=false
 |[]=>rfl
 |x::xs=>by rw[c7,if_pos rfl];exact oV xs
theorem jG:∀{a b c:List Int},c7 a b=true->c7 b c=true->c7 a c=true
 |[],[],_,h,_=>by cases h
 |[],_::_,[],_,h=>by cases h
 |[],_::_,_::_,_,_=>rfl
 |_::_,[],_,h,_=>by cases h
 |_::_,_::_,[],_,h=>by cases h
 | x ::a,y::b,z::c,h1,h2=>by
  rw[c7] at h1 h2 |-;by_cases e1:x=y
  ·rw[if_pos e1] at h1;subst e1;by_cases e2:x=z
   ·rw[if_pos e2] at h2 |-;exact jG h1 h2
   ·rw[if_neg e2] at h2 |-;exact h2
  ·rw[if_neg e1] at h1;have h1:x<y:=of_decide_eq_true h1;by_cases e2:y=z
   ·subst e2;rw[if_neg e1];exact decide_eq_true h1
   ·rw[if_neg e2] at h2;have h2:y<z:=of_decide_eq_true h2;rw[if_neg (by omega)];exact decide_eq_true (by omega)
theorem yF:∀{a b:List Int},a≠b->c7 a b=false->c7 b a=true
 |[],[],h,_=>absurd rfl h
 |[],_::_,_,h=>by cases h
 |_::_,[],_,_=>rfl
 | x ::a,y::b,h,e=>by
  rw[c7] at e |-;by_cases e1:x=y
  ·subst e1;rw[if_pos rfl] at e |-;exact yF (λz=>h (by rw[z])) e
  ·rw[if_neg e1] at e;rw[if_neg (λz=>e1 z.symm)];have e:¬x<y:=of_decide_eq_false e;exact decide_eq_true (by omega)
section
variable{prog:aew}{w:aey}{A:aeF}{E:aef->aeg->Prop}{s:aeg}
theorem Tr{b:aed}{oa ob:Obj}{xs ys:Array aef}{na nb:Nat}{ms:List Int}{P:PySem.Fin->aeg->Prop}(hoa:s.heap.get? a=some oa)(hda:oa.data= .seq xs na)(hob:s.heap.get? b=some ob)(hcb:ob.cls= .type "tuple")(hdb:ob.data= .seq ys nb)
  (hia:af8 xs.toList ns)(hib:af8 ys.toList ms)(h:P (.done (.ret (.bool (c7 ns ms)))) s):
  aen (model prog w) A (afH.«tuple.__lt__» ⟨[.ref a,.ref b],[]⟩) P E s:=by
 have hTb:s.TypeIs (.ref b) "tuple" :=⟨ob,hob,hcb⟩;show aen _ _ (isInstance (.ref b) (.type "tuple") >>=_) _ _ s;refine aec (ahP hTb isSubtype_tuple_tuple ?_);simp only[ait,afm,if_false];refine aec (wpAny_tupleItemsOf hoa hda ?_);refine aec (wpAny_tupleItemsOf hob hdb ?_);refine aec ?_;refine wpAny_forIn_list _
  (λrest r s'=>r.1=none/\s'=s/\∃xs' ys' ns' ms',rest=List.zip xs' ys'/\af8 xs' ns'/\af8 ys' ms'/\c7 ns' ms'=c7 ns ms/\decide (xs'.length<ys'.length)=decide (xs.size<ys.size))
  _ ?_ ?_ _ _ ⟨rfl,rfl,xs.toList,ys.toList,ns,ms,rfl,hia,hib,rfl,by simp⟩
 ·rintro ⟨u,v⟩ rest r s' ⟨hr,rfl,xs',ys',ns',ms',hz,hx',hy',hdec,hlen⟩
  cases hx' with
  |nil=>simp at hz
  | cons k1 t1 hx''=>
   cases hy' with
   |nil=>simp at hz
   | cons k2 t2 hy''=>
    simp only[List.zip_cons_cons,List.cons.injEq,Prod.mk.injEq] at hz;obtain⟨⟨rfl,rfl⟩,rfl⟩:=hz;refine aec (wpAny_eqBool_int ?_);rw[c7] at hdec;by_cases hk:k1=k2
    ·subst hk;rw[if_pos rfl] at hdec;simp only[beq_self_eq_true,ait,afm,if_false];exact aej ⟨rfl,rfl,_,_,_,_,rfl,hx'',hy'',hdec,by simpa using hlen⟩
    ·rw[if_neg hk] at hdec;have e:(k1 ==k2)=false:=by simpa using hk
     rw[e];simp only[Bool.not_false,if_true];rw[<-hdec] at h;refine aec (agi ?_);refine aec (m:=richCompare .Lt (.int k1 t1) (.int k2 t2)) (show aen _ _ (ae9 .Lt (.int k1 t1) (.int k2 t2)) _ _ _ from lt_int ?_)
     first
      |exact aej (aej h)
      |exact aec (aej (aej (aej h)))
      |exact aec (aej (aej h))
 ·rintro⟨r1,r2⟩ s' ⟨hr,rfl,xs',ys',ns',ms',hz,hx',hy',hdec,hlen⟩
  simp only at hr;subst hr;refine aej ?_;have hfin:decide (xs.size<ys.size)=c7 ns ms:=by
   rw[<-hdec,<-hlen];cases hx' with
   | nil=>
    cases hy' with
    |nil=>rfl
    |cons _ _ _=>simp[c7]
   | cons _ _ _=>
    cases hy' with
    |nil=>simp[c7]
    |cons _ _ _=>simp at hz
  show P (.done (.ret (.bool (decide (xs.size<ys.size))))) s';rw[hfin];exact h
theorem U6{b:aed}{oa ob:Obj}{xs ys:Array aef}{na nb:Nat}{ms:List Int}{Q:aef->aeg->Prop}(hu:A.units<afE)(hoa:s.heap.get? a=some oa)(hca:oa.cls= .type "tuple")(hda:oa.data= .seq xs na)(hob:s.heap.get? b=some ob)(hcb:ob.cls= .type "tuple")(hdb:ob.data= .seq ys nb)
  (hia:af8 xs.toList ns)(hib:af8 ys.toList ms)(h:Q (.bool (c7 ns ms)) s):aen (model prog w) A (ae9 .Lt (.ref a) (.ref b)) Q E s:=by
 show aen _ _ (richCompare .Lt (.ref a) (.ref b)) _ _ _;exact wpAny_richCompare_same_room (op:= .Lt) ⟨oa,hoa,hca⟩ ⟨ob,hob,hcb⟩ ajd
   (afn ajd ⟨oa,hoa,hca⟩ PySem.F.entry_tuple_lt (Tr hoa hda hob hcb hdb hia hib ⟨_,rfl,(λe=>nomatch e),h⟩) (PySem.F.args_tuple_lt_2 _ _)) hu
end
section
variable{X:Cx}
end
def Hw(p:List Int):List (List Int)->List (List Int)
 |[]=>[p]
 |q::r=>if c7 p q then p::q::r else q::Hw p r
def lX:List (List Int)->List (List Int)
 |[]=>[]
 |p::r=>Hw p (lX r)
theorem Cq(p:List Int):∀l,(Hw p l).Perm (p::l)
 |[]=> .refl _
 | q::r=>by
  unfold Hw;split
  ·exact .refl _
  ·exact ((Cq p r).cons q).trans (List.Perm.swap p q r)
theorem jH:∀l,(lX l).Perm l
 |[]=> .refl _
 |p::r=>(Cq p _).trans ((jH r).cons p)
abbrev Jv(l:List (List Int)):Prop:=l.Pairwise λa b=>c7 a b=true
theorem Ny(p:List Int):∀{l:List (List Int)},Jv l->p∉l->Jv (Hw p l)
 |[],_,_=>by unfold Hw;simp
 | q ::r,h,hn=>by
  obtain⟨h1,h2⟩:=agp.mp h;unfold Hw;by_cases e:c7 p q=true
  ·rw[if_pos e];refine agp.mpr ⟨λz hz=>?_,h⟩;rcases aev.mp hz with z1 |z1
   ·rw[z1];exact e
   ·exact jG e (h1 z z1)
  ·rw[if_neg e];have e2:c7 q p=true:=yF (λz=>hn (by rw[z];exact aex)) (by simpa using e);refine agp.mpr ⟨λz hz=>?_,Ny p h2 λz=>hn (z2f _ z)⟩;rcases aev.mp ((Cq p r).mem_iff.mp hz) with z1 |z1
   ·rw[z1];exact e2
   ·exact h1 z z1
theorem Cr:∀{l:List (List Int)},l.Nodup->Jv (lX l)
 |[],_=> .nil
 | p::r,h=>by
  obtain⟨h1,h2⟩:=ahm.mp h;exact Ny p (Cr h2) λz=>h1 ((jH r).mem_iff.mp z)
theorem Jw:∀{a b:List (List Int)},a.Perm b->Jv a->Jv b->a=b
 |[],b,p,_,_=>(List.nil_perm.mp p).symm
 |x::a,[],p,_,_=>absurd (List.perm_nil.mp p) (by simp)
 | x :: a,y::b,p,ha,hb=>by
  have ha':=agp.mp ha;have hb':=agp.mp hb;have h1:x=y:=by
   rcases aev.mp (p.mem_iff.mp (aex (a:=x) (l:=a))) with h |h
   ·exact h
   ·rcases aev.mp (p.mem_iff.mpr (aex (a:=y) (l:=b))) with k |k
    ·exact k.symm
    ·have:=jG (ha'.1 y k) (hb'.1 x h);rw[oV] at this;cases this
  subst h1;rw[Jw ((List.perm_cons x).mp p) ha'.2 hb'.2]
theorem VN(hn:ts.Nodup){a b:Nat}(ha:a<ts.length)(hb:b<ts.length)(hab:a≠b):ts.getD a []≠ts.getD b []:=by
 simp only[ahA,aeQ ha,aeQ hb,ag8];intro z;exact hab ((aiI hn).mp z)
theorem abt(hn:ts.Nodup):Ord ts.length (λi j=>c7 (ts.getD i []) (ts.getD j [])):=
 ⟨λa b c _ _ _ h1 h2=>jG h1 h2,λa b ha hb hab h=>yF (VN hn ha hb hab) h⟩
theorem Ra(hn:ts.Nodup){q:Array Nat}(h:Pm ts.length q)(hs:S (λi j=>c7 (ts.getD i []) (ts.getD j [])) q ts.length):q.toList.map (λi=>ts.getD i [])=lX ts:=by
 refine Jw ?_ ?_ (Cr hn)
 ·have e:(aee ts.length).map (λi=>ts.getD i [])=ts:=by
   apply ahG;intro i;by_cases hi:i<ts.length
   ·simp[hi]
   ·simp[hi]
  have:=h.perm.map λi=>ts.getD i [];rw[e] at this;exact this.trans (jH ts).symm
 ·refine List.pairwise_iff_getElem.mpr λi j hi hj hij=>?_;have hl:(q.toList.map λi=>ts.getD i []).length=ts.length:=by simp[h.size]
  have:=hs i j hij (by rw[<-hl];exact hj);have e:∀(k:Nat) (hk:k<(q.toList.map λi=>ts.getD i []).length),(q.toList.map λi=>ts.getD i [])[k]=ts.getD (q.getD k 0) []:=λk hk=>by
   have hk':k<q.size:=by simpa using hk
   simp[ajh,hk']
  rw[e i hi,e j hj];exact this
section
variable{prog:aew}{w:aey}{A:aeF}{E:aef->aeg->Prop}{s:aeg}
inductive pF (h:aes) (a:aed) (l c:Int) (ps:List Int):Prop
 |mk (o o2:Obj) (n n2:Nat) (t u:Tok) (p:aed) (vs:Array aef) (h1:h.get? a=some o) (h2:o.cls= .type "tuple") (h3:o.data= .seq #[.int l t,.int c u,.ref p] n) (h4:h.get? p=some o2) (h5:o2.cls= .type "tuple") (h6:o2.data= .seq vs n2) (h7:af8 vs.toList ps):pF h a l c ps
theorem pF.keeps{h h':aes}{l c:Int}{ps:List Int}(x:pF h a l c ps)(k:∀b o,h.get? b=some o->o.cls= .type "tuple"->h'.get? b=some o):pF h' a l c ps:=
 by
 obtain⟨o,o2,n,n2,t,u,p,vs,h1,h2,h3,h4,h5,h6,h7⟩:=x;exact⟨o,o2,n,n2,t,u,p,vs,k _ _ h1 h2,h2,h3,k _ _ h4 h5,h5,h6,h7⟩
theorem Hx{prog:aew}{w:aey}:∀{vs:List aef} {ns:List Int},af8 vs ns->ItemsAre (intKind prog w) ns vs
 |_,_,.nil=> .nil
 |_,_,.cons n t h=> .cons (intKind_is _ _ _ _) (Hx h)
theorem abu{x y:aed}{l c l' c':Int}{ps qs:List Int}{Q:Bool->aeg->Prop}(hu:A.units<afE)(hx:pF s.heap x l c ps)(hy:pF s.heap y l' c' qs)(h:Q (c7 (l::c::ps) (l'::c'::qs)) s):
  aen (model prog w) A (keyLt' (tuples' true) (.ref x) (.ref y)) Q E s:=by
 obtain⟨o,o2,n,n2,t,u,p,vs,h1,h2,h3,h4,h5,h6,h7⟩:=hx;obtain⟨o',o2',n',n2',t',u',p',vs',g1,g2,g3,g4,g5,g6,g7⟩:=hy;refine kat_lt h1 h3 g1 g3 ?_;show KatLex prog w A true (decide (3<3)) Q [(.int l t,.int l' t'),(.int c u,.int c' u'),(.ref p,.ref p')] 0 s;rw[c7,c7] at h;refine kat_cons (ajp l t l' t' prog w _ _ ?_);by_cases e1:l=l'
 ·rw[if_pos e1] at h;rw[show (l ==l')=true by simpa using e1];refine kat_yes (kat_cons (ajp c u c' u' prog w _ _ ?_));by_cases e2:c=c'
  ·rw[if_pos e2] at h;rw[show (c ==c')=true by simpa using e2];refine kat_yes (kat_cons (wpAny_eqBool_tuple (knd:=intKind prog w) hu ⟨o2,vs,n2,h4,h5,h6,Hx h7⟩ ⟨o2',vs',n2',g4,g5,g6,Hx g7⟩ ?_));by_cases e3:ps=qs
   ·rw[e3,oV] at h;rw[decide_eq_true e3];exact kat_yes (kat_nil (by simpa using h))
   ·rw[decide_eq_false e3];refine kat_no ?_;show aen (model prog w) A (oneLt' false _ _) Q _ s;exact kat_one _ _ (U6 hu h4 h5 h6 g4 g5 g6 h7 g7 h)
  ·rw[if_neg e2] at h;rw[show (c ==c')=false by simpa using e2];refine kat_no ?_;show aen (model prog w) A (oneLt' false _ _) Q _ s;exact kat_one _ _ (lt_int h)
 ·rw[if_neg e1] at h;rw[show (l ==l')=false by simpa using e1];refine kat_no ?_;show aen (model prog w) A (keyLt' oneType' (.int l t) (.int l' t')) Q _ s;exact kat_lt_int h
end
theorem Rb{h:aes}:∀(as:List aed),(∀a∈as,∃l c ps,pF h a l c ps)->∃fs,KatTups h (as.map aez) fs/\fs.length=as.length/\∀f∈fs,∃k t,f=ai7 k t
 |[],_=>⟨[],.nil,rfl,λf hf=>by simp at hf⟩
 | a::as,hx=>by
  obtain⟨l,c,ps,o,o2,n,n2,t,u,p,vs,h1,h2,h3,_⟩:=hx a aex;obtain⟨fs,k1,k2,k3⟩:=Rb as λb hb=>hx b (z2f _ hb);refine⟨.int l t::fs,KatTups.cons h1 h2 h3 rfl k1,by simp[k2],λf hf=>?_⟩;rcases aev.mp hf with z |z
  ·exact⟨l,t,z⟩
  ·exact k3 f z
section
variable{X:Cx}
def Qk(K:aeh)(H:Hp)(a:aed)(ns:List Int):Prop:=∃l c ps p,ns=l::c::ps/\SqT K H a [.int l,.int c,.ref p]/\SqT K H p (ps.map V.int)
theorem abv{pins:List (aed×Obj)}{σ:St}{H:Hp}{s:aeg}(I:Inv X pins σ H s)(h:Qk X.K H a ns):∃l c ps,ns=l::c::ps/\pF s.heap a l c ps:=by
 obtain⟨l,c,ps,p,rfl,h1,h2⟩:=h;obtain⟨its,r1,⟨o,ho,hc,n,hd⟩,_⟩:=I.tuple h1;obtain⟨its2,r2,⟨o2,ho2,hc2,n2,hd2⟩,_⟩:=I.tuple h2;refine⟨l,c,ps,rfl,?_⟩;cases r1 with
 | cons a1 r1=>
  cases r1 with
  | cons a2 r1=>
   cases r1 with
   | cons a3 r1=>
    cases r1;obtain⟨t,rfl⟩:=a1;obtain⟨u,rfl⟩:=a2;cases a3;exact⟨o,o2,n,n2,t,u,p,its2.toArray,ho,hc,hd,ho2,hc2,hd2,by simpa using Ly r2⟩
theorem VP(hu:X.A.units+2<afE):CallR X (.builtin "sorted") (λxs H Q=>∃(a:aed) (as:List aed) (ts:List (List Int)),xs=[.ref a]/\SqL X.K H a (as.map V.ref)/\as.length=ts.length/\ts.length<64/\ts.Nodup/\(∀(i:Nat) b t,as[i]?=some b->ts[i]?=some t->Qk X.K H b t)/\
  ∀(B:aed) (bs:List aed),H B=none->bs.length=ts.length->(∀(i:Nat) b t,bs[i]?=some b->(lX ts)[i]?=some t->b∈as/\∃j:Nat,as[j]?=some b/\ts[j]?=some t)->Q (.ref B) (upd H B (.lst (bs.map V.ref)))):=by
 intro pins s σ H xs us Q I r h;obtain⟨a,as,ts,rfl,hq,hl,h64,hn,ht,q⟩:=h;obtain⟨u,rfl,rx⟩:=vals1 r;cases rx;obtain⟨its,rv,pl,hz⟩:=I.list hq;have hits:its=as.map aez:=by
  have:∀(as:List aed) (its:List aef),Vals (as.map V.ref) its->its=as.map aez:=by
   intro as
   induction as with
   |nil=>intro its r;cases r;rfl
   |cons b as ih=>intro its r;cases r with |cons r1 r2=>cases r1;rw[ih _ r2];rfl
  exact this as its rv
 subst hits;have lenV:(as.map aez).length=ts.length:=by rw[z1g,hl]
 refine Calls.call_function_entry kind_sorted plain_sorted entry_sorted (args_sorted1 _) ?_;unfold afH.«sorted»;refine aec (m:=checkCount "sorted" 1 1 _) (aej ?_);refine aec (collect_list pl.isList ?_);refine aec (wpAny_newList ?_ (by rw[lenV,agj];omega));have hsz:((s.heap.push (af0 "list" #[] 0)).update s.heap.objs.size (afL (· ++(as.map aez).toArray))).objs.size=s.heap.objs.size+1:=by
  rw[Heap.size_update,size_push']
 have hB:(((s.heap.push (af0 "list" #[] 0)).update s.heap.objs.size (afL (· ++(as.map aez).toArray))).push (af0 "list" (as.map aez).toArray 0)).get? (s.heap.objs.size+1)=some (af0 "list" (as.map aez).toArray 0):=by
  rw[<-hsz];exact z1f _ rfl
 show aen _ _ _ _ _ {s with heap:=((s.heap.push (af0 "list" #[] 0)).update s.heap.objs.size (afL (· ++(as.map aez).toArray))).push (af0 "list" (as.map aez).toArray 0)};rw[hsz];have kp:∀b o,s.heap.get? b=some o->(((s.heap.push (af0 "list" #[] 0)).update s.heap.objs.size (afL (· ++(as.map aez).toArray))).push (af0 "list" (as.map aez).toArray 0)).get? b=some o:=λb o e=>by
  refine z1a _ ?_;rw[afR _ _ _ _ (aeN (z2c e))];exact z1a _ e
 have Rc:∀(i:Nat) b,as[i]?=some b->∃l c ps,ts.getD i []=l::c::ps/\pF s.heap b l c ps:=λi b e=>by
  have hi:i<ts.length:=by rw[<-hl];exact (z1b e).1
  obtain⟨l,c,ps,e1,e2⟩:=abv I (ht i b ts[i] e (by simp[hi]));exact⟨l,c,ps,by simp[hi,e1],e2⟩
 have bne:∀b o,s.heap.get? b=some o->b≠s.heap.objs.size+1:=λb o e=>aeN (aiB (z2c e));refine aec (afT (afn slot_list_sort ⟨_,hB,rfl⟩ entry_list_sort (aa0 (lt:=λi j=>c7 (ts.getD i []) (ts.getD j [])) (kk:=tuples' true) hB (by rw[lenV];exact h64) (by rw[lenV];exact abt hn) ?kind ?ask λqq hq hqs=>⟨_,rfl,?fin⟩) (args_list_sort _)))
 case kind=>
  intro h2 h6 keep Q' hQ';obtain⟨fs,kt,fl,fi⟩:=Rb (h:=h6) as λb hb=>by
   obtain⟨i,hi⟩:=List.mem_iff_getElem?.mp hb;obtain⟨l,c,ps,_,e⟩:=Rc i b hi;exact⟨l,c,ps,e.keeps λd o hd _=>keep d o (bne d o hd) (kp d o hd)⟩
  refine kat_kind (T:= .type "int") kt (by rw[fl,hl];rw[lenV] at h2;omega) (λf hf=>by obtain⟨k,t,rfl⟩:=fi f hf;exact .now) rfl hQ'
 case ask=>
  intro h6 keep i j C hi hj hC;rw[lenV] at hi hj;have hi':i<as.length:=by omega
  have hj':j<as.length:=by omega
  obtain⟨l,c,ps,e1,t1⟩:=Rc i as[i] (by simp[hi']);obtain⟨l',c',ps',e2,t2⟩:=Rc j as[j] (by simp[hj']);unfold kas_ask;rw[show (as.map aez).getD i aeL= .ref as[i] by simp[hi'],show (as.map aez).getD j aeL= .ref as[j] by simp[hj']];refine abu ?_ (t1.keeps λd o hd _=>keep d o (bne d o hd) (kp d o hd)) (t2.keeps λd o hd _=>keep d o (bne d o hd) (kp d o hd)) ?_
  ·first |exact Nat.lt_of_le_of_lt (by simp) hu |(show X.A.units+_<afE;omega)
  ·rw[e1,e2] at hC;exact hC
 case fin=>
  rw[lenV] at hq hqs;refine aej ⟨_,rfl,?_⟩;have hout:(qq.toList.map λi=>(as.map aez).getD i aeL)=(qq.toList.map λi=>as.getD i 0).map aez:=by
   rw[afc];refine afG λi hi=>?_;have hi':i<as.length:=by rw[hl];exact z2e (hq.perm.mem_iff.mp hi)
   simp[hi']
  rw[hout];obtain⟨cc,hFB⟩:=sortedHeap_at (vs:=as.map aez) (out:=ago ((qq.toList.map λi=>as.getD i 0).map aez)) hB;have hf:H (s.heap.objs.size+1)=none:=I.hok.fresh (Nat.le_succ _);refine⟨.ref (s.heap.objs.size+1),upd H (s.heap.objs.size+1) (.lst ((qq.toList.map λi=>as.getD i 0).map V.ref)),I.laid (t':=s.toks) (λb o e=>Jd (bne b o e) (kp b o e)) (Nat.le_succ _) ?_,rfl,q _ _ hf ?_ λi b t eb et=>?_⟩
  ·refine⟨?_,_,cc,Us _,hFB⟩;rw[z1g,z1g,agf,hq.size,agj];omega
  ·rw[z1g,agf,hq.size]
  ·rw[<-Ra hn hq hqs] at et;rw[z2b] at eb et;cases ei:qq.toList[i]? with
   |none=>rw[ei] at eb;cases eb
   | some k=>
    rw[ei] at eb et;have eb:as.getD k 0=b:=aeG eb;have et:ts.getD k []=t:=aeG et;have hk:k<ts.length:=z2e (hq.perm.mem_iff.mp (ae0 ei));have hk':k<as.length:=by omega
    have ea:as[k]?=some b:=by simp[ahA,hk'] at eb |-;exact eb
    exact⟨ae0 ea,k,ea,by simp[ahA,hk] at et |-;exact et⟩
end
end Pu
namespace Pu
open PySem PySem.Spec L2
open PyProof.Rows hiding St
def jq:List Int->D
 |l::c::ps=> .tup [.int l,.int c,.tup (ps.map .int)]
 |_=> .non
def yG:D->Option (List Int)
 | .tup [.int l,.int c,.tup ps]=>(intsOf ps).map λns=>l::c::ns
 |_=>none
def qH:List D->Option (List (List Int))
 |[]=>some []
 | d::ds=>match yG d,qH ds with
  |some t,some ts=>some (t::ts)
  |_,_=>none
def pG:List D->R D
 | [.lst ds]=>match qH ds with
  |some ts=>if ts.length<64/\ts.Nodup then .ok (.lst ((lX ts).map jq)) else .bad
  |none=> .bad
 |_=> .bad
theorem VR(ns:List Int):intsOf (ns.map D.int)=some ns:=by simpa using BX (c:=λi:Int=>i) (l:=ns)
theorem Rf{l c:Int}{ps:List Int}:yG (jq (l::c::ps))=some (l::c::ps):=by simp[jq,yG,VR]
section
variable{K:aeh}{O:aed->Prop}{H:Hp}
theorem Z1{d:D}{v:V}{t:List Int}(e:yG d=some t)(r:Rep K O H d v):∃b,v= .ref b/\Qk K H b t/\Rep K O H (jq t) v:=by
 unfold yG at e;split at e
 ·rename_i l c ps;cases q:intsOf ps with
  |none=>rw[q] at e;cases e
  | some ns=>
   rw[q] at e;cases e;obtain⟨a,xs,rfl,hq,rs⟩:=r.tup;obtain⟨v1,v2,v3,rfl,r1,r2,r3⟩:=rs.three;have r1:=r1.int;have r2:=r2.int;subst r1 r2;obtain⟨p,ys,rfl,hq2,Jc⟩:=r3.tup;have e2:=Cj q Jc;subst e2;refine⟨a,rfl,⟨l,c,ns,p,rfl,hq,hq2⟩,iK hq (.cons (cP l) (.cons (cP c) (.cons (iK hq2 vf) .nil)))⟩
 ·cases e
theorem Nz:∀{ds:List D} {vs:List V} {ts:List (List Int)},qH ds=some ts->aU K O H ds vs->∃as:List aed,vs=as.map V.ref/\as.length=ts.length/\∀(i:Nat) b t,as[i]?=some b->ts[i]?=some t->Qk K H b t/\Rep K O H (jq t) (.ref b)
 | [],vs,ts,e,r=>by
  cases e;exact⟨[],r.nil_inv,rfl,λi b t h=>by simp at h⟩
 | d ::ds,vs,ts,e,r=>by
  obtain⟨x,r',rfl,h1,h2⟩:=r.cons_inv;unfold qH at e;split at e
  ·rename_i t ts' e1 e2;cases e;obtain⟨b,rfl,h3,h4⟩:=Z1 e1 h1;obtain⟨as,rfl,h5,h6⟩:=Nz e2 h2;refine⟨b::as,rfl,by simp[h5],λi b' t' eb et=>?_⟩;cases i with
   |zero=>simp at eb et;subst eb et;exact⟨h3,h4⟩
   |succ i=>exact h6 i b' t' (by simpa using eb) (by simpa using et)
  ·cases e
theorem Gr:∀{ds:List D} {vs:List V},ds.length=vs.length->(∀(i:Nat) d v,ds[i]?=some d->vs[i]?=some v->Rep K O H d v)->aU K O H ds vs
 |[],[],_,_=> .nil
 |[],_::_,h,_=>by simp at h
 |_::_,[],h,_=>by simp at h
 |d::ds,v::vs,h,p=> .cons (p 0 d v rfl rfl) (Gr (by simpa using h) λi d' v' e1 e2=>p (i+1) d' v' (by simpa using e1) (by simpa using e2))
end
section
variable{X:Cx}
theorem Rg(hu:X.A.units+2<afE):CallD X (.builtin "sorted") pG:=by
 refine⟨_,VP hu,λρ O σ H Q xs ds j r h=>?_⟩;unfold pG at h;split at h
 ·rename_i es;obtain⟨x,rfl,rx⟩:=r.one;obtain⟨a,ys,rfl,hq,hna,rs⟩:=rx.lst;cases e:qH es with
  |none=>rw[e] at h;exact h.elim
  | some ts =>
   rw[e] at h;have h:good X (rD X) O (if ts.length<64/\ts.Nodup then R.ok (.lst ((lX ts).map jq)) else .bad) σ H Q:=h;by_cases hl:ts.length<64/\ts.Nodup
   ·rw[if_pos hl] at h;obtain⟨as,rfl,h1,h2⟩:=Nz e rs;refine⟨a,as,ts,rfl,hq,h1,hl.1,hl.2,λi b t eb et=>(h2 i b t eb et).1,λB bs hB hbl hp=>?_⟩;refine h _ _ (Same.upd hB) (Rep.mQ hB (j.uJ hB) (Gr ?_ λi d v ed ev=>?_))
    ·rw[z1g,z1g,(jH ts).length_eq,hbl]
    ·rw[z2b] at ed ev;cases q1:(lX ts)[i]? with
     |none=>rw[q1] at ed;cases ed
     | some t=>
      cases q2:bs[i]? with
      |none=>rw[q2] at ev;cases ev
      | some b=>
       rw[q1] at ed;rw[q2] at ev;cases ed;cases ev;obtain⟨_,k,z1,z2⟩:=hp i b t q2 q1;exact (h2 k b t z1 z2).2
   ·rw[if_neg hl] at h;exact h.elim
 ·exact h.elim
end
section
variable{X:Cx}{e:aer}{f:aB->R D}{pos:Pos}
theorem Mf(i k m:Nat){x y z:Str}{px py pz pt:Pos}{kt}(hc:X.calm=true)(hN:X.N.Nodup)(he:DE X e f)(hi:X.N[i]?=some x:=by rfl)(hk:X.N[k]?=some y:=by rfl)(hm:X.N[m]?=some z:=by rfl)
  (hx:Loc X.env.scope x:=by first |exact afo rfl |exact afa rfl)(hy:Loc X.env.scope y:=by first |exact afo rfl |exact afa rfl)(hz:Loc X.env.scope z:=by first |exact afo rfl |exact afa rfl)
  (hfx:X.fn x=true\/X.env.scope.names.lookup x=some .local:=by first |exact .inl rfl |exact .inr rfl)(Qw:X.fn y=true\/X.env.scope.names.lookup y=some .local:=by first |exact .inl rfl |exact .inr rfl)(hfz:X.fn z=true\/X.env.scope.names.lookup z=some .local:=by first |exact .inl rfl |exact .inr rfl)
  (hs:ahf [.Tuple [.Name x px,.Name y py,.Name z pz] kt pt] e pos.line X.env=pure false:=by rfl)(hw:ahg [.Tuple [.Name x px,.Name y py,.Name z pz] kt pt] e X.env=pure none:=by rfl):
  DS X (.Assign [.Tuple [.Name x px,.Name y py,.Name z pz] kt pt] e pos) (bD f (dN (dO 3 (bw (aL i) (bw (aL k) (bw (aL m) nilG)))))):=by
 refine PS.imp (ps_asg he (pg_tup hc (pgs_cons (pg_name hN hi hx hfx) (pgs_cons (pg_name hN hk hy Qw) (pgs_cons (pg_name hN hm hz hfz) pgs_nil)))) hs hw) λσ H E h=>?_;obtain⟨H0,O0,O,ρ,j,h⟩:=h;refine⟨ρ,O,j.inn,?_⟩;unfold bD lA at h;cases e1:f ρ with
 |bad=>rw[e1] at h;exact h
 |err c=>rw[e1] at h;exact h σ H O j
 | ok d=>
  rw[e1] at h;intro v H' s r;cases d with
  | tup ds=>
   match ds,h,r with
   |[],h,_=>exact h.elim
   |[_],h,_=>exact h.elim
   |[_,_],h,_=>exact h.elim
   |_::_::_::_::_,h,_=>exact (show False by simpa[dN,dO,yq] using h).elim
   | [d1,d2,d3],h,r=>
    obtain⟨a,xs,rfl,hq,rs⟩:=r.tup;obtain⟨v1,v2,v3,rfl,r1,r2,r3⟩:=rs.three;refine⟨a,[v1,v2,v3],rfl,hq,rfl,v1,[v2,v3],rfl,v2,[v3],rfl,v3,[],rfl,rfl,?_⟩;exact h _ H' O ((((j.grow s).set (z1b hi).1 r1).set (z1b hk).1 r2).set (z1b hm).1 r3) (Same.gq s)
  |_=>exact h.elim
end
section
variable{X:Cx}{e:aer}{f:aB->R D}
def adW:D->R Bool
 | .lst ds=> .ok (!ds.isEmpty)
 | .tup ds=> .ok (!ds.isEmpty)
 |_=> .bad
def Hy(f:aB->R D):aB->R Bool:=λρ=>(f ρ).bind adW
theorem aU.empty{K:aeh}{O:aed->Prop}{H:Hp}{ds:List D}{vs:List V}(r:aU K O H ds vs):ds.isEmpty=vs.isEmpty:=by
 have:=r.length;cases ds <;> cases vs <;> simp_all
theorem Jx(h:DE X e f)(he:∀whole,isTrue e X.env whole=(do let v <-whole;standAt e.pos;holding [v] (truthy v)):=by intro _;rfl):DT X e (Hy f):=by
 refine PT.imp (pt_truth h he) λσ H Q h=>?_;obtain⟨ρ,O,j,h⟩:=h;refine go j h λd v H1 e1 s1 r1 j1 h1=>?_;cases d with
 | lst ds=>
  obtain⟨a,xs,rfl,hq,hn,rs⟩:=r1.lst;exact⟨!xs.isEmpty,.inl ⟨xs,hq,rfl⟩,by rw[<-rs.empty];exact fin h1 rfl⟩
 | tup ds=>
  obtain⟨a,xs,rfl,hq,rs⟩:=r1.tup;exact⟨!xs.isEmpty,.inr (.inl ⟨xs,hq,rfl⟩),by rw[<-rs.empty];exact fin h1 rfl⟩
 |_=>exact h1.elim
end
theorem Rh{A:aeF}{k:Nat}(hr:Room k A):A.units+2<afE:=by have:=hr.un;omega
def FnS(P:aew)(w:aey)(K:aeh)(mg:Str->Option aef)(base:aes)(k:Nat)(x:Str)(kG n q:Nat)(F:aed->(List D->R D)->List D->R D):Prop:=
 ∃f fd ps,FnOk P w K mg base CX0 k f fd ps (spS P w mg base kG K n q F)/\mg x=some (.ref f)/\ae2 K (.ref f)=true/\Binds K fd ps []
theorem Gs:∀{xs:List V} {us:List aef},xs.length=us.length->(∀(i:Nat) x u,xs[i]?=some x->us[i]?=some u->RelV x u)->Vals xs us
 |[],[],_,_=> .nil
 |[],_::_,h,_=>by simp at h
 |_::_,[],h,_=>by simp at h
 |x::xs,u::us,h,p=> .cons (p 0 x u rfl rfl) (Gs (by simpa using h) λi d' v' e1 e2=>p (i+1) d' v' (by simpa using e1) (by simpa using e2))
theorem Yi{lo:Int}{acc:Array aef}{n:Nat}(h:ItemsOf (λi v=>∃t,v= .int (lo+i*1) t) acc n):Vals ((aee n).map λ(i:Nat)=>V.int (lo+(i:Int))) acc.toList:=by
 refine Gs (by simp[h.1]) λi x u e1 e2=>?_;rw[Array.getElem?_toList] at e2;obtain⟨t,rfl⟩:=h.2 i u e2;rw[z2b] at e1;cases q:(aee n)[i]? with
 |none=>rw[q] at e1;cases e1
 | some k=>
  rw[q] at e1;have hk:i<n/\i=k:=by simpa[aeJ] using (z1b q)
  obtain⟨_,rfl⟩:=hk;cases e1;exact⟨t,by rw[Int.mul_one]⟩
section
variable{X:Cx}{a b:aer}{p pos p2 pos2:Pos}{fa:aB->R (List D)}{ta:TA}
def adh(ta:TA):TE:=λσ H Q=>ta σ H λvs H1=>∃i j:Int,vs=[.int i,.int j]/\∀q,H1 q=none->Q (.ref q) (upd H1 q (.rng i j))
theorem abw(hg:Gl X "range")(hm:X.mg "range" =none)(ha:PA X [a,b] ta)(hs:aei [a,b] X.env=[(false,eval a X.env),(false,eval b X.env)]:=by rfl)(hs2:aei [b] X.env=[(false,eval b X.env)]:=by rfl):PE X (.Call (.Name "range" p) [a,b] [] pos) (adh ta):=by
 intro pins s σ H Q I h;refine Call_ (ld_blt I hg hm boot_range (ae6 (thn (ha pos pins s σ H _ I h) λus s1 ⟨vs,H1,I1,r1,q1⟩=>?_) (by rw[hs,hs2]) (by rw[hs2];rfl)));obtain⟨i,j,e,q⟩:=q1;subst e;cases r1 with
 | cons r rr=>
  cases rr with
  | cons r' rr=>
   cases rr;obtain⟨t,rfl⟩:=r;obtain⟨t',rfl⟩:=r';refine call_range_2 ?_;exact⟨.ref s1.heap.objs.size,upd H1 s1.heap.objs.size (.rng i j),I1.laid (λb o e=>z1a _ e) (z0g _) ⟨_,_,_,z1f _ rfl⟩,rfl,q _ (I1.hok.fresh (z0g _))⟩
theorem Yj(hc:X.calm=true):CallR X (.type "list") (λxs H Q=>∃(b:aed) (i j:Int),xs=[.ref b]/\H b=some (.rng i j)/\-1000<=i/\i<=1000/\-1000<=j/\j<=1000/\∀B,H B=none->Q (.ref B) (upd H B (.lst ((aee (j - i).toNat).map λ(k:Nat)=>V.int (i+(k:Int)))))):=by
 intro pins s σ H xs us Q I r h;obtain⟨b,i,j,rfl,hb,h0,h1,h2,h3,q⟩:=h;obtain⟨u,rfl,rx⟩:=vals1 r;cases rx;obtain⟨t,u,v,hr⟩:=(show ObjOk X.prog X.w H s.heap b (.rng i j) from I.hok b _ hb);have hn:ahE i j 1=(((j - i).toNat:Nat):Int):=by rw[rangeSize_one];split <;> omega
 refine call_list_range (I.ok.hd hc) hr (small_one (by omega) (by omega) (by omega) (by omega)) hn (by omega) λh' tk acc c' hk he hacc=>?_;have hf:H s.heap.objs.size=none:=I.hok.fresh (z0g _);refine⟨.ref s.heap.objs.size,_,I.laid (t':=tk) (o:= .lst ((aee (j - i).toNat).map λ(k:Nat)=>V.int (i+(k:Int)))) hk (z0g _) ⟨?_,acc.toList,c',Yi hacc,by simpa using he⟩,rfl,q _ hf⟩;rw[z1g,z2d];exact z0b (by omega) (z0e iH)
theorem V0{K:aeh}{O:aed->Prop}{H:Hp}{lo:Int}{n:Nat}:aU K O H (upto lo n) ((aee n).map λ(i:Nat)=>V.int (lo+(i:Int))):=by
 unfold upto
 generalize aee n=l
 induction l with
 |nil=>exact .nil
 |cons x l ih=>exact .cons (cP _) ih
def ad7:List D->R D
 |[.int j]=>if 0<=j/\j<=1000 then .ok (.lst (upto 0 j.toNat)) else .bad
 |_=> .bad
def V1:List D->R D
 |[.int i,.int j]=>if -1000<=i/\i<=1000/\-1000<=j/\j<=1000 then .ok (.lst (upto i (j - i).toNat)) else .bad
 |_=> .bad
theorem Z4(hc:X.calm=true)(hg:Gl X "list")(hm:X.mg "list" =none)(hg2:Gl X "range")(hm2:X.mg "range" =none)(ha:DA X [a,b] fa)(hs2:aei [a,b] X.env=[(false,eval a X.env),(false,eval b X.env)]:=by rfl)(hs3:aei [b] X.env=[(false,eval b X.env)]:=by rfl)
  (he:aei [.Call (.Name "range" p) [a,b] [] pos] X.env=(false,eval (.Call (.Name "range" p) [a,b] [] pos) X.env)::aei [] X.env:=by rfl)(hpl:(ae7 pos2 (aei [] X.env)).any (·.1)=false:=by rfl):
  DE X (.Call (.Name "list" p2) [.Call (.Name "range" p) [a,b] [] pos] [] pos2) (aH V1 fa):=by
 refine PE.imp (pe_callTy (Yj hc) hg hm boot_list (pa_cons (abw hg2 hm2 ha hs2 hs3) pa_nil he) (by decide) (by decide) he hpl) λσ H Q q=>?_;obtain⟨ρ,O,j,q⟩:=q;refine go j q λds vs H1 e1 s1 r1 j1 h1=>?_;unfold V1 at h1;split at h1
 ·rename_i i k;obtain⟨x,y,rfl,rx,ry⟩:=r1.two;by_cases hi: -1000<=i/\i<=1000/\-1000<=k/\k<=1000
  ·rw[if_pos hi] at h1;refine⟨i,k,by rw[rx.int,ry.int],λq hq=>⟨q,i,k,rfl,upd_same,hi.1,hi.2.1,hi.2.2.1,hi.2.2.2,λB hB=>?_⟩⟩;have s2:Same H1 (upd H1 q (.rng i k)):=Same.upd hq;exact h1 _ _ (s2.trans (Same.upd hB)) (Rep.mQ hB ((j1.same s2).uJ hB) V0)
  ·rw[if_neg hi] at h1;exact h1.elim
 ·exact h1.elim
end
end Pu
namespace Pu
open PySem PySem.Spec PySem.W L2
open PyProof.Rows hiding St
section
variable{prog:aew}{w:aey}{A:aeF}{s:aeg}
end
section
variable{X:Cx}
end
end Pu
namespace Pu
open PySem PySem.Spec L2
open PyProof.Rows hiding St
variable{params:afN}{body:aer}{clos:List (Str×aed)}{scope:afz}{qual name:Str}
def Hz(st:aeA):aer:=match defBody st with
 | .Return (some (.Call _ as _ _)) _::_=>as.getD 3 (.Name "" ⟨0,0,0,0⟩)
 |_=> .Name "" ⟨0,0,0,0⟩
def abx:aer->afN
 | .Lambda a _ _ _=>a
 |_=>default
def U7:aer->aer
 | .Lambda _ b _ _=>b
 |e=>e
def zG:aer->afz
 | .Lambda _ _ s _=>s
 |_=>default
inductive tZ (H:Hp) (a:aed) (name qual:Str) (params:afN) (body:aer) (scope:afz) (clos:List (Str×aed)):Prop
 | mk (fo:Obj) (pm:aef) (c':aed) (ctv:aef) (oc:Obj) (vs:Array aef) (t:Tok) (h1:H a=some (.frz fo (.own a))) (h2:fo.data= .func (PySem.W.kla_fn name qual params body scope clos pm (.ref c') ctv))
  (h3:H c'=some (.frz oc (.own c'))) (h4:oc.data= .fields vs) (h5:vs[1]?=some (.str qual t)):tZ H a name qual params body scope clos
theorem tZ.fz{H H':Hp}{a:aed}(h:tZ H a name qual params body scope clos)(s:∀b o u,H b=some (.frz o u)->H' b=some (.frz o u)):tZ H' a name qual params body scope clos:=by
 obtain⟨fo,pm,c',ctv,oc,vs,t,h1,h2,h3,h4,h5⟩:=h;exact⟨fo,pm,c',ctv,oc,vs,t,s _ _ _ h1,h2,s _ _ _ h3,h4,h5⟩
section
variable{X:Cx}{pins:List (aed×Obj)}{σ:St}{H:Hp}{s:aeg}
theorem Z5{M:Model}{A:aeF}{E:aef->aeg->Prop}{pos:Pos}{line:Nat}{c P:aed}{ps:Array aef}{tq:Tok}{Q:aef->aeg->Prop}
  (I:Inv X pins σ H s)(hB:iB X.base X.mg c P)(hc:X.env.code= .ref c)(e0:H P=some (.tbl ps))(q0:ps[0]?=some (.str qual tq))(hcl:ag7 scope X.env=pure clos)
  (h:∀a H1 s',Inv X pins σ H1 s'->Same H H1->tZ H1 a name qual params body scope clos->Q (.ref a) s'):
  aen M A (makeFunction name qual params (.expr body) scope X.env [] [] [] pos line) Q E s:=by
 obtain⟨qs,hP,tr,al⟩:=I.hok P _ e0;have hgs:s.heap.Ns ael X.mg:=I.mod.glob.keeps I.bk;have C:ag1 s.heap c P:=hB.code.keeps I.bk;obtain⟨bm,ob,b1,b2,b3,b4,b5,b6⟩:=hB.blt;have hgP:ael≠P:=λq=>by
  obtain⟨o,es,ep,e,hd,_⟩:=hgs;rw[q,hP] at e;cases e;cases hd
 have hbP:bm≠P:=λq=>by
  have e:=I.bk _ _ b3;rw[q,hP] at e;cases e;cases b4
 have hbG:bm≠ael:=λq=>by
  obtain⟨o,es,ep,e,hd,_⟩:=I.mod.glob;rw[q,e] at b3;cases b3;rw[hd] at b6;cases b6
 have hbb:s.heap.BuiltinsAt X.mg P:=⟨bm,ob,b1,b2,hbG,hbP,I.bk _ _ b3,b4,b5,b6⟩;cases hf:ag3 pos qs.toList with
 | some cv=>
  obtain⟨c',oc,vs,q,t,tq',rfl,h1,h2,h3,h4⟩:=al pos cv hf;rw[q0] at h4;cases h4;refine PySem.W.kla_makeFunctionHit (mg:=X.mg) hcl I.ok.glob hgs hc C hP tr hf hbb λctv h' tk hk hsz=>?_;have I1:Inv X pins σ H {s with heap:=h',toks:=tk}:=I.kept (t':=tk) hk;have hn:H h'.objs.size=none:=I1.hok.fresh (z0g _);exact h _ _ _ (I1.laid (t':=tk) (o:= .frz _ (.own h'.objs.size)) (λb u z=>z1a _ z) (z0g _) ⟨z1f _ rfl,_,z1f _ rfl⟩) (Same.upd hn)
   ⟨_,_,c',ctv,oc,vs,t,upd_same,rfl,by rw[upd_ne (ne_of_none h1 hn)];exact h1,h2,h3⟩
 | none =>
  refine PySem.W.kla_makeFunction (mg:=X.mg) hcl I.ok.glob hgs hc C hP tr hf hgP hbb λc' ctv h' tk hx hge hlt hrec htb=>?_;obtain⟨c2,oc,vs,t,e2,hoc,hd,hv⟩:=hrec;cases e2;have hn:H c'=none:=I.hok.fresh hge;have old:∀b u,H b=some u->upd H c' (.frz oc (.own c')) b=some u:=λb u z=>by rw[upd_ne (ne_of_none z hn)];exact z
  have I1 : Inv X pins σ (upd H c' (.frz oc (.own c'))) {s with heap:=h',toks:=tk}:=by
   refine I.call' (ch:=[]) rfl ⟨λb o q n _ _=>hx b o (λz=>by rw[z,e0] at n;cases n) q,λb o q n _ _=>⟨o.slots,hx b o (λz=>by rw[z,e0] at n;cases n) q⟩,λb o q n _=>?_,λb o q _=>?_,λb xs q=>old _ _ q,λb o u q=>old _ _ q,λb p q=>⟨#[],by rw[old _ _ q];simp⟩⟩ (λb u q=>?_) I.bare (λb z=>absurd z (by simp))
   ·rw[upd_ne (aeN (z0d (z2c q) hge))];exact n
   ·by_cases hb:b=P
    ·rw[hb];exact⟨_,htb⟩
    ·exact⟨o,hx b o hb q⟩
   ·by_cases hb:b=c'
    ·subst hb;rw[upd_same] at q;cases q;exact⟨hoc,oc,hoc⟩
    ·rw[upd_ne hb] at q;by_cases hp:b=P
     ·subst hp;rw[e0] at q;cases q;refine⟨_,htb,?_,λp cv z=>?_⟩
      ·have:=Gp (a:=pos.line) (s:=0) (b:=pos.col) (t:=0) (c:=aez c') qs.toList tr;simpa[ae8] using this
      ·have z':ag3 p (qs.toList++[.int pos.line 0,.int pos.col 0,.ref c'])=some cv:=by simpa[ae8] using z
       rcases Nv _ tr z' with z1 |z1
       ·obtain⟨c3,o3,v3,q3,t3,tq3,y1,y2,y3⟩:=al p cv z1;exact⟨c3,o3,v3,q3,t3,tq3,y1,old _ _ y2,y3⟩
       ·exact⟨c',oc,vs,qual,t,tq,z1,upd_same,hd,hv,q0⟩
     ·exact (I.hok b u q).stay (λd v hd z=>hx d v (λy=>hd.elim (λx=>hp (x.symm.trans y)) λx=>by rw[y,e0] at x;cases x) z) (λd z=>old _ _ z) (λd xs z=>old _ _ z) λd o u _ z=>old _ _ z
  have hn2:upd H c' (.frz oc (.own c')) h'.objs.size=none:=I1.hok.fresh (z0g _);exact h _ _ _ (I1.laid (t':=tk) (o:= .frz _ (.own h'.objs.size)) (λb u z=>z1a _ z) (z0g _) ⟨z1f _ rfl,_,z1f _ rfl⟩) ((Same.upd hn).trans (Same.upd hn2))
   ⟨_,_,c',ctv,oc,vs,t,upd_same,rfl,by rw[upd_ne (aeN hlt),upd_same],hd,hv⟩
def adX(name qual:Str)(params:afN)(body:aer)(scope:afz)(clos:List (Str×aed)):TE:=λ_ H Q=>∀a H1,Same H H1->tZ H1 a name qual params body scope clos->Q (.ref a) H1
theorem acD{pos:Pos}{c P:aed}(hB:iB X.base X.mg c P)(hT:Tb [(P,qual)] X.H₀)(hc:X.env.code= .ref c)(hcl:ag7 scope X.env=pure clos)(hq:X.env.qual++ "<lambda>" =qual)(hd:defaultsOf params X.env=([],[])):
  PE X (.Lambda params body scope pos) (adX "<lambda>" qual params body scope clos):=by
 intro pins s σ H Q I h;obtain⟨ps,tq,e0,q0⟩:=(hT.un I.base) (P,qual) (by simp);refine PySem.W.kla_eval hd ?_;rw[hq];exact Z5 I hB hc e0 q0 hcl λa H1 s' I1 sm fh=>⟨.ref a,H1,I1,rfl,h a H1 sm fh⟩
end
theorem aby{P:aew}{w:aey}{K:aeh}{mg:Str->Option aef}{base:aes}{N ps:List Str}{k n m:Nat}{fe:aB->R D}{a:aed}{H:Hp}
  (S:FnScope N ps scope)(hn:ps.length=n)(hm:N.length=n+m)
  (hbind:∀(pm:aef) (cdv ct:aef) (us:List aef),us.length=ps.length->af2 (PySem.W.kla_fn name qual params body scope [] pm cdv ct) ⟨us,[]⟩=pure (ps.zip us))
  (hb:∀(cdv:aef) (A:aeF) (outer:List afd) (s:aeg) (H:Hp) (E:XK) (f:aed),Room k (A.deeper (afC qual scope s.heap.objs.size f cdv))->DE (cxOf CX0 P w K mg base N qual scope f cdv A outer s H E).nox body fe)
  (fh:tZ H a name qual params body scope []):pC P w K mg base (k+1) (λds=>fe ((ds.map Ent.val).map some++aem m none)) n a H:=by
 intro A outer s H1 us vs Q E hr e0 hz r sp;obtain⟨O,ds,rs,hl,al,sp⟩:=sp;obtain⟨fo,pm,c',ctv,oc,vq,t,f1,f2,f3,f4,f5⟩:=fh.fz hz;obtain⟨hfo,_⟩:=e0.hok a _ f1;obtain⟨hoc,_⟩:=e0.hok c' _ f3;have lim:s.heap.NoLimit:=e0.mod.nolimit.keeps λb o e=>(e0.bs b o e).1;have hlu:us.length=ps.length:=by rw[<-r.length,<-rs.length,hl,hn]
 have hkind:∀y∈ps.zip us,scope.names.lookup y.1=some .local\/(scope.names.lookup y.1=some .cell/\((aeH (s.heap.objs.size+1) scope.names []).lookup y.1).isSome=true):=λ⟨n,v⟩ hy=>by
  rcases S.par n (ahn hy).1 with q |q
  ·exact .inl q
  ·exact .inr ⟨q,agl _ _ _ (.inl q)⟩
 refine PySem.W.kla_callFunE hr.depth hfo f2 S.co S.gen rfl ⟨c',oc,vq,t,rfl,hoc,f4,f5⟩ ?_;rw[hbind pm _ _ us hlu];refine aej (wpAny_newFunctionEnv_cells S.kind hkind λenv he s1 x=>?_);subst he;refine⟨lim.keeps x.toInCall.keep,PySem.W.kla_codeExpr ?_⟩;have I:Inv (cxOf CX0 P w K mg base N qual scope a (.ref c') A outer s H1 E) [] (start N vs) H1 s1:=inv_start S hr.hd e0 (by rw[<-rs.length,hl,hn]) r x;have yE:N.length=vs.length+m:=by rw[hm,<-rs.length,hl]
 have J:At (cxOf CX0 P w K mg base N qual scope a (.ref c') A outer s H1 E).nox H1 O O H1 ((ds.map Ent.val).map some++aem m none) (start N vs):=by
  rw[zB yE];exact zA (X:=(cxOf CX0 P w K mg base N qual scope a (.ref c') A outer s H1 E).nox) (by rw[z1g,rs.length];exact yE) (rN rs) al
 refine afl (PE.nox (hb (.ref c') A outer s H1 E a (hr.deeper _)) [] s1 (start N vs) H1 (λv H'=>Q v H') I ⟨_,O,J.inn,?_⟩) (λu s' hs=>?_) λe s' hs=>hs
 ·have sp:(match fe ((ds.map Ent.val).map some++aem m none) with | .ok d=>∀v H',Same H1 H'->Rep K O H' d v->Q v H' |_=>False):=sp;cases q:fe ((ds.map Ent.val).map some++aem m none) with
  |ok d=>rw[q] at sp;exact λv H' s' r'=>sp v H' s' r'
  |err c=>rw[q] at sp;exact sp.elim
  |bad=>rw[q] at sp;exact sp
 ·obtain⟨v,H',J',rv,q⟩:=hs;exact⟨v,H',J'.os,J'.bare,J'.base,J'.hok,rv,q⟩
def Z6(f1 f2 f3:aB->R D)(FS:aed->(List D->R D)->List D->R D)(GG:List D->R D):aB->So:=λρ=>match f1 ρ with
 | .ok a=>(match f2 ρ with
  | .ok b=>(match f3 ρ with
   | .ok d=>(match allOf (λx=>FS x GG [a,b,d]) with
    | .ok r=> .rt r
    |_=> .bad)
   |_=> .bad)
  |_=> .bad)
 |_=> .bad
section
variable{X:Cx}{qual:Str}{params:afN}{body:aer}{scope:afz}{xS:Str}{cc P fS:aed}{Gq:aeZ}{Cm:List Str}{kS kG q:Nat}{FS:aed->(List D->R D)->List D->R D}{GG:List D->R D}{p p4 pos2 ZX:Pos}{e1 e2 e3:aer}{f1 f2 f3:aB->R D}
theorem abz(hB:iB X.base X.mg cc P)(hT:Tb [(P,qual)] X.H₀)(hcode:X.env.code= .ref cc)(Sw:FnOk X.prog X.w X.K X.mg X.base CX0 kS fS Gq Cm (spS X.prog X.w X.mg X.base kG X.K 3 q FS))(hr:Room kS X.A)(hm:X.mg xS=some (.ref fS))(hk:ae2 X.K (.ref fS)=true)(hb:Binds X.K Gq Cm [])
  (Q6:∀a H,tZ H a "<lambda>" qual params body scope []->pC X.prog X.w X.K X.mg X.base kG GG q a H)
  (h1:DE X e1 f1)(h2:DE X e2 f2)(h3:DE X e3 f3)
  (hcl:ag7 scope X.env=pure [])(hq:X.env.qual++ "<lambda>" =qual)(hd:defaultsOf params X.env=([],[]))
  (hg:Gl X xS:=by rfl)(hdb:(xS ==("__debug__" :Str))=false:=by decide)
  (Ye:aei [e1,e2,e3,.Lambda params body scope p4] X.env=(false,eval e1 X.env)::aei [e2,e3,.Lambda params body scope p4] X.env:=by rfl)(he2:aei [e2,e3,.Lambda params body scope p4] X.env=(false,eval e2 X.env)::aei [e3,.Lambda params body scope p4] X.env:=by rfl)
  (he3:aei [e3,.Lambda params body scope p4] X.env=(false,eval e3 X.env)::aei [.Lambda params body scope p4] X.env:=by rfl)(he4:aei [.Lambda params body scope p4] X.env=(false,eval (.Lambda params body scope p4) X.env)::aei [] X.env:=by rfl)
  (hpl:(ae7 pos2 (aei [e2,e3,.Lambda params body scope p4] X.env)).any (·.1)=false:=by rfl):
  jW X [.Return (some (.Call (.Name xS p) [e1,e2,e3,.Lambda params body scope p4] [] pos2)) ZX] (Z6 f1 f2 f3 FS GG):=by
 have A:=pa_cons h1 (pa_cons h2 (pa_cons h3 (pa_cons (acD (X:=X) (pos:=p4) (body:=body) hB hT hcode hcl hq hd) pa_nil he4) he3) he2) Ye;refine PSs.imp (pss_one (ps_ret (pe_call (dvs:=[]) (pos:=pos2) Sw hr hg hm hk hb .nil pass0 A hdb Ye hpl))) λσ H E h=>?_;obtain⟨H0,O0,O,ρ,j,h⟩:=h;unfold Z6 at h;refine⟨ρ,O,j.inn,?_⟩;cases q1:f1 ρ with
 |err _=>rw[q1] at h;exact h.elim
 |bad=>rw[q1] at h;exact h.elim
 | ok d1 =>
  rw[q1] at h;simp only at h;intro v1 H2 s2 r1;refine⟨ρ,O,j.inn.same s2,?_⟩;cases q2:f2 ρ with
  |err _=>rw[q2] at h;exact h.elim
  |bad=>rw[q2] at h;exact h.elim
  | ok d2=>
   rw[q2] at h;simp only at h;intro v2 H3 s3 r2;refine⟨ρ,O,(j.inn.same s2).same s3,?_⟩;cases q3:f3 ρ with
   |err _=>rw[q3] at h;exact h.elim
   |bad=>rw[q3] at h;exact h.elim
   | ok d3=>
    rw[q3] at h;simp only at h;cases q4:allOf (λx=>FS x GG [d1,d2,d3]) with
    |bad=>rw[q4] at h;exact h.elim
    |err _=>rw[q4] at h;exact h.elim
    | ok d=>
     rw[q4] at h;intro v3 H4 s4 r3 a H5 s5 fh;have s15:Same H H5:=((s2.trans s3).trans s4).trans s5;obtain⟨fo,pm,c',ctv,oc,vq,t,l1,l2,l3,l4,l5⟩:=id fh;refine⟨O,[d1,d2,d3],[v1,v2,v3],a,GG,rfl,.cons (r1.same ((s3.trans s4).trans s5)) (.cons (r2.same (s4.trans s5)) (.cons (r3.same s5) .nil)),rfl,(j.inn.same s15).al,⟨rfl,fo,_,l1,l2⟩,Q6 a H5 fh,?_⟩;rw[Q8 q4 a];exact λv' H' s' r'=>h v' H' (j.same.trans (s15.trans s')) (r'.fewer j.sub)
end
end Pu
namespace Pu
open PySem PySem.Spec PySem.W L2
open PyProof.Rows hiding St
def Kp(I S:aed)(h0 h:aes):Prop:=∀b o,b≠I->b≠S->h0.get? b=some o->h.get? b=some o
theorem Ql:(toString "min" ++toString ".loop" :String)= "min.loop" :=by decide
section
variable{prog:aew}{w:aey}{A:aeF}{R:Result->aeg->Prop}{I l S:aed}{its:Array aef}{h0:aes}{bt:Nat->Nat->Bool}
theorem Mg(hh:A.handled=none)(hl:l≠I)(hS1:S≠I)(hS2:l≠S)
  (cmp:∀(s:aeg) (i j:Nat) (vi vj:aef) (Q:aef->aeg->Prop) (E:aef->aeg->Prop),Kp I S h0 s.heap->its[i]?=some vi->its[j]?=some vj->Q (.bool (bt i j)) s->aen (model prog w) A.in1 (richCompare .Lt vi vj) Q E s):
  ∀(k j:Nat) (s:aeg) (vb:aef) (c:Nat),its.size=j+1+k->s.heap.IsListIter I l (j+1)->s.heap.IsList l its->its[agb bt j]?=some vb->s.heap.get? S=some (af0 "list" #[vb,vb] c)->Kp I S h0 s.heap->
   (∀v h' tk,its[agb bt (its.size - 1)]?=some v->Kp I S h0 h'->R (.ok (.ret v)) {s with heap:=h',toks:=tk})->
   ahi (model prog w) A (.builtin "min.loop" ⟨[.ref I,.none,.ref S],[]⟩) R s
 | 0,j,s,vb,c,hk,hit,hL,hb,hS,kp,hR=>by
  refine ah3 F.entry_min_loop ?_;rw[ahb F.plain_min_loop];refine aec (m:=seqItems? (.ref S)) (aeX hS rfl ?_);refine aec (aic (wpAny_pyNext_list_end (by simp[hh]) hit hL (Array.getElem?_eq_none (by omega)) λh' ex=>?_));have hS':=ex S _ hS1 hS;refine aec (m:=updateSeq S λ_=> #[]) (ahv hS' rfl (aec (afJ (aej ?_))));refine hR vb _ s.toks (by rw[show its.size - 1=j by omega];exact hb) λb o b1 b2 e=>?_;rw[afR _ _ _ _ b2];exact ex b o b1 (kp b o b1 b2 e)
 | k +1,j,s,vb,c,hk,hit,hL,hb,hS,kp,hR=>by
  refine ah3 F.entry_min_loop ?_;rw[ahb F.plain_min_loop];refine aec (m:=seqItems? (.ref S)) (aeX hS rfl ?_);have hx:its[j+1]?=some (its[j+1]'(by omega)):=aiH (by omega);refine aec (aic (ahH hit hL hx λh' hit' sb=>?_));have hS':=(sb.2 S hS1).trans hS;have hL':=hL.extBut sb.extBut hl;have kp':Kp I S h0 h':=λb o b1 b2 e=>(sb.2 b b1).trans (kp b o b1 b2 e);refine aec (aej ?_);refine aec (aic (afT (aec (cmp _ (j+1) (agb bt j) _ vb _ _ kp' hx hb ?_))));refine aec (afT (afw (aec (afJ (aej ?_)))));cases q:bt (j+1) (agb bt j) with
  | true=>
   simp only[if_true];refine aec (m:=updateSeq S λ_=>_) (ahv hS' rfl (aec (afJ ?_)));rw[Ql];have g2:=ahr hS' (λ_=> #[its[j+1]'(by omega),its[j+1]'(by omega)]);have up:∀b o,b≠S->h'.get? b=some o->(h'.update S (afL λ_=> #[its[j+1]'(by omega),its[j+1]'(by omega)])).get? b=some o:=λb o bs e=>by rw[afR _ _ _ _ bs];exact e
   refine aej ⟨ahN F.plain_min_loop _,Mg hh hl hS1 hS2 cmp k (j+1) _ _ _ (by omega) (hit'.at λo e=>up I o (aeo hS1) e) (hL'.at λo e=>up l o hS2 e) (by rw[agb,q,if_pos rfl];exact hx) g2 (λb o b1 b2 e=>up b o b2 (kp' b o b1 b2 e)) λv h2 tk hv k2=>hR v h2 tk hv k2⟩
  | false=>
   simp only[afm,if_false];refine aec (afJ ?_);rw[Ql];exact aej ⟨ahN F.plain_min_loop _,Mg hh hl hS1 hS2 cmp k (j+1) _ vb c (by omega) hit' hL' (by rw[agb,q];exact hb) hS' kp' λv h2 tk hv k2=>hR v h2 tk hv k2⟩
end
section
variable{prog:aew}{w:aey}{A:aeF}{E:aef->aeg->Prop}{s:aeg}{l:aed}{its:Array aef}{bt:Nat->Nat->Bool}{Q:aef->aeg->Prop}
theorem abA(hh:A.handled=none)(hL:s.heap.IsList l its)(hn:0<its.size)
  (cmp:∀(s2:aeg) (i j:Nat) (vi vj:aef) (Q:aef->aeg->Prop) (E:aef->aeg->Prop),(∀b o,s.heap.get? b=some o->s2.heap.get? b=some o)->its[i]?=some vi->its[j]?=some vj->Q (.bool (bt i j)) s2->aen (model prog w) A.in1 (richCompare .Lt vi vj) Q E s2)
  (h:∀v h' tk,its[agb bt (its.size - 1)]?=some v->(∀b o,s.heap.get? b=some o->h'.get? b=some o)->Q v {s with heap:=h',toks:=tk}):
  aen (model prog w) A (call (.builtin "min") [.ref l]) Q E s:=by
 obtain⟨ol,hol,hcl,nl,hdl⟩:=id hL;have ll:=z2c hol;refine call_function_tree F.kind_min F.plain_min F.entry_min (F.args_min1 _) ?_;refine aec (m:=Builtin.Builtins.bindParams "min" ["key","default"] 0 ⟨[],[]⟩) (agn (a:=[none,none]) rfl (aec (aej ?_)));refine aec (agU hL (aec (afq ?_)));rw[Ql];have z1:(s.heap.push {cls:= .type "list_iterator",data:= .fields #[.ref l,.int 0 0]}).objs.size=s.heap.objs.size+1:=aeW ..;have gI:(s.heap.push {cls:= .type "list_iterator",data:= .fields #[.ref l,.int 0 0]}).get? s.heap.objs.size=some {cls:= .type "list_iterator",data:= .fields #[.ref l,.int 0 0]}:=z1f _ rfl;have k1:∀b o,s.heap.get? b=some o->(s.heap.push {cls:= .type "list_iterator",data:= .fields #[.ref l,.int 0 0]}).get? b=some o:=λb o e=>z1a _ e
 generalize s.heap.push {cls:= .type "list_iterator",data:= .fields #[.ref l,.int 0 0]}=h1 at *
 have gS:(h1.push (af0 "list" #[] 0)).get? h1.objs.size=some (af0 "list" #[] 0):=z1f _ rfl;have k2:∀b o,h1.get? b=some o->(h1.push (af0 "list" #[] 0)).get? b=some o:=λb o e=>z1a _ e;show aen _ _ _ _ _ {s with heap:=h1.push (af0 "list" #[] 0)}
 generalize h1.push (af0 "list" #[] 0)=h2 at *
 have nS:h1.objs.size=s.heap.objs.size+1:=z1
 generalize h1.objs.size=S at *
 have n1:S≠s.heap.objs.size:=by rw[nS];exact Nat.succ_ne_self _
 have n2:l≠s.heap.objs.size:=aeN ll;have n3:l≠S:=by rw[nS];exact aeN (aiB ll)
 have old:∀b o,s.heap.get? b=some o->b≠s.heap.objs.size/\b≠S:=λb o e=>by have:=z2c e;exact⟨aeN this,by rw[nS];exact aeN (aiB this)⟩
 have hit:h2.IsListIter s.heap.objs.size l 0:=⟨_,k2 _ _ gI,rfl,rfl⟩;have hL2:h2.IsList l its:=hL.at λo e=>k2 _ _ (k1 _ _ e);refine aej ⟨ahN F.plain_min_loop _,ah3 F.entry_min_loop ?_⟩;rw[ahb F.plain_min_loop];refine aec (m:=seqItems? (.ref S)) (aeX gS rfl ?_);have hx:its[0]?=some its[0]:=aiH hn;refine aec (aic (ahH hit hL2 hx λh' hit' sb=>aec (aej ?_)));have hS':=(sb.2 S n1).trans gS;refine aec (m:=updateSeq S λ_=>_) (ahv hS' rfl ?_);rw[Ql];have g2:=ahr hS' (λ_=> #[its[0],its[0]]);have up:∀b o,b≠S->h'.get? b=some o->(h'.update S (afL λ_=> #[its[0],its[0]])).get? b=some o:=λb o bs e=>by rw[afR _ _ _ _ bs];exact e
 refine aej ⟨ahN F.plain_min_loop _,Mg (h0:=s.heap) (bt:=bt) hh n2 n1 n3 (λs2 i j vi vj Q E kp=>cmp s2 i j vi vj Q E λb o e=>kp b o (old b o e).1 (old b o e).2 e) (its.size - 1) 0 _ _ _ (by omega) (hit'.at λo e=>up _ o (aeo n1) e) ((hL2.extBut sb.extBut n2).at λo e=>up l o n3 e) hx g2 (λb o b1 b2 e=>up b o b2 ((sb.2 b b1).trans (k2 _ _ (k1 _ _ e)))) λv h3 tk hv kp=>?_⟩;exact h v h3 tk hv λb o e=>kp b o (old b o e).1 (old b o e).2 e
end
def jN:List (List Int)->List Int
 |[]=>[]
 |a::r=>r.foldl (λm x=>if c7 x m then x else m) a
theorem Jy(a:List Int)(r:List (List Int)):∀k:Nat,k<=r.length->(a::r).getD (agb (λi j=>c7 ((a::r).getD i []) ((a::r).getD j [])) k) []=jN (a::r.take k)/\agb (λi j=>c7 ((a::r).getD i []) ((a::r).getD j [])) k<=k
 |0,_=>by simp[agb,jN]
 | k +1,h=>by
  obtain⟨ih,hb⟩:=Jy a r k (Nat.le_of_succ_le h);have e1:r.take (k+1)=r.take k++[r.getD k []]:=by
   rw[List.take_add_one,ahA,aeQ h];rfl
  have e2:jN (a::r.take (k+1))=if c7 (r.getD k []) (jN (a::r.take k)) then r.getD k [] else jN (a::r.take k):=by
   rw[jN,e1,List.foldl_append];rfl
  rw[e2,<-ih];have e3:(a::r).getD (k+1) []=r.getD k []:=by simp[ahA]
  have eA:agb (λi j=>c7 ((a::r).getD i []) ((a::r).getD j [])) (k+1)=if c7 (r.getD k []) ((a::r).getD (agb (λi j=>c7 ((a::r).getD i []) ((a::r).getD j [])) k) []) then k+1 else agb (λi j=>c7 ((a::r).getD i []) ((a::r).getD j [])) k:=by rw[<-e3];rfl
  rw[eA];by_cases q:c7 (r.getD k []) ((a::r).getD (agb (λi j=>c7 ((a::r).getD i []) ((a::r).getD j [])) k) [])=true
  ·rw[if_pos q,if_pos q];exact⟨e3,z0g _⟩
  ·rw[if_neg q,if_neg q];exact⟨rfl,Nat.le_succ_of_le hb⟩
theorem Yk{ts:List (List Int)}(h:0<ts.length):ts.getD (agb (λi j=>c7 (ts.getD i []) (ts.getD j [])) (ts.length - 1)) []=jN ts/\agb (λi j=>c7 (ts.getD i []) (ts.getD j [])) (ts.length - 1)<ts.length:=by
 cases ts with
 |nil=>simp at h
 | cons a r=>
  have:=Jy a r r.length (z0g _);rw[List.take_length] at this;exact⟨this.1,Nat.lt_succ_of_le this.2⟩
def pH:List D->Option (List (List Int))
 |[]=>some []
 | .tup es::ds=>(intsOf es).bind λn=>(pH ds).map (n:: ·)
 |_::_=>none
def Mh:List D->R D
 | [.lst ds]=>match pH ds with
  |some ts=>if 0<ts.length then .ok (.tup ((jN ts).map .int)) else .bad
  |none=> .bad
 |_=> .bad
theorem Ri{K:aeh}{O:aed->Prop}{H:Hp}:∀{ds:List D} {ts:List (List Int)} {vs:List V},pH ds=some ts->aU K O H ds vs->∃as:List aed,vs=as.map V.ref/\as.length=ts.length/\∀(i:Nat) b t,as[i]?=some b->ts[i]?=some t->SqT K H b (t.map V.int)
 |[],ts,vs,e,r=>by cases e;exact⟨[],r.nil_inv,rfl,λi b t q=>by simp at q⟩
 | d :: ds,ts,vs,e,r=>by
  obtain⟨x,t,rfl,h1,h2⟩:=r.cons_inv;cases d with
  | tup es=>
   have e:(intsOf es).bind (λn=>(pH ds).map (n:: ·))=some ts:=e;cases q:intsOf es with
   |none=>rw[q] at e;cases e
   | some n=>
    rw[q] at e;have e:(pH ds).map (n:: ·)=some ts:=e;cases q2:pH ds with
    |none=>rw[q2] at e;cases e
    | some ts'=>
     rw[q2] at e;cases e;obtain⟨as,rfl,hl,ha⟩:=Ri q2 h2;obtain⟨a,ys,rfl,hq,rs⟩:=h1.tup;refine⟨a::as,rfl,by simp[hl],λi b t e1 e2=>?_⟩;cases i with
     | zero=>
      cases e1;cases e2;rw[<-Cj q rs];exact hq
     |succ i=>exact ha i b t (by simpa using e1) (by simpa using e2)
  |_=>cases e
section
variable{X:Cx}
theorem Yl(hc:X.calm=true)(hu:X.A.units+2<afE):CallR X (.builtin "min") (λxs H Q=>∃(p:aed) (as:List aed) (ts:List (List Int)),xs=[.ref p]/\SqL X.K H p (as.map V.ref)/\as.length=ts.length/\0<ts.length/\(∀(i:Nat) b t,as[i]?=some b->ts[i]?=some t->SqT X.K H b (t.map V.int))/\
  ∀(k:Nat) (b:aed),as[k]?=some b->ts[k]?=some (jN ts)->Q (.ref b) H):=by
 intro pins s σ H xs us Q I r h;obtain⟨p,as,ts,rfl,hq,hl,hn,ht,q⟩:=h;obtain⟨u,rfl,rx⟩:=vals1 r;cases rx;obtain⟨its,rv,pl,hz⟩:=I.list hq;have hits:its=as.map aez:=by
  have:∀(as:List aed) (its:List aef),Vals (as.map V.ref) its->its=as.map aez:=by
   intro as
   induction as with
   |nil=>intro its r;cases r;rfl
   |cons b as ih=>intro its r;cases r with |cons r1 r2=>cases r1;rw[ih _ r2];rfl
  exact this as its rv
 subst hits;have sz:(as.map aez).toArray.size=ts.length:=by simp[hl]
 obtain⟨b1,b2⟩:=Yk hn;refine abA (bt:=λi j=>c7 (ts.getD i []) (ts.getD j [])) (I.ok.hd hc) pl.isList (by rw[sz];exact hn) (λs2 i j vi vj Q' E' kp e1 e2 hQ=>?_) λv h' tk hv kp=>?_
 ·have at':∀{i:Nat} {v:aef},(as.map aez).toArray[i]?=some v->∃(b:aed) (o:Obj) (vs:Array aef) (n:Nat),v= .ref b/\s.heap.get? b=some o/\o.cls= .type "tuple"/\o.data= .seq vs n/\af8 vs.toList (ts.getD i []):=λ{i v} e=>by
   rw[List.getElem?_toArray,z2b] at e;cases z:as[i]? with
   |none=>rw[z] at e;cases e
   | some b=>
    rw[z] at e;cases e;have hi:i<ts.length:=by rw[<-hl];exact (z1b z).1
    obtain⟨us,r1,p1,_⟩:=I.tuple (ht i b ts[i] z (by simp[hi]));obtain⟨ob,ho,hcb,n,hd⟩:=p1;exact⟨b,ob,us.toArray,n,rfl,ho,hcb,hd,by simpa[ahA,hi] using Ly r1⟩
  obtain⟨b,o,vs,n,rfl,ho,hcl,hd,hi⟩:=at' e1;obtain⟨b',o',vs',n',rfl,ho',hcl',hd',hi'⟩:=at' e2;exact U6 (by first |(simp;omega) |(show X.A.units+_<afE;omega)) (kp _ _ ho) hcl hd (kp _ _ ho') hcl' hd' hi hi' hQ
 ·rw[sz,List.getElem?_toArray,z2b] at hv;cases z:as[agb (λi j=>c7 (ts.getD i []) (ts.getD j [])) (ts.length - 1)]? with
  |none=>rw[z] at hv;cases hv
  | some b=>
   rw[z] at hv;cases hv;refine⟨.ref b,H,I.kept kp,rfl,q _ b z ?_⟩;rw[<-b1,List.getD_eq_getElem?_getD,aeQ b2];rfl
theorem abB(hc:X.calm=true)(hu:X.A.units+2<afE):CallD X (.builtin "min") Mh:=by
 refine⟨_,Yl hc hu,λρ O σ H Q xs ds j r h=>?_⟩;unfold Mh at h;split at h
 ·rename_i ds;obtain⟨x,rfl,rx⟩:=r.one;obtain⟨a,ys,rfl,hq,_,rs⟩:=rx.lst;cases e:pH ds with
  |none=>rw[e] at h;exact h.elim
  | some ts=>
   rw[e] at h;have h:good X (rD X) O (if 0<ts.length then .ok (.tup ((jN ts).map .int)) else .bad) σ H Q:=h;by_cases hp:0<ts.length
   ·rw[if_pos hp] at h;obtain⟨as,rfl,hl,ha⟩:=Ri e rs;exact⟨a,as,ts,rfl,hq,hl,hp,ha,λk b e1 e2=>h _ _ (Same.refl _) (by simp only[Rep];exact⟨b,_,rfl,ha k b _ e1 e2,vf⟩)⟩
   ·rw[if_neg hp] at h;exact h.elim
 ·exact h.elim
end
end Pu
namespace Pu
open PySem PySem.Spec PySem.W L2
open PyProof.Rows hiding St
open PySem.SeqAt
section
variable{X:Cx}{e1 e2:aer}{f g:aB->R D}
theorem Jz{K:aeh}{O:aed->Prop}{H:Hp}{p:aef->Bool}{e:D}:∀{ds:List D} {vs:List V} {its:List aef},aU K O H ds vs->Vals vs its->(∀d v u,d∈ds->Rep K O H d v->RelV v u->u∈its->p u=cW d e)->its.countP p=ds.countP (cW · e)
 |[],vs,its,r,q,h=>by rw[r.nil_inv] at q;cases q;rfl
 | d ::ds,vs,its,r,q,h=>by
  obtain⟨x,t,rfl,h1,h2⟩:=r.cons_inv;cases q with
  | cons q1 q2=>
   rw[List.countP_cons,List.countP_cons,Jz h2 q2 λd v u m r q n=>h d v u (z2f _ m) r q (z2f _ n),h d _ _ aex h1 q1 aex]
theorem Ym(hu:X.A.units+60<afE):MtR X "list.count" (λx xs H Q=>∃(l:aed) (ds:List D) (vs:List V) (O O':aed->Prop) (e:D) (y:V),x= .ref l/\xs=[y]/\SqL X.K H l vs/\aU X.K O H ds vs/\Rep X.K O' H e y/\(∀d∈ds,dep d<=40)/\Q (.int (ds.countP (cW · e):Nat)) H):=by
 classical
 intro pins s σ H x xs v us Q I rx rv h;obtain⟨l,ds,vs,O,O',e,y,rfl,rfl,hq,rs,re,hd,q⟩:=h;cases rx;obtain⟨u,rfl,ru⟩:=rv.one;obtain⟨its,r',pl,hz⟩:=I.list hq;obtain⟨⟨cls,dd,data,sl⟩,ho,hc,n,hdt⟩:=id pl.isList;simp only at hc hdt;subst hc hdt;have key:∀d v w,d∈ds->Rep X.K O H d v->RelV v w->(decide (∃d v,Rep X.K O H d v/\RelV v w/\cW d e=true))=cW d e:=λd v w m r1 q1=>by
  cases z:cW d e with
  |true=>exact decide_eq_true ⟨d,v,r1,q1,z⟩
  | false=>
   refine decide_eq_false λbQ=>?_;obtain⟨d2,v2,r2,q2,z2⟩:=bQ;have ev:v2=v:=RelV.inj q2 q1;subst ev;rw[Rep.inj I d2 d v2 r2 r1,z] at z2;cases z2
 have eqa:∀w∈its,∃d v,d∈ds/\Rep X.K O H d v/\RelV v w:=by
  have:∀{ds:List D} {vs:List V} {its:List aef},aU X.K O H ds vs->Vals vs its->∀w∈its,∃d v,d∈ds/\Rep X.K O H d v/\RelV v w:=by
   intro ds
   induction ds with
   |nil=>intro vs its r q w m;rw[r.nil_inv] at q;cases q;cases m
   | cons d ds ih=>
    intro vs its r q w m;obtain⟨x,t,rfl,h1,h2⟩:=r.cons_inv;cases q with
    | cons q1 q2=>
     rcases aev.mp m with rfl |m
     ·exact⟨d,x,aex,h1,q1⟩
     ·obtain⟨d',v',m',r'⟩:=ih h2 q2 w m;exact⟨d',v',z2f _ m',r'⟩
  exact this rs r'
 refine agA ai3 ⟨_,ho,rfl⟩ PySem.F.entry_list_count (PySem.F.args_list_count_2 _ _) (list_countAt l its.toArray n dd sl u λw=>decide (∃d v,Rep X.K O H d v/\RelV v w/\cW d e=true)) ⟨ho,λw hw=>?_,?_⟩
 ·obtain⟨d,v,m,r1,q1⟩:=eqa w (by simpa using hw);rw[key d v w m r1 q1];exact uZ I 40 _ d (hd d m) (by simp;omega) e v y w u r1 re q1 ru
 ·have ec:its.toArray.toList.countP (λw=>decide (∃d v,Rep X.K O H d v/\RelV v w/\cW d e=true))=ds.countP (cW · e):=Jz rs r' λd v u m r q _=>key d v u m r q;rw[ec];exact⟨.int _,H,I.tok _,⟨_,rfl⟩,q⟩
def adi:D->D->R D
 | .lst ds,e=>if ds.all (λd=>decide (dep d<=40)) then .ok (.int (ds.countP (cW · e):Nat)) else .bad
 |_,_=> .bad
def Z7(f g:aB->R D):aB->R D:=λρ=>(f ρ).bind λx=>match x with
 | .lst ds=>(g ρ).bind λy=>adi (.lst ds) y
 |_=> .bad
theorem Yn{apos cpos:Pos}(hu:X.A.units+60<afE)(h1:DE X e1 f)(h2:DE X e2 g)
  (hbase:ahM e1 "count" X.env (eval e1 X.env)=eval e1 X.env:=by rfl)
  (hfew:((ae7 cpos (aei [e2] X.env)).all (λx=> !x.1) && (ag6 cpos (agk [] X.env)).all (λx=>x.1.isSome)
   && decide ([e2].length+([]:List af7).length+(if ([]:List af7).isEmpty then 0 else 1)<30))=true:=by rfl)
  (hline:(apos.endLine ==cpos.line)=true:=by rfl) (hs1:aei [e2] X.env=(false,eval e2 X.env)::aei [] X.env:=by rfl) (hplain:(ae7 cpos (aei [] X.env)).any (·.1)=false:=by rfl):
  DE X (.Call (.Attribute e1 "count" apos) [e2] [] cpos) (Z7 f g):=by
 refine PE.imp (pe_bm agL ai3 PySem.F.type_list_count (Ym hu) h1 (pa_cons h2 pa_nil hs1) hbase hfew hline hs1 hplain) λσ H Q h=>?_;obtain⟨ρ,O,j,h⟩:=h;refine go j h λd v H1 e1 s1 r1 j1 h1=>?_;cases d with
 | lst ds=>
  obtain⟨a,xs,rfl,hq,hna,rs⟩:=r1.lst;refine⟨.inl ⟨rfl,xs,hq⟩,?_⟩;refine go j1 h1 λdy y H2 e2 s2 r2 j2 h2=>?_;obtain⟨a',xs',ea,hq',_,rs'⟩:=(r1.same s2).lst;cases ea;have h2:good X (rD X) O (if ds.all (λd=>decide (dep d<=40)) then .ok (.int (ds.countP (cW · dy):Nat)) else .bad) σ H2 Q:=h2;by_cases hall:ds.all (λd=>decide (dep d<=40))=true
  ·rw[if_pos hall] at h2;exact⟨a,ds,xs',O,O,dy,y,rfl,rfl,hq',rs',r2,λd m=>of_decide_eq_true (agI.mp hall d m),fin h2 (cP _)⟩
  ·rw[if_neg hall] at h2;exact h2.elim
 |_=>exact h1.elim
end
end Pu
namespace Pu
open PySem PySem.Spec L2
open PyProof.Rows hiding St
theorem range_any(bs:List Bool):((aee bs.length).any λi=>(bs[i]?).getD false)=bs.any id:=by
 apply Bool.eq_iff_iff.mpr;rw[List.any_eq_true,List.any_eq_true];constructor
 ·rintro⟨i,hi,h⟩
  have hi:=z2e hi;rw[aeQ hi,ag8] at h;exact⟨_,List.getElem_mem hi,h⟩
 ·rintro⟨b,hb,h⟩
  obtain⟨i,hi,rfl⟩:=List.getElem_of_mem hb;exact⟨i,ahB.mpr hi,by rw[aeQ hi];exact h⟩
section
variable{X:Cx}
theorem Yo(hc:X.calm=true):CallR X (.builtin "any") (λxs H Q=>∃p,∃bs:List Bool,xs=[.ref p]/\SqL X.K H p (bs.map V.bl)/\Q (.bl (bs.any id)) H):=by
 intro pins s σ H xs us Q I r h;obtain⟨p,bs,rfl,hq,q⟩:=h;obtain⟨u,rfl,rx⟩:=vals1 r;cases rx;obtain⟨its,r',pl,hz⟩:=I.list hq;have hb:=Hj r';have hl:=pl.isList;have hlt:p<s.heap.objs.size:=by obtain⟨_,e,_⟩:=hl;exact z2c e
 refine call_any_walk (agU hl ⟨s.heap.objs.size,[s.heap.objs.size,p],[s.heap.objs.size],its.toArray.size,_,_,λi=>(bs[i]?).getD false,rfl,Walks.list (A:=X.A.in1) (I.ok.hd hc) _ p (aeN hlt) its.toArray,⟨⟨_,z1f _ rfl,rfl,rfl⟩,hl.push _⟩,λi v s' Q' E' hP hQ=>?_,λh' tk hk=>?_⟩)
 ·obtain⟨b,e,rfl⟩:=hb.get i v (by simpa using hP);simp only[e,ag8] at hQ;exact afw hQ
 ·have e:((aee its.toArray.size).any λi=>(bs[i]?).getD false)=bs.any id:=by
   rw[z1c,hb.length];exact range_any bs
  rw[e];exact⟨.bl _,H,I.kept (LSm.kept_iter hk),rfl,q⟩
def Z8:List D->R D
 | [.lst ds]=>match boolsOf ds with
  |some bs=> .ok (.bl (bs.any id))
  |none=> .bad
 |_=> .bad
theorem acE(hc:X.calm=true):CallD X (.builtin "any") Z8:=by
 refine⟨_,Yo hc,λρ O σ H Q xs ds j r h=>?_⟩;unfold Z8 at h;split at h
 ·rename_i ds;obtain⟨x,rfl,rx⟩:=r.one;obtain⟨a,ys,rfl,hq,_,rs⟩:=rx.lst;cases e:boolsOf ds with
  |none=>rw[e] at h;exact h.elim
  | some bs=>
   rw[e] at h;have ey:=Lh e rs;subst ey;exact⟨a,bs,rfl,hq,fin h (gF _)⟩
 ·exact h.elim
end
section
variable{X:Cx}{e:aer}{f:aB->R D}{pos:Pos}
end
end Pu
namespace Pu
open PySem PySem.Spec PySem.W L2
open PyProof.Rows hiding St
section
variable{prog:aew}{w:aey}{A:aeF}{E:aef->aeg->Prop}{s:aeg}
end
section
variable{X:Cx}
end
end Pu
namespace Pu
open PySem PySem.Spec L2
open PyProof.Rows hiding St
def V2(ts:List (aed×Str))(K:aeh)(n:Nat)(F:List D->R D):Sp:=λvs H Q E=>Tb ts H/\spX K n F vs H Q E
section
variable{P:aew}{w:aey}{K:aeh}{mg:Str->Option aef}{base:aes}
theorem Mi{ts:List (aed×Str)}{x qual:Str}{st:aeA}{f:aed}{fd:aeZ}{N ps:List Str}{k n m:Nat}{g:aB->So}(Fn:Fun K x qual st f fd)(S:FnScope N ps (defScope st))(hn:ps.length=n)(hm:N.length=n+m)
  (hb:∀(cdv:aef) (A:aeF) (outer:List afd) (s:aeg) (H:Hp) (E:XK),Room k (A.deeper (afC qual (defScope st) s.heap.objs.size f cdv))->Tb ts H->jW (cxOf (Uy P w) P w K mg base N qual (defScope st) f cdv A outer s H E) (defBody st) g):
  FnOk P w K mg base (Uy P w) (k+1) f fd ps (V2 ts K n (bR m g)):=by
 obtain⟨oc,od,kV,doc,pm,an,cdv,ct,osl,rfl,lk,hcd⟩:=Fn.ex;refine fn_of lk hcd S (λvs H Q E h=>?_) λA outer s H vs Q E hr h=>?_
 ·obtain⟨_,O,ds,r,hl,_⟩:=h;rw[hn,<-hl,r.length]
 ·obtain ⟨hT,O,ds,r,hl,al,h⟩:=h;refine⟨_,hb cdv A outer s H E hr hT,H,O,O,ds.map (λd=>some (.val d))++aem m none,?_,?_⟩
  ·have hst:L2.start N vs=vs.map some++aem m none:=by
    unfold L2.start;rw[show N.length - vs.length=m by rw[<-r.length];omega]
   refine⟨Same.refl _,.refl,λ_ z=>z,⟨⟨λi e q=>?_,λi k e e' v _ hi _ oi=>?_,λi k rows a rs e v _ hi=>by obtain⟨_,_,_,h3⟩:=kj r m i _ hi;cases h3⟩,al,?_,?_⟩,λi e a q ho=>?_,λi rows a rs q=>by obtain⟨_,_,_,h3⟩:=kj r m i _ q;cases h3⟩
   ·obtain⟨v,h1,h2,_⟩:=kj r m i e q;exact⟨v,by rw[hst];exact h1,h2⟩
   ·obtain⟨_,_,_,h3⟩:=kj r m i e hi;rw[h3] at oi;cases oi
   ·show (L2.start N vs).length=N.length;rw[hst,z1d,z1g,afh,<-r.length];omega
   ·show (ds.map (λd=>some (Ent.val d))++aem m none).length=N.length;rw[z1d,z1g,afh];omega
   ·obtain⟨_,_,_,h3⟩:=kj r m i e q;rw[h3] at ho;cases ho
  ·unfold bR at h;cases e2:g (ds.map (λd=>some (.val d))++aem m none) with
   |rt d=>rw[e2] at h;exact λv H' s' r'=>h v H' s' r'
   |nx ρ'=>rw[e2] at h;exact λσ' H' O' j' _=>h .non H' j'.same p8
   |bk _=>rw[e2] at h;exact h.elim
   |ct _=>rw[e2] at h;exact h.elim
   |bad=>rw[e2] at h;exact h.elim
   | ex c ρ'=>
    rw[e2] at h;intro σ' H' O' j' H1 pins s1 a C T s2 H2 sm I hC rs;have J:Inv (cxOf (Uy P w) P w K mg base N qual (defScope st) f cdv A outer s H E) pins σ' H2 s2:=I.call' rs.os rs.un rs.hok rs.bare λb z=>absurd z (by simp);have oW:Az P w (frs outer) H s a C T s2 H2:=Az.from I rfl rs (j'.same.trans sm);refine Yb (b0:=base) (L:=s.heap.objs.size) (outer:=outer) J.ok.frames J.stack rfl rs.exc λh' t' ld=>?_;refine⟨a,C,some t',H2,rfl,h C H2 hC,?_⟩;have ne:∀b o,s.heap.get? b=some o->b≠a/\T≠some b:=λb o q=>⟨λz=>(by rw[z,oW.na] at q;cases q),λz=>(by rw[(oW.nt b z).1] at q;cases q)⟩;have nL:∀b o,s.heap.get? b=some o->b≠s.heap.objs.size:=λb o q=>aeN (z2c q);have fr:∀b,b∈frs (afC qual (defScope st) s.heap.objs.size f cdv::outer)->b=s.heap.objs.size\/b∈frs outer:=λb hb=>aev.mp hb;have fr':∀b,b∈frs outer->b∈frs (afC qual (defScope st) s.heap.objs.size f cdv::outer):=λb hb=>z2f _ hb;have hfree:∀b,b∈frs (afC qual (defScope st) s.heap.objs.size f cdv::outer)->H2 b=none:=J.stkFree;refine⟨oW.same,⟨λb o q n hb hx=>?_,λb o q n hb hx=>?_,oW.un.free,λb o q hx=>?_,oW.un.tups,oW.un.frzs,oW.un.tbls⟩,ld.hok oW.hok oW.ha (λt z=>(oW.nt t z).2) hfree,oW.os,oW.bare,ld.exc,oW.na,oW.ha,λt z=>?_⟩
    ·exact ld.keep b o (oW.un.keep b o q n hb hx) (ne b o q).1 (ne b o q).2 λz=>(fr b z).elim (nL b o q) hb
    ·obtain⟨sl,e⟩:=oW.un.slot b o q n hb hx;obtain⟨sl',e'⟩:=ld.slot b _ e (fr' b hb);exact⟨sl',e'⟩
    ·obtain⟨o',e⟩:=oW.un.there b o q hx;by_cases hb:b∈frs (afC qual (defScope st) s.heap.objs.size f cdv::outer)
     ·obtain⟨sl',e'⟩:=ld.slot b _ e hb;exact⟨_,e'⟩
     ·exact⟨o',ld.keep b o' e (ne b o q).1 (ne b o q).2 hb⟩
    ·cases z;rcases ld.old with z |z
     ·exact oW.nt t' z
     ·refine⟨?_,Ht oW.hok z⟩;cases q:s.heap.get? t' with
      |none=>rfl
      | some o=>
       obtain⟨o',e⟩:=oW.un.there t' o q (by simp);rw[z] at e;cases e
end
def Cu(P:aew)(w:aey)(K:aeh)(mg:Str->Option aef)(base:aes)(k:Nat)(x:Str)(n:Nat)(F:List D->R D)(fd:aeZ)(ps:List Str)(ts:List (aed×Str)):Prop:=
 ∃f,FnOk P w K mg base (Uy P w) k f fd ps (V2 ts K n F)/\mg x=some (.ref f)/\ae2 K (.ref f)=true
def cG(F:List D->R D)(n m:Nat)(sel:List (Sum Nat D))(fa fk:aB->R (List D)):aB->R D:=λρ=>(fa ρ).bind λds=>(fk ρ).bind λzs=>if zs.length=m then okN F n (ds++pickK .non sel zs) else .bad
section
variable{X:Cx}{k m n:Nat}{f:aed}{fd:aeZ}{ps ks:List Str}{F:List D->R D}{x:Str}{p pos:Pos}{e:aer}{es:List aer}{kws:List af7}{fa fk:aB->R (List D)}{ts:List (aed×Str)}
theorem Yp(ok:FnOk X.prog X.w X.K X.mg X.base (Uy X.prog X.w) k f fd ps (V2 ts X.K n F))(hr:Room m X.A)(hkm:k<=m){pins:List (aed×Obj)}{σ:St}{H:Hp}{s:aeg}{O:aed->Prop}{ρ:aB}{ds:List D}{vs:List V}{us:List aef}{pa:List aef}{kw:List (Str×aef)}{Q:VK}
  (I:Inv X pins σ H s)(hT:Tb ts H)(r1:aU X.K O H ds vs)(r:Vals vs us)(j:In X O H ρ σ)(hb:us.length=ps.length->ahC s fd ⟨pa,kw⟩ (ps.zip us))(h:good X (rD X) O (okN F n ds) σ H Q):aen (model X.prog X.w) X.A (aiF (.ref f) pa kw) (EP X pins σ Q) X.xe s:=by
 unfold okN at h;by_cases hl:ds.length=n
 ·rw[if_pos hl] at h;have sp:V2 ts X.K n F vs H Q λu _ _=>∃c C,F ds= .err c/\u= .ref C/\aep X.K ael c=some (some (.ref C)):=by
   refine⟨hT,O,ds,r1,hl,j.al,?_⟩;cases q:F ds with
   |ok d=>rw[q] at h;exact h
   |bad=>rw[q] at h;exact h
   |err c=>exact λC _ hC=>⟨c,C,rfl,rfl,hC⟩
  have hll:us.length=ps.length:=by rw[<-r.length];exact ok.len _ _ _ _ sp
  refine ahW (agX ((ok.mono hkm).run X.A X.stack s H ⟨pa,kw⟩ us vs Q _ hr I.env0 (hb hll) r sp) λr s' hq=>?_);cases r with
  | error ev=>
   obtain⟨a,C,T,H',rfl,hE,rs⟩:=hq;obtain⟨c,C',q,z,hC⟩:=hE;cases z;rw[q] at h;exact h H pins s a C T s' H' (Same.refl _) I hC rs
  | ok fl=>
   cases fl with
   |ret u=>exact I.after hq
   |next=>exact ae4 hq
   |brk=>exact ae4 hq
   |cont=>exact ae4 hq
 ·rw[if_neg hl] at h;exact h.elim
theorem abC{sa sb sc}(S:Sel sa sb sc)(G:Cu X.prog X.w X.K X.mg X.base k x n F fd ps ts)(hT:Tb ts X.H₀)(hr:Room m X.A)(hkm:k<=m)(hb:KB X.K fd ps [] sa)
  (ha:DA X (e::es) fa)(hg:Gl X x:=by rfl)(hdb:(x ==("__debug__" :Str))=false:=by decide)(he:aei (e::es) X.env=(false,eval e X.env)::aei es X.env:=by rfl)(hpl:(ae7 pos (aei es X.env)).any (·.1)=false:=by rfl):
  DE X (.Call (.Name x p) (e::es) [] pos) (cG F n 0 sc fa (λ_=> .ok [])):=by
 obtain⟨f,ok,hm,hk⟩:=G;intro pins s σ H Q I h;obtain⟨ρ,O,j,h⟩:=h;refine afY (ld_glob I hg hm ?_ hdb);have key:tG X (M9 X) fa σ H (λvs H1=>∃ds,Same H H1/\aU X.K O H1 ds vs/\In X O H1 ρ σ/\good X (rD X) O (okN F n (ds++pickK .non sc [])) σ H1 Q):=go j h λds vs H1 e1 s1 r1 j1 h1=>⟨ds,s1,r1,j1,h1⟩;refine aik (h₀:=X.base) I.ok.mod.kin hk (thn (ha pos pins s σ H _ I key) λus s1 ⟨vs,H1,I1,r,q⟩=>⟨I1.kIn,?_⟩) he hpl;obtain⟨ds,sm,r1,j1,h1⟩:=q;exact Yp ok hr hkm I1 (hT.un I1.base) (r1.append (S.reps .nil)) (r.append (S.vals .nil)) j1 (λhl=>hb s1 us [] I1.kIn (by rw[z1d,Nk] at hl;exact hl) rfl) h1
theorem yH{sa sb sc}(S:Sel sa sb sc)(G:Cu X.prog X.w X.K X.mg X.base k x n F fd ps ts)(hT:Tb ts X.H₀)(hr:Room m X.A)(hkm:k<=m)(hb:KB X.K fd ps ks sa)
  (ha:DA X (e::es) fa)(hkw:DK X kws fk)(hg:Gl X x:=by rfl)(hall:(ag6 pos (agk kws X.env)).all (·.1.isSome)=true:=by rfl)(hks:(ag6 pos (agk kws X.env)).filterMap (·.1)=ks:=by rfl)
  (hdb:(x ==("__debug__" :Str))=false:=by decide)(he:aei (e::es) X.env=(false,eval e X.env)::aei es X.env:=by rfl)
  (hpl:((ae7 pos (aei (e::es) X.env)).any (·.1) || (ag6 pos (agk kws X.env)).any (·.1.isNone))=false:=by rfl):
  DE X (.Call (.Name x p) (e::es) kws pos) (cG F n ks.length sc fa fk):=by
 obtain⟨f,ok,hm,hk⟩:=G;intro pins s σ H Q I h;obtain⟨ρ,O,j,h⟩:=h;refine afY (ld_glob I hg hm ?_ hdb);have key:tG X (M9 X) fa σ H λvs H1=>tG X (M9 X) fk σ H1 λzs H2=>zs.length=ks.length/\∃dd,aU X.K O H2 dd (vs++pickK .non sb zs)/\In X O H2 ρ σ/\good X (rD X) O (okN F n dd) σ H2 Q:=by
  refine go j h λds vs H1 e1 s1 r1 j1 h1=>?_;refine go j1 h1 λzd zs H2 e2 s2 r2 j2 h2=>?_;by_cases hz:zd.length=ks.length
  ·rw[if_pos hz] at h2;exact⟨by rw[<-r2.length];exact hz,_,(r1.same s2).append (S.reps r2),j2,h2⟩
  ·rw[if_neg hz] at h2;exact h2.elim
 refine PySem.W.callWith_KW (h₀:=X.base) I.ok.mod.kin hk hall (thn (ha pos pins s σ H _ I key) λus s1 ⟨vs,H1,I1,r,q⟩=>?_) hpl he;refine thn (hkw pos pins s1 σ H1 _ I1 q) λws s2 ⟨zs,H2,I2,rz,q2⟩=>⟨I2.kIn,?_⟩;rw[hks];obtain⟨hz,dd,r1,j1,h1⟩:=q2;exact Yp ok hr hkm I2 (hT.un I2.base) r1 (r.append (S.vals rz)) j1 (λhl=>hb s2 us ws I2.kIn (by rw[z1d,Nk] at hl;exact hl) (by rw[<-rz.length];exact hz)) h1
theorem adk{K:aeh}(b:Binds K fd ps []):KB K fd ps [] []:=λs us ws i hl hw=>by
 cases aeP hw;have:=b s us i (by rw[afg];exact hl);simpa[pickK] using this
end
section
variable{X:Cx}{tg a b c:aer}{p pos p2 pos2:Pos}{fa:aB->R (List D)}{ta:TA}
end
end Pu
namespace Pu
open PySem PySem.Spec PySem.W L2
open PyProof.Rows hiding St
open PySem.SeqAt
section
variable{X:Cx}{e1 e2:aer}{f g:aB->R D}
theorem Rj{pins:List (aed×Obj)}{σ:St}{H:Hp}{s:aeg}{A:aeF}{O O':aed->Prop}{d:D}{y:V}{u:aef}(I:Inv X pins σ H s)(re:Rep X.K O' H d y)(ru:RelV y u)(hA:∀(d':D) (v:V) (w:aef),dep d'<=40->Rep X.K O H d' v->RelV v w->EqAt A s w u (cW d' d)):
  ∃e:aef->Bool,∀(ds:List D) (vs:List V) (its:List aef),aU X.K O H ds vs->Vals vs its->(∀d'∈ds,dep d'<=40)->its.map e=ds.map (cW · d)/\∀w∈its,EqAt A s w u (e w):=by
 classical
 have key:∀d' v w,Rep X.K O H d' v->RelV v w->(decide (∃d' v,Rep X.K O H d' v/\RelV v w/\cW d' d=true))=cW d' d:=λd' v w r1 q1=>by
  cases z:cW d' d with
  |true=>exact decide_eq_true ⟨d',v,r1,q1,z⟩
  | false=>
   refine decide_eq_false λbQ=>?_;obtain⟨d2,v2,r2,q2,z2⟩:=bQ;have ev:v2=v:=RelV.inj q2 q1;subst ev;rw[Rep.inj I d2 d' v2 r2 r1,z] at z2;cases z2
 refine⟨λw=>decide (∃d' v,Rep X.K O H d' v/\RelV v w/\cW d' d=true),λds=>?_⟩
 induction ds with
 |nil=>intro vs its r q _;rw[r.nil_inv] at q;cases q;exact⟨rfl,λw m=>by cases m⟩
 | cons a ds ih=>
  intro vs its r q hd;obtain⟨x,t,rfl,h1,h2⟩:=r.cons_inv;cases q with
  | cons q1 q2=>
   obtain⟨i1,i2⟩:=ih _ _ h2 q2 λd' m=>hd d' (z2f _ m);refine⟨by rw[z1h,z1h,i1,key a _ _ h1 q1],λw m=>?_⟩;rcases aev.mp m with rfl |m
   ·show EqAt _ _ _ _ (decide _);rw[key a _ _ h1 q1];exact hA a _ _ (hd a aex) h1 q1
   ·exact i2 w m
theorem acF{e:aef->Bool}{d:D}{its:List aef}{ds:List D}(h:its.map e=ds.map (cW · d)):its.any e=ds.any (cW · d):=by
 have a:(its.map e).any id=its.any e:=by rw[List.any_map];rfl
 have b:(ds.map (cW · d)).any id=ds.any (cW · d):=by rw[List.any_map];rfl
 rw[<-a,h,b]
def aeb(d:D):D->R D
 | .lst ds=>if ds.all (λd'=>decide (dep d'<=40)) then .ok (.bl (ds.any (cW · d))) else .bad
 |_=> .bad
theorem Z9(hu:X.A.units+60<afE):MtR X "list.index" (λx xs H Q=>∃(l:aed) (ds:List D) (vs:List V) (O O':aed->Prop) (d:D) (y:V),x= .ref l/\xs=[y]/\SqL X.K H l vs/\aU X.K O H ds vs/\Rep X.K O' H d y/\(∀d'∈ds,dep d'<=40)/\ds.findIdx (cW · d)<ds.length/\ds.length<=1000000/\Q (.int (ds.findIdx (cW · d):Nat)) H):=by
 intro pins s σ H x xs v us Q I rx rv h;obtain⟨l,ds,vs,O,O',d,y,rfl,rfl,hq,rs,re,hd,hlt,hln,q⟩:=h;cases rx;obtain⟨u,rfl,ru⟩:=rv.one;obtain⟨its,r',pl,hz⟩:=I.list hq;obtain⟨⟨cls,dd,data,sl⟩,ho,hc,n,hdt⟩:=id pl.isList;simp only at hc hdt;subst hc hdt;obtain⟨e,he⟩:=Rj (A:=X.A.in1) I re ru (O:=O) λd' v' w hd' r q=>uZ I 40 _ d' hd' (by simp;omega) d v' y w u r re q ru;obtain⟨h1,h2⟩:=he ds vs its rs r' hd;have hlen:its.length=ds.length:=by have:=congrArg ai9 h1;simpa using this
 have hat:∀(i:Nat) (hi:i<its.length),e its[i]=cW (ds[i]'(by omega)) d:=λi hi=>by
  have:=congrArg (λl=>l[i]?) h1;simp only[z2b,aeQ hi,aeQ (show i<ds.length by omega),ahp] at this;exact aeG this
 refine agA ai4 ⟨_,ho,rfl⟩ PySem.F.entry_list_index (PySem.F.args_list_index_2 _ _) (list_indexAt l its.toArray n dd sl u e (ds.findIdx (cW · d)) (by simp;omega) (by omega) ?_ λm hm hj=>?_) ⟨ho,λw hw=>h2 w (by simpa using hw),?_⟩
 ·rw[List.getElem_toArray,hat _ (by omega)];exact List.findIdx_getElem (w:=hlt)
 ·rw[List.getElem_toArray,hat _ (by omega)];have:=List.not_of_lt_findIdx hj;simpa using this
 ·exact⟨.int _,H,I.tok _,⟨_,rfl⟩,q⟩
def adl:D->D->R D
 | .lst ds,d=>if ds.all (λd'=>decide (dep d'<=40))=true/\ds.findIdx (cW · d)<ds.length/\ds.length<=1000000 then .ok (.int (ds.findIdx (cW · d):Nat)) else .bad
 |_,_=> .bad
def aac(f g:aB->R D):aB->R D:=λρ=>(f ρ).bind λx=>match x with
 | .lst ds=>(g ρ).bind λy=>adl (.lst ds) y
 |_=> .bad
theorem aad{apos cpos:Pos}(hu:X.A.units+60<afE)(h1:DE X e1 f)(h2:DE X e2 g)
  (hbase:ahM e1 "index" X.env (eval e1 X.env)=eval e1 X.env:=by rfl)
  (hfew:((ae7 cpos (aei [e2] X.env)).all (λx=> !x.1) && (ag6 cpos (agk [] X.env)).all (λx=>x.1.isSome)
   && decide ([e2].length+([]:List af7).length+(if ([]:List af7).isEmpty then 0 else 1)<30))=true:=by rfl)
  (hline:(apos.endLine ==cpos.line)=true:=by rfl) (hs1:aei [e2] X.env=(false,eval e2 X.env)::aei [] X.env:=by rfl) (hplain:(ae7 cpos (aei [] X.env)).any (·.1)=false:=by rfl):
  DE X (.Call (.Attribute e1 "index" apos) [e2] [] cpos) (aac f g):=by
 refine PE.imp (pe_bm agL ai4 PySem.F.type_list_index (Z9 hu) h1 (pa_cons h2 pa_nil hs1) hbase hfew hline hs1 hplain) λσ H Q h=>?_;obtain⟨ρ,O,j,h⟩:=h;refine go j h λd v H1 e1 s1 r1 j1 h1=>?_;cases d with
 | lst ds=>
  obtain⟨a,xs,rfl,hq,hna,rs⟩:=r1.lst;refine⟨.inl ⟨rfl,xs,hq⟩,?_⟩;refine go j1 h1 λdy y H2 e2 s2 r2 j2 h2=>?_;obtain⟨a',xs',ea,hq',_,rs'⟩:=(r1.same s2).lst;cases ea;have h2:good X (rD X) O (if ds.all (λd'=>decide (dep d'<=40))=true/\ds.findIdx (cW · dy)<ds.length/\ds.length<=1000000 then .ok (.int (ds.findIdx (cW · dy):Nat)) else .bad) σ H2 Q:=h2;by_cases hall:ds.all (λd'=>decide (dep d'<=40))=true/\ds.findIdx (cW · dy)<ds.length/\ds.length<=1000000
  ·rw[if_pos hall] at h2;exact⟨a,ds,xs',O,O,dy,y,rfl,rfl,hq',rs',r2,λd m=>of_decide_eq_true (agI.mp hall.1 d m),hall.2.1,hall.2.2,fin h2 (cP _)⟩
  ·rw[if_neg hall] at h2;exact h2.elim
 |_=>exact h1.elim
end
end Pu
namespace Pu
open PySem PySem.Spec L2
open PyProof.Rows hiding St
section
variable{X:Cx}
theorem vm{tg iter elt:aer}{ifs:List aer}{scope:afz}{pos:Pos}{fi:aB->R (List D)}{gt:D->aB->R aB}{ft:aB->R Bool}{fe:aB->R D}(ts:List Str)(caps:List Nat)
  (hc:X.calm=true)(hb:Hg X.env.scope scope ts X.N=true)(hcap:(fD scope).map (λx=>lG x X.N)=caps)
  (hi:DI X tg iter fi)(hk:rG ts.length gt)(hg:∀C s H ex,(cZ X scope ts C s H ex).N.Nodup->DG (cZ X scope ts C s H ex) tg gt){Jo:List (aed×Str)}(hT:Tb Jo X.H₀)(ht:∀C s H ex,Tb Jo H->Qv (cZ X scope ts C s H ex) ifs ft)(he:∀C s H ex,Tb Jo H->DE (cZ X scope ts C s H ex) elt fe)
  (hs:∀x,af6 iter X.env x=pure x:=by intro _;rfl):
  DE X (.ListComp elt [⟨tg,iter,ifs,0⟩] scope pos) (bJ ts.length caps fi gt ft fe):=by
 intro pins s σ H Q I h;obtain⟨ρ,O,j,h⟩:=h;rw[eval_ListComp];exact Nt ts caps hc hb hcap hi hk hg hT ht he hs (use:=none) (Qr:=EP X pins σ Q) I j (λv H' s5 C m f acc hv I6 hns fp rv=>⟨m,hns,λh' sb=>⟨v,H',I6.fp fp sb,rv,hv⟩⟩) h
end
end Pu
namespace Pu
open PySem PySem.Spec PySem.W L2
open PyProof.Rows hiding St
section
variable{prog:aew}{w:aey}{A:aeF}{s:aeg}
end
section
variable{X:Cx}
end
section
variable{X:Cx}
def JB(d:D):D->R D
 | .tup ds=>if ds.all (λd'=>decide (dep d'<=40)) then .ok (.bl (!ds.any (cW · d))) else .bad
 |_=> .bad
theorem abD(hu:X.A.units+60<afE):lu X (ae9 .NotIn) JB:=by
 refine⟨λx y H Q=>∃(l:aed) (ds:List D) (vs:List V) (O O':aed->Prop) (d:D),y= .ref l/\SqT X.K H l vs/\aU X.K O H ds vs/\Rep X.K O' H d x/\(∀d'∈ds,dep d'<=40)/\Q (.bl (!ds.any (cW · d))) H,?_,?_⟩
 ·intro pins s σ H x y v u Q I rx ry h;obtain⟨l,ds,vs,O,O',d,rfl,hq,rs,re,hd,q⟩:=h;cases ry;obtain⟨its,r',pl,hz⟩:=I.tuple hq;obtain⟨e,he⟩:=Rj (A:=X.A.in1) I re rx (O:=O) λd' v' w hd' r q=>uZ I 40 _ d' hd' (by simp;omega) d v' x w v r re q rx;obtain⟨h1,h2⟩:=he ds vs its rs r' hd;refine SeqAt.notIn_tupleAt e pl (λw hw=>h2 w (by simpa using hw)) ⟨.bl _,H,I,rfl,?_⟩;rw[show its.toArray.any e=its.any e by simp,acF h1];exact q
 ·intro ρ O σ H Q x y dx dy j0 rx ry h;cases dy with
  | tup ds=>
   obtain⟨a,xs,rfl,hq,rs⟩:=ry.tup;have h:good X (rD X) O (if ds.all (λd'=>decide (dep d'<=40)) then .ok (.bl (!ds.any (cW · dx))) else .bad) σ H Q:=h;by_cases hall:ds.all (λd=>decide (dep d<=40))=true
   ·rw[if_pos hall] at h;exact⟨a,ds,xs,O,O,dx,rfl,hq,rs,rx,λd m=>of_decide_eq_true (agI.mp hall d m),fin h (gF _)⟩
   ·rw[if_neg hall] at h;exact h.elim
  |_=>exact h.elim
end
end Pu
namespace Pu
open PySem PySem.Spec L2
open PyProof.Rows hiding St
variable{K:aeh}{mg:Str->Option aef}
theorem ruH{X:Cx}{a:aed}(h:X.A.units+60<afE):(X.Gn a).A.units+60<afE:=h
theorem pC.mono{P:aew}{w:aey}{base:aes}{j k:Nat}{G:List D->R D}{n:Nat}{a:aed}{H:Hp}(c:pC P w K mg base j G n a H)(h:j<=k):pC P w K mg base k G n a H:=
 λA outer s H1 us vs Q E hr=>c A outer s H1 us vs Q E (hr.mono h)
def oX(a:aed)(o:Option HO)(T:aed)(q:Str)(T':aed)(q':Str):Hp:=λb=>if b=T then some (.tbl #[.str q 0]) else if b=T' then some (.tbl #[.str q' 0]) else if b=a then o else none
theorem Yq {P:Program} {w:World} {mb:Str→Option Value} {k:Nat} {fa a c T c' T':Addr} {q q':Str} {fd:FuncData} {x:Str} {sp:Sp} {s₁:Shared} {vs:List Value} {ns:List Int}
    (KX:K.In s₁.heap)(hns:s₁.heap.Ns ael mg)(hb:s₁.heap.Ns agP mb)(hbb:∀x:Str,x≠"__name__"→mb x=afI x)(hlim:s₁.heap.NoLimit)(hg:s₁.gens= #[])
    (ha:s₁.heap.get? a=some {cls:= .type "list",data:= .seq vs.toArray})(hi:af8 vs ns)(hl:ns.length≤sizeLine)(hr:Room k agM)
    (hC:ag1 s₁.heap c T)(hT:s₁.heap.get? T=some (agD #[]))(hC':ag1 s₁.heap c' T')(hT':s₁.heap.get? T'=some (agD #[]))(hTT:T≠T')(hnt:aje K=true)
    (hbm:∃bm ob,mg "__builtins__" =some (.ref bm)∧bm≠agP∧s₁.heap.get? bm=some ob∧ob.cls= .type "module"∧ob.dict=some agP∧ob.data= .plain)
    (F:∀base:aes,K.In base→base.Ns ael mg→iB base mg c T→iB base mg c' T'→FnOk P w K mg base CX0 k fa fd [x] sp)(hbind:∀(s:aeg) (u:aef),ahC s fd ⟨[u],[]⟩ [(x,u)])
    (hsp:∀H:Hp,Tb [(T,q),(T',q')] H→SqL K H a (ns.map V.int)→sp [.ref a] H (fun v _=>v= .bl true) fun _ _ _=>False):
    ahi (model P w) agM (.call (.ref fa) ⟨[.ref a],[]⟩) (fun r s'=>r= .ok (.ret (.bool true))∧OldK s₁.heap s'.heap∧s'.os=s₁.os∧agW s'.gens) s₁:=by
  have rv:=vals_ints hi
  have lenV:=hi.length
  have aT:a≠T:=fun z=>by rw[z,hT] at ha;cases ha
  have aT':a≠T':=fun z=>by rw[z,hT'] at ha;cases ha
  have core : ∀o:Option HO,(o=none∨o=some (.frz {cls:= .type "list",data:= .seq vs.toArray} (.lst (ns.map V.int))))→SqL K (oX a o T q T' q') a (ns.map V.int)→(o≠none→K.lookup a=none)→
      ahi (model P w) agM (.call (.ref fa) ⟨[.ref a],[]⟩) (fun r s'=>r= .ok (.ret (.bool true))∧OldK s₁.heap s'.heap∧s'.os=s₁.os∧agW s'.gens) s₁:=by
    intro o ho hS hK
    have hH:∀b u,oX a o T q T' q' b=some u→(b=T∧u= .tbl #[.str q 0])∨(b=T'∧u= .tbl #[.str q' 0])∨(b=a∧u= .frz {cls:= .type "list",data:= .seq vs.toArray} (.lst (ns.map V.int))∧o≠none):=fun b u z=>by
      unfold oX at z
      by_cases h1:b=T
      · rw[if_pos h1] at z;cases z;exact .inl ⟨h1,rfl⟩
      · rw[if_neg h1] at z
        by_cases h3:b=T'
        · rw[if_pos h3] at z;cases z;exact .inr (.inl ⟨h3,rfl⟩)
        rw[if_neg h3] at z
        by_cases h2:b=a
        · rw[if_pos h2] at z
          rcases ho with ho |ho
          · rw[ho] at z;cases z
          · rw[ho] at z;cases z;exact .inr (.inr ⟨h2,rfl,by rw[ho];simp⟩)
        · rw[if_neg h2] at z;cases z
    have hok:HOk P w (oX a o T q T' q') s₁.heap:=fun b u z=>by
      rcases hH b u z with⟨rfl,rfl⟩ |⟨rfl,rfl⟩ |⟨rfl,rfl,_⟩
      · exact⟨#[],hT,trivial,fun p cv y=>by cases y⟩
      · exact⟨#[],hT',trivial,fun p cv y=>by cases y⟩
      · exact⟨ha,by rw[ai6];exact hl,vs,_,rv,ha⟩
    have tb:Tb [(T,q),(T',q')] (oX a o T q T' q'):=fun p hp=>by
      have e:p=(T,q)∨p=(T',q'):=by simpa using hp
      rcases e with rfl |rfl
      · exact⟨#[.str q 0],0,if_pos rfl,rfl⟩
      · exact⟨#[.str q' 0],0,(if_neg (aeo hTT)).trans (if_pos rfl),rfl⟩
    have base_of:∀{b:aed} {u:Obj},s₁.heap.get? b=some u→oX a o T q T' q' b=none→(hidT s₁.heap (oX a o T q T' q')).get? b=some u:=fun e n=>hidT_get e n
    have free:∀{b:aed} {u:Obj},s₁.heap.get? b=some u→u.cls≠.type "list"→u.cls≠.none→oX a o T q T' q' b=none:=fun {b u} e n1 n2=>by
      cases z:oX a o T q T' q' b with
      |none=>rfl
      | some y=>
        rcases hH b y z with⟨rfl,_⟩ |⟨rfl,_⟩ |⟨rfl,_,_⟩
        · rw[hT] at e;cases e;exact absurd rfl n2
        · rw[hT'] at e;cases e;exact absurd rfl n2
        · rw[ha] at e;cases e;exact absurd rfl n1
    have adn:∀{b:aed} {u:Obj} {es:Array DictEntry} {ep:Nat},s₁.heap.get? b=some u→u.data= .dict es ep→oX a o T q T' q' b=none:=fun {b u es ep} e d=>by
      cases z:oX a o T q T' q' b with
      |none=>rfl
      | some y=>
        rcases hH b y z with⟨rfl,_⟩ |⟨rfl,_⟩ |⟨rfl,_,_⟩
        · rw[hT] at e;cases e;cases d
        · rw[hT'] at e;cases e;cases d
        · rw[ha] at e;cases e;cases d
    have nsK:∀{b:aed} {m:Str→Option aef},s₁.heap.Ns b m→(hidT s₁.heap (oX a o T q T' q')).Ns b m:=fun {b m} ⟨u,es,ep,e,d,r⟩=>⟨u,es,ep,base_of e (adn e d),d,r⟩
    have hKb:K.In (hidT s₁.heap (oX a o T q T' q')):=fun b u e=>base_of (KX b u e) (by
      cases z:oX a o T q T' q' b with
      |none=>rfl
      | some y=>
        rcases hH b y z with⟨rfl,_⟩ |⟨rfl,_⟩ |⟨rfl,_,no⟩
        · have e1:=KX b u e
          rw[hT] at e1;cases e1
          have h2:=agI.mp hnt (b,agD #[]) (aja e)
          exact absurd (show false=true from h2) aeO
        · have e1:=KX b u e
          rw[hT'] at e1;cases e1
          have h2:=agI.mp hnt (b,agD #[]) (aja e)
          exact absurd (show false=true from h2) aeO
        · rw[hK no] at e;cases e)
    have hM:Mod K mg (hidT s₁.heap (oX a o T q T' q')):=⟨hKb,nsK hns,⟨mb,nsK hb,hbb⟩,let⟨mc,h1,h2⟩:=hlim;⟨mc,nsK h1,h2⟩⟩
    have nb:∀{d S:aed},ag1 s₁.heap d S→iB (hidT s₁.heap (oX a o T q T' q')) mg d S:=fun {d S} hC=>by
      refine⟨?_,?_⟩
      · obtain⟨oc,v,file,tf,flags,tg,inF,text,tt,e1,e2,r⟩:=hC
        exact⟨oc,v,file,tf,flags,tg,inF,text,tt,base_of e1 (free e1 (by rw[e2];nofun) (by rw[e2];nofun)),e2,r⟩
      · obtain⟨bm,ob,b1,b2,b3,b4,r⟩:=hbm
        exact⟨bm,ob,b1,b2,base_of b3 (free b3 (by rw[b4];nofun) (by rw[b4];nofun)),b4,r⟩
    have e0:Env0 P w K mg (hidT s₁.heap (oX a o T q T' q')) agM [] s₁ (oX a o T q T' q'):=⟨rfl,hM,fun b o e=>of_hidT e,Nat.le_of_eq (hidT_size _ _),trivial,fun b hb=>absurd (show b∈([]:List aed) from hb) (by simp),hok,.of_eq hg⟩
    refine agX ((F _ hKb (nsK hns) (nb hC) (nb hC')).run agM [] s₁ (oX a o T q T' q') ⟨[.ref a],[]⟩ [.ref a] [.ref a] _ _ hr e0 (hbind s₁ (.ref a)) (.cons rfl .nil) (hsp _ tb hS)) fun r s' h=>?_
    cases r with
    |error e=>exact h.elim
    | ok fl =>
      cases fl with
      |next=>exact ae4 h
      |brk=>exact ae4 h
      |cont=>exact ae4 h
      | ret u =>
        obtain⟨v,H',os,bare,un,hok',r',z⟩:=h
        have z:v= .bl true:=z
        subst z
        obtain rfl:u=aiC true:=r'
        have each:∀b o,s₁.heap.get? b=some o→s'.heap.get? b=some o∨((b=T∨b=T')∧o=agD #[]∧∃qs,s'.heap.get? b=some (agD qs)):=fun b ob e=>by
          cases z:oX a o T q T' q' b with
          |none=>exact .inl (un.keep b ob e z (by intro y;exact absurd (show b∈([]:List aed) from y) (by simp)) (by simp))
          | some y=>
            rcases hH b y z with⟨rfl,rfl⟩ |⟨rfl,rfl⟩ |⟨rfl,rfl,_⟩
            · obtain⟨more,z2⟩:=un.tbls _ _ z
              obtain⟨qs,e2,_⟩:=hok' _ _ z2
              rw[hT] at e;cases e
              exact .inr ⟨.inl rfl,rfl,qs,e2⟩
            · obtain⟨more,z2⟩:=un.tbls _ _ z
              obtain⟨qs,e2,_⟩:=hok' _ _ z2
              rw[hT'] at e;cases e
              exact .inr ⟨.inr rfl,rfl,qs,e2⟩
            · have z2:=un.frzs _ _ _ z
              obtain⟨e1,_⟩:=hok _ _ z
              obtain⟨e2,_⟩:=hok' _ _ z2
              rw[e] at e1;cases e1
              exact .inl e2
        refine⟨rfl,⟨fun b ob e=>?_,fun b ob e=>?_⟩,os,bare⟩
        · rcases each b ob e with z |⟨hb,rfl,qs,z⟩
          · exact .inl z
          · refine .inr (.inl ⟨?_,rfl,#[],qs,rfl,by rw[Array.empty_append];exact z⟩)
            rcases hb with rfl |rfl
            · exact (hC.tab hT).isCodeTable
            · exact (hC'.tab hT').isCodeTable
        · rcases each b ob e with z |⟨_,rfl,qs,z⟩
          · exact⟨_,z⟩
          · exact⟨_,z⟩
  cases hk:K.lookup a with
  | some o=>
    have e:=KX a o hk
    rw[ha] at e
    cases e
    exact core none (.inl rfl) (.inr ⟨_,vs.toArray,_,hk,rfl,rfl,rfl,by rw[aix,lenV];exact hl,by simpa using rv⟩) fun z=>absurd rfl z
  |none=>exact core _ (.inr rfl) (.inl (.inr ⟨_,(if_neg aT).trans ((if_neg aT').trans (if_pos rfl))⟩)) fun _=>hk
def aae(K:aeh)(y y':Str):Bool:=match aiv K y,aiv K y' with
 |some p,some p'=>p.2 !=p'.2
 |_,_=>false
theorem NK{h:aes}{y:Str}{c T:aed}(X:K.In h)(G:h.Ns ael mg)(ht:aiv K y=some (c,T)):pD K mg y c:=λf oc od fd osl e1 e2=>by
 unfold aiv at ht;split at ht
 ·rename_i g hg;cases (aeK X G hg).symm.trans e1;rw[e2] at ht
  dsimp only at ht
  split at ht
  ·rename_i cc hcc;split at ht
   ·split at ht
    ·cases ht;exact hcc
    ·cases ht
   ·cases ht
  ·cases ht
 ·cases ht
theorem ado{l:ahZ}{n k:Nat}{p:aew}{loose:List Str}{XP:(Str->Option aef)->aes->Prop}{YP:aey->aes->Prop}{d:DefRec}{K:Params->aeh}{x y q y' q':Str}{FL:List D->R D}
  (hn:l.most=some n)(hn2:n<=sizeLine)(hdf:d.params.defaults=[])(hr:Room k agM)
  (hY:∀(w:aey) (h:aes),YP w h->(K w.params).In h)(hnt:∀w:aey,aje (K w.params)=true)(htt:∀w:aey,aae (K w.params) y y'=true)(hrec:∃dy,(recsOf p).find? (λe:DefRec=>e.name ==y)=some dy)(hrec':∃dy,(recsOf p).find? (λe:DefRec=>e.name ==y')=some dy)
  (F:∀(w:aey) (mg:Str->Option aef) (fa:aed) (h:aes),(K w.params).In h->h.Ns ael mg->mg d.name=some (.ref fa)->
   ∃fd:aeZ,(∀(s:aeg) (u:aef),ahC s fd ⟨[u],[]⟩ [(x,u)])/\
    ∀(base:aes) (c T c' T':aed),(K w.params).In base->base.Ns ael mg->iB base mg c T->pD (K w.params) mg y c->iB base mg c' T'->pD (K w.params) mg y' c'->FnOk l.prog w (K w.params) mg base CX0 k fa fd [x] (spT [(T,q),(T',q')] (K w.params) 1 FL))
  (hL:∀ns:List Int,ns.length<=n->FL [.lst (ns.map D.int)]= .ok (.bl true)):
  ajj p loose XP YP l.row.toRowW d [] (λf vs=>aiF f vs):=by
 refine Att.attach_call hn hdf λw s₀ s₁ mg mb fa o pm cd doc a vs ns G Y ho hd hcd hmg hobj hints hlen hg=>?_;have KX:=hY w _ Y;obtain⟨fd,hb,hF⟩:=F w mg fa _ KX G.T.g hmg;obtain⟨dy,hdy⟩:=hrec;obtain⟨dy',adY⟩:=hrec';have htt:=htt w;unfold aae at htt;split at htt
 ·rename_i pp pp' e1 e2;obtain⟨c,T⟩:=pp;obtain⟨c',T'⟩:=pp';have t1:=PySem.W.tab_of G.T KX hdy e1;have t2:=PySem.W.tab_of G.T KX adY e2;exact Yq (q:=q) (q':=q') KX G.T.g G.T.b G.T.builtins G.T.nolimit hg hobj hints (z0b hlen hn2) hr t1.1 t1.2 t2.1 t2.2 (by simpa using htt) (hnt w) G.T.bmain (λbase h1 h2 h3 h4=>hF base c T c' T' h1 h2 h3 (NK KX G.T.g e1) h4 (NK KX G.T.g e2)) hb λH tb hS=>⟨tb,sp_law hS (hL ns hlen)⟩
 ·cases htt
end Pu
namespace wQ
open PySem PySem.Spec L2 Pu
open PyProof.Rows hiding St
abbrev gv(n:Nat):aB->R D:=λρ=>bY ρ n
abbrev ci(i:Int):aB->R D:=λ_=> .ok (.int i)
abbrev nA:aB->R (List D):=λ_=> .ok []
abbrev tT:aB->R Bool:=λ_=> .ok true
def cu(c t:Str):Bool:=(c == "NoSeam" && (["NoSeam","SeamError","ValueError"]:List Str).contains t) || (c == "NoPicture" && (["NoPicture","SeamError","ValueError"]:List Str).contains t) || (c == "NoMarks" && (["NoMarks","SeamError","ValueError"]:List Str).contains t) || (c == "NoManner" && (["NoManner","SeamError","ValueError"]:List Str).contains t) || (c == "NoCells" && (["NoCells","SeamError","ValueError"]:List Str).contains t) || false
theorem oY{c t:Str}(h:cu c t=true):c= "NoSeam"\/c= "NoPicture"\/c= "NoMarks"\/c= "NoManner"\/c= "NoCells" :=by
 unfold cu at h;simp only[Bool.or_eq_true,agG,beq_iff_eq,afm,or_false,or_assoc] at h;rcases h with h |h |h |h |h
 ·exact .inl h.1
 ·exact .inr (.inl h.1)
 ·exact .inr (.inr (.inl h.1))
 ·exact .inr (.inr (.inr (.inl h.1)))
 ·exact .inr (.inr (.inr (.inr (h.1))))
def Cv:aB->So:=(aQ (bD (bin (ci 7) (gv 1) jc) (aL 3)) (aQ (dH (cC (bin (gv 0) (fB nA) jF)) (aQ (bD (bin (gv 0) (bin (gv 1) (aH cT (ak (gv 0) nA)) gU) cH) (aL 3)) (aQ (bD (bin (gv 1) (aH cT (ak (gv 0) nA)) iT) (aL 4)) (aQ (dH (o7 (cC (bin (gv 3) (bin (ci 10) (ci 18) xq) Xa)) (cC (bin (gv 4) (ci 60) ltI))) (aQ (bD (bin (gv 3) (bin (ci 10) (ci 18) xq) iT) (aL 5)) (aQ (o8 (o7 (cC (bin (gv 5) (ci 0) yj)) (cC (bin (gv 4) (ci 0) yj))) (aQ (bD (bin (gv 5) (ci 1000000) iT) (aL 5)) (bD (bin (gv 4) (ci 1) gR) (aL 4))) 64) (dH (cC (bin (gv 5) (ci 0) yj)) (retS (bin (bin (gv 5) (ci 1000000) gU) (gv 2) gU)) So.nx))) So.nx) (bD (bin (gv 3) (bin (ci 6553) (bin (gv 1) (aH cT (ak (gv 0) nA)) iT) jc) gk) (aL 3))))) So.nx) (aQ (bD (bin (bin (bin (bin (gv 3) (ci 2147483563) gU) (ci 69069) jc) (bin (ci 104723) (bin (gv 1) (ci 1) gk) jc) gk) (ci 2147483563) gU) (aL 3)) (aQ (bD (bin (bin (bin (gv 3) (gv 3) jc) (bin (gv 3) (ci 3) iT) gk) (ci 2147483399) gU) (aL 3)) (retS (bin (bin (bin (bin (bin (gv 3) (gv 3) jc) (bin (gv 3) (ci 7) iT) gk) (ci 2147483647) gU) (ci 11) iT) (gv 2) gU))))))
def d7:List D->R D:=bR 3 Cv
def Gu:aB->So:=(retS (aH jz (ak (bJ 1 [] (eU (gv 0)) (aL 0) tT (bin (cY (ak (ci 0) nA)) (aH cT (ak (gv 0) nA)) lU)) nA)))
def xG:List D->R D:=bR 0 Gu
def Bd:aB->So:=(retS (aH jz (ak (bJ 2 [] (λρ=>((ak (gv 0) (ak (gv 1) nA)) ρ).bind zip2) (dN (dO 2 (bw (aL 0) (bw (aL 1) nilG)))) tT (bin (gv 0) (gv 1) cH)) nA)))
def sH:List D->R D:=bR 0 Bd
def JC:aB->So:=(retS (nj (wI Fy (gv 0)) (ab5 (wI zx (gv 0)))))
def jO:List D->R D:=bR 0 JC
def Rk:aB->So:=(aQ (dH (Nb (ju (cC (wI gb (gv 0)))) (cC (bin (aH cT (ak (gv 0) nA)) (gv 2) jF))) (retS (λ_=> .ok (.bl false))) So.nx) (aQ (dH (ju (cC (aH nq (ak (bJ 1 [1] (eU (gv 0)) (aL 0) tT (nj (aH (aY jO 1) (ak (gv 0) nA)) (IW (ci 0) (gv 0) (gv 1) wF ltI))) nA)))) (retS (λ_=> .ok (.bl false))) So.nx) (retS (aH nq (ak (bJ 1 [0] (λρ=>((ak (ci 1) (ak (gv 2) nA)) ρ).bind Hf) (aL 0) tT (bin (aH BZ (ak (bin (bin (gv 1) (gv 0) cH) (bin (gv 1) (bin (gv 0) (ci 1) gR) cH) gR) nA)) (ci 1) wF)) nA)))))
def gW:List D->R D:=bR 0 Rk
def NP:aB->So:=(retS (nj (wI gb (gv 0)) (IW (ci 1) (aH cT (ak (gv 0) nA)) (ci 20) wF wF)))
def rO:List D->R D:=bR 0 NP
def NQ:aB->So:=(retS (nj (aH (aY jO 1) (ak (gv 0) nA)) (IW (ci 0) (gv 0) (ci 99) wF wF)))
def wR:List D->R D:=bR 0 NQ
def Rn:aB->So:=(retS (nj (aH (aY rO 1) (ak (gv 0) nA)) (aH nq (ak (bJ 1 [] (eU (gv 0)) (aL 0) tT (aH (aY wR 1) (ak (gv 0) nA))) nA))))
def HD:List D->R D:=bR 0 Rn
def Cw:aB->So:=(aQ (dH (Nb (ju (cC (aH (aY rO 1) (ak (gv 0) nA)))) (ju (cC (aH nq (ak (bJ 1 [] (eU (gv 0)) (aL 0) tT (aH (aY HD 1) (ak (gv 0) nA))) nA))))) (retS (λ_=> .ok (.bl false))) So.nx) (retS (aH nq (ak (bJ 1 [0] (eU (gv 0)) (aL 0) tT (bin (aH cT (ak (gv 0) nA)) (aH cT (ak (bin (gv 1) (ci 0) cH) nA)) fM)) nA))))
def eN:List D->R D:=bR 0 Cw
def yI:aB->So:=(dH (ju (cC (aH (aY eN 1) (ak (gv 0) nA)))) (λρ=> .ex "NoPicture" ρ) So.nx)
def iR:List D->R D:=bR 0 yI
def NT:aB->So:=(aQ (gP (cG iR 1 0 [] (ak (gv 0) nA) nA)) (retS (cY (ak (aH cT (ak (bin (gv 0) (ci 0) cH) nA)) (ak (aH cT (ak (gv 0) nA)) nA)))))
def lY:List D->R D:=bR 0 NT
def NZ:aB->So:=(aQ (bD (cG lY 1 0 [] (ak (gv 1) nA) nA) (dN (dO 2 (bw (aL 2) (bw (aL 3) nilG))))) (retS (aH (aY gW 3) (ak (gv 0) (ak (gv 2) (ak (gv 3) nA))))))
def Cy:List D->R D:=bR 2 NZ
def Gv:aB->So:=(dH (ju (cC (cG Cy 2 0 [] (ak (gv 0) (ak (gv 1) nA)) nA))) (λρ=> .ex "NoSeam" ρ) So.nx)
def gA:List D->R D:=bR 0 Gv
def JD:aB->So:=(aQ (gP (cG gA 2 0 [] (ak (gv 1) (ak (gv 0) nA)) nA)) (retS (aH (aY sH 2) (ak (gv 0) (ak (gv 1) nA)))))
def uc:List D->R D:=bR 0 JD
def Yr:aB->So:=(aQ (bD (bin (aH cT (ak (gv 0) nA)) (ci 1) gR) (aL 1)) (retS (bJ 1 [1,0] (λρ=>((ak (aH cT (ak (gv 0) nA)) nA) ρ).bind jm) (aL 0) tT (aH BZ (ak (bin (bin (gv 2) (aH maxD (ak (bin (gv 0) (ci 1) gR) (ak (ci 0) nA))) cH) (bin (gv 2) (aH minD (ak (bin (gv 0) (ci 1) eX) (ak (gv 1) nA))) cH) gR) nA)))))
def Cz:List D->R D:=bR 1 Yr
def CG:aB->So:=(aQ (bD (bin (gv 0) (gv 1) cH) (aL 2)) (aQ (bD (bin (gv 0) (aH maxD (ak (bin (gv 1) (ci 1) gR) (ak (ci 0) nA))) cH) (aL 3)) (aQ (bD (bin (aH cT (ak (gv 2) nA)) (ci 1) gR) (aL 4)) (aQ (newL nA 5) (aQ (uP (λρ=>((ak (aH (aY Cz 1) (ak (gv 2) nA)) nA) ρ).bind wO) (dN (dO 2 (bw (aL 6) (bw (aL 7) nilG)))) (aQ (bD (bin (gv 7) (aH BZ (ak (bin (bin (gv 3) (gv 6) cH) (bin (gv 2) (aH maxD (ak (bin (gv 6) (ci 1) gR) (ak (ci 0) nA))) cH) gR) nA)) eX) (aL 8)) (aQ (bD (bin (gv 7) (aH BZ (ak (bin (bin (gv 3) (gv 6) cH) (bin (gv 2) (aH minD (ak (bin (gv 6) (ci 1) eX) (ak (gv 4) nA))) cH) gR) nA)) eX) (aL 9)) (xr 5 (cY (ak (gv 8) (ak (gv 7) (ak (gv 9) nA)))))))) (retS (gv 5)))))))
def vo:List D->R D:=bR 8 CG
def Ro:aB->So:=(aQ (bD (cG lY 1 0 [] (ak (gv 0) nA) nA) (dN (dO 2 (bw (aL 1) (bw (aL 2) nilG))))) (retS (aH jz (ak (bJ 1 [2,0] (λρ=>((ak (gv 1) nA) ρ).bind jm) (aL 0) tT (aH jz (ak (bJ 1 [2,0] (λρ=>((ak (gv 1) nA) ρ).bind jm) (aL 0) tT (bin (bin (gv 1) (gv 0) cH) (gv 2) cH)) nA))) nA))))
def HF(ds:List D):R D:=iz 2 Ro (ds.map .val)
def Rp:aB->So:=(aQ (bD (cG lY 1 0 [] (ak (gv 0) nA) nA) (dN (dO 2 (bw (aL 1) (bw (aL 2) nilG))))) (aQ (bD (bJ 1 [] (eU (gv 0)) (aL 0) tT (aH (aY Cz 1) (ak (gv 0) nA))) (aL 3)) (aQ (bD (bJ 1 [] (eU (aH (aY HF 1) (ak (gv 0) nA))) (aL 0) tT (aH (aY Cz 1) (ak (gv 0) nA))) (aL 4)) (retS (aH jz (ak (bJ 1 [3,4,1] (λρ=>((ak (gv 2) nA) ρ).bind jm) (aL 0) tT (aH jz (ak (bJ 1 [1,2,0] (λρ=>((ak (gv 3) nA) ρ).bind jm) (aL 0) tT (bin (bin (bin (gv 1) (gv 3) cH) (gv 0) cH) (bin (bin (gv 2) (gv 0) cH) (gv 3) cH) eX)) nA))) nA))))))
def HJ(ds:List D):R D:=iz 4 Rp (ds.map .val)
def U8:aB->So:=(aQ (dH (cC (bin (gv 1) (λ_=> .ok (.str "worth")) fM)) (retS (bJ 1 [] (eU (aH (aY HJ 1) (ak (gv 0) nA))) (aL 0) tT (bJ 1 [] (eU (gv 0)) (aL 0) tT (cY (ak (gv 0) (ak (gv 0) (ak (gv 0) nA))))))) So.nx) (retS (bJ 1 [0] (λρ=>((ak (aH cT (ak (gv 0) nA)) nA) ρ).bind jm) (aL 0) tT (aH (aY vo 2) (ak (gv 1) (ak (gv 0) nA))))))
def uz(ds:List D):R D:=iz 0 U8 (ds.map .val)
def Bf:aB->So:=(dH (cC (bin (gv 0) (λ_=> .ok (.tup [.str "worth",.str "joins"])) JB)) (λρ=> .ex "NoManner" ρ) So.nx)
def j7:List D->R D:=bR 0 Bf
def N5:aB->So:=(retS (bin (bin (gv 0) (gv 2) cH) (bin (bin (gv 1) (gv 2) gR) (ci 1) eX) cH))
def gM:List D->R D:=bR 0 N5
def JF:aB->So:=(aQ (bD (aH (aY gM 3) (ak (bin (gv 0) (ci 0) cH) (ak (bin (gv 1) (ci 0) cH) (ak (bin (gv 1) (ci 0) cH) nA)))) (aL 2)) (aQ (uP (λρ=>((ak (ci 1) (ak (aH cT (ak (gv 1) nA)) nA)) ρ).bind Hf) (aL 3) (LC 2 (aH (aY gM 3) (ak (bin (gv 0) (gv 3) cH) (ak (bin (gv 1) (bin (gv 3) (ci 1) gR) cH) (ak (bin (gv 1) (gv 3) cH) nA)))))) (retS (gv 2))))
def ud:List D->R D:=bR 2 JF
def N6:aB->So:=(aQ (gP (cG iR 1 0 [] (ak (gv 0) nA) nA)) (aQ (gP (cG j7 1 0 [] (ak (gv 2) nA) nA)) (aQ (gP (cG gA 2 0 [] (ak (gv 1) (ak (gv 0) nA)) nA)) (retS (aH (aY ud 2) (ak (aH (aY uz 2) (ak (gv 0) (ak (gv 2) nA))) (ak (gv 1) nA)))))))
def wU:List D->R D:=bR 0 N6
def N7:aB->So:=(retS (aH jz (ak (bJ 2 [] (λρ=>((ak (gv 0) (ak (gv 1) nA)) ρ).bind zip2) (dN (dO 2 (bw (aL 0) (bw (aL 1) nilG)))) tT (bin (jA (gv 0) (λ_=> .ok none) (λρ=>((gv 1) ρ).bind Gi)) (jA (gv 0) (λρ=>((bin (gv 1) (ci 1) eX) ρ).bind Gi) (λ_=> .ok none)) eX)) nA)))
def CJ:List D->R D:=bR 0 N7
def aaO:aB->So:=(aQ (gP (cG gA 2 0 [] (ak (gv 1) (ak (gv 0) nA)) nA)) (aQ (dH (cC (bin (aH cT (ak (bin (gv 0) (ci 0) cH) nA)) (ci 1) fM)) (retS (λ_=> .ok .non)) So.nx) (retS (aH (aY CJ 2) (ak (gv 0) (ak (gv 1) nA))))))
def JG:List D->R D:=bR 0 aaO
def Bg:aB->So:=(aQ (bD (aH minD (ak (bin (gv 1) (ci 1) eX) (ak (bin (aH cT (ak (gv 0) nA)) (ci 1) gR) nA))) (aL 2)) (retS (bin (bin (bin (gv 0) (gv 1) cH) (bin (gv 0) (gv 2) cH) eX) (ci 2) iT)))
def sI:List D->R D:=bR 1 Bg
def Bh:aB->So:=(retS (aH jz (ak (bJ 2 [] (λρ=>((ak (gv 0) (ak (gv 1) nA)) ρ).bind zip2) (dN (dO 2 (bw (aL 0) (bw (aL 1) nilG)))) tT (aH (aY sI 2) (ak (gv 0) (ak (gv 1) nA)))) nA)))
def sJ:List D->R D:=bR 0 Bh
def Bj:aB->So:=(retS (aH jz (ak (bJ 1 [] (eU (gv 0)) (aL 0) tT (bin (gv 0) (ci 1) eX)) nA)))
def sO:List D->R D:=bR 0 Bj
def CK:aB->So:=(retS (aH jz (ak (bJ 3 [] (λρ=>((ak (gv 0) (ak (gv 1) (ak (gv 2) nA))) ρ).bind Ce) (dN (dO 3 (bw (aL 0) (bw (aL 1) (bw (aL 2) nilG))))) tT (bin (bin (jA (gv 0) (λ_=> .ok none) (λρ=>((gv 1) ρ).bind Gi)) (cY (ak (gv 2) nA)) eX) (jA (gv 0) (λρ=>((gv 1) ρ).bind Gi) (λ_=> .ok none)) eX)) nA)))
def pI:List D->R D:=bR 0 CK
def N8:aB->So:=(aQ (gP (cG gA 2 0 [] (ak (gv 1) (ak (gv 0) nA)) nA)) (aQ (dH (cC (bin (aH cT (ak (bin (gv 0) (ci 0) cH) nA)) (ci 20) fM)) (retS (λ_=> .ok .non)) So.nx) (retS (aH (aY pI 3) (ak (gv 0) (ak (aH (aY sO 1) (ak (gv 1) nA)) (ak (aH (aY sJ 2) (ak (gv 0) (ak (gv 1) nA))) nA)))))))
def wV:List D->R D:=bR 0 N8
def Ys:aB->So:=(retS (aH V1 (ak (aH maxD (ak (bin (gv 0) (ci 1) gR) (ak (ci 0) nA))) (ak (aH minD (ak (bin (gv 0) (ci 2) eX) (ak (gv 1) nA))) nA))))
def Rq:List D->R D:=bR 0 Ys
def Yt:aB->So:=(aQ (bD (aH (aY gM 3) (ak (gv 1) (ak (gv 2) (ak (gv 4) nA)))) (aL 5)) (Hu 3 (bJ 3 [5] (eU (bin (gv 0) (gv 4) cH)) (dN (dO 3 (bw (aL 0) (bw (aL 1) (bw (aL 2) nilG))))) tT (cY (ak (gv 0) (ak (bin (gv 1) (gv 3) eX) (ak (gv 2) nA)))))))
def Rr:aB->So:=(aQ (newL nA 3) (aQ (uP (eU (aH (aY Rq 2) (ak (gv 2) (ak (aH cT (ak (gv 0) nA)) nA)))) (aL 4) Yt) (retS (gv 3))))
def vp:List D->R D:=bR 3 Rr
def V3(aG:Nat)(GG:List D->R D):aB->So:=(dH (cC (bin (gv 8) (ci 1) fM)) (bD (fB nA) (aL 9)) (dH (ju (Hy (gv 4))) (bD (FN 3 aG GG 2 (ak (gv 7) (ak (fB (ak (cY (ak (ci 0) (ak (ci 0) (ak (gv 2) nA)))) nA)) nA))) (aL 9)) (bD (FN 3 aG GG 2 (ak (gv 7) (ak (aH (aY vp 3) (ak (Yg 4 (Lr (ci 1))) (ak (bin (gv 0) (bin (gv 5) (ci 1) eX) cH) (ak (gv 7) nA)))) nA))) (aL 9))))
def V4:aB->So:=(aQ (bD (Ba (cC (bin (gv 8) (ci 2) fM)) (ci 1) (ci 0)) (aL 10)) (xr 6 (bJ 3 [10] (eU (gv 9)) (dN (dO 3 (bw (aL 0) (bw (aL 1) (bw (aL 2) nilG))))) tT (cY (ak (bin (gv 0) (gv 3) gR) (ak (gv 1) (ak (gv 2) nA)))))))
def inW(aG:Nat)(GG:List D->R D):aB->So:=(aQ (V3 aG GG) V4)
def Rt(aG:Nat)(GG:List D->R D):aB->So:=(aQ (newL nA 6) (aQ (uP (λρ=>((ak (bin (gv 1) (gv 5) cH) nA) ρ).bind wO) (dN (dO 2 (bw (aL 7) (bw (aL 8) nilG)))) (inW aG GG)) (Q9 4 6)))
def Mj(aG:Nat)(GG:List D->R D):aB->So:=(aQ (newL nA 4) (aQ (uP (λρ=>((ak (aH cT (ak (gv 1) nA)) nA) ρ).bind Hv) (aL 5) (Rt aG GG)) (retS (FQ (gv 4)))))
def mU(aG:Nat)(GG:List D->R D)(ds:List D):R D:=iz 7 (Mj aG GG) (ds.map .val++[.obj (.fn aG)])
def CN:aB->So:=(retS (bJ 3 [0] (eU (qG (aH pG (ak (gv 1) nA)) (λ_=> .ok none) (λρ=>((gv 2) ρ).bind Gi))) (dN (dO 3 (bw (aL 0) (bw (aL 1) (bw (aL 2) nilG))))) tT (cY (ak (gv 0) (ak (gv 1) (ak (bin (cY (ak (gv 3) nA)) (gv 2) eX) nA))))))
def fj(my:Int)(ds:List D):R D:=iz 0 CN (ds.map .val++[.val (.int my)])
def xH:aB->So:=(VJ 3 2 ((gv 0):aB->R D) ((gv 1):aB->R D) ((cY nA):aB->R D) mU fj)
def qZ(ds:List D):R D:=iz 1 xH (ds.map .val)
def JH:aB->So:=(aQ (newL nA 2) (aQ (uP (λρ=>((ak (bin (gv 1) (ci 0) cH) nA) ρ).bind wO) (dN (dO 2 (bw (aL 3) (bw (aL 4) nilG)))) (aQ (bD (aH (aY gM 3) (ak (bin (gv 0) (ci 0) cH) (ak (gv 3) (ak (gv 3) nA)))) (aL 5)) (Hu 2 (bJ 3 [5] (eU (gv 4)) (dN (dO 3 (bw (aL 0) (bw (aL 1) (bw (aL 2) nilG))))) tT (cY (ak (gv 0) (ak (bin (gv 1) (gv 3) eX) (ak (gv 2) nA)))))))) (retS (gv 2))))
def pJ:List D->R D:=bR 4 JH
def Bk:aB->So:=(retS (qG (aH pG (ak (aH (aY pJ 2) (ak (gv 0) (ak (aH (aY qZ 3) (ak (gv 0) (ak (gv 1) (ak (gv 2) nA)))) nA))) nA)) (λ_=> .ok none) (λρ=>((gv 2) ρ).bind Gi)))
def oG(ds:List D):R D:=iz 0 Bk (ds.map .val)
def CP:aB->So:=(retS (aH jz (ak (bJ 1 [] (eU (gv 0)) (aL 0) tT (aH jz (ak (bJ 1 [] (eU (gv 0)) (aL 0) tT (Ba (cC (bin (gv 0) (ci 1) fM)) (ci 1) (ci 0))) nA))) nA)))
def vB:List D->R D:=bR 0 CP
def JK:aB->So:=(retS (bin (cY (ak (bin (cY (ak (ci 0) nA)) (aH cT (ak (bin (gv 0) (ci 0) cH) nA)) lU) nA)) (aH cT (ak (gv 0) nA)) lU))
def zH:List D->R D:=bR 0 JK
def Oa:aB->So:=(retS (nj (aH (aY jO 1) (ak (gv 0) nA)) (IW (ci 0) (gv 0) (ci 2) wF wF)))
def CQ:List D->R D:=bR 0 Oa
def yJ:aB->So:=(retS (nj (wI gb (gv 0)) (nj (bin (aH cT (ak (gv 0) nA)) (gv 1) fM) (aH nq (ak (bJ 1 [] (eU (gv 0)) (aL 0) tT (aH (aY CQ 1) (ak (gv 0) nA))) nA)))))
def mV:List D->R D:=bR 0 yJ
def JL:aB->So:=(aQ (dH (Nb (ju (cC (wI gb (gv 0)))) (cC (bin (aH cT (ak (gv 0) nA)) (aH cT (ak (gv 1) nA)) jF))) (retS (λ_=> .ok (.bl false))) So.nx) (retS (aH nq (ak (bJ 1 [1] (eU (gv 0)) (aL 0) tT (aH (aY mV 2) (ak (gv 0) (ak (aH cT (ak (bin (gv 1) (ci 0) cH) nA)) nA)))) nA))))
def mW:List D->R D:=bR 0 JL
def CV:aB->So:=(aQ (dH (cC (bin (gv 0) (λ_=> .ok .non) isD)) (retS (aH (aY zH 1) (ak (gv 1) nA))) So.nx) (aQ (dH (ju (cC (aH (aY mW 2) (ak (gv 0) (ak (gv 1) nA))))) (λρ=> .ex "NoMarks" ρ) So.nx) (retS (gv 0))))
def fW:List D->R D:=bR 0 CV
def JM:aB->So:=(aQ (gP (cG iR 1 0 [] (ak (gv 0) nA) nA)) (aQ (gP (cG j7 1 0 [] (ak (gv 1) nA) nA)) (aQ (bD (cG fW 2 0 [] (ak (gv 2) (ak (gv 0) nA)) nA) (aL 3)) (retS (cY (ak (aH (aY uz 2) (ak (gv 0) (ak (gv 1) nA))) (ak (gv 3) nA)))))))
def gB:List D->R D:=bR 1 JM
def CW:aB->So:=(retS (aH Z8 (ak (bJ 2 [] (λρ=>((ak (gv 1) (ak (gv 0) nA)) ρ).bind zip2) (dN (dO 2 (bw (aL 0) (bw (aL 1) nilG)))) tT (bin (bin (gv 0) (gv 1) cH) (ci 1) fM)) nA)))
def vC:List D->R D:=bR 0 CW
def JN:aB->So:=(aQ (bD (cG gB 3 0 [] (ak (gv 0) (ak (gv 2) (ak (gv 3) nA))) nA) (dN (dO 2 (bw (aL 4) (bw (aL 5) nilG))))) (aQ (gP (cG gA 2 0 [] (ak (gv 1) (ak (gv 0) nA)) nA)) (aQ (dH (cC (aH (aY vC 2) (ak (gv 1) (ak (gv 5) nA)))) (retS (λ_=> .ok (.bl false))) So.nx) (aQ (bD (bin (aH (aY oG 3) (ak (gv 4) (ak (aH (aY vB 1) (ak (gv 5) nA)) (ak (ci 1) nA)))) (ci 0) cH) (dN (dO 3 (bw (aL 6) (bw (aL 7) (bw (aL 8) nilG)))))) (retS (bin (aH (aY ud 2) (ak (gv 4) (ak (gv 1) nA))) (gv 7) fM))))))
def uf:List D->R D:=bR 5 JN
def Gw:aB->So:=(aQ (bD (aH (aY oG 3) (ak (gv 0) (ak (gv 1) (ak (ci 1) nA)))) (aL 2)) (aQ (dH (ju (Hy (gv 2))) (retS (λ_=> .ok .non)) So.nx) (aQ (bD (bin (gv 2) (ci 0) cH) (dN (dO 3 (bw (aL 3) (bw (aL 4) (bw (aL 5) nilG)))))) (retS (cY (ak (gv 4) (ak (gv 5) nA)))))))
def xJ(ds:List D):R D:=iz 4 Gw (ds.map .val)
def CZ:aB->So:=(aQ (bD (cG gB 3 0 [] (ak (gv 0) (ak (gv 1) (ak (gv 2) nA))) nA) (dN (dO 2 (bw (aL 3) (bw (aL 4) nilG))))) (aQ (bD (aH (aY xJ 2) (ak (gv 3) (ak (gv 4) nA))) (aL 5)) (aQ (dH (cC (bin (gv 5) (λ_=> .ok .non) isD)) (retS (λ_=> .ok .non)) So.nx) (retS (bin (gv 5) (ci 1) cH)))))
def pK:List D->R D:=bR 3 CZ
def Oc:aB->So:=(aQ (dH (ju (Hy (gv 0))) (retS (fB nA)) So.nx) (aQ (bD (jA (aH Mh (ak (gv 0) nA)) (λ_=> .ok none) (λρ=>(((ci 2):aB->R D) ρ).bind Gi)) (dN (dO 2 (bw (aL 1) (bw (aL 2) nilG))))) (aQ (bD (bJ 3 [2,1] (eU (gv 0)) (dN (dO 3 (bw (aL 0) (bw (aL 1) (bw (aL 2) nilG))))) (o7 (cC (bin (gv 0) (gv 4) fM)) (cC (bin (gv 1) (gv 3) fM))) (gv 2)) (aL 3)) (retS (fB (ak (cY (ak (gv 1) (ak (gv 2) (ak (aH Li (ak (gv 3) nA)) nA)))) nA))))))
def jJ:List D->R D:=bR 3 Oc
def dF(ds:List D):R D:=(((aH (aY jJ 1) (ak (gv 1) nA)):aB->R D)) ((ds.map Ent.val).map some++aem 0 none)
def sS:aB->So:=(Z6 ((gv 0):aB->R D) ((gv 1):aB->R D) ((ci 1):aB->R D) mU dF)
def sU(ds:List D):R D:=iz 0 sS (ds.map .val)
def Dc:aB->So:=(aQ (bD (cG gB 3 0 [] (ak (gv 0) (ak (gv 1) (ak (gv 2) nA))) nA) (dN (dO 2 (bw (aL 3) (bw (aL 4) nilG))))) (aQ (bD (aH (aY jJ 1) (ak (aH (aY pJ 2) (ak (gv 3) (ak (aH (aY sU 2) (ak (gv 3) (ak (gv 4) nA))) nA))) nA)) (aL 5)) (retS (aH Li (ak (bJ 3 [] (eU (gv 5)) (dN (dO 3 (bw (aL 0) (bw (aL 1) (bw (aL 2) nilG))))) tT (gv 2)) nA)))))
def pL:List D->R D:=bR 3 Dc
def Df:aB->So:=(aQ (dH (ju (Hy (gv 0))) (retS (λ_=> .ok .non)) So.nx) (aQ (bD (bin (gv 0) (ci 0) cH) (dN (dO 3 (bw (aL 1) (bw (aL 2) (bw (aL 3) nilG)))))) (retS (cY (ak (Lr (gv 1)) (ak (gv 2) nA))))))
def vD:List D->R D:=bR 3 Df
def U9:aB->So:=(aQ (bD (cG gB 3 0 [] (ak (gv 0) (ak (gv 1) (ak (gv 2) nA))) nA) (dN (dO 2 (bw (aL 3) (bw (aL 4) nilG))))) (aQ (bD (aH (aY qZ 3) (ak (gv 3) (ak (gv 4) (ak (ci 1) nA)))) (aL 5)) (retS (aH jz (ak (bJ 1 [] (eU (gv 5)) (aL 0) tT (aH jz (ak (bJ 1 [] (eU (gv 0)) (aL 0) tT (aH (aY vD 1) (ak (gv 0) nA))) nA))) nA)))))
def FW:List D->R D:=bR 3 U9
def JQ:aB->So:=(aQ (dH (cC (bin (gv 0) (ci 0) fM)) (retS (cG wU 3 1 [.inl 0] (ak (gv 1) (ak (gv 2) nA)) (ak (gv 3) nA))) So.nx) (aQ (dH (cC (bin (gv 0) (ci 1) fM)) (retS (cG uf 4 2 [.inl 0,.inl 1] (ak (gv 1) (ak (gv 2) nA)) (ak (gv 3) (ak (gv 4) nA)))) So.nx) (aQ (dH (cC (bin (gv 0) (ci 2) fM)) (retS (cG pK 3 2 [.inl 0,.inl 1] (ak (gv 1) nA) (ak (gv 3) (ak (gv 4) nA)))) So.nx) (aQ (dH (cC (bin (gv 0) (ci 3) fM)) (retS (cG FW 3 2 [.inl 0,.inl 1] (ak (gv 1) nA) (ak (gv 3) (ak (gv 4) nA)))) So.nx) (aQ (dH (cC (bin (gv 0) (ci 4) fM)) (retS (cG pL 3 2 [.inl 0,.inl 1] (ak (gv 1) nA) (ak (gv 3) (ak (gv 4) nA)))) So.nx) (aQ (dH (cC (bin (gv 0) (ci 5) fM)) (retS (cG uc 2 0 [] (ak (gv 1) (ak (gv 2) nA)) nA)) So.nx) (retS (Ba (cC (bin (gv 0) (ci 6) fM)) (cG JG 2 0 [] (ak (gv 1) (ak (gv 2) nA)) nA) (cG wV 2 0 [] (ak (gv 1) (ak (gv 2) nA)) nA)))))))))
def pN:List D->R D:=bR 0 JQ
def JR:aB->So:=(retS (nj (wI gb (gv 0)) (nj (bin (aH cT (ak (gv 0) nA)) (gv 1) fM) (aH nq (ak (bJ 1 [] (eU (gv 0)) (aL 0) tT (aH (aY wR 1) (ak (gv 0) nA))) nA)))))
def mX:List D->R D:=bR 0 JR
def JT:aB->So:=(aQ (bD (cG lY 1 0 [] (ak (gv 0) nA) nA) (dN (dO 2 (bw (aL 3) (bw (aL 4) nilG))))) (aQ (dH (ju (cC (aH (aY gW 3) (ak (gv 1) (ak (bin (gv 3) (ci 1) eX) (ak (gv 4) nA)))))) (λρ=> .ex "NoSeam" ρ) So.nx) (aQ (dH (ju (cC (aH (aY mX 2) (ak (gv 2) (ak (gv 4) nA))))) (λρ=> .ex "NoCells" ρ) So.nx) (aQ (dH (cC (bin (gv 3) (ci 20) fM)) (retS (λ_=> .ok .non)) So.nx) (retS (aH (aY pI 3) (ak (gv 0) (ak (gv 1) (ak (gv 2) nA)))))))))
def jg:List D->R D:=bR 2 JT
def Od:aB->So:=(aQ (Hs cu "SeamError" 5 (dH (cC (bin (gv 0) (ci 8) fM)) (gP (cG jg 3 0 [] (ak (gv 1) (ak (gv 2) (ak (gv 3) nA))) nA)) (gP (cG pN 5 0 [] (ak (gv 0) (ak (gv 1) (ak (gv 2) (ak (gv 3) (ak (gv 4) nA))))) nA))) (aQ (bD (fB (ak (lC cu 5 "NoPicture") (ak (lC cu 5 "NoManner") (ak (lC cu 5 "NoMarks") nA)))) (aL 6)) (aQ (bD (bin (gv 6) (fB (ak (lC cu 5 "NoSeam") (ak (lC cu 5 "NoCells") nA))) eX) (aL 6)) (retS (Ba (cC (bin (Z7 (gv 6) (λ_=> .ok (.bl true))) (ci 1) fM)) (aac (gv 6) (λ_=> .ok (.bl true))) (Lr (ci 1))))))) (retS (λ_=> .ok .non)))
def dJ(ds:List D):R D:=iz 2 Od (ds.map .val)
def yK:aB->So:=(aQ (QF 4 5 (bin (fB (ak (ci 2) (ak (ci 5) (ak (ci 100) (ak (ci 10) nA))))) (aH (aY d7 3) (ak (gv 0) (ak (gv 1) (ak (ci 4) nA)))) cH) nA) (aQ (uP (λρ=>((ak (gv 3) nA) ρ).bind jm) (aL 6) (xr 5 (aH jz (ak (bJ 1 [1,2,4,0,6] (λρ=>((ak (gv 2) nA) ρ).bind jm) (aL 0) tT (aH (aY d7 3) (ak (gv 4) (ak (bin (bin (bin (gv 1) (ci 1) gk) (bin (gv 2) (gv 5) jc) gk) (gv 0) gk) (ak (gv 3) nA))))) nA)))) (retS (aH jz (ak (gv 5) nA)))))
def qI:List D->R D:=bR 3 yK
def Gx:aB->So:=(retS (aH (aY qI 4) (ak (gv 0) (ak (bin (gv 1) (ci 2) gk) (ak (bin (ci 1) (aH (aY d7 3) (ak (gv 0) (ak (gv 1) (ak (gv 2) nA)))) gk) (ak (bin (ci 1) (aH (aY d7 3) (ak (gv 0) (ak (bin (gv 1) (ci 1) gk) (ak (gv 3) nA)))) gk) nA))))))
def xK:List D->R D:=bR 0 Gx
def aaP:aB->So:=(aQ (bD (aH (aY xK 4) (ak (gv 0) (ak (ci 0) (ak (ci 6) (ak (ci 5) nA))))) (aL 1)) (aQ (QD 2 3 (aH cT (ak (bin (gv 1) (ci 0) cH) nA)) (aH cT (ak (gv 1) nA))) (aQ (bD (cY (ak (aH (aY xG 1) (ak (gv 1) nA)) (ak (bin (cY (ak (ci 0) nA)) (gv 3) lU) nA))) (dN (dO 2 (bw (aL 4) (bw (aL 5) nilG))))) (aQ (bD (bin (fB (ak (λ_=> .ok .non) (ak (cY nA) (ak (aH Vw (ak (gv 1) nA)) (ak (cY (ak (cY (ak (ci 100) nA)) nA)) (ak (cY (ak (cY (ak (ci 1) nA)) (ak (cY (ak (ci 1) (ak (ci 2) nA))) nA))) (ak (ci 7) nA))))))) (aH (aY d7 3) (ak (gv 0) (ak (ci 60) (ak (ci 6) nA)))) cH) (aL 6)) (aQ (bD (bin (fB (ak (λ_=> .ok .non) (ak (λ_=> .ok (.str "")) (ak (λ_=> .ok (.str "worths")) (ak (ci 0) (ak (cY (ak (λ_=> .ok (.str "worth")) nA)) (ak (λ_=> .ok (.bl true)) nA))))))) (aH (aY d7 3) (ak (gv 0) (ak (ci 61) (ak (ci 6) nA)))) cH) (aL 7)) (aQ (bD (fB (ak (ci 7) (ak (cY nA) (ak (bin (gv 4) (jA (gv 4) (λ_=> .ok none) (λρ=>(((ci 1):aB->R D) ρ).bind Gi)) eX) (ak (bin (cY (ak (bin (cY (ak (ci 3) nA)) (gv 2) lU) nA)) (gv 3) lU) (ak (bin (cY (ak (bin (cY (ak (ci 0) nA)) (bin (gv 2) (ci 1) eX) lU) nA)) (gv 3) lU) (ak (fB (ak (gv 4) nA)) nA))))))) (aL 8)) (aQ (bD (bin (gv 8) (aH (aY d7 3) (ak (gv 0) (ak (ci 62) (ak (ci 6) nA)))) cH) (aL 8)) (aQ (bD (bin (fB (ak (λ_=> .ok .non) (ak (bin (gv 5) (cY (ak (ci 0) nA)) eX) (ak (bin (cY (ak (bin (gv 2) (ci 1) eX) nA)) (gv 3) lU) (ak (aH Vw (ak (gv 5) nA)) (ak (bin (cY (ak (λ_=> .ok .non) nA)) (gv 3) lU) (ak (Lr (ci 1)) nA))))))) (aH (aY d7 3) (ak (gv 0) (ak (ci 63) (ak (ci 6) nA)))) cH) (aL 9)) (aQ (bD (fB (ak (λ_=> .ok .non) (ak (bin (cY (ak (ci 0) nA)) (bin (gv 3) (ci 1) eX) lU) (ak (bin (cY (ak (ci 100) nA)) (gv 3) lU) (ak (bin (fB (ak (ci 0) nA)) (gv 3) mulL) (ak (bin (cY (ak (λ_=> .ok .non) nA)) (gv 3) lU) (ak (ci 7) nA))))))) (aL 10)) (aQ (bD (bin (gv 10) (aH (aY d7 3) (ak (gv 0) (ak (ci 64) (ak (ci 6) nA)))) cH) (aL 10)) (aQ (dH (cC (bin (bJ 1 [7,8,6,9] (λρ=>((ak (ci 9) nA) ρ).bind jm) (aL 0) tT (aH (aY dJ 5) (ak (gv 0) (ak (gv 3) (ak (gv 4) (ak (gv 1) (ak (gv 2) nA))))))) (bin (fB (ak (ci 0) nA)) (ci 9) mulL) jF)) (retS (λ_=> .ok (.bl false))) So.nx) (aQ (dH (cC (bin (bJ 1 [7,8,9,1] (λρ=>((ak (ci 5) nA) ρ).bind jm) (aL 0) tT (aH (aY dJ 5) (ak (gv 0) (ak (gv 4) (ak (gv 3) (ak (gv 1) (ak (gv 2) nA))))))) (bin (fB (ak (ci 1) nA)) (ci 5) mulL) jF)) (retS (λ_=> .ok (.bl false))) So.nx) (aQ (dH (cC (bin (bJ 1 [8,9,1] (eU (cY (ak (ci 1) (ak (ci 2) (ak (ci 3) (ak (ci 4) nA)))))) (aL 0) tT (aH (aY dJ 5) (ak (gv 0) (ak (gv 3) (ak (gv 2) (ak (λ_=> .ok (.str "joins")) (ak (gv 1) nA))))))) (bin (fB (ak (ci 2) nA)) (ci 4) mulL) jF)) (retS (λ_=> .ok (.bl false))) So.nx) (aQ (dH (cC (bin (bJ 1 [4,9,1] (eU (cY (ak (ci 0) (ak (ci 1) (ak (ci 5) (ak (ci 6) (ak (ci 7) nA))))))) (aL 0) tT (aH (aY dJ 5) (ak (gv 0) (ak (gv 3) (ak (gv 2) (ak (λ_=> .ok (.str "worth")) (ak (gv 1) nA))))))) (bin (fB (ak (ci 3) nA)) (ci 5) mulL) jF)) (retS (λ_=> .ok (.bl false))) So.nx) (aQ (dH (cC (bin (aH (aY dJ 5) (ak (ci 8) (ak (gv 1) (ak (gv 9) (ak (gv 10) (ak (λ_=> .ok .non) nA)))))) (ci 3) jF)) (retS (λ_=> .ok (.bl false))) So.nx) (aQ (dH (cC (bin (aH (aY dJ 5) (ak (ci 8) (ak (gv 1) (ak (gv 5) (ak (gv 10) (ak (λ_=> .ok .non) nA)))))) (ci 4) jF)) (retS (λ_=> .ok (.bl false))) So.nx) (retS (bin (bJ 1 [1,5] (λρ=>((ak (ci 8) nA) ρ).bind jm) (aL 0) tT (aH (aY dJ 5) (ak (gv 0) (ak (gv 1) (ak (gv 2) (ak (λ_=> .ok (.str "worth")) (ak (λ_=> .ok .non) nA))))))) (bin (fB (ak (λ_=> .ok .non) nA)) (ci 8) mulL) fM))))))))))))))))))
def JV(ds:List D):R D:=iz 10 aaP (ds.map .val)
end wQ
namespace wQ
open PySem PySem.Spec L2 Pu
variable{i j m:Int}{ds acc:List D}{cs:List Wy}{x y k:Nat}{c:Nat->Int}{s:Nat->Nat}{e1 e9 e5 e10:Option Ent}{r:R D}{ρ:aB}{fa:aB->R (List D)}{u:aB->R D}{α:Type}{a b:Wy}
theorem gO{F:List D->R D}{n j:Nat}{sel:List (Sum Nat D)}{fk:aB->R (List D)}{zs:List D}(e1:fa ρ= .ok ds)(e2:fk ρ= .ok zs)(e3:F (ds++pickK .non sel zs)=r)(hl:(ds++pickK .non sel zs).length=n:=by rfl)(hj:zs.length=j:=by rfl):cG F n j sel fa fk ρ=r:=by
 unfold cG;rw[e1,R.bB,e2,R.bB,if_pos hj,okN,if_pos hl,e3]
theorem iu{m:Nat}{s:aB->So}{es:List Ent}{d:D}(e:s (es.map some++aem m none)= .rt d):iz m s es= .ok d:=by rw[iz,e]
theorem aV{F:List D->R D}{n:Nat}(e1:fa ρ= .ok ds)(e3:F ds=r)(hl:ds.length=n:=by rfl):cG F n 0 [] fa nA ρ=r:=
 gO (ds:=ds) (zs:=[]) e1 rfl (by show F (ds++[])=r;rw[afg];exact e3) (by show (ds++[]).length=n;rw[afg];exact hl)
def row(w:Nat)(f:Nat->Int):D:= .tup ((aee w).map λx=> .int (f x))
def bH(w h:Nat)(f:Nat->Nat->Int):D:= .tup ((aee h).map λy=>row w (f y))
structure Ok(w h:Nat)(f:Nat->Nat->Int):Prop where
 w1:1<=w
 w2:w<=20
 h1:1<=h
 h2:h<=20
 c:∀y<h,∀x<w,0<=f y x/\f y x<=99
theorem ug(h:i<=j):wF (.int i) (.int j)= .ok (.bl true):=by
 show R.ok (D.bl (decide (i<=j)))=_;rw[decide_eq_true h]
theorem JW(h1:1<=ds.length)(h2:ds.length<=20):rO [.tup ds]= .ok (.bl true):=
 bA (aR (fH rfl (u9 rfl (aN (ao rfl) rfl) (ug (by omega)) rfl (ug (by omega)))))
theorem nR:jO [.int i]= .ok (.bl true):=rfl
theorem JX(h0:0<=i)(h1:i<=99):wR [.int i]= .ok (.bl true):=by
 exact bA (aR (fH (aZ (ao rfl) nR) (u9 rfl rfl (ug h0) rfl (ug h1))))
theorem Yu{w:Nat}{f:Nat->Int}(h1:1<=w)(h2:w<=20)(hc:∀x<w,0<=f x/\f x<=99):HD [row w f]= .ok (.bl true):=by
 refine bA (aR (fH (aZ (ao rfl) (JW (by simpa using h1) (by simpa using h2))) (aN (ao (bF (c:=λx=> .int (f x)) (h:=λ_=> .bl true) (l:=aee w) (dW rfl) (by rw[z2d];omega) λx hx=>?_)) qz)));obtain⟨a,b⟩:=hc x (z2e hx);exact bL rfl (aZ (ao rfl) (JX a b))
section
variable{w h:Nat}{f:Nat->Nat->Int}
theorem O9(o:Ok w h f):eN [bH w h f]= .ok (.bl true):=by
 have e1:rO [bH w h f]= .ok (.bl true):=JW (by simpa using o.h1) (by simpa using o.h2);refine bA (aD (aP (vd (cO (aJ (aZ (ao rfl) e1))) (cO (aJ (aN (ao (bF (c:=λy=>row w (f y)) (h:=λ_=> .bl true) (l:=aee h) (dW rfl) (by rw[z2d];have:=o.h2;omega) λy hy=>?_)) qz)))) rfl) (aR (aN (ao (bF (c:=λy=>row w (f y)) (h:=λ_=> .bl true) (l:=aee h) (dW rfl) (by rw[z2d];have:=o.h2;omega) λy hy=>?_)) qz)))
 ·exact bL rfl (aZ (ao rfl) (Yu o.w1 o.w2 (o.c y (z2e hy))))
 ·refine bL rfl (au (aN (ao rfl) rfl) (aN (ao (au rfl rfl (lB (i:=0) (d:=row w (f 0)) ?_))) rfl) (u6 ?_ ?_))
  ·rw[z2b,aeJ o.h1];rfl
  ·simp
  ·simp[dep]
theorem qJ(o:Ok w h f):iR [bH w h f]= .ok .non:=Qj (aP (cO (aJ (aZ (ao rfl) (O9 o)))) rfl)
theorem size_eq(o:Ok w h f):lY [bH w h f]= .ok (.tup [.int w,.int h]):=by
 refine bA (aD (eY (aV (ao rfl) (qJ o))) (aR (bU (aq (aN (ao (au rfl rfl (lB (i:=0) (d:=row w (f 0)) ?_))) ?_) (ao (aN (ao rfl) ?_))))))
 ·rw[z2b,aeJ o.h1];rfl
 ·simp[row,cT]
 ·simp[bH,cT]
theorem Yv(o:Ok w h f):HF [bH w h f]= .ok (bH h w λy x=>f x y):=by
 refine iu (aD (bh (aV (ao rfl) (size_eq o)) rfl) (aR (aN (ao (bF (c:=λ(x:Nat)=> .int (x:Int)) (h:=λx=>row h λy=>f y x) (l:=aee w) (lM (ao rfl) (by have:=o.w2;omega)) (by rw[z2d];have:=o.w2;omega) λx hx=>?_)) rfl)));refine bL rfl (aN (ao (bF (c:=λ(y:Nat)=> .int (y:Int)) (h:=λy=> .int (f y x)) (l:=aee h) (lM (ao rfl) (by have:=o.h2;omega)) (by rw[z2d];have:=o.h2;omega) λy hy=>?_)) rfl);refine bL rfl (au (au rfl rfl (lB (i:=y) (d:=row w (f y)) ?_)) rfl (lB (i:=x) ?_))
 ·rw[z2b,aeJ (z2e hy)];rfl
 ·rw[z2b,aeJ (z2e hx)];rfl
end
def aaf:aB->So:=(xr 5 (aH jz (ak (bJ 1 [1,2,4,0,6] (λρ=>((ak (gv 2) nA) ρ).bind jm) (aL 0) tT (aH (aY d7 3) (ak (gv 4) (ak (bin (bin (bin (gv 1) (ci 1) gk) (bin (gv 2) (gv 5) jc) gk) (gv 0) gk) (ak (gv 3) nA))))) nA)))
section
variable{ns:List Int}{a m:Int}{w h:Nat}
def vA(d:D):Option Ent:=some (.val d)
theorem acG(hns:ns.length<=1000000)(ha:0<=a)(hm:0<m)(hw:w<=20){tl:Option Ent}(hl:acc.length<1000000):
  aaf [vA (.lst (ns.map .int)),vA (.int a),vA (.int (w:Int)),tl,vA (.int m),some (.lst acc),vA (.int (y:Int))] =
   .nx [vA (.lst (ns.map .int)),vA (.int a),vA (.int (w:Int)),tl,vA (.int m),some (.lst (acc++[row w λx=>dr ns (a+1+(w:Int)*(y:Int)+(x:Int)) m])),vA (.int (y:Int))]:=by
 have e:aH jz (ak (bJ 1 [1,2,4,0,6] (λρ=>((ak (gv 2) nA) ρ).bind jm) (aL 0) tT (aH (aY d7 3) (ak (gv 4) (ak (bin (bin (bin (gv 1) (ci 1) gk) (bin (gv 2) (gv 5) jc) gk) (gv 0) gk) (ak (gv 3) nA))))) nA)
   [vA (.lst (ns.map .int)),vA (.int a),vA (.int (w:Int)),tl,vA (.int m),some (.lst acc),vA (.int (y:Int))]= .ok (row w λx=>dr ns (a+1+(w:Int)*(y:Int)+(x:Int)) m):=by
  refine aN (ao (bF (c:=λ(x:Nat)=>D.int (x:Int)) (h:=λ(x:Nat)=>D.int (dr ns (a+1+(w:Int)*(y:Int)+(x:Int)) m)) (l:=aee w) (lM (ao rfl) (by omega)) (by rw[z2d];omega) λx hx=>?_)) rfl;refine bL rfl (aZ (aq rfl (aq (au (au (au rfl rfl rfl) (au rfl rfl (o9 (.inl ⟨by omega,by omega⟩))) rfl) rfl rfl) (ao rfl))) ?_);have hp:(0:Int)<=(w:Int)*(y:Int):=Int.mul_nonneg (by omega) (by omega);exact (qX hns (by omega) hm).1
 unfold aaf xr;rw[e];show (if acc.length<1000000 then So.nx _ else .bad)=_;rw[if_pos hl];rfl
theorem Ru(hns:ns.length<=1000000)(ha:0<=a)(hm:0<m)(hw:w<=20){tl:Option Ent}:∀{ys:List Nat} {acc:List D} {x:Option Ent},acc.length+ys.length<=1000000->
  ∃x',forL (aL 6) aaf (ys.map λ(y:Nat)=>D.int (y:Int)) [vA (.lst (ns.map .int)),vA (.int a),vA (.int (w:Int)),tl,vA (.int m),some (.lst acc),x] =
   .nx [vA (.lst (ns.map .int)),vA (.int a),vA (.int (w:Int)),tl,vA (.int m),some (.lst (acc++ys.map λ(y:Nat)=>row w λx=>dr ns (a+1+(w:Int)*(y:Int)+(x:Int)) m)),x']
 |[],acc,x,_=>⟨x,by rw[agY,agY,afg];rfl⟩
 | y::ys,acc,x,hl=>by
  rw[aeC] at hl;obtain⟨x',e⟩:=Ru hns ha hm hw (tl:=tl) (ys:=ys) (acc:=acc++[row w λx=>dr ns (a+1+(w:Int)*(y:Int)+(x:Int)) m]) (x:=vA (.int (y:Int))) (by rw[z1d];simp only[aeC,afQ];omega);refine⟨x',?_⟩;rw[afx] at e;rw[z1h,z1h];exact gK rfl (acG hns ha hm hw (by omega)) e
theorem V5(hns:ns.length<=1000000)(ha:0<=a)(hw:w<=20)(hw1:1<=w)(hh:h<=20)(hh1:1<=h):∃f,qI [.lst (ns.map .int),.int a,.int (w:Int),.int (h:Int)]= .ok (bH w h f)/\Ok w h f:=by
 obtain⟨e1,h0,h4⟩:=qX (k:=a) (m:=4) hns ha (by omega);obtain⟨d,hd,ed⟩:=qy (xs:=[D.int 2,.int 5,.int 100,.int 10]) h0 h4;have hm:∃m,d= .int m/\0<m/\m<=100:=by
  simp only[aev,aeU,or_false] at hd;rcases hd with rfl |rfl |rfl |rfl
  ·exact⟨_,rfl,by omega,by omega⟩
  ·exact⟨_,rfl,by omega,by omega⟩
  ·exact⟨_,rfl,by omega,by omega⟩
  ·exact⟨_,rfl,by omega,by omega⟩
 obtain⟨m,rfl,hm0,hm1⟩:=hm;obtain⟨x',er⟩:=Ru hns ha hm0 hw (tl:=vA (.int (h:Int))) (ys:=aee h) (acc:=[]) (x:=none) (by rw[z2d,afQ];omega);refine⟨λy x=>dr ns (a+1+(w:Int)*(y:Int)+(x:Int)) m,bA (aD (ρ':=[vA (.lst (ns.map .int)),vA (.int a),vA (.int (w:Int)),vA (.int (h:Int)),vA (.int m),some (.lst []),none]) ?_ (aD (lN (lM (m:=h) (ao rfl) (by omega)) er) (aR (aN (ao (x:= .lst ((aee h).map λ(y:Nat)=>row w λx=>dr ns (a+1+(w:Int)*(y:Int)+(x:Int)) m)) rfl) rfl)))),hw1,hw,hh1,hh,λy hy x hx=>?_⟩
 ·exact aa2 (au (x:= .lst [D.int 2,.int 5,.int 100,.int 10]) (y:= .int (dr ns a 4)) (d9 rfl) (aZ (aq rfl (aq rfl (ao rfl))) e1) (rK ed)) rfl
 ·have hp:(0:Int)<=(w:Int)*(y:Int):=Int.mul_nonneg (by omega) (by omega);have:=(qX (k:=a+1+(w:Int)*(y:Int)+(x:Int)) (m:=m) hns (by omega) hm0).2;show 0<=dr _ _ _/\dr _ _ _<=99;omega
end
section
variable{w h:Nat}{f g:Nat->Nat->Int}
theorem aag{β:Type}{p q:α->β}{l:List α}(e:∀a∈l,p a=q a):l.map p=l.map q:=afG e
end
structure nu(w h:Nat)(s:Nat->Nat):Prop where
 lt:∀y<h,s y<w
 st:∀y,y+1<h->s (y+1)<=s y+1/\s y<=s (y+1)+1
abbrev sm(h:Nat)(s:Nat->Nat):D:=row h λy=>((s y:Nat):Int)
section
variable{ρ:aB}{fa:aB->R (List D)}{α:Type}{l:List α}{p q r:α->D}{x y z:D}
theorem Va{m:Nat}(e:fa ρ= .ok [.int 1,.int (m:Int)])(h:m<2^62):(λρ=>(fa ρ).bind Hf) ρ= .ok ((aee (m - 1)).map λ(i:Nat)=>D.int ((i+1:Nat):Int)):=by
 show (fa ρ).bind Hf=_;rw[e,R.bB,Hf,if_pos ⟨by omega,by omega,by omega,by omega⟩];unfold upto;rw[show ((m:Int) - 1).toNat=m - 1 by omega];refine congrArg R.ok (aag λi _=>?_);rw[show (1:Int)+(i:Int)=((i+1:Nat):Int) by omega]
theorem FZ(e:fa ρ= .ok [x,y])(h1:eF x= .ok (l.map p))(h2:eF y= .ok (l.map q)):(λρ=>(fa ρ).bind zip2) ρ= .ok (l.map λa=> .tup [p a,q a]):=by
 show (fa ρ).bind zip2=_;rw[e,R.bB,zip2,h1,R.bB,h2,R.bB,Lw,ajk,afc];rfl
theorem abE(e:fa ρ= .ok [x,y,z])(h1:eF x= .ok (l.map p))(h2:eF y= .ok (l.map q))(h3:eF z= .ok (l.map r)):(λρ=>(fa ρ).bind Ce) ρ= .ok (l.map λa=> .tup [p a,q a,r a]):=by
 show (fa ρ).bind Ce=_;rw[e,R.bB,Ce,h1,R.bB,h2,R.bB,h3,R.bB,Fz,ajk,ajk,afc];rfl
theorem acH:wF (.int i) (.int j)= .ok (.bl (decide (i<=j))):=rfl
theorem adp(h:i<j):ltI (.int i) (.int j)= .ok (.bl true):=by
 show R.ok (D.bl (decide (i<j)))=_;rw[decide_eq_true h]
theorem yL(h:i=j):jF (.int i) (.int j)= .ok (.bl false):=lK (by rw[h]) (by simp[dep])
theorem yM:fM (.int i) (.int j)= .ok (.bl (decide (i=j))):=by
 rw[fM,if_pos (by simp[dep])];show R.ok (D.bl (cW (.int i) (.int j)))=_;by_cases h:i=j <;> simp[uR,uT,uU,uV,uW,jX,iV,h]
theorem Yw{n d:Nat}:HT.sIx n d (some (k:Int))=min k n:=by
 show (if (k:Int)<0 then ((k:Int)+(n:Int)).toNat else min (k:Int).toNat n)=min k n;rw[if_neg (by omega),agx]
theorem JZ{n d:Nat}:HT.sIx n d none=d:=rfl
theorem abF{n:Nat}(h:n<=ds.length):lR ds none (some (n:Int))=ds.take n:=by
 rw[lR,Yw,JZ,ahX h,aiT];rfl
theorem Yx{n:Nat}(h:n<=ds.length):lR ds (some (n:Int)) none=ds.drop n:=by
 rw[lR,Yw,JZ,ahX h,List.take_of_length_le (by rw[aiO];exact z0g _)]
theorem Ml{f:aB->R D}{fu:aB->R (Option Int)}{n:Nat}(e1:f ρ= .ok (.tup ds))(e2:fu ρ= .ok (some (n:Int)))(h:n<=ds.length):jA f (λ_=> .ok none) fu ρ= .ok (.tup (ds.take n)):=by
 rw[jA,e1,R.bB,R.bB,e2,R.bB,QJ,abF h]
theorem Oe{f:aB->R D}{fl:aB->R (Option Int)}{n:Nat}(e1:f ρ= .ok (.tup ds))(e2:fl ρ= .ok (some (n:Int)))(h:n<=ds.length):jA f fl (λ_=> .ok none) ρ= .ok (.tup (ds.drop n)):=by
 rw[jA,e1,R.bB,e2,R.bB,R.bB,QJ,Yx h]
theorem uD{xs ys:List D}(h:xs.length+ys.length<=1000000):eX (.tup xs) (.tup ys)= .ok (.tup (xs++ys)):=by
 rw[eX,if_pos h]
end
section
variable{w h:Nat}{g:Nat->Int}{n:Nat}{c:Int}
theorem aah(hn:n<w):((aee w).map λx=>D.int (g x)).take n++((aee w).map λx=>D.int (g x)).drop (n+1)=(aee (w - 1)).map λx=>D.int (if x<n then g x else g (x+1)):=by
 refine aiY (by simp;omega) λi h1 h2=>?_;rw[ah6];by_cases hi:i<n
 ·rw[dif_pos (by simp;omega)];simp[hi]
 ·rw[dif_neg (by simp;omega)];have e:n+1+(i - min n w)=i+1:=by omega
  simp[hi,e]
theorem row_more(hn:n<=w):(((aee w).map λx=>D.int (g x)).take n++[D.int c])++((aee w).map λx=>D.int (g x)).drop n=(aee (w+1)).map λx=>D.int (if x<n then g x else if x=n then c else g (x - 1)):=by
 refine aiY (by simp;omega) λi h1 h2=>?_;rw[ah6];by_cases hi:i<n+1
 ·rw[dif_pos (by simp;omega),ah6];by_cases hj:i<n
  ·rw[dif_pos (by simp;omega)];simp[hj]
  ·rw[dif_neg (by simp;omega)];have:i=n:=by omega
   simp[this]
 ·rw[dif_neg (by simp;omega)];have e:n+(i - (min n w+1))=i - 1:=by omega
  have e1:¬i<n:=by omega
  have e2:¬i=n:=by omega
  simp[e,e1,e2]
end
section
variable{w h:Nat}{f:Nat->Nat->Int}{s:Nat->Nat}
theorem Dg(q:nu w h s)(ni:h<=20):gW [sm h s,.int (w:Int),.int (h:Int)]= .ok (.bl true):=by
 refine bA (aD (aP (vd (cO (aJ (b:=true) rfl)) (aJ (au (aN (ao rfl) rfl) rfl (yL ?_)))) rfl)
  (aD (aP (cO (aJ (aN (ao (bF (c:=λy=> .int ((s y:Nat):Int)) (h:=λ_=> .bl true) (l:=aee h) (dW rfl) (by rw[z2d];omega) λy hy=>?_)) qz))) rfl)
  (aR (aN (ao (bF (c:=λy=> .int ((y+1:Nat):Int)) (h:=λ_=> .bl true) (l:=aee (h - 1)) (Va (aq rfl (ao rfl)) (by omega)) (by rw[z2d];omega) λy hy=>?_)) qz))))
 ·simp
 ·have:=q.lt y (z2e hy);exact bL rfl (fH (aZ (ao rfl) nR) (u9 rfl rfl (ug (by omega)) rfl (adp (by omega))))
 ·have hy:y<h - 1:=z2e hy;obtain⟨h1,h2⟩:=q.st y (by omega);refine bL rfl (au (aN (ao (au (x:= .int ((s (y+1):Nat):Int)) (y:= .int ((s y:Nat):Int)) (au rfl rfl (lB (i:=y+1) ?_)) (au rfl (au (x:= .int ((y+1:Nat):Int)) (y:= .int 1) rfl rfl ?_) (lB (i:=y) ?_)) rfl)) rfl) rfl (ug ?_))
  ·rw[z2b,aeJ (by omega)];rfl
  ·show R.ok (D.int (((y+1:Nat):Int) - 1))=_;rw[show ((y+1:Nat):Int) - 1=(y:Int) by omega]
  ·rw[z2b,aeJ (by omega)];rfl
  ·split <;> omega
theorem V6(o:Ok w h f)(q:nu w h s):Cy [sm h s,bH w h f]= .ok (.bl true):=
 bA (aD (bh (aV (ao rfl) (size_eq o)) rfl) (aR (aZ (aq rfl (aq rfl (ao rfl))) (Dg q o.h2))))
theorem jB(o:Ok w h f)(q:nu w h s):gA [sm h s,bH w h f]= .ok .non:=
 Qj (aP (cO (aJ (aV (aq rfl (ao rfl)) (V6 o q)))) rfl)
theorem len0(o:Ok w h f)(e:u ρ= .ok (bH w h f)):aH cT (ak (bin u (ci 0) cH) nA) ρ= .ok (.int (w:Int)):=by
 refine aN (ao (au e rfl (lB (i:=0) (d:=row w (f 0)) ?_))) ?_
 ·rw[z2b,aeJ o.h1];rfl
 ·simp[row,cT]
theorem Mp(q:nu w h s)(ni:h<=20):sH [bH w h f,sm h s]= .ok (row h λy=>f y (s y)):=by
 refine bA (aR (aN (ao (bF (c:=λy=> .tup [row w (f y),.int ((s y:Nat):Int)]) (h:=λy=> .int (f y (s y))) (l:=aee h) (FZ (aq rfl (ao rfl)) rfl rfl) (by rw[z2d];omega) λy hy=>?_)) rfl));refine bL rfl (au rfl rfl (lB (i:=s y) ?_));rw[z2b,aeJ (q.lt y (z2e hy))];rfl
theorem Tt(o:Ok w h f)(q:nu w h s):uc [bH w h f,sm h s]= .ok (row h λy=>f y (s y)):=
 bA (aD (eY (aV (aq rfl (ao rfl)) (jB o q))) (aR (aZ (aq rfl (ao rfl)) (Mp q o.h2))))
def less(s:Nat->Nat)(f:Nat->Nat->Int):Nat->Nat->Int:=λy x=>if x<s y then f y x else f y (x+1)
def more(s:Nat->Nat)(c:Nat->Int)(f:Nat->Nat->Int):Nat->Nat->Int:=λy x=>if x<s y then f y x else if x=s y then c y else f y (x - 1)
theorem V7(q:nu w h s)(ni:h<=20)(w20:w<=20):CJ [bH w h f,sm h s]= .ok (bH (w - 1) h (less s f)):=by
 refine bA (aR (aN (ao (bF (c:=λy=> .tup [row w (f y),.int ((s y:Nat):Int)]) (h:=λy=>row (w - 1) (less s f y)) (l:=aee h) (FZ (aq rfl (ao rfl)) rfl rfl) (by rw[z2d];omega) λy hy=>?_)) rfl));have hs:=q.lt y (z2e hy);refine bL rfl (au (Ml (n:=s y) rfl rfl (by simp;omega)) (Oe (n:=s y+1) rfl rfl (by simp;omega)) ((uD (by simp;omega)).trans ?_));rw[aah hs];rfl
theorem acI(o:Ok w h f)(q:nu w h s)(h1:1<w):JG [bH w h f,sm h s]= .ok (bH (w - 1) h (less s f)):=by
 refine bA (aD (eY (aV (aq rfl (ao rfl)) (jB o q))) (aD (aP (aJ (au (len0 o rfl) rfl (yM.trans ?_))) rfl) (aR (aZ (aq rfl (ao rfl)) (V7 q o.h2 o.w2)))));rw[decide_eq_false (by omega)]
theorem abG(o:Ok w h f)(q:nu w h s)(h1:w=1):JG [bH w h f,sm h s]= .ok .non:=by
 refine bA (aD (eY (aV (aq rfl (ao rfl)) (jB o q))) (dg (bV (aJ (au (len0 o rfl) rfl (yM.trans ?_))) (aR rfl))));rw[decide_eq_true (by omega)]
theorem Tv(ni:h<=20)(hc:∀y<h,0<=c y/\c y<=99):mX [row h c,.int (h:Int)]= .ok (.bl true):=by
 refine bA (aR (fH rfl (fH (au (aN (ao rfl) rfl) rfl (yM.trans ?_)) (aN (ao (bF (c:=λy=> .int (c y)) (h:=λ_=> .bl true) (l:=aee h) (dW rfl) (by rw[z2d];omega) λy hy=>?_)) qz))))
 ·rw[decide_eq_true (by simp)]
 ·obtain⟨a,b⟩:=hc y (z2e hy);exact bL rfl (aZ (ao rfl) (JX a b))
theorem Bl{u v:D}(q:∀y<h,s y<=w)(ni:h<=20)(w20:w<=20)(hu:eF u= .ok ((aee h).map λy=> .int ((s y:Nat):Int)))(hv:eF v= .ok ((aee h).map λy=> .int (c y))):
  pI [bH w h f,u,v]= .ok (bH (w+1) h (more s c f)):=by
 refine bA (aR (aN (ao (bF (c:=λy=> .tup [row w (f y),.int ((s y:Nat):Int),.int (c y)]) (h:=λy=>row (w+1) (more s c f y)) (l:=aee h) (abE (aq rfl (aq rfl (ao rfl))) rfl hu hv) (by rw[z2d];omega) λy hy=>?_)) rfl));have hs:=q y (z2e hy);refine bL rfl (au (au (Ml (n:=s y) rfl rfl (by simp;omega)) (bU (ao rfl)) (uD (by simp;omega))) (Oe (n:=s y) rfl rfl (by simp;omega)) ((uD (by simp;omega)).trans ?_));rw[row_more hs];rfl
theorem ac1(o:Ok w h f)(q:nu (w+1) h s)(hc:∀y<h,0<=c y/\c y<=99)(h1:w<20):jg [bH w h f,sm h s,row h c]= .ok (bH (w+1) h (more s c f)):=by
 refine bA (aD (bh (aV (ao rfl) (size_eq o)) rfl) (aD (aP (cO (aJ (aZ (aq rfl (aq (x:= .int ((w+1:Nat):Int)) (au rfl rfl rfl) (ao rfl))) (Dg q o.h2)))) rfl) (aD (aP (cO (aJ (aZ (aq rfl (ao rfl)) (Tv o.h2 hc)))) rfl)
  (aD (aP (aJ (au rfl rfl (yM.trans ?_))) rfl) (aR (aZ (aq rfl (aq rfl (ao rfl))) (Bl (λy hy=>by have:=q.lt y hy;omega) o.h2 o.w2 rfl rfl)))))))
 ·rw[decide_eq_false (by omega)]
def mean(w:Nat)(g:Nat->Int)(n:Nat):Int:=(g n+g (min (n+1) (w - 1))) / 2
theorem abH{g:Nat->Int}{n:Nat}(hn:n<w)(w20:w<=20):sI [row w g,.int (n:Int)]= .ok (.int (mean w g n)):=by
 refine bA (aD (bh (d:= .int ((min (n+1) (w - 1):Nat):Int)) (aN (aq (x:= .int ((n+1:Nat):Int)) (au rfl rfl rfl) (ao (x:= .int ((w - 1:Nat):Int)) (au (aN (ao rfl) rfl) rfl ?_))) ?_) rfl) (aR (au (au (x:= .int (g n)) (y:= .int (g (min (n+1) (w - 1)))) (au rfl rfl (lB (i:=n) ?_)) (au rfl rfl (lB (i:=min (n+1) (w - 1)) ?_)) rfl) rfl (nQ ⟨by omega,by omega⟩))))
 ·show R.ok (D.int ((((aee w).map λx=>D.int (g x)).length:Int) - 1))=_;rw[z1g,z2d,show (w:Int) - 1=((w - 1:Nat):Int) by omega]
 ·show R.ok (D.int (if ((w - 1:Nat):Int)<((n+1:Nat):Int) then _ else _))=_;congr 2;split <;> omega
 ·rw[z2b,aeJ hn];rfl
 ·rw[z2b,aeJ (by omega)];rfl
theorem aai(o:Ok w h f)(q:nu w h s):sJ [bH w h f,sm h s]= .ok (row h λy=>mean w (f y) (s y)):=by
 refine bA (aR (aN (ao (bF (c:=λy=> .tup [row w (f y),.int ((s y:Nat):Int)]) (h:=λy=> .int (mean w (f y) (s y))) (l:=aee h) (FZ (aq rfl (ao rfl)) rfl rfl) (by rw[z2d];have:=o.h2;omega) λy hy=>?_)) rfl));exact bL rfl (aZ (aq rfl (ao rfl)) (abH (q.lt y (z2e hy)) o.w2))
theorem Yy(ni:h<=20):sO [sm h s]= .ok (sm h λy=>s y+1):=by
 refine bA (aR (aN (ao (bF (c:=λy=> .int ((s y:Nat):Int)) (h:=λy=> .int ((s y+1:Nat):Int)) (l:=aee h) (dW rfl) (by rw[z2d];omega) λy hy=>?_)) rfl));exact bL rfl (au rfl rfl rfl)
theorem V8(o:Ok w h f)(q:nu w h s)(h1:w<20):wV [bH w h f,sm h s]= .ok (bH (w+1) h (more (λy=>s y+1) (λy=>mean w (f y) (s y)) f)):=by
 refine bA (aD (eY (aV (aq rfl (ao rfl)) (jB o q))) (aD (aP (aJ (au (len0 o rfl) rfl (yM.trans ?_))) rfl)
  (aR (aZ (aq rfl (aq (aZ (ao rfl) (Yy o.h2)) (ao (aZ (aq rfl (ao rfl)) (aai o q))))) (Bl (s:=λy=>s y+1) (c:=λy=>mean w (f y) (s y)) (λy hy=>q.lt y hy) o.h2 o.w2 rfl rfl)))))
 rw[decide_eq_false (by omega)]
end
theorem mY{i:Nat}(e:fa ρ= .ok ds)(h:ds.length<=1000000:=by exact agZ rfl):newL fa i ρ= .nx (ρ.set i (some (.lst ds))):=by
 unfold newL;rw[e];show (if _ then _ else _)=_;rw[if_pos h]
def pl(ps:List Nat):List D:=ps.map λp=> .int ((p:Nat):Int)
section
variable{ns:List Int}{a:Int}{w h:Nat}{t:Option Ent}
end
section
variable{w h:Nat}{f:Nat->Nat->Int}
end
section
variable{w h:Nat}{f:Nat->Nat->Int}{s:Nat->Nat}{c:Nat->Int}
end
def ab(i:Int):Int:=if i<0 then -i else i
def gap(n:Nat)(g:Nat->Int)(x:Nat):Int:=ab (g (x - 1) - g (min (x+1) (n - 1)))
def Vb(w h:Nat)(f:Nat->Nat->Int)(y x:Nat):Int:=gap w (f y) x+gap h (λy=>f y x) y
section
variable{n w h:Nat}{g:Nat->Int}{f:Nat->Nat->Int}{s:Nat->Nat}{ρ:aB}
theorem uE:cT [row n g]= .ok (.int (n:Int)):=by simp[row,cT]
theorem uF:cT [bH w h f]= .ok (.int (h:Int)):=by simp[bH,cT]
theorem aaj{n:Nat}(h1:1<=n):gR (.int (n:Int)) (.int 1)= .ok (.int ((n - 1:Nat):Int)):=by
 show R.ok (D.int ((n:Int) - 1))=_;rw[show (n:Int) - 1=((n - 1:Nat):Int) by omega]
theorem V9:maxD [.int ((x:Int) - 1),.int 0]= .ok (.int ((x - 1:Nat):Int)):=by
 show R.ok (D.int (if (0:Int) > (x:Int) - 1 then 0 else (x:Int) - 1))=_;congr 2;split <;> omega
theorem min1{n:Nat}:minD [.int ((x+1:Nat):Int),.int (n:Int)]= .ok (.int ((min (x+1) n:Nat):Int)):=by
 show R.ok (D.int (if (n:Int)<((x+1:Nat):Int) then (n:Int) else ((x+1:Nat):Int)))=_;congr 2;split <;> omega
theorem lZ(hx:x<n):cH (row n g) (.int (x:Int))= .ok (.int (g x)):=by
 refine lB (i:=x) ?_;rw[z2b,aeJ hx];rfl
theorem J6(hy:y<h):cH (bH w h f) (.int (y:Int))= .ok (row w (f y)):=by
 refine lB (i:=y) ?_;rw[z2b,aeJ hy];rfl
theorem iY{α:Type}{p:Nat->D}(hx:x<n):cH (.lst ((aee n).map p)) (.int (x:Int))= .ok (p x):=by
 refine Jf (i:=x) ?_;rw[z2b,aeJ hx];rfl
theorem Mq(h1:1<=n)(ni:n<=20):Cz [row n g]= .ok (.lst ((aee n).map λx=> .int (gap n g x))):=by
 refine bA (aD (bh (au (aN (ao rfl) uE) rfl (aaj h1)) rfl) (aR (bF (c:=λ(x:Nat)=>D.int (x:Int)) (h:=λx=> .int (gap n g x)) (l:=aee n) (lM (ao (aN (ao rfl) uE)) (by omega)) (by rw[z2d];omega) λx hx=>?_)));have hx:=z2e hx;exact bL rfl (aN (ao (au (x:= .int (g (x - 1))) (y:= .int (g (min (x+1) (n - 1)))) (au rfl (aN (aq (au rfl rfl rfl) (ao rfl)) V9) (lZ (by omega))) (au rfl (aN (aq (x:= .int ((x+1:Nat):Int)) (au rfl rfl rfl) (ao rfl)) min1) (lZ (by omega))) rfl)) rfl)
theorem Yz(o:Ok w h f):HJ [bH w h f]= .ok (bH w h (Vb w h f)):=by
 have ni:=o.h2;have w20:=o.w2;refine iu (aD (bh (aV (ao rfl) (size_eq o)) rfl)
  (aD (bh (bF (c:=λy=>row w (f y)) (h:=λy=> .lst ((aee w).map λx=> .int (gap w (f y) x))) (l:=aee h) (dW rfl) (by rw[z2d];omega) λy hy=>bL rfl (aZ (ao rfl) (Mq o.w1 o.w2))) rfl)
  (aD (bh (bF (c:=λx=>row h λy=>f y x) (h:=λx=> .lst ((aee h).map λy=> .int (gap h (λy=>f y x) y))) (l:=aee w) (dW (aZ (ao rfl) (Yv o))) (by rw[z2d];omega) λy hy=>bL rfl (aZ (ao rfl) (Mq o.h1 o.h2))) rfl)
  (aR (aN (ao (bF (c:=λ(y:Nat)=>D.int (y:Int)) (h:=λy=>row w (Vb w h f y)) (l:=aee h) (lM (ao rfl) (by omega)) (by rw[z2d];omega) λy hy=>?_)) rfl)))))
 have hy:=z2e hy;refine bL rfl (aN (ao (bF (c:=λ(x:Nat)=>D.int (x:Int)) (h:=λx=> .int (Vb w h f y x)) (l:=aee w) (lM (ao rfl) (by omega)) (by rw[z2d];omega) λx hx=>?_)) rfl);have hx:=z2e hx;exact bL rfl (au (x:= .int (gap w (f y) x)) (y:= .int (gap h (λy=>f y x) y)) (au (au rfl rfl (iY (α:=D) hy)) rfl (iY (α:=D) hx)) (au (au rfl rfl (iY (α:=D) hx)) rfl (iY (α:=D) hy)) rfl)
def dX(T:Nat->Int):D:= .tup [.int (T 0),.int (T 1),.int (T 2)]
def tab(w h:Nat)(T:Nat->Nat->Nat->Int):D:= .lst ((aee h).map λy=> .lst ((aee w).map λx=>dX (T y x)))
def yN(w:Nat)(f:Nat->Nat->Int)(y x i:Nat):Int:=gap w (f y) x+(if i=0 then ab (f (y - 1) x - f y (x - 1)) else if i=1 then 0 else ab (f (y - 1) x - f y (min (x+1) (w - 1))))
def aaQ:aB->So:=(aQ (bD (bin (gv 7) (aH BZ (ak (bin (bin (gv 3) (gv 6) cH) (bin (gv 2) (aH maxD (ak (bin (gv 6) (ci 1) gR) (ak (ci 0) nA))) cH) gR) nA)) eX) (aL 8)) (aQ (bD (bin (gv 7) (aH BZ (ak (bin (bin (gv 3) (gv 6) cH) (bin (gv 2) (aH minD (ak (bin (gv 6) (ci 1) eX) (ak (gv 4) nA))) cH) gR) nA)) eX) (aL 9)) (xr 5 (cY (ak (gv 8) (ak (gv 7) (ak (gv 9) nA)))))))
theorem Rv{i:Nat}{d:D}(e:u ρ= .ok d)(h:ρ[i]?=some (some (.lst ds)))(hl:ds.length<1000000):xr i u ρ= .nx (ρ.set i (some (.lst (ds++[d])))):=by
 unfold xr;rw[e];simp only[Ja,lA,h];rw[if_pos hl]
theorem aak(h1:1<=w)(hx:x<w){e0 e8:Option Ent}(hl:acc.length<1000000):
  ∃z8 z9,aaQ [e0,e1,vA (row w (f y)),vA (row w (f (y - 1))),vA (.int ((w - 1:Nat):Int)),some (.lst acc),vA (.int (x:Int)),vA (.int (gap w (f y) x)),e8,e9] =
   .nx [e0,e1,vA (row w (f y)),vA (row w (f (y - 1))),vA (.int ((w - 1:Nat):Int)),some (.lst (acc++[dX (yN w f y x)])),vA (.int (x:Int)),vA (.int (gap w (f y) x)),z8,z9]:=by
 refine⟨_,_,aD (bh (d:= .int (yN w f y x 0)) (au (x:= .int (gap w (f y) x)) (y:= .int (ab (f (y - 1) x - f y (x - 1)))) rfl (aN (ao (au (x:= .int (f (y - 1) x)) (y:= .int (f y (x - 1))) (au rfl rfl (lZ hx)) (au rfl (aN (aq (au rfl rfl rfl) (ao rfl)) V9) (lZ (by omega))) rfl)) rfl) rfl) rfl)
  (aD (bh (d:= .int (yN w f y x 2)) (au (x:= .int (gap w (f y) x)) (y:= .int (ab (f (y - 1) x - f y (min (x+1) (w - 1))))) rfl (aN (ao (au (x:= .int (f (y - 1) x)) (y:= .int (f y (min (x+1) (w - 1)))) (au rfl rfl (lZ hx)) (au rfl (aN (aq (x:= .int ((x+1:Nat):Int)) (au rfl rfl rfl) (ao rfl)) min1) (lZ (by omega))) rfl)) rfl) rfl) rfl)
  (Rv (d:=dX (yN w f y x)) ((bU (aq rfl (aq rfl (ao rfl)))).trans ?_) rfl hl))⟩
 have:yN w f y x 1=gap w (f y) x:=by simp[yN]
 rw[dX,this]
theorem join_loop(h1:1<=w){y:Nat}{e0 e1:Option Ent}:∀{xs:List Nat} {acc:List D} {e6 e7 e8 e9:Option Ent},(∀x∈xs,x<w)->acc.length+xs.length<=1000->
  ∃z6 z7 z8 z9,forL (dN (dO 2 (bw (aL 6) (bw (aL 7) nilG)))) aaQ (xs.map λ(x:Nat)=>D.tup [.int (x:Int),.int (gap w (f y) x)]) [e0,e1,vA (row w (f y)),vA (row w (f (y - 1))),vA (.int ((w - 1:Nat):Int)),some (.lst acc),e6,e7,e8,e9] =
   .nx [e0,e1,vA (row w (f y)),vA (row w (f (y - 1))),vA (.int ((w - 1:Nat):Int)),some (.lst (acc++xs.map λx=>dX (yN w f y x))),z6,z7,z8,z9]
 |[],acc,e6,e7,e8,e9,_,_=>⟨e6,e7,e8,e9,by rw[agY,agY,afg];rfl⟩
 | x::xs,acc,e6,e7,e8,e9,hx,hl=>by
  rw[aeC] at hl;obtain⟨z8,z9,e⟩:=aak (f:=f) (y:=y) h1 (hx x (by simp)) (e0:=e0) (e1:=e1) (e8:=e8) (e9:=e9) (acc:=acc) (by omega);obtain⟨y6,y7,y8,y9,e'⟩:=join_loop h1 (y:=y) (e0:=e0) (e1:=e1) (xs:=xs) (acc:=acc++[dX (yN w f y x)]) (e6:=vA (.int (x:Int))) (e7:=vA (.int (gap w (f y) x))) (e8:=z8) (e9:=z9) (λz hz=>hx z (by simp[hz])) (by simp;omega);refine⟨y6,y7,y8,y9,?_⟩;rw[afx] at e';rw[z1h,z1h];exact gK rfl e e'
theorem Og{p:Nat->D}:∀{n m:Nat},pA m ((agC m n).map p)=(agC m n).map λ(x:Nat)=>D.tup [.int (x:Int),p x]
 |0,_=>rfl
 |n+1,m=>by rw[ahc,z1h,z1h,pA,Og]
theorem yO{x:D}{n:Nat}{p:Nat->D}(e:fa ρ= .ok [x])(h:eF x= .ok ((aee n).map p)):(λρ=>(fa ρ).bind wO) ρ= .ok ((aee n).map λ(y:Nat)=>D.tup [.int (y:Int),p y]):=by
 show (fa ρ).bind wO=_;rw[e,R.bB,wO,h,R.bB,agB,Og]
theorem Pb(o:Ok w h f)(hy:y<h):vo [bH w h f,.int (y:Int)]= .ok (.lst ((aee w).map λx=>dX (yN w f y x))):=by
 have w20:=o.w2;obtain⟨z6,z7,z8,z9,e⟩:=join_loop (f:=f) (y:=y) o.w1 (e0:=vA (bH w h f)) (e1:=vA (.int (y:Int))) (xs:=aee w) (acc:=[]) (e6:=none) (e7:=none) (e8:=none) (e9:=none) (λx hx=>z2e hx) (by rw[z2d,afQ];omega);exact bA (aD (bh (au rfl rfl (J6 hy)) rfl) (aD (bh (au rfl (aN (aq (au rfl rfl rfl) (ao rfl)) V9) (J6 (by omega))) rfl) (aD (bh (au (aN (ao rfl) uE) rfl (aaj o.w1)) rfl) (aD (mY rfl)
  (aD (lN (yO (ao (aZ (ao rfl) (Mq o.w1 o.w2))) rfl) e) (aR (d:= .lst ((aee w).map λx=>dX (yN w f y x))) rfl))))))
theorem Vc{a b:Str}:fM (.str a) (.str b)= .ok (.bl (a ==b)):=by
 rw[fM,if_pos (by simp[dep])];show R.ok (D.bl (cW (.str a) (.str b)))=_;simp[uR,uT,uU,uV,uW,jX,iV]
def wo3(w h:Nat)(f:Nat->Nat->Int)(y x i:Nat):Int:=Vb w h f y x
theorem Vd(o:Ok w h f):uz [bH w h f,.str "worth"]= .ok (tab w h (wo3 w h f)):=by
 have ni:=o.h2;have w20:=o.w2;exact iu (dg (bV (aJ (b:=true) (au rfl rfl Vc)) (aR (bF (c:=λy=>row w (Vb w h f y)) (h:=λy=> .lst ((aee w).map λx=>dX (wo3 w h f y x))) (l:=aee h) (dW (aZ (ao rfl) (Yz o))) (by rw[z2d];omega) λy hy=>
  bL rfl (bF (c:=λx=> .int (Vb w h f y x)) (h:=λx=>dX (wo3 w h f y x)) (l:=aee w) (dW rfl) (by rw[z2d];omega) λx hx=>bL rfl (bU (aq rfl (aq rfl (ao rfl)))))))))
theorem Ve(o:Ok w h f):uz [bH w h f,.str "joins"]= .ok (tab w h (yN w f)):=by
 have ni:=o.h2;exact iu (aD (aP (aJ (b:=false) (au rfl rfl Vc)) rfl) (aR (bF (c:=λ(y:Nat)=>D.int (y:Int)) (h:=λy=> .lst ((aee w).map λx=>dX (yN w f y x))) (l:=aee h) (lM (ao (aN (ao rfl) uF)) (by omega)) (by rw[z2d];omega) λy hy=>
  bL rfl (aZ (aq rfl (ao rfl)) (Pb o (z2e hy))))))
def fare(T:Nat->Nat->Nat->Int)(s:Nat->Nat)(y:Nat):Int:=T y (s y) (s (y - 1)+1 - s y)
def cost(h:Nat)(T:Nat->Nat->Nat->Int)(s:Nat->Nat):Int:=T 0 (s 0) 1+((aee (h - 1)).map λy=>fare T s (y+1)).sum
theorem mZ{T:Nat->Int}{p:Nat->D}{a b:Nat}(hb:b<w)(h1:b<=a+1)(h2:a<=b+1)(hp:p b=dX T):gM [.lst ((aee w).map p),.int (a:Int),.int (b:Int)]= .ok (.int (T (a+1 - b))):=by
 refine bA (aR (au (x:=dX T) (y:= .int ((a+1 - b:Nat):Int)) (au rfl rfl ((iY (α:=D) hb).trans (congrArg R.ok hp))) (au (au rfl rfl rfl) rfl ?_) (lB (i:=a+1 - b) ?_)))
 ·show R.ok (D.int ((a:Int) - (b:Int)+1))=_;rw[show (a:Int) - (b:Int)+1=((a+1 - b:Nat):Int) by omega]
 ·have:a+1 - b=0\/a+1 - b=1\/a+1 - b=2:=by omega
  rcases this with e |e |e <;> rw[e] <;> rfl
def adq:aB->So:=(LC 2 (aH (aY gM 3) (ak (bin (gv 0) (gv 3) cH) (ak (bin (gv 1) (bin (gv 3) (ci 1) gR) cH) (ak (bin (gv 1) (gv 3) cH) nA)))))
theorem acJ{i:Nat}{a b:Int}(h:ρ[i]?=some (some (.val (.int a))))(e:u ρ= .ok (.int b)):LC i u ρ= .nx (ρ.set i (some (.val (.int (a+b))))):=by
 unfold LC;simp only[h];rw[e];rfl
theorem Oh{T:Nat->Nat->Nat->Int}(q:nu w h s):∀{ys:List Nat} {acc:Int} {e3:Option Ent},(∀y∈ys,y+1<h)->
  ∃z3,forL (aL 3) adq (ys.map λ(y:Nat)=>D.int ((y+1:Nat):Int)) [vA (tab w h T),vA (sm h s),vA (.int acc),e3]= .nx [vA (tab w h T),vA (sm h s),vA (.int (acc+(ys.map λy=>fare T s (y+1)).sum)),z3]
 |[],acc,e3,_=>⟨e3,by simp[forL]⟩
 | y::ys,acc,e3,hy=>by
  obtain⟨z3,e⟩:=Oh (T:=T) q (ys:=ys) (acc:=acc+fare T s (y+1)) (e3:=vA (.int ((y+1:Nat):Int))) λz hz=>hy z (by simp[hz]);have h1:=hy y (by simp);obtain⟨k1,k2⟩:=q.st y h1;refine⟨z3,?_⟩;rw[z1h,z1h,aiw,<-Int.add_assoc];refine gK rfl (acJ rfl (aZ (aq (au rfl rfl (iY (α:=D) h1)) (aq (au rfl (au (x:= .int ((y+1:Nat):Int)) rfl rfl (aaj (by omega))) (lZ (x:=y+1 - 1) (by omega))) (ao (au rfl rfl (lZ h1))))) (mZ (T:=T (y+1) (s (y+1))) (a:=s y) (q.lt _ h1) k1 k2 rfl))) e
theorem Gy{T:Nat->Nat->Nat->Int}(h1:1<=h)(ni:h<=20)(q:nu w h s):ud [tab w h T,sm h s]= .ok (.int (cost h T s)):=by
 obtain⟨z3,e⟩:=Oh (T:=T) q (ys:=aee (h - 1)) (acc:=T 0 (s 0) 1) (e3:=none) λy hy=>by have:=z2e hy;omega
 have e0:gM [.lst ((aee w).map λx=>dX (T 0 x)),.int ((s 0:Nat):Int),.int ((s 0:Nat):Int)]= .ok (.int (T 0 (s 0) 1)):=by
  have:=mZ (T:=T 0 (s 0)) (p:=λx=>dX (T 0 x)) (a:=s 0) (q.lt 0 h1) (by omega) (by omega) rfl
  rwa [show s 0+1 - s 0=1 by omega] at this
 exact bA (aD (bh (aZ (aq (au rfl rfl (iY (α:=D) (x:=0) h1)) (aq (au rfl rfl (lZ (x:=0) h1)) (ao (au rfl rfl (lZ (x:=0) h1))))) e0) rfl) (aD (lN (Va (aq rfl (ao (aN (ao rfl) uE))) (by omega)) e) (aR (d:= .int (cost h T s)) rfl)))
theorem m7{m:Str}(hm:m= "worth"\/m= "joins"):j7 [.str m]= .ok .non:=by
 rcases hm with rfl |rfl
 ·exact Qj (aP (aJ (b:=false) (au rfl rfl (by simp[JB,cW,dep]))) rfl)
 ·exact Qj (aP (aJ (b:=false) (au rfl rfl (by simp[JB,cW,dep]))) rfl)
def tbl(m:Str)(w h:Nat)(f:Nat->Nat->Int):Nat->Nat->Nat->Int:=if m= "worth" then wo3 w h f else yN w f
theorem Wa{m:Str}(hm:m= "worth"\/m= "joins")(o:Ok w h f)(q:nu w h s):wU [bH w h f,sm h s,.str m]= .ok (.int (cost h (tbl m w h f) s)):=by
 refine bA (aD (eY (aV (ao rfl) (qJ o))) (aD (eY (aV (ao rfl) (m7 hm))) (aD (eY (aV (aq rfl (ao rfl)) (jB o q))) (aR (aZ (aq (x:=tab w h (tbl m w h f)) (aZ (aq rfl (ao rfl)) ?_) (ao rfl)) (Gy o.h1 o.h2 q))))));rcases hm with rfl |rfl
 ·exact Vd o
 ·exact Ve o
end
section
variable{n w h:Nat}{g:Nat->Int}{f:Nat->Nat->Int}{s:Nat->Nat}{c:Int}{m:Str}{ρ:aB}
theorem Ga{c:aB->R Bool}{f g:aB->R D}(e:c ρ= .ok true)(h:f ρ=r):Ba c f g ρ=r:=by rw[Ba,e,R.bB,if_pos rfl,h]
theorem yP{c:aB->R Bool}{f g:aB->R D}(e:c ρ= .ok false)(h:g ρ=r):Ba c f g ρ=r:=by rw[Ba,e,R.bB,if_neg (by decide),h]
theorem Wb:jF (.int i) (.int j)= .ok (.bl (!decide (i=j))):=by
 rw[jF,if_pos (by simp[dep])];show R.ok (D.bl (!cW (.int i) (.int j)))=_;by_cases h:i=j <;> simp[uR,uT,uU,uV,uW,jX,iV,h]
end
abbrev Wy:=Int×Int×List Int
def fl(t:Wy):List Int:=t.1::t.2.1::t.2.2
def un(l:List Int):Wy:=(l.getD 0 0,l.getD 1 0,l.drop 2)
theorem Wc(t:Wy):un (fl t)=t:=rfl
theorem YB(h:fl a=fl b):a=b:=by have:=congrArg un h;simpa[Wc] using this
def cX(t:Wy):D:= .tup [.int t.1,.int t.2.1,.tup (t.2.2.map .int)]
theorem HN(t:Wy):cX t=jq (fl t):=rfl
def bC(l:List Wy):D:= .lst (l.map cX)
section
variable{n w h:Nat}{g:Nat->Int}{f:Nat->Nat->Int}{ρ:aB}
theorem Gb{i:Nat}{es:List D}(h:ρ[i]?=some (some (.lst ds)))(e:u ρ= .ok (.lst es))(hl:ds.length+es.length<=1000000):Hu i u ρ= .nx (ρ.set i (some (.lst (ds++es)))):=by
 unfold Hu;simp only[h,e,Ja,lA];rw[if_pos hl]
theorem Vf{i:Nat}{es:List D}(h:ρ[i]?=some (some (.lst ds)))(h2:ρ[k]?=some (some (.lst es)))(hl:ds.length<1000000):Q9 i k ρ= .nx ((ρ.set i (some (.lst (ds++[.lst es])))).set k (some (.val (.lst es)))):=by
 unfold Q9;simp only[h,h2];rw[if_pos hl]
theorem zJ{i a:Nat}{G:List D->R D}{n:Nat}{d:D}(h:ρ[i]?=some (some (.obj (.fn a))))(e:fa ρ= .ok ds)(e2:G ds= .ok d)(hl:ds.length=n:=by rfl):FN i a G n fa ρ= .ok d:=by
 unfold FN;simp only[h,e,if_true,R.bB,aY,hl,e2];rfl
theorem YC{i:Nat}{k:Int}{d:D}(h:ρ[i]?=some (some (.lst ds)))(e:u ρ= .ok (.int k))(e2:cH (.lst ds) (.int k)= .ok d):Yg i u ρ= .ok d:=by
 unfold Yg;simp only[h,e,R.bB,e2]
theorem kI(e:u ρ= .ok (.lst ds)):Hy u ρ= .ok (!ds.isEmpty):=by unfold Hy;rw[e];rfl
def nr(w x:Nat):List Nat:=agC (x - 1) (min (x+2) w - (x - 1))
theorem yQ{p:Nat}(hx:x<w):p∈nr w x↔p<w/\p<=x+1/\x<=p+1:=by
 unfold nr;rw[List.mem_range'_1,Nat.add_sub_cancel' (Nat.le_min.mpr ⟨z0b (Nat.sub_le x 1) (ag9 x 2),z0b (Nat.sub_le x 1) (z0e hx)⟩),Nat.lt_min];exact⟨λh=>⟨h.2.2,Nat.le_of_lt_succ h.2.1,Nat.le_add_of_sub_le h.1⟩,λh=>⟨Nat.sub_le_of_le_add h.2.2,Nat.lt_succ_of_le h.2.1,h.1⟩⟩
theorem Ka:(nr w x).length<=3:=by unfold nr;rw[List.length_range'];omega
theorem Vg(hx:x<w)(hw:w<=20):Rq [.int (x:Int),.int (w:Int)]= .ok (.lst ((nr w x).map λ(p:Nat)=>D.int (p:Int))):=by
 have e2:minD [.int ((x+2:Nat):Int),.int (w:Int)]= .ok (.int ((min (x+2) w:Nat):Int)):=by
  show R.ok (D.int (if (w:Int)<((x+2:Nat):Int) then (w:Int) else ((x+2:Nat):Int)))=_;congr 2;by_cases hz:w<x+2
  ·rw[if_pos (Int.ofNat_lt.mpr hz),Nat.min_eq_right (z0e hz)]
  ·rw[if_neg (λq=>hz (Int.ofNat_lt.mp q)),ahX (Nat.le_of_not_lt hz)]
 refine bA (aR (aN (aq (x:= .int ((x - 1:Nat):Int)) (aN (aq (au rfl rfl rfl) (ao rfl)) V9) (ao (x:= .int ((min (x+2) w:Nat):Int)) (aN (aq (x:= .int ((x+2:Nat):Int)) (au rfl rfl rfl) (ao rfl)) e2))) ?_));show (if _ then _ else _)=_;have b1:x - 1<=1000:=z0b (Nat.sub_le x 1) (z0b (z0e hx) (z0b hw (by decide)));have b2:min (x+2) w<=1000:=z0b (Nat.min_le_right _ _) (z0b hw (by decide));rw[if_pos ⟨Int.le_trans (by decide) (agQ _),aiN.mpr b1,Int.le_trans (by decide) (agQ _),aiN.mpr b2⟩];congr 2;unfold upto nr;rw[Int.toNat_sub,aiZ,afc];refine afG λi _=>?_;simp
def dY(c:Int)(t:Wy):Wy:=(t.1,t.2.1+c,t.2.2)
def cands(w:Nat)(C:Nat->List Wy)(T:Nat->Nat->Int)(x:Nat):List Wy:=(nr w x).flatMap λp=>(C p).map (dY (T p (x+1 - p)))
variable{C:Nat->List Wy}{T:Nat->Nat->Int}
theorem Rw{p:Nat}(hx:x<w)(hp:p∈nr w x)(hC:(C p).length<=1)(hl:acc.length<=1000):
  Yt [vA (.lst ((aee w).map λx=>bC (C x))),vA (.lst ((aee w).map λx=>dX (T x))),vA (.int (x:Int)),some (.lst acc),vA (.int (p:Int)),e5] =
   .nx [vA (.lst ((aee w).map λx=>bC (C x))),vA (.lst ((aee w).map λx=>dX (T x))),vA (.int (x:Int)),some (.lst (acc++((C p).map (dY (T p (x+1 - p)))).map cX)),vA (.int (p:Int)),vA (.int (T p (x+1 - p)))]:=by
 obtain⟨h1,h2,h3⟩:=(yQ hx).mp hp;refine aD (bh (aZ (aq rfl (aq rfl (ao rfl))) (mZ (T:=T p) (p:=λx=>dX (T x)) h1 (by omega) (by omega) rfl)) rfl) ?_;refine Gb (ds:=acc) rfl (bF (c:=cX) (h:=λt=>cX (dY (T p (x+1 - p)) t)) (l:=C p) (iQ (au rfl rfl (iY (α:=D) h1))) (by omega) λt ht=>?_) (by simp;omega) |>.trans ?_
 ·exact bL rfl (bU (aq rfl (aq (x:= .int (t.2.1+T p (x+1 - p))) (au rfl rfl rfl) (ao rfl))))
 ·rw[afc];rfl
theorem yR{x:Nat}(hx:x<w)(hC:∀p<w,(C p).length<=1):∀{ps:List Nat} {acc:List D} {e4 e5:Option Ent},(∀p∈ps,p∈nr w x)->acc.length+ps.length<=1000->
  ∃z4 z5,forL (aL 4) Yt (ps.map λ(p:Nat)=>D.int (p:Int)) [vA (.lst ((aee w).map λx=>bC (C x))),vA (.lst ((aee w).map λx=>dX (T x))),vA (.int (x:Int)),some (.lst acc),e4,e5] =
   .nx [vA (.lst ((aee w).map λx=>bC (C x))),vA (.lst ((aee w).map λx=>dX (T x))),vA (.int (x:Int)),some (.lst (acc++(ps.flatMap λp=>(C p).map (dY (T p (x+1 - p)))).map cX)),z4,z5]
 |[],acc,e4,e5,_,_=>⟨e4,e5,by simp[forL]⟩
 | p::ps,acc,e4,e5,hp,hl=>by
  rw[aeC] at hl;have hpn:=hp p (by simp);have Rx:=((yQ hx).mp hpn).1;have hc:=hC p Rx;obtain⟨z4,z5,e⟩:=yR hx hC (ps:=ps) (acc:=acc++((C p).map (dY (T p (x+1 - p)))).map cX) (e4:=vA (.int (p:Int))) (e5:=vA (.int (T p (x+1 - p)))) (λq hq=>hp q (by simp[hq])) (by simp;omega);refine⟨z4,z5,gK rfl (Rw hx hpn hc (by omega)) (e.trans ?_)⟩;rw[agV,af4,afx]
theorem Dh(hx:x<w)(hw:w<=20)(hC:∀p<w,(C p).length<=1):vp [.lst ((aee w).map λx=>bC (C x)),.lst ((aee w).map λx=>dX (T x)),.int (x:Int)]= .ok (.lst ((cands w C T x).map cX)):=by
 obtain⟨z4,z5,e⟩:=yR (T:=T) hx hC (ps:=nr w x) (acc:=[]) (e4:=none) (e5:=none) (λp hp=>hp) (by have:=Ka (w:=w) (x:=x);simp;omega);have hlen:cT [.lst ((aee w).map λx=>bC (C x))]= .ok (.int (w:Int)):=by simp[cT]
 refine bA (aD (mY rfl) (aD (lN (iQ (aZ (aq rfl (ao (aN (ao rfl) hlen))) (Vg hx hw))) e) (aR rfl)))
end
section
variable{n w h:Nat}{g:Nat->Int}{f:Nat->Nat->Int}{ρ:aB}
theorem jr:fM (.int i) (.int j)= .ok (.bl (decide (i=j))):=by
 rw[fM,if_pos (by simp[dep])];show R.ok (D.bl (cW (.int i) (.int j)))=_;by_cases h:i=j <;> simp[uR,uT,uU,uV,uW,jX,iV,h]
def dI(cs:List Wy):List Wy:=((lX (cs.map fl)).take 1).map un
def pre(x:Nat)(t:Wy):Wy:=(t.1,t.2.1,(x:Int)::t.2.2)
theorem zK:∀cs:List Wy,qH (cs.map cX)=some (cs.map fl)
 |[]=>rfl
 | t::cs=>by
  rw[z1h,qH,zK cs,HN,show yG (jq (fl t))=some (fl t) from Rf];rfl
theorem Ry:∀l∈lX (cs.map fl),fl (un l)=l:=λl hl=>by
 obtain⟨t,_,rfl⟩:=afu.mp ((jH _).mem_iff.mp hl);rw[Wc]
theorem zL:∀t∈dI cs,t∈cs:=λt ht=>by
 obtain⟨l,hl,rfl⟩:=afu.mp ht;have hl:=ah4 hl;obtain⟨t,h1,rfl⟩:=afu.mp ((jH _).mem_iff.mp hl);rw[Wc];exact h1
theorem uh:(dI cs).length<=1:=by unfold dI;simp;omega
theorem Bm(hl:cs.length<64)(hn:(cs.map fl).Nodup)(hp:∀t∈cs,t.2.2.length<=100):fj 1 [.int (x:Int),.lst (cs.map cX)]= .ok (bC ((dI cs).map (pre x))):=by
 have e1:pG [.lst (cs.map cX)]= .ok (.lst ((lX (cs.map fl)).map jq)):=by
  rw[pG,zK];show (if _ then _ else _)=_;rw[if_pos ⟨by simpa using hl,hn⟩]
 have e2:lR ((lX (cs.map fl)).map jq) none (some 1)=(dI cs).map cX:=by
  have e3:∀{n d:Nat},HT.sIx n d (some 1)=min 1 n:=λ{n d}=>by
   show (if (1:Int)<0 then ((1:Int)+(n:Int)).toNat else min (1:Int).toNat n)=min 1 n;rw[if_neg (by decide)];rfl
  rw[lR,e3,JZ,aiT,ajc,<-List.map_take];have e4:∀l:List (List Int),l.take (min 1 (l.map jq).length)=l.take 1:=λl=>by cases l <;> simp
  rw[e4];unfold dI;rw[afc];refine afG λl hl=>?_;show jq l=cX (un l);rw[HN,Ry l (ah4 hl)]
 have e5:bC ((dI cs).map (pre x))= .lst ((dI cs).map λt=>cX (pre x t)):=by unfold bC;rw[afc];rfl
 rw[e5];refine iu (aR (bF (c:=cX) (h:=λt=>cX (pre x t)) (l:=dI cs) (iQ (ds:=(dI cs).map cX) ?_) (by have:=uh (cs:=cs);omega) λt ht=>?_))
 ·show qG _ _ _ _=_;unfold qG;rw[aN (ao rfl) e1];show R.ok (D.lst (lR _ none (some 1)))=_;rw[e2]
 ·refine bL rfl (bU (aq rfl (aq rfl (ao (x:= .tup ((((x:Int)::t.2.2)).map .int)) (au (bU (ao rfl)) rfl ?_)))));have:=hp t (zL t ht);exact uD (xs:=[.int (x:Int)]) (ys:=t.2.2.map .int) (by simp;omega)
end
def dM(m:Int):Int:=if m=2 then 1 else 0
def sb(c:Int)(t:Wy):Wy:=(t.1 - c,t.2.1,t.2.2)
def fX(x:Nat)(m:Int)(cs:List Wy):List Wy:=if m=1 then[] else ((dI cs).map (pre x)).map (sb (dM m))
section
variable{w h a y:Nat}{T:Nat->Nat->Nat->Int}{M:Nat->Nat->Int}{ρ:aB}
theorem HS{l:List Wy}(hl:l.length<=1){e0 e2 e3 e4 e7:Option Ent}(ha:acc.length<=1000):
  V4 [e0,e1,e2,e3,e4,e5,some (.lst acc),e7,vA (.int m),vA (bC l),e10]= .nx [e0,e1,e2,e3,e4,e5,some (.lst (acc++[bC (l.map (sb (dM m)))])),e7,vA (.int m),vA (bC l),vA (.int (dM m))]:=by
 have e:(Ba (cC (bin (gv 8) (ci 2) fM)) (ci 1) (ci 0)) [e0,e1,e2,e3,e4,e5,some (.lst acc),e7,vA (.int m),vA (bC l),e10]= .ok (.int (dM m)):=by
  unfold dM;by_cases hm:m=2
  ·rw[if_pos hm];exact Ga (aJ (au rfl rfl (by rw[jr,decide_eq_true hm]))) rfl
  ·rw[if_neg hm];exact yP (aJ (au rfl rfl (by rw[jr,decide_eq_false hm]))) rfl
 refine aD (bh e rfl) ?_;have e2:bC (l.map (sb (dM m)))= .lst (l.map λt=>cX (sb (dM m) t)):=by unfold bC;rw[afc];rfl
 rw[e2];refine Rv (ds:=acc) (bF (c:=cX) (h:=λt=>cX (sb (dM m) t)) (l:=l) (iQ rfl) (by omega) λt ht=>?_) rfl (by omega);exact bL rfl (bU (aq (x:= .int (t.1 - dM m)) (au rfl rfl rfl) (aq rfl (ao rfl))))
inductive Di (w:Nat) (T:Nat->Nat->Nat->Int) (y:Nat):List D->(Nat->List Wy)->Prop
 |last:Di w T y [] λ_=>[(0,0,[])]
 |more (rs:List D) (C:Nat->List Wy):(∀p<w,(C p).length<=1)->Di w T y (rs++[.lst ((aee w).map λx=>bC (C x))]) (cands w C (T (y+1)))
theorem HW{rows:List D}{cs:Nat->List Wy}(B:Di w T y rows cs)(hy:rows≠[]->y+1<h)(hx:x<w)(hw:w<=20)(hl:(cs x).length<64)(hn:((cs x).map fl).Nodup)(hp:∀t∈cs x,t.2.2.length<=100){e6:Option Ent}:
  V3 a (fj 1) [vA (tab w h T),e1,vA (.tup []),some (.obj (.fn a)),some (.lst rows),vA (.int (y:Int)),e6,vA (.int (x:Int)),vA (.int m),e9,e10] =
   .nx [vA (tab w h T),e1,vA (.tup []),some (.obj (.fn a)),some (.lst rows),vA (.int (y:Int)),e6,vA (.int (x:Int)),vA (.int m),vA (bC (if m=1 then[] else (dI (cs x)).map (pre x))),e10]:=by
 have th:∀(u:Option Ent),Qi (vA (.int m))=vA (.int m):=λ_=>rfl;by_cases hm:m=1
 ·rw[if_pos hm];exact bV (aJ (au rfl rfl (by rw[jr,decide_eq_true hm]))) (bh (d9 rfl) rfl)
 ·rw[if_neg hm];refine aP (aJ (au rfl rfl (by rw[jr,decide_eq_false hm]))) ?_;cases B with
  | last=>
   refine bV (cO (kI (ds:=[]) rfl)) (bh (zJ rfl (aq rfl (ao (d9 (ao (bU (aq rfl (aq rfl (ao rfl)))))))) (Bm (cs:=[(0,0,[])]) hl hn hp)) rfl)
  | more rs C hC=>
   have hy:=hy (by simp);refine aP (cO (kI (ds:=rs++[.lst ((aee w).map λx=>bC (C x))]) rfl) |>.trans (by simp)) (bh (zJ rfl (aq rfl (ao (aZ (aq (x:= .lst ((aee w).map λx=>bC (C x))) (YC rfl (k:= -1) rfl ?_) (aq (au rfl (au (x:= .int (y:Int)) (y:= .int 1) (r:= .ok (.int ((y+1:Nat):Int))) rfl rfl rfl) (iY (α:=D) hy)) (ao rfl))) (Dh (C:=C) (T:=T (y+1)) hx hw hC)))) (Bm hl hn hp)) rfl);rw[cH];have:L2.atI (rs++[D.lst ((aee w).map λx=>bC (C x))]) (-1)=some (.lst ((aee w).map λx=>bC (C x))):=by
    unfold L2.atI ixN;rw[if_neg (by decide),if_pos (by simp;omega)];simp only[z1d,agr,aha];rw[show ((-1:Int)+((rs.length+1:Nat):Int)).toNat=rs.length by omega,aeT (z0g _)];simp
   rw[this]
end
def jh(w h:Nat)(T:Nat->Nat->Nat->Int)(M:Nat->Nat->Int):Nat->Nat->List Wy
 |0,_=>[(0,0,[])]
 |k+1,x=>cands w (λp=>fX p (M (h - 1 - k) p) (jh w h T M k p)) (T (h - 1 - k)) x
def iw(w h:Nat)(T:Nat->Nat->Nat->Int)(M:Nat->Nat->Int)(k x:Nat):List Wy:=fX x (M (h - 1 - k) x) (jh w h T M k x)
section
variable{w h a:Nat}{T:Nat->Nat->Nat->Int}{M:Nat->Nat->Int}{ρ:aB}
theorem jP:jh w h T M (k+1) x=cands w (iw w h T M k) (T (h - 1 - k)) x:=rfl
theorem gY:(fX x m cs).length<=1:=by
 unfold fX;split
 ·simp
 ·have:=uh (cs:=cs);simpa using this
theorem oK{t:Wy}(h:t∈fX x m cs):∃u∈cs,t=sb (dM m) (pre x u):=by
 unfold fX at h;split at h
 ·simp at h
 ·rw[afc] at h;obtain⟨u,hu,rfl⟩:=afu.mp h;exact⟨u,zL u hu,rfl⟩
theorem vG{α β:Type}{F:α->List β}:∀{l:List α},(∀a∈l,(F a).length<=1)->(l.flatMap F).length<=l.length
 |[],_=>by simp
 | a::l,h=>by
  rw[agV,z1d,aeC];have h1:=h a (by simp);have h2:=vG (l:=l) λb hb=>h b (by simp[hb]);omega
theorem Mr:∀{k x:Nat},(jh w h T M k x).length<64
 |0,_=>by simp[jh]
 | k+1,x=>by
  rw[jP];unfold cands;have:=vG (F:=λp=>(iw w h T M k p).map (dY (T (h - 1 - k) p (x+1 - p)))) (l:=nr w x) λp _=>by rw[z1g];exact gY
  have h2:=Ka (w:=w) (x:=x);omega
theorem YD:∀{k x:Nat},∀t∈jh w h T M k x,t.2.2.length=k
 |0,_,t,ht=>by simp[jh] at ht;subst ht;rfl
 | k+1,x,t,ht=>by
  rw[jP] at ht;obtain⟨p,_,hp⟩:=ahd.mp ht;obtain⟨u,hu,rfl⟩:=afu.mp hp;obtain⟨v,hv,rfl⟩:=oK hu;show (((p:Nat):Int)::v.2.2).length=k+1;rw[aeC,YD v hv]
theorem Rz:∀{k x:Nat},((jh w h T M k x).map fl).Nodup
 |0,_=>by simp[jh]
 | k +1,x=>by
  rw[jP];unfold cands List.Nodup;rw[List.pairwise_map,List.pairwise_flatMap];refine⟨λp _=>?_,?_⟩
  ·have hl:((iw w h T M k p).map (dY (T (h - 1 - k) p (x+1 - p)))).length<=1:=by rw[z1g];exact gY
   match (iw w h T M k p).map (dY (T (h - 1 - k) p (x+1 - p))),hl with
   |[],_=>exact .nil
   |[_],_=>simp
   |_::_::_,hl=>simp at hl
  ·have nd:(nr w x).Nodup:=List.nodup_range';refine nd.imp λ{p q} hpq t ht u hu z=>?_;obtain⟨t',ht',rfl⟩:=afu.mp ht;obtain⟨u',hu',rfl⟩:=afu.mp hu;obtain⟨t2,_,rfl⟩:=oK ht';obtain⟨u2,_,rfl⟩:=oK hu';have:=YB z;have h2:((p:Nat):Int)::t2.2.2=((q:Nat):Int)::u2.2.2:=congrArg (λt:Wy=>t.2.2) this;have h3:((p:Nat):Int)=((q:Nat):Int):=(ajl h2).1;exact hpq (by omega)
def jd(w h:Nat)(T:Nat->Nat->Nat->Int)(M:Nat->Nat->Int)(k:Nat):D:= .lst ((aee w).map λx=>bC (iw w h T M k x))
theorem yS{y:Nat}{rows:List D}{cs:Nat->List Wy}(B:Di w T y rows cs)(hy:rows≠[]->y+1<h)(hw:w<=20)(hl:∀x,(cs x).length<64)(hn:∀x,((cs x).map fl).Nodup)(hp:∀x,∀t∈cs x,t.2.2.length<=100){e1:Option Ent}:∀{xs:List Nat} {acc:List D} {e7 e8 e9 e10:Option Ent},(∀x∈xs,x<w)->acc.length+xs.length<=1000->
  ∃z7 z8 z9 j9,forL (dN (dO 2 (bw (aL 7) (bw (aL 8) nilG)))) (inW a (fj 1)) (xs.map λ(x:Nat)=>D.tup [.int (x:Int),.int (M y x)]) [vA (tab w h T),e1,vA (.tup []),some (.obj (.fn a)),some (.lst rows),vA (.int (y:Int)),some (.lst acc),e7,e8,e9,e10] =
   .nx [vA (tab w h T),e1,vA (.tup []),some (.obj (.fn a)),some (.lst rows),vA (.int (y:Int)),some (.lst (acc++xs.map λx=>bC (fX x (M y x) (cs x)))),z7,z8,z9,j9]
 |[],acc,e7,e8,e9,e10,_,_=>⟨e7,e8,e9,e10,by simp[forL]⟩
 | x ::xs,acc,e7,e8,e9,e10,hx,hle=>by
  rw[aeC] at hle;have hxw:=hx x (by simp);obtain⟨z7,z8,z9,j9,e⟩:=yS B hy hw hl hn hp (e1:=e1) (xs:=xs) (acc:=acc++[bC (fX x (M y x) (cs x))]) (e7:=vA (.int (x:Int))) (e8:=vA (.int (M y x))) (e9:=vA (bC (if M y x=1 then[] else (dI (cs x)).map (pre x)))) (e10:=vA (.int (dM (M y x)))) (λq hq=>hx q (by simp[hq])) (by simp;omega);refine⟨z7,z8,z9,j9,gK rfl (aD (HW B hy hxw hw (hl x) (hn x) (hp x)) (HS ?_ (by omega) |>.trans ?_)) (e.trans ?_)⟩
  ·split
   ·simp
   ·have:=uh (cs:=cs x);simpa using this
  ·have:fX x (M y x) (cs x)=(if M y x=1 then[] else (dI (cs x)).map (pre x)).map (sb (dM (M y x))):=by unfold fX;split <;> rfl
   rw[this]
  ·rw[z1h,afx];rfl
def dn(r:Nat):List D:=(aee r).map λ(i:Nat)=>D.int ((r:Int) - 1 - (i:Int))
theorem Vh(r:Nat):dn (r+1)=D.int (r:Int)::dn r:=by
 unfold dn;rw[agm,z1h,afc];congr 1
 ·congr 1;omega
 ·refine afG λi _=>?_;show D.int _=D.int _;congr 1;simp only[Nat.succ_eq_add_one];omega
theorem RB(hk:k<h)(hy:y=h - 1 - k):Di w T y ((aee k).map (jd w h T M)) (jh w h T M k):=by
 cases k with
 |zero=>exact .last
 | succ k=>
  rw[ahs,af4];have e:jh w h T M (k+1)=cands w (iw w h T M k) (T (y+1)):=by
   funext x;rw[jP,show y+1=h - 1 - k by omega]
  rw[e];exact .more _ _ λp _=>gY
theorem RD(hk:k<h)(hy:y=h - 1 - k)(hh:h<=20)(hw:w<=20){e6 e7 e8:Option Ent}:∃z6 z7 z8 z9 j9,Rt a (fj 1) [vA (tab w h T),vA (bH w h M),vA (.tup []),some (.obj (.fn a)),some (.lst ((aee k).map (jd w h T M))),vA (.int (y:Int)),e6,e7,e8,e9,e10] =
  .nx [vA (tab w h T),vA (bH w h M),vA (.tup []),some (.obj (.fn a)),some (.lst ((aee (k+1)).map (jd w h T M))),vA (.int (y:Int)),z6,z7,z8,z9,j9]:=by
 obtain⟨z7,z8,z9,j9,e⟩:=yS (h:=h) (a:=a) (M:=M) (e1:=vA (bH w h M)) (RB (w:=w) (T:=T) (M:=M) hk hy) (λhne=>by
  have:k≠0:=λz=>hne (by rw[z];rfl);omega) hw (λx=>Mr) (λx=>Rz) (λx t ht=>by rw[YD t ht];omega) (xs:=aee w) (acc:=[]) (e7:=e7) (e8:=e8) (e9:=e9) (e10:=e10) (λx hx=>z2e hx) (by simp;omega)
 refine⟨vA (.lst ([]++(aee w).map λx=>bC (fX x (M y x) (jh w h T M k x)))),z7,z8,z9,j9,aD (mY rfl) (aD (lN (yO (ao (au rfl rfl (J6 (by omega)))) rfl) e) ((Vf (ds:=(aee k).map (jd w h T M)) (es:=[]++(aee w).map λx=>bC (fX x (M y x) (jh w h T M k x))) rfl rfl (by rw[z1g,z2d];omega)).trans ?_))⟩;rw[ahs,af4];have er:((aee w).map λx=>bC (fX x (M y x) (jh w h T M k x)))=(aee w).map λx=>bC (iw w h T M k x):=by
  refine afG λx _=>?_;unfold iw;rw[hy]
 simp only[ahu];rw[er];rfl
theorem vH(hh:h<=20)(hw:w<=20):∀{r k:Nat} {e5 e6 e7 e8 e9 e10:Option Ent},k+r=h->∃z5 z6 z7 z8 z9 j9,forL (aL 5) (Rt a (fj 1)) (dn r) [vA (tab w h T),vA (bH w h M),vA (.tup []),some (.obj (.fn a)),some (.lst ((aee k).map (jd w h T M))),e5,e6,e7,e8,e9,e10] =
  .nx [vA (tab w h T),vA (bH w h M),vA (.tup []),some (.obj (.fn a)),some (.lst ((aee h).map (jd w h T M))),z5,z6,z7,z8,z9,j9]
 |0,k,e5,e6,e7,e8,e9,e10,hk=>⟨e5,e6,e7,e8,e9,e10,by rw[show k=h by omega];rfl⟩
 | r+1,k,e5,e6,e7,e8,e9,e10,hk=>by
  obtain⟨y6,y7,y8,y9,y10,e1⟩:=RD (a:=a) (w:=w) (T:=T) (M:=M) (k:=k) (y:=r) (by omega) (by omega) hh hw (e6:=e6) (e7:=e7) (e8:=e8) (e9:=e9) (e10:=e10);obtain⟨z5,z6,z7,z8,z9,j9,e2⟩:=vH hh hw (r:=r) (k:=k+1) (e5:=vA (.int (r:Int))) (e6:=y6) (e7:=y7) (e8:=y8) (e9:=y9) (e10:=y10) (by omega);rw[Vh];exact⟨z5,z6,z7,z8,z9,j9,gK rfl e1 e2⟩
theorem HY(hh:h<=20)(hw:w<=20):mU a (fj 1) [tab w h T,bH w h M,.tup []]= .ok (.lst ((aee h).map (jd w h T M)).reverse):=by
 obtain⟨z5,z6,z7,z8,z9,j9,e⟩:=vH (a:=a) (w:=w) (T:=T) (M:=M) hh hw (r:=h) (k:=0) (e5:=none) (e6:=none) (e7:=none) (e8:=none) (e9:=none) (e10:=none) (by omega);have er:Hv [.int (h:Int)]= .ok (dn h):=by
  show (if _ then _ else _)=_;rw[if_pos (by omega)];rfl
 refine iu (aD (mY rfl) (aD (lN ?_ e) (aR ?_)))
 ·show ((ak (aH cT (ak (gv 1) nA)) nA) _).bind Hv=_;rw[ao (aN (ao rfl) uF)];exact er
 ·show FQ _ _=_;unfold FQ;rfl
end
section
variable{w h:Nat}{T:Nat->Nat->Nat->Int}{M:Nat->Nat->Int}{f:Nat->Nat->Int}{m:Str}{ρ:aB}
theorem Gd(hh:h<=20)(hw:w<=20):qZ [tab w h T,bH w h M,.int 1]= .ok (.lst ((aee h).map (jd w h T M)).reverse):=by
 refine iu ?_;show (match allOf (λx=>mU x (fj 1) [tab w h T,bH w h M,.tup []]) with | .ok r=>So.rt r |_=> .bad)=_;rw[Q7 λa=>HY hh hw]
theorem Dj{F:Nat->D}:((aee h).map F).reverse=(aee h).map λy=>F (h - 1 - y):=by
 apply ahG;intro i;by_cases hi:i<h
 ·rw[List.getElem?_reverse (by simpa using hi),z2b,z2b,aeJ hi,z1g,z2d,aeJ (by omega)];rfl
 ·rw[ag2 (by simp;omega),ag2 (by simp;omega)]
def Qm:List Wy->D
 |[]=> .non
 |t::_=> .tup [.int (-t.1),.int t.2.1]
theorem aal{l:List Wy}(hl:l.length<=1):vD [bC l]= .ok (Qm l):=by
 match l,hl with
 |[],_=>exact bA (dg (bV (cO (kI (ds:=[]) rfl)) (aR rfl)))
 |[t],_=>exact bA (aD (aP (cO (kI (ds:=[cX t]) rfl)) rfl) (aD (bh (d:=cX t) (au (y:= .int 0) rfl rfl (Jf (i:=0) rfl)) rfl) (aR (bU (aq (x:= .int (-t.1)) rfl (ao rfl))))))
 |_::_::_,hl=>simp at hl
def adZ(w h:Nat)(T:Nat->Nat->Nat->Int)(M:Nat->Nat->Int):D:= .tup ((aee h).map λy=> .tup ((aee w).map λx=>Qm (iw w h T M (h - 1 - y) x)))
def Mk(w h:Nat)(M:Nat->Nat->Int):Prop:=∀y x,0<=M y x/\M y x<=2
theorem abI:jO [.int i]= .ok (.bl true):=by rfl
theorem acK(h:i<=j):wF (.int i) (.int j)= .ok (.bl true):=by
 show R.ok (D.bl (decide _))=_;rw[decide_eq_true h]
theorem Wd(h:0<=i/\i<=2):CQ [.int i]= .ok (.bl true):=
 bA (aR (fH (aZ (ao rfl) abI) (u9 rfl rfl (acK h.1) rfl (acK h.2))))
theorem aaR{l:List α}:nq [.lst (l.map λ_=> .bl true)]= .ok (.bl true):=qz
theorem Kc{g:Nat->Int}(hw:w<=20)(hg:∀x,0<=g x/\g x<=2):mV [row w g,.int (w:Int)]= .ok (.bl true):=by
 refine bA (aR (fH rfl (fH (au (aN (ao rfl) uE) rfl (by rw[jr,decide_eq_true rfl])) (aN (ao (bF (c:=λx=>D.int (g x)) (h:=λ_=>D.bl true) (l:=aee w) (dW rfl) (by rw[z2d];omega) λx hx=>?_)) aaR))));exact bL rfl (aZ (ao rfl) (Wd (hg x)))
theorem lK:jF (.int i) (.int i)= .ok (.bl false):=by rw[Wb,decide_eq_true rfl];rfl
theorem Tw(o:Ok w h f)(hM:Mk w h M):mW [bH w h M,bH w h f]= .ok (.bl true):=by
 have ni:=o.h2;refine bA (aD (aP (vd (cO (b:=true) (aJ rfl)) (aJ (au (aN (ao rfl) uF) (aN (ao rfl) uF) lK))) rfl) (aR (aN (ao (bF (c:=λy=>row w (M y)) (h:=λ_=>D.bl true) (l:=aee h) (dW rfl) (by rw[z2d];omega) λy hy=>?_)) aaR)));exact bL rfl (aZ (aq rfl (ao (len0 o rfl))) (Kc o.w2 (hM y)))
theorem mul_one{d:D}(h1:1<=k)(ni:k<=20):lU (.tup [d]) (.int (k:Int))= .ok (.tup ((aee k).map λ_=>d)):=by
 rw[lU,if_pos ⟨by simp,by omega,by omega,by simp;omega⟩];congr 2;rw[show ((k:Nat):Int).toNat=k by omega]
 clear h1 ni
 induction k with
 |zero=>rfl
 |succ k ih=>rw[afF,af9,ih,agm,z1h,afc];rfl
theorem Tz(o:Ok w h f):zH [bH w h f]= .ok (bH w h λ_ _=>0):=
 bA (aR (au (bU (ao (au (bU (ao rfl)) (len0 o rfl) (mul_one o.w1 o.w2)))) (aN (ao rfl) uF) (mul_one o.h1 o.h2)))
theorem wW(o:Ok w h f):fW [.non,bH w h f]= .ok (bH w h λ_ _=>0):=
 bA (dg (bV (aJ (b:=true) (au rfl rfl rfl)) (aR (aZ (ao rfl) (Tz o)))))
theorem YF(o:Ok w h f)(hM:Mk w h M):fW [bH w h M,bH w h f]= .ok (bH w h M):=
 bA (aD (aP (aJ (b:=false) (au rfl rfl rfl)) rfl) (aD (aP (cO (b:=true) (aJ (aZ (aq rfl (ao rfl)) (Tw o hM)))) rfl) (aR rfl)))
theorem aam(hm:m= "worth"\/m= "joins")(o:Ok w h f):uz [bH w h f,.str m]= .ok (tab w h (tbl m w h f)):=by
 rcases hm with rfl |rfl
 ·exact Vd o
 ·exact Ve o
theorem uG{d:D}(hm:m= "worth"\/m= "joins")(o:Ok w h f)(e:fW [d,bH w h f]= .ok (bH w h M)):gB [bH w h f,.str m,d]= .ok (.tup [tab w h (tbl m w h f),bH w h M]):=
 bA (aD (eY (aV (ao rfl) (qJ o))) (aD (eY (aV (ao rfl) (m7 hm))) (aD (bh (aV (aq rfl (ao rfl)) e) rfl) (aR (bU (aq (aZ (aq rfl (ao rfl)) (aam hm o)) (ao rfl)))))))
theorem aan{d:D}(hm:m= "worth"\/m= "joins")(o:Ok w h f)(e:fW [d,bH w h f]= .ok (bH w h M)):FW [bH w h f,.str m,d]= .ok (adZ w h (tbl m w h f) M):=by
 have ni:=o.h2;have w20:=o.w2;refine bA (aD (bh (aV (aq rfl (aq rfl (ao rfl))) (uG hm o e)) rfl) (aD (bh (aZ (aq rfl (aq rfl (ao rfl))) ((Gd ni w20).trans (by rw[Dj]))) rfl) (aR (aN (ao (bF (c:=λy=>jd w h (tbl m w h f) M (h - 1 - y)) (h:=λy=> .tup ((aee w).map λx=>Qm (iw w h (tbl m w h f) M (h - 1 - y) x))) (l:=aee h) (iQ rfl) (by rw[z2d];omega) λy hy=>?_)) rfl))));refine bL rfl (aN (ao (bF (c:=λx=>bC (iw w h (tbl m w h f) M (h - 1 - y) x)) (h:=λx=>Qm (iw w h (tbl m w h f) M (h - 1 - y) x)) (l:=aee w) (iQ rfl) (by rw[z2d];omega) λx hx=>?_)) rfl);exact bL rfl (aZ (ao rfl) (aal gY))
end
abbrev lt(a b:Wy):Bool:=c7 (fl a) (fl b)
section
variable{w h:Nat}{T:Nat->Nat->Nat->Int}{M:Nat->Nat->Int}
theorem YG{c:Int}:lt (dY c a) (dY c b)=lt a b:=by
 obtain⟨a1,a2,a3⟩:=a;obtain⟨b1,b2,b3⟩:=b;simp only[lt,fl,dY,c7];by_cases e1:a1=b1
 ·rw[if_pos e1,if_pos e1];by_cases e:a2=b2
  ·rw[if_pos (by omega),if_pos e]
  ·rw[if_neg (by omega),if_neg e];exact decide_eq_decide.mpr (by omega)
 ·rw[if_neg e1,if_neg e1]
theorem adt{c:Int}:lt (sb c a) (sb c b)=lt a b:=by
 obtain⟨a1,a2,a3⟩:=a;obtain⟨b1,b2,b3⟩:=b;simp only[lt,fl,sb,c7];by_cases e:a1=b1
 ·rw[if_pos (by omega),if_pos e]
 ·rw[if_neg (by omega),if_neg e];exact decide_eq_decide.mpr (by omega)
theorem acL:lt (pre x a) (pre x b)=lt a b:=by
 obtain⟨a1,a2,a3⟩:=a;obtain⟨b1,b2,b3⟩:=b;simp only[lt,fl,pre,c7,if_true]
theorem RG{c:Wy}(h1:lt b a=false)(h2:lt c b=false):lt c a=false:=by
 cases z:lt c a with
 |false=>rfl
 | true=>
  by_cases e:fl b=fl a
  ·have h2:c7 (fl c) (fl b)=false:=h2;rw[e] at h2;exact h2.symm.trans z |>.symm
  ·have:=jG z (yF e h1);exact (this.symm.trans h2)
theorem vI(hn:(cs.map fl).Nodup)(hne:cs≠[]):∃v,dI cs=[v]/\v∈cs/\∀u∈cs,lt u v=false:=by
 have hr:=Cr hn;cases es:lX (cs.map fl) with
 | nil=>
  have:=(jH (cs.map fl)).length_eq;rw[es,z1g] at this;exact absurd (ai5.mp this.symm) hne
 | cons l ls=>
  have ef:dI cs=[un l]:=by unfold dI;rw[es];rfl
  rw[es] at hr;obtain⟨hr1,_⟩:=agp.mp hr;have hl:l∈lX (cs.map fl):=by rw[es];exact aex
  have hul:fl (un l)=l:=Ry l hl;refine⟨un l,ef,zL _ (by rw[ef];exact aex),λu hu=>?_⟩;have hm:fl u∈lX (cs.map fl):=(jH _).mem_iff.mpr (ah7 hu);rw[es] at hm;show c7 (fl u) (fl (un l))=false;rw[hul];rcases aev.mp hm with z |z
  ·rw[z];exact oV _
  ·cases q:c7 (fl u) l with
   |false=>rfl
   |true=>have:=jG q (hr1 _ z);rw[oV] at this;cases this
def vl(T:Nat->Nat->Nat->Int)(M:Nat->Nat->Int):Nat->List Nat->Wy
 |_,[]=>(0,0,[])
 |y,[x]=>sb (dM (M y x)) (pre x (0,0,[]))
 |y,x::p::l=>sb (dM (M y x)) (pre x (dY (T (y+1) p (x+1 - p)) (vl T M (y+1) (p::l))))
def Pa(w:Nat)(M:Nat->Nat->Int):Nat->List Nat->Prop
 |_,[]=>True
 |y,[x]=>x<w/\M y x≠1
 |y,x::p::l=>x<w/\M y x≠1/\p<=x+1/\x<=p+1/\Pa w M (y+1) (p::l)
theorem Pa.lt{l:List Nat}(h:Pa w M y (x::l)):x<w:=by
 cases l with
 |nil=>exact h.1
 |cons p l=>exact h.1
theorem Pa.ne{l:List Nat}(h:Pa w M y (x::l)):M y x≠1:=by
 cases l with
 |nil=>exact h.2
 |cons p l=>exact h.2.1
theorem Vi{t:Wy}(h:t∈fX x m cs):m≠1:=λe=>by
 unfold fX at h;rw[if_pos e] at h;cases h
theorem YH{h:Nat}(hk:k+1<h):h - 1 - k=h - 1 - (k+1)+1:=by omega
theorem Oi:∀{k x:Nat} {t:Wy},x<w->k<h->t∈iw w h T M k x->∃l,l.length=k/\Pa w M (h - 1 - k) (x::l)/\t=vl T M (h - 1 - k) (x::l)
 | 0,x,t,hx,hk,ht=>by
  obtain⟨u,hu,e⟩:=oK ht;have hu:u=(0,0,[]):=by simpa[jh] using hu
  subst hu;exact⟨[],rfl,⟨hx,Vi ht⟩,e⟩
 | k+1,x,t,hx,hk,ht=>by
  obtain⟨u,hu,e⟩:=oK ht;have hm:=Vi ht;rw[jP] at hu;obtain⟨p,hp,hu⟩:=ahd.mp hu;obtain⟨v,hv,rfl⟩:=afu.mp hu;obtain⟨h1,h2,h3⟩:=(yQ hx).mp hp;obtain⟨l,hl,hP,hvl⟩:=Oi h1 (by omega) hv;have ey:h - 1 - k=h - 1 - (k+1)+1:=YH hk;rw[ey] at hP hvl e;exact⟨p::l,by rw[aeC,hl],⟨hx,hm,h2,h3,hP⟩,by rw[e,hvl];rfl⟩
theorem Oj{v:Wy}(hm:m≠1)(e:dI cs=[v]):fX x m cs=[sb (dM m) (pre x v)]:=by
 unfold fX;rw[if_neg hm,e];rfl
theorem Ol:∀{k x:Nat} {l:List Nat},l.length=k->k<h->Pa w M (h - 1 - k) (x::l)->∃t∈iw w h T M k x,lt (vl T M (h - 1 - k) (x::l)) t=false
 | 0,x,l,hl,hk,hP=>by
  cases ai5.mp hl;obtain⟨v,ev,hv,_⟩:=vI (Rz (w:=w) (h:=h) (T:=T) (M:=M) (k:=0) (x:=x)) (by simp[jh]);have hv:v=(0,0,[]):=by simpa[jh] using hv
  subst hv;exact⟨_,by unfold iw;rw[Oj hP.ne ev];exact aex,oV _⟩
 | k+1,x,l,hl,hk,hP=>by
  cases l with
  |nil=>cases hl
  | cons p l=>
   have ey:h - 1 - k=h - 1 - (k+1)+1:=YH hk;obtain⟨hx,hm,h2,h3,hP'⟩:=hP;have hl:l.length=k:=by simpa using hl
   rw[<-ey] at hP';obtain⟨t,ht,hlt⟩:=Ol hl (by omega) hP';have hu:dY (T (h - 1 - k) p (x+1 - p)) t∈jh w h T M (k+1) x:=by
    rw[jP];exact ahd.mpr ⟨p,(yQ hx).mpr ⟨hP'.lt,h2,h3⟩,ah7 ht⟩
   obtain⟨v,ev,hv,hle⟩:=vI (Rz (w:=w) (h:=h) (T:=T) (M:=M) (k:=k+1) (x:=x)) (List.ne_nil_of_mem hu);refine⟨_,by unfold iw;rw[Oj hm ev];exact aex,?_⟩;show lt (sb _ (pre x (dY (T (h - 1 - (k+1)+1) p (x+1 - p)) (vl T M (h - 1 - (k+1)+1) (p::l))))) _=false;rw[adt,acL,<-ey];exact RG (hle _ hu) (by rw[YG];exact hlt)
def topC(w h:Nat)(T:Nat->Nat->Nat->Int)(M:Nat->Nat->Int):List Wy:=(aee w).flatMap λx=>(iw w h T M (h - 1) x).map (dY (T 0 x 1))
theorem Ia:(topC w h T M).length<=w:=by
 have:=vG (F:=λx=>(iw w h T M (h - 1) x).map (dY (T 0 x 1))) (l:=aee w) λp _=>by rw[z1g];exact gY
 rw[z2d] at this;exact this
theorem Vj:((topC w h T M).map fl).Nodup:=by
 unfold topC List.Nodup;rw[List.pairwise_map,List.pairwise_flatMap];refine⟨λp _=>?_,?_⟩
 ·have hl:((iw w h T M (h - 1) p).map (dY (T 0 p 1))).length<=1:=by rw[z1g];exact gY
  match (iw w h T M (h - 1) p).map (dY (T 0 p 1)),hl with
  |[],_=>exact .nil
  |[_],_=>simp
  |_::_::_,hl=>simp at hl
 ·have nd:(aee w).Nodup:=List.nodup_range;refine nd.imp λ{p q} hpq t ht u hu z=>?_;obtain⟨t',ht',rfl⟩:=afu.mp ht;obtain⟨u',hu',rfl⟩:=afu.mp hu;obtain⟨t2,_,rfl⟩:=oK ht';obtain⟨u2,_,rfl⟩:=oK hu';have:=YB z;have h2:((p:Nat):Int)::t2.2.2=((q:Nat):Int)::u2.2.2:=congrArg (λt:Wy=>t.2.2) this;have h3:((p:Nat):Int)=((q:Nat):Int):=(ajl h2).1;exact hpq (by omega)
def gn(M:Nat->Nat->Int)(h:Nat)(s:Nat->Nat):Int:=((aee h).map λy=>dM (M y (s y))).sum
def wS(T:Nat->Nat->Nat->Int)(M:Nat->Nat->Int)(h:Nat)(s:Nat->Nat):Wy:=(-gn M h s,cost h T s,(aee h).map λy=>((s y:Nat):Int))
structure RJ(w h:Nat)(M:Nat->Nat->Int)(s:Nat->Nat):Prop where
 sm:nu w h s
 ne:∀y<h,M y (s y)≠1
theorem acM{s:Nat->Nat}:∀{k y:Nat},vl T M y ((agC y (k+1)).map s)=(-((agC y (k+1)).map λy=>dM (M y (s y))).sum,((agC (y+1) k).map λy=>fare T s y).sum,(agC y (k+1)).map λy=>((s y:Nat):Int))
 | 0,y=>by
  show (0 - dM (M y (s y)),(0:Int),[((s y:Nat):Int)])=(-(dM (M y (s y))+0),0,[((s y:Nat):Int)]);rw[show 0 - dM (M y (s y))= -(dM (M y (s y))+0) by omega]
 | k +1,y=>by
  have ih:=acM (s:=s) (k:=k) (y:=y+1);rw[ahc (s:=y),z1h,z1h,z1h,aiw];rw[ahc (s:=y+1),z1h,z1h,z1h,aiw] at ih |-;show sb _ (pre _ (dY _ (vl T M (y+1) _)))=_;rw[ih];simp only[sb,pre,dY];refine ajf ?_ (ajf ?_ rfl)
  ·show -_ - dM _= -_;omega
  ·rw[z1h,aiw];show _+T (y+1) (s (y+1)) (s y+1 - s (y+1))=T (y+1) (s (y+1)) (s y+1 - s (y+1))+_;rw[Int.add_comm]
theorem acN(h1:1<=h):dY (T 0 (s 0) 1) (vl T M 0 ((aee h).map s))=wS T M h s:=by
 obtain⟨k,rfl⟩:∃k,h=k+1:=⟨h - 1,by omega⟩;rw[agB,acM];simp only[dY,wS,gn,cost];refine ajf ?_ (ajf ?_ ?_)
 ·rw[agB]
 ·show ((agC (0+1) k).map λy=>fare T s y).sum+T 0 (s 0) 1=T 0 (s 0) 1+((aee (k+1 - 1)).map λy=>fare T s (y+1)).sum;rw[Int.add_comm,Nat.add_sub_cancel,aiZ,afc];congr 3;funext i;show fare T s (0+1+i)=fare T s (i+1);rw[show 0+1+i=i+1 by omega]
 ·rw[agB]
theorem acO{s : Nat -> Nat} : ∀{k y : Nat},Pa w M y ((agC y (k+1)).map s)↔(∀z,y<=z->z<=y+k->s z<w/\M z (s z)≠1)/\∀z,y<=z->z<y+k->s (z+1)<=s z+1/\s z<=s (z+1)+1
 | 0, y => ⟨λ h => ⟨λ z h1 h2 => by have:z=y:=by omega
                                    subst this;exact h,λz h1 h2=>by omega⟩,λh=>h.1 y (z0g _) (z0g _)⟩
 | k+1,y=>by
  have ih:=acO (s:=s) (k:=k) (y:=y+1);rw[ahc (s:=y),z1h];rw[ahc (s:=y+1),z1h] at ih |-;constructor
  ·rintro⟨h1,h2,h3,h4,h5⟩
   obtain⟨q1,q2⟩:=ih.mp h5;refine⟨λz z1 z2=>?_,λz z1 z2=>?_⟩
   ·by_cases e:z=y
    ·subst e;exact⟨h1,h2⟩
    ·exact q1 z (by omega) (by omega)
   ·by_cases e:z=y
    ·subst e;exact⟨h3,h4⟩
    ·exact q2 z (by omega) (by omega)
  ·rintro⟨q1,q2⟩
   have a:=q1 y (z0g _) (by omega);have b:=q2 y (z0g _) (by omega);exact⟨a.1,a.2,b.1,b.2,ih.mpr ⟨λz z1 z2=>q1 z (by omega) (by omega),λz z1 z2=>q2 z (by omega) (by omega)⟩⟩
theorem YJ(h1:1<=h):Pa w M 0 ((aee h).map s)↔RJ w h M s:=by
 obtain⟨k,rfl⟩:∃k,h=k+1:=⟨h - 1,by omega⟩;rw[agB,acO];constructor
 ·rintro⟨a,b⟩
  exact⟨⟨λy hy=>(a y (by omega) (by omega)).1,λy hy=>b y (by omega) (by omega)⟩,λy hy=>(a y (by omega) (by omega)).2⟩
 ·rintro⟨⟨a,b⟩,c⟩
  exact⟨λz _ z2=>⟨a z (by omega),c z (by omega)⟩,λz _ z2=>b z (by omega)⟩
theorem abJ(l:List Nat):∃s:Nat->Nat,l=(aee l.length).map s:=
 ⟨λy=>l.getD y 0,by
  apply ahG;intro i;rw[z2b];by_cases hi:i<l.length
  ·rw[aeJ hi];simp[hi]
  ·rw[ag2 (by omega),ag2 (by simp;omega)];rfl⟩
theorem abK(h1:1<=h){t:Wy}(ht:t∈topC w h T M):∃s,RJ w h M s/\t=wS T M h s:=by
 obtain⟨x,hx,hu⟩:=ahd.mp ht;obtain⟨u,hv,rfl⟩:=afu.mp hu;obtain⟨l,hl,hP,rfl⟩:=Oi (k:=h - 1) (h:=h) (z2e hx) (by omega) hv;rw[show h - 1 - (h - 1)=0 by omega] at hP |-;obtain⟨s,hs⟩:=abJ (x::l);have hlen:(x::l).length=h:=by rw[aeC,hl];omega
 rw[hlen] at hs;have h0:s 0=x:=by
  obtain⟨k,rfl⟩:∃k,h=k+1:=⟨h - 1,by omega⟩;rw[agm,z1h] at hs;exact (ajl hs).1.symm
 rw[hs] at hP |-;refine⟨s,(YJ h1).mp hP,?_⟩;rw[<-acN h1,h0]
theorem YK(h1:1<=h)(q:RJ w h M s):∃t∈topC w h T M,lt (wS T M h s) t=false:=by
 have hP:=(YJ h1).mpr q;rw[<-acN h1];obtain⟨k,rfl⟩:∃k,h=k+1:=⟨h - 1,by omega⟩;have e:(aee (k+1)).map s=s 0::(aee k).map λy=>s (y+1):=by
  rw[agm,z1h,afc];rfl
 rw[e] at hP |-;obtain⟨t,ht,hl⟩:=Ol (w:=w) (h:=k+1) (T:=T) (M:=M) (k:=k+1 - 1) (x:=s 0) (l:=(aee k).map λy=>s (y+1)) (by simp) (by omega) (by rw[show k+1 - 1 - (k+1 - 1)=0 by omega];exact hP);rw[show k+1 - 1 - (k+1 - 1)=0 by omega] at hl;exact⟨_,ahd.mpr ⟨s 0,ahB.mpr (q.sm.lt 0 (by omega)),ah7 ht⟩,by rw[YG];exact hl⟩
def Bst(w h:Nat)(T:Nat->Nat->Nat->Int)(M:Nat->Nat->Int)(s:Nat->Nat):Prop:=RJ w h M s/\∀s',RJ w h M s'->lt (wS T M h s') (wS T M h s)=false
theorem least(h1:1<=h):(dI (topC w h T M)=[]/\∀s,¬RJ w h M s)\/∃s,dI (topC w h T M)=[wS T M h s]/\Bst w h T M s:=by
 by_cases hne:topC w h T M=[]
 ·left;refine⟨by rw[hne];rfl,λs q=>?_⟩;obtain⟨t,ht,_⟩:=YK (T:=T) h1 q;rw[hne] at ht;cases ht
 ·right;obtain⟨v,ev,hv,hle⟩:=vI Vj hne;obtain⟨s,q,rfl⟩:=abK h1 hv;refine⟨s,ev,q,λs' q'=>?_⟩;obtain⟨t,ht,hl⟩:=YK (T:=T) h1 q';exact RG (hle t ht) hl
end
section
variable{w h:Nat}{T:Nat->Nat->Nat->Int}{M:Nat->Nat->Int}{f:Nat->Nat->Int}{m:Str}{ρ:aB}
def Wf:aB->So:=(aQ (bD (aH (aY gM 3) (ak (bin (gv 0) (ci 0) cH) (ak (gv 3) (ak (gv 3) nA)))) (aL 5)) (Hu 2 (bJ 3 [5] (eU (gv 4)) (dN (dO 3 (bw (aL 0) (bw (aL 1) (bw (aL 2) nilG))))) tT (cY (ak (gv 0) (ak (bin (gv 1) (gv 3) eX) (ak (gv 2) nA)))))))
theorem Ms(h1:1<=h){C:Nat->List Wy}(hx:x<w)(hC:(C x).length<=1)(hl:acc.length<=1000):
  Wf [vA (tab w h T),e1,some (.lst acc),vA (.int (x:Int)),vA (bC (C x)),e5]= .nx [vA (tab w h T),e1,some (.lst (acc++((C x).map (dY (T 0 x 1))).map cX)),vA (.int (x:Int)),vA (bC (C x)),vA (.int (T 0 x 1))]:=by
 have e0:gM [.lst ((aee w).map λx=>dX (T 0 x)),.int (x:Int),.int (x:Int)]= .ok (.int (T 0 x 1)):=by
  have:=mZ (T:=T 0 x) (p:=λx=>dX (T 0 x)) (a:=x) (b:=x) hx (by omega) (by omega) rfl
  rwa [show x+1 - x=1 by omega] at this
 refine aD (bh (aZ (aq (au rfl rfl (iY (α:=D) (x:=0) h1)) (aq rfl (ao rfl))) e0) rfl) ?_;refine (Gb (ds:=acc) rfl (bF (c:=cX) (h:=λt=>cX (dY (T 0 x 1) t)) (l:=C x) (iQ rfl) (by omega) λt ht=>?_) (by simp;omega)).trans ?_
 ·exact bL rfl (bU (aq rfl (aq (x:= .int (t.2.1+T 0 x 1)) (au rfl rfl rfl) (ao rfl))))
 ·rw[afc];rfl
theorem vJ(h1:1<=h){C:Nat->List Wy}(hC:∀p,(C p).length<=1){e1:Option Ent}:∀{ps:List Nat} {acc:List D} {e3 e4 e5:Option Ent},(∀p∈ps,p<w)->acc.length+ps.length<=1000->
  ∃z3 z4 z5,forL (dN (dO 2 (bw (aL 3) (bw (aL 4) nilG)))) Wf (ps.map λ(p:Nat)=>D.tup [.int (p:Int),bC (C p)]) [vA (tab w h T),e1,some (.lst acc),e3,e4,e5] =
   .nx [vA (tab w h T),e1,some (.lst (acc++(ps.flatMap λp=>(C p).map (dY (T 0 p 1))).map cX)),z3,z4,z5]
 |[],acc,e3,e4,e5,_,_=>⟨e3,e4,e5,by simp[forL]⟩
 | p::ps,acc,e3,e4,e5,hp,hl=>by
  rw[aeC] at hl;have Rx:=hp p (by simp);have hc:=hC p;obtain⟨z3,z4,z5,e⟩:=vJ h1 hC (e1:=e1) (ps:=ps) (acc:=acc++((C p).map (dY (T 0 p 1))).map cX) (e3:=vA (.int (p:Int))) (e4:=vA (bC (C p))) (e5:=vA (.int (T 0 p 1))) (λq hq=>hp q (by simp[hq])) (by simp;omega);refine⟨z3,z4,z5,gK rfl (Ms h1 Rx hc (by omega)) (e.trans ?_)⟩;rw[agV,af4,afx]
theorem xM(h1:1<=h)(hw:w<=20):pJ [tab w h T,.lst ((aee h).map λy=>jd w h T M (h - 1 - y))]= .ok (.lst ((topC w h T M).map cX)):=by
 obtain⟨z3,z4,z5,e⟩:=vJ (T:=T) h1 (C:=iw w h T M (h - 1)) (λp=>gY) (e1:=vA (.lst ((aee h).map λy=>jd w h T M (h - 1 - y)))) (ps:=aee w) (acc:=[]) (e3:=none) (e4:=none) (e5:=none) (λp hp=>z2e hp) (by simp;omega);exact bA (aD (mY rfl) (aD (lN (yO (p:=λp=>bC (iw w h T M (h - 1) p)) (ao (au rfl rfl (iY (α:=D) (x:=0) h1))) rfl) e) (aR rfl)))
theorem Wg(hl:cs.length<64)(hn:(cs.map fl).Nodup){v:aB->R (Option Int)}(e:u ρ= .ok (.lst (cs.map cX)))(e0:v ρ= .ok (some 1)):qG (aH pG (ak u nA)) (λ_=> .ok none) v ρ= .ok (.lst ((dI cs).map cX)):=by
 have e1:pG [.lst (cs.map cX)]= .ok (.lst ((lX (cs.map fl)).map jq)):=by
  rw[pG,zK];show (if _ then _ else _)=_;rw[if_pos ⟨by simpa using hl,hn⟩]
 have e2:lR ((lX (cs.map fl)).map jq) none (some 1)=(dI cs).map cX:=by
  have e3:∀{n d:Nat},HT.sIx n d (some 1)=min 1 n:=λ{n d}=>by
   show (if (1:Int)<0 then ((1:Int)+(n:Int)).toNat else min (1:Int).toNat n)=min 1 n;rw[if_neg (by decide)];rfl
  rw[lR,e3,JZ,aiT,ajc,<-List.map_take];have e4:∀l:List (List Int),l.take (min 1 (l.map jq).length)=l.take 1:=λl=>by cases l <;> simp
  rw[e4];unfold dI;rw[afc];refine afG λl hl=>?_;show jq l=cX (un l);rw[HN,Ry l (ah4 hl)]
 unfold qG;rw[aN (ao e) e1,e0];show R.ok (D.lst (lR _ none (some 1)))=_;rw[e2]
theorem yU(h1:1<=h)(hh:h<=20)(hw:w<=20):oG [tab w h T,bH w h M,.int 1]= .ok (.lst ((dI (topC w h T M)).map cX)):=by
 have hl:=Ia (w:=w) (h:=h) (T:=T) (M:=M);exact iu (aR (Wg (by omega) Vj (aZ (aq rfl (ao (aZ (aq rfl (aq rfl (ao rfl))) ((Gd hh hw).trans (by rw[Dj]))))) (xM h1 hw)) rfl))
def lwD:List Wy->D
 |[]=> .non
 |t::_=> .tup [.int t.2.1,.tup (t.2.2.map .int)]
def lsD:List Wy->D
 |[]=> .non
 |t::_=> .tup (t.2.2.map .int)
theorem RK(h1:1<=h)(hh:h<=20)(hw:w<=20):xJ [tab w h T,bH w h M]= .ok (lwD (dI (topC w h T M))):=by
 have e:=yU (T:=T) (M:=M) h1 hh hw;have hl:=uh (cs:=topC w h T M)
 match dI (topC w h T M),e,hl with
 |[],e,_=>exact iu (aD (bh (aZ (aq rfl (aq rfl (ao rfl))) e) rfl) (dg (bV (cO (kI (ds:=[]) rfl)) (aR rfl))))
 |[t],e,_=>exact iu (aD (bh (aZ (aq rfl (aq rfl (ao rfl))) e) rfl) (aD (aP (cO (kI (ds:=[cX t]) rfl)) rfl) (aD (bh (d:=cX t) (au (y:= .int 0) rfl rfl (Jf (i:=0) rfl)) rfl) (aR (bU (aq rfl (ao rfl)))))))
 |_::_::_,_,hl=>simp at hl
theorem Pg{d:D}(hm:m= "worth"\/m= "joins")(o:Ok w h f)(e:fW [d,bH w h f]= .ok (bH w h M)):pK [bH w h f,.str m,d]= .ok (lsD (dI (topC w h (tbl m w h f) M))):=by
 have e1:=RK (T:=tbl m w h f) (M:=M) o.h1 o.h2 o.w2
 match dI (topC w h (tbl m w h f) M),e1 with
 |[],e1=>exact bA (aD (bh (aV (aq rfl (aq rfl (ao rfl))) (uG hm o e)) rfl) (aD (bh (aZ (aq rfl (ao rfl)) e1) rfl) (dg (bV (aJ (b:=true) (au rfl rfl rfl)) (aR rfl)))))
 |t::r,e1=>exact bA (aD (bh (aV (aq rfl (aq rfl (ao rfl))) (uG hm o e)) rfl) (aD (bh (aZ (aq rfl (ao rfl)) e1) rfl) (aD (aP (aJ (b:=false) (au rfl rfl rfl)) rfl) (aR (d:=lsD (t::r)) (au (y:= .int 1) rfl rfl (lB (i:=1) rfl))))))
theorem YL{α:Type}{k:D->R (Option D)}{c:α->D}{o:α->Option D}:∀{l:List α},(∀a∈l,k (c a)= .ok (o a))->kJ k (l.map c)= .ok (l.filterMap o)
 |[],_=>rfl
 | a::l,h=>by
  rw[z1h,kJ,h a (by simp),Ja,R.bB,YL λb hb=>h b (by simp[hb]),R.bB];cases e:o a with
  |none=>rw[ai0 e];rfl
  |some d=>rw[ai1 e];rfl
theorem acP{n:Nat}{caps:List Nat}{fi:aB->R (List D)}{gt:D->aB->R aB}{ft:aB->R Bool}{fe:aB->R D}{ρ:aB}{c:α->D}{o:α->Option D}{l:List α}(e1:fi ρ= .ok (l.map c))(hl:l.length<=1000000)
  (e2:∀a∈l,qj gt ft fe (Fv n caps ρ) (c a)= .ok (o a)):bJ n caps fi gt ft fe ρ= .ok (.lst (l.filterMap o)):=by
 rw[bJ,e1,R.bB,YL e2,R.bB,cap,if_pos (z0b (List.length_filterMap_le _ _) hl)]
theorem abL{ρ ρ1:aB}{gt:D->aB->R aB}{ft:aB->R Bool}{fe:aB->R D}{x d:D}{b:Bool}(e1:gt x ρ= .ok ρ1)(e2:ft ρ1= .ok b)(e3:fe ρ1= .ok d):qj gt ft fe ρ x= .ok (if b=true then some d else none):=by
 rw[qj,e1,R.bB,e2,R.bB];cases b with
 |true=>rw[if_pos rfl,if_pos rfl,e3];rfl
 |false=>rw[if_neg (by decide),if_neg (by decide)]
end
end wQ
namespace wQ.Q
open PySem PySem.Spec L2 Pu
variable{acc:List D}{cs:List Wy}{x:Nat}{e5 e1 e10:Option Ent}
abbrev Wy:=Int×Int×Int
def fl(t:Wy):List Int:=[t.1,t.2.1,t.2.2]
def cX(t:Wy):D:= .tup [.int t.1,.int t.2.1,.int t.2.2]
def bC(l:List Wy):D:= .lst (l.map cX)
section
variable{n w h:Nat}{g:Nat->Int}{f:Nat->Nat->Int}{ρ:aB}
def dY(c:Int)(t:Wy):Wy:=(t.1,t.2.1+c,t.2.2)
def cands(w:Nat)(C:Nat->List Wy)(T:Nat->Nat->Int)(x:Nat):List Wy:=(nr w x).flatMap λp=>(C p).map (dY (T p (x+1 - p)))
variable{C:Nat->List Wy}{T:Nat->Nat->Int}
theorem Rw{p:Nat}(hx:x<w)(hp:p∈nr w x)(hC:(C p).length<=1)(hl:acc.length<=1000):
  Yt [vA (.lst ((aee w).map λx=>bC (C x))),vA (.lst ((aee w).map λx=>dX (T x))),vA (.int (x:Int)),some (.lst acc),vA (.int (p:Int)),e5] =
   .nx [vA (.lst ((aee w).map λx=>bC (C x))),vA (.lst ((aee w).map λx=>dX (T x))),vA (.int (x:Int)),some (.lst (acc++((C p).map (dY (T p (x+1 - p)))).map cX)),vA (.int (p:Int)),vA (.int (T p (x+1 - p)))]:=by
 obtain⟨h1,h2,h3⟩:=(yQ hx).mp hp;refine aD (bh (aZ (aq rfl (aq rfl (ao rfl))) (mZ (T:=T p) (p:=λx=>dX (T x)) h1 (by omega) (by omega) rfl)) rfl) ?_;refine Gb (ds:=acc) rfl (bF (c:=cX) (h:=λt=>cX (dY (T p (x+1 - p)) t)) (l:=C p) (iQ (au rfl rfl (iY (α:=D) h1))) (by omega) λt ht=>?_) (by simp;omega) |>.trans ?_
 ·exact bL rfl (bU (aq rfl (aq (x:= .int (t.2.1+T p (x+1 - p))) (au rfl rfl rfl) (ao rfl))))
 ·rw[afc];rfl
theorem yR{x:Nat}(hx:x<w)(hC:∀p<w,(C p).length<=1):∀{ps:List Nat} {acc:List D} {e4 e5:Option Ent},(∀p∈ps,p∈nr w x)->acc.length+ps.length<=1000->
  ∃z4 z5,forL (aL 4) Yt (ps.map λ(p:Nat)=>D.int (p:Int)) [vA (.lst ((aee w).map λx=>bC (C x))),vA (.lst ((aee w).map λx=>dX (T x))),vA (.int (x:Int)),some (.lst acc),e4,e5] =
   .nx [vA (.lst ((aee w).map λx=>bC (C x))),vA (.lst ((aee w).map λx=>dX (T x))),vA (.int (x:Int)),some (.lst (acc++(ps.flatMap λp=>(C p).map (dY (T p (x+1 - p)))).map cX)),z4,z5]
 |[],acc,e4,e5,_,_=>⟨e4,e5,by simp[forL]⟩
 | p::ps,acc,e4,e5,hp,hl=>by
  rw[aeC] at hl;have hpn:=hp p (by simp);have Rx:=((yQ hx).mp hpn).1;have hc:=hC p Rx;obtain⟨z4,z5,e⟩:=yR hx hC (ps:=ps) (acc:=acc++((C p).map (dY (T p (x+1 - p)))).map cX) (e4:=vA (.int (p:Int))) (e5:=vA (.int (T p (x+1 - p)))) (λq hq=>hp q (by simp[hq])) (by simp;omega);refine⟨z4,z5,gK rfl (Rw hx hpn hc (by omega)) (e.trans ?_)⟩;rw[agV,af4,afx]
theorem Dh(hx:x<w)(hw:w<=20)(hC:∀p<w,(C p).length<=1):vp [.lst ((aee w).map λx=>bC (C x)),.lst ((aee w).map λx=>dX (T x)),.int (x:Int)]= .ok (.lst ((cands w C T x).map cX)):=by
 obtain⟨z4,z5,e⟩:=yR (T:=T) hx hC (ps:=nr w x) (acc:=[]) (e4:=none) (e5:=none) (λp hp=>hp) (by have:=Ka (w:=w) (x:=x);simp;omega);have hlen:cT [.lst ((aee w).map λx=>bC (C x))]= .ok (.int (w:Int)):=by simp[cT]
 refine bA (aD (mY rfl) (aD (lN (iQ (aZ (aq rfl (ao (aN (ao rfl) hlen))) (Vg hx hw))) e) (aR rfl)))
end
section
variable{n w h:Nat}{g:Nat->Int}{f:Nat->Nat->Int}{ρ:aB}
theorem Dk:∀{r:List (List Int)} {a:List Int},let b:=r.foldl (λm x=>if c7 x m then x else m) a
  (b=a\/b∈r)/\c7 a b=false/\∀t∈r,c7 t b=false
 |[],a=>⟨.inl rfl,oV a,λt h=>by cases h⟩
 | x ::r,a=>by
  simp only[List.foldl_cons];have tr:∀{p q b:List Int},c7 p q=false->c7 q b=false->c7 p b=false:=λ{p q b} h1 h2=>by
   cases z:c7 p b with
   |false=>rfl
   | true=>
    by_cases e:p=q
    ·rw[e] at z;rw[h2] at z;cases z
    ·have:=jG (yF e h1) z;rw[h2] at this;cases this
  cases q:c7 x a with
  | true=>
   simp only[if_true];obtain⟨h1,h2,h3⟩:=Dk (r:=r) (a:=x);have ax:c7 a x=false:=by
    cases z:c7 a x with
    |false=>rfl
    |true=>have:=jG z q;rw[oV] at this;cases this
   refine⟨.inr (h1.elim (λe=>by rw[e];exact aex) λm=>z2f _ m),tr ax h2,λt ht=>?_⟩;rcases aev.mp ht with rfl |ht
   ·exact h2
   ·exact h3 t ht
  | false=>
   simp only[afm,if_false];obtain⟨h1,h2,h3⟩:=Dk (r:=r) (a:=a);refine⟨h1.imp id λm=>z2f _ m,h2,λt ht=>?_⟩;rcases aev.mp ht with rfl |ht
   ·exact tr q h2
   ·exact h3 t ht
theorem aao{ts:List (List Int)}(h:ts≠[]):jN ts∈ts/\∀t∈ts,c7 t (jN ts)=false:=by
 cases ts with
 |nil=>exact absurd rfl h
 | cons a r=>
  obtain⟨h1,h2,h3⟩:=Dk (r:=r) (a:=a);refine⟨h1.elim (λe=>by rw[jN,e];exact aex) λm=>z2f _ m,λt ht=>?_⟩;rcases aev.mp ht with rfl |ht
  ·exact h2
  ·exact h3 t ht
abbrev Pr:=Int×Int
def bp(cs:List Wy):Pr:=((jN (cs.map fl)).getD 0 0,(jN (cs.map fl)).getD 1 0)
def alike(m:Pr)(cs:List Wy):List Int:=(cs.filter λt=>decide (t.1=m.1) && decide (t.2.1=m.2)).map (·.2.2)
def goodW(cs:List Wy):List Wy:=if cs=[] then[] else[((bp cs).1,(bp cs).2,(alike (bp cs) cs).sum)]
theorem Dl:(goodW cs).length<=1:=by unfold goodW;split <;> simp
end
section
variable{w h:Nat}{T:Nat->Nat->Nat->Int}{M:Nat->Nat->Int}{f:Nat->Nat->Int}{m:Str}{ρ:aB}
theorem Om:∀cs:List Wy,pH (cs.map cX)=some (cs.map fl)
 |[]=>rfl
 | t::cs=>by
  rw[z1h,z1h];show (intsOf [.int t.1,.int t.2.1,.int t.2.2]).bind (λn=>(pH (cs.map cX)).map (n:: ·))=_;rw[Om cs];rfl
theorem abM{m:Pr}:(cs.filterMap λt=>if (decide (t.1=m.1) && decide (t.2.1=m.2))=true then some (D.int t.2.2) else none)=(alike m cs).map .int:=by
 unfold alike
 induction cs with
 |nil=>rfl
 | cons t cs ih=>
  cases q:(decide (t.1=m.1) && decide (t.2.1=m.2)) with
  |true=>rw[ai1 (b:=D.int t.2.2) (by simp only[q];rfl),List.filter_cons_of_pos (by simpa using q),z1h,z1h,ih]
  |false=>rw[ai0 (by simp only[q];rfl),List.filter_cons_of_neg (by simpa using q),ih]
theorem Kd(hl:cs.length<64):jJ [.lst (cs.map cX)]= .ok (bC (goodW cs)):=by
 by_cases hc:cs=[]
 ·subst hc;exact bA (dg (bV (cO (kI (ds:=[]) rfl)) (aR (d9 rfl))))
 ·have hcb:(cs.map cX).isEmpty=false:=by cases cs <;> simp_all
  obtain⟨h1,_⟩:=aao (ts:=cs.map fl) (by simpa using hc);obtain⟨t,ht,e⟩:=afu.mp h1;have eb:bp cs=(t.1,t.2.1):=by unfold bp;rw[<-e];rfl
  have em:Mh [.lst (cs.map cX)]= .ok (.tup [.int t.1,.int t.2.1,.int t.2.2]):=by
   rw[Mh,Om];show (if _ then _ else _)=_;rw[if_pos (by rw[z1g];exact List.length_pos_iff.mpr hc),<-e];rfl
  have eg:bC (goodW cs)= .lst [.tup [.int t.1,.int t.2.1,.int (alike (bp cs) cs).sum]]:=by unfold goodW;rw[if_neg hc,eb];rfl
  rw[eg];have es:jA (aH Mh (ak (gv 0) nA)) (λ_=> .ok none) (λρ=>(((ci 2):aB->R D) ρ).bind Gi) [vA (.lst (cs.map cX)),none,none,none]= .ok (.tup [.int t.1,.int t.2.1]):=by
   unfold jA;rw[aN (ao rfl) em];rfl
  refine bA (aD (aP ((cO (kI (ds:=cs.map cX) rfl)).trans (by rw[hcb];rfl)) rfl) (aD (bh es rfl) (aD (bh (d:= .lst ((alike (bp cs) cs).map .int)) ?_ rfl) (aR (d9 (ao (bU (aq rfl (aq rfl (ao (aN (ao rfl) ?_)))))))))))
  ·rw[<-abM];refine acP (c:=cX) (l:=cs) (iQ rfl) (by omega) λu hu=>?_;rw[eb];refine abL rfl ?_ rfl;by_cases q:u.1=t.1
   ·rw[decide_eq_true q,Bool.true_and];exact yu (aJ (au rfl rfl (by rw[jr,decide_eq_true q]))) (aJ (au rfl rfl jr))
   ·rw[decide_eq_false q,ah8];exact Lp (aJ (au rfl rfl (by rw[jr,decide_eq_false q])))
  ·have:=Uu (c:=λi:Int=>i) (l:=alike (bp cs) cs);simpa using this
theorem YM(hl:cs.length<64):dF [.int (x:Int),.lst (cs.map cX)]= .ok (bC (goodW cs)):=aZ (ao rfl) (Kd hl)
end
def sb(c:Int)(t:Wy):Wy:=(t.1 - c,t.2.1,t.2.2)
def fX(m:Int)(cs:List Wy):List Wy:=if m=1 then[] else (goodW cs).map (sb (dM m))
section
variable{w h a y:Nat}{T:Nat->Nat->Nat->Int}{M:Nat->Nat->Int}{ρ:aB}
theorem HS{l:List Wy}(hl:l.length<=1){m:Int}{e0 e2 e3 e4 e7:Option Ent}(ha:acc.length<=1000):
  V4 [e0,e1,e2,e3,e4,e5,some (.lst acc),e7,vA (.int m),vA (bC l),e10]= .nx [e0,e1,e2,e3,e4,e5,some (.lst (acc++[bC (l.map (sb (dM m)))])),e7,vA (.int m),vA (bC l),vA (.int (dM m))]:=by
 have e:(Ba (cC (bin (gv 8) (ci 2) fM)) (ci 1) (ci 0)) [e0,e1,e2,e3,e4,e5,some (.lst acc),e7,vA (.int m),vA (bC l),e10]= .ok (.int (dM m)):=by
  unfold dM;by_cases hm:m=2
  ·rw[if_pos hm];exact Ga (aJ (au rfl rfl (by rw[jr,decide_eq_true hm]))) rfl
  ·rw[if_neg hm];exact yP (aJ (au rfl rfl (by rw[jr,decide_eq_false hm]))) rfl
 refine aD (bh e rfl) ?_;have e2:bC (l.map (sb (dM m)))= .lst (l.map λt=>cX (sb (dM m) t)):=by unfold bC;rw[afc];rfl
 rw[e2];refine Rv (ds:=acc) (bF (c:=cX) (h:=λt=>cX (sb (dM m) t)) (l:=l) (iQ rfl) (by omega) λt ht=>?_) rfl (by omega);exact bL rfl (bU (aq (x:= .int (t.1 - dM m)) (au rfl rfl rfl) (aq rfl (ao rfl))))
inductive Di (w:Nat) (T:Nat->Nat->Nat->Int) (y:Nat):List D->(Nat->List Wy)->Prop
 |last:Di w T y [] λ_=>[(0,0,1)]
 |more (rs:List D) (C:Nat->List Wy):(∀p<w,(C p).length<=1)->Di w T y (rs++[.lst ((aee w).map λx=>bC (C x))]) (cands w C (T (y+1)))
theorem HW{rows:List D}{cs:Nat->List Wy}(B:Di w T y rows cs)(hy:rows≠[]->y+1<h)(hx:x<w)(hw:w<=20)(hl:(cs x).length<64){m:Int}{e6 e9:Option Ent}:
  V3 a dF [vA (tab w h T),e1,vA (.int 1),some (.obj (.fn a)),some (.lst rows),vA (.int (y:Int)),e6,vA (.int (x:Int)),vA (.int m),e9,e10] =
   .nx [vA (tab w h T),e1,vA (.int 1),some (.obj (.fn a)),some (.lst rows),vA (.int (y:Int)),e6,vA (.int (x:Int)),vA (.int m),vA (bC (if m=1 then[] else goodW (cs x))),e10]:=by
 have th:∀(u:Option Ent),Qi (vA (.int m))=vA (.int m):=λ_=>rfl;by_cases hm:m=1
 ·rw[if_pos hm];exact bV (aJ (au rfl rfl (by rw[jr,decide_eq_true hm]))) (bh (d9 rfl) rfl)
 ·rw[if_neg hm];refine aP (aJ (au rfl rfl (by rw[jr,decide_eq_false hm]))) ?_;cases B with
  | last=>
   refine bV (cO (kI (ds:=[]) rfl)) (bh (zJ rfl (aq rfl (ao (d9 (ao (bU (aq rfl (aq rfl (ao rfl)))))))) (YM (cs:=[(0,0,1)]) hl)) rfl)
  | more rs C hC=>
   have hy:=hy (by simp);refine aP (cO (kI (ds:=rs++[.lst ((aee w).map λx=>bC (C x))]) rfl) |>.trans (by simp)) (bh (zJ rfl (aq rfl (ao (aZ (aq (x:= .lst ((aee w).map λx=>bC (C x))) (YC rfl (k:= -1) rfl ?_) (aq (au rfl (au (x:= .int (y:Int)) (y:= .int 1) (r:= .ok (.int ((y+1:Nat):Int))) rfl rfl rfl) (iY (α:=D) hy)) (ao rfl))) (Dh (C:=C) (T:=T (y+1)) hx hw hC)))) (YM hl)) rfl);rw[cH];have:L2.atI (rs++[D.lst ((aee w).map λx=>bC (C x))]) (-1)=some (.lst ((aee w).map λx=>bC (C x))):=by
    unfold L2.atI ixN;rw[if_neg (by decide),if_pos (by simp;omega)];simp only[z1d,agr,aha];rw[show ((-1:Int)+((rs.length+1:Nat):Int)).toNat=rs.length by omega,aeT (z0g _)];simp
   rw[this]
end
def jh(w h:Nat)(T:Nat->Nat->Nat->Int)(M:Nat->Nat->Int):Nat->Nat->List Wy
 |0,_=>[(0,0,1)]
 |k+1,x=>cands w (λp=>fX (M (h - 1 - k) p) (jh w h T M k p)) (T (h - 1 - k)) x
def iw(w h:Nat)(T:Nat->Nat->Nat->Int)(M:Nat->Nat->Int)(k x:Nat):List Wy:=fX (M (h - 1 - k) x) (jh w h T M k x)
section
variable{w h a:Nat}{T:Nat->Nat->Nat->Int}{M:Nat->Nat->Int}{ρ:aB}
theorem jP{k:Nat}:jh w h T M (k+1) x=cands w (iw w h T M k) (T (h - 1 - k)) x:=rfl
theorem gY{m:Int}:(fX m cs).length<=1:=by
 unfold fX;split
 ·simp
 ·have:=Dl (cs:=cs);simpa using this
theorem Mr:∀{k x:Nat},(jh w h T M k x).length<64
 |0,_=>by simp[jh]
 | k+1,x=>by
  rw[jP];unfold cands;have:=vG (F:=λp=>(iw w h T M k p).map (dY (T (h - 1 - k) p (x+1 - p)))) (l:=nr w x) λp _=>by rw[z1g];exact gY
  have h2:=Ka (w:=w) (x:=x);omega
def jd(w h:Nat)(T:Nat->Nat->Nat->Int)(M:Nat->Nat->Int)(k:Nat):D:= .lst ((aee w).map λx=>bC (iw w h T M k x))
theorem yS{y:Nat}{rows:List D}{cs:Nat->List Wy}(B:Di w T y rows cs)(hy:rows≠[]->y+1<h)(hw:w<=20)(hl:∀x,(cs x).length<64){e1:Option Ent}:∀{xs:List Nat} {acc:List D} {e7 e8 e9 e10:Option Ent},(∀x∈xs,x<w)->acc.length+xs.length<=1000->
  ∃z7 z8 z9 j9,forL (dN (dO 2 (bw (aL 7) (bw (aL 8) nilG)))) (inW a dF) (xs.map λ(x:Nat)=>D.tup [.int (x:Int),.int (M y x)]) [vA (tab w h T),e1,vA (.int 1),some (.obj (.fn a)),some (.lst rows),vA (.int (y:Int)),some (.lst acc),e7,e8,e9,e10] =
   .nx [vA (tab w h T),e1,vA (.int 1),some (.obj (.fn a)),some (.lst rows),vA (.int (y:Int)),some (.lst (acc++xs.map λx=>bC (fX (M y x) (cs x)))),z7,z8,z9,j9]
 |[],acc,e7,e8,e9,e10,_,_=>⟨e7,e8,e9,e10,by simp[forL]⟩
 | x ::xs,acc,e7,e8,e9,e10,hx,hle=>by
  rw[aeC] at hle;have hxw:=hx x (by simp);obtain⟨z7,z8,z9,j9,e⟩:=yS B hy hw hl (e1:=e1) (xs:=xs) (acc:=acc++[bC (fX (M y x) (cs x))]) (e7:=vA (.int (x:Int))) (e8:=vA (.int (M y x))) (e9:=vA (bC (if M y x=1 then[] else goodW (cs x)))) (e10:=vA (.int (dM (M y x)))) (λq hq=>hx q (by simp[hq])) (by simp;omega);refine⟨z7,z8,z9,j9,gK rfl (aD (HW B hy hxw hw (hl x)) (HS ?_ (by omega) |>.trans ?_)) (e.trans ?_)⟩
  ·split
   ·simp
   ·have:=Dl (cs:=cs x);simpa using this
  ·have:fX (M y x) (cs x)=(if M y x=1 then[] else goodW (cs x)).map (sb (dM (M y x))):=by unfold fX;split <;> rfl
   rw[this]
  ·rw[z1h,afx];rfl
theorem RB{k y:Nat}(hk:k<h)(hy:y=h - 1 - k):Di w T y ((aee k).map (jd w h T M)) (jh w h T M k):=by
 cases k with
 |zero=>exact .last
 | succ k=>
  rw[ahs,af4];have e:jh w h T M (k+1)=cands w (iw w h T M k) (T (y+1)):=by
   funext x;rw[jP,show y+1=h - 1 - k by omega]
  rw[e];exact .more _ _ λp _=>gY
theorem RD{k y:Nat}(hk:k<h)(hy:y=h - 1 - k)(hh:h<=20)(hw:w<=20){e6 e7 e8 e9:Option Ent}:∃z6 z7 z8 z9 j9,Rt a dF [vA (tab w h T),vA (bH w h M),vA (.int 1),some (.obj (.fn a)),some (.lst ((aee k).map (jd w h T M))),vA (.int (y:Int)),e6,e7,e8,e9,e10] =
  .nx [vA (tab w h T),vA (bH w h M),vA (.int 1),some (.obj (.fn a)),some (.lst ((aee (k+1)).map (jd w h T M))),vA (.int (y:Int)),z6,z7,z8,z9,j9]:=by
 obtain⟨z7,z8,z9,j9,e⟩:=yS (h:=h) (a:=a) (M:=M) (e1:=vA (bH w h M)) (RB (w:=w) (T:=T) (M:=M) hk hy) (λhne=>by
  have:k≠0:=λz=>hne (by rw[z];rfl);omega) hw (λx=>Mr) (xs:=aee w) (acc:=[]) (e7:=e7) (e8:=e8) (e9:=e9) (e10:=e10) (λx hx=>z2e hx) (by simp;omega)
 refine⟨vA (.lst ([]++(aee w).map λx=>bC (fX (M y x) (jh w h T M k x)))),z7,z8,z9,j9,aD (mY rfl) (aD (lN (yO (ao (au rfl rfl (J6 (by omega)))) rfl) e) ((Vf (ds:=(aee k).map (jd w h T M)) (es:=[]++(aee w).map λx=>bC (fX (M y x) (jh w h T M k x))) rfl rfl (by rw[z1g,z2d];omega)).trans ?_))⟩;rw[ahs,af4];have er:((aee w).map λx=>bC (fX (M y x) (jh w h T M k x)))=(aee w).map λx=>bC (iw w h T M k x):=by
  refine afG λx _=>?_;unfold iw;rw[hy]
 simp only[ahu];rw[er];rfl
theorem vH(hh:h<=20)(hw:w<=20):∀{r k:Nat} {e5 e6 e7 e8 e9 e10:Option Ent},k+r=h->∃z5 z6 z7 z8 z9 j9,forL (aL 5) (Rt a dF) (dn r) [vA (tab w h T),vA (bH w h M),vA (.int 1),some (.obj (.fn a)),some (.lst ((aee k).map (jd w h T M))),e5,e6,e7,e8,e9,e10] =
  .nx [vA (tab w h T),vA (bH w h M),vA (.int 1),some (.obj (.fn a)),some (.lst ((aee h).map (jd w h T M))),z5,z6,z7,z8,z9,j9]
 |0,k,e5,e6,e7,e8,e9,e10,hk=>⟨e5,e6,e7,e8,e9,e10,by rw[show k=h by omega];rfl⟩
 | r+1,k,e5,e6,e7,e8,e9,e10,hk=>by
  obtain⟨y6,y7,y8,y9,y10,e1⟩:=RD (a:=a) (w:=w) (T:=T) (M:=M) (k:=k) (y:=r) (by omega) (by omega) hh hw (e6:=e6) (e7:=e7) (e8:=e8) (e9:=e9) (e10:=e10);obtain⟨z5,z6,z7,z8,z9,j9,e2⟩:=vH hh hw (r:=r) (k:=k+1) (e5:=vA (.int (r:Int))) (e6:=y6) (e7:=y7) (e8:=y8) (e9:=y9) (e10:=y10) (by omega);rw[Vh];exact⟨z5,z6,z7,z8,z9,j9,gK rfl e1 e2⟩
theorem HY(hh:h<=20)(hw:w<=20):mU a dF [tab w h T,bH w h M,.int 1]= .ok (.lst ((aee h).map (jd w h T M)).reverse):=by
 obtain⟨z5,z6,z7,z8,z9,j9,e⟩:=vH (a:=a) (w:=w) (T:=T) (M:=M) hh hw (r:=h) (k:=0) (e5:=none) (e6:=none) (e7:=none) (e8:=none) (e9:=none) (e10:=none) (by omega);have er:Hv [.int (h:Int)]= .ok (dn h):=by
  show (if _ then _ else _)=_;rw[if_pos (by omega)];rfl
 refine iu (aD (mY rfl) (aD (lN ?_ e) (aR ?_)))
 ·show ((ak (aH cT (ak (gv 1) nA)) nA) _).bind Hv=_;rw[ao (aN (ao rfl) uF)];exact er
 ·show FQ _ _=_;unfold FQ;rfl
end
section
variable{w h:Nat}{T:Nat->Nat->Nat->Int}{M:Nat->Nat->Int}{f:Nat->Nat->Int}{m:Str}{ρ:aB}
theorem Gd(hh:h<=20)(hw:w<=20):sU [tab w h T,bH w h M]= .ok (.lst ((aee h).map (jd w h T M)).reverse):=by
 refine iu ?_;show (match allOf (λx=>mU x dF [tab w h T,bH w h M,.int 1]) with | .ok r=>So.rt r |_=> .bad)=_;rw[Q7 λa=>HY hh hw]
end
section
variable{w h:Nat}{T:Nat->Nat->Nat->Int}{M:Nat->Nat->Int}
def topC(w h:Nat)(T:Nat->Nat->Nat->Int)(M:Nat->Nat->Int):List Wy:=(aee w).flatMap λx=>(iw w h T M (h - 1) x).map (dY (T 0 x 1))
theorem Ia:(topC w h T M).length<=w:=by
 have:=vG (F:=λx=>(iw w h T M (h - 1) x).map (dY (T 0 x 1))) (l:=aee w) λp _=>by rw[z1g];exact gY
 rw[z2d] at this;exact this
end
section
variable{w h:Nat}{T:Nat->Nat->Nat->Int}{M:Nat->Nat->Int}{f:Nat->Nat->Int}{m:Str}{ρ:aB}
theorem Ms(h1:1<=h){C:Nat->List Wy}(hx:x<w)(hC:(C x).length<=1)(hl:acc.length<=1000):
  Wf [vA (tab w h T),e1,some (.lst acc),vA (.int (x:Int)),vA (bC (C x)),e5]= .nx [vA (tab w h T),e1,some (.lst (acc++((C x).map (dY (T 0 x 1))).map cX)),vA (.int (x:Int)),vA (bC (C x)),vA (.int (T 0 x 1))]:=by
 have e0:gM [.lst ((aee w).map λx=>dX (T 0 x)),.int (x:Int),.int (x:Int)]= .ok (.int (T 0 x 1)):=by
  have:=mZ (T:=T 0 x) (p:=λx=>dX (T 0 x)) (a:=x) (b:=x) hx (by omega) (by omega) rfl
  rwa [show x+1 - x=1 by omega] at this
 refine aD (bh (aZ (aq (au rfl rfl (iY (α:=D) (x:=0) h1)) (aq rfl (ao rfl))) e0) rfl) ?_;refine (Gb (ds:=acc) rfl (bF (c:=cX) (h:=λt=>cX (dY (T 0 x 1) t)) (l:=C x) (iQ rfl) (by omega) λt ht=>?_) (by simp;omega)).trans ?_
 ·exact bL rfl (bU (aq rfl (aq (x:= .int (t.2.1+T 0 x 1)) (au rfl rfl rfl) (ao rfl))))
 ·rw[afc];rfl
theorem vJ(h1:1<=h){C:Nat->List Wy}(hC:∀p,(C p).length<=1){e1:Option Ent}:∀{ps:List Nat} {acc:List D} {e3 e4 e5:Option Ent},(∀p∈ps,p<w)->acc.length+ps.length<=1000->
  ∃z3 z4 z5,forL (dN (dO 2 (bw (aL 3) (bw (aL 4) nilG)))) Wf (ps.map λ(p:Nat)=>D.tup [.int (p:Int),bC (C p)]) [vA (tab w h T),e1,some (.lst acc),e3,e4,e5] =
   .nx [vA (tab w h T),e1,some (.lst (acc++(ps.flatMap λp=>(C p).map (dY (T 0 p 1))).map cX)),z3,z4,z5]
 |[],acc,e3,e4,e5,_,_=>⟨e3,e4,e5,by simp[forL]⟩
 | p::ps,acc,e3,e4,e5,hp,hl=>by
  rw[aeC] at hl;have Rx:=hp p (by simp);have hc:=hC p;obtain⟨z3,z4,z5,e⟩:=vJ h1 hC (e1:=e1) (ps:=ps) (acc:=acc++((C p).map (dY (T 0 p 1))).map cX) (e3:=vA (.int (p:Int))) (e4:=vA (bC (C p))) (e5:=vA (.int (T 0 p 1))) (λq hq=>hp q (by simp[hq])) (by simp;omega);refine⟨z3,z4,z5,gK rfl (Ms h1 Rx hc (by omega)) (e.trans ?_)⟩;rw[agV,af4,afx]
theorem xM(h1:1<=h)(hw:w<=20):pJ [tab w h T,.lst ((aee h).map λy=>jd w h T M (h - 1 - y))]= .ok (.lst ((topC w h T M).map cX)):=by
 obtain⟨z3,z4,z5,e⟩:=vJ (T:=T) h1 (C:=iw w h T M (h - 1)) (λp=>gY) (e1:=vA (.lst ((aee h).map λy=>jd w h T M (h - 1 - y)))) (ps:=aee w) (acc:=[]) (e3:=none) (e4:=none) (e5:=none) (λp hp=>z2e hp) (by simp;omega);exact bA (aD (mY rfl) (aD (lN (yO (p:=λp=>bC (iw w h T M (h - 1) p)) (ao (au rfl rfl (iY (α:=D) (x:=0) h1))) rfl) e) (aR rfl)))
theorem Ph{d:D}(hm:m= "worth"\/m= "joins")(o:Ok w h f)(e:fW [d,bH w h f]= .ok (bH w h M)):pL [bH w h f,.str m,d]= .ok (.int ((goodW (topC w h (tbl m w h f) M)).map (·.2.2)).sum):=by
 have hl:=Ia (w:=w) (h:=h) (T:=tbl m w h f) (M:=M);have hw2:=o.w2;have hg:=Dl (cs:=topC w h (tbl m w h f) M);have eb:=(Gd (T:=tbl m w h f) (M:=M) o.h2 o.w2).trans (by rw[Dj]);refine bA (aD (bh (aV (aq rfl (aq rfl (ao rfl))) (uG hm o e)) rfl) (aD (bh (aZ (ao (aZ (aq rfl (ao (aZ (aq rfl (ao rfl)) eb))) (xM o.h1 o.w2))) (Kd (by omega))) rfl) (aR (aN (ao (bF (c:=cX) (h:=λt=>D.int t.2.2) (l:=goodW (topC w h (tbl m w h f) M)) (iQ rfl) (by omega) λt ht=>?_)) Uu))));exact bL rfl rfl
end
end wQ.Q
namespace wQ
open PySem PySem.Spec L2 Pu
section
variable{ns:List Int}{w h k:Nat}{f M:Nat->Nat->Int}{T:Nat->Nat->Nat->Int}{m:Str}{s:Nat->Nat}{ρ:aB}
theorem acQ(hns:ns.length<=1000000):∃w h f,xK [.lst (ns.map .int),.int 0,.int 6,.int 5]= .ok (bH w h f)/\Ok w h f/\w<=6/\h<=5:=by
 obtain⟨e1,h1,h2⟩:=qX (k:=0) (m:=6) hns (by omega) (by omega);obtain⟨e2,h3,h4⟩:=qX (k:=0+1) (m:=5) hns (by omega) (by omega);obtain⟨w,hw⟩:=afM (show 0<=1+dr ns 0 6 by omega);obtain⟨h,hh⟩:=afM (show 0<=1+dr ns (0+1) 5 by omega);obtain⟨f,e,o⟩:=V5 (ns:=ns) (a:=0+2) (w:=w) (h:=h) hns (by omega) (by omega) (by omega) (by omega) (by omega);refine⟨w,h,f,bA (aR (aZ (aq rfl (aq (au rfl rfl rfl) (aq (au rfl (aZ (aq rfl (aq rfl (ao rfl))) e1) (congrArg (λz=>R.ok (D.int z)) hw)) (ao (au rfl (aZ (aq rfl (aq (au rfl rfl rfl) (ao rfl))) e2) (congrArg (λz=>R.ok (D.int z)) hh)))))) e)),o,by omega,by omega⟩
theorem free_eq(o:Ok w h f):xG [bH w h f]= .ok (bH w h λ_ _=>0):=by
 have ni:=o.h2;exact bA (aR (aN (ao (bF (c:=λy=>row w (f y)) (h:=λ_=>row w λ_=>0) (l:=aee h) (dW rfl) (by rw[z2d];omega) λy hy=>bL rfl (au (bU (ao rfl)) (aN (ao rfl) uE) (mul_one o.w1 o.w2)))) rfl))
theorem rP{u:aB->R D}{c:Str}(e:u (eE ρ)= .err c):retS u ρ= .ex c ρ:=by rw[retS,e];rfl
theorem adu{u:aB->R D}{g t:aB->So}{c:Str}(e:u (eE ρ)= .err c):dH (ju (cC u)) g t ρ= .ex c ρ:=by
 have:ju (cC u) (eE ρ)= .err c:=by rw[ju,cC,e];rfl
 rw[dH,this]
theorem qK{u g:aB->R D}(e:u ρ= .ok (.bl false)):nj u g ρ= .ok (.bl false):=by rw[nj,e];rfl
theorem yV{p q:aB->R Bool}(e1:p ρ= .ok true):Nb p q ρ= .ok true:=by rw[Nb,e1,R.bB,if_pos rfl]
theorem abN{sub:Str->Str->Bool}{u:Str}{i:Nat}{g t:aB->So}{ρ1:aB}(e:g ρ= .nx ρ1):Hs sub u i g t ρ= .nx ρ1:=by rw[Hs,e]
def zM(k:Nat)(p s m t:D):R D:=match k with
 |0=>wU [p,s,m] |1=>uf [p,s,m,t] |2=>pK [p,m,t] |3=>FW [p,m,t] |4=>pL [p,m,t] |5=>uc [p,s] |6=>JG [p,s] |_=>wV [p,s]
section
variable{p s m t d:D}{c:Str}{i:Int}
theorem abO:∀{k:Nat},k<8->zM k p s m t= .err c->pN [.int (k:Int),p,s,m,t]= .err c:=λ{k} hk e=>match k,hk with
 |0,_=>cF (cU (bV (aJ (au rfl rfl rfl)) (rP (gO (aq rfl (ao rfl)) (ao rfl) e))))
 |1,_=>cF (aD (aP (aJ (au rfl rfl rfl)) rfl) (cU (bV (aJ (au rfl rfl rfl)) (rP (gO (aq rfl (ao rfl)) (aq rfl (ao rfl)) e)))))
 |2,_=>cF (aD (aP (aJ (au rfl rfl rfl)) rfl) (aD (aP (aJ (au rfl rfl rfl)) rfl) (cU (bV (aJ (au rfl rfl rfl)) (rP (gO (ao rfl) (aq rfl (ao rfl)) e))))))
 |3,_=>cF (aD (aP (aJ (au rfl rfl rfl)) rfl) (aD (aP (aJ (au rfl rfl rfl)) rfl) (aD (aP (aJ (au rfl rfl rfl)) rfl) (cU (bV (aJ (au rfl rfl rfl)) (rP (gO (ao rfl) (aq rfl (ao rfl)) e)))))))
 |4,_=>cF (aD (aP (aJ (au rfl rfl rfl)) rfl) (aD (aP (aJ (au rfl rfl rfl)) rfl) (aD (aP (aJ (au rfl rfl rfl)) rfl) (aD (aP (aJ (au rfl rfl rfl)) rfl) (cU (bV (aJ (au rfl rfl rfl)) (rP (gO (ao rfl) (aq rfl (ao rfl)) e))))))))
 |5,_=>cF (aD (aP (aJ (au rfl rfl rfl)) rfl) (aD (aP (aJ (au rfl rfl rfl)) rfl) (aD (aP (aJ (au rfl rfl rfl)) rfl) (aD (aP (aJ (au rfl rfl rfl)) rfl) (aD (aP (aJ (au rfl rfl rfl)) rfl) (cU (bV (aJ (au rfl rfl rfl)) (rP (aV (aq rfl (ao rfl)) e)))))))))
 |6,_=>cF (aD (aP (aJ (au rfl rfl rfl)) rfl) (aD (aP (aJ (au rfl rfl rfl)) rfl) (aD (aP (aJ (au rfl rfl rfl)) rfl) (aD (aP (aJ (au rfl rfl rfl)) rfl) (aD (aP (aJ (au rfl rfl rfl)) rfl) (aD (aP (aJ (au rfl rfl rfl)) rfl) (rP (Ga (aJ (au rfl rfl rfl)) (aV (aq rfl (ao rfl)) e)))))))))
 |7,_=>cF (aD (aP (aJ (au rfl rfl rfl)) rfl) (aD (aP (aJ (au rfl rfl rfl)) rfl) (aD (aP (aJ (au rfl rfl rfl)) rfl) (aD (aP (aJ (au rfl rfl rfl)) rfl) (aD (aP (aJ (au rfl rfl rfl)) rfl) (aD (aP (aJ (au rfl rfl rfl)) rfl) (rP (yP (aJ (au rfl rfl rfl)) (aV (aq rfl (ao rfl)) e)))))))))
theorem acR:∀{k:Nat},k<8->zM k p s m t= .ok d->pN [.int (k:Int),p,s,m,t]= .ok d:=λ{k} hk e=>match k,hk with
 |0,_=>bA (dg (bV (aJ (au rfl rfl rfl)) (aR (gO (aq rfl (ao rfl)) (ao rfl) e))))
 |1,_=>bA (aD (aP (aJ (au rfl rfl rfl)) rfl) (dg (bV (aJ (au rfl rfl rfl)) (aR (gO (aq rfl (ao rfl)) (aq rfl (ao rfl)) e)))))
 |2,_=>bA (aD (aP (aJ (au rfl rfl rfl)) rfl) (aD (aP (aJ (au rfl rfl rfl)) rfl) (dg (bV (aJ (au rfl rfl rfl)) (aR (gO (ao rfl) (aq rfl (ao rfl)) e))))))
 |3,_=>bA (aD (aP (aJ (au rfl rfl rfl)) rfl) (aD (aP (aJ (au rfl rfl rfl)) rfl) (aD (aP (aJ (au rfl rfl rfl)) rfl) (dg (bV (aJ (au rfl rfl rfl)) (aR (gO (ao rfl) (aq rfl (ao rfl)) e)))))))
 |4,_=>bA (aD (aP (aJ (au rfl rfl rfl)) rfl) (aD (aP (aJ (au rfl rfl rfl)) rfl) (aD (aP (aJ (au rfl rfl rfl)) rfl) (aD (aP (aJ (au rfl rfl rfl)) rfl) (dg (bV (aJ (au rfl rfl rfl)) (aR (gO (ao rfl) (aq rfl (ao rfl)) e))))))))
 |5,_=>bA (aD (aP (aJ (au rfl rfl rfl)) rfl) (aD (aP (aJ (au rfl rfl rfl)) rfl) (aD (aP (aJ (au rfl rfl rfl)) rfl) (aD (aP (aJ (au rfl rfl rfl)) rfl) (aD (aP (aJ (au rfl rfl rfl)) rfl) (dg (bV (aJ (au rfl rfl rfl)) (aR (aV (aq rfl (ao rfl)) e)))))))))
 |6,_=>bA (aD (aP (aJ (au rfl rfl rfl)) rfl) (aD (aP (aJ (au rfl rfl rfl)) rfl) (aD (aP (aJ (au rfl rfl rfl)) rfl) (aD (aP (aJ (au rfl rfl rfl)) rfl) (aD (aP (aJ (au rfl rfl rfl)) rfl) (aD (aP (aJ (au rfl rfl rfl)) rfl) (aR (Ga (aJ (au rfl rfl rfl)) (aV (aq rfl (ao rfl)) e)))))))))
 |7,_=>bA (aD (aP (aJ (au rfl rfl rfl)) rfl) (aD (aP (aJ (au rfl rfl rfl)) rfl) (aD (aP (aJ (au rfl rfl rfl)) rfl) (aD (aP (aJ (au rfl rfl rfl)) rfl) (aD (aP (aJ (au rfl rfl rfl)) rfl) (aD (aP (aJ (au rfl rfl rfl)) rfl) (aR (yP (aJ (au rfl rfl rfl)) (aV (aq rfl (ao rfl)) e)))))))))
inductive Cd:Str->Int->Prop
 |a:Cd "NoPicture" 0 |b:Cd "NoManner" 1 |c:Cd "NoMarks" 2 |d:Cd "NoSeam" 3 |e:Cd "NoCells" 4
def hdB:aB->So:=(aQ (bD (fB (ak (lC cu 5 "NoPicture") (ak (lC cu 5 "NoManner") (ak (lC cu 5 "NoMarks") nA)))) (aL 6)) (aQ (bD (bin (gv 6) (fB (ak (lC cu 5 "NoSeam") (ak (lC cu 5 "NoCells") nA))) eX) (aL 6)) (retS (Ba (cC (bin (Z7 (gv 6) (λ_=> .ok (.bl true))) (ci 1) fM)) (aac (gv 6) (λ_=> .ok (.bl true))) (Lr (ci 1))))))
theorem hand{e0 e1 e2 e3 e4:Option Ent}(h:Cd c i):hdB [e0,e1,e2,e3,e4,some (.obj (.exc c)),none]= .rt (.int i):=by
 cases h <;> exact aD (bh (d9 (aq (vg rfl (by decide)) (aq (vg rfl (by decide)) (ao (vg rfl (by decide)))))) rfl) (aD (bh (au rfl (d9 (aq (vg rfl (by decide)) (ao (vg rfl (by decide))))) rfl) rfl) (aR (by rfl)))
theorem Vk(h:Cd c i):cu c "SeamError" =true:=by cases h <;> decide
theorem Ke(hk:k<8)(h:Cd c i)(e:zM k p s m t= .err c):dJ [.int (k:Int),p,s,m,t]= .ok (.int i):=by
 refine iu (dg (X7 (c:=c) (ρ1:=[vA (.int (k:Int)),vA p,vA s,vA m,vA t,none,none]) (aP (aJ (au rfl rfl (by rw[jr,decide_eq_false (by omega)]))) (gw (aV (aq rfl (aq rfl (aq rfl (aq rfl (ao rfl))))) (abO hk e)))) (Vk h) (hand h)))
theorem RL(h:Cd c i)(e:jg [p,s,m]= .err c):dJ [.int 8,p,s,m,t]= .ok (.int i):=
 iu (dg (X7 (c:=c) (ρ1:=[vA (.int 8),vA p,vA s,vA m,vA t,none,none]) (bV (aJ (au rfl rfl rfl)) (gw (aV (aq rfl (aq rfl (ao rfl))) e))) (Vk h) (hand h)))
theorem adv(hk:k<8)(e:zM k p s m t= .ok d):dJ [.int (k:Int),p,s,m,t]= .ok .non:=by
 have e1:(dH (cC (bin (gv 0) (ci 8) fM)) (gP (cG jg 3 0 [] (ak (gv 1) (ak (gv 2) (ak (gv 3) nA))) nA)) (gP (cG pN 5 0 [] (ak (gv 0) (ak (gv 1) (ak (gv 2) (ak (gv 3) (ak (gv 4) nA))))) nA))) [vA (.int (k:Int)),vA p,vA s,vA m,vA t,none,none]= .nx [vA (.int (k:Int)),vA p,vA s,vA m,vA t,none,none]:=
  aP (aJ (au rfl rfl (by rw[jr,decide_eq_false (by omega)]))) (eY (aV (aq rfl (aq rfl (aq rfl (aq rfl (ao rfl))))) (acR hk e)))
 exact iu (aD (abN e1) (aR rfl))
end
section
variable{p s m t:D}
theorem Dm(z:eN [p]= .ok (.bl false)):iR [p]= .err "NoPicture" :=cF (ρ1:=[vA p]) (bV (cO (b:=false) (aJ (aZ (ao rfl) z))) rfl)
theorem Oo(z:eN [p]= .ok (.bl false)):lY [p]= .err "NoPicture" :=cF (cU (gw (aV (ao rfl) (Dm z))))
theorem zN(z:eN [p]= .ok (.bl false)):gA [s,p]= .err "NoPicture" :=
 cF (adu (aV (aq rfl (ao rfl)) (cF (cU (lV (aV (ao rfl) (Oo z)))))))
theorem wX(z:eN [p]= .ok (.bl false)):gB [p,m,t]= .err "NoPicture" :=cF (cU (gw (aV (ao rfl) (Dm z))))
theorem aap(z:eN [p]= .ok (.bl false)):∀k,k<8->zM k p s m t= .err "NoPicture"
 |0,_=>cF (cU (gw (aV (ao rfl) (Dm z))))
 |1,_=>cF (cU (lV (aV (aq rfl (aq rfl (ao rfl))) (wX z))))
 |2,_=>cF (cU (lV (aV (aq rfl (aq rfl (ao rfl))) (wX z))))
 |3,_=>cF (cU (lV (aV (aq rfl (aq rfl (ao rfl))) (wX z))))
 |4,_=>cF (cU (lV (aV (aq rfl (aq rfl (ao rfl))) (wX z))))
 |5,_=>cF (cU (gw (aV (aq rfl (ao rfl)) (zN z))))
 |6,_=>cF (cU (gw (aV (aq rfl (ao rfl)) (zN z))))
 |7,_=>cF (cU (gw (aV (aq rfl (ao rfl)) (zN z))))
theorem aaq(z:eN [p]= .ok (.bl false)):jg [p,s,m]= .err "NoPicture" :=cF (cU (lV (aV (ao rfl) (Oo z))))
abbrev YQ(m:D):Prop:=JB m (.tup [.str "worth",.str "joins"])= .ok (.bl true)
theorem Vl(z:YQ m):j7 [m]= .err "NoManner" :=cF (ρ1:=[vA m]) (bV (aJ (au rfl rfl z)) rfl)
theorem YS(o:Ok w h f)(z:YQ m):gB [bH w h f,m,t]= .err "NoManner" :=
 cF (aD (eY (aV (ao rfl) (qJ o))) (cU (gw (aV (ao rfl) (Vl z)))))
theorem RM{c:Str}(e:gB [p,m,t]= .err c):∀k,1<=k->k<5->zM k p s m t= .err c
 |1,_,_=>cF (cU (lV (aV (aq rfl (aq rfl (ao rfl))) e)))
 |2,_,_=>cF (cU (lV (aV (aq rfl (aq rfl (ao rfl))) e)))
 |3,_,_=>cF (cU (lV (aV (aq rfl (aq rfl (ao rfl))) e)))
 |4,_,_=>cF (cU (lV (aV (aq rfl (aq rfl (ao rfl))) e)))
theorem aar(o:Ok w h f)(z:YQ m)(k:Nat)(hk:k<5):zM k (bH w h f) s m t= .err "NoManner" :=by
 cases k with
 |zero=>exact cF (aD (eY (aV (ao rfl) (qJ o))) (cU (gw (aV (ao rfl) (Vl z)))))
 |succ k=>exact RM (YS o z) (k+1) (by omega) hk
abbrev NoK(w h:Nat)(f:Nat->Nat->Int)(t:D):Prop:=isD t .non= .ok (.bl false)/\mW [t,bH w h f]= .ok (.bl false)
theorem aas(z:NoK w h f t):fW [t,bH w h f]= .err "NoMarks" :=
 cF (ρ1:=[vA t,vA (bH w h f)]) (aD (aP (aJ (au rfl rfl z.1)) rfl) (cU (bV (cO (b:=false) (aJ (aZ (aq rfl (ao rfl)) z.2))) rfl)))
theorem YT{n:Str}(hn:n= "worth"\/n= "joins")(o:Ok w h f)(z:NoK w h f t):gB [bH w h f,.str n,t]= .err "NoMarks" :=
 cF (aD (eY (aV (ao rfl) (qJ o))) (aD (eY (aV (ao rfl) (m7 hn))) (cU (lV (aV (aq rfl (ao rfl)) (aas z))))))
theorem rQ(o:Ok w h f)(z:gW [s,.int (w:Int),.int (h:Int)]= .ok (.bl false)):gA [s,bH w h f]= .err "NoSeam" :=
 cF (ρ1:=[vA s,vA (bH w h f)]) (bV (cO (b:=false) (aJ (aV (aq rfl (ao rfl)) (bA (aD (bh (aV (ao rfl) (size_eq o)) rfl) (aR (aZ (aq rfl (aq rfl (ao rfl))) z))))))) rfl)
theorem aat(o:Ok w h f)(z:gW [s,.int (w:Int),.int (h:Int)]= .ok (.bl false)):∀k∈[0,1,5,6,7],zM k (bH w h f) s (.str "worth") (bH w h λ_ _=>0)= .err "NoSeam" :=by
 intro k hk;simp only[aev,aeU,or_false] at hk;rcases hk with rfl |rfl |rfl |rfl |rfl
 ·exact cF (aD (eY (aV (ao rfl) (qJ o))) (aD (eY (aV (ao rfl) (m7 (.inl rfl)))) (cU (gw (aV (aq rfl (ao rfl)) (rQ o z))))))
 ·exact cF (aD (bh (aV (aq rfl (aq rfl (ao rfl))) (uG (.inl rfl) o (YF o λ_ _=>⟨Int.le_refl 0,(by decide:(0:Int)<=2)⟩))) rfl) (cU (gw (aV (aq rfl (ao rfl)) (rQ o z)))))
 ·exact cF (cU (gw (aV (aq rfl (ao rfl)) (rQ o z))))
 ·exact cF (cU (gw (aV (aq rfl (ao rfl)) (rQ o z))))
 ·exact cF (cU (gw (aV (aq rfl (ao rfl)) (rQ o z))))
theorem aau(o:Ok w h f)(z:gW [s,.int ((w+1:Nat):Int),.int (h:Int)]= .ok (.bl false)):jg [bH w h f,s,m]= .err "NoSeam" :=
 cF (aD (bh (aV (ao rfl) (size_eq o)) rfl) (cU (ρ1:=[vA (bH w h f),vA s,vA m,vA (.int (w:Int)),vA (.int (h:Int))]) (bV (cO (b:=false) (aJ (aZ (aq rfl (aq (x:= .int ((w+1:Nat):Int)) (au rfl rfl rfl) (ao rfl))) z))) rfl)))
theorem aav{g:Nat->Nat}(o:Ok w h f)(q:nu (w+1) h g)(z:mX [m,.int (h:Int)]= .ok (.bl false)):jg [bH w h f,sm h g,m]= .err "NoCells" :=
 cF (aD (bh (aV (ao rfl) (size_eq o)) rfl) (aD (aP (cO (b:=true) (aJ (aZ (aq rfl (aq (x:= .int ((w+1:Nat):Int)) (au rfl rfl rfl) (ao rfl))) (Dg q o.h2)))) rfl) (cU (ρ1:=[vA (bH w h f),vA (sm h g),vA m,vA (.int (w:Int)),vA (.int (h:Int))]) (bV (cO (b:=false) (aJ (aZ (aq rfl (ao rfl)) z))) rfl))))
end
theorem Ib{α:Type}{c:α->Bool}:∀{l:List α},boolsOf (l.map λa=>D.bl (c a))=some (l.map c)
 |[]=>rfl
 | a::l=>by
  show (boolsOf (l.map λa=>D.bl (c a))).map (c a:: ·)=_;rw[Ib];rfl
theorem qL(o:Ok w h f):RJ w h (λ_ _=>0) λ_=>0:=⟨⟨λ_ _=>o.w1,λ_ _=>⟨by omega,by omega⟩⟩,λ_ _=>by decide⟩
theorem TF(o:Ok w h f):∃d,uf [bH w h f,sm h λ_=>0,.str "worth",.non]= .ok d:=by
 have oh:=o.h2;have ow:=o.w2;have YW:=o.w1;have q:=qL o;rcases least (w:=w) (T:=tbl "worth" w h f) (M:=λ_ _=>0) o.h1 with⟨_,no⟩ |⟨g,e,_⟩
 ·exact absurd q (no _)
 ·have ef:=yU (w:=w) (h:=h) (T:=tbl "worth" w h f) (M:=λ_ _=>0) o.h1 oh ow;rw[e] at ef;have ek:vC [sm h λ_=>0,bH w h λ_ _=>0]= .ok (.bl false):=by
   refine bA (aR (aN (ao (bF (c:=λy=> .tup [row w λ_=>0,.int ((0:Nat):Int)]) (h:=λ_=> .bl false) (l:=aee h) (FZ (aq rfl (ao rfl)) rfl rfl) (by rw[z2d];omega) λy _=>bL rfl (au (au rfl rfl (lZ (x:=0) YW)) rfl rfl))) ?_));show (match boolsOf ((aee h).map λ_=>D.bl false) with |some bs=>R.ok (D.bl (bs.any id)) |none=> .bad)=_;rw[Ib (c:=λ_=>false)];show R.ok (D.bl (((aee h).map λ_=>false).any id))=_;rw[List.any_map,List.any_eq_false.mpr λ_ _ z=>by cases z]
  have eg:vB [bH w h λ_ _=>0]= .ok (bH w h λ_ _=>0):=
   bA (aR (aN (ao (bF (c:=λ_=>row w λ_=>0) (h:=λ_=>row w λ_=>0) (l:=aee h) (dW rfl) (by rw[z2d];omega) λy _=>bL rfl (aN (ao (bF (c:=λ_=> .int 0) (h:=λ_=> .int 0) (l:=aee w) (dW rfl) (by rw[z2d];omega) λx _=>bL rfl (yP (aJ (au rfl rfl rfl)) rfl))) rfl))) rfl))
  refine⟨.bl (decide (cost h (tbl "worth" w h f) (λ_=>0)=cost h (tbl "worth" w h f) g)),bA (aD (bh (aV (aq rfl (aq rfl (ao rfl))) (uG (.inl rfl) o (wW o))) rfl) ?_)⟩;refine aD (eY (aV (aq rfl (ao rfl)) (jB o q.sm))) ?_;refine aD (aP (aJ (aZ (aq rfl (ao rfl)) ek)) rfl) ?_;refine aD (bh (d:=cX (wS (tbl "worth" w h f) (λ_ _=>0) h g)) (au (aZ (aq rfl (aq (aZ (ao rfl) eg) (ao rfl))) ef) rfl (Jf (i:=0) rfl)) rfl) ?_;exact aR (au (aZ (aq rfl (ao rfl)) (Gy o.h1 oh q.sm)) rfl jr)
theorem abP(o:Ok w h f)(w6:w<=6):∀k,k<8->∃d,zM k (bH w h f) (sm h λ_=>0) (.str "worth") .non= .ok d
 |0,_=>⟨_,Wa (.inl rfl) o (qL o).sm⟩
 |1,_=>TF o
 |2,_=>⟨_,Pg (.inl rfl) o (wW o)⟩
 |3,_=>⟨_,aan (.inl rfl) o (wW o)⟩
 |4,_=>⟨_,Q.Ph (.inl rfl) o (wW o)⟩
 |5,_=>⟨_,Tt o (qL o).sm⟩
 | 6,_=>by
  by_cases c:w=1
  ·exact⟨_,abG o (qL o).sm c⟩
  ·exact⟨_,acI o (qL o).sm (by have:=o.w1;omega)⟩
 |7,_=>⟨_,V8 o (qL o).sm (by omega)⟩
theorem adw{α:Type}{c:α->Bool}{l:List α}:nq [.lst (l.map λa=> .bl (c a))]= .ok (.bl (l.all c)):=by
 rw[nq,Ib];show R.ok (D.bl ((l.map c).all id))=_;rw[List.all_map];rfl
theorem Dn{n:Nat}(h1:1<=n):nq [.lst ((aee n).map λ_=> .bl false)]= .ok (.bl false):=by
 rw[adw (c:=λ_=>false),List.all_eq_false.mpr ⟨0,ahB.mpr h1,by decide⟩]
theorem abQ{ds:List D}{n:Int}(hl:ds.length≠h):gW [.tup ds,.int n,.int (h:Int)]= .ok (.bl false):=
 bA (dg (bV (vd (cO (b:=true) (aJ rfl)) (aJ (au (aN (ao rfl) rfl) rfl (Wb.trans (by rw[decide_eq_false (by omega)];rfl))))) (aR rfl)))
theorem YX{d:D}{n:Int}(h1:1<=h)(ni:h<=20)(hd:nj (aH (aY jO 1) (ak (gv 0) nA)) (IW (ci 0) (gv 0) (gv 1) wF ltI) [vA d,vA (.int n)]= .ok (.bl false)):gW [.tup ((aee h).map λ_=>d),.int n,.int (h:Int)]= .ok (.bl false):=
 bA (aD (aP (vd (cO (b:=true) (aJ rfl)) (aJ (au (aN (ao rfl) rfl) rfl (yL (by rw[z1g,z2d]))))) rfl) (dg (bV (cO (b:=false) (aJ (aN (ao (bF (c:=λ_=>d) (h:=λ_=> .bl false) (l:=aee h) (dW rfl) (by rw[z2d];omega) λy _=>bL rfl hd)) (Dn h1)))) (aR rfl))))
theorem aaS{i j:Int}(h:j<i):wF (.int i) (.int j)= .ok (.bl false):=by rw[acH,decide_eq_false (by omega)]
theorem adx{i j:Int}(h:j<=i):ltI (.int i) (.int j)= .ok (.bl false):=by show R.ok (D.bl (decide (i<j)))=_;rw[decide_eq_false (by omega)]
theorem Vm{sd:D}{n:Nat}(h1:1<=h)(ni:h<=20)(hn:n=w\/n=w+1)(hs:sd∈[D.non,.tup (((aee h).map λ_=> .int 0)++[.int 0]),.tup ((aee h).map λ_=> .int ((w+1:Nat):Int)),.lst ((aee h).map λ_=> .int 0),.tup ((aee h).map λ_=> .non),.int (-1)]):gW [sd,.int (n:Int),.int (h:Int)]= .ok (.bl false):=by
 simp only[aev,aeU,or_false] at hs;rcases hs with rfl |rfl |rfl |rfl |rfl |rfl
 ·exact bA (dg (bV (yV (cO (b:=false) (aJ rfl))) (aR rfl)))
 ·exact abQ (by rw[z1d,z1g,z2d];simp)
 ·exact YX h1 ni (fH (aZ (ao rfl) nR) (u9 rfl rfl (ug (by omega)) rfl (adx (by omega))))
 ·exact bA (dg (bV (yV (cO (b:=false) (aJ rfl))) (aR rfl)))
 ·exact YX h1 ni (qK (aZ (ao rfl) rfl))
 ·exact bA (dg (bV (yV (cO (b:=false) (aJ rfl))) (aR rfl)))
theorem aaT{i j:Int}(h:i≠j):fM (.int i) (.int j)= .ok (.bl false):=by rw[jr,decide_eq_false h]
theorem aaw{cd:D}(h1:1<=h)(ni:h<=20)(hs:cd∈[D.non,.tup ((aee (h+1)).map λ_=> .int 0),.tup ((aee h).map λ_=> .int 100),.lst ((aee h).map λ_=> .int 0),.tup ((aee h).map λ_=> .non),.int 7]):mX [cd,.int (h:Int)]= .ok (.bl false):=by
 have ln:∀d:D,aH cT (ak (gv 0) nA) (eE [vA (.tup ((aee h).map λ_=>d)),vA (.int (h:Int))])= .ok (.int (h:Int)):=λd=>aN (ao rfl) (by show R.ok (D.int (((aee h).map λ_=>d).length:Int))=_;rw[z1g,z2d]);simp only[aev,aeU,or_false] at hs;rcases hs with rfl |rfl |rfl |rfl |rfl |rfl
 ·exact bA (aR (qK rfl))
 ·exact bA (aR (fH rfl (qK (au (aN (ao rfl) rfl) rfl (aaT (by rw[z1g,z2d];omega))))))
 ·exact bA (aR (fH rfl (fH (au (ln _) rfl (u6 rfl (by simp[dep]))) (aN (ao (bF (c:=λ_=> .int 100) (h:=λ_=> .bl false) (l:=aee h) (dW rfl) (by rw[z2d];omega) λy _=>bL rfl (aZ (ao rfl) (bA (aR (fH (aZ (ao rfl) nR) (u9 rfl rfl (ug (by omega)) rfl (aaS (by omega))))))))) (Dn h1)))))
 ·exact bA (aR (qK rfl))
 ·exact bA (aR (fH rfl (fH (au (ln _) rfl (u6 rfl (by simp[dep]))) (aN (ao (bF (c:=λ_=> .non) (h:=λ_=> .bl false) (l:=aee h) (dW rfl) (by rw[z2d];omega) λy _=>bL rfl (aZ (ao rfl) (bA (aR (qK (aZ (ao rfl) rfl))))))) (Dn h1)))))
 ·exact bA (aR (qK rfl))
theorem Oq{ds:List D}(o:Ok w h f)(hl:ds.length≠h):mW [.tup ds,bH w h f]= .ok (.bl false):=
 bA (dg (bV (vd (cO (b:=true) (aJ rfl)) (aJ (au (aN (ao rfl) rfl) (aN (ao rfl) rfl) (Wb.trans (by rw[z1g,z2d,decide_eq_false (by omega)];rfl))))) (aR rfl)))
theorem Kf{d:D}(o:Ok w h f)(hd:mV [d,.int (w:Int)]= .ok (.bl false)):mW [.tup ((aee h).map λ_=>d),bH w h f]= .ok (.bl false):=
 bA (aD (aP (vd (cO (b:=true) (aJ rfl)) (aJ (au (aN (ao rfl) rfl) (aN (ao rfl) rfl) (yL (by rw[z1g,z1g]))))) rfl) (aR (aN (ao (bF (c:=λ_=>d) (h:=λ_=> .bl false) (l:=aee h) (dW rfl) (by rw[z2d];have:=o.h2;omega) λy _=>bL rfl (aZ (aq rfl (ao (len0 o rfl))) hd))) (Dn o.h1))))
theorem aax{td:D}(o:Ok w h f)(hs:td∈[D.int 7,.tup [],.tup (((aee h).map λ_=>row w λ_=>0)++((aee h).map λ_=>row w λ_=>0).take 1),.tup ((aee h).map λ_=> .tup ((aee w).map λ_=> .int 3)),.tup ((aee h).map λ_=> .tup ((aee (w+1)).map λ_=> .int 0)),.lst [bH w h λ_ _=>0]]):NoK w h f td:=by
 have yW:=o.h1;have YW:=o.w1;have ow:=o.w2;simp only[aev,aeU,or_false] at hs;rcases hs with rfl |rfl |rfl |rfl |rfl |rfl
 ·exact⟨rfl,bA (dg (bV (yV (cO (b:=false) (aJ rfl))) (aR rfl)))⟩
 ·exact⟨rfl,Oq o (by rw[afQ];omega)⟩
 ·exact⟨rfl,Oq o (by rw[z1d,agF,z1g,z2d];omega)⟩
 ·refine⟨rfl,Kf o (bA (aR (fH rfl (fH (au (aN (ao rfl) rfl) rfl (u6 (by rw[z1g,z2d]) (by simp[dep]))) (aN (ao (bF (c:=λ_=> .int 3) (h:=λ_=> .bl false) (l:=aee w) (dW rfl) (by rw[z2d];omega) λy _=>bL rfl (aZ (ao rfl) (bA (aR (fH (aZ (ao rfl) nR) (u9 rfl rfl (ug (by omega)) rfl (aaS (by omega))))))))) (Dn YW))))))⟩
 ·exact⟨rfl,Kf o (bA (aR (fH rfl (qK (au (aN (ao rfl) rfl) rfl (aaT (by rw[z1g,z2d];omega)))))))⟩
 ·exact⟨rfl,bA (dg (bV (yV (cO (b:=false) (aJ rfl))) (aR rfl)))⟩
theorem acS{pd:D}(hs:pd∈[D.non,.tup [],.lst ((aee h).map λy=>row w (f y)),.tup [.tup [.int 100]],.tup [.tup [.int 1],.tup [.int 1,.int 2]],.int 7]):eN [pd]= .ok (.bl false):=by
 simp only[aev,aeU,or_false] at hs;rcases hs with rfl |rfl |rfl |rfl |rfl |rfl
 ·rfl
 ·rfl
 ·rfl
 ·kernel_rfl
 ·kernel_rfl
 ·rfl
theorem acT{md:D}(hs:md∈[D.non,.str "",.str "worths",.int 0,.tup [.str "worth"],.bl true]):YQ md:=by
 simp only[aev,aeU,or_false] at hs;rcases hs with rfl |rfl |rfl |rfl |rfl |rfl <;> kernel_rfl
theorem vK{α:Type}{c:α->D}{l:List α}(hc:∀a∈l,dep (c a)<=1):dep (.lst (l.map c))<=40:=by
 rw[dep];have:=Ln (c:=c) (n:=1) (l:=l) hc;omega
theorem qM{d:D}{n:Nat}(h1:1<=n)(ni:n<=20):mulL (.lst [d]) (.int (n:Int))= .ok (.lst ((aee n).map λ_=>d)):=by
 rw[mulL,if_pos ⟨by simp,by omega,by omega,by rw[agx];simp;omega⟩,agx,List.flatten_replicate_singleton];refine congrArg (λz=>R.ok (D.lst z)) (aiY (by simp) λi h1 h2=>?_);simp
def ad0:aB->So:=(aQ (dH (cC (bin (bJ 1 [7,8,6,9] (λρ=>((ak (ci 9) nA) ρ).bind jm) (aL 0) tT (aH (aY dJ 5) (ak (gv 0) (ak (gv 3) (ak (gv 4) (ak (gv 1) (ak (gv 2) nA))))))) (bin (fB (ak (ci 0) nA)) (ci 9) mulL) jF)) (retS (λ_=> .ok (.bl false))) So.nx) (aQ (dH (cC (bin (bJ 1 [7,8,9,1] (λρ=>((ak (ci 5) nA) ρ).bind jm) (aL 0) tT (aH (aY dJ 5) (ak (gv 0) (ak (gv 4) (ak (gv 3) (ak (gv 1) (ak (gv 2) nA))))))) (bin (fB (ak (ci 1) nA)) (ci 5) mulL) jF)) (retS (λ_=> .ok (.bl false))) So.nx) (aQ (dH (cC (bin (bJ 1 [8,9,1] (eU (cY (ak (ci 1) (ak (ci 2) (ak (ci 3) (ak (ci 4) nA)))))) (aL 0) tT (aH (aY dJ 5) (ak (gv 0) (ak (gv 3) (ak (gv 2) (ak (λ_=> .ok (.str "joins")) (ak (gv 1) nA))))))) (bin (fB (ak (ci 2) nA)) (ci 4) mulL) jF)) (retS (λ_=> .ok (.bl false))) So.nx) (aQ (dH (cC (bin (bJ 1 [4,9,1] (eU (cY (ak (ci 0) (ak (ci 1) (ak (ci 5) (ak (ci 6) (ak (ci 7) nA))))))) (aL 0) tT (aH (aY dJ 5) (ak (gv 0) (ak (gv 3) (ak (gv 2) (ak (λ_=> .ok (.str "worth")) (ak (gv 1) nA))))))) (bin (fB (ak (ci 3) nA)) (ci 5) mulL) jF)) (retS (λ_=> .ok (.bl false))) So.nx) (aQ (dH (cC (bin (aH (aY dJ 5) (ak (ci 8) (ak (gv 1) (ak (gv 9) (ak (gv 10) (ak (λ_=> .ok .non) nA)))))) (ci 3) jF)) (retS (λ_=> .ok (.bl false))) So.nx) (aQ (dH (cC (bin (aH (aY dJ 5) (ak (ci 8) (ak (gv 1) (ak (gv 5) (ak (gv 10) (ak (λ_=> .ok .non) nA)))))) (ci 4) jF)) (retS (λ_=> .ok (.bl false))) So.nx) (retS (bin (bJ 1 [1,5] (λρ=>((ak (ci 8) nA) ρ).bind jm) (aL 0) tT (aH (aY dJ 5) (ak (gv 0) (ak (gv 1) (ak (gv 2) (ak (λ_=> .ok (.str "worth")) (ak (λ_=> .ok .non) nA))))))) (bin (fB (ak (λ_=> .ok .non) nA)) (ci 8) mulL) fM))))))))
theorem rest_eq{pd md kd sd cd:D}{e0:Option Ent}(o:Ok w h f)(hw:w<=6)(zp:eN [pd]= .ok (.bl false))(zm:YQ md)(zk:NoK w h f kd)(zs:gW [sd,.int (w:Int),.int (h:Int)]= .ok (.bl false))(zs':gW [sd,.int ((w+1:Nat):Int),.int (h:Int)]= .ok (.bl false))(zc:mX [cd,.int (h:Int)]= .ok (.bl false)):
  ad0 [e0,vA (bH w h f),vA (.int (w:Int)),vA (.int (h:Int)),vA (bH w h λ_ _=>0),vA (sm h λ_=>0),vA pd,vA md,vA kd,vA sd,vA cd]= .rt (.bl true):=by
 refine aD (aP (aJ (au (x:= .lst ((aee 9).map λ_=> .int 0)) (y:= .lst ((aee 9).map λ_=> .int 0)) (bF (c:=λ(y:Nat)=> .int (y:Int)) (l:=aee 9) (lM (ao rfl) (by omega)) (by rw[z2d];omega) λy hy=>bL rfl (aZ (aq rfl (aq rfl (aq rfl (aq rfl (ao rfl))))) ?_)) (au (d9 (ao rfl)) rfl (qM (n:=9) (by omega) (by omega))) (Pu.lK rfl (vK λ_ _=>by simp[dep])))) rfl) ?_
 ·have hy:y<9:=z2e hy;by_cases c:y=8
  ·subst c;exact RL .a (aaq zp)
  ·exact Ke (by omega) .a (aap zp y (by omega))
 refine aD (aP (aJ (au (x:= .lst ((aee 5).map λ_=> .int 1)) (y:= .lst ((aee 5).map λ_=> .int 1)) (bF (c:=λ(y:Nat)=> .int (y:Int)) (l:=aee 5) (lM (ao rfl) (by omega)) (by rw[z2d];omega) λy hy=>bL rfl (aZ (aq rfl (aq rfl (aq rfl (aq rfl (ao rfl))))) (Ke (by have:=z2e hy;omega) .b (aar o zm y (z2e hy))))) (au (d9 (ao rfl)) rfl (qM (n:=5) (by omega) (by omega))) (Pu.lK rfl (vK λ_ _=>by simp[dep])))) rfl) ?_;refine aD (aP (aJ (au (x:= .lst ([1,2,3,4].map λ(_:Nat)=> .int 2)) (y:= .lst ((aee 4).map λ_=> .int 2)) (bF (c:=λ(y:Nat)=> .int (y:Int)) (l:=[1,2,3,4]) (dW (bU (aq rfl (aq rfl (aq rfl (ao rfl)))))) (by decide) λy hy=>bL rfl (aZ (aq rfl (aq rfl (aq rfl (aq rfl (ao rfl))))) (Ke (by simp at hy;omega) .c (RM (YT (.inr rfl) o zk) y (by simp at hy;omega) (by simp at hy;omega))))) (au (d9 (ao rfl)) rfl (qM (n:=4) (by omega) (by omega))) (Pu.lK rfl (vK λ_ _=>by simp[dep])))) rfl) ?_;refine aD (aP (aJ (au (x:= .lst ([0,1,5,6,7].map λ(_:Nat)=> .int 3)) (y:= .lst ((aee 5).map λ_=> .int 3)) (bF (c:=λ(y:Nat)=> .int (y:Int)) (l:=[0,1,5,6,7]) (dW (bU (aq rfl (aq rfl (aq rfl (aq rfl (ao rfl))))))) (by decide) λy hy=>bL rfl (aZ (aq rfl (aq rfl (aq rfl (aq rfl (ao rfl))))) (Ke (by simp at hy;omega) .d (aat o zs y hy)))) (au (d9 (ao rfl)) rfl (qM (n:=5) (by omega) (by omega))) (Pu.lK rfl (vK λ_ _=>by simp[dep])))) rfl) ?_;refine aD (aP (aJ (au (aZ (aq rfl (aq rfl (aq rfl (aq rfl (ao rfl))))) (RL .d (aau o zs'))) rfl (yL rfl))) rfl) ?_;refine aD (aP (aJ (au (aZ (aq rfl (aq rfl (aq rfl (aq rfl (ao rfl))))) (RL .e (aav (g:=λ_=>0) o ⟨λ_ _=>by show 0<w+1;omega,λ_ _=>⟨by omega,by omega⟩⟩ zc))) rfl (yL rfl))) rfl) ?_;refine aR (au (x:= .lst ((aee 8).map λ_=> .non)) (y:= .lst ((aee 8).map λ_=> .non)) (bF (c:=λ(y:Nat)=> .int (y:Int)) (l:=aee 8) (lM (ao rfl) (by omega)) (by rw[z2d];omega) λy hy=>?_) (au (d9 (ao rfl)) rfl (qM (n:=8) (by omega) (by omega))) (u6 rfl (vK λ_ _=>by simp[dep])));obtain⟨d,e⟩:=abP o hw y (z2e hy);exact bL rfl (aZ (aq rfl (aq rfl (aq rfl (aq rfl (ao rfl))))) (adv (z2e hy) e))
theorem aay(ns:List Int)(hns:ns.length<=63):JV [.lst (ns.map .int)]= .ok (.bl true):=by
 have hn:ns.length<=1000000:=by omega
 obtain⟨w,h,f,e1,o,hw,hh⟩:=acQ (ns:=ns) hn;have ow:=o.w2;have YW:=o.w1;have oh:=o.h2;have yW:=o.h1;obtain⟨p1,p2,p3⟩:=qX (k:=60) (m:=6) hn (by omega) (by omega);obtain⟨m1,m2,m3⟩:=qX (k:=61) (m:=6) hn (by omega) (by omega);obtain⟨k1,k2,k3⟩:=qX (k:=62) (m:=6) hn (by omega) (by omega);obtain⟨s1,s2,s3⟩:=qX (k:=63) (m:=6) hn (by omega) (by omega);obtain⟨c1,c2,c3⟩:=qX (k:=64) (m:=6) hn (by omega) (by omega);obtain⟨pd,hp,ep⟩:=qy (xs:=[D.non,.tup [],.lst ((aee h).map λy=>row w (f y)),.tup [.tup [.int 100]],.tup [.tup [.int 1],.tup [.int 1,.int 2]],.int 7]) p2 p3;obtain⟨md,hm,em⟩:=qy (xs:=[D.non,.str "",.str "worths",.int 0,.tup [.str "worth"],.bl true]) m2 m3;obtain⟨kd,hk,ek⟩:=qy (xs:=[D.int 7,.tup [],.tup (((aee h).map λ_=>row w λ_=>0)++((aee h).map λ_=>row w λ_=>0).take 1),.tup ((aee h).map λ_=> .tup ((aee w).map λ_=> .int 3)),.tup ((aee h).map λ_=> .tup ((aee (w+1)).map λ_=> .int 0)),.lst [bH w h λ_ _=>0]]) k2 k3;obtain⟨sd,hs,es⟩:=qy (xs:=[D.non,.tup (((aee h).map λ_=> .int 0)++[.int 0]),.tup ((aee h).map λ_=> .int ((w+1:Nat):Int)),.lst ((aee h).map λ_=> .int 0),.tup ((aee h).map λ_=> .non),.int (-1)]) s2 s3;obtain⟨cd,hc,ec⟩:=qy (xs:=[D.non,.tup ((aee (h+1)).map λ_=> .int 0),.tup ((aee h).map λ_=> .int 100),.lst ((aee h).map λ_=> .int 0),.tup ((aee h).map λ_=> .non),.int 7]) c2 c3;have zp:=acS hp;have zm:=acT hm;have zk:=aax o hk;have zs:=Vm (w:=w) yW oh (.inl rfl) hs;have zs':=Vm (w:=w) yW oh (.inr rfl) hs;have zc:=aaw yW oh hc;have lh:(((aee h).map λ_=>row w λ_=>0)).length=h:=by rw[z1g,z2d]
 refine iu (aD (bh (aZ (aq rfl (aq rfl (aq rfl (ao rfl)))) e1) rfl) ?_);refine aD (aa3 (len0 o rfl) (e:= .int (h:Int)) (aN (ao rfl) (by show R.ok (D.int (((aee h).map λy=>row w (f y)).length:Int))=_;rw[z1g,z2d]))) ?_;refine aD (bh (bU (aq (aZ (ao rfl) (free_eq o)) (ao (au (bU (ao rfl)) rfl (mul_one yW oh))))) rfl) ?_;refine aD (bh (d:=pd) (au (d9 (aq rfl (aq (bU rfl) (aq (aN (ao rfl) rfl) (aq (bU (ao (bU (ao rfl)))) (aq (bU (aq (bU (ao rfl)) (ao (bU (aq rfl (ao rfl)))))) (ao rfl))))))) (aZ (aq rfl (aq rfl (ao rfl))) p1) (rK ep)) rfl) ?_;refine aD (bh (d:=md) (au (d9 (aq rfl (aq rfl (aq rfl (aq rfl (aq (bU (ao rfl)) (ao rfl))))))) (aZ (aq rfl (aq rfl (ao rfl))) m1) (rK em)) rfl) ?_;refine aD (bh (d9 (aq rfl (aq (bU rfl) (aq (au (x:=bH w h λ_ _=>0) (y:= .tup (((aee h).map λ_=>row w λ_=>0).take 1)) rfl (Ml (n:=1) rfl rfl (by rw[lh];exact yW)) (uD (by rw[agF,lh];omega))) (aq (au (bU (ao (au (bU (ao rfl)) rfl (mul_one YW ow)))) rfl (mul_one yW oh)) (aq (au (bU (ao (au (x:= .tup [.int 0]) (y:= .int ((w+1:Nat):Int)) (bU (ao rfl)) (au (x:= .int (w:Int)) (y:= .int 1) rfl rfl rfl) (mul_one (by omega) (by omega))))) rfl (mul_one yW oh)) (ao (d9 (ao rfl))))))))) rfl) ?_;refine aD (bh (d:=kd) (au rfl (aZ (aq rfl (aq rfl (ao rfl))) k1) (rK ek)) rfl) ?_;refine aD (bh (d:=sd) (au (d9 (aq rfl (aq (au rfl (bU (ao rfl)) (uD (by rw[z1g,z2d];simp;omega))) (aq (au (bU (ao (x:= .int ((w+1:Nat):Int)) (au (x:= .int (w:Int)) (y:= .int 1) rfl rfl rfl))) rfl (mul_one yW oh)) (aq (aN (ao rfl) rfl) (aq (au (bU (ao rfl)) rfl (mul_one yW oh)) (ao rfl))))))) (aZ (aq rfl (aq rfl (ao rfl))) s1) (rK es)) rfl) ?_;refine aD (bh (d9 (aq rfl (aq (au (x:= .tup [.int 0]) (y:= .int ((h+1:Nat):Int)) (bU (ao rfl)) (au (x:= .int (h:Int)) (y:= .int 1) rfl rfl rfl) (mul_one (by omega) (by omega))) (aq (au (bU (ao rfl)) rfl (mul_one yW oh)) (aq (au (d9 (ao rfl)) rfl (qM yW oh)) (aq (au (bU (ao rfl)) rfl (mul_one yW oh)) (ao rfl))))))) rfl) ?_;refine aD (bh (d:=cd) (au rfl (aZ (aq rfl (aq rfl (ao rfl))) c1) (rK ec)) rfl) ?_;exact rest_eq o hw zp zm zk zs zs' zc
end
end wQ
namespace wQ
open PySem PySem.Spec L2 Pu
open PyProof.Rows hiding St
variable{f:aed}{A:aeF}{F:aeZ}{H:Hp}{outer:List afd}{ps N:List Str}{us:List aef}{n:Nat}{K:aeh}{g:aB->So}{s:aeg}{st:aeA}{x:Str}{cdv:aef}{E:XK}
def DX(K:aeh)(x:Str)(st:aeA):Prop:=∃f fd,Fun K x x st f fd/\aep K ael x=some (some (.ref f))
theorem ady{oc:aef}{od an:Option aed}{osl:Array (Option aef)}{kV doc pm ct:aef}(a:aep K ael x=some (some (.ref f)))(l:K.lookup f=some ⟨oc,od,.func (ae3 x x (defArgs st) (defBody st) (defScope st) .none kV doc pm an cdv ct),osl⟩)
  (c:afK K cdv x=true)(k:ae2 K (.ref f)=true):DX K x st:=⟨f,_,fun_mk l c k,a⟩
def DY(K:aeh)(mg:Str->Option aef)(x:Str)(st:aeA)(ps:List Str):Prop:=∃f fd,Fun K x x st f fd/\mg x=some (.ref f)/\Binds K fd ps []
theorem dy{mg:Str->Option aef}{h:aes}(X:K.In h)(G:h.Ns ael mg)(q:DX K x st)
  (b:∀(kV doc pm:aef) (an:Option aed) (cdv ct:aef) (us:List aef),us.length=ps.length->af2 (ae3 x x (defArgs st) (defBody st) (defScope st) .none kV doc pm an cdv ct) ⟨us,[]⟩=pure (ps.zip us)):DY K mg x st ps:=
 let⟨f,fd,u,a⟩:=q;⟨f,fd,u,aeK X G a,u.binds b⟩
section
variable{P:aew}{w:aey}{K:aeh}{mg:Str->Option aef}{base:aes}
theorem iI{k m:Nat}(q:DY K mg x st ps)(S:FnScope N ps (defScope st))(hn:ps.length=n)(hm:N.length=n+m)
  (hb:∀{f:aed} (cdv:aef) (A:aeF) (outer:List afd) (s:aeg) (H:Hp) (E:XK),Room k (A.deeper (afC x (defScope st) s.heap.objs.size f cdv))->jW (cxOf CX0 P w K mg base N x (defScope st) f cdv A outer s H E).nox (defBody st) g):fV P w K mg base (k+1) x n (bR m g):=
 let⟨_,_,Fn,hmg,b⟩:=q;aci Fn hmg b S hn hm hb
def q8(P:aew)(w:aey)(K:aeh)(mg:Str->Option aef)(base:aes)(k:Nat)(x:Str)(n:Nat)(F:List D->R D)(ps:List Str)(ts:List (aed×Str)):Prop:=∃fd,ZS P w K mg base k x n F fd ps ts/\Binds K fd ps []
def lD(P:aew)(w:aey)(K:aeh)(mg:Str->Option aef)(base:aes)(k:Nat)(x:Str)(n:Nat)(F:List D->R D)(ps:List Str)(ts:List (aed×Str)):Prop:=∃fd,Cu P w K mg base k x n F fd ps ts/\Binds K fd ps []
theorem Mt{k m:Nat}{ts:List (aed×Str)}(q:DY K mg x st ps)(S:FnScope N ps (defScope st))(hn:ps.length=n)(hm:N.length=n+m)
  (hb:∀{f:aed} (cdv:aef) (A:aeF) (outer:List afd) (s:aeg) (H:Hp) (E:XK),True->Room k (A.deeper (afC x (defScope st) s.heap.objs.size f cdv))->Tb ts H->jW (cxOf CX0 P w K mg base N x (defScope st) f cdv A outer s H E).nox (defBody st) g):q8 P w K mg base (k+1) x n (λds=>iz m g (ds.map .val)) ps ts:=
 let⟨f,fd,Fn,hmg,b⟩:=q;⟨fd,⟨f,fnT Fn S hn hm λcdv A outer s H E _=>hb cdv A outer s H E trivial,hmg,Fn.kp⟩,b⟩
theorem sV{k m:Nat}{ts:List (aed×Str)}(q:DY K mg x st ps)(S:FnScope N ps (defScope st))(hn:ps.length=n)(hm:N.length=n+m)
  (hb:∀{f:aed} (cdv:aef) (A:aeF) (outer:List afd) (s:aeg) (H:Hp) (E:XK),Room k (A.deeper (afC x (defScope st) s.heap.objs.size f cdv))->Tb ts H->jW (cxOf (Uy P w) P w K mg base N x (defScope st) f cdv A outer s H E) (defBody st) g):lD P w K mg base (k+1) x n (bR m g) ps ts:=
 let⟨f,fd,Fn,hmg,b⟩:=q;⟨fd,⟨f,Mi Fn S hn hm hb,hmg,Fn.kp⟩,b⟩
end
section
variable{X:Cx}{k m n:Nat}{ps:List Str}{F:List D->R D}{x:Str}{p pos:Pos}{e:aer}{es:List aer}{fa:aB->R (List D)}{ts:List (aed×Str)}
theorem fJ(G:q8 X.prog X.w X.K X.mg X.base k x n F ps ts)(hT:Tb ts X.H₀)(hr:Room m X.A)(hkm:k<=m)(ha:DA X (e::es) fa)(hg:Gl X x:=by rfl)
  (hdb:(x ==("__debug__" :Str))=false:=by decide)(he:aei (e::es) X.env=(false,eval e X.env)::aei es X.env:=by rfl)(hpl:(ae7 pos (aei es X.env)).any (·.1)=false:=by rfl):
  DE X (.Call (.Name x p) (e::es) [] pos) (aH (aY F n) fa):=let⟨_,g,b⟩:=G;acy g hT hr hkm b ha hg hdb he hpl
theorem dj(G:lD X.prog X.w X.K X.mg X.base k x n F ps ts)(hT:Tb ts X.H₀)(hr:Room m X.A)(hkm:k<=m)(ha:DA X (e::es) fa)(hg:Gl X x:=by rfl)
  (hdb:(x ==("__debug__" :Str))=false:=by decide)(he:aei (e::es) X.env=(false,eval e X.env)::aei es X.env:=by rfl)(hpl:(ae7 pos (aei es X.env)).any (·.1)=false:=by rfl):
  DE X (.Call (.Name x p) (e::es) [] pos) (cG F n 0 [] fa nA):=let⟨_,g,b⟩:=G;abC Sel.nil g hT hr hkm (adk b) ha hg hdb he hpl
end
theorem vL(hl:us.length=n+1):∃a u,us=a::u/\u.length=n:=by
 cases us with
 |nil=>cases hl
 |cons a u=>exact⟨a,u,rfl,Nat.succ.inj hl⟩
theorem pY(hl:us.length=1)(h:∀a0,af2 F ⟨[a0],[]⟩=pure (ps.zip [a0])):af2 F ⟨us,[]⟩=pure (ps.zip us):=by
 obtain⟨a0,u1,rfl,h1⟩:=vL hl;cases aeP h1;exact h a0
theorem mj(hl:us.length=2)(h:∀a0 a1,af2 F ⟨[a0,a1],[]⟩=pure (ps.zip [a0,a1])):af2 F ⟨us,[]⟩=pure (ps.zip us):=by
 obtain⟨a0,u1,rfl,h1⟩:=vL hl;obtain⟨a1,u2,rfl,h2⟩:=vL h1;cases aeP h2;exact h a0 a1
theorem Kg(hl:us.length=3)(h:∀a0 a1 a2,af2 F ⟨[a0,a1,a2],[]⟩=pure (ps.zip [a0,a1,a2])):af2 F ⟨us,[]⟩=pure (ps.zip us):=by
 obtain⟨a0,u1,rfl,h1⟩:=vL hl;obtain⟨a1,u2,rfl,h2⟩:=vL h1;obtain⟨a2,u3,rfl,h3⟩:=vL h2;cases aeP h3;exact h a0 a1 a2
theorem lk4(hl:us.length=4)(h:∀a0 a1 a2 a3,af2 F ⟨[a0,a1,a2,a3],[]⟩=pure (ps.zip [a0,a1,a2,a3])):af2 F ⟨us,[]⟩=pure (ps.zip us):=by
 obtain⟨a0,u1,rfl,h1⟩:=vL hl;obtain⟨a1,u2,rfl,h2⟩:=vL h1;obtain⟨a2,u3,rfl,h3⟩:=vL h2;obtain⟨a3,u4,rfl,h4⟩:=vL h3;cases aeP h4;exact h a0 a1 a2 a3
theorem lk5(hl:us.length=5)(h:∀a0 a1 a2 a3 a4,af2 F ⟨[a0,a1,a2,a3,a4],[]⟩=pure (ps.zip [a0,a1,a2,a3,a4])):af2 F ⟨us,[]⟩=pure (ps.zip us):=by
 obtain⟨a0,u1,rfl,h1⟩:=vL hl;obtain⟨a1,u2,rfl,h2⟩:=vL h1;obtain⟨a2,u3,rfl,h3⟩:=vL h2;obtain⟨a3,u4,rfl,h4⟩:=vL h3;obtain⟨a4,u5,rfl,h5⟩:=vL h4;cases aeP h5;exact h a0 a1 a2 a3 a4
def top(i:Nat):aeA:=PySem.Challenge.pw_seamhall_k16_seam_refusals.main.body.getD i (.Pass ⟨0,0,0,0⟩)
abbrev vM:aeA:=top 71
theorem eO:FnScope ["_law_script","_law_k","_law_many","_law_cell","_law_turn","_law_rest"] ["_law_script","_law_k","_law_many"] (defScope vM):=⟨rfl,rfl,rfl,by decide +kernel,rfl,by decide +kernel,by decide +kernel⟩
abbrev xO:aeA:=top 74
theorem RN:FnScope ["_law_picture_here"] ["_law_picture_here"] (defScope xO):=⟨rfl,rfl,rfl,by decide +kernel,rfl,by decide +kernel,by decide +kernel⟩
abbrev sW:aeA:=top 56
theorem Mu:FnScope ["picture","seam"] ["picture","seam"] (defScope sW):=⟨rfl,rfl,rfl,by decide +kernel,rfl,by decide +kernel,by decide +kernel⟩
abbrev zO:aeA:=top 10
theorem TJ:FnScope ["thing"] ["thing"] (defScope zO):=⟨rfl,rfl,rfl,by decide +kernel,rfl,by decide +kernel,by decide +kernel⟩
abbrev Ie:aeA:=top 33
theorem YZ:FnScope ["thing","wide","high"] ["thing","wide","high"] (defScope Ie):=⟨rfl,rfl,rfl,by decide +kernel,rfl,by decide +kernel,by decide +kernel⟩
abbrev Dq:aeA:=top 12
theorem Wh:FnScope ["thing"] ["thing"] (defScope Dq):=⟨rfl,rfl,rfl,by decide +kernel,rfl,by decide +kernel,by decide +kernel⟩
abbrev Dr:aeA:=top 11
theorem Wi:FnScope ["thing"] ["thing"] (defScope Dr):=⟨rfl,rfl,rfl,by decide +kernel,rfl,by decide +kernel,by decide +kernel⟩
abbrev Ih:aeA:=top 13
theorem Y0:FnScope ["thing"] ["thing"] (defScope Ih):=⟨rfl,rfl,rfl,by decide +kernel,rfl,by decide +kernel,by decide +kernel⟩
abbrev vN:aeA:=top 14
theorem Pj:FnScope ["thing"] ["thing"] (defScope vN):=⟨rfl,rfl,rfl,by decide +kernel,rfl,by decide +kernel,by decide +kernel⟩
abbrev qN:aeA:=top 15
theorem Kh:FnScope ["thing"] ["thing"] (defScope qN):=⟨rfl,rfl,rfl,by decide +kernel,rfl,by decide +kernel,by decide +kernel⟩
abbrev Ds:aeA:=top 16
theorem Wj:FnScope ["picture"] ["picture"] (defScope Ds):=⟨rfl,rfl,rfl,by decide +kernel,rfl,by decide +kernel,by decide +kernel⟩
abbrev Dt:aeA:=top 49
theorem Kl:FnScope ["thing","picture","wide","high"] ["thing","picture"] (defScope Dt):=⟨rfl,rfl,rfl,by decide +kernel,rfl,by decide +kernel,by decide +kernel⟩
abbrev xP:aeA:=top 50
theorem RP:FnScope ["thing","picture"] ["thing","picture"] (defScope xP):=⟨rfl,rfl,rfl,by decide +kernel,rfl,by decide +kernel,by decide +kernel⟩
abbrev zP:aeA:=top 59
theorem TV:FnScope ["picture","seam"] ["picture","seam"] (defScope zP):=⟨rfl,rfl,rfl,by decide +kernel,rfl,by decide +kernel,by decide +kernel⟩
abbrev RQ:aeA:=top 19
theorem Vn:FnScope ["line","last"] ["line"] (defScope RQ):=⟨rfl,rfl,rfl,by decide +kernel,rfl,by decide +kernel,by decide +kernel⟩
abbrev vO:aeA:=top 35
theorem gj:FnScope ["picture","y","row","above","last","told","x","gap","from_left","from_right"] ["picture","y"] (defScope vO):=⟨rfl,rfl,rfl,by decide +kernel,rfl,by decide +kernel,by decide +kernel⟩
abbrev Ii:aeA:=top 17
theorem Ot:FnScope ["picture","wide","high"] ["picture"] (defScope Ii):=⟨rfl,rfl,rfl,by decide +kernel,rfl,by decide +kernel,by decide +kernel⟩
abbrev Ij:aeA:=top 20
theorem wY:FnScope ["picture","wide","high","across","down"] ["picture"] (defScope Ij):=⟨rfl,rfl,rfl,by decide +kernel,rfl,by decide +kernel,by decide +kernel⟩
abbrev Mv:aeA:=top 36
theorem aaz:FnScope ["picture","manner"] ["picture","manner"] (defScope Mv):=⟨rfl,rfl,rfl,by decide +kernel,rfl,by decide +kernel,by decide +kernel⟩
abbrev sX:aeA:=top 26
theorem Mw:FnScope ["thing"] ["thing"] (defScope sX):=⟨rfl,rfl,rfl,by decide +kernel,rfl,by decide +kernel,by decide +kernel⟩
abbrev Du:aeA:=top 37
theorem Wk:FnScope ["row","above","place"] ["row","above","place"] (defScope Du):=⟨rfl,rfl,rfl,by decide +kernel,rfl,by decide +kernel,by decide +kernel⟩
abbrev zQ:aeA:=top 38
theorem q9:FnScope ["table","way","total","y"] ["table","way"] (defScope zQ):=⟨rfl,rfl,rfl,by decide +kernel,rfl,by decide +kernel,by decide +kernel⟩
abbrev ji:aeA:=top 51
theorem Wm:FnScope ["picture","seam","manner"] ["picture","seam","manner"] (defScope ji):=⟨rfl,rfl,rfl,by decide +kernel,rfl,by decide +kernel,by decide +kernel⟩
abbrev Dv:aeA:=top 57
theorem Wn:FnScope ["rows","seam"] ["rows","seam"] (defScope Dv):=⟨rfl,rfl,rfl,by decide +kernel,rfl,by decide +kernel,by decide +kernel⟩
abbrev Wo:aeA:=top 60
theorem acU:FnScope ["picture","seam"] ["picture","seam"] (defScope Wo):=⟨rfl,rfl,rfl,by decide +kernel,rfl,by decide +kernel,by decide +kernel⟩
abbrev sY:aeA:=top 63
theorem yX:FnScope ["row","place","following"] ["row","place"] (defScope sY):=⟨rfl,rfl,rfl,by decide +kernel,rfl,by decide +kernel,by decide +kernel⟩
abbrev sZ:aeA:=top 64
theorem Mx:FnScope ["picture","seam"] ["picture","seam"] (defScope sZ):=⟨rfl,rfl,rfl,by decide +kernel,rfl,by decide +kernel,by decide +kernel⟩
abbrev tu:aeA:=top 65
theorem Mz:FnScope ["seam"] ["seam"] (defScope tu):=⟨rfl,rfl,rfl,by decide +kernel,rfl,by decide +kernel,by decide +kernel⟩
abbrev vP:aeA:=top 58
theorem Pk:FnScope ["rows","seam","cells"] ["rows","seam","cells"] (defScope vP):=⟨rfl,rfl,rfl,by decide +kernel,rfl,by decide +kernel,by decide +kernel⟩
abbrev Dw:aeA:=top 66
theorem Wq:FnScope ["picture","seam"] ["picture","seam"] (defScope Dw):=⟨rfl,rfl,rfl,by decide +kernel,rfl,by decide +kernel,by decide +kernel⟩
abbrev RT:aeA:=top 34
theorem abR:FnScope ["place","wide"] ["place","wide"] (defScope RT):=⟨rfl,rfl,rfl,by decide +kernel,rfl,by decide +kernel,by decide +kernel⟩
abbrev Ik:aeA:=top 40
theorem rR:FnScope ["beneath","row","x","told","place","fare"] ["beneath","row","x"] (defScope Ik):=⟨rfl,rfl,rfl,by decide +kernel,rfl,by decide +kernel,by decide +kernel⟩
abbrev uH:aeA:=top 41
theorem jQ:FnScope ["table","marks","start","gather","rows","y","row","x","mark","told","lost"] ["table","marks","start","gather"] (defScope uH):=⟨rfl,rfl,rfl,by decide +kernel,rfl,by decide +kernel,by decide +kernel⟩
abbrev jo:aeA:=top 42
theorem Dy:FnScope ["table","marks","many","first_ones"] ["table","marks","many"] (defScope jo):=⟨rfl,rfl,rfl,by decide +kernel,rfl,by decide +kernel,by decide +kernel⟩
abbrev zR:aeA:=top 45
theorem nU:FnScope ["table","rows","told","x","cell","fare"] ["table","rows"] (defScope zR):=⟨rfl,rfl,rfl,by decide +kernel,rfl,by decide +kernel,by decide +kernel⟩
abbrev tD:aeA:=top 46
theorem MF:FnScope ["table","marks","many"] ["table","marks","many"] (defScope tD):=⟨rfl,rfl,rfl,by decide +kernel,rfl,by decide +kernel,by decide +kernel⟩
abbrev vQ:aeA:=top 32
theorem Pn:FnScope ["marks"] ["marks"] (defScope vQ):=⟨rfl,rfl,rfl,by decide +kernel,rfl,by decide +kernel,by decide +kernel⟩
abbrev zT:aeA:=top 30
theorem TX:FnScope ["picture"] ["picture"] (defScope zT):=⟨rfl,rfl,rfl,by decide +kernel,rfl,by decide +kernel,by decide +kernel⟩
abbrev Dz:aeA:=top 27
theorem Wr:FnScope ["thing"] ["thing"] (defScope Dz):=⟨rfl,rfl,rfl,by decide +kernel,rfl,by decide +kernel,by decide +kernel⟩
abbrev qO:aeA:=top 28
theorem Km:FnScope ["thing","wide"] ["thing","wide"] (defScope qO):=⟨rfl,rfl,rfl,by decide +kernel,rfl,by decide +kernel,by decide +kernel⟩
abbrev zU:aeA:=top 29
theorem TY:FnScope ["thing","picture"] ["thing","picture"] (defScope zU):=⟨rfl,rfl,rfl,by decide +kernel,rfl,by decide +kernel,by decide +kernel⟩
abbrev vR:aeA:=top 31
theorem Pq:FnScope ["thing","picture"] ["thing","picture"] (defScope vR):=⟨rfl,rfl,rfl,by decide +kernel,rfl,by decide +kernel,by decide +kernel⟩
abbrev zV:aeA:=top 39
theorem Gz:FnScope ["picture","manner","marks","marked"] ["picture","manner","marks"] (defScope zV):=⟨rfl,rfl,rfl,by decide +kernel,rfl,by decide +kernel,by decide +kernel⟩
abbrev vU:aeA:=top 68
theorem Px:FnScope ["seam","marks"] ["seam","marks"] (defScope vU):=⟨rfl,rfl,rfl,by decide +kernel,rfl,by decide +kernel,by decide +kernel⟩
abbrev iC:aeA:=top 69
theorem xQ:FnScope ["picture","seam","manner","marks","table","marked","less","cost","first"] ["picture","seam","manner","marks"] (defScope iC):=⟨rfl,rfl,rfl,by decide +kernel,rfl,by decide +kernel,by decide +kernel⟩
abbrev xR:aeA:=top 47
theorem vV:FnScope ["table","marks","found","less","cost","seam"] ["table","marks"] (defScope xR):=⟨rfl,rfl,rfl,by decide +kernel,rfl,by decide +kernel,by decide +kernel⟩
abbrev fY:aeA:=top 52
theorem tE:FnScope ["picture","manner","marks","table","marked","found"] ["picture","manner","marks"] (defScope fY):=⟨rfl,rfl,rfl,by decide +kernel,rfl,by decide +kernel,by decide +kernel⟩
abbrev DN:aeA:=top 43
theorem zW:FnScope ["told","best_less","best_cost","alike"] ["told"] (defScope DN):=⟨rfl,rfl,rfl,by decide +kernel,rfl,by decide +kernel,by decide +kernel⟩
abbrev dB:aeA:=top 44
theorem MJ:FnScope ["table","marks"] ["table","marks"] (defScope dB):=⟨rfl,rfl,rfl,by decide +kernel,rfl,by decide +kernel,by decide +kernel⟩
abbrev fZ:aeA:=top 55
theorem tH:FnScope ["picture","manner","marks","table","marked","told"] ["picture","manner","marks"] (defScope fZ):=⟨rfl,rfl,rfl,by decide +kernel,rfl,by decide +kernel,by decide +kernel⟩
abbrev vW:aeA:=top 53
theorem Bo:FnScope ["ways","less","cost","places"] ["ways"] (defScope vW):=⟨rfl,rfl,rfl,by decide +kernel,rfl,by decide +kernel,by decide +kernel⟩
abbrev m8:aeA:=top 54
theorem Il:FnScope ["picture","manner","marks","table","marked","rows"] ["picture","manner","marks"] (defScope m8):=⟨rfl,rfl,rfl,by decide +kernel,rfl,by decide +kernel,by decide +kernel⟩
abbrev zX:aeA:=top 75
theorem T4:FnScope ["_law_way","_law_picture_here","_law_seam","_law_mode","_law_tags"] ["_law_way","_law_picture_here","_law_seam","_law_mode","_law_tags"] (defScope zX):=⟨rfl,rfl,rfl,by decide +kernel,rfl,by decide +kernel,by decide +kernel⟩
abbrev zY:aeA:=top 61
theorem T5:FnScope ["thing","high"] ["thing","high"] (defScope zY):=⟨rfl,rfl,rfl,by decide +kernel,rfl,by decide +kernel,by decide +kernel⟩
abbrev zZ:aeA:=top 62
theorem GC:FnScope ["picture","seam","cells","wide","high"] ["picture","seam","cells"] (defScope zZ):=⟨rfl,rfl,rfl,by decide +kernel,rfl,by decide +kernel,by decide +kernel⟩
abbrev DP:aeA:=top 76
theorem um:FnScope ["_law_way","_law_picture_here","_law_seam","_law_mode","_law_tags","e","_law_flags"] ["_law_way","_law_picture_here","_law_seam","_law_mode","_law_tags"] (defScope DP):=⟨rfl,rfl,rfl,by decide +kernel,rfl,by decide +kernel,by decide +kernel⟩
abbrev qP:aeA:=top 72
theorem pO:FnScope ["_law_script","_law_at","_law_broad","_law_tall","_law_most","_law_rows","_law_y"] ["_law_script","_law_at","_law_broad","_law_tall"] (defScope qP):=⟨rfl,rfl,rfl,by decide +kernel,rfl,by decide +kernel,by decide +kernel⟩
abbrev xT:aeA:=top 73
theorem RV:FnScope ["_law_script","_law_at","_law_broad","_law_tall"] ["_law_script","_law_at","_law_broad","_law_tall"] (defScope xT):=⟨rfl,rfl,rfl,by decide +kernel,rfl,by decide +kernel,by decide +kernel⟩
abbrev uo:aeA:=top 77
theorem mq:FnScope ["_law_script","_law_picture_here","_law_broad","_law_tall","_law_free_here","_law_seam","_law_no_picture","_law_no_manner","_law_no_marks","_law_no_seam","_law_no_cells"] ["_law_script"] (defScope uo):=⟨rfl,rfl,rfl,by decide +kernel,rfl,by decide +kernel,by decide +kernel⟩
abbrev iZ:aeA:=(defBody jo).getD 0 (.Pass ⟨0,0,0,0⟩)
theorem Py:LQ ["x","told","many"] ["x","told"] "many" (defScope iZ):=⟨rfl,rfl,rfl,by decide +kernel,rfl,by decide +kernel,by decide +kernel,by decide +kernel,by decide +kernel⟩
theorem DQ:FnScope ["x","told"] ["x","told"] (zG (Hz dB)):=⟨rfl,rfl,rfl,by decide +kernel,rfl,by decide +kernel,by decide +kernel⟩
structure Txt(K:aeh)(mg:Str->Option aef):Prop where
 DR:∃t,mg "FREE" =some (.int 0 t)
 Ko:∃t,mg "GONE" =some (.int 2 t)
 Ea:∃t,mg "KEPT" =some (.int 1 t)
 xU:∃t,mg "MOST_CELL" =some (.int 99 t)
 nW:∃t,mg "MOST_LONG" =some (.int 20 t)
 Eb:ZM K mg "MANNERS" ["worth","joins"]
 Ge:mg "abs" =none
 rm:mg "all" =none
 Ws:mg "any" =none
 RW:mg "bool" =none
 nY:mg "enumerate" =none
 Wt:mg "int" =none
 dG:mg "isinstance" =none
 dZ:mg "len" =none
 Ec:mg "list" =none
 Gf:mg "max" =none
 Aa:mg "min" =none
 fK:mg "range" =none
 Ab:mg "reversed" =none
 Ac:mg "sorted" =none
 Qn:mg "sum" =none
 dR:mg "tuple" =none
 Ad:mg "zip" =none
 Kq:∀d:D,aek K (.type (lJ d)) (.type "int")=some (Fy (lJ d))
 Ed:∀d:D,aek K (.type (lJ d)) (.type "bool")=some (zx (lJ d))
 m9:∀d:D,aek K (.type (lJ d)) (.type "tuple")=some (gb (lJ d))
 Kr:∀d:D,aek K (.type (lJ d)) (.type "list")=some (QG (lJ d))
 Ef:∃C,Uz K mg "NoCells" C
 Ae:∃C,Uz K mg "NoManner" C
 Eh:∃C,Uz K mg "NoMarks" C
 xV:∃C,Uz K mg "NoPicture" C
 qQ:∃C,Uz K mg "NoSeam" C
 xW:∃C,mg "SeamError" =some (.ref C)/\∀c C',cu c "SeamError" =true->aep K ael c=some (some (.ref C'))->agh K (.ref C') (.ref C)=some true
 rT:∃C,mg "NoCells" =some (.ref C)/\∀c C',cu c c=true->aep K ael c=some (some (.ref C'))->pB K C'/\aek K (.ref C') (.ref C)=some (cu c "NoCells")
 pP:∃C,mg "NoManner" =some (.ref C)/\∀c C',cu c c=true->aep K ael c=some (some (.ref C'))->pB K C'/\aek K (.ref C') (.ref C)=some (cu c "NoManner")
 rW:∃C,mg "NoMarks" =some (.ref C)/\∀c C',cu c c=true->aep K ael c=some (some (.ref C'))->pB K C'/\aek K (.ref C') (.ref C)=some (cu c "NoMarks")
 nZ:∃C,mg "NoPicture" =some (.ref C)/\∀c C',cu c c=true->aep K ael c=some (some (.ref C'))->pB K C'/\aek K (.ref C') (.ref C)=some (cu c "NoPicture")
 vX:∃C,mg "NoSeam" =some (.ref C)/\∀c C',cu c c=true->aep K ael c=some (some (.ref C'))->pB K C'/\aek K (.ref C') (.ref C)=some (cu c "NoSeam")
abbrev tz(TP TQ:aed):List (aed×Str):=[(TP,"best_ways.<locals>.first_ones"),(TQ,"best_counts.<locals>.<lambda>")]
structure HX(K:aeh)(mg:Str->Option aef):Prop extends Txt K mg where
 vY:DY K mg "_law_drawn" vM ["_law_script","_law_k","_law_many"]
 xX:DY K mg "_law_free" xO ["_law_picture_here"]
 tK:DY K mg "cells_along" sW ["picture","seam"]
 Af:DY K mg "is_whole" zO ["thing"]
 Im:DY K mg "is_way" Ie ["thing","wide","high"]
 Ei:DY K mg "is_line" Dq ["thing"]
 Ej:DY K mg "is_cell" Dr ["thing"]
 Io:DY K mg "is_row" Ih ["thing"]
 vZ:DY K mg "is_picture" vN ["thing"]
 qR:DY K mg "need_picture" qN ["thing"]
 Ek:DY K mg "size_of" Ds ["picture"]
 El:DY K mg "is_seam" Dt ["thing","picture"]
 xY:DY K mg "need_seam" xP ["thing","picture"]
 Ag:DY K mg "cells_of" zP ["picture","seam"]
 RX:DY K mg "gaps" RQ ["line"]
 wg:DY K mg "join_fares" vO ["picture","y"]
 Ir:DY K mg "turned" Ii ["picture"]
 Iu:DY K mg "worths" Ij ["picture"]
 MK:DY K mg "fares" Mv ["picture","manner"]
 tL:DY K mg "need_manner" sX ["thing"]
 Em:DY K mg "fare_of" Du ["row","above","place"]
 Ah:DY K mg "way_cost" zQ ["table","way"]
 En:DY K mg "without" Dv ["rows","seam"]
 Wu:DY K mg "cut" Wo ["picture","seam"]
 tM:DY K mg "mean_behind" sY ["row","place"]
 tO:DY K mg "means_along" sZ ["picture","seam"]
 tQ:DY K mg "seam_behind" tu ["seam"]
 wj:DY K mg "with_cells" vP ["rows","seam","cells"]
 Eo:DY K mg "doubled" Dw ["picture","seam"]
 RZ:DY K mg "near" RT ["place","wide"]
 Iv:DY K mg "onward" Ik ["beneath","row","x"]
 MN:DY K mg "swept" uH ["table","marks","start","gather"]
 xZ:DY K mg "best_ways" jo ["table","marks","many"]
 Ai:DY K mg "from_top" zR ["table","rows"]
 tR:DY K mg "first_seams" tD ["table","marks","many"]
 wk:DY K mg "gone_freed" vQ ["marks"]
 Aj:DY K mg "all_free" zT ["picture"]
 Ep:DY K mg "is_mark" Dz ["thing"]
 qT:DY K mg "is_marks_row" qO ["thing","wide"]
 Ak:DY K mg "is_marks" zU ["thing","picture"]
 wu:DY K mg "full_marks" vR ["thing","picture"]
 Al:DY K mg "laid_out" zV ["picture","manner","marks"]
 wz:DY K mg "meets_kept" vU ["seam","marks"]
 yc:DY K mg "least_way" xR ["table","marks"]
 Er:DY K mg "as_good" DN ["told"]
 tU:DY K mg "best_counts" dB ["table","marks"]
 wA:DY K mg "sheet_cell" vW ["ways"]
 Am:DY K mg "_law_ask" zX ["_law_way","_law_picture_here","_law_seam","_law_mode","_law_tags"]
 Ao:DY K mg "is_cells" zY ["thing","high"]
 Aq:DY K mg "put_back" zZ ["picture","seam","cells"]
 Es:DY K mg "_law_no" DP ["_law_way","_law_picture_here","_law_seam","_law_mode","_law_tags"]
 qU:DY K mg "_law_picture" qP ["_law_script","_law_at","_law_broad","_law_tall"]
 yd:DY K mg "_law_some" xT ["_law_script","_law_at","_law_broad","_law_tall"]
 Y4:∃f fd,Fun K "cost_of" "cost_of" ji f fd/\mg "cost_of" =some (.ref f)/\KB K fd ["picture","seam","manner"] ["manner"] [.inl 0]
 Wv:∃f fd,Fun K "is_least" "is_least" iC f fd/\mg "is_least" =some (.ref f)/\KB K fd ["picture","seam","manner","marks"] ["manner","marks"] [.inl 0,.inl 1]
 R0:∃f fd,Fun K "least_seam" "least_seam" fY f fd/\mg "least_seam" =some (.ref f)/\KB K fd ["picture","manner","marks"] ["manner","marks"] [.inl 0,.inl 1]
 R3:∃f fd,Fun K "many_least" "many_least" fZ f fd/\mg "many_least" =some (.ref f)/\KB K fd ["picture","manner","marks"] ["manner","marks"] [.inl 0,.inl 1]
 abS:∃f fd,Fun K "paper" "paper" m8 f fd/\mg "paper" =some (.ref f)/\KB K fd ["picture","manner","marks"] ["manner","marks"] [.inl 0,.inl 1]
structure HB(K:aeh)(mg:Str->Option aef)(base:aes)(cN TP cM TQ:aed):Prop extends HX K mg where
 hB:iB base mg cN TP
 hC:pD K mg "best_ways" cN
 hB2:iB base mg cM TQ
 hC2:pD K mg "best_counts" cM
section
variable{P:aew}{w:aey}{K:aeh}{mg:Str->Option aef}{base:aes}{cN TP cM TQ:aed}
theorem Pz{c:aed}(T:Txt K mg)(hr:Room 0 (A.deeper (zE "best_ways.<locals>.first_ones" (defScope iZ) f cdv s "many" c))):jW (zF P w K mg base ["x","told","many"] "best_ways.<locals>.first_ones" (defScope iZ) f cdv A outer s H "many" c) (defBody iZ) CN:=by
 exact (aM (aX (cg ["less","cost","places"] [0] rfl (by kernel_rfl) (by kernel_rfl) (dU (Nx (bf (Rg (Rh hr)) rfl T.Ac boot_sorted (aj (dv 1) aA)) lO (lQ (dv 2)))) (gJ (bK (aW (by decide)) (bK (aW (by decide)) (bK (aW (by decide)) gH)))) (λ_ _ _ _ nd=>lF rfl (cD (bx 0 nd) (cD (bx 1 nd) (cD (bx 2 nd) jw)))) (λ_ _ _ _=>bM) (λ_ _ _ _=>(cA (aj (dv 0) (aj (dv 1) (aj (aO dh (cA (aj (dv 3) aA)) (dv 2)) aA))))))))
theorem MP(T:Txt K mg)(my:Int)(a c:aed)(H:Hp)(co:Obj)(uy:aef)(fh:lW H a "first_ones" "best_ways.<locals>.first_ones" (defArgs iZ) (defBody iZ) (defScope iZ) [("many",c)])(hc:H c=some (.frz co (.own c)))(hcd:co.data= .cell (some uy))(hy:RelV (.int my) uy):pC P w K mg base 1 (fj my) 2 a H:=
 acB (k:=0) (m:=0) Py rfl rfl (λ_ _ _ _ _ us hl=>mj hl λ_ _=>rfl) (λcdv A outer s H f c hr=>Pz T  hr) fh hc hcd hy
theorem Et(T:Txt K mg)(jK:fV P w K mg base 1 "as_good" 1 jJ)(hr:Room 1 (A.deeper (afC "best_counts.<locals>.<lambda>" (zG (Hz dB)) s.heap.objs.size f cdv))):DE (cxOf CX0 P w K mg base ["x","told"] "best_counts.<locals>.<lambda>" (zG (Hz dB)) f cdv A outer s H E).nox (U7 (Hz dB)) (aH (aY jJ 1) (ak (gv 1) nA)):=by
 exact (bN jK hr (by decide) (aj (dv 1) aA))
theorem BR(T:Txt K mg)(jK:fV P w K mg base 1 "as_good" 1 jJ)(a:aed)(H:Hp)(fh:tZ H a "<lambda>" "best_counts.<locals>.<lambda>" (abx (Hz dB)) (U7 (Hz dB)) (zG (Hz dB)) []):pC P w K mg base 2 dF 2 a H:=
 aby (k:=1) (m:=0) DQ rfl rfl (λ_ _ _ us hl=>mj hl λ_ _=>rfl) (λcdv A outer s H E f hr=>Et T jK hr) fh
theorem f9(T:HX K mg):fV P w K mg base 1 "_law_drawn" 3 d7:=
 iI (k:=0) (g:=Cv) T.vY eO rfl rfl λcdv A outer s H E hr=>(aK (cB 3 eO.nd (aO rA aF (dv 1))) (aK (cV (cQ (tX (cL hr)) (dv 0) (fG aA)) (aK (cB 3 eO.nd (bW (dv 0) (aO rE (dv 1) (bf dD rfl T.dZ aeB (aj (dv 0) aA))))) (aK (cB 4 eO.nd (aO rC (dv 1) (bf dD rfl T.dZ aeB (aj (dv 0) aA)))) (aK (cV (DW.dt (Qs (cQ ac5 (dv 3) (aO Xc aF aF)) (Lf (cQ aaK (dv 4) aF)))) (aK (cB 5 eO.nd (aO rC (dv 3) (aO Xc aF aF))) (aK (Zv 64 af5 (DW.dt (Qs (cQ Vq (dv 5) aF) (Lf (cQ Vq (dv 4) aF)))) (aK (cB 5 eO.nd (aO rC (dv 5) aF)) (aM (cB 4 eO.nd (aO gZ (dv 4) aF))))) (aM (cV (cQ Vq (dv 5) aF) (aM (aX (aO rE (aO rE (dv 5) aF) (dv 2)))) bZ)))) bZ) (aM (cB 3 eO.nd (aO jY (dv 3) (aO rA aF (aO rC (dv 1) (bf dD rfl T.dZ aeB (aj (dv 0) aA)))))))))) bZ) (aK (cB 3 eO.nd (aO rE (aO jY (aO rA (aO rE (dv 3) aF) aF) (aO rA aF (aO jY (dv 1) aF))) aF)) (aK (cB 3 eO.nd (aO rE (aO jY (aO rA (dv 3) (dv 3)) (aO rC (dv 3) aF)) aF)) (aM (aX (aO rE (aO rC (aO rE (aO jY (aO rA (dv 3) (dv 3)) (aO rC (dv 3) aF)) aF) aF) (dv 2))))))))
theorem T6(T:HX K mg):fV P w K mg base 1 "_law_free" 1 xG:=
 iI (k:=0) (g:=Gu) T.xX RN rfl rfl λcdv A outer s H E hr=>(aM (aX (d8 eV rfl T.dR afi (aj (cg ["_law_row"] [] rfl (by kernel_rfl) (by kernel_rfl) (dU (dv 0)) (aW (by decide)) (λ_ _ _ _ nd=>bx 0 nd) (λ_ _ _ _=>bM) (λ_ _ _ _=>(aO gQ (cA (aj aF aA)) (bf dD rfl T.dZ aeB (aj (dv 0) aA))))) aA))))
theorem PB(T:HX K mg):fV P w K mg base 1 "cells_along" 2 sH:=
 iI (k:=0) (g:=Bd) T.tK Mu rfl rfl λcdv A outer s H E hr=>(aM (aX (d8 eV rfl T.dR afi (aj (cg ["row","place"] [] rfl (by kernel_rfl) (by kernel_rfl) (FJ rfl T.Ad (aj (dv 0) (aj (dv 1) aA))) (gJ (bK (aW (by decide)) (bK (aW (by decide)) gH))) (λ_ _ _ _ nd=>lF rfl (cD (bx 0 nd) (cD (bx 1 nd) jw))) (λ_ _ _ _=>bM) (λ_ _ _ _=>(bW (dv 0) (dv 1)))) aA))))
theorem Ar(T:HX K mg):fV P w K mg base 1 "is_whole" 1 jO:=
 iI (k:=0) (g:=JC) T.Af TJ rfl rfl λcdv A outer s H E hr=>(aM (aX (nO (qm (ans:=Fy) T.Kq (dv 0) rfl T.dG af3 rfl T.Wt boot_int) (rF (ab6 (qm (ans:=zx) T.Ed (dv 0) rfl T.dG af3 rfl T.RW boot_bool))))))
theorem R4(T:HX K mg):fV P w K mg base 2 "is_way" 3 gW:=
 iI (k:=1) (g:=Rk) T.Im YZ rfl rfl λcdv A outer s H E hr=>(aK (cV (DW.dt (Vr (jf (lE (qm (ans:=gb) T.m9 (dv 0) rfl T.dG af3 rfl T.dR afi))) (Qq (cQ (tX (cL hr)) (bf dD rfl T.dZ aeB (aj (dv 0) aA)) (dv 2))))) (aM (aX lq)) bZ) (aK (cV (jf (lE (bf (rH rfl) rfl T.rm ahR (aj (cg ["place"] [1] rfl (by kernel_rfl) (by kernel_rfl) (dU (dv 0)) (aW (by decide)) (λ_ _ _ _ nd=>bx 0 nd) (λ_ _ _ _=>bM) (λ_ _ _ _=>(nO (bN (Ar T) hr (by decide) (aj (dv 0) aA)) (rF (zf wG aaK aF (dv 0) (dv 1)))))) aA)))) (aM (aX lq)) bZ) (aM (aX (bf (rH rfl) rfl T.rm ahR (aj (cg ["y"] [0] rfl (by kernel_rfl) (by kernel_rfl) (Nf rfl T.fK (aj aF (aj (dv 2) aA))) (aW (by decide)) (λ_ _ _ _ nd=>bx 0 nd) (λ_ _ _ _=>bM) (λ_ _ _ _=>(uK wG (bf Ji rfl T.Ge boot_abs (aj (aO gZ (bW (dv 1) (dv 0)) (bW (dv 1) (aO gZ (dv 0) aF))) aA)) aF))) aA))))))
theorem Ou(T:HX K mg):fV P w K mg base 1 "is_line" 1 rO:=
  iI (k:=0) (g:=NP) T.Ei Wh rfl rfl fun cdv A outer s H E hr=>(by
    obtain⟨GD,ou⟩:=T.nW
    exact (aM (aX (nO (qm (ans:=gb) T.m9 (dv 0) rfl T.dG af3 rfl T.dR afi) (rF (zf wG wG aF (bf dD rfl T.dZ aeB (aj (dv 0) aA)) (iM rfl ou)))))))
theorem Ov(T:HX K mg):fV P w K mg base 2 "is_cell" 1 wR:=
  iI (k:=1) (g:=NQ) T.Ej Wi rfl rfl fun cdv A outer s H E hr=>(by
    obtain⟨ac2,T7⟩:=T.xU
    exact (aM (aX (nO (bN (Ar T) hr (by decide) (aj (dv 0) aA)) (rF (zf wG wG aF (dv 0) (iM rfl T7)))))))
theorem aaA(T:HX K mg):fV P w K mg base 3 "is_row" 1 HD:=
 iI (k:=2) (g:=Rn) T.Io Y0 rfl rfl λcdv A outer s H E hr=>(aM (aX (nO (bN (Ou T) hr (by decide) (aj (dv 0) aA)) (rF (bf (rH rfl) rfl T.rm ahR (aj (cg ["cell"] [] rfl (by kernel_rfl) (by kernel_rfl) (dU (dv 0)) (aW (by decide)) (λ_ _ _ _ nd=>bx 0 nd) (λ_ _ _ _=>bM) (λ_ _ _ _=>(bN (Ov T) hr (by decide) (aj (dv 0) aA)))) aA))))))
theorem R5(T:HX K mg):fV P w K mg base 4 "is_picture" 1 eN:=
 iI (k:=3) (g:=Cw) T.vZ Pj rfl rfl λcdv A outer s H E hr=>(aK (cV (DW.dt (Vr (jf (lE (bN (Ou T) hr (by decide) (aj (dv 0) aA)))) (Qq (jf (lE (bf (rH rfl) rfl T.rm ahR (aj (cg ["row"] [] rfl (by kernel_rfl) (by kernel_rfl) (dU (dv 0)) (aW (by decide)) (λ_ _ _ _ nd=>bx 0 nd) (λ_ _ _ _=>bM) (λ_ _ _ _=>(bN (aaA T) hr (by decide) (aj (dv 0) aA)))) aA))))))) (aM (aX lq)) bZ) (aM (aX (bf (rH rfl) rfl T.rm ahR (aj (cg ["row"] [0] rfl (by kernel_rfl) (by kernel_rfl) (dU (dv 0)) (aW (by decide)) (λ_ _ _ _ nd=>bx 0 nd) (λ_ _ _ _=>bM) (λ_ _ _ _=>(uK (fL (cL hr)) (bf dD rfl T.dZ aeB (aj (dv 0) aA)) (bf dD rfl T.dZ aeB (aj (bW (dv 1) aF) aA))))) aA)))))
theorem qW(T:HB K mg base cN TP cM TQ):lD P w K mg base 5 "need_picture" 1 iR ["thing"] (tz TP TQ):=
  sV (k:=4) (m:=0) (g:=yI) T.qR Kh rfl rfl fun cdv A outer s H E hr hT=>((by
    obtain⟨bO,xV⟩:=T.xV
    exact (aM (cV (jf (lE (bN (R5 T.toHX) hr (by decide) (aj (dv 0) aA)))) (aM (qF rfl xV (aj jt aA) (fun _=>⟨_,rfl,by decide⟩))) bZ))))
theorem wZ(T:HB K mg base cN TP cM TQ):lD P w K mg base 6 "size_of" 1 lY ["picture"] (tz TP TQ):=
 sV (k:=5) (m:=0) (g:=NT) T.Ek Wj rfl rfl λcdv A outer s H E hr hT=>((aK (je (dj (qW T) hT hr (by decide) (aj (dv 0) aA))) (aM (aX (cA (aj (bf dD rfl T.dZ aeB (aj (bW (dv 0) aF) aA)) (aj (bf dD rfl T.dZ aeB (aj (dv 0) aA)) aA)))))))
theorem Y5(T:HB K mg base cN TP cM TQ):lD P w K mg base 7 "is_seam" 2 Cy ["thing","picture"] (tz TP TQ):=
 sV (k:=6) (m:=2) (g:=NZ) T.El Kl rfl rfl λcdv A outer s H E hr hT=>((aK (kh 2 3 rfl Kl.nd (dj (wZ T) hT hr (by decide) (aj (dv 1) aA))) (aM (aX (bN (R4 T.toHX) hr (by decide) (aj (dv 0) (aj (dv 2) (aj (dv 3) aA))))))))
theorem oA(T:HB K mg base cN TP cM TQ):lD P w K mg base 8 "need_seam" 2 gA ["thing","picture"] (tz TP TQ):=
  sV (k:=7) (m:=0) (g:=Gv) T.xY RP rfl rfl fun cdv A outer s H E hr hT=>((by
    obtain⟨cR,qQ⟩:=T.qQ
    exact (aM (cV (jf (lE (dj (Y5 T) hT hr (by decide) (aj (dv 0) (aj (dv 1) aA))))) (aM (qF rfl qQ (aj jt aA) (fun _=>⟨_,rfl,by decide⟩))) bZ))))
theorem Ww(T:HB K mg base cN TP cM TQ):lD P w K mg base 9 "cells_of" 2 uc ["picture","seam"] (tz TP TQ):=
 sV (k:=8) (m:=0) (g:=JD) T.Ag TV rfl rfl λcdv A outer s H E hr hT=>((aK (je (dj (oA T) hT hr (by decide) (aj (dv 1) (aj (dv 0) aA)))) (aM (aX (bN (PB T.toHX) hr (by decide) (aj (dv 0) (aj (dv 1) aA)))))))
theorem R6(T:HX K mg):fV P w K mg base 1 "gaps" 1 Cz:=
 iI (k:=0) (g:=Yr) T.RX Vn rfl rfl λcdv A outer s H E hr=>(aK (cB 1 Vn.nd (aO gZ (bf dD rfl T.dZ aeB (aj (dv 0) aA)) aF)) (aM (aX (cg ["at"] [1,0] rfl (by kernel_rfl) (by kernel_rfl) (gG rfl T.fK (aj (bf dD rfl T.dZ aeB (aj (dv 0) aA)) aA)) (aW (by decide)) (λ_ _ _ _ nd=>bx 0 nd) (λ_ _ _ _=>bM) (λ_ _ _ _=>(bf Ji rfl T.Ge boot_abs (aj (aO gZ (bW (dv 2) (bf (Jj rfl) rfl T.Gf boot_max (aj (aO gZ (dv 0) aF) (aj aF aA)))) (bW (dv 2) (bf (Jk rfl) rfl T.Aa boot_min (aj (aO dh (dv 0) aF) (aj (dv 1) aA))))) aA)))))))
theorem R7(T:HX K mg):fV P w K mg base 2 "join_fares" 2 vo:=
 iI (k:=1) (g:=CG) T.wg gj rfl rfl λcdv A outer s H E hr=>(aK (cB 2 gj.nd (bW (dv 0) (dv 1))) (aK (cB 3 gj.nd (bW (dv 0) (bf (Jj rfl) rfl T.Gf boot_max (aj (aO gZ (dv 1) aF) (aj aF aA))))) (aK (cB 4 gj.nd (aO gZ (bf dD rfl T.dZ aeB (aj (dv 2) aA)) aF)) (aK (yt 5 gj.nd aA) (aK (uQ af5 rfl (Lz rfl T.nY (aj (bN (R6 T) hr (by decide) (aj (dv 2) aA)) aA)) (Lg 6 7 rfl gj.nd) (aK (cB 8 gj.nd (aO dh (dv 7) (bf Ji rfl T.Ge boot_abs (aj (aO gZ (bW (dv 3) (dv 6)) (bW (dv 2) (bf (Jj rfl) rfl T.Gf boot_max (aj (aO gZ (dv 6) aF) (aj aF aA))))) aA)))) (aK (cB 9 gj.nd (aO dh (dv 7) (bf Ji rfl T.Ge boot_abs (aj (aO gZ (bW (dv 3) (dv 6)) (bW (dv 2) (bf (Jk rfl) rfl T.Aa boot_min (aj (aO dh (dv 6) aF) (aj (dv 4) aA))))) aA)))) (aM (Qx 5 (cA (aj (dv 8) (aj (dv 7) (aj (dv 9) aA))))))))) (aM (aX (dv 5))))))))
theorem aaB(T:HB K mg base cN TP cM TQ):q8 P w K mg base 7 "turned" 1 HF ["picture"] (tz TP TQ):=
 Mt (k:=6) (m:=2) (g:=Ro) T.Ir Ot rfl rfl λcdv A outer s H E _ hr hT=>((aK (kh 1 2 rfl Ot.nd (dj (wZ T) hT hr (by decide) (aj (dv 0) aA))) (aM (aX (d8 eV rfl T.dR afi (aj (cg ["x"] [2,0] rfl (by kernel_rfl) (by kernel_rfl) (gG rfl T.fK (aj (dv 1) aA)) (aW (by decide)) (λ_ _ _ _ nd=>bx 0 nd) (λ_ _ _ _=>bM) (λ_ _ _ _=>(d8 eV rfl T.dR afi (aj (cg ["y"] [2,0] rfl (by kernel_rfl) (by kernel_rfl) (gG rfl T.fK (aj (dv 1) aA)) (aW (by decide)) (λ_ _ _ _ nd=>bx 0 nd) (λ_ _ _ _=>bM) (λ_ _ _ _=>(bW (bW (dv 1) (dv 0)) (dv 2)))) aA)))) aA))))))
theorem aaC(T:HB K mg base cN TP cM TQ):q8 P w K mg base 8 "worths" 1 HJ ["picture"] (tz TP TQ):=
 Mt (k:=7) (m:=4) (g:=Rp) T.Iu wY rfl rfl λcdv A outer s H E _ hr hT=>((aK (kh 1 2 rfl wY.nd (dj (wZ T) hT hr (by decide) (aj (dv 0) aA))) (aK (cB 3 wY.nd (cg ["row"] [] rfl (by kernel_rfl) (by kernel_rfl) (dU (dv 0)) (aW (by decide)) (λ_ _ _ _ nd=>bx 0 nd) (λ_ _ _ _=>bM) (λ_ _ _ _=>(bN (R6 T.toHX) hr (by decide) (aj (dv 0) aA))))) (aK (cB 4 wY.nd (cg ["column"] [] rfl (by kernel_rfl) (by kernel_rfl) (dU (fJ (aaB T) hT hr (by decide) (aj (dv 0) aA))) (aW (by decide)) (λ_ _ _ _ nd=>bx 0 nd) (λ_ _ _ _=>bM) (λ_ _ _ _=>(bN (R6 T.toHX) hr (by decide) (aj (dv 0) aA))))) (aM (aX (d8 eV rfl T.dR afi (aj (cg ["y"] [3,4,1] rfl (by kernel_rfl) (by kernel_rfl) (gG rfl T.fK (aj (dv 2) aA)) (aW (by decide)) (λ_ _ _ _ nd=>bx 0 nd) (λ_ _ _ _=>bM) (λ_ _ _ _=>(d8 eV rfl T.dR afi (aj (cg ["x"] [1,2,0] rfl (by kernel_rfl) (by kernel_rfl) (gG rfl T.fK (aj (dv 3) aA)) (aW (by decide)) (λ_ _ _ _ nd=>bx 0 nd) (λ_ _ _ _=>bM) (λ_ _ _ _=>(aO dh (bW (bW (dv 1) (dv 3)) (dv 0)) (bW (bW (dv 2) (dv 0)) (dv 3))))) aA)))) aA))))))))
theorem Vo(T:HB K mg base cN TP cM TQ):q8 P w K mg base 9 "fares" 2 uz ["picture","manner"] (tz TP TQ):=
 Mt (k:=8) (m:=0) (g:=U8) T.MK aaz rfl rfl λcdv A outer s H E _ hr hT=>((aK (cV (cQ (fL (cL hr)) (dv 1) jt) (aM (aX (cg ["row"] [] rfl (by kernel_rfl) (by kernel_rfl) (dU (fJ (aaC T) hT hr (by decide) (aj (dv 0) aA))) (aW (by decide)) (λ_ _ _ _ nd=>bx 0 nd) (λ_ _ _ _=>bM) (λ_ _ _ _=>(cg ["worth"] [] rfl (by kernel_rfl) (by kernel_rfl) (dU (dv 0)) (aW (by decide)) (λ_ _ _ _ nd=>bx 0 nd) (λ_ _ _ _=>bM) (λ_ _ _ _=>(cA (aj (dv 0) (aj (dv 0) (aj (dv 0) aA)))))))))) bZ) (aM (aX (cg ["y"] [0] rfl (by kernel_rfl) (by kernel_rfl) (gG rfl T.fK (aj (bf dD rfl T.dZ aeB (aj (dv 0) aA)) aA)) (aW (by decide)) (λ_ _ _ _ nd=>bx 0 nd) (λ_ _ _ _=>bM) (λ_ _ _ _=>(bN (R7 T.toHX) hr (by decide) (aj (dv 1) (aj (dv 0) aA)))))))))
theorem Bp(T:HB K mg base cN TP cM TQ):lD P w K mg base 1 "need_manner" 1 j7 ["thing"] (tz TP TQ):=
  sV (k:=0) (m:=0) (g:=Bf) T.tL Mw rfl rfl fun cdv A outer s H E hr hT=>((by
    obtain⟨cj,Ae⟩:=T.Ae
    exact (aM (cV (cQ (abD (cL hr)) (dv 0) (abg (ss:=["worth","joins"]) rfl T.Eb) (by rfl)) (aM (qF rfl Ae (aj jt aA) (fun _=>⟨_,rfl,by decide⟩))) bZ))))
theorem w5(T:HX K mg):fV P w K mg base 1 "fare_of" 3 gM:=
 iI (k:=0) (g:=N5) T.Em Wk rfl rfl λcdv A outer s H E hr=>(aM (aX (bW (bW (dv 0) (dv 2)) (aO dh (aO gZ (dv 1) (dv 2)) aF))))
theorem Ks(T:HX K mg):fV P w K mg base 2 "way_cost" 2 ud:=
 iI (k:=1) (g:=JF) T.Ah q9 rfl rfl λcdv A outer s H E hr=>(aK (cB 2 q9.nd (bN (w5 T) hr (by decide) (aj (bW (dv 0) aF) (aj (bW (dv 1) aF) (aj (bW (dv 1) aF) aA))))) (aK (uQ af5 rfl (Nf rfl T.fK (aj aF (aj (bf dD rfl T.dZ aeB (aj (dv 1) aA)) aA))) (zu 3 q9.nd) (aM (acq 2 q9.nd (bN (w5 T) hr (by decide) (aj (bW (dv 0) (dv 3)) (aj (bW (dv 1) (aO gZ (dv 3) aF)) (aj (bW (dv 1) (dv 3)) aA))))))) (aM (aX (dv 2)))))
theorem Eu(T:HB K mg base cN TP cM TQ):∃fd,Cu P w K mg base 10 "cost_of" 3 wU fd ["picture","seam","manner"] (tz TP TQ)/\KB K fd ["picture","seam","manner"] ["manner"] [.inl 0]:=by
 obtain⟨f,fd,Fn,hmg,B⟩:=T.Y4;exact⟨fd,⟨f,Mi (k:=9) (m:=0) (g:=N6) Fn Wm rfl rfl λcdv A outer s H E hr hT=>((aK (je (dj (qW T) hT hr (by decide) (aj (dv 0) aA))) (aK (je (dj (Bp T) hT hr (by decide) (aj (dv 2) aA))) (aK (je (dj (oA T) hT hr (by decide) (aj (dv 1) (aj (dv 0) aA)))) (aM (aX (bN (Ks T.toHX) hr (by decide) (aj (fJ (Vo T) hT hr (by decide) (aj (dv 0) (aj (dv 2) aA))) (aj (dv 1) aA))))))))),hmg,Fn.kp⟩,B⟩
theorem Y6(T:HX K mg):fV P w K mg base 1 "without" 2 CJ:=
 iI (k:=0) (g:=N7) T.En Wn rfl rfl λcdv A outer s H E hr=>(aM (aX (d8 eV rfl T.dR afi (aj (cg ["row","place"] [] rfl (by kernel_rfl) (by kernel_rfl) (FJ rfl T.Ad (aj (dv 0) (aj (dv 1) aA))) (gJ (bK (aW (by decide)) (bK (aW (by decide)) gH))) (λ_ _ _ _ nd=>lF rfl (cD (bx 0 nd) (cD (bx 1 nd) jw))) (λ_ _ _ _=>bM) (λ_ _ _ _=>(aO dh (qC (dv 0) lO (lQ (dv 1))) (qC (dv 0) (lQ (aO dh (dv 1) aF)) lO)))) aA))))
theorem adz(T:HB K mg base cN TP cM TQ):lD P w K mg base 9 "cut" 2 JG ["picture","seam"] (tz TP TQ):=
 sV (k:=8) (m:=0) (g:=aaO) T.Wu acU rfl rfl λcdv A outer s H E hr hT=>((aK (je (dj (oA T) hT hr (by decide) (aj (dv 1) (aj (dv 0) aA)))) (aK (cV (cQ (fL (cL hr)) (bf dD rfl T.dZ aeB (aj (bW (dv 0) aF) aA)) aF) (aM (aX fU)) bZ) (aM (aX (bN (Y6 T.toHX) hr (by decide) (aj (dv 0) (aj (dv 1) aA))))))))
theorem PJ(T:HX K mg):fV P w K mg base 1 "mean_behind" 2 sI:=
 iI (k:=0) (g:=Bg) T.tM yX rfl rfl λcdv A outer s H E hr=>(aK (cB 2 yX.nd (bf (Jk rfl) rfl T.Aa boot_min (aj (aO dh (dv 1) aF) (aj (aO gZ (bf dD rfl T.dZ aeB (aj (dv 0) aA)) aF) aA)))) (aM (aX (aO rC (aO dh (bW (dv 0) (dv 1)) (bW (dv 0) (dv 2))) aF))))
theorem PL(T:HX K mg):fV P w K mg base 2 "means_along" 2 sJ:=
 iI (k:=1) (g:=Bh) T.tO Mx rfl rfl λcdv A outer s H E hr=>(aM (aX (d8 eV rfl T.dR afi (aj (cg ["row","place"] [] rfl (by kernel_rfl) (by kernel_rfl) (FJ rfl T.Ad (aj (dv 0) (aj (dv 1) aA))) (gJ (bK (aW (by decide)) (bK (aW (by decide)) gH))) (λ_ _ _ _ nd=>lF rfl (cD (bx 0 nd) (cD (bx 1 nd) jw))) (λ_ _ _ _=>bM) (λ_ _ _ _=>(bN (PJ T) hr (by decide) (aj (dv 0) (aj (dv 1) aA))))) aA))))
theorem PN(T:HX K mg):fV P w K mg base 1 "seam_behind" 1 sO:=
 iI (k:=0) (g:=Bj) T.tQ Mz rfl rfl λcdv A outer s H E hr=>(aM (aX (d8 eV rfl T.dR afi (aj (cg ["place"] [] rfl (by kernel_rfl) (by kernel_rfl) (dU (dv 0)) (aW (by decide)) (λ_ _ _ _ nd=>bx 0 nd) (λ_ _ _ _=>bM) (λ_ _ _ _=>(aO dh (dv 0) aF))) aA))))
theorem Ew(T:HX K mg):fV P w K mg base 1 "with_cells" 3 pI:=
 iI (k:=0) (g:=CK) T.wj Pk rfl rfl λcdv A outer s H E hr=>(aM (aX (d8 eV rfl T.dR afi (aj (cg ["row","place","cell"] [] rfl (by kernel_rfl) (by kernel_rfl) (abe rfl T.Ad (aj (dv 0) (aj (dv 1) (aj (dv 2) aA)))) (gJ (bK (aW (by decide)) (bK (aW (by decide)) (bK (aW (by decide)) gH)))) (λ_ _ _ _ nd=>lF rfl (cD (bx 0 nd) (cD (bx 1 nd) (cD (bx 2 nd) jw)))) (λ_ _ _ _=>bM) (λ_ _ _ _=>(aO dh (aO dh (qC (dv 0) lO (lQ (dv 1))) (cA (aj (dv 2) aA))) (qC (dv 0) (lQ (dv 1)) lO)))) aA))))
theorem Y7(T:HB K mg base cN TP cM TQ):lD P w K mg base 9 "doubled" 2 wV ["picture","seam"] (tz TP TQ):=
  sV (k:=8) (m:=0) (g:=N8) T.Eo Wq rfl rfl fun cdv A outer s H E hr hT=>((by
    obtain⟨GD,ou⟩:=T.nW
    exact (aK (je (dj (oA T) hT hr (by decide) (aj (dv 1) (aj (dv 0) aA)))) (aK (cV (cQ (fL (cL hr)) (bf dD rfl T.dZ aeB (aj (bW (dv 0) aF) aA)) (iM rfl ou)) (aM (aX fU)) bZ) (aM (aX (bN (Ew T.toHX) hr (by decide) (aj (dv 0) (aj (bN (PN T.toHX) hr (by decide) (aj (dv 1) aA)) (aj (bN (PL T.toHX) hr (by decide) (aj (dv 0) (aj (dv 1) aA))) aA))))))))))
theorem acV(T:HX K mg):fV P w K mg base 1 "near" 2 Rq:=
 iI (k:=0) (g:=Ys) T.RZ abR rfl rfl λcdv A outer s H E hr=>(aM (aX (Z4 rfl rfl T.Ec rfl T.fK (aj (bf (Jj rfl) rfl T.Gf boot_max (aj (aO gZ (dv 0) aF) (aj aF aA))) (aj (bf (Jk rfl) rfl T.Aa boot_min (aj (aO dh (dv 0) aF) (aj (dv 1) aA))) aA)))))
theorem Iw(T:HX K mg):fV P w K mg base 2 "onward" 3 vp:=
 iI (k:=1) (g:=Rr) T.Iv rR rfl rfl λcdv A outer s H E hr=>(aK (yt 3 rR.nd aA) (aK (uQ af5 rfl (dU (bN (acV T) hr (by decide) (aj (dv 2) (aj (bf dD rfl T.dZ aeB (aj (dv 0) aA)) aA)))) (zu 4 rR.nd) (aK (cB 5 rR.nd (bN (w5 T) hr (by decide) (aj (dv 1) (aj (dv 2) (aj (dv 4) aA))))) (aM (U5 3 rR.nd (cg ["less","cost","rest"] [5] rfl (by kernel_rfl) (by kernel_rfl) (dU (bW (dv 0) (dv 4))) (gJ (bK (aW (by decide)) (bK (aW (by decide)) (bK (aW (by decide)) gH)))) (λ_ _ _ _ nd=>lF rfl (cD (bx 0 nd) (cD (bx 1 nd) (cD (bx 2 nd) jw)))) (λ_ _ _ _=>bM) (λ_ _ _ _=>(cA (aj (dv 0) (aj (aO dh (dv 1) (dv 3)) (aj (dv 2) aA)))))))))) (aM (aX (dv 3)))))
theorem aaD(T:Txt K mg)(Iw:fV P w K mg base 2 "onward" 3 vp){aG:Nat}{GG:List D->R D}(hG:pC P w K mg base 2 GG 2 aG H)(hr:Room 2 (A.deeper (afC "swept" (defScope uH) s.heap.objs.size f cdv))):jW (cxOf CX0 P w K mg base ["table","marks","start","gather","rows","y","row","x","mark","told","lost"] "swept" (defScope uH) f cdv A outer s H E).nox (defBody uH) (Mj aG GG):=by
 obtain⟨acW,R8⟩:=T.Ko;obtain⟨Y8,yZ⟩:=T.Ea;exact (aK (yt 4 jQ.nd aA) (aK (uQ af5 rfl (abr rfl T.Ab rfl T.fK (aj (bf dD rfl T.dZ aeB (aj (dv 1) aA)) aA)) (zu 5 jQ.nd) (aK (yt 6 jQ.nd aA) (aK (uQ af5 rfl (Lz rfl T.nY (aj (bW (dv 1) (dv 5)) aA)) (Lg 7 8 rfl jQ.nd) (aK (cV (cQ (fL (cL hr)) (dv 8) (iM rfl yZ)) (aM (cB 9 jQ.nd (fG aA))) (aM (cV (jf (Jx (dv 4))) (aM (cB 9 jQ.nd (Q5 3 hG hr (by decide) (aj (dv 7) (aj (fG (aj (cA (aj aF (aj aF (aj (dv 2) aA)))) aA)) aA))))) (aM (cB 9 jQ.nd (Q5 3 hG hr (by decide) (aj (dv 7) (aj (bN Iw hr (by decide) (aj (acC 4 (Jl aF)) (aj (bW (dv 0) (aO dh (dv 5) aF)) (aj (dv 7) aA)))) aA)))))))) (aK (cB 10 jQ.nd (Qg (cQ (fL (cL hr)) (dv 8) (iM rfl R8)) aF aF)) (aM (Qx 6 (cg ["less","cost","rest"] [10] rfl (by kernel_rfl) (by kernel_rfl) (dU (dv 9)) (gJ (bK (aW (by decide)) (bK (aW (by decide)) (bK (aW (by decide)) gH)))) (λ_ _ _ _ nd=>lF rfl (cD (bx 0 nd) (cD (bx 1 nd) (cD (bx 2 nd) jw)))) (λ_ _ _ _=>bM) (λ_ _ _ _=>(cA (aj (aO gZ (dv 0) (dv 3)) (aj (dv 1) (aj (dv 2) aA))))))))))) (aM (abp 4 6 (by decide)))))) (aM (aX (abo (dv 4))))))
theorem uI(T:HX K mg):FnS P w K mg base 3 "swept" 2 3 2 mU:=by
 obtain⟨f,fd,Fn,hmg,hb⟩:=T.MN;exact⟨f,fd,["table","marks","start","gather"],fnS (k:=2) (m:=7) (g:=Mj) Fn jQ rfl rfl λcdv A outer s H E a G hr hG=>aaD T.toTxt (Iw T) hG hr,hmg,Fn.kp,hb⟩
theorem R9{cc TP:aed}(T:Txt K mg)(uI:FnS P w K mg base 3 "swept" 2 3 2 mU)(hB:iB base mg cc TP)(hT:Tb [(TP,"best_ways.<locals>.first_ones")] H)(hr:Room 3 (A.deeper (afC "best_ways" (defScope jo) s.heap.objs.size f (.ref cc)))):jW (cxOf CX0 P w K mg base ["table","marks","many","first_ones"] "best_ways" (defScope jo) f (.ref cc) A outer s H E).nox (defBody jo) xH:=by
 obtain⟨fS,Gq,Cm,Sw,hm,hk,hb⟩:=uI;exact Z0 (c:=s.heap.objs.size+1) (y:= "many") 3 2 Dy.nd hB hT rfl Sw (hr.mono (by decide)) hm hk hb (λmy a c H co uy q1 q2 q3 q4=>(MP T my a c H co uy q1 q2 q3 q4).mono (by decide)) (dv 0) (dv 1) (cA aA) rfl rfl rfl rfl (by decide) (.inl rfl)
theorem GF(T:HB K mg base cN TP cM TQ):q8 P w K mg base 4 "best_ways" 3 qZ ["table","marks","many"] (tz TP TQ):=by
 obtain⟨f,fd,Fn,hmg,hb⟩:=T.xZ;refine⟨fd,⟨f,fnT (k:=3) (m:=1) (g:=xH) Fn Dy rfl rfl λcdv A outer s H E hcd hr hT=>?_,hmg,Fn.kp⟩,hb⟩;have e:fd.code= .ref cN:=by
  obtain⟨oc,od,kV,doc,pm,an,ad1,ct,osl,e1,lk,_⟩:=Fn.ex;exact T.hC f oc od fd osl hmg lk
 cases hcd.symm.trans e;exact R9 T.toHX.toTxt (uI T.toHX) T.hB (hT.fewer λp hp=>by cases afZ.mp hp;exact aex) hr
theorem Ku(T:HX K mg):fV P w K mg base 2 "from_top" 2 pJ:=
 iI (k:=1) (g:=JH) T.Ai nU rfl rfl λcdv A outer s H E hr=>(aK (yt 2 nU.nd aA) (aK (uQ af5 rfl (Lz rfl T.nY (aj (bW (dv 1) aF) aA)) (Lg 3 4 rfl nU.nd) (aK (cB 5 nU.nd (bN (w5 T) hr (by decide) (aj (bW (dv 0) aF) (aj (dv 3) (aj (dv 3) aA))))) (aM (U5 2 nU.nd (cg ["less","cost","rest"] [5] rfl (by kernel_rfl) (by kernel_rfl) (dU (dv 4)) (gJ (bK (aW (by decide)) (bK (aW (by decide)) (bK (aW (by decide)) gH)))) (λ_ _ _ _ nd=>lF rfl (cD (bx 0 nd) (cD (bx 1 nd) (cD (bx 2 nd) jw)))) (λ_ _ _ _=>bM) (λ_ _ _ _=>(cA (aj (dv 0) (aj (aO dh (dv 1) (dv 3)) (aj (dv 2) aA)))))))))) (aM (aX (dv 2)))))
theorem Bq(T:HB K mg base cN TP cM TQ):q8 P w K mg base 5 "first_seams" 3 oG ["table","marks","many"] (tz TP TQ):=
 Mt (k:=4) (m:=0) (g:=Bk) T.tR MF rfl rfl λcdv A outer s H E _ hr hT=>((aM (aX (Nx (bf (Rg (Rh hr)) rfl T.Ac boot_sorted (aj (bN (Ku T.toHX) hr (by decide) (aj (dv 0) (aj (fJ (GF T) hT hr (by decide) (aj (dv 0) (aj (dv 1) (aj (dv 2) aA)))) aA))) aA)) lO (lQ (dv 2))))))
theorem Sd(T:HX K mg):fV P w K mg base 1 "gone_freed" 1 vB:=
  iI (k:=0) (g:=CP) T.wk Pn rfl rfl fun cdv A outer s H E hr=>(by
    obtain⟨Y9,Ey⟩:=T.DR
    obtain⟨Y8,yZ⟩:=T.Ea
    exact (aM (aX (d8 eV rfl T.dR afi (aj (cg ["row"] [] rfl (by kernel_rfl) (by kernel_rfl) (dU (dv 0)) (aW (by decide)) (fun _ _ _ _ nd=>bx 0 nd) (fun _ _ _ _=>bM) (fun _ _ _ _=>(d8 eV rfl T.dR afi (aj (cg ["mark"] [] rfl (by kernel_rfl) (by kernel_rfl) (dU (dv 0)) (aW (by decide)) (fun _ _ _ _ nd=>bx 0 nd) (fun _ _ _ _=>bM) (fun _ _ _ _=>(Qg (cQ (fL (cL hr)) (dv 0) (iM rfl yZ)) (iM rfl yZ) (iM rfl Ey)))) aA)))) aA)))))
theorem Wx(T:HX K mg):fV P w K mg base 1 "all_free" 1 zH:=
  iI (k:=0) (g:=JK) T.Aj TX rfl rfl fun cdv A outer s H E hr=>(by
    obtain⟨Y9,Ey⟩:=T.DR
    exact (aM (aX (aO gQ (cA (aj (aO gQ (cA (aj (iM rfl Ey) aA)) (bf dD rfl T.dZ aeB (aj (bW (dv 0) aF) aA))) aA)) (bf dD rfl T.dZ aeB (aj (dv 0) aA))))))
theorem Za(T:HX K mg):fV P w K mg base 2 "is_mark" 1 CQ:=
  iI (k:=1) (g:=Oa) T.Ep Wr rfl rfl fun cdv A outer s H E hr=>(by
    obtain⟨Y9,Ey⟩:=T.DR
    obtain⟨acW,R8⟩:=T.Ko
    exact (aM (aX (nO (bN (Ar T) hr (by decide) (aj (dv 0) aA)) (rF (zf wG wG (iM rfl Ey) (dv 0) (iM rfl R8)))))))
theorem M4(T:HX K mg):fV P w K mg base 3 "is_marks_row" 2 mV:=
 iI (k:=2) (g:=yJ) T.qT Km rfl rfl λcdv A outer s H E hr=>(aM (aX (nO (qm (ans:=gb) T.m9 (dv 0) rfl T.dG af3 rfl T.dR afi) (nO (uK (fL (cL hr)) (bf dD rfl T.dZ aeB (aj (dv 0) aA)) (dv 1)) (rF (bf (rH rfl) rfl T.rm ahR (aj (cg ["mark"] [] rfl (by kernel_rfl) (by kernel_rfl) (dU (dv 0)) (aW (by decide)) (λ_ _ _ _ nd=>bx 0 nd) (λ_ _ _ _=>bM) (λ_ _ _ _=>(bN (Za T) hr (by decide) (aj (dv 0) aA)))) aA)))))))
theorem Wz(T:HX K mg):fV P w K mg base 4 "is_marks" 2 mW:=
 iI (k:=3) (g:=JL) T.Ak TY rfl rfl λcdv A outer s H E hr=>(aK (cV (DW.dt (Vr (jf (lE (qm (ans:=gb) T.m9 (dv 0) rfl T.dG af3 rfl T.dR afi))) (Qq (cQ (tX (cL hr)) (bf dD rfl T.dZ aeB (aj (dv 0) aA)) (bf dD rfl T.dZ aeB (aj (dv 1) aA)))))) (aM (aX lq)) bZ) (aM (aX (bf (rH rfl) rfl T.rm ahR (aj (cg ["row"] [1] rfl (by kernel_rfl) (by kernel_rfl) (dU (dv 0)) (aW (by decide)) (λ_ _ _ _ nd=>bx 0 nd) (λ_ _ _ _=>bM) (λ_ _ _ _=>(bN (M4 T) hr (by decide) (aj (dv 0) (aj (bf dD rfl T.dZ aeB (aj (bW (dv 1) aF) aA)) aA))))) aA)))))
theorem Sg(T:HB K mg base cN TP cM TQ):lD P w K mg base 5 "full_marks" 2 fW ["thing","picture"] (tz TP TQ):=
  sV (k:=4) (m:=0) (g:=CV) T.wu Pq rfl rfl fun cdv A outer s H E hr hT=>((by
    obtain⟨cI,Eh⟩:=T.Eh
    exact (aK (cV (cQ aaM (dv 0) fU) (aM (aX (bN (Wx T.toHX) hr (by decide) (aj (dv 1) aA)))) bZ) (aK (cV (jf (lE (bN (Wz T.toHX) hr (by decide) (aj (dv 0) (aj (dv 1) aA))))) (aM (qF rfl Eh (aj jt aA) (fun _=>⟨_,rfl,by decide⟩))) bZ) (aM (aX (dv 0)))))))
theorem uq(T:HB K mg base cN TP cM TQ):lD P w K mg base 10 "laid_out" 3 gB ["picture","manner","marks"] (tz TP TQ):=
 sV (k:=9) (m:=1) (g:=JM) T.Al Gz rfl rfl λcdv A outer s H E hr hT=>((aK (je (dj (qW T) hT hr (by decide) (aj (dv 0) aA))) (aK (je (dj (Bp T) hT hr (by decide) (aj (dv 1) aA))) (aK (cB 3 Gz.nd (dj (Sg T) hT hr (by decide) (aj (dv 2) (aj (dv 0) aA)))) (aM (aX (cA (aj (fJ (Vo T) hT hr (by decide) (aj (dv 0) (aj (dv 1) aA))) (aj (dv 3) aA)))))))))
theorem Sh(T:HX K mg):fV P w K mg base 1 "meets_kept" 2 vC:=
  iI (k:=0) (g:=CW) T.wz Px rfl rfl fun cdv A outer s H E hr=>(by
    obtain⟨Y8,yZ⟩:=T.Ea
    exact (aM (aX (bf (acE rfl) rfl T.Ws boot_any (aj (cg ["row","place"] [] rfl (by kernel_rfl) (by kernel_rfl) (FJ rfl T.Ad (aj (dv 1) (aj (dv 0) aA))) (gJ (bK (aW (by decide)) (bK (aW (by decide)) gH))) (fun _ _ _ _ nd=>lF rfl (cD (bx 0 nd) (cD (bx 1 nd) jw))) (fun _ _ _ _=>bM) (fun _ _ _ _=>(uK (fL (cL hr)) (bW (dv 0) (dv 1)) (iM rfl yZ)))) aA)))))
theorem Av(T:HB K mg base cN TP cM TQ):∃fd,Cu P w K mg base 11 "is_least" 4 uf fd ["picture","seam","manner","marks"] (tz TP TQ)/\KB K fd ["picture","seam","manner","marks"] ["manner","marks"] [.inl 0,.inl 1]:=by
 obtain⟨f,fd,Fn,hmg,B⟩:=T.Wv;exact⟨fd,⟨f,Mi (k:=10) (m:=5) (g:=JN) Fn xQ rfl rfl λcdv A outer s H E hr hT=>((aK (kh 4 5 rfl xQ.nd (dj (uq T) hT hr (by decide) (aj (dv 0) (aj (dv 2) (aj (dv 3) aA))))) (aK (je (dj (oA T) hT hr (by decide) (aj (dv 1) (aj (dv 0) aA)))) (aK (cV (lE (bN (Sh T.toHX) hr (by decide) (aj (dv 1) (aj (dv 5) aA)))) (aM (aX lq)) bZ) (aK (Mf 6 7 8 rfl xQ.nd (bW (fJ (Bq T) hT hr (by decide) (aj (dv 4) (aj (bN (Sd T.toHX) hr (by decide) (aj (dv 5) aA)) (aj aF aA)))) aF)) (aM (aX (uK (fL (cL hr)) (bN (Ks T.toHX) hr (by decide) (aj (dv 4) (aj (dv 1) aA))) (dv 7))))))))),hmg,Fn.kp⟩,B⟩
theorem T8(T:HB K mg base cN TP cM TQ):q8 P w K mg base 6 "least_way" 2 xJ ["table","marks"] (tz TP TQ):=
 Mt (k:=5) (m:=4) (g:=Gw) T.yc vV rfl rfl λcdv A outer s H E _ hr hT=>((aK (cB 2 vV.nd (fJ (Bq T) hT hr (by decide) (aj (dv 0) (aj (dv 1) (aj aF aA))))) (aK (cV (jf (Jx (dv 2))) (aM (aX fU)) bZ) (aK (Mf 3 4 5 rfl vV.nd (bW (dv 2) aF)) (aM (aX (cA (aj (dv 4) (aj (dv 5) aA)))))))))
theorem wB(T:HB K mg base cN TP cM TQ):∃fd,Cu P w K mg base 11 "least_seam" 3 pK fd ["picture","manner","marks"] (tz TP TQ)/\KB K fd ["picture","manner","marks"] ["manner","marks"] [.inl 0,.inl 1]:=by
 obtain⟨f,fd,Fn,hmg,B⟩:=T.R0;exact⟨fd,⟨f,Mi (k:=10) (m:=3) (g:=CZ) Fn tE rfl rfl λcdv A outer s H E hr hT=>((aK (kh 3 4 rfl tE.nd (dj (uq T) hT hr (by decide) (aj (dv 0) (aj (dv 1) (aj (dv 2) aA))))) (aK (cB 5 tE.nd (fJ (T8 T) hT hr (by decide) (aj (dv 3) (aj (dv 4) aA)))) (aK (cV (cQ aaM (dv 5) fU) (aM (aX fU)) bZ) (aM (aX (bW (dv 5) aF))))))),hmg,Fn.kp⟩,B⟩
theorem jK(T:HX K mg):fV P w K mg base 1 "as_good" 1 jJ:=
 iI (k:=0) (g:=Oc) T.Er zW rfl rfl λcdv A outer s H E hr=>(aK (cV (jf (Jx (dv 0))) (aM (aX (fG aA))) bZ) (aK (kh 1 2 rfl zW.nd (qC (bf (abB rfl (Rh hr)) rfl T.Aa boot_min (aj (dv 0) aA)) lO (lQ aF))) (aK (abj 3 zW.nd ["less","cost","many"] [2,1] rfl (by kernel_rfl) (by kernel_rfl) (dU (dv 0)) (gJ (bK (aW (by decide)) (bK (aW (by decide)) (bK (aW (by decide)) gH)))) (λ_ _ _ _ nd=>lF rfl (cD (bx 0 nd) (cD (bx 1 nd) (cD (bx 2 nd) jw)))) (λ_ _ _ _=>(aaW (DW.dt (Qs (cQ (fL (cL hr)) (dv 0) (dv 4)) (Lf (cQ (fL (cL hr)) (dv 1) (dv 3))))))) (λ_ _ _ _=>(dv 2))) (aM (aX (fG (aj (cA (aj (dv 1) (aj (dv 2) (aj (bf (Xm rfl) rfl T.Qn boot_sum (aj (dv 3) aA)) aA)))) aA)))))))
theorem M5{cc TP:aed}(T:Txt K mg)(uI:FnS P w K mg base 3 "swept" 2 3 2 mU)(jK:fV P w K mg base 1 "as_good" 1 jJ)(hB:iB base mg cc TP)(hT:Tb [(TP,"best_counts.<locals>.<lambda>")] H)(hr:Room 3 (A.deeper (afC "best_counts" (defScope dB) s.heap.objs.size f (.ref cc)))):jW (cxOf CX0 P w K mg base ["table","marks"] "best_counts" (defScope dB) f (.ref cc) A outer s H E).nox (defBody dB) sS:=by
 obtain⟨fS,Gq,Cm,Sw,hm,hk,hb⟩:=uI;exact abz hB hT rfl Sw (hr.mono (by decide)) hm hk hb (BR T jK) (dv 0) (dv 1) aF rfl rfl rfl
theorem PX(T:HB K mg base cN TP cM TQ):q8 P w K mg base 4 "best_counts" 2 sU ["table","marks"] (tz TP TQ):=by
 obtain⟨f,fd,Fn,hmg,hb⟩:=T.tU;refine⟨fd,⟨f,fnT (k:=3) (m:=0) (g:=sS) Fn MJ rfl rfl λcdv A outer s H E hcd hr hT=>?_,hmg,Fn.kp⟩,hb⟩;have e:fd.code= .ref cM:=by
  obtain⟨oc,od,kV,doc,pm,an,ad1,ct,osl,e1,lk,_⟩:=Fn.ex;exact T.hC2 f oc od fd osl hmg lk
 cases hcd.symm.trans e;exact M5 T.toHX.toTxt (uI T.toHX) (jK T.toHX) T.hB2 (hT.fewer λp hp=>by cases afZ.mp hp;exact z2f _ aex) hr
theorem wC(T:HB K mg base cN TP cM TQ):∃fd,Cu P w K mg base 11 "many_least" 3 pL fd ["picture","manner","marks"] (tz TP TQ)/\KB K fd ["picture","manner","marks"] ["manner","marks"] [.inl 0,.inl 1]:=by
 obtain⟨f,fd,Fn,hmg,B⟩:=T.R3;exact⟨fd,⟨f,Mi (k:=10) (m:=3) (g:=Dc) Fn tH rfl rfl λcdv A outer s H E hr hT=>((aK (kh 3 4 rfl tH.nd (dj (uq T) hT hr (by decide) (aj (dv 0) (aj (dv 1) (aj (dv 2) aA))))) (aK (cB 5 tH.nd (bN (jK T.toHX) hr (by decide) (aj (bN (Ku T.toHX) hr (by decide) (aj (dv 3) (aj (fJ (PX T) hT hr (by decide) (aj (dv 3) (aj (dv 4) aA))) aA))) aA))) (aM (aX (bf (Xm rfl) rfl T.Qn boot_sum (aj (cg ["less","cost","many"] [] rfl (by kernel_rfl) (by kernel_rfl) (dU (dv 5)) (gJ (bK (aW (by decide)) (bK (aW (by decide)) (bK (aW (by decide)) gH)))) (λ_ _ _ _ nd=>lF rfl (cD (bx 0 nd) (cD (bx 1 nd) (cD (bx 2 nd) jw)))) (λ_ _ _ _=>bM) (λ_ _ _ _=>(dv 2))) aA))))))),hmg,Fn.kp⟩,B⟩
theorem Ss(T:HX K mg):fV P w K mg base 1 "sheet_cell" 1 vD:=
 iI (k:=0) (g:=Df) T.wA Bo rfl rfl λcdv A outer s H E hr=>(aK (cV (jf (Jx (dv 0))) (aM (aX fU)) bZ) (aK (Mf 1 2 3 rfl Bo.nd (bW (dv 0) aF)) (aM (aX (cA (aj (Jl (dv 1)) (aj (dv 2) aA)))))))
theorem M6(T:HB K mg base cN TP cM TQ):∃fd,Cu P w K mg base 11 "paper" 3 FW fd ["picture","manner","marks"] (tz TP TQ)/\KB K fd ["picture","manner","marks"] ["manner","marks"] [.inl 0,.inl 1]:=by
 obtain⟨f,fd,Fn,hmg,B⟩:=T.abS;exact⟨fd,⟨f,Mi (k:=10) (m:=3) (g:=U9) Fn Il rfl rfl λcdv A outer s H E hr hT=>((aK (kh 3 4 rfl Il.nd (dj (uq T) hT hr (by decide) (aj (dv 0) (aj (dv 1) (aj (dv 2) aA))))) (aK (cB 5 Il.nd (fJ (GF T) hT hr (by decide) (aj (dv 3) (aj (dv 4) (aj aF aA))))) (aM (aX (d8 eV rfl T.dR afi (aj (cg ["row"] [] rfl (by kernel_rfl) (by kernel_rfl) (dU (dv 5)) (aW (by decide)) (λ_ _ _ _ nd=>bx 0 nd) (λ_ _ _ _=>bM) (λ_ _ _ _=>(d8 eV rfl T.dR afi (aj (cg ["ways"] [] rfl (by kernel_rfl) (by kernel_rfl) (dU (dv 0)) (aW (by decide)) (λ_ _ _ _ nd=>bx 0 nd) (λ_ _ _ _=>bM) (λ_ _ _ _=>(bN (Ss T.toHX) hr (by decide) (aj (dv 0) aA)))) aA)))) aA))))))),hmg,Fn.kp⟩,B⟩
theorem WD(T:HB K mg base cN TP cM TQ):lD P w K mg base 12 "_law_ask" 5 pN ["_law_way","_law_picture_here","_law_seam","_law_mode","_law_tags"] (tz TP TQ):=
  sV (k:=11) (m:=0) (g:=JQ) T.Am T4 rfl rfl fun cdv A outer s H E hr hT=>((by
    obtain⟨adA,Eu,oE⟩:=Eu T
    obtain⟨ac3,Av,mC⟩:=Av T
    obtain⟨ab1,wB,jC⟩:=wB T
    obtain⟨ab2,wC,jD⟩:=wC T
    obtain⟨ad2,M6,rY⟩:=M6 T
    exact (aK (cV (cQ (fL (cL hr)) (dv 0) aF) (aM (aX (yH (ks:=["manner"]) (.at 0 .nil) Eu hT hr (by decide) oE (aj (dv 1) (aj (dv 2) aA)) (mR (dv 3) Ca)))) bZ) (aK (cV (cQ (fL (cL hr)) (dv 0) aF) (aM (aX (yH (ks:=["manner","marks"]) (.at 0 (.at 1 .nil)) Av hT hr (by decide) mC (aj (dv 1) (aj (dv 2) aA)) (mR (dv 3) (mR (dv 4) Ca))))) bZ) (aK (cV (cQ (fL (cL hr)) (dv 0) aF) (aM (aX (yH (ks:=["manner","marks"]) (.at 0 (.at 1 .nil)) wB hT hr (by decide) jC (aj (dv 1) aA) (mR (dv 3) (mR (dv 4) Ca))))) bZ) (aK (cV (cQ (fL (cL hr)) (dv 0) aF) (aM (aX (yH (ks:=["manner","marks"]) (.at 0 (.at 1 .nil)) M6 hT hr (by decide) rY (aj (dv 1) aA) (mR (dv 3) (mR (dv 4) Ca))))) bZ) (aK (cV (cQ (fL (cL hr)) (dv 0) aF) (aM (aX (yH (ks:=["manner","marks"]) (.at 0 (.at 1 .nil)) wC hT hr (by decide) jD (aj (dv 1) aA) (mR (dv 3) (mR (dv 4) Ca))))) bZ) (aK (cV (cQ (fL (cL hr)) (dv 0) aF) (aM (aX (dj (Ww T) hT hr (by decide) (aj (dv 1) (aj (dv 2) aA))))) bZ) (aM (aX (Qg (cQ (fL (cL hr)) (dv 0) aF) (dj (adz T) hT hr (by decide) (aj (dv 1) (aj (dv 2) aA))) (dj (Y7 T) hT hr (by decide) (aj (dv 1) (aj (dv 2) aA))))))))))))))
theorem WK(T:HX K mg):fV P w K mg base 3 "is_cells" 2 mX:=
 iI (k:=2) (g:=JR) T.Ao T5 rfl rfl λcdv A outer s H E hr=>(aM (aX (nO (qm (ans:=gb) T.m9 (dv 0) rfl T.dG af3 rfl T.dR afi) (nO (uK (fL (cL hr)) (bf dD rfl T.dZ aeB (aj (dv 0) aA)) (dv 1)) (rF (bf (rH rfl) rfl T.rm ahR (aj (cg ["cell"] [] rfl (by kernel_rfl) (by kernel_rfl) (dU (dv 0)) (aW (by decide)) (λ_ _ _ _ nd=>bx 0 nd) (λ_ _ _ _=>bM) (λ_ _ _ _=>(bN (Ov T) hr (by decide) (aj (dv 0) aA)))) aA)))))))
theorem WL(T:HB K mg base cN TP cM TQ):lD P w K mg base 7 "put_back" 3 jg ["picture","seam","cells"] (tz TP TQ):=
  sV (k:=6) (m:=2) (g:=JT) T.Aq GC rfl rfl fun cdv A outer s H E hr hT=>((by
    obtain⟨GD,ou⟩:=T.nW
    obtain⟨cJ,Ef⟩:=T.Ef
    obtain⟨cR,qQ⟩:=T.qQ
    exact (aK (kh 3 4 rfl GC.nd (dj (wZ T) hT hr (by decide) (aj (dv 0) aA))) (aK (cV (jf (lE (bN (R4 T.toHX) hr (by decide) (aj (dv 1) (aj (aO dh (dv 3) aF) (aj (dv 4) aA)))))) (aM (qF rfl qQ (aj jt aA) (fun _=>⟨_,rfl,by decide⟩))) bZ) (aK (cV (jf (lE (bN (WK T.toHX) hr (by decide) (aj (dv 2) (aj (dv 4) aA))))) (aM (qF rfl Ef (aj jt aA) (fun _=>⟨_,rfl,by decide⟩))) bZ) (aK (cV (cQ (fL (cL hr)) (dv 3) (iM rfl ou)) (aM (aX fU)) bZ) (aM (aX (bN (Ew T.toHX) hr (by decide) (aj (dv 0) (aj (dv 1) (aj (dv 2) aA))))))))))))
theorem mD(T:HB K mg base cN TP cM TQ):q8 P w K mg base 13 "_law_no" 5 dJ ["_law_way","_law_picture_here","_law_seam","_law_mode","_law_tags"] (tz TP TQ):=
  Mt (k:=12) (m:=2) (g:=Od) T.Es um rfl rfl fun cdv A outer s H E _ hr hT=>((by
    obtain⟨acX,T9,Ua⟩:=T.xW
    obtain⟨WM,rT,Zb⟩:=T.rT
    obtain⟨Ub,pP,WQ⟩:=T.pP
    obtain⟨WR,rW,Zc⟩:=T.rW
    obtain⟨Sv,nZ,Uc⟩:=T.nZ
    obtain⟨Zd,vX,aaE⟩:=T.vX
    exact (aK (acv 5 um.nd rfl rfl rfl T9 Ua (fun _ _=>(aM (cV (cQ (fL (cL hr)) (dv 0) aF) (aM (je (dj (WL T) hT hr (by decide) (aj (dv 1) (aj (dv 2) (aj (dv 3) aA)))))) (aM (je (dj (WD T) hT hr (by decide) (aj (dv 0) (aj (dv 1) (aj (dv 2) (aj (dv 3) (aj (dv 4) aA))))))))))) (fun _=>(aK (cB 6 um.nd (fG (aj (vh 5 rfl T.dG (pe_glob (v:= .ref Sv) rfl nZ rfl (by decide)) (fun _ z=>z) Uc) (aj (vh 5 rfl T.dG (pe_glob (v:= .ref Ub) rfl pP rfl (by decide)) (fun _ z=>z) WQ) (aj (vh 5 rfl T.dG (pe_glob (v:= .ref WR) rfl rW rfl (by decide)) (fun _ z=>z) Zc) aA))))) (aK (cB 6 um.nd (aO dh (dv 6) (fG (aj (vh 5 rfl T.dG (pe_glob (v:= .ref Zd) rfl vX rfl (by decide)) (fun _ z=>z) aaE) (aj (vh 5 rfl T.dG (pe_glob (v:= .ref WM) rfl rT rfl (by decide)) (fun _ z=>z) Zb) aA))))) (aM (aX (Qg (cQ (fL (ruH (cL hr))) (Yn (ruH (cL hr)) (dv 6) lq) aF) (aad (ruH (cL hr)) (dv 6) lq) (Jl aF)))))))) (aM (aX fU)))))
theorem M7(T:HX K mg):fV P w K mg base 2 "_law_picture" 4 qI:=
 iI (k:=1) (g:=yK) T.qU pO rfl rfl λcdv A outer s H E hr=>(aK (aa1 4 5 rfl pO.nd (bW (fG (aj aF (aj aF (aj aF (aj aF aA))))) (bN (f9 T) hr (by decide) (aj (dv 0) (aj (dv 1) (aj aF aA))))) aA) (aK (uQ af5 rfl (gG rfl T.fK (aj (dv 3) aA)) (zu 6 pO.nd) (aM (Qx 5 (d8 eV rfl T.dR afi (aj (cg ["_law_x"] [1,2,4,0,6] rfl (by kernel_rfl) (by kernel_rfl) (gG rfl T.fK (aj (dv 2) aA)) (aW (by decide)) (λ_ _ _ _ nd=>bx 0 nd) (λ_ _ _ _=>bM) (λ_ _ _ _=>(bN (f9 T) hr (by decide) (aj (dv 4) (aj (aO jY (aO jY (aO jY (dv 1) aF) (aO rA (dv 2) (dv 5))) (dv 0)) (aj (dv 3) aA)))))) aA))))) (aM (aX (d8 eV rfl T.dR afi (aj (dv 5) aA))))))
theorem Ud(T:HX K mg):fV P w K mg base 3 "_law_some" 4 xK:=
 iI (k:=2) (g:=Gx) T.yd RV rfl rfl λcdv A outer s H E hr=>(aM (aX (bN (M7 T) hr (by decide) (aj (dv 0) (aj (aO jY (dv 1) aF) (aj (aO jY aF (bN (f9 T) hr (by decide) (aj (dv 0) (aj (dv 1) (aj (dv 2) aA))))) (aj (aO jY aF (bN (f9 T) hr (by decide) (aj (dv 0) (aj (aO jY (dv 1) aF) (aj (dv 3) aA))))) aA)))))))
theorem ok_law{fd:aeZ}(Fn:Fun K "law" "law" uo f fd)(hmg:mg "law" =some (.ref f))(T:HB K mg base cN TP cM TQ):ZS P w K mg base 14 "law" 1 JV fd ["_law_script"] (tz TP TQ):=
 ⟨f,fnT (k:=13) (m:=10) (g:=aaP) Fn mq rfl rfl λcdv A outer s H E _ hr hT=>((aK (cB 1 mq.nd (bN (Ud T.toHX) hr (by decide) (aj (dv 0) (aj aF (aj aF (aj aF aA)))))) (aK (ach 2 3 rfl mq.nd (bf dD rfl T.dZ aeB (aj (bW (dv 1) aF) aA)) (bf dD rfl T.dZ aeB (aj (dv 1) aA))) (aK (kh 4 5 rfl mq.nd (cA (aj (bN (T6 T.toHX) hr (by decide) (aj (dv 1) aA)) (aj (aO gQ (cA (aj aF aA)) (dv 3)) aA)))) (aK (cB 6 mq.nd (bW (fG (aj fU (aj (cA aA) (aj (d8 Uq rfl T.Ec boot_list (aj (dv 1) aA)) (aj (cA (aj (cA (aj aF aA)) aA)) (aj (cA (aj (cA (aj aF aA)) (aj (cA (aj aF (aj aF aA))) aA))) (aj aF aA))))))) (bN (f9 T.toHX) hr (by decide) (aj (dv 0) (aj aF (aj aF aA)))))) (aK (cB 7 mq.nd (bW (fG (aj fU (aj jt (aj jt (aj aF (aj (cA (aj jt aA)) (aj lq aA))))))) (bN (f9 T.toHX) hr (by decide) (aj (dv 0) (aj aF (aj aF aA)))))) (aK (cB 8 mq.nd (fG (aj aF (aj (cA aA) (aj (aO dh (dv 4) (qC (dv 4) lO (lQ aF))) (aj (aO gQ (cA (aj (aO gQ (cA (aj aF aA)) (dv 2)) aA)) (dv 3)) (aj (aO gQ (cA (aj (aO gQ (cA (aj aF aA)) (aO dh (dv 2) aF)) aA)) (dv 3)) (aj (fG (aj (dv 4) aA)) aA)))))))) (aK (cB 8 mq.nd (bW (dv 8) (bN (f9 T.toHX) hr (by decide) (aj (dv 0) (aj aF (aj aF aA)))))) (aK (cB 9 mq.nd (bW (fG (aj fU (aj (aO dh (dv 5) (cA (aj aF aA))) (aj (aO gQ (cA (aj (aO dh (dv 2) aF) aA)) (dv 3)) (aj (d8 Uq rfl T.Ec boot_list (aj (dv 5) aA)) (aj (aO gQ (cA (aj fU aA)) (dv 3)) (aj (Jl aF) aA))))))) (bN (f9 T.toHX) hr (by decide) (aj (dv 0) (aj aF (aj aF aA)))))) (aK (cB 10 mq.nd (fG (aj fU (aj (aO gQ (cA (aj aF aA)) (aO dh (dv 3) aF)) (aj (aO gQ (cA (aj aF aA)) (dv 3)) (aj (aO ux (fG (aj aF aA)) (dv 3)) (aj (aO gQ (cA (aj fU aA)) (dv 3)) (aj aF aA)))))))) (aK (cB 10 mq.nd (bW (dv 10) (bN (f9 T.toHX) hr (by decide) (aj (dv 0) (aj aF (aj aF aA)))))) (aK (cV (cQ (tX (cL hr)) (vm ["_law_way"] [7,8,6,9] rfl (by kernel_rfl) (by kernel_rfl) (gG rfl T.fK (aj aF aA)) (aW (by decide)) (λ_ _ _ _ nd=>bx 0 nd) hT (λ_ _ _ _ hT=>bM) (λ_ _ _ _ hT=>(fJ (mD T) hT hr (by decide) (aj (dv 0) (aj (dv 3) (aj (dv 4) (aj (dv 1) (aj (dv 2) aA)))))))) (aO ux (fG (aj aF aA)) aF)) (aM (aX lq)) bZ) (aK (cV (cQ (tX (cL hr)) (vm ["_law_way"] [7,8,9,1] rfl (by kernel_rfl) (by kernel_rfl) (gG rfl T.fK (aj aF aA)) (aW (by decide)) (λ_ _ _ _ nd=>bx 0 nd) hT (λ_ _ _ _ hT=>bM) (λ_ _ _ _ hT=>(fJ (mD T) hT hr (by decide) (aj (dv 0) (aj (dv 4) (aj (dv 3) (aj (dv 1) (aj (dv 2) aA)))))))) (aO ux (fG (aj aF aA)) aF)) (aM (aX lq)) bZ) (aK (cV (cQ (tX (cL hr)) (vm ["_law_way"] [8,9,1] rfl (by kernel_rfl) (by kernel_rfl) (dU (cA (aj aF (aj aF (aj aF (aj aF aA)))))) (aW (by decide)) (λ_ _ _ _ nd=>bx 0 nd) hT (λ_ _ _ _ hT=>bM) (λ_ _ _ _ hT=>(fJ (mD T) hT hr (by decide) (aj (dv 0) (aj (dv 3) (aj (dv 2) (aj jt (aj (dv 1) aA)))))))) (aO ux (fG (aj aF aA)) aF)) (aM (aX lq)) bZ) (aK (cV (cQ (tX (cL hr)) (vm ["_law_way"] [4,9,1] rfl (by kernel_rfl) (by kernel_rfl) (dU (cA (aj aF (aj aF (aj aF (aj aF (aj aF aA))))))) (aW (by decide)) (λ_ _ _ _ nd=>bx 0 nd) hT (λ_ _ _ _ hT=>bM) (λ_ _ _ _ hT=>(fJ (mD T) hT hr (by decide) (aj (dv 0) (aj (dv 3) (aj (dv 2) (aj jt (aj (dv 1) aA)))))))) (aO ux (fG (aj aF aA)) aF)) (aM (aX lq)) bZ) (aK (cV (cQ (tX (cL hr)) (fJ (mD T) hT hr (by decide) (aj aF (aj (dv 1) (aj (dv 9) (aj (dv 10) (aj fU aA)))))) aF) (aM (aX lq)) bZ) (aK (cV (cQ (tX (cL hr)) (fJ (mD T) hT hr (by decide) (aj aF (aj (dv 1) (aj (dv 5) (aj (dv 10) (aj fU aA)))))) aF) (aM (aX lq)) bZ) (aM (aX (uK (fL (cL hr)) (vm ["_law_way"] [1,5] rfl (by kernel_rfl) (by kernel_rfl) (gG rfl T.fK (aj aF aA)) (aW (by decide)) (λ_ _ _ _ nd=>bx 0 nd) hT (λ_ _ _ _ hT=>bM) (λ_ _ _ _ hT=>(fJ (mD T) hT hr (by decide) (aj (dv 0) (aj (dv 1) (aj (dv 2) (aj jt (aj fU aA)))))))) (aO ux (fG (aj fU aA)) aF))))))))))))))))))))),hmg,Fn.kp⟩
end
theorem all_mk{l:ahZ}{w:aey}{h:aes}{mg:Str->Option aef}{fa xg ur pQ pR Gg WT:aed}(X:K.In h)(G:h.Ns ael mg)(hfa:mg "law" =some (.ref fa))
  {WW Kv:Option aed}{WX:Array (Option aef)}{WY Kw Ky Kz Aw KC:aef}
  {Ue GJ:Option aed}{Ug:Array (Option aef)}{Uh GK GQ GR yg GX:aef}
  {P0 Br:Option aed}{Qa:Array (Option aef)}{Qc Bs Bt Bu tV Bv:aef}
  {Qd Bw:Option aed}{Qe:Array (Option aef)}{Qf Bx BJ BK tW BL:aef}
  {aaF Sx:Option aed}{aaG:Array (Option aef)}{aaH Sy SJ SM Iz SN:aef}
  {acY Ze:Option aed}{acZ:Array (Option aef)}{ac0 Zf Zg Zh SQ Zi:aef}
  {abT:Tok}(DR:aep K ael "FREE" =some (some (.int 0 abT)))
  {abU:Tok}(Ko:aep K ael "GONE" =some (some (.int 2 abU)))
  {abV:Tok}(Ea:aep K ael "KEPT" =some (some (.int 1 abV)))
  {SX:Tok}(xU:aep K ael "MOST_CELL" =some (some (.int 99 SX)))
  {S5:Tok}(nW:aep K ael "MOST_LONG" =some (some (.int 20 S5)))
  {KD:aed}{W0:Nat}{W2:Array (Option aef)}{S6 S7:Tok}(Eb:aep K ael "MANNERS" =some (some (.ref KD)))(Zj:K.lookup KD=some ⟨.type "tuple",none,.seq #[.str "worth" S6,.str "joins" S7] W0,W2⟩)
  (Ge:aep K ael "abs" =some none)
  (rm:aep K ael "all" =some none)
  (Ws:aep K ael "any" =some none)
  (RW:aep K ael "bool" =some none)
  (nY:aep K ael "enumerate" =some none)
  (Wt:aep K ael "int" =some none)
  (dG:aep K ael "isinstance" =some none)
  (dZ:aep K ael "len" =some none)
  (Ec:aep K ael "list" =some none)
  (Gf:aep K ael "max" =some none)
  (Aa:aep K ael "min" =some none)
  (fK:aep K ael "range" =some none)
  (Ab:aep K ael "reversed" =some none)
  (Ac:aep K ael "sorted" =some none)
  (Qn:aep K ael "sum" =some none)
  (dR:aep K ael "tuple" =some none)
  (Ad:aep K ael "zip" =some none)
  (Kq:∀d:D,aek K (.type (lJ d)) (.type "int")=some (Fy (lJ d)))
  (Ed:∀d:D,aek K (.type (lJ d)) (.type "bool")=some (zx (lJ d)))
  (m9:∀d:D,aek K (.type (lJ d)) (.type "tuple")=some (gb (lJ d)))
  (Kr:∀d:D,aek K (.type (lJ d)) (.type "list")=some (QG (lJ d)))
  {cJ:aed}(jj:aep K ael "NoCells" =some (some (.ref cJ)))
  {cj:aed}(iG:aep K ael "NoManner" =some (some (.ref cj)))
  {cI:aed}(jk:aep K ael "NoMarks" =some (some (.ref cI)))
  {bO:aed}(gC:aep K ael "NoPicture" =some (some (.ref bO)))
  {cR:aed}(jR:aep K ael "NoSeam" =some (some (.ref cR)))
  {iJ:aed}(Ui:aep K ael "SeamError" =some (some (.ref iJ)))
  (Ez:agw K cJ LK "ValueError.__new__" =true)
  (KH:aeY K (.ref cJ) "__getattribute__" =some (some (.builtin "BaseException.__getattribute__")))(KJ:aeY K (.ref cJ) "__getattr__" =some none)(KN:(agd K cJ).isSome=true)(KQ:aeY K (.ref cJ) "__class__" =some (some (.builtin "object.__class__")))
  (KR:aga K (.builtin "object.__class__") "__get__" =some (some (.builtin "getset_descriptor.__get__")))(KY:agu K (.builtin "object.__class__")=some true)(KZ:afD K cJ (.type "object")=some true)(K1:afD K cJ (.type "BaseException")=some true)
  (pZ:agh K (.ref cJ) (.ref iJ)=some true)
  (nD:aek K (.ref cJ) (.ref cJ)=some true)
  (mF:aek K (.ref cJ) (.ref cj)=some false)
  (nF:aek K (.ref cJ) (.ref cI)=some false)
  (kO:aek K (.ref cJ) (.ref bO)=some false)
  (oM:aek K (.ref cJ) (.ref cR)=some false)
  (Ax:agw K cj LK "ValueError.__new__" =true)
  (GZ:aeY K (.ref cj) "__getattribute__" =some (some (.builtin "BaseException.__getattribute__")))(G3:aeY K (.ref cj) "__getattr__" =some none)(G4:(agd K cj).isSome=true)(G5:aeY K (.ref cj) "__class__" =some (some (.builtin "object.__class__")))
  (G6:aga K (.builtin "object.__class__") "__get__" =some (some (.builtin "getset_descriptor.__get__")))(G7:agu K (.builtin "object.__class__")=some true)(G8:afD K cj (.type "object")=some true)(G9:afD K cj (.type "BaseException")=some true)
  (pU:agh K (.ref cj) (.ref iJ)=some true)
  (mH:aek K (.ref cj) (.ref cJ)=some false)
  (kW:aek K (.ref cj) (.ref cj)=some true)
  (mJ:aek K (.ref cj) (.ref cI)=some false)
  (jT:aek K (.ref cj) (.ref bO)=some false)
  (nG:aek K (.ref cj) (.ref cR)=some false)
  (EY:agw K cI LK "ValueError.__new__" =true)
  (K4:aeY K (.ref cI) "__getattribute__" =some (some (.builtin "BaseException.__getattribute__")))(K5:aeY K (.ref cI) "__getattr__" =some none)(K6:(agd K cI).isSome=true)(K7:aeY K (.ref cI) "__class__" =some (some (.builtin "object.__class__")))
  (K8:aga K (.builtin "object.__class__") "__get__" =some (some (.builtin "getset_descriptor.__get__")))(K9:agu K (.builtin "object.__class__")=some true)(La:afD K cI (.type "object")=some true)(Lb:afD K cI (.type "BaseException")=some true)
  (p7:agh K (.ref cI) (.ref iJ)=some true)
  (nH:aek K (.ref cI) (.ref cJ)=some false)
  (mK:aek K (.ref cI) (.ref cj)=some false)
  (nJ:aek K (.ref cI) (.ref cI)=some true)
  (kY:aek K (.ref cI) (.ref bO)=some false)
  (oN:aek K (.ref cI) (.ref cR)=some false)
  (yh:agw K bO LK "ValueError.__new__" =true)
  (Fb:aeY K (.ref bO) "__getattribute__" =some (some (.builtin "BaseException.__getattribute__")))(Fd:aeY K (.ref bO) "__getattr__" =some none)(Fe:(agd K bO).isSome=true)(Fg:aeY K (.ref bO) "__class__" =some (some (.builtin "object.__class__")))
  (Fi:aga K (.builtin "object.__class__") "__get__" =some (some (.builtin "getset_descriptor.__get__")))(Fj:agu K (.builtin "object.__class__")=some true)(Fl:afD K bO (.type "object")=some true)(Fo:afD K bO (.type "BaseException")=some true)
  (oZ:agh K (.ref bO) (.ref iJ)=some true)
  (kZ:aek K (.ref bO) (.ref cJ)=some false)
  (jU:aek K (.ref bO) (.ref cj)=some false)
  (lg:aek K (.ref bO) (.ref cI)=some false)
  (jE:aek K (.ref bO) (.ref bO)=some true)
  (mL:aek K (.ref bO) (.ref cR)=some false)
  (IK:agw K cR LK "ValueError.__new__" =true)
  (Ow:aeY K (.ref cR) "__getattribute__" =some (some (.builtin "BaseException.__getattribute__")))(Ox:aeY K (.ref cR) "__getattr__" =some none)(Oz:(agd K cR).isSome=true)(OD:aeY K (.ref cR) "__class__" =some (some (.builtin "object.__class__")))
  (OJ:aga K (.builtin "object.__class__") "__get__" =some (some (.builtin "getset_descriptor.__get__")))(O5:agu K (.builtin "object.__class__")=some true)(O6:afD K cR (.type "object")=some true)(O7:afD K cR (.type "BaseException")=some true)
  (rZ:agh K (.ref cR) (.ref iJ)=some true)
  (oO:aek K (.ref cR) (.ref cJ)=some false)
  (nM:aek K (.ref cR) (.ref cj)=some false)
  (oR:aek K (.ref cR) (.ref cI)=some false)
  (mO:aek K (.ref cR) (.ref bO)=some false)
  (pW:aek K (.ref cR) (.ref cR)=some true)
  (vY:DX K "_law_drawn" vM)
  (xX:DX K "_law_free" xO)
  (tK:DX K "cells_along" sW)
  (Af:DX K "is_whole" zO)
  (Im:DX K "is_way" Ie)
  (Ei:DX K "is_line" Dq)
  (Ej:DX K "is_cell" Dr)
  (Io:DX K "is_row" Ih)
  (vZ:DX K "is_picture" vN)
  (qR:DX K "need_picture" qN)
  (Ek:DX K "size_of" Ds)
  (El:DX K "is_seam" Dt)
  (xY:DX K "need_seam" xP)
  (Ag:DX K "cells_of" zP)
  (RX:DX K "gaps" RQ)
  (wg:DX K "join_fares" vO)
  (Ir:DX K "turned" Ii)
  (Iu:DX K "worths" Ij)
  (MK:DX K "fares" Mv)
  (tL:DX K "need_manner" sX)
  (Em:DX K "fare_of" Du)
  (Ah:DX K "way_cost" zQ)
  (Zk:aep K ael "cost_of" =some (some (.ref xg)))(Zm:K.lookup xg=some ⟨WY,WW,.func (ae3 "cost_of" "cost_of" (defArgs ji) (defBody ji) (defScope ji) .none Kw Ky Kz Kv Aw KC),WX⟩)(Zn:afK K Aw "cost_of" =true)(Zo:ae2 K (.ref xg)=true)
  (En:DX K "without" Dv)
  (Wu:DX K "cut" Wo)
  (tM:DX K "mean_behind" sY)
  (tO:DX K "means_along" sZ)
  (tQ:DX K "seam_behind" tu)
  (wj:DX K "with_cells" vP)
  (Eo:DX K "doubled" Dw)
  (RZ:DX K "near" RT)
  (Iv:DX K "onward" Ik)
  (MN:DX K "swept" uH)
  (xZ:DX K "best_ways" jo)
  (Ai:DX K "from_top" zR)
  (tR:DX K "first_seams" tD)
  (wk:DX K "gone_freed" vQ)
  (Aj:DX K "all_free" zT)
  (Ep:DX K "is_mark" Dz)
  (qT:DX K "is_marks_row" qO)
  (Ak:DX K "is_marks" zU)
  (wu:DX K "full_marks" vR)
  (Al:DX K "laid_out" zV)
  (wz:DX K "meets_kept" vU)
  (W3:aep K ael "is_least" =some (some (.ref ur)))(W4:K.lookup ur=some ⟨Uh,Ue,.func (ae3 "is_least" "is_least" (defArgs iC) (defBody iC) (defScope iC) .none GK GQ GR GJ yg GX),Ug⟩)(W5:afK K yg "is_least" =true)(W6:ae2 K (.ref ur)=true)
  (yc:DX K "least_way" xR)
  (S8:aep K ael "least_seam" =some (some (.ref pQ)))(S9:K.lookup pQ=some ⟨Qc,P0,.func (ae3 "least_seam" "least_seam" (defArgs fY) (defBody fY) (defScope fY) .none Bs Bt Bu Br tV Bv),Qa⟩)(Tc:afK K tV "least_seam" =true)(Td:ae2 K (.ref pQ)=true)
  (Er:DX K "as_good" DN)
  (tU:DX K "best_counts" dB)
  (Te:aep K ael "many_least" =some (some (.ref pR)))(Tf:K.lookup pR=some ⟨Qf,Qd,.func (ae3 "many_least" "many_least" (defArgs fZ) (defBody fZ) (defScope fZ) .none Bx BJ BK Bw tW BL),Qe⟩)(Tg:afK K tW "many_least" =true)(Ti:ae2 K (.ref pR)=true)
  (wA:DX K "sheet_cell" vW)
  (abW:aep K ael "paper" =some (some (.ref Gg)))(abX:K.lookup Gg=some ⟨aaH,aaF,.func (ae3 "paper" "paper" (defArgs m8) (defBody m8) (defScope m8) .none Sy SJ SM Sx Iz SN),aaG⟩)(abY:afK K Iz "paper" =true)(abZ:ae2 K (.ref Gg)=true)
  (Am:DX K "_law_ask" zX)
  (Ao:DX K "is_cells" zY)
  (Aq:DX K "put_back" zZ)
  (Es:DX K "_law_no" DP)
  (qU:DX K "_law_picture" qP)
  (yd:DX K "_law_some" xT)
  (W7:aep K ael "law" =some (some (.ref WT)))(adB:K.lookup WT=some ⟨ac0,acY,.func (ae3 "law" "law" (defArgs uo) (defBody uo) (defScope uo) .none Zf Zg Zh Ze SQ Zi),acZ⟩)(adC:afK K SQ "law" =true)(adD:ae2 K (.ref WT)=true)
  (oE:KB K (ae3 "cost_of" "cost_of" (defArgs ji) (defBody ji) (defScope ji) .none Kw Ky Kz Kv Aw KC) ["picture","seam","manner"] ["manner"] [.inl 0])
  (mC:KB K (ae3 "is_least" "is_least" (defArgs iC) (defBody iC) (defScope iC) .none GK GQ GR GJ yg GX) ["picture","seam","manner","marks"] ["manner","marks"] [.inl 0,.inl 1])
  (jC:KB K (ae3 "least_seam" "least_seam" (defArgs fY) (defBody fY) (defScope fY) .none Bs Bt Bu Br tV Bv) ["picture","manner","marks"] ["manner","marks"] [.inl 0,.inl 1])
  (jD:KB K (ae3 "many_least" "many_least" (defArgs fZ) (defBody fZ) (defScope fZ) .none Bx BJ BK Bw tW BL) ["picture","manner","marks"] ["manner","marks"] [.inl 0,.inl 1])
  (rY:KB K (ae3 "paper" "paper" (defArgs m8) (defBody m8) (defScope m8) .none Sy SJ SM Sx Iz SN) ["picture","manner","marks"] ["manner","marks"] [.inl 0,.inl 1])
  :∃fd:aeZ,(∀(s:aeg) (v:aef),ahC s fd ⟨[v],[]⟩ [("_law_script",v)])/\∀(base:aes) (c TP cM TQ:aed),K.In base->base.Ns ael mg->iB base mg c TP->pD K mg "best_ways" c->iB base mg cM TQ->pD K mg "best_counts" cM->FnOk l.prog w K mg base CX0 14 fa fd ["_law_script"] (spT [(TP,"best_ways.<locals>.first_ones"),(TQ,"best_counts.<locals>.<lambda>")] K 1 JV):=by
 have e:=hfa.symm.trans (aeK X G W7);cases e;have su:pB K cJ:=⟨KH,KJ,KN,KQ,KR,KY,KZ,K1⟩;have pX:pB K cj:=⟨GZ,G3,G4,G5,G6,G7,G8,G9⟩;have sy:pB K cI:=⟨K4,K5,K6,K7,K8,K9,La,Lb⟩;have oF:pB K bO:=⟨Fb,Fd,Fe,Fg,Fi,Fj,Fl,Fo⟩;have wD:pB K cR:=⟨Ow,Ox,Oz,OD,OJ,O5,O6,O7⟩;have xW:∀c C',cu c "SeamError" =true->aep K ael c=some (some (.ref C'))->agh K (.ref C') (.ref iJ)=some true:=by
  intro c C' h1 h2;rcases oY h1 with rfl |rfl |rfl |rfl |rfl
  ·cases jR.symm.trans h2;exact rZ
  ·cases gC.symm.trans h2;exact oZ
  ·cases jk.symm.trans h2;exact p7
  ·cases iG.symm.trans h2;exact pU
  ·cases jj.symm.trans h2;exact pZ
 have rT:∀c C',cu c c=true->aep K ael c=some (some (.ref C'))->pB K C'/\aek K (.ref C') (.ref cJ)=some (cu c "NoCells"):=by
  intro c C' h1 h2;rcases oY h1 with rfl |rfl |rfl |rfl |rfl
  ·cases jR.symm.trans h2;exact⟨wD,by rw[show cu "NoSeam" "NoCells" =false from by decide];exact oO⟩
  ·cases gC.symm.trans h2;exact⟨oF,by rw[show cu "NoPicture" "NoCells" =false from by decide];exact kZ⟩
  ·cases jk.symm.trans h2;exact⟨sy,by rw[show cu "NoMarks" "NoCells" =false from by decide];exact nH⟩
  ·cases iG.symm.trans h2;exact⟨pX,by rw[show cu "NoManner" "NoCells" =false from by decide];exact mH⟩
  ·cases jj.symm.trans h2;exact⟨su,by rw[show cu "NoCells" "NoCells" =true from by decide];exact nD⟩
 have pP:∀c C',cu c c=true->aep K ael c=some (some (.ref C'))->pB K C'/\aek K (.ref C') (.ref cj)=some (cu c "NoManner"):=by
  intro c C' h1 h2;rcases oY h1 with rfl |rfl |rfl |rfl |rfl
  ·cases jR.symm.trans h2;exact⟨wD,by rw[show cu "NoSeam" "NoManner" =false from by decide];exact nM⟩
  ·cases gC.symm.trans h2;exact⟨oF,by rw[show cu "NoPicture" "NoManner" =false from by decide];exact jU⟩
  ·cases jk.symm.trans h2;exact⟨sy,by rw[show cu "NoMarks" "NoManner" =false from by decide];exact mK⟩
  ·cases iG.symm.trans h2;exact⟨pX,by rw[show cu "NoManner" "NoManner" =true from by decide];exact kW⟩
  ·cases jj.symm.trans h2;exact⟨su,by rw[show cu "NoCells" "NoManner" =false from by decide];exact mF⟩
 have rW:∀c C',cu c c=true->aep K ael c=some (some (.ref C'))->pB K C'/\aek K (.ref C') (.ref cI)=some (cu c "NoMarks"):=by
  intro c C' h1 h2;rcases oY h1 with rfl |rfl |rfl |rfl |rfl
  ·cases jR.symm.trans h2;exact⟨wD,by rw[show cu "NoSeam" "NoMarks" =false from by decide];exact oR⟩
  ·cases gC.symm.trans h2;exact⟨oF,by rw[show cu "NoPicture" "NoMarks" =false from by decide];exact lg⟩
  ·cases jk.symm.trans h2;exact⟨sy,by rw[show cu "NoMarks" "NoMarks" =true from by decide];exact nJ⟩
  ·cases iG.symm.trans h2;exact⟨pX,by rw[show cu "NoManner" "NoMarks" =false from by decide];exact mJ⟩
  ·cases jj.symm.trans h2;exact⟨su,by rw[show cu "NoCells" "NoMarks" =false from by decide];exact nF⟩
 have nZ:∀c C',cu c c=true->aep K ael c=some (some (.ref C'))->pB K C'/\aek K (.ref C') (.ref bO)=some (cu c "NoPicture"):=by
  intro c C' h1 h2;rcases oY h1 with rfl |rfl |rfl |rfl |rfl
  ·cases jR.symm.trans h2;exact⟨wD,by rw[show cu "NoSeam" "NoPicture" =false from by decide];exact mO⟩
  ·cases gC.symm.trans h2;exact⟨oF,by rw[show cu "NoPicture" "NoPicture" =true from by decide];exact jE⟩
  ·cases jk.symm.trans h2;exact⟨sy,by rw[show cu "NoMarks" "NoPicture" =false from by decide];exact kY⟩
  ·cases iG.symm.trans h2;exact⟨pX,by rw[show cu "NoManner" "NoPicture" =false from by decide];exact jT⟩
  ·cases jj.symm.trans h2;exact⟨su,by rw[show cu "NoCells" "NoPicture" =false from by decide];exact kO⟩
 have vX:∀c C',cu c c=true->aep K ael c=some (some (.ref C'))->pB K C'/\aek K (.ref C') (.ref cR)=some (cu c "NoSeam"):=by
  intro c C' h1 h2;rcases oY h1 with rfl |rfl |rfl |rfl |rfl
  ·cases jR.symm.trans h2;exact⟨wD,by rw[show cu "NoSeam" "NoSeam" =true from by decide];exact pW⟩
  ·cases gC.symm.trans h2;exact⟨oF,by rw[show cu "NoPicture" "NoSeam" =false from by decide];exact mL⟩
  ·cases jk.symm.trans h2;exact⟨sy,by rw[show cu "NoMarks" "NoSeam" =false from by decide];exact oN⟩
  ·cases iG.symm.trans h2;exact⟨pX,by rw[show cu "NoManner" "NoSeam" =false from by decide];exact nG⟩
  ·cases jj.symm.trans h2;exact⟨su,by rw[show cu "NoCells" "NoSeam" =false from by decide];exact oM⟩
 have T:Txt K mg:=⟨⟨_,aeK X G DR⟩,⟨_,aeK X G Ko⟩,⟨_,aeK X G Ea⟩,⟨_,aeK X G xU⟩,⟨_,aeK X G nW⟩,abh X G Eb Zj (show 2<=sizeLine from z0b (by decide) (z0e iH)) (.cons ⟨_,rfl⟩ (.cons ⟨_,rfl⟩ (.nil))),aeR X G Ge,aeR X G rm,aeR X G Ws,aeR X G RW,aeR X G nY,aeR X G Wt,aeR X G dG,aeR X G dZ,aeR X G Ec,aeR X G Gf,aeR X G Aa,aeR X G fK,aeR X G Ab,aeR X G Ac,aeR X G Qn,aeR X G dR,aeR X G Ad,Kq,Ed,m9,Kr,⟨cJ,jj,aeK X G jj,Ez⟩,⟨cj,iG,aeK X G iG,Ax⟩,⟨cI,jk,aeK X G jk,EY⟩,⟨bO,gC,aeK X G gC,yh⟩,⟨cR,jR,aeK X G jR,IK⟩,⟨iJ,aeK X G Ui,xW⟩,⟨cJ,aeK X G jj,rT⟩,⟨cj,aeK X G iG,pP⟩,⟨cI,aeK X G jk,rW⟩,⟨bO,aeK X G gC,nZ⟩,⟨cR,aeK X G jR,vX⟩⟩;have Zq:=fun_mk (st:=ji) Zm Zn Zo;have W8:=fun_mk (st:=iC) W4 W5 W6;have Tj:=fun_mk (st:=fY) S9 Tc Td;have Tn:=fun_mk (st:=fZ) Tf Tg Ti;have ab0:=fun_mk (st:=m8) abX abY abZ;have adE:=fun_mk (st:=uo) adB adC adD;have hX:HX K mg:=⟨T,dy X G vY (λ_ _ _ _ _ _ us hl=>Kg hl λ_ _ _=>rfl),dy X G xX (λ_ _ _ _ _ _ us hl=>pY hl λ_=>rfl),dy X G tK (λ_ _ _ _ _ _ us hl=>mj hl λ_ _=>rfl),dy X G Af (λ_ _ _ _ _ _ us hl=>pY hl λ_=>rfl),dy X G Im (λ_ _ _ _ _ _ us hl=>Kg hl λ_ _ _=>rfl),dy X G Ei (λ_ _ _ _ _ _ us hl=>pY hl λ_=>rfl),dy X G Ej (λ_ _ _ _ _ _ us hl=>pY hl λ_=>rfl),dy X G Io (λ_ _ _ _ _ _ us hl=>pY hl λ_=>rfl),dy X G vZ (λ_ _ _ _ _ _ us hl=>pY hl λ_=>rfl),dy X G qR (λ_ _ _ _ _ _ us hl=>pY hl λ_=>rfl),dy X G Ek (λ_ _ _ _ _ _ us hl=>pY hl λ_=>rfl),dy X G El (λ_ _ _ _ _ _ us hl=>mj hl λ_ _=>rfl),dy X G xY (λ_ _ _ _ _ _ us hl=>mj hl λ_ _=>rfl),dy X G Ag (λ_ _ _ _ _ _ us hl=>mj hl λ_ _=>rfl),dy X G RX (λ_ _ _ _ _ _ us hl=>pY hl λ_=>rfl),dy X G wg (λ_ _ _ _ _ _ us hl=>mj hl λ_ _=>rfl),dy X G Ir (λ_ _ _ _ _ _ us hl=>pY hl λ_=>rfl),dy X G Iu (λ_ _ _ _ _ _ us hl=>pY hl λ_=>rfl),dy X G MK (λ_ _ _ _ _ _ us hl=>mj hl λ_ _=>rfl),dy X G tL (λ_ _ _ _ _ _ us hl=>pY hl λ_=>rfl),dy X G Em (λ_ _ _ _ _ _ us hl=>Kg hl λ_ _ _=>rfl),dy X G Ah (λ_ _ _ _ _ _ us hl=>mj hl λ_ _=>rfl),dy X G En (λ_ _ _ _ _ _ us hl=>mj hl λ_ _=>rfl),dy X G Wu (λ_ _ _ _ _ _ us hl=>mj hl λ_ _=>rfl),dy X G tM (λ_ _ _ _ _ _ us hl=>mj hl λ_ _=>rfl),dy X G tO (λ_ _ _ _ _ _ us hl=>mj hl λ_ _=>rfl),dy X G tQ (λ_ _ _ _ _ _ us hl=>pY hl λ_=>rfl),dy X G wj (λ_ _ _ _ _ _ us hl=>Kg hl λ_ _ _=>rfl),dy X G Eo (λ_ _ _ _ _ _ us hl=>mj hl λ_ _=>rfl),dy X G RZ (λ_ _ _ _ _ _ us hl=>mj hl λ_ _=>rfl),dy X G Iv (λ_ _ _ _ _ _ us hl=>Kg hl λ_ _ _=>rfl),dy X G MN (λ_ _ _ _ _ _ us hl=>lk4 hl λ_ _ _ _=>rfl),dy X G xZ (λ_ _ _ _ _ _ us hl=>Kg hl λ_ _ _=>rfl),dy X G Ai (λ_ _ _ _ _ _ us hl=>mj hl λ_ _=>rfl),dy X G tR (λ_ _ _ _ _ _ us hl=>Kg hl λ_ _ _=>rfl),dy X G wk (λ_ _ _ _ _ _ us hl=>pY hl λ_=>rfl),dy X G Aj (λ_ _ _ _ _ _ us hl=>pY hl λ_=>rfl),dy X G Ep (λ_ _ _ _ _ _ us hl=>pY hl λ_=>rfl),dy X G qT (λ_ _ _ _ _ _ us hl=>mj hl λ_ _=>rfl),dy X G Ak (λ_ _ _ _ _ _ us hl=>mj hl λ_ _=>rfl),dy X G wu (λ_ _ _ _ _ _ us hl=>mj hl λ_ _=>rfl),dy X G Al (λ_ _ _ _ _ _ us hl=>Kg hl λ_ _ _=>rfl),dy X G wz (λ_ _ _ _ _ _ us hl=>mj hl λ_ _=>rfl),dy X G yc (λ_ _ _ _ _ _ us hl=>mj hl λ_ _=>rfl),dy X G Er (λ_ _ _ _ _ _ us hl=>pY hl λ_=>rfl),dy X G tU (λ_ _ _ _ _ _ us hl=>mj hl λ_ _=>rfl),dy X G wA (λ_ _ _ _ _ _ us hl=>pY hl λ_=>rfl),dy X G Am (λ_ _ _ _ _ _ us hl=>lk5 hl λ_ _ _ _ _=>rfl),dy X G Ao (λ_ _ _ _ _ _ us hl=>mj hl λ_ _=>rfl),dy X G Aq (λ_ _ _ _ _ _ us hl=>Kg hl λ_ _ _=>rfl),dy X G Es (λ_ _ _ _ _ _ us hl=>lk5 hl λ_ _ _ _ _=>rfl),dy X G qU (λ_ _ _ _ _ _ us hl=>lk4 hl λ_ _ _ _=>rfl),dy X G yd (λ_ _ _ _ _ _ us hl=>lk4 hl λ_ _ _ _=>rfl),⟨xg,_,Zq,aeK X G Zk,oE⟩,⟨ur,_,W8,aeK X G W3,mC⟩,⟨pQ,_,Tj,aeK X G S8,jC⟩,⟨pR,_,Tn,aeK X G Te,jD⟩,⟨Gg,_,ab0,aeK X G abW,rY⟩⟩
 refine⟨ae3 "law" "law" (defArgs uo) (defBody uo) (defScope uo) .none Zf Zg Zh Ze SQ Zi,λs v=> .of_eq rfl,λbase cN TP cM TQ _ _ hB hCI hB2 ad3=>?_⟩;obtain⟨f',ok',hm',_⟩:=ok_law (P:=l.prog) (w:=w) (base:=base) adE (aeK X G W7) ⟨hX,hB,hCI,hB2,ad3⟩;cases (aeK X G W7).symm.trans hm';exact ok'
end wQ
namespace wQ
open PySem PySem.Spec L2 Pu
theorem walk{l:ahZ}{q:aew}{loose:List Str}{XP:(Str->Option aef)->aes->Prop}{YP:aey->aes->Prop}{d:DefRec}{K:Params->aeh}(hn:l.most=some 63)(hdf:d.params.defaults=[])
  (hY:∀(w:aey) (h:aes),YP w h->(K w.params).In h)(hnt:∀w:aey,aje (K w.params)=true)(htt:∀w:aey,Pu.aae (K w.params) "best_ways" "best_counts" =true)(hrec:∃dy,(ajn q).find? (λe:DefRec=>e.name ==("best_ways" :Str))=some dy)(hrec':∃dy,(ajn q).find? (λe:DefRec=>e.name ==("best_counts" :Str))=some dy)
  (F:∀(w:aey) (mg:Str->Option aef) (fa:aed) (h:aes),(K w.params).In h->h.Ns ael mg->mg d.name=some (.ref fa)->
   ∃fd:aeZ,(∀(s:aeg) (u:aef),ahC s fd ⟨[u],[]⟩ [("_law_script",u)])/\∀(base:aes) (c T c' T':aed),(K w.params).In base->base.Ns ael mg->iB base mg c T->pD (K w.params) mg "best_ways" c->iB base mg c' T'->pD (K w.params) mg "best_counts" c'->FnOk l.prog w (K w.params) mg base CX0 14 fa fd ["_law_script"] (spT [(T,"best_ways.<locals>.first_ones"),(T',"best_counts.<locals>.<lambda>")] (K w.params) 1 JV)):
  ajj q loose XP YP l.row.toRowW d [] (λf vs=>aiF f vs):=
 Pu.ado (n:=63) (k:=14) (x:= "_law_script") (y:= "best_ways") (q:= "best_ways.<locals>.first_ones") (y':= "best_counts") (q':= "best_counts.<locals>.<lambda>") (FL:=JV) hn (by decide) hdf ⟨rfl,by decide,by decide⟩ hY hnt htt hrec hrec' F aay
end wQ
namespace PySem.W.Fast
theorem tw3654177767038256703:True:=trivial
theorem tw7705251601660433763:True:=trivial
theorem tw10447676901934056238:True:=trivial
theorem tw17170349932702995599:True:=trivial
theorem tw7925664418660218575:True:=trivial
theorem tw17119209174735824414:True:=trivial
theorem tw2607963656200082631:True:=trivial
theorem tw10343288405200941172:True:=trivial
theorem tw16555648982687691543:True:=trivial
theorem tw7247438782243171838:True:=trivial
theorem tw18366111858022672569:True:=trivial
theorem tw12770779721029795475:True:=trivial
theorem tw13596605730392591808:True:=trivial
theorem tw8824994896237546387:True:=trivial
theorem tw4381905897025732332:True:=trivial
theorem tw10097620428954102919:True:=trivial
theorem tw15911783842428121401:True:=trivial
theorem tw1505421754190949691:True:=trivial
theorem tw12307678370706557472:True:=trivial
theorem tw12289126254735005882:True:=trivial
theorem tw4497172697879971940:True:=trivial
theorem tw3563752755489752186:True:=trivial
theorem tw236391794970967411:True:=trivial
theorem tw3707907712743284408:True:=trivial
theorem tw17224250378190761062:True:=trivial
theorem tw4684928146909539323:True:=trivial
theorem tw4140215033191917970:True:=trivial
theorem tw2707541354924499097:True:=trivial
end PySem.W.Fast
open PySem PySem.W PyProof.Rows
set_option bootstrap.genMatcherCode true
set_option compiler.extract_closed true
set_option maxRecDepth 100000 in
set_option maxHeartbeats 0 in
theorem PySem.Challenge.cw_seamhall_k16_seam_refusals_holds : PySem.Challenge.rw_seamhall_k16_seam_refusals.Holds := by
 w_on;o_law;k_head;(case hw=>w_witness2)
 k_fill
 refine wQ.walk (l:=PySem.Challenge.rw_seamhall_k16_seam_refusals) rfl rfl (λw h Y=>PySem.W.km_in_of Y) ?nt ?tt ?rec ?ad4 ?F
 case nt=>intro w;kernel_rfl
 case tt=>intro w;kernel_rfl
 case ad4=>exact⟨_,rfl⟩
 case rec=>exact⟨_,rfl⟩
 case F=>
  intro w mg fa h KX G hmg
  refine' wQ.all_mk KX G hmg ?_ ?_ ?_ ?_ ?_ ?_ ?_ ?_ ?_ ?_ ?_ ?_ ?_ ?_ ?_ ?_ ?_ ?_ ?_ ?_ ?_ ?_ ?_ ?_ ?Kq ?Ed ?m9 ?Kr ?_ ?_ ?_ ?_ ?_ ?_ ?Ez ?KH ?KJ ?KN ?KQ ?KR ?KY ?KZ ?K1 ?pZ ?nD ?mF ?nF ?kO ?oM ?Ax ?GZ ?G3 ?G4 ?G5 ?G6 ?G7 ?G8 ?G9 ?pU ?mH ?kW ?mJ ?jT ?nG ?EY ?K4 ?K5 ?K6 ?K7 ?K8 ?K9 ?La ?Lb ?p7 ?nH ?mK ?nJ ?kY ?oN ?yh ?Fb ?Fd ?Fe ?Fg ?Fi ?Fj ?Fl ?Fo ?oZ ?kZ ?jU ?lg ?jE ?mL ?IK ?Ow ?Ox ?Oz ?OD ?OJ ?O5 ?O6 ?O7 ?rZ ?oO ?nM ?oR ?mO ?pW ?_ ?_ ?_ ?_ ?_ ?_ ?_ ?_ ?_ ?_ ?_ ?_ ?_ ?_ ?_ ?_ ?_ ?_ ?_ ?_ ?_ ?_ ?_ ?_ ?_ ?_ ?_ ?_ ?_ ?_ ?_ ?_ ?_ ?_ ?_ ?_ ?_ ?_ ?_ ?_ ?_ ?_ ?_ ?_ ?_ ?_ ?_ ?_ ?_ ?_ ?_ ?_ ?_ ?_ ?_ ?_ ?_ ?_ ?_ ?_ ?_ ?_ ?_ ?_ ?_ ?_ ?_ ?_ ?_ ?_ ?_ ?_ ?_ ?_ ?_ ?_ ?_ ?oE ?mC ?jC ?jD ?rY
  all_goals try first |k_is |(refine' wQ.ady ?qa ?ql ?qc ?qp;(case qa=>k_is);(case ql=>k_is);(case qc=>k_is);(case qp=>k_is))
  (case Kq=>intro d;cases d;(show aek _ (aeu "NoneType") (aeu "int")=some false);kit_is;(show aek _ (aeu "bool") (aeu "int")=some true);kit_is;(show aek _ (aeu "int") (aeu "int")=some true);kit_is;(show aek _ (aeu "str") (aeu "int")=some false);kit_is;(show aek _ (aeu "tuple") (aeu "int")=some false);kit_is;(show aek _ (aeu "list") (aeu "int")=some false);kit_is)
  (case Ed=>intro d;cases d;(show aek _ (aeu "NoneType") (aeu "bool")=some false);kit_is;(show aek _ (aeu "bool") (aeu "bool")=some true);kit_is;(show aek _ (aeu "int") (aeu "bool")=some false);kit_is;(show aek _ (aeu "str") (aeu "bool")=some false);kit_is;(show aek _ (aeu "tuple") (aeu "bool")=some false);kit_is;(show aek _ (aeu "list") (aeu "bool")=some false);kit_is)
  (case m9=>intro d;cases d;(show aek _ (aeu "NoneType") (aeu "tuple")=some false);kit_is;(show aek _ (aeu "bool") (aeu "tuple")=some false);kit_is;(show aek _ (aeu "int") (aeu "tuple")=some false);kit_is;(show aek _ (aeu "str") (aeu "tuple")=some false);kit_is;(show aek _ (aeu "tuple") (aeu "tuple")=some true);kit_is;(show aek _ (aeu "list") (aeu "tuple")=some false);kit_is)
  (case Kr=>intro d;cases d;(show aek _ (aeu "NoneType") (aeu "list")=some false);kit_is;(show aek _ (aeu "bool") (aeu "list")=some false);kit_is;(show aek _ (aeu "int") (aeu "list")=some false);kit_is;(show aek _ (aeu "str") (aeu "list")=some false);kit_is;(show aek _ (aeu "tuple") (aeu "list")=some false);kit_is;(show aek _ (aeu "list") (aeu "list")=some true);kit_is)
  (case Ez=>k_exc)
  (case nD=>kit_is)
  (case mF=>kit_is)
  (case nF=>kit_is)
  (case kO=>kit_is)
  (case oM=>kit_is)
  (case Ax=>k_exc)
  (case mH=>kit_is)
  (case kW=>kit_is)
  (case mJ=>kit_is)
  (case jT=>kit_is)
  (case nG=>kit_is)
  (case EY=>k_exc)
  (case nH=>kit_is)
  (case mK=>kit_is)
  (case nJ=>kit_is)
  (case kY=>kit_is)
  (case oN=>kit_is)
  (case yh=>k_exc)
  (case kZ=>kit_is)
  (case jU=>kit_is)
  (case lg=>kit_is)
  (case jE=>kit_is)
  (case mL=>kit_is)
  (case IK=>k_exc)
  (case oO=>kit_is)
  (case nM=>kit_is)
  (case oR=>kit_is)
  (case mO=>kit_is)
  (case pW=>kit_is)
  (case oE=>intro s us ws i hl hw;have h0:us.length=2:=(by simp only[aeC,afQ] at hl;omega);clear hl;obtain⟨u0,us0,rfl,h1⟩:=Pu.jL h0;clear h0;obtain⟨u1,us1,rfl,h2⟩:=Pu.jL h1;clear h1;cases Pu.len0 h2;have g0:ws.length=1:=hw;clear hw;obtain⟨w0,ws0,rfl,g1⟩:=Pu.jL g0;clear g0;cases Pu.len0 g1;exact ahe i (λS=>rfl))
  (case mC=>intro s us ws i hl hw;have h0:us.length=2:=(by simp only[aeC,afQ] at hl;omega);clear hl;obtain⟨u0,us0,rfl,h1⟩:=Pu.jL h0;clear h0;obtain⟨u1,us1,rfl,h2⟩:=Pu.jL h1;clear h1;cases Pu.len0 h2;have g0:ws.length=2:=hw;clear hw;obtain⟨w0,ws0,rfl,g1⟩:=Pu.jL g0;clear g0;obtain⟨w1,ws1,rfl,g2⟩:=Pu.jL g1;clear g1;cases Pu.len0 g2;exact ahe i (λS=>rfl))
  (case jC=>intro s us ws i hl hw;have h0:us.length=1:=(by simp only[aeC,afQ] at hl;omega);clear hl;obtain⟨u0,us0,rfl,h1⟩:=Pu.jL h0;clear h0;cases Pu.len0 h1;have g0:ws.length=2:=hw;clear hw;obtain⟨w0,ws0,rfl,g1⟩:=Pu.jL g0;clear g0;obtain⟨w1,ws1,rfl,g2⟩:=Pu.jL g1;clear g1;cases Pu.len0 g2;exact ahe i (λS=>rfl))
  (case jD=>intro s us ws i hl hw;have h0:us.length=1:=(by simp only[aeC,afQ] at hl;omega);clear hl;obtain⟨u0,us0,rfl,h1⟩:=Pu.jL h0;clear h0;cases Pu.len0 h1;have g0:ws.length=2:=hw;clear hw;obtain⟨w0,ws0,rfl,g1⟩:=Pu.jL g0;clear g0;obtain⟨w1,ws1,rfl,g2⟩:=Pu.jL g1;clear g1;cases Pu.len0 g2;exact ahe i (λS=>rfl))
  (case rY=>intro s us ws i hl hw;have h0:us.length=1:=(by simp only[aeC,afQ] at hl;omega);clear hl;obtain⟨u0,us0,rfl,h1⟩:=Pu.jL h0;clear h0;cases Pu.len0 h1;have g0:ws.length=2:=hw;clear hw;obtain⟨w0,ws0,rfl,g1⟩:=Pu.jL g0;clear g0;obtain⟨w1,ws1,rfl,g2⟩:=Pu.jL g1;clear g1;cases Pu.len0 g2;exact ahe i (λS=>rfl))
  all_goals first |k_is |kernel_rfl
