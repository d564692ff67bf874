import PyProof.Rows.All
import Wide.All
import OpenK.AllK
import Wide.FinOn
import Lean
import PyProof.EqAt
import PyProof.EqKinds
import PyProof.TupleCall
import PyProof.NeKinds
import PyProof.FString
import PySem.Challenge.RW_seamhall_k38_whole_orders
open PySem renaming wpAny_bind→acz,Addr→acA,Value→acB,Shared→acC,starEach→acE,wpAny_pure→acF,wpAny→acG,Expr→acI,mainGlobals→acK,Program→acL,Around→acO,Heap→acP,World→acQ,Stmt→acS,wpAny_field→acW,cellsFrom→acZ,compareOp→ac1,wpAny_callSpecial?_slot→ada,wpAny_setField_rec→ade,backTo→adg,FuncData→adh,wpAny_call_entry→adi,rawInt→ado,wpAny_newObj_type→adt,binaryOp→adu,sizeLine_eq→adv,keywordEach→adx,wpAny_truthy_bool→adN,wpAny_mono→adQ,wpAny_loadPart'→adR,Builtin→ad1,wpAny_Call_Name_kw→ad4,backToKw→ad5,wpAny_seqItems→ad7,bootBuiltins→aea,Scope→aec,cLine→aed,Keyword→aei,wpAny_rule→aej,strLen_append→aek,storeName→ael,argBest→aes,behindInMarks→aeu,wpAny_holding→aev,wpAny_of_eq→aey,wpAny_letGo→aez,codeAny_mono→aeB,wpAny_passesOwn→aeC,swapsWithSole→aeH,swappedStores→aeI,assignEach→aeL,Arguments→aeO,wpAny_setField→aeQ,bindArgs→aeR,NameKind→aeS,IsEnum→aeW,callerA→aeZ,builtinsNs→ae1,bindName→afe,call_meets→afh,wpAny_isInstance→afk,attributeBase→afo,wpAny_attempt→afq,codeAny→afr,sliceBounds→afs,pushCells_keeps→afx,wpAny_updateSeq→afz,TriplesOk→afB,swapsWith→afC,wpAny_tupleItemsOf→afF,wpAny_pyIter_ascii→afG,CmpOp→afH,wpAny_bindName→afI,BindsTo→afJ,wpAny_newTuple→afL,foldedSetIterable→afN,wpAny_pyIter_list→afO,wpAny_pyIter_enum→afP,wpAny_pyNext_list_item→afR,wpAny_pyIter_rangeiter→afS,IsPart→afT,richCompare→afV,assignInOrder→afW,plainId_quiet→afZ,wpAny_execs_cons→af2,codeAmong→af7,wpAny_execs_nil→agd,wpAny_call→agf,wpAny_ite_false→agk,codeAny_builtin→agl,newFunctionEnv→agq,firstArgMember→agr,wpAny_tryCatch→ags,IsRangeIter→agt,IsEnumOut→agB,wpAny_standAt→agF,wpAny_newList→agJ,wpAny_onRaise→agL,typeIs_str→agX,typeIs_int→agY,closureFor→ag0,wpAny_eqBool_int→ag5,wpAny_eqBool_str→ag6,concat_meets→aha,noFill_tuple_add→ahb,wpAny_typeOf→ahe,setField→ahh
open List renaming range→acD,replicate→acH,mem_cons→acR,mem_cons_self→acT,length_cons→acX,getElem?_range→ac3,eq_nil_of_length_eq_zero→ac4,mem_of_getElem?→ac6,map_map→ac8,getElem?_append_right→adf,mem_map→adk,getElem?_append_left→adl,append_nil→adp,count_cons→adq,mem_append_right→adC,length_replicate→adD,replicate_succ→adF,map_congr_left→adG,pairwise_cons→adK,toArray→adL,lookup_append→adT,not_mem_nil→adW,getElem?_eq_getElem→ad0,mem_append→ad2,length_nil→ad8,getElem?_replicate→aee,append_assoc→aeg,length_singleton→aem,mem_singleton→aen,flatten_cons→aer,lookup_cons→aew,range_succ_eq_map→aex,length_set→aeE,all_cons→aeJ,range_eq_range'→aeN,range'→aeP,mem_flatMap→aeX,nil_append→ae6,ext_getElem?→ae8,map_nil→afa,getElem?_eq_none→afc,getD→afd,all_eq_true→afi,range'_succ→afm,set_comm→afn,filterMap_cons→aft,nodup_cons→afu,forIn_cons→afw,length_take→af3,zipIdx_cons→af5,mem_iff_getElem?→af9,cons_lt_cons_iff→agb,mem_filter→agc,of_mem_zip→agg,map_append→agm,mem_of_mem_take→agn,mem_map_of_mem→ago,mem_range→agp,zip_cons_cons→agC,any_cons→agI,sum_cons→agM,size_toArray→agO,nodup_append→agS,flatMap_cons→agV,foldl→agZ,drop_eq_getElem_cons→ag1,pairwise_iff_getElem→ag3,getElem_inj→ag7,getElem?_take_of_lt→ag9,length_drop→ahd,cons_append→ahi,range'_eq_map_range→ahk,getElem?_cons_succ→ahm,length_eq_zero_iff→ahn,length_map→aho,range_succ→ahq,drop_zero→ahu
open PySem.Value renaming type→acJ,ref→acM,none→acU,int→agy,bool→agW,str→ahp,builtin→ahz
open Ne renaming symm→acN
open Option.some renaming inj→acV
open Bool renaming false_ne_true→acY,false_eq_true→ac7,and_eq_true→adU,not_true→afY,not_eq_true'→agR
open PySem.Builtin.SmallTypes renaming nextOf→ac0,ownedTupleIsFree→ac9,ownedTupleHandOut→adB
open Nat renaming ne_of_lt→ac2,zero_le→adz,lt_irrefl→adH,le_of_ble_eq_true→ad9,le_add_right→aeV,lt_succ_of_lt→afQ,min_eq_left→agh,le_succ→agx,le_succ_of_le→agU,ne_of_gt→ag8,sub_zero→ahg,le_refl→ahs
open False renaming elim→ac5
open PySem.Str renaming ofString→adb,empty→agD
open PyProof.Rows renaming callWith_type1→adn,seqObj→adJ,slot_tuple_getitem→adO,envOfC→aeb,boot_tuple→aep,assignInOrder_cons→aeA,IntsAre→aeD,boot_isinstance→aeG,get?_update_seq→ae4,AllBare→ae9,sortedHeap→afj,listUpdate_at→afp,seqEpoch_at→afU,boot_all→af6,mirror_perm→agv,assignInOrder_nil→agP,boot_min→ahl
open PySem.Heap renaming SameBut→adw,size_push→adE,get?_update_other→adV,get?_update_ne→adZ,get?_update_self→aeF,ExtBut→agw
open PySem.Obj renaming mapSeq→ady,data_mapFields→aeo,isFreed_of_fields→afb,mapFields→afX,cls_mapFields→agT
open Or renaming inr→adA,inl→adS
open PySem.NameKind renaming free→adI,cell→ae0
open PySem.Builtin.Range renaming rangeFitsLong→adM,rangeSize→afM
open Int renaming eq_ofNat_of_zero_le→adP,toNat_natCast→aeK,natCast_nonneg→ae3,emod_lt_of_pos→ae5,ofNat→ae7,emod_nonneg→afy,add_assoc→agN,ofNat_le→ahc,ofNat_lt→ahj
open PySem.Sem renaming wp→adX
open Array renaming length_toList→adY,getElem?_eq_some_iff→ad6,getElem?_eq_getElem→afA,getElem?_toList→aga,getD_eq_getD_getElem?→agA,getD→ag2
open PySem.PassesOwn renaming never→ad3
open PySem.Builtin.Str renaming occurrences→aef,strSliceIndices→aeh
open PySem.Builtin.Slice renaming slicePlaces→aeM,sliceAdjust→afv,sliceApplied→agG
open Option renaming isSome_iff_exists→aeT,map_some→agj,getD_some→ahf
open PySem.Builtin.Tuple renaming tupleExact→aeU,tupleItemsOf→agH,tupleTooMany→agK
open PySem.Heap.SameBut renaming update→aeY
open PySem.Calls renaming Constant_str→ae2,evalArgs_plain→afg,spliced_cons→agz,Name_function_global→agE,call_function_entry→ag4,callWith_builtin→aht
open PySem.Around renaming under_plainId→afl
open PySem.SeqAt.EqAt renaming int_int→afD,int_str→ahC,str_int→ahD
open PySem.Builtin.List renaming listTooLong→afE
open PySem.W renaming kas_rev→afK
open List.cons renaming inj→af0,injEq→ahr
open PySem.AutoSeq1 renaming idx_int→af4
open PySem.Data renaming cell→af8,fields→agu,seq→ahw
open ForInStep renaming yield→agi
open List.Pairwise renaming nil→agQ
open Prod renaming ext→ahv
open True renaming intro→ahx
open PyProof.Rows.SortSt renaming mk'→ahy
open Prod.mk renaming injEq→ahA
open PySem.EntryCells renaming newEntry→ahB
open PySem.Heap.IsSliceOf renaming new→ahE
noncomputable section
set_option bootstrap.genMatcherCode false
set_option compiler.extract_closed false
set_option Elab.async false
set_option linter.all false
set_option maxRecDepth 100000
set_option maxHeartbeats 4000000
theorem z0b{a b c : Nat}(h : a ≤ b)(k : b ≤ c) : a ≤ c := Nat.le_trans h k
theorem z0d{a b c : Nat}(h : a<b)(k : b ≤ c) : a<c := Nat.lt_of_lt_of_le h k
theorem z0e{a b : Nat}(h : a<b) : a ≤ b := Nat.le_of_lt h
theorem z0g(a : Nat) : a ≤ a := ahs a
theorem z1a{h : PySem.Heap}{a : PySem.Addr}{o' : PySem.Obj}(o : PySem.Obj)(e : h.get? a=some o') : (h.push o).get? a=some o' := PySem.Heap.get?_push_of_some o e
theorem z1b{α : Type _}{i : Nat}{a : α}{l : List α}(h : l[i]?=some a) : ∃h : i<l.length, l[i]=a := List.getElem?_eq_some_iff.mp h
theorem z1c{α : Type _}{as : List α} : as.toArray.size=as.length := agO
theorem z1d{α : Type _}{as bs : List α} : (as ++ bs).length=as.length+bs.length := List.length_append
theorem z1e{α : Type _}{l : List α}{i j : Nat}(h : i ≠ j){a : α} : (l.set i a)[j]?=l[j]? := List.getElem?_set_ne h
theorem z1f(h : PySem.Heap){o : PySem.Obj}(e : o.isFreed=false) : (h.push o).get? h.objs.size=some o := PySem.Heap.get?_push_size h e
theorem z1g{α : Type _}{β : Type _}{as : List α}(f : α → β) : (as.map f).length=as.length := aho f
theorem z1h{α : Type _}{β : Type _}{f : α → β}{a : α}{l : List α} : (a :: l).map f=f a :: l.map f := rfl
theorem z2a{α : Type _}{l : List α}{i : Nat}{a : α}(h : i<l.length) : (l.set i a)[i]?=some a := List.getElem?_set_self h
theorem z2b{α : Type _}{β : Type _}{f : α → β}{l : List α}{i : Nat} : (l.map f)[i]?=Option.map f l[i]? := List.getElem?_map
theorem z2c{h : PySem.Heap}{a : PySem.Addr}{o : PySem.Obj}(e : h.get? a=some o) : a<h.objs.size := PySem.Heap.lt_size e
theorem z2d{n : Nat} : (acD n).length=n := List.length_range
theorem z2e{m n : Nat}(h : m ∈ acD n) : m<n := agp.mp h
theorem z2f{α : Type _}(y : α){a : α}{l : List α}(h : a ∈ l) : a ∈ y :: l := List.mem_cons_of_mem y h
namespace L2
open PySem PySem.Spec PyProof.Rows
variable{A:acO}{CX:CXT}{e tg:acI}{o:HO}{h base:acP}{H:Hp}{pins:List (acA×Obj)}{ch:List acA}{body:List acS}{ps N:List Str}{us:List acB}{M:Model}{t' k:Nat}{P:acL}{K:PySem.W.Frag}{r:R2}{s:acC}{σ:St}{mg:Str->Option acB}{Q:Unit->acC->Prop}{E:acB->acC->Prop}{f:acB->acB->Sem acB}{w:acQ}
abbrev Key:=Sum Int Str
def keyIs:Key->acB->Bool
 | .inl k,v=>Value.isInt k v
 | .inr x,v=>Value.isStrOf x v
def keyH(w:acQ):Key->Int
 | .inl k=>hashInt k
 | .inr x=>hashStr w x
theorem keyIs_shape:∀{k:Key} {v:acB},keyIs k v=true->(∃i t,k=Sum.inl i/\v=agy i t)\/(∃x t,k=Sum.inr x/\v=ahp x t)
 | .inl i,v,h=>by
  obtain⟨t,e⟩:=Value.isInt_shape (k:=i) (v:=v) h;exact .inl ⟨i,t,rfl,e⟩
 | .inr x,v,h=>by
  obtain⟨t,e⟩:=Value.isStrOf_shape (x:=x) (v:=v) h;exact .inr ⟨x,t,rfl,e⟩
theorem key_ll(a b:Int):decide ((Sum.inl a:Key)=Sum.inl b)=(a ==b):=by
 by_cases e:a=b
 ·subst e;simp
 ·have h:¬(Sum.inl a:Key)=Sum.inl b:=λq=>e (Sum.inl.inj q);rw[decide_eq_false h];exact (beq_eq_false_iff_ne.mpr e).symm
theorem key_rr(a b:Str):decide ((Sum.inr a:Key)=Sum.inr b)=decide (a=b):=by
 by_cases e:a=b
 ·subst e;simp
 ·have h:¬(Sum.inr a:Key)=Sum.inr b:=λq=>e (Sum.inr.inj q);rw[decide_eq_false h,decide_eq_false e]
theorem key_lr(a:Int)(b:Str):decide ((Sum.inl a:Key)=Sum.inr b)=false:=decide_eq_false (λq=>nomatch q)
theorem key_rl(a:Str)(b:Int):decide ((Sum.inr a:Key)=Sum.inl b)=false:=decide_eq_false (λq=>nomatch q)
def mixKind(prog:acL)(w:acQ):PySem.KeyKind prog w Key where
 is:=keyIs
 hash:=keyH w
 inj :=λv a b ha hb=>by
  rcases keyIs_shape ha with⟨i,t,rfl,rfl⟩ |⟨x,t,rfl,rfl⟩
  ·rcases keyIs_shape hb with⟨j,u,rfl,e⟩ |⟨y,u,rfl,e⟩
   ·injection e with e1 _;rw[e1]
   ·exact nomatch e
  ·rcases keyIs_shape hb with⟨j,u,rfl,e⟩ |⟨y,u,rfl,e⟩
   ·exact nomatch e
   ·injection e with e1 _;rw[e1]
 byValue:=λk v h=>by
  rcases keyIs_shape h with⟨i,t,rfl,rfl⟩ |⟨x,t,rfl,rfl⟩ <;> rfl
 pyHash:=λhv h=>by
  rcases keyIs_shape hv with⟨i,t,rfl,rfl⟩ |⟨x,t,rfl,rfl⟩
  ·exact wpAny_pyHash_int h
  ·exact wpAny_pyHash_str h
 eqBool:=λhu hv h=>by
  rcases keyIs_shape hu with⟨i,t,rfl,rfl⟩ |⟨x,t,rfl,rfl⟩
  ·rcases keyIs_shape hv with⟨j,u,rfl,rfl⟩ |⟨y,u,rfl,rfl⟩
   ·rw[key_ll] at h;exact ag5 h
   ·rw[key_lr] at h;exact ahC i t y u _ _ _ _ h
  ·rcases keyIs_shape hv with⟨j,u,rfl,rfl⟩ |⟨y,u,rfl,rfl⟩
   ·rw[key_rl] at h;exact ahD x t j u _ _ _ _ h
   ·rw[key_rr] at h;exact ag6 h
 «strs»:=λk x t v h=>by
  rcases keyIs_shape h with⟨i,u,rfl,e⟩ |⟨y,u,rfl,e⟩
  ·exact nomatch e
  ·injection e with e1 _;subst e1;cases v <;> rfl
inductive V where
 |non |bl (b:Bool) |int (i:Int) |str (x:Str) |byt (b:Array UInt8) |flt (b:UInt64) |ref (a:acA) |ty (n:String)
 deriving DecidableEq
def RelV:V->acB->Prop
 | .non,u=>u=acU
 | .bl b,u=>u=agW b
 | .int i,u=>∃t,u=agy i t
 | .str x,u=>∃t,u=ahp x t
 | .byt b,u=>∃t,u=Value.bytes b t
 | .flt b,u=>∃t,u=Value.float b t
 | .ref a,u=>u=acM a
 | .ty n,u=>u=acJ n
abbrev Vals:List V->List acB->Prop:=Paired RelV
theorem Vals.length{xs:List V}(r:Vals xs us):xs.length=us.length:=Paired.length r
theorem Vals.get:∀{xs:List V} {us:List acB} {i:Nat} {x:V},Vals xs us->xs[i]?=some x->∃u,us[i]?=some u/\RelV x u
 |_,_,_,_,.nil,e=>by simp at e
 |_,_,0,_,.cons r _,e=>by simp at e;subst e;exact⟨_,rfl,r⟩
 | _,_,i+1,x,.cons _ t,e=>by
  obtain⟨u,h1,h2⟩:=Vals.get (i:=i) (x:=x) t (by simpa using e);exact⟨u,by simpa using h1,h2⟩
theorem Vals.append:∀{xs ys:List V} {us ws:List acB},Vals xs us->Vals ys ws->Vals (xs++ys) (us++ws)
 :=by
 intro xs ys us ws h q
 induction h with
 |nil=>exact q
 |cons r t ih=>exact .cons r ih
theorem Vals.take:∀{xs:List V} {us:List acB} (n:Nat),Vals xs us->Vals (xs.take n) (us.take n)
 |_,_,0,_=> .nil
 |_,_,_+1,.nil=> .nil
 |_,_,n+1,.cons r t=> .cons r (Vals.take n t)
theorem Vals.drop:∀{xs:List V} {us:List acB} (n:Nat),Vals xs us->Vals (xs.drop n) (us.drop n)
 |_,_,0,r=>r
 |_,_,_+1,.nil=> .nil
 |_,_,n+1,.cons _ t=>Vals.drop n t
def RelO:Option V->Option acB->Prop
 |some v,some u=>RelV v u
 |none,none=>True
 |_,_=>False
def KV{κ:Type}:List (κ×V)->List (κ×acB)->Prop:=Paired λ(p:κ×V) (q:κ×acB)=>p.1=q.1/\RelV p.2 q.2
def kV:Key->V
 | .inl i=> .int i
 | .inr x=> .str x
inductive HO where
 /-- a list -/
 |lst (xs:List V)
 /-- a tuple (never changes) -/
 |tup (xs:List V)
 /-- a dict whose keys are ints and texts;one whose keys are tuples of ints and texts (the empty one is both) -/
 |dK (kvs:List (Key×V)) |dT (kvs:List (List Key×V))
 /-- a set of ints:its members,its size -/
 |set (S:Int->Bool) (n:Nat)
 /-- an instance of the class at C,its dict at dx,its attributes -/
 |ins (C dx:acA) (fs:List (Str×V))
 /-- the dict of the instance at x -/
 |own (x:acA)
 /-- the dict of an exception -/
 |xd (fs:List (Str×V))
 /-- a bound method,f of x -/
 |met (f x:acA)
 /-- a range object lo,lo+1,.. below hi -/
 |rng (lo hi:Int)
 /-- a thing that is known to the object (the script;a dict while a loop walks it):read,never written while it is so -/
 |frz (o:Obj) (u:HO)
 /-- a code object's table -/
 |tbl (ps:Array acB)
 /-- any other thing,by what is true of its one object (a def of one's own:SetO a S n:=HO.ext λh=> ..) -/
 |ext (φ:acP->Prop)
abbrev Hp:=acA->Option HO
def upd(H:Hp)(a:acA)(o:HO):Hp:=λb=>if b=a then some o else H b
theorem upd_same{a:acA}:upd H a o a=some o:=by unfold upd;rw[if_pos rfl]
theorem upd_ne{a b:acA}(h:b≠a):upd H a o b=H b:=by unfold upd;rw[if_neg h]
theorem ne_of_none{a b:acA}(h:H a=some o)(h':H b=none):a≠b:=by
 intro e;subst e;rw[h] at h';cases h'
def tM(h:acP)(a:acA)(items:Array acB):Prop:=∃o,h.get? a=some o/\o.cls= .type "tuple"/\o.dict=none/\∃n,o.data= .seq items n
theorem tM.tup{a:acA}{items:Array acB}(x:tM h a items):IsTup h a items:=let⟨o,e,c,_,d⟩:=x;⟨o,e,c,d⟩
theorem tM.new(h:acP)(items:Array acB):tM (h.push {cls:= .type "tuple",data:= .seq items}) h.objs.size items:=⟨_,z1f _ rfl,rfl,rfl,_,rfl⟩
section
variable(P:acL)(w:acQ)
def ObjOk(H:Hp)(h:acP)(a:acA):HO->Prop
 | .lst xs=>xs.length<=sizeLine/\∃(its:List acB) (n:Nat),Vals xs its/\h.get? a=some {cls:= .type "list",data:= .seq its.toArray n}
 | .tup xs=>xs.length<=sizeLine/\∃its:List acB,Vals xs its/\tM h a its.toArray
 | .dK kvs=>kvs.length<=sizeLine/\(a ==sysModules)=false/\∃vs,KV kvs vs/\h.DictOf (mixKind P w) a vs
 | .dT kvs=>kvs.length<=sizeLine/\(a ==sysModules)=false/\∃xs:List (List Key×acA×acB),
   Paired (λ(p:List Key×V) (q:List Key×acA×acB)=>p.1=q.1/\H q.2.1=some (.tup (p.1.map kV))/\RelV p.2 q.2.2) kvs xs/\
   ∃o es ep,h.get? a=some o/\o.ExactDict/\o.data= .dict es ep/\es.toList=xs.map (entryOfKey (tupleKind (mixKind P w)))/\(xs.map (·.1)).Nodup
 | .set S n=>h.SetOf (intKind P w) a S n
 | .ins C dx fs=>H dx=some (.own a)/\fs.length<=1000/\dx≠a/\h.get? a=some (PySem.W.instObj C dx)/\
   ∃mA,h.Ns1 dx mA/\(∀f,RelO (fs.lookup f) (mA f))/\PySem.Within mA (fs.map (·.1))
 | .own _=>∃o,h.get? a=some o
 | .xd fs=>∃mA,h.Ns1 a mA/\∀f,RelO (fs.lookup f) (mA f)
 | .rng lo hi=>∃t u v,h.get? a=some {cls:= .type "range",data:= .fields #[.int lo t,.int hi u,.int 1 v]}
 | .frz o u=>h.get? a=some o/\ObjOk H h a u
 | .tbl ps=>∃qs:Array acB,h.get? a=some (PySem.W.tabObj qs)/\afB qs.toList/\∀pos cv,af7 pos qs.toList=some cv->∃c oc vs q t tq,cv= .ref c/\H c=some (.frz oc (.own c))/\oc.data= .fields vs/\vs[1]?=some (.str q t)/\ps[0]?=some (.str q tq)
 | .met f x=>h.get? a=some (PySem.W.methodObj (.ref f) (.ref x))
 | .ext φ=>φ h/\(∃o,h.get? a=some o)/\∀h1 h2:acP,φ h1->(∀o,h1.get? a=some o->h2.get? a=some o)->φ h2
def HOk(H:Hp)(h:acP):Prop:=∀a o,H a=some o->ObjOk P w H h a o
end
section
variable{P:acL}{w:acQ}{H H':Hp}{h h':acP}{a:acA}{o:HO}
theorem ObjOk.lt(x:ObjOk P w H h a o):a<h.objs.size:=by
 cases o with
 |lst xs=>obtain⟨_,_,_,_,e⟩:=x;exact z2c e
 |tup xs=>obtain⟨_,_,_,_,e,_⟩:=x;exact z2c e
 |dK kvs=>obtain⟨_,_,_,_,o,_,_,e,_⟩:=x;exact z2c e
 |dT kvs=>obtain⟨_,_,_,_,o,_,_,e,_⟩:=x;exact z2c e
 |set S n=>obtain⟨o,_,_,_,e,_⟩:=x;exact z2c e
 |ins C dx fs=>obtain⟨_,_,_,e,_⟩:=x;exact z2c e
 |own y=>obtain⟨_,e⟩:=x;exact z2c e
 |xd fs=>obtain⟨_,⟨_,_,_,e,_⟩,_⟩:=x;exact z2c e
 |rng lo hi=>obtain⟨_,_,_,e⟩:=x;exact z2c e
 |frz ob u=>obtain⟨e,_⟩:=x;exact z2c e
 |tbl ps=>obtain⟨_,e,_⟩:=x;exact z2c e
 |met f y=>exact z2c (show h.get? a=some _ from x)
 |ext φ=>obtain⟨_,⟨_,e⟩,_⟩:=x;exact z2c e
theorem Paired.mapP{α β:Type}{F G:α->β->Prop}:∀{l₁:List α} {l₂:List β},Paired F l₁ l₂->(∀a b,F a b->G a b)->Paired G l₁ l₂
 :=by
 intro l₁ l₂ h f
 induction h with
 |nil=>exact .nil
 |cons r t ih=>exact .cons (f _ _ r) ih
theorem ObjOk.stay(x:ObjOk P w H h a o)(k:∀b u,(b=a\/H b=some (.own a))->h.get? b=some u->h'.get? b=some u)
  (ho:∀b,H b=some (.own a)->H' b=some (.own a))(ht:∀b xs,H b=some (.tup xs)->H' b=some (.tup xs))(hz:∀b o u,(∃vs,o.data= .fields vs)->H b=some (.frz o u)->H' b=some (.frz o u)):ObjOk P w H' h' a o:=by
 induction o with
 |lst xs=>obtain⟨z,its,n,r,e⟩:=x;exact⟨z,its,n,r,k _ _ (.inl rfl) e⟩
 |tup xs=>obtain⟨z,its,r,ob,e,c⟩:=x;exact⟨z,its,r,ob,k _ _ (.inl rfl) e,c⟩
 |dK kvs=>obtain⟨z,y,vs,r,ob,es,ep,e,c⟩:=x;exact⟨z,y,vs,r,ob,es,ep,k _ _ (.inl rfl) e,c⟩
 | dT kvs=>
  obtain⟨z,y,xs,r,ob,es,ep,e,c⟩:=x;exact⟨z,y,xs,Paired.mapP r λp q z=>⟨z.1,ht _ _ z.2.1,z.2.2⟩,ob,es,ep,k _ _ (.inl rfl) e,c⟩
 |set S n=>obtain⟨ob,es,ep,t,e,c⟩:=x;exact⟨ob,es,ep,t,k _ _ (.inl rfl) e,c⟩
 | ins C dx fs=>
  obtain⟨d,z,ne,e,mA,⟨od,es,ep,e2,c⟩,r⟩:=x;exact⟨ho _ d,z,ne,k _ _ (.inl rfl) e,mA,⟨od,es,ep,k _ _ (.inr d) e2,c⟩,r⟩
 |own y=>obtain⟨ob,e⟩:=x;exact⟨ob,k _ _ (.inl rfl) e⟩
 |xd fs=>obtain⟨mA,⟨od,es,ep,e,c⟩,r⟩:=x;exact⟨mA,⟨od,es,ep,k _ _ (.inl rfl) e,c⟩,r⟩
 |rng lo hi=>obtain⟨t,u,v,e⟩:=x;exact⟨t,u,v,k _ _ (.inl rfl) e⟩
 |frz ob u ih=>obtain⟨e,q⟩:=x;exact⟨k _ _ (.inl rfl) e,ih q⟩
 | tbl ps=>
  obtain⟨qs,e,tr,al⟩:=x;exact⟨qs,k a _ (.inl rfl) e,tr,λp cv z=>by
   obtain⟨c,oc,vs,q,t,tq,e1,e2,e3,r⟩:=al p cv z;exact⟨c,oc,vs,q,t,tq,e1,hz _ _ _ ⟨vs,e3⟩ e2,e3,r⟩⟩
 | met f y=>
  have e:h.get? a=some (PySem.W.methodObj (.ref f) (.ref y)):=x;show h'.get? a=some (PySem.W.methodObj (.ref f) (.ref y));exact k a _ (.inl rfl) e
 |ext φ=>obtain⟨p,⟨o,e⟩,st⟩:=x;exact⟨st _ _ p λo q=>k _ _ (.inl rfl) q,⟨o,k _ _ (.inl rfl) e⟩,st⟩
theorem HOk.lt(x:HOk P w H h)(e:H a=some o):a<h.objs.size:=(x a o e).lt
theorem HOk.fresh(x:HOk P w H h)(e:h.objs.size<=a):H a=none:=by
 cases q:H a with
 |none=>rfl
 |some u=>exact absurd (z0d (x.lt q) e) (adH _)
theorem HOk.kept(x:HOk P w H h)(k:∀b u,h.get? b=some u->h'.get? b=some u):HOk P w H h':=λa o e=>
 (x a o e).stay (λb u _ q=>k b u q) (λ_ q=>q) (λ_ _ q=>q) λ_ _ _ _ q=>q
theorem HOk.laid(x:HOk P w H h)(k:∀b u,h.get? b=some u->h'.get? b=some u)(hp:h.objs.size<=a)(new:ObjOk P w (upd H a o) h' a o):HOk P w (upd H a o) h':=λb u e=>by
 have hn:=x.fresh hp;by_cases hb:b=a
 ·subst hb;rw[upd_same] at e;cases e;exact new
 ·rw[upd_ne hb] at e;exact (x b u e).stay (λc v _ q=>k c v q) (λc q=>by rw[upd_ne (ne_of_none q hn)];exact q) (λc xs q=>by rw[upd_ne (ne_of_none q hn)];exact q) λc _ _ _ q=>by rw[upd_ne (ne_of_none q hn)];exact q
end
def Rd(H:Hp)(a:acA)(u:HO):Prop:=H a=some u\/∃o,H a=some (.frz o u)
theorem Rd.ok{a:acA}{u:HO}(r:Rd H a u)(x:HOk P w H h):ObjOk P w H h a u:=by
 rcases r with r |⟨o,r⟩
 ·exact x a u r
 ·obtain⟨_,q⟩:=x a _ r;exact q
def Mut:Option HO->Prop
 |some (.lst _)=>True
 |some (.dK _)=>True
 |some (.dT _)=>True
 |some (.set _ _)=>True
 |some (.ins _ _ _)=>True
 |some (.ext _)=>True
 |_=>False
section
variable{P:acL}{w:acQ}{H:Hp}{h h':acP}{x e:acA}{o':HO}
theorem HOk.write(ok:HOk P w H h)(mu:Mut (H x))(he:e=x\/H e=some (.own x))(k:∀b u,b≠e->h.get? b=some u->h'.get? b=some u)(heo:∃u,h'.get? e=some u)
  (new:ObjOk P w (upd H x o') h' x o'):HOk P w (upd H x o') h':=λb u q=>by
 have nown:∀c y,H c=some (.own y)->c≠x:=λc y r z=>by subst z;rw[r] at mu;exact mu
 have ntup:∀c xs,H c=some (.tup xs)->c≠x:=λc xs r z=>by subst z;rw[r] at mu;exact mu
 by_cases hb:b=x
 ·subst hb;rw[upd_same] at q;cases q;exact new
 ·rw[upd_ne hb] at q;by_cases hbe:b=e
  ·have q':H b=some (.own x):=by
    rcases he with z |z
    ·exact absurd (hbe.trans z) hb
    ·rw[hbe];exact z
   rw[q] at q';cases q';obtain⟨v,hv⟩:=heo;exact⟨v,by rw[hbe];exact hv⟩
  ·refine (ok b u q).stay (λc v hc r=>k c v ?_ r) (λc r=>by rw[upd_ne (nown c b r)];exact r) (λc xs r=>by rw[upd_ne (ntup c xs r)];exact r) λc o1 u1 _ r=>by rw[upd_ne (λz=>by rw[z] at r;rw[r] at mu;exact mu)];exact r
   rcases hc with rfl |hc
   ·exact hbe
   ·rintro rfl
    rcases he with z |z
    ·exact nown c b hc z
    ·rw[hc] at z;cases z;exact hb rfl
end
structure Un(fs ex:List acA)(H H':Hp)(h h':acP):Prop where
 keep:∀b o,h.get? b=some o->H b=none->b∉fs->b∉ex->h'.get? b=some o
 slot:∀b o,h.get? b=some o->H b=none->b∈fs->b∉ex->∃sl,h'.get? b=some {o with slots:=sl}
 free:∀b o,h.get? b=some o->H b=none->b∉ex->H' b=none
 there:∀b o,h.get? b=some o->b∉ex->∃o',h'.get? b=some o'
 tups:∀b xs,H b=some (.tup xs)->H' b=some (.tup xs)
 frzs:∀b o u,H b=some (.frz o u)->H' b=some (.frz o u)
 tbls:∀b ps,H b=some (.tbl ps)->∃more,H' b=some (.tbl (ps++more))
section
variable{fs fs' ex ex':List acA}{H H1 H2:Hp}{h h1 h2 h':acP}{a x e:acA}{o:HO}
theorem Un.any(u:Un fs ex H H1 h h1){b:acA}{ob:Obj}(q:h.get? b=some ob)(n:H b=none)(hx:b∉ex):∃sl,h1.get? b=some {ob with slots:=sl}:=by
 by_cases hb:b∈fs
 ·exact u.slot b ob q n hb hx
 ·exact⟨ob.slots,u.keep b ob q n hb hx⟩
theorem Un.kept(k:∀b u,h.get? b=some u->h'.get? b=some u):Un fs ex H H h h':=
 ⟨λb ob q _ _ _=>k b ob q,λb ob q _ _ _=>⟨ob.slots,k b ob q⟩,λ_ _ _ n _=>n,λb ob q _=>⟨ob,k b ob q⟩,λ_ _ q=>q,λ_ _ _ q=>q,λ_ ps q=>⟨#[],by rw[q];simp⟩⟩
theorem Un.refl:Un fs ex H H h h:=Un.kept λ_ _ q=>q
theorem Un.laid(k:∀b u,h.get? b=some u->h'.get? b=some u)(hp:h.objs.size<=a)(hn:H a=none):Un fs ex H (upd H a o) h h' where
 keep:=λb u q _ _ _=>k b u q
 slot:=λb u q _ _ _=>⟨u.slots,k b u q⟩
 free:=λb u q n _=>by rw[upd_ne (ac2 (z0d (z2c q) hp))];exact n
 there:=λb u q _=>⟨u,k b u q⟩
 tups:=λb xs q=>by rw[upd_ne (ne_of_none q hn)];exact q
 frzs:=λb u xs q=>by rw[upd_ne (ne_of_none q hn)];exact q
 tbls:=λb ps q=>⟨#[],by rw[upd_ne (ne_of_none q hn),q];simp⟩
theorem Un.write(mu:Mut (H x))(he:e=x\/H e=some (.own x))(k:∀b u,b≠e->h.get? b=some u->h'.get? b=some u)(heo:∃u,h'.get? e=some u):Un fs ex H (upd H x o) h h':=by
 have hx:∀b,H b=none->b≠x:=λb n z=>by subst z;rw[n] at mu;exact mu
 have hb:∀b,H b=none->b≠e:=λb n z=>by
  subst z;rcases he with r |r
  ·exact hx b n r
  ·rw[n] at r;cases r
 have hm:∀b u,H b=some u->¬Mut (some u)->b≠x:=λb u q nm z=>by subst z;rw[q] at mu;exact nm mu
 refine⟨λb u q n _ _=>k b u (hb b n) q,λb u q n _ _=>⟨u.slots,k b u (hb b n) q⟩,λb u q n _=>by rw[upd_ne (hx b n)];exact n,λb u q _=>?_,
  λb xs q=>by rw[upd_ne (hm b _ q λz=>z)];exact q,λb u xs q=>by rw[upd_ne (hm b _ q λz=>z)];exact q,λb ps q=>⟨#[],by rw[upd_ne (hm b _ q λz=>z),q];simp⟩⟩
 by_cases hbe:b=e
 ·subst hbe;exact heo
 ·exact⟨u,k b u hbe q⟩
end
def trk(h:acP)(H:Hp):List acA:=(acD h.objs.size).filter λa=>(H a).isSome
def hidT(h:acP)(H:Hp):acP:=PySem.W.hideAll h (trk h H)
theorem hidT_size(h:acP)(H:Hp):(hidT h H).objs.size=h.objs.size:=PySem.W.hideAll_size _ _
theorem hidT_get{b:acA}{o:Obj}(e:h.get? b=some o)(n:H b=none):(hidT h H).get? b=some o:=
 PySem.W.hideAll_get _ e λhm=>by
  have q:(H b).isSome=true:=(agc.mp hm).2;rw[n] at q;simp at q
theorem of_hidT{b:acA}{o:Obj}(e:(hidT h H).get? b=some o):h.get? b=some o/\H b=none:=by
 have e':h.get? b=some o:=PySem.W.of_hideAll (trk h H) e;refine⟨e',?_⟩;cases q:H b with
 |none=>rfl
 | some x=>
  have hm:b∈trk h H:=agc.mpr ⟨agp.mpr (z2c e'),by simp[q]⟩;have z:(hidT h H).get? b=none:=PySem.W.hideAll_none (trk h H) hm;rw[z] at e;cases e
def allNews(g h:acP)(L:acA):List (acA×Obj):=(acD h.objs.size).filterMap λa=>if a=L\/(g.get? a).isSome=true then none else (h.get? a).map λo=>(a,o)
def rest(g h:acP)(L d:acA):List (acA×Obj):=(allNews g h L).filter λp=>decide (p.1≠d)
structure Mod(K:PySem.W.Frag)(mg:Str->Option acB)(base:acP):Prop where
 kin:K.In base
 glob:base.Ns acK mg
 blt:∃mb,base.Ns ae1 mb/\∀x:Str,x≠"__name__"->mb x=aea x
 nolimit:base.NoLimit
structure Cx where
 prog:acL
 w:acQ
 K:PySem.W.Frag
 mg:Str->Option acB
 base:acP
 A:acO
 N:List Str
 s₀:acC
 H₀:Hp
 env:Env
 outer:List Env
 stack:List Env
 ex:List acA
 fn:Str->Bool
 calm:Bool
 pn:List (acA×Obj)
 xe:acB->acC->Prop
def frs(l:List Env):List acA:=l.filterMap (·.frame)
abbrev Cx.fs(X:Cx):List acA:=frs X.outer
def Vis(sc:aec)(x:Str):Prop:=sc.names.lookup x=some .local\/sc.names.lookup x=some .cell\/sc.names.lookup x=some .free
def Loc(sc:aec)(x:Str):Prop:=sc.names.lookup x=some .local\/sc.names.lookup x=some .cell
def Look(env:Env)(h:acP)(m:Str->Option acB)(x:Str)(u:acB):Prop:=
 (env.kindOf x=some .local/\m x=some u)\/((env.kindOf x=some .cell\/env.kindOf x=some .free)/\∃c,env.cells.lookup x=some c/\h.IsCell c (some u))
structure Cx.Ok(X:Cx):Prop where
 mod:Mod X.K X.mg X.base
 kind:X.env.scope.kind= .function
 glob:X.env.globals=acK
 blt:X.env.builtins=ae1
 above:X.s₀.heap.objs.size<=X.env.locals
 inj:∀x y c,X.env.cells.lookup x=some c->X.env.cells.lookup y=some c->x=y
 has:∀x,(X.env.kindOf x=some .cell\/X.env.kindOf x=some .free)->∃c,X.env.cells.lookup x=some c
 cab:∀x c,X.fn x=true->X.env.cells.lookup x=some c->X.s₀.heap.objs.size<=c
 hd:X.calm=true->X.A.handled=none
 frames:X.A.frames=some X.stack
 stk:X.stack=X.outer\/(X.stack=X.env::X.outer/\X.env.frame=some X.env.locals)
 exf:∀b∈X.ex,b≠X.env.locals/\∀x c,X.env.cells.lookup x=some c->c≠b
 bs:∀b o,X.base.get? b=some o->X.s₀.heap.get? b=some o/\X.H₀ b=none
 bsz:X.base.objs.size<=X.s₀.heap.objs.size
 noex:∀b o,X.base.get? b=some o->b∉X.ex
 exfs:∀b∈X.ex,b∉X.fs
 funs:X.s₀.heap.FunFrames X.base X.outer
 frf:∀b∈X.fs,X.H₀ b=none
structure Inv(X:Cx)(pins:List (acA×Obj))(σ:List (Option V))(H:Hp)(s:acC):Prop where
 ok:X.Ok
 os:s.os=X.s₀.os
 bare:ae9 s.gens
 base:Un X.fs X.ex X.H₀ H X.s₀.heap s.heap
 loc:∃m,s.heap.Ns X.env.locals m/\∀(i:Nat) (x:Str) (v:V),X.N[i]?=some x->σ[i]?=some (some v)->Vis X.env.scope x->∃u,RelV v u/\Look X.env s.heap m x u
 cell:∀x c,X.env.cells.lookup x=some c->∃v,s.heap.IsCell c v
 free:H X.env.locals=none
 freeC:∀x c,X.env.cells.lookup x=some c->H c=none
 pin:∀p∈X.pn++pins,s.heap.get? p.1=some p.2/\H p.1=none/\p.1≠X.env.locals/\p.1∉X.fs/\∀v,p.2.data≠.cell v
 hok:HOk X.prog X.w H s.heap
 len:σ.length=X.N.length
section
variable{X:Cx}{pins:List (acA×Obj)}{σ:List (Option V)}{H H':Hp}{s:acC}{h':acP}
theorem Cx.Ok.nofr(ok:X.Ok){b:acA}{o:Obj}(e:X.base.get? b=some o):b∉X.fs:=λhb=>by
 have:=(ok.funs.mem hb).1;rw[e] at this;cases this
theorem Inv.bs(I:Inv X pins σ H s):∀b o,X.base.get? b=some o->s.heap.get? b=some o/\H b=none:=λb o e=>
 ⟨I.base.keep b o (I.ok.bs b o e).1 (I.ok.bs b o e).2 (I.ok.nofr e) (I.ok.noex b o e),I.base.free b o (I.ok.bs b o e).1 (I.ok.bs b o e).2 (I.ok.noex b o e)⟩
theorem Inv.bk(I:Inv X pins σ H s):∀b o,X.base.get? b=some o->s.heap.get? b=some o:=λb o e=>(I.bs b o e).1
theorem Inv.mod(I:Inv X pins σ H s):Mod X.K X.mg X.base:=I.ok.mod
theorem Inv.kIn(I:Inv X pins σ H s):X.K.In s.heap:=I.ok.mod.kin.keeps I.bk
theorem Inv.lt(I:Inv X pins σ H s):X.env.locals<s.heap.objs.size:=let⟨_,hn,_⟩:=I.loc;hn.lt
theorem Inv.sz(I:Inv X pins σ H s):X.s₀.heap.objs.size<=s.heap.objs.size:=z0b I.ok.above (z0e I.lt)
theorem Inv.nofs(I:Inv X pins σ H s){a:acA}(h:s.heap.objs.size<=a):a∉X.fs:=λhb=>by
 obtain⟨_,o,ho,_⟩:=I.ok.funs.mem hb;exact absurd (z0d (z2c ho) (z0b I.sz h)) (adH _)
theorem Inv.cne(I:Inv X pins σ H s):∀x c,X.env.cells.lookup x=some c->c≠X.env.locals:=λx c e z=>by
 obtain⟨v,o,ho,hd⟩:=I.cell x c e;obtain⟨m,⟨o',es,ep,ho',hd',_⟩,_⟩:=I.loc;rw[z,ho'] at ho;cases ho;rw[hd'] at hd;cases hd
theorem Inv.funs(I:Inv X pins σ H s):s.heap.FunFrames X.base X.outer:=by
 have all:∀(l:List Env),(∀b∈frs l,b∈X.fs)->X.s₀.heap.FunFrames X.base l->s.heap.FunFrames X.base l:=by
  intro l
  induction l with
  |nil=>intro _ _;trivial
  | cons env r ih=>
   intro hs hl;obtain⟨hk,⟨L,o,hf,hn,ho,hd⟩,hr⟩:=hl;have hL:L∈X.fs:=hs L (by unfold frs;rw[aft,hf];exact acT);obtain⟨sl,e⟩:=I.base.slot L o ho (I.ok.frf L hL) hL λz=>I.ok.exfs L z hL;exact⟨hk,⟨L,_,hf,hn,e,hd⟩,ih (λb hb=>hs b (by unfold frs;rw[aft,hf];exact z2f _ hb)) hr⟩
 exact all X.outer (λ_ hb=>hb) I.ok.funs
theorem Inv.stack(I:Inv X pins σ H s):s.heap.FunFrames X.base X.stack:=by
 rcases I.ok.stk with e |⟨e,hf⟩
 ·rw[e];exact I.funs
 ·rw[e];obtain⟨m,hn,_⟩:=I.loc;refine .cons (by rw[I.ok.kind];decide) hf hn ?_ I.funs;exact Heap.get?_none_of_le (z0b I.ok.bsz I.ok.above)
theorem Inv.stkSub(I:Inv X pins σ H s):∀b∈frs X.stack,b∈X.env.locals::X.fs:=λb hb=>by
 rcases I.ok.stk with e |⟨e,hf⟩
 ·rw[e] at hb;exact z2f _ hb
 ·rw[e] at hb;unfold frs at hb;rw[aft,hf] at hb;exact hb
theorem Inv.stkFree(I:Inv X pins σ H s):∀b∈frs X.stack,H b=none:=λb hb=>by
 rcases acR.mp (I.stkSub b hb) with e |hb
 ·rw[e];exact I.free
 ·obtain⟨_,o,ho,_⟩:=I.ok.funs.mem hb;exact I.base.free b o ho (I.ok.frf b hb) λz=>I.ok.exfs b z hb
theorem Inv.step{g':Array GenState}{d':Drawn}(I:Inv X pins σ H s)
  (hch:∀b∈ch,(b∈X.ex\/X.s₀.heap.objs.size<=b)/\b≠X.env.locals/\(∀x c,X.env.cells.lookup x=some c->c≠b)/\∀p∈X.pn++pins,p.1≠b)
  (keep:∀b o,b≠X.env.locals->b∉X.fs->b∉ch->s.heap.get? b=some o->H b=none->h'.get? b=some o)
  (slot:∀b o,b≠X.env.locals->b∈X.fs->b∉ch->s.heap.get? b=some o->H b=none->∃sl,h'.get? b=some {o with slots:=sl})(free:∀b o,b∉ch->s.heap.get? b=some o->H b=none->H' b=none)
  (there:∀b o,b∉ch->s.heap.get? b=some o->∃o',h'.get? b=some o')
  (tups:∀b xs,H b=some (.tup xs)->H' b=some (.tup xs))(frzs:∀b o u,H b=some (.frz o u)->H' b=some (.frz o u))(tbls:∀b ps,H b=some (.tbl ps)->∃more,H' b=some (.tbl (ps++more)))
  (ns:∀m,s.heap.Ns X.env.locals m->h'.Ns X.env.locals m)(hok:HOk X.prog X.w H' h')(hg:ae9 g'):
  Inv X pins σ H' {s with heap:=h',gens:=g',drawn:=d',toks:=t'}:=by
 have neL:∀b o,X.s₀.heap.get? b=some o->b≠X.env.locals:=λb o e=>ac2 (z0d (z2c e) I.ok.above);have neC:∀b o,X.s₀.heap.get? b=some o->b∉X.ex->b∉ch:=λb o e hx hb=>by
  rcases (hch b hb).1 with z |z
  ·exact hx z
  ·exact absurd (z0d (z2c e) z) (adH _)
 have cellK:∀x c,X.env.cells.lookup x=some c->∀v,s.heap.IsCell c v->h'.IsCell c v:=λx c e v ⟨o,ho,hd⟩=>by
  have nch:c∉ch:=λz=>(hch c z).2.2.1 x c e rfl;by_cases hc:c∈X.fs
  ·obtain⟨sl,q⟩:=slot c o (I.cne x c e) hc nch ho (I.freeC x c e);exact⟨_,q,hd⟩
  ·exact⟨o,keep c o (I.cne x c e) hc nch ho (I.freeC x c e),hd⟩
 refine⟨I.ok,I.os,hg,⟨λb o e n hb hx=>?_,λb o e n hb hx=>?_,λb o e n hx=>?_,λb o e hx=>?_,λb xs e=>tups b xs (I.base.tups b xs e),λb o xs e=>frzs b o xs (I.base.frzs b o xs e),λb ps e=>?_⟩,?_,λx c e=>?_,?_,λx c e=>?_,λp hp=>?_,hok,I.len⟩
 ·exact keep b o (neL b o e) hb (neC b o e hx) (I.base.keep b o e n hb hx) (I.base.free b o e n hx)
 ·obtain⟨sl,e1⟩:=I.base.slot b o e n hb hx;obtain⟨sl',e2⟩:=slot b _ (neL b o e) hb (neC b o e hx) e1 (I.base.free b o e n hx);exact⟨sl',e2⟩
 ·obtain⟨o',e1⟩:=I.base.there b o e hx;exact free b o' (neC b o e hx) e1 (I.base.free b o e n hx)
 ·obtain⟨o',e1⟩:=I.base.there b o e hx;exact there b o' (neC b o e hx) e1
 ·obtain⟨m1,e1⟩:=I.base.tbls b ps e;obtain⟨m2,e2⟩:=tbls b _ e1;exact⟨m1++m2,by rw[e2,Array.append_assoc]⟩
 ·obtain⟨m,hn,hl⟩:=I.loc;refine⟨m,ns m hn,λi x v e1 e2 e3=>?_⟩;obtain⟨u,r,l⟩:=hl i x v e1 e2 e3;refine⟨u,r,?_⟩;rcases l with l |⟨k,c,e,z⟩
  ·exact .inl l
  ·exact .inr ⟨k,c,e,cellK x c e _ z⟩
 ·obtain⟨v,z⟩:=I.cell x c e;exact⟨v,cellK x c e v z⟩
 ·obtain⟨m,⟨o,_,_,ho,_⟩,_⟩:=I.loc;exact free _ o (λz=>(hch _ z).2.1 rfl) ho I.free
 ·obtain⟨v,o,ho,hd⟩:=I.cell x c e;exact free c o (λz=>(hch c z).2.2.1 x c e rfl) ho (I.freeC x c e)
 ·obtain⟨e,n,ne,nf,d⟩:=I.pin p hp;have nch:p.1∉ch:=λz=>(hch p.1 z).2.2.2 p hp rfl;exact⟨keep p.1 p.2 ne nf nch e n,free p.1 p.2 nch e n,ne,nf,d⟩
theorem Inv.un(I:Inv X pins σ H s)(u:Un X.fs [] H H' s.heap h')(hok:HOk X.prog X.w H' h'):Inv X pins σ H' {s with heap:=h',toks:=t'}:=by
 obtain⟨m,⟨o,es,ep,ho,r⟩,_⟩:=id I.loc;obtain⟨sl,hL⟩:=u.any ho I.free (by simp);exact I.step (g':=s.gens) (d':=s.drawn) (ch:=[]) (λ_ z=>nomatch z) (λb o _ hb _ e n=>u.keep b o e n hb (by simp)) (λb o _ hb _ e n=>u.slot b o e n hb (by simp)) (λb o _ e n=>u.free b o e n (by simp)) (λb o _ e=>u.there b o e (by simp)) u.tups u.frzs u.tbls (λm' hm=>by
  obtain⟨o',es',ep',ho',r'⟩:=hm;rw[ho] at ho';cases ho';exact⟨_,es',ep',hL,r'⟩) hok I.bare
theorem Inv.call{g':Array GenState}{d':Drawn}(I:Inv X pins σ H s)(u:Un (frs X.stack) ch H H' s.heap h')(hok:HOk X.prog X.w H' h')(hg:ae9 g')
  (hch:∀b∈ch,(b∈X.ex\/X.s₀.heap.objs.size<=b)/\b≠X.env.locals/\(∀x c,X.env.cells.lookup x=some c->c≠b)/\∀p∈X.pn++pins,p.1≠b):
  Inv X pins σ H' {s with heap:=h',gens:=g',drawn:=d',toks:=t'}:=by
 obtain⟨m,⟨o,es,ep,ho,r⟩,_⟩:=id I.loc;obtain⟨sl,hL⟩:=u.any ho I.free λz=>(hch _ z).2.1 rfl;exact I.step (ch:=ch) hch (λb o hL hb hc e n=>u.keep b o e n (λz=>(acR.mp (I.stkSub b z)).elim hL hb) hc) (λb o _ _ hc e n=>u.any e n hc) (λb o hc e n=>u.free b o e n hc) (λb o hc e=>u.there b o e hc) u.tups u.frzs u.tbls (λm' hm=>by
  obtain⟨o',es',ep',ho',r'⟩:=hm;rw[ho] at ho';cases ho';exact⟨_,es',ep',hL,r'⟩) hok hg
theorem Inv.turned{it:acA}(I:Inv X pins σ H s)(k:∀b o,b≠it->s.heap.get? b=some o->h'.get? b=some o)(hn:H it=none)(hL:it≠X.env.locals)
  (h1:it∈X.ex\/X.s₀.heap.objs.size<=it)(h2:∀x c,X.env.cells.lookup x=some c->c≠it)(h3:∀p∈X.pn++pins,p.1≠it):Inv X pins σ H {s with heap:=h',toks:=t'}:=by
 have nit:∀b u,H b=some u->b≠it:=λb u e z=>by rw[z,hn] at e;cases e
 refine I.step (g':=s.gens) (d':=s.drawn) (ch:=[it]) (λb hb=>?_) (λb o _ _ hc e _=>k b o (λz=>hc (by simp[z])) e) (λb o _ _ hc e _=>⟨o.slots,k b o (λz=>hc (by simp[z])) e⟩) (λ_ _ _ _ n=>n)
  (λb o hc e=>⟨o,k b o (λz=>hc (by simp[z])) e⟩) (λ_ _ e=>e) (λ_ _ _ e=>e) (λb ps e=>⟨#[],by rw[e];simp⟩) (λm hm=>?_) (λb u e=>?_) I.bare
 ·have e:b=it:=by simpa using hb
  subst e;exact⟨h1,hL,h2,h3⟩
 ·obtain⟨o,es,ep,ho,r⟩:=hm;exact⟨o,es,ep,k _ o (acN hL) ho,r⟩
 ·refine (I.hok b u e).stay (λc v hc q=>k c v ?_ q) (λ_ q=>q) (λ_ _ q=>q) λ_ _ _ _ q=>q;rcases hc with z |z
  ·rw[z];exact nit b u e
  ·exact nit c _ z
theorem Inv.tok(I:Inv X pins σ H s)(t:Nat):Inv X pins σ H {s with toks:=t}:=I.un (h':=s.heap) (t':=t) Un.refl I.hok
theorem Inv.kept(I:Inv X pins σ H s)(k:∀b u,s.heap.get? b=some u->h'.get? b=some u):Inv X pins σ H {s with heap:=h',toks:=t'}:=I.un (Un.kept k) (I.hok.kept k)
theorem Inv.laid{a:acA}(I:Inv X pins σ H s)(k:∀b u,s.heap.get? b=some u->h'.get? b=some u)(hp:s.heap.objs.size<=a)(new:ObjOk X.prog X.w (upd H a o) h' a o):
  Inv X pins σ (upd H a o) {s with heap:=h',toks:=t'}:=I.un (Un.laid k hp (I.hok.fresh hp)) (I.hok.laid k hp new)
theorem Inv.write{x e:acA}(I:Inv X pins σ H s)(mu:Mut (H x))(he:e=x\/H e=some (.own x))(k:∀b u,b≠e->s.heap.get? b=some u->h'.get? b=some u)(heo:∃u,h'.get? e=some u)
  (new:ObjOk X.prog X.w (upd H x o) h' x o):Inv X pins σ (upd H x o) {s with heap:=h',toks:=t'}:=I.un (Un.write mu he k heo) (I.hok.write mu he k heo new)
theorem Inv.pins_of{pins':List (acA×Obj)}(I:Inv X pins σ H s)(h:∀p∈pins',s.heap.get? p.1=some p.2/\H p.1=none/\p.1≠X.env.locals/\p.1∉X.fs/\∀v,p.2.data≠.cell v):Inv X pins' σ H s:=
 ⟨I.ok,I.os,I.bare,I.base,I.loc,I.cell,I.free,I.freeC,λp hp=>(ad2.mp hp).elim (λz=>I.pin p (List.mem_append_left _ z)) (h p),I.hok,I.len⟩
theorem nodup_ix(hN:N.Nodup){i j:Nat}{x:Str}(a:N[i]?=some x)(b:N[j]?=some x):i=j:=by
 obtain⟨h1,e1⟩:=z1b a;obtain⟨h2,e2⟩:=z1b b;exact (ag7 hN).mp (e1.trans e2.symm)
theorem store_ok2{i:Nat}{x:Str}{v:V}{u:acB}(I:Inv X pins σ H s)(hN:X.N.Nodup)(hi:X.N[i]?=some x)(hx:Loc X.env.scope x)(r:RelV v u)
  (h:∀s',Inv X pins (σ.set i (some v)) H s'->(∃a,adw a s.heap s'.heap/\(a=X.env.locals\/X.env.cells.lookup x=some a))->Q () s')(hf:X.fn x=true\/X.env.scope.names.lookup x=some .local:=by first |exact .inl rfl |exact .inr rfl |assumption):acG M A (ael X.env x u) Q E s:=by
 obtain⟨m,hn,hl⟩:=id I.loc;have hcls:(X.env.scope.kind == .class || (X.env.scope.kind == .module && X.env.locals !=X.env.globals))=false:=by rw[I.ok.kind];rfl
 have hiσ:i<σ.length:=by rw[I.len];exact (z1b hi).1
 have cne:=I.cne;have tracked:∀{a:acA} {h':acP},(∃o,s.heap.get? a=some o/\H a=none)->adw a s.heap h'->HOk X.prog X.w H h':=λ{a h'} ha hs b ob e=>by
  obtain⟨_,_,hfree⟩:=ha;refine (I.hok b ob e).stay (λc w' hc q=>(hs.2 c ?_).trans q) (λ_ q=>q) (λ_ _ q=>q) λ_ _ _ _ q=>q
  rintro rfl
  rcases hc with rfl |hc
  ·rw[hfree] at e;cases e
  ·rw[hfree] at hc;cases hc
 rcases hx with hk |hk
 ·refine wpAny_storeName_local hk hn (λh' hn' hs=>?_) hcls;obtain⟨oL,_,_,hoL,_⟩:=id hn;refine h _ ⟨I.ok,I.os,I.bare,⟨λb o e n hb hx=>?_,λb o e n hb hx=>?_,I.base.free,λb o e hx=>?_,I.base.tups,I.base.frzs,I.base.tbls⟩,⟨_,hn',λj y v' e1 e2 e3=>?_⟩,λy c e=>?_,I.free,I.freeC,λp hp=>?_,tracked ⟨oL,hoL,I.free⟩ hs,by simpa using I.len⟩ ⟨_,hs,.inl rfl⟩
  ·exact (hs.2 b (ac2 (z0d (z2c e) I.ok.above))).trans (I.base.keep b o e n hb hx)
  ·obtain⟨sl,e1⟩:=I.base.slot b o e n hb hx;exact⟨sl,(hs.2 b (ac2 (z0d (z2c e) I.ok.above))).trans e1⟩
  ·obtain⟨o',e1⟩:=I.base.there b o e hx;exact⟨o',(hs.2 b (ac2 (z0d (z2c e) I.ok.above))).trans e1⟩
  ·by_cases hj:j=i
   ·subst hj;rw[hi] at e1;cases e1;rw[z2a hiσ] at e2;cases e2;exact⟨u,r,.inl ⟨hk,by simp⟩⟩
   ·rw[z1e (acN hj)] at e2;obtain⟨u',r',q⟩:=hl j y v' e1 e2 e3;refine⟨u',r',?_⟩;rcases q with⟨k,e⟩ |⟨k,c,e,z⟩
    ·refine .inl ⟨k,?_⟩;have:y≠x:=λe=>hj (nodup_ix hN e1 (e▸hi));simp[this,e]
    ·exact .inr ⟨k,c,e,z.sameBut hs (cne y c e)⟩
  ·obtain⟨w',z⟩:=I.cell y c e;exact⟨w',z.sameBut hs (cne y c e)⟩
  ·obtain⟨e,n,ne,nf,d⟩:=I.pin p hp;exact⟨(hs.2 p.1 ne).trans e,n,ne,nf,d⟩
 ·have hfn:X.fn x=true:=by
   rcases hf with z |z
   ·exact z
   ·rw[z] at hk;cases hk
  obtain⟨c,hc⟩:=I.ok.has x (.inl hk);obtain⟨w',z⟩:=I.cell x c hc;refine wpAny_storeName_cell I.ok.kind hk hc z (λh' hc' hs=>?_);obtain⟨oc,hoc,hocd⟩:=id z;refine h {s with heap:=h'} ⟨I.ok,I.os,I.bare,⟨λb o e n hb hx=>?_,λb o e n hb hx=>?_,I.base.free,λb o e hx=>?_,I.base.tups,I.base.frzs,I.base.tbls⟩,⟨m,hn.sameBut hs (acN (cne x c hc)),λj y v' e1 e2 e3=>?_⟩,λy c' e=>?_,I.free,I.freeC,λp hp=>?_,tracked ⟨oc,hoc,I.freeC x c hc⟩ hs,by simpa using I.len⟩ ⟨c,hs,.inr hc⟩
  ·exact (hs.2 b (ac2 (z0d (z2c e) (I.ok.cab x c hfn hc)))).trans (I.base.keep b o e n hb hx)
  ·obtain⟨sl,e1⟩:=I.base.slot b o e n hb hx;exact⟨sl,(hs.2 b (ac2 (z0d (z2c e) (I.ok.cab x c hfn hc)))).trans e1⟩
  ·obtain⟨o',e1⟩:=I.base.there b o e hx;exact⟨o',(hs.2 b (ac2 (z0d (z2c e) (I.ok.cab x c hfn hc)))).trans e1⟩
  ·by_cases hj:j=i
   ·subst hj;rw[hi] at e1;cases e1;rw[z2a hiσ] at e2;cases e2;exact⟨u,r,.inr ⟨.inl hk,c,hc,hc'⟩⟩
   ·rw[z1e (acN hj)] at e2;obtain⟨u',r',q⟩:=hl j y v' e1 e2 e3;refine⟨u',r',?_⟩;rcases q with q |⟨k,c',e,z'⟩
    ·exact .inl q
    ·refine .inr ⟨k,c',e,z'.sameBut hs ?_⟩
     rintro rfl
     exact hj (nodup_ix hN e1 (I.ok.inj _ _ _ e hc▸hi))
  ·by_cases hcc:c'=c
   ·subst hcc;exact⟨_,hc'⟩
   ·obtain⟨w2,z2⟩:=I.cell y c' e;exact⟨w2,z2.sameBut hs hcc⟩
  ·obtain⟨e,n,ne,nf,d⟩:=I.pin p hp;refine⟨(hs.2 p.1 ?_).trans e,n,ne,nf,d⟩;intro q;rw[q,hoc] at e;have q':oc=p.2:=acV e;exact d w' (by rw[<-q'];exact hocd)
theorem store_ok{i:Nat}{x:Str}{v:V}{u:acB}(I:Inv X pins σ H s)(hN:X.N.Nodup)(hi:X.N[i]?=some x)(hx:Loc X.env.scope x)(r:RelV v u)
  (h:∀s',Inv X pins (σ.set i (some v)) H s'->Q () s')(hf:X.fn x=true\/X.env.scope.names.lookup x=some .local:=by first |exact .inl rfl |exact .inr rfl |assumption):acG M A (ael X.env x u) Q E s:=
 store_ok2 I hN hi hx r (λs' I' _=>h s' I') hf
theorem Inv.call'{s':acC}(I:Inv X pins σ H s)(ho:s'.os=s.os)(u:Un (frs X.stack) ch H H' s.heap s'.heap)(hok:HOk X.prog X.w H' s'.heap)(hg:ae9 s'.gens)
  (hch:∀b∈ch,(b∈X.ex\/X.s₀.heap.objs.size<=b)/\b≠X.env.locals/\(∀x c,X.env.cells.lookup x=some c->c≠b)/\∀p∈X.pn++pins,p.1≠b):Inv X pins σ H' s':=by
 obtain⟨h',g',d',t',o'⟩:=s';have e:o'=s.os:=ho;subst e;exact I.call (g':=g') (t':=t') (d':=d') u hok hg hch
end
abbrev XK:=acB->Option acA->Hp->Prop
abbrev St:=List (Option V)
abbrev VK:=V->Hp->Prop
abbrev TE:=St->Hp->VK->Prop
abbrev TT:=St->Hp->(Bool->Hp->Prop)->Prop
abbrev TA:=St->Hp->(List V->Hp->Prop)->Prop
structure Ends where
 nx:St->Hp->Prop
 rt:VK
 bk:St->Hp->Prop:=λ_ _=>False
 ct:St->Hp->Prop:=λ_ _=>False
abbrev TS:=Ends->St->Hp->Prop
inductive EP (X:Cx) (pins:List (acA×Obj)) (σ:St) (Q:VK) (u:acB) (s':acC):Prop
 |mk (v:V) (H':Hp) (I:Inv X pins σ H' s') (r:RelV v u) (q:Q v H'):EP X pins σ Q u s'
inductive TP (X:Cx) (pins:List (acA×Obj)) (σ:St) (Q:Bool->Hp->Prop) (b:Bool) (s':acC):Prop
 |mk (H':Hp) (I:Inv X pins σ H' s') (q:Q b H'):TP X pins σ Q b s'
inductive AP (X:Cx) (pins:List (acA×Obj)) (σ:St) (Q:List V->Hp->Prop) (us:List acB) (s':acC):Prop
 |mk (vs:List V) (H':Hp) (I:Inv X pins σ H' s') (r:Vals vs us) (q:Q vs H'):AP X pins σ Q us s'
inductive O7 (X:Cx) (pins:List (acA×Obj)) (D:St->Hp->Prop) (s':acC):Prop
 |mk (σ':St) (H':Hp) (I:Inv X pins σ' H' s') (d:D σ' H'):O7 X pins D s'
inductive SPr (X:Cx) (pins:List (acA×Obj)) (D:V->Hp->Prop) (u:acB) (s':acC):Prop
 |mk (v:V) (σ':St) (H':Hp) (I:Inv X pins σ' H' s') (r:RelV v u) (d:D v H'):SPr X pins D u s'
def SP(X:Cx)(pins:List (acA×Obj))(D:Ends)(f:Flow)(s':acC):Prop:=
 match f with
 | .next=>O7 X pins D.nx s'
 | .brk=>O7 X pins D.bk s'
 | .cont=>O7 X pins D.ct s'
 | .ret u=>SPr X pins D.rt u s'
def PE(X:Cx)(e:acI)(t:TE):Prop:=
 ∀(pins:List (acA×Obj)) (s:acC) (σ:St) (H:Hp) (Q:VK),Inv X pins σ H s->t σ H Q->acG (model X.prog X.w) X.A (eval e X.env) (EP X pins σ Q) X.xe s
def PT(X:Cx)(e:acI)(t:TT):Prop:=
 ∀(pins:List (acA×Obj)) (s:acC) (σ:St) (H:Hp) (Q:Bool->Hp->Prop),Inv X pins σ H s->t σ H Q->acG (model X.prog X.w) X.A (isTrue e X.env (eval e X.env)) (TP X pins σ Q) X.xe s
def PW(X:Cx)(e:acI)(t:TT):Prop:=
 ∀(whole:Sem acB) (pins:List (acA×Obj)) (s:acC) (σ:St) (H:Hp) (Q:Bool->Hp->Prop),Inv X pins σ H s->t σ H Q->acG (model X.prog X.w) X.A (isTrue e X.env whole) (TP X pins σ Q) X.xe s
def PA(X:Cx)(es:List acI)(t:TA):Prop:=
 ∀(pos:Pos) (pins:List (acA×Obj)) (s:acC) (σ:St) (H:Hp) (Q:List V->Hp->Prop),Inv X pins σ H s->t σ H Q->acG (model X.prog X.w) X.A (spliced (adg pos (acE es X.env))) (AP X pins σ Q) X.xe s
def PS(X:Cx)(st:acS)(t:TS):Prop:=
 ∀(pins:List (acA×Obj)) (s:acC) (σ:St) (H:Hp) (D:Ends),Inv X pins σ H s->t D σ H->acG (model X.prog X.w) X.A (exec st X.env) (SP X pins D) X.xe s
def PSs(X:Cx)(st:List acS)(t:TS):Prop:=
 ∀(pins:List (acA×Obj)) (s:acC) (σ:St) (H:Hp) (D:Ends),Inv X pins σ H s->t D σ H->acG (model X.prog X.w) X.A (execs st X.env) (SP X pins D) X.xe s
theorem thn{α:Type}{t:Sem α}{Q Q':α->acC->Prop}(h:acG M A t Q E s)(hQ:∀a s,Q a s->Q' a s):acG M A t Q' E s:=adQ h hQ λ_ _ x=>x
section
variable{X:Cx}
theorem bin{a b:acI}{ta tb:TE}(ha:PE X a ta)(hb:PE X b tb){R:V->V->Hp->Prop}(I:Inv X pins σ H s)(h:ta σ H λx H1=>tb σ H1 λy H2=>R x y H2)
  {α:Type}{Q:α->acC->Prop}{f:acB->acB->Sem α}
  (hf:∀v u s2 x y H2,Inv X pins σ H2 s2->RelV x v->RelV y u->R x y H2->acG (model X.prog X.w) X.A (f v u) Q X.xe s2):
  acG (model X.prog X.w) X.A (eval a X.env) (λv s₁=>acG (model X.prog X.w) X.A (eval b X.env) (λu s₂=>acG (model X.prog X.w) X.A (f v u) Q X.xe s₂) X.xe s₁) X.xe s:=by
 refine thn (ha pins s σ H _ I h) λv s1 bA=>?_;obtain⟨x,H1,I1,r1,q1⟩:=bA;refine thn (hb pins s1 σ H1 _ I1 q1) λu s2 bA=>?_;obtain⟨y,H2,I2,r2,q2⟩:=bA;exact hf v u s2 x y H2 I2 r1 r2 q2
def tVar(i:Nat):TE:=λσ H Q=>∃v,σ[i]?=some (some v)/\Q v H
def tC(v:V):TE:=λ_ H Q=>Q v H
theorem pe_var{i:Nat}{x:Str}{pos:Pos}(hN:X.N[i]?=some x)(hv:Vis X.env.scope x)(hd:(x ==("__debug__" :Str))=false:=by decide)(hcd:(x ==("__classdict__" :Str))=false:=by decide):PE X (.Name x pos) (tVar i):=by
 intro pins s σ H Q I h;obtain⟨v,e,h⟩:=h;obtain⟨m,hn,hl⟩:=I.loc;obtain⟨u,r,l⟩:=hl i x v hN e hv;have fin:EP X pins σ Q u s:=⟨v,H,I,r,h⟩;rcases l with⟨hk,hm⟩ |⟨hk,c,hc,hcell⟩
 ·exact wpAny_Name (wpAny_loadName_local I.ok.kind hk hn hm fin) hd
 ·rcases hk with hk |hk
  ·exact wpAny_Name (wpAny_loadName_cell I.ok.kind hk hc hcell fin) hd
  ·exact wpAny_Name (wpAny_loadName_free I.ok.kind hk hc hcell fin hcd) hd
theorem pe_int{i j pos}:PE X (.Constant (.int i) j pos) (tC (.int i)):=λ_ _ _ H _ I h=>wpAny_Constant_int ⟨.int i,H,I.tok _,⟨_,rfl⟩,h⟩
theorem pe_bl{b j pos}:PE X (.Constant (.bool b) j pos) (tC (.bl b)):=λ_ _ _ H _ I h=>Constant_bool ⟨.bl b,H,I,rfl,h⟩
theorem pe_non{j pos}:PE X (.Constant .none j pos) (tC .non):=λ_ _ _ H _ I h=>Constant_none ⟨.non,H,I,rfl,h⟩
theorem pe_str{x j pos}:PE X (.Constant (.str x) j pos) (tC (.str x)):=λ_ _ _ H _ I h=>ae2 ⟨.str x,H,I.tok _,⟨_,rfl⟩,h⟩
def Gl(X:Cx)(x:Str):Prop:=X.env.kindOf x=some .globalImplicit
theorem ld_glob{x:Str}{u:acB}{pos:Pos}{Q:acB->acC->Prop}(I:Inv X pins σ H s)(hg:Gl X x)(hm:X.mg x=some u)(h:Q u s)
  (hd:(x ==("__debug__" :Str))=false:=by decide):acG (model X.prog X.w) X.A (eval (.Name x pos) X.env) Q E s:=
 agE I.ok.kind hg (Calls.loadGlobal_global (by rw[I.ok.glob];exact I.mod.glob.keeps I.bk) hm h) hd
theorem ld_blt{x:Str}{u:acB}{pos:Pos}{Q:acB->acC->Prop}(I:Inv X pins σ H s)(hg:Gl X x)(hm:X.mg x=none)(hv:aea x=some u)(h:Q u s)
  (hn:x≠"__name__" :=by decide)(hd:(x ==("__debug__" :Str))=false:=by decide):acG (model X.prog X.w) X.A (eval (.Name x pos) X.env) Q E s:=by
 obtain⟨mb,h1,h2⟩:=I.mod.blt;exact agE I.ok.kind hg (Calls.loadGlobal_builtin (by rw[I.ok.glob];exact I.mod.glob.keeps I.bk) hm (by rw[I.ok.blt];exact h1.keeps I.bk) ((h2 x hn).trans hv) h) hd
theorem pe_glob{x:Str}{v:V}{u:acB}{pos:Pos}(hg:Gl X x)(hm:X.mg x=some u)(r:RelV v u)(hd:(x ==("__debug__" :Str))=false:=by decide):PE X (.Name x pos) (tC v):=
 λ_ _ _ H _ I h=>ld_glob I hg hm ⟨v,H,I,r,h⟩ hd
theorem pe_bltn{x:Str}{v:V}{u:acB}{pos:Pos}(hg:Gl X x)(hm:X.mg x=none)(hv:aea x=some u)(r:RelV v u)(hn:x≠"__name__" :=by decide)(hd:(x ==("__debug__" :Str))=false:=by decide):PE X (.Name x pos) (tC v):=
 λ_ _ _ H _ I h=>ld_blt I hg hm hv ⟨v,H,I,r,h⟩ hn hd
variable{a b:acI}{ta tb:TE}{pos:Pos}
def PC(X:Cx)(op:afH)(a b:acI)(t:TE):Prop:=
 ∀(pins:List (acA×Obj)) (s:acC) (σ:St) (H:Hp) (Q:VK),Inv X pins σ H s->t σ H Q->
  acG (model X.prog X.w) X.A (eval a X.env) (λv s₁=>acG (model X.prog X.w) X.A (eval b X.env) (λu s₂=>acG (model X.prog X.w) X.A (ac1 op v u) (EP X pins σ Q) X.xe s₂) X.xe s₁) X.xe s
theorem nobehind(b:acI){op:afH}(h:op≠.In)(h2:op≠.NotIn):aeu op b=false:=by
 have e1:(op ==CmpOp.In)=false:=by cases op <;> first |rfl |exact absurd rfl h
 have e2:(op ==CmpOp.NotIn)=false:=by cases op <;> first |rfl |exact absurd rfl h2
 cases b <;> simp[aeu,e1,e2]
def tB(t:TE):TT:=λσ H Q=>t σ H λx H1=>∃c,x= .bl c/\Q c H1
theorem pt_cmp{op:afH}{t:TE}(h:PC X op a b t)(h1:aeu op b=false:=by first |exact nobehind _ (by decide) (by decide) |rfl):PT X (.Compare a [op] [b] pos) (tB t):=by
 intro pins s σ H Q I hw;refine wpAny_isTrue_Compare1 (thn (h pins s σ H _ I hw) λv s1 h1=>thn h1 λu s2 h2=>thn h2 λc s3 ⟨x,H1,I1,r1,q1⟩=>?_) h1;obtain⟨d,rfl,q⟩:=q1;cases r1;exact adN ⟨H1,I1,q⟩
theorem pt_val{t:TE}(h:PE X e t)(he:∀whole,isTrue e X.env whole=(do let v <-whole;standAt e.pos;holding [v] (truthy v)):=by intro _;rfl):PT X e (tB t):=by
 intro pins s σ H Q I hw;refine isTrue_plain (thn (h pins s σ H _ I hw) λv s1 ⟨x,H1,I1,r1,q1⟩=>?_) (he _);obtain⟨d,rfl,q⟩:=q1;cases r1;exact adN ⟨H1,I1,q⟩
variable{tA tB':TT}{rest:List acI}
def tAnd(t u:TT):TT:=λσ H Q=>t σ H λc H1=>if c=true then u σ H1 Q else Q false H1
def tOr(t u:TT):TT:=λσ H Q=>t σ H λc H1=>if c=true then Q true H1 else u σ H1 Q
def tNot(t:TT):TT:=λσ H Q=>t σ H λc H1=>Q (!c) H1
theorem pw_and1(ha:PT X a tA):PW X (.BoolOp .And [a] pos) tA:=by
 intro wh pins s σ H Q I h;refine isTrue_and (thn (ha pins s σ H Q I h) λc s1 e=>?_);cases c with
 |true=>exact isTrue_and_nil e
 |false=>exact e
theorem pw_or1(ha:PT X a tA):PW X (.BoolOp .Or [a] pos) tA:=by
 intro wh pins s σ H Q I h;refine isTrue_or (thn (ha pins s σ H Q I h) λc s1 e=>?_);cases c with
 |false=>exact isTrue_or_nil e
 |true=>exact e
theorem pw_and(ha:PT X a tA)(hb:PW X (.BoolOp .And (b::rest) pos) tB'):PW X (.BoolOp .And (a::b::rest) pos) (tAnd tA tB'):=by
 intro wh pins s σ H Q I h;refine isTrue_and (thn (ha pins s σ H _ I h) λc s1 bA=>?_);obtain⟨H1,I1,q1⟩:=bA;cases c with
 |true=>exact hb wh pins s1 σ H1 Q I1 q1
 |false=>exact⟨H1,I1,q1⟩
theorem pw_or(ha:PT X a tA)(hb:PW X (.BoolOp .Or (b::rest) pos) tB'):PW X (.BoolOp .Or (a::b::rest) pos) (tOr tA tB'):=by
 intro wh pins s σ H Q I h;refine isTrue_or (thn (ha pins s σ H _ I h) λc s1 bA=>?_);obtain⟨H1,I1,q1⟩:=bA;cases c with
 |true=>exact⟨H1,I1,q1⟩
 |false=>exact hb wh pins s1 σ H1 Q I1 q1
theorem pt_not(ha:PT X a tA):PT X (.UnaryOp .Not a pos) (tNot tA):=by
 intro pins s σ H Q I h;refine isTrue_not (thn (ha pins s σ H (λc H1=>Q (!c) H1) I h) λc s1 hz=>?_);obtain⟨H1,I1,q1⟩:=hz;exact⟨H1,I1,q1⟩
def tAndV(ta tb:TE):TE:=λσ H Q=>ta σ H λx H1=>∃c,x= .bl c/\if c=true then tb σ H1 Q else Q (.bl false) H1
def tNotV(ta:TE):TE:=λσ H Q=>ta σ H λx H1=>∃c,x= .bl c/\Q (.bl (!c)) H1
theorem pe_one{op}{t:TE}(h:PE X a t):PE X (.BoolOp op [a] pos) t:=λpins s σ H Q I hw=>BoolOp_one (h pins s σ H Q I hw)
theorem pe_and(ha:PE X a ta)(hb:PE X (.BoolOp .And (b::rest) pos) tb):PE X (.BoolOp .And (a::b::rest) pos) (tAndV ta tb):=by
 intro pins s σ H Q I h;refine BoolOp_and (thn (ha pins s σ H _ I h) λv s1 bA=>?_);obtain⟨x,H1,I1,r1,q1⟩:=bA;obtain⟨c,rfl,q1⟩:=q1;cases r1;refine adN ?_;cases c with
 |true=>exact hb pins s1 σ H1 Q I1 q1
 |false=>exact⟨.bl false,H1,I1,rfl,q1⟩
theorem pe_not(ha:PE X a ta):PE X (.UnaryOp .Not a pos) (tNotV ta):=by
 intro pins s σ H Q I h;refine UnaryOp_ (thn (ha pins s σ H _ I h) λv s1 bA=>?_);obtain⟨x,H1,I1,r1,q1⟩:=bA;obtain⟨c,rfl,q1⟩:=q1;cases r1;exact not_of (adN ⟨.bl (!c),H1,I1,rfl,q1⟩)
def tIf(t:TT)(ta tb:TE):TE:=λσ H Q=>t σ H λc H1=>if c=true then ta σ H1 Q else tb σ H1 Q
theorem pe_ifExp{c:acI}(hc:PT X c tA)(ha:PE X a ta)(hb:PE X b tb):PE X (.IfExp c a b pos) (tIf tA ta tb):=by
 intro pins s σ H Q I h;refine wpAny_IfExp (thn (hc pins s σ H _ I h) λd s1 bA=>?_);obtain⟨H1,I1,q1⟩:=bA;cases d with
 |true=>exact ha pins s1 σ H1 Q I1 q1
 |false=>exact hb pins s1 σ H1 Q I1 q1
end
def SqL(K:PySem.W.Frag)(H:Hp)(a:acA)(xs:List V):Prop:=
 Rd H a (.lst xs)\/
  ∃(o:Obj) (its:Array acB) (n:Nat),K.lookup a=some o/\o.cls= .type "list"/\o.dict=none/\o.data= .seq its n/\its.size<=sizeLine/\Vals xs its.toList
def SqT(K:PySem.W.Frag)(H:Hp)(a:acA)(xs:List V):Prop:=
 Rd H a (.tup xs)\/
  ∃(o:Obj) (its:Array acB) (n:Nat),K.lookup a=some o/\o.cls= .type "tuple"/\o.dict=none/\o.data= .seq its n/\its.size<=sizeLine/\Vals xs its.toList
def absV:acB->Option V
 | .none=>some .non
 | .bool b=>some (.bl b)
 | .int i _=>some (.int i)
 | .str x _=>some (.str x)
 | .bytes b _=>some (.byt b)
 | .float b _=>some (.flt b)
 | .ref a=>some (.ref a)
 | .type n=>some (.ty n)
 |_=>none
theorem RelV.abs{x:V}{u:acB}(r:RelV x u):absV u=some x:=by
 cases x with
 |non=>cases r;rfl
 |bl _=>cases r;rfl
 |int _=>obtain⟨t,rfl⟩:=r;rfl
 |str _=>obtain⟨t,rfl⟩:=r;rfl
 |byt _=>obtain⟨t,rfl⟩:=r;rfl
 |flt _=>obtain⟨t,rfl⟩:=r;rfl
 |ref _=>cases r;rfl
 |ty _=>cases r;rfl
theorem RelV.inj{x y:V}{u:acB}(r:RelV x u)(q:RelV y u):x=y:=acV (r.abs.symm.trans q.abs)
theorem Vals.inj:∀{xs ys:List V} {us:List acB},Vals xs us->Vals ys us->xs=ys
 :=by
 intro xs ys us h
 induction h generalizing ys with
 |nil=>intro q;cases q;rfl
 |cons r t ih=>intro q;cases q with |cons r' t'=>rw[r.inj r',ih t']
section
variable{X:Cx}{pins:List (acA×Obj)}{σ:St}{H:Hp}{s:acC}{a:acA}{xs ys:List V}
theorem SqL.of(h:H a=some (.lst xs)):SqL K H a xs:= .inl (.inl h)
theorem SqT.of(h:H a=some (.tup xs)):SqT K H a xs:= .inl (.inl h)
theorem Inv.list(I:Inv X pins σ H s)(h:SqL X.K H a xs):∃its:List acB,Vals xs its/\PlainL s.heap a its.toArray/\xs.length<=sizeLine:=by
 rcases h with h |⟨o,its,n,hk,hc,hd,hs,hz,r⟩
 ·obtain⟨z,its,n,r,e⟩:=h.ok I.hok;exact⟨its,r,⟨_,n,e,rfl,rfl,rfl⟩,z⟩
 ·refine⟨its.toList,r,⟨o,n,I.kIn a o hk,hc,hd,by simpa using hs⟩,?_⟩;have e:=r.length;simp only[adY] at e;omega
theorem Inv.tuple(I:Inv X pins σ H s)(h:SqT X.K H a xs):∃its:List acB,Vals xs its/\IsTup s.heap a its.toArray/\xs.length<=sizeLine:=by
 rcases h with h |⟨o,its,n,hk,hc,_,hs,hz,r⟩
 ·obtain⟨z,its,r,p⟩:=h.ok I.hok;exact⟨its,r,p.tup,z⟩
 ·refine⟨its.toList,r,⟨o,I.kIn a o hk,hc,n,by simpa using hs⟩,?_⟩;have e:=r.length;simp only[adY] at e;omega
theorem Inv.list_inj(I:Inv X pins σ H s)(h:SqL X.K H a xs)(h':SqL X.K H a ys):xs=ys:=by
 obtain⟨its,r,⟨o,n,e,_,_,d⟩,_⟩:=I.list h;obtain⟨its',r',⟨o',n',e',_,_,d'⟩,_⟩:=I.list h';rw[e] at e';cases e';rw[d] at d';injection d' with d1 _;have:its=its':=by simpa using congrArg Array.toList d1
 subst this;exact r.inj r'
theorem Inv.tuple_inj(I:Inv X pins σ H s)(h:SqT X.K H a xs)(h':SqT X.K H a ys):xs=ys:=by
 obtain⟨its,r,⟨o,e,_,n,d⟩,_⟩:=I.tuple h;obtain⟨its',r',⟨o',e',_,n',d'⟩,_⟩:=I.tuple h';rw[e] at e';cases e';rw[d] at d';injection d' with d1 _;have:its=its':=by simpa using congrArg Array.toList d1
 subst this;exact r.inj r'
end
abbrev Cx.wish(X:Cx)(E:acB->acC->Prop):Cx:={X with xe:=E}
abbrev Cx.nox(X:Cx):Cx:=X.wish λ_ _=>False
theorem Cx.Ok.wish{X:Cx}(ok:X.Ok)(E:acB->acC->Prop):(X.wish E).Ok:=
 ⟨ok.mod,ok.kind,ok.glob,ok.blt,ok.above,ok.inj,ok.has,ok.cab,ok.hd,ok.frames,ok.stk,ok.exf,ok.bs,ok.bsz,ok.noex,ok.exfs,ok.funs,ok.frf⟩
theorem Cx.Ok.unwish{X:Cx}(ok:(X.wish E).Ok):X.Ok:=
 ⟨ok.mod,ok.kind,ok.glob,ok.blt,ok.above,ok.inj,ok.has,ok.cab,ok.hd,ok.frames,ok.stk,ok.exf,ok.bs,ok.bsz,ok.noex,ok.exfs,ok.funs,ok.frf⟩
section
variable{X:Cx}{pins:List (acA×Obj)}{σ:St}{H:Hp}{s:acC}{E:acB->acC->Prop}
theorem Inv.wish(I:Inv X pins σ H s)(E:acB->acC->Prop):Inv (X.wish E) pins σ H s:=⟨I.ok.wish E,I.os,I.bare,I.base,I.loc,I.cell,I.free,I.freeC,I.pin,I.hok,I.len⟩
theorem Inv.unwish(I:Inv (X.wish E) pins σ H s):Inv X pins σ H s:=⟨I.ok.unwish,I.os,I.bare,I.base,I.loc,I.cell,I.free,I.freeC,I.pin,I.hok,I.len⟩
theorem SP.unwish{D:Ends}{f:Flow}{s':acC}(h:SP (X.wish E) pins D f s'):SP X pins D f s':=by
 cases f with
 |next=>obtain⟨σ',H',I,q⟩:=h;exact⟨σ',H',I.unwish,q⟩
 |brk=>obtain⟨σ',H',I,q⟩:=h;exact⟨σ',H',I.unwish,q⟩
 |cont=>obtain⟨σ',H',I,q⟩:=h;exact⟨σ',H',I.unwish,q⟩
 |ret u=>obtain⟨v,σ',H',I,r,q⟩:=h;exact⟨v,σ',H',I.unwish,r,q⟩
theorem PSs.nox{st:List acS}{t:TS}(h:PSs X.nox st t):PSs X st t:=λpins s σ H D I hw=>
 adQ (h pins s σ H D (I.wish _) hw) (λ_ _ q=>q.unwish) λ_ _ z=>ac5 z
end
section
variable{X:Cx}{st:acS}{rest:List acS}{t u:TS}{e:acI}{te:TE}{pos:Pos}
def tNext:TS:=λD σ H=>D.nx σ H
def tSeq(t u:TS):TS:=λD σ H=>t {D with nx:=u D} σ H
theorem pss_nil:PSs X [] tNext:=λ_ _ σ H _ I h=>agd ⟨σ,H,I,h⟩
theorem pss_cons(h1:PS X st t)(h2:PSs X rest u):PSs X (st::rest) (tSeq t u):=by
 intro pins s σ H D I h;refine af2 (thn (h1 pins s σ H {D with nx:=u D} I h) λf s1 q=>?_);cases f with
 | next=>
  obtain⟨σ',H',I',q⟩:=q;exact h2 pins s1 σ' H' D I' q
 |ret v=>exact q
 |brk=>exact q
 |cont=>exact q
theorem pss_one(h1:PS X st t):PSs X [st] t:=by
 intro pins s σ H D I h;refine af2 (thn (h1 pins s σ H D I h) λf s1 q=>?_);cases f with
 |next=>exact agd q
 |ret v=>exact q
 |brk=>exact q
 |cont=>exact q
theorem Inv.quiet(I:Inv X pins σ H s):interactive X.env=false:=by simp[interactive,I.ok.kind]
def tDrop(te:TE):TS:=λD σ H=>te σ H λ_ H1=>D.nx σ H1
theorem ps_expr(he:PE X e te)(hs:afC e none pos.line X.env=pure false:=by rfl):PS X (.Expr e pos) (tDrop te):=by
 intro pins s σ H D I h;exact wpAny_Expr_any (thn (he pins s σ H _ I h) λv s1 ⟨x,H1,I1,r1,q1⟩=>⟨σ,H1,I1,q1⟩) I.quiet hs
def tRet(te:TE):TS:=λD σ H=>te σ H D.rt
theorem ps_ret(he:PE X e te):PS X (.Return (some e) pos) (tRet te):=by
 intro pins s σ H D I h;exact wpAny_Return_some (thn (he pins s σ H _ I h) λv s1 ⟨x,H1,I1,r1,q1⟩=>⟨x,σ,H1,I1,r1,q1⟩)
def tIfS(c:TT)(t u:TS):TS:=λD σ H=>c σ H λb H1=>if b=true then t D σ H1 else u D σ H1
theorem ps_if{c:acI}{a b:List acS}{tc:TT}(hc:PT X c tc)(ha:PSs X a t)(hb:PSs X b u):PS X (.If c a b pos) (tIfS tc t u):=by
 intro pins s σ H D I h;refine wpAny_If (thn (hc pins s σ H _ I h) λd s1 bA=>?_);obtain⟨H1,I1,q1⟩:=bA;cases d with
 |true=>exact ha pins s1 σ H1 D I1 q1
 |false=>exact hb pins s1 σ H1 D I1 q1
end
abbrev TG:=V->St->Hp->(St->Hp->Prop)->Prop
abbrev TGs:=List V->St->Hp->(St->Hp->Prop)->Prop
def PG(X:Cx)(target:acI)(t:TG):Prop:=
 ∀(pins:List (acA×Obj)) (s:acC) (σ:St) (H:Hp) (v:V) (u:acB) (Q:St->Hp->Prop),Inv X pins σ H s->RelV v u->t v σ H Q->
  acG (model X.prog X.w) X.A (assign target X.env u) (λ_ s'=>O7 X pins Q s') X.xe s
def PGs(X:Cx)(ts:List acI)(t:TGs):Prop:=
 ∀(pins:List (acA×Obj)) (s:acC) (σ:St) (H:Hp) (vs:List V) (us:List acB) (Q:St->Hp->Prop),Inv X pins σ H s->Vals vs us->t vs σ H Q->
  acG (model X.prog X.w) X.A (afW ((aeL ts X.env).map (·.2)) us) (λ_ s'=>O7 X pins Q s') X.xe s
abbrev TIp:=V->V->Hp->VK->Prop
def PIp(X:Cx)(op:Operator)(t:TIp):Prop:=
 ∀(pins:List (acA×Obj)) (s:acC) (σ:St) (H:Hp) (x y:V) (v u:acB) (Q:VK),Inv X pins σ H s->RelV x v->RelV y u->t x y H Q->
  acG (model X.prog X.w) X.A (inplaceOp op v u) (EP X pins σ Q) X.xe s
section
variable{X:Cx}{pos:Pos}
def gName(i:Nat):TG:=λv σ H Q=>Q (σ.set i (some v)) H
theorem pg_name{i:Nat}{x:Str}(hN:X.N.Nodup)(hi:X.N[i]?=some x)(hx:Loc X.env.scope x)(hf:X.fn x=true\/X.env.scope.names.lookup x=some .local:=by first |exact .inl rfl |exact .inr rfl |assumption):PG X (.Name x pos) (gName i):=by
 intro pins s σ H v u Q I r h;exact wpAny_assign_Name (store_ok I hN hi hx r (λs' I'=>⟨_,H,I',h⟩) hf)
def gNil:TGs:=λvs σ H Q=>vs=[]/\Q σ H
def gCons(t:TG)(u:TGs):TGs:=λvs σ H Q=>∃v r,vs=v::r/\t v σ H λσ' H'=>u r σ' H' Q
theorem pgs_nil:PGs X [] gNil:=by
 intro pins s σ H vs us Q I r h;obtain⟨e,h⟩:=h;subst e;cases r;exact agP ⟨σ,H,I,h⟩
theorem pgs_cons{es:List acI}{t:TG}{u:TGs}(h1:PG X e t)(h2:PGs X es u)
  (hs:(aeL (e::es) X.env).map (·.2)=assign e X.env::(aeL es X.env).map (·.2):=by rfl):PGs X (e::es) (gCons t u):=by
 intro pins s σ H vs us Q I r h;obtain⟨v,vr,e1,h⟩:=h;subst e1;cases r with
 | cons r rr=>
  rw[hs];refine aeA (thn (h1 pins s σ H _ _ _ I r h) λ_ s1 bA=>?_);obtain⟨σ1,H1,I1,q1⟩:=bA;exact h2 pins s1 σ1 H1 _ _ Q I1 rr q1
def gTup(K:PySem.W.Frag)(n:Nat)(t:TGs):TG:=λv σ H Q=>∃a xs,v= .ref a/\SqT K H a xs/\xs.length=n/\t xs σ H Q
theorem pg_tup{es:List acI}{t:TGs}{n:Nat}(hc:X.calm=true)(h:PGs X es t)
  (hn:(aeL es X.env).length=n:=by rfl)(hst:(aeL es X.env).findIdx? (·.1)=none:=by rfl):PG X (.Tuple es k pos) (gTup X.K n t):=by
 intro pins s σ H v u Q I r hw;obtain⟨a,xs,e1,hq,hl,hw⟩:=hw;subst e1;cases r;obtain⟨its,rv,ht,hz⟩:=I.tuple hq;refine assign_Tuple_tuple (I.ok.hd hc) ht (by simp[hn,<-hl,rv.length]) hst λh' hx=>?_;have I1:Inv X pins σ H {s with heap:=h'}:=I.kept (t':=s.toks) λb o e=>hx b o (ac2 (z2c e)) e;exact h pins _ σ H xs _ Q I1 (by simpa using rv) hw
def tAsg(te:TE)(g:TG):TS:=λD σ H=>te σ H λx H1=>g x σ H1 D.nx
theorem ps_asg{te:TE}{g:TG}(he:PE X e te)(hg:PG X tg g)(hs:aeH [tg] e pos.line X.env=pure false:=by rfl)(hw:aeI [tg] e X.env=pure none:=by rfl)
  (h1:(aeL [tg] X.env).map (·.2)=[assign tg X.env]:=by rfl):PS X (.Assign [tg] e pos) (tAsg te g):=by
 intro pins s σ H D I h;refine wpAny_Assign_stores (thn (he pins s σ H _ I h) λv s1 ⟨x,H1,I1,r1,q1⟩=>?_) hs hw;rw[h1];exact thn (hg pins s1 σ H1 x v _ I1 r1 q1) λ_ s2 q=>q
theorem ps_set{i:Nat}{x:Str}{te:TE}{pos':Pos}(hN:X.N.Nodup)(hi:X.N[i]?=some x)(hx:Loc X.env.scope x)(he:PE X e te)(hs:afC e (some (.Name x pos')) pos.line X.env=pure false:=by rfl)(hf:X.fn x=true\/X.env.scope.names.lookup x=some .local:=by first |exact .inl rfl |exact .inr rfl |assumption):
  PS X (.Assign [.Name x pos'] e pos) (tAsg te (gName i)):=by
 intro pins s σ H D I h;refine wpAny_Assign_Name (thn (he pins s σ H _ I h) λv s1 ⟨y,H1,I1,r1,q1⟩=>?_) hs;exact store_ok I1 hN hi hx r1 (λs2 I2=>⟨_,H1,I2,q1⟩) hf
def tPar(i j:Nat)(ta:TA):TS:=λD σ H=>ta σ H λvs H1=>∃v w,vs=[v,w]/\D.nx ((σ.set i (some v)).set j (some w)) H1
theorem ps_par{i j:Nat}{x y:Str}{a b:acI}{ta:TA}{px py pt:Pos}{kt k2 pt2}(hc:X.calm=true)(hN:X.N.Nodup)(hi:X.N[i]?=some x)(hj:X.N[j]?=some y)(hij:i≠j)
  (hx:X.env.scope.names.lookup x=some .local)(hy:X.env.scope.names.lookup y=some .local)(ha:PA X [a,b] ta)
  (hw:aeI [.Tuple [.Name x px,.Name y py] kt pt] (.Tuple [a,b] k2 pt2) X.env=pure (some [x,y]))
  (hs:aeH [.Tuple [.Name x px,.Name y py] kt pt] (.Tuple [a,b] k2 pt2) pos.line X.env=pure false:=by rfl):
  PS X (.Assign [.Tuple [.Name x px,.Name y py] kt pt] (.Tuple [a,b] k2 pt2) pos) (tPar i j ta):=by
 intro pins s σ H D I h;rw[exec_Assign_arm];refine acz (agF ?_);rw[hs];refine acz (acF ?_);rw[if_neg (by decide)];refine acz (Tuple_ (thn (ha _ pins s σ H _ I h) λus s1 bA=>?_));obtain⟨vs,H1,I1,r1,q1⟩:=bA;obtain⟨v,w,e1,q1⟩:=q1;subst e1;obtain⟨u1,u2,rfl,rv,rw'⟩:∃u1 u2,us=[u1,u2]/\RelV v u1/\RelV w u2:=by
  cases r1 with
  | cons p q=>
   cases q with
   | cons p' q'=>
    cases q';exact⟨_,_,rfl,p,p'⟩
 refine adt ?_ (by show 2<=sizeLine;decide);have I2:Inv X pins σ H1 {s1 with heap:=s1.heap.push {cls:= .type "tuple",data:= .seq [u1,u2].toArray}}:=I1.kept (t':=s1.toks) λb o e=>z1a _ e;rw[hw];refine acz (acF ?_);show acG (model X.prog X.w) X.A (do rule "assign.swapped-stores";let items <-unpackItems (.ref s1.heap.objs.size) 2 none;afW [λv=>afe X.env y v,λv=>afe X.env x v] items.reverse;pure Flow.next) _ _ _;refine acz (aej (acz (unpackItems_tuple (items:= #[u1,u2]) (I.ok.hd hc) (IsTup.new s1.heap _) λh' hx'=>?_)));have I3:=I2.kept (h':=h') (t':=s1.toks) λb o e=>hx' b o (ac2 (z2c e)) e;show acG _ _ (afW [λv=>afe X.env y v,λv=>afe X.env x v] [u2,u1] >>=λ_=>pure Flow.next) _ _ _;refine acz (aeA (afI (store_ok I3 hN hj (.inl hy) rw' (λs2 I4=>?_) (.inr hy))));refine aeA (afI (store_ok I4 hN hi (.inl hx) rv (λs3 I5=>agP (acF ?_)) (.inr hx)));rw[afn _ _ (acN hij)] at I5;exact⟨_,H1,I5,q1⟩
def tAug(i:Nat)(te:TE)(ti:TIp):TS:=λD σ H=>∃x,σ[i]?=some (some x)/\te σ H λy H1=>ti x y H1 λz H2=>D.nx (σ.set i (some z)) H2
theorem ps_aug{i:Nat}{x:Str}{te:TE}{op:Operator}{ti:TIp}{pos':Pos}(hN:X.N.Nodup)(hi:X.N[i]?=some x)(hx:Loc X.env.scope x)(he:PE X e te)(ho:PIp X op ti)(hf:X.fn x=true\/X.env.scope.names.lookup x=some .local:=by first |exact .inl rfl |exact .inr rfl |assumption):
  PS X (.AugAssign (.Name x pos') op e pos) (tAug i te ti):=by
 intro pins s σ H D I h;obtain⟨v,e1,h⟩:=h;obtain⟨m,hn,hl⟩:=I.loc;have vis:Vis X.env.scope x:=by rcases hx with k |k;exact .inl k;exact .inr (.inl k)
 obtain⟨u,r,l⟩:=hl i x v hi e1 vis;refine wpAny_AugAssign_Name ?_;have go:acG (model X.prog X.w) X.A (eval e X.env) (λw s₂=>acG (model X.prog X.w) X.A (inplaceOp op u w) (λr s₃=>acG (model X.prog X.w) X.A (ael X.env x r) (λ_=>SP X pins D .next) X.xe s₃) X.xe s₂) X.xe s:=by
  refine thn (he pins s σ H _ I h) λw s1 bA=>?_;obtain⟨y,H1,I1,r1,q1⟩:=bA;refine thn (ho pins s1 σ H1 v y u w _ I1 r r1 q1) λz s2 bA=>?_;obtain⟨zv,H2,I2,r2,q2⟩:=bA;exact store_ok I2 hN hi hx r2 (λs3 I3=>⟨_,H2,I3,q2⟩) hf
 rcases l with⟨hk,hm⟩ |⟨hk,c,hc,hcell⟩
 ·exact wpAny_loadName_local I.ok.kind hk hn hm go
 ·rcases hk with hk |hk
  ·exact wpAny_loadName_cell I.ok.kind hk hc hcell go
  ·rcases hx with k |k
   ·have:X.env.scope.names.lookup x=some .free:=hk;rw[k] at this;cases this
   ·have:X.env.scope.names.lookup x=some .free:=hk;rw[k] at this;cases this
def ipI(f:Int->Int->Int):TIp:=λx y H Q=>∃i j,x= .int i/\y= .int j/\Q (.int (f i j)) H
theorem ip_add:PIp X .Add (ipI λi j=>i+j):=by
 intro pins s σ H x y v u Q I r1 r2 h;obtain⟨i,j,e1,e2,q⟩:=h;subst e1;subst e2;obtain⟨t,rfl⟩:=r1;obtain⟨t',rfl⟩:=r2;exact iadd_int ⟨.int _,H,I.tok _,⟨_,rfl⟩,q⟩
end
section
variable{X:Cx}{pos:Pos}
def tWhile(c:TT)(tb:TS):TS:=λD σ H=>∃W:Nat->St->Hp->Prop,(∃m,W m σ H)/\∀m σ H,W m σ H->
 c σ H λb H1=>if b=true then ∃N:St->Hp->Prop,(∀σ' H',N σ' H'->∃m',m'<m/\W m' σ' H')/\tb {D with nx:=N,ct:=N,bk:=D.nx} σ H1 else D.nx σ H1
theorem ps_while{c:acI}{tc:TT}{tb:TS}(hp:PassesOwn (model X.prog X.w) X.A X.env X.xe)(hc:PT X c tc)(hb:PSs X body tb):PS X (.While c body [] pos) (tWhile tc tb):=by
 intro pins s σ H D I h;obtain⟨W,⟨m0,w0⟩,turn⟩:=h;refine wpAny_While (codeAny_whileLoop (λn s'=>∃σ' H',Inv X pins σ' H' s'/\W n σ' H') ?_ m0 ⟨σ,H,I,w0⟩)
 rintro n s1 ⟨σ1,H1,I1,w1⟩
 refine aeC hp (thn (hc pins s1 σ1 H1 _ I1 (turn n σ1 H1 w1)) λb s2 bA=>?_);obtain⟨H2,I2,q2⟩:=bA;cases b with
 | true=>
  obtain⟨N,hN,q2⟩:=q2;rw[if_pos rfl];refine aeC hp (thn (hb pins s2 σ1 H2 _ I2 q2) λf s3 q3=>?_);cases f with
  | next=>
   obtain⟨σ3,H3,I3,n3⟩:=q3;obtain⟨m',hm,w3⟩:=hN σ3 H3 n3;exact⟨m',hm,σ3,H3,I3,w3⟩
  | cont=>
   obtain⟨σ3,H3,I3,n3⟩:=q3;obtain⟨m',hm,w3⟩:=hN σ3 H3 n3;exact⟨m',hm,σ3,H3,I3,w3⟩
  |brk=>exact q3
  |ret v=>exact q3
 | false=>
  rw[if_neg acY];exact agd ⟨σ1,H2,I2,q2⟩
end
structure It where
 go:Nat->Hp->Prop
 yld:Nat->Hp->V->Hp->Prop
 stop:Nat->Hp->Prop
def FpOk(X:Cx)(pins:List (acA×Obj))(H:Hp)(b:acA):Prop:=
 H b=none/\b≠X.env.locals/\b∉X.fs/\(b∈X.ex\/X.s₀.heap.objs.size<=b)/\(∀x c,X.env.cells.lookup x=some c->c≠b)/\∀p∈X.pn++pins,p.1≠b
theorem Inv.fpOk{X:Cx}{H':Hp}{b:acA}(I:Inv X pins σ H s)(hb:s.heap.objs.size<=b)(hn:H' b=none):FpOk X pins H' b:=by
 refine⟨hn,ag8 (z0d I.lt hb),I.nofs hb,.inr (z0b I.sz hb),λx c e z=>?_,λp hp z=>?_⟩
 ·obtain⟨v,q⟩:=I.cell x c e;exact absurd (z0d q.lt (by rw[z];exact hb)) (adH _)
 ·exact absurd (z0d (z2c (I.pin p hp).1) (by rw[z];exact hb)) (adH _)
inductive XC (X:Cx) (pins:List (acA×Obj)) (σ:St) (H:Hp) (J:It) (tn:Nat->acP->Prop) (fp:List acA) (i:Nat) (u:acB) (s2:acC):Prop
 |mk (x:V) (H':Hp) (I:Inv X pins σ H' s2) (r:RelV x u) (y:J.yld i H x H') (st:tn (i+1) s2.heap) (f:∀b∈fp,H' b=none):XC X pins σ H J tn fp i u s2
structure Turn(P:acL)(w:acQ)(K:PySem.W.Frag)(tg:acI)(J:It)(fp:List acA)(it:acA)(tn:Nat->acP->Prop):Prop where
 mem:it∈fp
 obj:∀i h,tn i h->∀b∈fp,∃o,h.get? b=some o/\∀v,o.data≠.cell v
 keep:∀i h h',tn i h->(∀b∈fp,∀o,h.get? b=some o->h'.get? b=some o)->tn i h'
 item:∀(X:Cx),X.prog=P->X.w=w->X.K=K->X.calm=true->∀(i:Nat) (pins:List (acA×Obj)) (s:acC) (σ:St) (H:Hp) (E:acB->acC->Prop),Inv X pins σ H s->(∀b∈fp,FpOk X pins H b)->tn i s.heap->J.go i H->
  acG (model P w) X.A (pyNext (.ref it)) (λr s1=>∃u,r=some u/\
   acG (model P w) X.A (letOwnedTupleGo tg (.ref it) u) (λ_ s2=>XC X pins σ H J tn fp i u s2) E s1) E s
 done:∀(X:Cx),X.prog=P->X.w=w->X.K=K->X.calm=true->∀(i:Nat) (pins:List (acA×Obj)) (s:acC) (σ:St) (H:Hp) (E:acB->acC->Prop),Inv X pins σ H s->(∀b∈fp,FpOk X pins H b)->tn i s.heap->J.stop i H->
  acG (model P w) X.A (pyNext (.ref it)) (λr s1=>r=none/\Inv X pins σ H s1) E s
 self:∀(A:acO) (i:Nat) (s:acC) (Q:acB->acC->Prop) (E:acB->acC->Prop),tn i s.heap->Q (.ref it) s->acG (model P w) A (pyIter (.ref it)) Q E s
abbrev TI:=St->Hp->(It->Hp->Prop)->Prop
inductive PIE (X:Cx) (pins:List (acA×Obj)) (σ:St) (tg:acI) (R:It->Hp->Prop) (itv:acB) (s2:acC):Prop
 |mk (it:acA) (fp:List acA) (tn:Nat->acP->Prop) (J:It) (H':Hp) (e:itv= .ref it) (I:Inv X pins σ H' s2) (T:Turn X.prog X.w X.K tg J fp it tn) (st:tn 0 s2.heap) (f:∀b∈fp,FpOk X pins H' b) (r:R J H'):PIE X pins σ tg R itv s2
def PI(X:Cx)(tg iter:acI)(wi:TI):Prop:=
 ∀(pins:List (acA×Obj)) (s:acC) (σ:St) (H:Hp) (R:It->Hp->Prop),Inv X pins σ H s->wi σ H R->
  acG (model X.prog X.w) X.A (eval iter X.env) (λv s1=>acG (model X.prog X.w) X.A (pyIter v) (PIE X pins σ tg R) X.xe s1) X.xe s
theorem go_of{it:acA}{u:acB}{o:Obj}{n:String}{vs:Array acB}(ho:s.heap.get? it=some o)(hc:o.cls= .type n)(hd:o.data= .fields vs)
  (hn:["enumerate","zip","dict_itemiterator","dict_reverseitemiterator","odict_iterator","itertools.zip_longest","itertools.pairwise"].contains n=false)(hQ:Q () s):acG M A (letOwnedTupleGo tg (.ref it) u) Q E s:=by
 unfold letOwnedTupleGo;cases tg <;> first
  |exact acF hQ
  | (cases u <;> first
    |exact acF hQ
    | (refine acz (wpAny_load ho ?_)
       rw[hc,hd];show acG M A (if (["enumerate","zip","dict_itemiterator","dict_reverseitemiterator","odict_iterator","itertools.zip_longest","itertools.pairwise"].contains n && vs[0]? ==some (ado _))=true then _ else _) Q E s;rw[if_neg (by intro h;rw[hn,Bool.false_and] at h;cases h)];exact acF hQ))
def Itl(K:PySem.W.Frag)(a:acA):It:=
 ⟨λi H=>∃xs x,SqL K H a xs/\xs[i]?=some x,λi H x H'=>H'=H/\∀xs,SqL K H a xs->xs[i]?=some x,λi H=>∃xs,SqL K H a xs/\xs.length<=i⟩
def Itt(K:PySem.W.Frag)(a:acA):It:=
 ⟨λi H=>∃xs x,SqT K H a xs/\xs[i]?=some x,λi H x H'=>H'=H/\∀xs,SqT K H a xs->xs[i]?=some x,λi H=>∃xs,SqT K H a xs/\xs.length<=i⟩
def Itr(lo:Int)(n:Nat):It:=⟨λi _=>i<n,λi H x H'=>H'=H/\x= .int (lo+i),λi _=>n<=i⟩
theorem turn_list(a it:acA):Turn P w K tg (Itl K a) [it] it (λi h=>h.IsListIter it a i) where
 mem:=by simp
 obj:=λi h st b hb=>by
  have e:b=it:=by simpa using hb
  subst e;obtain⟨o,e,c,d⟩:=st;exact⟨o,e,λv z=>by rw[d] at z;cases z⟩
 keep:=λi h h' st k=>st.at λo e=>k it (by simp) o e
 item:=by
  intro X hP hw hK hc i pins s σ H E I hf st hg;subst hP hw hK;obtain⟨xs,x,hq,hx⟩:=hg;obtain⟨its,rv,p,hz⟩:=I.list hq;obtain⟨u,hu,ru⟩:=rv.get hx;obtain⟨f0,f1,f2,f3,f4,f5⟩:=hf it (by simp);refine afR st p.isList (x:=u) (by simpa using hu) λh' st' sb=>?_;have I1:Inv X pins σ H {s with heap:=h'}:=I.turned (t':=s.toks) (λb o hb e=>(sb.2 b hb).trans e) f0 f1 f3 f4 f5;obtain⟨o,e,c,d⟩:=id st';exact⟨u,rfl,go_of (s:={s with heap:=h'}) e c d (by decide) ⟨x,H,I1,ru,⟨rfl,λys hy=>by rw[I.list_inj hy hq];exact hx⟩,st',λb hb=>(hf b hb).1⟩⟩
 done:=by
  intro X hP hw hK hc i pins s σ H E I hf st hg;subst hP hw hK;obtain⟨xs,hq,hx⟩:=hg;obtain⟨its,rv,p,hz⟩:=I.list hq;obtain⟨f0,f1,f2,f3,f4,f5⟩:=hf it (by simp);have hl:=rv.length;exact wpAny_pyNext_list_end (I.ok.hd hc) st p.isList (by simp;omega) λh' eb=>⟨rfl,I.turned (t':=s.toks) (λb o hb e=>eb b o hb e) f0 f1 f3 f4 f5⟩
 self:=λ_ _ _ _ _ st h=>wpAny_pyIter_listiter st h
theorem turn_tuple(a it:acA):Turn P w K tg (Itt K a) [it] it (λi h=>h.IsTupleIter it a i) where
 mem:=by simp
 obj:=λi h st b hb=>by
  have e:b=it:=by simpa using hb
  subst e;obtain⟨o,e,c,d⟩:=st;exact⟨o,e,λv z=>by rw[d] at z;cases z⟩
 keep:=λi h h' st k=>st.at λo e=>k it (by simp) o e
 item:=by
  intro X hP hw hK hc i pins s σ H E I hf st hg;subst hP hw hK;obtain⟨xs,x,hq,hx⟩:=hg;obtain⟨its,rv,p,hz⟩:=I.tuple hq;obtain⟨u,hu,ru⟩:=rv.get hx;obtain⟨f0,f1,f2,f3,f4,f5⟩:=hf it (by simp);refine wpAny_pyNext_tuple_item st (show s.heap.IsTuple a its.toArray from p) (x:=u) (by simpa using hu) λh' st' sb=>?_;have I1:Inv X pins σ H {s with heap:=h'}:=I.turned (t':=s.toks) (λb o hb e=>(sb.2 b hb).trans e) f0 f1 f3 f4 f5;obtain⟨o,e,c,d⟩:=id st';exact⟨u,rfl,go_of (s:={s with heap:=h'}) e c d (by decide) ⟨x,H,I1,ru,⟨rfl,λys hy=>by rw[I.tuple_inj hy hq];exact hx⟩,st',λb hb=>(hf b hb).1⟩⟩
 done:=by
  intro X hP hw hK hc i pins s σ H E I hf st hg;subst hP hw hK;obtain⟨xs,hq,hx⟩:=hg;obtain⟨its,rv,p,hz⟩:=I.tuple hq;obtain⟨f0,f1,f2,f3,f4,f5⟩:=hf it (by simp);have hl:=rv.length;exact wpAny_pyNext_tuple_end (I.ok.hd hc) st (show s.heap.IsTuple a its.toArray from p) (by simp;omega) λh' eb=>⟨rfl,I.turned (t':=s.toks) (λb o hb e=>eb b o hb e) f0 f1 f3 f4 f5⟩
 self:=λ_ _ _ _ _ st h=>wpAny_pyIter_tupleiter st h
theorem turn_range(it:acA)(lo:Int)(n:Nat):Turn P w K tg (Itr lo n) [it] it (λi h=>agt h it (lo+(i:Nat)*1) ((n:Int) - (i:Nat)) 1) where
 mem:=by simp
 obj :=λi h st b hb=>by
  have e:b=it:=by simpa using hb
  subst e;exact⟨_,st,λv z=>by
   have z':agu _=af8 v:=z;cases z'⟩
 keep:=λi h h' st k=>k it (by simp) _ st
 item:=by
  intro X hP hw hK hc i pins s σ H E I hf st hg;subst hP hw hK;obtain⟨f0,f1,f2,f3,f4,f5⟩:=hf it (by simp);have W:=Walks.range (prog:=X.prog) (w:=X.w) (I.ok.hd hc) it lo 1 n;refine W.item i s _ _ hg st λv h' tk hv st' kk=>?_;obtain⟨t,rfl⟩:=hv;have I1:Inv X pins σ H {s with heap:=h',toks:=tk}:=I.turned (λb o hb e=>kk b o (by simpa using hb) e) f0 f1 f3 f4 f5;refine⟨_,rfl,go_of (s:={s with heap:=h',toks:=tk}) (n:= "range_iterator") st' rfl rfl (by decide) ⟨.int (lo+i),H,I1,⟨t,?_⟩,⟨rfl,rfl⟩,st',λb hb=>(hf b hb).1⟩⟩;rw[Int.mul_one]
 done:=by
  intro X hP hw hK hc i pins s σ H E I hf st hg;subst hP hw hK;obtain⟨f0,f1,f2,f3,f4,f5⟩:=hf it (by simp);exact wpAny_pyNext_range_end (I.ok.hd hc) st (by have:n<=i:=hg;omega) λh' eb=>⟨rfl,I.turned (t':=s.toks) (λb o hb e=>eb b o hb e) f0 f1 f3 f4 f5⟩
 self:=λ_ _ _ _ _ st h=>afS st h
section
variable{X:Cx}{tg:acI}
theorem range_it{R:It->Hp->Prop}{lo hi:Int}{t u v:Tok}{tk:Nat}(I:Inv X pins σ H s)(h1: -(2^62)<=lo)(h2:lo<2^62)(h3: -(2^62)<=hi)(h4:hi<2^62)
  (q:R (Itr lo (hi - lo).toNat) H):acG (model X.prog X.w) X.A (pyIter (.ref s.heap.objs.size)) (PIE X pins σ tg R) E {s with heap:=s.heap.push {cls:= .type "range",data:= .fields #[.int lo t,.int hi u,.int 1 v]},toks:=tk}:=by
 refine wpAny_pyIter_range (IsRange.new ..) (small_one h1 h2 h3 h4) ?_;have I1:Inv X pins σ H {s with heap:=s.heap.push {cls:= .type "range",data:= .fields #[.int lo t,.int hi u,.int 1 v]},toks:=tk}:=I.kept λb o e=>z1a _ e;refine⟨(s.heap.push {cls:= .type "range",data:= .fields #[.int lo t,.int hi u,.int 1 v]}).objs.size,[(s.heap.push {cls:= .type "range",data:= .fields #[.int lo t,.int hi u,.int 1 v]}).objs.size],_,_,H,rfl,
  I1.kept (t':=tk) λb o e=>z1a _ e,turn_range _ lo (hi - lo).toNat,?_,λb hb=>?_,q⟩
 ·have e1:lo+((0:Nat):Int)*1=lo:=by simp
  have e2:(((hi - lo).toNat:Nat):Int) - ((0:Nat):Int)=afM lo hi 1:=by rw[rangeSize_one];split <;> omega
  show agt _ _ (lo+((0:Nat):Int)*1) ((((hi - lo).toNat:Nat):Int) - ((0:Nat):Int)) 1;rw[e1,e2];exact z1f _ rfl
 ·have e:b=(s.heap.push {cls:= .type "range",data:= .fields #[.int lo t,.int hi u,.int 1 v]}).objs.size:=by simpa using hb
  subst e;exact I1.fpOk (z0g _) (I1.hok.fresh (z0g _))
def iRng1(ta:TA):TI:=λσ H R=>ta σ H λvs H1=>∃j:Int,vs=[.int j]/\-(2^62)<=j/\j<2^62/\R (Itr 0 j.toNat) H1
def iRng2(ta:TA):TI:=λσ H R=>ta σ H λvs H1=>∃i j:Int,vs=[.int i,.int j]/\(-(2^62)<=i/\i<2^62/\-(2^62)<=j/\j<2^62)/\R (Itr i (j - i).toNat) H1
theorem pi_range1{a:acI}{ta:TA}{p pos:Pos}(hg:Gl X "range")(hm:X.mg "range" =none)(ha:PA X [a] ta)(hs:acE [a] X.env=[(false,eval a X.env)]:=by rfl):PI X tg (.Call (.Name "range" p) [a] [] pos) (iRng1 ta):=by
 intro pins s σ H R I h;refine Call_ (ld_blt I hg hm boot_range (adn (thn (ha pos pins s σ H _ I h) λus s1 ⟨vs,H1,I1,r1,q1⟩=>?_) hs rfl));obtain⟨j,e,q1,q2,q⟩:=q1;subst e;cases r1 with
 | cons r rr=>
  cases rr;obtain⟨t,rfl⟩:=r;exact call_range_1 (range_it I1 (by omega) (by omega) q1 q2 (by simpa using q))
theorem pi_range2{a b:acI}{ta:TA}{p pos:Pos}(hg:Gl X "range")(hm:X.mg "range" =none)(ha:PA X [a,b] ta)(hs:acE [a,b] X.env=[(false,eval a X.env),(false,eval b X.env)]:=by rfl)(hs2:acE [b] X.env=[(false,eval b X.env)]:=by rfl):
  PI X tg (.Call (.Name "range" p) [a,b] [] pos) (iRng2 ta):=by
 intro pins s σ H R I h;refine Call_ (ld_blt I hg hm boot_range (adn (thn (ha pos pins s σ H _ I h) λus s1 ⟨vs,H1,I1,r1,q1⟩=>?_) (by rw[hs,hs2]) (by rw[hs2];rfl)));obtain⟨i,j,e,⟨q1,q2,q3,q4⟩,q⟩:=q1;subst e;cases r1 with
 | cons r rr=>
  cases rr with
  | cons r' rr=>
   cases rr;obtain⟨t,rfl⟩:=r;obtain⟨t',rfl⟩:=r';exact call_range_2 (range_it I1 q1 q2 q3 q4 q)
def tFor(wi:TI)(g:TG)(tb:TS):TS:=λD σ H=>wi σ H λJ H1=>∃W:Nat->Nat->St->Hp->Prop,(∃m,W 0 m σ H1)/\∀i m σ H,W i m σ H->
 (J.stop i H/\D.nx σ H)\/(J.go i H/\∃N:St->Hp->Prop,(∀σ' H',N σ' H'->∃m',m'<m/\W (i+1) m' σ' H')/\∀x H',J.yld i H x H'->g x σ H' λσ2 H2=>tb {D with nx:=N,ct:=N,bk:=D.nx} σ2 H2)
def pinsAt(fp:List acA)(h:acP):List (acA×Obj):=fp.filterMap λb=>(h.get? b).map λo=>(b,o)
theorem mem_pinsAt{fp:List acA}{b:acA}{o:Obj}(hb:b∈fp)(e:h.get? b=some o):(b,o)∈pinsAt fp h:=List.mem_filterMap.mpr ⟨b,hb,by rw[e];rfl⟩
theorem of_pinsAt{fp:List acA}{p:acA×Obj}(hp:p∈pinsAt fp h):p.1∈fp/\h.get? p.1=some p.2:=by
 obtain⟨b,hb,e⟩:=List.mem_filterMap.mp hp;cases q:h.get? b with
 |none=>rw[q] at e;cases e
 | some o=>
  rw[q] at e;have e':(b,o)=p:=acV e;subst e';exact⟨hb,q⟩
theorem Inv.pinned{fp:List acA}(I:Inv X pins σ H s)(hf:∀b∈fp,FpOk X pins H b)(ho:∀b∈fp,∃o,s.heap.get? b=some o/\∀v,o.data≠.cell v):Inv X (pins++pinsAt fp s.heap) σ H s:=
 I.pins_of λp hp=>(ad2.mp hp).elim (λz=>I.pin p (adC _ z)) λz=>by
  obtain⟨hb,e⟩:=of_pinsAt z;obtain⟨f0,f1,f2,_⟩:=hf p.1 hb;obtain⟨o,e',d⟩:=ho p.1 hb;rw[e] at e';cases e';exact⟨e,f0,f1,f2,d⟩
theorem Inv.unpinned{pl:List (acA×Obj)}(I:Inv X (pins++pl) σ H s):Inv X pins σ H s:=I.pins_of λp hp=>I.pin p (adC _ (List.mem_append_left _ hp))
inductive V8 (X:Cx) (pins:List (acA×Obj)) (tn:Nat->acP->Prop) (fp:List acA) (W:Nat->Nat->St->Hp->Prop) (n:Nat) (s':acC):Prop
 |mk (i:Nat) (σ':St) (H':Hp) (I:Inv X pins σ' H' s') (st:tn i s'.heap) (fr:∀b∈fp,H' b=none) (w:W i n σ' H'):V8 X pins tn fp W n s'
theorem ps_for{iter:acI}{wi:TI}{g:TG}{tb:TS}{pos:Pos}(hp:PassesOwn (model X.prog X.w) X.A X.env X.xe)(hc:X.calm=true)(hi:PI X tg iter wi)(hg:PG X tg g)(hb:PSs X body tb)
  (hs:∀x,afN iter X.env x=pure x:=by intro _;rfl):PS X (.For tg iter body [] pos) (tFor wi g tb):=by
 intro pins s σ H D I h;refine wpAny_For (thn (hi pins s σ H _ I h) λv s1 h1=>thn h1 λitv s2 h2=>?_) hs;obtain⟨it,fp,tn,J,H2,e,I2,T,st2,f2,W,⟨m0,w0⟩,turn⟩:=h2;subst e;have stat:∀{H':Hp},(∀b∈fp,H' b=none)->∀b∈fp,FpOk X pins H' b:=λhn b hb=>⟨hn b hb,(f2 b hb).2⟩;refine codeAny_forLoop_any (λn s'=>V8 X pins tn fp W n s') ?_ m0 ⟨0,σ,H2,I2,st2,λb hb=>(f2 b hb).1,w0⟩
 rintro n s3 ⟨i,σ3,H3,I3,st3,fr3,w3⟩
 rcases turn i n σ3 H3 w3 with⟨stop,qn⟩ |⟨go,N,hN,step⟩
 ·refine aeC hp (thn (T.done X rfl rfl rfl hc i pins s3 σ3 H3 X.xe I3 (stat fr3) st3 stop) λr s4 bA=>?_);obtain⟨hr,I4⟩:=bA;subst hr;exact agd ⟨σ3,H3,I4,qn⟩
 ·refine aeC hp (thn (T.item X rfl rfl rfl hc i pins s3 σ3 H3 X.xe I3 (stat fr3) st3 go) λr s4 bA=>?_);obtain⟨u,hr,h4⟩:=bA;subst hr;refine aeC hp (thn h4 λ_ s5 bA=>?_);obtain⟨x,H5,I5,r5,y5,st5,fr5⟩:=bA;have I5':=I5.pinned (stat fr5) (T.obj _ _ st5);refine aeC hp (thn (hg _ s5 σ3 H5 x u _ I5' r5 (step x H5 y5)) λ_ s6 bA=>?_);obtain⟨σ6,H6,I6,q6⟩:=bA;refine aeC hp (thn (hb _ s6 σ6 H6 _ I6 q6) λf s7 q7=>?_);have again:∀{σ7:St} {H7:Hp},Inv X (pins++pinsAt fp s5.heap) σ7 H7 s7->N σ7 H7->∃m,m<n/\V8 X pins tn fp W m s7:=λ{σ7 H7} I7 n7=>by
   obtain⟨m',hm,w7⟩:=hN σ7 H7 n7;refine⟨m',hm,i+1,σ7,H7,I7.unpinned,T.keep _ _ _ st5 λb hb o e=>(I7.pin (b,o) (adC _ (adC _ (mem_pinsAt hb e)))).1,λb hb=>?_,w7⟩;obtain⟨o,e,d⟩:=T.obj _ _ st5 b hb;exact (I7.pin (b,o) (adC _ (adC _ (mem_pinsAt hb e)))).2.1
  cases f with
  |next=>obtain⟨σ7,H7,I7,n7⟩:=q7;exact again I7 n7
  |cont=>obtain⟨σ7,H7,I7,n7⟩:=q7;exact again I7 n7
  |brk=>obtain⟨σ7,H7,I7,q7⟩:=q7;exact⟨σ7,H7,I7.unpinned,q7⟩
  |ret v=>obtain⟨x7,σ7,H7,I7,r7,q7⟩:=q7;exact⟨x7,σ7,H7,I7.unpinned,r7,q7⟩
end
abbrev R2:=V->V->Hp->VK->Prop
def OpR(X:Cx)(f:acB->acB->Sem acB)(r:R2):Prop:=
 ∀(pins:List (acA×Obj)) (s:acC) (σ:St) (H:Hp) (x y:V) (v u:acB) (Q:VK),Inv X pins σ H s->RelV x v->RelV y u->r x y H Q->
  acG (model X.prog X.w) X.A (f v u) (EP X pins σ Q) X.xe s
def UnR(X:Cx)(f:acB->Sem acB)(r:V->Hp->VK->Prop):Prop:=
 ∀(pins:List (acA×Obj)) (s:acC) (σ:St) (H:Hp) (x:V) (v:acB) (Q:VK),Inv X pins σ H s->RelV x v->r x H Q->
  acG (model X.prog X.w) X.A (f v) (EP X pins σ Q) X.xe s
def CallR(X:Cx)(f:acB)(r:List V->Hp->VK->Prop):Prop:=
 ∀(pins:List (acA×Obj)) (s:acC) (σ:St) (H:Hp) (xs:List V) (us:List acB) (Q:VK),Inv X pins σ H s->Vals xs us->r xs H Q->
  acG (model X.prog X.w) X.A (call f us) (EP X pins σ Q) X.xe s
def TruR(X:Cx)(r:V->Hp->(Bool->Hp->Prop)->Prop):Prop:=
 ∀(pins:List (acA×Obj)) (s:acC) (σ:St) (H:Hp) (x:V) (v:acB) (Q:Bool->Hp->Prop),Inv X pins σ H s->RelV x v->r x H Q->
  acG (model X.prog X.w) X.A (truthy v) (TP X pins σ Q) X.xe s
def tOp(r:R2)(ta tb:TE):TE:=λσ H Q=>ta σ H λx H1=>tb σ H1 λy H2=>r x y H2 Q
def tUn(r:V->Hp->VK->Prop)(ta:TE):TE:=λσ H Q=>ta σ H λx H1=>r x H1 Q
def rI(C:Int->Int->Prop)(g:Int->Int->V):R2:=λx y H Q=>∃i j,x= .int i/\y= .int j/\C i j/\Q (g i j) H
def rI0(g:Int->Int->V):R2:=λx y H Q=>∃i j,x= .int i/\y= .int j/\Q (g i j) H
def rU(g:Int->V):V->Hp->VK->Prop:=λx H Q=>∃i,x= .int i/\Q (g i) H
section
variable{X:Cx}{a b c:acI}{ta tb tc:TE}{pos:Pos}
theorem binT(ha:PE X a ta)(hb:PE X b tb){R:V->V->Hp->Prop}(I:Inv X pins σ H s)
  (h:ta σ H λx H1=>tb σ H1 λy H2=>R x y H2){Q:acB->acC->Prop}
  (hf:∀v u s2 x y H2,Inv X pins σ H2 s2->RelV x v->RelV y u->R x y H2->acG (model X.prog X.w) X.A (f v u) Q X.xe s2):
  acG (model X.prog X.w) X.A (eval a X.env) (λv s₁=>acG (model X.prog X.w) X.A (eval b X.env) (λu s₂=>acG (model X.prog X.w) X.A (f v u) Q X.xe s₂) X.xe s₁) X.xe s:=by
 refine thn (ha pins s σ H _ I h) λv s1 bA=>?_;obtain⟨x,H1,I1,r1,q1⟩:=bA;refine thn (hb pins s1 σ H1 _ I1 q1) λu s2 bA=>?_;obtain⟨y,H2,I2,r2,q2⟩:=bA;exact hf v u s2 x y H2 I2 r1 r2 q2
theorem pe_op{op:Operator}(ho:OpR X (adu op) r)(ha:PE X a ta)(hb:PE X b tb):PE X (.BinOp a op b pos) (tOp r ta tb):=by
 intro pins s σ H Q I h;exact wpAny_BinOp (binT ha hb I h λv u s2 x y H2 I2 rx ry q=>ho pins s2 σ H2 x y v u Q I2 rx ry q)
theorem pe_un{op:UnaryOp}{r:V->Hp->VK->Prop}(ho:UnR X (unaryOp op) r)(ha:PE X a ta):PE X (.UnaryOp op a pos) (tUn r ta):=by
 intro pins s σ H Q I h;exact UnaryOp_ (thn (ha pins s σ H _ I h) λv s1 ⟨x,H1,I1,r1,q1⟩=>ho pins s1 σ H1 x v Q I1 r1 q1)
theorem opI{C:Int->Int->Prop}{g:Int->Int->Int}
  (rule:∀(i j:Int) (t u:Tok) (s:acC) (Q:acB->acC->Prop) (E:acB->acC->Prop),C i j->Q (.int (g i j) s.toks) {s with toks:=s.toks+1}->acG (model X.prog X.w) X.A (f (.int i t) (.int j u)) Q E s):
  OpR X f (rI C λi j=> .int (g i j)):=by
 intro pins s σ H x y v u Q I rx ry h;obtain⟨i,j,rfl,rfl,hc,q⟩:=h;obtain⟨t,rfl⟩:=rx;obtain⟨t',rfl⟩:=ry;exact rule i j t t' s _ _ hc ⟨.int (g i j),H,I.tok _,⟨_,rfl⟩,q⟩
theorem opI0{g:Int->Int->Int}
  (rule:∀(i j:Int) (t u:Tok) (s:acC) (Q:acB->acC->Prop) (E:acB->acC->Prop),Q (.int (g i j) s.toks) {s with toks:=s.toks+1}->acG (model X.prog X.w) X.A (f (.int i t) (.int j u)) Q E s):
  OpR X f (rI0 λi j=> .int (g i j)):=by
 intro pins s σ H x y v u Q I rx ry h;obtain⟨i,j,rfl,rfl,q⟩:=h;obtain⟨t,rfl⟩:=rx;obtain⟨t',rfl⟩:=ry;exact rule i j t t' s _ _ ⟨.int (g i j),H,I.tok _,⟨_,rfl⟩,q⟩
theorem opB0{g:Int->Int->Bool}
  (rule:∀(i j:Int) (t u:Tok) (s:acC) (Q:acB->acC->Prop) (E:acB->acC->Prop),Q (.bool (g i j)) s->acG (model X.prog X.w) X.A (f (.int i t) (.int j u)) Q E s):
  OpR X f (rI0 λi j=> .bl (g i j)):=by
 intro pins s σ H x y v u Q I rx ry h;obtain⟨i,j,rfl,rfl,q⟩:=h;obtain⟨t,rfl⟩:=rx;obtain⟨t',rfl⟩:=ry;exact rule i j t t' s _ _ ⟨.bl (g i j),H,I,rfl,q⟩
def CPow(i j:Int):Prop:=0<=j/\j<=1000000/\i.natAbs<2^64
def CMul(i j:Int):Prop:=(-(2^64)<i/\i<2^64)\/(-(2^64)<j/\j<2^64)
theorem CMul.ok{i j:Int}(h:CMul i j):IntMulOk i j:=by
 rcases h with⟨h1,h2⟩ |⟨h1,h2⟩
 ·exact .of_left (intBits_le_64 h1 h2)
 ·exact .of_right (intBits_le_64 h1 h2)
theorem op_add:OpR X (adu .Add) (rI0 λi j=> .int (i+j)):=opI0 λ_ _ _ _ _ _ _ q=>add_int q
theorem op_sub:OpR X (adu .Sub) (rI0 λi j=> .int (i - j)):=opI0 λ_ _ _ _ _ _ _ q=>sub_int q
theorem op_mul:OpR X (adu .Mult) (rI CMul λi j=> .int (i*j)):=opI λ_ _ _ _ _ _ _ hc q=>mul_int q hc.ok
theorem op_mod:OpR X (adu .Mod) (rI (λ_ j=>0<j) λi j=> .int (i % j)):=opI λi j _ _ _ _ _ hc q=>by
 have h1:(0:Int)<j:=hc;exact mod_int' (by omega) (by rw[Int.fmod_eq_emod_of_nonneg i (by omega)];exact q)
theorem op_pow:OpR X (adu .Pow) (rI CPow λi j=> .int (i^j.toNat)):=opI λ_ _ _ _ _ _ _ hc q=>pow_int_small hc.1 hc.2.1 hc.2.2 q
theorem unI{f:acB->Sem acB}{g:Int->Int}
  (rule:∀(i:Int) (t:Tok) (s:acC) (Q:acB->acC->Prop) (E:acB->acC->Prop),Q (.int (g i) s.toks) {s with toks:=s.toks+1}->acG (model X.prog X.w) X.A (f (.int i t)) Q E s):
  UnR X f (rU λi=> .int (g i)):=by
 intro pins s σ H x v Q I rx h;obtain⟨i,rfl,q⟩:=h;obtain⟨t,rfl⟩:=rx;exact rule i t s _ _ ⟨.int (g i),H,I.tok _,⟨_,rfl⟩,q⟩
theorem un_neg:UnR X (unaryOp .USub) (rU λi=> .int (-i)):=unI λ_ _ _ _ _ q=>neg_int q
end
section
variable{X:Cx}{a b c:acI}{ta tb tc:TE}{pos:Pos}
theorem fin_bl{Q:VK}{k k':Bool}(I:Inv X pins σ H s)(q:Q (.bl k) H)(e:k=k'):EP X pins σ Q (.bool k') s:=by
 subst e;exact⟨.bl k,H,I,rfl,q⟩
theorem op_lt:OpR X (ac1 .Lt) (rI0 λi j=> .bl (decide (i<j))):=opB0 λ_ _ _ _ _ _ _ q=>lt_int q
theorem op_le:OpR X (ac1 .LtE) (rI0 λi j=> .bl (decide (i<=j))):=opB0 λ_ _ _ _ _ _ _ q=>le_int q
theorem op_gt:OpR X (ac1 .Gt) (rI0 λi j=> .bl (decide (j<i))):=opB0 λ_ _ _ _ _ _ _ q=>gt_int q
theorem op_ge:OpR X (ac1 .GtE) (rI0 λi j=> .bl (decide (j<=i))):=opB0 λ_ _ _ _ _ _ _ q=>ge_int q
theorem op_isN:OpR X (ac1 .Is) (λx y H Q=>y= .non/\Q (.bl (decide (x= .non))) H):=by
 intro pins s σ H x y v u Q I rx ry h;obtain⟨rfl,q⟩:=h;cases ry;refine is_none_gen (fin_bl I q ?_);cases x <;> first
  |(cases rx;rfl)
  |(obtain⟨t,rfl⟩:=rx;rfl)
theorem OpR.or{r':R2}(h:OpR X f r)(h':OpR X f r'):OpR X f (λx y H Q=>r x y H Q\/r' x y H Q):=by
 intro pins s σ H x y v u Q I rx ry q;rcases q with q |q
 ·exact h pins s σ H x y v u Q I rx ry q
 ·exact h' pins s σ H x y v u Q I rx ry q
theorem nomark(b:acI){op:afH}(h:op≠.In:=by decide)(h2:op≠.NotIn:=by decide):aeu op b=false:=by
 have e1:(op ==CmpOp.In)=false:=by cases op <;> first |rfl |exact absurd rfl h
 have e2:(op ==CmpOp.NotIn)=false:=by cases op <;> first |rfl |exact absurd rfl h2
 cases b <;> simp[aeu,e1,e2]
theorem pe_cmpR{op:afH}(ho:OpR X (ac1 op) r)(ha:PE X a ta)(hb:PE X b tb)(hm:aeu op b=false):PE X (.Compare a [op] [b] pos) (tOp r ta tb):=by
 intro pins s σ H Q I h;exact wpAny_Compare1 (binT ha hb I h λv u s2 x y H2 I2 rx ry q=>ho pins s2 σ H2 x y v u Q I2 rx ry q) hm
def tTest(t:TE):TT:=λσ H Q=>t σ H λx H'=>∃k,x= .bl k/\Q k H'
theorem pt_cmpR{op:afH}(ho:OpR X (ac1 op) r)(ha:PE X a ta)(hb:PE X b tb)(hm:aeu op b=false):PT X (.Compare a [op] [b] pos) (tTest (tOp r ta tb)):=by
 intro pins s σ H Q I h;refine wpAny_isTrue_Compare1 (thn (ha pins s σ H _ I h) λv s1 ⟨x,H1,I1,r1,q1⟩=>thn (hb pins s1 σ H1 _ I1 q1) λu s2 ⟨y,H2,I2,r2,q2⟩=>
  thn (ho pins s2 σ H2 x y v u _ I2 r1 r2 q2) λc s3 ⟨z,H3,I3,r3,k,e,q3⟩=>?_) hm
 subst e;cases r3;exact adN ⟨H3,I3,q3⟩
def tChain(r r':R2)(ta tb tc:TE):TE:=λσ H Q=>ta σ H λx H1=>tb σ H1 λy H2=>r x y H2 λz H3=>∃k,z= .bl k/\
 (if k=true then tc σ H3 λw' H4=>r' y w' H4 Q else Q (.bl false) H3)
theorem pe_chain{op op':afH}{r':R2}(ho:OpR X (ac1 op) r)(ho':OpR X (ac1 op') r')(ha:PE X a ta)(hb:PE X b tb)(hc:PE X c tc)
  (hm:lastMarks [op,op'] [b,c]=false:=by with_unfolding_all rfl):PE X (.Compare a [op,op'] [b,c] pos) (tChain r r' ta tb tc):=by
 intro pins s σ H Q I h;refine Compare_chain (thn (ha pins s σ H _ I h) λv s1 ⟨x,H1,I1,r1,q1⟩=>chain_link (thn (hb pins s1 σ H1 _ I1 q1) λu s2 ⟨y,H2,I2,r2,q2⟩=>
  thn (ho pins s2 σ H2 x y v u _ I2 r1 r2 q2) λd s3 ⟨z,H3,I3,r3,k,e,q3⟩=>?_)) hm
 subst e;cases r3;refine adN ?_;cases k with
 |false=>exact ite_ff ⟨.bl false,H3,I3,rfl,q3⟩
 |true=>exact ite_tt (chain_last (thn (hc pins s3 σ H3 _ I3 q3) λw' s4 ⟨z',H4,I4,r4,q4⟩=>ho' pins s4 σ H4 y z' u w' Q I4 r2 r4 q4))
theorem pt_chain{op op':afH}{r':R2}(ho:OpR X (ac1 op) r)(ho':OpR X (ac1 op') r')(ha:PE X a ta)(hb:PE X b tb)(hc:PE X c tc)
  (hm:lastMarks [op,op'] [b,c]=false:=by with_unfolding_all rfl):PT X (.Compare a [op,op'] [b,c] pos) (tTest (tChain r r' ta tb tc)):=by
 intro pins s σ H Q I h;refine isTrue_chain (thn (ha pins s σ H _ I h) λv s1 ⟨x,H1,I1,r1,q1⟩=>test_link (thn (hb pins s1 σ H1 _ I1 q1) λu s2 ⟨y,H2,I2,r2,q2⟩=>
  thn (ho pins s2 σ H2 x y v u _ I2 r1 r2 q2) λd s3 ⟨z,H3,I3,r3,k,e,q3⟩=>?_)) hm
 subst e;cases r3;refine adN ?_;cases k with
 | false=>
  obtain⟨k',e',q'⟩:=q3;cases e';exact ite_ff ⟨H3,I3,q'⟩
 | true=>
  refine ite_tt (test_last (thn (hc pins s3 σ H3 _ I3 q3) λw' s4 ⟨z',H4,I4,r4,q4⟩=>thn (ho' pins s4 σ H4 y z' u w' _ I4 r2 r4 q4) λd' s5 bA=>?_));obtain⟨z2,H5,I5,r5,k2,e2,q5⟩:=bA;subst e2;cases r5;exact adN ⟨H5,I5,q5⟩
def TruV(K:PySem.W.Frag)(x:V)(H:Hp)(k:Bool):Prop:=
 match x with
 | .non=>k=false
 | .bl b=>k=b
 | .int i=>k=(i !=0)
 | .str y=>y.length<=sizeLine/\k=((y.length:Int) !=0)
 | .byt y=>y.size<=sizeLine/\k=((y.size:Int) !=0)
 | .ref p=>(∃xs,SqL K H p xs/\k= !xs.isEmpty)\/(∃xs,SqT K H p xs/\k= !xs.isEmpty)\/∃kvs,H p=some (.dK kvs)/\k= !kvs.isEmpty
 |_=>False
theorem isEmpty_kv{κ:Type}{kvs:List (κ×V)}{vs:List (κ×acB)}(r:KV kvs vs):(!vs.isEmpty)= !kvs.isEmpty:=by
 cases r <;> rfl
theorem isEmpty_of{xs:List V}{its:List acB}(r:Vals xs its):(!its.toArray.isEmpty)= !xs.isEmpty:=by
 cases r <;> simp
theorem line63:(sizeLine:Nat)<2^63:=by rw[adv];decide
theorem tru_ok:TruR X (λx H Q=>∃k,TruV X.K x H k/\Q k H):=by
 intro pins s σ H x v Q I rx h;obtain⟨k,e,q⟩:=h;have hl:=line63;have hs:sizeLine=16777216:=adv;cases x with
 | non=>
  cases rx;have e':k=false:=e;subst e';exact truthy_none ⟨H,I,q⟩
 | bl b=>
  cases rx;have e':k=b:=e;subst e';exact adN ⟨H,I,q⟩
 | int i=>
  obtain⟨t,rfl⟩:=rx;have e':k=(i !=0):=e;subst e';exact PySem.P.truthy_int ⟨H,I,q⟩
 | str y=>
  obtain⟨t,rfl⟩:=rx;obtain⟨hy,e'⟩:y.length<=sizeLine/\k=((y.length:Int) !=0):=e;subst e';exact PySem.P.truthy_str (by omega) ⟨H,I.tok _,q⟩
 | byt y=>
  obtain⟨t,rfl⟩:=rx;obtain⟨hy,e'⟩:y.size<=sizeLine/\k=((y.size:Int) !=0):=e;subst e';exact PySem.W.truthy_bytes (by omega) ⟨H,I.tok _,q⟩
 | ref p=>
  cases rx;have e':(∃xs,SqL X.K H p xs/\k= !xs.isEmpty)\/(∃xs,SqT X.K H p xs/\k= !xs.isEmpty)\/∃kvs,H p=some (.dK kvs)/\k= !kvs.isEmpty:=e;rcases e' with⟨xs,hx,e'⟩ |⟨xs,hx,e'⟩ |⟨kvs,hx,e'⟩
  ·subst e';obtain⟨its,r,pl,hz⟩:=I.list hx;have hlen:=r.length;exact wpAny_truthy_list pl.isList (by simp only[z1c];omega) ⟨H,I.tok _,by rw[isEmpty_of r];exact q⟩
  ·subst e';obtain⟨its,r,pl,hz⟩:=I.tuple hx;have hlen:=r.length;exact truthy_tuple pl (by simp only[z1c];omega) ⟨H,I.tok _,by rw[isEmpty_of r];exact q⟩
  ·subst e';obtain⟨hz,hS,vs,r,m⟩:kvs.length<=sizeLine/\(p ==sysModules)=false/\∃vs,KV kvs vs/\s.heap.DictOf (mixKind X.prog X.w) p vs:=I.hok p _ hx;have hlen:kvs.length=vs.length:=Paired.length r;exact wpAny_truthy_dict hS m (by omega) ⟨H,I.tok _,by rw[isEmpty_kv r];exact q⟩
 |_=>exact (show False from e).elim
theorem pt_truth(ha:PE X a ta)(he:∀whole,isTrue a X.env whole=(do let v <-whole;standAt a.pos;holding [v] (truthy v))):
  PT X a (λσ H Q=>ta σ H λx H'=>∃k,TruV X.K x H' k/\Q k H'):=by
 intro pins s σ H Q I h;exact isTrue_plain (thn (ha pins s σ H _ I h) λv s1 ⟨x,H1,I1,r1,q1⟩=>tru_ok pins s1 σ H1 x v Q I1 r1 q1) (he _)
theorem vals1{x:V}(r:Vals [x] us):∃u,us=[u]/\RelV x u:=by
 cases r with
 |cons r1 r2=>cases r2;exact⟨_,rfl,r1⟩
theorem vals2{x y:V}(r:Vals [x,y] us):∃u w',us=[u,w']/\RelV x u/\RelV y w':=by
 cases r with
 | cons r1 r2=>
  cases r2 with
  |cons r3 r4=>cases r4;exact⟨_,_,rfl,r1,r3⟩
theorem call_abs:CallR X (.builtin "abs") (λxs H Q=>∃i,xs=[.int i]/\Q (.int (if i<0 then -i else i)) H):=by
 intro pins s σ H xs us Q I r h;obtain⟨i,rfl,q⟩:=h;obtain⟨u,rfl,t,rfl⟩:=vals1 r;exact call_abs_int λu tk=>⟨.int (if i<0 then -i else i),H,I.tok _,⟨_,rfl⟩,q⟩
theorem call_max2(hc:X.calm=true):CallR X (.builtin "max") (λxs H Q=>∃i j,xs=[.int i,.int j]/\Q (.int (if j > i then j else i)) H):=by
 intro pins s σ H xs us Q I r h;obtain⟨i,j,rfl,q⟩:=h;obtain⟨u,w',rfl,⟨t,rfl⟩,⟨t',rfl⟩⟩:=vals2 r;refine max_two_ints (I.ok.hd hc) λh' tk k=>⟨_,H,I.kept k,?_,q⟩;by_cases hj:j > i
 ·rw[if_pos hj,if_pos hj];exact⟨_,rfl⟩
 ·rw[if_neg hj,if_neg hj];exact⟨_,rfl⟩
theorem call_min2(hc:X.calm=true):CallR X (.builtin "min") (λxs H Q=>∃i j,xs=[.int i,.int j]/\Q (.int (if j<i then j else i)) H):=by
 intro pins s σ H xs us Q I r h;obtain⟨i,j,rfl,q⟩:=h;obtain⟨u,w',rfl,⟨t,rfl⟩,⟨t',rfl⟩⟩:=vals2 r;refine min_two_ints (I.ok.hd hc) λh' tk k=>⟨_,H,I.kept k,?_,q⟩;by_cases hj:j<i
 ·rw[if_pos hj,if_pos hj];exact⟨_,rfl⟩
 ·rw[if_neg hj,if_neg hj];exact⟨_,rfl⟩
end
section
variable{prog:acL}{w:acQ}{A:acO}{E:acB->acC->Prop}{s:acC}{K:PySem.W.Frag}{x dx C f:acA}{mA:Str->Option acB}{name:Str}{v:acB}
end
section
variable{P:acL}{w:acQ}{H H':Hp}{h h':acP}{a C dx:acA}{fs fs':List (Str×V)}
end
section
variable{X:Cx}{pins:List (acA×Obj)}{σ:St}{H:Hp}{s:acC}{a C dx:acA}{fs:List (Str×V)}{f:Str}{v:V}{A:acO}{E:acB->acC->Prop}
end
section
variable{X:Cx}{o e value:acI}{f:Str}{pos pos' tpos:Pos}{ta tv:TE}
end
section
variable{X:Cx}{pins:List (acA×Obj)}{σ:St}{H:Hp}{s:acC}{A:acO}{E:acB->acC->Prop}{Q:acB->acC->Prop}{c:acB}{b:Bool}
end
structure Room(k:Nat)(A:acO):Prop where
 hd:A.handled=none
 dp:A.depth+3*k+5<recursionLimit
 un:A.units+16*k+200<aed
theorem Room.mono{j:Nat}(r:Room k A)(h:j<=k):Room j A:=⟨r.hd,by have:=r.dp;omega,by have:=r.un;omega⟩
theorem Room.deeper(r:Room (k+1) A)(env:Env):Room k (A.deeper env):=
 ⟨r.hd,by have:=r.dp;show A.depth+1+3*k+5<_;omega,by have:=r.un;show A.units+3+16*k+200<_;omega⟩
theorem Room.depth(r:Room k A):A.depth<recursionLimit:=by have:=r.dp;omega
def tNil:TA:=λ_ H Q=>Q [] H
def tCons(ta:TE)(tr:TA):TA:=λσ H Q=>ta σ H λx H1=>tr σ H1 λxs H2=>Q (x::xs) H2
section
variable{X:Cx}{e:acI}{es:List acI}{te:TE}{t:TA}{pos:Pos}
theorem pa_nil:PA X [] tNil:=λ_ _ _ _ H Q I h=>Calls.spliced_nil ⟨[],H,I,.nil,h⟩
theorem pa_cons(ha:PE X e te)(hr:PA X es t)(hs:acE (e::es) X.env=(false,eval e X.env)::acE es X.env:=by rfl):PA X (e::es) (tCons te t):=by
 intro pos pins s σ H Q I h;rw[hs];show acG _ _ (spliced ((false,eval e X.env)::adg pos (acE es X.env))) _ _ s;refine agz (thn (ha pins s σ H _ I h) λu s1 bA=>?_);obtain⟨x,H1,I1,r1,q1⟩:=bA;refine thn (hr pos pins s1 σ H1 _ I1 q1) λus s2 bA=>?_;obtain⟨xs,H2,I2,r2,q2⟩:=bA;exact⟨x::xs,H2,I2,.cons r1 r2,q2⟩
def tTup(t:TA):TE:=λσ H Q=>t σ H λxs H1=>xs.length<=sizeLine/\∀p,H1 p=none->Q (.ref p) (upd H1 p (.tup xs))
def tLst(t:TA):TE:=λσ H Q=>t σ H λxs H1=>xs.length<=sizeLine/\∀p,H1 p=none->Q (.ref p) (upd H1 p (.lst xs))
theorem pe_tup{x1}(h:PA X es t):PE X (.Tuple es x1 pos) (tTup t):=by
 intro pins s σ H Q I hq;refine wpAny_Tuple_spliced (thn (h pos pins s σ H _ I hq) λus s1 ⟨xs,H1,I1,r,z,q⟩=>⟨by rw[<-r.length];exact z,?_⟩);have hf:H1 s1.heap.objs.size=none:=I1.hok.fresh (z0g _);refine⟨.ref s1.heap.objs.size,upd H1 s1.heap.objs.size (.tup xs),I1.laid (t':=s1.toks) (λb u e=>z1a _ e) (z0g _) ?_,rfl,q _ hf⟩;exact⟨z,us,r,⟨_,z1f _ rfl,rfl,rfl,_,rfl⟩⟩
theorem pe_lst(h:PA X es t):PE X (.List es pos) (tLst t):=by
 intro pins s σ H Q I hq;refine wpAny_List_spliced (thn (h pos pins s σ H _ I hq) λus s1 ⟨xs,H1,I1,r,z,q⟩=>⟨by rw[<-r.length];exact z,?_⟩);have hf:H1 s1.heap.objs.size=none:=I1.hok.fresh (z0g _);refine⟨.ref s1.heap.objs.size,upd H1 s1.heap.objs.size (.lst xs),I1.laid (t':=s1.toks) (λb u e=>z1a _ e) (z0g _) ?_,rfl,q _ hf⟩;exact⟨z,us,0,r,z1f _ rfl⟩
end
abbrev Sp:=List V->Hp->VK->XK->Prop
abbrev CXT:=List Env->Hp->acC->XK->acB->acC->Prop
structure Env0(P:acL)(w:acQ)(K:PySem.W.Frag)(mg:Str->Option acB)(base:acP)(A:acO)(outer:List Env)(s:acC)(H:Hp):Prop where
 frames:A.frames=some outer
 mod:Mod K mg base
 bs:∀b o,base.get? b=some o->s.heap.get? b=some o/\H b=none
 bsz:base.objs.size<=s.heap.objs.size
 funs:s.heap.FunFrames base outer
 frf:∀b∈frs outer,H b=none
 hok:HOk P w H s.heap
 bare:ae9 s.gens
inductive CE (outer:List Env) (P:acL) (w:acQ) (H:Hp) (s:acC) (Q:VK) (u:acB) (s':acC):Prop
 |mk (v:V) (H':Hp) (os:s'.os=s.os) (bare:ae9 s'.gens) (un:Un (frs outer) [] H H' s.heap s'.heap) (hok:HOk P w H' s'.heap) (r:RelV v u) (q:Q v H'):CE outer P w H s Q u s'
def CR(CX:CXT)(outer:List Env)(P:acL)(w:acQ)(H:Hp)(s:acC)(Q:VK)(E:XK)(r:Result)(s':acC):Prop:=
 match r with
 | .ok (.ret u)=>CE outer P w H s Q u s'
 | .ok _=>False
 | .error e=>CX outer H s E e s'
structure FnOk(P:acL)(w:acQ)(K:PySem.W.Frag)(mg:Str->Option acB)(base:acP)(CX:CXT)(k:Nat)(f:acA)(fd:adh)(ps:List Str)(sp:Sp):Prop where
 len:∀vs H Q E,sp vs H Q E->vs.length=ps.length
 run:∀(A:acO) (outer:List Env) (s:acC) (H:Hp) (args:Args) (us:List acB) (vs:List V) (Q:VK) (E:XK),Room k A->Env0 P w K mg base A outer s H->afJ s fd args (ps.zip us)->Vals vs us->sp vs H Q E->
  afr (model P w) A (.call (.ref f) args) (CR CX outer P w H s Q E) s
theorem FnOk.mono{j:Nat}{f:acA}{fd:adh}{sp:Sp}(F:FnOk P w K mg base CX j f fd ps sp)(h:j<=k):
  FnOk P w K mg base CX k f fd ps sp:=⟨F.len,λA outer s H args us vs Q E hr=>F.run A outer s H args us vs Q E (hr.mono h)⟩
section
variable{X:Cx}{pins:List (acA×Obj)}{σ:St}{H:Hp}{s s':acC}
theorem Inv.env0(I:Inv X pins σ H s):Env0 X.prog X.w X.K X.mg X.base X.A X.stack s H:=
 ⟨I.ok.frames,I.ok.mod,I.bs,z0b I.ok.bsz I.sz,I.stack,I.stkFree,I.hok,I.bare⟩
theorem Inv.after{Q:VK}{u:acB}(I:Inv X pins σ H s)(h:CE X.stack X.prog X.w H s Q u s'):EP X pins σ Q u s':=by
 obtain⟨v,H',os,bare,un,hok,r,q⟩:=h;obtain⟨hh,g,d,t,os'⟩:=s';obtain rfl:os'=s.os:=os;exact⟨v,H',I.call (h':=hh) (g':=g) (d':=d) (t':=t) (ch:=[]) un hok bare (λb z=>absurd z (by simp)),r,q⟩
end
def tCall(sp:Sp)(dvs:List V)(E:XK)(t:TA):TE:=λσ H Q=>t σ H λvs H1=>sp (vs++dvs) H1 Q E
def Binds(K:PySem.W.Frag)(fd:adh)(ps:List Str)(ds:List acB):Prop:=
 ∀(s:acC) (us:List acB),K.In s.heap->(us++ds).length=ps.length->afJ s fd ⟨us,[]⟩ (ps.zip (us++ds))
theorem Binds.all{fd:adh}(h:∀us:List acB,us.length=ps.length->aeR fd ⟨us,[]⟩=pure (ps.zip us)):Binds K fd ps []:=λs us _ hl=>by
 rw[adp] at hl |-;exact .of_eq (h us hl)
def Passes(CX:CXT)(X:Cx)(E:XK):Prop:=∀(pins:List (acA×Obj)) (σ:St) (H:Hp) (s:acC) (e:acB) (s':acC),Inv X pins σ H s->CX X.stack H s E e s'->X.xe e s'
section
variable{X:Cx}{CX:CXT}{k:Nat}{f C:acA}{fd:adh}{ps:List Str}{sp:Sp}{dvs:List V}{ds:List acB}{E:XK}{x m:Str}{p pos apos:Pos}{e o:acI}{es:List acI}{ta:TE}{t:TA}
theorem run_fn{Q:VK}{vs:List V}(F:FnOk X.prog X.w X.K X.mg X.base CX k f fd ps sp)(hr:Room k X.A)(hb:Binds X.K fd ps ds)(hd:Vals dvs ds)(hx:Passes CX X E)
  (I:Inv X pins σ H s)(r:Vals vs us)(h:sp (vs++dvs) H Q E):acG (model X.prog X.w) X.A (call (.ref f) us) (EP X pins σ Q) X.xe s:=by
 have r2:Vals (vs++dvs) (us++ds):=r.append hd;have hl:(us++ds).length=ps.length:=by rw[<-r2.length];exact F.len _ _ _ _ h
 refine agf (aeB (F.run X.A X.stack s H ⟨us,[]⟩ (us++ds) (vs++dvs) Q E hr I.env0 (hb s us I.kIn hl) r2 h) λr s' hq=>?_);cases r with
 |error e=>exact hx pins σ H s e s' I hq
 | ok fl=>
  cases fl with
  |ret u=>exact I.after hq
  |next=>exact ac5 hq
  |brk=>exact ac5 hq
  |cont=>exact ac5 hq
theorem pe_call(F:FnOk X.prog X.w X.K X.mg X.base CX k f fd ps sp)(hr:Room k X.A)(hg:Gl X x)(hm:X.mg x=some (.ref f))(hk:PySem.W.keepIn X.K (.ref f)=true)(hb:Binds X.K fd ps ds)(hd:Vals dvs ds)(hx:Passes CX X E)
  (ha:PA X (e::es) t)(hdb:(x ==("__debug__" :Str))=false:=by decide)(he:acE (e::es) X.env=(false,eval e X.env)::acE es X.env:=by rfl)(hpl:(adg pos (acE es X.env)).any (·.1)=false:=by rfl):
  PE X (.Call (.Name x p) (e::es) [] pos) (tCall sp dvs E t):=by
 intro pins s σ H Q I h;refine ad4 (ld_glob I hg hm ?_ hdb);refine PySem.W.callWith_K (h₀:=X.base) I.ok.mod.kin hk (thn (ha pos pins s σ H _ I h) λus s1 ⟨vs,H1,I1,r,q⟩=>⟨I1.kIn,?_⟩) he hpl;exact run_fn F hr hb hd hx I1 r q
end
def PK(X:Cx)(kws:List aei)(t:TA):Prop:=
 ∀(pos:Pos) (pins:List (acA×Obj)) (s:acC) (σ:St) (H:Hp) (Q:List V->Hp->Prop),Inv X pins σ H s->t σ H Q->acG (model X.prog X.w) X.A (evalAll ((ad5 pos (adx kws X.env)).map (·.2))) (AP X pins σ Q) X.xe s
section
variable{X:Cx}{CX:CXT}{k:Nat}{f C:acA}{fd:adh}{ps ks:List Str}{sp:Sp}{E:XK}{x m:Str}{p pos apos kpos:Pos}{e o:acI}{es:List acI}{kws:List aei}{te ta:TE}{t tk:TA}{nm:Option Str}
theorem pk_nil:PK X [] tNil:=λ_ _ _ _ H Q I h=>wpAny_evalAll_nil ⟨[],H,I,.nil,h⟩
theorem pk_cons(ha:PE X e te)(hr:PK X kws t):PK X (⟨nm,e,kpos⟩::kws) (tCons te t):=by
 intro pos pins s σ H Q I h;show acG _ _ (evalAll ((do let v <-eval e X.env;standAt pos;pure v)::(ad5 pos (adx kws X.env)).map (·.2))) _ _ s;refine wpAny_evalAll_cons (acz (thn (ha pins s σ H _ I h) λu s1 ⟨x,H1,I1,r1,q1⟩=>acz (agF (acF ?_))));refine thn (hr pos pins s1 σ H1 _ I1 q1) λus s2 bA=>?_;obtain⟨xs,H2,I2,r2,q2⟩:=bA;exact⟨x::xs,H2,I2,.cons r1 r2,q2⟩
variable{g:List acB->List acB->List acB}{gV:List V->List V->List V}
end
structure FnScope(N P:List Str)(sc:aec):Prop where
 kind:sc.kind= .function
 co:sc.isCoroutine=false
 gen:sc.isGenerator=false
 nd:N.Nodup
 pre:N.take P.length=P
 par:∀x∈P,sc.names.lookup x=some .local\/sc.names.lookup x=some .cell
 nofree:∀y∈sc.names,y.2≠.free
theorem bindL_out{kindOf:Str->Option aeS}{x:Str}:∀{binds:List (Str×acB)} {m:Str->Option acB},(∀v,(x,v)∉binds)->bindL kindOf binds m x=m x
 |[],_,_=>rfl
 | (n,v)::r,m,h=>by
  unfold bindL;rw[bindL_out λw hw=>h w (z2f _ hw)];split
  ·have:x≠n:=by rintro rfl;exact h v acT
   simp[this]
  ·rfl
theorem bindC_out{kindOf:Str->Option aeS}{x:Str}:∀{binds:List (Str×acB)} {m:Str->Option acB},(∀v,(x,v)∉binds)->bindC kindOf binds m x=m x
 |[],_,_=>rfl
 | (n,v)::r,m,h=>by
  unfold bindC;rw[bindC_out λw hw=>h w (z2f _ hw)];split
  ·rfl
  ·have:x≠n:=by rintro rfl;exact h v acT
   simp[this]
theorem bindL_get{kindOf:Str->Option aeS}{x:Str}{v:acB}:∀{P:List Str} {vs:List acB} {i:Nat} {m:Str->Option acB},P.Nodup->P[i]?=some x->vs[i]?=some v->kindOf x=some .local->
  bindL kindOf (P.zip vs) m x=some v
 |[],_,_,_,_,h,_,_=>by simp at h
 |_::_,[],_,_,_,_,h,_=>by simp at h
 | p::P,w::vs,0,m,nd,h1,h2,hk=>by
  simp at h1 h2;subst h1;subst h2;show bindL kindOf ((p,w)::P.zip vs) m p=_;unfold bindL;rw[bindL_out λv hv=>(afu.mp nd).1 (agg hv).1,if_pos hk];simp
 | p::P,w::vs,i+1,m,nd,h1,h2,hk=>by
  show bindL kindOf ((p,w)::P.zip vs) m x=_;unfold bindL;exact bindL_get (i:=i) (afu.mp nd).2 (by simpa using h1) (by simpa using h2) hk
theorem bindC_get{kindOf:Str->Option aeS}{x:Str}{v:acB}:∀{P:List Str} {vs:List acB} {i:Nat} {m:Str->Option acB},P.Nodup->P[i]?=some x->vs[i]?=some v->kindOf x≠some .local->
  bindC kindOf (P.zip vs) m x=some v
 |[],_,_,_,_,h,_,_=>by simp at h
 |_::_,[],_,_,_,_,h,_=>by simp at h
 | p::P,w::vs,0,m,nd,h1,h2,hk=>by
  simp at h1 h2;subst h1;subst h2;show bindC kindOf ((p,w)::P.zip vs) m p=_;unfold bindC;rw[bindC_out λv hv=>(afu.mp nd).1 (agg hv).1,if_neg hk];simp
 | p::P,w::vs,i+1,m,nd,h1,h2,hk=>by
  show bindC kindOf ((p,w)::P.zip vs) m x=_;unfold bindC;exact bindC_get (i:=i) (afu.mp nd).2 (by simpa using h1) (by simpa using h2) hk
def start(N:List Str)(vs:List V):St:=vs.map some++acH (N.length - vs.length) none
def cxOf(CX:CXT)(P:acL)(w:acQ)(K:PySem.W.Frag)(mg:Str->Option acB)(base:acP)(N:List Str)(qual:Str)(scope:aec)(f:acA)(cd:acB)(A:acO)(outer:List Env)(s:acC)(H:Hp)(E:XK):Cx where
 prog:=P
 w:=w
 K:=K
 mg:=mg
 base:=base
 A:=A.deeper (aeb qual scope s.heap.objs.size f cd)
 N:=N
 s₀:=s
 H₀:=H
 env:=aeb qual scope s.heap.objs.size f cd
 outer:=outer
 stack:=aeb qual scope s.heap.objs.size f cd::outer
 ex:=[]
 calm:=true
 fn:=λ_=>true
 pn:=[]
 xe:=λe s'=>acG (model P w) (A.deeper (aeb qual scope s.heap.objs.size f cd)) (leaving (aeb qual scope s.heap.objs.size f cd) e) (λ_ s''=>CX outer H s E e s'') (λe' s''=>CX outer H s E e' s'') s'
theorem cell_has{sc:aec}{n:Nat}{x:Str}(h:sc.names.lookup x=some .cell):∃c,(acZ n sc.names []).lookup x=some c:=by
 have q:=PySem.W.cellsFrom_some sc.names n [] (.inl h);exact aeT.mp q
theorem inv_start{qual:Str}{scope:aec}{f:acA}{cd:acB}{outer:List Env}{s1:acC}{E:XK}{vs:List V}
  (S:FnScope N ps scope)(hd:A.handled=none)(e0:Env0 P w K mg base A outer s H)(hl:vs.length=ps.length)(r:Vals vs us)
  (x:InCallC s s.heap.objs.size (bindL (aeb qual scope s.heap.objs.size f cd).kindOf (ps.zip us) λ_=>none) (acZ (s.heap.objs.size+1) scope.names []) (bindC (aeb qual scope s.heap.objs.size f cd).kindOf (ps.zip us) λ_=>none) s1):
  Inv (cxOf CX P w K mg base N qual scope f cd A outer s H E) [] (start N vs) H s1:=by
 have hpl:ps.length<=N.length:=by have:=congrArg List.length S.pre;rw[af3] at this;omega
 obtain⟨h1,tk,rfl,hk⟩:=x.done;have noA:∀b:acA,b∉(cxOf CX P w K mg base N qual scope f cd A outer s H E).ex:=λb z=>absurd (show b∈([]:List acA) from z) (by simp);refine⟨⟨e0.mod,S.kind,rfl,rfl,z0g _,λy z c h1 h2=>?_,λy hy=>?_,λy c _ h=>?_,λ_=>hd,Around.frames_deeper e0.frames,.inr ⟨rfl,rfl⟩,λb z=>absurd z (noA b),e0.bs,e0.bsz,λb _ _=>noA b,λb z=>absurd z (noA b),e0.funs,e0.frf⟩,
  rfl,e0.bare,Un.kept hk,⟨_,x.toInCall.ns,λi y v h1 h2 h3=>?_⟩,λy c h=>⟨_,x.cell y c h⟩,e0.hok.fresh (z0g _),λy c h=>?_,λp hp=>absurd (show p∈([]:List (acA×Obj)) from hp) (by simp),e0.hok.kept hk,?_⟩
 ·exact name_of_addr x.apart (PySem.mem_of_lookup h1) (PySem.mem_of_lookup h2)
 ·have hy:scope.names.lookup y=some .cell\/scope.names.lookup y=some .free:=hy;rcases hy with hy |hy
  ·exact cell_has hy
  ·exact absurd rfl (S.nofree _ (PySem.mem_of_lookup hy))
 ·exact z0e (x.above y c (PySem.mem_of_lookup h))
 ·have hi:i<vs.length:=by
   unfold start at h2;by_cases hi:i<vs.length
   ·exact hi
   ·rw[adf (by simpa using hi)] at h2;rw[aee] at h2;split at h2 <;> cases h2
  have ha:vs[i]?=some v:=by
   unfold start at h2;rw[adl (by simpa using hi),z2b] at h2;cases e:vs[i]? with
   |none=>rw[e] at h2;cases h2
   |some a=>rw[e] at h2;cases h2;rfl
  obtain⟨u,hu,rv⟩:=r.get ha;have hp:ps[i]?=some y:=by
   rw[<-S.pre,ag9 (by omega)];exact h1
  have ndP:ps.Nodup:=by rw[<-S.pre];exact S.nd.sublist (List.take_sublist _ _)
  refine⟨u,rv,?_⟩;rcases S.par y (ac6 hp) with k |k
  ·exact .inl ⟨k,bindL_get ndP hp hu k⟩
  ·obtain⟨c,e⟩:=cell_has (n:=s.heap.objs.size+1) k;refine .inr ⟨.inl k,c,e,?_⟩;have q:=x.cell y c e;rw[bindC_get ndP hp hu (by show scope.names.lookup y≠_;rw[k];decide)] at q;exact q
 ·exact e0.hok.fresh (z0e (x.above y c (PySem.mem_of_lookup h)))
 ·unfold start;show _=N.length;rw[z1d,z1g,adD];omega
theorem fn_of{f:acA}{name qual:Str}{params:aeO}{scope:aec}{dV kV doc pm cdv ct oc:acB}{an od:Option acA}
  {osl:Array (Option acB)}{sp:Sp}(lk:K.lookup f=some ⟨oc,od,.func (PySem.W.fnOf name qual params body scope dV kV doc pm an cdv ct),osl⟩)(hcd:PySem.W.codeIn K cdv qual=true)(S:FnScope N ps scope)
  (len:∀vs H Q E,sp vs H Q E->vs.length=ps.length)
  (hbody:∀(A:acO) (outer:List Env) (s:acC) (H:Hp) (vs:List V) (Q:VK) (E:XK),Room k (A.deeper (aeb qual scope s.heap.objs.size f cdv))->sp vs H Q E->
   ∃t,PSs (cxOf CX P w K mg base N qual scope f cdv A outer s H E) body t/\t {nx:=λ_ H'=>Q .non H',rt:=Q} (start N vs) H):
  FnOk P w K mg base CX (k+1) f (PySem.W.fnOf name qual params body scope dV kV doc pm an cdv ct) ps sp:=by
 refine⟨len,λA outer s H args us vs Q E hr e0 hb r hsp=>?_⟩;have hl:=len _ _ _ _ hsp;have KX:K.In s.heap:=e0.mod.kin.keeps λb o e=>(e0.bs b o e).1;have lim:s.heap.NoLimit:=e0.mod.nolimit.keeps λb o e=>(e0.bs b o e).1;have hkind:∀y∈ps.zip us,scope.names.lookup y.1=some .local\/(scope.names.lookup y.1=some .cell/\((acZ (s.heap.objs.size+1) scope.names []).lookup y.1).isSome=true):=λ⟨n,v⟩ hy=>by
  rcases S.par n (agg hy).1 with q |q
  ·exact .inl q
  ·exact .inr ⟨q,PySem.W.cellsFrom_some _ _ _ (.inl q)⟩
 refine codeAny_call_function hr.depth (KX _ _ lk) rfl S.co S.gen rfl (PySem.W.codeRec_of KX hcd) (hb _ _ _ _ ?_);refine wpAny_newFunctionEnv_cells S.kind hkind λenv he s1 x=>?_;subst he;refine⟨lim.keeps x.toInCall.keep,codeAny_func ?_⟩;obtain⟨t,ht,hq⟩:=hbody A outer s H vs Q E (hr.deeper _) hsp;have I:Inv (cxOf CX P w K mg base N qual scope f cdv A outer s H E) [] (start N vs) H s1:=inv_start S hr.hd e0 hl r x;refine adQ (ht [] s1 (start N vs) H _ I hq) (λfl s' hs=>?_) λe s' hs=>hs;have fin:∀{σ':St} {H':Hp} {v:V} {u:acB},Inv (cxOf CX P w K mg base N qual scope f cdv A outer s H E) [] σ' H' s'->RelV v u->Q v H'->CE outer P w H s Q u s':=
  λ{σ' H' v u} J rv q=>⟨v,H',J.os,J.bare,J.base,J.hok,rv,q⟩
 cases fl with
 | ret u=>
  obtain⟨v,σ',H',J,rv,q⟩:=hs;exact fin J rv q
 | next=>
  obtain⟨σ',H',J,q⟩:=hs;exact fin (v:=V.non) (u:=acU) J rfl q
 | brk=>
  obtain⟨_,_,_,q⟩:=hs;exact ac5 q
 | cont=>
  obtain⟨_,_,_,q⟩:=hs;exact ac5 q
section
variable{X:Cx}{x:Str}{p pos:Pos}{e:acI}{es:List acI}{t:TA}{id T:String}{r:List V->Hp->VK->Prop}
def tCB(r:List V->Hp->VK->Prop)(t:TA):TE:=λσ H Q=>t σ H λvs H1=>r vs H1 Q
theorem pe_callB(hc:CallR X (.builtin id) r)(hg:Gl X x)(hm:X.mg x=none)(hv:aea x=some (.builtin id))(ha:PA X (e::es) t)(hn:x≠"__name__" :=by decide)(hdb:(x ==("__debug__" :Str))=false:=by decide)
  (he:acE (e::es) X.env=(false,eval e X.env)::acE es X.env:=by rfl)(hpl:(adg pos (acE es X.env)).any (·.1)=false:=by rfl):PE X (.Call (.Name x p) (e::es) [] pos) (tCB r t):=by
 intro pins s σ H Q I h;refine ad4 (ld_blt I hg hm hv ?_ hn hdb);exact PyProof.Rows.callWith_builtin1 (thn (ha pos pins s σ H _ I h) λus s1 ⟨vs,H1,I1,r1,q1⟩=>hc pins s1 σ H1 vs us Q I1 r1 q1) he hpl
theorem pe_callTy(hc:CallR X (.type T) r)(hg:Gl X x)(hm:X.mg x=none)(hv:aea x=some (.type T))(ha:PA X (e::es) t)(hn:x≠"__name__" :=by decide)(hdb:(x ==("__debug__" :Str))=false:=by decide)
  (he:acE (e::es) X.env=(false,eval e X.env)::acE es X.env:=by rfl)(hpl:(adg pos (acE es X.env)).any (·.1)=false:=by rfl):PE X (.Call (.Name x p) (e::es) [] pos) (tCB r t):=by
 intro pins s σ H Q I h;refine ad4 (ld_blt I hg hm hv ?_ hn hdb);exact adn (thn (ha pos pins s σ H _ I h) λus s1 ⟨vs,H1,I1,r1,q1⟩=>hc pins s1 σ H1 vs us Q I1 r1 q1) he hpl
end
end L2
namespace HT
open PySem PyProof.Rows
section
open PySem.SeqAt
open PySem.AutoSeq1 (wpAny_loadPart')
open PySem.MeetsSeq PySem.MeetsSeq2 PySem.MeetsSeq3
end
section
variable{prog:acL}{w:acQ}{A:acO}{E:acB->acC->Prop}{s:acC}
theorem cat_tup{t b:acA}{vs ws:List acB}{Q:acB->acC->Prop}(ht:IsTup s.heap t vs.toArray)(hb:IsTup s.heap b ws.toArray)(hv:vs≠[])
  (h1:ws=[]->Q (.ref t) s)(h2:ws≠[]->Q (.ref s.heap.objs.size) {s with heap:=s.heap.push {cls:= .type "tuple",data:= .seq (vs++ws).toArray}})
  (hsz:vs.length+ws.length<=sizeLine):acG (model prog w) A (adu .Add (.ref t) (.ref b)) Q E s:=by
 obtain⟨⟨cls,dd,data,sl⟩,ho,hc,n,hd⟩:=id ht;obtain⟨⟨cls2,dd2,data2,sl2⟩,ho2,hc2,n2,hd2⟩:=id hb;simp only at hc hd hc2 hd2;subst hc hd hc2 hd2;have e:vs.toArray++ws.toArray=(vs++ws).toArray:=by simp
 by_cases hw:ws=[]
 ·exact aha ⟨_,ho,rfl⟩ ⟨_,ho2,rfl⟩ ahb seq_tuple_add PySem.F.slot_tuple_add PySem.F.entry_tuple_add (PySem.F.args_tuple_add_2 _ _)
   (tuple_addW1 t b vs.toArray ws.toArray n n2 dd dd2 sl sl2 (by simpa using hv) (by simp[hw])) ⟨ho,ho2,h1 hw⟩
 ·refine aha ⟨_,ho,rfl⟩ ⟨_,ho2,rfl⟩ ahb seq_tuple_add PySem.F.slot_tuple_add PySem.F.entry_tuple_add (PySem.F.args_tuple_add_2 _ _)
   (tuple_addW2 t b vs.toArray ws.toArray n n2 dd dd2 sl sl2 (by simpa using hv) (by simpa using hw) (by rw[z1c,z1c];exact hsz)) ⟨ho,ho2,?_⟩
  rw[e];exact h2 hw
def sIx(n d:Nat):Option Int->Nat
 |none=>d
 |some v=>if v<0 then (v+(n:Int)).toNat else min v.toNat n
theorem sIx_le(n d:Nat)(hd:d<=n)(o:Option Int):sIx n d o<=n:=by
 cases o with
 |none=>exact hd
 | some v=>
  show (if v<0 then (v+(n:Int)).toNat else min v.toNat n)<=n;by_cases hv:v<0
  ·rw[if_pos hv];omega
  ·rw[if_neg hv];exact Nat.min_le_right _ _
theorem Ti(a b:Nat):((min a b:Nat):Int)=min (a:Int) (b:Int):=by
 rcases Nat.le_total a b with h |h
 ·rw[agh h,Int.min_eq_left (ahc.mpr h)]
 ·rw[Nat.min_eq_right h,Int.min_eq_right (ahc.mpr h)]
theorem Z8{i:Int}(n:Nat)(h:i<0):max 0 (min (i+(n:Int)) (n:Int))=(((i+(n:Int)).toNat:Nat):Int):=by
 rw[Int.min_eq_left (by omega),Int.max_comm];exact (Int.ofNat_toNat _).symm
theorem Z9(k n:Nat):max 0 (min (k:Int) (n:Int))=((min (k:Int).toNat n:Nat):Int):=by
 rw[Int.max_eq_right (Int.le_min.mpr ⟨ae3 _,ae3 _⟩)];exact (Ti k n).symm
theorem clip_eq(v:Int)(n d:Nat):(if v<0 then max (v+(n:Int)) 0 else min v (n:Int))=((sIx n d (some v):Nat):Int):=by
 show (if v<0 then max (v+(n:Int)) 0 else min v (n:Int))=(((if v<0 then (v+(n:Int)).toNat else min v.toNat n):Nat):Int);by_cases hv:v<0
 ·simp only[if_pos hv];exact (Int.ofNat_toNat _).symm
 ·simp only[if_neg hv];obtain⟨k,rfl⟩:=adP (Int.not_lt.mp hv);exact (Ti k n).symm
theorem adjust_gen(lo hi:Option Int)(n:Nat):afv lo hi 1 (n:Int)=(((sIx n 0 lo:Nat):Int),((sIx n n hi:Nat):Int)):=by
 have h1:¬((1:Int)<0):=by omega
 unfold afv;simp only[h1,if_false];refine ahv ?_ ?_
 ·cases lo with
  |none=>rfl
  |some v=>exact clip_eq v n 0
 ·cases hi with
  |none=>rfl
  |some v=>exact clip_eq v n n
theorem places_gen(i j:Nat):aeM (i:Int) (j:Int) 1=j - i:=by
 unfold aeM;have h1:(1:Int) > 0:=by omega
 simp only[h1,if_true,Int.ediv_one];split <;> omega
theorem slicePart_{v:acB}{o:Option Int}{Q:Option Int->acC->Prop}(p:afT v o)(h:Q o s):acG (model prog w) A (Builtin.Slice.slicePartIndex v) Q E s:=by
 cases p with
 |none=>exact slicePart_none h
 |int i t=>exact slicePart_int h
theorem sliceApplied_gen{sl:acA}{vl vu:acB}{lo hi:Option Int}{n:Nat}{Q:Int×Int×Nat->acC->Prop}(hs:s.heap.IsSliceOf sl vl vu .none)(pl:afT vl lo)(pu:afT vu hi)
  (h:Q (((sIx n 0 lo:Nat):Int),1,sIx n n hi - sIx n 0 lo) s):acG (model prog w) A (agG (.ref sl) (pure (n:Int))) Q E s:=by
 obtain⟨os,hos,hcs,hds⟩:=id hs;unfold agG Builtin.Slice.sliceFields;refine acz (acz (acW hos hds (x:=vl) rfl (acz (acW hos hds (x:=vu) rfl (acz (acW hos hds (x:= .none) rfl (acF ?_)))))));refine acz (slicePart_none ?_);show acG _ _ (if ((1:Int) ==0)=true then _ else _) _ _ s;rw[if_neg (by decide)];refine acz (slicePart_ pl (acz (slicePart_ pu (acz (acF ?_)))));show acG _ _ (match afv lo hi 1 (n:Int) with |(lo,hi)=>pure (lo,(1:Int),aeM lo hi 1)) _ _ s;rw[adjust_gen lo hi n];show acG _ _ (pure (((sIx n 0 lo:Nat):Int),(1:Int),aeM ((sIx n 0 lo:Nat):Int) ((sIx n n hi:Nat):Int) 1)) _ _ s;rw[places_gen];exact acF h
theorem pick_gen(xs:Array acB)(i k:Nat):((acD k).filterMap λ(m:Nat)=>xs[((i:Int)+(m:Int)*1).toNat]?).toArray=((xs.toList.drop i).take k).toArray:=by
 have e:(λ(m:Nat)=>xs[((i:Int)+(m:Int)*1).toNat]?)=λm=>xs[i+m]?:=by
  funext m;have:((i:Int)+(m:Int)*1).toNat=i+m:=by omega
  rw[this]
 rw[e];have:=pick_run xs i k;rw[List.filterMap_map] at this;have e2:((λx=>xs[x]?) ∘ λx=>i+x)=λm=>xs[i+m]?:=rfl;rw[e2] at this;rw[this]
theorem getItem_tuple_cut{t sl:acA}{items:Array acB}{vl vu:acB}{lo hi:Option Int}{Q:acB->acC->Prop}(ht:IsTup s.heap t items)(hs:s.heap.IsSliceOf sl vl vu .none)(pl:afT vl lo)(pu:afT vu hi)
  (hw:¬(sIx items.size 0 lo=0/\sIx items.size items.size hi=items.size))
  (h:Q (.ref s.heap.objs.size) {s with heap:=s.heap.push {cls:= .type "tuple",data:= .seq ((items.toList.drop (sIx items.size 0 lo)).take (sIx items.size items.size hi - sIx items.size 0 lo)).toArray}})
  (hsz:items.size<=sizeLine):acG (model prog w) A (getItem (.ref t) (.ref sl)) Q E s:=by
 have htake:sizeOk (.seq ((items.toList.drop (sIx items.size 0 lo)).take (sIx items.size items.size hi - sIx items.size 0 lo)).toArray):=by
  show ((items.toList.drop (sIx items.size 0 lo)).take (sIx items.size items.size hi - sIx items.size 0 lo)).toArray.size<=sizeLine;rw[z1c,af3,ahd,adY];omega
 have hj:sIx items.size items.size hi<=items.size:=sIx_le _ _ (z0g _) hi;obtain⟨os,hos,hcs,hds⟩:=id hs;have hTs:s.TypeIs (.ref sl) "slice" :=⟨os,hos,hcs⟩;unfold getItem
 try with_reducible refine aev ?_
 first |refine acz (acF ?_) |skip
 refine acz (wpAny_sequenceKey ht.typeIs (by decide) ?_);refine acz (ada (name:=adb "__getitem__") ht.typeIs adO
  (adi adO ht.typeIs entry_tuple_getitem ?_ (args_tuple_getitem _ _)))
 show acG _ _ (agH (.ref t) >>=_) _ _ s;refine acz (tupleItemsOf_ ht ?_);refine acz (ahe hTs ?_);rw[if_pos (by decide)];refine acz (sliceApplied_gen hs pl pu ?_);have hno:¬((((sIx items.size 0 lo:Nat):Int) ==0 && (1:Int) ==1 && (sIx items.size items.size hi - sIx items.size 0 lo) ==items.size)=true):=by
  intro q;rw[adU,adU] at q;have q1:((sIx items.size 0 lo:Nat):Int)=0:=eq_of_beq q.1.1;have q2:sIx items.size items.size hi - sIx items.size 0 lo=items.size:=eq_of_beq q.2;exact hw ⟨by omega,by omega⟩
 show acG _ _ (if (((sIx items.size 0 lo:Nat):Int) ==0 && (1:Int) ==1 && (sIx items.size items.size hi - sIx items.size 0 lo) ==items.size)=true then _ else _) _ _ s;rw[if_neg hno,pick_gen]
 first
  |exact acz (m:=aeU _) (adt (acF ⟨_,rfl,acF h⟩) htake)
  |exact acz (m:=aeU _) (adt (acz (acF (acF ⟨_,rfl,acF h⟩))) htake)
  |exact acz (acz (m:=aeU _) (adt (acF (acF ⟨_,rfl,acF h⟩)) htake))
  |exact acz (acz (m:=aeU _) (adt (acF ⟨_,rfl,acF h⟩) htake))
end
end HT
namespace L2
open PySem PySem.Spec PyProof.Rows
abbrev TO:=St->Hp->(Option Int->Hp->Prop)->Prop
def PO(X:Cx)(e:Option acI)(t:TO):Prop:=
 ∀(pins:List (acA×Obj)) (s:acC) (σ:St) (H:Hp) (Q:Option Int->Hp->Prop),Inv X pins σ H s->t σ H Q->
  acG (model X.prog X.w) X.A (evalPart e X.env) (λu s'=>∃o H',Inv X pins σ H' s'/\afT u o/\Q o H') X.xe s
def tNoPart:TO:=λ_ H Q=>Q none H
def tPart(t:TE):TO:=λσ H Q=>t σ H λx H1=>∃i,x= .int i/\Q (some i) H1
section
variable{X:Cx}{e:acI}{te:TE}{lo hi:Option acI}{tl th:TO}{pos p2:Pos}
theorem po_none:PO X none tNoPart:=by
 intro pins s σ H Q I h;rw[evalPart_none];exact acF ⟨none,H,I,.none,h⟩
theorem po_some(h:PE X e te):PO X (some e) (tPart te):=by
 intro pins s σ H Q I hw;rw[evalPart_some];refine thn (h pins s σ H _ I hw) λu s1 bA=>?_;obtain⟨x,H1,I1,r1,q1⟩:=bA;obtain⟨i,rfl,q⟩:=q1;obtain⟨t,rfl⟩:=r1;exact⟨some i,H1,I1,.int i t,q⟩
def SlR(X:Cx)(r:V->Option Int->Option Int->Hp->VK->Prop):Prop:=
 ∀(pins:List (acA×Obj)) (s:acC) (σ:St) (H:Hp) (x:V) (v vl vu:acB) (lo hi:Option Int) (sl:acA) (Q:VK),Inv X pins σ H s->RelV x v->s.heap.IsSliceOf sl vl vu .none->afT vl lo->afT vu hi->r x lo hi H Q->
  ∃T id,typeLookup (.type T) "__getitem__" =pure (some (.builtin id))/\s.TypeIs v T/\acG (model X.prog X.w) X.A (getItem v (.ref sl)) (EP X pins σ Q) X.xe s
theorem SlR.or{r r':V->Option Int->Option Int->Hp->VK->Prop}(h:SlR X r)(h':SlR X r'):SlR X (λx lo hi H Q=>r x lo hi H Q\/r' x lo hi H Q):=by
 intro pins s σ H x v vl vu lo hi sl Q I rx hs pl pu q;rcases q with q |q
 ·exact h pins s σ H x v vl vu lo hi sl Q I rx hs pl pu q
 ·exact h' pins s σ H x v vl vu lo hi sl Q I rx hs pl pu q
def tSl(r:V->Option Int->Option Int->Hp->VK->Prop)(te:TE)(tl th:TO):TE:=λσ H Q=>te σ H λx H1=>tl σ H1 λl H2=>th σ H2 λu H3=>r x l u H3 Q
theorem pe_slice{r:V->Option Int->Option Int->Hp->VK->Prop}(hr:SlR X r)(he:PE X e te)(hl:PO X lo tl)(hu:PO X hi th):PE X (.Subscript e (.Slice lo hi none p2) pos) (tSl r te tl th):=by
 intro pins s σ H Q I h;refine Subscript_ (thn (he pins s σ H _ I h) λv s1 bA=>?_);obtain⟨x,H1,I1,r1,q1⟩:=bA;refine wpAny_Slice (thn (hl pins s1 σ H1 _ I1 q1) λvl s2 ⟨l,H2,I2,pl,q2⟩=>thn (hu pins s2 σ H2 _ I2 q2) λvu s3 bA=>?_);obtain⟨u,H3,I3,pu,q3⟩:=bA;rw[evalPart_none];refine acF ?_;have I4:Inv X pins σ H3 {s3 with heap:=s3.heap.push {cls:= .type "slice",data:= .fields #[vl,vu,.none]}}:=I3.kept (t':=s3.toks) λb ob q=>z1a _ q;obtain⟨T,id,hT,ht,hg⟩:=hr pins {s3 with heap:=s3.heap.push {cls:= .type "slice",data:= .fields #[vl,vu,.none]}} σ H3 x v vl vu l u s3.heap.objs.size Q I4 r1 (ahE ..) pl pu q3;show acG (model X.prog X.w) X.A (subscriptTail e (.Slice lo hi none p2) v (.ref s3.heap.objs.size)) (EP X pins σ Q) X.xe {s3 with heap:=s3.heap.push {cls:= .type "slice",data:= .fields #[vl,vu,.none]}};exact tail_any (ops:=[.ref s3.heap.objs.size,v]) ht hT hg (by with_unfolding_all rfl)
def cutV(xs:List V)(lo hi:Option Int):List V:=(xs.drop (HT.sIx xs.length 0 lo)).take (HT.sIx xs.length xs.length hi - HT.sIx xs.length 0 lo)
theorem cutV_length(xs:List V)(lo hi:Option Int):(cutV xs lo hi).length<=xs.length:=by
 unfold cutV;rw[af3,ahd];omega
def rSlT(K:PySem.W.Frag):V->Option Int->Option Int->Hp->VK->Prop:=λx lo hi H Q=>∃a xs,x= .ref a/\SqT K H a xs/\
 ¬(HT.sIx xs.length 0 lo=0/\HT.sIx xs.length xs.length hi=xs.length)/\∀p,H p=none->Q (.ref p) (upd H p (.tup (cutV xs lo hi)))
theorem sl_tup:SlR X (rSlT X.K):=by
 intro pins s σ H x v vl vu lo hi sl Q I rx hs pl pu h;obtain⟨a,xs,rfl,hx,hw,q⟩:=h;cases rx;obtain⟨its,r,ht,hz⟩:=I.tuple hx;have hlen:its.toArray.size=xs.length:=by rw[z1c];exact r.length.symm
 refine⟨"tuple",_,adO.lookup,ht.typeIs,?_⟩;refine HT.getItem_tuple_cut ht hs pl pu (by rw[hlen];exact hw) ?_ (by rw[hlen];exact hz);rw[hlen];refine⟨.ref s.heap.objs.size,_,I.laid (t':=s.toks) (o:= .tup (cutV xs lo hi)) (λb ob q=>z1a _ q) (z0g _) ?_,rfl,q _ (I.hok.fresh (z0g _))⟩;exact⟨z0b (cutV_length xs lo hi) hz,_,(r.drop (HT.sIx xs.length 0 lo)).take (HT.sIx xs.length xs.length hi - HT.sIx xs.length 0 lo),tM.new _ _⟩
def rCatT(K:PySem.W.Frag):R2:=λx y H Q=>∃a b xs ys,x= .ref a/\y= .ref b/\SqT K H a xs/\SqT K H b ys/\xs≠[]/\xs.length+ys.length<=sizeLine/\
 (ys=[]->Q (.ref a) H)/\(ys≠[]->∀p,H p=none->Q (.ref p) (upd H p (.tup (xs++ys))))
theorem Vals.nil_iff{xs:List V}{us:List acB}(r:Vals xs us):us=[]↔xs=[]:=by
 cases r with
 |nil=>simp
 |cons _ _=>simp
theorem op_catT:OpR X (adu .Add) (rCatT X.K):=by
 intro pins s σ H x y v u Q I rx ry h;obtain⟨a,b,xs,ys,rfl,rfl,ha,hb,hx,hz,q1,q2⟩:=h;cases rx;cases ry;obtain⟨its,r1,p1,_⟩:=I.tuple ha;obtain⟨its2,r2,p2,_⟩:=I.tuple hb;refine HT.cat_tup p1 p2 (λz=>hx (r1.nil_iff.mp z)) (λz=>⟨.ref a,H,I,rfl,q1 (r2.nil_iff.mp z)⟩) (λz=>?_) (by rw[<-r1.length,<-r2.length];exact hz);refine⟨.ref s.heap.objs.size,_,I.laid (t':=s.toks) (o:= .tup (xs++ys)) (λb ob q=>z1a _ q) (z0g _) ?_,rfl,q2 (λw=>z (r2.nil_iff.mpr w)) _ (I.hok.fresh (z0g _))⟩;exact⟨by rw[z1d];exact hz,_,r1.append r2,tM.new _ _⟩
end
def ixN(n:Nat)(i:Int):Option Nat:=if 0<=i then (if i<n then some i.toNat else none) else if -(n:Int)<=i then some (i+n).toNat else none
def atI{α:Type}(xs:List α)(i:Int):Option α:=(ixN xs.length i).bind λj=>xs[j]?
theorem ixN_seq{n:Nat}{i:Int}{j:Nat}(h:ixN n i=some j):seqIndex? i n=some j/\j<n/\-(n:Int)<=i/\i<n:=by
 unfold ixN at h;by_cases h0:0<=i
 ·rw[if_pos h0] at h;by_cases h1:i<n
  ·rw[if_pos h1] at h;have e:i.toNat=j:=acV h;exact⟨by rw[seqIndex_of h0 h1,e],by omega,by omega,h1⟩
  ·rw[if_neg h1] at h;cases h
 ·rw[if_neg h0] at h;by_cases h1: -(n:Int)<=i
  ·rw[if_pos h1] at h;have e:(i+n).toNat=j:=acV h;exact⟨by rw[seqIndex_neg (by omega) h1,e],by omega,h1,by omega⟩
  ·rw[if_neg h1] at h;cases h
theorem atI_get{α:Type}{xs:List α}{i:Int}{v:α}(h:atI xs i=some v):∃j,seqIndex? i xs.length=some j/\xs[j]?=some v/\j<xs.length/\-(xs.length:Int)<=i/\i<xs.length:=by
 unfold atI at h;cases e:ixN xs.length i with
 |none=>rw[e] at h;cases h
 | some j=>
  rw[e] at h;obtain⟨h1,h2,h3,h4⟩:=ixN_seq e;exact⟨j,h1,h,h2,h3,h4⟩
def PlainIx(b:acI):Prop:=∀o i,subscripted b false o i=operate [o,i] (getItem o i)
def IxR(X:Cx)(r:R2):Prop:=
 ∀(value slice:acI) (pins:List (acA×Obj)) (s:acC) (σ:St) (H:Hp) (x y:V) (v u:acB) (Q:VK),Inv X pins σ H s->RelV x v->RelV y u->r x y H Q->
  subscripted slice false v u=operate [v,u] (getItem v u)->acG (model X.prog X.w) X.A (subscriptTail value slice v u) (EP X pins σ Q) X.xe s
def MtR(X:Cx)(id:String)(r:V->List V->Hp->VK->Prop):Prop:=
 ∀(pins:List (acA×Obj)) (s:acC) (σ:St) (H:Hp) (x:V) (xs:List V) (v:acB) (us:List acB) (Q:VK),Inv X pins σ H s->RelV x v->Vals xs us->r x xs H Q->
  acG (model X.prog X.w) X.A (call (.builtin id) (v::us)) (EP X pins σ Q) X.xe s
section
variable{X:Cx}{a b:acI}{ta tb:TE}{pos:Pos}
theorem IxR.or{r r':R2}(h:IxR X r)(h':IxR X r'):IxR X (λx y H Q=>r x y H Q\/r' x y H Q):=by
 intro value slice pins s σ H x y v u Q I rx ry q hs;rcases q with q |q
 ·exact h value slice pins s σ H x y v u Q I rx ry q hs
 ·exact h' value slice pins s σ H x y v u Q I rx ry q hs
theorem pe_ix{r:R2}(hr:IxR X r)(ha:PE X a ta)(hb:PE X b tb)(hs:PlainIx b):PE X (.Subscript a b pos) (tOp r ta tb):=by
 intro pins s σ H Q I h;exact Subscript_ (binT ha hb I h λv u s2 x y H2 I2 rx ry q=>hr a b pins s2 σ H2 x y v u Q I2 rx ry q (hs _ _))
def rIxL(K:PySem.W.Frag):R2:=λx y H Q=>∃p xs i v,x= .ref p/\y= .int i/\SqL K H p xs/\atI xs i=some v/\Q v H
def rIxT(K:PySem.W.Frag):R2:=λx y H Q=>∃p xs i v,x= .ref p/\y= .int i/\SqT K H p xs/\atI xs i=some v/\Q v H
def rIxS:R2:=λx y H Q=>∃z i c,x= .str z/\y= .int i/\z.length<=sizeLine/\atI z.cps.toList i=some c/\Q (.str ⟨#[c]⟩) H
theorem ix_list:IxR X (rIxL X.K):=by
 intro value slice pins s σ H x y v u Q I rx ry h hs;obtain⟨p,xs,i,z,rfl,rfl,hq,he,q⟩:=h;cases rx;obtain⟨t,rfl⟩:=ry;obtain⟨its,r,pl,hz⟩:=I.list hq;obtain⟨j,h1,h2,h3,h4,h5⟩:=atI_get he;obtain⟨w,ew,rw'⟩:=r.get h2;have hl:=r.length;have hn:=line63;have fin:EP X pins σ Q w s:=⟨z,H,I,rw',q⟩;by_cases h0:0<=i
 ·have hj:i.toNat=j:=by
   rw[seqIndex_of h0 h5] at h1;exact acV h1
  exact item_listR pl.isList h0 (by omega) (by rw[hj];simpa using ew) fin hs
 ·have hj:(i+(its.toArray.size:Int)).toNat=j:=by
   rw[seqIndex_neg (by omega) h4] at h1;rw[z1c,<-hl];exact acV h1
  exact subscriptTail_builtinR (x:=w) pl.isList.typeIs slot_list_getitem.lookup
   (wpAny_getItem_list_neg (Q:=λr s'=>r=w/\EP X pins σ Q r s') pl.isList (by omega) (by rw[z1c] <;> omega) (by omega) (by rw[hj];simpa using ew) ⟨rfl,fin⟩) hs
theorem ix_tup:IxR X (rIxT X.K):=by
 intro value slice pins s σ H x y v u Q I rx ry h hs;obtain⟨p,xs,i,z,rfl,rfl,hq,he,q⟩:=h;cases rx;obtain⟨t,rfl⟩:=ry;obtain⟨its,r,pl,hz⟩:=I.tuple hq;obtain⟨j,h1,h2,h3,h4,h5⟩:=atI_get he;obtain⟨w,ew,rw'⟩:=r.get h2;have hl:=r.length;have hn:=line63;have fin:EP X pins σ Q w s:=⟨z,H,I,rw',q⟩;exact subscriptTail_builtinR (x:=w) pl.typeIs slot_tuple_getitem.lookup
  (getItem_tuple (j:=j) (Q:=λr s'=>r=w/\EP X pins σ Q r s') pl (by omega) (by omega) (by rw[z1c,<-hl];exact h1) (by simpa using ew) ⟨rfl,fin⟩) hs
theorem ix_str:IxR X rIxS:=by
 intro value slice pins s σ H x y v u Q I rx ry h hs;obtain⟨z,i,c,rfl,rfl,hz,he,q⟩:=h;obtain⟨t,rfl⟩:=rx;obtain⟨t',rfl⟩:=ry;obtain⟨j,h1,h2,h3,h4,h5⟩:=atI_get he;have hl:z.cps.toList.length=z.length:=by simp[Str.length]
 rw[hl] at h1 h4 h5;have hn:=line63;exact tail_any (agX s z t) slot_str_getitem.lookup (getItem_str (c:=c) (by
  have e1:decide (i < -(2^63:Int))=false:=decide_eq_false (by omega);have e2:decide (i>=2^63)=false:=decide_eq_false (by omega);rw[e1,e2,Bool.or_false]) (by rw[h1];simpa using h2) ⟨.str ⟨#[c]⟩,H,I.tok _,⟨_,rfl⟩,q⟩) hs
def rIx(K:PySem.W.Frag):R2:=λx y H Q=>rIxL K x y H Q\/rIxT K x y H Q\/rIxS x y H Q
theorem ix_seq:IxR X (rIx X.K):=ix_list.or (ix_tup.or ix_str)
theorem Inv.lst{pins:List (acA×Obj)}{σ:St}{H:Hp}{s:acC}{p:acA}{xs:List V}(I:Inv X pins σ H s)(h:H p=some (.lst xs)):
  ∃(its:List acB) (n:Nat),Vals xs its/\s.heap.get? p=some {cls:= .type "list",data:= .seq its.toArray n}/\xs.length<=sizeLine:=by
 obtain⟨z,its,n,r,e⟩:=I.hok p _ h;exact⟨its,n,r,e,z⟩
theorem slice_bounds(lo hi:Option Int)(n:Nat):(afs lo hi none n).1=((HT.sIx n 0 lo:Nat):Int)/\(afs lo hi none n).2.1=((HT.sIx n n hi:Nat):Int)/\(afs lo hi none n).2.2=1:=by
 refine⟨?_,?_,rfl⟩
 ·cases lo with
  |none=>simp[afs,HT.sIx]
  | some i=>
   simp only[afs,HT.sIx,Option.getD_none,show (1:Int) > 0 by decide,if_true];by_cases h:i<0
   ·simp only[h,if_true];exact HT.Z8 n h
   ·simp only[h,if_false];obtain⟨k,rfl⟩:=adP (Int.not_lt.mp h);exact HT.Z9 k n
 ·cases hi with
  |none=>simp[afs,HT.sIx]
  | some i=>
   simp only[afs,HT.sIx,Option.getD_none,show (1:Int) > 0 by decide,if_true];by_cases h:i<0
   ·simp only[h,if_true];exact HT.Z8 n h
   ·simp only[h,if_false];obtain⟨k,rfl⟩:=adP (Int.not_lt.mp h);exact HT.Z9 k n
theorem slicePick_cut(its:List acB)(lo hi:Option Int):slicePick its.toArray lo hi none=((its.drop (HT.sIx its.length 0 lo)).take (HT.sIx its.length its.length hi - HT.sIx its.length 0 lo)).toArray:=by
 obtain⟨h1,h2,h3⟩:=slice_bounds lo hi its.toArray.size;unfold slicePick;rw[h1,h2,h3];simp only[sliceRange_one,pick_run,z1c] <;> rfl
def rSlL(K:PySem.W.Frag):V->Option Int->Option Int->Hp->VK->Prop:=λx lo hi H Q=>∃a xs,x= .ref a/\SqL K H a xs/\∀p,H p=none->Q (.ref p) (upd H p (.lst (cutV xs lo hi)))
theorem sl_list:SlR X (rSlL X.K):=by
 intro pins s σ H x v vl vu lo hi sl Q I rx hs pl pu h;obtain⟨a,xs,rfl,hx,q⟩:=h;cases rx;obtain⟨its,r,ht,hz⟩:=I.list hx;have hlen:=r.length;refine⟨"list",_,slot_list_getitem.lookup,ht.isList.typeIs,?_⟩;refine wpAny_getItem_list_slice ht.isList hs pl pu .none (by simp) ?_ (by rw[z1c] <;> omega);rw[slicePick_cut,<-hlen];refine⟨.ref s.heap.objs.size,_,I.laid (t':=s.toks) (o:= .lst (cutV xs lo hi)) (λb ob q=>z1a _ q) (z0g _) ?_,rfl,q _ (I.hok.fresh (z0g _))⟩;exact⟨z0b (cutV_length xs lo hi) hz,_,0,(r.drop (HT.sIx xs.length 0 lo)).take (HT.sIx xs.length xs.length hi - HT.sIx xs.length 0 lo),z1f _ rfl⟩
def flatV:V->Bool
 | .non=>true
 | .bl _=>true
 | .int _=>true
 | .str _=>true
 |_=>false
def eqV:V->V->Bool
 | .non,.non=>true
 | .bl a,.bl b=>a ==b
 | .bl a,.int b=>(if a then 1 else 0) ==b
 | .int a,.bl b=>a ==(if b then 1 else 0)
 | .int a,.int b=>a ==b
 | .str a,.str b=>a ==b
 |_,_=>false
theorem eqAt_V{A:acO}{s:acC}{y x:V}{u v:acB}(ry:RelV y u)(rx:RelV x v)(fy:flatV y=true)(fx:flatV x=true):SeqAt.EqAt A s u v (eqV y x):=by
 cases y with
 | non=>
  cases ry;cases x with
  |non=>cases rx;exact SeqAt.EqAt.same _
  |bl b=>cases rx;exact SeqAt.EqAt.none_bool b
  |int b=>obtain⟨t,rfl⟩:=rx;exact SeqAt.EqAt.none_int b t
  |str b=>obtain⟨t,rfl⟩:=rx;exact SeqAt.EqAt.none_str b t
  |_=>exact absurd (show false=true from fx) acY
 | bl a=>
  cases ry;cases x with
  |non=>cases rx;exact SeqAt.EqAt.bool_none a
  |bl b=>cases rx;exact SeqAt.EqAt.bool_bool a b
  |int b=>obtain⟨t,rfl⟩:=rx;exact SeqAt.EqAt.bool_int a b t
  |str b=>obtain⟨t,rfl⟩:=rx;exact SeqAt.EqAt.bool_str a b t
  |_=>exact absurd (show false=true from fx) acY
 | int a=>
  obtain⟨t',rfl⟩:=ry;cases x with
  |non=>cases rx;exact SeqAt.EqAt.int_none a t'
  |bl b=>cases rx;exact SeqAt.EqAt.int_bool a t' b
  |int b=>obtain⟨t,rfl⟩:=rx;exact afD a t' b t
  |str b=>obtain⟨t,rfl⟩:=rx;exact ahC a t' b t
  |_=>exact absurd (show false=true from fx) acY
 | str a=>
  obtain⟨t',rfl⟩:=ry;cases x with
  |non=>cases rx;exact SeqAt.EqAt.str_none a t'
  |bl b=>cases rx;exact SeqAt.EqAt.str_bool a t' b
  |int b=>obtain⟨t,rfl⟩:=rx;exact ahD a t' b t
  |str b=>obtain⟨t,rfl⟩:=rx;exact SeqAt.EqAt.str_str a t' b t
  |_=>exact absurd (show false=true from fx) acY
 |_=>exact absurd (show false=true from fy) acY
def eqU(x:V)(u:acB):Bool:=match u with
 | .none=>eqV .non x
 | .bool b=>eqV (.bl b) x
 | .int i _=>eqV (.int i) x
 | .str z _=>eqV (.str z) x
 |_=>false
theorem eqU_of{x y:V}{u:acB}(r:RelV y u)(f:flatV y=true):eqU x u=eqV y x:=by
 cases y with
 |non=>cases r;rfl
 |bl b=>cases r;rfl
 |int i=>obtain⟨t,rfl⟩:=r;rfl
 |str z=>obtain⟨t,rfl⟩:=r;rfl
 |_=>exact absurd (show false=true from f) acY
theorem any_eqU{x:V}:∀{xs:List V} {us:List acB},Vals xs us->xs.all flatV=true->us.any (eqU x)=xs.any λy=>eqV y x
 |_,_,.nil,_=>rfl
 | y::xs,u::us,.cons r t,f=>by
  rw[aeJ,adU] at f;rw[agI,agI,eqU_of r f.1,any_eqU t f.2]
theorem mem_eqAt{A:acO}{s:acC}{x:V}{v:acB}(rx:RelV x v)(fx:flatV x=true):∀{xs:List V} {us:List acB},Vals xs us->xs.all flatV=true->∀u∈us,SeqAt.EqAt A s u v (eqU x u)
 |_,_,.nil,_=>λu hu=>by cases hu
 | y::xs,u::us,.cons r t,f=>λu' hu=>by
  rw[aeJ,adU] at f;rcases acR.mp hu with rfl |hu
  ·rw[eqU_of r f.1];exact eqAt_V r rx f.1 fx
  ·exact mem_eqAt rx fx t f.2 u' hu
def inV(x:V)(xs:List V):Bool:=xs.any λy=>eqV y x
def rIn(K:PySem.W.Frag)(neg:Bool):R2:=λx y H Q=>∃p xs,y= .ref p/\(SqL K H p xs\/SqT K H p xs)/\flatV x=true/\xs.all flatV=true/\Q (.bl (if neg then !inV x xs else inV x xs)) H
theorem op_in_seq:OpR X (ac1 .In) (rIn X.K false):=by
 intro pins s σ H x y v u Q I rx ry h;obtain⟨p,xs,rfl,hq,fx,fs,q⟩:=h;cases ry;rcases hq with hq |hq
 ·obtain⟨its,r,pl,hz⟩:=I.list hq;refine SeqAt.in_listAt (eqU x) pl.isList (λw hw=>mem_eqAt rx fx r fs w (by simpa using hw)) ⟨.bl _,H,I,rfl,?_⟩;rw[show its.toArray.any (eqU x)=its.any (eqU x) by simp,any_eqU r fs];exact q
 ·obtain⟨its,r,pl,hz⟩:=I.tuple hq;refine SeqAt.in_tupleAt (eqU x) pl (λw hw=>mem_eqAt rx fx r fs w (by simpa using hw)) ⟨.bl _,H,I,rfl,?_⟩;rw[show its.toArray.any (eqU x)=its.any (eqU x) by simp,any_eqU r fs];exact q
theorem op_notIn_seq:OpR X (ac1 .NotIn) (rIn X.K true):=by
 intro pins s σ H x y v u Q I rx ry h;obtain⟨p,xs,rfl,hq,fx,fs,q⟩:=h;cases ry;rcases hq with hq |hq
 ·obtain⟨its,r,pl,hz⟩:=I.list hq;refine SeqAt.notIn_listAt (eqU x) pl.isList (λw hw=>mem_eqAt rx fx r fs w (by simpa using hw)) ⟨.bl _,H,I,rfl,?_⟩;rw[show its.toArray.any (eqU x)=its.any (eqU x) by simp,any_eqU r fs];exact q
 ·obtain⟨its,r,pl,hz⟩:=I.tuple hq;refine SeqAt.notIn_tupleAt (eqU x) pl (λw hw=>mem_eqAt rx fx r fs w (by simpa using hw)) ⟨.bl _,H,I,rfl,?_⟩;rw[show its.toArray.any (eqU x)=its.any (eqU x) by simp,any_eqU r fs];exact q
theorem call_len_seq:CallR X (.builtin "len") (λxs H Q=>∃p ys,xs=[.ref p]/\(SqL X.K H p ys\/SqT X.K H p ys)/\Q (.int ys.length) H):=by
 intro pins s σ H xs us Q I r h;obtain⟨p,ys,rfl,hq,q⟩:=h;obtain⟨u,rfl,rx⟩:=vals1 r;cases rx;have hn:=line63;rcases hq with hq |hq
 ·obtain⟨its,r',pl,hz⟩:=I.list hq;have hlen:=r'.length;exact Calls.call_len_list pl.isList (by simp only[z1c] <;> omega) ⟨.int ys.length,H,I.tok _,⟨s.toks+1,by rw[z1c,hlen]⟩,q⟩
 ·obtain⟨its,r',pl,hz⟩:=I.tuple hq;have hlen:=r'.length;exact len_tuple pl (by simp only[z1c] <;> omega) ⟨.int ys.length,H,I.tok _,⟨s.toks+1,by rw[z1c,hlen]⟩,q⟩
theorem call_tuple_of:CallR X (.type "tuple") (λxs H Q=>∃p ys,xs=[.ref p]/\((SqL X.K H p ys/\∀l,H l=none->Q (.ref l) (upd H l (.tup ys)))\/(SqT X.K H p ys/\Q (.ref p) H))):=by
 intro pins s σ H xs us Q I r h;obtain⟨p,ys,rfl,h⟩:=h;obtain⟨u,rfl,rx⟩:=vals1 r;cases rx;rcases h with⟨hq,q⟩ |⟨hq,q⟩
 ·obtain⟨its,r',pl,hz⟩:=I.list hq;have hlen:=r'.length;refine call_tuple_list pl.isList (λh' kp=>?_) (by simp only[z1c] <;> omega);have I1:Inv X pins σ H {s with heap:=h'}:=I.kept (t':=s.toks) kp;have I2:Inv X pins σ (upd H h'.objs.size (.tup ys)) {s with heap:=h'.push {cls:= .type "tuple",data:= .seq its.toArray}}:=
   I1.laid (t':=s.toks) (λb o e=>z1a _ e) (z0g _) (show ObjOk X.prog X.w _ _ _ (.tup ys) from⟨hz,its,r',tM.new _ _⟩)
  exact⟨.ref h'.objs.size,_,I2,rfl,q _ (I1.hok.fresh (z0g _))⟩
 ·obtain⟨its,r',pl,hz⟩:=I.tuple hq;exact call_tuple_same pl ⟨.ref p,H,I,rfl,q⟩
def tyV(K:PySem.W.Frag)(T:String)(x:V)(H:Hp):Prop:=match x with
 | .str _=>T= "str"
 | .int _=>T= "int"
 | .ref p=>(T= "list"/\∃xs,SqL K H p xs)\/(T= "tuple"/\∃xs,SqT K H p xs)\/
   (T= "dict"/\((∃kvs,H p=some (.dK kvs))\/∃kvs,H p=some (.dT kvs)))\/(T= "set"/\∃S n,H p=some (.set S n))
 |_=>False
theorem tyV_is{pins:List (acA×Obj)}{σ:St}{H:Hp}{s:acC}{T:String}{x:V}{v:acB}(I:Inv X pins σ H s)(r:RelV x v)(ty:tyV X.K T x H):
  s.TypeIs v T/\∀a,v= .ref a->∃ob,s.heap.get? a=some ob/\ob.dict=none:=by
 cases x with
 | str z=>
  obtain⟨t,rfl⟩:=r;cases (show T= "str" from ty);exact⟨agX s z t,λ_ e=>nomatch e⟩
 | int i=>
  obtain⟨t,rfl⟩:=r;cases (show T= "int" from ty);exact⟨agY s i t,λ_ e=>nomatch e⟩
 | ref p =>
  cases r;rcases ty with⟨rfl,xs,hq⟩ |⟨rfl,xs,h |⟨o,its,n,hk,hc,hd,_⟩⟩ |⟨rfl,hk⟩ |⟨rfl,S,n,hk⟩
  ·obtain⟨its,_,pl,_⟩:=I.list hq;refine⟨pl.isList.typeIs,λa e=>?_⟩;cases e;obtain⟨o,n,e,c,hd,_⟩:=pl;exact⟨o,e,hd⟩
  ·obtain⟨_,its,_,o,e1,c1,d1,_⟩:=h.ok I.hok;refine⟨⟨o,e1,c1⟩,λa e=>?_⟩;cases e;exact⟨o,e1,d1⟩
  ·refine⟨⟨o,I.kIn p o hk,hc⟩,λa e=>?_⟩;cases e;exact⟨o,I.kIn _ o hk,hd⟩
  ·have z:∃o,s.heap.get? p=some o/\o.ExactDict:=by
    rcases hk with⟨kvs,hk⟩ |⟨kvs,hk⟩
    ·obtain⟨_,_,_,_,o,_,_,e,ex,_⟩:=I.hok p _ hk;exact⟨o,e,ex⟩
    ·obtain⟨_,_,_,_,o,_,_,e,ex,_⟩:=I.hok p _ hk;exact⟨o,e,ex⟩
   obtain⟨o,e,ex⟩:=z;refine⟨⟨o,e,ex.1⟩,λa e2=>?_⟩;cases e2;exact⟨o,e,ex.2.1⟩
  ·obtain⟨o,_,_,_,e,ex,_⟩:=I.hok p _ hk;refine⟨⟨o,e,ex.1⟩,λa e2=>?_⟩;cases e2;exact⟨o,e,ex.2.1⟩
 |_=>exact ac5 ty
def tBM(K:PySem.W.Frag)(T:String)(r:V->List V->Hp->VK->Prop)(to:TE)(t:TA):TE:=λσ H Q=>to σ H λx H1=>tyV K T x H1/\t σ H1 λxs H2=>r x xs H2 Q
variable{o e:acI}{es:List acI}{to:TE}{t:TA}{name:Str}{apos cpos:Pos}{T id:String}{r:V->List V->Hp->VK->Prop}
theorem pe_bm(pa:PlainAttrs T)(slot:Slot T name id)(hty:typeOf (.builtin id)=pure (.type "method_descriptor"))(hm:MtR X id r)(ho:PE X o to)(ha:PA X (e::es) t)
  (hbase:afo o name X.env (eval o X.env)=eval o X.env:=by rfl)
  (hfew:((adg cpos (acE (e::es) X.env)).all (λx=> !x.1) && (ad5 cpos (adx [] X.env)).all (λx=>x.1.isSome)
   && decide ((e::es).length+([]:List aei).length+(if ([]:List aei).isEmpty then 0 else 1)<30))=true:=by rfl)
  (hline:(apos.endLine ==cpos.line)=true:=by rfl) (hs:acE (e::es) X.env=(false,eval e X.env)::acE es X.env:=by rfl) (hplain:(adg cpos (acE es X.env)).any (·.1)=false:=by rfl):
  PE X (.Call (.Attribute o name apos) (e::es) [] cpos) (tBM X.K T r to t):=by
 intro pins s σ H Q I h;refine wpAny_Call_method_late hbase hfew hline rfl (thn (ho pins s σ H _ I h) λv s1 bA=>?_);obtain⟨x,H1,I1,r1,ty,q1⟩:=bA;obtain⟨h1,h2⟩:=tyV_is I1 r1 ty;refine⟨T,id,pa,slot,hty,h1,h2,?_⟩;have hA:=ha cpos pins s1 σ H1 _ I1 q1;rw[hs] at hA |-;refine aht (by show (false || (adg cpos (acE es X.env)).any (·.1))=false;rw[hplain] <;> rfl) (afg ?_);refine thn hA λus s2 bA=>?_;obtain⟨vs,H2,I2,r2,q2⟩:=bA;exact hm pins s2 σ H2 x vs v us Q I2 r1 r2 q2
end
def MtM(X:Cx)(id:String)(r:V->List V->Hp->VK->Prop):Prop:=
 ∀(pins:List (acA×Obj)) (s:acC) (σ:St) (H:Hp) (x:V) (xs:List V) (v:acB) (us:List acB) (Q:VK),Inv X pins σ H s->RelV x v->Vals xs us->r x xs H Q->
  acG (model X.prog X.w) X.A (call (.builtin id) (v::us)) (EP X pins σ Q) X.xe s
theorem Vals.one:∀{x:V} {us:List acB},Vals [x] us->∃u,us=[u]/\RelV x u
 | _,_,h=>by
  cases h with
  |cons r t=>cases t;exact⟨_,rfl,r⟩
theorem Vals.rep{xs:List V}{us:List acB}(h:Vals xs us):∀k:Nat,Vals (acH k xs).flatten (acH k us).flatten
 |0=> .nil
 | k+1=>by
  rw[adF,adF,aer,aer];exact Vals.append h (Vals.rep h k)
theorem foldl_rep(its:List acB):∀(k:Nat) (acc:List acB),
  agZ (λx1 x2=>x1++x2) acc.toArray (acH k its.toArray)=(acc++(acH k its).flatten).toArray
 |0,acc=>by simp
 | k +1,acc=>by
  have e:acc.toArray++its.toArray=(acc++its).toArray:=by simp
  have e2:(acc++its)++(acH k its).flatten=acc++(acH (k+1) its).flatten:=by
   rw[adF,aer,aeg]
  rw[<-e2,<-foldl_rep its k (acc++its),<-e,adF,List.foldl_cons]
section
variable{X:Cx}{pins:List (acA×Obj)}{σ:St}{H:Hp}{s:acC}{l b:acA}{xs ys zs:List V}
theorem Inv.lset{its its':List acB}{n:Nat}{f:Array acB->Array acB}{t':Nat}(I:Inv X pins σ H s)(hH:H l=some (.lst xs))
  (e:s.heap.get? l=some {cls:= .type "list",data:= .seq its.toArray n})(hf:f its.toArray=its'.toArray)(hv:Vals ys its')(hz:ys.length<=sizeLine):
  Inv X pins σ (upd H l (.lst ys)) {s with heap:=s.heap.update l (ady f),toks:=t'}:=by
 have q:=PySem.IsL.update e f;rw[hf] at q;refine I.write (x:=l) (e:=l) (by rw[hH];exact trivial) (.inl rfl) (λb' u hb hu=>(adV s.heap (ady f) (acN hb)).trans hu) ⟨_,q⟩ ?_;exact⟨hz,its',_,hv,q⟩
theorem Inv.lnew{its:List acB}{t':Nat}(I:Inv X pins σ H s)(hv:Vals ys its)(hz:ys.length<=sizeLine):
  Inv X pins σ (upd H s.heap.objs.size (.lst ys)) {s with heap:=s.heap.push {cls:= .type "list",data:= .seq its.toArray},toks:=t'}:=
 I.laid (λ_ _ q=>z1a _ q) (z0g _) ⟨hz,its,0,hv,z1f _ rfl⟩
theorem Inv.fresh(I:Inv X pins σ H s):H s.heap.objs.size=none:=I.hok.fresh (z0g _)
theorem Inv.lstM(I:Inv X pins σ H s)(hH:H l=some (.lst xs)):xs.length<=sizeLine/\∃(its:List acB) (n:Nat),Vals xs its/\xs.length=its.length/\s.heap.get? l=some {cls:= .type "list",data:= .seq its.toArray n}:=by
 obtain⟨z,its,n,r,e⟩:=I.hok l _ hH;exact⟨z,its,n,r,r.length,e⟩
end
section
variable{X:Cx}
def rAppend:V->List V->Hp->VK->Prop:=λx vs H Q=>∃l xs y,x= .ref l/\vs=[y]/\H l=some (.lst xs)/\xs.length<sizeLine/\Q .non (upd H l (.lst (xs++[y])))
theorem mt_append:MtM X "list.append" rAppend:=by
 intro pins s σ H x vs v us Q I rx rv h;obtain⟨l,xs,y,rfl,rfl,hH,hz,q⟩:=h;cases rx;obtain⟨u,rfl,ru⟩:=rv.one;obtain⟨z,its,n,r,hl,e⟩:=I.lstM hH;refine afh F.slot_list_append ⟨_,e,rfl⟩ F.entry_list_append (F.args_list_append_2 _ _) (PySem.list_append l its.toArray n u (by rw[z1c];omega)) ⟨e,?_⟩;refine⟨.non,_,I.lset (its':=its++[u]) hH e (by simp) (r.append (.cons ru .nil)) ?_,rfl,q⟩;rw[z1d,aem];omega
theorem len_rep{α:Type}(xs:List α)(k:Nat):(acH k xs).flatten.length=k*xs.length:=by
 induction k with
 |zero=>simp
 |succ k ih=>rw[adF,aer,z1d,ih,Nat.succ_mul,Nat.add_comm]
end
section
variable{prog:acL}{w:acQ}{A:acO}{E:acB->acC->Prop}{s:acC}
end
section
variable{X:Cx}
end
section
variable{κ:Type}[DecidableEq κ]
end
section
variable{P:acL}{w:acQ}{H:Hp}{h:acP}{a:acA}
end
section
variable{X:Cx}{pins:List (acA×Obj)}{σ:St}{H:Hp}{s:acC}{a:acA}{y v:V}{u r:acB}{o:Option V}{A:acO}{E:acB->acC->Prop}
end
section
variable{X:Cx}{pins:List (acA×Obj)}{σ:St}{H:Hp}{s:acC}{a:acA}{kvs:List (Key×V)}{k:Key}{u:acB}{A:acO}{E:acB->acC->Prop}
end
section
variable{X:Cx}{o i e value:acI}{pos pos' tpos:Pos}{td ty tv:TE}
end
section
variable{X:Cx}{pos:Pos}
end
section
variable{X:Cx}{pins:List (acA×Obj)}{σ:St}{H:Hp}{s:acC}{a:acA}{y d:V}{u r:acB}{o:Option V}{A:acO}{E:acB->acC->Prop}
end
section
variable{X:Cx}{o e f:acI}{apos cpos:Pos}{td ty tx:TE}
end
section
variable{X:Cx}{pins:List (acA×Obj)}{σ:St}{H:Hp}{s:acC}{a:acA}{kvs:List (Key×V)}{A:acO}{E:acB->acC->Prop}
end
section
variable{X:Cx}{pins:List (acA×Obj)}{σ:St}{H:Hp}{s:acC}{a:acA}{y:V}{u:acB}{A:acO}{E:acB->acC->Prop}
end
end L2
namespace Att
open PySem PySem.W PySem.Calls PyProof.Rows
theorem ints_of_wellAll{P:Params}{h:acP}:∀(ns:List Int) (vs:List acB),WellAll P h vs (ns.map WData.int)->aeD vs ns:=by
 intro ns
 induction ns with
 | nil=>
  intro vs w;rw[afa] at w;cases w;exact .nil
 | cons n ns ih=>
  intro vs w;rw[z1h] at w;cases w with
  | cons a b=>
   cases a;exact .cons _ _ (ih _ b)
theorem script_of{l:OpenLaw}{n:Nat}(hn:l.most=some n){P:Params}{h:acP}{args:List WData}{vals:List acB}
  (hpre:l.row.toRowW.claim.pre args=true)(hwl:WellAll P h vals args):
  ∃a vs ns,vals=[acM a]/\args=[WData.list (ns.map WData.int)]/\h.get? a=some {cls:= .type "list",data:= .seq vs.toArray}/\aeD vs ns/\ns.length<=n:=by
 have hsh:WShape.hasAll [] args [.list .int]=true:=(pre_splitW hpre).1;have hc:l.pre.holds [] {args:=args}=true:=(pre_splitW hpre).2;obtain⟨d,r,rfl,h1,h2⟩:=hasAllW_cons hsh;obtain rfl:=hasAllW_nil h2;obtain⟨xs,rfl,h3⟩:=hasW_list h1;obtain⟨ns,rfl⟩:=items_int h3;have hlen:ns.length<=n:=by
  unfold OpenLaw.pre at hc;have h4:(WTm.not (.lt (.lit (.int (n:Int))) (.len (.arg 0)))).holds [] {args:=[.list (ns.map .int)]}=true:=by
   have h4:=(holds_andW hc).1;rw[hn] at h4;exact h4
  have h5:=condW_of h4 (w_not (w_lt w_lit (w_len_list (w_arg rfl))));rw[z1g] at h5;refine Nat.le_of_not_lt λq=>?_;have q':(n:Int)<((ns.length:Nat):Int):=by omega
  first
   |(rw[decide_eq_true q'] at h5;exact absurd h5 (by decide))
   |(simp at h5;omega)
 cases hwl with
 | cons w1 w2=>
  cases w2;cases w1 with
  |list ho hall=>exact⟨_,_,ns,rfl,rfl,ho,ints_of_wellAll ns _ hall,hlen⟩
theorem post_true(l:OpenLaw)(args:List WData):l.row.toRowW.claim.post args (.bool true) args=true:=
 postW_of (r:=l.row.toRowW) (X:=(true ==true))
  (show WShape.has [] (.bool true) .bool=true by first |rfl |decide |simp[WShape.has,WShape.arms,WShape.armsAll])
  (show (WTm.eq .res (.lit (.bool true))).value [] {args:=args,res:=some (.bool true),after:=args}=some (.bool (true ==true)) from w_eq_bool (w_res rfl) w_lit) rfl
theorem attach_call{l:OpenLaw}{n:Nat}{q:acL}{loose:List Str}{XP:(Str->Option acB)->acP->Prop}{YP:acQ->acP->Prop}{d:DefRec}
  (hn:l.most=some n)(hdf:d.params.defaults=[])
  (call:∀(w:acQ) (s₀ s₁:acC) (mg mb:Str->Option acB) (fa:acA) (o:Obj) (pm cd doc:acB) (a:acA) (vs:List acB) (ns:List Int),
   Ground q loose [] XP w s₀ mg mb s₁.heap->YP w s₁.heap->
   s₁.heap.get? fa=some o->o.data= .func (docDef d.name d.params d.body d.scope pm cd doc)->s₁.heap.CodeRec cd d.name->mg d.name=some (.ref fa)->
   s₁.heap.get? a=some {cls:= .type "list",data:= .seq vs.toArray}->aeD vs ns->ns.length<=n->s₁.gens= #[]->
   afr (model l.prog w) aeZ (.call (.ref fa) ⟨[.ref a],[]⟩) (λr s'=>r= .ok (.ret (.bool true))/\OldK s₁.heap s'.heap/\s'.os=s₁.os/\ae9 s'.gens) s₁):
  WalkO q loose XP YP l.row.toRowW d [] (λf vs=>PySem.call f vs):=by
 intro w s₀ s₁ mg mb G Y fa o pm cd doc dV kV ho hd hcd hD hmg hg args vals as hpre hlay hrd hwl hlo;obtain rfl:dV= .none:=Dflts.none hD hdf;obtain rfl:kV= .none:=Dflts.noKw hD;obtain⟨a,vs,ns,rfl,rfl,hobj,hints,hlen⟩:=script_of hn hpre hwl;refine enter_call (aeB (call w s₀ s₁ mg mb fa o pm cd doc a vs ns G Y ho (fd_plain hd) hcd hmg hobj hints hlen hg) λr s' hq=>?_);obtain⟨rfl,h2,h3,h4⟩:=hq;exact⟨.inl ⟨.bool true,.bool true,[],rfl,λ_=>rfl,.bool true,post_true l _,λ_=>⟨agQ,λ_ hm=>(nomatch hm)⟩⟩,h2,h3,h4⟩
section
variable{prog:acL}{w:acQ}{A:acO}{E:acB->acC->Prop}{s:acC}{K:Frag}
end
end Att
namespace L2
open PySem PySem.Spec PyProof.Rows
variable{fd:adh}{st:acS}{x qual:Str}
theorem vals_ints:∀{vs:List acB} {ns:List Int},aeD vs ns->Vals (ns.map V.int) vs
 :=by
 intro vs ns h
 induction h with
 |nil=>exact .nil
 |cons n t h ih=>exact .cons ⟨t,rfl⟩ ih
def Only(H:Hp):Prop:=∀b,H b=none\/∃o xs,H b=some (.frz o (.lst xs))
theorem law_call {P:Program} {w:World} {K:PySem.W.Frag} {mg mb:Str→Option Value} {CX:CXT} {k:Nat} {fa a:Addr} {sp:Sp} {s₁:Shared} {vs:List Value} {ns:List Int}
    (KX:K.In s₁.heap)(hns:s₁.heap.Ns acK mg)(hb:s₁.heap.Ns ae1 mb)(hbb:∀x:Str,x≠"__name__"→mb x=aea x)(hlim:s₁.heap.NoLimit)(hg:s₁.gens= #[])
    (ha:s₁.heap.get? a=some {cls:= .type "list",data:= .seq vs.toArray})(hi:aeD vs ns)(hl:ns.length≤sizeLine)(hr:Room k aeZ)
    (F:∀base:acP,K.In base→base.Ns acK mg→FnOk P w K mg base CX k fa fd [x] sp)(hbind:∀(s:acC) (u:acB),afJ s fd ⟨[u],[]⟩ [(x,u)])
    (hsp:∀H:Hp,Only H→SqL K H a (ns.map V.int)→sp [.ref a] H (fun v _=>v= .bl true) fun _ _ _=>False)
    (hCX:∀H e s',CX [] H s₁ (fun _ _ _=>False) e s'→False):
    afr (model P w) aeZ (.call (.ref fa) ⟨[.ref a],[]⟩) (fun r s'=>r= .ok (.ret (.bool true))∧OldK s₁.heap s'.heap∧s'.os=s₁.os∧ae9 s'.gens) s₁:=by
  have rv:=vals_ints hi
  have lenV:=hi.length
  have core :∀H:Hp,Only H→SqL K H a (ns.map V.int)→HOk P w H s₁.heap→(∀b,H b≠none→b=a)→(H a≠none→K.lookup a=none)→
      afr (model P w) aeZ (.call (.ref fa) ⟨[.ref a],[]⟩) (fun r s'=>r= .ok (.ret (.bool true))∧OldK s₁.heap s'.heap∧s'.os=s₁.os∧ae9 s'.gens) s₁:=by
    intro H hO hS hok hA hK
    have base_of:∀{b:acA} {o:Obj},s₁.heap.get? b=some o→H b=none→(hidT s₁.heap H).get? b=some o:=fun e n=>hidT_get e n
    have noA:∀{b:acA} {o:Obj} {es:Array DictEntry} {ep:Nat},s₁.heap.get? b=some o→o.data= .dict es ep→H b=none:=fun {b o es ep} e d=>by
      cases q:H b with
      |none=>rfl
      | some u=>
        have e':b=a:=hA b (by rw[q];simp)
        subst e'
        rw[ha] at e;cases e
        have d':ahw vs.toArray _=Data.dict es ep:=d
        cases d'
    have nsK:∀{b:acA} {m:Str→Option acB},s₁.heap.Ns b m→(hidT s₁.heap H).Ns b m:=fun {b m} ⟨o,es,ep,e,d,r⟩=>⟨o,es,ep,base_of e (noA e d),d,r⟩
    have hKb:K.In (hidT s₁.heap H):=fun b o e=>base_of (KX b o e) (by
      cases q:H b with
      |none=>rfl
      | some u=>
        have e':b=a:=hA b (by rw[q];simp)
        subst e'
        rw[hK (by rw[q];simp)] at e;cases e)
    have hM:Mod K mg (hidT s₁.heap H):=⟨hKb,nsK hns,⟨mb,nsK hb,hbb⟩,let⟨mc,h1,h2⟩:=hlim;⟨mc,nsK h1,h2⟩⟩
    have e0:Env0 P w K mg (hidT s₁.heap H) aeZ [] s₁ H:=⟨rfl,hM,fun b o e=>of_hidT e,Nat.le_of_eq (hidT_size _ _),trivial,fun b hb=>absurd (show b∈([]:List acA) from hb) (by simp),hok,.of_eq hg⟩
    refine aeB ((F _ hKb (nsK hns)).run aeZ [] s₁ H ⟨[.ref a],[]⟩ [.ref a] [.ref a] _ _ hr e0 (hbind s₁ (.ref a)) (.cons rfl .nil) (hsp H hO hS)) fun r s' h=>?_
    cases r with
    |error e=>exact (hCX H e s' h).elim
    | ok fl =>
      cases fl with
      |next=>exact ac5 h
      |brk=>exact ac5 h
      |cont=>exact ac5 h
      | ret u=>
        obtain⟨v,H',os,bare,un,hok',r',q⟩:=h
        have q':v= .bl true:=q
        subst q'
        obtain rfl:u=agW true:=r'
        refine⟨rfl,OldK.of_keep fun b o e=>?_,os,bare⟩
        cases q:H b with
        |none=>exact un.keep b o e q (by intro z;exact absurd (show b∈([]:List acA) from z) (by simp)) (by simp)
        | some u=>
          rcases hO b with z |⟨ob,xs,z⟩
          · rw[q] at z;cases z
          · have z2:=un.frzs b ob _ z
            obtain⟨e1,_⟩:=hok b _ z
            obtain⟨e2,_⟩:=hok' b _ z2
            rw[e] at e1;cases e1
            exact e2
  cases hk:K.lookup a with
  | some o=>
    have e:=KX a o hk
    rw[ha] at e
    cases e
    refine core (fun _=>none) (fun _=> .inl rfl) (.inr ⟨_,vs.toArray,_,hk,rfl,rfl,rfl,by rw[agO,lenV];exact hl,by simpa using rv⟩) (fun b u z=>by have z':(none:Option HO)=some u:=z;cases z') (fun b z=>absurd rfl z) fun z=>absurd rfl z
  | none=>
    refine core (fun b=>if b=a then some (.frz {cls:= .type "list",data:= .seq vs.toArray} (.lst (ns.map V.int))) else none) (fun b=>?_) (.inl (.inr ⟨{cls:= .type "list",data:= .seq vs.toArray},if_pos rfl⟩)) (fun b u z=>?_) (fun b z=>?_) fun _=>hk
    · by_cases hb:b=a
      · exact .inr ⟨_,_,if_pos hb⟩
      · exact .inl (if_neg hb)
    · by_cases hb:b=a
      · have z':=(if_pos hb).symm.trans z
        cases z'
        subst hb
        exact⟨ha,by rw[aho];exact hl,vs,_,rv,ha⟩
      · have z':=(if_neg hb).symm.trans z
        cases z'
    · by_cases hb:b=a
      · exact hb
      · exact absurd (if_neg hb) z
theorem walk_of{l:PySem.W.OpenLaw}{n k:Nat}{q:acL}{loose:List Str}{XP:(Str->Option acB)->acP->Prop}{YP:acQ->acP->Prop}{d:DefRec}{K:Params->PySem.W.Frag}{CX:acQ->CXT}{sp:acQ->Sp}
  (hn:l.most=some n)(hn2:n<=sizeLine)(hdf:d.params.defaults=[])(hr:Room k aeZ)
  (hY:∀(w:acQ) (h:acP),YP w h->(K w.params).In h)
  (F:∀(w:acQ) (mg:Str->Option acB) (fa:acA) (h:acP),(K w.params).In h->h.Ns acK mg->mg d.name=some (.ref fa)->
   ∃fd:adh,(∀(s:acC) (u:acB),afJ s fd ⟨[u],[]⟩ [(x,u)])/\
    ∀base:acP,(K w.params).In base->base.Ns acK mg->FnOk l.prog w (K w.params) mg base (CX w) k fa fd [x] (sp w))
  (hsp:∀(w:acQ) (H:Hp) (a:acA) (ns:List Int),ns.length<=n->Only H->SqL (K w.params) H a (ns.map V.int)->sp w [.ref a] H (λv _=>v= .bl true) λ_ _ _=>False)
  (hCX:∀(w:acQ) (H:Hp) (s:acC) (e:acB) (s':acC),CX w [] H s (λ_ _ _=>False) e s'->False):
  PySem.W.WalkO q loose XP YP l.row.toRowW d [] (λf vs=>PySem.call f vs):=by
 refine Att.attach_call hn hdf λw s₀ s₁ mg mb fa o pm cd doc a vs ns G Y ho hd hcd hmg hobj hints hlen hg=>?_;have KX:=hY w _ Y;obtain⟨fd,hb,hF⟩:=F w mg fa _ KX G.T.g hmg;exact law_call KX G.T.g G.T.b G.T.builtins G.T.nolimit hg hobj hints (z0b hlen hn2) hr hF hb (λH hO hS=>hsp w H a ns hlen hO hS) λH e s'=>hCX w H s₁ e s'
def defArgs(s:acS):aeO:=match s with
 | .FunctionDef _ a _ _ _ _ _ _ _ _=>a
 |_=>{posonlyargs:=[],args:=[],vararg:=none,kwonlyargs:=[],kw_defaults:=[],kwarg:=none,defaults:=[]}
def defBody(s:acS):List acS:=match s with
 | .FunctionDef _ _ b _ _ _ _ _ _ _=>b
 |_=>[]
def defScope(s:acS):aec:=match s with
 | .FunctionDef _ _ _ _ _ _ sc _ _ _=>sc
 |_=>{kind:= .function,names:=[],isGenerator:=false,isCoroutine:=false}
abbrev CX0:CXT:=λ_ _ _ _ _ _=>False
abbrev E0:XK:=λ_ _ _=>False
theorem pass0{X:Cx}:Passes CX0 X E0:=λ_ _ _ _ _ _ _ h=>h.elim
inductive XD (K:PySem.W.Frag) (x qual:Str) (st:acS) (f:acA) (fd:adh):Prop
 |mk (oc:acB) (od:Option acA) (kV doc pm:acB) (an:Option acA) (cdv ct:acB) (osl:Array (Option acB)) (e:fd=PySem.W.fnOf x qual (defArgs st) (defBody st) (defScope st) .none kV doc pm an cdv ct) (lk:K.lookup f=some ⟨oc,od,.func fd,osl⟩) (hcd:PySem.W.codeIn K cdv qual=true):XD K x qual st f fd
structure Fun(K:PySem.W.Frag)(x qual:Str)(st:acS)(f:acA)(fd:adh):Prop where
 ex:XD K x qual st f fd
 kp:PySem.W.keepIn K (.ref f)=true
section
variable{P:acL}{w:acQ}{K:PySem.W.Frag}{mg:Str->Option acB}{base:acP}
theorem Fun.ok{f:acA}{N ps:List Str}{k:Nat}{sp:Sp}(F:Fun K x qual st f fd)(S:FnScope N ps (defScope st))(len:∀vs H Q E,sp vs H Q E->vs.length=ps.length)
  (hbody:∀(cdv:acB) (A:acO) (outer:List Env) (s:acC) (H:Hp) (vs:List V) (Q:VK) (E:XK),Room k (A.deeper (aeb qual (defScope st) s.heap.objs.size f cdv))->sp vs H Q E->
   ∃t,PSs (cxOf CX0 P w K mg base N qual (defScope st) f cdv A outer s H E).nox (defBody st) t/\t {nx:=λ_ H'=>Q .non H',rt:=Q} (start N vs) H):FnOk P w K mg base CX0 (k+1) f fd ps sp:=by
 obtain⟨oc,od,kV,doc,pm,an,cdv,ct,osl,rfl,lk,hcd⟩:=F.ex;refine fn_of lk hcd S len λA outer s H vs Q E hr hsp=>?_;obtain⟨t,h,q⟩:=hbody cdv A outer s H vs Q E hr hsp;exact⟨t,h.nox,q⟩
theorem Fun.binds{f:acA}{ps:List Str}(F:Fun K x qual st f fd)
  (h:∀(kV doc pm:acB) (an:Option acA) (cdv ct:acB) (us:List acB),us.length=ps.length->aeR (PySem.W.fnOf x qual (defArgs st) (defBody st) (defScope st) .none kV doc pm an cdv ct) ⟨us,[]⟩=pure (ps.zip us)):Binds K fd ps []:=by
 obtain⟨oc,od,kV,doc,pm,an,cdv,ct,osl,rfl,lk,hcd⟩:=F.ex;exact .all (h kV doc pm an cdv ct)
theorem fun_mk{f:acA}{oc:acB}{od an:Option acA}{osl:Array (Option acB)}{kV doc pm cdv ct:acB}(l:K.lookup f=some ⟨oc,od,.func (PySem.W.fnOf x qual (defArgs st) (defBody st) (defScope st) .none kV doc pm an cdv ct),osl⟩)
  (c:PySem.W.codeIn K cdv qual=true)(k:PySem.W.keepIn K (.ref f)=true):Fun K x qual st f (PySem.W.fnOf x qual (defArgs st) (defBody st) (defScope st) .none kV doc pm an cdv ct):=⟨⟨oc,od,kV,doc,pm,an,cdv,ct,osl,rfl,l,c⟩,k⟩
end
section
variable{X:Cx}
end
def Same(H H':Hp):Prop:=∀b o,H b=some o->H' b=some o
theorem Same.refl(H:Hp):Same H H:=λ_ _ h=>h
theorem Same.trans{H H1 H2:Hp}(a:Same H H1)(b:Same H1 H2):Same H H2:=λc o h=>b c o (a c o h)
theorem Same.free{H H':Hp}(e:Same H H'){l:acA}(h:H' l=Option.none):H l=Option.none:=by
 cases q:H l with
 |none=>rfl
 | some o=>
  rw[e l o q] at h;cases h
section
variable{κ:Type}[DecidableEq κ]
end
end L2
namespace Pu
open PySem PySem.Spec L2
open PyProof.Rows hiding St
inductive D where
 |non |bl (b:Bool) |int (i:Int) |str (x:Str) |tup (xs:List D) |lst (xs:List D)
inductive R (α:Type) where
 |bad |ok (a:α) |err (c:Str)
namespace R
def bind{α β:Type}(r:R α)(k:α->R β):R β:=match r with
 | .ok a=>k a
 | .err c=> .err c
 | .bad=> .bad
@[simp] theorem bw {α β:Type} (a:α) (k:α->R β):(R.ok a).bind k=k a:=rfl
end R
mutual
def Rep(K:PySem.W.Frag)(O:acA->Prop)(H:Hp):D->V->Prop
 | .non,v=>v= .non
 | .bl b,v=>v= .bl b
 | .int i,v=>v= .int i
 | .str x,v=>v= .str x
 | .tup ds,v=>∃a xs,v= .ref a/\SqT K H a xs/\aO K O H ds xs
 | .lst ds,v=>∃a xs,v= .ref a/\SqL K H a xs/\¬O a/\aO K O H ds xs
def aO(K:PySem.W.Frag)(O:acA->Prop)(H:Hp):List D->List V->Prop
 |[],xs=>xs=[]
 |d::ds,xs=>∃x r,xs=x::r/\Rep K O H d x/\aO K O H ds r
end
structure Ext(O:acA->Prop)(H H':Hp):Prop where
 tup:∀b xs,Rd H b (.tup xs)->Rd H' b (.tup xs)
 lst:∀b xs,¬O b->Rd H b (.lst xs)->Rd H' b (.lst xs)
section
variable{K:PySem.W.Frag}{O O':acA->Prop}{H H':Hp}
theorem SqL.ext(e:Ext O H H'){a:acA}{xs:List V}(n:¬O a)(h:SqL K H a xs):SqL K H' a xs:=by
 rcases h with h |h
 ·exact .inl (e.lst _ _ n h)
 ·exact .inr h
theorem SqT.ext(e:Ext O H H'){a:acA}{xs:List V}(h:SqT K H a xs):SqT K H' a xs:=by
 rcases h with h |h
 ·exact .inl (e.tup _ _ h)
 ·exact .inr h
mutual
theorem Rep.ext(e:Ext O H H')(o:∀b xs,¬O b->SqL K H b xs->¬O' b):∀(d:D) (v:V),Rep K O H d v->Rep K O' H' d v
 | .non,_,h=>by simpa only[Rep] using h
 | .bl _,_,h=>by simpa only[Rep] using h
 | .int _,_,h=>by simpa only[Rep] using h
 | .str _,_,h=>by simpa only[Rep] using h
 | .tup ds,v,h=>by
  simp only[Rep] at h |-;obtain⟨a,xs,e1,h1,h2⟩:=h;exact⟨a,xs,e1,SqT.ext e h1,aO.ext e o ds xs h2⟩
 | .lst ds,v,h=>by
  simp only[Rep] at h |-;obtain⟨a,xs,e1,h1,h2,h3⟩:=h;exact⟨a,xs,e1,SqL.ext e h2 h1,o _ _ h2 h1,aO.ext e o ds xs h3⟩
theorem aO.ext(e:Ext O H H')(o:∀b xs,¬O b->SqL K H b xs->¬O' b):∀(ds:List D) (xs:List V),aO K O H ds xs->aO K O' H' ds xs
 |[],xs,h=>by simpa only[aO] using h
 | d::ds,xs,h=>by
  simp only[aO] at h |-;obtain⟨x,r,e1,h1,h2⟩:=h;exact⟨x,r,e1,Rep.ext e o d x h1,aO.ext e o ds r h2⟩
end
end
structure eN(K:PySem.W.Frag)(O:acA->Prop)(H:Hp)(O':acA->Prop)(H':Hp):Prop where
 ext:Ext O H H'
 new:∀a,O' a->O a\/(H a=none/\K.lookup a=none)
 dom:∀a,H' a=none->H a=none
section
variable{K:PySem.W.Frag}{O O1 O2:acA->Prop}{H H1 H2:Hp}
theorem Rd.some{a:acA}{u:HO}(h:Rd H a u):H a≠none:=by
 rcases h with h |⟨o,h⟩ <;> rw[h] <;> simp
theorem eN.out(r:eN K O H O1 H1)(b:acA)(xs:List V)(n:¬O b)(h:SqL K H b xs):¬O1 b:=λz=>by
 rcases r.new b z with z |⟨z1,z2⟩
 ·exact n z
 ·rcases h with h |⟨o,_,_,h,_⟩
  ·exact Rd.some h z1
  ·rw[z2] at h;cases h
theorem eN.refl:eN K O H O H:=⟨⟨λ_ _ h=>h,λ_ _ _ h=>h⟩,λ_ h=> .inl h,λ_ h=>h⟩
theorem eN.trans(r:eN K O H O1 H1)(q:eN K O1 H1 O2 H2):eN K O H O2 H2 where
 ext:=⟨λb xs h=>q.ext.tup b xs (r.ext.tup b xs h),λb xs n h=>q.ext.lst b xs (r.out b xs n (.inl h)) (r.ext.lst b xs n h)⟩
 new:=λa z=>(q.new a z).elim (r.new a) λw=> .inr ⟨r.dom a w.1,w.2⟩
 dom:=λa z=>r.dom a (q.dom a z)
theorem Same.rd(s:Same H H1){a:acA}{u:HO}(h:Rd H a u):Rd H1 a u:=by
 rcases h with h |⟨o,h⟩
 ·exact .inl (s _ _ h)
 ·exact .inr ⟨o,s _ _ h⟩
theorem Same.dM(s:Same H H1):eN K O H O H1:=⟨⟨λ_ _ h=>Same.rd s h,λ_ _ _ h=>Same.rd s h⟩,λ_ h=> .inl h,λ_ h=>s.free h⟩
theorem Rep.go(r:eN K O H O1 H1){d:D}{v:V}(h:Rep K O H d v):Rep K O1 H1 d v:=Rep.ext r.ext r.out d v h
theorem aO.go(r:eN K O H O1 H1){d:List D}{v:List V}(h:aO K O H d v):aO K O1 H1 d v:=aO.ext r.ext r.out d v h
theorem Rep.same(s:Same H H1){d:D}{v:V}(h:Rep K O H d v):Rep K O H1 d v:=h.go (Same.dM s)
theorem aO.same(s:Same H H1){d:List D}{v:List V}(h:aO K O H d v):aO K O H1 d v:=h.go (Same.dM s)
theorem Rep.fewer(w:∀a,O1 a->O a){d:D}{v:V}(h:Rep K O H d v):Rep K O1 H d v:=Rep.ext ⟨λ_ _ h=>h,λ_ _ _ h=>h⟩ (λb _ n _ z=>n (w b z)) d v h
theorem aO.fewer(w:∀a,O1 a->O a){d:List D}{v:List V}(h:aO K O H d v):aO K O1 H d v:=aO.ext ⟨λ_ _ h=>h,λ_ _ _ h=>h⟩ (λb _ n _ z=>n (w b z)) d v h
theorem aO.nil:aO K O H [] []:=by simp only[aO]
theorem aO.cons{d:D}{v:V}{ds:List D}{vs:List V}(h:Rep K O H d v)(t:aO K O H ds vs):aO K O H (d::ds) (v::vs):=by simp only[aO];exact⟨v,vs,rfl,h,t⟩
theorem aO.cons_inv{d:D}{ds:List D}{vs:List V}(h:aO K O H (d::ds) vs):∃x r,vs=x::r/\Rep K O H d x/\aO K O H ds r:=by simpa only[aO] using h
theorem aO.nil_inv{vs:List V}(h:aO K O H [] vs):vs=[]:=by simpa only[aO] using h
theorem aO.length:∀{ds:List D} {vs:List V},aO K O H ds vs->ds.length=vs.length
 |[],vs,h=>by rw[h.nil_inv];rfl
 | d::ds,vs,h=>by
  obtain⟨x,r,rfl,_,t⟩:=h.cons_inv;simp[aO.length t]
theorem aO.get:∀{ds:List D} {vs:List V} {i:Nat} {d:D},aO K O H ds vs->ds[i]?=some d->∃v,vs[i]?=some v/\Rep K O H d v
 |[],_,_,_,_,e=>by simp at e
 | d::ds,vs,i,d',h,e=>by
  obtain⟨x,r,rfl,h1,t⟩:=h.cons_inv;cases i with
  |zero=>simp at e;subst e;exact⟨x,rfl,h1⟩
  |succ i=>simpa using aO.get t (i:=i) (by simpa using e)
theorem aO.bF{ds:List D}{vs:List V}{i:Nat}{v:V}(h:aO K O H ds vs)(e:vs[i]?=some v):∃d,ds[i]?=some d/\Rep K O H d v:=by
 have hl:=h.length;have hi:i<ds.length:=by rw[hl];exact (z1b e).1
 obtain⟨v',e',r⟩:=h.get (i:=i) (d:=ds[i]) (by simp[hi]);rw[e] at e';cases e';exact⟨_,by simp[hi],r⟩
theorem aO.append:∀{ds es:List D} {vs ws:List V},aO K O H ds vs->aO K O H es ws->aO K O H (ds++es) (vs++ws)
 |[],_,vs,_,h,t=>by rw[h.nil_inv];exact t
 | d::ds,es,vs,ws,h,t=>by
  obtain⟨x,r,rfl,h1,h2⟩:=h.cons_inv;exact .cons h1 (aO.append h2 t)
theorem aO.reverse:∀{ds:List D} {vs:List V},aO K O H ds vs->aO K O H ds.reverse vs.reverse
 |[],vs,h=>by rw[h.nil_inv];exact .nil
 | d::ds,vs,h=>by
  obtain⟨x,r,rfl,h1,h2⟩:=h.cons_inv;simp only[List.reverse_cons];exact h2.reverse.append (.cons h1 .nil)
theorem aO.drop:∀{ds:List D} {vs:List V} (n:Nat),aO K O H ds vs->aO K O H (ds.drop n) (vs.drop n)
 |_,_,0,h=>h
 |[],vs,n+1,h=>by rw[h.nil_inv];exact .nil
 | d::ds,vs,n+1,h=>by
  obtain⟨x,r,rfl,h1,h2⟩:=h.cons_inv;exact h2.drop n
theorem aO.take:∀{ds:List D} {vs:List V} (n:Nat),aO K O H ds vs->aO K O H (ds.take n) (vs.take n)
 |_,_,0,_=>by simpa using aO.nil
 |[],vs,n+1,h=>by rw[h.nil_inv];exact .nil
 | d::ds,vs,n+1,h=>by
  obtain⟨x,r,rfl,h1,h2⟩:=h.cons_inv;exact .cons h1 (h2.take n)
theorem Rep.int{i:Int}{v:V}(h:Rep K O H (.int i) v):v= .int i:=by simpa only[Rep] using h
theorem Rep.bl{b:Bool}{v:V}(h:Rep K O H (.bl b) v):v= .bl b:=by simpa only[Rep] using h
theorem Rep.non{v:V}(h:Rep K O H .non v):v= .non:=by simpa only[Rep] using h
theorem Rep.str{x:Str}{v:V}(h:Rep K O H (.str x) v):v= .str x:=by simpa only[Rep] using h
theorem Rep.tup{ds:List D}{v:V}(h:Rep K O H (.tup ds) v):∃a xs,v= .ref a/\SqT K H a xs/\aO K O H ds xs:=by simpa only[Rep] using h
theorem Rep.lst{ds:List D}{v:V}(h:Rep K O H (.lst ds) v):∃a xs,v= .ref a/\SqL K H a xs/\¬O a/\aO K O H ds xs:=by simpa only[Rep] using h
theorem bN(i:Int):Rep K O H (.int i) (.int i):=by simp only[Rep]
theorem fM(b:Bool):Rep K O H (.bl b) (.bl b):=by simp only[Rep]
theorem mL:Rep K O H .non .non:=by simp only[Rep]
theorem gq(x:Str):Rep K O H (.str x) (.str x):=by simp only[Rep]
theorem gw{ds:List D}{a:acA}{xs:List V}(h:SqT K H a xs)(r:aO K O H ds xs):Rep K O H (.tup ds) (.ref a):=by simp only[Rep];exact⟨a,xs,rfl,h,r⟩
theorem kW{ds:List D}{a:acA}{xs:List V}(h:SqL K H a xs)(n:¬O a)(r:aO K O H ds xs):Rep K O H (.lst ds) (.ref a):=by simp only[Rep];exact⟨a,xs,rfl,h,n,r⟩
end
inductive Ob where
 |exc (c:Str) |fn (a:acA)
inductive Ent where
 |val (d:D) |lst (ds:List D) |xr (kvs:List (Key×D)) |obj (t:Ob) |rws (rows:List (List D))
def Ent.own:Ent->Bool
 | .val _=>false
 | .obj _=>false
 |_=>true
def Ent.O8:Ent->Bool
 | .val _=>true
 |_=>false
theorem Yt{e:Ent}(h:e.O8=true):e.own=false:=by cases e <;> first |rfl |cases h
abbrev ao:=List (Option Ent)
def abt(K:PySem.W.Frag)(O:acA->Prop)(H:Hp)(kvs:List (Key×D))(ys:List (Key×V)):Prop:=kvs.map (·.1)=ys.map (·.1)/\aO K O H (kvs.map (·.2)) (ys.map (·.2))
def qI(K:PySem.W.Frag)(H:Hp):Ob->V->Prop
 | .exc c,v=>∃a o C,v= .ref a/\H a=some (.frz o (.own a))/\o.cls= .ref C/\o.dict=none/\(∃vs,o.data= .fields vs)/\PySem.W.nsIn K acK c=some (some (.ref C))
 | .fn a,v=>v= .ref a/\∃o fd,H a=some (.frz o (.own a))/\o.data= .func fd
structure Kc(K:PySem.W.Frag)(O:acA->Prop)(H:Hp)(rows:List (List D))(a:acA)(rs:List acA):Prop where
 at_:H a=some (.lst (rs.map V.ref))
 oa:O a
 nd:(a::rs).Nodup
 len:rs.length=rows.length
 row:∀(i:Nat) r row,rs[i]?=some r->rows[i]?=some row->O r/\∃xs,H r=some (.lst xs)/\aO K O H row xs
def o7(K:PySem.W.Frag)(O:acA->Prop)(H:Hp):Ent->V->Prop
 | .val d,v=>Rep K O H d v
 | .lst ds,v=>∃a xs,v= .ref a/\O a/\H a=some (.lst xs)/\aO K O H ds xs
 | .xr kvs,v=>∃a ys,v= .ref a/\O a/\H a=some (.dK ys)/\abt K O H kvs ys
 | .obj t,v=>qI K H t v
 | .rws rows,v=>∃a rs,v= .ref a/\Kc K O H rows a rs
def Q5(H:Hp)(ρ:ao)(σ:St):Prop:=∀(i j:Nat) (rows:List (List D)) (a:acA) (rs:List acA) (e:Ent) (v:V),i≠j->ρ[i]?=some (some (.rws rows))->σ[i]?=some (some (.ref a))->H a=some (.lst (rs.map V.ref))->ρ[j]?=some (some e)->e.own=true->σ[j]?=some (some v)->(∀r∈rs,v≠.ref r)/\∀rows',e≠.rws rows'
structure Env(K:PySem.W.Frag)(O:acA->Prop)(H:Hp)(ρ:ao)(σ:St):Prop where
 get:∀(i:Nat) e,ρ[i]?=some (some e)->∃v,σ[i]?=some (some v)/\o7 K O H e v
 sep:∀(i j:Nat) e e' v,i≠j->ρ[i]?=some (some e)->ρ[j]?=some (some e')->e.own=true->e'.own=true->σ[i]?=some (some v)->σ[j]?=some (some v)->False
 o8:Q5 H ρ σ
structure In(X:Cx)(O:acA->Prop)(H:Hp)(ρ:ao)(σ:St):Prop where
 env:Env X.K O H ρ σ
 al:∀a,O a->∃o,H a=some o
 len:σ.length=X.N.length
 o9:ρ.length=X.N.length
section
variable{X:Cx}{O:acA->Prop}{H H1:Hp}{ρ:ao}{σ:St}{K:PySem.W.Frag}
theorem qI.fz(s:∀b o u,H b=some (.frz o u)->H1 b=some (.frz o u)):∀{t:Ob} {v:V},qI K H t v->qI K H1 t v
 | .exc _,_,z=>by
  obtain⟨a,o,C,e,h,q,n⟩:=z;exact⟨a,o,C,e,s _ _ _ h,q,n⟩
 | .fn _,_,z=>by
  obtain⟨e,o,fd,h,q⟩:=z;exact⟨e,o,fd,s _ _ _ h,q⟩
theorem qI.same(s:Same H H1){t:Ob}{v:V}(h:qI K H t v):qI K H1 t v:=h.fz λ_ _ _ q=>s _ _ q
theorem Ai{rs rs':List acA}(h:rs.map V.ref=rs'.map V.ref):rs=rs':=(List.map_inj_right λ_ _ e=>V.ref.inj e).mp h
theorem Kc.same(s:Same H H1){rows:List (List D)}{a:acA}{rs:List acA}(h:Kc K O H rows a rs):Kc K O H1 rows a rs:=⟨s _ _ h.at_,h.oa,h.nd,h.len,λi r row e1 e2=>let⟨o,xs,q,r'⟩:=h.row i r row e1 e2;⟨o,xs,s _ _ q,r'.same s⟩⟩
theorem o7.same(s:Same H H1):∀{e:Ent} {v:V},o7 K O H e v->o7 K O H1 e v
 | .val d,v,h=>Rep.same s h
 | .lst ds,v,z=>by
  obtain⟨a,xs,e,o,h,r⟩:=z;exact⟨a,xs,e,o,s _ _ h,r.same s⟩
 | .xr kvs,v,z=>by
  obtain⟨a,xs,e,o,h,k,r⟩:=z;exact⟨a,xs,e,o,s _ _ h,k,r.same s⟩
 | .obj t,v,h=>qI.same s h
 | .rws rows,v,⟨a,rs,e,h⟩=>⟨a,rs,e,h.same s⟩
theorem Q5.of(h:Q5 H ρ σ)(w:∀(i:Nat) (rows:List (List D)) (a:acA) (rs:List acA),ρ[i]?=some (some (.rws rows))->σ[i]?=some (some (.ref a))->H1 a=some (.lst (rs.map V.ref))->H a=some (.lst (rs.map V.ref))):Q5 H1 ρ σ:=λi j rows a rs e v hij hi hs ha=>h i j rows a rs e v hij hi hs (w i rows a rs hi hs ha)
theorem Env.rws(E:Env K O H ρ σ){i:Nat}{rows:List (List D)}{a:acA}(hi:ρ[i]?=some (some (.rws rows)))(hs:σ[i]?=some (some (.ref a))):∃rs,Kc K O H rows a rs:=by
 obtain⟨v,q,a',rs,e,r⟩:=E.get i _ hi;rw[q] at hs;cases hs;cases e;exact⟨rs,r⟩
theorem Env.back(E:Env K O H ρ σ)(s:Same H H1){i:Nat}{rows:List (List D)}{a:acA}{rs:List acA}(hi:ρ[i]?=some (some (.rws rows)))(hs:σ[i]?=some (some (.ref a)))(ha:H1 a=some (.lst (rs.map V.ref))):H a=some (.lst (rs.map V.ref)):=by
 obtain⟨rs',r⟩:=E.rws hi hs;have:=s _ _ r.at_;rw[ha] at this;rw[r.at_,Ai (HO.lst.inj (acV this))]
theorem Env.same(E:Env K O H ρ σ)(s:Same H H1):Env K O H1 ρ σ:=⟨λj e h=>let⟨v,h1,h2⟩:=E.get j e h;⟨v,h1,h2.same s⟩,E.sep,E.o8.of λi rows a rs hi hs ha=>E.back s hi hs ha⟩
theorem In.same(i:In X O H ρ σ)(s:Same H H1):In X O H1 ρ σ:=
 ⟨i.env.same s,λa h=>let⟨o,q⟩:=i.al a h;⟨o,s _ _ q⟩,i.len,i.o9⟩
end
def Exc(h:acP)(e C:acA)(T:Option acA):Prop:=∃(oe:Obj) (vs:Array acB),h.get? e=some oe/\oe.cls= .ref C/\oe.dict=none/\oe.data= .fields vs/\match T with
 |none=>vs[1]?=some acU
 |some t=>vs[1]?=some (.ref t)/\t≠e/\∃(ot:Obj) (ts:Array acB),h.get? t=some ot/\ot.data= .fields ts/\ts[3]?=some acU
structure Kd(P:acL)(w:acQ)(fs:List acA)(H:Hp)(s:acC)(a C:acA)(T:Option acA)(s':acC)(H':Hp):Prop where
 same:Same H H'
 un:Un fs [] H H' s.heap s'.heap
 hok:HOk P w H' s'.heap
 os:s'.os=s.os
 bare:ae9 s'.gens
 exc:Exc s'.heap a C T
 na:s.heap.get? a=none
 ha:H' a=none
 nt:∀t,T=some t->s.heap.get? t=none/\H' t=none
def Aj(X:Cx)(c:Str)(σ:St)(H:Hp):Prop:=∀(H1:Hp) (pins:List (acA×Obj)) (s:acC) (a C:acA) (T:Option acA) (s':acC) (H':Hp),Same H H1->Inv X pins σ H1 s->
 PySem.W.nsIn X.K acK c=some (some (.ref C))->Kd X.prog X.w (frs X.stack) H1 s a C T s' H'->X.xe (.ref a) s'
theorem Aj.same{X:Cx}{c:Str}{σ:St}{H H1:Hp}(h:Aj X c σ H)(s:Same H H1):Aj X c σ H1:=λH2 pins s0 a C T s' H' s2=>h H2 pins s0 a C T s' H' (s.trans s2)
def good{α β:Type}(X:Cx)(Rl:(acA->Prop)->Hp->α->β->Prop)(O:acA->Prop)(r:R α)(σ:St)(H:Hp)(Q:β->Hp->Prop):Prop:=match r with
 | .ok a=>∀b H',Same H H'->Rl O H' a b->Q b H'
 | .err c=>Aj X c σ H
 | .bad=>False
theorem good.same{α β:Type}{X:Cx}{Rl:(acA->Prop)->Hp->α->β->Prop}{O:acA->Prop}{r:R α}{σ:St}{H H1:Hp}{Q:β->Hp->Prop}(h:good X Rl O r σ H Q)(s:Same H H1):good X Rl O r σ H1 Q:=by
 cases r with
 |ok a=>exact λb H' s' q=>h b H' (s.trans s') q
 |err c=>exact Aj.same (show Aj X c σ H from h) s
 |bad=>exact h
inductive TGd {α β:Type} (X:Cx) (Rl:(acA->Prop)->Hp->α->β->Prop) (f:ao->R α) (σ:St) (H:Hp) (Q:β->Hp->Prop):Prop
 |mk (ρ:ao) (O:acA->Prop) (j:In X O H ρ σ) (g:good X Rl O (f ρ) σ H Q):TGd X Rl f σ H Q
def tG{α β:Type}(X:Cx)(Rl:(acA->Prop)->Hp->α->β->Prop)(f:ao->R α):St->Hp->(β->Hp->Prop)->Prop:=λσ H Q=>TGd X Rl f σ H Q
abbrev rB:(acA->Prop)->Hp->Bool->Bool->Prop:=λ_ _ a b=>a=b
abbrev rD(X:Cx):(acA->Prop)->Hp->D->V->Prop:=λO H d v=>Rep X.K O H d v
abbrev uG(X:Cx):(acA->Prop)->Hp->List D->List V->Prop:=λO H d v=>aO X.K O H d v
def DE(X:Cx)(e:acI)(f:ao->R D):Prop:=PE X e (tG X (rD X) f)
def DT(X:Cx)(e:acI)(f:ao->R Bool):Prop:=PT X e (tG X rB f)
def DW(X:Cx)(e:acI)(f:ao->R Bool):Prop:=PW X e (tG X rB f)
def DA(X:Cx)(es:List acI)(f:ao->R (List D)):Prop:=PA X es (tG X (uG X) f)
theorem PE.imp{X:Cx}{e:acI}{t t':TE}(h:PE X e t)(w:∀σ H Q,t' σ H Q->t σ H Q):PE X e t':=λpins s σ H Q I q=>h pins s σ H Q I (w σ H Q q)
theorem PT.imp{X:Cx}{e:acI}{t t':TT}(h:PT X e t)(w:∀σ H Q,t' σ H Q->t σ H Q):PT X e t':=λpins s σ H Q I q=>h pins s σ H Q I (w σ H Q q)
theorem PW.imp{X:Cx}{e:acI}{t t':TT}(h:PW X e t)(w:∀σ H Q,t' σ H Q->t σ H Q):PW X e t':=λwh pins s σ H Q I q=>h wh pins s σ H Q I (w σ H Q q)
theorem PA.imp{X:Cx}{e:List acI}{t t':TA}(h:PA X e t)(w:∀σ H Q,t' σ H Q->t σ H Q):PA X e t':=λpos pins s σ H Q I q=>h pos pins s σ H Q I (w σ H Q q)
section
variable{X:Cx}{O:acA->Prop}{H:Hp}{ρ:ao}{σ:St}
theorem go{α β γ δ:Type}{Rl:(acA->Prop)->Hp->α->β->Prop}{Rm:(acA->Prop)->Hp->γ->δ->Prop}{f:ao->R α}{g:α->R γ}{Q:δ->Hp->Prop}{Q':β->Hp->Prop}
  (i:In X O H ρ σ)(h:good X Rm O ((f ρ).bind g) σ H Q)
  (k:∀a b H1,f ρ= .ok a->Same H H1->Rl O H1 a b->In X O H1 ρ σ->good X Rm O (g a) σ H1 Q->Q' b H1):tG X Rl f σ H Q':=by
 refine⟨ρ,O,i,?_⟩;cases e:f ρ with
 |ok a=>rw[e] at h;exact λb H1 s r=>k a b H1 e s r (i.same s) (good.same h s)
 |err c=>rw[e] at h;exact h
 |bad=>rw[e] at h;exact h
theorem fin{α β:Type}{Rl:(acA->Prop)->Hp->α->β->Prop}{a:α}{b:β}{Q:β->Hp->Prop}(h:good X Rl O (.ok a) σ H Q)(r:Rl O H a b):Q b H:=h b H (Same.refl H) r
end
end Pu
namespace Pu
open PySem PySem.Spec L2
open PyProof.Rows hiding St
variable{p:acA}{O O0:acA->Prop}{X:Cx}{d:D}{l:D->D->R D}{H H0:Hp}{ds:List D}{u:List D->ao->R ao}{N caps ts:List Str}{xs:List V}{n i:Nat}{px:Pos}{K:PySem.W.Frag}{ρ:ao}{scope sc:aec}{σ:St}{α:Type}
theorem Same.upd{o:HO}(h:H p=none):Same H (L2.upd H p o):=λb u e=>by
 rw[upd_ne (ne_of_none e h)];exact e
theorem Rep.mO(h:H p=none)(r:aO X.K O H ds xs):Rep X.K O (upd H p (.tup xs)) (.tup ds) (.ref p):=
 gw (SqT.of upd_same) (r.same (Same.upd h))
theorem In.uY(i:In X O H ρ σ)(h:H p=none):¬O p:=λz=>by
 obtain⟨o,e⟩:=i.al p z;rw[h] at e;cases e
theorem Rep.mQ(h:H p=none)(n:¬O p)(r:aO X.K O H ds xs):Rep X.K O (upd H p (.lst xs)) (.lst ds) (.ref p):=
 kW (SqL.of upd_same) n (r.same (Same.upd h))
section
variable{X:Cx}{a b c:acI}{f g h:ao->R D}{pos:Pos}
def bF(ρ:ao)(i:Nat):R D:=match ρ[i]? with
 |some (some (.val d))=> .ok d
 |_=> .bad
theorem dv(i:Nat){x:Str}{pos:Pos}(hN:X.N[i]?=some x:=by rfl)(hv:Vis X.env.scope x:=by first |exact adS rfl |exact adA (adS rfl) |exact adA (adA rfl))(hd:(x ==("__debug__" :Str))=false:=by decide)(hcd:(x ==("__classdict__" :Str))=false:=by decide):
  DE X (.Name x pos) (λρ=>bF ρ i):=by
 refine PE.imp (pe_var hN hv hd hcd) λσ H Q h=>?_;obtain⟨ρ,O,j,h⟩:=h;have h:good X (rD X) O (bF ρ i) σ H Q:=h;unfold bF at h;split at h
 ·rename_i d e;obtain⟨v,e1,r⟩:=j.env.get i _ e;exact⟨v,e1,fin h r⟩
 ·exact h.elim
theorem Gz{e:acI}{v:V}(h:PE X e (tC v))(r:∀O H,Rep X.K O H d v):DE X e (λ_=> .ok d):=PE.imp h λσ H Q h=>by
 obtain⟨ρ,O,j,h⟩:=h;exact fin h (r O H)
theorem aL{i:Int}{j pos}:DE X (.Constant (.int i) j pos) (λ_=> .ok (.int i)):=Gz pe_int λ_ _=>bN i
theorem kh{i:Bool}{j pos}:DE X (.Constant (.bool i) j pos) (λ_=> .ok (.bl i)):=Gz pe_bl λ_ _=>fM i
theorem lD{j pos}:DE X (.Constant .none j pos) (λ_=> .ok .non):=Gz pe_non λ_ _=>mL
theorem dg{x:Str}{j pos}:DE X (.Constant (.str x) j pos) (λ_=> .ok (.str x)):=Gz pe_str λ_ _=>gq x
theorem jL{x:Str}{i:Int}{t:Tok}{pos:Pos}(hg:Gl X x)(hm:X.mg x=some (.int i t))(hd:(x ==("__debug__" :Str))=false:=by decide):DE X (.Name x pos) (λ_=> .ok (.int i)):=
 Gz (pe_glob (v:= .int i) hg hm ⟨t,rfl⟩ hd) λ_ _=>bN i
def gO(X:Cx)(o:acB->acB->Sem acB)(k:D->D->R D):Prop:=∃r:R2,OpR X o r/\
 ∀(ρ:ao) (O:acA->Prop) (σ:St) (H:Hp) (Q:VK) (x y:V) (dx dy:D),In X O H ρ σ->Rep X.K O H dx x->Rep X.K O H dy y->good X (rD X) O (k dx dy) σ H Q->r x y H Q
def bin(f g:ao->R D)(k:D->D->R D):ao->R D:=λρ=>(f ρ).bind λx=>(g ρ).bind λy=>k x y
theorem CZ{r:R2}{k:D->D->R D}{Q:VK}
  (hr:∀(ρ:ao) (O:acA->Prop) (σ:St) (H:Hp) (Q:VK) (x y:V) (dx dy:D),In X O H ρ σ->Rep X.K O H dx x->Rep X.K O H dy y->good X (rD X) O (k dx dy) σ H Q->r x y H Q)
  (h:tG X (rD X) (bin f g k) σ H Q):tOp r (tG X (rD X) f) (tG X (rD X) g) σ H Q:=by
 obtain⟨ρ,O,j,h⟩:=h;refine go j h λdx x H1 e1 s1 r1 j1 h1=>?_;exact go j1 h1 λdy y H2 e2 s2 r2 j2 h2=>hr ρ O σ H2 Q x y dx dy j2 (r1.same s2) r2 h2
theorem aP{op:Operator}{k:D->D->R D}(ho:gO X (adu op) k)(ha:DE X a f)(hb:DE X b g):DE X (.BinOp a op b pos) (bin f g k):=by
 obtain⟨r,ho,hr⟩:=ho;exact PE.imp (pe_op ho ha hb) λσ H Q h=>CZ hr h
theorem qJ{op:afH}{k:D->D->R D}(ho:gO X (ac1 op) k)(ha:DE X a f)(hb:DE X b g)(hm:aeu op b=false:=by exact nomark _):DE X (.Compare a [op] [b] pos) (bin f g k):=by
 obtain⟨r,ho,hr⟩:=ho;exact PE.imp (pe_cmpR ho ha hb hm) λσ H Q h=>CZ hr h
def asB:D->R Bool
 | .bl b=> .ok b
 |_=> .bad
def bM(f:ao->R D):ao->R Bool:=λρ=>(f ρ).bind asB
theorem Bt{t:TE}{k:ao->R D}{Q:Bool->Hp->Prop}(w:∀Q,tG X (rD X) k σ H Q->t σ H Q)(h:tG X rB (bM k) σ H Q):tTest t σ H Q:=by
 refine w _ ?_;obtain⟨ρ,O,j,h⟩:=h;refine go j h λd x H1 e1 s1 r1 j1 h1=>?_;cases d with
 |bl b=>exact⟨b,r1.bl,fin h1 rfl⟩
 |_=>exact h1.elim
theorem bO{op:afH}{k:D->D->R D}(ho:gO X (ac1 op) k)(ha:DE X a f)(hb:DE X b g)(hm:aeu op b=false:=by exact nomark _):DT X (.Compare a [op] [b] pos) (bM (bin f g k)):=by
 obtain⟨r,ho,hr⟩:=ho;exact PT.imp (pt_cmpR ho ha hb hm) λσ H Q h=>Bt (λQ h=>CZ hr h) h
theorem jd{e:acI}(h:DE X e f)(he:∀whole,isTrue e X.env whole=(do let v <-whole;standAt e.pos;holding [v] (truthy v)):=by intro _;rfl):DT X e (bM f):=
 PT.imp (pt_val h he) λσ H Q h=>Bt (t:=tG X (rD X) f) (λQ h=>h) h
def iD(k:Int->Int->R D):D->D->R D
 | .int i,.int j=>k i j
 |_,_=> .bad
theorem zL{o:acB->acB->Sem acB}{C:Int->Int->Prop}{g:Int->Int->V}{k:Int->Int->R D}(ho:OpR X o (rI C g))(hk:∀i j,k i j= .bad\/∃d,k i j= .ok d/\C i j/\∀K O H,Rep K O H d (g i j)):gO X o (iD k):=by
 refine⟨_,ho,λρ O σ H Q x y dx dy j0 rx ry h=>?_⟩;cases dx <;> cases dy <;> first
  |exact h.elim
  |skip
 rename_i i j;rcases hk i j with e |⟨d,e,c,r⟩
 ·have h':good X (rD X) O (k i j) σ H Q:=h;rw[e] at h';exact h'.elim
 ·have h':good X (rD X) O (k i j) σ H Q:=h;rw[e] at h';exact⟨i,j,rx.int,ry.int,c,fin h' (r _ _ _)⟩
theorem qK{o:acB->acB->Sem acB}{g:Int->Int->V}{k:Int->Int->R D}(ho:OpR X o (rI0 g))(hk:∀i j,∃d,k i j= .ok d/\∀K O H,Rep K O H d (g i j)):gO X o (iD k):=by
 refine⟨_,ho,λρ O σ H Q x y dx dy j0 rx ry h=>?_⟩;cases dx <;> cases dy <;> first
  |exact h.elim
  |skip
 rename_i i j;obtain⟨d,e,r⟩:=hk i j;have h':good X (rD X) O (k i j) σ H Q:=h;rw[e] at h';exact⟨i,j,rx.int,ry.int,fin h' (r _ _ _)⟩
def cP:D->D->R D:=iD λi j=> .ok (.int (i - j))
def gA:D->D->R D:=iD λi j=>if (-(2^64)<i/\i<2^64)\/(-(2^64)<j/\j<2^64) then .ok (.int (i*j)) else .bad
def gP:D->D->R D:=iD λi j=>if 0<j/\j<2^64 then .ok (.int (i / j)) else .bad
def fK:D->D->R D:=iD λi j=>if 0<j then .ok (.int (i % j)) else .bad
def tO:D->D->R D:=iD λi j=>if 0<=j/\j<=1000000/\i.natAbs<2^64 then .ok (.int (i^j.toNat)) else .bad
def ltI:D->D->R D:=iD λi j=> .ok (.bl (decide (i<j)))
def wH:D->D->R D:=iD λi j=> .ok (.bl (decide (i<=j)))
def pZ:D->D->R D:=iD λi j=> .ok (.bl (decide (j<i)))
def Tj:D->D->R D:=iD λi j=> .ok (.bl (decide (j<=i)))
theorem cM:gO X (adu .Sub) cP:=qK op_sub λi j=>⟨_,rfl,λ_ _ _=>bN _⟩
theorem uZ:gO X (ac1 .Lt) ltI:=qK op_lt λi j=>⟨_,rfl,λ_ _ _=>fM _⟩
theorem nR:gO X (ac1 .LtE) wH:=qK op_le λi j=>⟨_,rfl,λ_ _ _=>fM _⟩
theorem Dc:gO X (ac1 .Gt) pZ:=qK op_gt λi j=>⟨_,rfl,λ_ _ _=>fM _⟩
theorem abu:gO X (ac1 .GtE) Tj:=qK op_ge λi j=>⟨_,rfl,λ_ _ _=>fM _⟩
theorem zM{c:Prop}[Decidable c](d:D){P:D->Prop}(hP:c->P d):(if c then R.ok d else R.bad)=R.bad\/∃d',(if c then R.ok d else R.bad)=R.ok d'/\c/\P d':=by
 by_cases h:c
 ·exact .inr ⟨d,by rw[if_pos h],h,hP h⟩
 ·exact .inl (by rw[if_neg h])
theorem oA:gO X (adu .Mult) gA:=zL op_mul λi j=>zM (.int (i*j)) (P:=λd=>∀K O H,Rep K O H d (.int (i*j))) λ_ _ _ _=>bN _
theorem Tn{j:Int}(h0:0<j)(h:j<2^64):j.natAbs.log2<9000:=by
 have h1:j.natAbs≠0:=by omega
 have h2:j.natAbs<2^64:=by omega
 have h3:j.natAbs.log2<64:=(Nat.log2_lt h1).mpr h2;omega
theorem V9:OpR X (adu .FloorDiv) (rI (λ_ j=>0<j/\j<2^64) λi j=> .int (i / j)):=opI λi j _ _ _ _ _ hc q=>by
 refine floordiv_int (by have:=hc.1;omega) ?_ (.inl (PyProof.noPylong_of_log2 (Tn hc.1 hc.2)));rw[Int.fdiv_eq_ediv_of_nonneg _ (by have:=hc.1;omega)];exact q
theorem qL:gO X (adu .FloorDiv) gP:=zL V9 λi j=>zM (.int (i / j)) (P:=λd=>∀K O H,Rep K O H d (.int (i / j))) λ_ _ _ _=>bN _
theorem oE:gO X (adu .Mod) fK:=zL op_mod λi j=>zM (.int (i % j)) (P:=λd=>∀K O H,Rep K O H d (.int (i % j))) λ_ _ _ _=>bN _
theorem Tp:gO X (adu .Pow) tO:=zL op_pow λi j=>zM (.int (i^j.toNat)) (P:=λd=>∀K O H,Rep K O H d (.int (i^j.toNat))) λ_ _ _ _=>bN _
def Ak(f g h:ao->R D)(k l:D->D->R D):ao->R D:=λρ=>(f ρ).bind λx=>(g ρ).bind λy=>(k x y).bind λz=>match z with
 | .bl true=>(h ρ).bind λw=>l y w
 | .bl false=> .ok (.bl false)
 |_=> .bad
def pq(f g:ao->R D):ao->R D:=λρ=>(f ρ).bind λx=>match x with
 | .bl true=>g ρ
 | .bl false=> .ok (.bl false)
 |_=> .bad
def aac(f:ao->R D):ao->R D:=λρ=>(f ρ).bind λx=>match x with
 | .bl b=> .ok (.bl (!b))
 |_=> .bad
variable{rest:List acI}
theorem oF{op}(h:DE X a f):DE X (.BoolOp op [a] pos) f:=pe_one h
theorem lE(ha:DE X a f)(hb:DE X (.BoolOp .And (b::rest) pos) g):DE X (.BoolOp .And (a::b::rest) pos) (pq f g):=by
 refine PE.imp (pe_and ha hb) λσ H Q h=>?_;obtain⟨ρ,O,j,h⟩:=h;refine go j h λd x H1 e1 s1 r1 j1 h1=>?_;cases d with
 | bl k=>
  cases k with
  |true=>exact⟨true,r1.bl,by rw[if_pos rfl];exact⟨ρ,O,j1,h1⟩⟩
  |false=>exact⟨false,r1.bl,by rw[if_neg acY];exact fin h1 (fM _)⟩
 |_=>exact h1.elim
theorem aad(ha:DE X a f):DE X (.UnaryOp .Not a pos) (aac f):=by
 refine PE.imp (pe_not ha) λσ H Q h=>?_;obtain⟨ρ,O,j,h⟩:=h;refine go j h λd x H1 e1 s1 r1 j1 h1=>?_;cases d with
 |bl k=>exact⟨k,r1.bl,fin h1 (fM _)⟩
 |_=>exact h1.elim
def jP(f g:ao->R Bool):ao->R Bool:=λρ=>(f ρ).bind λx=>if x=true then g ρ else .ok false
def xu(f g:ao->R Bool):ao->R Bool:=λρ=>(f ρ).bind λx=>if x=true then .ok true else g ρ
def jt(f:ao->R Bool):ao->R Bool:=λρ=>(f ρ).bind λx=> .ok (!x)
variable{p q:ao->R Bool}
theorem zN(ha:DT X a p):DW X (.BoolOp .And [a] pos) p:=pw_and1 ha
theorem qM(ha:DT X a p):DW X (.BoolOp .Or [a] pos) p:=pw_or1 ha
theorem Df(ha:DT X a p)(hb:DW X (.BoolOp .And (b::rest) pos) q):DW X (.BoolOp .And (a::b::rest) pos) (jP p q):=by
 refine PW.imp (pw_and ha hb) λσ H Q h=>?_;obtain⟨ρ,O,j,h⟩:=h;refine go j h λd x H1 e1 s1 r1 j1 h1=>?_;subst r1;cases d with
 |true=>rw[if_pos rfl] at h1 |-;exact⟨ρ,O,j1,h1⟩
 |false=>rw[if_neg acY] at h1 |-;exact fin h1 rfl
theorem sE(ha:DT X a p)(hb:DW X (.BoolOp .Or (b::rest) pos) q):DW X (.BoolOp .Or (a::b::rest) pos) (xu p q):=by
 refine PW.imp (pw_or ha hb) λσ H Q h=>?_;obtain⟨ρ,O,j,h⟩:=h;refine go j h λd x H1 e1 s1 r1 j1 h1=>?_;subst r1;cases d with
 |true=>rw[if_pos rfl] at h1 |-;exact fin h1 rfl
 |false=>rw[if_neg acY] at h1 |-;exact⟨ρ,O,j1,h1⟩
theorem DW.dt{e:acI}(h:DW X e p):DT X e p:=h _
theorem gB(ha:DT X a p):DT X (.UnaryOp .Not a pos) (jt p):=by
 refine PT.imp (pt_not ha) λσ H Q h=>?_;obtain⟨ρ,O,j,h⟩:=h;refine go j h λd x H1 e1 s1 r1 j1 h1=>?_;subst r1;exact fin h1 rfl
def Dg(c:ao->R Bool)(f g:ao->R D):ao->R D:=λρ=>(c ρ).bind λx=>if x=true then f ρ else g ρ
theorem Q6(hc:DT X c p)(ha:DE X a f)(hb:DE X b g):DE X (.IfExp c a b pos) (Dg p f g):=by
 refine PE.imp (pe_ifExp hc ha hb) λσ H Q h=>?_;obtain⟨ρ,O,j,h⟩:=h;refine go j h λd x H1 e1 s1 r1 j1 h1=>?_;subst r1;cases d with
 |true=>rw[if_pos rfl] at h1 |-;exact⟨ρ,O,j1,h1⟩
 |false=>rw[if_neg acY] at h1 |-;exact⟨ρ,O,j1,h1⟩
def ak(f:ao->R D)(g:ao->R (List D)):ao->R (List D):=λρ=>(f ρ).bind λx=>(g ρ).bind λxs=> .ok (x::xs)
variable{es:List acI}{fa:ao->R (List D)}
theorem au:DA X [] (λ_=> .ok []):=PA.imp pa_nil λσ H Q h=>by
 obtain⟨ρ,O,j,h⟩:=h;exact fin h .nil
theorem aj(ha:DE X a f)(hr:DA X es fa)(hs:acE (a::es) X.env=(false,eval a X.env)::acE es X.env:=by rfl):DA X (a::es) (ak f fa):=by
 refine PA.imp (pa_cons ha hr hs) λσ H Q h=>?_;obtain⟨ρ,O,j,h⟩:=h;refine go j h λd x H1 e1 s1 r1 j1 h1=>?_;exact go j1 h1 λds xs H2 e2 s2 r2 j2 h2=>fin h2 (.cons (r1.same s2) r2)
def cap(k:List D->D)(ds:List D):R D:=if ds.length<=1000000 then .ok (k ds) else .bad
theorem dB:1000000<=sizeLine:=by rw[adv];decide
def dj(fa:ao->R (List D)):ao->R D:=λρ=>(fa ρ).bind (cap .tup)
def u5(fa:ao->R (List D)):ao->R D:=λρ=>(fa ρ).bind (cap .lst)
theorem cI{x1}(h:DA X es fa):DE X (.Tuple es x1 pos) (dj fa):=by
 refine PE.imp (pe_tup h) λσ H Q h=>?_;obtain⟨ρ,O,j,h⟩:=h;refine go j h λds xs H1 e1 s1 r1 j1 h1=>?_;unfold cap at h1;split at h1
 ·rename_i hl;exact⟨by rw[<-r1.length];exact z0b hl dB,λp hp=>h1 _ _ (Same.upd hp) (Rep.mO hp r1)⟩
 ·exact h1.elim
theorem xG(h:DA X es fa):DE X (.List es pos) (u5 fa):=by
 refine PE.imp (pe_lst h) λσ H Q h=>?_;obtain⟨ρ,O,j,h⟩:=h;refine go j h λds xs H1 e1 s1 r1 j1 h1=>?_;unfold cap at h1;split at h1
 ·rename_i hl;exact⟨by rw[<-r1.length];exact z0b hl dB,λp hp=>h1 _ _ (Same.upd hp) (Rep.mQ hp (j1.uY hp) r1)⟩
 ·exact h1.elim
def bU:D->D->R D
 | .tup ds,.int i=>match atI ds i with |some d=> .ok d |none=> .bad
 | .lst ds,.int i=>match atI ds i with |some d=> .ok d |none=> .bad
 |_,_=> .bad
theorem aO.atI{K:PySem.W.Frag}{O:acA->Prop}{H:Hp}{ds:List D}{vs:List V}{i:Int}{d:D}(r:aO K O H ds vs)(e:atI ds i=some d):∃v,atI vs i=some v/\Rep K O H d v:=by
 unfold L2.atI at e |-;rw[r.length] at e;cases q:ixN vs.length i with
 |none=>rw[q] at e;cases e
 | some k=>
  rw[q] at e;obtain⟨v,h1,h2⟩:=r.get (i:=k) (d:=d) e;exact⟨v,h1,h2⟩
theorem bJ(ha:DE X a f)(hb:DE X b g)(hs:PlainIx b:=by exact λ_ _=>rfl):DE X (.Subscript a b pos) (bin f g bU):=by
 refine PE.imp (pe_ix ix_seq ha hb hs) λσ H Q h=>CZ (λρ O σ H Q x y dx dy j0 rx ry h=>?_) h;cases dx <;> cases dy <;> first
  |exact h.elim
  |skip
 ·rename_i ds i;obtain⟨p,xs,rfl,hq,r⟩:=rx.tup;have h':good X (rD X) O (match L2.atI ds i with |some d=>R.ok d |none=>R.bad) σ H Q:=h;cases e:L2.atI ds i with
  |none=>rw[e] at h';exact h'.elim
  | some d=>
   rw[e] at h';obtain⟨v,e1,rv⟩:=r.atI e;exact .inr (.inl ⟨p,xs,i,v,rfl,ry.int,hq,e1,fin h' rv⟩)
 ·rename_i ds i;obtain⟨p,xs,rfl,hq,_,r⟩:=rx.lst;have h':good X (rD X) O (match L2.atI ds i with |some d=>R.ok d |none=>R.bad) σ H Q:=h;cases e:L2.atI ds i with
  |none=>rw[e] at h';exact h'.elim
  | some d=>
   rw[e] at h';obtain⟨v,e1,rv⟩:=r.atI e;exact .inl ⟨p,xs,i,v,rfl,ry.int,hq,e1,fin h' rv⟩
def CallD(X:Cx)(u:acB)(k:List D->R D):Prop:=∃r:List V->Hp->VK->Prop,CallR X u r/\
 ∀(ρ:ao) (O:acA->Prop) (σ:St) (H:Hp) (Q:VK) (xs:List V) (ds:List D),In X O H ρ σ->aO X.K O H ds xs->good X (rD X) O (k ds) σ H Q->r xs H Q
def aF(k:List D->R D)(fa:ao->R (List D)):ao->R D:=λρ=>(fa ρ).bind k
variable{x:Str}{pp:Pos}{k:List D->R D}{id T:String}
theorem aU(hc:CallD X (.builtin id) k)(hg:Gl X x)(hm:X.mg x=none)(hv:aea x=some (.builtin id))(ha:DA X (a::es) fa)(hn:x≠"__name__" :=by decide)(hdb:(x ==("__debug__" :Str))=false:=by decide)
  (he:acE (a::es) X.env=(false,eval a X.env)::acE es X.env:=by rfl)(hpl:(adg pos (acE es X.env)).any (·.1)=false:=by rfl):DE X (.Call (.Name x pp) (a::es) [] pos) (aF k fa):=by
 obtain⟨r,hc,hr⟩:=hc;refine PE.imp (pe_callB hc hg hm hv ha hn hdb he hpl) λσ H Q h=>?_;obtain⟨ρ,O,j,h⟩:=h;exact go j h λds xs H1 e1 s1 r1 j1 h1=>hr ρ O σ H1 Q xs ds j1 r1 h1
theorem jw(hc:CallD X (.type T) k)(hg:Gl X x)(hm:X.mg x=none)(hv:aea x=some (.type T))(ha:DA X (a::es) fa)(hn:x≠"__name__" :=by decide)(hdb:(x ==("__debug__" :Str))=false:=by decide)
  (he:acE (a::es) X.env=(false,eval a X.env)::acE es X.env:=by rfl)(hpl:(adg pos (acE es X.env)).any (·.1)=false:=by rfl):DE X (.Call (.Name x pp) (a::es) [] pos) (aF k fa):=by
 obtain⟨r,hc,hr⟩:=hc;refine PE.imp (pe_callTy hc hg hm hv ha hn hdb he hpl) λσ H Q h=>?_;obtain⟨ρ,O,j,h⟩:=h;exact go j h λds xs H1 e1 s1 r1 j1 h1=>hr ρ O σ H1 Q xs ds j1 r1 h1
end
section
variable{X:Cx}{a b c:acI}{f g h:ao->R D}{pos:Pos}
theorem Ib{r r':R2}{k:D->D->R D}{Q:VK}
  (hr:∀(ρ:ao) (O:acA->Prop) (σ:St) (H:Hp) (Q:VK) (x y:V) (dx dy:D),In X O H ρ σ->Rep X.K O H dx x->Rep X.K O H dy y->good X (rD X) O (k dx dy) σ H Q->r x y H Q)
  (hl:∀(ρ:ao) (O:acA->Prop) (σ:St) (H:Hp) (Q:VK) (x y:V) (dx dy:D),In X O H ρ σ->Rep X.K O H dx x->Rep X.K O H dy y->good X (rD X) O (l dx dy) σ H Q->r' x y H Q)
  (q:tG X (rD X) (Ak f g h k l) σ H Q):tChain r r' (tG X (rD X) f) (tG X (rD X) g) (tG X (rD X) h) σ H Q:=by
 obtain⟨ρ,O,j,q⟩:=q;refine go j q λdx x H1 e1 s1 r1 j1 h1=>?_;refine go j1 h1 λdy y H2 e2 s2 r2 j2 h2=>?_;have r1':=r1.same s2;cases e3:k dx dy with
 |bad=>rw[e3] at h2;exact h2.elim
 |err n=>rw[e3] at h2;exact hr ρ O σ H2 _ x y dx dy j2 r1' r2 (by rw[e3];exact h2)
 | ok z=>
  rw[e3] at h2;refine hr ρ O σ H2 _ x y dx dy j2 r1' r2 ?_;rw[e3];intro v H3 s3 r3;have j3:=j2.same s3;cases z with
  | bl t=>
   refine⟨t,r3.bl,?_⟩;cases t with
   | true=>
    rw[if_pos rfl];exact go j3 (good.same h2 s3) λdw w H4 e4 s4 r4 j4 h4=>hl ρ O σ H4 Q y w dy dw j4 (r2.same (s3.trans s4)) r4 h4
   | false=>
    rw[if_neg acY];exact fin (good.same h2 s3) (fM _)
  |_=>exact h2.elim
theorem u6{op op':afH}{k:D->D->R D}(ho:gO X (ac1 op) k)(ho':gO X (ac1 op') l)(ha:DE X a f)(hb:DE X b g)(hc:DE X c h)
  (hm:lastMarks [op,op'] [b,c]=false:=by with_unfolding_all rfl):DE X (.Compare a [op,op'] [b,c] pos) (Ak f g h k l):=by
 obtain⟨r,ho,hr⟩:=ho;obtain⟨r',ho',hr'⟩:=ho';exact PE.imp (pe_chain ho ho' ha hb hc hm) λσ H Q q=>Ib hr hr' q
theorem Wa{op op':afH}{k:D->D->R D}(ho:gO X (ac1 op) k)(ho':gO X (ac1 op') l)(ha:DE X a f)(hb:DE X b g)(hc:DE X c h)
  (hm:lastMarks [op,op'] [b,c]=false:=by with_unfolding_all rfl):DT X (.Compare a [op,op'] [b,c] pos) (bM (Ak f g h k l)):=by
 obtain⟨r,ho,hr⟩:=ho;obtain⟨r',ho',hr'⟩:=ho';exact PT.imp (pt_chain ho ho' ha hb hc hm) λσ H Q q=>Bt (λQ q=>Ib hr hr' q) q
end
def YAt(K:PySem.W.Frag)(O:acA->Prop)(J:It)(xs:List D)(H:Hp):Prop:=
 ∀i:Nat,(∀d,xs[i]?=some d->J.go i H/\∀x H',J.yld i H x H'->Same H H'/\Rep K O H' d x)/\(xs.length<=i->J.stop i H)
def YR(K:PySem.W.Frag)(O:acA->Prop)(H:Hp)(J:It)(xs:List D):Prop:=∀O' H',eN K O H O' H'->YAt K O' J xs H'
abbrev rIt(X:Cx):(acA->Prop)->Hp->List D->It->Prop:=λO H xs J=>YR X.K O H J xs
def DI(X:Cx)(tg iter:acI)(fi:ao->R (List D)):Prop:=PI X tg iter (tG X (rIt X) fi)
theorem PI.imp{tg e:acI}{t t':TI}(h:PI X tg e t)(w:∀σ H Q,t' σ H Q->t σ H Q):PI X tg e t':=λpins s σ H Q I q=>h pins s σ H Q I (w σ H Q q)
section
variable{X:Cx}{tg:acI}
def ab0(K:PySem.W.Frag)(tl:TE):TI:=λσ H R=>tl σ H λx H1=>∃a,x= .ref a/\(((∃xs,SqL K H1 a xs)/\R (Itl K a) H1)\/((∃xs,SqT K H1 a xs)/\R (Itt K a) H1))
theorem aae{l:acI}{tl:TE}(hl:PE X l tl):PI X tg l (ab0 X.K tl):=by
 intro pins s σ H R I h;refine thn (hl pins s σ H _ I h) λv s1 bA=>?_;obtain⟨x,H1,I1,r1,q1⟩:=bA;obtain⟨a,e,q⟩:=q1;subst e;cases r1;have fp:∀b∈[s1.heap.objs.size],FpOk X pins H1 b:=λb hb=>by
  have e:b=s1.heap.objs.size:=by simpa using hb
  subst e;exact I1.fpOk (z0g _) (I1.hok.fresh (z0g _))
 rcases q with⟨⟨xs,hq⟩,q⟩ |⟨⟨xs,hq⟩,q⟩
 ·obtain⟨its,rv,p,hz⟩:=I1.list hq;refine afO p.isList ?_;exact⟨s1.heap.objs.size,[s1.heap.objs.size],_,_,H1,rfl,I1.kept (t':=s1.toks) λb o e=>z1a _ e,turn_list a _,⟨_,z1f _ rfl,rfl,rfl⟩,fp,q⟩
 ·obtain⟨its,rv,p,hz⟩:=I1.tuple hq;refine wpAny_pyIter_tuple (show s1.heap.IsTuple a its.toArray from p) ?_;exact⟨s1.heap.objs.size,[s1.heap.objs.size],_,_,H1,rfl,I1.kept (t':=s1.toks) λb o e=>z1a _ e,turn_tuple a _,⟨_,z1f _ rfl,rfl,rfl⟩,fp,q⟩
def je:D->R (List D)
 | .tup ds=> .ok ds
 | .lst ds=> .ok ds
 |_=> .bad
theorem YR.lst{a:acA}(h:SqL K H a xs)(n:¬O a)(r:aO K O H ds xs):YR K O H (Itl K a) ds:=by
 intro O' H' q;have h':SqL K H' a xs:=SqL.ext q.ext n h;have r':=r.go q;intro i;refine⟨λd e=>?_,λe=>⟨xs,h',by rw[<-r.length];exact e⟩⟩;obtain⟨v,e1,rv⟩:=r'.get e;refine⟨⟨xs,v,h',e1⟩,λx H2 y=>?_⟩;obtain⟨eH,y⟩:=y;subst eH;have:=y xs h';rw[e1] at this;cases this;exact⟨Same.refl _,rv⟩
theorem YR.tup{a:acA}(h:SqT K H a xs)(r:aO K O H ds xs):YR K O H (Itt K a) ds:=by
 intro O' H' q;have h':SqT K H' a xs:=SqT.ext q.ext h;have r':=r.go q;intro i;refine⟨λd e=>?_,λe=>⟨xs,h',by rw[<-r.length];exact e⟩⟩;obtain⟨v,e1,rv⟩:=r'.get e;refine⟨⟨xs,v,h',e1⟩,λx H2 y=>?_⟩;obtain⟨eH,y⟩:=y;subst eH;have:=y xs h';rw[e1] at this;cases this;exact⟨Same.refl _,rv⟩
def gQ(f:ao->R D):ao->R (List D):=λρ=>(f ρ).bind je
theorem fQ{l:acI}{f:ao->R D}(h:DE X l f):DI X tg l (gQ f):=by
 refine PI.imp (aae h) λσ H Q q=>?_;obtain⟨ρ,O,j,q⟩:=q;refine go j q λd x H1 e1 s1 r1 j1 h1=>?_;cases d with
 | tup ds=>
  obtain⟨a,xs,rfl,hq,r⟩:=r1.tup;exact⟨a,rfl,.inr ⟨⟨xs,hq⟩,fin h1 (YR.tup hq r)⟩⟩
 | lst ds=>
  obtain⟨a,xs,rfl,hq,n,r⟩:=r1.lst;exact⟨a,rfl,.inl ⟨⟨xs,hq⟩,fin h1 (YR.lst hq n r)⟩⟩
 |_=>exact h1.elim
def upto(lo:Int)(n:Nat):List D:=(acD n).map λ(i:Nat)=>D.int (lo+(i:Int))
theorem YR.rng(lo:Int)(n:Nat):YR K O H (Itr lo n) (upto lo n):=by
 intro O' H' q i;have hl:(upto lo n).length=n:=by simp[upto]
 refine⟨λd e=>?_,λe=>by rw[hl] at e;exact e⟩;have hi:i<n:=by rw[<-hl];exact (z1b e).1
 have e2:d=D.int (lo+(i:Int)):=by
  simp only[upto,z2b,ac3 hi] at e;exact (acV e).symm
 subst e2;refine⟨hi,λx H2 y=>?_⟩;obtain⟨eH,y⟩:=y;subst eH;subst y;exact⟨Same.refl _,bN _⟩
def jQ:List D->R (List D)
 |[.int j]=>if -(2^62)<=j/\j<2^62 then .ok (upto 0 j.toNat) else .bad
 |_=> .bad
def Bu:List D->R (List D)
 |[.int i,.int j]=>if -(2^62)<=i/\i<2^62/\-(2^62)<=j/\j<2^62 then .ok (upto i (j - i).toNat) else .bad
 |_=> .bad
theorem aO.one(r:aO K O H [d] xs):∃x,xs=[x]/\Rep K O H d x:=by
 obtain⟨x,t,rfl,h1,h2⟩:=r.cons_inv;rw[h2.nil_inv];exact⟨x,rfl,h1⟩
theorem aO.two{e:D}(r:aO K O H [d,e] xs):∃x y,xs=[x,y]/\Rep K O H d x/\Rep K O H e y:=by
 obtain⟨x,t,rfl,h1,h2⟩:=r.cons_inv;obtain⟨y,rfl,h3⟩:=h2.one;exact⟨x,y,rfl,h1,h3⟩
variable{a b:acI}{fa:ao->R (List D)}{p pos:Pos}
theorem gY(hg:Gl X "range")(hm:X.mg "range" =none)(ha:DA X [a] fa)(hs:acE [a] X.env=[(false,eval a X.env)]:=by rfl):DI X tg (.Call (.Name "range" p) [a] [] pos) (λρ=>(fa ρ).bind jQ):=by
 refine PI.imp (pi_range1 hg hm ha hs) λσ H Q q=>?_;obtain⟨ρ,O,j,q⟩:=q;refine go j q λds xs H1 e1 s1 r1 j1 h1=>?_;unfold jQ at h1;split at h1
 ·obtain⟨x,rfl,rx⟩:=r1.one;split at h1
  ·rename_i i hi;exact⟨i,by rw[rx.int],hi.1,hi.2,fin h1 (YR.rng 0 i.toNat)⟩
  ·exact h1.elim
 ·exact h1.elim
theorem Ie(hg:Gl X "range")(hm:X.mg "range" =none)(ha:DA X [a,b] fa)(hs:acE [a,b] X.env=[(false,eval a X.env),(false,eval b X.env)]:=by rfl)(hs2:acE [b] X.env=[(false,eval b X.env)]:=by rfl):
  DI X tg (.Call (.Name "range" p) [a,b] [] pos) (λρ=>(fa ρ).bind Bu):=by
 refine PI.imp (pi_range2 hg hm ha hs hs2) λσ H Q q=>?_;obtain⟨ρ,O,j,q⟩:=q;refine go j q λds xs H1 e1 s1 r1 j1 h1=>?_;unfold Bu at h1;split at h1
 ·obtain⟨x,y,rfl,rx,ry⟩:=r1.two;split at h1
  ·rename_i i k hi;exact⟨i,k,by rw[rx.int,ry.int],hi,fin h1 (YR.rng i (k - i).toNat)⟩
  ·exact h1.elim
 ·exact h1.elim
end
inductive DGp (X:Cx) (gt:D->ao->R ao) (v:V) (σ:St) (H:Hp) (Q:St->Hp->Prop):Prop
 |mk (ρ:ao) (O:acA->Prop) (d:D) (ρ':ao) (j:In X O H ρ σ) (r:Rep X.K O H d v) (e:gt d ρ= .ok ρ') (q:∀σ',In X O H ρ' σ'->Q σ' H):DGp X gt v σ H Q
def DG(X:Cx)(tg:acI)(gt:D->ao->R ao):Prop:=PG X tg λv σ H Q=>DGp X gt v σ H Q
inductive aaf (X:Cx) (gt:List D->ao->R ao) (vs:List V) (σ:St) (H:Hp) (Q:St->Hp->Prop):Prop
 |mk (ρ:ao) (O:acA->Prop) (ds:List D) (ρ':ao) (j:In X O H ρ σ) (r:aO X.K O H ds vs) (e:gt ds ρ= .ok ρ') (q:∀σ',In X O H ρ' σ'->Q σ' H):aaf X gt vs σ H Q
def XF(X:Cx)(ts:List acI)(gt:List D->ao->R ao):Prop:=PGs X ts λvs σ H Q=>aaf X gt vs σ H Q
section
variable{X:Cx}{pos:Pos}
theorem In.set(j:In X O H ρ σ)(hi:i<X.N.length){v:V}(r:Rep X.K O H d v):In X O H (ρ.set i (some (.val d))) (σ.set i (some v)):=by
 have h1:i<ρ.length:=by rw[j.o9];exact hi
 have h2:i<σ.length:=by rw[j.len];exact hi
 refine⟨⟨λk e q=>?_,λk l e e' u hkl qk ql ok ol sk sl=>?_,λk l rows a rs e u hkl qk sk ha ql ol sl=>?_⟩,j.al,by rw[aeE];exact j.len,by rw[aeE];exact j.o9⟩
 ·by_cases hk:k=i
  ·subst hk;rw[z2a h1] at q;cases q;exact⟨v,z2a h2,r⟩
  ·rw[z1e (acN hk)] at q;obtain⟨u,q1,q2⟩:=j.env.get k e q;exact⟨u,by rw[z1e (acN hk)];exact q1,q2⟩
 ·have hk:k≠i:=λz=>by subst z;rw[z2a h1] at qk;cases qk;cases ok
  have hl:l≠i:=λz=>by subst z;rw[z2a h1] at ql;cases ql;cases ol
  rw[z1e (acN hk)] at qk sk;rw[z1e (acN hl)] at ql sl;exact j.env.sep k l e e' u hkl qk ql ok ol sk sl
 ·have hk:k≠i:=λz=>by subst z;rw[z2a h1] at qk;cases qk
  have hl:l≠i:=λz=>by subst z;rw[z2a h1] at ql;cases ql;cases ol
  rw[z1e (acN hk)] at qk sk;rw[z1e (acN hl)] at ql sl;exact j.env.o8 k l rows a rs e u hkl qk sk ha ql ol sl
def aJ(i:Nat)(d:D)(ρ:ao):R ao:= .ok (ρ.set i (some (.val d)))
theorem bB(i:Nat){x:Str}(hN:X.N.Nodup)(hi:X.N[i]?=some x:=by rfl)(hx:Loc X.env.scope x:=by first |exact adS rfl |exact adA rfl)(hf:X.fn x=true\/X.env.scope.names.lookup x=some .local:=by first |exact .inl rfl |exact .inr rfl):DG X (.Name x pos) (aJ i):=by
 intro pins s σ H v u Q I r h;obtain⟨ρ,O,d,ρ',j,rd,e,q⟩:=h;cases e;exact pg_name hN hi hx hf pins s σ H v u Q I r (q _ (j.set (z1b hi).1 rd))
def nilG:List D->ao->R ao
 |[],ρ=> .ok ρ
 |_,_=> .bad
def aW(t:D->ao->R ao)(u:List D->ao->R ao):List D->ao->R ao
 |d::ds,ρ=>(t d ρ).bind λρ'=>u ds ρ'
 |_,_=> .bad
theorem kY:XF X [] nilG:=by
 intro pins s σ H vs us Q I r h;obtain⟨ρ,O,ds,ρ',j,rd,e,q⟩:=h;cases ds with
 |nil=>cases e;exact pgs_nil pins s σ H vs us Q I r ⟨rd.nil_inv,q _ j⟩
 |cons d ds=>cases e
theorem cC{e:acI}{es:List acI}{t:D->ao->R ao}(h1:DG X e t)(h2:XF X es u)
  (hs:(aeL (e::es) X.env).map (·.2)=assign e X.env::(aeL es X.env).map (·.2):=by rfl):XF X (e::es) (aW t u):=by
 intro pins s σ H vs us Q I r h;obtain⟨ρ,O,ds,ρ',j,rd,e,q⟩:=h;cases ds with
 |nil=>cases e
 | cons d ds=>
  obtain⟨x,xs,rfl,rx,rxs⟩:=rd.cons_inv;have e':(t d ρ).bind (λρ'=>u ds ρ')= .ok ρ':=e;cases q1:t d ρ with
  |bad=>rw[q1] at e';cases e'
  |err c=>rw[q1] at e';cases e'
  | ok ρ1=>
   rw[q1] at e';refine pgs_cons h1 h2 hs pins s σ H _ us Q I r ⟨x,xs,rfl,ρ,O,d,ρ1,j,rx,q1,λσ1 j1=>?_⟩;exact⟨ρ1,O,ds,ρ',j1,rxs,e',q⟩
def cD(u:List D->ao->R ao):D->ao->R ao
 | .tup ds,ρ=>u ds ρ
 |_,_=> .bad
def cF(n:Nat)(u:List D->ao->R ao):List D->ao->R ao:=λds ρ=>if ds.length=n then u ds ρ else .bad
theorem oG{es:List acI}{k:Nat}(hc:X.calm=true)(h:XF X es u)
  (hn:(aeL es X.env).length=n:=by rfl)(hst:(aeL es X.env).findIdx? (·.1)=none:=by rfl):DG X (.Tuple es k pos) (cD (cF n u)):=by
 intro pins s σ H v w Q I r q;obtain⟨ρ,O,d,ρ',j,rd,e,q⟩:=q;cases d with
 | tup ds=>
  obtain⟨a,xs,rfl,hq,rs⟩:=rd.tup;have e':(if ds.length=n then u ds ρ else .bad)= .ok ρ':=e;by_cases hl:ds.length=n
  ·rw[if_pos hl] at e';exact pg_tup hc h hn hst pins s σ H _ w Q I r ⟨a,xs,rfl,hq,by rw[<-rs.length];exact hl,ρ,O,ds,ρ',j,rs,e',q⟩
  ·rw[if_neg hl] at e';cases e'
 |_=>cases e
end
def lF(x:Str):List Str->Nat
 |[]=>0
 |y::r=>if x=y then 0 else lF x r+1
theorem mR{x:Str}:∀{N:List Str},x∈N->N[lF x N]?=some x
 |[],h=>by simp at h
 | y ::r,h=>by
  unfold lF;by_cases e:x=y
  ·rw[if_pos e,e];rfl
  ·rw[if_neg e];rcases acR.mp h with z |z
   ·exact absurd z e
   ·simpa using mR z
def pull{α:Type}(N caps:List Str)(n:Nat)(l:List (Option α)):List (Option α):=acH n none++caps.map λx=>(l[lF x N]?).join
theorem u9(N caps:List Str)(n:Nat)(l:List (Option α)):(pull N caps n l).length=n+caps.length:=by simp[pull]
theorem join_some{o:Option (Option α)}{a:α}(h:o.join=some a):o=some (some a):=by
 cases o with
 |none=>cases h
 |some o=>exact congrArg some h
theorem kj{l:List (Option α)}{a:α}(h:(pull N caps n l)[i]?=some (some a)):∃j x,i=n+j/\caps[j]?=some x/\l[lF x N]?=some (some a):=by
 unfold pull at h;by_cases hi:i<n
 ·rw[adl (by simpa using hi),aee,if_pos hi] at h;cases h
 ·rw[adf (by simpa using hi),adD,z2b] at h;cases e:caps[i - n]? with
  |none=>rw[e] at h;cases h
  | some x=>
   rw[e] at h;exact⟨i - n,x,by omega,e,join_some (acV h)⟩
theorem uH{l:List (Option α)}{j:Nat}{x:Str}(h:caps[j]?=some x):(pull N caps n l)[n+j]?=some (l[lF x N]?).join:=by
 unfold pull;rw[adf (by simp),adD,z2b,show n+j - n=j by omega,h];rfl
def dU(sc:aec):List Str:=(sc.names.filter λx=>decide (x.2= .free)).map (·.1)
def Q7(outer sc:aec)(ts N:List Str):Bool:=
 decide (sc.kind= .function) && sc.names.all (λx=>(!decide (x.2= .local)) || decide (sc.names.lookup x.1=some .local)) && sc.names.all (λx=>(!decide (x.2= .cell)) || decide (sc.names.lookup x.1=some .cell)) &&
  (dU sc).all (λx=>(decide (outer.names.lookup x=some .cell) || decide (outer.names.lookup x=some .free)) && decide (x∈N) && decide (sc.names.lookup x=some .free)) && decide (ts++dU sc).Nodup
structure zO(outer sc:aec)(ts N:List Str):Prop where
 kind:sc.kind= .function
 loc:∀x∈sc.names,x.2= .local->sc.names.lookup x.1=some .local
 XH:∀x∈sc.names,x.2= .cell->sc.names.lookup x.1=some .cell
 out:∀x∈dU sc,outer.names.lookup x=some .cell\/outer.names.lookup x=some .free
 mem:∀x∈dU sc,x∈N
 Ih:∀x∈dU sc,sc.names.lookup x=some .free
 nd:(ts++dU sc).Nodup
theorem abv{outer:aec}(h:Q7 outer sc ts N=true):zO outer sc ts N:=by
 unfold Q7 at h;simp only[adU,afi,decide_eq_true_eq,Bool.or_eq_true,agR,decide_eq_false_iff_not] at h;obtain⟨⟨⟨⟨h1,h2⟩,h3⟩,h4⟩,h5⟩:=h;exact⟨h1,λx hx e=>(h2 x hx).resolve_left λn=>n e,λx hx e=>(h3 x hx).resolve_left λn=>n e,λx hx=>(h4 x hx).1.1,λx hx=>(h4 x hx).1.2,λx hx=>(h4 x hx).2,h5⟩
def gC(cs:List (Str×acA)):List (Str×aeS)->List (Str×acA)->List (Str×acA)
 |[],acc=>acc
 |(n,k)::r,acc=>if k= .free then gC cs r ((n,(cs.lookup n).getD 0)::acc) else gC cs r acc
theorem Q8{env:PySem.Env}(h:∀x∈scope.names,x.2= .free->∃c,env.cells.lookup x.1=some c):ag0 scope env=pure (gC env.cells scope.names []):=by
 unfold ag0;have all:∀(l:List (Str×aeS)) (acc:List (Str×acA)),(∀x∈l,x.2= .free->∃c,env.cells.lookup x.1=some c)->
   (forIn l acc λx r=>match x with |(name,kind)=>if (kind ==adI)=true then do let a <-cellOf env name;pure (agi ((name,a)::r)) else pure (agi r):Sem (List (Str×acA)))=pure (gC env.cells l acc):=by
  intro l
  induction l with
  |nil=>intro acc _;rfl
  | cons x r ih=>
   intro acc hx;obtain⟨n,k⟩:=x;rw[afw];unfold gC;by_cases hk:k= .free
   ·obtain⟨c,hc⟩:=hx (n,k) acT hk;have hc:env.cells.lookup n=some c:=hc;have e1:cellOf env n=pure c:=by unfold cellOf;rw[hc]
    subst hk;simp only[e1,hc,ahf,beq_self_eq_true,if_true,pure_bind];exact ih _ λy hy=>hx y (z2f _ hy)
   ·have e2:(k ==adI)=false:=by simpa using hk
    simp only[e2,ac7,if_false,pure_bind,hk];exact ih _ λy hy=>hx y (z2f _ hy)
 simpa using all scope.names [] h
theorem jT(cs:List (Str×acA)):∀(l:List (Str×aeS)) (acc:List (Str×acA)),gC cs l acc=gC cs l []++acc
 |[],acc=>rfl
 | (n,k)::r,acc=>by
  unfold gC;split
  ·rw[jT cs r (_::acc),jT cs r [_]];simp
  ·exact jT cs r acc
theorem qN(cs:List (Str×acA)):∀(l:List (Str×aeS)) {n:Str} {c:acA},(n,c)∈gC cs l []->(n,adI)∈l/\c=(cs.lookup n).getD 0
 |[],_,_,h=>by simp[gC] at h
 | (m, k)::r,n,c,h=>by
  unfold gC at h;split at h
  ·rename_i hk;rw[jT] at h;rcases ad2.mp h with h |h
   ·obtain⟨h1,h2⟩:=qN cs r h;exact⟨z2f _ h1,h2⟩
   ·have e:=aen.mp h;cases e;subst hk;exact⟨acT,rfl⟩
  ·obtain⟨h1,h2⟩:=qN cs r h;exact⟨z2f _ h1,h2⟩
theorem Bv(cs:List (Str×acA)):∀(l:List (Str×aeS)) {n:Str},(n,adI)∈l->((gC cs l []).lookup n).isSome=true
 |[],_,h=>by simp at h
 | (m, k)::r,n,h=>by
  unfold gC;split
  ·rename_i hk;rw[jT,adT];rcases acR.mp h with e |h
   ·cases e;simp[aew]
   ·simp[Bv cs r h]
  ·rename_i hk;rcases acR.mp h with e |h
   ·cases e;exact absurd rfl hk
   ·exact Bv cs r h
theorem cZ:∀(l:List (Str×aeS)) (n:Nat) (acc:List (Str×acA)),acZ n l acc=acZ n l []++acc
 |[],_,_=>rfl
 | (m,k)::r,n,acc=>by
  unfold acZ;split
  ·rw[cZ r _ (_::acc),cZ r _ [_]];simp
  ·exact cZ r n acc
theorem jf:∀(l:List (Str×aeS)) (n:Nat) {x:Str} {c:acA},(x,c)∈acZ n l []->(x,ae0)∈l/\n<=c
 |[],_,_,_,h=>by simp[acZ] at h
 | (m, k)::r,n,x,c,h=>by
  unfold acZ at h;split at h
  ·rename_i hk;rw[cZ] at h;rcases ad2.mp h with h |h
   ·obtain⟨h1,h2⟩:=jf r _ h;exact⟨z2f _ h1,by omega⟩
   ·have e:=aen.mp h;cases e;have:k= .cell:=by simpa using hk
    subst this;exact⟨acT,z0g _⟩
  ·obtain⟨h1,h2⟩:=jf r _ h;exact⟨z2f _ h1,h2⟩
section
variable{M:Model}{A:acO}{E:acB->acC->Prop}{s:acC}
theorem Tq{globals:acA}{cl:List (Str×acA)}{qual:Str}{env:PySem.Env}{Q:PySem.Env->acC->Prop}
  (hQ:Q (newEnv scope s.heap.objs.size globals (acZ (s.heap.objs.size+1) scope.names cl) qual none .none (some env) ae1) {s with heap:=pushCells (s.heap.push {cls:= .type "dict",data:= .dict #[]}) scope.names}):
  acG M A (agq scope globals cl [] qual none .none (some env)) Q E s:=by
 simp only[agq,Option.isSome_some,if_true];refine acz (wpAny_alloc ?_);refine acz (wpAny_layCells _ (λname kind cells=>by cases hkc:kind ==ae0 <;> simp[hkc]) _ _ _ _ ?_);rw[show ({s with heap:=s.heap.push {cls:= .type "dict",data:= .dict #[]}}:acC).heap.objs.size=s.heap.objs.size+1 from adE ..];exact acz (acF (acF hQ))
end
def fU(scope:aec)(env:PySem.Env)(C:acA):PySem.Env:=
 {scope:=relabel scope env,locals:=C,globals:=env.globals,cells:=acZ (C+1) scope.names (gC env.cells scope.names []),qual:=env.qual,func:=none,code:=env.code,frame:=env.frame,builtins:=env.builtins}
def dh(X:Cx)(scope:aec)(ts:List Str)(C:acA)(s:acC)(H:Hp)(ex:List acA):Cx where
 prog:=X.prog
 w:=X.w
 K:=X.K
 mg:=X.mg
 base:=X.base
 A:=X.A
 N:=ts++dU scope
 s₀:=s
 H₀:=H
 env:=fU scope X.env C
 outer:=X.stack
 stack:=X.stack
 ex:=ex
 fn:=λx=>decide (scope.names.lookup x=some .cell)
 calm:=X.calm
 pn:=[]
 xe:=λ_ _=>False
theorem mU{scope:aec}{env:PySem.Env}{x:Str}:∀{names:List (Str×aeS)},
  (names.map λ(n,k)=>if (k ==adI && env.scope.kind == .function && env.kindOf n ==some .cell) then (n,ae0) else (n,k)).lookup x =
   (names.lookup x).map λk=>if (k ==adI && env.scope.kind == .function && env.kindOf x ==some .cell) then .cell else k
 |[]=>rfl
 | (n, k)::r=>by
  have ih:= @mU scope env x r;rw[z1h];show List.lookup x ((if (k ==adI && env.scope.kind == .function && env.kindOf n ==some .cell)=true then (n,ae0) else (n,k))::_)=_;cases hx:x ==n with
  | true=>
   have e:x=n:=by simpa using hx
   subst e;by_cases hc:(k ==adI && env.scope.kind == .function && env.kindOf x ==some .cell)=true
   ·rw[if_pos hc];simp only[aew,beq_self_eq_true,agj,hc,if_true]
   ·rw[if_neg hc];simp only[aew,beq_self_eq_true,agj,hc,if_false] <;> rfl
  | false=>
   by_cases hc:(k ==adI && env.scope.kind == .function && env.kindOf n ==some .cell)=true
   ·rw[if_pos hc];simp only[aew,hx];exact ih
   ·rw[if_neg hc];simp only[aew,hx];exact ih
theorem qO{x:Str}(h:(x,adI)∈sc.names):x∈dU sc:=adk.mpr ⟨(x,.free),agc.mpr ⟨h,by simp⟩,rfl⟩
theorem Yu{x:Str}(h:x∈dU sc):(x,adI)∈sc.names:=by
 obtain⟨⟨n,k⟩,h1,h2⟩:=adk.mp h;obtain⟨h3,h4⟩:=agc.mp h1;have h4:k=adI:=by simpa using h4
 subst h4;have h2:n=x:=h2;subst h2;exact h3
section
variable{X:Cx}{scope:aec}{ts:List Str}{C:acA}
theorem jx(B:zO X.env.scope scope ts X.N)(has:∀x,(X.env.kindOf x=some .cell\/X.env.kindOf x=some .free)->∃c,X.env.cells.lookup x=some c){x:Str}{c:acA}(h:(fU scope X.env C).cells.lookup x=some c):
  (scope.names.lookup x=some .cell/\@LE.le Nat _ (C+1) c)\/(x∈dU scope/\X.env.cells.lookup x=some c):=by
 have h:(acZ (C+1) scope.names (gC X.env.cells scope.names [])).lookup x=some c:=h;rw[cZ,adT] at h;cases e:(acZ (C+1) scope.names []).lookup x with
 | some c'=>
  rw[e] at h;have e2:c'=c:=by simpa using h
  subst e2;obtain⟨h1,h2⟩:=jf _ _ (PySem.mem_of_lookup e);exact .inl ⟨B.XH _ h1 rfl,h2⟩
 | none=>
  rw[e] at h;have h:(gC X.env.cells scope.names []).lookup x=some c:=by simpa using h
  obtain⟨h1,h2⟩:=qN _ _ (PySem.mem_of_lookup h);have hx:=qO h1;obtain⟨c',hc'⟩:=has x (B.out x hx);rw[hc'] at h2;have h2:c=c':=h2;subst h2;exact .inr ⟨hx,hc'⟩
theorem Ke(B:zO X.env.scope scope ts X.N){x:Str}{c:acA}(hx:x∈dU scope)(hc:X.env.cells.lookup x=some c)(has:∀x,(X.env.kindOf x=some .cell\/X.env.kindOf x=some .free)->∃c,X.env.cells.lookup x=some c):(fU scope X.env C).cells.lookup x=some c:=by
 have hs:=Bv X.env.cells scope.names (Yu hx);obtain⟨c',e⟩:=aeT.mp hs;have hl:∃d,(fU scope X.env C).cells.lookup x=some d:=by
  show ∃d,(acZ (C+1) scope.names (gC X.env.cells scope.names [])).lookup x=some d;rw[cZ,adT,e];cases (acZ (C+1) scope.names []).lookup x with
  |none=>exact⟨c',rfl⟩
  |some d=>exact⟨d,rfl⟩
 obtain⟨d,hd⟩:=hl;rcases jx B has hd with⟨h1,_⟩ |⟨_,h2⟩
 ·rw[B.Ih x hx] at h1;cases h1
 ·rw[hc] at h2;cases h2;exact hd
theorem Wb(B:zO X.env.scope scope ts X.N){x:Str}(hx:x∈dU scope):(fU scope X.env C).kindOf x=some .cell\/(fU scope X.env C).kindOf x=some .free:=by
 show (relabel scope X.env).names.lookup x=some .cell\/(relabel scope X.env).names.lookup x=some .free;have e:(relabel scope X.env).names.lookup x=(scope.names.lookup x).map λk=>if (k ==adI && X.env.scope.kind == .function && X.env.kindOf x ==some .cell) then .cell else k:=mU (scope:=scope);rw[e,B.Ih x hx];simp only[agj];split
 ·exact .inl rfl
 ·exact .inr rfl
end
def Kf{α:Type}:R α->R α
 | .err _=> .bad
 | .ok a=> .ok a
 | .bad=> .bad
@[simp] theorem Kg {α:Type} (a:α):Kf (R.ok a)= .ok a:=rfl
def jR(k:D->R (Option D)):List D->R (List D)
 |[]=> .ok []
 |x::xs=>(Kf (k x)).bind λo=>(jR k xs).bind λds=> .ok (o.toList++ds)
def tQ(gt:D->ao->R ao)(ft:ao->R Bool)(fe:ao->R D)(ρ:ao)(x:D):R (Option D):=
 (gt x ρ).bind λρ1=>(ft ρ1).bind λb=>if b=true then (fe ρ1).bind λd=> .ok (some d) else .ok none
def vd:Option Ent->Option Ent
 |some (.val d)=>some (.val d)
 |_=>none
def Dh(n:Nat)(caps:List Nat)(ρ:ao):ao:=acH n none++caps.map λk=>((ρ.map vd)[k]?).join
def cu(n:Nat)(caps:List Nat)(fi:ao->R (List D))(gt:D->ao->R ao)(ft:ao->R Bool)(fe:ao->R D):ao->R D:=
 λρ=>(fi ρ).bind λxs=>(jR (tQ gt ft fe (Dh n caps ρ)) xs).bind (cap .lst)
def xH(n:Nat)(gt:D->ao->R ao):Prop:=∀d ρ ρ',gt d ρ= .ok ρ'->∀i,n<=i->ρ'[i]?=ρ[i]?
def zP(n:Nat)(gt:List D->ao->R ao):Prop:=∀d ρ ρ',gt d ρ= .ok ρ'->∀i,n<=i->ρ'[i]?=ρ[i]?
theorem bf(h:i<n):xH n (aJ i):=λd ρ ρ' e j hj=>by
 cases e;rw[z1e (by omega)]
theorem iV:zP n nilG:=λd ρ ρ' e j hj=>by
 cases d with
 |nil=>cases e;rfl
 |cons _ _=>cases e
theorem bQ{t:D->ao->R ao}(h1:xH n t)(h2:zP n u):zP n (aW t u):=λd ρ ρ' e j hj=>by
 cases d with
 |nil=>cases e
 | cons d ds=>
  have e':(t d ρ).bind (λρ'=>u ds ρ')= .ok ρ':=e;cases q:t d ρ with
  |ok ρ1=>rw[q] at e';rw[h2 ds ρ1 ρ' e' j hj,h1 d ρ ρ1 q j hj]
  |err c=>rw[q] at e';cases e'
  |bad=>rw[q] at e';cases e'
theorem iW{m:Nat}(h:zP n u):xH n (cD (cF m u)):=λd ρ ρ' e j hj=>by
 cases d with
 | tup ds=>
  have e':(if ds.length=m then u ds ρ else .bad)= .ok ρ':=e;by_cases hl:ds.length=m
  ·rw[if_pos hl] at e';exact h ds ρ ρ' e' j hj
  ·rw[if_neg hl] at e';cases e'
 |_=>cases e
def DTs(Y:Cx)(ifs:List acI)(ft:ao->R Bool):Prop:=∀(pins:List (acA×Obj)) (s:acC) (σ:St) (H:Hp) (Q:Bool->Hp->Prop),Inv Y pins σ H s->tG Y rB ft σ H Q->
 acG (model Y.prog Y.w) Y.A (forIn ifs true λc r=>if r=true then do let ok <-isTrue c Y.env (eval c Y.env);pure (agi ok) else pure (agi r)) (TP Y pins σ Q) Y.xe s
theorem bW{Y:Cx}:DTs Y [] (λ_=> .ok true):=λpins s σ H Q I h=>by
 obtain⟨ρ,O,j,h⟩:=h;exact wpAny_tests_nil ⟨H,I,fin h rfl⟩
theorem Tr{k:D->R (Option D)}{x:D}{xs:List D}{all:List D}(h:jR k (x::xs)= .ok all):∃o rest,k x= .ok o/\jR k xs= .ok rest/\all=o.toList++rest:=by
 have h:(Kf (k x)).bind (λo=>(jR k xs).bind λds=> .ok (o.toList++ds))= .ok all:=h;cases e:k x with
 |bad=>rw[e] at h;cases h
 |err c=>rw[e] at h;cases h
 | ok o=>
  rw[e] at h;cases e2:jR k xs with
  |bad=>rw[e2] at h;cases h
  |err c=>rw[e2] at h;cases h
  | ok rest=>
   rw[e2] at h;cases h;exact⟨o,rest,rfl,rfl,rfl⟩
theorem Di{k:D->R (Option D)}:∀{xs:List D} {c:Str},jR k xs≠.err c
 |[],c=>λh=>by cases h
 | x ::xs,c=>λh=>by
  have h:(Kf (k x)).bind (λo=>(jR k xs).bind λds=> .ok (o.toList++ds))= .err c:=h;cases e:k x with
  |bad=>rw[e] at h;cases h
  |err c=>rw[e] at h;cases h
  | ok o=>
   rw[e] at h;cases e2:jR k xs with
   |bad=>rw[e2] at h;cases h
   |err c'=>exact Di e2
   |ok rest=>rw[e2] at h;cases h
section
variable{X:Cx}
theorem Q9{o:Option Ent}{e:Ent}(h:vd o=some e):o=some e/\e.O8=true:=by
 cases o with
 |none=>cases h
 | some e'=>
  cases e' with
  |val d=>cases h;exact⟨rfl,rfl⟩
  |lst _=>cases h
  |xr _=>cases h
  |rws _=>cases h
  |obj _=>cases h
theorem qP{e:Ent}(h:(ρ.map vd)[i]?=some (some e)):ρ[i]?=some (some e)/\e.O8=true:=by
 rw[z2b] at h;cases q:ρ[i]? with
 |none=>rw[q] at h;cases h
 | some o=>
  rw[q] at h;obtain⟨h1,h2⟩:=Q9 (acV h);rw[h1];exact⟨rfl,h2⟩
theorem In.vals(j:In X O H ρ σ):In X O H (ρ.map vd) σ:=
 ⟨⟨λi e h=>j.env.get i e (qP h).1,λi k e e' v hik hi hk=>j.env.sep i k e e' v hik (qP hi).1 (qP hk).1,λi k rows a rs e v hik hi=>by cases (qP hi).2⟩,j.al,j.len,by rw[z1g];exact j.o9⟩
theorem Ra{ks:List Nat}(h:caps.map (λx=>lF x N)=ks):pull N caps n (ρ.map vd)=Dh n ks ρ:=by
 unfold pull Dh;rw[<-h,ac8];rfl
theorem Yv{pins:List (acA×Obj)}{s:acC}{fp:List acA}(I:Inv X pins σ H s)(B:zO X.env.scope scope ts X.N)
  (hf:∀b∈fp,FpOk X pins H b)(ho:∀b∈fp,b<s.heap.objs.size){h4:acP}{C:Nat}(hC:C=s.heap.objs.size+1)
  (e4:h4=pushCells ((s.heap.push {cls:= .type "list",dict:=none,data:= .seq ([]:List acB).toArray}).push {cls:= .type "dict",data:= .dict #[]}) scope.names):
  Inv (dh X scope ts C s H fp) [] (pull X.N (dU scope) ts.length σ) (upd H s.heap.objs.size (.lst [])) {s with heap:=h4}:=by
 have hD:H s.heap.objs.size=none:=I.hok.fresh (z0g _);have XJ:∀b o,(s.heap.push {cls:= .type "list",dict:=none,data:= .seq ([]:List acB).toArray}).get? b=some o->h4.get? b=some o:=λb o e=>by
  rw[e4];exact afx _ _ b o (z1a _ e)
 have keep:∀b o,s.heap.get? b=some o->h4.get? b=some o:=λb o e=>XJ b o (z1a _ e);have sz3:(s.heap.push {cls:= .type "list",dict:=none,data:= .seq ([]:List acB).toArray}).objs.size=s.heap.objs.size+1:=adE ..;have hns:h4.Ns C λ_=>none:=by
  rw[e4,hC,<-sz3];exact (Heap.Ns.new _ (.type "dict")).keeps (afx _ _)
 have ok:=cellsFrom_ok scope.names ((s.heap.push {cls:= .type "list",dict:=none,data:= .seq ([]:List acB).toArray}).push {cls:= .type "dict",data:= .dict #[]}) (C+1) [] ⟨λ_ _ hm=>(nomatch hm),agQ⟩ (by rw[adE,sz3,hC];exact z0g _);rw[adE,sz3,<-hC,<-e4] at ok;have Yw:∀x c,(fU scope X.env C).cells.lookup x=some c->scope.names.lookup x=some .cell->h4.IsCell c none:=λx c h hk=>by
  have h:(acZ (C+1) scope.names (gC X.env.cells scope.names [])).lookup x=some c:=h;rw[cZ,adT] at h;cases e:(acZ (C+1) scope.names []).lookup x with
  | some c'=>
   rw[e] at h;have e2:c'=c:=by simpa using h
   subst e2;exact (ok.empty x c' (PySem.mem_of_lookup e)).1
  | none=>
   rw[e] at h;have h:(gC X.env.cells scope.names []).lookup x=some c:=by simpa using h
   have:=B.Ih x (qO (qN _ _ (PySem.mem_of_lookup h)).1);rw[hk] at this;cases this
 have Rb:∀x (c:Nat),X.env.cells.lookup x=some c->c<s.heap.objs.size:=λx c e=>by
  obtain⟨v,q⟩:=I.cell x c e;exact q.lt
 have aag:∀x c,(fU scope X.env C).cells.lookup x=some c->∃v,h4.IsCell c v:=λx c h=>by
  rcases jx B I.ok.has h with⟨h1,_⟩ |⟨_,h2⟩
  ·exact⟨_,Yw x c h h1⟩
  ·obtain⟨v,q⟩:=I.cell x c h2;exact⟨v,q.keeps keep⟩
 refine⟨⟨I.ok.mod,B.kind,I.ok.glob,I.ok.blt,by show @LE.le Nat _ s.heap.objs.size C;omega,?inj,?has,?cab,I.ok.hd,I.ok.frames,.inl rfl,?exf,I.bs,z0b I.ok.bsz I.sz,?noex,?exfs,I.stack,I.stkFree⟩,
  rfl,I.bare,Un.laid keep (z0g _) hD,⟨_,hns,?loc⟩,aag,?free,?freeC,λp hp=>absurd (show p∈([]:List (acA×Obj)) from hp) (by simp),I.hok.laid keep (z0g _) ?new,?len⟩
 case inj=>
  intro x y c h1 h2;have h1:(fU scope X.env C).cells.lookup x=some c:=h1;have h2:(fU scope X.env C).cells.lookup y=some c:=h2;rcases jx B I.ok.has h1 with⟨a1,a2⟩ |⟨a1,a2⟩ <;> rcases jx B I.ok.has h2 with⟨b1,b2⟩ |⟨b1,b2⟩
  ·-- both its own
   have look:∀z,(fU scope X.env C).cells.lookup z=some c->scope.names.lookup z=some .cell->(z,c)∈acZ (C+1) scope.names []:=λz h hk=>by
    have h:(acZ (C+1) scope.names (gC X.env.cells scope.names [])).lookup z=some c:=h;rw[cZ,adT] at h;cases e:(acZ (C+1) scope.names []).lookup z with
    | some c'=>
     rw[e] at h;have e2:c'=c:=by simpa using h
     subst e2;exact PySem.mem_of_lookup e
    | none=>
     rw[e] at h;have h:(gC X.env.cells scope.names []).lookup z=some c:=by simpa using h
     have:=B.Ih z (qO (qN _ _ (PySem.mem_of_lookup h)).1);rw[hk] at this;cases this
   exact name_of_addr ok.apart (look x h1 a1) (look y h2 b1)
  ·have:=Rb y c b2;omega
  ·have:=Rb x c a2;omega
  ·exact I.ok.inj x y c a2 b2
 case has=>
  intro x hx;have hx:(relabel scope X.env).names.lookup x=some .cell\/(relabel scope X.env).names.lookup x=some .free:=hx;have hx:(scope.names.map λ(n,k)=>if (k ==adI && X.env.scope.kind == .function && X.env.kindOf n ==some .cell) then (n,ae0) else (n,k)).lookup x=some .cell\/(scope.names.map λ(n,k)=>if (k ==adI && X.env.scope.kind == .function && X.env.kindOf n ==some .cell) then (n,ae0) else (n,k)).lookup x=some .free:=hx;rw[mU (scope:=scope)] at hx;cases e:scope.names.lookup x with
  |none=>rw[e] at hx;rcases hx with z |z <;> cases z
  | some k=>
   rw[e] at hx;by_cases hk:k= .free
   ·subst hk;have hm:=qO (PySem.mem_of_lookup e);obtain⟨c,hc⟩:=I.ok.has x (B.out x hm);exact⟨c,Ke B hm hc I.ok.has⟩
   ·have hk':(k ==adI)=false:=by simpa using hk
    simp only[agj,hk',Bool.false_and,ac7,if_false] at hx;have hc:k= .cell:=by
     rcases hx with z |z
     ·exact acV z
     ·exact absurd (acV z) hk
    subst hc;have q:=PySem.W.cellsFrom_some scope.names (C+1) (gC X.env.cells scope.names []) (.inl e);exact aeT.mp q
 case cab=>
  intro x c hfn h;have h:(fU scope X.env C).cells.lookup x=some c:=h;have hfn:scope.names.lookup x=some .cell:=of_decide_eq_true hfn;rcases jx B I.ok.has h with⟨_,a2⟩ |⟨a1,_⟩
  ·show @LE.le Nat _ s.heap.objs.size c;omega
  ·rw[B.Ih x a1] at hfn;cases hfn
 case exf=>
  intro b hb;have hb:b∈fp:=hb;have hl: @LT.lt Nat _ b s.heap.objs.size:=ho b hb;refine⟨by show @Ne Nat b C;omega,λx c h=>?_⟩;rcases jx B I.ok.has h with⟨_,a2⟩ |⟨_,a2⟩
  ·show @Ne Nat c b;omega
  ·exact (hf b hb).2.2.2.2.1 x c a2
 case noex=>
  intro b o e hb;have hb:b∈fp:=hb;rcases (hf b hb).2.2.2.1 with z |z
  ·exact I.ok.noex b o e z
  ·exact absurd (z0d (z2c e) (z0b I.ok.bsz z)) (adH _)
 case exfs=>
  intro b hb hz;have hb:b∈fp:=hb;have hz:b∈frs X.stack:=hz;rcases acR.mp (I.stkSub b hz) with z |z
  ·exact (hf b hb).2.1 z
  ·exact (hf b hb).2.2.1 z
 case loc=>
  intro i x v h1 h2 h3;have h1:(ts++dU scope)[i]?=some x:=h1;obtain⟨k,y,e1,e2,e3⟩:=kj h2;have hy:x=y:=by
   rw[e1,adf (by omega),show ts.length+k - ts.length=k by omega,e2] at h1;exact (acV h1).symm
  subst hy;have hm:x∈dU scope:=ac6 e2;obtain⟨m,_,hl⟩:=I.loc;have vis:Vis X.env.scope x:=by
   rcases B.out x hm with z |z
   ·exact .inr (.inl z)
   ·exact .inr (.inr z)
  obtain⟨u,ru,lk⟩:=hl (lF x X.N) x v (mR (B.mem x hm)) e3 vis;refine⟨u,ru,.inr ⟨Wb B hm,?_⟩⟩;rcases lk with⟨z,_⟩ |⟨_,c,hc,q⟩
  ·have z:X.env.scope.names.lookup x=some .local:=z;rcases B.out x hm with z' |z' <;> rw[z] at z' <;> cases z'
  ·exact⟨c,Ke B hm hc I.ok.has,q.keeps keep⟩
 case free=>
  show upd H s.heap.objs.size (.lst []) C=none;rw[upd_ne (show @Ne Nat C s.heap.objs.size by omega)];exact I.hok.fresh (show @LE.le Nat _ s.heap.objs.size C by omega)
 case freeC=>
  intro x c h;rcases jx B I.ok.has h with⟨_,a2⟩ |⟨_,a2⟩
  ·rw[upd_ne (show @Ne Nat c s.heap.objs.size by omega)];exact I.hok.fresh (show @LE.le Nat _ s.heap.objs.size c by omega)
  ·have:=Rb x c a2;rw[upd_ne (show @Ne Nat c s.heap.objs.size by omega)];exact I.freeC x c a2
 case new=>
  exact⟨adz _,[],0,.nil,XJ _ _ (z1f _ rfl)⟩
 case len=>
  show (pull X.N (dU scope) ts.length σ).length=(ts++dU scope).length;rw[u9,z1d]
theorem aah{s:acC}{fp:List acA}{C:acA}(B:zO X.env.scope scope ts X.N)(j:In X O H ρ σ):In (dh X scope ts C s H fp) O H (pull X.N (dU scope) ts.length ρ) (pull X.N (dU scope) ts.length σ):=by
 refine⟨⟨λi e h=>?_,λi k e e' v hik hi hk oi ok si sk=>?_,λi k rows a rs e v hik hi si ha hk ok sk=>?_⟩,j.al,?_,?_⟩
 ·obtain⟨m,x,rfl,e1,e2⟩:=kj h;obtain⟨v,e3,r⟩:=j.env.get _ e e2;exact⟨v,by rw[uH e1,e3];rfl,r⟩
 ·obtain⟨m,x,rfl,e1,e2⟩:=kj hi;obtain⟨m',x',rfl,e1',e2'⟩:=kj hk;have hx:x≠x':=λz=>by
   subst z;have nd:=(agS.mp B.nd).2.1;exact hik (by rw[nodup_ix nd e1 e1'])
  have hm:=B.mem x (ac6 e1);have hm':=B.mem x' (ac6 e1');have hne:lF x X.N≠lF x' X.N:=λz=>by
   have q1:=mR hm;have q2:=mR hm';rw[z,q2] at q1;exact hx (acV q1).symm
  rw[uH e1] at si;rw[uH e1'] at sk;exact j.env.sep _ _ e e' v hne e2 e2' oi ok (join_some (acV si)) (join_some (acV sk))
 ·obtain⟨m,x,rfl,e1,e2⟩:=kj hi;obtain⟨m',x',rfl,e1',e2'⟩:=kj hk;have hx:x≠x':=λz=>by
   subst z;have nd:=(agS.mp B.nd).2.1;exact hik (by rw[nodup_ix nd e1 e1'])
  have hm:=B.mem x (ac6 e1);have hm':=B.mem x' (ac6 e1');have hne:lF x X.N≠lF x' X.N:=λz=>by
   have q1:=mR hm;have q2:=mR hm';rw[z,q2] at q1;exact hx (acV q1).symm
  rw[uH e1] at si;rw[uH e1'] at sk;exact j.env.o8 _ _ rows a rs e v hne e2 (join_some (acV si)) ha e2' ok (join_some (acV sk))
 ·show (pull X.N (dU scope) ts.length σ).length=(ts++dU scope).length;rw[u9,z1d]
 ·show (pull X.N (dU scope) ts.length ρ).length=(ts++dU scope).length;rw[u9,z1d]
end
theorem eG:1000000<sizeLine:=by rw[adv];decide
section
variable{X:Cx}
theorem In.back{Y:Cx}{ρ1:ao}(j:In Y O H ρ1 σ)(h0:∀i,i<n->ρ[i]?=some none)(h1:∀i,n<=i->ρ1[i]?=ρ[i]?)(hl:ρ.length=Y.N.length):In Y O H ρ σ:=by
 have sub:∀(i:Nat) e,ρ[i]?=some (some e)->ρ1[i]?=some (some e):=λi e h=>by
  by_cases hi:i<n
  ·rw[h0 i hi] at h;cases h
  ·rw[h1 i (by omega)];exact h
 exact⟨⟨λi e h=>j.env.get i e (sub i e h),λi k e e' v hik hi hk=>j.env.sep i k e e' v hik (sub i e hi) (sub k e' hk),λi k rows a rs e v hik hi si ha hk=>j.env.o8 i k rows a rs e v hik (sub i _ hi) si ha (sub k e hk)⟩,j.al,j.len,hl⟩
theorem Tt{l:List (Option α)}(h:i<n):(pull N caps n l)[i]?=some none:=by
 unfold pull;rw[adl (by simpa using h),aee,if_pos h]
theorem In.go{Y:Cx}{O':acA->Prop}{H':Hp}(j:In Y O H ρ σ)(hv:∀(i:Nat) e,ρ[i]?=some (some e)->e.O8=true)(r:eN Y.K O H O' H')(al:∀a,O' a->∃o,H' a=some o):In Y O' H' ρ σ:=by
 refine⟨⟨λi e h=>?_,λi k e e' v _ hi _ oi=>?_,λi k rows a rs e v _ hi=>by cases hv i _ hi⟩,al,j.len,j.o9⟩
 ·obtain⟨v,h1,h2⟩:=j.env.get i e h;refine⟨v,h1,?_⟩;cases e with
  |val d=>exact Rep.go r h2
  |lst _=>cases hv i _ h
  |xr _=>cases hv i _ h
  |rws _=>cases hv i _ h
  |obj _=>cases hv i _ h
 ·rw[Yt (hv i e hi)] at oi;cases oi
theorem Ii:∀(i:Nat) e,(pull N caps n (ρ.map vd))[i]?=some (some e)->e.O8=true:=λi e h=>by
 obtain⟨_,_,_,_,q⟩:=kj h;exact (qP q).2
end
inductive So where
 |bad |nx (ρ:ao) |rt (d:D) |bk (ρ:ao) |ct (ρ:ao) |ex (c:Str) (ρ:ao)
def J2(H0:Hp)(O0:acA->Prop)(H:Hp)(ρ:ao)(σ:St):Prop:=∀(i:Nat) (rows:List (List D)) (a:acA) (rs:List acA),ρ[i]?=some (some (.rws rows))->σ[i]?=some (some (.ref a))->H a=some (.lst (rs.map V.ref))->∀r∈rs,H0 r=none/\¬O0 r
structure At(X:Cx)(H0:Hp)(O0 O:acA->Prop)(H:Hp)(ρ:ao)(σ:St):Prop where
 same:Same H0 H
 dM:eN X.K O0 H0 O H
 sub:∀a,O0 a->O a
 inn:In X O H ρ σ
 mine:∀(i:Nat) e a,ρ[i]?=some (some e)->e.own=true->σ[i]?=some (some (.ref a))->H0 a=none/\¬O0 a
 zQ:J2 H0 O0 H ρ σ
def uI(X:Cx)(H0:Hp)(O0 O:acA->Prop)(H:Hp)(E:Ends)(o:So):Prop:=match o with
 | .nx ρ'=>∀σ' H' O',At X H0 O0 O' H' ρ' σ'->eN X.K O H O' H'->E.nx σ' H'
 | .bk ρ'=>∀σ' H' O',At X H0 O0 O' H' ρ' σ'->eN X.K O H O' H'->E.bk σ' H'
 | .ct ρ'=>∀σ' H' O',At X H0 O0 O' H' ρ' σ'->eN X.K O H O' H'->E.ct σ' H'
 | .rt d=>∀v H',Same H0 H'->Rep X.K O0 H' d v->E.rt v H'
 | .ex c ρ'=>∀σ' H' O',At X H0 O0 O' H' ρ' σ'->Aj X c σ' H'
 | .bad=>False
theorem uI.go{H1:Hp}{O1:acA->Prop}{E:Ends}{o:So}(h:uI X H0 O0 O H E o)(r:eN X.K O H O1 H1):uI X H0 O0 O1 H1 E o:=by
 cases o with
 |bad=>exact h
 |rt d=>exact h
 |bk ρ2=>exact λσ2 H2 O2 j2 r2=>h σ2 H2 O2 j2 (r.trans r2)
 |ct ρ2=>exact λσ2 H2 O2 j2 r2=>h σ2 H2 O2 j2 (r.trans r2)
 |nx ρ2=>exact λσ2 H2 O2 j2 r2=>h σ2 H2 O2 j2 (r.trans r2)
 |ex c ρ2=>exact h
def tS(X:Cx)(g:ao->So):TS:=λE σ H=>∃H0 O0 O ρ,At X H0 O0 O H ρ σ/\uI X H0 O0 O H E (g ρ)
def DS(X:Cx)(st:acS)(g:ao->So):Prop:=PS X st (tS X g)
def jg(X:Cx)(st:List acS)(g:ao->So):Prop:=PSs X st (tS X g)
theorem PS.imp{e:acS}{t t':TS}(h:PS X e t)(w:∀σ H Q,t' Q σ H->t Q σ H):PS X e t':=λpins s σ H Q I q=>h pins s σ H Q I (w σ H Q q)
theorem PSs.imp{e:List acS}{t t':TS}(h:PSs X e t)(w:∀σ H Q,t' Q σ H->t Q σ H):PSs X e t':=λpins s σ H Q I q=>h pins s σ H Q I (w σ H Q q)
section
variable{X:Cx}{H0 H H1:Hp}{O0 O:acA->Prop}{ρ:ao}{σ:St}
theorem J2.of(h:J2 H0 O0 H ρ σ)(w:∀(i:Nat) (rows:List (List D)) (a:acA) (rs:List acA),ρ[i]?=some (some (.rws rows))->σ[i]?=some (some (.ref a))->H1 a=some (.lst (rs.map V.ref))->H a=some (.lst (rs.map V.ref))):J2 H0 O0 H1 ρ σ:=λi rows a rs hi hs ha=>h i rows a rs hi hs (w i rows a rs hi hs ha)
theorem At.grow(j:At X H0 O0 O H ρ σ)(s:Same H H1):At X H0 O0 O H1 ρ σ:=⟨j.same.trans s,j.dM.trans (Same.dM s),j.sub,j.inn.same s,j.mine,j.zQ.of λi rows a rs hi hs ha=>j.inn.env.back s hi hs ha⟩
theorem At.set(j:At X H0 O0 O H ρ σ)(hi:i<X.N.length){v:V}(r:Rep X.K O H d v):At X H0 O0 O H (ρ.set i (some (.val d))) (σ.set i (some v)):=by
 have h1:i<ρ.length:=by rw[j.inn.o9];exact hi
 refine⟨j.same,j.dM,j.sub,j.inn.set hi r,λk e a h ho hs=>?_,λk rows a rs h hs=>?_⟩
 ·by_cases hk:k=i
  ·subst hk;rw[z2a h1] at h;cases h;cases ho
  ·rw[z1e (acN hk)] at h hs;exact j.mine k e a h ho hs
 ·by_cases hk:k=i
  ·subst hk;rw[z2a h1] at h;cases h
  ·rw[z1e (acN hk)] at h hs;exact j.zQ k rows a rs h hs
def Rc:Option Ent->Option Ent
 |some (.lst ds)=>some (.val (.lst ds))
 |some (.rws rows)=>some (.val (.lst (rows.map D.lst)))
 |o=>o
def cO(ρ:ao):ao:=ρ.map Rc
def O9(H:Hp)(ρ:ao)(σ:St)(O:acA->Prop):acA->Prop:=λa=>O a/\(∀(i:Nat) ds,ρ[i]?=some (some (.lst ds))->σ[i]?≠some (some (.ref a)))/\∀(i:Nat) (rows:List (List D)) (b:acA) (rs:List acA),ρ[i]?=some (some (.rws rows))->σ[i]?=some (some (.ref b))->H b=some (.lst (rs.map V.ref))->a∉b::rs
theorem Bw{e:Ent}(h:(cO ρ)[i]?=some (some e)):(ρ[i]?=some (some e)/\(∀ds,e≠.lst ds)/\∀rows,e≠.rws rows)\/(∃ds,ρ[i]?=some (some (.lst ds))/\e= .val (.lst ds))\/∃rows,ρ[i]?=some (some (.rws rows))/\e= .val (.lst (rows.map D.lst)):=by
 unfold cO at h;rw[z2b] at h;cases q:ρ[i]? with
 |none=>rw[q] at h;cases h
 | some o=>
  rw[q] at h;have h:Rc o=some e:=acV h;cases o with
  |none=>cases h
  | some e'=>
   cases e' with
   |val d=>cases h;exact .inl ⟨rfl,(λ_ z=>by cases z),(λ_ z=>by cases z)⟩
   |lst ds=>cases h;exact .inr (.inl ⟨ds,rfl,rfl⟩)
   |xr kvs=>cases h;exact .inl ⟨rfl,(λ_ z=>by cases z),(λ_ z=>by cases z)⟩
   |obj t=>cases h;exact .inl ⟨rfl,(λ_ z=>by cases z),(λ_ z=>by cases z)⟩
   |rws rows=>cases h;exact .inr (.inr ⟨rows,rfl,rfl⟩)
theorem Ij{K:PySem.W.Frag}{O':acA->Prop}:∀{rs:List acA} {rows:List (List D)},rs.length=rows.length->(∀(i:Nat) r row,rs[i]?=some r->rows[i]?=some row->Rep K O' H (.lst row) (.ref r))->aO K O' H (rows.map D.lst) (rs.map V.ref)
 |[],[],_,_=> .nil
 |[],_::_,h,_=>by cases h
 |_::_,[],h,_=>by cases h
 |r::rs,row::rows,h,n=> .cons (n 0 r row rfl rfl) (Ij (Nat.succ.inj h) λi r row e1 e2=>n (i+1) r row e1 e2)
theorem In.cO(j:In X O H ρ σ):In X (O9 H ρ σ O) H (Pu.cO ρ) σ:=by
 refine⟨⟨λi e h=>?_,λi k e e' v hik hi hk oi ok si sk=>?_,λi k rows a rs e v hik hi=>?_⟩,λa z=>j.al a z.1,j.len,by unfold Pu.cO;rw[z1g];exact j.o9⟩
 ·rcases Bw h with⟨h1,h2,h2'⟩ |⟨ds,h1,rfl⟩ |⟨rows,h1,rfl⟩
  ·obtain⟨v,h3,h4⟩:=j.env.get i e h1;refine⟨v,h3,?_⟩;cases e with
   |val d=>exact Rep.fewer (λa z=>z.1) h4
   |lst ds=>exact absurd rfl (h2 ds)
   |rws rows=>exact absurd rfl (h2' rows)
   |obj t=>exact h4
   | xr kvs=>
    obtain⟨a,ys,e1,o1,e2,k1,r1⟩:=h4;refine⟨a,ys,e1,⟨o1,λk ds hk hs=>?_,λk rows b rs hk hs hb hm=>?_⟩,e2,k1,r1.fewer λa z=>z.1⟩
    ·by_cases hik:i=k
     ·subst hik;rw[h1] at hk;cases hk
     ·exact j.env.sep i k _ _ v hik h1 hk rfl rfl h3 (by rw[e1];exact hs)
    ·by_cases hik:i=k
     ·subst hik;rw[h1] at hk;cases hk
     ·rcases acR.mp hm with z |z
      ·exact j.env.sep i k _ _ v hik h1 hk rfl rfl h3 (by rw[e1,z];exact hs)
      ·exact (j.env.o8 k i rows b rs _ v (acN hik) hk hs hb h1 rfl h3).1 a z e1
  ·obtain⟨v,h3,a,xs,e1,o1,e2,r1⟩:=j.env.get i _ h1;exact⟨v,h3,by rw[e1];exact kW (SqL.of e2) (λz=>z.2.1 i ds h1 (by rw[<-e1];exact h3)) (r1.fewer λa z=>z.1)⟩
  ·obtain⟨v,h3,a,rs,e1,R⟩:=j.env.get i _ h1;refine⟨v,h3,?_⟩;have hs:σ[i]?=some (some (.ref a)):=by rw[<-e1];exact h3
   rw[e1];refine kW (SqL.of R.at_) (λz=>z.2.2 i rows a rs h1 hs R.at_ (acT ..)) (Ij R.len λk r row q1 q2=>?_);obtain⟨_,xs,q3,q4⟩:=R.row k r row q1 q2;exact kW (SqL.of q3) (λz=>z.2.2 i rows a rs h1 hs R.at_ (z2f _ (ac6 q1))) (q4.fewer λa z=>z.1)
 ·have un:∀{m:Nat} {e:Ent},(Pu.cO ρ)[m]?=some (some e)->e.own=true->ρ[m]?=some (some e):=λ{m e} h ho=>by
   rcases Bw h with⟨h1,_⟩ |⟨ds,_,rfl⟩ |⟨rows,_,rfl⟩
   ·exact h1
   ·cases ho
   ·cases ho
  exact j.env.sep i k e e' v hik (un hi oi) (un hk ok) oi ok si sk
 ·rcases Bw hi with⟨_,_,h2⟩ |⟨ds,_,z⟩ |⟨_,_,z⟩
  ·exact absurd rfl (h2 rows)
  ·cases z
  ·cases z
theorem At.ab1(j:At X H0 O0 O H ρ σ):∀a,O0 a->O9 H ρ σ O a:=λa z=>⟨j.sub a z,λi ds h hs=>(j.mine i _ a h rfl hs).2 z,λi rows b rs h hs hb hm=>by
 rcases acR.mp hm with q |q
 ·subst q;exact (j.mine i _ _ h rfl hs).2 z
 ·exact (j.zQ i rows b rs h hs hb a q).2 z⟩
end
section
variable{X:Cx}{st:acS}{rest:List acS}{g k:ao->So}{f:ao->R D}{p:ao->R Bool}{e:acI}{pos:Pos}
def aM(g k:ao->So):ao->So:=λρ=>match g ρ with
 | .nx ρ'=>k ρ'
 |o=>o
theorem bL:jg X [] .nx:=PSs.imp pss_nil λσ H E h=>by
 obtain⟨H0,O0,O,ρ,j,h⟩:=h;exact h σ H O j .refl
theorem aK(h:DS X st g):jg X [st] g:=pss_one h
theorem aD(h1:DS X st g)(h2:jg X rest k):jg X (st::rest) (aM g k):=by
 refine PSs.imp (pss_cons h1 h2) λσ H E h=>?_;obtain⟨H0,O0,O,ρ,j,h⟩:=h;unfold aM at h;refine⟨H0,O0,O,ρ,j,?_⟩;cases e1:g ρ with
 |bad=>rw[e1] at h;exact h
 |rt d=>rw[e1] at h;exact h
 |bk ρ'=>rw[e1] at h;exact h
 |ct ρ'=>rw[e1] at h;exact h
 |ex c ρ'=>rw[e1] at h;exact h
 | nx ρ'=>
  rw[e1] at h;have h:uI X H0 O0 O H E (k ρ'):=h;exact λσ' H' O' j' r'=>⟨H0,O0,O',ρ',j',h.go r'⟩
def gZ(r:R D)(ρ:ao)(k:D->So):So:=match r with
 | .ok d=>k d
 | .err c=> .ex c ρ
 | .bad=> .bad
def retS(f:ao->R D):ao->So:=λρ=>gZ (f (cO ρ)) ρ .rt
theorem aX(he:DE X e f):DS X (.Return (some e) pos) (retS f):=by
 refine PS.imp (ps_ret he) λσ H E h=>?_;obtain⟨H0,O0,O,ρ,j,h⟩:=h;refine⟨cO ρ,O9 H ρ σ O,j.inn.cO,?_⟩;unfold retS gZ at h;cases e1:f (cO ρ) with
 |bad=>rw[e1] at h;exact h
 |err c=>rw[e1] at h;exact h σ H O j
 |ok d=>rw[e1] at h;exact λv H' s r=>h v H' (j.same.trans s) (Rep.fewer j.ab1 r)
def gJ(f:ao->R D):ao->So:=λρ=>gZ (f (cO ρ)) ρ λ_=> .nx ρ
theorem fC(he:DE X e f)(hs:afC e none pos.line X.env=pure false:=by rfl):DS X (.Expr e pos) (gJ f):=by
 refine PS.imp (ps_expr he hs) λσ H E h=>?_;obtain⟨H0,O0,O,ρ,j,h⟩:=h;refine⟨cO ρ,O9 H ρ σ O,j.inn.cO,?_⟩;unfold gJ gZ at h;cases e1:f (cO ρ) with
 |bad=>rw[e1] at h;exact h
 |err c=>rw[e1] at h;exact h σ H O j
 |ok d=>rw[e1] at h;exact λv H' s r=>h σ H' O (j.grow s) (Same.dM s)
def bh(f:ao->R D)(gt:D->ao->R ao):ao->So:=λρ=>gZ (f ρ) ρ λd=>match gt d ρ with
 | .ok ρ'=> .nx ρ'
 |_=> .bad
theorem bD(i:Nat){x:Str}{pos':Pos}(hN:X.N.Nodup)(he:DE X e f)(hi:X.N[i]?=some x:=by rfl)(hx:Loc X.env.scope x:=by first |exact adS rfl |exact adA rfl)(hs:afC e (some (.Name x pos')) pos.line X.env=pure false:=by rfl)
  (hf:X.fn x=true\/X.env.scope.names.lookup x=some .local:=by first |exact .inl rfl |exact .inr rfl):DS X (.Assign [.Name x pos'] e pos) (bh f (aJ i)):=by
 refine PS.imp (ps_set hN hi hx he hs hf) λσ H E h=>?_;obtain⟨H0,O0,O,ρ,j,h⟩:=h;refine⟨ρ,O,j.inn,?_⟩;unfold bh gZ at h;cases e1:f ρ with
 |bad=>rw[e1] at h;exact h
 |err c=>rw[e1] at h;exact h σ H O j
 |ok d=>rw[e1] at h;exact λv H' s r=>h _ H' O ((j.grow s).set (z1b hi).1 r) (Same.dM s)
theorem fD(i k:Nat){x y:Str}{py pt:Pos}{kt}(hc:X.calm=true)(hN:X.N.Nodup)(he:DE X e f)(hi:X.N[i]?=some x:=by rfl)(hk:X.N[k]?=some y:=by rfl)
  (hx:Loc X.env.scope x:=by first |exact adS rfl |exact adA rfl)(hy:Loc X.env.scope y:=by first |exact adS rfl |exact adA rfl)
  (hfx:X.fn x=true\/X.env.scope.names.lookup x=some .local:=by first |exact .inl rfl |exact .inr rfl)(Kh:X.fn y=true\/X.env.scope.names.lookup y=some .local:=by first |exact .inl rfl |exact .inr rfl)
  (hs:aeH [.Tuple [.Name x px,.Name y py] kt pt] e pos.line X.env=pure false:=by rfl)(hw:aeI [.Tuple [.Name x px,.Name y py] kt pt] e X.env=pure none:=by rfl):
  DS X (.Assign [.Tuple [.Name x px,.Name y py] kt pt] e pos) (bh f (cD (cF 2 (aW (aJ i) (aW (aJ k) nilG))))):=by
 refine PS.imp (ps_asg he (pg_tup hc (pgs_cons (pg_name hN hi hx hfx) (pgs_cons (pg_name hN hk hy Kh) pgs_nil))) hs hw) λσ H E h=>?_;obtain⟨H0,O0,O,ρ,j,h⟩:=h;refine⟨ρ,O,j.inn,?_⟩;unfold bh gZ at h;cases e1:f ρ with
 |bad=>rw[e1] at h;exact h
 |err c=>rw[e1] at h;exact h σ H O j
 | ok d=>
  rw[e1] at h;intro v H' s r;cases d with
  | tup ds=>
   match ds,h,r with
   |[],h,_=>exact h.elim
   |[_],h,_=>exact h.elim
   |_::_::_::_,h,_=>exact (show False by simpa[cD,cF,uI] using h).elim
   | [d1,d2],h,r=>
    obtain⟨a,xs,rfl,hq,rs⟩:=r.tup;obtain⟨v1,v2,rfl,r1,r2⟩:=rs.two;refine⟨a,[v1,v2],rfl,hq,rfl,v1,[v2],rfl,v2,[],rfl,rfl,?_⟩;exact h _ H' O (((j.grow s).set (z1b hi).1 r1).set (z1b hk).1 r2) (Same.dM s)
  |_=>exact h.elim
def cW(p:ao->R Bool)(g k:ao->So):ao->So:=λρ=>match p (cO ρ) with
 | .ok true=>g ρ
 | .ok false=>k ρ
 | .err c=> .ex c ρ
 | .bad=> .bad
theorem Pb{g:ao->So}{E:Ends}{H1:Hp}(j:At X H0 O0 O H ρ σ)(s:Same H H1)(h:uI X H0 O0 O H E (g ρ)):tS X g E σ H1:=
 ⟨H0,O0,O,ρ,j.grow s,h.go (Same.dM s)⟩
theorem cG{c:acI}{a b:List acS}(hc:DT X c p)(ha:jg X a g)(hb:jg X b k):DS X (.If c a b pos) (cW p g k):=by
 refine PS.imp (ps_if hc ha hb) λσ H E h=>?_;obtain⟨H0,O0,O,ρ,j,h⟩:=h;refine⟨cO ρ,O9 H ρ σ O,j.inn.cO,?_⟩;unfold cW at h;cases e1:p (cO ρ) with
 |bad=>rw[e1] at h;exact h
 |err c=>rw[e1] at h;exact h σ H O j
 | ok t=>
  rw[e1] at h;intro b' H' s e;subst e;cases t with
  |true=>rw[if_pos rfl];exact Pb j s h
  |false=>rw[if_neg acY];exact Pb j s h
theorem vf:DS X st (λ_=> .bad):=λpins s σ H E I h=>by
 obtain⟨_,_,_,_,_,h⟩:=h;exact h.elim
def forL(gt:D->ao->R ao)(b:ao->So):List D->ao->So
 |[],ρ=> .nx ρ
 | x ::xs,ρ=>match gt x ρ with
  | .ok ρ1=>match b ρ1 with
   | .nx ρ2=>forL gt b xs ρ2
   | .ct ρ2=>forL gt b xs ρ2
   | .bk ρ2=> .nx ρ2
   |o=>o
  |_=> .bad
def lG(fi:ao->R (List D))(gt:D->ao->R ao)(b:ao->So):ao->So:=λρ=>match fi ρ with
 | .ok xs=>forL gt b xs ρ
 | .err c=> .ex c ρ
 | .bad=> .bad
inductive aai (X:Cx) (gt:D->ao->R ao) (v:V) (σ:St) (H:Hp) (Q:St->Hp->Prop):Prop
 |mk (H0:Hp) (O0 O:acA->Prop) (ρ:ao) (d:D) (ρ':ao) (j:At X H0 O0 O H ρ σ) (r:Rep X.K O H d v) (e:gt d ρ= .ok ρ') (q:∀σ',At X H0 O0 O H ρ' σ'->Q σ' H):aai X gt v σ H Q
def DGA(X:Cx)(tg:acI)(gt:D->ao->R ao):Prop:=PG X tg λv σ H Q=>aai X gt v σ H Q
theorem mV(i:Nat){x:Str}(hN:X.N.Nodup)(hi:X.N[i]?=some x:=by rfl)(hx:Loc X.env.scope x:=by first |exact adS rfl |exact adA rfl)(hf:X.fn x=true\/X.env.scope.names.lookup x=some .local:=by first |exact .inl rfl |exact .inr rfl):DGA X (.Name x pos) (aJ i):=by
 intro pins s σ H v u Q I r h;obtain⟨H0,O0,O,ρ,d,ρ',j,rd,e,q⟩:=h;cases e;exact pg_name hN hi hx hf pins s σ H v u Q I r (q _ (j.set (z1b hi).1 rd))
theorem zR(i k:Nat){x y:Str}{py:Pos}{kt}(hc:X.calm=true)(hN:X.N.Nodup)(hi:X.N[i]?=some x:=by rfl)(hk:X.N[k]?=some y:=by rfl)
  (hx:Loc X.env.scope x:=by first |exact adS rfl |exact adA rfl)(hy:Loc X.env.scope y:=by first |exact adS rfl |exact adA rfl)
  (hfx:X.fn x=true\/X.env.scope.names.lookup x=some .local:=by first |exact .inl rfl |exact .inr rfl)(Kh:X.fn y=true\/X.env.scope.names.lookup y=some .local:=by first |exact .inl rfl |exact .inr rfl):
  DGA X (.Tuple [.Name x px,.Name y py] kt pos) (cD (cF 2 (aW (aJ i) (aW (aJ k) nilG)))):=by
 intro pins s σ H v u Q I r h;obtain⟨H0,O0,O,ρ,d,ρ',j,rd,e,q⟩:=h;cases d with
 | tup ds=>
  match ds,e,rd with
  |[],e,_=>cases e
  |[_],e,_=>cases e
  |_::_::_::_,e,_=>simp[cD,cF] at e
  | [d1,d2],e,rd=>
   obtain⟨a,xs,rfl,hq,rs⟩:=rd.tup;obtain⟨v1,v2,rfl,r1,r2⟩:=rs.two;cases e;refine pg_tup hc (pgs_cons (pg_name hN hi hx hfx) (pgs_cons (pg_name hN hk hy Kh) pgs_nil)) rfl rfl pins s σ H _ u Q I r ⟨a,[v1,v2],rfl,hq,rfl,v1,[v2],rfl,v2,[],rfl,rfl,?_⟩;exact q _ ((j.set (z1b hi).1 r1).set (z1b hk).1 r2)
 |_=>cases e
theorem jU{tg iter:acI}{body:List acS}{fi:ao->R (List D)}{gt:D->ao->R ao}{b:ao->So}(hp:PassesOwn (model X.prog X.w) X.A X.env X.xe)(hc:X.calm=true)(hi:DI X tg iter fi)(hg:DGA X tg gt)(hb:jg X body b)
  (hs:∀x,afN iter X.env x=pure x:=by intro _;rfl):DS X (.For tg iter body [] pos) (lG fi gt b):=by
 refine PS.imp (ps_for hp hc hi hg hb hs) λσ H E h=>?_;obtain⟨H0,O0,O,ρ,j,h⟩:=h;refine⟨ρ,O,j.inn,?_⟩;unfold lG at h;cases e1:fi ρ with
 |bad=>rw[e1] at h;exact h
 |err c=>rw[e1] at h;exact h σ H O j
 | ok xs =>
  rw[e1] at h;have h:uI X H0 O0 O H E (forL gt b xs ρ):=h;intro J H1 s1 yr;have j1:=j.grow s1;have q1:eN X.K O H O H1:=Same.dM s1;refine⟨λi m σ' H'=>∃O' ρ',At X H0 O0 O' H' ρ' σ'/\eN X.K O H1 O' H'/\i<=xs.length/\m=xs.length - i/\forL gt b (xs.drop i) ρ'=forL gt b xs ρ,⟨_,O,ρ,j1,.refl,adz _,rfl,by simp⟩,?_⟩
  rintro i m σ' H' ⟨O',ρ',j',r',hil,rfl,hf⟩
  have Tv:=yr O' H' r' i;by_cases hlt:i<xs.length
  ·have ed:xs.drop i=xs[i]::xs.drop (i+1):=ag1 hlt;obtain⟨jgo,jy⟩:=Tv.1 xs[i] (by simp[hlt]);refine .inr ⟨jgo,λσ2 H2=>∃O2 ρ2,At X H0 O0 O2 H2 ρ2 σ2/\eN X.K O H1 O2 H2/\forL gt b (xs.drop (i+1)) ρ2=forL gt b xs ρ,?_,λx H2 y=>?_⟩
   ·rintro σ2 H2 ⟨O2,ρ2,j2,r2,hf2⟩
    exact⟨xs.length - (i+1),by omega,O2,ρ2,j2,r2,by omega,rfl,hf2⟩
   ·obtain⟨sm,rep⟩:=jy x H2 y;rw[ed] at hf;have hf:(match gt xs[i] ρ' with
     | .ok ρ1=>match b ρ1 with
      | .nx ρ2=>forL gt b (xs.drop (i+1)) ρ2
      | .ct ρ2=>forL gt b (xs.drop (i+1)) ρ2
      | .bk ρ2=> .nx ρ2
      |o=>o
     |_=> .bad)=forL gt b xs ρ:=hf
    cases e2:gt xs[i] ρ' with
    |bad=>rw[e2] at hf;rw[<-hf] at h;exact h.elim
    |err c=>rw[e2] at hf;rw[<-hf] at h;exact h.elim
    | ok ρ1=>
     rw[e2] at hf;refine⟨H0,O0,O',ρ',xs[i],ρ1,j'.grow sm,rep,e2,λσ3 j3=>?_⟩;refine⟨H0,O0,O',ρ1,j3,?_⟩;have r3:eN X.K O H1 O' H2:=r'.trans (Same.dM sm);have hf:(match b ρ1 with
      | .nx ρ2=>forL gt b (xs.drop (i+1)) ρ2
      | .ct ρ2=>forL gt b (xs.drop (i+1)) ρ2
      | .bk ρ2=> .nx ρ2
      |o=>o)=forL gt b xs ρ:=hf
     cases e3:b ρ1 with
     |bad=>rw[e3] at hf;rw[<-hf] at h;exact h
     |rt d=>rw[e3] at hf;rw[<-hf] at h;exact h
     |ex c ρ2=>rw[e3] at hf;rw[<-hf] at h;exact h
     |bk ρ2=>rw[e3] at hf;rw[<-hf] at h;exact λσ4 H4 O4 j4 r4=>h σ4 H4 O4 j4 (q1.trans (r3.trans r4))
     |nx ρ2=>rw[e3] at hf;exact λσ4 H4 O4 j4 r4=>⟨O4,ρ2,j4,r3.trans r4,hf⟩
     |ct ρ2=>rw[e3] at hf;exact λσ4 H4 O4 j4 r4=>⟨O4,ρ2,j4,r3.trans r4,hf⟩
  ·have ei:i=xs.length:=by omega
   subst ei;have hf:forL gt b (xs.drop xs.length) ρ'=forL gt b xs ρ:=hf;rw[List.drop_length] at hf;rw[<-hf] at h;exact .inl ⟨Tv.2 (z0g _),h σ' H' O' j' (q1.trans r')⟩
def ig(p:ao->R Bool)(b:ao->So):Nat->ao->So
 |0,_=> .bad
 | n +1,ρ=>match p (cO ρ) with
  | .ok true=>match b ρ with
   | .nx ρ'=>ig p b n ρ'
   | .ct ρ'=>ig p b n ρ'
   | .bk ρ'=> .nx ρ'
   |o=>o
  | .ok false=> .nx ρ
  | .err c=> .ex c ρ
  | .bad=> .bad
theorem Kl(n:Nat){c:acI}{body:List acS}{b:ao->So}(hp:PassesOwn (model X.prog X.w) X.A X.env X.xe)(hc:DT X c p)(hb:jg X body b):DS X (.While c body [] pos) (ig p b n):=by
 refine PS.imp (ps_while hp hc hb) λσ H E h=>?_;obtain⟨H0,O0,O,ρ,j,h⟩:=h;have h:uI X H0 O0 O H E (ig p b n ρ):=h;refine⟨λm σ' H'=>∃O' ρ',At X H0 O0 O' H' ρ' σ'/\eN X.K O H O' H'/\ig p b m ρ'=ig p b n ρ,⟨n,O,ρ,j,.refl,rfl⟩,?_⟩
 rintro m σ' H' ⟨O',ρ',j',r',hf⟩
 refine⟨cO ρ',O9 H' ρ' σ' O',j'.inn.cO,?_⟩;cases m with
 |zero=>rw[<-hf] at h;exact h.elim
 | succ m =>
  have hf:(match p (cO ρ') with
   | .ok true=>match b ρ' with
    | .nx ρ'=>ig p b m ρ'
    | .ct ρ'=>ig p b m ρ'
    | .bk ρ'=> .nx ρ'
    |o=>o
   | .ok false=> .nx ρ'
   | .err c=> .ex c ρ'
   | .bad=> .bad)=ig p b n ρ:=hf
  cases e1:p (cO ρ') with
  |bad=>rw[e1] at hf;rw[<-hf] at h;exact h
  |err c=>rw[e1] at hf;rw[<-hf] at h;exact h σ' H' O' j'
  | ok t =>
   rw[e1] at hf;intro t' H1 s1 e;subst e;have j1:=j'.grow s1;have r1:eN X.K O H O' H1:=r'.trans (Same.dM s1);cases t with
   | false=>
    rw[if_neg acY];rw[<-hf] at h;exact h σ' H1 O' j1 r1
   | true=>
    rw[if_pos rfl];refine⟨λσ2 H2=>∃O2 ρ2,At X H0 O0 O2 H2 ρ2 σ2/\eN X.K O H O2 H2/\ig p b m ρ2=ig p b n ρ,?_,H0,O0,O',ρ',j1,?_⟩
    ·rintro σ2 H2 ⟨O2,ρ2,j2,r2,hf2⟩
     exact⟨m,by omega,O2,ρ2,j2,r2,hf2⟩
    ·have hf:(match b ρ' with
      | .nx ρ'=>ig p b m ρ'
      | .ct ρ'=>ig p b m ρ'
      | .bk ρ'=> .nx ρ'
      |o=>o)=ig p b n ρ:=hf
     cases e3:b ρ' with
     |bad=>rw[e3] at hf;rw[<-hf] at h;exact h
     |rt d=>rw[e3] at hf;rw[<-hf] at h;exact h
     |ex c ρ2=>rw[e3] at hf;rw[<-hf] at h;exact h
     |bk ρ2=>rw[e3] at hf;rw[<-hf] at h;exact λσ4 H4 O4 j4 r4=>h σ4 H4 O4 j4 (r1.trans r4)
     |nx ρ2=>rw[e3] at hf;exact λσ4 H4 O4 j4 r4=>⟨O4,ρ2,j4,r1.trans r4,hf⟩
     |ct ρ2=>rw[e3] at hf;exact λσ4 H4 O4 j4 r4=>⟨O4,ρ2,j4,r1.trans r4,hf⟩
end
section
variable{X:Cx}{a b e:acI}{es:List acI}{f g:ao->R D}{fa:ao->R (List D)}{pos:Pos}
def abw(K:PySem.W.Frag)(t:TA):TE:=λσ H Q=>t σ H λxs H1=>xs.length<=sizeLine/\∀p,H1 p=none->K.lookup p=none->Q (.ref p) (upd H1 p (.lst xs))
theorem Inv.ab2{pins:List (acA×Obj)}{s:acC}(I:Inv X pins σ H s):X.K.lookup s.heap.objs.size=none:=by
 cases q:X.K.lookup s.heap.objs.size with
 |none=>rfl
 |some o=>exact absurd (z2c (I.kIn _ _ q)) (adH _)
theorem Pg{t:TA}(h:PA X es t):PE X (.List es pos) (abw X.K t):=by
 intro pins s σ H Q I hq;refine wpAny_List_spliced (thn (h pos pins s σ H _ I hq) λus s1 ⟨xs,H1,I1,r,z,q⟩=>⟨by rw[<-r.length];exact z,?_⟩);have hf:H1 s1.heap.objs.size=none:=I1.hok.fresh (z0g _);refine⟨.ref s1.heap.objs.size,upd H1 s1.heap.objs.size (.lst xs),I1.laid (t':=s1.toks) (λb u e=>z1a _ e) (z0g _) ?_,rfl,q _ hf (Inv.ab2 I1)⟩;exact⟨z,us,0,r,z1f _ rfl⟩
def newL(fa:ao->R (List D))(i:Nat):ao->So:=λρ=>match fa ρ with
 | .ok ds=>if ds.length<=1000000 then .nx (ρ.set i (some (.lst ds))) else .bad
 | .err c=> .ex c ρ
 | .bad=> .bad
theorem At.own(j:At X H0 O0 O H ρ σ)(hi:i<X.N.length){o:HO}{en:Ent}(hp:H p=none)(hk:X.K.lookup p=none)(ho:en.own=true)
  (hr:o7 X.K (λa=>O a\/a=p) (upd H p o) en (.ref p))(hnr:∀rows,en≠.rws rows:=by intro _ z;cases z):
  At X H0 O0 (λa=>O a\/a=p) (upd H p o) (ρ.set i (some en)) (σ.set i (some (.ref p)))/\eN X.K O H (λa=>O a\/a=p) (upd H p o):=by
 have s1:Same H (upd H p o):=Same.upd hp;have r1:eN X.K O H (λa=>O a\/a=p) (upd H p o):=⟨(Same.dM (K:=X.K) (O:=O) s1).ext,λa z=>z.elim .inl λe=> .inr (by rw[e];exact⟨hp,hk⟩),(Same.dM (K:=X.K) (O:=O) s1).dom⟩;have h1:i<ρ.length:=by rw[j.inn.o9];exact hi
 have h2:i<σ.length:=by rw[j.inn.len];exact hi
 have Tw:¬O p:=j.inn.uY hp;have old:∀{e:Ent} {v:V},o7 X.K O H e v->o7 X.K (λa=>O a\/a=p) (upd H p o) e v/\(e.own=true->v≠.ref p):=λ{e v} h=>by
  cases e with
  |val d=>exact⟨Rep.go r1 h,λz=>by cases z⟩
  | lst ds=>
   obtain⟨a,xs,e1,o1,e2,r⟩:=h;exact⟨⟨a,xs,e1,.inl o1,s1 _ _ e2,r.go r1⟩,λ_ z=>by rw[e1] at z;cases z;exact Tw o1⟩
  |obj t=>exact⟨qI.same s1 h,λz=>by cases z⟩
  | xr kvs=>
   obtain⟨a,xs,e1,o1,e2,k,r⟩:=h;exact⟨⟨a,xs,e1,.inl o1,s1 _ _ e2,k,r.go r1⟩,λ_ z=>by rw[e1] at z;cases z;exact Tw o1⟩
  | rws rows=>
   obtain⟨a,rs,e1,R⟩:=h;exact⟨⟨a,rs,e1,s1 _ _ R.at_,.inl R.oa,R.nd,R.len,λi r row q1 q2=>let⟨o1,xs,q3,q4⟩:=R.row i r row q1 q2;⟨.inl o1,xs,s1 _ _ q3,q4.go r1⟩⟩,λ_ z=>by rw[e1] at z;cases z;exact Tw R.oa⟩
 have bk:∀{k:Nat} {rows:List (List D)} {a:acA} {rs:List acA},ρ[k]?=some (some (.rws rows))->σ[k]?=some (some (.ref a))->upd H p o a=some (.lst (rs.map V.ref))->H a=some (.lst (rs.map V.ref))/\∀r∈rs,O r:=λ{k rows a rs} q1 q2 q3=>by
  have q4:=j.inn.env.back s1 q1 q2 q3;refine⟨q4,λr hr=>?_⟩;obtain⟨rs',R⟩:=j.inn.env.rws q1 q2;have e:=R.at_;rw[q4] at e;rw[Ai (HO.lst.inj (acV e))] at hr;obtain⟨n,hn⟩:=af9.mp hr;have hl:=R.len;have hn':=(z1b hn).1;exact (R.row n r _ hn (ad0 (by omega))).1
 refine⟨⟨j.same.trans s1,j.dM.trans r1,λa z=> .inl (j.sub a z),⟨⟨λk e h=>?_,λk l e e' v hkl hk' hl ok ol sk sl=>?_,λk l rows a rs e v hkl hk' sk ha hl ol sl=>?_⟩,λa z=>?_,by rw[aeE];exact j.inn.len,by rw[aeE];exact j.inn.o9⟩,λk e a h hoo hs=>?_,λk rows a rs h hs ha=>?_⟩,r1⟩
 ·by_cases hki:k=i
  ·subst hki;rw[z2a h1] at h;cases h;exact⟨.ref p,z2a h2,hr⟩
  ·rw[z1e (acN hki)] at h;obtain⟨v,q1,q2⟩:=j.inn.env.get k e h;exact⟨v,by rw[z1e (acN hki)];exact q1,(old q2).1⟩
 ·by_cases hki:k=i
  ·subst hki;rw[z2a h2] at sk;cases sk;rw[z1e hkl] at hl sl;obtain⟨v,q1,q2⟩:=j.inn.env.get l e' hl;rw[q1] at sl;cases sl;exact (old q2).2 ol rfl
  ·rw[z1e (acN hki)] at hk' sk;by_cases hli:l=i
   ·subst hli;rw[z2a h2] at sl;cases sl;obtain⟨v,q1,q2⟩:=j.inn.env.get k e hk';rw[q1] at sk;cases sk;exact (old q2).2 ok rfl
   ·rw[z1e (acN hli)] at hl sl;exact j.inn.env.sep k l e e' v hkl hk' hl ok ol sk sl
 ·by_cases hki:k=i
  ·subst hki;rw[z2a h1] at hk';cases hk';exact absurd rfl (hnr rows)
  ·rw[z1e (acN hki)] at hk' sk;obtain⟨ha',hO'⟩:=bk hk' sk ha;by_cases hli:l=i
   ·subst hli;rw[z2a h2] at sl;rw[z2a h1] at hl;cases sl;cases hl;exact⟨λr hr z=>by cases z;exact Tw (hO' _ hr),hnr⟩
   ·rw[z1e (acN hli)] at hl sl;exact j.inn.env.o8 k l rows a rs e v hkl hk' sk ha' hl ol sl
 ·rcases z with z |z
  ·obtain⟨u,q⟩:=j.inn.al a z;exact⟨u,s1 _ _ q⟩
  ·rw[z];exact⟨o,upd_same⟩
 ·by_cases hki:k=i
  ·subst hki;rw[z2a h2] at hs;cases hs;exact⟨j.same.free hp,λz=>Tw (j.sub _ z)⟩
  ·rw[z1e (acN hki)] at h hs;exact j.mine k e a h hoo hs
 ·by_cases hki:k=i
  ·subst hki;rw[z2a h1] at h;cases h;exact absurd rfl (hnr rows)
  ·rw[z1e (acN hki)] at h hs;exact j.zQ k rows a rs h hs (bk h hs ha).1
theorem mW(i:Nat){x:Str}{pos' p2:Pos}(hN:X.N.Nodup)(ha:DA X es fa)(hi:X.N[i]?=some x:=by rfl)(hx:Loc X.env.scope x:=by first |exact adS rfl |exact adA rfl)(hs:afC (.List es p2) (some (.Name x pos')) pos.line X.env=pure false:=by rfl)
  (hf:X.fn x=true\/X.env.scope.names.lookup x=some .local:=by first |exact .inl rfl |exact .inr rfl):DS X (.Assign [.Name x pos'] (.List es p2) pos) (newL fa i):=by
 refine PS.imp (ps_set hN hi hx (Pg ha) hs hf) λσ H E h=>?_;obtain⟨H0,O0,O,ρ,j,h⟩:=h;refine⟨ρ,O,j.inn,?_⟩;unfold newL at h;cases e1:fa ρ with
 |bad=>rw[e1] at h;exact h
 |err c=>rw[e1] at h;exact h σ H O j
 | ok ds=>
  rw[e1] at h;intro vs H1 s1 r1;by_cases hl:ds.length<=1000000
  ·simp only[if_pos hl] at h;refine⟨by rw[<-r1.length];exact z0b hl dB,λp hp hk=>?_⟩;obtain⟨j2,r2⟩:=(j.grow s1).own (z1b hi).1 (o:= .lst vs) (en:= .lst ds) hp hk rfl ⟨p,vs,rfl,.inr rfl,upd_same,r1.go ⟨(Same.dM (K:=X.K) (O:=O) (Same.upd hp)).ext,λa z=>z.elim .inl λe=> .inr (by rw[e];exact⟨hp,hk⟩),(Same.dM (K:=X.K) (O:=O) (Same.upd hp)).dom⟩⟩;exact h _ _ _ j2 ((Same.dM s1).trans r2)
  ·simp only[if_neg hl] at h;exact h.elim
theorem At.chg(j:At X H0 O0 O H ρ σ){e0 en:Ent}{u o:HO}(hi:ρ[i]?=some (some e0))(h0:e0.own=true)(hp:σ[i]?=some (some (.ref p)))(hO:O p)(hu:H p=some u)(hm:Mut (some u))(ho:en.own=true)
  (hr:eN X.K O H O (upd H p o)->o7 X.K O (upd H p o) en (.ref p))(hnr:∀rows,en≠.rws rows:=by intro _ z;cases z):At X H0 O0 O (upd H p o) (ρ.set i (some en)) σ/\eN X.K O H O (upd H p o):=by
 have nt:∀b xs,Rd H b (.tup xs)->b≠p:=λb xs h z=>by
  subst z;rcases h with h |⟨_,h⟩ <;> rw[hu] at h <;> cases h <;> exact hm
 have r1:eN X.K O H O (upd H p o):=by
  refine⟨⟨λb xs h=>?_,λb xs n h=>?_⟩,λa z=> .inl z,λa z=>?_⟩
  ·have nb:=nt b xs h;rcases h with h |⟨q,h⟩
   ·exact .inl (by rw[upd_ne nb];exact h)
   ·exact .inr ⟨q,by rw[upd_ne nb];exact h⟩
  ·have nb:b≠p:=λz=>n (by rw[z];exact hO);rcases h with h |⟨q,h⟩
   ·exact .inl (by rw[upd_ne nb];exact h)
   ·exact .inr ⟨q,by rw[upd_ne nb];exact h⟩
  ·by_cases ea:a=p
   ·rw[ea,upd_same] at z;cases z
   ·rw[upd_ne ea] at z;exact z
 have h1:i<ρ.length:=(z1b hi).1;obtain⟨hH0,hO0⟩:=j.mine i e0 p hi h0 hp;have bk:∀{k:Nat} {rows:List (List D)} {a:acA} {rs:List acA},k≠i->ρ[k]?=some (some (.rws rows))->σ[k]?=some (some (.ref a))->upd H p o a=some (.lst (rs.map V.ref))->H a=some (.lst (rs.map V.ref)):=λ{k rows a rs} hki q1 q2 q3=>by
  have na:a≠p:=λz=>j.inn.env.sep k i _ e0 _ hki q1 hi rfl h0 q2 (by rw[z];exact hp);rw[upd_ne na] at q3;exact q3
 refine⟨⟨λb q z=>?_,j.dM.trans r1,j.sub,⟨⟨λk e h=>?_,λk l e e' v hkl hk' hl ok ol sk sl=>?_,λk l rows a rs e v hkl hk' sk ha hl ol sl=>?_⟩,λa z=>?_,j.inn.len,by rw[aeE];exact j.inn.o9⟩,λk e a h hoo hs=>?_,λk rows a rs h hs ha=>?_⟩,r1⟩
 ·rw[upd_ne (ne_of_none z hH0)];exact j.same _ _ z
 ·by_cases hki:k=i
  ·subst hki;rw[z2a h1] at h;cases h;exact⟨_,hp,hr r1⟩
  ·rw[z1e (acN hki)] at h;obtain⟨v,q1,q2⟩:=j.inn.env.get k e h;refine⟨v,q1,?_⟩;have nv:e.own=true->v≠.ref p:=λz w=>by
    subst w;exact j.inn.env.sep k i e e0 _ hki h hi z h0 q1 hp
   cases e with
   |val d=>exact Rep.go r1 q2
   | obj t=>exact qI.fz (λb o' u hb=>by
     have nb:b≠p:=λz=>by rw[z,hu] at hb;cases hb;exact hm
     rw[upd_ne nb];exact hb) q2
   | lst ds=>
    obtain⟨a,xs,e1,o1,e2,r⟩:=q2;have na:a≠p:=λz=>nv rfl (by rw[e1,z]);exact⟨a,xs,e1,o1,by rw[upd_ne na];exact e2,r.go r1⟩
   | xr kvs=>
    obtain⟨a,xs,e1,o1,e2,kk,r⟩:=q2;have na:a≠p:=λz=>nv rfl (by rw[e1,z]);exact⟨a,xs,e1,o1,by rw[upd_ne na];exact e2,kk,r.go r1⟩
   | rws rows=>
    obtain⟨a,rs,e1,R⟩:=q2;have na:a≠p:=λz=>nv rfl (by rw[e1,z]);have Tz:σ[k]?=some (some (.ref a)):=by rw[<-e1];exact q1
    refine⟨a,rs,e1,by rw[upd_ne na];exact R.at_,R.oa,R.nd,R.len,λn r row z1 z2=>?_⟩;obtain⟨o1,xs,z3,z4⟩:=R.row n r row z1 z2;have nr:r≠p:=λz=>(j.inn.env.o8 k i rows a rs e0 (.ref p) hki h Tz R.at_ hi h0 hp).1 r (ac6 z1) (by rw[z]);exact⟨o1,xs,by rw[upd_ne nr];exact z3,z4.go r1⟩
 ·have un:∀{m:Nat} {x:Ent},(ρ.set i (some en))[m]?=some (some x)->x.own=true->∃y,ρ[m]?=some (some y)/\y.own=true:=λ{m x} h ho'=>by
   by_cases hmi:m=i
   ·rw[hmi];exact⟨e0,hi,h0⟩
   ·rw[z1e (acN hmi)] at h;exact⟨x,h,ho'⟩
  obtain⟨y,hy,oy⟩:=un hk' ok;obtain⟨y',hy',oy'⟩:=un hl ol;exact j.inn.env.sep k l y y' v hkl hy hy' oy oy' sk sl
 ·by_cases hki:k=i
  ·subst hki;rw[z2a h1] at hk';cases hk';exact absurd rfl (hnr rows)
  ·rw[z1e (acN hki)] at hk';have ha':=bk hki hk' sk ha;by_cases hli:l=i
   ·subst hli;rw[hp] at sl;rw[z2a h1] at hl;cases sl;cases hl;exact⟨(j.inn.env.o8 k l rows a rs e0 _ hkl hk' sk ha' hi h0 hp).1,hnr⟩
   ·rw[z1e (acN hli)] at hl;exact j.inn.env.o8 k l rows a rs e v hkl hk' sk ha' hl ol sl
 ·by_cases ea:a=p
  ·rw[ea];exact⟨o,upd_same⟩
  ·obtain⟨w,q⟩:=j.inn.al a z;exact⟨w,by rw[upd_ne ea];exact q⟩
 ·by_cases hki:k=i
  ·subst hki;rw[hp] at hs;cases hs;exact⟨hH0,hO0⟩
  ·rw[z1e (acN hki)] at h;exact j.mine k e a h hoo hs
 ·by_cases hki:k=i
  ·subst hki;rw[z2a h1] at h;cases h;exact absurd rfl (hnr rows)
  ·rw[z1e (acN hki)] at h;exact j.zQ k rows a rs h hs (bk hki h hs ha)
def mX(i:Nat)(f:ao->R D):ao->So:=λρ=>gZ (Kf (f ρ)) ρ λd=>match ρ[i]? with
 |some (some (.lst ds))=>if ds.length<1000000 then .nx (ρ.set i (some (.lst (ds++[d])))) else .bad
 |_=> .bad
theorem uJ(i:Nat){x:Str}{apos cpos:Pos}(he:DE X e f)(hN:X.N[i]?=some x:=by rfl)(hv:Vis X.env.scope x:=by first |exact adS rfl |exact adA (adS rfl) |exact adA (adA rfl))
  (hd:(x ==("__debug__" :Str))=false:=by decide)(hcd:(x ==("__classdict__" :Str))=false:=by decide)
  (hbase:afo (.Name x px) "append" X.env (eval (.Name x px) X.env)=eval (.Name x px) X.env:=by rfl)
  (hfew:((adg cpos (acE [e] X.env)).all (λx=> !x.1) && (ad5 cpos (adx [] X.env)).all (λx=>x.1.isSome)
   && decide ([e].length+([]:List aei).length+(if ([]:List aei).isEmpty then 0 else 1)<30))=true:=by rfl)
  (hline:(apos.endLine ==cpos.line)=true:=by rfl) (hs1:acE [e] X.env=(false,eval e X.env)::acE [] X.env:=by rfl) (hplain:(adg cpos (acE [] X.env)).any (·.1)=false:=by rfl)
  (hs:afC (.Call (.Attribute (.Name x px) "append" apos) [e] [] cpos) none pos.line X.env=pure false:=by rfl):
  DS X (.Expr (.Call (.Attribute (.Name x px) "append" apos) [e] [] cpos) pos) (mX i f):=by
 refine PS.imp (ps_expr (pe_bm PySem.F.plainAttrs_list PySem.F.slot_list_append PySem.F.type_list_append mt_append (pe_var hN hv hd hcd) (pa_cons he pa_nil hs1) hbase hfew hline hs1 hplain) hs) λσ H E h=>?_;obtain⟨H0,O0,O,ρ,j,h⟩:=h;unfold mX gZ at h;cases e1:f ρ with
 |bad=>rw[e1] at h;exact h.elim
 |err c=>rw[e1] at h;exact h.elim
 | ok d =>
  rw[e1] at h;cases e2:ρ[i]? with
  |none=>simp only[e2] at h;exact h.elim
  | some oe=>
   cases oe with
   |none=>simp only[e2] at h;exact h.elim
   | some en=>
    cases en with
    |val _=>simp only[e2] at h;exact h.elim
    |xr _=>simp only[e2] at h;exact h.elim
    |rws _=>simp only[e2] at h;exact h.elim
    |obj _=>simp only[e2] at h;exact h.elim
    | lst ds=>
     simp only[e2] at h;by_cases hl:ds.length<1000000
     ·simp only[if_pos hl] at h;obtain⟨v,hv1,a,xs,rfl,hO,hH,rs⟩:=j.inn.env.get i _ e2;refine⟨.ref a,hv1,.inl ⟨rfl,xs,SqL.of hH⟩,?_⟩;refine⟨ρ,O,j.inn,?_⟩;rw[e1];intro w H1 s1 rw1;have j1:=j.grow s1;obtain⟨_,hv2,a2,xs2,e3,hO2,hH2,Dj⟩:=j1.inn.env.get i _ e2;rw[hv1] at hv2;cases hv2;cases e3;have hlen:=Dj.length;refine⟨a,xs2,w,rfl,rfl,hH2,by have:=eG;omega,?_⟩;obtain⟨j2,r2⟩:=j1.chg (o:= .lst (xs2++[w])) (en:= .lst (ds++[d])) e2 rfl hv1 hO2 hH2 trivial rfl λr=>⟨a,xs2++[w],rfl,hO2,upd_same,(Dj.append (.cons rw1 .nil)).go r⟩;exact h _ _ _ j2 ((Same.dM s1).trans r2)
     ·simp only[if_neg hl] at h;exact h.elim
end
inductive SpD (K:PySem.W.Frag) (n:Nat) (F:List D->R D) (vs:List V) (H:Hp) (Q:VK):Prop
 | mk (O:acA->Prop) (ds:List D) (r:aO K O H ds vs) (hl:ds.length=n) (al:∀a,O a->∃o,H a=some o) (h:match F ds with
  | .ok d=>∀v H',Same H H'->Rep K O H' d v->Q v H'
  |_=>False):SpD K n F vs H Q
def Al(K:PySem.W.Frag)(n:Nat)(F:List D->R D):Sp:=λvs H Q _=>SpD K n F vs H Q
def bK(n:Nat)(g:ao->So)(ds:List D):R D:=match g (ds.map (λd=>some (.val d))++acH n none) with
 | .rt d=> .ok d
 | .nx _=> .ok .non
 | .ex c _=> .err c
 |_=> .bad
section
variable{P:acL}{w:acQ}{K:PySem.W.Frag}{mg:Str->Option acB}{base:acP}
theorem jk{K:PySem.W.Frag}{vs:List V}(r:aO K O H ds vs)(m:Nat)(i:Nat)(e:Ent)(h:(ds.map (λd=>some (Ent.val d))++acH m none)[i]?=some (some e)):∃v,(vs.map some++acH m none)[i]?=some (some v)/\o7 K O H e v/\e.own=false:=by
 by_cases hi:i<ds.length
 ·rw[adl (by simpa using hi),z2b] at h;cases q:ds[i]? with
  |none=>rw[q] at h;cases h
  | some d=>
   rw[q] at h;cases h;obtain⟨v,e1,rv⟩:=r.get q;exact⟨v,by rw[adl (by rw[z1g,<-r.length];exact hi),z2b,e1];rfl,rv,rfl⟩
 ·rw[adf (by simpa using hi),aee] at h;split at h <;> cases h
theorem fnD{x qual:Str}{st:acS}{f:acA}{fd:adh}{ps:List Str}{k m:Nat}{g:ao->So}{F:List D->R D}(Fn:Fun K x qual st f fd)(S:FnScope N ps (defScope st))(hn:ps.length=n)(hm:N.length=n+m)
  (hb:∀(cdv:acB) (A:acO) (outer:List PySem.Env) (s:acC) (H:Hp) (E:XK),Room k (A.deeper (aeb qual (defScope st) s.heap.objs.size f cdv))->jg (cxOf CX0 P w K mg base N qual (defScope st) f cdv A outer s H E).nox (defBody st) g)
  (hF:∀ds d,ds.length=n->F ds= .ok d->bK m g ds= .ok d):FnOk P w K mg base CX0 (k+1) f fd ps (Al K n F):=by
 refine Fn.ok S (λvs H Q E h=>?_) (λcdv A outer s H vs Q E hr h=>?_)
 ·obtain⟨O,ds,r,hl,_⟩:=h;rw[hn,<-hl,r.length]
 ·obtain⟨O,ds,r,hl,al,h⟩:=h;refine⟨_,hb cdv A outer s H E hr,H,O,O,ds.map (λd=>some (.val d))++acH m none,?_,?_⟩
  ·have hst:L2.start N vs=vs.map some++acH m none:=by
    unfold L2.start;rw[show N.length - vs.length=m by rw[<-r.length];omega]
   refine⟨Same.refl _,.refl,λ_ z=>z,⟨⟨λi e q=>?_,λi k e e' v _ hi _ oi=>?_,λi k rows a rs e v _ hi=>by obtain⟨_,_,_,h3⟩:=jk r m i _ hi;cases h3⟩,al,?_,?_⟩,λi e a q ho=>?_,λi rows a rs q=>by obtain⟨_,_,_,h3⟩:=jk r m i _ q;cases h3⟩
   ·obtain⟨v,h1,h2,_⟩:=jk r m i e q;exact⟨v,by rw[hst];exact h1,h2⟩
   ·obtain⟨_,_,_,h3⟩:=jk r m i e hi;rw[h3] at oi;cases oi
   ·show (L2.start N vs).length=N.length;rw[hst,z1d,z1g,adD,<-r.length];omega
   ·show (ds.map (λd=>some (Ent.val d))++acH m none).length=N.length;rw[z1d,z1g,adD];omega
   ·obtain⟨_,_,_,h3⟩:=jk r m i e q;rw[h3] at ho;cases ho
  ·cases e:F ds with
   |bad=>rw[e] at h;exact h.elim
   |err c=>rw[e] at h;exact h.elim
   | ok d=>
    rw[e] at h;have q:=hF ds d hl e;unfold bK at q;cases e2:g (ds.map (λd=>some (.val d))++acH m none) with
    | rt d'=>
     rw[e2] at q;cases q;exact λv H' s' r'=>h v H' s' r'
    | nx ρ'=>
     rw[e2] at q;cases q;exact λσ' H' O' j' _=>h .non H' j'.same mL
    |bk _=>rw[e2] at q;cases q
    |ct _=>rw[e2] at q;cases q
    |ex _ _=>rw[e2] at q;cases q
    |bad=>rw[e2] at q;cases q
end
section
variable{X:Cx}{k n:Nat}{f:acA}{fd:adh}{ps:List Str}{F:List D->R D}{x:Str}{p pos:Pos}{e:acI}{es:List acI}{fa:ao->R (List D)}
def aN(F:List D->R D)(n:Nat)(ds:List D):R D:=if ds.length=n then Kf (F ds) else .bad
theorem Yx(G:FnOk X.prog X.w X.K X.mg X.base CX0 k f fd ps (Al X.K n F))(hr:Room k X.A)(hg:Gl X x)(hm:X.mg x=some (.ref f))(hk:PySem.W.keepIn X.K (.ref f)=true)(hb:Binds X.K fd ps [])
  (ha:DA X (e::es) fa)(hdb:(x ==("__debug__" :Str))=false:=by decide)(he:acE (e::es) X.env=(false,eval e X.env)::acE es X.env:=by rfl)(hpl:(adg pos (acE es X.env)).any (·.1)=false:=by rfl):
  DE X (.Call (.Name x p) (e::es) [] pos) (aF (aN F n) fa):=by
 refine PE.imp (pe_call (dvs:=[]) G hr hg hm hk hb .nil pass0 ha hdb he hpl) λσ H Q h=>?_;obtain⟨ρ,O,j,h⟩:=h;refine go j h λds vs H1 e1 s1 r1 j1 h1=>?_;unfold aN at h1;by_cases hl:ds.length=n
 ·rw[if_pos hl] at h1;rw[adp];refine⟨O,ds,r1,hl,j1.al,?_⟩;cases q:F ds with
  |ok d=>rw[q] at h1;exact h1
  |err c=>rw[q] at h1;exact h1
  |bad=>rw[q] at h1;exact h1
 ·rw[if_neg hl] at h1;exact h1.elim
end
section
variable{X:Cx}
def cg:List D->R D
 |[.tup ds]=> .ok (.int ds.length)
 |[.lst ds]=> .ok (.int ds.length)
 |_=> .bad
theorem cB:CallD X (.builtin "len") cg:=by
 refine⟨_,call_len_seq,λρ O σ H Q xs ds j r h=>?_⟩;unfold cg at h;split at h
 ·obtain⟨x,rfl,rx⟩:=r.one;obtain⟨a,ys,rfl,hq,rs⟩:=rx.tup;exact⟨a,ys,rfl,.inr hq,by rw[<-rs.length];exact fin h (bN _)⟩
 ·obtain⟨x,rfl,rx⟩:=r.one;obtain⟨a,ys,rfl,hq,_,rs⟩:=rx.lst;exact⟨a,ys,rfl,.inl hq,by rw[<-rs.length];exact fin h (bN _)⟩
 ·exact h.elim
def pA:List D->R D
 |[.tup ds]=> .ok (.tup ds)
 |[.lst ds]=> .ok (.tup ds)
 |_=> .bad
theorem jz:CallD X (.type "tuple") pA:=by
 refine⟨_,call_tuple_of,λρ O σ H Q xs ds j r h=>?_⟩;unfold pA at h;split at h
 ·obtain⟨x,rfl,rx⟩:=r.one;obtain⟨a,ys,rfl,hq,rs⟩:=rx.tup;exact⟨a,ys,rfl,.inr ⟨hq,fin h (gw hq rs)⟩⟩
 ·obtain⟨x,rfl,rx⟩:=r.one;obtain⟨a,ys,rfl,hq,_,rs⟩:=rx.lst;exact⟨a,ys,rfl,.inl ⟨hq,λl hl=>h _ _ (Same.upd hl) (Rep.mO hl rs)⟩⟩
 ·exact h.elim
def boolsOf:List D->Option (List Bool)
 |[]=>some []
 | .bl b::r=>(boolsOf r).map (b:: ·)
 |_=>none
def intsOf:List D->Option (List Int)
 |[]=>some []
 | .int i::r=>(intsOf r).map (i:: ·)
 |_=>none
theorem Pj{K:PySem.W.Frag}{O:acA->Prop}{H:Hp}:∀{ds:List D} {bs:List Bool} {vs:List V},boolsOf ds=some bs->aO K O H ds vs->vs=bs.map V.bl
 |[],bs,vs,e,r=>by cases e;exact r.nil_inv
 | d ::ds,bs,vs,e,r=>by
  cases d with
  | bl b=>
   have e:(boolsOf ds).map (b:: ·)=some bs:=e;cases q:boolsOf ds with
   |none=>rw[q] at e;cases e
   | some l=>
    rw[q] at e;cases e;obtain⟨x,t,rfl,rx,rt⟩:=r.cons_inv;rw[rx.bl,Pj q rt];rfl
  |_=>cases e
theorem Km:∀{bs:List Bool} {us:List acB},Vals (bs.map V.bl) us->LSm.BoolsAre us bs
 |[],_,.nil=> .nil
 |b::bs,_,.cons r t=>by cases r;exact .cons b (Km t)
theorem TF(hc:X.calm=true):CallR X (.builtin "all") (λxs H Q=>∃p,∃bs:List Bool,xs=[.ref p]/\SqL X.K H p (bs.map V.bl)/\Q (.bl (bs.all id)) H):=by
 intro pins s σ H xs us Q I r h;obtain⟨p,bs,rfl,hq,q⟩:=h;obtain⟨u,rfl,rx⟩:=vals1 r;cases rx;obtain⟨its,r',pl,hz⟩:=I.list hq;have hb:=Km r';have hl:=pl.isList;have hlt:p<s.heap.objs.size:=by obtain⟨_,e,_⟩:=hl;exact z2c e
 refine call_all_walk (afO hl ?_);refine⟨s.heap.objs.size,[s.heap.objs.size,p],[s.heap.objs.size],its.toArray.size,_,_,λi=>(bs[i]?).getD true,rfl,Walks.list (A:=X.A.in1) (I.ok.hd hc) _ p (ac2 hlt) its.toArray,
  ⟨⟨_,z1f _ rfl,rfl,rfl⟩,hl.push _⟩,λi v s' Q' E' hP hQ=>?_,λh' tk hk=>?_⟩
 ·obtain⟨b,e,rfl⟩:=hb.get i v (by simpa using hP);simp only[e,ahf] at hQ;exact adN hQ
 ·have e:((acD its.toArray.size).all λi=>(bs[i]?).getD true)=bs.all id:=by
   rw[z1c,hb.length];exact LSm.range_all bs
  rw[e];exact⟨.bl _,H,I.kept (LSm.kept_iter hk),rfl,q⟩
def pB:List D->R D
 | [.lst ds]=>match boolsOf ds with
  |some bs=> .ok (.bl (bs.all id))
  |none=> .bad
 |_=> .bad
theorem oH(hc:X.calm=true):CallD X (.builtin "all") pB:=by
 refine⟨_,TF hc,λρ O σ H Q xs ds j r h=>?_⟩;unfold pB at h;split at h
 ·rename_i ds;obtain⟨x,rfl,rx⟩:=r.one;obtain⟨a,ys,rfl,hq,_,rs⟩:=rx.lst;cases e:boolsOf ds with
  |none=>rw[e] at h;exact h.elim
  | some bs=>
   rw[e] at h;have ey:=Pj e rs;subst ey;exact⟨a,bs,rfl,hq,fin h (fM _)⟩
 ·exact h.elim
def iK:D->String
 | .non=> "NoneType"
 | .bl _=> "bool"
 | .int _=> "int"
 | .str _=> "str"
 | .tup _=> "tuple"
 | .lst _=> "list"
theorem TJ(T:String)(ans:String->Bool)(hk:∀d:D,PySem.W.kitOne X.K (.type (iK d)) (.type T)=some (ans (iK d))):
  CallR X (.builtin "isinstance") (λxs H Q=>∃x O d,xs=[x,.ty T]/\Rep X.K O H d x/\Q (.bl (ans (iK d))) H):=by
 intro pins s σ H xs us Q I r h;obtain⟨x,O,d,rfl,rd,q⟩:=h;obtain⟨u,u2,rfl,rx,r2⟩:=vals2 r;cases r2;have e:=hk d;have fin':∀tk,EP X pins σ Q (.bool (ans (iK d))) {s with toks:=tk}:=λtk=>⟨.bl _,H,I.tok _,rfl,q⟩;cases d with
 | non=>
  cases rd.non;cases (show u=acU from rx);exact PySem.W.kia_one PySem.W.kitx_none I.kIn ahx e (λz=>nomatch z) fin'
 | bl b=>
  cases rd.bl;cases (show u=agW b from rx);exact PySem.W.kia_one PySem.W.kitx_bool I.kIn ahx e (λz=>nomatch z) fin'
 | int i=>
  cases rd.int;obtain⟨t,z⟩:=(show ∃t,u=agy i t from rx);cases z;exact PySem.W.kia_one PySem.W.kitx_int I.kIn ahx e (λz=>nomatch z) fin'
 | str y=>
  cases rd.str;obtain⟨t,z⟩:=(show ∃t,u=ahp y t from rx);cases z;exact PySem.W.kia_one PySem.W.kitx_str I.kIn ahx e (λz=>nomatch z) fin'
 | tup ds=>
  obtain⟨a,ys,rfl,hq,_⟩:=rd.tup;cases (show u=acM a from rx);obtain⟨its,_,pl,_⟩:=I.tuple hq;obtain⟨o,h1,h2,_⟩:=pl;exact PySem.W.kia_one PySem.W.kitx_tuple I.kIn ⟨o,h1,h2⟩ e (λz=>nomatch z) fin'
 | lst ds=>
  obtain⟨a,ys,rfl,hq,_,_⟩:=rd.lst;cases (show u=acM a from rx);obtain⟨its,_,pl,_⟩:=I.list hq;obtain⟨o,n,h1,h2,_⟩:=pl;exact PySem.W.kia_one PySem.W.kitx_list I.kIn ⟨o,h1,h2⟩ e (λz=>nomatch z) fin'
def sG(ans:String->Bool)(f:ao->R D):ao->R D:=λρ=>(f ρ).bind λd=> .ok (.bl (ans (iK d)))
theorem mY{T:String}{ans:String->Bool}{x y:Str}{e:acI}{f:ao->R D}{p p2 pos:Pos}(hk:∀d:D,PySem.W.kitOne X.K (.type (iK d)) (.type T)=some (ans (iK d)))(he:DE X e f)
  (hg:Gl X x)(hm:X.mg x=none)(hv:aea x=some (.builtin "isinstance"))(hgy:Gl X y)(hmy:X.mg y=none)(hvy:aea y=some (.type T))(hn:x≠"__name__" :=by decide)(hdb:(x ==("__debug__" :Str))=false:=by decide)
  (hny:y≠"__name__" :=by decide)(hdy:(y ==("__debug__" :Str))=false:=by decide)
  (hs:acE [e,.Name y p2] X.env=(false,eval e X.env)::acE [.Name y p2] X.env:=by rfl)(hs2:acE [.Name y p2] X.env=(false,eval (.Name y p2) X.env)::acE [] X.env:=by rfl)(hpl:(adg pos (acE [.Name y p2] X.env)).any (·.1)=false:=by rfl):
  DE X (.Call (.Name x p) [e,.Name y p2] [] pos) (sG ans f):=by
 refine PE.imp (pe_callB (TJ T ans hk) hg hm hv (pa_cons he (pa_cons (pe_bltn (v:= .ty T) hgy hmy hvy rfl hny hdy) pa_nil hs2) hs) hn hdb hs hpl) λσ H Q h=>?_;obtain⟨ρ,O,j,h⟩:=h;refine go j h λd v H1 e1 s1 r1 j1 h1=>?_;exact⟨v,O,d,rfl,r1,fin h1 (fM _)⟩
end
mutual
def gb:D->D->Bool
 | .non,.non=>true
 | .bl a,.bl b=>a ==b
 | .bl a,.int b=>(if a then 1 else 0) ==b
 | .int a,.bl b=>a ==(if b then 1 else 0)
 | .int a,.int b=>a ==b
 | .str a,.str b=>a ==b
 | .tup a,.tup b=>pC a b
 | .lst a,.lst b=>pC a b
 |_,_=>false
def pC:List D->List D->Bool
 |[],[]=>true
 |x::xs,y::ys=>gb x y && pC xs ys
 |_,_=>false
end
mutual
def dep:D->Nat
 | .tup a=>deps a+1
 | .lst a=>deps a+1
 |_=>0
def deps:List D->Nat
 |[]=>0
 |x::xs=>max (dep x) (deps xs)
end
theorem mZ:∀{ds:List D} {d:D},d∈ds->dep d<=deps ds
 |[],_,h=>by simp at h
 | x::xs,d,h=>by
  rw[deps];rcases acR.mp h with e |h
  ·subst e;exact Nat.le_max_left _ _
  ·exact z0b (mZ h) (Nat.le_max_right _ _)
theorem oJ(a b:Bool):gb (.bl a) (.bl b)=(a ==b):=rfl
theorem oK(a:Bool)(b:Int):gb (.bl a) (.int b)=((if a then 1 else 0) ==b):=rfl
theorem oM(a:Int)(b:Bool):gb (.int a) (.bl b)=(a ==(if b then 1 else 0)):=rfl
theorem oN(a b:Int):gb (.int a) (.int b)=(a ==b):=rfl
theorem oO(a b:Str):gb (.str a) (.str b)=(a ==b):=rfl
theorem iM(a b:List D):gb (.tup a) (.tup b)=pC a b:=rfl
theorem eO(a b:List D):gb (.lst a) (.lst b)=pC a b:=rfl
mutual
theorem Bx:∀d:D,gb d d=true
 | .non=>rfl
 | .bl a=>by simp[oJ,oK,oM,oN,oO,iM,eO]
 | .int a=>by simp[oJ,oK,oM,oN,oO,iM,eO]
 | .str a=>by simp[oJ,oK,oM,oN,oO,iM,eO]
 | .tup a=>by rw[iM];exact oR a
 | .lst a=>by rw[eO];exact oR a
theorem oR:∀d:List D,pC d d=true
 |[]=>rfl
 |x::xs=>by rw[pC,Bx x,oR xs];rfl
end
theorem qQ:∀{xs ys:List D},xs.length≠ys.length->pC xs ys=false
 |[],[],h=>absurd rfl h
 |[],_::_,_=>rfl
 |_::_,[],_=>rfl
 | x::xs,y::ys,h=>by
  rw[pC,qQ (xs:=xs) (ys:=ys) (λe=>h (by simp[e])),Bool.and_false]
theorem qR:∀{xs ys:List D},xs.length=ys.length->pC xs ys=(acD xs.length).all λi=>gb (xs.getD i .non) (ys.getD i .non)
 |[],[],_=>rfl
 |[],_::_,h=>by simp at h
 |_::_,[],h=>by simp at h
 | x::xs,y::ys,h=>by
  rw[pC,qR (xs:=xs) (ys:=ys) (by simpa using h),acX,aex,aeJ,List.all_map];rfl
end Pu
namespace Pu
open PySem PySem.Spec L2
open PyProof.Rows hiding St
open PySem.SeqAt
variable{A:acO}{d:D}{u u':acB}
inductive LkT (X:Cx) (O:acA->Prop) (H:Hp) (s:acC) (ds:List D) (u:acB):Prop
 |mk (a:acA) (xs:List V) (its:List acB) (e:u=acM a) (q:SqT X.K H a xs) (v:Vals xs its) (p:s.heap.IsTuple a its.toArray) (r:aO X.K O H ds xs):LkT X O H s ds u
inductive LkL (X:Cx) (O:acA->Prop) (H:Hp) (s:acC) (ds:List D) (u:acB):Prop
 |mk (a:acA) (xs:List V) (its:List acB) (e:u=acM a) (q:SqL X.K H a xs) (v:Vals xs its) (p:s.heap.IsList a its.toArray) (r:aO X.K O H ds xs):LkL X O H s ds u
def Lk(X:Cx)(O:acA->Prop)(H:Hp)(s:acC):D->acB->Prop
 | .non,u=>u=acU
 | .bl b,u=>u=agW b
 | .int i,u=>∃t,u=agy i t
 | .str x,u=>∃t,u=ahp x t
 | .tup ds,u=>LkT X O H s ds u
 | .lst ds,u=>LkL X O H s ds u
section
variable{X:Cx}{pins:List (acA×Obj)}{σ:St}{H:Hp}{s:acC}{O O':acA->Prop}
theorem sH(I:Inv X pins σ H s){v:V}(r:Rep X.K O H d v)(q:RelV v u):Lk X O H s d u:=by
 cases d with
 |non=>cases r.non;exact q
 |bl b=>cases r.bl;exact q
 |int i=>cases r.int;exact q
 |str x=>cases r.str;exact q
 | tup ds=>
  obtain⟨a,xs,rfl,hq,rs⟩:=r.tup;cases (show u=acM a from q);obtain⟨its,rv,p,_⟩:=I.tuple hq;exact⟨a,xs,its,rfl,hq,rv,p,rs⟩
 | lst ds=>
  obtain⟨a,xs,rfl,hq,_,rs⟩:=r.lst;cases (show u=acM a from q);obtain⟨its,rv,p,_⟩:=I.list hq;exact⟨a,xs,its,rfl,hq,rv,p.isList,rs⟩
theorem isTuple_list{a:acA}{p q:Array acB}(h1:s.heap.IsTuple a p)(h2:s.heap.IsList a q):False:=ne_of_list_tuple h2 h1 rfl
mutual
theorem Rep.inj(I:Inv X pins σ H s):∀(d e:D) (v:V),Rep X.K O H d v->Rep X.K O' H e v->d=e
 | .non,e,v,r,q=>by
  cases r.non;cases e with
  |non=>rfl
  |bl _=>cases q.bl
  |int _=>cases q.int
  |str _=>cases q.str
  |tup _=>obtain⟨_,_,z,_⟩:=q.tup;cases z
  |lst _=>obtain⟨_,_,z,_⟩:=q.lst;cases z
 | .bl b,e,v,r,q=>by
  cases r.bl;cases e with
  |non=>cases q.non
  |bl _=>cases q.bl;rfl
  |int _=>cases q.int
  |str _=>cases q.str
  |tup _=>obtain⟨_,_,z,_⟩:=q.tup;cases z
  |lst _=>obtain⟨_,_,z,_⟩:=q.lst;cases z
 | .int b,e,v,r,q=>by
  cases r.int;cases e with
  |non=>cases q.non
  |bl _=>cases q.bl
  |int _=>cases q.int;rfl
  |str _=>cases q.str
  |tup _=>obtain⟨_,_,z,_⟩:=q.tup;cases z
  |lst _=>obtain⟨_,_,z,_⟩:=q.lst;cases z
 | .str b,e,v,r,q=>by
  cases r.str;cases e with
  |non=>cases q.non
  |bl _=>cases q.bl
  |int _=>cases q.int
  |str _=>cases q.str;rfl
  |tup _=>obtain⟨_,_,z,_⟩:=q.tup;cases z
  |lst _=>obtain⟨_,_,z,_⟩:=q.lst;cases z
 | .tup ds,e,v,r,q=>by
  obtain⟨a,xs,rfl,hq,rs⟩:=r.tup;cases e with
  |non=>cases q.non
  |bl _=>cases q.bl
  |int _=>cases q.int
  |str _=>cases q.str
  | tup es=>
   obtain⟨b,ys,z,hq',rs'⟩:=q.tup;cases z;cases I.tuple_inj hq hq';rw[aO.inj I ds es xs rs rs']
  | lst es=>
   obtain⟨b,ys,z,hq',_,rs'⟩:=q.lst;cases z;obtain⟨_,_,p1,_⟩:=I.tuple hq;obtain⟨_,_,p2,_⟩:=I.list hq';exact (isTuple_list p1 p2.isList).elim
 | .lst ds,e,v,r,q=>by
  obtain⟨a,xs,rfl,hq,_,rs⟩:=r.lst;cases e with
  |non=>cases q.non
  |bl _=>cases q.bl
  |int _=>cases q.int
  |str _=>cases q.str
  | tup es=>
   obtain⟨b,ys,z,hq',rs'⟩:=q.tup;cases z;obtain⟨_,_,p1,_⟩:=I.tuple hq';obtain⟨_,_,p2,_⟩:=I.list hq;exact (isTuple_list p1 p2.isList).elim
  | lst es=>
   obtain⟨b,ys,z,hq',_,rs'⟩:=q.lst;cases z;cases I.list_inj hq hq';rw[aO.inj I ds es xs rs rs']
theorem aO.inj(I:Inv X pins σ H s):∀(ds es:List D) (vs:List V),aO X.K O H ds vs->aO X.K O' H es vs->ds=es
 | [],es,vs,r,q=>by
  rw[r.nil_inv] at q;cases es with
  |nil=>rfl
  |cons e es=>obtain⟨_,_,z,_⟩:=q.cons_inv;cases z
 | d ::ds,es,vs,r,q=>by
  obtain⟨x,t,rfl,rx,rt⟩:=r.cons_inv;cases es with
  |nil=>cases q.nil_inv
  | cons e es=>
   obtain⟨_,_,z,qx,qt⟩:=q.cons_inv;cases z;rw[Rep.inj I d e x rx qx,aO.inj I ds es t rt qt]
end
theorem m6{ds es:List D}{xs ys:List V}{its jts:List acB}(r1:aO X.K O H ds xs)(r2:aO X.K O' H es ys)(v1:Vals xs its)(v2:Vals ys jts)
  (ih:∀d∈ds,∀(e:D) (v w:V) (u u':acB),Rep X.K O H d v->Rep X.K O' H e w->RelV v u->RelV w u'->EqAt A s u u' (gb d e)):
  ∀j (h1:j<its.toArray.size) (h2:j<jts.toArray.size),EqAt A s its.toArray[j] jts.toArray[j] (gb (ds.getD j .non) (es.getD j .non)):=by
 intro j h1 h2;have e1:its[j]?=some its.toArray[j]:=by simp
 have e2:jts[j]?=some jts.toArray[j]:=by simp
 have l1:=v1.length;have l2:=v2.length;have k1:=r1.length;have k2:=r2.length;simp only[z1c] at h1 h2;obtain⟨v,ev,rv⟩:∃v,xs[j]?=some v/\RelV v its.toArray[j]:=by
  have hj:j<xs.length:=by omega
  obtain⟨u,eu,ru⟩:=v1.get (i:=j) (x:=xs[j]) (by simp[hj]);rw[e1] at eu;cases eu;exact⟨_,by simp[hj],ru⟩
 obtain⟨w,ew,rw'⟩:∃v,ys[j]?=some v/\RelV v jts.toArray[j]:=by
  have hj:j<ys.length:=by omega
  obtain⟨u,eu,ru⟩:=v2.get (i:=j) (x:=ys[j]) (by simp[hj]);rw[e2] at eu;cases eu;exact⟨_,by simp[hj],ru⟩
 obtain⟨d,ed,rd⟩:=r1.bF ev;obtain⟨e,ee,re⟩:=r2.bF ew;have g1:ds.getD j .non=d:=by simp[afd,ed]
 have g2:es.getD j .non=e:=by simp[afd,ee]
 rw[g1,g2];exact ih d (ac6 ed) e v w _ _ rd re rv rw'
theorem BJ{ds es:List D}{n m:Nat}(hn:ds.length=n)(hm:es.length=m):((acD (min n m)).all (λj=>gb (ds.getD j .non) (es.getD j .non)) && n ==m)=pC ds es:=by
 by_cases h:n=m
 ·subst h;rw[Nat.min_self,beq_self_eq_true,Bool.and_true,qR (by rw[hn,hm]),hn]
 ·rw[qQ (by rw[hn,hm];exact h),show (n ==m)=false by simpa using h,Bool.and_false]
theorem Ko(I:Inv X pins σ H s)(hu:A.units<aed){e:D}(h1:Lk X O H s d u)(h2:Lk X O' H s e u')
  (ih:∀c∈(match d with | .tup ds=>ds | .lst ds=>ds |_=>[]),∀(e:D) (v w:V) (u u':acB),Rep X.K O H c v->Rep X.K O' H e w->RelV v u->RelV w u'->EqAt A.in1 s u u' (gb c e)):EqAt A s u u' (gb d e):=by
 cases d with
 | non=>
  cases h1;cases e with
  | non=>
   cases h2;exact EqAt.same _
  | bl b=>
   cases h2;exact EqAt.none_bool _
  | int b=>
   obtain⟨t2,rfl⟩:=h2;exact EqAt.none_int _ _
  | str b=>
   obtain⟨t2,rfl⟩:=h2;exact EqAt.none_str _ _
  | tup es=>
   obtain⟨p2,ys,jts,rfl,hq2,v2,hp2,r2⟩:=h2;exact EqAt.none_tuple hp2 hu
  | lst es=>
   obtain⟨p2,ys,jts,rfl,hq2,v2,hp2,r2⟩:=h2;exact EqAt.none_list hp2 hu
 | bl a=>
  cases h1;cases e with
  | non=>
   cases h2;exact EqAt.bool_none _
  | bl b=>
   cases h2;exact EqAt.bool_bool _ _
  | int b=>
   obtain⟨t2,rfl⟩:=h2;exact EqAt.bool_int _ _ _
  | str b=>
   obtain⟨t2,rfl⟩:=h2;exact EqAt.bool_str _ _ _
  | tup es=>
   obtain⟨p2,ys,jts,rfl,hq2,v2,hp2,r2⟩:=h2;exact EqAt.bool_tuple _ hp2 hu
  | lst es=>
   obtain⟨p2,ys,jts,rfl,hq2,v2,hp2,r2⟩:=h2;exact EqAt.bool_list _ hp2 hu
 | int a=>
  obtain⟨t1,rfl⟩:=h1;cases e with
  | non=>
   cases h2;exact EqAt.int_none _ _
  | bl b=>
   cases h2;exact EqAt.int_bool _ _ _
  | int b=>
   obtain⟨t2,rfl⟩:=h2;exact EqAt.int_int _ _ _ _
  | str b=>
   obtain⟨t2,rfl⟩:=h2;exact EqAt.int_str _ _ _ _
  | tup es=>
   obtain⟨p2,ys,jts,rfl,hq2,v2,hp2,r2⟩:=h2;exact EqAt.int_tuple _ _ hp2 hu
  | lst es=>
   obtain⟨p2,ys,jts,rfl,hq2,v2,hp2,r2⟩:=h2;exact EqAt.int_list _ _ hp2 hu
 | str a=>
  obtain⟨t1,rfl⟩:=h1;cases e with
  | non=>
   cases h2;exact EqAt.str_none _ _
  | bl b=>
   cases h2;exact EqAt.str_bool _ _ _
  | int b=>
   obtain⟨t2,rfl⟩:=h2;exact EqAt.str_int _ _ _ _
  | str b=>
   obtain⟨t2,rfl⟩:=h2;exact EqAt.str_str _ _ _ _
  | tup es=>
   obtain⟨p2,ys,jts,rfl,hq2,v2,hp2,r2⟩:=h2;exact EqAt.str_tuple _ _ hp2 hu
  | lst es=>
   obtain⟨p2,ys,jts,rfl,hq2,v2,hp2,r2⟩:=h2;exact EqAt.str_list _ _ hp2 hu
 | tup ds=>
  obtain⟨p1,xs,its,rfl,hq1,v1,hp1,r1⟩:=h1;cases e with
  | non=>
   cases h2;exact EqAt.tuple_none hp1 hu
  | bl b=>
   cases h2;exact EqAt.tuple_bool _ hp1 hu
  | int b=>
   obtain⟨t2,rfl⟩:=h2;exact EqAt.tuple_int _ _ hp1 hu
  | str b=>
   obtain⟨t2,rfl⟩:=h2;exact EqAt.tuple_str _ _ hp1 hu
  | tup es=>
   obtain⟨p2,ys,jts,rfl,hq2,v2,hp2,r2⟩:=h2;by_cases hne:p1=p2
   ·subst hne;cases I.tuple_inj hq1 hq2;rw[iM,aO.inj I ds es xs r1 r2,oR];exact EqAt.same _
   ·have q:=EqAt.of_refs hne (RcAt.tuples hp1 hp2 hu (m6 r1 r2 v1 v2 ih));simp only[z1c] at q;rw[BJ (r1.length.trans v1.length) (r2.length.trans v2.length)] at q;rw[iM];exact q
  | lst es=>
   obtain⟨p2,ys,jts,rfl,hq2,v2,hp2,r2⟩:=h2;exact EqAt.tuple_list hp1 hp2 hu
 | lst ds=>
  obtain⟨p1,xs,its,rfl,hq1,v1,hp1,r1⟩:=h1;cases e with
  | non=>
   cases h2;exact EqAt.list_none hp1 hu
  | bl b=>
   cases h2;exact EqAt.list_bool _ hp1 hu
  | int b=>
   obtain⟨t2,rfl⟩:=h2;exact EqAt.list_int _ _ hp1 hu
  | str b=>
   obtain⟨t2,rfl⟩:=h2;exact EqAt.list_str _ _ hp1 hu
  | tup es=>
   obtain⟨p2,ys,jts,rfl,hq2,v2,hp2,r2⟩:=h2;exact EqAt.list_tuple hp1 hp2 hu
  | lst es=>
   obtain⟨p2,ys,jts,rfl,hq2,v2,hp2,r2⟩:=h2;by_cases hne:p1=p2
   ·subst hne;cases I.list_inj hq1 hq2;rw[eO,aO.inj I ds es xs r1 r2,oR];exact EqAt.same _
   ·by_cases hz:ds.length=es.length
    ·have q:=EqAt.of_refs hne (RcAt.lists hp1 hp2 (by simp only[z1c];rw[<-v1.length,<-v2.length,<-r1.length,<-r2.length];exact hz) hu (m6 r1 r2 v1 v2 ih));rw[z1c,<-v1.length,<-r1.length,<-qR hz] at q;rw[eO];exact q
    ·rw[eO,qQ hz];exact EqAt.of_refs hne (RcAt.lists_lengths hp1 hp2 (by simp only[z1c];rw[<-v1.length,<-v2.length,<-r1.length,<-r2.length];simpa using hz) hu)
theorem Wc(I:Inv X pins σ H s)(hu:A.units<aed){e:D}(h1:Lk X O H s d u)(h2:Lk X O' H s e u')
  (ih:∀c∈(match d with | .tup ds=>ds | .lst ds=>ds |_=>[]),∀(e:D) (v w:V) (u u':acB),Rep X.K O H c v->Rep X.K O' H e w->RelV v u->RelV w u'->EqAt A.in1 s u u' (gb c e)):RcAt A s u u' (gb d e):=by
 cases d with
 | non=>
  cases h1;cases e with
  | non=>
   cases h2;exact RcAt.none_none
  | bl b=>
   cases h2;exact RcAt.none_bool _
  | int b=>
   obtain⟨t2,rfl⟩:=h2;exact RcAt.none_int _ _
  | str b=>
   obtain⟨t2,rfl⟩:=h2;exact RcAt.none_str _ _
  | tup es=>
   obtain⟨p2,ys,jts,rfl,hq2,v2,hp2,r2⟩:=h2;exact RcAt.none_tuple hp2 hu
  | lst es=>
   obtain⟨p2,ys,jts,rfl,hq2,v2,hp2,r2⟩:=h2;exact RcAt.none_list hp2 hu
 | bl a=>
  cases h1;cases e with
  | non=>
   cases h2;exact RcAt.bool_none _
  | bl b=>
   cases h2;exact RcAt.bool_bool _ _
  | int b=>
   obtain⟨t2,rfl⟩:=h2;exact RcAt.bool_int _ _ _
  | str b=>
   obtain⟨t2,rfl⟩:=h2;exact RcAt.bool_str _ _ _
  | tup es=>
   obtain⟨p2,ys,jts,rfl,hq2,v2,hp2,r2⟩:=h2;exact RcAt.bool_tuple _ hp2 hu
  | lst es=>
   obtain⟨p2,ys,jts,rfl,hq2,v2,hp2,r2⟩:=h2;exact RcAt.bool_list _ hp2 hu
 | int a=>
  obtain⟨t1,rfl⟩:=h1;cases e with
  | non=>
   cases h2;exact RcAt.int_none _ _
  | bl b=>
   cases h2;exact RcAt.int_bool _ _ _
  | int b=>
   obtain⟨t2,rfl⟩:=h2;exact RcAt.int_int _ _ _ _
  | str b=>
   obtain⟨t2,rfl⟩:=h2;exact RcAt.int_str _ _ _ _
  | tup es=>
   obtain⟨p2,ys,jts,rfl,hq2,v2,hp2,r2⟩:=h2;exact RcAt.int_tuple _ _ hp2 hu
  | lst es=>
   obtain⟨p2,ys,jts,rfl,hq2,v2,hp2,r2⟩:=h2;exact RcAt.int_list _ _ hp2 hu
 | str a=>
  obtain⟨t1,rfl⟩:=h1;cases e with
  | non=>
   cases h2;exact RcAt.str_none _ _
  | bl b=>
   cases h2;exact RcAt.str_bool _ _ _
  | int b=>
   obtain⟨t2,rfl⟩:=h2;exact RcAt.str_int _ _ _ _
  | str b=>
   obtain⟨t2,rfl⟩:=h2;exact RcAt.str_str _ _ _ _
  | tup es=>
   obtain⟨p2,ys,jts,rfl,hq2,v2,hp2,r2⟩:=h2;exact RcAt.str_tuple _ _ hp2 hu
  | lst es=>
   obtain⟨p2,ys,jts,rfl,hq2,v2,hp2,r2⟩:=h2;exact RcAt.str_list _ _ hp2 hu
 | tup ds=>
  obtain⟨p1,xs,its,rfl,hq1,v1,hp1,r1⟩:=h1;cases e with
  | non=>
   cases h2;exact RcAt.tuple_none hp1 hu
  | bl b=>
   cases h2;exact RcAt.tuple_bool _ hp1 hu
  | int b=>
   obtain⟨t2,rfl⟩:=h2;exact RcAt.tuple_int _ _ hp1 hu
  | str b=>
   obtain⟨t2,rfl⟩:=h2;exact RcAt.tuple_str _ _ hp1 hu
  | tup es=>
   obtain⟨p2,ys,jts,rfl,hq2,v2,hp2,r2⟩:=h2;have q:=RcAt.tuples hp1 hp2 hu (m6 r1 r2 v1 v2 ih);simp only[z1c] at q;rw[BJ (r1.length.trans v1.length) (r2.length.trans v2.length)] at q;rw[iM];exact q
  | lst es=>
   obtain⟨p2,ys,jts,rfl,hq2,v2,hp2,r2⟩:=h2;exact RcAt.tuple_list hp1 hp2 hu
 | lst ds=>
  obtain⟨p1,xs,its,rfl,hq1,v1,hp1,r1⟩:=h1;cases e with
  | non=>
   cases h2;exact RcAt.list_none hp1 hu
  | bl b=>
   cases h2;exact RcAt.list_bool _ hp1 hu
  | int b=>
   obtain⟨t2,rfl⟩:=h2;exact RcAt.list_int _ _ hp1 hu
  | str b=>
   obtain⟨t2,rfl⟩:=h2;exact RcAt.list_str _ _ hp1 hu
  | tup es=>
   obtain⟨p2,ys,jts,rfl,hq2,v2,hp2,r2⟩:=h2;exact RcAt.list_tuple hp1 hp2 hu
  | lst es=>
   obtain⟨p2,ys,jts,rfl,hq2,v2,hp2,r2⟩:=h2;by_cases hz:ds.length=es.length
   ·have q:=RcAt.lists hp1 hp2 (by simp only[z1c];rw[<-v1.length,<-v2.length,<-r1.length,<-r2.length];exact hz) hu (m6 r1 r2 v1 v2 ih);rw[z1c,<-v1.length,<-r1.length,<-qR hz] at q;rw[eO];exact q
   ·rw[eO,qQ hz];exact RcAt.lists_lengths hp1 hp2 (by simp only[z1c];rw[<-v1.length,<-v2.length,<-r1.length,<-r2.length];simpa using hz) hu
theorem Wd(I:Inv X pins σ H s)(hu:A.units<aed){e:D}(h1:Lk X O H s d u)(h2:Lk X O' H s e u')
  (ih:∀c∈(match d with | .tup ds=>ds | .lst ds=>ds |_=>[]),∀(e:D) (v w:V) (u u':acB),Rep X.K O H c v->Rep X.K O' H e w->RelV v u->RelV w u'->EqAt A.in1 s u u' (gb c e)):RcNeAt A s u u' (!gb d e):=by
 cases d with
 | non=>
  cases h1;cases e with
  | non=>
   cases h2;exact RcNeAt.none_none
  | bl b=>
   cases h2;exact RcNeAt.none_bool _
  | int b=>
   obtain⟨t2,rfl⟩:=h2;exact RcNeAt.none_int _ _
  | str b=>
   obtain⟨t2,rfl⟩:=h2;exact RcNeAt.none_str _ _
  | tup es=>
   obtain⟨p2,ys,jts,rfl,hq2,v2,hp2,r2⟩:=h2;exact RcNeAt.none_tuple hp2 hu
  | lst es=>
   obtain⟨p2,ys,jts,rfl,hq2,v2,hp2,r2⟩:=h2;exact RcNeAt.none_list hp2 hu
 | bl a=>
  cases h1;cases e with
  | non=>
   cases h2;exact RcNeAt.bool_none _
  | bl b=>
   cases h2;exact RcNeAt.bool_bool _ _
  | int b=>
   obtain⟨t2,rfl⟩:=h2;exact RcNeAt.bool_int _ _ _
  | str b=>
   obtain⟨t2,rfl⟩:=h2;exact RcNeAt.bool_str _ _ _
  | tup es=>
   obtain⟨p2,ys,jts,rfl,hq2,v2,hp2,r2⟩:=h2;exact RcNeAt.bool_tuple _ hp2 hu
  | lst es=>
   obtain⟨p2,ys,jts,rfl,hq2,v2,hp2,r2⟩:=h2;exact RcNeAt.bool_list _ hp2 hu
 | int a=>
  obtain⟨t1,rfl⟩:=h1;cases e with
  | non=>
   cases h2;exact RcNeAt.int_none _ _
  | bl b=>
   cases h2;exact RcNeAt.int_bool _ _ _
  | int b=>
   obtain⟨t2,rfl⟩:=h2;exact RcNeAt.int_int _ _ _ _
  | str b=>
   obtain⟨t2,rfl⟩:=h2;exact RcNeAt.int_str _ _ _ _
  | tup es=>
   obtain⟨p2,ys,jts,rfl,hq2,v2,hp2,r2⟩:=h2;exact RcNeAt.int_tuple _ _ hp2 hu
  | lst es=>
   obtain⟨p2,ys,jts,rfl,hq2,v2,hp2,r2⟩:=h2;exact RcNeAt.int_list _ _ hp2 hu
 | str a=>
  obtain⟨t1,rfl⟩:=h1;cases e with
  | non=>
   cases h2;exact RcNeAt.str_none _ _
  | bl b=>
   cases h2;exact RcNeAt.str_bool _ _ _
  | int b=>
   obtain⟨t2,rfl⟩:=h2;exact RcNeAt.str_int _ _ _ _
  | str b=>
   obtain⟨t2,rfl⟩:=h2;exact RcNeAt.str_str _ _ _ _
  | tup es=>
   obtain⟨p2,ys,jts,rfl,hq2,v2,hp2,r2⟩:=h2;exact RcNeAt.str_tuple _ _ hp2 hu
  | lst es=>
   obtain⟨p2,ys,jts,rfl,hq2,v2,hp2,r2⟩:=h2;exact RcNeAt.str_list _ _ hp2 hu
 | tup ds=>
  obtain⟨p1,xs,its,rfl,hq1,v1,hp1,r1⟩:=h1;cases e with
  | non=>
   cases h2;exact RcNeAt.tuple_none hp1 hu
  | bl b=>
   cases h2;exact RcNeAt.tuple_bool _ hp1 hu
  | int b=>
   obtain⟨t2,rfl⟩:=h2;exact RcNeAt.tuple_int _ _ hp1 hu
  | str b=>
   obtain⟨t2,rfl⟩:=h2;exact RcNeAt.tuple_str _ _ hp1 hu
  | tup es=>
   obtain⟨p2,ys,jts,rfl,hq2,v2,hp2,r2⟩:=h2;have q:=RcNeAt.tuples hp1 hp2 hu (m6 r1 r2 v1 v2 ih);simp only[z1c] at q;rw[BJ (r1.length.trans v1.length) (r2.length.trans v2.length)] at q;rw[iM];exact q
  | lst es=>
   obtain⟨p2,ys,jts,rfl,hq2,v2,hp2,r2⟩:=h2;exact RcNeAt.tuple_list hp1 hp2 hu
 | lst ds=>
  obtain⟨p1,xs,its,rfl,hq1,v1,hp1,r1⟩:=h1;cases e with
  | non=>
   cases h2;exact RcNeAt.list_none hp1 hu
  | bl b=>
   cases h2;exact RcNeAt.list_bool _ hp1 hu
  | int b=>
   obtain⟨t2,rfl⟩:=h2;exact RcNeAt.list_int _ _ hp1 hu
  | str b=>
   obtain⟨t2,rfl⟩:=h2;exact RcNeAt.list_str _ _ hp1 hu
  | tup es=>
   obtain⟨p2,ys,jts,rfl,hq2,v2,hp2,r2⟩:=h2;exact RcNeAt.list_tuple hp1 hp2 hu
  | lst es=>
   obtain⟨p2,ys,jts,rfl,hq2,v2,hp2,r2⟩:=h2;by_cases hz:ds.length=es.length
   ·have q:=RcNeAt.lists hp1 hp2 (by simp only[z1c];rw[<-v1.length,<-v2.length,<-r1.length,<-r2.length];exact hz) hu (m6 r1 r2 v1 v2 ih);rw[z1c,<-v1.length,<-r1.length,<-qR hz] at q;rw[eO];exact q
   ·rw[eO,qQ hz];exact RcNeAt.lists_lengths hp1 hp2 (by simp only[z1c];rw[<-v1.length,<-v2.length,<-r1.length,<-r2.length];simpa using hz) hu
theorem Kq(I:Inv X pins σ H s):∀(n:Nat) (A:acO) (d:D),dep d<=n->A.units+n<aed->∀(e:D) (v w:V) (u u':acB),Rep X.K O H d v->Rep X.K O' H e w->RelV v u->RelV w u'->EqAt A s u u' (gb d e):=by
 intro n
 induction n with
 | zero=>
  intro A d hd hu e v w u u' r1 r2 q1 q2;refine Ko I (by omega) (sH I r1 q1) (sH I r2 q2) λc hc=>?_;cases d with
  |tup ds=>rw[dep] at hd;omega
  |lst ds=>rw[dep] at hd;omega
  |_=>simp at hc
 | succ n ihn=>
  intro A d hd hu e v w u u' r1 r2 q1 q2;refine Ko I (by omega) (sH I r1 q1) (sH I r2 q2) λc hc=>?_;have hc':dep c<=n:=by
   cases d with
   |tup ds=>rw[dep] at hd;have:=mZ (ds:=ds) hc;omega
   |lst ds=>rw[dep] at hd;have:=mZ (ds:=ds) hc;omega
   |_=>simp at hc
  exact ihn A.in1 c hc' (by show A.units+1+n<aed;omega)
end
def jO(d e:D):R D:=if dep d<=40 then .ok (.bl (gb d e)) else .bad
def lH(d e:D):R D:=if dep d<=40 then .ok (.bl (!gb d e)) else .bad
section
variable{X:Cx}
theorem aaj(hu:X.A.units+60<aed):OpR X (ac1 .Eq) (λx y H Q=>∃O O' d e,Rep X.K O H d x/\Rep X.K O' H e y/\dep d<=40/\Q (.bl (gb d e)) H):=by
 intro pins s σ H x y v u Q I rx ry h;obtain⟨O,O',d,e,r1,r2,hd,q⟩:=h;refine Wc I (show X.A.units<aed by omega) (sH I r1 rx) (sH I r2 ry) (λc hc=>?_) X.prog X.w X.xe _ ⟨.bl _,H,I,rfl,q⟩;have hc':dep c<=40:=by
  cases d with
  |tup ds=>rw[dep] at hd;have:=mZ (ds:=ds) hc;omega
  |lst ds=>rw[dep] at hd;have:=mZ (ds:=ds) hc;omega
  |_=>simp at hc
 exact Kq I 40 X.A.in1 c hc' (by show X.A.units+1+40<aed;omega)
theorem aak(hu:X.A.units+60<aed):OpR X (ac1 .NotEq) (λx y H Q=>∃O O' d e,Rep X.K O H d x/\Rep X.K O' H e y/\dep d<=40/\Q (.bl (!gb d e)) H):=by
 intro pins s σ H x y v u Q I rx ry h;obtain⟨O,O',d,e,r1,r2,hd,q⟩:=h;refine Wd I (show X.A.units<aed by omega) (sH I r1 rx) (sH I r2 ry) (λc hc=>?_) X.prog X.w X.xe _ ⟨.bl _,H,I,rfl,q⟩;have hc':dep c<=40:=by
  cases d with
  |tup ds=>rw[dep] at hd;have:=mZ (ds:=ds) hc;omega
  |lst ds=>rw[dep] at hd;have:=mZ (ds:=ds) hc;omega
  |_=>simp at hc
 exact Kq I 40 X.A.in1 c hc' (by show X.A.units+1+40<aed;omega)
theorem lJ(hu:X.A.units+60<aed):gO X (ac1 .Eq) jO:=by
 refine⟨_,aaj hu,λρ O σ H Q x y dx dy j rx ry h=>?_⟩;unfold jO at h;by_cases hd:dep dx<=40
 ·rw[if_pos hd] at h;exact⟨O,O,dx,dy,rx,ry,hd,fin h (fM _)⟩
 ·rw[if_neg hd] at h;exact h.elim
theorem lK(hu:X.A.units+60<aed):gO X (ac1 .NotEq) lH:=by
 refine⟨_,aak hu,λρ O σ H Q x y dx dy j rx ry h=>?_⟩;unfold lH at h;by_cases hd:dep dx<=40
 ·rw[if_pos hd] at h;exact⟨O,O,dx,dy,rx,ry,hd,fin h (fM _)⟩
 ·rw[if_neg hd] at h;exact h.elim
end
end Pu
namespace Pu
open PySem PySem.Spec L2
open PyProof.Rows hiding St
section
variable{prog:acL}{w:acQ}{A:acO}{E:acB->acC->Prop}{s:acC}
end
section
variable{X:Cx}{e:acI}{te:TE}{pos p2 p3 p4:Pos}{j:Nat}{f:ao->R D}
theorem Vals.rev{xs:List V}{us:List acB}(h:Vals xs us):Vals xs.reverse us.reverse:=by
 induction h with
 |nil=>exact .nil
 | cons r _ ih=>
  simp only[List.reverse_cons];exact ih.append (.cons r .nil)
def acv:D->R D
 | .tup ds=> .ok (.tup ds.reverse)
 |_=> .bad
def fW:D->D->R D
 | .int i,.int j=> .ok (.int (i+j))
 | .tup xs,.tup ys=>if 0<xs.length/\xs.length+ys.length<=1000000 then .ok (.tup (xs++ys)) else .bad
 |_,_=> .bad
theorem oU:gO X (adu .Add) fW:=by
 refine⟨_,OpR.or op_add op_catT,λρ O σ H Q x y dx dy j0 rx ry h=>?_⟩;cases dx <;> cases dy <;> first
  |exact h.elim
  |skip
 ·rename_i i j;exact .inl ⟨i,j,rx.int,ry.int,fin h (bN _)⟩
 ·rename_i xs ys;have h:good X (rD X) O (if 0<xs.length/\xs.length+ys.length<=1000000 then .ok (.tup (xs++ys)) else .bad) σ H Q:=h;by_cases hc:0<xs.length/\xs.length+ys.length<=1000000
  ·rw[if_pos hc] at h;obtain⟨a,us,rfl,ha,r1⟩:=rx.tup;obtain⟨b,ws,rfl,hb,r2⟩:=ry.tup;refine .inr ⟨a,b,us,ws,rfl,rfl,ha,hb,λz=>?_,?_,λz=>?_,λz l hl=>?_⟩
   ·have h1:=r1.length;have h2:=hc.1;rw[z] at h1;rw[h1] at h2;exact adH _ h2
   ·rw[<-r1.length,<-r2.length];exact z0b hc.2 dB
   ·subst z;have:ys=[]:=ac4 r2.length;subst this;rw[adp] at h;exact fin h (gw ha r1)
   ·exact h _ _ (Same.upd hl) (Rep.mO hl (r1.append r2))
  ·rw[if_neg hc] at h;exact h.elim
end
section
variable{K:PySem.W.Frag}{O:acA->Prop}{H:Hp}
end
section
variable{X:Cx}{e e1 e2:acI}{f g:ao->R D}{pos:Pos}
end
end Pu
namespace Pu
open PySem PySem.W PyProof.Rows
variable{p:Array Nat}
def Sat{α:Type}(n:Nat)(lt:Nat->Nat->Bool):KasT α->(α->Prop)->Prop
 | .ret a,Q=>Q a
 | .ask i j k,Q=>i<n/\j<n/\Sat n lt (k (lt i j)) Q
section
variable{n:Nat}{lt:Nat->Nat->Bool}
theorem Sat.bind{α β:Type}{f:α->KasT β}{Q:β->Prop}:∀{t:KasT α},Sat n lt t (λa=>Sat n lt (f a) Q)->Sat n lt (t.bind f) Q
 | .ret _,h=>h
 | .ask i j k,h=>⟨h.1,h.2.1,Sat.bind h.2.2⟩
theorem Sat.mono{α:Type}{Q Q':α->Prop}(w:∀a,Q a->Q' a):∀{t:KasT α},Sat n lt t Q->Sat n lt t Q'
 | .ret _,h=>w _ h
 | .ask _ _ _,h=>⟨h.1,h.2.1,Sat.mono w h.2.2⟩
theorem Sat.wp{α:Type}{cmp:Nat->Nat->(Bool->acC->Prop)->acC->Prop}{s:acC}{P:α->Prop}{Q:α->acC->Prop}(hc:∀i j C,i<n->j<n->C (lt i j) s->cmp i j C s)(hQ:∀a,P a->Q a s):
  ∀{t:KasT α},Sat n lt t P->t.kasWp cmp Q s
 | .ret _,h=>hQ _ h
 | .ask i j k,h=>hc i j _ h.1 h.2.1 (Sat.wp hc hQ h.2.2)
structure Ord(n:Nat)(lt:Nat->Nat->Bool):Prop where
 tr:∀a b c,a<n->b<n->c<n->lt a b=true->lt b c=true->lt a c=true
 tot:∀a b,a<n->b<n->a≠b->lt a b=false->lt b a=true
structure Pm(n:Nat)(p:Array Nat):Prop where
 size:p.size=n
 perm:p.toList.Perm (acD n)
theorem Pm.bd(h:Pm n p){i:Nat}(hi:i<n):p.getD i 0<n:=by
 have hs:i<p.size:=by rw[h.size];exact hi
 have:p.getD i 0=p[i]:=by simp[ag2,hs]
 rw[this];have hm:p[i]∈p.toList:=by simp
 exact z2e (h.perm.mem_iff.mp hm)
theorem Pm.ne(h:Pm n p){i j:Nat}(hi:i<n)(hj:j<n)(hij:i≠j):p.getD i 0≠p.getD j 0:=by
 have hs:i<p.size:=by rw[h.size];exact hi
 have hs2:j<p.size:=by rw[h.size];exact hj
 have e1:p.getD i 0=p.toList[i]'(by simpa using hs):=by simp[ag2,hs]
 have e2:p.getD j 0=p.toList[j]'(by simpa using hs2):=by simp[ag2,hs2]
 rw[e1,e2];have nd:p.toList.Nodup:=h.perm.nodup_iff.mpr List.nodup_range;intro z;exact hij ((ag7 nd).mp z)
theorem Pm.of{q:Array Nat}(h:Pm n p)(w:q.Perm p):Pm n q:=
 ⟨by rw[<-h.size];exact w.size_eq,(Array.perm_iff_toList_perm.mp w).trans h.perm⟩
def S(lt:Nat->Nat->Bool)(p:Array Nat)(k:Nat):Prop:=∀i j,i<j->j<k->lt (p.getD i 0) (p.getD j 0)=true
def De(lt:Nat->Nat->Bool)(p:Array Nat)(k:Nat):Prop:=∀i j,i<j->j<k->lt (p.getD j 0) (p.getD i 0)=true
theorem S.one:S lt p 1:=λi j h1 h2=>by omega
theorem S.ext(o:Ord n lt)(h:Pm n p){a:Nat}(ha:1<=a)(hn:a<n)(s:S lt p a)(e:lt (p.getD (a - 1) 0) (p.getD a 0)=true):S lt p (a+1):=λi j h1 h2=>by
 by_cases hj:j<a
 ·exact s i j h1 hj
 ·have ej:j=a:=by omega
  subst ej;by_cases hi:i=j - 1
  ·rw[hi];exact e
  ·exact o.tr _ _ _ (h.bd (by omega)) (h.bd (by omega)) (h.bd hn) (s i (j - 1) (by omega) (by omega)) e
theorem De.ext(o:Ord n lt)(h:Pm n p){a:Nat}(ha:1<=a)(hn:a<n)(s:De lt p a)(e:lt (p.getD a 0) (p.getD (a - 1) 0)=true):De lt p (a+1):=λi j h1 h2=>by
 by_cases hj:j<a
 ·exact s i j h1 hj
 ·have ej:j=a:=by omega
  subst ej;by_cases hi:i=j - 1
  ·rw[hi];exact e
  ·exact o.tr _ _ _ (h.bd hn) (h.bd (by omega)) (h.bd (by omega)) e (s i (j - 1) (by omega) (by omega))
theorem GC(o:Ord n lt){p:Array Nat}(h:Pm n p):∀(f a:Nat),1<=a->a+f<=n->S lt p a->Sat n lt (kas_asc p f a) (λm=>a<=m/\m<=a+f/\S lt p m/\(m<a+f->lt (p.getD m 0) (p.getD (m - 1) 0)=true))
 |0,a,h1,h2,s=>⟨z0g _,z0g _,s,λz=>absurd z (by omega)⟩
 | f +1,a,h1,h2,s=>by
  refine⟨h.bd (by omega),h.bd (by omega),?_⟩;cases e:lt (p.getD a 0) (p.getD (a - 1) 0) with
  |true=>exact⟨z0g _,by omega,s,λ_=>e⟩
  | false=>
   have e':=o.tot _ _ (h.bd (by omega)) (h.bd (by omega)) (h.ne (i:=a) (j:=a - 1) (by omega) (by omega) (by omega)) e;show Sat n lt (kas_asc p f (a+1)) _;refine Sat.mono (λm ⟨m1,m2,m3,m4⟩=>⟨by omega,by omega,m3,λz=>m4 (by omega)⟩) (GC o h f (a+1) (by omega) (by omega) (S.ext o h h1 (by omega) s e'))
theorem Kr(o:Ord n lt){p:Array Nat}(h:Pm n p):∀(f a:Nat),1<=a->a+f<=n->De lt p a->Sat n lt (kas_desc f p a 0) (λr=>r.1=p/\r.2.2=0/\a<=r.2.1/\r.2.1<=a+f/\De lt p r.2.1)
 |0,a,h1,h2,s=>⟨rfl,rfl,z0g _,z0g _,s⟩
 | f +1,a,h1,h2,s=>by
  refine⟨h.bd (by omega),h.bd (by omega),?_⟩;cases e:lt (p.getD a 0) (p.getD (a - 1) 0) with
  | true=>
   show Sat n lt (kas_desc f p (a+1) 0) _;exact Sat.mono (λr ⟨m1,m2,m3,m4,m5⟩=>⟨m1,m2,by omega,by omega,m5⟩) (Kr o h f (a+1) (by omega) (by omega) (De.ext o h h1 (by omega) s e))
  | false=>
   have e':=o.tot _ _ (h.bd (by omega)) (h.bd (by omega)) (h.ne (i:=a) (j:=a - 1) (by omega) (by omega) (by omega)) e;refine⟨h.bd (by omega),h.bd (by omega),?_⟩;rw[e'];exact⟨rfl,rfl,z0g _,aeV _ _,s⟩
theorem kZ{q:Array Nat}{i j:Nat}(h:p[i]?=q[j]?):p.getD i 0=q.getD j 0:=by
 rw[agA,agA,h]
theorem TQ(o:Ord n lt)(h:Pm n p){m:Nat}(h1:1<=m)(h2:m<=n)(s:De lt p m):Sat n lt (kas_tail3 m n p) (λr=>Pm n r.2/\1<=r.1/\r.1<=n/\S lt r.2 r.1):=by
 have hq:Pm n (afK p 0 m):=h.of (agv _ _ _ _);have hs:S lt (afK p 0 m) m:=λi j hij hj=>by
  have g:∀k,k<m->(afK p 0 m).getD k 0=p.getD (m - 1 - k) 0:=λk hk=>by
   apply kZ;show (mirror p 0 m ((m - 0) / 2))[k]?=_;rw[getElem?_mirror_all (by rw[h.size];exact h2),if_pos ⟨by omega,hk⟩];congr 1;omega
  rw[g i (by omega),g j hj];exact s (m - 1 - j) (m - 1 - i) (by omega) (by omega)
 exact Sat.bind (Sat.mono (λk ⟨k1,k2,k3,_⟩=>⟨hq,by omega,by omega,k3⟩) (GC o hq (n - m) m h1 (by omega) hs))
theorem TV(o:Ord n lt)(h:Pm n p)(hn:1<=n):Sat n lt (kas_count n p) (λr=>Pm n r.2/\1<=r.1/\r.1<=n/\S lt r.2 r.1):=by
 refine Sat.bind (Sat.mono (λm ⟨m1,m2,m3,m4⟩=>?_) (GC o h (n - 1) 1 (z0g _) (by omega) S.one));by_cases e:m=n
 ·rw[if_pos (by simp[e])];exact⟨h,m1,by omega,m3⟩
 ·rw[if_neg (by simp[e])];by_cases hm:m > 1
  ·rw[if_pos hm];refine⟨h.bd (by omega),h.bd (by omega),?_⟩;rw[m3 0 (m - 1) (by omega) (by omega)];exact⟨h,m1,by omega,m3⟩
  ·rw[if_neg hm];have em:m=1:=by omega
   subst em;have e0:=m4 (by omega);have d2:De lt p 2:=De.ext o h (a:=1) (z0g _) (by omega) (λi j a1 a2=>by omega) e0;refine Sat.bind (Sat.mono (λr ⟨r1,r2,r3,r4,r5⟩=>?_) (Kr o h (n - (1+1)) (1+1) (by omega) (by omega) d2));rw[if_neg (by omega),r1];exact TQ o h (by omega) (by omega) r5
theorem xJ(o:Ord n lt){p:Array Nat}(h:Pm n p){k:Nat}(hk:k<n)(s:S lt p k):∀(f l r:Nat),l<=r->r<=k->r - l<=f->(∀i,i<l->lt (p.getD i 0) (p.getD k 0)=true)->(∀i,r<=i->i<k->lt (p.getD k 0) (p.getD i 0)=true)->
  Sat n lt (kas_place p k f l r) (λm=>m<=k/\(∀i,i<m->lt (p.getD i 0) (p.getD k 0)=true)/\∀i,m<=i->i<k->lt (p.getD k 0) (p.getD i 0)=true)
 |0,l,r,h1,h2,h3,hl,hr=>⟨by omega,hl,λi a b=>hr i (by omega) b⟩
 | f+1,l,r,h1,h2,h3,hl,hr=>by
  unfold kas_place;by_cases hlr:l>=r
  ·rw[if_pos hlr];exact⟨by omega,hl,λi a b=>hr i (by omega) b⟩
  ·rw[if_neg hlr];have hm:(l+r) / 2<k:=by omega
   refine⟨h.bd hk,h.bd (by omega),?_⟩;cases e:lt (p.getD k 0) (p.getD ((l+r) / 2) 0) with
   | true=>
    refine xJ o h hk s f l ((l+r) / 2) (by omega) (by omega) (by omega) hl λi a b=>?_;by_cases hi:i=(l+r) / 2
    ·rw[hi];exact e
    ·exact o.tr _ _ _ (h.bd hk) (h.bd (by omega)) (h.bd (by omega)) e (s _ _ (by omega) b)
   | false=>
    have e':=o.tot _ _ (h.bd hk) (h.bd (by omega)) (h.ne (i:=k) (j:=(l+r) / 2) hk (by omega) (by omega)) e;refine xJ o h hk s f ((l+r) / 2+1) r (by omega) h2 (by omega) (λi a=>?_) hr;by_cases hi:i=(l+r) / 2
    ·rw[hi];exact e'
    ·exact o.tr _ _ _ (h.bd (by omega)) (h.bd (by omega)) (h.bd hk) (s i ((l+r) / 2) (by omega) hm) e'
theorem Pk(o:Ord n lt):∀(f:Nat) (p:Array Nat) (k:Nat),Pm n p->S lt p k->k+f<=n->Sat n lt (kas_bin f p k) (λq=>Pm n q/\S lt q (k+f))
 |0,p,k,h,s,_=>⟨h,s⟩
 | f+1, p, k,h,s,hk=>by
  refine Sat.bind (Sat.mono (λl ⟨l1,l2,l3⟩=>?_) (xJ o h (by omega) s k 0 k (adz _) (z0g _) (by omega) (λi a=>by omega) λi a b=>by omega));have hq:Pm n (bubble p k (k - l)):=h.of (bubble_perm _ _ _);have g:∀i,(bubble p k (k - l)).getD i 0=if i=l then p.getD k 0 else if l<i/\i<=k then p.getD (i - 1) 0 else p.getD i 0:=λi=>by
   have e:=getElem?_bubble (xs:=p) (src:=k) (by rw[h.size];omega) (k - l) (by omega) i;rw[show k - (k - l)=l by omega] at e;by_cases c1:i=l
   ·rw[if_pos c1] at e |-;exact kZ e
   ·rw[if_neg c1] at e |-;by_cases c2:l<i/\i<=k
    ·rw[if_pos c2] at e |-;exact kZ e
    ·rw[if_neg c2] at e |-;exact kZ e
  have hs : S lt (bubble p k (k - l)) (k+1):=λi j hij hj=>by
   rw[g i,g j];by_cases c1:i=l
   ·rw[if_pos c1,if_neg (by omega),if_pos ⟨by omega,by omega⟩];exact l3 (j - 1) (by omega) (by omega)
   ·rw[if_neg c1];by_cases c2:l<i/\i<=k
    ·rw[if_pos c2,if_neg (by omega),if_pos ⟨by omega,by omega⟩];exact s (i - 1) (j - 1) (by omega) (by omega)
    ·rw[if_neg c2];have hil:i<l:=by omega
     by_cases c3:j=l
     ·rw[if_pos c3];exact l2 i hil
     ·rw[if_neg c3];by_cases c4:l<j/\j<=k
      ·rw[if_pos c4];by_cases c5:i=j - 1
       ·omega
       ·exact s i (j - 1) (by omega) (by omega)
      ·rw[if_neg c4];exact s i j hij (by omega)
  have:=Pk o f (bubble p k (k - l)) (k+1) hq hs (by omega);exact Sat.mono (λq ⟨q1,q2⟩=>⟨q1,by rw[show k+(f+1)=k+1+f by omega];exact q2⟩) this
theorem Wf(o:Ord n lt)(hn:1<=n):Sat n lt (kas_sort n) (λq=>Pm n q/\S lt q n):=by
 have h0:Pm n (adL (acD n)):=⟨by simp,by simp⟩;refine Sat.bind (Sat.mono (λr ⟨r1,r2,r3,r4⟩=>?_) (TV o h0 hn));by_cases hr:r.1<n
 ·rw[if_pos hr];have e:max r.1 1=r.1:=by omega
  rw[e];refine Sat.mono (λq ⟨q1,q2⟩=>⟨q1,?_⟩) (Pk o (n - r.1) r.2 r.1 r1 r4 (by omega));rw[show r.1+(n - r.1)=n by omega] at q2;exact q2
 ·rw[if_neg hr];have e:r.1=n:=by omega
  rw[e] at r4;exact⟨r1,r4⟩
end
end Pu
namespace Pu
open PySem PySem.Spec PySem.W L2
open PyProof.Rows hiding St
variable{vs:List acB}
theorem sI{h:acP}{a b:acA}{out:Array acB}{o:Obj}(hb:b≠a)(e:h.get? b=some o):(afj h a vs out).get? b=some o:=by
 unfold afj;rw[adZ _ _ _ _ hb];exact z1a _ (z1a _ (by rw[adZ _ _ _ _ hb];exact e))
theorem sortedHeap_at{h:acP}{a:acA}{out:Array acB}{n:Nat}(e:h.get? a=some (adJ "list" vs.toArray n)):∃c,(afj h a vs out).get? a=some (adJ "list" out c):=by
 unfold afj;have h1:=ae4 e (λ_=>(#[]:Array acB));exact⟨_,ae4 (z1a _ (z1a _ h1)) λ_=>out⟩
theorem Ik(vs:List acB)(h:vs.length<2):(vs.toArray.zip vs.toArray).map (·.2)=adL ((adL (acD vs.length)).toList.map λi=>vs.getD i acU):=by
 match vs,h with
 |[],_=>simp
 |[v],_=>simp[ahq]
 |_::_::_,h=>exact absurd h (by simp)
section
variable{prog:acL}{w:acQ}{A:acO}{E:acB->acC->Prop}{s:acC}
theorem Yy{a:acA}{n:Nat}{P:PySem.Fin->acC->Prop}{lt:Nat->Nat->Bool}{kk:SortKind}(ho:s.heap.get? a=some (adJ "list" vs.toArray n))(h64:vs.length<64)(od:Ord vs.length lt)
  (kind:2<=vs.length->∀h':acP,(∀b ob,b≠a->s.heap.get? b=some ob->h'.get? b=some ob)->∀Q:SortKind->acC->Prop,Q kk {s with heap:=h'}->acG (model prog w) A (keyKind' vs.toArray) Q (λ_ _=>False) {s with heap:=h'})
  (ask:∀h':acP,(∀b ob,b≠a->s.heap.get? b=some ob->h'.get? b=some ob)->∀i j C,i<vs.length->j<vs.length->C (lt i j) {s with heap:=h'}->kas_ask prog w A kk vs i j C {s with heap:=h'})
  (h:∀q:Array Nat,Pm vs.length q->S lt q vs.length->P (.done (.ret .none)) {s with heap:=afj s.heap a vs (adL (q.toList.map λi=>vs.getD i acU))}):
  acG (model prog w) A (ad1.«list.sort» ⟨[.ref a],[]⟩) P E s:=by
 rw[list_sort_plain];have ha:a<s.heap.objs.size:=z2c ho;refine acz (listItems_at ho rfl ?_);refine acz (afp ho rfl ?_ (by rw[z1c,adv];omega) (adz _));obtain⟨e1,ho1⟩:∃e1,(s.heap.update a (ady λ_=>(#[]:Array acB))).get? a=some (adJ "list" #[] e1):=⟨_,ae4 ho (λ_=> #[])⟩;refine acz (afU ho1 rfl ?_);refine acz (afL ?_ (by show vs.length<=_;rw[adv];omega));refine acz (agJ ?_ (adz _));refine aev ?_
 generalize Ku:((s.heap.update a (ady λ_=>(#[]:Array acB))).push (adJ "tuple" vs.toArray 0)).push (adJ "list" #[] 0)=h6
 have ho6:h6.get? a=some (adJ "list" #[] e1):=by
  rw[<-Ku];exact z1a _ (z1a _ ho1)
 have keep:∀b ob,b≠a->s.heap.get? b=some ob->h6.get? b=some ob:=λb ob hb e=>by
  rw[<-Ku];exact z1a _ (z1a _ (by rw[adZ _ _ _ _ hb];exact e))
 have hsh:∀out:Array acB,afj s.heap a vs out=h6.update a (ady λ_=>out):=λout=>by rw[<-Ku];rfl
 show acG (model prog w) A _ P E {s with heap:=h6}
 dsimp only
 have hsz:vs.toArray.size=vs.length:=by simp
 by_cases h2:vs.toArray.size<2
 ·rw[if_pos h2,if_pos h2];refine acz (acF ?_);rw[StateT.run_pure];refine acz (acF ?_)
  dsimp only
  refine acz (afU ho6 rfl ?_);refine acz (afp ho6 rfl ?_ (adz _) (by show (((pairsOf vs)).map (·.2)).size<=_;rw[Array.size_map,pairsOf_size,adv];omega));simp only[bne_self_eq_false,ac7,if_false];have q:=h (adL (acD vs.length)) ⟨by simp,by simp⟩ (λi j h1 h3=>by omega);rw[hsh] at q;have eo:(arrOf (ahy general' (vs.toArray.zip vs.toArray) #[] 7 none)).map (·.2)=adL ((adL (acD vs.length)).toList.map λi=>vs.getD i acU):=by
   show (vs.toArray.zip vs.toArray).map (·.2)=_;exact Ik vs (by rw[<-hsz];exact h2)
  refine acF ?_;show P _ {s with heap:=h6.update a (ady λ_=>(arrOf (ahy general' (vs.toArray.zip vs.toArray) #[] 7 none)).map (·.2))};rw[eo];exact q
 ·rw[if_neg h2,if_neg h2];have h2':2<=vs.length:=by rw[hsz] at h2;omega
  refine acz (adQ (kind h2' h6 keep (λκ s'=>κ=kk/\s'={s with heap:=h6}) ⟨rfl,rfl⟩) (λκ s0 hk=>?_) λ_ _ x=>x.elim);obtain⟨rfl,rfl⟩:=hk;have wp:(kas_sort vs.length).kasWp (kas_ask prog w A κ vs) (λp s''=>(Pm vs.length p/\S lt p vs.length)/\s''={s with heap:=h6}) {s with heap:=h6}:=
   Sat.wp (ask h6 keep) (λp hp=>⟨hp,rfl⟩) (Wf od (by omega))
  refine acz (adQ (kat_run (Q:=λst' s'=>∃p:Array Nat,p.size=vs.length/\arrOf st'=p.map (kas_item (vs.toArray.zip vs.toArray))/\failedOf st'=none/\(Pm vs.length p/\S lt p vs.length)/\s'={s with heap:=h6})
   rfl h2' h64 (λp' st' s' a1 a2 a3 a4=>⟨p',a1,a2,a3,a4⟩) wp) ?_ λ_ _ e=>e)
  rintro⟨⟨⟩,st'⟩ s' ⟨p,hp,har,hf,⟨hpm,hps⟩,rfl⟩
  dsimp only
  have hout:=kat_snds rfl har;rw[hout];refine acz (afU ho6 rfl ?_);refine acz (afp ho6 rfl ?_ (adz _) (by show (adL (p.toList.map λi=>vs.getD i acU)).size<=_;rw[z1c,z1g,adY,hp,adv];omega));rw[hf];simp only[bne_self_eq_false,ac7,if_false];have q:=h p hpm hps;rw[hsh] at q;exact acF q
end
section
variable{prog:acL}{w:acQ}{A:acO}{E:acB->acC->Prop}{s:acC}
end
section
variable{X:Cx}{pins:List (acA×Obj)}{σ:St}{H:Hp}{s:acC}
end
theorem GD:∀as:List acA,Vals (as.map V.ref) (as.map acM)
 |[]=> .nil
 |a::as=> .cons rfl (GD as)
section
variable{X:Cx}
end
section
variable{X:Cx}
end
end Pu
namespace Pu
open PySem PySem.Spec L2
open PyProof.Rows hiding St
section
variable{X:Cx}{a b:acI}{es:List acI}{f g:ao->R D}{fa:ao->R (List D)}{pos:Pos}
def GF(i k:Nat)(f g:ao->R D):ao->So:=λρ=>gZ (f ρ) ρ λd=>gZ (g ρ) ρ λe=> .nx ((ρ.set i (some (.val d))).set k (some (.val e)))
theorem TX(i k:Nat){x y:Str}{px py pt:Pos}{kt k2 pt2}(hc:X.calm=true)(hN:X.N.Nodup)(ha:DE X a f)(hb:DE X b g)(hi:X.N[i]?=some x:=by rfl)(hk:X.N[k]?=some y:=by rfl)(hik:i≠k:=by decide)
  (hx:X.env.scope.names.lookup x=some .local:=by rfl)(hy:X.env.scope.names.lookup y=some .local:=by rfl)
  (h1:acE [a,b] X.env=(false,eval a X.env)::acE [b] X.env:=by rfl)(h2:acE [b] X.env=(false,eval b X.env)::acE [] X.env:=by rfl)
  (hw:aeI [.Tuple [.Name x px,.Name y py] kt pt] (.Tuple [a,b] k2 pt2) X.env=pure (some [x,y]):=by rfl)
  (hs:aeH [.Tuple [.Name x px,.Name y py] kt pt] (.Tuple [a,b] k2 pt2) pos.line X.env=pure false:=by rfl):
  DS X (.Assign [.Tuple [.Name x px,.Name y py] kt pt] (.Tuple [a,b] k2 pt2) pos) (GF i k f g):=by
 refine PS.imp (ps_par hc hN hi hk hik hx hy (pa_cons ha (pa_cons hb pa_nil h2) h1) hw hs) λσ H E h=>?_;obtain⟨H0,O0,O,ρ,j,h⟩:=h;refine⟨ρ,O,j.inn,?_⟩;unfold GF gZ at h;cases e1:f ρ with
 |bad=>rw[e1] at h;exact h
 |err c=>rw[e1] at h;exact h σ H O j
 | ok d=>
  rw[e1] at h;intro v H1 s1 rv;have j1:=j.grow s1;refine⟨ρ,O,j1.inn,?_⟩;cases e2:g ρ with
  |bad=>simp only[e2] at h;exact h
  |err c=>simp only[e2] at h;exact Aj.same (h σ H O j) s1
  | ok e=>
   simp only[e2] at h;intro w H2 s2 rw2;refine⟨v,w,rfl,?_⟩;exact h _ H2 O (((j1.grow s2).set (z1b hi).1 (rv.same s2)).set (z1b hk).1 rw2) ((Same.dM s1).trans (Same.dM s2))
def Kv(i k:Nat)(f:ao->R D)(fa:ao->R (List D)):ao->So:=λρ=>gZ (f ρ) ρ λd=>match fa ρ with
 | .ok ds=>if ds.length<=1000000 then .nx ((ρ.set i (some (.val d))).set k (some (.lst ds))) else .bad
 |_=> .bad
theorem Yz(i k:Nat){x y:Str}{px py pt p3:Pos}{kt k2 pt2}(hc:X.calm=true)(hN:X.N.Nodup)(ha:DE X a f)(hb:DA X es fa)(hi:X.N[i]?=some x:=by rfl)(hk:X.N[k]?=some y:=by rfl)
  (hx:Loc X.env.scope x:=by first |exact adS rfl |exact adA rfl)(hy:Loc X.env.scope y:=by first |exact adS rfl |exact adA rfl)
  (hfx:X.fn x=true\/X.env.scope.names.lookup x=some .local:=by first |exact .inl rfl |exact .inr rfl)(Kh:X.fn y=true\/X.env.scope.names.lookup y=some .local:=by first |exact .inl rfl |exact .inr rfl)
  (h1:acE [a,.List es p3] X.env=(false,eval a X.env)::acE [.List es p3] X.env:=by rfl)(h2:acE [.List es p3] X.env=(false,eval (.List es p3) X.env)::acE [] X.env:=by rfl)
  (hs:aeH [.Tuple [.Name x px,.Name y py] kt pt] (.Tuple [a,.List es p3] k2 pt2) pos.line X.env=pure false:=by rfl)(hw:aeI [.Tuple [.Name x px,.Name y py] kt pt] (.Tuple [a,.List es p3] k2 pt2) X.env=pure none:=by rfl):
  DS X (.Assign [.Tuple [.Name x px,.Name y py] kt pt] (.Tuple [a,.List es p3] k2 pt2) pos) (Kv i k f fa):=by
 refine PS.imp (ps_asg (pe_tup (pa_cons ha (pa_cons (Pg hb) pa_nil h2) h1)) (pg_tup hc (pgs_cons (pg_name hN hi hx hfx) (pgs_cons (pg_name hN hk hy Kh) pgs_nil))) hs hw) λσ H E h=>?_;obtain⟨H0,O0,O,ρ,j,h⟩:=h;refine⟨ρ,O,j.inn,?_⟩;unfold Kv gZ at h;cases e1:f ρ with
 |bad=>rw[e1] at h;exact h
 |err c=>rw[e1] at h;exact h σ H O j
 | ok d=>
  rw[e1] at h;intro v H1 s1 rv;have j1:=j.grow s1;refine⟨ρ,O,j1.inn,?_⟩;cases e2:fa ρ with
  |bad=>simp only[e2] at h;exact h
  |err c=>simp only[e2] at h;exact h.elim
  | ok ds=>
   simp only[e2] at h;by_cases hl:ds.length<=1000000
   ·simp only[if_pos hl] at h;intro vs H2 s2 rvs;refine⟨by rw[<-rvs.length];exact z0b hl dB,λp hp hpk=>?_⟩;refine⟨by show 2<=sizeLine;decide,λt ht=>?_⟩;refine⟨t,[v,.ref p],rfl,SqT.of upd_same,rfl,v,[.ref p],rfl,.ref p,[],rfl,rfl,?_⟩;have j2:=(j1.grow s2).set (z1b hi).1 (rv.same s2);obtain⟨j3,r3⟩:=j2.own (z1b hk).1 (o:= .lst vs) (en:= .lst ds) hp hpk rfl ⟨p,vs,rfl,.inr rfl,upd_same,rvs.go ⟨(Same.dM (K:=X.K) (O:=O) (Same.upd hp)).ext,λa z=>z.elim .inl λe=> .inr (by rw[e];exact⟨hp,hpk⟩),(Same.dM (K:=X.K) (O:=O) (Same.upd hp)).dom⟩⟩;have s4:Same (upd H2 p (.lst vs)) (upd (upd H2 p (.lst vs)) t (.tup [v,.ref p])):=Same.upd ht;exact h _ _ _ (j3.grow s4) ((((Same.dM s1).trans (Same.dM s2)).trans r3).trans (Same.dM s4))
   ·simp only[if_neg hl] at h;exact h.elim
end
def zT(s:String):Bool:=s == "int" || s == "bool"
def vg(s:String):Bool:=s == "bool"
def gj(s:String):Bool:=s == "tuple"
def Kw(s:String):Bool:=s == "list"
def zU(s:String):Bool:=s == "str"
def dX(P:acL)(w:acQ)(K:PySem.W.Frag)(mg:Str->Option acB)(base:acP)(k:Nat)(x:Str)(n:Nat)(F:List D->R D):Prop:=
 ∃f fd ps,FnOk P w K mg base CX0 k f fd ps (Al K n F)/\mg x=some (.ref f)/\PySem.W.keepIn K (.ref f)=true/\Binds K fd ps []
theorem aZ{X:Cx}{k n m:Nat}{F:List D->R D}{x:Str}{p pos:Pos}{e:acI}{es:List acI}{fa:ao->R (List D)}(G:dX X.prog X.w X.K X.mg X.base k x n F)(hr:Room m X.A)(hkm:k<=m)(ha:DA X (e::es) fa)(hg:Gl X x:=by rfl)
  (hdb:(x ==("__debug__" :Str))=false:=by decide)(he:acE (e::es) X.env=(false,eval e X.env)::acE es X.env:=by rfl)(hpl:(adg pos (acE es X.env)).any (·.1)=false:=by rfl):
  DE X (.Call (.Name x p) (e::es) [] pos) (aF (aN F n) fa):=by
 obtain⟨f,fd,ps,ok,hm,hk,hb⟩:=G;exact Yx ok (hr.mono hkm) hg hm hk hb ha hdb he hpl
theorem cV{A:acO}{k:Nat}(hr:Room k A):A.units+60<aed:=by have:=hr.un;omega
theorem aal{P:acL}{w:acQ}{K:PySem.W.Frag}{mg:Str->Option acB}{base:acP}{x qual:Str}{st:acS}{f:acA}{fd:adh}{N ps:List Str}{k n m:Nat}{g:ao->So}(Fn:Fun K x qual st f fd)(hmg:mg x=some (.ref f))(hb:Binds K fd ps [])(S:FnScope N ps (defScope st))(hn:ps.length=n)(hm:N.length=n+m)
  (hbody:∀(cdv:acB) (A:acO) (outer:List PySem.Env) (s:acC) (H:Hp) (E:XK),Room k (A.deeper (aeb qual (defScope st) s.heap.objs.size f cdv))->jg (cxOf CX0 P w K mg base N qual (defScope st) f cdv A outer s H E).nox (defBody st) g):
  dX P w K mg base (k+1) x n (bK m g):=⟨f,fd,ps,fnD Fn S hn hm hbody λds d _ e=>e,hmg,Fn.kp,hb⟩
theorem sp_law{K:PySem.W.Frag}{F:List D->R D}{H:Hp}{a:acA}{ns:List Int}{E:XK}(hS:SqL K H a (ns.map V.int))(hF:F [.lst (ns.map D.int)]= .ok (.bl true)):Al K 1 F [.ref a] H (λv _=>v= .bl true) E:=by
 refine⟨λ_=>False,[.lst (ns.map D.int)],.cons (kW hS (λz=>z) ?_) .nil,rfl,λa z=>z.elim,?_⟩
 ·have:∀l:List Int,aO K (λ_=>False) H (l.map D.int) (l.map V.int):=by
   intro l
   induction l with
   |nil=>exact .nil
   |cons i l ih=>exact .cons (bN i) ih
  exact this ns
 ·rw[hF];exact λv H' _ r=>r.bl
end Pu
namespace Pu
open PySem PySem.Spec L2
variable{d:D}{gt:D->ao->R ao}{i j:Int}{xs:List D}{ρ:ao}{α:Type}
theorem Pn{α:Type}{k:D->R (Option D)}{c h:α->D}:∀{l:List α},(∀a∈l,k (c a)= .ok (some (h a)))->jR k (l.map c)= .ok (l.map h)
 |[],_=>rfl
 | a::l,q=>by
  rw[z1h,jR,q a (by simp),Kg,R.bw,Pn λb hb=>q b (by simp[hb])];rfl
theorem Dk{α:Type}{c:α->Bool}:∀{l:List α},boolsOf (l.map λa=> .bl (c a))=some (l.map c)
 |[]=>rfl
 | a::l=>by
  rw[z1h,boolsOf,Dk];rfl
theorem Il{α:Type}{c:α->Int}:∀{l:List α},intsOf (l.map λa=> .int (c a))=some (l.map c)
 |[]=>rfl
 | a::l=>by
  rw[z1h,intsOf,Il];rfl
theorem zV{α:Type}{c:α->D}{n:Nat}:∀{l:List α},(∀a∈l,dep (c a)<=n)->deps (l.map c)<=n
 |[],_=>by rw[afa,deps];omega
 | a::l,h=>by
  rw[z1h,deps];have:=h a (by simp);have:=zV (l:=l) λb hb=>h b (by simp[hb]);omega
theorem iB{e:D}(h:d=e)(hd:dep d<=40):lH d e= .ok (.bl false):=by
 subst h;rw[lH,if_pos hd,Bx];rfl
theorem Ky{e:D}(h:d=e)(hd:dep d<=40):jO d e= .ok (.bl true):=by
 subst h;rw[jO,if_pos hd,Bx]
theorem all_true{l:List α}:(l.map λ_=>true).all id=true:=by
 induction l with
 |nil=>rfl
 |cons a l ih=>rw[z1h,aeJ,ih];rfl
theorem atI_nat{xs:List α}{j:Nat}(h:j<xs.length):atI xs (j:Int)=some xs[j]:=by
 unfold atI ixN;rw[if_pos (by omega),if_pos (by omega),aeK,Option.bind_some,ad0 h]
theorem GJ{xs:List α}(h0:0<=i)(h1:i<xs.length):∃x∈xs,atI xs i=some x:=by
 obtain⟨j,rfl⟩:=adP h0;have hj:j<xs.length:=by omega
 exact⟨xs[j],List.getElem_mem hj,atI_nat hj⟩
theorem cj{n:Nat}{caps:List Nat}{fi:ao->R (List D)}{ft:ao->R Bool}{fe:ao->R D}{c h:α->D}{l:List α}(e1:fi ρ= .ok (l.map c))(hl:l.length<=1000000)
  (e2:∀a∈l,tQ gt ft fe (Dh n caps ρ) (c a)= .ok (some (h a))):cu n caps fi gt ft fe ρ= .ok (.lst (l.map h)):=by
 rw[cu,e1,R.bw,Pn e2,R.bw,cap,if_pos (by rw[z1g];exact hl)]
def look:List (Int×Int)->Int->Int
 |[],_=>0
 |(k,v)::r,c=>if k=c then v else look r c
abbrev keys(ps:List (Int×Int)):List Int:=ps.map (·.1)
section
variable{ρ ρ':ao}{f g:ao->R D}{fa:ao->R (List D)}{p q:ao->R Bool}{x y d:D}{xs ds:List D}{r:R D}{k:D->D->R D}{c:List D->R D}{n:Nat}{F:List D->R D}{o:So}{s t:ao->So}{gt:D->ao->R ao}{b:Bool}
theorem aY(e:fa ρ= .ok ds)(h:c ds=r):aF c fa ρ=r:=by rw[aF,e];exact h
theorem aQ(e:fa ρ= .ok ds)(h:F ds= .ok d)(hl:ds.length=n:=by rfl):aF (aN F n) fa ρ= .ok d:=by rw[aF,e,R.bw,aN,if_pos hl,h];rfl
theorem aB(e1:f ρ= .ok x)(e2:fa ρ= .ok xs):ak f fa ρ= .ok (x::xs):=by rw[ak,e1,R.bw,e2];rfl
theorem aq(e:f ρ= .ok x):ak f (λ_=> .ok []) ρ= .ok [x]:=aB e rfl
theorem aA(e1:f ρ= .ok x)(e2:g ρ= .ok y)(h:k x y=r):bin f g k ρ=r:=by rw[bin,e1,R.bw,e2];exact h
theorem xK(e1:f ρ= .ok (.bl true))(e2:g ρ=r):pq f g ρ=r:=by rw[pq,e1];exact e2
theorem Dl{h:ao->R D}{l:D->D->R D}{z:D}(e1:f ρ= .ok x)(e2:g ρ= .ok y)(e3:k x y= .ok (.bl true))(e4:h ρ= .ok z)(e5:l y z=r):Ak f g h k l ρ=r:=by
 rw[Ak,e1,R.bw,e2,R.bw,e3,R.bw];show (h ρ).bind _=_;rw[e4];exact e5
theorem cH(e:fa ρ= .ok ds)(h:ds.length<=1000000:=by exact ad9 rfl):dj fa ρ= .ok (.tup ds):=by rw[dj,e,R.bw,cap,if_pos h]
theorem oV(e:fa ρ= .ok ds)(h:ds.length<=1000000:=by exact ad9 rfl):u5 fa ρ= .ok (.lst ds):=by rw[u5,e,R.bw,cap,if_pos h]
theorem lg(e:f ρ= .ok (.tup ds)):gQ f ρ= .ok ds:=by rw[gQ,e];rfl
theorem qD(e:f ρ= .ok (.lst ds)):gQ f ρ= .ok ds:=by rw[gQ,e];rfl
theorem oW{m:Nat}(e:fa ρ= .ok [.int (m:Int)])(h:m<2^62):(λρ=>(fa ρ).bind jQ) ρ= .ok ((acD m).map λ(i:Nat)=>D.int (i:Int)):=by
 show (fa ρ).bind jQ=_;rw[e,R.bw,jQ,if_pos ⟨by have:(0:Int)<=m:=ae3 m;omega,by omega⟩];simp[upto]
theorem cJ{ρ1:ao}(e1:gt x ρ= .ok ρ1)(e2:f ρ1= .ok d):tQ gt (λ_=> .ok true) f ρ x= .ok (some d):=by
 rw[tQ,e1,R.bw,R.bw,if_pos rfl,e2];rfl
theorem aV(e:f ρ= .ok (.bl b)):bM f ρ= .ok b:=by rw[bM,e];rfl
theorem gD(e:p ρ= .ok b):jt p ρ= .ok (!b):=by rw[jt,e];rfl
theorem qT(e1:p ρ= .ok false)(e2:q ρ= .ok b):xu p q ρ= .ok b:=by rw[xu,e1,R.bw,if_neg (by decide)];exact e2
theorem m7(e1:p ρ= .ok true)(e2:q ρ= .ok b):jP p q ρ= .ok b:=by rw[jP,e1,R.bw,if_pos rfl];exact e2
theorem zW(e1:p ρ= .ok false):jP p q ρ= .ok false:=by rw[jP,e1,R.bw,if_neg (by decide)]
theorem iY{i:Nat}(h:xs[i]?=some d):bU (.tup xs) (.int (i:Int))= .ok d:=by
 obtain⟨hi,e⟩:=z1b h;rw[bU,atI_nat hi,e]
theorem TY{i:Nat}(h:xs[i]?=some d):bU (.lst xs) (.int (i:Int))= .ok d:=by
 obtain⟨hi,e⟩:=z1b h;rw[bU,atI_nat hi,e]
theorem aH(e1:s ρ= .nx ρ')(e2:t ρ'=o):aM s t ρ=o:=by rw[aM,e1];exact e2
theorem bx(e:f (cO ρ)= .ok d):retS f ρ= .rt d:=by rw[retS,e];rfl
theorem aR(e:f ρ= .ok d)(e2:gt d ρ= .ok ρ'):bh f gt ρ= .nx ρ':=by rw[bh,e];show (match gt d ρ with | .ok ρ'=>So.nx ρ' |_=> .bad)=_;rw[e2]
theorem fG(e:f (cO ρ)= .ok d):gJ f ρ= .nx ρ:=by rw[gJ,e];rfl
theorem dY(e:p (cO ρ)= .ok true)(e2:s ρ=o):cW p s t ρ=o:=by rw[cW,e];exact e2
theorem bV(e:p (cO ρ)= .ok false)(e2:t ρ=o):cW p s t ρ=o:=by rw[cW,e];exact e2
theorem bZ{m:Nat}(e:s (ds.map (λd=>some (.val d))++acH m none)= .rt d):bK m s ds= .ok d:=by rw[bK,e]
theorem Dm{m:Nat}(e:s (ds.map (λd=>some (.val d))++acH m none)= .nx ρ):bK m s ds= .ok .non:=by rw[bK,e]
theorem lM(h:(-(2^64)<i/\i<2^64)\/(-(2^64)<j/\j<2^64)):gA (.int i) (.int j)= .ok (.int (i*j)):=by
 show (if _ then _ else _)=_;rw[if_pos h]
theorem lN(h:0<j/\j<2^64):gP (.int i) (.int j)= .ok (.int (i / j)):=by
 show (if _ then _ else _)=_;rw[if_pos h]
theorem lO(h:0<j):fK (.int i) (.int j)= .ok (.int (i % j)):=by
 show (if _ then _ else _)=_;rw[if_pos h]
theorem qF{l:List α}:pB [.lst (l.map λ_=> .bl true)]= .ok (.bl true):=by
 have:=Dk (c:=λ_:α=>true) (l:=l);rw[pB,this];show R.ok (D.bl _)=_;rw[all_true]
end
def GK:ao->So:=(aM (bh (bin (λ_=> .ok (.int 7)) (λρ=>bF ρ 1) gA) (aJ 3)) (aM (cW (bM (bin (λρ=>bF ρ 0) (u5 (λ_=> .ok [])) lH)) (aM (bh (bin (λρ=>bF ρ 0) (bin (λρ=>bF ρ 1) (aF cg (ak (λρ=>bF ρ 0) (λ_=> .ok []))) fK) bU) (aJ 3)) (aM (bh (bin (λρ=>bF ρ 1) (aF cg (ak (λρ=>bF ρ 0) (λ_=> .ok []))) gP) (aJ 4)) (aM (cW (jP (bM (bin (λρ=>bF ρ 3) (bin (λ_=> .ok (.int 10)) (λ_=> .ok (.int 18)) tO) Tj)) (bM (bin (λρ=>bF ρ 4) (λ_=> .ok (.int 60)) ltI))) (aM (bh (bin (λρ=>bF ρ 3) (bin (λ_=> .ok (.int 10)) (λ_=> .ok (.int 18)) tO) gP) (aJ 5)) (aM (ig (jP (bM (bin (λρ=>bF ρ 5) (λ_=> .ok (.int 0)) pZ)) (bM (bin (λρ=>bF ρ 4) (λ_=> .ok (.int 0)) pZ))) (aM (bh (bin (λρ=>bF ρ 5) (λ_=> .ok (.int 1000000)) gP) (aJ 5)) (bh (bin (λρ=>bF ρ 4) (λ_=> .ok (.int 1)) cP) (aJ 4))) 64) (cW (bM (bin (λρ=>bF ρ 5) (λ_=> .ok (.int 0)) pZ)) (retS (bin (bin (λρ=>bF ρ 5) (λ_=> .ok (.int 1000000)) fK) (λρ=>bF ρ 2) fK)) So.nx))) So.nx) (bh (bin (λρ=>bF ρ 3) (bin (λ_=> .ok (.int 6553)) (bin (λρ=>bF ρ 1) (aF cg (ak (λρ=>bF ρ 0) (λ_=> .ok []))) gP) gA) fW) (aJ 3))))) So.nx) (aM (bh (bin (bin (bin (bin (λρ=>bF ρ 3) (λ_=> .ok (.int 2147483563)) fK) (λ_=> .ok (.int 69069)) gA) (bin (λ_=> .ok (.int 104723)) (bin (λρ=>bF ρ 1) (λ_=> .ok (.int 1)) fW) gA) fW) (λ_=> .ok (.int 2147483563)) fK) (aJ 3)) (aM (bh (bin (bin (bin (λρ=>bF ρ 3) (λρ=>bF ρ 3) gA) (bin (λρ=>bF ρ 3) (λ_=> .ok (.int 3)) gP) fW) (λ_=> .ok (.int 2147483399)) fK) (aJ 3)) (retS (bin (bin (bin (bin (bin (λρ=>bF ρ 3) (λρ=>bF ρ 3) gA) (bin (λρ=>bF ρ 3) (λ_=> .ok (.int 7)) gP) fW) (λ_=> .ok (.int 2147483647)) fK) (λ_=> .ok (.int 11)) gP) (λρ=>bF ρ 2) fK))))))
def tailD:ao->So:=(aM (bh (bin (bin (bin (bin (λρ=>bF ρ 3) (λ_=> .ok (.int 2147483563)) fK) (λ_=> .ok (.int 69069)) gA) (bin (λ_=> .ok (.int 104723)) (bin (λρ=>bF ρ 1) (λ_=> .ok (.int 1)) fW) gA) fW) (λ_=> .ok (.int 2147483563)) fK) (aJ 3)) (aM (bh (bin (bin (bin (λρ=>bF ρ 3) (λρ=>bF ρ 3) gA) (bin (λρ=>bF ρ 3) (λ_=> .ok (.int 3)) gP) fW) (λ_=> .ok (.int 2147483399)) fK) (aJ 3)) (retS (bin (bin (bin (bin (bin (λρ=>bF ρ 3) (λρ=>bF ρ 3) gA) (bin (λρ=>bF ρ 3) (λ_=> .ok (.int 7)) gP) fW) (λ_=> .ok (.int 2147483647)) fK) (λ_=> .ok (.int 11)) gP) (λρ=>bF ρ 2) fK))))
def aam:ao->So:=(cW (jP (bM (bin (λρ=>bF ρ 3) (bin (λ_=> .ok (.int 10)) (λ_=> .ok (.int 18)) tO) Tj)) (bM (bin (λρ=>bF ρ 4) (λ_=> .ok (.int 60)) ltI))) (aM (bh (bin (λρ=>bF ρ 3) (bin (λ_=> .ok (.int 10)) (λ_=> .ok (.int 18)) tO) gP) (aJ 5)) (aM (ig (jP (bM (bin (λρ=>bF ρ 5) (λ_=> .ok (.int 0)) pZ)) (bM (bin (λρ=>bF ρ 4) (λ_=> .ok (.int 0)) pZ))) (aM (bh (bin (λρ=>bF ρ 5) (λ_=> .ok (.int 1000000)) gP) (aJ 5)) (bh (bin (λρ=>bF ρ 4) (λ_=> .ok (.int 1)) cP) (aJ 4))) 64) (cW (bM (bin (λρ=>bF ρ 5) (λ_=> .ok (.int 0)) pZ)) (retS (bin (bin (λρ=>bF ρ 5) (λ_=> .ok (.int 1000000)) fK) (λρ=>bF ρ 2) fK)) So.nx))) So.nx)
def XM:ao->R Bool:=(jP (bM (bin (λρ=>bF ρ 5) (λ_=> .ok (.int 0)) pZ)) (bM (bin (λρ=>bF ρ 4) (λ_=> .ok (.int 0)) pZ)))
def wbD:ao->So:=(aM (bh (bin (λρ=>bF ρ 5) (λ_=> .ok (.int 1000000)) gP) (aJ 5)) (bh (bin (λρ=>bF ρ 4) (λ_=> .ok (.int 1)) cP) (aJ 4)))
section
variable{S s0 s1 s2 s3 x y:Option Ent}{k m c:Int}
theorem tail_eq(hm:0<m):∃v,tailD [S,some (.val (.int k)),some (.val (.int m)),some (.val (.int c)),x,y]= .rt (.int v)/\0<=v/\v<m:=by
 refine⟨_,aH (aR (aA (aA (aA (aA rfl rfl (lO (by omega))) rfl (lM (.inr ⟨by omega,by omega⟩))) (aA rfl (aA rfl rfl rfl) (lM (.inl ⟨by omega,by omega⟩))) rfl) rfl (lO (by omega))) rfl)
  (aH (aR (aA (aA (aA rfl rfl (lM (.inl ?b1))) (aA rfl rfl (lN ⟨by omega,by omega⟩)) rfl) rfl (lO (by omega))) rfl)
  (bx (aA (aA (aA (aA (aA rfl rfl (lM (.inl ?b2))) (aA rfl rfl (lN ⟨by omega,by omega⟩)) rfl) rfl (lO (by omega))) rfl (lN ⟨by omega,by omega⟩)) rfl (lO hm)))),afy _ (by omega),ae5 _ hm⟩
 case b1=>
  have h1:=afy (c % 2147483563*69069+104723*(k+1)) (b:=2147483563) (by omega);have h2:=ae5 (c % 2147483563*69069+104723*(k+1)) (b:=2147483563) (by omega);constructor <;> omega
 case b2=>
  generalize (c % 2147483563*69069+104723*(k+1)) % 2147483563=z
  have h1:=afy (z*z+z / 3) (b:=2147483399) (by omega);have h2:=ae5 (z*z+z / 3) (b:=2147483399) (by omega);constructor <;> omega
theorem nU:pZ (.int i) (.int j)= .ok (.bl (decide (j<i))):=rfl
theorem Kz:∀{n:Nat} {t r:Int},0<=t->t<n->∃t' r',ig XM wbD n [s0,s1,s2,s3,some (.val (.int t)),some (.val (.int r))]= .nx [s0,s1,s2,s3,some (.val (.int t')),some (.val (.int r'))]
 |0,t,r,h0,h1=>by omega
 | n+1,t,r,h0,h1=>by
  rw[ig];by_cases hr:0<r
  ·by_cases ht:0<t
   ·obtain⟨t',r',e⟩:=Kz (n:=n) (t:=t - 1) (r:=r / 1000000) (by omega) (by omega);refine⟨t',r',?_⟩;have e1:XM (cO [s0,s1,s2,s3,some (.val (.int t)),some (.val (.int r))])= .ok true:=m7 (aV (aA rfl rfl (by rw[nU,decide_eq_true hr]))) (aV (aA rfl rfl (by rw[nU,decide_eq_true ht])));have e2:wbD [s0,s1,s2,s3,some (.val (.int t)),some (.val (.int r))]= .nx [s0,s1,s2,s3,some (.val (.int (t - 1))),some (.val (.int (r / 1000000)))]:=aH (aR (aA rfl rfl (lN ⟨by omega,by omega⟩)) rfl) (aR (aA rfl rfl rfl) rfl);simp only[e1,e2];exact e
   ·refine⟨t,r,?_⟩;have e1:XM (cO [s0,s1,s2,s3,some (.val (.int t)),some (.val (.int r))])= .ok false:=m7 (aV (aA rfl rfl (by rw[nU,decide_eq_true hr]))) (aV (aA rfl rfl (by rw[nU,decide_eq_false ht])));simp only[e1]
  ·refine⟨t,r,?_⟩;have e1:XM (cO [s0,s1,s2,s3,some (.val (.int t)),some (.val (.int r))])= .ok false:=zW (aV (aA rfl rfl (by rw[nU,decide_eq_false hr])));simp only[e1]
theorem Dr:tO (.int 10) (.int 18)= .ok (.int 1000000000000000000):=by
 unfold tO iD;simp only[];rw[if_pos ⟨by decide,by decide,by decide⟩];rfl
theorem aan{t:Int}(hm:0<m)(ht:0<=t):(∃t' x',aam [S,some (.val (.int k)),some (.val (.int m)),some (.val (.int c)),some (.val (.int t)),x]= .nx [S,some (.val (.int k)),some (.val (.int m)),some (.val (.int c)),some (.val (.int t')),x'])\/
  ∃v,aam [S,some (.val (.int k)),some (.val (.int m)),some (.val (.int c)),some (.val (.int t)),x]= .rt (.int v)/\0<=v/\v<m:=by
 by_cases h1:1000000000000000000<=c
 ·by_cases h2:t<60
  ·have e:(jP (bM (bin (λρ=>bF ρ 3) (bin (λ_=> .ok (.int 10)) (λ_=> .ok (.int 18)) tO) Tj)) (bM (bin (λρ=>bF ρ 4) (λ_=> .ok (.int 60)) ltI))) (cO [S,some (.val (.int k)),some (.val (.int m)),some (.val (.int c)),some (.val (.int t)),x])= .ok true:=
    m7 (aV (aA rfl (aA rfl rfl Dr) (by show R.ok (D.bl (decide _))=_;rw[decide_eq_true h1]))) (aV (aA rfl rfl (by show R.ok (D.bl (decide _))=_;rw[decide_eq_true h2])))
   obtain⟨t',r',ew⟩:=Kz (s0:=S) (s1:=some (.val (.int k))) (s2:=some (.val (.int m))) (s3:=some (.val (.int c))) (n:=64) (t:=t) (r:=c / 1000000000000000000) ht (by omega);by_cases h3:0<r'
   ·exact .inr ⟨_,dY e (aH (aR (aA rfl (aA rfl rfl Dr) (lN ⟨by omega,by omega⟩)) rfl) (aH ew (dY (aV (aA rfl rfl (by rw[nU,decide_eq_true h3]))) (bx (aA (aA rfl rfl (lO (by omega))) rfl (lO hm)))))),afy _ (by omega),ae5 _ hm⟩
   ·exact .inl ⟨t',some (.val (.int r')),dY e (aH (aR (aA rfl (aA rfl rfl Dr) (lN ⟨by omega,by omega⟩)) rfl) (aH ew (bV (aV (aA rfl rfl (by rw[nU,decide_eq_false h3]))) rfl)))⟩
  ·exact .inl ⟨t,x,bV (m7 (aV (aA rfl (aA rfl rfl Dr) (by show R.ok (D.bl (decide _))=_;rw[decide_eq_true h1]))) (aV (aA rfl rfl (by show R.ok (D.bl (decide _))=_;rw[decide_eq_false h2])))) rfl⟩
 ·exact .inl ⟨t,x,bV (zW (aV (aA rfl (aA rfl rfl Dr) (by show R.ok (D.bl (decide _))=_;rw[decide_eq_false h1])))) rfl⟩
end
theorem jm{s t:ao->So}(e1:s ρ= .rt d):aM s t ρ= .rt d:=by rw[aM,e1]
theorem xM(h:atI xs i=some d):bU (.lst xs) (.int i)= .ok d:=by rw[bU,h]
theorem Wg{ns:List Int}{k m:Int}(hl:ns.length<=1000000)(hk:0<=k)(hm:0<m):∃v,bK 3 GK [.lst (ns.map .int),.int k,.int m]= .ok (.int v)/\0<=v/\v<m:=by
 have hd:dep (.lst (ns.map .int))<=40:=by
  rw[dep];have:=zV (c:=D.int) (n:=0) (l:=ns) (λa _=>by simp[dep]);omega
 cases ns with
 | nil=>
  obtain⟨v,e,h⟩:=tail_eq (S:=some (.val (.lst []))) (k:=k) (c:=7*k) (x:=none) (y:=none) hm;exact⟨v,bZ (aH (aR (aA rfl rfl (lM (.inl ⟨by omega,by omega⟩))) rfl) (aH (bV (aV (aA rfl (oV rfl) (iB rfl hd))) rfl) e)),h⟩
 | cons a ns=>
  have hn:lH (.lst ((a::ns).map .int)) (.lst [])= .ok (.bl true):=by
   rw[lH,if_pos hd];rfl
  have hlen:(0:Int)<(((a::ns).map D.int).length:Int):=by rw[z1g,acX];omega
  have hlen2:(((a::ns).map D.int).length:Int)<2^64:=by rw[z1g];omega
  obtain⟨d,hd1,hd2⟩:=GJ (xs:=(a::ns).map D.int) (i:=k % (((a::ns).map D.int).length:Int)) (afy _ (by omega)) (ae5 _ hlen);obtain⟨c,-,rfl⟩:=adk.mp hd1;have ht:0<=k / (((a::ns).map D.int).length:Int):=Int.ediv_nonneg hk (by omega)
  generalize hL:(((a::ns).map D.int).length:Int)=L at *
  have Ds:∀(S x1 x2 x3 x4 x5:Option Ent),S=some (Ent.val (.lst ((a::ns).map D.int)))->aF cg (ak (λρ=>bF ρ 0) (λ_=> .ok [])) [S,x1,x2,x3,x4,x5]= .ok (.int L):=by
   intro S x1 x2 x3 x4 x5 e;subst e;rw[<-hL];exact aY (aq rfl) rfl
  rcases aan (S:=some (.val (.lst ((a::ns).map .int)))) (k:=k) (m:=m) (c:=c) (x:=none) hm ht with⟨t',x',e⟩ |⟨v,e,h⟩
  ·obtain⟨v,e2,h⟩:=tail_eq (S:=some (.val (.lst ((a::ns).map .int)))) (k:=k) (c:=c+6553*(k / L)) (x:=some (.val (.int t'))) (y:=x') hm;exact⟨v,bZ (aH (aR (aA rfl rfl (lM (.inl ⟨by omega,by omega⟩))) rfl) (aH (dY (aV (aA rfl (oV rfl) hn))
    (aH (aR (aA rfl (aA rfl (Ds _ _ _ _ _ _ rfl) (lO hlen)) (xM hd2)) rfl) (aH (aR (aA rfl (Ds _ _ _ _ _ _ rfl) (lN ⟨hlen,hlen2⟩)) rfl) (aH e (aR (aA rfl (aA rfl (aA rfl (Ds _ _ _ _ _ _ rfl) (lN ⟨hlen,hlen2⟩)) (lM (.inl ⟨by omega,by omega⟩))) rfl) rfl))))) e2)),h⟩
  ·exact⟨v,bZ (aH (aR (aA rfl rfl (lM (.inl ⟨by omega,by omega⟩))) rfl) (jm (dY (aV (aA rfl (oV rfl) hn))
    (aH (aR (aA rfl (aA rfl (Ds _ _ _ _ _ _ rfl) (lO hlen)) (xM hd2)) rfl) (aH (aR (aA rfl (Ds _ _ _ _ _ _ rfl) (lN ⟨hlen,hlen2⟩)) rfl) (jm e)))))),h⟩
theorem dN{ρ1 ρ2:ao}{b:ao->So}{x:D}{o:So}(e1:gt x ρ= .ok ρ1)(e2:b ρ1= .nx ρ2)(e3:forL gt b xs ρ2=o):forL gt b (x::xs) ρ=o:=by
 rw[forL];simp only[e1,e2];exact e3
theorem jV{fi:ao->R (List D)}{b:ao->So}{o:So}(e1:fi ρ= .ok xs)(e2:forL gt b xs ρ=o):lG fi gt b ρ=o:=by
 rw[lG,e1];exact e2
theorem YB{i k:Nat}{f:ao->R D}{fa:ao->R (List D)}{ds:List D}(e1:f ρ= .ok d)(e2:fa ρ= .ok ds)(h:ds.length<=1000000:=by exact ad9 rfl):Kv i k f fa ρ= .nx ((ρ.set i (some (.val d))).set k (some (.lst ds))):=by
 unfold Kv;rw[e1];simp only[gZ,e2];rw[if_pos h]
theorem GQ{i k:Nat}{f g:ao->R D}{e:D}(e1:f ρ= .ok d)(e2:g ρ= .ok e):GF i k f g ρ= .nx ((ρ.set i (some (.val d))).set k (some (.val e))):=by
 unfold GF;rw[e1];simp only[gZ,e2]
def dr(ns:List Int)(k m:Int):Int:=match bK 3 GK [.lst (ns.map .int),.int k,.int m] with
 | .ok (.int v)=>v
 |_=>0
theorem qb{ns:List Int}{k m:Int}(hl:ns.length<=1000000)(hk:0<=k)(hm:0<m):bK 3 GK [.lst (ns.map .int),.int k,.int m]= .ok (.int (dr ns k m))/\0<=dr ns k m/\dr ns k m<m:=by
 obtain⟨v,e,h⟩:=Wg hl hk hm;have:dr ns k m=v:=by rw[dr,e]
 rw[this];exact⟨e,h⟩
end Pu
namespace Pu
open PySem PySem.Spec L2
open PyProof.Rows hiding St
variable{l it f l1 l2 C i1 i2:acA}{O:acA->Prop}{params:aeO}{xs:Array acB}{t t1 t2:Bool}{tg:acI}{fd:adh}{h h' b0:acP}{H:Hp}{ts:List (acA×Str)}{clos:List (Str×acA)}{ds:List D}{outer:List PySem.Env}{body:List acS}{N ps:List Str}{zs ys vs:List V}{k n i:Nat}{pos:Pos}{P:acL}{env:PySem.Env}{K:PySem.W.Frag}{ρ:ao}{scope:aec}{σ:St}{st:acS}{qual name y:Str}{mg:Str->Option acB}{α:Type}{Q:acB->acC->Prop}{w:acQ}
section
variable{X:Cx}
def xO:List D->R D
 |[.int i]=> .ok (.int (if i<0 then -i else i))
 |_=> .bad
theorem Dt:CallD X (.builtin "abs") xO:=by
 refine⟨_,call_abs,λρ O σ H Q xs ds j r h=>?_⟩;unfold xO at h;split at h
 ·rename_i i;obtain⟨x,rfl,rx⟩:=r.one;exact⟨i,by rw[rx.int],fin h (bN _)⟩
 ·exact h.elim
def maxD:List D->R D
 |[.int i,.int j]=> .ok (.int (if j > i then j else i))
 |_=> .bad
theorem Du(hc:X.calm=true):CallD X (.builtin "max") maxD:=by
 refine⟨_,call_max2 hc,λρ O σ H Q xs ds j r h=>?_⟩;unfold maxD at h;split at h
 ·rename_i i k;obtain⟨x,y,rfl,rx,ry⟩:=r.two;exact⟨i,k,by rw[rx.int,ry.int],fin h (bN _)⟩
 ·exact h.elim
def minD:List D->R D
 |[.int i,.int j]=> .ok (.int (if j<i then j else i))
 |_=> .bad
theorem xP(hc:X.calm=true):CallD X (.builtin "min") minD:=by
 refine⟨_,call_min2 hc,λρ O σ H Q xs ds j r h=>?_⟩;unfold minD at h;split at h
 ·rename_i i k;obtain⟨x,y,rfl,rx,ry⟩:=r.two;exact⟨i,k,by rw[rx.int,ry.int],fin h (bN _)⟩
 ·exact h.elim
def Rf:D->Bool
 | .non=>true
 |_=>false
theorem YC{d:D}{v:V}(r:Rep K O H d v):decide (v= .non)=Rf d:=by
 cases d with
 |non=>rw[r.non];rfl
 |bl b=>rw[r.bl];rfl
 |int i=>rw[r.int];rfl
 |str x=>rw[r.str];rfl
 |tup ds=>obtain⟨a,xs,rfl,_⟩:=r.tup;rfl
 |lst ds=>obtain⟨a,xs,rfl,_⟩:=r.lst;rfl
def isD:D->D->R D
 |d,.non=> .ok (.bl (Rf d))
 |_,_=> .bad
theorem J3:gO X (ac1 .Is) isD:=by
 refine⟨_,op_isN,λρ O σ H Q x y dx dy j0 rx ry h=>?_⟩;cases dy with
 |non=>exact⟨ry.non,by rw[YC rx];exact fin (a:=D.bl (Rf dx)) h (fM _)⟩
 |_=>cases dx <;> exact h.elim
theorem YD:OpR X (adu .Add) (λx y H Q=>∃a b ys,x= .ref a/\y= .ref b/\SqT X.K H a []/\SqT X.K H b ys/\Q (.ref b) H):=by
 intro pins s σ H x y v u Q I rx ry h;obtain⟨a,b,ys,rfl,rfl,ha,hb,q⟩:=h;cases rx;cases ry;obtain⟨its,r1,p1,_⟩:=I.tuple ha;obtain⟨its2,r2,p2,_⟩:=I.tuple hb;cases r1;obtain⟨⟨cls,dd,data,sl⟩,ho,hc,n,hd⟩:=id p1;obtain⟨⟨cls2,dd2,data2,sl2⟩,ho2,hc2,n2,hd2⟩:=id p2;simp only at hc hd hc2 hd2;subst hc hd hc2 hd2;exact aha ⟨_,ho,rfl⟩ ⟨_,ho2,rfl⟩ ahb seq_tuple_add PySem.F.slot_tuple_add PySem.F.entry_tuple_add (PySem.F.args_tuple_add_2 _ _)
   (tuple_addW0 a b _ _ n n2 dd dd2 sl sl2 rfl) ⟨ho,ho2,⟨.ref b,H,I,rfl,q⟩⟩
def ab3:D->R D
 | .int i=> .ok (.int (-i))
 |_=> .bad
def aao(f:ao->R D):ao->R D:=λρ=>(f ρ).bind ab3
theorem aap{e:acI}{f:ao->R D}(he:DE X e f):DE X (.UnaryOp .USub e pos) (aao f):=by
 refine PE.imp (pe_un un_neg he) λσ H Q h=>?_;obtain⟨ρ,O,j,h⟩:=h;refine go j h λd v H1 e1 s1 r1 j1 h1=>?_;cases d with
 |int i=>exact⟨i,r1.int,fin h1 (bN _)⟩
 |_=>exact h1.elim
theorem YF:OpR X (adu .Add) (λx y H Q=>∃a b xs ys,x= .ref a/\y= .ref b/\SqL X.K H a xs/\SqL X.K H b ys/\xs.length+ys.length<=sizeLine/\∀p,H p=none->Q (.ref p) (upd H p (.lst (xs++ys)))):=by
 intro pins s σ H x y v u Q I rx ry h;obtain⟨a,b,xs,ys,rfl,rfl,ha,hb,hz,q⟩:=h;cases rx;cases ry;obtain⟨its,r1,p1,_⟩:=I.list ha;obtain⟨its2,r2,p2,_⟩:=I.list hb;obtain⟨⟨cls,dd,data,sl⟩,n,ho,hc,hdd,hd⟩:=id p1;obtain⟨⟨cls2,dd2,data2,sl2⟩,n2,ho2,hc2,acw,hd2⟩:=id p2;simp only at hc hd hc2 hd2;subst hc hd hc2 hd2;refine aha ⟨_,ho,rfl⟩ ⟨_,ho2,rfl⟩ noFill_list_add seq_list_add PySem.F.slot_list_add PySem.F.entry_list_add (PySem.F.args_list_add_2 _ _)
   (list_addW a b _ _ n n2 dd dd2 sl sl2 (by rw[z1c,z1c,<-r1.length,<-r2.length];exact hz)) ⟨ho,ho2,?_⟩
 have ea:its.toArray++its2.toArray=(its++its2).toArray:=by simp
 rw[ea];exact⟨.ref _,_,I.lnew (t':=s.toks) (r1.append r2) (by rw[z1d];omega),rfl,q _ I.fresh⟩
def gR:D->D->R D
 | .int i,.int j=> .ok (.int (i+j))
 | .tup xs,.tup ys=>if xs.length+ys.length<=1000000 then .ok (.tup (xs++ys)) else .bad
 | .lst xs,.lst ys=>if xs.length+ys.length<=1000000 then .ok (.lst (xs++ys)) else .bad
 |_,_=> .bad
theorem d7:gO X (adu .Add) gR:=by
 refine⟨_,OpR.or op_add (OpR.or op_catT (OpR.or YD YF)),λρ O σ H Q x y dx dy j0 rx ry h=>?_⟩;cases dx <;> cases dy <;> first
  |exact h.elim
  |skip
 ·rename_i i j;exact .inl ⟨i,j,rx.int,ry.int,fin h (bN _)⟩
 ·rename_i xs ys;have h:good X (rD X) O (if xs.length+ys.length<=1000000 then .ok (.tup (xs++ys)) else .bad) σ H Q:=h;by_cases hc:xs.length+ys.length<=1000000
  ·rw[if_pos hc] at h;obtain⟨a,us,rfl,ha,r1⟩:=rx.tup;obtain⟨b,ws,rfl,hb,r2⟩:=ry.tup;by_cases hx:us=[]
   ·subst hx;have:xs=[]:=ac4 r1.length;subst this;exact .inr (.inr (.inl ⟨a,b,ws,rfl,rfl,ha,hb,fin h (gw hb r2)⟩))
   ·refine .inr (.inl ⟨a,b,us,ws,rfl,rfl,ha,hb,hx,?_,λz=>?_,λz l hl=>?_⟩)
    ·rw[<-r1.length,<-r2.length];exact z0b hc dB
    ·subst z;have:ys=[]:=ac4 r2.length;subst this;rw[adp] at h;exact fin h (gw ha r1)
    ·exact h _ _ (Same.upd hl) (Rep.mO hl (r1.append r2))
  ·rw[if_neg hc] at h;exact h.elim
 ·rename_i xs ys;have h:good X (rD X) O (if xs.length+ys.length<=1000000 then .ok (.lst (xs++ys)) else .bad) σ H Q:=h;by_cases hc:xs.length+ys.length<=1000000
  ·rw[if_pos hc] at h;obtain⟨a,us,rfl,ha,_,r1⟩:=rx.lst;obtain⟨b,ws,rfl,hb,_,r2⟩:=ry.lst;refine .inr (.inr (.inr ⟨a,b,us,ws,rfl,rfl,ha,hb,?_,λl hl=>?_⟩))
   ·rw[<-r1.length,<-r2.length];exact z0b hc dB
   ·exact h _ _ (Same.upd hl) (Rep.mQ hl (j0.uY hl) (r1.append r2))
  ·rw[if_neg hc] at h;exact h.elim
end
section
variable{prog:acL}{w:acQ}{A:acO}{E:acB->acC->Prop}{s:acC}
open HT in
theorem xq{t sl:acA}{items:Array acB}{vl vu:acB}{lo hi:Option Int}(ht:IsTup s.heap t items)(hs:s.heap.IsSliceOf sl vl vu .none)(pl:afT vl lo)(pu:afT vu hi)
  (hw:sIx items.size 0 lo=0/\sIx items.size items.size hi=items.size)(h:Q (.ref t) s):acG (model prog w) A (getItem (.ref t) (.ref sl)) Q E s:=by
 obtain⟨os,hos,hcs,hds⟩:=id hs;have hTs:s.TypeIs (.ref sl) "slice" :=⟨os,hos,hcs⟩;unfold getItem
 try with_reducible refine aev ?_
 first |refine acz (acF ?_) |skip
 refine acz (wpAny_sequenceKey ht.typeIs (by decide) ?_);refine acz (ada (name:=adb "__getitem__") ht.typeIs adO
  (adi adO ht.typeIs entry_tuple_getitem ?_ (args_tuple_getitem _ _)))
 show acG _ _ (agH (.ref t) >>=_) _ _ s;refine acz (tupleItemsOf_ ht ?_);refine acz (ahe hTs ?_);rw[if_pos (by decide)];refine acz (sliceApplied_gen hs pl pu ?_);show acG _ _ (if (((sIx items.size 0 lo:Nat):Int) ==0 && (1:Int) ==1 && (sIx items.size items.size hi - sIx items.size 0 lo) ==items.size)=true then _ else _) _ _ s;rw[if_pos (by rw[hw.1,hw.2];simp)];refine acz (m:=Builtin.Tuple.tupleIsExact _) (acz (ahe ht.typeIs (acF ?_)));rw[if_pos (beq_self_eq_true _)]
 first
  |exact acz (acF (acF ⟨_,rfl,acF h⟩))
  |exact acz (aej (acF ⟨_,rfl,acF h⟩))
end
section
variable{X:Cx}{e e1:acI}{lo hi:Option acI}{f f1:ao->R D}{fl fu:ao->R (Option Int)}{pos p2:Pos}
def ab4(K:PySem.W.Frag):V->Option Int->Option Int->Hp->VK->Prop:=λx lo hi H Q=>∃a xs,x= .ref a/\SqT K H a xs/\
 (HT.sIx xs.length 0 lo=0/\HT.sIx xs.length xs.length hi=xs.length)/\Q (.ref a) H
theorem YG:SlR X (ab4 X.K):=by
 intro pins s σ H x v vl vu lo hi sl Q I rx hs pl pu h;obtain⟨a,xs,rfl,hx,hw,q⟩:=h;cases rx;obtain⟨its,r,ht,hz⟩:=I.tuple hx;have hlen:its.toArray.size=xs.length:=by rw[z1c];exact r.length.symm
 exact⟨"tuple",_,adO.lookup,ht.typeIs,xq ht hs pl pu (by rw[hlen];exact hw) ⟨.ref a,H,I,rfl,q⟩⟩
abbrev ab5:(acA->Prop)->Hp->Option Int->Option Int->Prop:=λ_ _ a b=>a=b
def Im(X:Cx)(lo:Option acI)(fo:ao->R (Option Int)):Prop:=PO X lo (tG X ab5 fo)
theorem PO.imp{t t':TO}(h:PO X lo t)(w:∀σ H Q,t' σ H Q->t σ H Q):PO X lo t':=λpins s σ H Q I q=>h pins s σ H Q I (w σ H Q q)
theorem qU:Im X none (λ_=> .ok none):=by
 refine PO.imp po_none λσ H Q h=>?_;obtain⟨ρ,O,j,h⟩:=h;exact fin h rfl
def KC:D->R (Option Int)
 | .int i=> .ok (some i)
 |_=> .bad
theorem qW(h:DE X e1 f1):Im X (some e1) (λρ=>(f1 ρ).bind KC):=by
 refine PO.imp (po_some h) λσ H Q h=>?_;obtain⟨ρ,O,j,h⟩:=h;refine go j h λd v H1 e1 s1 r1 j1 h1=>?_;cases d with
 |int i=>exact⟨i,r1.int,fin h1 rfl⟩
 |_=>exact h1.elim
def jA(ds:List D)(lo hi:Option Int):List D:=(ds.drop (HT.sIx ds.length 0 lo)).take (HT.sIx ds.length ds.length hi - HT.sIx ds.length 0 lo)
def KD(d:D)(lo hi:Option Int):R D:=match d with
 | .tup ds=> .ok (.tup (jA ds lo hi))
 |_=> .bad
def qX(f:ao->R D)(fl fu:ao->R (Option Int)):ao->R D:=λρ=>(f ρ).bind λd=>(fl ρ).bind λl=>(fu ρ).bind λu=>KD d l u
theorem KH(he:DE X e f)(hl:Im X lo fl)(hu:Im X hi fu):DE X (.Subscript e (.Slice lo hi none p2) pos) (qX f fl fu):=by
 refine PE.imp (pe_slice (SlR.or sl_tup YG) he hl hu) λσ H Q h=>?_;obtain⟨ρ,O,j,h⟩:=h;refine go j h λd v H1 e1 s1 r1 j1 h1=>?_;refine go j1 h1 λl l' H2 e2 s2 r2 j2 h2=>?_;refine go j2 h2 λu u' H3 e3 s3 r3 j3 h3=>?_;have r2:l=l':=r2;have r3:u=u':=r3;subst r2 r3;cases d with
 | tup ds=>
  have r1':=(r1.same s2).same s3;obtain⟨a,xs,rfl,hq,rs⟩:=r1'.tup;have hlen:=rs.length;by_cases hw:HT.sIx xs.length 0 l=0/\HT.sIx xs.length xs.length u=xs.length
  ·refine .inr ⟨a,xs,rfl,hq,hw,?_⟩;have e:jA ds l u=ds:=by
    unfold jA;rw[hlen,hw.1,hw.2,ahu,ahg,<-hlen,List.take_length]
   have h3:good X (rD X) O (.ok (.tup (jA ds l u))) σ H3 Q:=h3;rw[e] at h3;exact fin h3 (gw hq rs)
  ·refine .inl ⟨a,xs,rfl,hq,hw,λp hp=>?_⟩;refine h3 _ _ (Same.upd hp) (Rep.mO hp ?_);unfold jA cutV;rw[hlen];exact (rs.drop _).take _
 |_=>exact h3.elim
end
def pickK{α:Type}(z:α)(sel:List (Sum Nat α))(ws:List α):List α:=sel.map λ
 | .inl i=>ws.getD i z
 | .inr c=>c
inductive Sel:List (Sum Nat acB)->List (Sum Nat V)->List (Sum Nat D)->Prop
 |nil:Sel [] [] []
 |at (i:Nat) {a b c}:Sel a b c->Sel (.inl i::a) (.inl i::b) (.inl i::c)
 |non {a b c}:Sel a b c->Sel (.inr .none::a) (.inr .non::b) (.inr .non::c)
 |str (x:Str) (t:Tok) {a b c}:Sel a b c->Sel (.inr (.str x t)::a) (.inr (.str x)::b) (.inr (.str x)::c)
 |int (x:Int) (t:Tok) {a b c}:Sel a b c->Sel (.inr (.int x t)::a) (.inr (.int x)::b) (.inr (.int x)::c)
 |bl (x:Bool) {a b c}:Sel a b c->Sel (.inr (.bool x)::a) (.inr (.bl x)::b) (.inr (.bl x)::c)
theorem T4{ws:List acB}(r:Vals zs ws)(i:Nat):RelV (zs.getD i .non) (ws.getD i .none):=by
 induction r generalizing i with
 |nil=>exact rfl
 | cons h _ ih=>
  cases i with
  |zero=>exact h
  |succ i=>exact ih i
theorem Sel.vals{a b c}(s:Sel a b c){ws:List acB}(r:Vals zs ws):Vals (pickK .non b zs) (pickK .none a ws):=by
 induction s with
 |nil=>exact .nil
 | «at» i _ ih=>exact .cons (T4 r i) ih
 |non _ ih=>exact .cons rfl ih
 |str x t _ ih=>exact .cons ⟨t,rfl⟩ ih
 |int x t _ ih=>exact .cons ⟨t,rfl⟩ ih
 |bl x _ ih=>exact .cons rfl ih
section
variable{K:PySem.W.Frag}{O:acA->Prop}{H:Hp}
theorem Io:∀{ds:List D} {zs:List V},aO K O H ds zs->∀i:Nat,Rep K O H (ds.getD i .non) (zs.getD i .non)
 |[],zs,r,i=>by rw[r.nil_inv];exact mL
 | d::ds,zs,r,i=>by
  obtain⟨x,t,rfl,h1,h2⟩:=r.cons_inv;cases i with
  |zero=>exact h1
  |succ i=>exact Io h2 i
theorem Sel.reps{a b c}(s:Sel a b c)(r:aO K O H ds zs):aO K O H (pickK .non c ds) (pickK .non b zs):=by
 induction s with
 |nil=>exact .nil
 | «at» i _ ih=>exact .cons (Io r i) ih
 |non _ ih=>exact .cons mL ih
 |str x t _ ih=>exact .cons (gq x) ih
 |int x t _ ih=>exact .cons (bN x) ih
 |bl x _ ih=>exact .cons (fM x) ih
end
section
variable{X:Cx}{k n:Nat}{f:acA}{fd:adh}{ps ks:List Str}{F:List D->R D}{x:Str}{p pos kpos:Pos}{e:acI}{es:List acI}{kws:List aei}{fa fk:ao->R (List D)}{fe:ao->R D}{nm:Option Str}
def DK(X:Cx)(kws:List aei)(fk:ao->R (List D)):Prop:=PK X kws (tG X (uG X) fk)
theorem PK.imp{t t':TA}(h:PK X kws t)(w:∀σ H Q,t' σ H Q->t σ H Q):PK X kws t':=λpos pins s σ H Q I q=>h pos pins s σ H Q I (w σ H Q q)
theorem jh:DK X [] (λ_=> .ok []):=by
 refine PK.imp pk_nil λσ H Q h=>?_;obtain⟨ρ,O,j,h⟩:=h;exact fin h .nil
theorem gU(he:DE X e fe)(hr:DK X kws fk):DK X (⟨nm,e,kpos⟩::kws) (ak fe fk):=by
 refine PK.imp (pk_cons he hr) λσ H Q h=>?_;obtain⟨ρ,O,j,h⟩:=h;refine go j h λd v H1 e1 s1 r1 j1 h1=>?_;refine go j1 h1 λds vs H2 e2 s2 r2 j2 h2=>?_;exact fin h2 (.cons (r1.same s2) r2)
theorem sJ{z:α}{sel:List (Sum Nat α)}{ws:List α}:(pickK z sel ws).length=sel.length:=by unfold pickK;rw[z1g]
def KB(K:PySem.W.Frag)(fd:adh)(ps ks:List Str)(sel:List (Sum Nat acB)):Prop:=∀(s:acC) (us ws:List acB),K.In s.heap->us.length+sel.length=ps.length->ws.length=ks.length->afJ s fd ⟨us,ks.zip ws⟩ (ps.zip (us++pickK .none sel ws))
def vh(F:List D->R D)(n m:Nat)(sel:List (Sum Nat D))(fa fk:ao->R (List D)):ao->R D:=λρ=>(fa ρ).bind λds=>(fk ρ).bind λzs=>if zs.length=m then aN F n (ds++pickK .non sel zs) else .bad
theorem Wh{sa sb sc}(S:Sel sa sb sc)(G:FnOk X.prog X.w X.K X.mg X.base CX0 k f fd ps (Al X.K n F))(hr:Room k X.A)(hg:Gl X x)(hm:X.mg x=some (.ref f))(hk:PySem.W.keepIn X.K (.ref f)=true)(hb:KB X.K fd ps ks sa)
  (ha:DA X (e::es) fa)(hkw:DK X kws fk)(hall:(ad5 pos (adx kws X.env)).all (·.1.isSome)=true:=by rfl)(hks:(ad5 pos (adx kws X.env)).filterMap (·.1)=ks:=by rfl)
  (hdb:(x ==("__debug__" :Str))=false:=by decide)(he:acE (e::es) X.env=(false,eval e X.env)::acE es X.env:=by rfl)
  (hpl:((adg pos (acE (e::es) X.env)).any (·.1) || (ad5 pos (adx kws X.env)).any (·.1.isNone))=false:=by rfl):
  DE X (.Call (.Name x p) (e::es) kws pos) (vh F n ks.length sc fa fk):=by
 intro pins s σ H Q I h;refine ad4 (ld_glob I hg hm ?_ hdb);obtain⟨ρ,O,j,h⟩:=h;have key:tG X (uG X) fa σ H λvs H1=>tG X (uG X) fk σ H1 λzs H2=>zs.length=ks.length/\Al X.K n F (vs++pickK .non sb zs) H2 Q E0:=by
  refine go j h λds vs H1 e1 s1 r1 j1 h1=>?_;refine go j1 h1 λzd zs H2 e2 s2 r2 j2 h2=>?_;by_cases hz:zd.length=ks.length
  ·rw[if_pos hz] at h2;unfold aN at h2;by_cases hl:(ds++pickK .non sc zd).length=n
   ·rw[if_pos hl] at h2;refine⟨by rw[<-r2.length];exact hz,O,_,(r1.same s2).append (S.reps r2),hl,j2.al,?_⟩;cases q:F (ds++pickK .non sc zd) with
    |ok d=>rw[q] at h2;exact h2
    |err c=>rw[q] at h2;exact h2
    |bad=>rw[q] at h2;exact h2
   ·rw[if_neg hl] at h2;exact h2.elim
  ·rw[if_neg hz] at h2;exact h2.elim
 refine PySem.W.callWith_KW (h₀:=X.base) I.ok.mod.kin hk hall (thn (ha pos pins s σ H _ I key) λus s1 ⟨vs,H1,I1,r,q⟩=>?_) hpl he;refine thn (hkw pos pins s1 σ H1 _ I1 q) λws s2 ⟨zs,H2,I2,rz,q2⟩=>⟨I2.kIn,?_⟩;rw[hks];obtain⟨hz,q2⟩:=q2;have r2:=r.append (S.vals rz);have hl:(us++pickK .none sa ws).length=ps.length:=by rw[<-r2.length];exact G.len _ _ _ _ q2
 refine agf (aeB (G.run X.A X.stack s2 H2 ⟨us,ks.zip ws⟩ _ _ Q E0 hr I2.env0 (hb s2 us ws I2.kIn (by rw[z1d,sJ] at hl;exact hl) (by rw[<-rz.length];exact hz)) r2 q2) λr s' hq=>?_);cases r with
 |error e=>exact pass0 pins σ H2 s2 e s' I2 hq
 | ok fl=>
  cases fl with
  |ret u=>exact I2.after hq
  |next=>exact ac5 hq
  |brk=>exact ac5 hq
  |cont=>exact ac5 hq
end
section
variable{X:Cx}{k n:Nat}{f:acA}{fd:adh}{ps:List Str}{F:List D->R D}{x:Str}{p pos:Pos}{e:acI}{es:List acI}{fa:ao->R (List D)}
end
theorem len0{l:List α}(h:l.length=0):l=[]:=ac4 h
theorem iC{l:List α}(h:l.length=n+1):∃a m,l=a::m/\m.length=n:=by
 cases l with
 |nil=>simp at h
 |cons a m=>exact⟨a,m,rfl,by simpa using h⟩
def FnE(P:acL)(w:acQ)(K:PySem.W.Frag)(mg:Str->Option acB)(base:acP)(k:Nat)(x:Str)(n:Nat)(F:List D->R D)(fd:adh)(ps:List Str):Prop:=
 ∃f,FnOk P w K mg base CX0 k f fd ps (Al K n F)/\mg x=some (.ref f)/\PySem.W.keepIn K (.ref f)=true
section
variable{X:Cx}{k m n:Nat}{fd:adh}{ps ks:List Str}{F:List D->R D}{x:Str}{p pos:Pos}{e:acI}{es:List acI}{kws:List aei}{fa fk:ao->R (List D)}
theorem aaq{sa sb sc}(S:Sel sa sb sc)(G:FnE X.prog X.w X.K X.mg X.base k x n F fd ps)(hr:Room m X.A)(hkm:k<=m)(hb:KB X.K fd ps ks sa)
  (ha:DA X (e::es) fa)(hkw:DK X kws fk)(hg:Gl X x:=by rfl)(hall:(ad5 pos (adx kws X.env)).all (·.1.isSome)=true:=by rfl)(hks:(ad5 pos (adx kws X.env)).filterMap (·.1)=ks:=by rfl)
  (hdb:(x ==("__debug__" :Str))=false:=by decide)(he:acE (e::es) X.env=(false,eval e X.env)::acE es X.env:=by rfl)
  (hpl:((adg pos (acE (e::es) X.env)).any (·.1) || (ad5 pos (adx kws X.env)).any (·.1.isNone))=false:=by rfl):
  DE X (.Call (.Name x p) (e::es) kws pos) (vh F n ks.length sc fa fk):=by
 obtain⟨f,ok,hm,hk⟩:=G;exact Wh S ok (hr.mono hkm) hg hm hk hb ha hkw hall hks hdb he hpl
end
theorem aar{base:acP}{x:Str}{m:Nat}{g:ao->So}(Fn:Fun K x qual st f fd)(hmg:mg x=some (.ref f))(S:FnScope N ps (defScope st))(hn:ps.length=n)(hm:N.length=n+m)
  (hbody:∀(cdv:acB) (A:acO) (outer:List PySem.Env) (s:acC) (H:Hp) (E:XK),Room k (A.deeper (aeb qual (defScope st) s.heap.objs.size f cdv))->jg (cxOf CX0 P w K mg base N qual (defScope st) f cdv A outer s H E).nox (defBody st) g):
  FnE P w K mg base (k+1) x n (bK m g) fd ps:=⟨f,fnD Fn S hn hm hbody λds d _ e=>e,hmg,Fn.kp⟩
section
variable{K:PySem.W.Frag}{kV doc pm cdv ct:acB}{an:Option acA}{body:List acS}{scope:aec}{d:acA}{t:Tok}{q:Pos}
def T5(q:Pos):aeO:={posonlyargs:=[],args:=[⟨"p",none,q⟩],vararg:=none,kwonlyargs:=[⟨"manner",none,q⟩,⟨"marks",none,q⟩],kw_defaults:=[some (.Constant (.str "worth") 0 q),some (.Constant .none 0 q)],kwarg:=none,defaults:=[]}
example:KB K (PySem.W.fnOf "f" "f" (T5 q) body scope .none kV doc pm an cdv ct) ["p","manner","marks"] ["marks","manner"] [.inl 1,.inl 0]:=by
 intro s us ws i hl hw;have hl1:us.length=1:=by simpa using hl
 clear hl
 obtain⟨u,us',rfl,hl2⟩:=iC hl1
 clear hl1
 cases len0 hl2;obtain⟨w1,ws1,rfl,hw1⟩:=iC hw
 clear hw
 obtain⟨w2,ws2,rfl,hw2⟩:=iC hw1
 clear hw1
 cases len0 hw2;exact .of_eq rfl
end
section
variable{X:Cx}
end
section
variable{K:PySem.W.Frag}{O O':acA->Prop}{H:Hp}
end
section
variable{X:Cx}{e:acI}{f:ao->R D}{pos:Pos}
end
section
variable{prog:acL}{w:acQ}{A:acO}{E:acB->acC->Prop}{s:acC}{t:acA}
end
section
variable{X:Cx}
theorem CallR.or{u:acB}{r r':List V->Hp->VK->Prop}(h:CallR X u r)(h':CallR X u r'):CallR X u (λxs H Q=>r xs H Q\/r' xs H Q):=by
 intro pins s σ H xs us Q I rr q;rcases q with q |q
 ·exact h pins s σ H xs us Q I rr q
 ·exact h' pins s σ H xs us Q I rr q
end
theorem qY:fillsNumberSlot (.type "tuple") "mul" =pure false:=
 PySem.fillsNumberSlot_seq (id:= "tuple.__mul__") (r:=some (.builtin "tuple.__rmul__")) F.slot_tuple_mul.lookup (by decide +kernel) F.slot_tuple_rmul.lookup (by decide +kernel)
theorem xQ:seqRepeat? (.type "tuple")=pure (some (.builtin "tuple.__mul__")):=by
 unfold seqRepeat?;rw[PySem.seqSlot_of (T:= "tuple") (name:= "__mul__") (id:= "tuple.__mul__") F.slot_tuple_mul.lookup (by decide +kernel),PySem.seqSlot_of (T:= "tuple") (name:= "__rmul__") (id:= "tuple.__rmul__") F.slot_tuple_rmul.lookup (by decide +kernel)];rfl
theorem uK(a:Int)(t:Tok)(l:acA)(items:Array acB)(n:Nat)(dd:Option acA)(sl:Array (Option acB)):
  Meets (ad1.«int.__rmul__» ⟨[.int a t,.ref l],[]⟩) (λ_ R s=>s.heap.get? l=some {cls:= .type "tuple",dict:=dd,data:= .seq items n,slots:=sl}/\R (.ok (.ret Value.notImplemented)) s):=
 .of_wp λprog w A R s h=>by obtain⟨hp,g,d,tk,os⟩:=s;obtain⟨hl,h⟩:=h;wp_walk;exact⟨_,rfl,h⟩
theorem Rg(l:acA)(items:Array acB)(n:Nat)(dd:Option acA)(sl:Array (Option acB))(t:Tok):
  Meets (ad1.«tuple.__mul__» ⟨[.ref l,.int 1 t],[]⟩) (λ_ R s=>s.heap.get? l=some {cls:= .type "tuple",dict:=dd,data:= .seq items n,slots:=sl}/\R (.ok (.ret (.ref l))) {s with heap:=s.heap,toks:=s.toks}):=
 .of_wp λprog w A R s h=>by obtain⟨hp,g,d,tk,os⟩:=s;obtain⟨hl,h⟩:=h;have f1:=af4;have hc0:(items.isEmpty || (1:Int) ==1)=true:=(by simp);unfold ad1.«tuple.__mul__»;wp_walk using adR hl;exact⟨_,rfl,h⟩
theorem Rh(l:acA)(items:Array acB)(n:Nat)(dd:Option acA)(sl:Array (Option acB))(k:Int)(t:Tok)(hf:¬(decide (k < -(2^63)) || decide (k>=2^63))=true)(hc0:¬(items.isEmpty || k ==1)=true)(hc1:¬(decide (k<=0) || items.isEmpty)=true)
  (hc2:¬(items.size:Int)*k > (2^63 - 1) / 8)(hc3:¬agK ((items.size:Int)*k)=true)(hsz:sizeOk (.seq (agZ (λx1 x2=>x1++x2) #[] (acH k.toNat items)))):
  Meets (ad1.«tuple.__mul__» ⟨[.ref l,.int k t],[]⟩) (λ_ R s=>s.heap.get? l=some {cls:= .type "tuple",dict:=dd,data:= .seq items n,slots:=sl}/\R (.ok (.ret (.ref s.heap.objs.size))) {s with heap:=s.heap.push {cls:=acJ "tuple",data:=ahw (agZ (λx1 x2=>x1++x2) #[] (acH k.toNat items))},toks:=s.toks}):=
 .of_wp λprog w A R s h=>by
  obtain⟨hp,g,d,tk,os⟩:=s;obtain⟨hl,h⟩:=h;have f1:=af4;unfold ad1.«tuple.__mul__»
  wp_walk using adR hl
  refine agk (by simpa using hf) ?_
  wp_walk using adR hl
  refine agk (by simpa using hc2) ?_
  wp_walk using adR hl
  refine agk (by simpa[sizeOk] using hsz) ?_
  wp_walk using adR hl
  exact⟨_,rfl,h⟩
section
variable{X:Cx}
theorem YH:OpR X (adu .Mult) (λx y H Q=>∃a k xs,x= .ref a/\y= .int k/\SqT X.K H a xs/\xs≠[]/\1<=k/\k<2^63/\xs.length*k.toNat<=sizeLine/\(k=1->Q (.ref a) H)/\
  (k≠1->∀p,H p=none->Q (.ref p) (upd H p (.tup (acH k.toNat xs).flatten)))):=by
 intro pins s σ H x y v u Q I rx ry h;obtain⟨a,k,xs,rfl,rfl,hq,hx,h1,h2,hz,q1,q2⟩:=h;cases rx;obtain⟨t,rfl⟩:=ry;obtain⟨its,r,p1,_⟩:=I.tuple hq;obtain⟨⟨cls,dd,data,sl⟩,ho,hc,n,hd⟩:=id p1;simp only at hc hd;subst hc hd;have hlen:=r.length;have hne:its≠[]:=λz=>hx (by rw[z] at r;cases r;rfl);have hpos:0<its.length:=by cases its with |nil=>exact absurd rfl hne |cons _ _=>simp
 have hemp:its.toArray.isEmpty=false:=by cases its with |nil=>exact absurd rfl hne |cons _ _=>simp
 refine wpAny_binaryOp_repeat_ref (T:= "tuple") (U:= "int") (by decide) ⟨_,ho,rfl⟩ (λs'=>agY s' k t) qY F.fills_int_mul F.slot_int_rmul xQ F.slot_int_index.lookup
  (afh F.slot_int_rmul (agY s k t) F.entry_int_rmul (F.args_int_rmul_2 _ _) (uK k t a its.toArray n dd sl) ⟨ho,rfl,⟨_,ho,rfl⟩,?_⟩)
 by_cases hk:k=1
 ·subst hk;exact afh F.slot_tuple_mul ⟨_,ho,rfl⟩ F.entry_tuple_mul (F.args_tuple_mul_2 _ _) (Rg a its.toArray n dd sl t) ⟨ho,⟨.ref a,H,I,rfl,q1 rfl⟩⟩
 ·have hmul:(its.toArray.size:Int)*k=((xs.length*k.toNat:Nat):Int):=by
   rw[z1c,<-hlen,Int.natCast_mul,Int.toNat_of_nonneg (by omega)]
  have hnew:agZ (λx1 x2=>x1++x2) #[] (acH k.toNat its.toArray)=(acH k.toNat its).flatten.toArray:=by
   have:=foldl_rep its k.toNat [];rw[ae6] at this;exact this
  have hs:sizeOk (.seq (agZ (λx1 x2=>x1++x2) #[] (acH k.toNat its.toArray))):=by
   rw[hnew];show (acH k.toNat its).flatten.toArray.size<=sizeLine;rw[z1c,len_rep,<-hlen,Nat.mul_comm];exact hz
  have hbig:(sizeLine:Nat)<=(2^63 - 1) / 8:=by decide
  refine afh F.slot_tuple_mul ⟨_,ho,rfl⟩ F.entry_tuple_mul (F.args_tuple_mul_2 _ _) (Rh a its.toArray n dd sl k t (by simp;omega) (by rw[hemp];simp[hk]) (by rw[hemp];simp;omega) (by rw[hmul];omega) (by rw[hmul];unfold agK;intro z;have z:=of_decide_eq_true z;omega) hs) ⟨ho,?_⟩;rw[hnew];refine⟨.ref s.heap.objs.size,_,I.laid (t':=s.toks) (o:= .tup (acH k.toNat xs).flatten) (λb ob q=>z1a _ q) (z0g _) ?_,rfl,q2 hk _ (I.hok.fresh (z0g _))⟩;exact⟨by rw[len_rep,Nat.mul_comm];exact hz,_,r.rep k.toNat,tM.new _ _⟩
theorem KJ{K:PySem.W.Frag}{O:acA->Prop}{H:Hp}{ds:List D}{xs:List V}(r:aO K O H ds xs):∀k:Nat,aO K O H (acH k ds).flatten (acH k xs).flatten
 |0=> .nil
 |k+1=>by rw[adF,adF,aer,aer];exact r.append (KJ r k)
def xR:D->D->R D
 | .int i,.int j=>gA (.int i) (.int j)
 | .tup ds,.int k=>if ds≠[]/\1<=k/\k<2^63/\ds.length*k.toNat<=1000000 then .ok (.tup (acH k.toNat ds).flatten) else .bad
 |_,_=> .bad
theorem zX:gO X (adu .Mult) xR:=by
 obtain⟨r0,o0,c0⟩:=oA (X:=X);refine⟨_,OpR.or o0 YH,λρ O σ H Q x y dx dy j0 rx ry h=>?_⟩;cases dx <;> cases dy <;> first
  |exact h.elim
  |skip
 ·exact .inl (c0 ρ O σ H Q x y _ _ j0 rx ry h)
 ·rename_i ds k;have h:good X (rD X) O (if ds≠[]/\1<=k/\k<2^63/\ds.length*k.toNat<=1000000 then .ok (.tup (acH k.toNat ds).flatten) else .bad) σ H Q:=h;by_cases hc:ds≠[]/\1<=k/\k<2^63/\ds.length*k.toNat<=1000000
  ·rw[if_pos hc] at h;obtain⟨a,us,rfl,ha,r1⟩:=rx.tup;obtain⟨h0,h1,h2,h3⟩:=hc;refine .inr ⟨a,k,us,rfl,ry.int,ha,λz=>h0 (by have:=r1.length;rw[z] at this;exact ac4 this),h1,h2,by rw[<-r1.length];exact z0b h3 dB,λz=>?_,λz l hl=>?_⟩
   ·subst z;have e:(acH (1:Int).toNat ds).flatten=ds:=by simp
    rw[e] at h;exact fin h (gw ha r1)
   ·exact h _ _ (Same.upd hl) (Rep.mO hl (KJ r1 _))
  ·rw[if_neg hc] at h;exact h.elim
end
def gK:D->Bool
 | .tup _=>false
 | .lst _=>false
 |_=>true
def vD:D->V
 | .non=> .non
 | .bl b=> .bl b
 | .int i=> .int i
 | .str x=> .str x
 |_=> .non
section
variable{K:PySem.W.Frag}{O:acA->Prop}{H:Hp}
theorem Pq{d:D}{v:V}(f:gK d=true)(r:Rep K O H d v):v=vD d:=by
 cases d with
 |non=>exact r.non
 |bl b=>exact r.bl
 |int i=>exact r.int
 |str x=>exact r.str
 |tup _=>cases f
 |lst _=>cases f
theorem KN:∀{ds:List D} {vs:List V},ds.all gK=true->aO K O H ds vs->vs=ds.map vD
 |[],vs,_,r=>r.nil_inv
 | d::ds,vs,f,r=>by
  obtain⟨x,t,rfl,h1,h2⟩:=r.cons_inv;rw[aeJ,adU] at f;rw[Pq f.1 h1,KN f.2 h2];rfl
theorem T6{d:D}(f:gK d=true):flatV (vD d)=true:=by cases d <;> first |rfl |cases f
theorem abx{a b:D}(fa:gK a=true)(fb:gK b=true):eqV (vD a) (vD b)=gb a b:=by
 cases a <;> cases b <;> first |rfl |(simp[gK] at fa;done) |(simp[gK] at fb;done) |(rw[eO];rfl) |(simp[vD,eqV,oJ,oK,oM,oN,oO,iM,eO])
theorem XQ{d:D}(fd:gK d=true):∀{ds:List D},ds.all gK=true->inV (vD d) (ds.map vD)=ds.any λy=>gb y d
 |[],_=>rfl
 | y::ds,f=>by
  rw[aeJ,adU] at f;have ih:=XQ fd f.2;unfold inV at ih |-;rw[z1h,agI,agI,abx f.1 fd,ih]
theorem Pr:∀{ds:List D},ds.all gK=true->(ds.map vD).all flatV=true
 |[],_=>rfl
 | y::ds,f=>by
  rw[aeJ,adU] at f;rw[z1h,aeJ,T6 f.1,Pr f.2];rfl
end
def Ri:D->Option (List D)
 | .tup ds=>some ds
 | .lst ds=>some ds
 |_=>none
def Ip(neg:Bool)(d s:D):R D:=match Ri s with
 |some ds=>if gK d=true/\ds.all gK=true then .ok (.bl (if neg then !(ds.any λy=>gb y d) else ds.any λy=>gb y d)) else .bad
 |none=> .bad
section
variable{X:Cx}
theorem in_of{neg:Bool}{ρ:ao}{Q:VK}{x y:V}{dx dy:D}(rx:Rep X.K O H dx x)(ry:Rep X.K O H dy y)(h:good X (rD X) O (Ip neg dx dy) σ H Q):rIn X.K neg x y H Q:=by
 unfold Ip at h;cases e:Ri dy with
 |none=>rw[e] at h;exact h.elim
 | some ds=>
  rw[e] at h;have h:good X (rD X) O (if gK dx=true/\ds.all gK=true then .ok (.bl (if neg then !(ds.any λy=>gb y dx) else ds.any λy=>gb y dx)) else .bad) σ H Q:=h;by_cases hc:gK dx=true/\ds.all gK=true
  ·rw[if_pos hc] at h;have key:∃p xs,y= .ref p/\(SqL X.K H p xs\/SqT X.K H p xs)/\aO X.K O H ds xs:=by
    cases dy with
    | tup ds'=>
     cases e;obtain⟨a,xs,rfl,hq,rs⟩:=ry.tup;exact⟨a,xs,rfl,.inr hq,rs⟩
    | lst ds'=>
     cases e;obtain⟨a,xs,rfl,hq,_,rs⟩:=ry.lst;exact⟨a,xs,rfl,.inl hq,rs⟩
    |_=>cases e
   obtain⟨p,xs,rfl,hq,rs⟩:=key;have e1:=Pq hc.1 rx;have e2:=KN hc.2 rs;subst e1 e2;refine⟨p,_,rfl,hq,T6 hc.1,Pr hc.2,?_⟩;rw[XQ hc.1 hc.2];exact fin h (fM _)
  ·rw[if_neg hc] at h;exact h.elim
theorem aby:gO X (ac1 .In) (Ip false):=⟨_,op_in_seq,λρ O σ H Q x y dx dy j0 rx ry h=>in_of (ρ:=ρ) rx ry h⟩
theorem Wi:gO X (ac1 .NotIn) (Ip true):=⟨_,op_notIn_seq,λρ O σ H Q x y dx dy j0 rx ry h=>in_of (ρ:=ρ) rx ry h⟩
end
def lQ:Bool->acP->acA->acA->Nat->Prop
 |true,h,it,l,k=>h.IsTupleIter it l k
 |false,h,it,l,k=>h.IsListIter it l k
def p7:Bool->acP->acA->Array acB->Prop
 |true,h,l,xs=>h.IsTuple l xs
 |false,h,l,xs=>h.IsList l xs
def itC(t:Bool):String:=if t then "tuple_iterator" else "list_iterator"
def Sq:Bool->PySem.W.Frag->Hp->acA->List V->Prop
 |true,K,H,a,xs=>SqT K H a xs
 |false,K,H,a,xs=>SqL K H a xs
theorem lQ.of(x:lQ t h it l k)(q:∀o,h.get? it=some o->h'.get? it=some o):lQ t h' it l k:=by
 cases t <;> (obtain⟨o,e,r⟩:=x;exact⟨o,q o e,r⟩)
theorem lQ.obj(x:lQ t h it l k):∃o,h.get? it=some o/\∀v,o.data≠.cell v:=by
 cases t <;> (obtain⟨o,e,c,d⟩:=x;exact⟨o,e,λv z=>by rw[d] at z;cases z⟩)
theorem lQ.new(e:h.get? it=some {cls:= .type (itC t),data:= .fields #[.ref l,.int 0 0]}):lQ t h it l 0:=by
 cases t <;> exact⟨_,e,rfl,rfl⟩
theorem p7.of(x:p7 t h l xs)(q:∀o,h.get? l=some o->h'.get? l=some o):p7 t h' l xs:=by
 cases t <;> (obtain⟨o,e,r⟩:=x;exact⟨o,q o e,r⟩)
section
variable{prog:acL}{w:acQ}{A:acO}{E:acB->acC->Prop}{s:acC}
theorem nextT{v:acB}(hit:s.heap.IsTupleIter it l i)(hl:s.heap.IsTuple l xs)(hv:xs[i]?=some v)
  (hQ:∀h',h'.IsTupleIter it l (i+1)->adw it s.heap h'->Q v {s with heap:=h'}):acG (model prog w) A (ac0 (.ref it)) Q E s:=by
 have ty:=hit.typeIs;obtain⟨o,g,c,dt⟩:=hit;obtain⟨p,gp,_,m,dp⟩:=hl;unfold ac0;refine acz (ada (name:=adb "__next__") ty F.slot_tuple_iterator_next (adi F.slot_tuple_iterator_next ty F.entry_tuple_iterator_next ?_ (F.args_tuple_iterator_next_1 _)));show acG _ _ (field (.ref it) 0 >>=_) _ _ s;refine acz (acW g dt (x:= .ref l) rfl ?_);show acG _ _ (if (acM l ==acU)=true then _ else _) _ _ s;rw[if_neg (show ¬((acM l ==acU)=true) from acY)];show acG _ _ (field (.ref it) 1 >>=_) _ _ s;refine acz (acW g dt (x:= .int i 0) rfl ?_);show acG _ _ (seqItems? (.ref l) >>=_) _ _ s;refine acz (ad7 gp dp ?_);simp only[aeK,hv];refine acz (aeQ g dt (by simp) (acF ⟨v,rfl,acF (hQ _ ⟨_,aeF _ g (afb (aeo dt _)),(agT ..).trans c,?_⟩ (aeY ..))⟩));rw[aeo dt];simp[ado]
theorem Wj(hh:A.handled=none)(hit:s.heap.IsTupleIter it l i)(hl:s.heap.IsTuple l xs)(hv:xs[i]?=none)
  (hE:∀h' e,agw it s.heap h'->(∃o,h'.get? e=some o/\o.cls= .type "StopIteration")->E (.ref e) {s with heap:=h'}):acG (model prog w) A (ac0 (.ref it)) Q E s:=by
 have ty:=hit.typeIs;obtain⟨o,g,c,dt⟩:=hit;obtain⟨p,gp,_,m,dp⟩:=hl;unfold ac0;refine acz (ada (name:=adb "__next__") ty F.slot_tuple_iterator_next (adi F.slot_tuple_iterator_next ty F.entry_tuple_iterator_next ?_ (F.args_tuple_iterator_next_1 _)));show acG _ _ (field (.ref it) 0 >>=_) _ _ s;refine acz (acW g dt (x:= .ref l) rfl ?_);show acG _ _ (if (acM l ==acU)=true then _ else _) _ _ s;rw[if_neg (show ¬((acM l ==acU)=true) from acY)];show acG _ _ (field (.ref it) 1 >>=_) _ _ s;refine acz (acW g dt (x:= .int i 0) rfl ?_);show acG _ _ (seqItems? (.ref l) >>=_) _ _ s;refine acz (ad7 gp dp ?_);simp only[aeK,hv];refine acz (aej (acz (aeQ g dt (by simp) ?_)));show acG _ _ (newExc (.type "StopIteration") [] >>=_) _ _ _;refine acz ?_;simp only[newExc,newTuple];refine acz (adt ?_ (by size_fits));refine acz (m:=agr _ _) (aey (a:=acU) (by first |(simp only[agr];rfl) |rfl) ?_);refine adt ?_ (by size_fits);simp only[raiseNew];refine acz (wpAny_handled ?_);first |rw[show A.in1.handled=none from hh] |rw[hh]
 exact acz (acF (wpAny_throw (hE _ _ (((aeY ..).extBut.push _).push _) ⟨_,z1f _ rfl,rfl⟩)))
theorem J4{v:acB}(hit:lQ t s.heap it l i)(hl:p7 t s.heap l xs)(hv:xs[i]?=some v)
  (hQ:∀h',lQ t h' it l (i+1)->adw it s.heap h'->Q v {s with heap:=h'}):acG (model prog w) A (ac0 (.ref it)) Q E s:=by
 cases t with
 |true=>exact nextT hit hl hv hQ
 |false=>exact wpAny_nextOf_list_item hit hl hv hQ
theorem BK(hh:A.handled=none)(hit:lQ t s.heap it l i)(hl:p7 t s.heap l xs)(hv:xs[i]?=none)
  (hE:∀h' e,agw it s.heap h'->(∃o,h'.get? e=some o/\o.cls= .type "StopIteration")->E (.ref e) {s with heap:=h'}):acG (model prog w) A (ac0 (.ref it)) Q E s:=by
 cases t with
 |true=>exact Wj hh hit hl hv hE
 |false=>exact wpAny_nextOf_list_end hh hit hl hv hE
theorem Dv(hl:p7 t s.heap l xs)(hQ:Q (.ref s.heap.objs.size) {s with heap:=s.heap.push {cls:= .type (itC t),data:= .fields #[.ref l,.int 0 0]}}):
  acG (model prog w) A (pyIter (.ref l)) Q E s:=by
 cases t with
 |true=>exact wpAny_pyIter_tuple hl hQ
 |false=>exact afO hl hQ
theorem KQ{T:acA}{arr:Array acB}{x:acB}{Q:Unit->acC->Prop}(hT:s.heap.get? T=some {cls:= .type "tuple",data:= .seq arr})
  (h:∀h',h'.get? T=some {cls:= .type "tuple",data:= .seq (arr.setIfInBounds k x)}->adw T s.heap h'->Q () {s with heap:=h'})(hs:arr.size<=sizeLine:=by size_fits):acG (model prog w) A (updateSeq T (·.setIfInBounds k x)) Q E s:=by
 refine afz (hz:=hs) (_hz':=by simpa using agU hs) hT rfl (h _ (by rw[aeF _ hT rfl];simp[ady]) (aeY ..))
end
section
variable{X:Cx}{pins:List (acA×Obj)}{σ:St}{H:Hp}{s:acC}
theorem _root_.L2.Inv.fp{b:acA}(I:Inv X pins σ H s)(f:FpOk X pins H b)(sb:adw b s.heap h'):Inv X pins σ H {s with heap:=h'}:=
 I.turned (t':=s.toks) (λc o hc e=>(sb.2 c hc).trans e) f.1 f.2.1 f.2.2.2.1 f.2.2.2.2.1 f.2.2.2.2.2
theorem _root_.L2.Inv.fpE{b:acA}(I:Inv X pins σ H s)(f:FpOk X pins H b)(sb:agw b s.heap h'):Inv X pins σ H {s with heap:=h'}:=
 I.turned (t':=s.toks) (λc o hc e=>sb c o hc e) f.1 f.2.1 f.2.2.2.1 f.2.2.2.2.1 f.2.2.2.2.2
theorem _root_.L2.FpOk.upd{b p:acA}{o:HO}(f:FpOk X pins H b)(n:b≠p):FpOk X pins (L2.upd H p o) b:=⟨by rw[upd_ne n];exact f.1,f.2⟩
theorem _root_.L2.Inv.sq{xs:List V}(I:Inv X pins σ H s)(q:Sq t X.K H l xs):∃its:List acB,Vals xs its/\p7 t s.heap l its.toArray:=by
 cases t with
 |true=>obtain⟨its,r,p,_⟩:=I.tuple q;exact⟨its,r,p⟩
 |false=>obtain⟨its,r,p,_⟩:=I.list q;exact⟨its,r,p.isList⟩
theorem _root_.L2.Inv.KR{xs:List V}(I:Inv X pins σ H s)(q:Sq t X.K H l xs)(r:Sq t X.K H l ys):xs=ys:=by
 cases t with
 |true=>exact I.tuple_inj q r
 |false=>exact I.list_inj q r
end
abbrev vm(h:acP)(T:acA)(arr:Array acB):Prop:=h.get? T=some {cls:= .type "tuple",data:= .seq arr}
structure Z2(h:acP)(z TI TO i1 i2:acA)(t1 t2:Bool)(l1 l2:acA)(k:Nat):Prop where
 z:IsZip h z TI TO .none
 ti:vm h TI #[.ref i1,.ref i2]
 to:∃a b,vm h TO #[a,b]
 s1:lQ t1 h i1 l1 k
 s2:lQ t2 h i2 l2 k
def Wm(K:PySem.W.Frag)(t1:Bool)(l1:acA)(t2:Bool)(l2:acA):It:=
 ⟨λi H=>∃xs ys x y,Sq t1 K H l1 xs/\xs[i]?=some x/\Sq t2 K H l2 ys/\ys[i]?=some y,
  λi H v H'=>∃p x y,H p=none/\v= .ref p/\H'=upd H p (.tup [x,y])/\(∀xs,Sq t1 K H l1 xs->xs[i]?=some x)/\∀ys,Sq t2 K H l2 ys->ys[i]?=some y,
  λi H=>∃xs ys,Sq t1 K H l1 xs/\Sq t2 K H l2 ys/\(xs.length<=i\/ys.length<=i)⟩
section
variable{X:Cx}{pins:List (acA×Obj)}{σ:St}{H:Hp}{s:acC}{A':acO}{E:acB->acC->Prop}
theorem KY:2<=sizeLine:=z0b (by decide) (z0e eG)
theorem T7{z TI TO:acA}{xs:List V}{x y:V}(I:Inv X pins σ H s)
  (fz:FpOk X pins H z)(fO:FpOk X pins H TO)(f1:FpOk X pins H i1)(f2:FpOk X pins H i2)
  (n1:TI≠z)(n2:TO≠z)(n3:i1≠z)(n4:i2≠z)(n5:TI≠TO)(n6:TI≠i1)(n7:TI≠i2)(n8:TO≠i1)(n9:TO≠i2)(n10:i1≠i2)
  (st:Z2 s.heap z TI TO i1 i2 t1 t2 l1 l2 k)(q1:Sq t1 X.K H l1 xs)(e1:xs[k]?=some x)(q2:Sq t2 X.K H l2 ys)(e2:ys[k]?=some y)
  (hQ:∀h',Inv X pins σ (upd H s.heap.objs.size (.tup [x,y])) {s with heap:=h'}->IsZip h' z TI TO (ado s.heap.objs.size)->vm h' TI #[.ref i1,.ref i2]->(∃a b,vm h' TO #[a,b])->
   lQ t1 h' i1 l1 (k+1)->lQ t2 h' i2 l2 (k+1)->Q (.ref s.heap.objs.size) {s with heap:=h'}):
  acG (model X.prog X.w) A' (ad1.«zip.__next__» ⟨[.ref z],[]⟩) (λfin s'=>∃v,fin= .done (.ret v)/\Q v s') E s:=by
 obtain⟨hz,hTI,⟨a,b,hTO⟩,h1,h2⟩:=st;show acG _ _ (field (.ref z) 2 >>=_) _ _ _;refine acz (acW hz rfl (x:= .bool false) rfl ?_);show acG _ _ (field (.ref z) 3 >>=_) _ _ _;refine acz (acW hz rfl (x:= .ref TI) rfl ?_);refine acz (ad7 hTI rfl ?_);show acG _ _ (ac9 (.ref z) >>=_) _ _ _;refine acz ?_;unfold ac9;refine acz (acW hz rfl (x:= .none) rfl (acF ?_));simp only[if_true];refine acz (aej (acz (acW hz rfl (x:= .ref TO) rfl ?_)));refine acz (ade hz (by simp) λg1 z1 b1=>?_)
 replace z1:IsZip g1 z TI TO .ellipsis:=z1
 have I1:=I.fp fz b1;refine acz ?_;simp only[af5,List.zipIdx_nil,afw,List.forIn_nil];obtain⟨us,r1,p1⟩:=I1.sq q1;obtain⟨u,hu,ru⟩:=r1.get e1;refine acz (acz (agL ?_));show acG _ _ (ac0 (.ref i1) >>=_) _ _ _;refine acz (J4 (h1.of λo e=>b1.extBut _ _ n3 e) p1 (v:=u) (by simpa using hu) λg2 s12 b2=>acF ?_);have I2:=I1.fp f1 b2;have o2:vm g2 TO #[a,b]:=b2.extBut _ _ n8 (b1.extBut _ _ n2 hTO);refine acz (ad7 o2 rfl (acz (KQ o2 λg3 o3 b3=>acz (aez (acF ?_)))))
 replace o3:vm g3 TO #[u,b]:=o3
 have I3:=I2.fp fO b3;obtain⟨vs,r2,p2⟩:=I3.sq q2;obtain⟨v,hv,rv⟩:=r2.get e2;refine acz (acz (agL ?_));show acG _ _ (ac0 (.ref i2) >>=_) _ _ _;refine acz (J4 (h2.of λo e=>b3.extBut _ _ (acN n9) (b2.extBut _ _ (acN n10) (b1.extBut _ _ n4 e))) p2 (v:=v) (by simpa using hv) λg4 s24 b4=>acF ?_);have I4:=I3.fp f2 b4;have o4:vm g4 TO #[u,b]:=b4.extBut _ _ n9 o3;refine acz (ad7 o4 rfl (acz (KQ o4 λg5 o5 b5=>acz (aez (acF (acF ?_))))))
 replace o5:vm g5 TO #[u,v]:=o5
 have I5:=I4.fp fO b5;refine acz (ad7 o5 rfl (acz (afL ?_)));have sz:g5.objs.size=s.heap.objs.size:=by rw[b5.1,b4.1,b3.1,b2.1,b1.1]
 have I6:Inv X pins σ (upd H g5.objs.size (.tup [x,y])) {s with heap:=g5.push {cls:= .type "tuple",data:= .seq #[u,v]}}:=
  I5.laid (t':=s.toks) (λb u e=>z1a _ e) (z0g _) ⟨KY,[u,v],.cons ru (.cons rv .nil),⟨_,z1f _ rfl,rfl,rfl,_,rfl⟩⟩
 have z5:IsZip g5 z TI TO .ellipsis:=b5.extBut _ _ (acN n2) (b4.extBut _ _ (acN n4) (b3.extBut _ _ (acN n2) (b2.extBut _ _ (acN n3) z1)));have lt:∀{c o},g5.get? c=some o->c≠g5.objs.size:=λe=>ac2 (z2c e);show acG _ _ (adB (.ref z) (.ref g5.objs.size) >>=_) _ _ _;refine acz ?_;unfold adB;refine acz (ade (z1a _ z5) (by simp) λg7 z7 b7=>?_)
 replace z7:IsZip g7 z TI TO (ado g5.objs.size):=z7
 have I7:=I6.fp (fz.upd (lt z5)) b7;refine ade z7 (by simp) λg8 z8 b8=>?_
 replace z8:IsZip g8 z TI TO (ado g5.objs.size):=z8
 have I8:=I7.fp (fz.upd (lt z5)) b8;have up:∀c o,c≠z->g5.get? c=some o->g8.get? c=some o:=λc o c1 e=>b8.extBut _ _ c1 (b7.extBut _ _ c1 (z1a _ e));refine acF ⟨_,rfl,?_⟩;rw[sz] at I8 z8;show Q (.ref g5.objs.size) _;rw[sz];refine hQ g8 I8 z8 (up _ _ n1 (b5.extBut _ _ n5 (b4.extBut _ _ n7 (b3.extBut _ _ n5 (b2.extBut _ _ n6 (b1.extBut _ _ n1 hTI)))))) ⟨u,v,up _ _ n2 o5⟩ ?_ ?_
 ·exact s12.of λo e=>up _ _ n3 (b5.extBut _ _ (acN n8) (b4.extBut _ _ n10 (b3.extBut _ _ (acN n8) e)))
 ·exact s24.of λo e=>up _ _ n4 (b5.extBut _ _ (acN n9) e)
theorem Wn{z TI TO:acA}{xs:List V}{Q:Fin->acC->Prop}(hh:A'.handled=none)(I:Inv X pins σ H s)
  (fz:FpOk X pins H z)(fO:FpOk X pins H TO)(f1:FpOk X pins H i1)(f2:FpOk X pins H i2)
  (n1:TI≠z)(n2:TO≠z)(n3:i1≠z)(n4:i2≠z)(n5:TI≠TO)(n6:TI≠i1)(n7:TI≠i2)(n8:TO≠i1)(n9:TO≠i2)(n10:i1≠i2)
  (st:Z2 s.heap z TI TO i1 i2 t1 t2 l1 l2 k)(q1:Sq t1 X.K H l1 xs)(q2:Sq t2 X.K H l2 ys)(en:xs.length<=k\/ys.length<=k)
  (hE:∀h' e,Inv X pins σ H {s with heap:=h'}->(∃o,h'.get? e=some o/\o.cls= .type "StopIteration")->E (.ref e) {s with heap:=h'}):
  acG (model X.prog X.w) A' (ad1.«zip.__next__» ⟨[.ref z],[]⟩) Q E s:=by
 obtain⟨hz,hTI,⟨a,b,hTO⟩,h1,h2⟩:=st;show acG _ _ (field (.ref z) 2 >>=_) _ _ _;refine acz (acW hz rfl (x:= .bool false) rfl ?_);show acG _ _ (field (.ref z) 3 >>=_) _ _ _;refine acz (acW hz rfl (x:= .ref TI) rfl ?_);refine acz (ad7 hTI rfl ?_);show acG _ _ (ac9 (.ref z) >>=_) _ _ _;refine acz ?_;unfold ac9;refine acz (acW hz rfl (x:= .none) rfl (acF ?_));simp only[if_true];refine acz (aej (acz (acW hz rfl (x:= .ref TO) rfl ?_)));refine acz (ade hz (by simp) λg1 z1 b1=>?_)
 replace z1:IsZip g1 z TI TO .ellipsis:=z1
 have I1:=I.fp fz b1;refine acz ?_;simp only[af5,List.zipIdx_nil,afw,List.forIn_nil];obtain⟨us,r1,p1⟩:=I1.sq q1;have leave:∀{g g':acP} {e:acA} {c:acA},Inv X pins σ H {s with heap:=g}->IsZip g z TI TO .ellipsis->FpOk X pins H c->c≠z->agw c g g'->(∃o,g'.get? e=some o/\o.cls= .type "StopIteration")->
   acG (model X.prog X.w) A' (ahh (.ref z) 0 .none) (λ_ s'=>E (.ref e) s') E {s with heap:=g'}:=λ{g g' e c} Ig zg fc nc eb ⟨oe,hoe,hce⟩=>by
  have zg':IsZip g' z TI TO .ellipsis:=eb _ _ (acN nc) zg;have hez:e≠z:=λq=>by subst q;rw[zg'] at hoe;cases hoe;simp at hce
  have Ig':Inv X pins σ H {s with heap:=g'}:=Ig.fpE fc eb;exact ade zg' (by simp) λg'' _ b''=>hE g'' e (Ig'.fp fz b'') ⟨oe,b''.extBut _ _ hez hoe,hce⟩
 refine acz (acz (agL ?_));show acG _ _ (ac0 (.ref i1) >>=_) _ _ _;have h1':=h1.of (h':=g1) λo e=>b1.extBut _ _ n3 e;by_cases hx:xs.length<=k
 ·exact acz (BK hh h1' p1 (by have:=r1.length;simp;omega) λg2 e eb ex=>leave I1 z1 f1 n3 eb ex)
 ·have hy:ys.length<=k:=by rcases en with h |h;exact absurd h hx;exact h
  obtain⟨u,hu,ru⟩:=r1.get (i:=k) (x:=xs[k]'(by omega)) (ad0 (by omega));refine acz (J4 h1' p1 (v:=u) (by simpa using hu) λg2 s12 b2=>acF ?_);have I2:=I1.fp f1 b2;have o2:vm g2 TO #[a,b]:=b2.extBut _ _ n8 (b1.extBut _ _ n2 hTO);refine acz (ad7 o2 rfl (acz (KQ o2 λg3 o3 b3=>acz (aez (acF ?_)))));have I3:=I2.fp fO b3;obtain⟨vs,r2,p2⟩:=I3.sq q2;have z3:IsZip g3 z TI TO .ellipsis:=b3.extBut _ _ (acN n2) (b2.extBut _ _ (acN n3) z1);refine acz (acz (agL ?_));show acG _ _ (ac0 (.ref i2) >>=_) _ _ _;exact acz (BK hh (h2.of λo e=>b3.extBut _ _ (acN n9) (b2.extBut _ _ (acN n10) (b1.extBut _ _ n4 e))) p2 (by have:=r2.length;simp;omega) λg4 e eb ex=>leave I3 z3 f2 n4 eb ex)
end
theorem T8{oX:List acI}{kk}{pp:Pos}{z TI TO:acA}
  (n1:TI≠z)(n2:TO≠z)(n3:i1≠z)(n4:i2≠z)(n5:TI≠TO)(n6:TI≠i1)(n7:TI≠i2)(n8:TO≠i1)(n9:TO≠i2)(n10:i1≠i2):
  Turn P w K (.Tuple oX kk pp) (Wm K t1 l1 t2 l2) [z,TI,TO,i1,i2] z (λi h=>Z2 h z TI TO i1 i2 t1 t2 l1 l2 i) where
 mem:=by simp
 obj:=λi h st b hb=>by
  obtain⟨hz,hTI,⟨x,y,hTO⟩,h1,h2⟩:=st;simp only[acR,adW,or_false] at hb;rcases hb with rfl |rfl |rfl |rfl |rfl
  ·exact⟨_,hz,λv q=>by have q':agu _=af8 v:=q;cases q'⟩
  ·exact⟨_,hTI,λv q=>by have q':ahw _=af8 v:=q;cases q'⟩
  ·exact⟨_,hTO,λv q=>by have q':ahw _=af8 v:=q;cases q'⟩
  ·exact h1.obj
  ·exact h2.obj
 keep:=λi h h' st k=>by
  obtain⟨hz,hTI,⟨x,y,hTO⟩,h1,h2⟩:=st;exact⟨k _ (by simp) _ hz,k _ (by simp) _ hTI,⟨x,y,k _ (by simp) _ hTO⟩,h1.of λo e=>k _ (by simp) o e,h2.of λo e=>k _ (by simp) o e⟩
 item :=by
  intro X hP hw hK hc i pins s σ H E I hf st hg;subst hP hw hK;obtain⟨xs,ys,x,y,q1,e1,q2,e2⟩:=hg;have hT:s.TypeIs (.ref z) "zip" :=⟨_,st.z,rfl⟩;unfold pyNext;refine acz (afq (ada (name:=adb "__next__") hT F.slot_zip_next (adi F.slot_zip_next hT F.entry_zip_next
   (T7 I (hf z (by simp)) (hf TO (by simp)) (hf i1 (by simp)) (hf i2 (by simp)) n1 n2 n3 n4 n5 n6 n7 n8 n9 n10 st q1 e1 q2 e2 λh' I' z' ti' to' s1' s2'=>acF ⟨_,rfl,?_⟩) (F.args_zip_next_1 _))))
  have hp:H s.heap.objs.size=none:=I.hok.fresh (z0g _);have nz:∀b,b∈[z,TI,TO,i1,i2]->b≠s.heap.objs.size:=λb hb q=>by
   obtain⟨o,e,_⟩:∃o,s.heap.get? b=some o/\True:=by
    obtain⟨hz,hTI,⟨x,y,hTO⟩,h1,h2⟩:=st;simp only[acR,adW,or_false] at hb;rcases hb with rfl |rfl |rfl |rfl |rfl
    ·exact⟨_,hz,trivial⟩
    ·exact⟨_,hTI,trivial⟩
    ·exact⟨_,hTO,trivial⟩
    ·obtain⟨o,e,_⟩:=h1.obj;exact⟨o,e,trivial⟩
    ·obtain⟨o,e,_⟩:=h2.obj;exact⟨o,e,trivial⟩
   exact absurd (z2c e) (by rw[q];exact adH _)
  refine wpAny_letOwnedTupleGo_zip z' λh'' z'' b''=>⟨.ref s.heap.objs.size,upd H s.heap.objs.size (.tup [x,y]),I'.fp ((hf z (by simp)).upd (nz z (by simp))) b'',rfl,⟨_,x,y,hp,rfl,rfl,λxs' q=>by rw[I.KR q q1];exact e1,λys' q=>by rw[I.KR q q2];exact e2⟩,?_,λb hb=>?_⟩
  ·obtain⟨a,b,to'⟩:=to';exact⟨z'',b''.extBut _ _ n1 ti',⟨a,b,b''.extBut _ _ n2 to'⟩,s1'.of λo e=>b''.extBut _ _ n3 e,s2'.of λo e=>b''.extBut _ _ n4 e⟩
  ·rw[upd_ne (nz b hb)];exact (hf b hb).1
 done:=by
  intro X hP hw hK hc i pins s σ H E I hf st hg;subst hP hw hK;obtain⟨xs,ys,q1,q2,en⟩:=hg;have hT:s.TypeIs (.ref z) "zip" :=⟨_,st.z,rfl⟩;unfold pyNext;refine acz (afq (ada (name:=adb "__next__") hT F.slot_zip_next (adi F.slot_zip_next hT F.entry_zip_next
   (Wn (I.ok.hd hc) I (hf z (by simp)) (hf TO (by simp)) (hf i1 (by simp)) (hf i2 (by simp)) n1 n2 n3 n4 n5 n6 n7 n8 n9 n10 st q1 q2 en λh' e I' ex=>?_) (F.args_zip_next_1 _))))
  obtain⟨o,ho,ec⟩:=ex;exact acz (afk (T:= "StopIteration") (b:=true) ⟨o,ho,ec⟩ isSubtype_stop (acF ⟨rfl,I'⟩))
 self:=λ_ _ _ _ _ st h=>wpAny_pyIter_zip st.z h
abbrev itR(t:Bool)(l:acA):Obj:={cls:= .type (itC t),data:= .fields #[.ref l,.int 0 0]}
abbrev T9(h:acP)(t1:Bool)(l1:acA):acP:=h.push (itR t1 l1)
abbrev XR(h:acP)(t1:Bool)(l1:acA)(t2:Bool)(l2:acA):acP:=(T9 h t1 l1).push (itR t2 l2)
abbrev XS(h:acP)(t1:Bool)(l1:acA)(t2:Bool)(l2:acA):acP:=(XR h t1 l1 t2 l2).push {cls:= .type "tuple",data:= .seq #[.ref h.objs.size,.ref (T9 h t1 l1).objs.size]}
abbrev X3(h:acP)(t1:Bool)(l1:acA)(t2:Bool)(l2:acA):acP:=(XS h t1 l1 t2 l2).push {cls:= .type "tuple",data:= .seq #[.none,.none]}
abbrev Px(h:acP)(t1:Bool)(l1:acA)(t2:Bool)(l2:acA):acP:=(X3 h t1 l1 t2 l2).push {cls:= .type "zip",data:= .fields #[.none,.bool false,.bool false,.ref (XR h t1 l1 t2 l2).objs.size,.ref (XS h t1 l1 t2 l2).objs.size]}
theorem Rj(t1:Bool)(l1:acA)(t2:Bool)(l2:acA)(xs ys:Array acB):Meets (ad1.«zip.__new__» ⟨[.type "zip",.ref l1,.ref l2],[]⟩)
  (λ_ R s=>p7 t1 s.heap l1 xs/\p7 t2 s.heap l2 ys/\R (.ok (.ret (.ref (X3 s.heap t1 l1 t2 l2).objs.size))) {s with heap:=Px s.heap t1 l1 t2 l2}):=
 .of_wp λprog w A R s h=>by
  obtain⟨hp,g,d,tk,os⟩:=s;obtain⟨k1,k2,h⟩:=h;have hsub:=sub_zip;have L1:p7 t1 (Shared.heap ⟨hp,g,d,tk,os⟩) l1 xs:=k1;have L2:p7 t2 (Shared.heap ⟨T9 hp t1 l1,g,d,tk,os⟩) l2 ys:=k2.of λo e=>z1a _ e
  wp_walk using Dv L1,Dv L2
  exact⟨_,rfl,h⟩
section
variable{prog:acL}{w:acQ}{A:acO}{E:acB->acC->Prop}{s:acC}
theorem Ua{ys:Array acB}(k1:p7 t1 s.heap l1 xs)(k2:p7 t2 s.heap l2 ys)
  (h:∀h',Z2 h' (s.heap.objs.size+4) (s.heap.objs.size+2) (s.heap.objs.size+3) s.heap.objs.size (s.heap.objs.size+1) t1 t2 l1 l2 0->(∀c o,s.heap.get? c=some o->h'.get? c=some o)->Q (.ref (s.heap.objs.size+4)) {s with heap:=h'}):
  acG (model prog w) A (call (.type "zip") [.ref l1,.ref l2]) Q E s:=by
 refine callType_new F.called_zip (by decide) (F.typeCall_zip_2 _ _) (F.newCall_zip_2 _ _) (λobj=>F.args_object_init_3 obj _ _) F.entry_zip_new (Rj t1 l1 t2 l2 xs ys) ⟨k1,k2,?_⟩;have z1:(T9 s.heap t1 l1).objs.size=s.heap.objs.size+1:=adE ..;have z2:(XR s.heap t1 l1 t2 l2).objs.size=s.heap.objs.size+2:=by rw[adE,z1]
 have z3:(XS s.heap t1 l1 t2 l2).objs.size=s.heap.objs.size+3:=by rw[adE,z2]
 have z4:(X3 s.heap t1 l1 t2 l2).objs.size=s.heap.objs.size+4:=by rw[adE,z3]
 have a5:(Px s.heap t1 l1 t2 l2).get? (X3 s.heap t1 l1 t2 l2).objs.size=some _:=z1f _ rfl;have a4:(Px s.heap t1 l1 t2 l2).get? (XS s.heap t1 l1 t2 l2).objs.size=some _:=z1a _ (z1f _ rfl);have a3:(Px s.heap t1 l1 t2 l2).get? (XR s.heap t1 l1 t2 l2).objs.size=some _:=z1a _ (z1a _ (z1f _ rfl));have a2:(Px s.heap t1 l1 t2 l2).get? (T9 s.heap t1 l1).objs.size=some (itR t2 l2):=z1a _ (z1a _ (z1a _ (z1f _ rfl)));have a1:(Px s.heap t1 l1 t2 l2).get? s.heap.objs.size=some (itR t1 l1):=z1a _ (z1a _ (z1a _ (z1a _ (z1f _ rfl))));show _/\_;rw[z2,z3,z4] at a5;rw[z1,z2] at a3;rw[z3] at a4;rw[z1] at a2;rw[z4];exact⟨⟨_,a5,rfl⟩,h _ ⟨a5,a3,⟨_,_,a4⟩,.new a1,.new a2⟩ λc o e=>z1a _ (z1a _ (z1a _ (z1a _ (z1a _ e))))⟩
end
theorem aas:aea "zip" =some (.type "zip"):=by decide +kernel
section
variable{X:Cx}{oX:List acI}{kk:Nat}{pp:Pos}{a b:acI}{p pos:Pos}
def abz(K:PySem.W.Frag)(ta:TA):TI:=λσ H R=>ta σ H λvs H1=>∃t1 l1 t2 l2,vs=[.ref l1,.ref l2]/\(∃xs,Sq t1 K H1 l1 xs)/\(∃ys,Sq t2 K H1 l2 ys)/\R (Wm K t1 l1 t2 l2) H1
theorem YJ {ta:TA} (hg:Gl X "zip") (hm:X.mg "zip" =none) (ha:PA X [a,b] ta) (he:starEach [a,b] X.env=(false,eval a X.env)::starEach [b] X.env:=by rfl) (hpl:(backTo pos (starEach [b] X.env)).any (·.1)=false:=by rfl):
    PI X (.Tuple oX kk pp) (.Call (.Name "zip" p) [a,b] [] pos) (abz X.K ta):=by
  intro pins s σ H R I h
  refine Call_ (ld_blt I hg hm aas (adn (thn (ha pos pins s σ H _ I h) fun us s1 ⟨vs,H1,I1,r1,q1⟩=>?_) he hpl))
  obtain⟨t1,l1,t2,l2,e,⟨xs,w1⟩,⟨ys,w2⟩,q⟩:=q1
  subst e
  cases r1 with
  | cons r rr=>
    cases rr with
    | cons r' rr=>
      cases rr
      cases r
      cases r'
      obtain⟨vs1,_,p1⟩:=I1.sq w1
      obtain⟨vs2,_,p2⟩:=I1.sq w2
      refine Ua p1 p2 fun h' st k=>wpAny_pyIter_zip st.z ⟨s1.heap.objs.size+4,[s1.heap.objs.size+4,s1.heap.objs.size+2,s1.heap.objs.size+3,s1.heap.objs.size,s1.heap.objs.size+1],_,_,H1,rfl,I1.kept (t':=s1.toks) k,T8 ?_ ?_ ?_ ?_ ?_ ?_ ?_ ?_ ?_ ?_,st,fun c hc=>(by
        have hle:s1.heap.objs.size≤c:=by
          simp only[acR,adW,or_false] at hc
          rcases hc with rfl |rfl |rfl |rfl |rfl <;> first |exact ahs _ |exact aeV _ _
        exact I1.fpOk hle (I1.hok.fresh hle)),q⟩
      all_goals (show @Ne Nat _ _;omega)
end
def GR(xs ys:List D):List D:=(xs.zip ys).map λp=> .tup [p.1,p.2]
def zip2:List D->R (List D)
 |[x,y]=>(je x).bind λxs=>(je y).bind λys=> .ok (GR xs ys)
 |_=> .bad
section
variable{K:PySem.W.Frag}{O:acA->Prop}{H:Hp}
structure Src(K:PySem.W.Frag)(O:acA->Prop)(H:Hp)(t:Bool)(a:acA)(ds:List D):Prop where
 ex:∃vs,Sq t K H a vs/\aO K O H ds vs
 no:t=false->¬O a
theorem KZ{d:D}{v:V}(r:Rep K O H d v)(h:je d= .ok ds):∃t a,v= .ref a/\Src K O H t a ds:=by
 cases d with
 |tup es=>cases h;obtain⟨a,xs,rfl,q,rs⟩:=r.tup;exact⟨true,a,rfl,⟨xs,q,rs⟩,λz=>by cases z⟩
 |lst es=>cases h;obtain⟨a,xs,rfl,q,n,rs⟩:=r.lst;exact⟨false,a,rfl,⟨xs,q,rs⟩,λ_=>n⟩
 |_=>cases h
theorem Src.go{O':acA->Prop}{H':Hp}{a:acA}(s:Src K O H t a ds)(q:eN K O H O' H'):∃vs,Sq t K H' a vs/\aO K O' H' ds vs:=by
 obtain⟨vs,h,r⟩:=s.ex;cases t with
 |true=>exact⟨vs,SqT.ext q.ext h,r.go q⟩
 |false=>exact⟨vs,SqL.ext q.ext (s.no rfl) h,r.go q⟩
theorem Wo{xs ys:List D}{d:D}(h:(GR xs ys)[i]?=some d):∃x y,xs[i]?=some x/\ys[i]?=some y/\d= .tup [x,y]:=by
 unfold GR at h;rw[z2b] at h;cases e:(xs.zip ys)[i]? with
 |none=>rw[e] at h;cases h
 |some p=>rw[e] at h;cases h;obtain⟨h1,h2⟩:=List.getElem?_zip_eq_some.mp e;exact⟨_,_,h1,h2,rfl⟩
theorem YR.zip2{a1 a2:acA}{xs ys:List D}(s1:Src K O H t1 a1 xs)(s2:Src K O H t2 a2 ys):YR K O H (Wm K t1 a1 t2 a2) (GR xs ys):=by
 intro O' H' q i;obtain⟨v1,q1,r1⟩:=s1.go q;obtain⟨v2,q2,r2⟩:=s2.go q;refine⟨λd e=>?_,λe=>⟨v1,v2,q1,q2,?_⟩⟩
 ·obtain⟨x,y,e1,e2,rfl⟩:=Wo e;obtain⟨u1,g1,w1⟩:=r1.get e1;obtain⟨u2,g2,w2⟩:=r2.get e2;refine⟨⟨v1,v2,u1,u2,q1,g1,q2,g2⟩,λx H2 y=>?_⟩;obtain⟨p,x1,x2,hp,rfl,rfl,k1,k2⟩:=y;have k1:=k1 _ q1;have k2:=k2 _ q2;rw[g1] at k1;cases k1;rw[g2] at k2;cases k2;exact⟨Same.upd hp,gw (SqT.of upd_same) ((aO.cons w1 (.cons w2 .nil)).same (Same.upd hp))⟩
 ·rw[<-r1.length,<-r2.length];simp only[GR,z1g,List.length_zip] at e;omega
end
section
variable{X:Cx}{oX:List acI}{kk:Nat}{pp:Pos}{a b:acI}{p pos:Pos}{fa:ao->R (List D)}
theorem Py(hg:Gl X "zip")(hm:X.mg "zip" =none)(ha:DA X [a,b] fa)(he:acE [a,b] X.env=(false,eval a X.env)::acE [b] X.env:=by rfl)(hpl:(adg pos (acE [b] X.env)).any (·.1)=false:=by rfl):
  DI X (.Tuple oX kk pp) (.Call (.Name "zip" p) [a,b] [] pos) (λρ=>(fa ρ).bind zip2):=by
 refine PI.imp (YJ hg hm ha he hpl) λσ H Q q=>?_;obtain⟨ρ,O,j,q⟩:=q;refine go j q λds vs H1 e1 s1 r1 j1 h1=>?_;unfold zip2 at h1;split at h1
 ·rename_i x y;obtain⟨v1,v2,rfl,w1,w2⟩:=r1.two;cases ex:je x with
  |bad=>rw[ex] at h1;exact h1.elim
  |err c=>rw[ex] at h1;cases x <;> cases ex
  | ok xs=>
   cases ey:je y with
   |bad=>rw[ex,R.bw,ey] at h1;exact h1.elim
   |err c=>cases y <;> cases ey
   | ok ys=>
    rw[ex,R.bw,ey,R.bw] at h1;obtain⟨t1,a1,rfl,c1⟩:=KZ w1 ex;obtain⟨t2,a2,rfl,c2⟩:=KZ w2 ey;obtain⟨vs1,k1,_⟩:=c1.ex;obtain⟨vs2,k2,_⟩:=c2.ex;exact⟨t1,a1,t2,a2,rfl,⟨vs1,k1⟩,⟨vs2,k2⟩,fin h1 (YR.zip2 c1 c2)⟩
 ·exact h1.elim
end
section
variable{X:Cx}{pins:List (acA×Obj)}{σ:St}{H:Hp}{s:acC}{A':acO}{E:acB->acC->Prop}
end
section
variable{prog:acL}{w:acQ}{A:acO}{E:acB->acC->Prop}{s:acC}
end
section
variable{X:Cx}{oX:List acI}{kk:Nat}{pp:Pos}{a b c:acI}{p pos:Pos}
end
section
variable{K:PySem.W.Frag}{O:acA->Prop}{H:Hp}
theorem aO.three{d e f:D}{xs:List V}(r:aO K O H [d,e,f] xs):∃x y z,xs=[x,y,z]/\Rep K O H d x/\Rep K O H e y/\Rep K O H f z:=by
 obtain⟨x,t,rfl,h1,h2⟩:=r.cons_inv;obtain⟨y,z,rfl,h3,h4⟩:=h2.two;exact⟨x,y,z,rfl,h1,h3,h4⟩
end
section
variable{X:Cx}{oX:List acI}{kk:Nat}{pp:Pos}{a b c:acI}{p pos:Pos}{fa:ao->R (List D)}
theorem NQ{x:D}{c:Str}(h:je x= .err c):False:=by cases x <;> cases h
end
section
variable{X:Cx}
theorem Pz:∀{ns:List Int} {its:List acB},Vals (ns.map V.int) its->aeD its ns
 |[],_,r=>by cases r;exact .nil
 | n::ns,_,r=>by
  cases r with
  |cons h t=>obtain⟨tk,rfl⟩:=h;exact .cons n tk (Pz t)
theorem Ir{K:PySem.W.Frag}{O:acA->Prop}{H:Hp}:∀{ds:List D} {ns:List Int} {vs:List V},intsOf ds=some ns->aO K O H ds vs->vs=ns.map V.int
 |[],ns,vs,e,r=>by cases e;exact r.nil_inv
 | d ::ds,ns,vs,e,r=>by
  obtain⟨x,t,rfl,h1,h2⟩:=r.cons_inv;cases d with
  | int i=>
   have e:(intsOf ds).map (i:: ·)=some ns:=e;cases q:intsOf ds with
   |none=>rw[q] at e;cases e
   |some l=>rw[q] at e;cases e;rw[h1.int,Ir q h2];rfl
  |_=>cases e
theorem xT{K:PySem.W.Frag}{O:acA->Prop}{H:Hp}:∀{ns:List Int},aO K O H (ns.map D.int) (ns.map V.int)
 |[]=> .nil
 |_::_=> .cons (bN _) xT
variable{pos:Pos}
end
def Ite(K:PySem.W.Frag)(t:Bool)(l:acA):It:=
 ⟨λi H=>∃xs x,Sq t K H l xs/\xs[i]?=some x,
  λi H v H'=>∃p x,H p=none/\v= .ref p/\H'=upd H p (.tup [.int (i:Int),x])/\∀xs,Sq t K H l xs->xs[i]?=some x,
  λi H=>∃xs,Sq t K H l xs/\xs.length<=i⟩
section
variable{X:Cx}{pins:List (acA×Obj)}{σ:St}{H:Hp}{s:acC}{A':acO}{E:acB->acC->Prop}
theorem Ub{e:acA}{xs:List V}{x:V}{old:acB}(I:Inv X pins σ H s)(fe:FpOk X pins H e)(fi:FpOk X pins H it)(ne:e≠it)
  (he:aeW s.heap e it k old)(hs:lQ t s.heap it l k)(q:Sq t X.K H l xs)(ex:xs[k]?=some x)
  (hQ:∀h' u,Inv X pins σ (upd H s.heap.objs.size (.tup [.int (k:Int),x])) {s with heap:=h',toks:=s.toks+1}->agB h' e it ((k:Int)+1) u s.heap.objs.size->lQ t h' it l (k+1)->Q (.ref s.heap.objs.size) {s with heap:=h',toks:=s.toks+1}):
  acG (model X.prog X.w) A' (ad1.«enumerate.__next__» ⟨[.ref e],[]⟩) (λfin s'=>∃v,fin= .done (.ret v)/\Q v s') E s:=by
 obtain⟨us,r1,p1⟩:=I.sq q;obtain⟨u,hu,ru⟩:=r1.get ex;obtain⟨hp,g,d,tk,os⟩:=s;show acG _ _ (field (.ref e) 2 >>=_) _ _ _;refine acz (acW he rfl (x:= .ref it) rfl ?_);refine acz (J4 hs p1 (v:=u) (by simpa using hu) λg1 s1 b1=>?_);have I1:=I.fp fi b1
 replace b1:adw it hp g1:=b1
 have e1:aeW g1 e it k old:=(b1.2 e ne).trans he;show acG _ _ (field (.ref e) 3 >>=_) _ _ ⟨g1,g,d,tk,os⟩;refine acz (acW e1 rfl (x:=ado k) rfl ?_);show acG _ _ (field (.ref e) 4 >>=_) _ _ ⟨g1,g,d,tk,os⟩;refine acz (acW e1 rfl (x:= .none) rfl ?_);show acG _ _ (mkInt k >>=_) _ _ ⟨g1,g,d,tk,os⟩;refine acz (wpAny_mkInt ?_);have I1':Inv X pins σ H ⟨g1,g,d,tk+1,os⟩:=Inv.tok (s:=⟨g1,g,d,tk,os⟩) I1 (tk+1);show acG _ _ (ahh (.ref e) 3 (ado ((k:Int)+1)) >>=_) _ _ ⟨g1,g,d,tk+1,os⟩;refine acz (ade e1 (by simp) λg2 e2 b2=>?_);have I2:=I1'.fp fe b2
 replace b2:adw e g1 g2:=b2
 replace e2:aeW g2 e it ((k:Int)+1) old:=e2
 show acG _ _ (ahh (.ref e) 4 .none >>=_) _ _ ⟨g2,g,d,tk+1,os⟩;refine acz (ade e2 (by simp) λg3 e3 b3=>?_);have I3:=I2.fp fe b3
 replace b3:adw e g2 g3:=b3
 replace e3:aeW g3 e it ((k:Int)+1) old:=e3
 show acG _ _ (newTuple [.int k tk,u] >>=_) _ _ ⟨g3,g,d,tk+1,os⟩;refine acz (afL ?_);have sz:g3.objs.size=hp.objs.size:=by rw[b3.1,b2.1,b1.1]
 have lt:e≠g3.objs.size:=ac2 (z2c e3);have I4:Inv X pins σ (upd H g3.objs.size (.tup [.int (k:Int),x])) ⟨g3.push {cls:= .type "tuple",data:= .seq #[.int k tk,u]},g,d,tk+1,os⟩:=
  Inv.laid (s:=⟨g3,g,d,tk+1,os⟩) (t':=tk+1) I3 (λb u e=>z1a _ e) (z0g _) ⟨KY,[.int k tk,u],.cons ⟨tk,rfl⟩ (.cons ru .nil),⟨_,z1f _ rfl,rfl,rfl,_,rfl⟩⟩
 have e4:aeW (g3.push {cls:= .type "tuple",data:= .seq #[.int k tk,u]}) e it ((k:Int)+1) old:=z1a _ e3;have s4:lQ t (g3.push {cls:= .type "tuple",data:= .seq #[.int k tk,u]}) it l (k+1):=s1.of λo z=>z1a _ (b3.extBut _ _ (acN ne) (b2.extBut _ _ (acN ne) z));show acG _ _ (ac9 (.ref e) >>=_) _ _ ⟨g3.push {cls:= .type "tuple",data:= .seq #[.int k tk,u]},g,d,tk+1,os⟩
 generalize g3.push {cls:= .type "tuple",data:= .seq #[.int k tk,u]}=g4 at *
 refine acz ?_;unfold ac9;refine acz (acW e4 rfl (x:= .none) rfl (acF ?_));simp only[if_true];refine acz (aej (acz (acW e4 rfl (x:=old) rfl ?_)));refine acz (ade e4 (by simp) λg5 e5 b5=>?_);have I5:=I4.fp (fe.upd lt) b5
 replace b5:adw e g4 g5:=b5
 replace e5:aeW g5 e it ((k:Int)+1) u:=e5
 show acG _ _ (adB (.ref e) (.ref g3.objs.size) >>=_) _ _ ⟨g5,g,d,tk+1,os⟩;refine acz ?_;unfold adB;refine acz (ade e5 (by simp) λg6 e6 b6=>?_);have I6:=I5.fp (fe.upd lt) b6
 replace b6:adw e g5 g6:=b6
 replace e6:agB g6 e it ((k:Int)+1) u g3.objs.size:=e6
 refine ade e6 (by simp) λg7 e7 b7=>?_;have I7:=I6.fp (fe.upd lt) b7
 replace b7:adw e g6 g7:=b7
 replace e7:agB g7 e it ((k:Int)+1) u g3.objs.size:=e7
 refine acz (aez (acF ⟨_,rfl,?_⟩));rw[sz] at I7 e7;show Q (.ref g3.objs.size) _;rw[sz];exact hQ g7 u I7 e7 (s4.of λo z=>b7.extBut _ _ (acN ne) (b6.extBut _ _ (acN ne) (b5.extBut _ _ (acN ne) z)))
end
theorem Uc{oX:List acI}{kk}{pp:Pos}{e:acA}(ne:e≠it):
  Turn P w K (.Tuple oX kk pp) (Ite K t l) [e,it] e (λi h=>(∃old,aeW h e it i old)/\lQ t h it l i) where
 mem:=by simp
 obj:=λi h st b hb=>by
  obtain⟨⟨old,he⟩,hs⟩:=st;simp only[acR,adW,or_false] at hb;rcases hb with rfl |rfl
  ·exact⟨_,he,λv q=>by have q':agu _=af8 v:=q;cases q'⟩
  ·exact hs.obj
 keep:=λi h h' st k=>by
  obtain⟨⟨old,he⟩,hs⟩:=st;exact⟨⟨old,k _ (by simp) _ he⟩,hs.of λo z=>k _ (by simp) o z⟩
 item :=by
  intro X hP hw hK hc i pins s σ H E I hf st hg;subst hP hw hK;obtain⟨⟨old,he⟩,hs⟩:=st;obtain⟨xs,x,q,ex⟩:=hg;have hT:s.TypeIs (.ref e) "enumerate" :=⟨_,he,rfl⟩;have hp:H s.heap.objs.size=none:=I.hok.fresh (z0g _);have nz:∀b,b∈[e,it]->b≠s.heap.objs.size:=λb hb z=>by
   obtain⟨o,eo⟩:∃o,s.heap.get? b=some o:=by
    simp only[acR,adW,or_false] at hb;rcases hb with rfl |rfl
    ·exact⟨_,he⟩
    ·obtain⟨o,eo,_⟩:=hs.obj;exact⟨o,eo⟩
   exact absurd (z2c eo) (by rw[z];exact adH _)
  unfold pyNext;refine acz (afq (ada (name:=adb "__next__") hT F.slot_enumerate_next (adi F.slot_enumerate_next hT F.entry_enumerate_next
   (Ub I (hf e (by simp)) (hf it (by simp)) ne he hs q ex λh' u I' e' s'=>acF ⟨_,rfl,?_⟩) (F.args_enumerate_next_1 _))))
  refine wpAny_letOwnedTupleGo_enum e' λh'' e'' b''=>⟨.ref s.heap.objs.size,upd H s.heap.objs.size (.tup [.int (i:Int),x]),I'.fp ((hf e (by simp)).upd (nz e (by simp))) b'',rfl,⟨_,x,hp,rfl,rfl,λxs' q'=>by rw[I.KR q' q];exact ex⟩,⟨⟨u,by simpa using e''⟩,s'.of λo z=>b''.extBut _ _ (acN ne) z⟩,λb hb=>?_⟩;rw[upd_ne (nz b hb)];exact (hf b hb).1
 done:=by
  intro X hP hw hK hc i pins s σ H E I hf st hg;subst hP hw hK;obtain⟨⟨old,he⟩,hs⟩:=st;obtain⟨xs,q,en⟩:=hg;obtain⟨us,r1,p1⟩:=I.sq q;have hT:s.TypeIs (.ref e) "enumerate" :=⟨_,he,rfl⟩;unfold pyNext;refine acz (afq (ada (name:=adb "__next__") hT F.slot_enumerate_next (adi F.slot_enumerate_next hT F.entry_enumerate_next ?_ (F.args_enumerate_next_1 _))));show acG _ _ (field (.ref e) 2 >>=_) _ _ _;refine acz (acW he rfl (x:= .ref it) rfl ?_);refine acz (BK (I.ok.hd hc) hs p1 (by have:=r1.length;simp;omega) λg1 x eb bA=>?_);obtain⟨o,ho,ec⟩:=bA;exact acz (afk (T:= "StopIteration") (b:=true) ⟨o,ho,ec⟩ isSubtype_stop (acF ⟨rfl,I.fpE (hf it (by simp)) eb⟩))
 self:=λ_ _ _ _ _ st h=>by
  obtain⟨⟨old,he⟩,_⟩:=st;exact afP he h
theorem NT(t:Bool)(l:acA)(xs:Array acB):Meets (ad1.«enumerate.__new__» ⟨[.type "enumerate",.ref l],[]⟩)
  (λ_ R s=>p7 t s.heap l xs/\R (.ok (.ret (.ref (s.heap.push (itR t l)).objs.size))) {s with heap:=(s.heap.push (itR t l)).push {cls:= .type "enumerate",data:= .fields #[.none,.bool false,.ref s.heap.objs.size,ado 0,.none,.none]}}):=
 .of_wp λprog w A R s h=>by
  obtain⟨hp,g,d,tk,os⟩:=s;obtain⟨k1,h⟩:=h;have hsub:=sub_enumerate;have L1:p7 t (Shared.heap ⟨hp,g,d,tk,os⟩) l xs:=k1
  wp_walk using Dv L1
  refine wpAny_stack_any λst=>acF ?_;split
  ·rename_i c _ _ _ _ _;cases (c ==acJ "enumerate") <;> (wp_walk using Dv L1;exact⟨_,rfl,h⟩)
  ·wp_walk using Dv L1
   exact⟨_,rfl,h⟩
section
variable{prog:acL}{w:acQ}{A:acO}{E:acB->acC->Prop}{s:acC}
theorem Rk(k1:p7 t s.heap l xs)
  (h:∀h',aeW h' (s.heap.objs.size+1) s.heap.objs.size 0 .none->lQ t h' s.heap.objs.size l 0->(∀c o,s.heap.get? c=some o->h'.get? c=some o)->Q (.ref (s.heap.objs.size+1)) {s with heap:=h'}):
  acG (model prog w) A (call (.type "enumerate") [.ref l]) Q E s:=by
 refine callType_new F.called_enumerate (by decide) (F.typeCall_enumerate_1 _) (F.newCall_enumerate_1 _) (λobj=>F.args_object_init_2 obj _) F.entry_enumerate_new (NT t l xs) ⟨k1,?_⟩;have z1:(s.heap.push (itR t l)).objs.size=s.heap.objs.size+1:=adE ..;have a2:((s.heap.push (itR t l)).push {cls:= .type "enumerate",data:= .fields #[.none,.bool false,.ref s.heap.objs.size,ado 0,.none,.none]}).get? (s.heap.push (itR t l)).objs.size=some _:=z1f _ rfl;show _/\_;rw[z1] at a2 |-;exact⟨⟨_,a2,rfl⟩,h _ a2 (.new (z1a _ (z1f _ rfl))) λc o e=>z1a _ (z1a _ e)⟩
end
section
variable{X:Cx}{oX:List acI}{kk:Nat}{pp:Pos}{a:acI}{p pos:Pos}{fa:ao->R (List D)}
def abA(K:PySem.W.Frag)(ta:TA):TI:=λσ H R=>ta σ H λvs H1=>∃t l,vs=[.ref l]/\(∃xs,Sq t K H1 l xs)/\R (Ite K t l) H1
theorem YK {ta:TA} (hg:Gl X "enumerate") (hm:X.mg "enumerate" =none) (ha:PA X [a] ta) (he:starEach [a] X.env=(false,eval a X.env)::starEach [] X.env:=by rfl) (hpl:(backTo pos (starEach [] X.env)).any (·.1)=false:=by rfl):
    PI X (.Tuple oX kk pp) (.Call (.Name "enumerate" p) [a] [] pos) (abA X.K ta):=by
  intro pins s σ H R I h
  refine Call_ (ld_blt I hg hm boot_enumerate (adn (thn (ha pos pins s σ H _ I h) fun us s1 ⟨vs,H1,I1,r1,q1⟩=>?_) he hpl))
  obtain⟨t,l,e,⟨xs,w1⟩,q⟩:=q1
  subst e
  cases r1 with
  | cons r rr=>
    cases rr
    cases r
    obtain⟨vs1,_,p1⟩:=I1.sq w1
    refine Rk p1 fun h' e' s' k=>wpAny_pyIter_enum e' ⟨s1.heap.objs.size+1,[s1.heap.objs.size+1,s1.heap.objs.size],_,_,H1,rfl,I1.kept (t':=s1.toks) k,Uc ?_,⟨⟨_,e'⟩,s'⟩,fun c hc=>(by
        have hle:s1.heap.objs.size≤c:=by
          simp only[acR,adW,or_false] at hc
          rcases hc with rfl |rfl <;> first |exact ahs _ |exact aeV _ _
        exact I1.fpOk hle (I1.hok.fresh hle)),q⟩
    all_goals (show @Ne Nat _ _;omega)
def fX:Nat->List D->List D
 |_,[]=>[]
 |n,d::ds=> .tup [.int (n:Int),d]::fX (n+1) ds
theorem xU:∀{ds:List D} {n i:Nat} {d:D},(fX n ds)[i]?=some d->∃x,ds[i]?=some x/\d= .tup [.int ((n+i:Nat):Int),x]
 |[],_,_,_,h=>by simp[fX] at h
 |x::ds,n,0,d,h=>by simp[fX] at h;exact⟨x,rfl,by rw[<-h];rfl⟩
 | x::ds,n,i+1,d,h=>by
  rw[fX,ahm] at h;obtain⟨y,e1,e2⟩:=xU h;exact⟨y,by rw[ahm];exact e1,by rw[e2,show n+1+i=n+(i+1) by omega]⟩
theorem xV:∀{ds:List D} {n:Nat},(fX n ds).length=ds.length
 |[],_=>rfl
 |_::ds,n=>by rw[fX,acX,xV,acX]
def sO:List D->R (List D)
 |[x]=>(je x).bind λxs=> .ok (fX 0 xs)
 |_=> .bad
theorem YR.enum{a:acA}{xs:List D}(s1:Src K O H t a xs):YR K O H (Ite K t a) (fX 0 xs):=by
 intro O' H' q i;obtain⟨v1,q1,r1⟩:=s1.go q;refine⟨λd e=>?_,λe=>⟨v1,q1,?_⟩⟩
 ·obtain⟨x,e1,rfl⟩:=xU e;obtain⟨u1,g1,w1⟩:=r1.get e1;refine⟨⟨v1,u1,q1,g1⟩,λx H2 y=>?_⟩;obtain⟨p,x1,hp,rfl,rfl,k1⟩:=y;have k1:=k1 _ q1;rw[g1] at k1;cases k1;rw[Nat.zero_add];exact⟨Same.upd hp,gw (SqT.of upd_same) ((aO.cons (bN _) (.cons w1 .nil)).same (Same.upd hp))⟩
 ·rw[<-r1.length,<-xV (n:=0)];exact e
theorem GX(hg:Gl X "enumerate")(hm:X.mg "enumerate" =none)(ha:DA X [a] fa)(he:acE [a] X.env=(false,eval a X.env)::acE [] X.env:=by rfl)(hpl:(adg pos (acE [] X.env)).any (·.1)=false:=by rfl):
  DI X (.Tuple oX kk pp) (.Call (.Name "enumerate" p) [a] [] pos) (λρ=>(fa ρ).bind sO):=by
 refine PI.imp (YK hg hm ha he hpl) λσ H Q q=>?_;obtain⟨ρ,O,j,q⟩:=q;refine go j q λds vs H1 e1 s1 r1 j1 h1=>?_;unfold sO at h1;split at h1
 ·rename_i x;obtain⟨v1,rfl,w1⟩:=r1.one;cases ex:je x with
  |bad=>rw[ex] at h1;exact h1.elim
  |err c=>exact (NQ ex).elim
  | ok xs=>
   rw[ex,R.bw] at h1;obtain⟨t1,a1,rfl,c1⟩:=KZ w1 ex;obtain⟨vs1,k1,_⟩:=c1.ex;exact⟨t1,a1,rfl,⟨vs1,k1⟩,fin h1 (YR.enum c1)⟩
 ·exact h1.elim
end
section
variable{prog:acL}{w:acQ}{A:acO}{E:acB->acC->Prop}{s:acC}
end
section
variable{X:Cx}{a:acI}{p pos p2 pos2:Pos}{fa:ao->R (List D)}
def aat(K:PySem.W.Frag)(ta:TA):TE:=λσ H Q=>ta σ H λvs H1=>∃j:Int,vs=[.int j]/\0<=j/\j<=1000/\∀q,H1 q=none->Q (.ref q) (upd H1 q (.rng 0 j))
theorem aau{ta:TA}(hg:Gl X "range")(hm:X.mg "range" =none)(ha:PA X [a] ta)(hs:acE [a] X.env=[(false,eval a X.env)]:=by rfl):PE X (.Call (.Name "range" p) [a] [] pos) (aat X.K ta):=by
 intro pins s σ H Q I h;refine Call_ (ld_blt I hg hm boot_range (adn (thn (ha pos pins s σ H _ I h) λus s1 ⟨vs,H1,I1,r1,q1⟩=>?_) hs rfl));obtain⟨j,e,h0,h1,q⟩:=q1;subst e;cases r1 with
 | cons r rr=>
  cases rr;obtain⟨t,rfl⟩:=r;refine call_range_1 ?_;exact⟨.ref s1.heap.objs.size,upd H1 s1.heap.objs.size (.rng 0 j),I1.laid (λb o e=>z1a _ e) (z0g _) ⟨_,_,_,z1f _ rfl⟩,rfl,q _ (I1.hok.fresh (z0g _))⟩
end
section
variable{X:Cx}{e:acI}{f:ao->R D}{pos:Pos}
def BL(i:Nat)(f:ao->R D):ao->So:=λρ=>match ρ[i]? with
 | some (some (.val (.int a)))=>gZ (f ρ) ρ λd=>match d with
  | .int b=> .nx (ρ.set i (some (.val (.int (a+b)))))
  |_=> .bad
 |_=> .bad
theorem Ud(i:Nat){x:Str}{pos':Pos}(hN:X.N.Nodup)(he:DE X e f)(hi:X.N[i]?=some x:=by rfl)(hx:Loc X.env.scope x:=by first |exact adS rfl |exact adA rfl)
  (hf:X.fn x=true\/X.env.scope.names.lookup x=some .local:=by first |exact .inl rfl |exact .inr rfl):DS X (.AugAssign (.Name x pos') .Add e pos) (BL i f):=by
 refine PS.imp (ps_aug hN hi hx he ip_add hf) λσ H E h=>?_;obtain⟨H0,O0,O,ρ,j,h⟩:=h;unfold BL at h;cases e1:ρ[i]? with
 |none=>simp only[e1] at h;exact h.elim
 | some oe =>
  cases oe with
  |none=>simp only[e1] at h;exact h.elim
  | some en=>
   cases en with
   |lst _=>simp only[e1] at h;exact h.elim
   |xr _=>simp only[e1] at h;exact h.elim
   |rws _=>simp only[e1] at h;exact h.elim
   |obj _=>simp only[e1] at h;exact h.elim
   | val d=>
    cases d with
    | int a=>
     simp only[e1] at h;obtain⟨v,hv,rv⟩:=j.inn.env.get i _ e1;have rv:v= .int a:=Rep.int (K:=X.K) (O:=O) (H:=H) rv;subst rv;refine⟨.int a,hv,ρ,O,j.inn,?_⟩;unfold gZ at h;cases e2:f ρ with
     |bad=>rw[e2] at h;exact h
     |err c=>rw[e2] at h;exact h σ H O j
     | ok d=>
      rw[e2] at h;intro v' H' s r;cases d with
      |int b=>exact⟨a,b,rfl,r.int,h _ H' O ((j.grow s).set (z1b hi).1 (bN _)) (Same.dM s)⟩
      |_=>exact h.elim
    |_=>simp only[e1] at h;exact h.elim
def Wq(K:PySem.W.Frag)(mg:Str->Option acB)(x:Str)(ss:List Str):Prop:=∃a,mg x=some (.ref a)/\∀H,SqT K H a (ss.map V.str)
theorem Iu{K:PySem.W.Frag}{O:acA->Prop}{H:Hp}:∀{ss:List Str},aO K O H (ss.map D.str) (ss.map V.str)
 |[]=> .nil
 |_::_=> .cons (gq _) Iu
theorem YL{x:Str}{ss:List Str}{pos:Pos}(hg:Gl X x)(h:Wq X.K X.mg x ss)(hd:(x ==("__debug__" :Str))=false:=by decide):DE X (.Name x pos) (λ_=> .ok (.tup (ss.map D.str))):=by
 obtain⟨a,hm,hq⟩:=h;exact Gz (pe_glob (v:= .ref a) hg hm rfl hd) λ_ H=>gw (hq H) Iu
end
theorem YM{x:Str}{ss:List Str}{a:acA}{its:Array acB}{sl:Array (Option acB)}(X:K.In h)(G:h.Ns acK mg)
  (y:PySem.W.nsIn K acK x=some (some (.ref a)))(l:K.lookup a=some ⟨.type "tuple",none,.seq its n,sl⟩)(hz:its.size<=sizeLine)(hv:Vals (ss.map V.str) its.toList):Wq K mg x ss:=
 ⟨a,PySem.W.mg_of X G y,λ_=> .inr ⟨_,its,n,l,rfl,rfl,rfl,hz,hv⟩⟩
section
variable{X:Cx}
theorem Rn(l:acA)(items:Array acB)(n:Nat)(dd:Option acA)(sl:Array (Option acB))(t:Tok)(hc0:¬(items.isEmpty || (0:Int) ==1)=true)(hc1:(decide ((0:Int)<=0) || items.isEmpty)=true):
  Meets (ad1.«tuple.__mul__» ⟨[.ref l,.int 0 t],[]⟩) (λ_ R s=>s.heap.get? l=some {cls:= .type "tuple",dict:=dd,data:= .seq items n,slots:=sl}/\R (.ok (.ret (.ref s.heap.objs.size))) {s with heap:=s.heap.push {cls:=acJ "tuple",data:=ahw #[]},toks:=s.toks}):=
 .of_wp λprog w A R s h=>by
  obtain⟨hp,g,d,tk,os⟩:=s;obtain⟨hl,h⟩:=h;have f1:=af4;unfold ad1.«tuple.__mul__»
  wp_walk using adR hl
  refine agk (decide_eq_false hc0) ?_
  wp_walk using adR hl
  exact⟨_,rfl,h⟩
theorem Wr:OpR X (adu .Mult) (λx y H Q=>∃a xs,x= .ref a/\y= .int 0/\SqT X.K H a xs/\xs≠[]/\∀p,H p=none->Q (.ref p) (upd H p (.tup []))):=by
 intro pins s σ H x y v u Q I rx ry h;obtain⟨a,xs,rfl,rfl,hq,hx,q⟩:=h;cases rx;obtain⟨t,rfl⟩:=ry;obtain⟨its,r,p1,_⟩:=I.tuple hq;obtain⟨⟨cls,dd,data,sl⟩,ho,hc,n,hd⟩:=id p1;simp only at hc hd;subst hc hd;have hne:its≠[]:=λz=>hx (by rw[z] at r;cases r;rfl);have hemp:its.toArray.isEmpty=false:=by cases its with |nil=>exact absurd rfl hne |cons _ _=>simp
 refine wpAny_binaryOp_repeat_ref (T:= "tuple") (U:= "int") (by decide) ⟨_,ho,rfl⟩ (λs'=>agY s' 0 t) qY F.fills_int_mul F.slot_int_rmul xQ F.slot_int_index.lookup
  (afh F.slot_int_rmul (agY s 0 t) F.entry_int_rmul (F.args_int_rmul_2 _ _) (uK 0 t a its.toArray n dd sl) ⟨ho,rfl,⟨_,ho,rfl⟩,?_⟩)
 refine afh F.slot_tuple_mul ⟨_,ho,rfl⟩ F.entry_tuple_mul (F.args_tuple_mul_2 _ _) (Rn a its.toArray n dd sl t (by rw[hemp];decide) (by simp)) ⟨ho,?_⟩;exact⟨.ref s.heap.objs.size,_,I.laid (t':=s.toks) (o:= .tup []) (λb ob q=>z1a _ q) (z0g _) ⟨adz _,[],.nil,tM.new _ _⟩,rfl,q _ (I.hok.fresh (z0g _))⟩
theorem foldl_size{α:Type}(a:Array α):∀(n:Nat) (b:Array α),((acH n a).foldl (· ++ ·) b).size=b.size+n*a.size
 |0,b=>by simp
 | n+1,b=>by
  rw[adF,List.foldl_cons,foldl_size a n (b++a),Array.size_append,Nat.succ_mul];omega
theorem YQ:OpR X (adu .Mult) (λx y H Q=>∃(z:Str) (k:Int),x= .str z/\y= .int k/\2<=k/\k<=1000/\z.length=1/\Q (.str ⟨(acH k.toNat z.cps).foldl (· ++ ·) #[]⟩) H):=by
 intro pins s σ H x y v u Q I rx ry h;obtain⟨z,k,rfl,rfl,h1,h2,hz,q⟩:=h;obtain⟨t,rfl⟩:=rx;obtain⟨t',rfl⟩:=ry;have e1:¬k<1:=by omega
 have e2:¬(k ==1 || z.length ==0)=true:=by rw[hz];simp;omega
 have hz':z.cps.size=1:=hz;have hd:(1:Int)<=(2^63 - 1) / k:=(Int.le_ediv_iff_mul_le (by omega)).mpr (by omega);have hlen:((acH k.toNat z.cps).foldl (· ++ ·) #[]).size<=sizeLine:=by
  rw[foldl_size,hz'];have:=eG;simp;omega
 refine P.mul_str (by simp;omega) (λ_ _=>by rw[hz];omega) (λ_ _=>by
  rw[hz];have:=eG;show decide (1*k.toNat > sizeLine)=false;exact decide_eq_false (by omega)) ?_
 rw[if_neg e1,if_neg e2];exact⟨hlen,⟨.str _,H,I.tok _,⟨_,rfl⟩,q⟩⟩
theorem Ws:OpR X (adu .Mult) (λx y H Q=>∃(z:Str),x= .str z/\y= .int 1/\Q (.str z) H):=by
 intro pins s σ H x y v u Q I rx ry h;obtain⟨z,rfl,rfl,q⟩:=h;obtain⟨t,rfl⟩:=rx;obtain⟨t',rfl⟩:=ry;refine P.mul_str (by decide) (λ_ h=>by simp at h) (λ_ h=>by simp at h) ?_;rw[if_neg (by decide),if_pos (by simp)];exact⟨.str z,H,I,⟨_,rfl⟩,q⟩
def Wt:D->D->R D
 | .int i,.int j=>gA (.int i) (.int j)
 | .tup ds,.int k=>if k=0 then (if ds≠[] then .ok (.tup []) else .bad) else xR (.tup ds) (.int k)
 | .str z,.int k=>if k=1 then .ok (.str z) else if 2<=k/\k<=1000/\z.length=1 then .ok (.str ⟨(acH k.toNat z.cps).foldl (· ++ ·) #[]⟩) else .bad
 |_,_=> .bad
theorem YS:gO X (adu .Mult) Wt:=by
 obtain⟨r0,o0,c0⟩:=zX (X:=X);refine⟨_,OpR.or o0 (OpR.or Wr (OpR.or YQ Ws)),λρ O σ H Q x y dx dy j0 rx ry h=>?_⟩;cases dx <;> cases dy <;> first
  |exact h.elim
  |skip
 ·exact .inl (c0 ρ O σ H Q x y _ _ j0 rx ry h)
 ·rename_i z k;have h:good X (rD X) O (if k=1 then .ok (.str z) else if 2<=k/\k<=1000/\z.length=1 then .ok (.str ⟨(acH k.toNat z.cps).foldl (· ++ ·) #[]⟩) else .bad) σ H Q:=h;by_cases h1:k=1
  ·rw[if_pos h1] at h;subst h1;exact .inr (.inr (.inr ⟨z,rx.str,ry.int,fin h (gq _)⟩))
  ·rw[if_neg h1] at h;by_cases h2:2<=k/\k<=1000/\z.length=1
   ·rw[if_pos h2] at h;exact .inr (.inr (.inl ⟨z,k,rx.str,ry.int,h2.1,h2.2.1,h2.2.2,fin h (gq _)⟩))
   ·rw[if_neg h2] at h;exact h.elim
 ·rename_i ds k;have h:good X (rD X) O (if k=0 then (if ds≠[] then .ok (.tup []) else .bad) else xR (.tup ds) (.int k)) σ H Q:=h;by_cases h0:k=0
  ·rw[if_pos h0] at h;by_cases hd:ds≠[]
   ·rw[if_pos hd] at h;obtain⟨a,us,rfl,ha,r1⟩:=rx.tup;have h:good X (rD X) O (.ok (.tup [])) σ H Q:=h;exact .inr (.inl ⟨a,us,rfl,by rw[ry.int,h0],ha,λz=>hd (by have:=r1.length;rw[z] at this;exact ac4 this),λp hp=>h _ _ (Same.upd hp) (Rep.mO hp .nil)⟩)
   ·rw[if_neg hd] at h;exact h.elim
  ·rw[if_neg h0] at h;exact .inl (c0 ρ O σ H Q x y _ _ j0 rx ry h)
end
section
variable{X:Cx}
inductive Wu (XB:Cx) (K:PySem.W.Frag) (O:acA->Prop) (H2:Hp) (Dd:acA) (fp:List acA) (tn:Nat->acP->Prop) (ρ0:ao) (xs:List D) (F:D->R (Option D)) (all:List D) (n:Nat) (s':acC):Prop
 |mk (i:Nat) (σ':St) (H':Hp) (ys:List V) (ds rest:List D) (en:n=xs.length+1 - i) (hil:i<=xs.length) (I:Inv XB [] σ' H' s') (st:tn i s'.heap) (fr:∀b∈fp,H' b=none) (j:In XB O H' ρ0 σ') (sm:Same H2 H') (hD:H' Dd=some (.lst ys)) (rp:aO K O H' ds ys) (hm:jR F (xs.drop i)= .ok rest) (hr:ds++rest=all):Wu XB K O H2 Dd fp tn ρ0 xs F all n s'
theorem Wv{iter elt:acI}{ifs:List acI}{pos2:Pos}{fi:ao->R (List D)}{gt:D->ao->R ao}{ft:ao->R Bool}{fe:ao->R D}(ts:List Str)(caps:List Nat)
  (hc:X.calm=true)(hb:Q7 X.env.scope scope ts X.N=true)(hcap:(dU scope).map (λx=>lF x X.N)=caps)
  (hi:DI X tg iter fi)(hk:xH ts.length gt)(hg:∀C s H ex,(dh X scope ts C s H ex).N.Nodup->DG (dh X scope ts C s H ex) tg gt)(ht:∀C s H ex,DTs (dh X scope ts C s H ex) ifs ft)(he:∀C s H ex,DE (dh X scope ts C s H ex) elt fe)
  (hs:∀x,afN iter X.env x=pure x){use:Option (acB->Sem Unit)}{Qr:acB->acC->Prop}{pins:List (acA×Obj)}{s:acC}{Q:VK}(I:Inv X pins σ H s)(j:In X O H ρ σ)
  (hQ:∀(v:V) (H':Hp) (s5:acC) (C:acA) (m:Str->Option acB) (f:Flow) (acc:acB),Q v H'->Inv X pins σ H' s5->s5.heap.Ns C m->FpOk X pins H' C->RelV v acc->compPost (model X.prog X.w) X.A X.xe use Qr acc C (.ok f) s5)
  (h:good X (rD X) O (cu ts.length caps fi gt ft fe ρ) σ H Q):
  acG (model X.prog X.w) X.A (comprehension (.ListComp elt [⟨tg,iter,ifs,0⟩] scope pos) scope X.env pos2 (newList []) false (eval iter X.env) use) Qr X.xe s:=by
 have B:=abv hb;refine wpAny_comprehension_free (cl:=gC X.env.cells scope.names []) (use:=use) rfl hs (Q8 λx hx e=>?_) B.kind B.loc ?_
 ·obtain⟨n,k⟩:=x;have e:k= .free:=e;subst e;exact I.ok.has n (B.out n (qO hx))
 refine thn (hi pins s σ H (λJ H1=>∃xs,YR X.K O H1 J xs/\In X O H1 ρ σ/\good X (rD X) O ((jR (tQ gt ft fe (Dh ts.length caps ρ)) xs).bind (cap .lst)) σ H1 Q) I (Pu.go j h λxs J H1 e1 s1 y1 j1 h1=>⟨xs,y1,j1,h1⟩)) λxv s1 h1=>thn h1 λitv s2 h2=>?_;obtain⟨it,fp,tn,J,H2,e,I2,T,st2,f2,xs,yr,j2,g2⟩:=h2;subst e;rw[<-Ra hcap] at g2
 generalize eρ:pull X.N (dU scope) ts.length (ρ.map vd)=ρ0 at g2
 obtain⟨all,hall,hlen,g3⟩:∃all,jR (tQ gt ft fe ρ0) xs= .ok all/\all.length<=1000000/\good X (rD X) O (.ok (.lst all)) σ H2 Q:=by
  cases e:jR (tQ gt ft fe ρ0) xs with
  |bad=>rw[e] at g2;exact g2.elim
  |err c=>exact absurd e Di
  | ok all=>
   rw[e] at g2;have g2:good X (rD X) O (if all.length<=1000000 then .ok (.lst all) else .bad) σ H2 Q:=g2;by_cases hl:all.length<=1000000
   ·rw[if_pos hl] at g2;exact⟨all,rfl,hl,g2⟩
   ·rw[if_neg hl] at g2;exact g2.elim
 have hlt:∀b∈fp,b<s2.heap.objs.size:=λb hb=>by
  obtain⟨o,e,_⟩:=T.obj 0 _ st2 b hb;exact z2c e
 refine adt (Tq ?_)
 generalize hC:(s2.heap.push {cls:= .type "list",dict:=none,data:= .seq ([]:List acB).toArray}).objs.size=C
 have hC':C=s2.heap.objs.size+1:=by rw[<-hC];exact adE ..
 generalize e4:pushCells ((s2.heap.push {cls:= .type "list",dict:=none,data:= .seq ([]:List acB).toArray}).push {cls:= .type "dict",data:= .dict #[]}) scope.names=h4
 show afr (model X.prog X.w) X.A (.compStart (.ListComp elt [⟨tg,iter,ifs,0⟩] scope pos) 0 (.ref it) (.ref s2.heap.objs.size) (fU scope X.env C)) (compPost (model X.prog X.w) X.A X.xe use Qr (.ref s2.heap.objs.size) C) {s2 with heap:=h4};have X4:H2 s2.heap.objs.size=none:=I2.hok.fresh (z0g _);have hOn:¬O s2.heap.objs.size:=j2.uY X4;have hDk:X.K.lookup s2.heap.objs.size=none:=by
  cases q:X.K.lookup s2.heap.objs.size with
  |none=>rfl
  |some o=>exact absurd (z2c (I2.kIn _ _ q)) (adH _)
 have I4:=Yv (ts:=ts) I2 B f2 hlt hC' e4.symm;have sD:Same H2 (upd H2 s2.heap.objs.size (.lst [])):=Same.upd X4;have lρ0:ρ0.length=(ts++dU scope).length:=by rw[<-eρ,u9,z1d]
 generalize eD:s2.heap.objs.size=Dd at *
 have aav:∀{H':Hp},Same H2 H'->eN X.K O H2 (λa=>O a\/a=Dd) H':=λsm=>⟨(Same.dM (K:=X.K) (O:=O) sm).ext,λa z=>z.elim .inl λe=> .inr (by rw[e];exact⟨X4,hDk⟩),(Same.dM (K:=X.K) (O:=O) sm).dom⟩;have alO:∀{H':Hp} {ys:List V},Same H2 H'->H' Dd=some (.lst ys)->∀a,(O a\/a=Dd)->∃o,H' a=some o:=λsm e a z=>z.elim (λq=>let⟨o,h⟩:=j2.al a q;⟨o,sm _ _ h⟩) λq=>by rw[q];exact⟨_,e⟩
 have j4:In (dh X scope ts C s2 H2 fp) (λa=>O a\/a=Dd) (upd H2 Dd (.lst [])) ρ0 (pull X.N (dU scope) ts.length σ):=by
  rw[<-eρ];exact In.go (aah B j2.vals) Ii (aav sD) (alO sD upd_same)
 have hv0:∀(i:Nat) e,ρ0[i]?=some (some e)->e.O8=true:=by rw[<-eρ];exact Ii
 have hn0:∀i,i<ts.length->ρ0[i]?=some none:=by rw[<-eρ];exact λi h=>Tt h
 have abB:∀b o,s2.heap.get? b=some o->h4.get? b=some o:=λb o e=>by
  rw[<-e4];exact afx _ _ b o (z1a _ (z1a _ e))
 have st4:tn 0 h4:=T.keep _ _ _ st2 λb _ o e=>abB b o e;have stat:∀{H':Hp},(∀b∈fp,H' b=none)->∀b∈fp,FpOk (dh X scope ts C s2 H2 fp) [] H' b:=λ{H'} hn b hb=>by
  have hl: @LT.lt Nat _ b Dd:=hlt b hb;obtain⟨_,a1,a2,a3,a4,_⟩:=f2 b hb;refine⟨hn b hb,by show @Ne Nat b C;omega,λz=>?_,.inl hb,λx c h=>?_,λp hp=>absurd (show p∈([]:List (acA×Obj)) from hp) (by simp)⟩
  ·rcases acR.mp (I2.stkSub b z) with z |z
   ·exact a1 z
   ·exact a2 z
  ·rcases jx B I2.ok.has h with⟨_,q⟩ |⟨_,q⟩
   ·show @Ne Nat c b;omega
   ·exact a4 x c q
 have fr4:∀b∈fp,(upd H2 Dd (.lst [])) b=none:=λb hb=>by
  have hl: @LT.lt Nat _ b Dd:=hlt b hb;rw[upd_ne (show @Ne Nat b Dd by omega)];exact (f2 b hb).1
 have loop : ∀s0:acC,s0={s2 with heap:=h4}->afr (model X.prog X.w) X.A (.compLoop (.ListComp elt [⟨tg,iter,ifs,0⟩] scope pos) 0 (.ref it) (.ref Dd) (fU scope X.env C)) (compPost (model X.prog X.w) X.A X.xe use Qr (.ref Dd) C) s0:=by
  intro s0 e0;refine codeAny_loop rfl (λn s'=>Wu (dh X scope ts C s2 H2 fp) X.K (λa=>O a\/a=Dd) H2 Dd fp tn ρ0 xs (tQ gt ft fe ρ0) all n s') (λn s' hI=>?_) (xs.length+1)
   ⟨0,_,_,[],[],all,rfl,adz _,e0▸I4,e0▸st4,fr4,j4,sD,upd_same,.nil,by simpa using hall,rfl⟩
  obtain⟨i,σ',H',ys,ds,rest,rfl,hil,I',st',fr',j',sm',hD',rp',hm',hr'⟩:=hI;show acG (model X.prog X.w) X.A ((compTurn (.ListComp elt [⟨tg,iter,ifs,0⟩] scope pos) 0 (.ref it) (.ref Dd) (fU scope X.env C)).onRaise (λx=>do noteFrame x (fU scope X.env C);theTreesLotGoes x)) _ _ s';refine wpAny_noted ?_;rw[compTurn_list];have Tv:=yr _ H' (aav sm') i;refine acz (agF (acz ?_));by_cases hlt':i<xs.length
  ·-- a turn
   have ex:xs[i]?=some xs[i]:=by simp[hlt']
   have ed:xs.drop i=xs[i]::xs.drop (i+1):=ag1 hlt';rw[ed] at hm';obtain⟨o,rest',k1,k2,k3⟩:=Tr hm';obtain⟨jgo,jy⟩:=Tv.1 _ ex;refine adQ (T.item (dh X scope ts C s2 H2 fp) rfl rfl rfl hc i [] s' σ' H' (λ_ _=>False) I' (stat fr') st' jgo) (λr s4 ⟨u,hr,h4'⟩=>?_) λ_ _ z=>z.elim;subst hr;refine acz (adQ h4' (λ_ s5 ⟨x,H5,I5,r5,y5,st5,fr5⟩=>?_) λ_ _ z=>z.elim);obtain⟨K1,ab6⟩:=jy x H5 y5;have I5':=I5.pinned (stat fr5) (T.obj _ _ st5);have k1:(gt xs[i] ρ0).bind (λρ1=>(ft ρ1).bind λb=>if b=true then (fe ρ1).bind λd=> .ok (some d) else .ok none)= .ok o:=k1;cases q1:gt xs[i] ρ0 with
   |bad=>rw[q1] at k1;cases k1
   |err c=>rw[q1] at k1;cases k1
   | ok ρ1 =>
    rw[q1] at k1;have k1:(ft ρ1).bind (λb=>if b=true then (fe ρ1).bind λd=> .ok (some d) else .ok none)= .ok o:=k1;refine acz (adQ (hg C s2 H2 fp B.nd _ s5 σ' H5 x u (λσ6 H6=>H6=H5/\In (dh X scope ts C s2 H2 fp) (λa=>O a\/a=Dd) H5 ρ1 σ6) I5' r5 ⟨ρ0,_,xs[i],ρ1,j'.same K1,ab6,q1,λσ6 j6=>⟨rfl,j6⟩⟩) (λ_ s6 ⟨σ6,H6,I6,eH,j6⟩=>?_) λ_ _ z=>(show False from z).elim);subst eH;cases q2:ft ρ1 with
    |bad=>rw[q2] at k1;cases k1
    |err c=>rw[q2] at k1;cases k1
    | ok bb =>
     rw[q2] at k1;have k1:(if bb=true then (fe ρ1).bind λd=>R.ok (some d) else .ok none)= .ok o:=k1;have gtest:tG (dh X scope ts C s2 H2 fp) rB ft σ6 H6 (λb H7=>b=bb/\Same H6 H7):=⟨ρ1,_,j6,by rw[q2];exact λb H7 s7 e7=>⟨e7.symm,s7⟩⟩;refine acz (adQ (ht C s2 H2 fp _ s6 σ6 H6 _ I6 gtest) (λok s7 ⟨H7,I7,ok7,Dw⟩=>?_) λ_ _ z=>(show False from z).elim);subst ok7;have back:∀{H8:Hp} {s8:acC} {ys':List V} {ds':List D},Inv (dh X scope ts C s2 H2 fp) ([]++pinsAt fp s5.heap) σ6 H8 s8->Same H2 H8->In (dh X scope ts C s2 H2 fp) (λa=>O a\/a=Dd) H8 ρ0 σ6->H8 Dd=some (.lst ys')->aO X.K (λa=>O a\/a=Dd) H8 ds' ys'->ds'++rest'=all->
       ∃m,m<xs.length+1 - i/\Wu (dh X scope ts C s2 H2 fp) X.K (λa=>O a\/a=Dd) H2 Dd fp tn ρ0 xs (tQ gt ft fe ρ0) all m s8:=by
      intro H8 s8 ys' ds' I8 PB j8 X5 X6 hr8;refine⟨xs.length+1 - (i+1),by omega,i+1,σ6,H8,ys',ds',rest',rfl,by omega,I8.unpinned,T.keep _ _ _ st5 λb hb o e=>(I8.pin (b,o) (adC _ (adC _ (mem_pinsAt hb e)))).1,λb hb=>?_,j8,PB,X5,X6,k2,hr8⟩;obtain⟨o,e,d⟩:=T.obj _ _ st5 b hb;exact (I8.pin (b,o) (adC _ (adC _ (mem_pinsAt hb e)))).2.1
     have j60:In (dh X scope ts C s2 H2 fp) (λa=>O a\/a=Dd) H6 ρ0 σ6:=In.back (n:=ts.length) j6 hn0 (λk hk'=>hk _ _ _ q1 k hk') lρ0;cases ok with
     | false=>
      have k1:R.ok none=R.ok o:=k1;cases k1;refine acF ⟨rfl,?_⟩;refine back I7 (sm'.trans (K1.trans Dw)) (j60.same Dw) (Dw _ _ (K1 _ _ hD')) (rp'.same (K1.trans Dw)) ?_;rw[<-hr',k3];rfl
     | true =>
      have k1:(fe ρ1).bind (λd=>R.ok (some d))= .ok o:=k1;cases q3:fe ρ1 with
      |bad=>rw[q3] at k1;cases k1
      |err c=>rw[q3] at k1;cases k1
      | ok d =>
       rw[q3] at k1;have k1:R.ok (some d)=R.ok o:=k1;cases k1;have ab7:tG (dh X scope ts C s2 H2 fp) (rD (dh X scope ts C s2 H2 fp)) fe σ6 H7 (λv H8=>Same H7 H8/\Rep X.K (λa=>O a\/a=Dd) H8 d v):=⟨ρ1,_,j6.same Dw,by rw[q3];exact λv H8 s8 r8=>⟨s8,r8⟩⟩;refine acz (acz (adQ (he C s2 H2 fp _ s7 σ6 H7 _ I7 ab7) (λxv s8 ⟨v8,H8,I8,r8,PB,ab8⟩=>?_) λ_ _ z=>(show False from z).elim));have X5:H8 Dd=some (.lst ys):=PB _ _ (Dw _ _ (K1 _ _ hD'));have X6:aO X.K (λa=>O a\/a=Dd) H8 ds ys:=rp'.same (K1.trans (Dw.trans PB));have hds:ds++d::rest'=all:=by rw[<-hr',k3];rfl
       have hyl:ys.length<sizeLine:=by
        have:=eG;have e1:=X6.length;have e2:=congrArg List.length hds;rw[z1d,acX] at e2;omega
       refine acz (adQ (mt_append (X:=dh X scope ts C s2 H2 fp) _ s8 σ6 H8 (.ref Dd) [v8] (.ref Dd) [xv] (λ_ H9=>H9=upd H8 Dd (.lst (ys++[v8]))) I8 rfl (.cons r8 .nil) ⟨_,ys,v8,rfl,rfl,X5,hyl,rfl⟩) (λ_ s9 ⟨_,H9,I9,_,eH9⟩=>?_) λ_ _ z=>(show False from z).elim);subst eH9;have ab9:Same H2 H8:=sm'.trans (K1.trans (Dw.trans PB));have aaw:eN X.K (λa=>O a\/a=Dd) H8 (λa=>O a\/a=Dd) (upd H8 Dd (.lst (ys++[v8]))):=by
        refine⟨⟨λb zs h=>?_,λb zs n h=>?_⟩,λa z=> .inl z,λa z=>?_⟩
        ·have nb:b≠Dd:=λe=>by
          rw[e] at h;rcases h with h |⟨o,h⟩ <;> rw[X5] at h <;> cases h
         rcases h with h |⟨o,h⟩
         ·exact .inl (by rw[upd_ne nb];exact h)
         ·exact .inr ⟨o,by rw[upd_ne nb];exact h⟩
        ·have nb:b≠Dd:=λe=>n (.inr e);rcases h with h |⟨o,h⟩
         ·exact .inl (by rw[upd_ne nb];exact h)
         ·exact .inr ⟨o,by rw[upd_ne nb];exact h⟩
        ·by_cases ea:a=Dd
         ·rw[ea,upd_same] at z;cases z
         ·rw[upd_ne ea] at z;exact z
       have sm9:Same H2 (upd H8 Dd (.lst (ys++[v8]))):=λb o e=>by
        rw[upd_ne (ne_of_none e X4)];exact ab9 _ _ e
       refine acF (acF ⟨rfl,?_⟩);refine back I9 sm9 (In.go (j60.same (Dw.trans PB)) hv0 aaw (alO sm9 upd_same)) upd_same ((X6.append (.cons ab8 .nil)).go aaw) ?_;rw[aeg];exact hds
  ·-- the end
   have ei:i=xs.length:=by omega
   subst ei;have hrest:rest=[]:=by
    have hm':jR (tQ gt ft fe ρ0) (xs.drop xs.length)= .ok rest:=hm';rw[List.drop_length] at hm';cases hm';rfl
   subst hrest;rw[adp] at hr';subst hr';refine adQ (T.done (dh X scope ts C s2 H2 fp) rfl rfl rfl hc _ [] s' σ' H' (λ_ _=>False) I' (stat fr') st' (Tv.2 (z0g _))) (λr s5 ⟨hr,I5⟩=>?_) λ_ _ z=>z.elim;subst hr;refine acF ?_;obtain⟨m,hns,_⟩:=I5.loc;have hCn:H' C=none:=I5.free;have I6:Inv X pins σ H' s5:=by
    refine I2.call' (s':=s5) (ch:=fp) I5.os ⟨λb o e n hb hx=>I5.base.keep b o e n hb hx,λb o e n hb hx=>I5.base.slot b o e n hb hx,I5.base.free,λb o e hx=>I5.base.there b o e hx,I5.base.tups,I5.base.frzs,I5.base.tbls⟩ (λb u e=>I5.hok b u e) I5.bare λb hb=>⟨(f2 b hb).2.2.2.1,(f2 b hb).2.1,(f2 b hb).2.2.2.2.1,(f2 b hb).2.2.2.2.2⟩
   exact hQ (.ref Dd) H' s5 C m _ (.ref Dd) (g3 _ _ sm' (kW (SqL.of hD') hOn (rp'.fewer λa z=> .inl z))) I6 hns (I2.fpOk (show @LE.le Nat _ _ C by omega) hCn) rfl
 exact codeAny_compStart_list (loop _ rfl) (T.self _ 0 _ _ _ st4 (loop _ rfl))
theorem bY{iter elt:acI}{ifs:List acI}{fi:ao->R (List D)}{gt:D->ao->R ao}{ft:ao->R Bool}{fe:ao->R D}(ts:List Str)(caps:List Nat)
  (hc:X.calm=true)(hb:Q7 X.env.scope scope ts X.N=true)(hcap:(dU scope).map (λx=>lF x X.N)=caps)
  (hi:DI X tg iter fi)(hk:xH ts.length gt)(hg:∀C s H ex,(dh X scope ts C s H ex).N.Nodup->DG (dh X scope ts C s H ex) tg gt)(ht:∀C s H ex,DTs (dh X scope ts C s H ex) ifs ft)(he:∀C s H ex,DE (dh X scope ts C s H ex) elt fe)
  (hs:∀x,afN iter X.env x=pure x:=by intro _;rfl):
  DE X (.ListComp elt [⟨tg,iter,ifs,0⟩] scope pos) (cu ts.length caps fi gt ft fe):=by
 intro pins s σ H Q I h;obtain⟨ρ,O,j,h⟩:=h;rw[eval_ListComp];exact Wv ts caps hc hb hcap hi hk hg ht he hs (use:=none) (Qr:=EP X pins σ Q) I j (λv H' s5 C m f acc hv I6 hns fp rv=>⟨m,hns,λh' sb=>⟨v,H',I6.fp fp sb,rv,hv⟩⟩) h
end
def okN(F:List D->R D)(n:Nat)(ds:List D):R D:=if ds.length=n then F ds else .bad
section
variable{ρ ρ1:ao}{fa:ao->R (List D)}{F:List D->R D}{ds:List D}{n:Nat}{d:D}{c:Str}{f:ao->R D}{gt:D->ao->R ao}{p:ao->R Bool}{s t:ao->So}{o:So}
end
structure xW(fs:List acA)(h h':acP)(a C:acA)(T:Option acA)(t':acA):Prop where
 exc:Exc h' a C (some t')
 old:T=some t'\/h.get? t'=none
 keep:∀b o,h.get? b=some o->b≠a->T≠some b->b∉fs->h'.get? b=some o
 slot:∀b o,h.get? b=some o->b∈fs->∃sl,h'.get? b=some {o with slots:=sl}
section
variable{M:Model}{A:acO}{E:acB->acC->Prop}{s:acC}
theorem xX{h h1 b0 b1:acP}:∀{l:List PySem.Env},h.FunFrames b0 l->(∀b∈frs l,b1.get? b=none)->(∀b o,h.get? b=some o->b∈frs l->h1.get? b=some o)->h1.FunFrames b1 l
 |[],_,_,_=>trivial
 | env::r,hl,hn,hs=>by
  obtain⟨hk,⟨L,o,hf,_,ho,hd⟩,hr⟩:=hl;have e:frs (env::r)=L::frs r:=by unfold frs;rw[aft,hf]
  rw[e] at hn hs;exact⟨hk,⟨L,o,hf,hn L acT,hs L o ho acT,hd⟩,xX hr (λb hb=>hn b (z2f _ hb)) λb o q hb=>hs b o q (z2f _ hb)⟩
theorem Ue{o:Obj}{g:Array acB->Array acB}:(o.mapFields g).dict=o.dict:=by
 obtain⟨c,d,dt,sl⟩:=o;cases dt <;> rfl
theorem Iv{L a:acA}{oe:Obj}{vs:Array acB}{hd0:acB}{had:Bool}{Q:Unit->acC->Prop}(hfr:A.frames=some (env::outer))(hl:s.heap.FunFrames b0 (env::outer))(hf:env.frame=some L)
  (he:s.heap.get? a=some oe)(hc:oe.cls= .ref C)(hn:oe.dict=none)(hv:oe.data= .fields vs)(hz:1<vs.size)
  (h:∀h' t',xW (frs (env::outer)) s.heap h' a C none t'->Q () {s with heap:=h'}):
  acG M A (do let x <-frameOf env;let y <-entryPlaceOf L had;let z <-ahB hd0 x .none (ado L) .none y;ahh (.ref a) 1 z) (λ_ s'=>acG M A (setFlight (.ref a) none) Q E s') E s:=by
 have na:a∉frs (env::outer):=λz=>by
  obtain⟨_,o',ho',hd'⟩:=hl.mem z;rw[he] at ho';cases ho';exact hd' vs hv
 refine acz (wpAny_frameOf_fun hfr hl hf λg1 sl1=>acz (wpAny_entryPlaceOf λpl ok=>?_));unfold ahB newFields;refine acz (adt ?_ (ok.sizeOk5 _ _ _ _ _));have e1:g1.get? a=some oe:=(sl1.2.1 a na).trans he
 generalize hob:({cls:= .type "traceback",dict:=none,data:= .fields ([hd0,.ref L,.none,ado L,.none]++(if pl.isEmpty then acH 6 acU else pl)).toArray}:Obj)=ob
 have Ww:ob.data= .fields ([hd0,.ref L,.none,ado L,.none]++(if pl.isEmpty then acH 6 acU else pl)).toArray:=by rw[<-hob]
 have acd:ob.isFreed=false:=by rw[<-hob];rfl
 have e2:(g1.push ob).get? a=some oe:=z1a ob e1;refine aeQ e2 hv hz ?_;have nT:g1.objs.size≠a:=ag8 (z2c e1);have d3:=aeo hv (·.setIfInBounds 1 (acM g1.objs.size));have e3:=aeF (afX (·.setIfInBounds 1 (acM g1.objs.size))) e2 (afb d3);have T3:=(adV (g1.push ob) (afX (·.setIfInBounds 1 (acM g1.objs.size))) (acN nT)).trans (z1f g1 acd);unfold setFlight;refine acz (acW e3 d3 (x:= .ref g1.objs.size) (by simp[hz]) ?_);rw[if_pos (show (acM g1.objs.size !=acU)=true from by simp)];have hsz:3<(([hd0,.ref L,.none,ado L,.none]++(if pl.isEmpty then acH 6 acU else pl)).toArray).size:=by
  rw[z1c,z1d];show 3<5+_;omega
 refine aeQ T3 Ww hsz (h _ g1.objs.size ⟨⟨_,_,(adV _ _ nT).trans e3,(agT _ _).trans hc,Ue.trans hn,d3,by simp[hz],nT,_,_,aeF _ T3 (afb (aeo Ww _)),aeo Ww _,?_⟩,.inr (Heap.get?_none_of_le (by rw[sl1.1];exact z0g _)),λb o hb n1 _ n3=>?_,λb o hb hm=>?_⟩)
 ·rw[Array.getElem?_setIfInBounds,if_pos rfl,if_pos hsz];rfl
 ·have q1:g1.get? b=some o:=(sl1.2.1 b n3).trans hb;rw[adV _ _ (ag8 (z2c q1)),adV _ _ (acN n1)];exact z1a _ q1
 ·obtain⟨sl,q1⟩:=sl1.2.2 b o hb;refine⟨sl,?_⟩;rw[adV _ _ (ag8 (z2c q1)),adV _ _ (λz=>na (by rw[z];exact hm))];exact z1a _ q1
theorem Wx{L a:acA}{T:Option acA}{Q:Unit->acC->Prop}(hfr:A.frames=some (env::outer))(hl:s.heap.FunFrames b0 (env::outer))(hf:env.frame=some L)(x:Exc s.heap a C T)
  (h:∀h' t',xW (frs (env::outer)) s.heap h' a C T t'->Q () {s with heap:=h'}):acG M A (noteFrame (.ref a) env) (λ_ s2=>acG M A (setFlight (.ref a) none) Q E s2) E s:=by
 obtain⟨oe,vs,he,hc,hn,hd,hx⟩:=x;unfold noteFrame;simp only[hf];cases T with
 | none=>
  have h1:vs[1]?=some acU:=hx;refine acz (acW he hd h1 ?_);rw[if_neg (by decide)];exact Iv hfr hl hf he hc hn hd (ad6.mp h1).1 h
 | some t=>
  obtain⟨h1,hne,ot,ts,ht,hdt,h3⟩:=hx;have nt:t∉frs (env::outer):=λz=>by
   obtain⟨_,o',ho',hd'⟩:=hl.mem z;rw[ht] at ho';cases ho';exact hd' ts hdt
  refine acz (acW he hd h1 ?_);rw[if_pos (show (acM t !=acU)=true from by simp)];refine acz (acW ht hdt h3 ?_);rw[if_neg (show ¬((acU ==ado L)=true) from by simp[ado])];refine acz (aeQ ht hdt (ad6.mp h3).1 ?_);have other:∀b o,s.heap.get? b=some o->b≠t->(s.heap.update t (afX (·.setIfInBounds 3 acU))).get? b=some o:=λb o q hb=>(adV _ _ (acN hb)).trans q;refine Iv (s:={s with heap:=s.heap.update t (afX (·.setIfInBounds 3 acU))}) (b0:=b0) hfr (xX hl (λb hb=>(hl.mem hb).1) λb o q hb=>other b o q λz=>nt (z▸hb)) hf (other a oe he (acN hne)) hc hn hd (ad6.mp h1).1 λh' t' ld=>?_;refine h h' t' ⟨ld.exc,?_,λb o q n1 n2 n3=>ld.keep b o (other b o q λz=>n2 (by rw[z])) n1 (by simp) n3,λb o q hm=>ld.slot b o (other b o q λz=>nt (z▸hm)) hm⟩;by_cases z:t'=t
  ·exact .inl (by rw[z])
  ·refine .inr ?_;rcases ld.old with q |q
   ·cases q
   ·cases q2:s.heap.get? t' with
    |none=>rfl
    | some o=>
     have q3:=other t' o q2 z;have q:(s.heap.update t (afX (·.setIfInBounds 3 acU))).get? t'=none:=q;rw[q] at q3;cases q3
theorem Ug{L a:acA}{T:Option acA}{Q:Unit->acC->Prop}(hfr:A.frames=some (env::outer))(hl:s.heap.FunFrames b0 (env::outer))(hf:env.frame=some L)(x:Exc s.heap a C T)
  (h:∀h' t',xW (frs (env::outer)) s.heap h' a C T t'->Q () {s with heap:=h'}):acG M A (leaving env (.ref a)) Q E s:=by
 unfold leaving;exact acz (Wx hfr hl hf x h)
end
section
variable{P:acL}{w:acQ}{fs fs':List acA}{H H' H0:Hp}{s s' s0:acC}{a C:acA}{T:Option acA}{h':acP}{t':acA}
theorem ObjOk.ex{H:Hp}{a:acA}{o:HO}(x:ObjOk P w H h a o):∃ob,h.get? a=some ob:=by
 induction o with
 |lst xs=>obtain⟨_,_,_,_,e⟩:=x;exact⟨_,e⟩
 |tup xs=>obtain⟨_,_,_,ob,e,_⟩:=x;exact⟨_,e⟩
 |dK kvs=>obtain⟨_,_,_,_,ob,_,_,e,_⟩:=x;exact⟨_,e⟩
 |dT kvs=>obtain⟨_,_,_,_,ob,_,_,e,_⟩:=x;exact⟨_,e⟩
 |set S n=>obtain⟨ob,_,_,_,e,_⟩:=x;exact⟨_,e⟩
 |ins C dx fs=>obtain⟨_,_,_,e,_⟩:=x;exact⟨_,e⟩
 |own y=>exact x
 |xd fs=>obtain⟨_,⟨_,_,_,e,_⟩,_⟩:=x;exact⟨_,e⟩
 |rng lo hi=>obtain⟨_,_,_,e⟩:=x;exact⟨_,e⟩
 |frz ob u ih=>exact⟨_,x.1⟩
 |tbl ps=>obtain⟨_,e,_⟩:=x;exact⟨_,e⟩
 |met f y=>exact⟨_,x⟩
 |ext φ=>exact x.2.1
theorem BP{b:acA}(x:HOk P w H h)(e:h.get? b=none):H b=none:=by
 cases q:H b with
 |none=>rfl
 | some u=>
  obtain⟨o,z⟩:=ObjOk.ex (x b u q);rw[e] at z;cases z
theorem xW.hok(ld:xW fs h h' a C T t')(x:HOk P w H h)(ha:H a=none)(ht:∀t,T=some t->H t=none)(hf:∀b∈fs,H b=none):HOk P w H h':=λb u e=>by
 have ne:∀c v,H c=some v->c≠a/\T≠some c/\c∉fs:=λc v q=>⟨λz=>(by rw[z,ha] at q;cases q),λz=>(by rw[ht c z] at q;cases q),λz=>(by rw[hf c z] at q;cases q)⟩;refine (x b u e).stay (λc v hc q=>?_) (λ_ q=>q) (λ_ _ q=>q) λ_ _ _ _ q=>q;rcases hc with rfl |hc
 ·obtain⟨n1,n2,n3⟩:=ne _ _ e;exact ld.keep _ _ q n1 n2 n3
 ·obtain⟨n1,n2,n3⟩:=ne _ _ hc;exact ld.keep _ _ q n1 n2 n3
theorem Kd.from{X:Cx}{pins:List (acA×Obj)}(I:Inv X pins σ H s)(hex:X.ex=[])(r:Kd X.prog X.w (frs X.stack) H s a C T s' H')(sm:Same X.H₀ H):Kd X.prog X.w X.fs X.H₀ X.s₀ a C T s' H':=by
 have J:Inv X pins σ H' s':=I.call' r.os r.un r.hok r.bare λb z=>absurd z (by simp);have b:=J.base;rw[hex] at b;have no:∀c,s.heap.get? c=none->X.s₀.heap.get? c=none:=λc e=>by
  cases q:X.s₀.heap.get? c with
  |none=>rfl
  | some o=>
   obtain⟨o',e'⟩:=I.base.there c o q (by rw[hex];simp);rw[e] at e';cases e'
 exact⟨sm.trans r.same,b,r.hok,J.os,r.bare,r.exc,no a r.na,r.ha,λt z=>⟨no t (r.nt t z).1,(r.nt t z).2⟩⟩
end
def PJ(P:acL)(w:acQ):CXT:=λouter H s E e s'=>∃a C T H',e= .ref a/\E (.ref C) none H'/\Kd P w (frs outer) H s a C T s' H'
def spX(K:PySem.W.Frag)(n:Nat)(F:List D->R D):Sp:=λvs H Q E=>∃O ds,aO K O H ds vs/\ds.length=n/\(∀a,O a->∃o,H a=some o)/\match F ds with
 | .ok d=>∀v H',Same H H'->Rep K O H' d v->Q v H'
 | .err c=>∀C H',PySem.W.nsIn K acK c=some (some (.ref C))->E (.ref C) none H'
 | .bad=>False
section
variable{P:acL}{w:acQ}{K:PySem.W.Frag}{mg:Str->Option acB}{base:acP}
end
section
variable{X:Cx}{k n m:Nat}{F:List D->R D}{x:Str}{p pos:Pos}{e:acI}{es:List acI}{fa:ao->R (List D)}
end
abbrev Wz:List acB:=[.type "ValueError",.type "Exception",.type "BaseException",.type "object"]
structure X7(K:PySem.W.Frag)(mg:Str->Option acB)(c:Str)(C:acA):Prop where
 ns:PySem.W.nsIn K acK c=some (some (.ref C))
 mg:mg c=some (.ref C)
 ex:PySem.W.excIn K C Wz "ValueError.__new__" =true
theorem Uh{bmB:List acB}{newId:String}(X:K.In h)(q:PySem.W.excIn K C bmB newId=true):
  ∃bm N nm qn bs hdct sn sub ab col dd k0 k1 k2 k3 k5 mN,h.get? C=some (excClassObj nm qn C N bs bm hdct sn sub ab col dd k0 k1 k2 k3 k5 newId)/\h.Ns N mN/\mN "__init__" =none/\OwnTail h bmB bm:=by
 unfold PySem.W.excIn at q;split at q
 ·rename_i d0 cd sl0 e0;split at q
  ·rename_i C1 b1 a0 a1 a2 a3 n1 a5 e1 e2;simp only[adU,beq_iff_eq,agR] at q;obtain⟨⟨⟨⟨⟨rfl,rfl⟩,z1⟩,z2⟩,z3⟩,z4⟩:=q;obtain⟨v1,v2,v3,v4,v5,v6,v7,v8,v9,v10,v11⟩:=cd
   dsimp only at e1 z1 z3 z4
   subst e1 z1;obtain⟨l0⟩:=sl0;simp only at e2;subst e2;exact⟨b1,v4,v1,v5,v2,v6,v7,v8,v9,v10,d0,a0,a1,a2,a3,a5,_,X _ _ e0,.of_isNs (PySem.W.isNs_of_in X z3),PySem.W.nsMap_none_of_in X z3 z4,PySem.W.tail_of_in X z2⟩
  ·cases q
 ·cases q
section
variable{X:Cx}{c:Str}{C:acA}{np cpos pos:Pos}{e:acI}{fa:ao->R (List D)}
theorem WD(hc:X.calm=true)(hx:X7 X.K X.mg c C)(ha:DA X [e] fa)(hfa:∀ρ,∃ds,fa ρ= .ok ds/\ds.length<=1000000)(hg:Gl X c:=by rfl)(hdb:(c ==("__debug__" :Str))=false:=by decide)
  (he:acE [e] X.env=(false,eval e X.env)::acE [] X.env:=by rfl)(hpl:(adg cpos (acE [e] X.env)).any (·.1)=false:=by rfl):
  DS X (.Raise (some (.Call (.Name c np) [e] [] cpos)) none pos) (λρ=> .ex c ρ):=by
 intro pins s σ H E I h;obtain⟨H0,O0,O,ρ,j,h⟩:=h;obtain⟨bm,N,nm,qn,bs,hdct,sn,sub,ab,col,dd,k0,k1,k2,k3,k5,mN,o1,o2,o3,o4⟩:=Uh I.mod.kin hx.ex;obtain⟨ds,ef,dl⟩:=hfa ρ;have key:tG X (uG X) fa σ H (λvs H1=>ds.length=vs.length/\Same H H1):=⟨ρ,O,j.inn,by rw[ef];exact λvs H1 s1 r1=>⟨r1.length,s1⟩⟩;refine wpAny_Raise_call_subU (C:=C) (nm:=nm) (q:=qn) (N:=N) (bs:=bs) (bm:=bm) (hdct:=hdct) (sn:=sn) (sub:=sub) (ab:=ab) (col:=col) (dd:=dd) (k0:=k0) (k1:=k1) (k2:=k2) (k3:=k3) (k5:=k5)
  PySem.F.excBase_ValueError (by rfl) PySem.F.excBase_ValueError (mN:=mN) (o4.hasType PySem.F.excBase_ValueError.hasBase) (I.ok.hd hc) hpl o3 (ld_glob I hg hx.mg ⟨rfl,?_⟩ hdb)
 have hA:=ha cpos pins s σ H _ I key;rw[he] at hA |-;refine afg (adQ hA (λus s1 ⟨vs,H1,I1,r,hl,sm⟩=>?_) λ_ _ z=>z);refine⟨rfl,?_,I1.bk _ _ o1,o2.keeps I1.bk,o4.keeps I1.bk,λh' ev hm=>?_⟩
 ·show us.length<=sizeLine;rw[<-r.length,<-hl];exact z0b dl dB
 ·obtain⟨t,ht,_,_⟩:=hm.there;exact h σ H1 O (j.grow sm) H1 pins s1 ev C none _ H1 (Same.refl _) I1 hx.ns ⟨Same.refl _,Un.kept hm.keeps,I1.hok.kept hm.keeps,rfl,I1.bare,⟨_,_,ht,rfl,rfl,rfl,rfl⟩,hm.new,BP I1.hok hm.new,λ_ z=>by cases z⟩
end
section
variable{X:Cx}{pins:List (acA×Obj)}{σ:St}{H:Hp}{s:acC}
end
section
variable{X:Cx}{pins:List (acA×Obj)}{σ:St}{H:Hp}{s:acC}{E:acB->acC->Prop}
end
section
variable{X:Cx}{t n:Str}{CT:acA}{np hpos pos:Pos}{body suite:List acS}{b₀:acS}{g h:ao->So}{sub:Str->Str->Bool}
end
structure XIn(K:PySem.W.Frag)(C:acA):Prop where
 g1:PySem.W.findIn K (.ref C) "__getattribute__" =some (some (.builtin "BaseException.__getattribute__"))
 g2:PySem.W.findIn K (.ref C) "__getattr__" =some none
 cl:(PySem.W.clsIn K C).isSome=true
 ha:PySem.W.findIn K (.ref C) "__class__" =some (some (.builtin "object.__class__"))
 hn:PySem.W.specialIn K (.builtin "object.__class__") "__get__" =some (some (.builtin "getset_descriptor.__get__"))
 ht:PySem.W.takesIn K (.builtin "object.__class__")=some true
 hm:PySem.W.mroIn K C (.type "object")=some true
 hb:PySem.W.mroIn K C (.type "BaseException")=some true
section
variable{prog:acL}{w:acQ}{A:acO}{E:acB->acC->Prop}{s:acC}{K:PySem.W.Frag}{x C:acA}{ox:Obj}{od:Option Obj}
end
section
variable{X:Cx}{sub:Str->Str->Bool}
end
section
variable{X:Cx}{tg a:acI}{p pos:Pos}{fa:ao->R (List D)}
end
section
variable{X:Cx}
end
def Tb(ts:List (acA×Str))(H:Hp):Prop:=∀p∈ts,∃(ps:Array acB) (tq:Tok),H p.1=some (.tbl ps)/\ps[0]?=some (.str p.2 tq)
theorem Tb.un{fs ex:List acA}{H':Hp}(t:Tb ts H)(u:Un fs ex H H' h h'):Tb ts H':=λp hp=>by
 obtain⟨ps,tq,e,q⟩:=t p hp;obtain⟨more,e'⟩:=u.tbls _ _ e;refine⟨_,tq,e',?_⟩;obtain⟨hl,_⟩:=ad6.mp q;rw[Array.getElem?_append_left hl];exact q
theorem Tb.same{H':Hp}(t:Tb ts H)(s:Same H H'):Tb ts H':=λp hp=>let⟨ps,tq,e,q⟩:=t p hp;⟨ps,tq,s _ _ e,q⟩
theorem Dy{α β:Type}{F:α->β->Prop}:∀{es:List α} {vs:List β} {i:Nat} {e:α},Paired F es vs->es[i]?=some e->∃v,vs[i]?=some v/\F e v
 |_,_,_,_,.nil,h=>by simp at h
 |_,_,0,_,.cons r _,h=>by simp at h;subst h;exact⟨_,rfl,r⟩
 | _,_,i+1,e,.cons _ t,h=>by
  obtain⟨v,h1,h2⟩:=Dy (i:=i) (e:=e) t (by simpa using h);exact⟨v,by simpa using h1,h2⟩
theorem Ro{β:Type}{F:α->β->Prop}:∀{es:List α} {vs:List β},Paired F es vs->es.length=vs.length
 :=by
 intro es vs h
 induction h with
 |nil=>rfl
 |cons r t ih=>rw[acX,acX,ih]
theorem Dz{β:Type}{F:α->β->Prop}:∀{es fs:List α} {vs ws:List β},Paired F es vs->Paired F fs ws->Paired F (es++fs) (vs++ws)
 :=by
 intro es fs vs ws h q
 induction h with
 |nil=>exact q
 |cons r t ih=>exact .cons r ih
abbrev aax(K:PySem.W.Frag)(O:acA->Prop)(H:Hp):Ent->V->Prop:=λe v=>o7 K O H e v/\e.own=false
theorem sS{K:PySem.W.Frag}{O:acA->Prop}{H:Hp}:∀{ds:List D} {vs:List V},aO K O H ds vs->Paired (aax K O H) (ds.map .val) vs
 |[],vs,r=>by rw[r.nil_inv];exact .nil
 | d::ds,vs,r=>by
  obtain⟨x,t,rfl,h1,h2⟩:=r.cons_inv;exact .cons ⟨h1,rfl⟩ (sS h2)
theorem BR{X:Cx}{es:List Ent}{m:Nat}(hl:X.N.length=es.length+m)(r:Paired (aax X.K O H) es vs)(al:∀a,O a->∃o,H a=some o):
  At X H O O H (es.map some++acH m none) (vs.map some++acH m none):=by
 have hlen:=Ro r;have get:∀(i:Nat) e,(es.map some++acH m none)[i]?=some (some e)->∃v,(vs.map some++acH m none)[i]?=some (some v)/\o7 X.K O H e v/\e.own=false:=λi e q=>by
  by_cases hi:i<es.length
  ·rw[adl (by simpa using hi),z2b] at q;cases z:es[i]? with
   |none=>rw[z] at q;cases q
   | some e'=>
    rw[z] at q;cases q;obtain⟨v,h1,h2,h3⟩:=Dy r z;exact⟨v,by rw[adl (by rw[z1g,<-hlen];exact hi),z2b,h1];rfl,h2,h3⟩
  ·rw[adf (by simpa using hi),aee] at q;split at q <;> cases q
 refine⟨Same.refl _,.refl,λ_ z=>z,⟨⟨λi e q=>?_,λi k e e' v _ hi _ oi=>?_,λi k rows a rs e v _ hi=>by obtain⟨_,_,_,h3⟩:=get i _ hi;cases h3⟩,al,?_,?_⟩,λi e a q ho=>?_,λi rows a rs q=>by obtain⟨_,_,_,h3⟩:=get i _ q;cases h3⟩
 ·obtain⟨v,h1,h2,_⟩:=get i e q;exact⟨v,h1,h2⟩
 ·obtain⟨_,_,_,h3⟩:=get i e hi;rw[h3] at oi;cases oi
 ·rw[z1d,z1g,adD,<-hlen];exact hl.symm
 ·rw[z1d,z1g,adD];exact hl.symm
 ·obtain⟨_,_,_,h3⟩:=get i e q;rw[h3] at ho;cases ho
theorem BW{m:Nat}(h:N.length=vs.length+m):L2.start N vs=vs.map some++acH m none:=by
 unfold L2.start;rw[show N.length - vs.length=m by omega]
def spT(ts:List (acA×Str))(K:PySem.W.Frag)(n:Nat)(F:List D->R D):Sp:=λvs H Q E=>Tb ts H/\Al K n F vs H Q E
section
variable{P:acL}{w:acQ}{K:PySem.W.Frag}{mg:Str->Option acB}{base:acP}
def eU(m:Nat)(g:ao->So)(es:List Ent):R D:=match g (es.map some++acH m none) with
 | .rt d=> .ok d
 | .nx _=> .ok .non
 |_=> .bad
theorem PL{X:Cx}{m:Nat}{g:ao->So}{es:List Ent}{Q:VK}(h:match eU m g es with | .ok d=>∀v H',Same H H'->Rep X.K O H' d v->Q v H' |_=>False):
  uI X H O O H {nx:=λ_ H'=>Q .non H',rt:=Q} (g (es.map some++acH m none)):=by
 unfold eU at h;cases e2:g (es.map some++acH m none) with
 |rt d=>rw[e2] at h;exact λv H' s' r'=>h v H' s' r'
 |nx ρ'=>rw[e2] at h;exact λσ' H' O' j' _=>h .non H' j'.same mL
 |bk _=>rw[e2] at h;exact h.elim
 |ct _=>rw[e2] at h;exact h.elim
 |ex _ _=>rw[e2] at h;exact h.elim
 |bad=>rw[e2] at h;exact h.elim
theorem X8{x:Str}{m:Nat}{g:ao->So}(Fn:Fun K x qual st f fd)(S:FnScope N ps (defScope st))(hn:ps.length=n)(hm:N.length=n+m)
  (hb:∀(cdv:acB) (A:acO) (outer:List PySem.Env) (s:acC) (H:Hp) (E:XK),fd.code=cdv->Room k (A.deeper (aeb qual (defScope st) s.heap.objs.size f cdv))->Tb ts H->jg (cxOf CX0 P w K mg base N qual (defScope st) f cdv A outer s H E).nox (defBody st) g):
  FnOk P w K mg base CX0 (k+1) f fd ps (spT ts K n (λds=>eU m g (ds.map .val))):=by
 obtain⟨oc,od,kV,doc,pm,an,cdv,ct,osl,rfl,lk,hcd⟩:=Fn.ex;refine fn_of lk hcd S (λvs H Q E h=>?_) λA outer s H vs Q E hr h=>?_
 ·obtain⟨_,O,ds,r,hl,_⟩:=h;rw[hn,<-hl,r.length]
 ·obtain⟨hT,O,ds,r,hl,al,h⟩:=h;have Am:N.length=vs.length+m:=by rw[hm,<-hl,r.length]
  refine⟨_,(hb cdv A outer s H E rfl hr hT).nox,H,O,O,(ds.map Ent.val).map some++acH m none,?_,PL h⟩;rw[BW Am];exact BR (X:=(cxOf CX0 P w K mg base N qual (defScope st) f cdv A outer s H E).nox) (by rw[z1g,r.length];exact Am) (sS r) al
end
def K3(P:acL)(w:acQ)(K:PySem.W.Frag)(mg:Str->Option acB)(base:acP)(k:Nat)(x:Str)(n:Nat)(F:List D->R D)(fd:adh)(ps:List Str)(ts:List (acA×Str)):Prop:=
 ∃f,FnOk P w K mg base CX0 k f fd ps (spT ts K n F)/\mg x=some (.ref f)/\PySem.W.keepIn K (.ref f)=true
section
variable{X:Cx}{k m n:Nat}{fd:adh}{ps ks:List Str}{F:List D->R D}{x:Str}{p pos:Pos}{e:acI}{es:List acI}{kws:List aei}{fa fk:ao->R (List D)}{ts:List (acA×Str)}
theorem aay(G:K3 X.prog X.w X.K X.mg X.base k x n F fd ps ts)(hT:Tb ts X.H₀)(hr:Room m X.A)(hkm:k<=m)(hb:Binds X.K fd ps [])(ha:DA X (e::es) fa)(hg:Gl X x:=by rfl)
  (hdb:(x ==("__debug__" :Str))=false:=by decide)(he:acE (e::es) X.env=(false,eval e X.env)::acE es X.env:=by rfl)(hpl:(adg pos (acE es X.env)).any (·.1)=false:=by rfl):
  DE X (.Call (.Name x p) (e::es) [] pos) (aF (aN F n) fa):=by
 obtain⟨f,ok,hm,hk⟩:=G;intro pins s σ H Q I h;refine pe_call (dvs:=[]) (ok.mono hkm) hr hg hm hk hb .nil pass0 ha hdb he hpl pins s σ H Q I ?_;obtain⟨ρ,O,j,h⟩:=h;refine go j h λds vs H1 e1 s1 r1 j1 h1=>?_;unfold aN at h1;by_cases hl:ds.length=n
 ·rw[if_pos hl] at h1;rw[adp];refine⟨(hT.un I.base).same s1,O,ds,r1,hl,j1.al,?_⟩;cases q:F ds with
  |ok d=>rw[q] at h1;exact h1
  |err c=>rw[q] at h1;exact h1
  |bad=>rw[q] at h1;exact h1
 ·rw[if_neg hl] at h1;exact h1.elim
theorem YT{sa sb sc}(S:Sel sa sb sc)(G:K3 X.prog X.w X.K X.mg X.base k x n F fd ps ts)(hT:Tb ts X.H₀)(hr:Room m X.A)(hkm:k<=m)(hb:KB X.K fd ps ks sa)
  (ha:DA X (e::es) fa)(hkw:DK X kws fk)(hg:Gl X x:=by rfl)(hall:(ad5 pos (adx kws X.env)).all (·.1.isSome)=true:=by rfl)(hks:(ad5 pos (adx kws X.env)).filterMap (·.1)=ks:=by rfl)
  (hdb:(x ==("__debug__" :Str))=false:=by decide)(he:acE (e::es) X.env=(false,eval e X.env)::acE es X.env:=by rfl)
  (hpl:((adg pos (acE (e::es) X.env)).any (·.1) || (ad5 pos (adx kws X.env)).any (·.1.isNone))=false:=by rfl):
  DE X (.Call (.Name x p) (e::es) kws pos) (vh F n ks.length sc fa fk):=by
 obtain⟨f,ok,hm,hk⟩:=G;have G:=ok.mono hkm;intro pins s σ H Q I h;refine ad4 (ld_glob I hg hm ?_ hdb);obtain⟨ρ,O,j,h⟩:=h;have key:tG X (uG X) fa σ H λvs H1=>tG X (uG X) fk σ H1 λzs H2=>zs.length=ks.length/\spT ts X.K n F (vs++pickK .non sb zs) H2 Q E0:=by
  refine go j h λds vs H1 e1 s1 r1 j1 h1=>?_;refine go j1 h1 λzd zs H2 e2 s2 r2 j2 h2=>?_;by_cases hz:zd.length=ks.length
  ·rw[if_pos hz] at h2;unfold aN at h2;by_cases hl:(ds++pickK .non sc zd).length=n
   ·rw[if_pos hl] at h2;refine⟨by rw[<-r2.length];exact hz,((hT.un I.base).same s1).same s2,O,_,(r1.same s2).append (S.reps r2),hl,j2.al,?_⟩;cases q:F (ds++pickK .non sc zd) with
    |ok d=>rw[q] at h2;exact h2
    |err c=>rw[q] at h2;exact h2
    |bad=>rw[q] at h2;exact h2
   ·rw[if_neg hl] at h2;exact h2.elim
  ·rw[if_neg hz] at h2;exact h2.elim
 refine PySem.W.callWith_KW (h₀:=X.base) I.ok.mod.kin hk hall (thn (ha pos pins s σ H _ I key) λus s1 ⟨vs,H1,I1,r,q⟩=>?_) hpl he;refine thn (hkw pos pins s1 σ H1 _ I1 q) λws s2 ⟨zs,H2,I2,rz,q2⟩=>⟨I2.kIn,?_⟩;rw[hks];obtain⟨hz,q2⟩:=q2;have r2:=r.append (S.vals rz);have hl:(us++pickK .none sa ws).length=ps.length:=by rw[<-r2.length];exact G.len _ _ _ _ q2
 refine agf (aeB (G.run X.A X.stack s2 H2 ⟨us,ks.zip ws⟩ _ _ Q E0 hr I2.env0 (hb s2 us ws I2.kIn (by rw[z1d,sJ] at hl;exact hl) (by rw[<-rz.length];exact hz)) r2 q2) λr s' hq=>?_);cases r with
 |error e=>exact pass0 pins σ H2 s2 e s' I2 hq
 | ok fl=>
  cases fl with
  |ret u=>exact I2.after hq
  |next=>exact ac5 hq
  |brk=>exact ac5 hq
  |cont=>exact ac5 hq
end
theorem NZ{a b:Int}{s t:Tok}{c:acB}(l:List acB)(h:afB l):afB (l++[.int a s,.int b t,c]):=by
 fun_induction afB l with
 |case1=>simp[afB]
 |case2 x1 x2 x3 x4 x5 rest ih=>simp only[ahi,afB];exact ih h
 |case3=>exact h.elim
theorem Ui{a b:Int}{s t:Tok}{c cv:acB}(l:List acB)(h:afB l)(e:af7 pos (l++[.int a s,.int b t,c])=some cv):af7 pos l=some cv\/cv=c:=by
 fun_induction afB l with
 | case1=>
  simp only[ae6,af7] at e;split at e
  ·cases e;exact .inr rfl
  ·cases e
 | case2 x1 x2 x3 x4 x5 rest ih=>
  simp only[ahi,af7] at e |-;split at e
  ·rename_i z;rw[if_pos z];exact .inl e
  ·rename_i z;rw[if_neg z];exact ih h e
 |case3=>exact h.elim
inductive jB (H:Hp) (a:acA) (name qual:Str) (params:aeO) (body:List acS) (scope:aec) (clos:List (Str×acA)):Prop
 |mk (fo:Obj) (doc pm:acB) (c':acA) (ctv:acB) (oc:Obj) (vs:Array acB) (t:Tok) (h1:H a=some (.frz fo (.own a))) (h2:fo.data= .func (PySem.W.fnX name qual params body scope clos .none .none doc pm none (.ref c') ctv)) (h3:H c'=some (.frz oc (.own c'))) (h4:oc.data= .fields vs) (h5:vs[1]?=some (.str qual t)):jB H a name qual params body scope clos
theorem jB.fz{H':Hp}{a:acA}(h:jB H a name qual params body scope clos)(s:∀b o u,H b=some (.frz o u)->H' b=some (.frz o u)):jB H' a name qual params body scope clos:=
 by
 obtain⟨fo,doc,pm,c',ctv,oc,vs,t,h1,h2,h3,h4,h5⟩:=h;exact⟨fo,doc,pm,c',ctv,oc,vs,t,s _ _ _ h1,h2,s _ _ _ h3,h4,h5⟩
structure nW(base:acP)(mg:Str->Option acB)(c P:acA):Prop where
 code:PySem.W.CodeHd base c P
 blt:∃bm ob,mg "__builtins__" =some (.ref bm)/\bm≠ae1/\base.get? bm=some ob/\ob.cls= .type "module"/\ob.dict=some ae1/\ob.data= .plain
section
variable{X:Cx}{pins:List (acA×Obj)}{σ:St}{H:Hp}{s:acC}
theorem YW{M:Model}{A:acO}{E:acB->acC->Prop}{line:Nat}{c P:acA}{ps:Array acB}{tq:Tok}
  (I:Inv X pins σ H s)(hB:nW X.base X.mg c P)(hc:X.env.code= .ref c)(e0:H P=some (.tbl ps))(q0:ps[0]?=some (.str qual tq))(hcl:ag0 scope X.env=pure clos):
  acG M A (makeFunction name qual params (.stmts body) scope X.env [] [] [] pos line) (λv s'=>∃a H1,v= .ref a/\Inv X pins σ H1 s'/\Same H H1/\jB H1 a name qual params body scope clos) E s:=by
 obtain⟨qs,hP,tr,al⟩:=I.hok P _ e0;have hgs:s.heap.Ns acK X.mg:=I.mod.glob.keeps I.bk;have C:PySem.W.CodeHd s.heap c P:=hB.code.keeps I.bk;obtain⟨bm,ob,b1,b2,b3,b4,b5,b6⟩:=hB.blt;have hgP:acK≠P:=λq=>by
  obtain⟨o,es,ep,e,hd,_⟩:=hgs;rw[q,hP] at e;cases e;cases hd
 have hbP:bm≠P:=λq=>by
  have e:=I.bk _ _ b3;rw[q,hP] at e;cases e;cases b4
 have hbG:bm≠acK:=λq=>by
  obtain⟨o,es,ep,e,hd,_⟩:=I.mod.glob;rw[q,e] at b3;cases b3;rw[hd] at b6;cases b6
 have hbb:s.heap.BuiltinsAt X.mg P:=⟨bm,ob,b1,b2,hbG,hbP,I.bk _ _ b3,b4,b5,b6⟩;cases hf:af7 pos qs.toList with
 | some cv=>
  obtain⟨c',oc,vs,q,t,tq',rfl,h1,h2,h3,h4⟩:=al pos cv hf;rw[q0] at h4;cases h4;refine PySem.W.makeFunction_hit (mg:=X.mg) hcl I.ok.glob hgs hc C hP tr hf hbb λctv doc h' tk hk hsz=>?_;have I1:Inv X pins σ H {s with heap:=h',toks:=tk}:=I.kept (t':=tk) hk;have hn:H h'.objs.size=none:=I1.hok.fresh (z0g _);refine⟨h'.objs.size,upd H h'.objs.size (.frz _ (.own h'.objs.size)),rfl,I1.laid (t':=tk) (λb u z=>z1a _ z) (z0g _) ⟨z1f _ rfl,_,z1f _ rfl⟩,Same.upd hn,?_⟩;exact⟨_,doc,_,c',ctv,oc,vs,t,upd_same,rfl,by rw[upd_ne (ne_of_none h1 hn)];exact h1,h2,h3⟩
 | none =>
  refine PySem.W.makeFunction_K (mg:=X.mg) hcl I.ok.glob hgs hc C hP tr hf hgP hbb λc' ctv doc h' tk hx hge hlt hrec htb=>?_;obtain⟨c2,oc,vs,t,e2,hoc,hd,hv⟩:=hrec;cases e2;have hn:H c'=none:=I.hok.fresh hge;have old:∀b u,H b=some u->upd H c' (.frz oc (.own c')) b=some u:=λb u z=>by rw[upd_ne (ne_of_none z hn)];exact z
  have I1 : Inv X pins σ (upd H c' (.frz oc (.own c'))) {s with heap:=h',toks:=tk}:=by
   refine I.call' (ch:=[]) rfl ⟨λb o q n _ _=>hx b o (λz=>by rw[z,e0] at n;cases n) q,λb o q n _ _=>⟨o.slots,hx b o (λz=>by rw[z,e0] at n;cases n) q⟩,λb o q n _=>?_,λb o q _=>?_,λb xs q=>old _ _ q,λb o u q=>old _ _ q,λb p q=>⟨#[],by rw[old _ _ q];simp⟩⟩ (λb u q=>?_) I.bare (λb z=>absurd z (by simp))
   ·rw[upd_ne (ac2 (z0d (z2c q) hge))];exact n
   ·by_cases hb:b=P
    ·rw[hb];exact⟨_,htb⟩
    ·exact⟨o,hx b o hb q⟩
   ·by_cases hb:b=c'
    ·subst hb;rw[upd_same] at q;cases q;exact⟨hoc,oc,hoc⟩
    ·rw[upd_ne hb] at q;by_cases hp:b=P
     ·subst hp;rw[e0] at q;cases q;refine⟨_,htb,?_,λp cv z=>?_⟩
      ·have:=NZ (a:=pos.line) (s:=0) (b:=pos.col) (t:=0) (c:=acM c') qs.toList tr;simpa[ado] using this
      ·have z':af7 p (qs.toList++[.int pos.line 0,.int pos.col 0,.ref c'])=some cv:=by simpa[ado] using z
       rcases Ui _ tr z' with z1 |z1
       ·obtain⟨c3,o3,v3,q3,t3,tq3,y1,y2,y3⟩:=al p cv z1;exact⟨c3,o3,v3,q3,t3,tq3,y1,old _ _ y2,y3⟩
       ·exact⟨c',oc,vs,qual,t,tq,z1,upd_same,hd,hv,q0⟩
     ·exact (I.hok b u q).stay (λd v hd z=>hx d v (λy=>hd.elim (λx=>hp (x.symm.trans y)) λx=>by rw[y,e0] at x;cases x) z) (λd z=>old _ _ z) (λd xs z=>old _ _ z) λd o u _ z=>old _ _ z
  have hn2:upd H c' (.frz oc (.own c')) h'.objs.size=none:=I1.hok.fresh (z0g _);refine⟨h'.objs.size,upd (upd H c' (.frz oc (.own c'))) h'.objs.size (.frz _ (.own h'.objs.size)),rfl,I1.laid (t':=tk) (λb u z=>z1a _ z) (z0g _) ⟨z1f _ rfl,_,z1f _ rfl⟩,(Same.upd hn).trans (Same.upd hn2),?_⟩;exact⟨_,doc,_,c',ctv,oc,vs,t,upd_same,rfl,by rw[upd_ne (ac2 hlt),upd_same],hd,hv⟩
def ace(i:Nat)(name qual:Str)(params:aeO)(body:List acS)(scope:aec)(clos:List (Str×acA)):TS:=λD σ H=>∀a H1,Same H H1->jB H1 a name qual params body scope clos->D.nx (σ.set i (some (.ref a))) H1
theorem aaz(i:Nat){c P:acA}(hN:X.N.Nodup)(hB:nW X.base X.mg c P)(hT:Tb [(P,qual)] X.H₀)(hc:X.env.code= .ref c)(hcl:ag0 scope X.env=pure clos)
  (hi:X.N[i]?=some name:=by rfl)(hl:Loc X.env.scope name:=by first |exact adS rfl |exact adA rfl)(hq:qualnameIn X.env name name=qual:=by rfl)(hd0:params.defaults=[]:=by rfl)(hk0:params.kw_defaults=[]:=by rfl)(ha:annTrees params none X.env=[]:=by rfl)
  (hf:X.fn name=true\/X.env.scope.names.lookup name=some .local:=by first |exact .inl rfl |exact .inr rfl):PS X (.FunctionDef name params body [] none [] scope none name pos) (ace i name qual params body scope clos):=by
 intro pins s σ H D I h;obtain⟨ps,tq,e0,q0⟩:=(hT.un I.base) (P,qual) (by simp);refine PySem.W.nestDef_K hd0 hk0 ha ?_;rw[hq];refine adQ (YW I hB hc e0 q0 hcl) (λv s1 ⟨a,H1,ev,I1,sm,fh⟩=>?_) λ_ _ z=>z;subst ev;exact store_ok I1 hN hi hl (v:= .ref a) rfl (λs2 I2=>⟨_,H1,I2,h a H1 sm fh⟩) hf
end
def xY(P:acL)(w:acQ)(K:PySem.W.Frag)(mg:Str->Option acB)(base:acP)(k:Nat)(G:List D->R D)(n:Nat)(a:acA)(H:Hp):Prop:=
 ∀(A:acO) (outer:List PySem.Env) (s:acC) (H1:Hp) (us:List acB) (vs:List V) (Q:VK) (E:XK),Room k A->Env0 P w K mg base A outer s H1->(∀b o u,H b=some (.frz o u)->H1 b=some (.frz o u))->Vals vs us->Al K n G vs H1 Q E->
  afr (model P w) A (.call (.ref a) ⟨us,[]⟩) (CR CX0 outer P w H1 s Q E) s
def zY(i a:Nat)(G:List D->R D)(n:Nat)(fa:ao->R (List D)):ao->R D:=λρ=>match ρ[i]? with
 |some (some (.obj (.fn b)))=>if b=a then (fa ρ).bind (aN G n) else .bad
 |_=> .bad
section
variable{X:Cx}{k m n:Nat}{G:List D->R D}{x:Str}{p pos:Pos}{e:acI}{es:List acI}{fa:ao->R (List D)}{a:acA}
theorem K4(i:Nat)(hc:xY X.prog X.w X.K X.mg X.base k G n a X.H₀)(hr:Room m X.A)(hkm:k<=m)(ha:DA X (e::es) fa)(hN:X.N[i]?=some x:=by rfl)(hv:Vis X.env.scope x:=by first |exact adS rfl |exact adA (adS rfl) |exact adA (adA rfl))
  (hd:(x ==("__debug__" :Str))=false:=by decide)(hcd:(x ==("__classdict__" :Str))=false:=by decide)(he:acE (e::es) X.env=(false,eval e X.env)::acE es X.env:=by rfl)(hpl:(adg pos (acE es X.env)).any (·.1)=false:=by rfl):
  DE X (.Call (.Name x p) (e::es) [] pos) (zY i a G n fa):=by
 intro pins s σ H Q I h;obtain⟨ρ,O,j,h⟩:=h;unfold zY at h;split at h
 ·rename_i b q;by_cases hb:b=a
  ·subst hb;rw[if_pos rfl] at h;obtain⟨v,hv1,rfl,o,fd,ho,hod⟩:=j.env.get i _ q;have at':∀{s':acC} {H':Hp},Inv X pins σ H' s'->Same H H'->PySem.W.FnAt b s'.heap:=λ{s' H'} I' sm=>by
    obtain⟨ho',_⟩:=I'.hok b _ (sm _ _ ho);obtain⟨v1,v2,v3,v4⟩:=o;have hod:v3= .func fd:=hod;subst hod;exact⟨v1,v2,fd,v4,ho'⟩
   refine ad4 (thn (pe_var hN hv hd hcd pins s σ H (λv H1=>v= .ref b/\H1=H) I ⟨_,hv1,rfl,rfl⟩) λu s1 bA=>?_);obtain⟨v',H1,I1,r1,e1,e2⟩:=bA;subst e1 e2;cases (show u=acM b from r1);have key:tG X (uG X) fa σ H1 (λvs H2=>Same H1 H2/\Al X.K n G vs H2 Q E0):=by
    refine go j h λds vs H2 e1 s2 r2 j2 h2=>⟨s2,?_⟩;unfold aN at h2;by_cases hl:ds.length=n
    ·rw[if_pos hl] at h2;refine⟨O,ds,r2,hl,j2.al,?_⟩;cases q:G ds with
     |ok d=>rw[q] at h2;exact h2
     |err c=>rw[q] at h2;exact h2
     |bad=>rw[q] at h2;exact h2
    ·rw[if_neg hl] at h2;exact h2.elim
   refine PySem.W.callWith_F (at' I1 (Same.refl _)) (thn (ha pos pins s1 σ H1 _ I1 key) λus s2 ⟨vs,H2,I2,r,sm,q2⟩=>⟨at' I2 sm,?_⟩) he hpl;refine agf (aeB (hc X.A X.stack s2 H2 us vs Q E0 (hr.mono hkm) I2.env0 I2.base.frzs r q2) λr s' hq=>?_);cases r with
   |error e=>exact pass0 pins σ H2 s2 e s' I2 hq
   | ok fl=>
    cases fl with
    |ret u=>exact I2.after hq
    |next=>exact ac5 hq
    |brk=>exact ac5 hq
    |cont=>exact ac5 hq
  ·rw[if_neg hb] at h;exact h.elim
 ·exact h.elim
end
inductive SpS (P:acL) (w:acQ) (mg:Str->Option acB) (base:acP) (k:Nat) (K:PySem.W.Frag) (n q:Nat) (F:acA->(List D->R D)->List D->R D) (vs:List V) (H:Hp) (Q:VK):Prop
 | mk (O:acA->Prop) (ds:List D) (xs:List V) (a:acA) (G:List D->R D) (e:vs=xs++[.ref a]) (r:aO K O H ds xs) (hl:ds.length=n) (al:∀b,O b->∃o,H b=some o) (ro:qI K H (.fn a) (.ref a)) (hc:xY P w K mg base k G q a H) (h:match F a G ds with
  | .ok d=>∀v H',Same H H'->Rep K O H' d v->Q v H'
  |_=>False):SpS P w mg base k K n q F vs H Q
def spS(P:acL)(w:acQ)(mg:Str->Option acB)(base:acP)(k:Nat)(K:PySem.W.Frag)(n q:Nat)(F:acA->(List D->R D)->List D->R D):Sp:=λvs H Q _=>SpS P w mg base k K n q F vs H Q
section
variable{P:acL}{w:acQ}{K:PySem.W.Frag}{mg:Str->Option acB}{base:acP}
theorem fnS{x:Str}{kG m q:Nat}{g:acA->(List D->R D)->ao->So}(Fn:Fun K x qual st f fd)(S:FnScope N ps (defScope st))(hn:ps.length=n+1)(hm:N.length=n+1+m)
  (hb:∀(cdv:acB) (A:acO) (outer:List PySem.Env) (s:acC) (H:Hp) (E:XK) (a:acA) (G:List D->R D),Room k (A.deeper (aeb qual (defScope st) s.heap.objs.size f cdv))->xY P w K mg base kG G q a H->jg (cxOf CX0 P w K mg base N qual (defScope st) f cdv A outer s H E).nox (defBody st) (g a G)):
  FnOk P w K mg base CX0 (k+1) f fd ps (spS P w mg base kG K n q (λa G ds=>eU m (g a G) (ds.map .val++[.obj (.fn a)]))):=by
 obtain⟨oc,od,kV,doc,pm,an,cdv,ct,osl,rfl,lk,hcd⟩:=Fn.ex;refine fn_of lk hcd S (λvs H Q E h=>?_) λA outer s H vs Q E hr h=>?_
 ·obtain⟨O,ds,xs,a,G,rfl,r,hl,_⟩:=h;rw[hn,z1d,<-r.length,hl];rfl
 ·obtain⟨O,ds,xs,a,G,rfl,r,hl,al,ro,hc,h⟩:=h;have Am:N.length=(xs++[V.ref a]).length+m:=by rw[hm,z1d,<-r.length,hl];rfl
  refine⟨_,(hb cdv A outer s H E a G hr hc).nox,H,O,O,(ds.map Ent.val++[Ent.obj (.fn a)]).map some++acH m none,?_,PL h⟩;rw[BW Am];refine BR (X:=(cxOf CX0 P w K mg base N qual (defScope st) f cdv A outer s H E).nox) (by rw[z1d,z1g,r.length];rw[z1d] at Am;exact Am) (Dz (sS r) (.cons ⟨ro,rfl⟩ .nil)) al
end
def del(H:Hp)(c:acA):Hp:=λb=>if b=c then none else H b
theorem iZ{c:acA}:del H c c=none:=if_pos rfl
theorem cQ{b c:acA}(h:b≠c):del H c b=H b:=if_neg h
theorem WK{b c:acA}{u:HO}(h:del H c b=some u):b≠c/\H b=some u:=by
 by_cases e:b=c
 ·rw[e,iZ] at h;cases h
 ·rw[cQ e] at h;exact⟨e,h⟩
section
variable{P:acL}{w:acQ}{H:Hp}{h:acP}{c:acA}{co:Obj}{u:Option acB}
theorem PN(x:HOk P w H h)(hc:H c=some (.frz co (.own c)))(hd:co.data= .cell u):HOk P w (del H c) h:=λb v q=>by
 obtain⟨nb,q⟩:=WK q;refine (x b v q).stay (λ_ _ _ z=>z) (λd z=>?_) (λd xs z=>?_) λd o v' hv z=>?_
 ·rw[cQ (λe=>by rw[e,hc] at z;cases z)];exact z
 ·rw[cQ (λe=>by rw[e,hc] at z;cases z)];exact z
 ·rw[cQ (λe=>by rw[e,hc] at z;cases z;obtain⟨vs,y⟩:=hv;rw[hd] at y;cases y)];exact z
theorem PX(x:HOk P w H h)(hn:H c=none)(ho:h.get? c=some co):HOk P w (upd H c (.frz co (.own c))) h:=λb v q=>by
 have old:∀b u,H b=some u->upd H c (.frz co (.own c)) b=some u:=λb u z=>by rw[upd_ne (ne_of_none z hn)];exact z
 by_cases hb:b=c
 ·subst hb;rw[upd_same] at q;cases q;exact⟨ho,co,ho⟩
 ·rw[upd_ne hb] at q;exact (x b v q).stay (λ_ _ _ z=>z) (λd z=>old _ _ z) (λd xs z=>old _ _ z) λd o v' _ z=>old _ _ z
theorem P0(hc:H c=some (.frz co (.own c))):Ext O H (del H c):=by
 refine⟨λb xs z=>?_,λb xs _ z=>?_⟩
 ·have nb:b≠c:=λe=>by rcases z with z |⟨o,z⟩ <;> rw[e,hc] at z <;> cases z
  rcases z with z |⟨o,z⟩
  ·exact .inl (by rw[cQ nb];exact z)
  ·exact .inr ⟨o,by rw[cQ nb];exact z⟩
 ·have nb:b≠c:=λe=>by rcases z with z |⟨o,z⟩ <;> rw[e,hc] at z <;> cases z
  rcases z with z |⟨o,z⟩
  ·exact .inl (by rw[cQ nb];exact z)
  ·exact .inr ⟨o,by rw[cQ nb];exact z⟩
end
section
variable{M:Model}{A:acO}{E:acB->acC->Prop}{s:acC}
theorem DN{env env':PySem.Env}(f f':Str×acB->PUnit->Sem (ForInStep PUnit))(hf:∀n v u,f (n,v) u=(do ael env n v;pure (.yield ⟨⟩)))(hf':∀n v u,f' (n,v) u=(do ael env' n v;pure (.yield ⟨⟩))):
  ∀binds:List (Str×acB),(∀x∈binds,∀v,ael env x.1 v=ael env' x.1 v)->(forIn binds (⟨⟩:PUnit) f:Sem PUnit)=forIn binds (⟨⟩:PUnit) f'
 |[],_=>rfl
 | (n,v)::r,h=>by
  rw[afw,afw,hf,hf',h (n,v) acT v];simp only[bind_assoc,pure_bind];rw[DN f f' hf hf' r λx hx=>h x (z2f _ hx)]
theorem Qa{n:Str}{v:acB}(hk:env.scope.kind= .function)(h:env.scope.names.lookup n=some .local):ael env n v=nsSet env.locals n v:=by
 have h:env.kindOf n=some .local:=h;simp[ael,h,hk]
theorem Qc{n:Str}{v:acB}{d:acA}(hk:env.scope.kind= .function)(h:env.scope.names.lookup n=some .cell)(hd:env.cells.lookup n=some d):ael env n v=cellSet d (some v):=by
 have h:env.kindOf n=some .cell:=h;simp[ael,h,hk,cellOf,hd]
theorem N5{globals:acA}{binds:List (Str×acB)}{func:Option acA}{code:acB}{builtins:acA}{Q:PySem.Env->acC->Prop}
  (hk:scope.kind= .function)
  (hkind:∀x∈binds,scope.names.lookup x.1=some .local\/(scope.names.lookup x.1=some .cell/\((acZ (s.heap.objs.size+1) scope.names []).lookup x.1).isSome=true))
  (hQ:∀s',InCallC s s.heap.objs.size (bindL (λq=>scope.names.lookup q) binds λ_=>none) (acZ (s.heap.objs.size+1) scope.names []) (bindC (λq=>scope.names.lookup q) binds λ_=>none) s'->
   Q (newEnv scope s.heap.objs.size globals (acZ (s.heap.objs.size+1) scope.names []++clos) qual func code none builtins) s'):
  acG M A (agq scope globals clos binds qual func code none builtins) Q E s:=by
 simp only[agq,Option.isSome_none,ac7,if_false];refine acz (wpAny_alloc ?_);refine acz (wpAny_layCells _ (λname kind cells=>by cases hkc:kind ==ae0 <;> simp[hkc]) _ _ _ _ ?_);have ok:=cellsFrom_ok scope.names (s.heap.push {cls:= .type "frame",data:= .dict #[]}) (s.heap.objs.size+1) [] ⟨λ_ _ hm=>(nomatch hm),agQ⟩ (by rw[adE];exact z0g _);rw[adE] at ok;rw[show ({s with heap:=s.heap.push {cls:= .type "frame",data:= .dict #[]}}:acC).heap.objs.size=s.heap.objs.size+1 from adE ..];rw[cZ];have eq:=DN (env:=newEnv scope s.heap.objs.size globals (acZ (s.heap.objs.size+1) scope.names []++clos) qual func code none builtins) (env':=newEnv scope s.heap.objs.size globals (acZ (s.heap.objs.size+1) scope.names []) qual func code none builtins)
  (λx _=>do ael (newEnv scope s.heap.objs.size globals (acZ (s.heap.objs.size+1) scope.names []++clos) qual func code none builtins) x.1 x.2;pure (.yield ⟨⟩))
  (λx _=>do ael (newEnv scope s.heap.objs.size globals (acZ (s.heap.objs.size+1) scope.names []) qual func code none builtins) x.1 x.2;pure (.yield ⟨⟩)) (λ_ _ _=>rfl) (λ_ _ _=>rfl) binds (λx hx v=>by
   rcases hkind x hx with z |⟨z,z2⟩
   ·rw[Qa hk z,Qa hk z];rfl
   ·obtain⟨d,hd⟩:=aeT.mp z2;have e1:(acZ (s.heap.objs.size+1) scope.names []++clos).lookup x.1=some d:=by rw[adT,hd];rfl
    rw[Qc hk z e1,Qc hk z hd])
 refine acz ?_;show acG M A (forIn binds (⟨⟩:PUnit) (λx _=>do ael (newEnv scope s.heap.objs.size globals (acZ (s.heap.objs.size+1) scope.names []++clos) qual func code none builtins) x.1 x.2;pure (.yield ⟨⟩))) _ E _;rw[eq];exact wpAny_bindParams (s₀:=s) (env:=newEnv scope s.heap.objs.size globals (acZ (s.heap.objs.size+1) scope.names []) qual func code none builtins)
  _ (λ_ _ _=>rfl) hk binds (λ_=>none) (λ_=>none) _ _
  ⟨⟨⟨_,_,rfl⟩,(Heap.Ns.new s.heap (.type "frame")).keeps (afx _ _),λb o e=>afx _ _ b o (z1a _ e),z0g _⟩,
   λn c hc=>(ok.empty n c (mem_of_lookup hc)).1,ok.apart,λn c hm=>(ok.empty n c hm).2⟩
  hkind λs' x=>acF (hQ s' x)
end
structure GZ(N P:List Str)(y:Str)(sc:aec):Prop where
 kind:sc.kind= .function
 co:sc.isCoroutine=false
 gen:sc.isGenerator=false
 nd:N.Nodup
 pre:N.take (P.length+1)=P++[y]
 par:∀x∈P,sc.names.lookup x=some .local\/sc.names.lookup x=some .cell
 Ih:sc.names.lookup y=some .free
 only:∀z∈sc.names,z.2= .free->z.1=y
 XH:∀z∈sc.names,z.2= .cell->sc.names.lookup z.1=some .cell
section
variable(P:acL)(w:acQ)(K:PySem.W.Frag)(mg:Str->Option acB)(base:acP)(N:List Str)(qual:Str)(scope:aec)(f:acA)(cd:acB)(A:acO)(outer:List PySem.Env)(s:acC)(H:Hp)(y:Str)(c:acA)
abbrev vo:PySem.Env:=PySem.W.envX qual scope s.heap.objs.size f cd (acZ (s.heap.objs.size+1) scope.names []++[(y,c)])
def vp:Cx where
 prog:=P
 w:=w
 K:=K
 mg:=mg
 base:=base
 A:=A.deeper (vo qual scope f cd s y c)
 N:=N
 s₀:=s
 H₀:=H
 env:=vo qual scope f cd s y c
 outer:=outer
 stack:=vo qual scope f cd s y c::outer
 ex:=[]
 calm:=true
 fn:=λx=>decide (x≠y)
 pn:=[]
 xe:=λ_ _=>False
end
section
variable{P:acL}{w:acQ}{K:PySem.W.Frag}{mg:Str->Option acB}{base:acP}
theorem aaA{cd:acB}{A:acO}{s s1:acC}{us:List acB}{c:acA}{vy:V}{uy:acB}
  (S:GZ N ps y scope)(hd:A.handled=none)(e0:Env0 P w K mg base A outer s H)(hl:vs.length=ps.length)(r:Vals vs us)(hc:s.heap.IsCell c (some uy))(hy:RelV vy uy)(hHc:H c=none)
  (x:InCallC s s.heap.objs.size (bindL (λq=>scope.names.lookup q) (ps.zip us) λ_=>none) (acZ (s.heap.objs.size+1) scope.names []) (bindC (λq=>scope.names.lookup q) (ps.zip us) λ_=>none) s1):
  Inv (vp P w K mg base N qual scope f cd A outer s H y c) [] (start N (vs++[vy])) H s1:=by
 have hpl:ps.length+1<=N.length:=by have:=congrArg List.length S.pre;rw[af3,z1d,aem] at this;omega
 obtain⟨h1,tk,rfl,hk⟩:=x.done;have noA:∀b:acA,b∉(vp P w K mg base N qual scope f cd A outer s H y c).ex:=λb z=>absurd (show b∈([]:List acA) from z) (by simp);have clt:c<s.heap.objs.size:=hc.lt;have cells:∀z d,(vo qual scope f cd s y c).cells.lookup z=some d->((acZ (s.heap.objs.size+1) scope.names []).lookup z=some d/\scope.names.lookup z=some .cell)\/(z=y/\d=c):=λz d q=>by
  have q:(acZ (s.heap.objs.size+1) scope.names []++[(y,c)]).lookup z=some d:=q;rw[adT] at q;cases e:(acZ (s.heap.objs.size+1) scope.names []).lookup z with
  | some d'=>
   rw[e] at q;have q:d'=d:=by simpa using q
   subst q;obtain⟨m1,_⟩:=jf _ _ (PySem.mem_of_lookup e);exact .inl ⟨rfl,S.XH _ m1 rfl⟩
  | none=>
   rw[e] at q;have q:List.lookup z [(y,c)]=some d:=by simpa using q
   rw[aew] at q;cases hz:z ==y with
   |true=>rw[hz] at q;cases q;exact .inr ⟨by simpa using hz,rfl⟩
   |false=>rw[hz] at q;cases q
 have kept:(vo qual scope f cd s y c).cells.lookup y=some c:=by
  show (acZ (s.heap.objs.size+1) scope.names []++[(y,c)]).lookup y=some c;rw[adT];cases e:(acZ (s.heap.objs.size+1) scope.names []).lookup y with
  | some d=>
   obtain⟨m1,_⟩:=jf _ _ (PySem.mem_of_lookup e);have:=S.XH _ m1 rfl;rw[S.Ih] at this;cases this
  |none=>simp[aew]
 refine⟨⟨e0.mod,S.kind,rfl,rfl,z0g _,λz z' d h1 h2=>?_,λz hz=>?_,λz d hf h=>?_,λ_=>hd,Around.frames_deeper e0.frames,.inr ⟨rfl,rfl⟩,λb z=>absurd z (noA b),e0.bs,e0.bsz,λb _ _=>noA b,λb z=>absurd z (noA b),e0.funs,e0.frf⟩,
  rfl,e0.bare,Un.kept hk,⟨_,x.toInCall.ns,λi z v h1 h2 h3=>?_⟩,λz d h=>?_,e0.hok.fresh (z0g _),λz d h=>?_,λp hp=>absurd (show p∈([]:List (acA×Obj)) from hp) (by simp),e0.hok.kept hk,?_⟩
 ·rcases cells z d h1 with⟨q1,_⟩ |⟨q1,q2⟩ <;> rcases cells z' d h2 with⟨q3,_⟩ |⟨q3,q4⟩
  ·exact name_of_addr x.apart (PySem.mem_of_lookup q1) (PySem.mem_of_lookup q3)
  ·have:=x.above z d (PySem.mem_of_lookup q1);rw[q4] at this;exact absurd (Nat.lt_trans clt this) (adH _)
  ·have:=x.above z' d (PySem.mem_of_lookup q3);rw[q2] at this;exact absurd (Nat.lt_trans clt this) (adH _)
  ·rw[q1,q3]
 ·have hz:scope.names.lookup z=some .cell\/scope.names.lookup z=some .free:=hz;rcases hz with hz |hz
  ·obtain⟨d,e⟩:=cell_has (n:=s.heap.objs.size+1) hz;exact⟨d,by show (acZ (s.heap.objs.size+1) scope.names []++[(y,c)]).lookup z=some d;rw[adT,e];rfl⟩
  ·have e:=S.only _ (PySem.mem_of_lookup hz) rfl;have e:z=y:=e;rw[e];exact⟨c,kept⟩
 ·have hf:z≠y:=of_decide_eq_true hf;rcases cells z d h with⟨q1,_⟩ |⟨q1,_⟩
  ·exact z0e (x.above z d (PySem.mem_of_lookup q1))
  ·exact absurd q1 hf
 ·have hi:i<vs.length+1:=by
   unfold L2.start at h2;by_cases hi:i<vs.length+1
   ·exact hi
   ·rw[adf (by simpa using hi)] at h2;rw[aee] at h2;split at h2 <;> cases h2
  have ha:(vs++[vy])[i]?=some v:=by
   unfold L2.start at h2;rw[adl (by simpa using hi),z2b] at h2;cases e:(vs++[vy])[i]? with
   |none=>rw[e] at h2;cases h2
   |some a=>rw[e] at h2;cases h2;rfl
  have hp:(ps++[y])[i]?=some z:=by
   rw[<-S.pre,ag9 (by omega)];exact h1
  by_cases hiv:i<vs.length
  ·rw[adl hiv] at ha;rw[adl (by omega)] at hp;obtain⟨u,hu,rv⟩:=r.get ha;have ndP:ps.Nodup:=by
    have q:(ps++[y]).Nodup:=by rw[<-S.pre];exact S.nd.sublist (List.take_sublist _ _)
    exact (agS.mp q).1
   refine⟨u,rv,?_⟩;rcases S.par z (ac6 hp) with k |k
   ·exact .inl ⟨k,bindL_get ndP hp hu k⟩
   ·obtain⟨d,e⟩:=cell_has (n:=s.heap.objs.size+1) k;refine .inr ⟨.inl k,d,?_,?_⟩
    ·show (acZ (s.heap.objs.size+1) scope.names []++[(y,c)]).lookup z=some d;rw[adT,e];rfl
    ·have q:=x.cell z d e;rw[bindC_get ndP hp hu (by rw[k];decide)] at q;exact q
  ·have ei:i=vs.length:=by omega
   subst ei;rw[adf (z0g _)] at ha;rw[hl,adf (z0g _)] at hp;have ha:vy=v:=by simpa using ha
   have hp:y=z:=by simpa using hp
   subst ha hp;exact⟨uy,hy,.inr ⟨.inr S.Ih,c,kept,hc.keeps hk⟩⟩
 ·rcases cells z d h with⟨q1,_⟩ |⟨_,q2⟩
  ·exact⟨_,x.cell z d q1⟩
  ·rw[q2];exact⟨_,hc.keeps hk⟩
 ·rcases cells z d h with⟨q1,_⟩ |⟨_,q2⟩
  ·exact e0.hok.fresh (z0e (x.above z d (PySem.mem_of_lookup q1)))
  ·rw[q2];exact hHc
 ·unfold L2.start;show _=N.length;rw[z1d,z1g,adD,z1d,aem];omega
theorem aaB{m:Nat}{g:ao->So}{my:Int}{a c:acA}{co:Obj}{uy:acB}
  (S:GZ N ps y scope)(hn:ps.length=n)(hm:N.length=n+1+m)
  (hbind:∀(doc pm:acB) (cl:List (Str×acA)) (cdv ct:acB) (us:List acB),us.length=ps.length->aeR (PySem.W.fnX name qual params body scope cl .none .none doc pm none cdv ct) ⟨us,[]⟩=pure (ps.zip us))
  (hb:∀(cdv:acB) (A:acO) (outer:List PySem.Env) (s:acC) (H:Hp) (f c:acA),Room k (A.deeper (vo qual scope f cdv s y c))->jg (vp P w K mg base N qual scope f cdv A outer s H y c) body g)
  (fh:jB H a name qual params body scope [(y,c)])(hc:H c=some (.frz co (.own c)))(hcd:co.data= .cell (some uy))(hy:RelV (.int my) uy):
  xY P w K mg base (k+1) (λds=>eU m g (ds.map .val++[.val (.int my)])) n a H:=by
 intro A outer s H1 us vs Q E hr e0 hz r sp;obtain⟨O,ds,rs,hl,al,sp⟩:=sp;have sp:(match eU m g (ds.map Ent.val++[Ent.val (.int my)]) with | .ok d=>∀v H',Same H1 H'->Rep K O H' d v->Q v H' |_=>False):=sp;obtain⟨fo,doc,pm,c',ctv,oc,vq,t,f1,f2,f3,f4,f5⟩:=fh.fz hz;have hc1:=hz _ _ _ hc;obtain⟨hco,_⟩:=e0.hok c _ hc1;obtain⟨hfo,_⟩:=e0.hok a _ f1;obtain⟨hoc,_⟩:=e0.hok c' _ f3;have KX:K.In s.heap:=e0.mod.kin.keeps λb o e=>(e0.bs b o e).1;have lim:s.heap.NoLimit:=e0.mod.nolimit.keeps λb o e=>(e0.bs b o e).1;have e1:Env0 P w K mg base A outer s (del H1 c):=⟨e0.frames,e0.mod,λb o e=>⟨(e0.bs b o e).1,by
  by_cases q:b=c
  ·rw[q];exact iZ
  ·rw[cQ q];exact (e0.bs b o e).2⟩,e0.bsz,e0.funs,λb hb=>by
  by_cases q:b=c
  ·rw[q];exact iZ
  ·rw[cQ q];exact e0.frf b hb,PN e0.hok hc1 hcd,e0.bare⟩
 have hlu:us.length=ps.length:=by rw[<-r.length,<-rs.length,hl,hn]
 have hkind:∀z∈ps.zip us,scope.names.lookup z.1=some .local\/(scope.names.lookup z.1=some .cell/\((acZ (s.heap.objs.size+1) scope.names []).lookup z.1).isSome=true):=λ⟨q,v⟩ hy=>by
  rcases S.par q (agg hy).1 with z |z
  ·exact .inl z
  ·exact .inr ⟨z,PySem.W.cellsFrom_some _ _ _ (.inl z)⟩
 refine codeAny_call_function hr.depth hfo f2 S.co S.gen rfl ⟨c',oc,vq,t,rfl,hoc,f4,f5⟩ ?_;rw[hbind doc pm _ _ _ us hlu];refine acF (N5 S.kind hkind λs1 x=>?_);refine⟨lim.keeps x.toInCall.keep,codeAny_func ?_⟩;have I:Inv (vp P w K mg base N qual scope a (.ref c') A outer s (del H1 c) y c) [] (start N (vs++[.int my])) (del H1 c) s1:=
  aaA S hr.hd e1 (by rw[<-rs.length,hl,hn]) r ⟨co,hco,hcd⟩ hy iZ x
 have Am:N.length=(vs++[V.int my]).length+m:=by rw[hm,z1d,<-rs.length,hl];rfl
 have rs':aO K (λb=>O b/\b≠c) (del H1 c) ds vs:=aO.ext (P0 hc1) (λb xs nb _ z=>nb z.1) ds vs rs;have J:At (vp P w K mg base N qual scope a (.ref c') A outer s (del H1 c) y c) (del H1 c) (λb=>O b/\b≠c) (λb=>O b/\b≠c) (del H1 c) ((ds.map Ent.val++[Ent.val (.int my)]).map some++acH m none) (start N (vs++[.int my])):=by
  rw[BW Am];refine BR (by show N.length=_;rw[z1d,z1g,rs.length];rw[z1d] at Am;exact Am) (Dz (sS rs') (.cons ⟨(bN (K:=K) (O:=λb=>O b/\b≠c) (H:=del H1 c) my:o7 K (λb=>O b/\b≠c) (del H1 c) (.val (.int my)) (.int my)),rfl⟩ .nil)) λb z=>?_;obtain⟨o,q⟩:=al b z.1;exact⟨o,by rw[cQ z.2];exact q⟩
 have run:=hb (.ref c') A outer s (del H1 c) a c (hr.deeper _) [] s1 _ _ {nx:=λ_ H'=>eU m g (ds.map .val++[.val (.int my)])= .ok .non/\Same (del H1 c) H',rt:=λv H'=>∃d,eU m g (ds.map .val++[.val (.int my)])= .ok d/\Same (del H1 c) H'/\Rep K (λb=>O b/\b≠c) H' d v} I ⟨_,_,_,_,J,by
  unfold eU at sp |-;cases e2:g ((ds.map Ent.val++[Ent.val (.int my)]).map some++acH m none) with
  |rt d=>exact λv H' s' r'=>⟨d,by simp only[e2],s',r'⟩
  |nx ρ'=>exact λσ' H' O' j' _=>⟨by simp only[e2],j'.same⟩
  |bk _=>rw[e2] at sp;exact sp.elim
  |ct _=>rw[e2] at sp;exact sp.elim
  |ex _ _=>rw[e2] at sp;exact sp.elim
  |bad=>rw[e2] at sp;exact sp.elim⟩
 have cfr:c∉frs outer:=λz=>by rw[e0.frf c z] at hc1;cases hc1
 have fin:∀{σ':St} {H':Hp} {v:V} {u:acB} {s':acC} {d:D},Inv (vp P w K mg base N qual scope a (.ref c') A outer s (del H1 c) y c) [] σ' H' s'->RelV v u->eU m g (ds.map .val++[.val (.int my)])= .ok d->Same (del H1 c) H'->Rep K (λb=>O b/\b≠c) H' d v->CE outer P w H1 s Q u s':=λ{σ' H' v u s' d} J rv ed sm rd=>by
  have hn':H' c=none:=J.base.free c co hco iZ (by simp[vp]);have hc':s'.heap.get? c=some co:=J.base.keep c co hco iZ cfr (by simp[vp]);have ol:∀b,b≠c->upd H' c (.frz co (.own c)) b=H' b:=λb z=>upd_ne z;have kIn:K.In s'.heap:=J.kIn;refine⟨v,upd H' c (.frz co (.own c)),J.os,J.bare,⟨λb o q nb hb hx=>?_,λb o q nb hb hx=>?_,λb o q nb hx=>?_,λb o q hx=>J.base.there b o q hx,λb xs q=>?_,λb o u q=>?_,λb ps q=>?_⟩,PX J.hok hn' hc',rv,?_⟩
  ·exact J.base.keep b o q (show del H1 c b=none by by_cases z:b=c;(rw[z];exact iZ);rw[cQ z];exact nb) hb hx
  ·exact J.base.slot b o q (show del H1 c b=none by by_cases z:b=c;(rw[z];exact iZ);rw[cQ z];exact nb) hb hx
  ·have nc:b≠c:=λz=>by rw[z,hc1] at nb;cases nb
   rw[ol b nc];exact J.base.free b o q (show del H1 c b=none by rw[cQ nc];exact nb) hx
  ·have nc:b≠c:=λz=>by rw[z,hc1] at q;cases q
   rw[ol b nc];exact J.base.tups b xs (show del H1 c b=some _ by rw[cQ nc];exact q)
  ·by_cases nc:b=c
   ·rw[nc,hc1] at q;cases q;rw[nc,upd_same]
   ·rw[ol b nc];exact J.base.frzs b o u (show del H1 c b=some _ by rw[cQ nc];exact q)
  ·have nc:b≠c:=λz=>by rw[z,hc1] at q;cases q
   rw[ol b nc];exact J.base.tbls b ps (show del H1 c b=some _ by rw[cQ nc];exact q)
  ·rw[ed] at sp;have s2:Same H' (upd H' c (.frz co (.own c))):=Same.upd hn';refine sp v _ (λb o q=>?_) ?_
   ·by_cases nc:b=c
    ·rw[nc,hc1] at q;cases q;rw[nc,upd_same]
    ·exact s2 _ _ (sm b o (by rw[cQ nc];exact q))
   ·refine Rep.ext ⟨λb xs z=>Same.rd s2 z,λb xs _ z=>Same.rd s2 z⟩ (λb xs nb hq z=>?_) d v rd;by_cases nc:b=c
    ·subst nc;rcases hq with (hq |⟨o,hq⟩) |⟨o,its,n',hq,h4,_⟩
     ·rw[hn'] at hq;cases hq
     ·rw[hn'] at hq;cases hq
     ·have:=kIn _ _ hq;rw[hc'] at this;cases this;simp_all
    ·exact nb ⟨z,nc⟩
 refine adQ run (λfl s' hs=>?_) λe s' hs=>hs.elim;cases fl with
 | ret u=>
  obtain⟨v,σ',H',J,rv,d,q1,q2,q3⟩:=hs;exact fin J rv q1 q2 q3
 | next=>
  obtain⟨σ',H',J,q1,q2⟩:=hs;exact fin (v:=V.non) (u:=acU) J rfl q1 q2 mL
 |brk=>obtain⟨_,_,_,q⟩:=hs;exact ac5 q
 |cont=>obtain⟨_,_,_,q⟩:=hs;exact ac5 q
end
section
variable{X:Cx}{name qual:Str}{params:aeO}{body:List acS}{scope:aec}{y xS:Str}{c fS:acA}{K5:adh}{Iw:List Str}{kS kG n q iy:Nat}{FS:acA->(List D->R D)->List D->R D}{GG:Int->List D->R D}{p pos:Pos}{e:acI}{es:List acI}{ta:TA}
inductive Yb (K:PySem.W.Frag) (name qual:Str) (params:aeO) (body:List acS) (scope:aec) (y:Str) (c:acA) (iy n:Nat) (FS:acA->(List D->R D)->List D->R D) (GG:Int->List D->R D) (σ:St) (Q:VK) (vs:List V) (H1:Hp):Prop
 |mk (O:acA->Prop) (ds:List D) (xs:List V) (a:acA) (my:Int) (d:D) (e:vs=xs++[.ref a]) (r:aO K O H1 ds xs) (hl:ds.length=n) (al:∀b,O b->∃o,H1 b=some o) (fh:jB H1 a name qual params body scope [(y,c)]) (hσ:σ[iy]?=some (some (.int my))) (hF:∀a,FS a (GG my) ds= .ok d) (hQ:∀v H',Same H1 H'->Rep K O H' d v->Q v H'):Yb K name qual params body scope y c iy n FS GG σ Q vs H1
def abC(K:PySem.W.Frag)(name qual:Str)(params:aeO)(body:List acS)(scope:aec)(y:Str)(c:acA)(iy n:Nat)(FS:acA->(List D->R D)->List D->R D)(GG:Int->List D->R D)(ta:TA):TE:=λσ H Q=>ta σ H λvs H1=>Yb K name qual params body scope y c iy n FS GG σ Q vs H1
theorem WL(Sw:FnOk X.prog X.w X.K X.mg X.base CX0 kS fS K5 Iw (spS X.prog X.w X.mg X.base kG X.K n q FS))(hr:Room kS X.A)(hg:Gl X xS)(hm:X.mg xS=some (.ref fS))(hk:PySem.W.keepIn X.K (.ref fS)=true)(hb:Binds X.K K5 Iw [])
  (WM:∀my a c H co uy,jB H a name qual params body scope [(y,c)]->H c=some (.frz co (.own c))->co.data= .cell (some uy)->RelV (.int my) uy->xY X.prog X.w X.K X.mg X.base kG (GG my) q a H)
  (hc:X.env.cells.lookup y=some c)(Yc:X.env.scope.names.lookup y=some .cell)(hfn:X.fn y=true)(hiy:X.N[iy]?=some y)(ha:PA X (e::es) ta)(hdb:(xS ==("__debug__" :Str))=false:=by decide)
  (he:acE (e::es) X.env=(false,eval e X.env)::acE es X.env:=by rfl)(hpl:(adg pos (acE es X.env)).any (·.1)=false:=by rfl):
  PE X (.Call (.Name xS p) (e::es) [] pos) (abC X.K name qual params body scope y c iy n FS GG ta):=by
 intro pins s σ H Q I h;refine ad4 (ld_glob I hg hm ?_ hdb);refine PySem.W.callWith_K (h₀:=X.base) I.ok.mod.kin hk (thn (ha pos pins s σ H _ I h) λus s1 ⟨vs,H1,I1,r,hq⟩=>⟨I1.kIn,?_⟩) he hpl;obtain⟨O,ds,xs,a,my,d,rfl,rs,hl,al,fh,hσ,hF,hQ⟩:=hq;obtain⟨m,hn,hl'⟩:=I1.loc;obtain⟨uy,ry,look⟩:=hl' iy y (.int my) hiy hσ (.inr (.inl Yc));have hcell:s1.heap.IsCell c (some uy):=by
  rcases look with⟨z,_⟩ |⟨_,c2,z,hz⟩
  ·have z:X.env.scope.names.lookup y=some .local:=z;rw[Yc] at z;cases z
  ·rw[hc] at z;cases z;exact hz
 obtain⟨co,hco,hcd⟩:=hcell;have hnc:H1 c=none:=I1.freeC y c hc;have cab:X.s₀.heap.objs.size<=c:=I1.ok.cab y c hfn hc;have sm:Same H1 (upd H1 c (.frz co (.own c))):=Same.upd hnc;have nfr:∀b∈frs X.stack,b≠c:=λb hb z=>by
  rcases acR.mp (I1.stkSub b hb) with e |hb'
  ·exact I1.cne y c hc (z.symm.trans e)
  ·obtain⟨_,o,ho,_⟩:=I1.ok.funs.mem hb';exact absurd (z0d (z2c ho) cab) (by rw[z];exact adH _)
 have e0:=I1.env0;have e1:Env0 X.prog X.w X.K X.mg X.base X.A X.stack s1 (upd H1 c (.frz co (.own c))):=⟨e0.frames,e0.mod,λb o z=>⟨(e0.bs b o z).1,by
  rw[upd_ne (λw=>by
   have:=z2c (I1.ok.bs b o z).1;rw[w] at this;exact absurd (z0d this cab) (adH _))]
  exact (e0.bs b o z).2⟩,e0.bsz,e0.funs,λb hb=>by rw[upd_ne (nfr b hb)];exact e0.frf b hb,PX e0.hok hnc hco,e0.bare⟩
 obtain⟨fo,doc,pm,c',ctv,oc,vq,t,f1,f2,f3,f4,f5⟩:=id fh;have fh1:=fh.fz λb o u z=>sm b _ z;have sp:spS X.prog X.w X.mg X.base kG X.K n q FS (xs++[.ref a]) (upd H1 c (.frz co (.own c))) (λv H'=>Same (upd H1 c (.frz co (.own c))) H'/\Rep X.K O H' d v) E0:=by
  refine⟨O,ds,xs,a,GG my,rfl,rs.same sm,hl,λb z=>let⟨o,w⟩:=al b z;⟨o,sm _ _ w⟩,⟨rfl,fo,_,sm _ _ f1,f2⟩,WM my a c _ co uy fh1 upd_same hcd ry,?_⟩;rw[hF a];exact λv H' s' r'=>⟨s',r'⟩
 have hll:us.length=Iw.length:=by rw[<-r.length];exact Sw.len _ _ _ _ sp
 have hbb:=hb s1 us I1.kIn (by rw[adp];exact hll);rw[adp] at hbb;refine agf (aeB (Sw.run X.A X.stack s1 _ ⟨us,[]⟩ us _ _ E0 hr e1 hbb r sp) λrr s' hq=>?_);cases rr with
 |error ev=>exact hq.elim
 | ok fl =>
  cases fl with
  |next=>exact ac5 hq
  |brk=>exact ac5 hq
  |cont=>exact ac5 hq
  | ret u =>
   obtain⟨v,H',os,bare,un,hok,rv,q1,q2⟩:=hq;have hc':H' c=some (.frz co (.own c)):=un.frzs c co _ upd_same;have up:∀b,b≠c->upd H1 c (.frz co (.own c)) b=H1 b:=λb z=>upd_ne z;have un':Un (frs X.stack) [] H1 (del H' c) s1.heap s'.heap:=by
    refine⟨λb o z nb hb hx=>?_,λb o z nb hb hx=>?_,λb o z nb hx=>?_,un.there,λb xs z=>?_,λb o u z=>?_,λb ps z=>?_⟩
    ·by_cases bc:b=c
     ·subst bc;rw[hco] at z;cases z;exact (hok b _ hc').1
     ·exact un.keep b o z (by rw[up b bc];exact nb) hb hx
    ·exact un.slot b o z (by rw[up b (nfr b hb)];exact nb) hb hx
    ·by_cases bc:b=c
     ·rw[bc];exact iZ
     ·rw[cQ bc];exact un.free b o z (by rw[up b bc];exact nb) hx
    ·have bc:=ne_of_none z hnc;rw[cQ bc];exact un.tups b xs (by rw[up b bc];exact z)
    ·have bc:=ne_of_none z hnc;rw[cQ bc];exact un.frzs b o u (by rw[up b bc];exact z)
    ·have bc:=ne_of_none z hnc;rw[cQ bc];exact un.tbls b ps (by rw[up b bc];exact z)
   have J:Inv X pins σ (del H' c) s':=I1.call' os un' (PN hok hc' hcd) bare λb z=>absurd z (by simp);refine⟨v,del H' c,J,rv,hQ v _ (λb o z=>?_) ?_⟩
   ·have bc:=ne_of_none z hnc;rw[cQ bc];exact q1 b o (by rw[up b bc];exact z)
   ·exact Rep.ext (P0 hc') (λb xs nb _ z=>nb z) d v q2
end
open Classical in
def allOf(f:acA->R D):R D:=if h:∃d,∀a,f a= .ok d then .ok h.choose else .bad
theorem WQ{f:acA->R D}{d:D}(h:∀a,f a= .ok d):allOf f= .ok d:=by
 have e:∃d,∀a,f a= .ok d:=⟨d,h⟩;unfold allOf;rw[dif_pos e];have:=e.choose_spec 0;rw[h 0] at this;exact this.symm
theorem WR{f:acA->R D}{d:D}(h:allOf f= .ok d)(a:acA):f a= .ok d:=by
 unfold allOf at h;by_cases e:∃d,∀a,f a= .ok d
 ·rw[dif_pos e] at h;cases h;exact e.choose_spec a
 ·rw[dif_neg e] at h;cases h
def Rp(i iy:Nat)(f1 f2 f3:ao->R D)(FS:acA->(List D->R D)->List D->R D)(GG:Int->List D->R D):ao->So:=λρ=>match ρ[i]?,ρ[iy]? with
 | some none,some (some (.val (.int my)))=>(match f1 ρ,f2 ρ,f3 ρ with
  | .ok a,.ok b,.ok d=>(match allOf (λx=>FS x (GG my) [a,b,d]) with
   | .ok r=> .rt r
   |_=> .bad)
  |_,_,_=> .bad)
 |_,_=> .bad
section
variable{X:Cx}{name qual:Str}{params:aeO}{body:List acS}{scope:aec}{y xS:Str}{c cc P fS:acA}{K5:adh}{Iw:List Str}{kS kG q:Nat}{FS:acA->(List D->R D)->List D->R D}{GG:Int->List D->R D}{p p4 pos pos2 aaC:Pos}{e1 e2 e3:acI}{f1 f2 f3:ao->R D}
theorem In.acf{v:V}(j:In X O H ρ σ)(hn:ρ[i]?=some none):In X O H ρ (σ.set i (some v)):=by
 have ne:∀(k:Nat) e,ρ[k]?=some (some e)->i≠k:=λk e h z=>by rw[<-z,hn] at h;cases h
 refine⟨⟨λk e h=>?_,λk l e e' u hkl hk hl ok ol sk sl=>?_,λk l rows a rs e u hkl hk sk ha hl ol sl=>?_⟩,j.al,by rw[aeE];exact j.len,j.o9⟩
 ·rw[z1e (ne k e h)];exact j.env.get k e h
 ·rw[z1e (ne k e hk)] at sk;rw[z1e (ne l e' hl)] at sl;exact j.env.sep k l e e' u hkl hk hl ok ol sk sl
 ·rw[z1e (ne k _ hk)] at sk;rw[z1e (ne l e hl)] at sl;exact j.env.o8 k l rows a rs e u hkl hk sk ha hl ol sl
theorem WT(i iy:Nat)(hN:X.N.Nodup)(hB:nW X.base X.mg cc P)(hT:Tb [(P,qual)] X.H₀)(hcode:X.env.code= .ref cc)(Sw:FnOk X.prog X.w X.K X.mg X.base CX0 kS fS K5 Iw (spS X.prog X.w X.mg X.base kG X.K 3 q FS))(hr:Room kS X.A)(hm:X.mg xS=some (.ref fS))(hk:PySem.W.keepIn X.K (.ref fS)=true)(hb:Binds X.K K5 Iw [])
  (WM:∀my a c H co uy,jB H a name qual params body scope [(y,c)]->H c=some (.frz co (.own c))->co.data= .cell (some uy)->RelV (.int my) uy->xY X.prog X.w X.K X.mg X.base kG (GG my) q a H)
  (h1:DE X e1 f1)(h2:DE X e2 f2)(h3:DE X e3 f3)
  (hcl:ag0 scope X.env=pure [(y,c)])(hc:X.env.cells.lookup y=some c)(Yc:X.env.scope.names.lookup y=some .cell)(hfn:X.fn y=true)(hii:i≠iy)(hnv:Vis X.env.scope name)
  (hiy:X.N[iy]?=some y:=by rfl)(hi:X.N[i]?=some name:=by rfl)(hl:Loc X.env.scope name:=by first |exact adS rfl |exact adA rfl)(hq:qualnameIn X.env name name=qual:=by rfl)(hd0:params.defaults=[]:=by rfl)(hk0:params.kw_defaults=[]:=by rfl)(ha:annTrees params none X.env=[]:=by rfl)
  (hg:Gl X xS:=by rfl)(hdb:(xS ==("__debug__" :Str))=false:=by decide)(hdn:(name ==("__debug__" :Str))=false:=by decide)(hdc:(name ==("__classdict__" :Str))=false:=by decide)
  (he1:acE [e1,e2,e3,.Name name p4] X.env=(false,eval e1 X.env)::acE [e2,e3,.Name name p4] X.env:=by rfl)(he2:acE [e2,e3,.Name name p4] X.env=(false,eval e2 X.env)::acE [e3,.Name name p4] X.env:=by rfl)
  (he3:acE [e3,.Name name p4] X.env=(false,eval e3 X.env)::acE [.Name name p4] X.env:=by rfl)(he4:acE [.Name name p4] X.env=(false,eval (.Name name p4) X.env)::acE [] X.env:=by rfl)
  (hpl:(adg pos2 (acE [e2,e3,.Name name p4] X.env)).any (·.1)=false:=by rfl)(hf:X.fn name=true\/X.env.scope.names.lookup name=some .local:=by first |exact .inl rfl |exact .inr rfl):
  jg X [.FunctionDef name params body [] none [] scope none name pos,.Return (some (.Call (.Name xS p) [e1,e2,e3,.Name name p4] [] pos2)) aaC] (Rp i iy f1 f2 f3 FS GG):=by
 have A:=pa_cons h1 (pa_cons h2 (pa_cons h3 (pa_cons (pe_var (X:=X) (pos:=p4) hi hnv hdn hdc) pa_nil he4) he3) he2) he1;refine PSs.imp (pss_cons (aaz i hN hB hT hcode hcl hi hl hq hd0 hk0 ha hf) (pss_one (ps_ret (WL (iy:=iy) (p:=p) (pos:=pos2) Sw hr hg hm hk hb WM hc Yc hfn hiy A hdb he1 hpl)))) λσ H E h=>?_;obtain⟨H0,O0,O,ρ,j,h⟩:=h;intro a H1 sm fh;unfold Rp at h;split at h
 ·rename_i my en em;have hil:i<X.N.length:=(z1b hi).1;obtain⟨v,hv,rv⟩:=j.inn.env.get iy _ em;have rv:v= .int my:=Rep.int (show Rep X.K O H (.int my) v from rv);subst rv;split at h
  ·rename_i d1 d2 d3 q1 q2 q3;cases q4:allOf (λx=>FS x (GG my) [d1,d2,d3]) with
   |bad=>rw[q4] at h;exact h.elim
   |err _=>rw[q4] at h;exact h.elim
   | ok d=>
    rw[q4] at h;have jn:In X O H1 ρ (σ.set i (some (.ref a))):=In.acf (j.inn.same sm) en;refine⟨ρ,O,jn,?_⟩;rw[q1];intro v1 H2 s2 r1;refine⟨ρ,O,jn.same s2,?_⟩;rw[q2];intro v2 H3 s3 r2;refine⟨ρ,O,(jn.same s2).same s3,?_⟩;rw[q3];intro v3 H4 s4 r3;have jl:i<σ.length:=by rw[j.inn.len];exact hil
    refine⟨.ref a,z2a jl,?_⟩;have s14:Same H1 H4:=(s2.trans s3).trans s4;refine⟨O,[d1,d2,d3],[v1,v2,v3],a,my,d,rfl,.cons (r1.same (s3.trans s4)) (.cons (r2.same s4) (.cons r3 .nil)),rfl,(jn.same s14).al,fh.fz λb o u z=>s14 _ _ z,?_,WR q4,λv' H' s' r'=>?_⟩
    ·rw[z1e hii];exact hv
    ·exact h v' H' (j.same.trans (sm.trans (s14.trans s'))) (r'.fewer j.sub)
  ·exact h.elim
 ·exact h.elim
end
def lq(a:acA)(o:Option HO)(T:acA)(q:Str):Hp:=λb=>if b=T then some (.tbl #[.str q 0]) else if b=a then o else none
theorem Uj {mb:Str→Option Value} {fa a c T:Addr} {q:Str} {x:Str} {sp:Sp} {s₁:Shared} {vs:List Value} {ns:List Int}
    (KX:K.In s₁.heap)(hns:s₁.heap.Ns acK mg)(hb:s₁.heap.Ns ae1 mb)(hbb:∀x:Str,x≠"__name__"→mb x=aea x)(hlim:s₁.heap.NoLimit)(hg:s₁.gens= #[])
    (ha:s₁.heap.get? a=some {cls:= .type "list",data:= .seq vs.toArray})(hi:aeD vs ns)(hl:ns.length≤sizeLine)(hr:Room k aeZ)
    (hC:PySem.W.CodeHd s₁.heap c T)(hT:s₁.heap.get? T=some (PySem.W.tabObj #[]))(hnt:PySem.W.noTabs K=true)
    (hbm:∃bm ob,mg "__builtins__" =some (.ref bm)∧bm≠ae1∧s₁.heap.get? bm=some ob∧ob.cls= .type "module"∧ob.dict=some ae1∧ob.data= .plain)
    (F:∀base:acP,K.In base→base.Ns acK mg→nW base mg c T→FnOk P w K mg base CX0 k fa fd [x] sp)(hbind:∀(s:acC) (u:acB),afJ s fd ⟨[u],[]⟩ [(x,u)])
    (hsp:∀H:Hp,Tb [(T,q)] H→SqL K H a (ns.map V.int)→sp [.ref a] H (fun v _=>v= .bl true) fun _ _ _=>False):
    afr (model P w) aeZ (.call (.ref fa) ⟨[.ref a],[]⟩) (fun r s'=>r= .ok (.ret (.bool true))∧OldK s₁.heap s'.heap∧s'.os=s₁.os∧ae9 s'.gens) s₁:=by
  have rv:=vals_ints hi
  have lenV:=hi.length
  have aT:a≠T:=fun z=>by rw[z,hT] at ha;cases ha
  have core : ∀o:Option HO,(o=none∨o=some (.frz {cls:= .type "list",data:= .seq vs.toArray} (.lst (ns.map V.int))))→SqL K (lq a o T q) a (ns.map V.int)→(o≠none→K.lookup a=none)→
      afr (model P w) aeZ (.call (.ref fa) ⟨[.ref a],[]⟩) (fun r s'=>r= .ok (.ret (.bool true))∧OldK s₁.heap s'.heap∧s'.os=s₁.os∧ae9 s'.gens) s₁:=by
    intro o ho hS hK
    have hH:∀b u,lq a o T q b=some u→(b=T∧u= .tbl #[.str q 0])∨(b=a∧u= .frz {cls:= .type "list",data:= .seq vs.toArray} (.lst (ns.map V.int))∧o≠none):=fun b u z=>by
      unfold lq at z
      by_cases h1:b=T
      · rw[if_pos h1] at z;cases z;exact .inl ⟨h1,rfl⟩
      · rw[if_neg h1] at z
        by_cases h2:b=a
        · rw[if_pos h2] at z
          rcases ho with ho |ho
          · rw[ho] at z;cases z
          · rw[ho] at z;cases z;exact .inr ⟨h2,rfl,by rw[ho];simp⟩
        · rw[if_neg h2] at z;cases z
    have hok:HOk P w (lq a o T q) s₁.heap:=fun b u z=>by
      rcases hH b u z with⟨rfl,rfl⟩ |⟨rfl,rfl,_⟩
      · exact⟨#[],hT,trivial,fun p cv y=>by cases y⟩
      · exact⟨ha,by rw[aho];exact hl,vs,_,rv,ha⟩
    have tb:Tb [(T,q)] (lq a o T q):=fun p hp=>by
      have e:p=(T,q):=by simpa using hp
      subst e
      exact⟨#[.str q 0],0,if_pos rfl,rfl⟩
    have base_of:∀{b:acA} {u:Obj},s₁.heap.get? b=some u→lq a o T q b=none→(hidT s₁.heap (lq a o T q)).get? b=some u:=fun e n=>hidT_get e n
    have free:∀{b:acA} {u:Obj},s₁.heap.get? b=some u→u.cls≠.type "list"→u.cls≠.none→lq a o T q b=none:=fun {b u} e n1 n2=>by
      cases z:lq a o T q b with
      |none=>rfl
      | some y=>
        rcases hH b y z with⟨rfl,_⟩ |⟨rfl,_,_⟩
        · rw[hT] at e;cases e;exact absurd rfl n2
        · rw[ha] at e;cases e;exact absurd rfl n1
    have abD:∀{b:acA} {u:Obj} {es:Array DictEntry} {ep:Nat},s₁.heap.get? b=some u→u.data= .dict es ep→lq a o T q b=none:=fun {b u es ep} e d=>by
      cases z:lq a o T q b with
      |none=>rfl
      | some y=>
        rcases hH b y z with⟨rfl,_⟩ |⟨rfl,_,_⟩
        · rw[hT] at e;cases e;cases d
        · rw[ha] at e;cases e;cases d
    have nsK:∀{b:acA} {m:Str→Option acB},s₁.heap.Ns b m→(hidT s₁.heap (lq a o T q)).Ns b m:=fun {b m} ⟨u,es,ep,e,d,r⟩=>⟨u,es,ep,base_of e (abD e d),d,r⟩
    have hKb:K.In (hidT s₁.heap (lq a o T q)):=fun b u e=>base_of (KX b u e) (by
      cases z:lq a o T q b with
      |none=>rfl
      | some y=>
        rcases hH b y z with⟨rfl,_⟩ |⟨rfl,_,no⟩
        · have e1:=KX b u e
          rw[hT] at e1;cases e1
          have h2:=afi.mp hnt (b,PySem.W.tabObj #[]) (PySem.W.mem_of_lookupK e)
          exact absurd (show false=true from h2) acY
        · rw[hK no] at e;cases e)
    have hM:Mod K mg (hidT s₁.heap (lq a o T q)):=⟨hKb,nsK hns,⟨mb,nsK hb,hbb⟩,let⟨mc,h1,h2⟩:=hlim;⟨mc,nsK h1,h2⟩⟩
    have nb:nW (hidT s₁.heap (lq a o T q)) mg c T:=by
      refine⟨?_,?_⟩
      · obtain⟨oc,v,file,tf,flags,tg,inF,text,tt,e1,e2,r⟩:=hC
        exact⟨oc,v,file,tf,flags,tg,inF,text,tt,base_of e1 (free e1 (by rw[e2];nofun) (by rw[e2];nofun)),e2,r⟩
      · obtain⟨bm,ob,b1,b2,b3,b4,r⟩:=hbm
        exact⟨bm,ob,b1,b2,base_of b3 (free b3 (by rw[b4];nofun) (by rw[b4];nofun)),b4,r⟩
    have e0:Env0 P w K mg (hidT s₁.heap (lq a o T q)) aeZ [] s₁ (lq a o T q):=⟨rfl,hM,fun b o e=>of_hidT e,Nat.le_of_eq (hidT_size _ _),trivial,fun b hb=>absurd (show b∈([]:List acA) from hb) (by simp),hok,.of_eq hg⟩
    refine aeB ((F _ hKb (nsK hns) nb).run aeZ [] s₁ (lq a o T q) ⟨[.ref a],[]⟩ [.ref a] [.ref a] _ _ hr e0 (hbind s₁ (.ref a)) (.cons rfl .nil) (hsp _ tb hS)) fun r s' h=>?_
    cases r with
    |error e=>exact h.elim
    | ok fl =>
      cases fl with
      |next=>exact ac5 h
      |brk=>exact ac5 h
      |cont=>exact ac5 h
      | ret u =>
        obtain⟨v,H',os,bare,un,hok',r',z⟩:=h
        have z:v= .bl true:=z
        subst z
        obtain rfl:u=agW true:=r'
        have each:∀b o,s₁.heap.get? b=some o→s'.heap.get? b=some o∨(b=T∧o=PySem.W.tabObj #[]∧∃qs,s'.heap.get? b=some (PySem.W.tabObj qs)):=fun b ob e=>by
          cases z:lq a o T q b with
          |none=>exact .inl (un.keep b ob e z (by intro y;exact absurd (show b∈([]:List acA) from y) (by simp)) (by simp))
          | some y=>
            rcases hH b y z with⟨rfl,rfl⟩ |⟨rfl,rfl,_⟩
            · obtain⟨more,z2⟩:=un.tbls _ _ z
              obtain⟨qs,e2,_⟩:=hok' _ _ z2
              rw[hT] at e;cases e
              exact .inr ⟨rfl,rfl,qs,e2⟩
            · have z2:=un.frzs _ _ _ z
              obtain⟨e1,_⟩:=hok _ _ z
              obtain⟨e2,_⟩:=hok' _ _ z2
              rw[e] at e1;cases e1
              exact .inl e2
        refine⟨rfl,⟨fun b ob e=>?_,fun b ob e=>?_⟩,os,bare⟩
        · rcases each b ob e with z |⟨rfl,rfl,qs,z⟩
          · exact .inl z
          · exact .inr (.inl ⟨(hC.tab hT).isCodeTable,rfl,#[],qs,rfl,by rw[Array.empty_append];exact z⟩)
        · rcases each b ob e with z |⟨rfl,rfl,qs,z⟩
          · exact⟨_,z⟩
          · exact⟨_,z⟩
  cases hk:K.lookup a with
  | some o=>
    have e:=KX a o hk
    rw[ha] at e
    cases e
    exact core none (.inl rfl) (.inr ⟨_,vs.toArray,_,hk,rfl,rfl,rfl,by rw[agO,lenV];exact hl,by simpa using rv⟩) fun z=>absurd rfl z
  |none=>exact core _ (.inr rfl) (.inl (.inr ⟨_,(if_neg aT).trans (if_pos rfl)⟩)) fun _=>hk
def xZ(K:PySem.W.Frag)(mg:Str->Option acB)(x:Str)(c:acA):Prop:=∀f oc od fd osl,mg x=some (.ref f)->K.lookup f=some ⟨oc,od,.func fd,osl⟩->fd.code= .ref c
theorem abE{l:PySem.W.OpenLaw}{p:acL}{loose:List Str}{XP:(Str->Option acB)->acP->Prop}{YP:acQ->acP->Prop}{d:DefRec}{K:Params->PySem.W.Frag}{x q:Str}{FL:List D->R D}
  (hn:l.most=some n)(hn2:n<=sizeLine)(hdf:d.params.defaults=[])(hr:Room k aeZ)
  (hY:∀(w:acQ) (h:acP),YP w h->(K w.params).In h)(hnt:∀w:acQ,PySem.W.noTabs (K w.params)=true)(hrec:∃dy∈recsOf p,dy.name=y)
  (F:∀(w:acQ) (mg:Str->Option acB) (fa:acA) (h:acP),(K w.params).In h->h.Ns acK mg->mg d.name=some (.ref fa)->
   ∃fd:adh,(∀(s:acC) (u:acB),afJ s fd ⟨[u],[]⟩ [(x,u)])/\
    ∀(base:acP) (c T:acA),(K w.params).In base->base.Ns acK mg->nW base mg c T->xZ (K w.params) mg y c->FnOk l.prog w (K w.params) mg base CX0 k fa fd [x] (spT [(T,q)] (K w.params) 1 FL))
  (hL:∀ns:List Int,ns.length<=n->FL [.lst (ns.map D.int)]= .ok (.bl true)):
  PySem.W.WalkO p loose XP YP l.row.toRowW d [] (λf vs=>PySem.call f vs):=by
 refine Att.attach_call hn hdf λw s₀ s₁ mg mb fa o pm cd doc a vs ns G Y ho hd hcd hmg hobj hints hlen hg=>?_;have KX:=hY w _ Y;obtain⟨fd,hb,hF⟩:=F w mg fa _ KX G.T.g hmg;obtain⟨dy,hdy,rfl⟩:=hrec;obtain⟨f',o',fd',c,T,t1,t2,t3,t4,t5,t6⟩:=G.T.tab dy hdy;have hci:xZ (K w.params) mg dy.name c:=λf oc od fd2 osl e1 e2=>by
  rw[t1] at e1;cases e1;have e3:=KX _ _ e2;rw[t2] at e3;cases e3;cases t3;exact t4
 exact Uj (q:=q) KX G.T.g G.T.b G.T.builtins G.T.nolimit hg hobj hints (z0b hlen hn2) hr (PySem.W.CodeHd.of t5 t6) t6.2 (hnt w) G.T.bmain (λbase h1 h2 h3=>hF base c T h1 h2 h3 hci) hb λH tb hS=>⟨tb,sp_law hS (hL ns hlen)⟩
section
variable{X:Cx}{e lo hi:acI}{f g:ao->R D}{fl fu:ao->R (Option Int)}{pos p2 p3 p4:Pos}
def YX(d:D)(lo hi:Option Int):R D:=match d with
 | .lst ds=> .ok (.lst (jA ds lo hi))
 |_=> .bad
def m8(f:ao->R D)(fl fu:ao->R (Option Int)):ao->R D:=λρ=>(f ρ).bind λd=>(fl ρ).bind λl=>(fu ρ).bind λu=>YX d l u
theorem Iz{lo hi:Option acI}(he:DE X e f)(hl:Im X lo fl)(hu:Im X hi fu):DE X (.Subscript e (.Slice lo hi none p2) pos) (m8 f fl fu):=by
 refine PE.imp (pe_slice sl_list he hl hu) λσ H Q h=>?_;obtain⟨ρ,O,j,h⟩:=h;refine go j h λd v H1 e1 s1 r1 j1 h1=>?_;refine go j1 h1 λl l' H2 e2 s2 r2 j2 h2=>?_;refine go j2 h2 λu u' H3 e3 s3 r3 j3 h3=>?_;have r2:l=l':=r2;have r3:u=u':=r3;subst r2 r3;cases d with
 | lst ds=>
  have r1':=(r1.same s2).same s3;obtain⟨a,xs,rfl,hq,hn,rs⟩:=r1'.lst;have hlen:=rs.length;refine⟨a,xs,rfl,hq,λp hp=>?_⟩;refine h3 _ _ (Same.upd hp) (Rep.mQ hp (j3.uY hp) ?_);unfold jA cutV;rw[hlen];exact (rs.drop _).take _
 |_=>exact h3.elim
theorem YZ{kk}{te:TE}(he:PE X e te):PE X (.Subscript e (.Slice none none (some (.UnaryOp .USub (.Constant (.int 1) kk p3) p4)) p2) pos) (λσ H Q=>te σ H λx H1=>∃a xs,x= .ref a/\SqL X.K H1 a xs/\∀p,H1 p=none->Q (.ref p) (upd H1 p (.lst xs.reverse))):=by
 intro pins s σ H Q I h;refine Subscript_ (thn (he pins s σ H _ I h) λv s1 bA=>?_);obtain⟨x,H1,I1,r1,q1⟩:=bA;obtain⟨a,xs,rfl,hq,q⟩:=q1;cases r1;refine wpAny_Slice ?_;rw[evalPart_none,evalPart_some];refine acF (acF ?_);refine thn (pe_un (X:=X) un_neg pe_int pins s1 σ H1 (λy H2=>y= .int (-1)/\H2=H1) I1 ⟨1,rfl,rfl,rfl⟩) λvs s2 bA=>?_;obtain⟨y,H2,I2,r2,ey,eH⟩:=bA;subst ey;subst eH;obtain⟨t,rfl⟩:=r2;have I4:Inv X pins σ H2 {s2 with heap:=s2.heap.push {cls:= .type "slice",data:= .fields #[.none,.none,.int (-1) t]}}:=I2.kept (t':=s2.toks) λb ob q=>z1a _ q;obtain⟨its,rv,ht,hz⟩:=I4.list hq;have hlen:=rv.length;show acG (model X.prog X.w) X.A (subscriptTail e (.Slice none none (some (.UnaryOp .USub (.Constant (.int 1) kk p3) p4)) p2) (.ref a) (.ref s2.heap.objs.size)) (EP X pins σ Q) X.xe {s2 with heap:=s2.heap.push {cls:= .type "slice",data:= .fields #[.none,.none,.int (-1) t]}};refine tail_any (ops:=[.ref a,.ref s2.heap.objs.size]) ht.isList.typeIs slot_list_getitem.lookup (wpAny_getItem_list_slice ht.isList (ahE ..) .none .none (.int (-1) t) (by simp) ?_ (by rw[z1c];omega)) (by with_unfolding_all rfl);rw[PySem.W.krv_pick];refine⟨.ref _,_,I4.laid (t':=s2.toks) (o:= .lst xs.reverse) (λb ob q=>z1a _ q) (z0g _) ?_,rfl,q _ (I4.hok.fresh (z0g _))⟩;exact⟨by rw[List.length_reverse];exact hz,its.reverse,0,Vals.rev rv,(by have e:its.toArray.toList.reverse=its.reverse:=(by simp);rw[e];exact z1f _ rfl)⟩
def abF:D->R D
 | .lst ds=> .ok (.lst ds.reverse)
 |_=> .bad
def J5(f:ao->R D):ao->R D:=λρ=>(f ρ).bind abF
theorem Y0{kk}(he:DE X e f):DE X (.Subscript e (.Slice none none (some (.UnaryOp .USub (.Constant (.int 1) kk p3) p4)) p2) pos) (J5 f):=by
 refine PE.imp (YZ he) λσ H Q h=>?_;obtain⟨ρ,O,j,h⟩:=h;refine go j h λd v H1 e1 s1 r1 j1 h1=>?_;cases d with
 | lst ds=>
  obtain⟨a,xs,rfl,hq,hn,rs⟩:=r1.lst;exact⟨a,xs,rfl,hq,λp hp=>h1 _ _ (Same.upd hp) (Rep.mQ hp (j1.uY hp) rs.reverse)⟩
 |_=>exact h1.elim
def Uk(i:Nat)(f:ao->R D):ao->R D:=λρ=>match ρ[i]? with
 |some (some (.lst ds))=>(f ρ).bind λd=>bU (.lst ds) d
 |_=> .bad
theorem aaD(i:Nat){x:Str}{px:Pos}(hb:DE X e f)(hs:PlainIx e:=by exact λ_ _=>rfl)(hN:X.N[i]?=some x:=by rfl)(hv:Vis X.env.scope x:=by first |exact adS rfl |exact adA (adS rfl) |exact adA (adA rfl))
  (hd:(x ==("__debug__" :Str))=false:=by decide)(hcd:(x ==("__classdict__" :Str))=false:=by decide):DE X (.Subscript (.Name x px) e pos) (Uk i f):=by
 refine PE.imp (pe_ix ix_seq (pe_var hN hv hd hcd) hb hs) λσ H Q h=>?_;obtain⟨ρ,O,j,h⟩:=h;unfold Uk at h;split at h
 ·rename_i ds q;obtain⟨v,hv1,a,xs,rfl,hO,hH,rs⟩:=j.env.get i _ q;refine⟨.ref a,hv1,?_⟩;refine go j h λd y H1 e1 s1 r1 j1 h1=>?_;cases d with
  | int k=>
   have h':good X (rD X) O (match L2.atI ds k with |some d=>R.ok d |none=>R.bad) σ H1 Q:=h1;cases e2:L2.atI ds k with
   |none=>rw[e2] at h';exact h'.elim
   | some d=>
    rw[e2] at h';obtain⟨v,e3,rv⟩:=(rs.same s1).atI e2;exact .inl ⟨a,xs,k,v,rfl,r1.int,SqL.of (s1 _ _ hH),e3,fin h' rv⟩
  |_=>exact h1.elim
 ·exact h.elim
end
section
variable{X:Cx}{pos:Pos}
def K6(i k:Nat):ao->So:=λρ=>match ρ[i]?,ρ[k]? with
 |some (some (.lst ds)),some (some (.lst es))=>if ds.length<1000000 then .nx ((ρ.set i (some (.lst (ds++[.lst es])))).set k (some (.val (.lst es)))) else .bad
 |_,_=> .bad
theorem At.give{H0:Hp}{O0:acA->Prop}(j:At X H0 O0 O H ρ σ){es:List D}{b:acA}(hk:ρ[k]?=some (some (.lst es)))(hb:σ[k]?=some (some (.ref b))):
  At X H0 O0 (λa=>O a/\a≠b) H (ρ.set k (some (.val (.lst es)))) σ/\eN X.K O H (λa=>O a/\a≠b) H:=by
 obtain⟨hH0,hO0⟩:=j.mine k _ b hk rfl hb;have rc:eN X.K O H (λa=>O a/\a≠b) H:=⟨⟨λ_ _ z=>z,λ_ _ _ z=>z⟩,λa z=> .inl z.1,λ_ z=>z⟩;have hkl:k<ρ.length:=(z1b hk).1;obtain⟨v,hv,b',xs,e1,hO,hH,rs⟩:=j.inn.env.get k _ hk;rw[hb] at hv;cases hv;cases e1;have un:∀{m:Nat} {x:Ent},(ρ.set k (some (.val (.lst es))))[m]?=some (some x)->x.own=true->ρ[m]?=some (some x):=λ{m x} h ho=>by
  by_cases hmk:m=k
  ·subst hmk;rw[z2a hkl] at h;cases h;cases ho
  ·rw[z1e (acN hmk)] at h;exact h
 refine⟨⟨j.same,j.dM.trans rc,λa z=>⟨j.sub a z,λe=>hO0 (e▸z)⟩,⟨⟨λm e q=>?_,λm l e e' u hml hm hl om ol sm sl=>?_,λm l rows a rs' e u hml hm sm ha hl ol sl=>?_⟩,λa z=>j.inn.al a z.1,j.inn.len,by rw[aeE];exact j.inn.o9⟩,λm e a q ho hs=>?_,λm rows a rs' q hs=>?_⟩,rc⟩
 ·by_cases hmk:m=k
  ·subst hmk;rw[z2a hkl] at q;cases q;exact⟨_,hb,kW (SqL.of hH) (λz=>z.2 rfl) (rs.go rc)⟩
  ·rw[z1e (acN hmk)] at q;obtain⟨v,q1,q2⟩:=j.inn.env.get m e q;refine⟨v,q1,?_⟩;have nb:e.own=true->v≠.ref b:=λoe z=>by subst z;exact j.inn.env.sep m k _ _ _ hmk q hk oe rfl q1 hb
   cases e with
   |val d=>exact Rep.go rc q2
   |obj t=>exact q2
   | rws rows=>
    obtain⟨a,rs',e2,R⟩:=q2;have Tz:σ[m]?=some (some (.ref a)):=by rw[<-e2];exact q1
    refine⟨a,rs',e2,R.at_,⟨R.oa,λz=>nb rfl (by rw[e2,z])⟩,R.nd,R.len,λn r row z1 z2=>?_⟩;obtain⟨o1,ys,z3,z4⟩:=R.row n r row z1 z2;exact⟨⟨o1,λz=>(j.inn.env.o8 m k rows a rs' _ (.ref b) hmk q Tz R.at_ hk rfl hb).1 r (ac6 z1) (by rw[z])⟩,ys,z3,z4.go rc⟩
   | lst ds=>
    obtain⟨a,ys,e2,o2,h2,r2⟩:=q2;exact⟨a,ys,e2,⟨o2,λz=>nb rfl (by rw[e2,z])⟩,h2,r2.go rc⟩
   | xr kvs=>
    obtain⟨a,ys,e2,o2,h2,kk,r2⟩:=q2;exact⟨a,ys,e2,⟨o2,λz=>nb rfl (by rw[e2,z])⟩,h2,kk,r2.go rc⟩
 ·exact j.inn.env.sep m l e e' u hml (un hm om) (un hl ol) om ol sm sl
 ·exact j.inn.env.o8 m l rows a rs' e u hml (un hm rfl) sm ha (un hl ol) ol sl
 ·by_cases hmk:m=k
  ·subst hmk;rw[z2a hkl] at q;cases q;cases ho
  ·rw[z1e (acN hmk)] at q;exact j.mine m e a q ho hs
 ·exact j.zQ m rows a rs' (un q rfl) hs
theorem Y4(i k:Nat){x:Str}{px py apos cpos:Pos}(hik:i≠k)(hN:X.N[i]?=some x:=by rfl)(hNk:X.N[k]?=some y:=by rfl)(hv:Vis X.env.scope x:=by first |exact adS rfl |exact adA (adS rfl) |exact adA (adA rfl))(hvk:Vis X.env.scope y:=by first |exact adS rfl |exact adA (adS rfl) |exact adA (adA rfl))
  (hd:(x ==("__debug__" :Str))=false:=by decide)(hcd:(x ==("__classdict__" :Str))=false:=by decide)(hdk:(y ==("__debug__" :Str))=false:=by decide)(acg:(y ==("__classdict__" :Str))=false:=by decide)
  (hbase:afo (.Name x px) "append" X.env (eval (.Name x px) X.env)=eval (.Name x px) X.env:=by rfl)
  (hfew:((adg cpos (acE [.Name y py] X.env)).all (λx=> !x.1) && (ad5 cpos (adx [] X.env)).all (λx=>x.1.isSome)
   && decide ([Expr.Name y py].length+([]:List aei).length+(if ([]:List aei).isEmpty then 0 else 1)<30))=true:=by rfl)
  (hline:(apos.endLine ==cpos.line)=true:=by rfl) (hs1:acE [.Name y py] X.env=(false,eval (.Name y py) X.env)::acE [] X.env:=by rfl) (hplain:(adg cpos (acE [] X.env)).any (·.1)=false:=by rfl)
  (hs:afC (.Call (.Attribute (.Name x px) "append" apos) [.Name y py] [] cpos) none pos.line X.env=pure false:=by rfl):
  DS X (.Expr (.Call (.Attribute (.Name x px) "append" apos) [.Name y py] [] cpos) pos) (K6 i k):=by
 refine PS.imp (ps_expr (pe_bm PySem.F.plainAttrs_list PySem.F.slot_list_append PySem.F.type_list_append mt_append (pe_var hN hv hd hcd) (pa_cons (pe_var hNk hvk hdk acg) pa_nil hs1) hbase hfew hline hs1 hplain) hs) λσ H E h=>?_;obtain⟨H0,O0,O,ρ,j,h⟩:=h;unfold K6 at h;split at h
 ·rename_i ds es q1 q2;by_cases hl:ds.length<1000000
  ·rw[if_pos hl] at h;obtain⟨v,hv1,a,xs,rfl,hO,hH,rs⟩:=j.inn.env.get i _ q1;obtain⟨v,hv2,b,ys,rfl,hO2,hH2,Dj⟩:=j.inn.env.get k _ q2;have hab:a≠b:=λz=>j.inn.env.sep i k _ _ _ hik q1 q2 rfl rfl hv1 (by rw[z];exact hv2);refine⟨.ref a,hv1,.inl ⟨rfl,xs,SqL.of hH⟩,.ref b,hv2,?_⟩;have hlen:=rs.length;refine⟨a,xs,.ref b,rfl,rfl,hH,by have:=eG;omega,?_⟩;obtain⟨j1,r1⟩:=j.give q2 hv2;have Tz:(ρ.set k (some (.val (.lst es))))[i]?=some (some (.lst ds)):=by rw[z1e (acN hik)];exact q1
   obtain⟨j2,r2⟩:=j1.chg (o:= .lst (xs++[.ref b])) (en:= .lst (ds++[.lst es])) Tz rfl hv1 ⟨hO,hab⟩ hH trivial rfl λr=>⟨a,xs++[.ref b],rfl,⟨hO,hab⟩,upd_same,by
    have z1:aO X.K (λc=>O c/\c≠b) H (ds++[.lst es]) (xs++[.ref b]):=(rs.go r1).append (.cons (kW (SqL.of hH2) (λz=>z.2 rfl) (Dj.go r1)) .nil);exact z1.go r⟩
   rw[afn _ _ (acN hik)] at j2;exact h _ _ _ j2 (r1.trans r2)
  ·rw[if_neg hl] at h;exact h.elim
 ·exact h.elim
end
section
open PySem
theorem Rq(l b:acA)(items:Array acB)(n:Nat)(items2:Array acB)(n2:Nat)(dd:Option acA)(sl:Array (Option acB))(hs0:¬(!items.isEmpty && afE (items.size+items2.size))=true)(hs1:items.size<=sizeLine)(hs2:items.size+items2.size<=sizeLine+1):
  Meets (ad1.«list.__iadd__» ⟨[.ref l,.ref b],[]⟩) (λ_ R s=>s.heap.get? l=some {cls:= .type "list",dict:=none,data:= .seq items n,slots:= #[]}/\s.heap.get? b=some {cls:= .type "list",dict:=dd,data:= .seq items2 n2,slots:=sl}/\R (.ok (.ret (acM l))) {s with heap:=s.heap.update l (ady λx=>x++items2),toks:=s.toks}):=
 .of_wp λprog w A R s h=>by
  obtain⟨hp,g,d,tk,os⟩:=s;obtain⟨hl,hb,h⟩:=h;have f1:=af4;have f2:=AutoSeq1.sub_tuple_tuple;have f3:=AutoSeq1.sub_list_list;have f4:=AutoSeq1.sub_tuple_list;have f5:=AutoSeq1.sub_list_tuple;
  have hz':(items++items2).size<=sizeLine+1:=by rw[Array.size_append];exact hs2
  wp_walk using (afz hl rfl (hz:=hs1) (_hz':=hz')),adR hl,adR hb;exact⟨_,rfl,h⟩
end
section
variable{X:Cx}{e:acI}{f:ao->R D}{pos:Pos}
theorem Y5:PIp X .Add (λx y H Q=>∃a b xs ys,x= .ref a/\y= .ref b/\H a=some (.lst xs)/\SqL X.K H b ys/\xs.length+ys.length<=1000000/\Q (.ref a) (upd H a (.lst (xs++ys)))):=by
 intro pins s σ H x y v u Q I rx ry h;obtain⟨a,b,xs,ys,rfl,rfl,ha,hb,hz,q⟩:=h;cases rx;cases ry;obtain⟨its,n,r,ho,hzl⟩:=I.lst ha;obtain⟨its2,r2,p2,hz2⟩:=I.list hb;obtain⟨⟨cls2,dd2,data2,sl2⟩,ho2,hc2,n2,hd2⟩:=id p2.isList;simp only at hc2 hd2;subst hc2 hd2;have l1:=r.length;have l2:=r2.length;have hsl:=eG;have hT:s.TypeIs (.ref a) "list" :=⟨_,ho,rfl⟩;have hT2:s.TypeIs (.ref b) "list" :=⟨_,ho2,rfl⟩;unfold inplaceOp;refine aev ?_;have hfi:fillsInplaceSlot (.type "list") "add" (Operator.Add == .Add)=pure false:=by
  unfold fillsInplaceSlot;show (typeLookup (.type "list") (dunderI "add") >>=λfi=>pure (fi.isSome && !isSeqSlot fi))=pure false;rw[PySem.F.slot_list_iadd.lookup,pure_bind,show isSeqSlot (some (.builtin "list.__iadd__"))=true from by decide +kernel];rfl
 refine acz (ahe hT (acz (aey hfi ?_)));show acG _ _ (if false=true then _ else _) _ _ s;rw[if_neg acY];refine acz (binaryOp1_none (nm:= "add") hT hT2 PySem.noFill_list_add ?_);refine acz (aey (PySem.seqSlot_of (T:= "list") (name:=dunderI "add") (id:= "list.__iadd__") PySem.F.slot_list_iadd.lookup (by decide +kernel)) ?_);refine acz (aej ?_);refine afh PySem.F.slot_list_iadd hT PySem.F.entry_list_iadd (PySem.F.args_list_iadd_2 _ _) (Rq a b its.toArray n its2.toArray n2 dd2 sl2 ?_ (by rw[z1c];omega) (by rw[z1c,z1c];omega)) ⟨ho,ho2,?_⟩
 ·rw[z1c,z1c];have:afE (its.length+its2.length)=false:=by unfold afE;exact decide_eq_false (by omega)
  rw[this];simp
 ·refine⟨.ref a,upd H a (.lst (xs++ys)),I.lset (its':=its++its2) ha ho (by simp) (r.append r2) (by rw[z1d];omega),rfl,q⟩
def BX(i:Nat)(f:ao->R D):ao->So:=λρ=>match ρ[i]? with
 | some (some (.lst ds))=>gZ (Kf (f ρ)) ρ λd=>match d with
  | .lst es=>if ds.length+es.length<=1000000 then .nx (ρ.set i (some (.lst (ds++es)))) else .bad
  |_=> .bad
 |_=> .bad
theorem Qd(i:Nat){x:Str}{pos':Pos}(hN:X.N.Nodup)(he:DE X e f)(hi:X.N[i]?=some x:=by rfl)(hx:Loc X.env.scope x:=by first |exact adS rfl |exact adA rfl)
  (hf:X.fn x=true\/X.env.scope.names.lookup x=some .local:=by first |exact .inl rfl |exact .inr rfl):DS X (.AugAssign (.Name x pos') .Add e pos) (BX i f):=by
 refine PS.imp (ps_aug hN hi hx he Y5 hf) λσ H E h=>?_;obtain⟨H0,O0,O,ρ,j,h⟩:=h;unfold BX at h;split at h
 ·rename_i ds q;obtain⟨v,hv1,a,xs,rfl,hO,hH,rs⟩:=j.inn.env.get i _ q;refine⟨.ref a,hv1,ρ,O,j.inn,?_⟩;unfold gZ at h;cases e1:f ρ with
  |bad=>rw[e1] at h;exact h.elim
  |err c=>rw[e1] at h;exact h.elim
  | ok d =>
   rw[e1] at h;intro w H1 s1 rw1;cases d with
   | lst es=>
    have h:uI X H0 O0 O H E (if ds.length+es.length<=1000000 then .nx (ρ.set i (some (.lst (ds++es)))) else .bad):=h;by_cases hl:ds.length+es.length<=1000000
    ·rw[if_pos hl] at h;have j1:=j.grow s1;obtain⟨b,ys,rfl,hb,hnb,Dj⟩:=rw1.lst;have rs1:=rs.same s1;have hH1:=s1 _ _ hH;refine⟨a,b,xs,ys,rfl,rfl,hH1,hb,by rw[<-rs1.length,<-Dj.length];exact hl,?_⟩;obtain⟨j2,r2⟩:=j1.chg (o:= .lst (xs++ys)) (en:= .lst (ds++es)) q rfl hv1 hO hH1 trivial rfl λr=>⟨a,xs++ys,rfl,hO,upd_same,(rs1.append Dj).go r⟩;have eσ:σ.set i (some (V.ref a))=σ:=by
      apply ae8;intro m;by_cases hm:m=i
      ·subst hm;rw[z2a (z1b hv1).1,hv1]
      ·rw[z1e (acN hm)]
     rw[eσ];exact h _ _ _ j2 ((Same.dM s1).trans r2)
    ·rw[if_neg hl] at h;exact h.elim
   |_=>exact h.elim
 ·exact h.elim
end
def Its(lo:Int)(n:Nat)(c:Int):It:=⟨λi _=>i<n,λi H x H'=>H'=H/\x= .int (lo+i*c),λi _=>n<=i⟩
theorem Ul(it:acA)(lo:Int)(n:Nat)(c:Int):Turn P w K tg (Its lo n c) [it] it (λi h=>agt h it (lo+(i:Nat)*c) ((n:Int) - (i:Nat)) c) where
 mem:=by simp
 obj :=λi h st b hb=>by
  have e:b=it:=by simpa using hb
  subst e;exact⟨_,st,λv z=>by
   have z':agu _=af8 v:=z;cases z'⟩
 keep:=λi h h' st k=>k it (by simp) _ st
 item:=by
  intro X hP hw hK hc i pins s σ H E I hf st hg;subst hP hw hK;obtain⟨f0,f1,f2,f3,f4,f5⟩:=hf it (by simp);have W:=Walks.range (prog:=X.prog) (w:=X.w) (I.ok.hd hc) it lo c n;refine W.item i s _ _ hg st λv h' tk hv st' kk=>?_;obtain⟨t,rfl⟩:=hv;have I1:Inv X pins σ H {s with heap:=h',toks:=tk}:=I.turned (λb o hb e=>kk b o (by simpa using hb) e) f0 f1 f3 f4 f5;exact⟨_,rfl,go_of (s:={s with heap:=h',toks:=tk}) (n:= "range_iterator") st' rfl rfl (by decide) ⟨.int (lo+i*c),H,I1,⟨t,rfl⟩,⟨rfl,rfl⟩,st',λb hb=>(hf b hb).1⟩⟩
 done:=by
  intro X hP hw hK hc i pins s σ H E I hf st hg;subst hP hw hK;obtain⟨f0,f1,f2,f3,f4,f5⟩:=hf it (by simp);exact wpAny_pyNext_range_end (I.ok.hd hc) st (by have:n<=i:=hg;omega) λh' eb=>⟨rfl,I.turned (t':=s.toks) (λb o hb e=>eb b o hb e) f0 f1 f3 f4 f5⟩
 self:=λ_ _ _ _ _ st h=>afS st h
def yc(hi:Int)(n:Nat):List D:=(acD n).map λ(i:Nat)=>D.int (hi - (i:Int))
theorem YR.step(hi:Int)(n:Nat):YR K O H (Its hi n (-1)) (yc hi n):=by
 intro O' H' _;intro i;refine⟨λd e=>?_,λe=>?_⟩
 ·unfold yc at e;rw[z2b] at e;cases q:(acD n)[i]? with
  |none=>rw[q] at e;cases e
  | some k=>
   rw[q] at e;have hk:i<n/\i=k:=by simpa[ac3] using (z1b q)
   obtain⟨h1,rfl⟩:=hk;cases e;refine⟨h1,λx H2 y=>?_⟩;obtain⟨rfl,rfl⟩:=y;exact⟨Same.refl _,by rw[show hi+(i:Int)*(-1)=hi - (i:Int) by omega];exact bN _⟩
 ·show n<=i;unfold yc at e;simpa using e
section
variable{X:Cx}{tg a b c:acI}{p pos p2 pos2:Pos}{fa:ao->R (List D)}{ta:TA}
def acp:List D->R (List D)
 |[.int i,.int j,.int k]=>if k= -1/\-(2^62)<=i/\i<2^62/\-(2^62)<=j/\j<2^62 then .ok (yc i (i - j).toNat) else .bad
 |_=> .bad
end
section
variable{prog:acL}{w:acQ}{A:acO}{E:acB->acC->Prop}{s:acC}
theorem DP(r:acA)(j:Int)(t u v:Tok)(h0:0<=j)(h1:j<=1000):Meets (ad1.«range.__reversed__» ⟨[.ref r],[]⟩) (λ_ R s=>IsRange s.heap r 0 j 1 t u v/\R (.ok (.ret (.ref s.heap.objs.size))) {s with heap:=s.heap.push {cls:= .type "range_iterator",data:= .fields #[ado (j - 1),ado j,ado (-1)]}}):=
 .of_wp λprog w A R s h=>by
  obtain⟨hp,g,d,tk,os⟩:=s;obtain⟨hr,h⟩:=h;have e1:afM 0 j 1=j:=by rw[rangeSize_one];split <;> omega
  have e2:(adM 0 && adM j && adM 1 && adM (-1) && adM (0 - 1) && adM j)=true:=by
   simp only[adM,adU,decide_eq_true_eq];omega
  have e3:(0:Int)+(j - 1)*1=j - 1:=by omega
  unfold ad1.«range.__reversed__» Builtin.Range.rangeFields
  wp_walk using adR hr
  rw[e1];simp only[e2,e3,afY,ac7,if_false,if_true];unfold newFields;refine acz (adt (acF ⟨_,rfl,h⟩) (by size_fits))
theorem DQ:isSubtype (.type "range_iterator") (.type "reversed")=pure false:=by rw[isSubtype_type];kernel_rfl
theorem G3{r:acA}{j:Int}{t u v:Tok}{Q₁:acB->acC->Prop}(h0:0<=j)(h1:j<=1000)(hr:IsRange s.heap r 0 j 1 t u v)
  (h:Q₁ (.ref s.heap.objs.size) {s with heap:=s.heap.push {cls:= .type "range_iterator",data:= .fields #[ado (j - 1),ado j,ado (-1)]}}):
  afr (model prog w) A (.call (.builtin "reversed.__new__") ⟨[.type "reversed",.ref r],[]⟩) (wants Q₁ E) s:=by
 have hT:s.TypeIs (.ref r) "range" :=⟨_,hr,rfl⟩;refine codeAny_of_tree ?_;show acG _ A.in1 (do checkBuiltinCall "reversed.__new__" ⟨[.type "reversed",.ref r],[]⟩;again (.builtin "reversed.__new__" ⟨[.type "reversed",.ref r],[]⟩)) _ _ s;refine acz (aey (PySem.F.newCall_reversed_1 _) (acF ⟨afZ PySem.F.plain_reversed_new _,agl PySem.F.entry_reversed_new ?_⟩));rw[afl PySem.F.plain_reversed_new _];unfold ad1.«reversed.__new__»;refine acz (aey (newClass_reversed _) ?_)
 try dsimp only
 refine acz (aey (a:=()) (by first |rfl |kernel_rfl) ?_);refine acz (aey (a:=()) (by first |rfl |kernel_rfl) ?_)
 try dsimp only
 refine acz (wpAny_specialOf hT PySem.F.slot_range_reversed.lookup ?_)
 try dsimp only
 refine acz (aey (PySem.F.slot_range_reversed.bind _) ?_)
 try dsimp only
 first
 |rw[if_neg (show ¬((ahz "range.__reversed__" ==acU)=true) from acY)]
 |(show acG _ _ (if (ahz "range.__reversed__" ==acU)=true then _ else _) _ _ _;rw[if_neg (show ¬((ahz "range.__reversed__" ==acU)=true) from acY)])
 refine acz (aej ?_);refine acz (m:=runValue (.call (.builtin "range.__reversed__") ⟨[.ref r],[]⟩)) (show acG _ _ (call (.builtin "range.__reversed__") [.ref r]) _ _ _ from afh PySem.F.slot_range_reversed hT PySem.F.entry_range_reversed (PySem.F.args_range_reversed_1 _) (DP r j t u v h0 h1) ⟨hr,?_⟩)
 first
 |exact acF h
 |exact acz (acF (acF h))
theorem G4{r:acA}{j:Int}{t u v:Tok}(h0:0<=j)(h1:j<=1000)(hr:IsRange s.heap r 0 j 1 t u v)
  (h:Q (.ref s.heap.objs.size) {s with heap:=s.heap.push {cls:= .type "range_iterator",data:= .fields #[ado (j - 1),ado j,ado (-1)]}}):acG (model prog w) A (call (.type "reversed") [.ref r]) Q E s:=by
 refine callType_other (U:= "range_iterator") (Q₁:=λobj s₁=>obj= .ref s.heap.objs.size/\s₁={s with heap:=s.heap.push {cls:= .type "range_iterator",data:= .fields #[ado (j - 1),ado j,ado (-1)]}}) (by decide +kernel) PySem.F.create_reversed ⟨_,_,PySem.F.mro_reversed⟩ PySem.F.made_reversed DQ (PySem.F.typeCall_reversed_1 _) (G3 h0 h1 hr ⟨rfl,rfl⟩) ?_
 rintro obj s₁ ⟨rfl,rfl⟩
 exact⟨⟨_,z1f _ rfl,rfl⟩,h⟩
end
section
variable{X:Cx}{tg a:acI}{p pos p2 pos2:Pos}{fa:ao->R (List D)}
def K7:List D->R (List D)
 |[.int j]=>if 0<=j/\j<=1000 then .ok (yc (j - 1) j.toNat) else .bad
 |_=> .bad
theorem Y6(hg:Gl X "reversed")(hm:X.mg "reversed" =none)(hg2:Gl X "range")(hm2:X.mg "range" =none)(ha:DA X [a] fa)(hs:acE [a] X.env=[(false,eval a X.env)]:=by rfl)
  (he:acE [.Call (.Name "range" p2) [a] [] pos2] X.env=(false,eval (.Call (.Name "range" p2) [a] [] pos2) X.env)::acE [] X.env:=by rfl)(hpl:(adg pos (acE [] X.env)).any (·.1)=false:=by rfl):
  DI X tg (.Call (.Name "reversed" p) [.Call (.Name "range" p2) [a] [] pos2] [] pos) (λρ=>(fa ρ).bind K7):=by
 intro pins s σ H R I h;have A:=pa_cons (aau (p:=p2) (pos:=pos2) hg2 hm2 ha hs) pa_nil he;obtain⟨ρ,O,jn,h⟩:=h;have key:tCons (aat X.K (tG X (uG X) fa)) tNil σ H (λvs H1=>∃q j,vs=[.ref q]/\H1 q=some (.rng 0 j)/\0<=j/\j<=1000/\R (Its (j - 1) j.toNat (-1)) H1):=by
  refine go jn h λds vs H1 e1 s1 r1 j1 h1=>?_;unfold K7 at h1;split at h1
  ·rename_i j;by_cases hh:0<=j/\j<=1000
   ·rw[if_pos hh] at h1;obtain⟨v,rfl,w⟩:=r1.one;exact⟨j,by rw[w.int],hh.1,hh.2,λq hq=>⟨q,j,rfl,upd_same,hh.1,hh.2,h1 _ _ (Same.upd hq) (YR.step _ _)⟩⟩
   ·rw[if_neg hh] at h1;exact h1.elim
  ·exact h1.elim
 refine Call_ (ld_blt I hg hm boot_reversed (adn (thn (A pos pins s σ H _ I key) λus s1 ⟨vs,H1,I1,r1,q1⟩=>?_) he hpl));obtain⟨q,j,e,hq,h0,h1,q⟩:=q1;subst e;cases r1 with
 | cons r rr=>
  cases rr;cases r;obtain⟨t,u,v,hr⟩:=I1.hok _ _ hq;refine G4 h0 h1 hr ?_;have hit:agt (s1.heap.push {cls:= .type "range_iterator",data:= .fields #[ado (j - 1),ado j,ado (-1)]}) s1.heap.objs.size (j - 1) j (-1):=z1f _ rfl;refine afS (s:={s1 with heap:=s1.heap.push {cls:= .type "range_iterator",data:= .fields #[ado (j - 1),ado j,ado (-1)]}}) hit ?_;refine⟨s1.heap.objs.size,[s1.heap.objs.size],_,_,H1,rfl,I1.kept (t':=s1.toks) λb o e=>z1a _ e,Ul _ (j - 1) j.toNat (-1),?_,λb hb=>?_,q⟩
  ·show agt _ _ (j - 1+((0:Nat):Int)*(-1)) (((j.toNat:Nat):Int) - ((0:Nat):Int)) (-1);rw[show j - 1+((0:Nat):Int)*(-1)=j - 1 by simp,show ((j.toNat:Nat):Int) - ((0:Nat):Int)=j by omega];exact hit
  ·have e:b=s1.heap.objs.size:=by simpa using hb
   subst e;exact I1.fpOk (z0g _) (I1.hok.fresh (z0g _))
end
end Pu
namespace Pu
open PySem PySem.Spec PySem.W L2
open PyProof.Rows hiding St
variable{a:acA}{ts:List (List Int)}{ns:List Int}
def bC:List Int->List Int->Bool
 |[],[]=>false
 |[],_::_=>true
 |_::_,[]=>false
 |x::xs,y::ys=>if x=y then bC xs ys else decide (x<y)
theorem iQ:∀a:List Int,bC a a=false
 |[]=>rfl
 |x::xs=>by rw[bC,if_pos rfl];exact iQ xs
theorem eV:∀{a b c:List Int},bC a b=true->bC b c=true->bC a c=true
 |[],[],_,h,_=>by cases h
 |[],_::_,[],_,h=>by cases h
 |[],_::_,_::_,_,_=>rfl
 |_::_,[],_,h,_=>by cases h
 |_::_,_::_,[],_,h=>by cases h
 | x ::a,y::b,z::c,h1,h2=>by
  rw[bC] at h1 h2 |-;by_cases e1:x=y
  ·rw[if_pos e1] at h1;subst e1;by_cases e2:x=z
   ·rw[if_pos e2] at h2 |-;exact eV h1 h2
   ·rw[if_neg e2] at h2 |-;exact h2
  ·rw[if_neg e1] at h1;have h1:x<y:=of_decide_eq_true h1;by_cases e2:y=z
   ·subst e2;rw[if_neg e1];exact decide_eq_true h1
   ·rw[if_neg e2] at h2;have h2:y<z:=of_decide_eq_true h2;rw[if_neg (by omega)];exact decide_eq_true (by omega)
theorem m9:∀{a b:List Int},a≠b->bC a b=false->bC b a=true
 |[],[],h,_=>absurd rfl h
 |[],_::_,_,h=>by cases h
 |_::_,[],_,_=>rfl
 | x ::a,y::b,h,e=>by
  rw[bC] at e |-;by_cases e1:x=y
  ·subst e1;rw[if_pos rfl] at e |-;exact m9 (λz=>h (by rw[z])) e
  ·rw[if_neg e1] at e;rw[if_neg (λz=>e1 z.symm)];have e:¬x<y:=of_decide_eq_false e;exact decide_eq_true (by omega)
section
variable{prog:acL}{w:acQ}{A:acO}{E:acB->acC->Prop}{s:acC}
theorem N6{b:acA}{oa ob:Obj}{xs ys:Array acB}{na nb:Nat}{ms:List Int}{P:PySem.Fin->acC->Prop}(hoa:s.heap.get? a=some oa)(hda:oa.data= .seq xs na)(hob:s.heap.get? b=some ob)(hcb:ob.cls= .type "tuple")(hdb:ob.data= .seq ys nb)
  (hia:aeD xs.toList ns)(hib:aeD ys.toList ms)(h:P (.done (.ret (.bool (bC ns ms)))) s):
  acG (model prog w) A (ad1.«tuple.__lt__» ⟨[.ref a,.ref b],[]⟩) P E s:=by
 have hTb:s.TypeIs (.ref b) "tuple" :=⟨ob,hob,hcb⟩;show acG _ _ (isInstance (.ref b) (.type "tuple") >>=_) _ _ s;refine acz (afk hTb isSubtype_tuple_tuple ?_);simp only[afY,ac7,if_false];refine acz (afF hoa hda ?_);refine acz (afF hob hdb ?_);refine acz ?_;refine wpAny_forIn_list _
  (λrest r s'=>r.1=none/\s'=s/\∃xs' ys' ns' ms',rest=List.zip xs' ys'/\aeD xs' ns'/\aeD ys' ms'/\bC ns' ms'=bC ns ms/\decide (xs'.length<ys'.length)=decide (xs.size<ys.size))
  _ ?_ ?_ _ _ ⟨rfl,rfl,xs.toList,ys.toList,ns,ms,rfl,hia,hib,rfl,by simp⟩
 ·rintro ⟨u,v⟩ rest r s' ⟨hr,rfl,xs',ys',ns',ms',hz,hx',hy',hdec,hlen⟩
  cases hx' with
  |nil=>simp at hz
  | cons k1 t1 hx''=>
   cases hy' with
   |nil=>simp at hz
   | cons k2 t2 hy''=>
    simp only[agC,ahr,ahA] at hz;obtain⟨⟨rfl,rfl⟩,rfl⟩:=hz;refine acz (ag5 ?_);rw[bC] at hdec;by_cases hk:k1=k2
    ·subst hk;rw[if_pos rfl] at hdec;simp only[beq_self_eq_true,afY,ac7,if_false];exact acF ⟨rfl,rfl,_,_,_,_,rfl,hx'',hy'',hdec,by simpa using hlen⟩
    ·rw[if_neg hk] at hdec;have e:(k1 ==k2)=false:=by simpa using hk
     rw[e];simp only[Bool.not_false,if_true];rw[<-hdec] at h;refine acz (aej ?_);refine acz (m:=afV .Lt (.int k1 t1) (.int k2 t2)) (show acG _ _ (ac1 .Lt (.int k1 t1) (.int k2 t2)) _ _ _ from lt_int ?_)
     first
      |exact acF (acF h)
      |exact acz (acF (acF (acF h)))
      |exact acz (acF (acF h))
 ·rintro⟨r1,r2⟩ s' ⟨hr,rfl,xs',ys',ns',ms',hz,hx',hy',hdec,hlen⟩
  simp only at hr;subst hr;refine acF ?_;have hfin:decide (xs.size<ys.size)=bC ns ms:=by
   rw[<-hdec,<-hlen];cases hx' with
   | nil=>
    cases hy' with
    |nil=>rfl
    |cons _ _ _=>simp[bC]
   | cons _ _ _=>
    cases hy' with
    |nil=>simp[bC]
    |cons _ _ _=>simp at hz
  show P (.done (.ret (.bool (decide (xs.size<ys.size))))) s';rw[hfin];exact h
theorem Y7{b:acA}{oa ob:Obj}{xs ys:Array acB}{na nb:Nat}{ms:List Int}{Q:acB->acC->Prop}(hu:A.units<aed)(hoa:s.heap.get? a=some oa)(hca:oa.cls= .type "tuple")(hda:oa.data= .seq xs na)(hob:s.heap.get? b=some ob)(hcb:ob.cls= .type "tuple")(hdb:ob.data= .seq ys nb)
  (hia:aeD xs.toList ns)(hib:aeD ys.toList ms)(h:Q (.bool (bC ns ms)) s):acG (model prog w) A (ac1 .Lt (.ref a) (.ref b)) Q E s:=by
 show acG _ _ (afV .Lt (.ref a) (.ref b)) _ _ _;exact wpAny_richCompare_same_room (op:= .Lt) ⟨oa,hoa,hca⟩ ⟨ob,hob,hcb⟩ PySem.F.slot_tuple_lt
   (adi PySem.F.slot_tuple_lt ⟨oa,hoa,hca⟩ PySem.F.entry_tuple_lt (N6 hoa hda hob hcb hdb hia hib ⟨_,rfl,(λe=>nomatch e),h⟩) (PySem.F.args_tuple_lt_2 _ _)) hu
end
section
variable{X:Cx}
end
def tR(p:List Int):List (List Int)->List (List Int)
 |[]=>[p]
 |q::r=>if bC p q then p::q::r else q::tR p r
def d8:List (List Int)->List (List Int)
 |[]=>[]
 |p::r=>tR p (d8 r)
theorem sU(p:List Int):∀l,(tR p l).Perm (p::l)
 |[]=> .refl _
 | q::r=>by
  unfold tR;split
  ·exact .refl _
  ·exact ((sU p r).cons q).trans (List.Perm.swap p q r)
theorem eX:∀l,(d8 l).Perm l
 |[]=> .refl _
 |p::r=>(sU p _).trans ((eX r).cons p)
abbrev DR(l:List (List Int)):Prop:=l.Pairwise λa b=>bC a b=true
theorem IK(p:List Int):∀{l:List (List Int)},DR l->p∉l->DR (tR p l)
 |[],_,_=>by unfold tR;simp
 | q ::r,h,hn=>by
  obtain⟨h1,h2⟩:=adK.mp h;unfold tR;by_cases e:bC p q=true
  ·rw[if_pos e];refine adK.mpr ⟨λz hz=>?_,h⟩;rcases acR.mp hz with z1 |z1
   ·rw[z1];exact e
   ·exact eV e (h1 z z1)
  ·rw[if_neg e];have e2:bC q p=true:=m9 (λz=>hn (by rw[z];exact acT)) (by simpa using e);refine adK.mpr ⟨λz hz=>?_,IK p h2 λz=>hn (z2f _ z)⟩;rcases acR.mp ((sU p r).mem_iff.mp hz) with z1 |z1
   ·rw[z1];exact e2
   ·exact h1 z z1
theorem yd:∀{l:List (List Int)},l.Nodup->DR (d8 l)
 |[],_=> .nil
 | p::r,h=>by
  obtain⟨h1,h2⟩:=afu.mp h;exact IK p (yd h2) λz=>h1 ((eX r).mem_iff.mp z)
theorem Ea:∀{a b:List (List Int)},a.Perm b->DR a->DR b->a=b
 |[],b,p,_,_=>(List.nil_perm.mp p).symm
 |x::a,[],p,_,_=>absurd (List.perm_nil.mp p) (by simp)
 | x :: a,y::b,p,ha,hb=>by
  have ha':=adK.mp ha;have hb':=adK.mp hb;have h1:x=y:=by
   rcases acR.mp (p.mem_iff.mp (acT (a:=x) (l:=a))) with h |h
   ·exact h
   ·rcases acR.mp (p.mem_iff.mpr (acT (a:=y) (l:=b))) with k |k
    ·exact k.symm
    ·have:=eV (ha'.1 y k) (hb'.1 x h);rw[iQ] at this;cases this
  subst h1;rw[Ea ((List.perm_cons x).mp p) ha'.2 hb'.2]
theorem Rr(hn:ts.Nodup){a b:Nat}(ha:a<ts.length)(hb:b<ts.length)(hab:a≠b):ts.getD a []≠ts.getD b []:=by
 simp only[afd,ad0 ha,ad0 hb,ahf];intro z;exact hab ((ag7 hn).mp z)
theorem Y8(hn:ts.Nodup):Ord ts.length (λi j=>bC (ts.getD i []) (ts.getD j [])):=
 ⟨λa b c _ _ _ h1 h2=>eV h1 h2,λa b ha hb hab h=>m9 (Rr hn ha hb hab) h⟩
theorem K8(hn:ts.Nodup){q:Array Nat}(h:Pm ts.length q)(hs:S (λi j=>bC (ts.getD i []) (ts.getD j [])) q ts.length):q.toList.map (λi=>ts.getD i [])=d8 ts:=by
 refine Ea ?_ ?_ (yd hn)
 ·have e:(acD ts.length).map (λi=>ts.getD i [])=ts:=by
   apply ae8;intro i;by_cases hi:i<ts.length
   ·simp[hi]
   ·simp[hi]
  have:=h.perm.map λi=>ts.getD i [];rw[e] at this;exact this.trans (eX ts).symm
 ·refine ag3.mpr λi j hi hj hij=>?_;have hl:(q.toList.map λi=>ts.getD i []).length=ts.length:=by simp[h.size]
  have:=hs i j hij (by rw[<-hl];exact hj);have e:∀(k:Nat) (hk:k<(q.toList.map λi=>ts.getD i []).length),(q.toList.map λi=>ts.getD i [])[k]=ts.getD (q.getD k 0) []:=λk hk=>by
   have hk':k<q.size:=by simpa using hk
   simp[ag2,hk']
  rw[e i hi,e j hj];exact this
section
variable{prog:acL}{w:acQ}{A:acO}{E:acB->acC->Prop}{s:acC}
inductive lR (h:acP) (a:acA) (l c:Int) (ps:List Int):Prop
 |mk (o o2:Obj) (n n2:Nat) (t u:Tok) (p:acA) (vs:Array acB) (h1:h.get? a=some o) (h2:o.cls= .type "tuple") (h3:o.data= .seq #[.int l t,.int c u,.ref p] n) (h4:h.get? p=some o2) (h5:o2.cls= .type "tuple") (h6:o2.data= .seq vs n2) (h7:aeD vs.toList ps):lR h a l c ps
theorem lR.keeps{h h':acP}{l c:Int}{ps:List Int}(x:lR h a l c ps)(k:∀b o,h.get? b=some o->o.cls= .type "tuple"->h'.get? b=some o):lR h' a l c ps:=
 by
 obtain⟨o,o2,n,n2,t,u,p,vs,h1,h2,h3,h4,h5,h6,h7⟩:=x;exact⟨o,o2,n,n2,t,u,p,vs,k _ _ h1 h2,h2,h3,k _ _ h4 h5,h5,h6,h7⟩
theorem BZ{prog:acL}{w:acQ}:∀{vs:List acB} {ns:List Int},aeD vs ns->ItemsAre (intKind prog w) ns vs
 |_,_,.nil=> .nil
 |_,_,.cons n t h=> .cons (intKind_is _ _ _ _) (BZ h)
theorem Y9{x y:acA}{l c l' c':Int}{ps qs:List Int}{Q:Bool->acC->Prop}(hu:A.units<aed)(hx:lR s.heap x l c ps)(hy:lR s.heap y l' c' qs)(h:Q (bC (l::c::ps) (l'::c'::qs)) s):
  acG (model prog w) A (keyLt' (tuples' true) (.ref x) (.ref y)) Q E s:=by
 obtain⟨o,o2,n,n2,t,u,p,vs,h1,h2,h3,h4,h5,h6,h7⟩:=hx;obtain⟨o',o2',n',n2',t',u',p',vs',g1,g2,g3,g4,g5,g6,g7⟩:=hy;refine kat_lt h1 h3 g1 g3 ?_;show KatLex prog w A true (decide (3<3)) Q [(.int l t,.int l' t'),(.int c u,.int c' u'),(.ref p,.ref p')] 0 s;rw[bC,bC] at h;refine kat_cons (afD l t l' t' prog w _ _ ?_);by_cases e1:l=l'
 ·rw[if_pos e1] at h;rw[show (l ==l')=true by simpa using e1];refine kat_yes (kat_cons (afD c u c' u' prog w _ _ ?_));by_cases e2:c=c'
  ·rw[if_pos e2] at h;rw[show (c ==c')=true by simpa using e2];refine kat_yes (kat_cons (wpAny_eqBool_tuple (knd:=intKind prog w) hu ⟨o2,vs,n2,h4,h5,h6,BZ h7⟩ ⟨o2',vs',n2',g4,g5,g6,BZ g7⟩ ?_));by_cases e3:ps=qs
   ·rw[e3,iQ] at h;rw[decide_eq_true e3];exact kat_yes (kat_nil (by simpa using h))
   ·rw[decide_eq_false e3];refine kat_no ?_;show acG (model prog w) A (oneLt' false _ _) Q _ s;exact kat_one _ _ (Y7 hu h4 h5 h6 g4 g5 g6 h7 g7 h)
  ·rw[if_neg e2] at h;rw[show (c ==c')=false by simpa using e2];refine kat_no ?_;show acG (model prog w) A (oneLt' false _ _) Q _ s;exact kat_one _ _ (lt_int h)
 ·rw[if_neg e1] at h;rw[show (l ==l')=false by simpa using e1];refine kat_no ?_;show acG (model prog w) A (keyLt' oneType' (.int l t) (.int l' t')) Q _ s;exact kat_lt_int h
end
theorem K9{h:acP}:∀(as:List acA),(∀a∈as,∃l c ps,lR h a l c ps)->∃fs,KatTups h (as.map acM) fs/\fs.length=as.length/\∀f∈fs,∃k t,f=agy k t
 |[],_=>⟨[],.nil,rfl,λf hf=>by simp at hf⟩
 | a::as,hx=>by
  obtain⟨l,c,ps,o,o2,n,n2,t,u,p,vs,h1,h2,h3,_⟩:=hx a acT;obtain⟨fs,k1,k2,k3⟩:=K9 as λb hb=>hx b (z2f _ hb);refine⟨.int l t::fs,KatTups.cons h1 h2 h3 rfl k1,by simp[k2],λf hf=>?_⟩;rcases acR.mp hf with z |z
  ·exact⟨l,t,z⟩
  ·exact k3 f z
section
variable{X:Cx}
def J6(K:PySem.W.Frag)(H:Hp)(a:acA)(ns:List Int):Prop:=∃l c ps p,ns=l::c::ps/\SqT K H a [.int l,.int c,.ref p]/\SqT K H p (ps.map V.int)
theorem Za{pins:List (acA×Obj)}{σ:St}{H:Hp}{s:acC}(I:Inv X pins σ H s)(h:J6 X.K H a ns):∃l c ps,ns=l::c::ps/\lR s.heap a l c ps:=by
 obtain⟨l,c,ps,p,rfl,h1,h2⟩:=h;obtain⟨its,r1,⟨o,ho,hc,n,hd⟩,_⟩:=I.tuple h1;obtain⟨its2,r2,⟨o2,ho2,hc2,n2,hd2⟩,_⟩:=I.tuple h2;refine⟨l,c,ps,rfl,?_⟩;cases r1 with
 | cons a1 r1=>
  cases r1 with
  | cons a2 r1=>
   cases r1 with
   | cons a3 r1=>
    cases r1;obtain⟨t,rfl⟩:=a1;obtain⟨u,rfl⟩:=a2;cases a3;exact⟨o,o2,n,n2,t,u,p,its2.toArray,ho,hc,hd,ho2,hc2,hd2,by simpa using Pz r2⟩
theorem Rt(hu:X.A.units+2<aed):CallR X (.builtin "sorted") (λxs H Q=>∃(a:acA) (as:List acA) (ts:List (List Int)),xs=[.ref a]/\SqL X.K H a (as.map V.ref)/\as.length=ts.length/\ts.length<64/\ts.Nodup/\(∀(i:Nat) b t,as[i]?=some b->ts[i]?=some t->J6 X.K H b t)/\
  ∀(B:acA) (bs:List acA),H B=none->bs.length=ts.length->(∀(i:Nat) b t,bs[i]?=some b->(d8 ts)[i]?=some t->b∈as/\∃j:Nat,as[j]?=some b/\ts[j]?=some t)->Q (.ref B) (upd H B (.lst (bs.map V.ref)))):=by
 intro pins s σ H xs us Q I r h;obtain⟨a,as,ts,rfl,hq,hl,h64,hn,ht,q⟩:=h;obtain⟨u,rfl,rx⟩:=vals1 r;cases rx;obtain⟨its,rv,pl,hz⟩:=I.list hq;have hits:its=as.map acM:=by
  have:∀(as:List acA) (its:List acB),Vals (as.map V.ref) its->its=as.map acM:=by
   intro as
   induction as with
   |nil=>intro its r;cases r;rfl
   |cons b as ih=>intro its r;cases r with |cons r1 r2=>cases r1;rw[ih _ r2];rfl
  exact this as its rv
 subst hits;have lenV:(as.map acM).length=ts.length:=by rw[z1g,hl]
 refine ag4 kind_sorted plain_sorted entry_sorted (args_sorted1 _) ?_;unfold ad1.«sorted»;refine acz (m:=checkCount "sorted" 1 1 _) (acF ?_);refine acz (collect_list pl.isList ?_);refine acz (agJ ?_ (by rw[lenV,adv];omega));have hsz:((s.heap.push (adJ "list" #[] 0)).update s.heap.objs.size (ady (· ++(as.map acM).toArray))).objs.size=s.heap.objs.size+1:=by
  rw[Heap.size_update,size_push']
 have hB:(((s.heap.push (adJ "list" #[] 0)).update s.heap.objs.size (ady (· ++(as.map acM).toArray))).push (adJ "list" (as.map acM).toArray 0)).get? (s.heap.objs.size+1)=some (adJ "list" (as.map acM).toArray 0):=by
  rw[<-hsz];exact z1f _ rfl
 show acG _ _ _ _ _ {s with heap:=((s.heap.push (adJ "list" #[] 0)).update s.heap.objs.size (ady (· ++(as.map acM).toArray))).push (adJ "list" (as.map acM).toArray 0)};rw[hsz];have kp:∀b o,s.heap.get? b=some o->(((s.heap.push (adJ "list" #[] 0)).update s.heap.objs.size (ady (· ++(as.map acM).toArray))).push (adJ "list" (as.map acM).toArray 0)).get? b=some o:=λb o e=>by
  refine z1a _ ?_;rw[adZ _ _ _ _ (ac2 (z2c e))];exact z1a _ e
 have La:∀(i:Nat) b,as[i]?=some b->∃l c ps,ts.getD i []=l::c::ps/\lR s.heap b l c ps:=λi b e=>by
  have hi:i<ts.length:=by rw[<-hl];exact (z1b e).1
  obtain⟨l,c,ps,e1,e2⟩:=Za I (ht i b ts[i] e (by simp[hi]));exact⟨l,c,ps,by simp[hi,e1],e2⟩
 have bne:∀b o,s.heap.get? b=some o->b≠s.heap.objs.size+1:=λb o e=>ac2 (afQ (z2c e));refine acz (aev (adi slot_list_sort ⟨_,hB,rfl⟩ entry_list_sort (Yy (lt:=λi j=>bC (ts.getD i []) (ts.getD j [])) (kk:=tuples' true) hB (by rw[lenV];exact h64) (by rw[lenV];exact Y8 hn) ?kind ?ask λqq hq Um=>⟨_,rfl,?fin⟩) (args_list_sort _)))
 case kind=>
  intro h2 h6 keep Q' hQ';obtain⟨fs,kt,fl,fi⟩:=K9 (h:=h6) as λb hb=>by
   obtain⟨i,hi⟩:=af9.mp hb;obtain⟨l,c,ps,_,e⟩:=La i b hi;exact⟨l,c,ps,e.keeps λd o hd _=>keep d o (bne d o hd) (kp d o hd)⟩
  refine kat_kind (T:= .type "int") kt (by rw[fl,hl];rw[lenV] at h2;omega) (λf hf=>by obtain⟨k,t,rfl⟩:=fi f hf;exact .now) rfl hQ'
 case ask=>
  intro h6 keep i j C hi hj hC;rw[lenV] at hi hj;have hi':i<as.length:=by omega
  have hj':j<as.length:=by omega
  obtain⟨l,c,ps,e1,t1⟩:=La i as[i] (by simp[hi']);obtain⟨l',c',ps',e2,t2⟩:=La j as[j] (by simp[hj']);unfold kas_ask;rw[show (as.map acM).getD i acU= .ref as[i] by simp[hi'],show (as.map acM).getD j acU= .ref as[j] by simp[hj']];refine Y9 ?_ (t1.keeps λd o hd _=>keep d o (bne d o hd) (kp d o hd)) (t2.keeps λd o hd _=>keep d o (bne d o hd) (kp d o hd)) ?_
  ·first |exact Nat.lt_of_le_of_lt (by simp) hu |(show X.A.units+_<aed;omega)
  ·rw[e1,e2] at hC;exact hC
 case fin=>
  rw[lenV] at hq Um;refine acF ⟨_,rfl,?_⟩;have hout:(qq.toList.map λi=>(as.map acM).getD i acU)=(qq.toList.map λi=>as.getD i 0).map acM:=by
   rw[ac8];refine adG λi hi=>?_;have hi':i<as.length:=by rw[hl];exact z2e (hq.perm.mem_iff.mp hi)
   simp[hi']
  rw[hout];obtain⟨cc,hFB⟩:=sortedHeap_at (vs:=as.map acM) (out:=adL ((qq.toList.map λi=>as.getD i 0).map acM)) hB;have hf:H (s.heap.objs.size+1)=none:=I.hok.fresh (agx _);refine⟨.ref (s.heap.objs.size+1),upd H (s.heap.objs.size+1) (.lst ((qq.toList.map λi=>as.getD i 0).map V.ref)),I.laid (t':=s.toks) (λb o e=>sI (bne b o e) (kp b o e)) (agx _) ?_,rfl,q _ _ hf ?_ λi b t eb et=>?_⟩
  ·refine⟨?_,_,cc,GD _,hFB⟩;rw[z1g,z1g,adY,hq.size,adv];omega
  ·rw[z1g,adY,hq.size]
  ·rw[<-K8 hn hq Um] at et;rw[z2b] at eb et;cases ei:qq.toList[i]? with
   |none=>rw[ei] at eb;cases eb
   | some k=>
    rw[ei] at eb et;have eb:as.getD k 0=b:=acV eb;have et:ts.getD k []=t:=acV et;have hk:k<ts.length:=z2e (hq.perm.mem_iff.mp (ac6 ei));have hk':k<as.length:=by omega
    have ea:as[k]?=some b:=by simp[afd,hk'] at eb |-;exact eb
    exact⟨ac6 ea,k,ea,by simp[afd,hk] at et |-;exact et⟩
end
end Pu
namespace Pu
open PySem PySem.Spec L2
open PyProof.Rows hiding St
def iJ:List Int->D
 |l::c::ps=> .tup [.int l,.int c,.tup (ps.map .int)]
 |_=> .non
def uL:D->Option (List Int)
 | .tup [.int l,.int c,.tup ps]=>(intsOf ps).map λns=>l::c::ns
 |_=>none
def ni:List D->Option (List (List Int))
 |[]=>some []
 | d::ds=>match uL d,ni ds with
  |some t,some ts=>some (t::ts)
  |_,_=>none
def lU:List D->R D
 | [.lst ds]=>match ni ds with
  |some ts=>if ts.length<64/\ts.Nodup then .ok (.lst ((d8 ts).map iJ)) else .bad
  |none=> .bad
 |_=> .bad
theorem Ru(ns:List Int):intsOf (ns.map D.int)=some ns:=by simpa using Il (c:=λi:Int=>i) (l:=ns)
theorem Lb{l c:Int}{ps:List Int}:uL (iJ (l::c::ps))=some (l::c::ps):=by simp[iJ,uL,Ru]
section
variable{K:PySem.W.Frag}{O:acA->Prop}{H:Hp}
theorem WW{d:D}{v:V}{t:List Int}(e:uL d=some t)(r:Rep K O H d v):∃b,v= .ref b/\J6 K H b t/\Rep K O H (iJ t) v:=by
 unfold uL at e;split at e
 ·rename_i l c ps;cases q:intsOf ps with
  |none=>rw[q] at e;cases e
  | some ns=>
   rw[q] at e;cases e;obtain⟨a,xs,rfl,hq,rs⟩:=r.tup;obtain⟨v1,v2,v3,rfl,r1,r2,r3⟩:=rs.three;have r1:=r1.int;have r2:=r2.int;subst r1 r2;obtain⟨p,ys,rfl,hq2,Dj⟩:=r3.tup;have e2:=Ir q Dj;subst e2;refine⟨a,rfl,⟨l,c,ns,p,rfl,hq,hq2⟩,gw hq (.cons (bN l) (.cons (bN c) (.cons (gw hq2 xT) .nil)))⟩
 ·cases e
theorem IV:∀{ds:List D} {vs:List V} {ts:List (List Int)},ni ds=some ts->aO K O H ds vs->∃as:List acA,vs=as.map V.ref/\as.length=ts.length/\∀(i:Nat) b t,as[i]?=some b->ts[i]?=some t->J6 K H b t/\Rep K O H (iJ t) (.ref b)
 | [],vs,ts,e,r=>by
  cases e;exact⟨[],r.nil_inv,rfl,λi b t h=>by simp at h⟩
 | d ::ds,vs,ts,e,r=>by
  obtain⟨x,r',rfl,h1,h2⟩:=r.cons_inv;unfold ni at e;split at e
  ·rename_i t ts' e1 e2;cases e;obtain⟨b,rfl,h3,h4⟩:=WW e1 h1;obtain⟨as,rfl,h5,h6⟩:=IV e2 h2;refine⟨b::as,rfl,by simp[h5],λi b' t' eb et=>?_⟩;cases i with
   |zero=>simp at eb et;subst eb et;exact⟨h3,h4⟩
   |succ i=>exact h6 i b' t' (by simpa using eb) (by simpa using et)
  ·cases e
theorem tU:∀{ds:List D} {vs:List V},ds.length=vs.length->(∀(i:Nat) d v,ds[i]?=some d->vs[i]?=some v->Rep K O H d v)->aO K O H ds vs
 |[],[],_,_=> .nil
 |[],_::_,h,_=>by simp at h
 |_::_,[],h,_=>by simp at h
 |d::ds,v::vs,h,p=> .cons (p 0 d v rfl rfl) (tU (by simpa using h) λi d' v' e1 e2=>p (i+1) d' v' (by simpa using e1) (by simpa using e2))
end
section
variable{X:Cx}
theorem Ld(hu:X.A.units+2<aed):CallD X (.builtin "sorted") lU:=by
 refine⟨_,Rt hu,λρ O σ H Q xs ds j r h=>?_⟩;unfold lU at h;split at h
 ·rename_i es;obtain⟨x,rfl,rx⟩:=r.one;obtain⟨a,ys,rfl,hq,hna,rs⟩:=rx.lst;cases e:ni es with
  |none=>rw[e] at h;exact h.elim
  | some ts =>
   rw[e] at h;have h:good X (rD X) O (if ts.length<64/\ts.Nodup then R.ok (.lst ((d8 ts).map iJ)) else .bad) σ H Q:=h;by_cases hl:ts.length<64/\ts.Nodup
   ·rw[if_pos hl] at h;obtain⟨as,rfl,h1,h2⟩:=IV e rs;refine⟨a,as,ts,rfl,hq,h1,hl.1,hl.2,λi b t eb et=>(h2 i b t eb et).1,λB bs hB hbl hp=>?_⟩;refine h _ _ (Same.upd hB) (Rep.mQ hB (j.uY hB) (tU ?_ λi d v ed ev=>?_))
    ·rw[z1g,z1g,(eX ts).length_eq,hbl]
    ·rw[z2b] at ed ev;cases q1:(d8 ts)[i]? with
     |none=>rw[q1] at ed;cases ed
     | some t=>
      cases q2:bs[i]? with
      |none=>rw[q2] at ev;cases ev
      | some b=>
       rw[q1] at ed;rw[q2] at ev;cases ed;cases ev;obtain⟨_,k,z1,z2⟩:=hp i b t q2 q1;exact (h2 k b t z1 z2).2
   ·rw[if_neg hl] at h;exact h.elim
 ·exact h.elim
end
section
variable{X:Cx}{e:acI}{f:ao->R D}{pos:Pos}
theorem Qe(i k m:Nat){x y z:Str}{px py pz pt:Pos}{kt}(hc:X.calm=true)(hN:X.N.Nodup)(he:DE X e f)(hi:X.N[i]?=some x:=by rfl)(hk:X.N[k]?=some y:=by rfl)(hm:X.N[m]?=some z:=by rfl)
  (hx:Loc X.env.scope x:=by first |exact adS rfl |exact adA rfl)(hy:Loc X.env.scope y:=by first |exact adS rfl |exact adA rfl)(hz:Loc X.env.scope z:=by first |exact adS rfl |exact adA rfl)
  (hfx:X.fn x=true\/X.env.scope.names.lookup x=some .local:=by first |exact .inl rfl |exact .inr rfl)(Kh:X.fn y=true\/X.env.scope.names.lookup y=some .local:=by first |exact .inl rfl |exact .inr rfl)(hfz:X.fn z=true\/X.env.scope.names.lookup z=some .local:=by first |exact .inl rfl |exact .inr rfl)
  (hs:aeH [.Tuple [.Name x px,.Name y py,.Name z pz] kt pt] e pos.line X.env=pure false:=by rfl)(hw:aeI [.Tuple [.Name x px,.Name y py,.Name z pz] kt pt] e X.env=pure none:=by rfl):
  DS X (.Assign [.Tuple [.Name x px,.Name y py,.Name z pz] kt pt] e pos) (bh f (cD (cF 3 (aW (aJ i) (aW (aJ k) (aW (aJ m) nilG)))))):=by
 refine PS.imp (ps_asg he (pg_tup hc (pgs_cons (pg_name hN hi hx hfx) (pgs_cons (pg_name hN hk hy Kh) (pgs_cons (pg_name hN hm hz hfz) pgs_nil)))) hs hw) λσ H E h=>?_;obtain⟨H0,O0,O,ρ,j,h⟩:=h;refine⟨ρ,O,j.inn,?_⟩;unfold bh gZ at h;cases e1:f ρ with
 |bad=>rw[e1] at h;exact h
 |err c=>rw[e1] at h;exact h σ H O j
 | ok d=>
  rw[e1] at h;intro v H' s r;cases d with
  | tup ds=>
   match ds,h,r with
   |[],h,_=>exact h.elim
   |[_],h,_=>exact h.elim
   |[_,_],h,_=>exact h.elim
   |_::_::_::_::_,h,_=>exact (show False by simpa[cD,cF,uI] using h).elim
   | [d1,d2,d3],h,r=>
    obtain⟨a,xs,rfl,hq,rs⟩:=r.tup;obtain⟨v1,v2,v3,rfl,r1,r2,r3⟩:=rs.three;refine⟨a,[v1,v2,v3],rfl,hq,rfl,v1,[v2,v3],rfl,v2,[v3],rfl,v3,[],rfl,rfl,?_⟩;exact h _ H' O ((((j.grow s).set (z1b hi).1 r1).set (z1b hk).1 r2).set (z1b hm).1 r3) (Same.dM s)
  |_=>exact h.elim
end
section
variable{X:Cx}{e:acI}{f:ao->R D}
def ach:D->R Bool
 | .lst ds=> .ok (!ds.isEmpty)
 | .tup ds=> .ok (!ds.isEmpty)
 |_=> .bad
def Le(f:ao->R D):ao->R Bool:=λρ=>(f ρ).bind ach
theorem aO.empty{K:PySem.W.Frag}{O:acA->Prop}{H:Hp}{ds:List D}{vs:List V}(r:aO K O H ds vs):ds.isEmpty=vs.isEmpty:=by
 have:=r.length;cases ds <;> cases vs <;> simp_all
theorem Uo(h:DE X e f)(he:∀whole,isTrue e X.env whole=(do let v <-whole;standAt e.pos;holding [v] (truthy v)):=by intro _;rfl):DT X e (Le f):=by
 refine PT.imp (pt_truth h he) λσ H Q h=>?_;obtain⟨ρ,O,j,h⟩:=h;refine go j h λd v H1 e1 s1 r1 j1 h1=>?_;cases d with
 | lst ds=>
  obtain⟨a,xs,rfl,hq,hn,rs⟩:=r1.lst;exact⟨!xs.isEmpty,.inl ⟨xs,hq,rfl⟩,by rw[<-rs.empty];exact fin h1 rfl⟩
 | tup ds=>
  obtain⟨a,xs,rfl,hq,rs⟩:=r1.tup;exact⟨!xs.isEmpty,.inr (.inl ⟨xs,hq,rfl⟩),by rw[<-rs.empty];exact fin h1 rfl⟩
 |_=>exact h1.elim
end
theorem Lf{A:acO}{k:Nat}(hr:Room k A):A.units+2<aed:=by have:=hr.un;omega
def FnS(P:acL)(w:acQ)(K:PySem.W.Frag)(mg:Str->Option acB)(base:acP)(k:Nat)(x:Str)(kG n q:Nat)(F:acA->(List D->R D)->List D->R D):Prop:=
 ∃f fd ps,FnOk P w K mg base CX0 k f fd ps (spS P w mg base kG K n q F)/\mg x=some (.ref f)/\PySem.W.keepIn K (.ref f)=true/\Binds K fd ps []
theorem Ao:∀{xs:List V} {us:List acB},xs.length=us.length->(∀(i:Nat) x u,xs[i]?=some x->us[i]?=some u->RelV x u)->Vals xs us
 |[],[],_,_=> .nil
 |[],_::_,h,_=>by simp at h
 |_::_,[],h,_=>by simp at h
 |x::xs,u::us,h,p=> .cons (p 0 x u rfl rfl) (Ao (by simpa using h) λi d' v' e1 e2=>p (i+1) d' v' (by simpa using e1) (by simpa using e2))
theorem Uq{lo:Int}{acc:Array acB}{n:Nat}(h:ItemsOf (λi v=>∃t,v= .int (lo+i*1) t) acc n):Vals ((acD n).map λ(i:Nat)=>V.int (lo+(i:Int))) acc.toList:=by
 refine Ao (by simp[h.1]) λi x u e1 e2=>?_;rw[aga] at e2;obtain⟨t,rfl⟩:=h.2 i u e2;rw[z2b] at e1;cases q:(acD n)[i]? with
 |none=>rw[q] at e1;cases e1
 | some k=>
  rw[q] at e1;have hk:i<n/\i=k:=by simpa[ac3] using (z1b q)
  obtain⟨_,rfl⟩:=hk;cases e1;exact⟨t,by rw[Int.mul_one]⟩
section
variable{X:Cx}{a b:acI}{p pos p2 pos2:Pos}{fa:ao->R (List D)}{ta:TA}
def abG(ta:TA):TE:=λσ H Q=>ta σ H λvs H1=>∃i j:Int,vs=[.int i,.int j]/\∀q,H1 q=none->Q (.ref q) (upd H1 q (.rng i j))
theorem Zb(hg:Gl X "range")(hm:X.mg "range" =none)(ha:PA X [a,b] ta)(hs:acE [a,b] X.env=[(false,eval a X.env),(false,eval b X.env)]:=by rfl)(hs2:acE [b] X.env=[(false,eval b X.env)]:=by rfl):PE X (.Call (.Name "range" p) [a,b] [] pos) (abG ta):=by
 intro pins s σ H Q I h;refine Call_ (ld_blt I hg hm boot_range (adn (thn (ha pos pins s σ H _ I h) λus s1 ⟨vs,H1,I1,r1,q1⟩=>?_) (by rw[hs,hs2]) (by rw[hs2];rfl)));obtain⟨i,j,e,q⟩:=q1;subst e;cases r1 with
 | cons r rr=>
  cases rr with
  | cons r' rr=>
   cases rr;obtain⟨t,rfl⟩:=r;obtain⟨t',rfl⟩:=r';refine call_range_2 ?_;exact⟨.ref s1.heap.objs.size,upd H1 s1.heap.objs.size (.rng i j),I1.laid (λb o e=>z1a _ e) (z0g _) ⟨_,_,_,z1f _ rfl⟩,rfl,q _ (I1.hok.fresh (z0g _))⟩
theorem Ur(hc:X.calm=true):CallR X (.type "list") (λxs H Q=>∃(b:acA) (i j:Int),xs=[.ref b]/\H b=some (.rng i j)/\-1000<=i/\i<=1000/\-1000<=j/\j<=1000/\∀B,H B=none->Q (.ref B) (upd H B (.lst ((acD (j - i).toNat).map λ(k:Nat)=>V.int (i+(k:Int)))))):=by
 intro pins s σ H xs us Q I r h;obtain⟨b,i,j,rfl,hb,h0,h1,h2,h3,q⟩:=h;obtain⟨u,rfl,rx⟩:=vals1 r;cases rx;obtain⟨t,u,v,hr⟩:=(show ObjOk X.prog X.w H s.heap b (.rng i j) from I.hok b _ hb);have hn:afM i j 1=(((j - i).toNat:Nat):Int):=by rw[rangeSize_one];split <;> omega
 refine call_list_range (I.ok.hd hc) hr (small_one (by omega) (by omega) (by omega) (by omega)) hn (by omega) λh' tk acc c' hk he hacc=>?_;have hf:H s.heap.objs.size=none:=I.hok.fresh (z0g _);refine⟨.ref s.heap.objs.size,_,I.laid (t':=tk) (o:= .lst ((acD (j - i).toNat).map λ(k:Nat)=>V.int (i+(k:Int)))) hk (z0g _) ⟨?_,acc.toList,c',Uq hacc,by simpa using he⟩,rfl,q _ hf⟩;rw[z1g,z2d];exact z0b (by omega) (z0e eG)
theorem Rv{K:PySem.W.Frag}{O:acA->Prop}{H:Hp}{lo:Int}{n:Nat}:aO K O H (upto lo n) ((acD n).map λ(i:Nat)=>V.int (lo+(i:Int))):=by
 unfold upto
 generalize acD n=l
 induction l with
 |nil=>exact .nil
 |cons x l ih=>exact .cons (bN _) ih
def acu:List D->R D
 |[.int j]=>if 0<=j/\j<=1000 then .ok (.lst (upto 0 j.toNat)) else .bad
 |_=> .bad
def Rw:List D->R D
 |[.int i,.int j]=>if -1000<=i/\i<=1000/\-1000<=j/\j<=1000 then .ok (.lst (upto i (j - i).toNat)) else .bad
 |_=> .bad
theorem WX(hc:X.calm=true)(hg:Gl X "list")(hm:X.mg "list" =none)(hg2:Gl X "range")(hm2:X.mg "range" =none)(ha:DA X [a,b] fa)(hs2:acE [a,b] X.env=[(false,eval a X.env),(false,eval b X.env)]:=by rfl)(hs3:acE [b] X.env=[(false,eval b X.env)]:=by rfl)
  (he:acE [.Call (.Name "range" p) [a,b] [] pos] X.env=(false,eval (.Call (.Name "range" p) [a,b] [] pos) X.env)::acE [] X.env:=by rfl)(hpl:(adg pos2 (acE [] X.env)).any (·.1)=false:=by rfl):
  DE X (.Call (.Name "list" p2) [.Call (.Name "range" p) [a,b] [] pos] [] pos2) (aF Rw fa):=by
 refine PE.imp (pe_callTy (Ur hc) hg hm boot_list (pa_cons (Zb hg2 hm2 ha hs2 hs3) pa_nil he) (by decide) (by decide) he hpl) λσ H Q q=>?_;obtain⟨ρ,O,j,q⟩:=q;refine go j q λds vs H1 e1 s1 r1 j1 h1=>?_;unfold Rw at h1;split at h1
 ·rename_i i k;obtain⟨x,y,rfl,rx,ry⟩:=r1.two;by_cases hi: -1000<=i/\i<=1000/\-1000<=k/\k<=1000
  ·rw[if_pos hi] at h1;refine⟨i,k,by rw[rx.int,ry.int],λq hq=>⟨q,i,k,rfl,upd_same,hi.1,hi.2.1,hi.2.2.1,hi.2.2.2,λB hB=>?_⟩⟩;have s2:Same H1 (upd H1 q (.rng i k)):=Same.upd hq;exact h1 _ _ (s2.trans (Same.upd hB)) (Rep.mQ hB ((j1.same s2).uY hB) Rv)
  ·rw[if_neg hi] at h1;exact h1.elim
 ·exact h1.elim
end
end Pu
namespace Pu
open PySem PySem.Spec PySem.W L2
open PyProof.Rows hiding St
section
variable{prog:acL}{w:acQ}{A:acO}{s:acC}
def Yd(prog:acL)(w:acQ)(A:acO)(s:acC)(u v:acB)(b:Bool):Prop:=∀(Q:Bool->acC->Prop) (E:acB->acC->Prop),Q b s->acG (model prog w) A (eqBool u v) Q E s
def LtB(prog:acL)(w:acQ)(A:acO)(s:acC)(u v:acB)(b:Bool):Prop:=∀(Q:acB->acC->Prop) (E:acB->acC->Prop),Q (.bool b) s->acG (model prog w) A (ac1 .Lt u v) Q E s
inductive Lx (prog:acL) (w:acQ) (A:acO) (s:acC) (r:Bool):List acB->List acB->Prop
 |nil:r=false->Lx prog w A s r [] []
 |yes {u v xs ys}:Yd prog w A s u v true->Lx prog w A s r xs ys->Lx prog w A s r (u::xs) (v::ys)
 |no {u v xs ys}:Yd prog w A s u v false->LtB prog w A s u v r->Lx prog w A s r (u::xs) (v::ys)
theorem N7{E:acB->acC->Prop}{a b:acA}{oa ob:Obj}{xs ys:Array acB}{na nb:Nat}{r:Bool}{P:PySem.Fin->acC->Prop}(hoa:s.heap.get? a=some oa)(hda:oa.data= .seq xs na)(hob:s.heap.get? b=some ob)(hcb:ob.cls= .type "tuple")(hdb:ob.data= .seq ys nb)
  (hl:Lx prog w A s r xs.toList ys.toList)(hsz:xs.size=ys.size)(h:P (.done (.ret (.bool r))) s):
  acG (model prog w) A (ad1.«tuple.__lt__» ⟨[.ref a,.ref b],[]⟩) P E s:=by
 have hTb:s.TypeIs (.ref b) "tuple" :=⟨ob,hob,hcb⟩;show acG _ _ (isInstance (.ref b) (.type "tuple") >>=_) _ _ s;refine acz (afk hTb isSubtype_tuple_tuple ?_);simp only[afY,ac7,if_false];refine acz (afF hoa hda ?_);refine acz (afF hob hdb ?_);refine acz ?_;refine wpAny_forIn_list _
  (λrest q s'=>q.1=none/\s'=s/\∃xs' ys',rest=List.zip xs' ys'/\Lx prog w A s r xs' ys')
  _ ?_ ?_ _ _ ⟨rfl,rfl,xs.toList,ys.toList,rfl,hl⟩
 ·rintro⟨u,v⟩ rest q s' ⟨hr,rfl,xs',ys',hz,hx'⟩
  cases hx' with
  |nil _=>simp at hz
  | yes he hx''=>
   simp only[agC,ahr,ahA] at hz;obtain⟨⟨rfl,rfl⟩,rfl⟩:=hz;refine acz (he _ _ ?_);simp only[afY,ac7,if_false];exact acF ⟨rfl,rfl,_,_,rfl,hx''⟩
  | no he hlt=>
   simp only[agC,ahr,ahA] at hz;obtain⟨⟨rfl,rfl⟩,rfl⟩:=hz;refine acz (he _ _ ?_);simp only[Bool.not_false,if_true];refine acz (aej ?_);refine acz (m:=afV .Lt u v) (show acG _ _ (ac1 .Lt u v) _ _ _ from hlt _ _ ?_)
   first
    |exact acF (acF h)
    |exact acz (acF (acF (acF h)))
    |exact acz (acF (acF h))
 ·rintro⟨r1,r2⟩ s' ⟨hr,rfl,xs',ys',hz,hx'⟩
  simp only at hr;subst hr;refine acF ?_;have hfin:decide (xs.size<ys.size)=r:=by
   cases hx' with
   |nil e=>rw[e];exact decide_eq_false (by omega)
   |yes _ _=>simp at hz
   |no _ _=>simp at hz
  show P (.done (.ret (.bool (decide (xs.size<ys.size))))) s';rw[hfin];exact h
theorem Qf{i j:Int}{t u:Tok}{b:Bool}(e:(i ==j)=b):Yd prog w A s (.int i t) (.int j u) b:=λQ E h=>ag5 (by rw[e];exact h)
theorem Zc{i j:Int}{t u:Tok}:LtB prog w A s (.int i t) (.int j u) (decide (i<j)):=λQ E h=>lt_int h
end
section
variable{X:Cx}
end
end Pu
namespace Pu
open PySem PySem.Spec L2
open PyProof.Rows hiding St
section
variable{X:Cx}{pins:List (acA×Obj)}{σ:St}{H:Hp}{s:acC}
end
section
variable{X:Cx}{qual:Str}{params:aeO}{body:acI}{scope:aec}{xS:Str}{cc P fS:acA}{K5:adh}{Iw:List Str}{kS kG q:Nat}{FS:acA->(List D->R D)->List D->R D}{GG:List D->R D}{p p4 pos2 aaC:Pos}{e1 e2 e3:acI}{f1 f2 f3:ao->R D}
end
end Pu
namespace Pu
open PySem PySem.Spec PySem.W L2
open PyProof.Rows hiding St
def Kp(I S:acA)(h0 h:acP):Prop:=∀b o,b≠I->b≠S->h0.get? b=some o->h.get? b=some o
theorem J7:(toString "min" ++toString ".loop" :String)= "min.loop" :=by decide
section
variable{prog:acL}{w:acQ}{A:acO}{R:Result->acC->Prop}{I l S:acA}{its:Array acB}{h0:acP}{bt:Nat->Nat->Bool}
theorem G5(hh:A.handled=none)(hl:l≠I)(hS1:S≠I)(hS2:l≠S)
  (cmp:∀(s:acC) (i j:Nat) (vi vj:acB) (Q:acB->acC->Prop) (E:acB->acC->Prop),Kp I S h0 s.heap->its[i]?=some vi->its[j]?=some vj->Q (.bool (bt i j)) s->acG (model prog w) A.in1 (afV .Lt vi vj) Q E s):
  ∀(k j:Nat) (s:acC) (vb:acB) (c:Nat),its.size=j+1+k->s.heap.IsListIter I l (j+1)->s.heap.IsList l its->its[aes bt j]?=some vb->s.heap.get? S=some (adJ "list" #[vb,vb] c)->Kp I S h0 s.heap->
   (∀v h' tk,its[aes bt (its.size - 1)]?=some v->Kp I S h0 h'->R (.ok (.ret v)) {s with heap:=h',toks:=tk})->
   afr (model prog w) A (.builtin "min.loop" ⟨[.ref I,.none,.ref S],[]⟩) R s
 | 0,j,s,vb,c,hk,hit,hL,hb,hS,kp,hR=>by
  refine agl F.entry_min_loop ?_;rw[afl F.plain_min_loop];refine acz (m:=seqItems? (.ref S)) (ad7 hS rfl ?_);refine acz (ags (wpAny_pyNext_list_end (by simp[hh]) hit hL (Array.getElem?_eq_none (by omega)) λh' ex=>?_));have hS':=ex S _ hS1 hS;refine acz (m:=updateSeq S λ_=> #[]) (afz hS' rfl (acz (aez (acF ?_))));refine hR vb _ s.toks (by rw[show its.size - 1=j by omega];exact hb) λb o b1 b2 e=>?_;rw[adZ _ _ _ _ b2];exact ex b o b1 (kp b o b1 b2 e)
 | k +1,j,s,vb,c,hk,hit,hL,hb,hS,kp,hR=>by
  refine agl F.entry_min_loop ?_;rw[afl F.plain_min_loop];refine acz (m:=seqItems? (.ref S)) (ad7 hS rfl ?_);have hx:its[j+1]?=some (its[j+1]'(by omega)):=afA (by omega);refine acz (ags (afR hit hL hx λh' hit' sb=>?_));have hS':=(sb.2 S hS1).trans hS;have hL':=hL.extBut sb.extBut hl;have kp':Kp I S h0 h':=λb o b1 b2 e=>(sb.2 b b1).trans (kp b o b1 b2 e);refine acz (acF ?_);refine acz (ags (aev (acz (cmp _ (j+1) (aes bt j) _ vb _ _ kp' hx hb ?_))));refine acz (aev (adN (acz (aez (acF ?_)))));cases q:bt (j+1) (aes bt j) with
  | true=>
   simp only[if_true];refine acz (m:=updateSeq S λ_=>_) (afz hS' rfl (acz (aez ?_)));rw[J7];have g2:=ae4 hS' (λ_=> #[its[j+1]'(by omega),its[j+1]'(by omega)]);have up:∀b o,b≠S->h'.get? b=some o->(h'.update S (ady λ_=> #[its[j+1]'(by omega),its[j+1]'(by omega)])).get? b=some o:=λb o bs e=>by rw[adZ _ _ _ _ bs];exact e
   refine acF ⟨afZ F.plain_min_loop _,G5 hh hl hS1 hS2 cmp k (j+1) _ _ _ (by omega) (hit'.at λo e=>up I o (acN hS1) e) (hL'.at λo e=>up l o hS2 e) (by rw[aes,q,if_pos rfl];exact hx) g2 (λb o b1 b2 e=>up b o b2 (kp' b o b1 b2 e)) λv h2 tk hv k2=>hR v h2 tk hv k2⟩
  | false=>
   simp only[ac7,if_false];refine acz (aez ?_);rw[J7];exact acF ⟨afZ F.plain_min_loop _,G5 hh hl hS1 hS2 cmp k (j+1) _ vb c (by omega) hit' hL' (by rw[aes,q];exact hb) hS' kp' λv h2 tk hv k2=>hR v h2 tk hv k2⟩
end
section
variable{prog:acL}{w:acQ}{A:acO}{E:acB->acC->Prop}{s:acC}{l:acA}{its:Array acB}{bt:Nat->Nat->Bool}{Q:acB->acC->Prop}
theorem Zd(hh:A.handled=none)(hL:s.heap.IsList l its)(hn:0<its.size)
  (cmp:∀(s2:acC) (i j:Nat) (vi vj:acB) (Q:acB->acC->Prop) (E:acB->acC->Prop),(∀b o,s.heap.get? b=some o->s2.heap.get? b=some o)->its[i]?=some vi->its[j]?=some vj->Q (.bool (bt i j)) s2->acG (model prog w) A.in1 (afV .Lt vi vj) Q E s2)
  (h:∀v h' tk,its[aes bt (its.size - 1)]?=some v->(∀b o,s.heap.get? b=some o->h'.get? b=some o)->Q v {s with heap:=h',toks:=tk}):
  acG (model prog w) A (call (.builtin "min") [.ref l]) Q E s:=by
 obtain⟨ol,hol,hcl,nl,hdl⟩:=id hL;have ll:=z2c hol;refine call_function_tree F.kind_min F.plain_min F.entry_min (F.args_min1 _) ?_;refine acz (m:=Builtin.Builtins.bindParams "min" ["key","default"] 0 ⟨[],[]⟩) (aey (a:=[none,none]) rfl (acz (acF ?_)));refine acz (afO hL (acz (adt ?_)));rw[J7];have z1:(s.heap.push {cls:= .type "list_iterator",data:= .fields #[.ref l,.int 0 0]}).objs.size=s.heap.objs.size+1:=adE ..;have gI:(s.heap.push {cls:= .type "list_iterator",data:= .fields #[.ref l,.int 0 0]}).get? s.heap.objs.size=some {cls:= .type "list_iterator",data:= .fields #[.ref l,.int 0 0]}:=z1f _ rfl;have k1:∀b o,s.heap.get? b=some o->(s.heap.push {cls:= .type "list_iterator",data:= .fields #[.ref l,.int 0 0]}).get? b=some o:=λb o e=>z1a _ e
 generalize s.heap.push {cls:= .type "list_iterator",data:= .fields #[.ref l,.int 0 0]}=h1 at *
 have gS:(h1.push (adJ "list" #[] 0)).get? h1.objs.size=some (adJ "list" #[] 0):=z1f _ rfl;have k2:∀b o,h1.get? b=some o->(h1.push (adJ "list" #[] 0)).get? b=some o:=λb o e=>z1a _ e;show acG _ _ _ _ _ {s with heap:=h1.push (adJ "list" #[] 0)}
 generalize h1.push (adJ "list" #[] 0)=h2 at *
 have nS:h1.objs.size=s.heap.objs.size+1:=z1
 generalize h1.objs.size=S at *
 have n1:S≠s.heap.objs.size:=by rw[nS];exact Nat.succ_ne_self _
 have n2:l≠s.heap.objs.size:=ac2 ll;have n3:l≠S:=by rw[nS];exact ac2 (afQ ll)
 have old:∀b o,s.heap.get? b=some o->b≠s.heap.objs.size/\b≠S:=λb o e=>by have:=z2c e;exact⟨ac2 this,by rw[nS];exact ac2 (afQ this)⟩
 have hit:h2.IsListIter s.heap.objs.size l 0:=⟨_,k2 _ _ gI,rfl,rfl⟩;have hL2:h2.IsList l its:=hL.at λo e=>k2 _ _ (k1 _ _ e);refine acF ⟨afZ F.plain_min_loop _,agl F.entry_min_loop ?_⟩;rw[afl F.plain_min_loop];refine acz (m:=seqItems? (.ref S)) (ad7 gS rfl ?_);have hx:its[0]?=some its[0]:=afA hn;refine acz (ags (afR hit hL2 hx λh' hit' sb=>acz (acF ?_)));have hS':=(sb.2 S n1).trans gS;refine acz (m:=updateSeq S λ_=>_) (afz hS' rfl ?_);rw[J7];have g2:=ae4 hS' (λ_=> #[its[0],its[0]]);have up:∀b o,b≠S->h'.get? b=some o->(h'.update S (ady λ_=> #[its[0],its[0]])).get? b=some o:=λb o bs e=>by rw[adZ _ _ _ _ bs];exact e
 refine acF ⟨afZ F.plain_min_loop _,G5 (h0:=s.heap) (bt:=bt) hh n2 n1 n3 (λs2 i j vi vj Q E kp=>cmp s2 i j vi vj Q E λb o e=>kp b o (old b o e).1 (old b o e).2 e) (its.size - 1) 0 _ _ _ (by omega) (hit'.at λo e=>up _ o (acN n1) e) ((hL2.extBut sb.extBut n2).at λo e=>up l o n3 e) hx g2 (λb o b1 b2 e=>up b o b2 ((sb.2 b b1).trans (k2 _ _ (k1 _ _ e)))) λv h3 tk hv kp=>?_⟩;exact h v h3 tk hv λb o e=>kp b o (old b o e).1 (old b o e).2 e
end
def ju:List (List Int)->List Int
 |[]=>[]
 |a::r=>r.foldl (λm x=>if bC x m then x else m) a
theorem Eb(a:List Int)(r:List (List Int)):∀k:Nat,k<=r.length->(a::r).getD (aes (λi j=>bC ((a::r).getD i []) ((a::r).getD j [])) k) []=ju (a::r.take k)/\aes (λi j=>bC ((a::r).getD i []) ((a::r).getD j [])) k<=k
 |0,_=>by simp[aes,ju]
 | k +1,h=>by
  obtain⟨ih,hb⟩:=Eb a r k (Nat.le_of_succ_le h);have e1:r.take (k+1)=r.take k++[r.getD k []]:=by
   rw[List.take_add_one,afd,ad0 h];rfl
  have e2:ju (a::r.take (k+1))=if bC (r.getD k []) (ju (a::r.take k)) then r.getD k [] else ju (a::r.take k):=by
   rw[ju,e1,List.foldl_append];rfl
  rw[e2,<-ih];have e3:(a::r).getD (k+1) []=r.getD k []:=by simp[afd]
  have eA:aes (λi j=>bC ((a::r).getD i []) ((a::r).getD j [])) (k+1)=if bC (r.getD k []) ((a::r).getD (aes (λi j=>bC ((a::r).getD i []) ((a::r).getD j [])) k) []) then k+1 else aes (λi j=>bC ((a::r).getD i []) ((a::r).getD j [])) k:=by rw[<-e3];rfl
  rw[eA];by_cases q:bC (r.getD k []) ((a::r).getD (aes (λi j=>bC ((a::r).getD i []) ((a::r).getD j [])) k) [])=true
  ·rw[if_pos q,if_pos q];exact⟨e3,z0g _⟩
  ·rw[if_neg q,if_neg q];exact⟨rfl,agU hb⟩
theorem Us{ts:List (List Int)}(h:0<ts.length):ts.getD (aes (λi j=>bC (ts.getD i []) (ts.getD j [])) (ts.length - 1)) []=ju ts/\aes (λi j=>bC (ts.getD i []) (ts.getD j [])) (ts.length - 1)<ts.length:=by
 cases ts with
 |nil=>simp at h
 | cons a r=>
  have:=Eb a r r.length (z0g _);rw[List.take_length] at this;exact⟨this.1,Nat.lt_succ_of_le this.2⟩
section
variable{X:Cx}
end
end Pu
namespace Pu
open PySem PySem.Spec PySem.W L2
open PyProof.Rows hiding St
open PySem.SeqAt
section
variable{X:Cx}{e1 e2:acI}{f g:ao->R D}
end
end Pu
namespace Pu
open PySem PySem.Spec L2
open PyProof.Rows hiding St
section
variable{X:Cx}
end
section
variable{X:Cx}{e:acI}{f:ao->R D}{pos:Pos}
end
end Pu
namespace Pu
open PySem PySem.Spec PySem.W L2
open PyProof.Rows hiding St
section
variable{prog:acL}{w:acQ}{A:acO}{E:acB->acC->Prop}{s:acC}
end
section
variable{X:Cx}
end
end Pu
namespace Pu
open PySem PySem.Spec L2
open PyProof.Rows hiding St
def Rx(ts:List (acA×Str))(K:PySem.W.Frag)(n:Nat)(F:List D->R D):Sp:=λvs H Q E=>Tb ts H/\spX K n F vs H Q E
section
variable{P:acL}{w:acQ}{K:PySem.W.Frag}{mg:Str->Option acB}{base:acP}
theorem Lg{ts:List (acA×Str)}{x qual:Str}{st:acS}{f:acA}{fd:adh}{N ps:List Str}{k n m:Nat}{g:ao->So}(Fn:Fun K x qual st f fd)(S:FnScope N ps (defScope st))(hn:ps.length=n)(hm:N.length=n+m)
  (hb:∀(cdv:acB) (A:acO) (outer:List PySem.Env) (s:acC) (H:Hp) (E:XK),Room k (A.deeper (aeb qual (defScope st) s.heap.objs.size f cdv))->Tb ts H->jg (cxOf (PJ P w) P w K mg base N qual (defScope st) f cdv A outer s H E) (defBody st) g):
  FnOk P w K mg base (PJ P w) (k+1) f fd ps (Rx ts K n (bK m g)):=by
 obtain⟨oc,od,kV,doc,pm,an,cdv,ct,osl,rfl,lk,hcd⟩:=Fn.ex;refine fn_of lk hcd S (λvs H Q E h=>?_) λA outer s H vs Q E hr h=>?_
 ·obtain⟨_,O,ds,r,hl,_⟩:=h;rw[hn,<-hl,r.length]
 ·obtain ⟨hT,O,ds,r,hl,al,h⟩:=h;refine⟨_,hb cdv A outer s H E hr hT,H,O,O,ds.map (λd=>some (.val d))++acH m none,?_,?_⟩
  ·have hst:L2.start N vs=vs.map some++acH m none:=by
    unfold L2.start;rw[show N.length - vs.length=m by rw[<-r.length];omega]
   refine⟨Same.refl _,.refl,λ_ z=>z,⟨⟨λi e q=>?_,λi k e e' v _ hi _ oi=>?_,λi k rows a rs e v _ hi=>by obtain⟨_,_,_,h3⟩:=jk r m i _ hi;cases h3⟩,al,?_,?_⟩,λi e a q ho=>?_,λi rows a rs q=>by obtain⟨_,_,_,h3⟩:=jk r m i _ q;cases h3⟩
   ·obtain⟨v,h1,h2,_⟩:=jk r m i e q;exact⟨v,by rw[hst];exact h1,h2⟩
   ·obtain⟨_,_,_,h3⟩:=jk r m i e hi;rw[h3] at oi;cases oi
   ·show (L2.start N vs).length=N.length;rw[hst,z1d,z1g,adD,<-r.length];omega
   ·show (ds.map (λd=>some (Ent.val d))++acH m none).length=N.length;rw[z1d,z1g,adD];omega
   ·obtain⟨_,_,_,h3⟩:=jk r m i e q;rw[h3] at ho;cases ho
  ·unfold bK at h;cases e2:g (ds.map (λd=>some (.val d))++acH m none) with
   |rt d=>rw[e2] at h;exact λv H' s' r'=>h v H' s' r'
   |nx ρ'=>rw[e2] at h;exact λσ' H' O' j' _=>h .non H' j'.same mL
   |bk _=>rw[e2] at h;exact h.elim
   |ct _=>rw[e2] at h;exact h.elim
   |bad=>rw[e2] at h;exact h.elim
   | ex c ρ'=>
    rw[e2] at h;intro σ' H' O' j' H1 pins s1 a C T s2 H2 sm I hC rs;have J:Inv (cxOf (PJ P w) P w K mg base N qual (defScope st) f cdv A outer s H E) pins σ' H2 s2:=I.call' rs.os rs.un rs.hok rs.bare λb z=>absurd z (by simp);have lu:Kd P w (frs outer) H s a C T s2 H2:=Kd.from I rfl rs (j'.same.trans sm);refine Ug (b0:=base) (L:=s.heap.objs.size) (outer:=outer) J.ok.frames J.stack rfl rs.exc λh' t' ld=>?_;refine⟨a,C,some t',H2,rfl,h C H2 hC,?_⟩;have ne:∀b o,s.heap.get? b=some o->b≠a/\T≠some b:=λb o q=>⟨λz=>(by rw[z,lu.na] at q;cases q),λz=>(by rw[(lu.nt b z).1] at q;cases q)⟩;have nL:∀b o,s.heap.get? b=some o->b≠s.heap.objs.size:=λb o q=>ac2 (z2c q);have fr:∀b,b∈frs (aeb qual (defScope st) s.heap.objs.size f cdv::outer)->b=s.heap.objs.size\/b∈frs outer:=λb hb=>acR.mp hb;have fr':∀b,b∈frs outer->b∈frs (aeb qual (defScope st) s.heap.objs.size f cdv::outer):=λb hb=>z2f _ hb;have hfree:∀b,b∈frs (aeb qual (defScope st) s.heap.objs.size f cdv::outer)->H2 b=none:=J.stkFree;refine⟨lu.same,⟨λb o q n hb hx=>?_,λb o q n hb hx=>?_,lu.un.free,λb o q hx=>?_,lu.un.tups,lu.un.frzs,lu.un.tbls⟩,ld.hok lu.hok lu.ha (λt z=>(lu.nt t z).2) hfree,lu.os,lu.bare,ld.exc,lu.na,lu.ha,λt z=>?_⟩
    ·exact ld.keep b o (lu.un.keep b o q n hb hx) (ne b o q).1 (ne b o q).2 λz=>(fr b z).elim (nL b o q) hb
    ·obtain⟨sl,e⟩:=lu.un.slot b o q n hb hx;obtain⟨sl',e'⟩:=ld.slot b _ e (fr' b hb);exact⟨sl',e'⟩
    ·obtain⟨o',e⟩:=lu.un.there b o q hx;by_cases hb:b∈frs (aeb qual (defScope st) s.heap.objs.size f cdv::outer)
     ·obtain⟨sl',e'⟩:=ld.slot b _ e hb;exact⟨_,e'⟩
     ·exact⟨o',ld.keep b o' e (ne b o q).1 (ne b o q).2 hb⟩
    ·cases z;rcases ld.old with z |z
     ·exact lu.nt t' z
     ·refine⟨?_,BP lu.hok z⟩;cases q:s.heap.get? t' with
      |none=>rfl
      | some o=>
       obtain⟨o',e⟩:=lu.un.there t' o q (by simp);rw[z] at e;cases e
end
def Ca(P:acL)(w:acQ)(K:PySem.W.Frag)(mg:Str->Option acB)(base:acP)(k:Nat)(x:Str)(n:Nat)(F:List D->R D)(fd:adh)(ps:List Str)(ts:List (acA×Str)):Prop:=
 ∃f,FnOk P w K mg base (PJ P w) k f fd ps (Rx ts K n F)/\mg x=some (.ref f)/\PySem.W.keepIn K (.ref f)=true
def cX(F:List D->R D)(n m:Nat)(sel:List (Sum Nat D))(fa fk:ao->R (List D)):ao->R D:=λρ=>(fa ρ).bind λds=>(fk ρ).bind λzs=>if zs.length=m then okN F n (ds++pickK .non sel zs) else .bad
section
variable{X:Cx}{k m n:Nat}{f:acA}{fd:adh}{ps ks:List Str}{F:List D->R D}{x:Str}{p pos:Pos}{e:acI}{es:List acI}{kws:List aei}{fa fk:ao->R (List D)}{ts:List (acA×Str)}
theorem Ut(ok:FnOk X.prog X.w X.K X.mg X.base (PJ X.prog X.w) k f fd ps (Rx ts X.K n F))(hr:Room m X.A)(hkm:k<=m){pins:List (acA×Obj)}{σ:St}{H:Hp}{s:acC}{O:acA->Prop}{ρ:ao}{ds:List D}{vs:List V}{us:List acB}{pa:List acB}{kw:List (Str×acB)}{Q:VK}
  (I:Inv X pins σ H s)(hT:Tb ts H)(r1:aO X.K O H ds vs)(r:Vals vs us)(j:In X O H ρ σ)(hb:us.length=ps.length->afJ s fd ⟨pa,kw⟩ (ps.zip us))(h:good X (rD X) O (okN F n ds) σ H Q):acG (model X.prog X.w) X.A (PySem.call (.ref f) pa kw) (EP X pins σ Q) X.xe s:=by
 unfold okN at h;by_cases hl:ds.length=n
 ·rw[if_pos hl] at h;have sp:Rx ts X.K n F vs H Q λu _ _=>∃c C,F ds= .err c/\u= .ref C/\PySem.W.nsIn X.K acK c=some (some (.ref C)):=by
   refine⟨hT,O,ds,r1,hl,j.al,?_⟩;cases q:F ds with
   |ok d=>rw[q] at h;exact h
   |bad=>rw[q] at h;exact h
   |err c=>exact λC _ hC=>⟨c,C,rfl,rfl,hC⟩
  have hll:us.length=ps.length:=by rw[<-r.length];exact ok.len _ _ _ _ sp
  refine agf (aeB ((ok.mono hkm).run X.A X.stack s H ⟨pa,kw⟩ us vs Q _ hr I.env0 (hb hll) r sp) λr s' hq=>?_);cases r with
  | error ev=>
   obtain⟨a,C,T,H',rfl,hE,rs⟩:=hq;obtain⟨c,C',q,z,hC⟩:=hE;cases z;rw[q] at h;exact h H pins s a C T s' H' (Same.refl _) I hC rs
  | ok fl=>
   cases fl with
   |ret u=>exact I.after hq
   |next=>exact ac5 hq
   |brk=>exact ac5 hq
   |cont=>exact ac5 hq
 ·rw[if_neg hl] at h;exact h.elim
theorem Ze{sa sb sc}(S:Sel sa sb sc)(G:Ca X.prog X.w X.K X.mg X.base k x n F fd ps ts)(hT:Tb ts X.H₀)(hr:Room m X.A)(hkm:k<=m)(hb:KB X.K fd ps [] sa)
  (ha:DA X (e::es) fa)(hg:Gl X x:=by rfl)(hdb:(x ==("__debug__" :Str))=false:=by decide)(he:acE (e::es) X.env=(false,eval e X.env)::acE es X.env:=by rfl)(hpl:(adg pos (acE es X.env)).any (·.1)=false:=by rfl):
  DE X (.Call (.Name x p) (e::es) [] pos) (cX F n 0 sc fa (λ_=> .ok [])):=by
 obtain⟨f,ok,hm,hk⟩:=G;intro pins s σ H Q I h;obtain⟨ρ,O,j,h⟩:=h;refine ad4 (ld_glob I hg hm ?_ hdb);have key:tG X (uG X) fa σ H (λvs H1=>∃ds,Same H H1/\aO X.K O H1 ds vs/\In X O H1 ρ σ/\good X (rD X) O (okN F n (ds++pickK .non sc [])) σ H1 Q):=go j h λds vs H1 e1 s1 r1 j1 h1=>⟨ds,s1,r1,j1,h1⟩;refine PySem.W.callWith_K (h₀:=X.base) I.ok.mod.kin hk (thn (ha pos pins s σ H _ I key) λus s1 ⟨vs,H1,I1,r,q⟩=>⟨I1.kIn,?_⟩) he hpl;obtain⟨ds,sm,r1,j1,h1⟩:=q;exact Ut ok hr hkm I1 (hT.un I1.base) (r1.append (S.reps .nil)) (r.append (S.vals .nil)) j1 (λhl=>hb s1 us [] I1.kIn (by rw[z1d,sJ] at hl;exact hl) rfl) h1
theorem jo{sa sb sc}(S:Sel sa sb sc)(G:Ca X.prog X.w X.K X.mg X.base k x n F fd ps ts)(hT:Tb ts X.H₀)(hr:Room m X.A)(hkm:k<=m)(hb:KB X.K fd ps ks sa)
  (ha:DA X (e::es) fa)(hkw:DK X kws fk)(hg:Gl X x:=by rfl)(hall:(ad5 pos (adx kws X.env)).all (·.1.isSome)=true:=by rfl)(hks:(ad5 pos (adx kws X.env)).filterMap (·.1)=ks:=by rfl)
  (hdb:(x ==("__debug__" :Str))=false:=by decide)(he:acE (e::es) X.env=(false,eval e X.env)::acE es X.env:=by rfl)
  (hpl:((adg pos (acE (e::es) X.env)).any (·.1) || (ad5 pos (adx kws X.env)).any (·.1.isNone))=false:=by rfl):
  DE X (.Call (.Name x p) (e::es) kws pos) (cX F n ks.length sc fa fk):=by
 obtain⟨f,ok,hm,hk⟩:=G;intro pins s σ H Q I h;obtain⟨ρ,O,j,h⟩:=h;refine ad4 (ld_glob I hg hm ?_ hdb);have key:tG X (uG X) fa σ H λvs H1=>tG X (uG X) fk σ H1 λzs H2=>zs.length=ks.length/\∃dd,aO X.K O H2 dd (vs++pickK .non sb zs)/\In X O H2 ρ σ/\good X (rD X) O (okN F n dd) σ H2 Q:=by
  refine go j h λds vs H1 e1 s1 r1 j1 h1=>?_;refine go j1 h1 λzd zs H2 e2 s2 r2 j2 h2=>?_;by_cases hz:zd.length=ks.length
  ·rw[if_pos hz] at h2;exact⟨by rw[<-r2.length];exact hz,_,(r1.same s2).append (S.reps r2),j2,h2⟩
  ·rw[if_neg hz] at h2;exact h2.elim
 refine PySem.W.callWith_KW (h₀:=X.base) I.ok.mod.kin hk hall (thn (ha pos pins s σ H _ I key) λus s1 ⟨vs,H1,I1,r,q⟩=>?_) hpl he;refine thn (hkw pos pins s1 σ H1 _ I1 q) λws s2 ⟨zs,H2,I2,rz,q2⟩=>⟨I2.kIn,?_⟩;rw[hks];obtain⟨hz,dd,r1,j1,h1⟩:=q2;exact Ut ok hr hkm I2 (hT.un I2.base) r1 (r.append (S.vals rz)) j1 (λhl=>hb s2 us ws I2.kIn (by rw[z1d,sJ] at hl;exact hl) (by rw[<-rz.length];exact hz)) h1
theorem abH{K:PySem.W.Frag}(b:Binds K fd ps []):KB K fd ps [] []:=λs us ws i hl hw=>by
 cases ac4 hw;have:=b s us i (by rw[adp];exact hl);simpa[pickK] using this
end
section
variable{X:Cx}{tg a b c:acI}{p pos p2 pos2:Pos}{fa:ao->R (List D)}{ta:TA}
end
end Pu
namespace Pu
open PySem PySem.Spec PySem.W L2
open PyProof.Rows hiding St
open PySem.SeqAt
section
variable{X:Cx}{e1 e2:acI}{f g:ao->R D}
end
end Pu
namespace Pu
open PySem PySem.Spec L2
open PyProof.Rows hiding St
section
variable{X:Cx}
end
end Pu
namespace Pu
open PySem PySem.Spec PySem.W L2
open PyProof.Rows hiding St
section
variable{prog:acL}{w:acQ}{A:acO}{s:acC}
end
section
variable{X:Cx}
end
section
variable{X:Cx}
end
end Pu
namespace Pu
open PySem PySem.Spec L2
open PyProof.Rows hiding St
section
variable{X:Cx}
end
section
variable{K:PySem.W.Frag}{O O':acA->Prop}{H H':Hp}{rs:List acA}{ds:List D}
end
section
variable{X:Cx}
end
section
variable{P:acL}{w:acQ}{K:PySem.W.Frag}{mg:Str->Option acB}{base:acP}
end
section
variable{X:Cx}{c x y:Str}{C:acA}{np cpos pos p1 p2 p3 p4:Pos}{k1 k2:Nat}{a b:acI}{f g:ao->R D}
def WY(k:Int->R D):D->R D
 | .int i=>k i
 |_=> .bad
def fsV(x y:Str)(f g:ao->R D):ao->R D:=λρ=>(f ρ).bind (WY λi=>if i.natAbs.log2<1920 then (g ρ).bind (WY λj=>if j.natAbs.log2<1920 then .ok (.str (((agD++x++adb (toString i))++y)++adb (toString j))) else .bad) else .bad)
theorem qG{i:Int}(h:i.natAbs.log2<1920):(adb (toString i)).length<=1921:=by
 rw[PySem.ofString_length];exact int_text_length_le (by decide) h
theorem abI(ha:DE X a f)(hb:DE X b g)(hx:x.length<=1000:=by decide +kernel)(hy:y.length<=1000:=by decide +kernel):DE X (.JoinedStr [.Constant (.str x) k1 p1,.FormattedValue a (-1) none p2,.Constant (.str y) k2 p3,.FormattedValue b (-1) none p4] pos) (fsV x y f g):=by
 intro pins s σ H Q I h;obtain⟨ρ,O,j,h⟩:=h;refine wpAny_JoinedStr ?_;have key:tG X (rD X) f σ H (λv H1=>∃i,v= .int i/\i.natAbs.log2<1920/\tG X (rD X) g σ H1 (λu H2=>∃i',u= .int i'/\i'.natAbs.log2<1920/\Q (.str (((agD++x++adb (toString i))++y)++adb (toString i'))) H2)):=by
  refine go j h λdx v H1 e1 s1 r1 j1 h1=>?_;cases dx with
  | int i =>
   have h1:good X (rD X) O (if i.natAbs.log2<1920 then (g ρ).bind (WY λj=>if j.natAbs.log2<1920 then .ok (.str (((agD++x++adb (toString i))++y)++adb (toString j))) else .bad) else .bad) σ H1 Q:=h1;by_cases c:i.natAbs.log2<1920
   ·rw[if_pos c] at h1;refine⟨i,r1.int,c,go j1 h1 λdy u H2 e2 s2 r2 j2 h2=>?_⟩;cases dy with
    | int i'=>
     have h2:good X (rD X) O (if i'.natAbs.log2<1920 then .ok (.str (((agD++x++adb (toString i))++y)++adb (toString i'))) else .bad) σ H2 Q:=h2;by_cases c':i'.natAbs.log2<1920
     ·rw[if_pos c'] at h2;exact⟨i',r2.int,c',fin h2 (gq _)⟩
     ·rw[if_neg c'] at h2;exact h2.elim
    |_=>exact h2.elim
   ·rw[if_neg c] at h1;exact h1.elim
  |_=>exact h1.elim
 have L0:(agD++x).length=x.length:=by rw[aek];exact Nat.zero_add _
 refine ae2 ⟨x,_,rfl,by rw[L0,adv];omega,wpAny_FormattedValue_plain (thn (ha pins _ σ H _ (I.tok _) key) λv s1 bA=>?_)⟩;obtain⟨v',H1,I1,r1,i,e1,fact,q1⟩:=bA;subst e1;obtain⟨t1,rfl⟩:=r1;have l1:=qG fact;refine wpAny_formatField_int fact ⟨_,_,rfl,by rw[aek,L0,adv];omega,?_⟩;refine ae2 ⟨y,_,rfl,by rw[aek,aek,L0,adv];omega,wpAny_FormattedValue_plain (thn (hb pins _ σ H1 _ ((I1.tok _).tok _) q1) λu s2 bA=>?_)⟩;obtain⟨u',H2,I2,r2,i',e2,c,q2⟩:=bA;subst e2;obtain⟨t2,rfl⟩:=r2;have l2:=qG c;refine wpAny_formatField_int c ⟨_,_,rfl,by rw[aek,aek,aek,L0,adv];omega,?_,(.str (((agD++x++adb (toString i))++y)++adb (toString i'))),H2,((I2.tok _).tok _),⟨_,rfl⟩,q2⟩;rw[aek,aek,aek,L0,adv];omega
def Ye(fa:ao->R (List D))(c:Str):ao->So:=λρ=>match fa ρ with
 | .ok ds=>if ds.length<=1000000 then .ex c ρ else .bad
 |_=> .bad
theorem Uu{e:acI}{fa:ao->R (List D)}(hc:X.calm=true)(hx:X7 X.K X.mg c C)(ha:DA X [e] fa)(hg:Gl X c:=by rfl)(hdb:(c ==("__debug__" :Str))=false:=by decide)
  (he:acE [e] X.env=(false,eval e X.env)::acE [] X.env:=by rfl)(hpl:(adg cpos (acE [e] X.env)).any (·.1)=false:=by rfl):
  DS X (.Raise (some (.Call (.Name c np) [e] [] cpos)) none pos) (Ye fa c):=by
 intro pins s σ H E I h;obtain⟨H0,O0,O,ρ,j,h⟩:=h;obtain⟨bm,N,nm,qn,bs,hdct,sn,sub,ab,col,dd,k0,k1,k2,k3,k5,mN,o1,o2,o3,o4⟩:=Uh I.mod.kin hx.ex;obtain⟨ds,ef,dl,e0⟩:∃ds,fa ρ= .ok ds/\ds.length<=1000000/\Ye fa c ρ= .ex c ρ:=by
  unfold Ye at h |-;cases q:fa ρ with
  | ok ds=>
   rw[q] at h;by_cases l:ds.length<=1000000
   ·exact⟨ds,rfl,l,by simp only[if_pos l]⟩
   ·simp only[if_neg l] at h;exact h.elim
  |err z=>rw[q] at h;exact h.elim
  |bad=>rw[q] at h;exact h.elim
 rw[e0] at h;have key:tG X (uG X) fa σ H (λvs H1=>ds.length=vs.length/\Same H H1):=⟨ρ,O,j.inn,by rw[ef];exact λvs H1 s1 r1=>⟨r1.length,s1⟩⟩;refine wpAny_Raise_call_subU (C:=C) (nm:=nm) (q:=qn) (N:=N) (bs:=bs) (bm:=bm) (hdct:=hdct) (sn:=sn) (sub:=sub) (ab:=ab) (col:=col) (dd:=dd) (k0:=k0) (k1:=k1) (k2:=k2) (k3:=k3) (k5:=k5)
  PySem.F.excBase_ValueError (by rfl) PySem.F.excBase_ValueError (mN:=mN) (o4.hasType PySem.F.excBase_ValueError.hasBase) (I.ok.hd hc) hpl o3 (ld_glob I hg hx.mg ⟨rfl,?_⟩ hdb)
 have hA:=ha cpos pins s σ H _ I key;rw[he] at hA |-;refine afg (adQ hA (λus s1 ⟨vs,H1,I1,r,hl,sm⟩=>?_) λ_ _ z=>z);refine⟨rfl,?_,I1.bk _ _ o1,o2.keeps I1.bk,o4.keeps I1.bk,λh' ev hm=>?_⟩
 ·show us.length<=sizeLine;rw[<-r.length,<-hl];exact z0b dl dB
 ·obtain⟨t,ht,_,_⟩:=hm.there;exact h σ H1 O (j.grow sm) H1 pins s1 ev C none _ H1 (Same.refl _) I1 hx.ns ⟨Same.refl _,Un.kept hm.keeps,I1.hok.kept hm.keeps,rfl,I1.bare,⟨_,_,ht,rfl,rfl,rfl,rfl⟩,hm.new,BP I1.hok hm.new,λ_ z=>by cases z⟩
end
end Pu
namespace L2
open PySem PySem.Spec PyProof.Rows
section
variable{X:Cx}{pos:Pos}
def abJ(i j k:Nat)(ta:TA):TS:=λD σ H=>ta σ H λvs H1=>∃v w z,vs=[v,w,z]/\D.nx (((σ.set i (some v)).set j (some w)).set k (some z)) H1
theorem Zf{i j k:Nat}{x y z:Str}{a b c:acI}{ta:TA}{px py pz pt:Pos}{kt k2 pt2}(hc:X.calm=true)(hN:X.N.Nodup)(hi:X.N[i]?=some x)(hj:X.N[j]?=some y)(hk:X.N[k]?=some z)(hij:i≠j)(hik:i≠k)(hjk:j≠k)
  (hx:X.env.scope.names.lookup x=some .local)(hy:X.env.scope.names.lookup y=some .local)(hz:X.env.scope.names.lookup z=some .local)(ha:PA X [a,b,c] ta)
  (hw:aeI [.Tuple [.Name x px,.Name y py,.Name z pz] kt pt] (.Tuple [a,b,c] k2 pt2) X.env=pure (some [x,y,z]))
  (hs:aeH [.Tuple [.Name x px,.Name y py,.Name z pz] kt pt] (.Tuple [a,b,c] k2 pt2) pos.line X.env=pure false:=by rfl):
  PS X (.Assign [.Tuple [.Name x px,.Name y py,.Name z pz] kt pt] (.Tuple [a,b,c] k2 pt2) pos) (abJ i j k ta):=by
 intro pins s σ H D I h;rw[exec_Assign_arm];refine acz (agF ?_);rw[hs];refine acz (acF ?_);rw[if_neg (by decide)];refine acz (Tuple_ (thn (ha _ pins s σ H _ I h) λus s1 bA=>?_));obtain⟨vs,H1,I1,r1,q1⟩:=bA;obtain⟨v,w,t,e1,q1⟩:=q1;subst e1;obtain ⟨u1,u2,u3,rfl,rv,rw',rt⟩:∃u1 u2 u3,us=[u1,u2,u3]/\RelV v u1/\RelV w u2/\RelV t u3:=by
  cases r1 with
  | cons p q=>
   cases q with
   | cons p' q'=>
    cases q' with
    | cons p'' q''=>
     cases q'';exact⟨_,_,_,rfl,p,p',p''⟩
 refine adt ?_ (by show 3<=sizeLine;decide);have I2:Inv X pins σ H1 {s1 with heap:=s1.heap.push {cls:= .type "tuple",data:= .seq [u1,u2,u3].toArray}}:=I1.kept (t':=s1.toks) λb o e=>z1a _ e;rw[hw];refine acz (acF ?_);show acG (model X.prog X.w) X.A (do rule "assign.swapped-stores";let items <-unpackItems (.ref s1.heap.objs.size) 3 none;afW [λv=>afe X.env z v,λv=>afe X.env y v,λv=>afe X.env x v] items.reverse;pure Flow.next) _ _ _;refine acz (aej (acz (unpackItems_tuple (items:= #[u1,u2,u3]) (I.ok.hd hc) (IsTup.new s1.heap _) λh' hx'=>?_)));have I3:=I2.kept (h':=h') (t':=s1.toks) λb o e=>hx' b o (ac2 (z2c e)) e;show acG _ _ (afW [λv=>afe X.env z v,λv=>afe X.env y v,λv=>afe X.env x v] [u3,u2,u1] >>=λ_=>pure Flow.next) _ _ _;refine acz (aeA (afI (store_ok I3 hN hk (.inl hz) rt (λs2 I4=>?_) (.inr hz))));refine aeA (afI (store_ok I4 hN hj (.inl hy) rw' (λs3 I5=>?_) (.inr hy)));refine aeA (afI (store_ok I5 hN hi (.inl hx) rv (λs4 I6=>agP (acF ?_)) (.inr hx)));rw[afn _ _ (acN hij),afn _ _ (acN hik),afn _ _ (acN hjk)] at I6
 first
  |exact⟨_,H1,I6,q1⟩
  |(rw[afn _ _ hik] at I6;exact⟨_,H1,I6,q1⟩)
end
end L2
namespace Pu
open PySem PySem.Spec L2
open PyProof.Rows hiding St
section
variable{X:Cx}{a b c:acI}{f g u:ao->R D}{pos:Pos}
def Lh(i k l:Nat)(f g u:ao->R D):ao->So:=λρ=>gZ (f ρ) ρ λd=>gZ (g ρ) ρ λe=>gZ (u ρ) ρ λz=> .nx (((ρ.set i (some (.val d))).set k (some (.val e))).set l (some (.val z)))
theorem Zg(i k l:Nat){x y z:Str}{px py pz pt:Pos}{kt k2 pt2}(hc:X.calm=true)(hN:X.N.Nodup)(ha:DE X a f)(hb:DE X b g)(hd:DE X c u)(hi:X.N[i]?=some x:=by rfl)(hk:X.N[k]?=some y:=by rfl)(hl:X.N[l]?=some z:=by rfl)(hik:i≠k:=by decide)(hil:i≠l:=by decide)(hkl:k≠l:=by decide)
  (hx:X.env.scope.names.lookup x=some .local:=by rfl)(hy:X.env.scope.names.lookup y=some .local:=by rfl)(hz:X.env.scope.names.lookup z=some .local:=by rfl)
  (h1:acE [a,b,c] X.env=(false,eval a X.env)::acE [b,c] X.env:=by rfl)(h2:acE [b,c] X.env=(false,eval b X.env)::acE [c] X.env:=by rfl)(h3:acE [c] X.env=(false,eval c X.env)::acE [] X.env:=by rfl)
  (hw:aeI [.Tuple [.Name x px,.Name y py,.Name z pz] kt pt] (.Tuple [a,b,c] k2 pt2) X.env=pure (some [x,y,z]):=by rfl)
  (hs:aeH [.Tuple [.Name x px,.Name y py,.Name z pz] kt pt] (.Tuple [a,b,c] k2 pt2) pos.line X.env=pure false:=by rfl):
  DS X (.Assign [.Tuple [.Name x px,.Name y py,.Name z pz] kt pt] (.Tuple [a,b,c] k2 pt2) pos) (Lh i k l f g u):=by
 refine PS.imp (Zf hc hN hi hk hl hik hil hkl hx hy hz (pa_cons ha (pa_cons hb (pa_cons hd pa_nil h3) h2) h1) hw hs) λσ H E h=>?_;obtain⟨H0,O0,O,ρ,j,h⟩:=h;refine⟨ρ,O,j.inn,?_⟩;unfold Lh gZ at h;cases e1:f ρ with
 |bad=>rw[e1] at h;exact h
 |err c=>rw[e1] at h;exact h σ H O j
 | ok d=>
  rw[e1] at h;intro v H1 s1 rv;have j1:=j.grow s1;refine⟨ρ,O,j1.inn,?_⟩;cases e2:g ρ with
  |bad=>simp only[e2] at h;exact h
  |err c=>simp only[e2] at h;exact Aj.same (h σ H O j) s1
  | ok e=>
   simp only[e2] at h;intro w H2 s2 rw2;have j2:=j1.grow s2;refine⟨ρ,O,j2.inn,?_⟩;cases e3:u ρ with
   |bad=>simp only[e3] at h;exact h
   |err c=>simp only[e3] at h;exact Aj.same (h σ H O j) (s1.trans s2)
   | ok e'=>
    simp only[e3] at h;intro t H3 s3 rt;refine⟨v,w,t,rfl,?_⟩;exact h _ H3 O ((((j2.grow s3).set (z1b hi).1 ((rv.same s2).same s3)).set (z1b hk).1 (rw2.same s3)).set (z1b hl).1 rt) (((Same.dM s1).trans (Same.dM s2)).trans (Same.dM s3))
theorem Zh{ρ:ao}{i k l:Nat}{d e z:D}(e1:f ρ= .ok d)(e2:g ρ= .ok e)(e3:u ρ= .ok z):Lh i k l f g u ρ= .nx (((ρ.set i (some (.val d))).set k (some (.val e))).set l (some (.val z))):=by
 unfold Lh;rw[e1];simp only[gZ,e2,e3]
end
section
variable{X:Cx}{H0 H:Hp}{O0 O:acA->Prop}{ρ:ao}{σ:St}{sts:List acS}{g:ao->So}
end
section
variable{X:Cx}
end
section
variable{X:Cx}{pos:Pos}
end
section
variable{X:Cx}
end
section
variable{X:Cx}
abbrev ReT:=Hp->(acA->Prop)->Hp->D->V->Prop
abbrev aaE:=D->Nat->ao->Option ao
section
variable{R1 R2 R3:ReT}{p q r:aaE}{i k l:Nat}{f g u:ao->R D}{H0 H:Hp}{O0 O:acA->Prop}{ρ:ao}{σ:St}{E:Ends}
end
section
variable{R1 R2 R3:ReT}{p q r:aaE}{f g u:ao->R D}{a b c:acI}{pos:Pos}
end
end
section
variable{X:Cx}{pos:Pos}
end
end Pu
namespace PyProof.Rows
open PySem PySem.Spec
section
variable{prog:acL}{w:acQ}{A:acO}{E:acB->acC->Prop}{s:acC}
end
end PyProof.Rows
namespace Pu
open PySem PySem.Spec L2
open PyProof.Rows hiding St
section
variable{X:Cx}
end
end Pu
namespace PySem
open AutoSeq1 (wpAny_loadPart')
open MeetsSeq MeetsSeq2 SeqAt
end PySem
namespace Pu
open PySem PySem.Spec L2 PySem.SeqAt
open PyProof.Rows hiding St
section
variable{X:Cx}{e1 e2:acI}{f g:ao->R D}
end
end Pu
namespace Pu
open PySem PySem.Spec L2
open PyProof.Rows hiding St
section
variable{X:Cx}{es:List acI}{fa:ao->R (List D)}{pos:Pos}
end
section
variable{X:Cx}{a:acI}{p pos p2 pos2:Pos}{fa:ao->R (List D)}
end
section
variable{X:Cx}
theorem vB{n:Nat}(h:n<=1000):n<=sizeLine:=z0b h (by decide)
theorem Zi:OpR X (adu .Add) (λx y H Q=>∃a b:Str,x= .str a/\y= .str b/\a.length+b.length<=1000/\Q (.str (a++b)) H):=by
 intro pins s σ H x y v u Q I rx ry h;obtain⟨a,b,rfl,rfl,hl,q⟩:=h;obtain⟨t,rfl⟩:=rx;obtain⟨t',rfl⟩:=ry;exact PyProof.Rows.add_str (λt' tk=>⟨.str _,H,I.tok _,⟨_,rfl⟩,q⟩) (vB hl)
def lV:D->D->R D
 | .str a,.str b=>if a.length+b.length<=1000 then .ok (.str (a++b)) else .bad
 |x,y=>gR x y
theorem jq:gO X (adu .Add) lV:=by
 obtain⟨r0,o0,c0⟩:=d7 (X:=X);refine⟨_,OpR.or o0 Zi,λρ O σ H Q x y dx dy j0 rx ry h=>?_⟩;unfold lV at h;split at h
 ·rename_i a b;by_cases hl:a.length+b.length<=1000
  ·rw[if_pos hl] at h;exact .inr ⟨a,b,rx.str,ry.str,hl,fin h (gq _)⟩
  ·rw[if_neg hl] at h;exact h.elim
 ·exact .inl (c0 ρ O σ H Q x y dx dy j0 rx ry h)
def Itx(x:Str):It:=⟨λi _=>i<x.cps.size,λi H v H'=>H'=H/\∃c,x.cps[i]?=some c/\v= .str ⟨#[c]⟩,λi _=>x.cps.size<=i⟩
theorem Uv{P:acL}{w:acQ}{K:PySem.W.Frag}{tg:acI}(it:acA)(x:Str)(t:Tok):Turn P w K tg (Itx x) [it] it (λi h=>h.IsStrIter it "str_ascii_iterator" x t i) where
 mem:=by simp
 obj:=λi h st b hb=>by
  have e:b=it:=by simpa using hb
  subst e;obtain⟨o,ho,hc,hd⟩:=st;exact⟨o,ho,λv z=>by rw[hd] at z;cases z⟩
 keep:=λi h h' st k=>let⟨o,ho,r⟩:=st;⟨o,k it (by simp) o ho,r⟩
 item:=by
  intro X hP hw hK hc i pins s σ H E I hf st hg;subst hP hw hK;obtain⟨f0,f1,f2,f3,f4,f5⟩:=hf it (by simp);have W:=Walks.strAscii (prog:=X.prog) (w:=X.w) (I.ok.hd hc) it x t;refine W.item i s _ _ hg st λv h' tk hv st' kk=>?_;obtain⟨c,u,hc',rfl⟩:=hv;have I1:Inv X pins σ H {s with heap:=h',toks:=tk}:=I.turned (λb o hb e=>kk b o (by simpa using hb) e) f0 f1 f3 f4 f5;obtain⟨o,ho,hcl,hd⟩:=id st';exact⟨_,rfl,go_of (s:={s with heap:=h',toks:=tk}) (n:= "str_ascii_iterator") ho hcl hd (by decide) ⟨.str ⟨#[c]⟩,H,I1,⟨u,rfl⟩,⟨rfl,c,hc',rfl⟩,st',λb hb=>(hf b hb).1⟩⟩
 done:=by
  intro X hP hw hK hc i pins s σ H E I hf st hg;subst hP hw hK;obtain⟨f0,f1,f2,f3,f4,f5⟩:=hf it (by simp);exact wpAny_pyNext_ascii_end (I.ok.hd hc) st (by have:x.cps.size<=i:=hg;simp;omega) λh' eb=>⟨rfl,I.turned (t':=s.toks) (λb o hb e=>eb b o hb e) f0 f1 f3 f4 f5⟩
 self:=λ_ _ _ _ _ st h=>wpAny_pyIter_striter_ascii st h
def signs(x:Str):List D:=x.cps.toList.map λc=> .str ⟨#[c]⟩
theorem YR.text{K:PySem.W.Frag}{O:acA->Prop}{H:Hp}(x:Str):YR K O H (Itx x) (signs x):=by
 intro O' H' _ i;refine⟨λd e=>?_,λe=>?_⟩
 ·unfold signs at e;rw[z2b] at e;cases q:x.cps.toList[i]? with
  |none=>rw[q] at e;cases e
  | some c=>
   rw[q] at e;cases e;have hc:x.cps[i]?=some c:=by rw[<-aga];exact q
   refine⟨(ad6.mp hc).1,λy H2 z=>?_⟩;obtain⟨rfl,c',h1,rfl⟩:=z;rw[hc] at h1;cases h1;exact⟨Same.refl _,gq _⟩
 ·show x.cps.size<=i;unfold signs at e;simpa using e
def aci(tl:TE):TI:=λσ H R=>tl σ H λv H1=>∃x:Str,v= .str x/\x.cps.all (· < 128)=true/\R (Itx x) H1
theorem Zj{tg e:acI}{tl:TE}(he:PE X e tl):PI X tg e (aci tl):=by
 intro pins s σ H R I h;refine thn (he pins s σ H _ I h) λv s1 bA=>?_;obtain⟨x,H1,I1,r1,q1⟩:=bA;obtain⟨y,rfl,ha,q⟩:=q1;obtain⟨t,rfl⟩:=r1;refine afG ha ?_;refine⟨s1.heap.objs.size,[s1.heap.objs.size],_,_,H1,rfl,I1.kept (t':=s1.toks) λb o e=>z1a _ e,Uv _ y t,⟨_,z1f _ rfl,rfl,rfl⟩,λb hb=>?_,q⟩;have e:b=s1.heap.objs.size:=by simpa using hb
 subst e;exact I1.fpOk (z0g _) (I1.hok.fresh (z0g _))
def Li(f:ao->R D):ao->R (List D):=λρ=>(f ρ).bind λd=>match d with
 | .str x=>if x.cps.all (· < 128)=true then .ok (signs x) else .bad
 |_=> .bad
theorem Qg{tg e:acI}{f:ao->R D}(he:DE X e f):DI X tg e (Li f):=by
 refine PI.imp (Zj he) λσ H Q q=>?_;obtain⟨ρ,O,j,q⟩:=q;refine go j q λd v H1 e1 s1 r1 j1 h1=>?_;cases d with
 | str x=>
  have h1:good X (rIt X) O (if x.cps.all (· < 128)=true then .ok (signs x) else .bad) σ H1 Q:=h1;by_cases ha:x.cps.all (· < 128)=true
  ·rw[if_pos ha] at h1;exact⟨x,r1.str,ha,fin h1 (YR.text x)⟩
  ·rw[if_neg ha] at h1;exact h1.elim
 |_=>exact h1.elim
theorem Uw:MtR X "str.count" (λx xs H Q=>∃a b:Str,x= .str a/\xs=[.str b]/\Q (.int ((aef a b 0 a.length (a.length+1)).length:Nat)) H):=by
 intro pins s σ H x xs v us Q I rx rv h;obtain⟨a,b,rfl,rfl,q⟩:=h;obtain⟨t,rfl⟩:=rx;obtain⟨u,rfl,ru⟩:=rv.one;obtain⟨t',rfl⟩:=ru;refine call_gives PySem.F.slot_str_count (agX s a t) PySem.F.entry_str_count (PySem.F.args_str_count_2 _ _) (gives_str_count a b t t') ?_;exact⟨.int _,H,I.tok _,⟨_,rfl⟩,q⟩
def Lj(f g:ao->R D):ao->R D:=λρ=>(f ρ).bind λx=>match x with
 | .str a=>(g ρ).bind λy=>match y with
  | .str b=> .ok (.int ((aef a b 0 a.length (a.length+1)).length:Nat))
  |_=> .bad
 |_=> .bad
theorem sV{e1 e2:acI}{f g:ao->R D}{apos cpos:Pos}(h1:DE X e1 f)(h2:DE X e2 g)
  (hbase:afo e1 "count" X.env (eval e1 X.env)=eval e1 X.env:=by rfl)
  (hfew:((adg cpos (acE [e2] X.env)).all (λx=> !x.1) && (ad5 cpos (adx [] X.env)).all (λx=>x.1.isSome)
   && decide ([e2].length+([]:List aei).length+(if ([]:List aei).isEmpty then 0 else 1)<30))=true:=by rfl)
  (hline:(apos.endLine ==cpos.line)=true:=by rfl) (hs1:acE [e2] X.env=(false,eval e2 X.env)::acE [] X.env:=by rfl) (hplain:(adg cpos (acE [] X.env)).any (·.1)=false:=by rfl):
  DE X (.Call (.Attribute e1 "count" apos) [e2] [] cpos) (Lj f g):=by
 refine PE.imp (pe_bm PySem.F.plainAttrs_str PySem.F.slot_str_count PySem.F.type_str_count Uw h1 (pa_cons h2 pa_nil hs1) hbase hfew hline hs1 hplain) λσ H Q h=>?_;obtain⟨ρ,O,j,h⟩:=h;refine go j h λd v H1 e1 s1 r1 j1 h1=>?_;cases d with
 | str a=>
  obtain rfl:=r1.str;refine⟨rfl,?_⟩;refine go j1 h1 λdy y H2 e2 s2 r2 j2 h2=>?_;cases dy with
  | str b=>
   obtain rfl:=r2.str;exact⟨a,b,rfl,rfl,fin h2 (bN _)⟩
  |_=>exact h2.elim
 |_=>exact h1.elim
end
end Pu
namespace Pu
open PySem PySem.Spec PySem.W L2
open PyProof.Rows hiding St
variable{l l':Int}
def nats(x:Str):List Int:=x.cps.toList.map ae7
theorem vC:∀a b:List Nat,bC (a.map ae7) (b.map ae7)=decide (a<b)
 |[],[]=>rfl
 |[],_::_=>by simp[bC]
 |_::_,[]=>by simp[bC]
 | x ::a,y::b=>by
  rw[z1h,z1h,bC,vC a b];by_cases e:x=y
  ·subst e;simp[agb]
  ·have e1:¬ae7 x=ae7 y:=λz=>e (Int.ofNat.inj z);rw[if_neg e1];by_cases q:x<y
   ·have q1:ae7 x<ae7 y:=ahj.mpr q;simp[agb,q]
   ·have q1:¬ae7 x<ae7 y:=λz=>q (ahj.mp z);simp[agb,q,e]
def nj(h:acP)(a:acA)(l:Int)(x:Str):Prop:=∃(o:Obj) (n:Nat) (t u:Tok),h.get? a=some o/\o.cls= .type "tuple"/\o.data= .seq #[.int l t,.str x u] n
theorem nj.keeps{h h':acP}{a:acA}{x:Str}(z:nj h a l x)(k:∀b o,h.get? b=some o->o.cls= .type "tuple"->h'.get? b=some o):nj h' a l x:=
 let⟨o,n,t,u,h1,h2,r⟩:=z;⟨o,n,t,u,k _ _ h1 h2,h2,r⟩
def Ux(K:PySem.W.Frag)(H:Hp)(a:acA)(ns:List Int):Prop:=∃l x,ns=l::nats x/\SqT K H a [.int l,.str x]
section
variable{prog:acL}{w:acQ}{A:acO}{s:acC}
theorem aaF{E:acB->acC->Prop}{x y:acA}{p q:Str}{Q:Bool->acC->Prop}(hx:nj s.heap x l p)(hy:nj s.heap y l' q)(h:Q (bC (l::nats p) (l'::nats q)) s):
  acG (model prog w) A (keyLt' (tuples' true) (.ref x) (.ref y)) Q E s:=by
 obtain⟨o,n,t,u,h1,h2,h3⟩:=hx;obtain⟨o',n',t',u',g1,g2,g3⟩:=hy;refine kat_lt h1 h3 g1 g3 ?_;show KatLex prog w A true (decide (2<2)) Q [(.int l t,.int l' t'),(.str p u,.str q u')] 0 s;rw[bC] at h;refine kat_cons (afD l t l' t' prog w _ _ ?_);by_cases e1:l=l'
 ·rw[if_pos e1] at h;rw[show (l ==l')=true by simpa using e1];refine kat_yes (kat_cons (ag6 ?_));by_cases e3:p=q
  ·rw[e3,iQ] at h;rw[decide_eq_true e3];exact kat_yes (kat_nil (by simpa using h))
  ·rw[decide_eq_false e3];refine kat_no ?_;show acG (model prog w) A (oneLt' false _ _) Q _ s;refine kat_one _ _ (lt_str ?_);rw[nats,nats,vC] at h;exact h
 ·rw[if_neg e1] at h;rw[show (l ==l')=false by simpa using e1];refine kat_no ?_;show acG (model prog w) A (keyLt' oneType' (.int l t) (.int l' t')) Q _ s;exact kat_lt_int h
theorem abK{x y:acA}{p q:Str}(hx:nj s.heap x l p)(hy:nj s.heap y l' q):∃(oa ob:Obj) (xs ys:Array acB) (na nb:Nat),s.heap.get? x=some oa/\oa.cls= .type "tuple"/\oa.data= .seq xs na/\s.heap.get? y=some ob/\ob.cls= .type "tuple"/\ob.data= .seq ys nb/\xs.size=ys.size/\Lx prog w A s (bC (l::nats p) (l'::nats q)) xs.toList ys.toList:=by
 obtain⟨o,n,t,u,h1,h2,h3⟩:=hx;obtain⟨o',n',t',u',g1,g2,g3⟩:=hy;refine⟨o,o',_,_,n,n',h1,h2,h3,g1,g2,g3,rfl,?_⟩;show Lx prog w A s _ [.int l t,.str p u] [.int l' t',.str q u'];rw[bC];by_cases e1:l=l'
 ·rw[if_pos e1];refine .yes (Qf (by simpa using e1)) ?_;have eq:Yd prog w A s (.str p u) (.str q u') (decide (p=q)):=λQ E h=>ag6 h;by_cases e3:p=q
  ·rw[decide_eq_true e3] at eq;exact .yes eq (.nil (by rw[e3];exact iQ _))
  ·rw[decide_eq_false e3] at eq;exact .no eq λQ E h=>lt_str (by rw[nats,nats,vC] at h;exact h)
 ·rw[if_neg e1];exact .no (Qf (by simpa using e1)) Zc
theorem aaG{E:acB->acC->Prop}{a b:acA}{p q:Str}{Q:acB->acC->Prop}(hu:A.units+2<aed)(hx:nj s.heap a l p)(hy:nj s.heap b l' q)(h:Q (.bool (bC (l::nats p) (l'::nats q))) s):acG (model prog w) A (afV .Lt (.ref a) (.ref b)) Q E s:=by
 obtain⟨oa,n,t,u,h1,h2,_⟩:=id hx;obtain⟨ob,n',t',u',g1,g2,_⟩:=id hy;refine wpAny_richCompare_same_room (op:= .Lt) ⟨oa,h1,h2⟩ ⟨ob,g1,g2⟩ PySem.F.slot_tuple_lt
   (adi PySem.F.slot_tuple_lt ⟨oa,h1,h2⟩ PySem.F.entry_tuple_lt (by
    obtain⟨oa,ob,xs,ys,na,nb,k1,k2,k3,k4,k5,k6,k7,k8⟩:=abK (prog:=prog) (w:=w) (A:=A.in1) hx hy;exact N7 k1 k3 k4 k5 k6 k8 k7 ⟨_,rfl,(λe=>nomatch e),h⟩) (PySem.F.args_tuple_lt_2 _ _)) (by omega)
end
theorem Uy{h:acP}:∀(as:List acA),(∀a∈as,∃l x,nj h a l x)->∃fs,KatTups h (as.map acM) fs/\fs.length=as.length/\∀f∈fs,∃k t,f=agy k t
 |[],_=>⟨[],.nil,rfl,λf hf=>by simp at hf⟩
 | a::as,hx=>by
  obtain⟨l,x,o,n,t,u,h1,h2,h3⟩:=hx a acT;obtain⟨fs,k1,k2,k3⟩:=Uy as λb hb=>hx b (z2f _ hb);refine⟨.int l t::fs,KatTups.cons h1 h2 h3 rfl k1,by simp[k2],λf hf=>?_⟩;rcases acR.mp hf with z |z
  ·exact⟨l,t,z⟩
  ·exact k3 f z
section
variable{X:Cx}
theorem Yg{pins:List (acA×Obj)}{σ:St}{H:Hp}{s:acC}{a:acA}{ns:List Int}(I:Inv X pins σ H s)(h:Ux X.K H a ns):∃l x,ns=l::nats x/\nj s.heap a l x:=by
 obtain⟨l,x,rfl,h1⟩:=h;obtain⟨its,r1,⟨o,ho,hc,n,hd⟩,_⟩:=I.tuple h1;refine⟨l,x,rfl,?_⟩;cases r1 with
 | cons a1 r1=>
  cases r1 with
  | cons a2 r1=>
   cases r1;obtain⟨t,rfl⟩:=a1;obtain⟨u,rfl⟩:=a2;exact⟨o,n,t,u,ho,hc,hd⟩
theorem Uz(hc:X.calm=true)(hu:X.A.units+4<aed):CallR X (.builtin "min") (λxs H Q=>∃(p:acA) (as:List acA) (ts:List (List Int)),xs=[.ref p]/\SqL X.K H p (as.map V.ref)/\as.length=ts.length/\0<ts.length/\(∀(i:Nat) b t,as[i]?=some b->ts[i]?=some t->Ux X.K H b t)/\
  ∀(k:Nat) (b:acA),as[k]?=some b->ts[k]?=some (ju ts)->Q (.ref b) H):=by
 intro pins s σ H xs us Q I r h;obtain⟨p,as,ts,rfl,hq,hl,hn,ht,q⟩:=h;obtain⟨u,rfl,rx⟩:=vals1 r;cases rx;obtain⟨its,rv,pl,hz⟩:=I.list hq;have hits:its=as.map acM:=by
  have:∀(as:List acA) (its:List acB),Vals (as.map V.ref) its->its=as.map acM:=by
   intro as
   induction as with
   |nil=>intro its r;cases r;rfl
   |cons b as ih=>intro its r;cases r with |cons r1 r2=>cases r1;rw[ih _ r2];rfl
  exact this as its rv
 subst hits;have sz:(as.map acM).toArray.size=ts.length:=by simp[hl]
 obtain⟨b1,b2⟩:=Us hn;refine Zd (bt:=λi j=>bC (ts.getD i []) (ts.getD j [])) (I.ok.hd hc) pl.isList (by rw[sz];exact hn) (λs2 i j vi vj Q' E' kp e1 e2 hQ=>?_) λv h' tk hv kp=>?_
 ·have at':∀{i:Nat} {v:acB},(as.map acM).toArray[i]?=some v->∃(b:acA) (l:Int) (x:Str),v= .ref b/\nj s.heap b l x/\ts.getD i []=l::nats x:=λ{i v} e=>by
   rw[List.getElem?_toArray,z2b] at e;cases z:as[i]? with
   |none=>rw[z] at e;cases e
   | some b=>
    rw[z] at e;cases e;have hi:i<ts.length:=by rw[<-hl];exact (z1b z).1
    obtain⟨l,x,e1,e2⟩:=Yg I (ht i b ts[i] z (by simp[hi]));exact⟨b,l,x,rfl,e2,by simp[hi,e1]⟩
  obtain⟨b,l,x,rfl,t1,e3⟩:=at' e1;obtain⟨b',l',x',rfl,t2,e4⟩:=at' e2;refine aaG ?_ (t1.keeps λd o hd _=>kp d o hd) (t2.keeps λd o hd _=>kp d o hd) ?_
  ·first |(simp;omega) |(show X.A.units+_<aed;omega)
  ·rw[<-e3,<-e4];exact hQ
 ·rw[sz,List.getElem?_toArray,z2b] at hv;cases z:as[aes (λi j=>bC (ts.getD i []) (ts.getD j [])) (ts.length - 1)]? with
  |none=>rw[z] at hv;cases hv
  | some b=>
   rw[z] at hv;cases hv;refine⟨.ref b,H,I.kept kp,rfl,q _ b z ?_⟩;rw[<-b1,List.getD_eq_getElem?_getD,ad0 b2];rfl
end
def lA:List Int->D
 |l::ns=> .tup [.int l,.str ⟨(ns.map Int.toNat).toArray⟩]
 |_=> .non
def Cd:D->Option (List Int)
 | .tup [.int l,.str x]=>some (l::nats x)
 |_=>none
def gM:List D->Option (List (List Int))
 |[]=>some []
 | d::ds=>match Cd d,gM ds with
  |some t,some ts=>some (t::ts)
  |_,_=>none
theorem aaH(x:Str):(⟨((nats x).map Int.toNat).toArray⟩:Str)=x:=by
 obtain⟨a⟩:=x;simp[nats,ac8,Function.comp_def]
theorem G6(l:Int)(x:Str):lA (l::nats x)= .tup [.int l,.str x]:=by rw[lA,aaH]
def acr:List D->R D
 | [.lst ds]=>match gM ds with
  |some ts=>if ts.length<64/\ts.Nodup then .ok (.lst ((d8 ts).map lA)) else .bad
  |none=> .bad
 |_=> .bad
def Ec:List D->R D
 | [.lst ds]=>match gM ds with
  |some ts=>if 0<ts.length then .ok (lA (ju ts)) else .bad
  |none=> .bad
 |_=> .bad
section
variable{K:PySem.W.Frag}{O:acA->Prop}{H:Hp}
theorem aaI{d:D}{v:V}{t:List Int}(e:Cd d=some t)(r:Rep K O H d v):∃b,v= .ref b/\Ux K H b t/\Rep K O H (lA t) v:=by
 unfold Cd at e;split at e
 ·rename_i l x;cases e;rw[G6];obtain⟨a,xs,rfl,hq,rs⟩:=id r.tup;obtain⟨v1,v2,rfl,r1,r2⟩:=rs.two;have r1:=r1.int;have r2:=r2.str;subst r1 r2;exact⟨a,rfl,⟨l,x,rfl,hq⟩,r⟩
 ·cases e
theorem G7:∀{ds:List D} {vs:List V} {ts:List (List Int)},gM ds=some ts->aO K O H ds vs->∃as:List acA,vs=as.map V.ref/\as.length=ts.length/\∀(i:Nat) b t,as[i]?=some b->ts[i]?=some t->Ux K H b t/\Rep K O H (lA t) (.ref b)
 | [],vs,ts,e,r=>by
  cases e;exact⟨[],r.nil_inv,rfl,λi b t h=>by simp at h⟩
 | d ::ds,vs,ts,e,r=>by
  obtain⟨x,r',rfl,h1,h2⟩:=r.cons_inv;unfold gM at e;split at e
  ·rename_i t ts' e1 e2;cases e;obtain⟨b,rfl,h3,h4⟩:=aaI e1 h1;obtain⟨as,rfl,h5,h6⟩:=G7 e2 h2;refine⟨b::as,rfl,by simp[h5],λi b' t' eb et=>?_⟩;cases i with
   |zero=>simp at eb et;subst eb et;exact⟨h3,h4⟩
   |succ i=>exact h6 i b' t' (by simpa using eb) (by simpa using et)
  ·cases e
end
section
variable{X:Cx}
theorem Zk(hc:X.calm=true)(hu:X.A.units+4<aed):CallD X (.builtin "min") Ec:=by
 refine⟨_,Uz hc hu,λρ O σ H Q xs ds j r h=>?_⟩;unfold Ec at h;split at h
 ·rename_i ds;obtain⟨x,rfl,rx⟩:=r.one;obtain⟨a,ys,rfl,hq,_,rs⟩:=rx.lst;cases e:gM ds with
  |none=>rw[e] at h;exact h.elim
  | some ts=>
   rw[e] at h;have h:good X (rD X) O (if 0<ts.length then .ok (lA (ju ts)) else .bad) σ H Q:=h;by_cases hp:0<ts.length
   ·rw[if_pos hp] at h;obtain⟨as,rfl,hl,ha⟩:=G7 e rs;exact⟨a,as,ts,rfl,hq,hl,hp,λi b t e1 e2=>(ha i b t e1 e2).1,λk b e1 e2=>h _ _ (Same.refl _) (ha k b _ e1 e2).2⟩
   ·rw[if_neg hp] at h;exact h.elim
 ·exact h.elim
end
section
variable{X:Cx}
theorem W0:OpR X (adu .Mult) (λx y H Q=>∃(z:Str),x= .str z/\y= .int 0/\Q (.str ⟨#[]⟩) H):=by
 intro pins s σ H x y v u Q I rx ry h;obtain⟨z,rfl,rfl,q⟩:=h;obtain⟨t,rfl⟩:=rx;obtain⟨t',rfl⟩:=ry;exact P.mul_str_none (by decide) (by decide) ⟨.str _,H,I.tok _,⟨_,rfl⟩,q⟩
def Ce:D->D->R D
 | .str z,.int k=>if k=0 then .ok (.str ⟨#[]⟩) else Wt (.str z) (.int k)
 |x,y=>Wt x y
theorem zZ:gO X (adu .Mult) Ce:=by
 obtain⟨r0,o0,c0⟩:=YS (X:=X);refine⟨_,OpR.or o0 W0,λρ O σ H Q x y dx dy j0 rx ry h=>?_⟩;unfold Ce at h;split at h
 ·rename_i z k;by_cases hk:k=0
  ·rw[if_pos hk] at h;exact .inr ⟨z,rx.str,by rw[ry.int,hk],fin h (gq _)⟩
  ·rw[if_neg hk] at h;exact .inl (c0 ρ O σ H Q x y _ _ j0 rx ry h)
 ·exact .inl (c0 ρ O σ H Q x y _ _ j0 rx ry h)
end
theorem aaJ{A:acO}{k:Nat}(hr:Room k A):A.units+4<aed:=by have:=hr.un;omega
theorem Zm{X:Cx}{b:List acS}:jg X b (λ_=> .bad):=λpins s σ H Q I q=>by
 obtain⟨H0,O0,O,ρ,j,h⟩:=q;exact h.elim
end Pu
namespace Pu
open PySem PySem.Spec L2
open PyProof.Rows hiding St
variable{it:acA}{t:Tok}{Q:acB->acC->Prop}
section
variable{X:Cx}
theorem aaK:OpR X (ac1 .Lt) (λx y H Q=>∃a b:Str,x= .str a/\y= .str b/\Q (.bl (bC (nats a) (nats b))) H):=by
 intro pins s σ H x y v u Q I rx ry h;obtain⟨a,b,rfl,rfl,q⟩:=h;obtain⟨t,rfl⟩:=rx;obtain⟨t',rfl⟩:=ry;refine lt_str ?_;rw[nats,nats,vC] at q;exact⟨.bl _,H,I,rfl,q⟩
def ltS:D->D->R D
 | .str a,.str b=> .ok (.bl (bC (nats a) (nats b)))
 |x,y=>ltI x y
theorem aaL:gO X (ac1 .Lt) ltS:=by
 obtain⟨r0,o0,c0⟩:=uZ (X:=X);refine⟨_,OpR.or o0 aaK,λρ O σ H Q x y dx dy j0 rx ry h=>?_⟩;unfold ltS at h;split at h
 ·rename_i a b;exact .inr ⟨a,b,rx.str,ry.str,fin h (fM _)⟩
 ·exact .inl (c0 ρ O σ H Q x y dx dy j0 rx ry h)
theorem UG:CallR X (.builtin "len") (λxs H Q=>∃a:Str,xs=[.str a]/\a.length<=1000000/\Q (.int a.length) H):=by
 intro pins s σ H xs us Q I r h;obtain⟨a,rfl,hl,q⟩:=h;obtain⟨u,rfl,rx⟩:=vals1 r;obtain⟨t,rfl⟩:=rx;exact PyProof.Rows.len_str (by omega) ⟨.int _,H,I.tok _,⟨_,rfl⟩,q⟩
def W2:List D->R D
 |[.str a]=>if a.length<=1000000 then .ok (.int a.length) else .bad
 |ds=>cg ds
theorem Zn:CallD X (.builtin "len") W2:=by
 obtain⟨r0,o0,c0⟩:=cB (X:=X);refine⟨_,CallR.or o0 UG,λρ O σ H Q xs ds j r h=>?_⟩;unfold W2 at h;split at h
 ·rename_i a;obtain⟨x,rfl,rx⟩:=r.one;by_cases hl:a.length<=1000000
  ·rw[if_pos hl] at h;exact .inr ⟨a,by rw[rx.str],hl,fin h (bN _)⟩
  ·rw[if_neg hl] at h;exact h.elim
 ·exact .inl (c0 ρ O σ H Q xs _ j r h)
def nq(x:Str)(lo hi:Option Int):Str:=if ((1:Int) ==1 && (aeh lo hi 1 x.length).length ==x.length)=true then x else⟨((aeh lo hi 1 x.length).filterMap (x.cps[·]?)).toArray⟩
theorem aaM:SlR X (λx lo hi H Q=>∃a:Str,x= .str a/\(nq a lo hi).length<=1000/\Q (.str (nq a lo hi)) H):=by
 intro pins s σ H x v vl vu lo hi sl Q I rx hs pl pu h;obtain⟨a,rfl,hl,q⟩:=h;obtain⟨t,rfl⟩:=rx;have part:∀{v:acB} {o:Option Int},afT v o->∃p:Option (Int×Tok),v=partValue p/\p.map (·.1)=o:=λh=>by
  cases h with
  |none=>exact⟨none,rfl,rfl⟩
  |int i t=>exact⟨some (i,t),rfl,rfl⟩
 obtain⟨l,rfl,rfl⟩:=part pl;obtain⟨u,rfl,rfl⟩:=part pu;refine⟨"str",_,PySem.F.slot_str_getitem.lookup,agX _ _ _,wpAny_getItem_str_slice (l:=l) (u:=u) (st:=none) hs rfl ?_⟩;unfold nq at hl q;unfold sliceMade slicePicked;show (if ((1:Int) ==1 && (aeh (l.map (·.1)) (u.map (·.1)) 1 a.length).length ==a.length)=true then Made.val (.str a t) else Made.str ⟨((aeh (l.map (·.1)) (u.map (·.1)) 1 a.length).filterMap (a.cps[·]?)).toArray⟩).post _ s;by_cases c:((1:Int) ==1 && (aeh (l.map (·.1)) (u.map (·.1)) 1 a.length).length ==a.length)=true
 ·rw[if_pos c] at q |-;exact⟨.str a,H,I,⟨t,rfl⟩,q⟩
 ·rw[if_neg c] at q hl |-;exact⟨vB hl,⟨.str _,H,I.tok _,⟨_,rfl⟩,q⟩⟩
def Zo:D->Option Int->Option Int->R D
 | .str a,lo,hi=>if (nq a lo hi).length<=1000 then .ok (.str (nq a lo hi)) else .bad
 |_,_,_=> .bad
def G8(f:ao->R D)(fl fu:ao->R (Option Int)):ao->R D:=λρ=>(f ρ).bind λd=>(fl ρ).bind λl=>(fu ρ).bind λu=>Zo d l u
variable{e:acI}{f:ao->R D}{fl fu:ao->R (Option Int)}{p2 pos:Pos}
theorem UJ{lo hi:Option acI}(he:DE X e f)(hl:Im X lo fl)(hu:Im X hi fu):DE X (.Subscript e (.Slice lo hi none p2) pos) (G8 f fl fu):=by
 refine PE.imp (pe_slice aaM he hl hu) λσ H Q h=>?_;obtain⟨ρ,O,j,h⟩:=h;refine go j h λd v H1 e1 s1 r1 j1 h1=>?_;refine go j1 h1 λl l' H2 e2 s2 r2 j2 h2=>?_;refine go j2 h2 λu u' H3 e3 s3 r3 j3 h3=>?_;have r2:l=l':=r2;have r3:u=u':=r3;subst r2 r3;cases d with
 | str a=>
  have h3:good X (rD X) O (if (nq a l u).length<=1000 then .ok (.str (nq a l u)) else .bad) σ H3 Q:=h3;by_cases hc:(nq a l u).length<=1000
  ·rw[if_pos hc] at h3;exact⟨a,r1.str,hc,fin h3 (gq _)⟩
  ·rw[if_neg hc] at h3;exact h3.elim
 |_=>exact h3.elim
end
theorem IW:∀{texts:List Str} {its:List acB},Vals (texts.map V.str) its->∃l:List (Str×Tok),its=strValues l/\l.map (·.1)=texts
 |[],_,r=>by cases r;exact⟨[],rfl,rfl⟩
 | x ::texts,_,r=>by
  cases r with
  | cons h t=>
   obtain⟨tk,rfl⟩:=h;obtain⟨l,rfl,e⟩:=IW t;exact⟨(x,tk)::l,rfl,by rw[z1h,e]⟩
def strsOf:List D->Option (List Str)
 |[]=>some []
 | .str x::ds=>(strsOf ds).map (x:: ·)
 |_::_=>none
theorem Ja{K:PySem.W.Frag}{O:acA->Prop}{H:Hp}:∀{ds:List D} {ss:List Str} {vs:List V},strsOf ds=some ss->aO K O H ds vs->vs=ss.map V.str
 |[],ss,vs,e,r=>by cases e;exact r.nil_inv
 | d ::ds,ss,vs,e,r=>by
  obtain⟨x,t,rfl,h1,h2⟩:=r.cons_inv;cases d with
  | str i=>
   have e:(strsOf ds).map (i:: ·)=some ss:=e;cases q:strsOf ds with
   |none=>rw[q] at e;cases e
   |some l=>rw[q] at e;cases e;rw[h1.str,Ja q h2];rfl
  |_=>cases e
section
variable{X:Cx}
theorem W3:MtR X "str.join" (λx xs H Q=>∃(a:Str) (l:acA) (texts:List Str),x= .str a/\xs=[.ref l]/\SqL X.K H l (texts.map V.str)/\texts.toArray.foldl (· + ·.length+a.length) 0<=1000/\Q (.str (Txt.join a texts)) H):=by
 intro pins s σ H x xs v us Q I rx rv h;obtain⟨a,l,texts,rfl,rfl,hq,hl,q⟩:=h;obtain⟨t,rfl⟩:=rx;obtain⟨u,rfl,ru⟩:=rv.one;cases ru;obtain⟨its,r',pl,hz⟩:=I.list hq;obtain⟨ls,rfl,e⟩:=IW r';refine SC.join pl.isList e ?_ λt' k=>⟨.str _,H,I.tok _,⟨_,rfl⟩,q⟩;unfold JoinOk Builtin.Str.tooLong;rw[agR,decide_eq_false_iff_not];have:=vB hl;omega
def J8(f g:ao->R D):ao->R D:=λρ=>(f ρ).bind λx=>match x with
 | .str a=>(g ρ).bind λy=>match y with
  | .lst ds=>match strsOf ds with
   |some ss=>if ss.toArray.foldl (· + ·.length+a.length) 0<=1000 then .ok (.str (Txt.join a ss)) else .bad
   |none=> .bad
  |_=> .bad
 |_=> .bad
theorem W4{e1 e2:acI}{f g:ao->R D}{apos cpos:Pos}(h1:DE X e1 f)(h2:DE X e2 g)
  (hbase:afo e1 "join" X.env (eval e1 X.env)=eval e1 X.env:=by rfl)
  (hfew:((adg cpos (acE [e2] X.env)).all (λx=> !x.1) && (ad5 cpos (adx [] X.env)).all (λx=>x.1.isSome)
   && decide ([e2].length+([]:List aei).length+(if ([]:List aei).isEmpty then 0 else 1)<30))=true:=by rfl)
  (hline:(apos.endLine ==cpos.line)=true:=by rfl) (hs1:acE [e2] X.env=(false,eval e2 X.env)::acE [] X.env:=by rfl) (hplain:(adg cpos (acE [] X.env)).any (·.1)=false:=by rfl):
  DE X (.Call (.Attribute e1 "join" apos) [e2] [] cpos) (J8 f g):=by
 refine PE.imp (pe_bm PySem.F.plainAttrs_str PySem.F.slot_str_join PySem.F.type_str_join W3 h1 (pa_cons h2 pa_nil hs1) hbase hfew hline hs1 hplain) λσ H Q h=>?_;obtain⟨ρ,O,j,h⟩:=h;refine go j h λd v H1 e1 s1 r1 j1 h1=>?_;cases d with
 | str a =>
  obtain rfl:=r1.str;refine⟨rfl,?_⟩;refine go j1 h1 λdy y H2 e2 s2 r2 j2 h2=>?_;cases dy with
  | lst ds=>
   obtain⟨l,ys,rfl,hq,hn,rs⟩:=r2.lst;cases es:strsOf ds with
   | none=>
    have h2:good X (rD X) O (match strsOf ds with |some ss=>if ss.toArray.foldl (· + ·.length+a.length) 0<=1000 then .ok (.str (Txt.join a ss)) else .bad |none=> .bad) σ H2 Q:=h2;rw[es] at h2;exact h2.elim
   | some ss=>
    have h2:good X (rD X) O (match strsOf ds with |some ss=>if ss.toArray.foldl (· + ·.length+a.length) 0<=1000 then .ok (.str (Txt.join a ss)) else .bad |none=> .bad) σ H2 Q:=h2;rw[es] at h2;have h2:good X (rD X) O (if ss.toArray.foldl (· + ·.length+a.length) 0<=1000 then .ok (.str (Txt.join a ss)) else .bad) σ H2 Q:=h2;have e:=Ja es rs;subst e;by_cases hc:ss.toArray.foldl (· + ·.length+a.length) 0<=1000
    ·rw[if_pos hc] at h2;exact⟨a,l,ss,rfl,rfl,hq,hc,fin h2 (gq _)⟩
    ·rw[if_neg hc] at h2;exact h2.elim
  |_=>exact h2.elim
 |_=>exact h1.elim
end
section
variable{prog:acL}{w:acQ}{A:acO}{E:acB->acC->Prop}{s:acC}
theorem abL{x:Str}{i c:Nat}(hit:s.heap.IsStrIter it "str_ascii_iterator" x t i)(hx:x.cps[i]?=some c)
  (hQ:∀h',h'.IsStrIter it "str_ascii_iterator" x t (i+1)->adw it s.heap h'->Q (.str ⟨#[c]⟩ s.toks) {s with heap:=h',toks:=s.toks+1}):acG (model prog w) A (ac0 (.ref it)) Q E s:=by
 obtain⟨o,ho,hc,hd⟩:=id hit;unfold ac0;refine acz (ada (name:=adb "__next__") hit.typeIs PySem.F.slot_str_ascii_iterator_next (adi PySem.F.slot_str_ascii_iterator_next hit.typeIs PySem.F.entry_str_ascii_iterator_next ?_ (PySem.F.args_str_ascii_iterator_next_1 _)));show acG _ _ (field (.ref it) 0 >>=_) _ _ s;refine acz (acW ho hd (x:= .str x t) rfl ?_);show acG _ _ (field (.ref it) 1 >>=_) _ _ s;refine acz (acW ho hd (x:= .int i 0) rfl ?_);simp only[aeK,hx];refine acz (aeQ ho hd (by simp) (acz (wpAny_mkStr (acF ⟨_,rfl,acF (hQ _ ?_ (aeY ..))⟩) (by show 1<=sizeLine;decide))));exact⟨_,aeF _ ho (afb (aeo hd _)),(agT ..).trans hc,by
  rw[aeo hd];simp[ado]⟩
theorem W5{x:Str}{i:Nat}(hh:A.handled=none)(hit:s.heap.IsStrIter it "str_ascii_iterator" x t i)(hx:x.cps[i]?=none)
  (hE:∀h' e,agw it s.heap h'->(∃o,h'.get? e=some o/\o.cls= .type "StopIteration")->E (.ref e) {s with heap:=h'}):acG (model prog w) A (ac0 (.ref it)) Q E s:=by
 obtain⟨o,ho,hc,hd⟩:=id hit;unfold ac0;refine acz (ada (name:=adb "__next__") hit.typeIs PySem.F.slot_str_ascii_iterator_next (adi PySem.F.slot_str_ascii_iterator_next hit.typeIs PySem.F.entry_str_ascii_iterator_next ?_ (PySem.F.args_str_ascii_iterator_next_1 _)));show acG _ _ (field (.ref it) 0 >>=_) _ _ s;refine acz (acW ho hd (x:= .str x t) rfl ?_);show acG _ _ (field (.ref it) 1 >>=_) _ _ s;refine acz (acW ho hd (x:= .int i 0) rfl ?_);simp only[aeK,hx];refine acz (aej (acz (aeQ ho hd (by simp) (acz (aez ?_)))));show acG _ _ (newExc (.type "StopIteration") [] >>=_) _ _ _;refine acz ?_;simp only[newExc,newTuple];refine acz (adt ?_ (by size_fits));refine acz (m:=agr _ _) (aey (a:=acU) (by first |rfl |(simp only[agr];rfl)) ?_);refine adt ?_ (by size_fits);simp only[raiseNew];refine acz (wpAny_handled ?_);rw[show A.in1.handled=none from hh];exact acz (acF (wpAny_throw (hE _ _ (((aeY ..).extBut.push _).push _) ⟨_,z1f _ rfl,rfl⟩)))
end
def W6(x:Str):It:=
 ⟨λi _=>i<x.cps.size,
  λi H v H'=>∃p c,H p=none/\v= .ref p/\H'=upd H p (.tup [.int (i:Int),.str ⟨#[c]⟩])/\x.cps[i]?=some c,
  λi _=>x.cps.size<=i⟩
section
variable{X:Cx}{pins:List (acA×Obj)}{σ:St}{H:Hp}{s:acC}{A':acO}{E:acB->acC->Prop}
theorem Ry{e:acA}{z:Str}{k c:Nat}{old:acB}(I:Inv X pins σ H s)(fe:FpOk X pins H e)(fi:FpOk X pins H it)(ne:e≠it)
  (he:aeW s.heap e it k old)(hs:s.heap.IsStrIter it "str_ascii_iterator" z t k)(ex:z.cps[k]?=some c)
  (hQ:∀h' u,Inv X pins σ (upd H s.heap.objs.size (.tup [.int (k:Int),.str ⟨#[c]⟩])) {s with heap:=h',toks:=s.toks+2}->agB h' e it ((k:Int)+1) u s.heap.objs.size->h'.IsStrIter it "str_ascii_iterator" z t (k+1)->Q (.ref s.heap.objs.size) {s with heap:=h',toks:=s.toks+2}):
  acG (model X.prog X.w) A' (ad1.«enumerate.__next__» ⟨[.ref e],[]⟩) (λfin s'=>∃v,fin= .done (.ret v)/\Q v s') E s:=by
 have of':∀{h h':acP} {k:Nat},h.IsStrIter it "str_ascii_iterator" z t k->(∀o,h.get? it=some o->h'.get? it=some o)->h'.IsStrIter it "str_ascii_iterator" z t k:=λ⟨o,a,b⟩ k=>⟨o,k o a,b⟩;obtain⟨hp,g,d,tk,os⟩:=s;show acG _ _ (field (.ref e) 2 >>=_) _ _ _;refine acz (acW he rfl (x:= .ref it) rfl ?_);refine acz (abL hs ex λg1 s1 b1=>?_);have I1:Inv X pins σ H ⟨g1,g,d,tk+1,os⟩:=Inv.tok (I.fp fi b1) (tk+1)
 generalize hu:ahp ⟨#[c]⟩ tk=u at *
 have ru:RelV (.str ⟨#[c]⟩) u:=⟨tk,hu.symm⟩
 replace b1:adw it hp g1:=b1
 have e1:aeW g1 e it k old:=(b1.2 e ne).trans he;show acG _ _ (field (.ref e) 3 >>=_) _ _ ⟨g1,g,d,tk+1,os⟩;refine acz (acW e1 rfl (x:=ado k) rfl ?_);show acG _ _ (field (.ref e) 4 >>=_) _ _ ⟨g1,g,d,tk+1,os⟩;refine acz (acW e1 rfl (x:= .none) rfl ?_);show acG _ _ (mkInt k >>=_) _ _ ⟨g1,g,d,tk+1,os⟩;refine acz (wpAny_mkInt ?_);have I1':Inv X pins σ H ⟨g1,g,d,tk+2,os⟩:=Inv.tok (s:=⟨g1,g,d,tk+1,os⟩) I1 (tk+2);show acG _ _ (ahh (.ref e) 3 (ado ((k:Int)+1)) >>=_) _ _ ⟨g1,g,d,tk+2,os⟩;refine acz (ade e1 (by simp) λg2 e2 b2=>?_);have I2:=I1'.fp fe b2
 replace b2:adw e g1 g2:=b2
 replace e2:aeW g2 e it ((k:Int)+1) old:=e2
 show acG _ _ (ahh (.ref e) 4 .none >>=_) _ _ ⟨g2,g,d,tk+2,os⟩;refine acz (ade e2 (by simp) λg3 e3 b3=>?_);have I3:=I2.fp fe b3
 replace b3:adw e g2 g3:=b3
 replace e3:aeW g3 e it ((k:Int)+1) old:=e3
 show acG _ _ (newTuple [.int k (tk+1),u] >>=_) _ _ ⟨g3,g,d,tk+2,os⟩;refine acz (afL ?_);have sz:g3.objs.size=hp.objs.size:=by rw[b3.1,b2.1,b1.1]
 have lt:e≠g3.objs.size:=ac2 (z2c e3);have I4:Inv X pins σ (upd H g3.objs.size (.tup [.int (k:Int),.str ⟨#[c]⟩])) ⟨g3.push {cls:= .type "tuple",data:= .seq #[.int k (tk+1),u]},g,d,tk+2,os⟩:=
  Inv.laid (s:=⟨g3,g,d,tk+2,os⟩) (t':=tk+2) I3 (λb u e=>z1a _ e) (z0g _) ⟨KY,[.int k (tk+1),u],.cons ⟨tk+1,rfl⟩ (.cons ru .nil),⟨_,z1f _ rfl,rfl,rfl,_,rfl⟩⟩
 have e4:aeW (g3.push {cls:= .type "tuple",data:= .seq #[.int k (tk+1),u]}) e it ((k:Int)+1) old:=z1a _ e3;have s4:(g3.push {cls:= .type "tuple",data:= .seq #[.int k (tk+1),u]}).IsStrIter it "str_ascii_iterator" z t (k+1):=of' s1 λo z=>z1a _ (b3.extBut _ _ (acN ne) (b2.extBut _ _ (acN ne) z));show acG _ _ (ac9 (.ref e) >>=_) _ _ ⟨g3.push {cls:= .type "tuple",data:= .seq #[.int k (tk+1),u]},g,d,tk+2,os⟩
 generalize g3.push {cls:= .type "tuple",data:= .seq #[.int k (tk+1),u]}=g4 at *
 refine acz ?_;unfold ac9;refine acz (acW e4 rfl (x:= .none) rfl (acF ?_));simp only[if_true];refine acz (aej (acz (acW e4 rfl (x:=old) rfl ?_)));refine acz (ade e4 (by simp) λg5 e5 b5=>?_);have I5:=I4.fp (fe.upd lt) b5
 replace b5:adw e g4 g5:=b5
 replace e5:aeW g5 e it ((k:Int)+1) u:=e5
 show acG _ _ (adB (.ref e) (.ref g3.objs.size) >>=_) _ _ ⟨g5,g,d,tk+2,os⟩;refine acz ?_;unfold adB;refine acz (ade e5 (by simp) λg6 e6 b6=>?_);have I6:=I5.fp (fe.upd lt) b6
 replace b6:adw e g5 g6:=b6
 replace e6:agB g6 e it ((k:Int)+1) u g3.objs.size:=e6
 refine ade e6 (by simp) λg7 e7 b7=>?_;have I7:=I6.fp (fe.upd lt) b7
 replace b7:adw e g6 g7:=b7
 replace e7:agB g7 e it ((k:Int)+1) u g3.objs.size:=e7
 refine acz (aez (acF ⟨_,rfl,?_⟩));rw[sz] at I7 e7;show Q (.ref g3.objs.size) _;rw[sz];exact hQ g7 u I7 e7 (of' s4 λo z=>b7.extBut _ _ (acN ne) (b6.extBut _ _ (acN ne) (b5.extBut _ _ (acN ne) z)))
end
theorem Rz{P:acL}{w:acQ}{K:PySem.W.Frag}{oX:List acI}{kk}{pp:Pos}{e:acA}{z:Str}(ne:e≠it):
  Turn P w K (.Tuple oX kk pp) (W6 z) [e,it] e (λi h=>(∃old,aeW h e it i old)/\h.IsStrIter it "str_ascii_iterator" z t i) where
 mem:=by simp
 obj :=λi h st b hb=>by
  obtain⟨⟨old,he⟩,hs⟩:=st;simp only[acR,adW,or_false] at hb;rcases hb with rfl |rfl
  ·exact⟨_,he,λv q=>by have q':agu _=af8 v:=q;cases q'⟩
  ·obtain⟨o,ho,hc,hd⟩:=hs;exact⟨o,ho,λv z=>by rw[hd] at z;cases z⟩
 keep:=λi h h' st k=>by
  obtain⟨⟨old,he⟩,hs⟩:=st;obtain⟨o,ho,r⟩:=hs;exact⟨⟨old,k _ (by simp) _ he⟩,o,k _ (by simp) o ho,r⟩
 item :=by
  intro X hP hw hK hc i pins s σ H E I hf st hg;subst hP hw hK;obtain⟨⟨old,he⟩,hs⟩:=st;obtain⟨c,ex⟩:∃c,z.cps[i]?=some c:=⟨_,afA (show i<z.cps.size from hg)⟩;have hT:s.TypeIs (.ref e) "enumerate" :=⟨_,he,rfl⟩;have hp:H s.heap.objs.size=none:=I.hok.fresh (z0g _);have nz:∀b,b∈[e,it]->b≠s.heap.objs.size:=λb hb z=>by
   obtain⟨o,eo⟩:∃o,s.heap.get? b=some o:=by
    simp only[acR,adW,or_false] at hb;rcases hb with rfl |rfl
    ·exact⟨_,he⟩
    ·obtain⟨o,eo,_⟩:=hs;exact⟨o,eo⟩
   exact absurd (z2c eo) (by rw[z];exact adH _)
  unfold pyNext;refine acz (afq (ada (name:=adb "__next__") hT F.slot_enumerate_next (adi F.slot_enumerate_next hT F.entry_enumerate_next
   (Ry I (hf e (by simp)) (hf it (by simp)) ne he hs ex λh' u I' e' s'=>acF ⟨_,rfl,?_⟩) (F.args_enumerate_next_1 _))))
  refine wpAny_letOwnedTupleGo_enum e' λh'' e'' b''=>⟨.ref s.heap.objs.size,upd H s.heap.objs.size (.tup [.int (i:Int),.str ⟨#[c]⟩]),I'.fp ((hf e (by simp)).upd (nz e (by simp))) b'',rfl,⟨_,c,hp,rfl,rfl,ex⟩,⟨⟨u,by simpa using e''⟩,(let⟨o,a,b⟩:=s';⟨o,b''.extBut _ _ (acN ne) a,b⟩)⟩,λb hb=>?_⟩;rw[upd_ne (nz b hb)];exact (hf b hb).1
 done:=by
  intro X hP hw hK hc i pins s σ H E I hf st hg;subst hP hw hK;obtain⟨⟨old,he⟩,hs⟩:=st;have hT:s.TypeIs (.ref e) "enumerate" :=⟨_,he,rfl⟩;unfold pyNext;refine acz (afq (ada (name:=adb "__next__") hT F.slot_enumerate_next (adi F.slot_enumerate_next hT F.entry_enumerate_next ?_ (F.args_enumerate_next_1 _))));show acG _ _ (field (.ref e) 2 >>=_) _ _ _;refine acz (acW he rfl (x:= .ref it) rfl ?_);refine acz (W5 (I.ok.hd hc) hs (by have:z.cps.size<=i:=hg;simp;omega) λg1 x eb bA=>?_);obtain⟨o,ho,ec⟩:=bA;exact acz (afk (T:= "StopIteration") (b:=true) ⟨o,ho,ec⟩ isSubtype_stop (acF ⟨rfl,I.fpE (hf it (by simp)) eb⟩))
 self:=λ_ _ _ _ _ st h=>by
  obtain⟨⟨old,he⟩,_⟩:=st;exact afP he h
abbrev UL(x:Str)(t:Tok):Obj:={cls:= .type "str_ascii_iterator",data:= .fields #[.str x t,.int 0 0]}
theorem N8(x:Str)(t:Tok)(ha:x.cps.all (· < 128)=true):Meets (ad1.«enumerate.__new__» ⟨[.type "enumerate",.str x t],[]⟩)
  (λ_ R s=>R (.ok (.ret (.ref (s.heap.push (UL x t)).objs.size))) {s with heap:=(s.heap.push (UL x t)).push {cls:= .type "enumerate",data:= .fields #[.none,.bool false,.ref s.heap.objs.size,ado 0,.none,.none]}}):=
 .of_wp λprog w A R s h=>by
  obtain⟨hp,g,d,tk,os⟩:=s;have hsub:=sub_enumerate
  wp_walk using afG ha
  refine wpAny_stack_any λst=>acF ?_;split
  ·rename_i c _ _ _ _ _;cases (c ==acJ "enumerate") <;> (wp_walk using afG ha;exact⟨_,rfl,h⟩)
  ·wp_walk using afG ha
   exact⟨_,rfl,h⟩
section
variable{prog:acL}{w:acQ}{A:acO}{E:acB->acC->Prop}{s:acC}
theorem RB{x:Str}(ha:x.cps.all (· < 128)=true)
  (h:∀h',aeW h' (s.heap.objs.size+1) s.heap.objs.size 0 .none->h'.IsStrIter s.heap.objs.size "str_ascii_iterator" x t 0->(∀c o,s.heap.get? c=some o->h'.get? c=some o)->Q (.ref (s.heap.objs.size+1)) {s with heap:=h'}):
  acG (model prog w) A (call (.type "enumerate") [.str x t]) Q E s:=by
 refine callType_new PySem.F.called_enumerate (by decide) (PySem.F.typeCall_enumerate_1 _) (PySem.F.newCall_enumerate_1 _) (λobj=>PySem.F.args_object_init_2 obj _) PySem.F.entry_enumerate_new (N8 x t ha) ?_;have z1:(s.heap.push (UL x t)).objs.size=s.heap.objs.size+1:=adE ..;have a2:((s.heap.push (UL x t)).push {cls:= .type "enumerate",data:= .fields #[.none,.bool false,.ref s.heap.objs.size,ado 0,.none,.none]}).get? (s.heap.push (UL x t)).objs.size=some _:=z1f _ rfl;show _/\_;rw[z1] at a2 |-;exact⟨⟨_,a2,rfl⟩,h _ a2 ⟨_,z1a _ (z1f _ rfl),rfl,rfl⟩ λc o e=>z1a _ (z1a _ e)⟩
end
section
variable{X:Cx}{oX:List acI}{kk:Nat}{pp:Pos}{a:acI}{p pos:Pos}{fa:ao->R (List D)}
def aaN(ta:TA):TI:=λσ H R=>ta σ H λvs H1=>∃x:Str,vs=[.str x]/\x.cps.all (· < 128)=true/\R (W6 x) H1
theorem W7 {ta:TA} (hg:Gl X "enumerate") (hm:X.mg "enumerate" =none) (ha:PA X [a] ta) (he:starEach [a] X.env=(false,eval a X.env)::starEach [] X.env:=by rfl) (hpl:(backTo pos (starEach [] X.env)).any (·.1)=false:=by rfl):
    PI X (.Tuple oX kk pp) (.Call (.Name "enumerate" p) [a] [] pos) (aaN ta):=by
  intro pins s σ H R I h
  refine Call_ (ld_blt I hg hm boot_enumerate (adn (thn (ha pos pins s σ H _ I h) fun us s1 ⟨vs,H1,I1,r1,q1⟩=>?_) he hpl))
  obtain⟨x,e,hx,q⟩:=q1
  subst e
  cases r1 with
  | cons r rr=>
    cases rr
    obtain⟨t,rfl⟩:=r
    refine RB hx fun h' e' s' k=>wpAny_pyIter_enum e' ⟨s1.heap.objs.size+1,[s1.heap.objs.size+1,s1.heap.objs.size],_,_,H1,rfl,I1.kept (t':=s1.toks) k,Rz (z:=x) (t:=t) ?_,⟨⟨_,e'⟩,s'⟩,fun c hc=>(by
        have hle:s1.heap.objs.size≤c:=by
          simp only[acR,adW,or_false] at hc
          rcases hc with rfl |rfl <;> first |exact ahs _ |exact aeV _ _
        exact I1.fpOk hle (I1.hok.fresh hle)),q⟩
    all_goals (show @Ne Nat _ _;omega)
def sW:List D->R (List D)
 |[.str x]=>if x.cps.all (· < 128)=true then .ok (fX 0 (signs x)) else .bad
 |_=> .bad
theorem YR.sW{K:PySem.W.Frag}{O:acA->Prop}{H:Hp}(x:Str):YR K O H (W6 x) (fX 0 (signs x)):=by
 intro O' H' _ i;refine⟨λd e=>?_,λe=>?_⟩
 ·obtain⟨y,e1,rfl⟩:=xU e;unfold signs at e1;rw[z2b] at e1;cases q:x.cps.toList[i]? with
  |none=>rw[q] at e1;cases e1
  | some c=>
   rw[q] at e1;cases e1;have hc:x.cps[i]?=some c:=by rw[<-aga];exact q
   refine⟨(ad6.mp hc).1,λy H2 z=>?_⟩;obtain⟨p,c',hp,rfl,rfl,h1⟩:=z;rw[hc] at h1;cases h1;rw[Nat.zero_add];exact⟨Same.upd hp,gw (SqT.of upd_same) ((aO.cons (bN _) (.cons (gq _) .nil)).same (Same.upd hp))⟩
 ·show x.cps.size<=i;have:(fX 0 (signs x)).length<=i:=by simpa using e
  rw[xV] at this;unfold signs at this;simpa using this
theorem Ln(hg:Gl X "enumerate")(hm:X.mg "enumerate" =none)(ha:DA X [a] fa)(he:acE [a] X.env=(false,eval a X.env)::acE [] X.env:=by rfl)(hpl:(adg pos (acE [] X.env)).any (·.1)=false:=by rfl):
  DI X (.Tuple oX kk pp) (.Call (.Name "enumerate" p) [a] [] pos) (λρ=>(fa ρ).bind sW):=by
 refine PI.imp (W7 hg hm ha he hpl) λσ H Q q=>?_;obtain⟨ρ,O,j,q⟩:=q;refine go j q λds vs H1 e1 s1 r1 j1 h1=>?_;unfold sW at h1;split at h1
 ·rename_i x;obtain⟨v1,rfl,w1⟩:=r1.one;by_cases ha:x.cps.all (· < 128)=true
  ·rw[if_pos ha] at h1;exact⟨x,by rw[w1.str],ha,fin h1 (YR.sW x)⟩
  ·rw[if_neg ha] at h1;exact h1.elim
 ·exact h1.elim
end
end Pu
namespace Pu
open PySem PySem.W PyProof.Rows
structure Wk(n:Nat)(lt:Nat->Nat->Bool):Prop where
 tr:∀a b c,a<n->b<n->c<n->lt b a=false->lt c b=false->lt c a=false
 as:∀a b,a<n->b<n->lt a b=true->lt b a=false
section
variable{n:Nat}{lt:Nat->Nat->Bool}
theorem Wk.rf(o:Wk n lt){a:Nat}(h:a<n):lt a a=false:=by
 cases e:lt a a with
 |false=>rfl
 |true=>rw[<-e];exact (o.as a a h h e).symm▸(o.as a a h h e)
def Up(lt:Nat->Nat->Bool)(p:Array Nat)(k:Nat):Prop:=∀i j,i<j->j<k->lt (p.getD j 0) (p.getD i 0)=false
def Dn(lt:Nat->Nat->Bool)(p:Array Nat)(k:Nat):Prop:=∀i j,i<j->j<k->lt (p.getD i 0) (p.getD j 0)=false
theorem Up.one{p:Array Nat}:Up lt p 1:=λi j h1 h2=>by omega
theorem Up.ext(o:Wk n lt){p:Array Nat}(h:Pm n p){a:Nat}(ha:1<=a)(hn:a<n)(s:Up lt p a)(e:lt (p.getD a 0) (p.getD (a - 1) 0)=false):Up lt p (a+1):=λi j h1 h2=>by
 by_cases hj:j<a
 ·exact s i j h1 hj
 ·have ej:j=a:=by omega
  subst ej;by_cases hi:i=j - 1
  ·rw[hi];exact e
  ·exact o.tr _ _ _ (h.bd (by omega)) (h.bd (by omega)) (h.bd hn) (s i (j - 1) (by omega) (by omega)) e
theorem Dn.ext(o:Wk n lt){p:Array Nat}(h:Pm n p){a:Nat}(ha:1<=a)(hn:a<n)(s:Dn lt p a)(e:lt (p.getD (a - 1) 0) (p.getD a 0)=false):Dn lt p (a+1):=λi j h1 h2=>by
 by_cases hj:j<a
 ·exact s i j h1 hj
 ·have ej:j=a:=by omega
  subst ej;by_cases hi:i=j - 1
  ·rw[hi];exact e
  ·exact o.tr _ _ _ (h.bd hn) (h.bd (by omega)) (h.bd (by omega)) e (s i (j - 1) (by omega) (by omega))
theorem G9(o:Wk n lt){p:Array Nat}(h:Pm n p):∀(f a:Nat),1<=a->a+f<=n->Up lt p a->Sat n lt (kas_asc p f a) (λm=>a<=m/\m<=a+f/\Up lt p m/\(m<a+f->lt (p.getD m 0) (p.getD (m - 1) 0)=true))
 |0,a,h1,h2,s=>⟨z0g _,z0g _,s,λz=>absurd z (by omega)⟩
 | f +1,a,h1,h2,s=>by
  refine⟨h.bd (by omega),h.bd (by omega),?_⟩;cases e:lt (p.getD a 0) (p.getD (a - 1) 0) with
  |true=>exact⟨z0g _,by omega,s,λ_=>e⟩
  | false=>
   show Sat n lt (kas_asc p f (a+1)) _;refine Sat.mono (λm ⟨m1,m2,m3,m4⟩=>⟨by omega,by omega,m3,λz=>m4 (by omega)⟩) (G9 o h f (a+1) (by omega) (by omega) (Up.ext o h h1 (by omega) s e))
def Dq(lt:Nat->Nat->Bool)(p:Array Nat)(k q:Nat):Prop:=Dn lt p k/\q<k/\∀i,k - (q+1)<=i->i<k->lt (p.getD i 0) (p.getD (k - 1) 0)=false/\lt (p.getD (k - 1) 0) (p.getD i 0)=false
theorem jW{p:Array Nat}(h:Pm n p){a k:Nat}(hk:k<=n)(ha:a<=k)(i:Nat):(afK p a k).getD i 0=p.getD (if a<=i/\i<k then a+(k - 1 - i) else i) 0:=by
 apply kZ;show (mirror p a k ((k - a) / 2))[i]?=_;rw[getElem?_mirror_all (by rw[h.size];exact hk)];split
 ·congr 1;omega
 ·rfl
theorem Dq.rev(o:Wk n lt){p:Array Nat}(h:Pm n p){k q:Nat}(hk:k<=n)(d:Dq lt p k q):Dn lt (afK p (k - (q+1)) k) k:=λi j h1 h2=>by
 obtain⟨d1,d2,d3⟩:=d;rw[jW h hk (by omega) i,jW h hk (by omega) j];have seg:∀x y,k - (q+1)<=x->x<k->k - (q+1)<=y->y<k->lt (p.getD x 0) (p.getD y 0)=false:=λx y x1 x2 y1 y2=>
  o.tr _ _ _ (h.bd (by omega)) (h.bd (i:=k - 1) (by omega)) (h.bd (by omega)) (d3 y y1 y2).2 (d3 x x1 x2).1
 by_cases c1:k - (q+1)<=i/\i<k
 ·rw[if_pos c1,if_pos ⟨by omega,h2⟩];exact seg _ _ (by omega) (by omega) (by omega) (by omega)
 ·rw[if_neg c1];by_cases c2:k - (q+1)<=j/\j<k
  ·rw[if_pos c2];exact d1 _ _ (by omega) (by omega)
  ·rw[if_neg c2];exact d1 _ _ h1 h2
theorem vG(o:Wk n lt):∀(f:Nat) (p:Array Nat) (a q:Nat),Pm n p->1<=a->a+f<=n->Dq lt p a q->Sat n lt (kas_desc f p a q) (λr=>Pm n r.1/\a<=r.2.1/\r.2.1<=a+f/\Dq lt r.1 r.2.1 r.2.2)
 |0,p,a,q,h,h1,h2,s=>⟨h,z0g _,z0g _,s⟩
 | f+1, p,a,q,h,h1,h2,s=>by
  have last:∀{p:Array Nat},Pm n p->Dn lt p (a+1)->Dq lt p (a+1) 0:=λ{p} h d=>⟨d,by omega,λi i1 i2=>by
   have:i=a:=by omega
   subst this;exact⟨o.rf (h.bd (by omega)),o.rf (h.bd (by omega))⟩⟩
  refine⟨h.bd (by omega),h.bd (by omega),?_⟩;cases e:lt (p.getD a 0) (p.getD (a - 1) 0) with
  | true =>
   have e':=o.as _ _ (h.bd (by omega)) (h.bd (by omega)) e;simp only[if_true];by_cases hq:q > 0
   ·rw[if_pos hq];have hp:Pm n (afK p (a - (q+1)) a):=h.of (agv _ _ _ _);refine Sat.mono (λr ⟨r1,r2,r3,r4⟩=>⟨r1,by omega,by omega,r4⟩) (vG o f _ (a+1) 0 hp (by omega) (by omega) (last hp (λi j i1 i2=>?_)));by_cases hj:j<a
    ·exact Dq.rev o h (by omega) s i j i1 hj
    ·have ej:j=a:=by omega
     subst ej;rw[jW h (by omega) (by omega) i,jW h (by omega) (by omega) j,show (if j - (q+1)<=j/\j<j then j - (q+1)+(j - 1 - j) else j)=j from if_neg (by omega)];have key:∀x,x<j->lt (p.getD x 0) (p.getD j 0)=false:=λx hx=>by
      by_cases c:x=j - 1
      ·rw[c];exact e'
      ·exact o.tr _ _ _ (h.bd (by omega)) (h.bd (i:=j - 1) (by omega)) (h.bd (by omega)) e' (s.1 x (j - 1) (by omega) (by omega))
     split
     ·exact key _ (by omega)
     ·exact key _ i1
   ·rw[if_neg hq];exact Sat.mono (λr ⟨r1,r2,r3,r4⟩=>⟨r1,by omega,by omega,r4⟩) (vG o f p (a+1) 0 h (by omega) (by omega) (last h (Dn.ext o h h1 (by omega) s.1 e')))
  | false=>
   simp only[ac7,if_false];refine⟨h.bd (by omega),h.bd (by omega),?_⟩;cases e2:lt (p.getD (a - 1) 0) (p.getD a 0) with
   |true=>exact⟨h,z0g _,aeV _ _,s⟩
   | false=>
    simp only[ac7,if_false];refine Sat.mono (λr ⟨r1,r2,r3,r4⟩=>⟨r1,by omega,by omega,r4⟩) (vG o f p (a+1) (q+1) h (by omega) (by omega) ⟨Dn.ext o h h1 (by omega) s.1 e2,by have:=s.2.1;omega,λi i1 i2=>?_⟩);show lt (p.getD i 0) (p.getD a 0)=false/\lt (p.getD a 0) (p.getD i 0)=false;by_cases c:i=a
    ·rw[c];exact⟨o.rf (h.bd (by omega)),o.rf (h.bd (by omega))⟩
    ·obtain⟨z1,z2⟩:=s.2.2 i (by omega) (by omega);exact⟨o.tr _ _ _ (h.bd (by omega)) (h.bd (i:=a - 1) (by omega)) (h.bd (by omega)) e2 z1,o.tr _ _ _ (h.bd (by omega)) (h.bd (i:=a - 1) (by omega)) (h.bd (by omega)) z2 e⟩
theorem Jb(o:Wk n lt){p:Array Nat}(h:Pm n p){m:Nat}(h1:1<=m)(h2:m<=n)(s:Dn lt p m):Sat n lt (kas_tail3 m n p) (λr=>Pm n r.2/\1<=r.1/\r.1<=n/\Up lt r.2 r.1):=by
 have hq:Pm n (afK p 0 m):=h.of (agv _ _ _ _);have hs:Up lt (afK p 0 m) m:=λi j hij hj=>by
  rw[jW h h2 (adz _) i,jW h h2 (adz _) j,if_pos (show 0<=i/\i<m by omega),if_pos (show 0<=j/\j<m by omega)];exact s _ _ (by omega) (by omega)
 exact Sat.bind (Sat.mono (λk ⟨k1,k2,k3,_⟩=>⟨hq,by omega,by omega,k3⟩) (G9 o hq (n - m) m h1 (by omega) hs))
theorem yg(o:Wk n lt){p:Array Nat}(h:Pm n p){m:Nat}(h1:1<=m)(h2:m<n)(s:Dn lt p (m+1)):Sat n lt (kas_descPart m n p) (λr=>Pm n r.2/\1<=r.1/\r.1<=n/\Up lt r.2 r.1):=by
 unfold kas_descPart;refine Sat.bind (Sat.mono (λr ⟨r1,r2,r3,r4⟩=>?_) (vG o (n - (m+1)) p (m+1) 0 h (by omega) (by omega) ⟨s,by omega,λi i1 i2=>by
  have:i=m:=by omega
  subst this;exact⟨o.rf (h.bd (by omega)),o.rf (h.bd (by omega))⟩⟩))
 by_cases hq:r.2.2 > 0
 ·rw[if_pos hq];exact Jb o (r1.of (agv _ _ _ _)) (by omega) (by omega) (Dq.rev o r1 (by omega) r4)
 ·rw[if_neg hq];exact Jb o r1 (by omega) (by omega) r4.1
theorem UW(o:Wk n lt){p:Array Nat}(h:Pm n p)(hn:1<=n):Sat n lt (kas_count n p) (λr=>Pm n r.2/\1<=r.1/\r.1<=n/\Up lt r.2 r.1):=by
 refine Sat.bind (Sat.mono (λm ⟨m1,m2,m3,m4⟩=>?_) (G9 o h (n - 1) 1 (z0g _) (by omega) Up.one));by_cases e:m=n
 ·rw[if_pos (by simp[e])];exact⟨h,m1,by omega,m3⟩
 ·rw[if_neg (by simp[e])];have e0:=o.as _ _ (h.bd (by omega)) (h.bd (by omega)) (m4 (by omega));by_cases hm:m > 1
  ·rw[if_pos hm];refine⟨h.bd (by omega),h.bd (by omega),?_⟩;cases c:lt (p.getD 0 0) (p.getD (m - 1) 0) with
   |true=>exact⟨h,m1,by omega,m3⟩
   | false=>
    simp only[ac7,if_false];have hp:Pm n (afK p 0 m):=h.of (agv _ _ _ _);have d:Dn lt (afK p 0 m) m:=λi j i1 i2=>by
     rw[jW h (by omega) (adz _) i,jW h (by omega) (adz _) j,if_pos (show 0<=i/\i<m by omega),if_pos (show 0<=j/\j<m by omega)];exact m3 _ _ (by omega) (by omega)
    refine yg o hp m1 (by omega) (Dn.ext o hp m1 (by omega) d ?_);rw[jW h (by omega) (adz _) (m - 1),jW h (by omega) (adz _) m,if_pos (show 0<=m - 1/\m - 1<m by omega),if_neg (show ¬(0<=m/\m<m) by omega),show 0+(m - 1 - (m - 1))=0 by omega];exact o.tr _ _ _ (h.bd (by omega)) (h.bd (i:=m - 1) (by omega)) (h.bd (by omega)) e0 c
  ·rw[if_neg hm];have em:m=1:=by omega
   subst em;exact yg o h (z0g _) (by omega) (Dn.ext o h (a:=1) (z0g _) (by omega) (λi j a1 a2=>by omega) e0)
theorem yh(o:Wk n lt){p:Array Nat}(h:Pm n p){k:Nat}(hk:k<n)(s:Up lt p k):∀(f l r:Nat),l<=r->r<=k->r - l<=f->(∀i,i<l->lt (p.getD k 0) (p.getD i 0)=false)->(∀i,r<=i->i<k->lt (p.getD i 0) (p.getD k 0)=false)->
  Sat n lt (kas_place p k f l r) (λm=>m<=k/\(∀i,i<m->lt (p.getD k 0) (p.getD i 0)=false)/\∀i,m<=i->i<k->lt (p.getD i 0) (p.getD k 0)=false)
 |0,l,r,h1,h2,h3,hl,hr=>⟨by omega,hl,λi a b=>hr i (by omega) b⟩
 | f+1,l,r,h1,h2,h3,hl,hr=>by
  unfold kas_place;by_cases hlr:l>=r
  ·rw[if_pos hlr];exact⟨by omega,hl,λi a b=>hr i (by omega) b⟩
  ·rw[if_neg hlr];have hm:(l+r) / 2<k:=by omega
   refine⟨h.bd hk,h.bd (by omega),?_⟩;cases e:lt (p.getD k 0) (p.getD ((l+r) / 2) 0) with
   | true=>
    have e':=o.as _ _ (h.bd hk) (h.bd (by omega)) e;refine yh o h hk s f l ((l+r) / 2) (by omega) (by omega) (by omega) hl λi a b=>?_;by_cases hi:i=(l+r) / 2
    ·rw[hi];exact e'
    ·exact o.tr _ _ _ (h.bd hk) (h.bd (i:=(l+r) / 2) (by omega)) (h.bd (by omega)) e' (s _ _ (by omega) b)
   | false=>
    refine yh o h hk s f ((l+r) / 2+1) r (by omega) h2 (by omega) (λi a=>?_) hr;by_cases hi:i=(l+r) / 2
    ·rw[hi];exact e
    ·exact o.tr _ _ _ (h.bd (by omega)) (h.bd (i:=(l+r) / 2) (by omega)) (h.bd hk) (s i ((l+r) / 2) (by omega) hm) e
theorem Qh(o:Wk n lt):∀(f:Nat) (p:Array Nat) (k:Nat),Pm n p->Up lt p k->k+f<=n->Sat n lt (kas_bin f p k) (λq=>Pm n q/\Up lt q (k+f))
 |0,p,k,h,s,_=>⟨h,s⟩
 | f+1, p, k,h,s,hk=>by
  refine Sat.bind (Sat.mono (λl ⟨l1,l2,l3⟩=>?_) (yh o h (by omega) s k 0 k (adz _) (z0g _) (by omega) (λi a=>by omega) λi a b=>by omega));have hq:Pm n (bubble p k (k - l)):=h.of (bubble_perm _ _ _);have g:∀i,(bubble p k (k - l)).getD i 0=if i=l then p.getD k 0 else if l<i/\i<=k then p.getD (i - 1) 0 else p.getD i 0:=λi=>by
   have e:=getElem?_bubble (xs:=p) (src:=k) (by rw[h.size];omega) (k - l) (by omega) i;rw[show k - (k - l)=l by omega] at e;by_cases c1:i=l
   ·rw[if_pos c1] at e |-;exact kZ e
   ·rw[if_neg c1] at e |-;by_cases c2:l<i/\i<=k
    ·rw[if_pos c2] at e |-;exact kZ e
    ·rw[if_neg c2] at e |-;exact kZ e
  have hs : Up lt (bubble p k (k - l)) (k+1):=λi j hij hj=>by
   rw[g i,g j];by_cases c1:i=l
   ·rw[if_pos c1,if_neg (by omega),if_pos ⟨by omega,by omega⟩];exact l3 (j - 1) (by omega) (by omega)
   ·rw[if_neg c1];by_cases c2:l<i/\i<=k
    ·rw[if_pos c2,if_neg (by omega),if_pos ⟨by omega,by omega⟩];exact s (i - 1) (j - 1) (by omega) (by omega)
    ·rw[if_neg c2];have hil:i<l:=by omega
     by_cases c3:j=l
     ·rw[if_pos c3];exact l2 i hil
     ·rw[if_neg c3];by_cases c4:l<j/\j<=k
      ·rw[if_pos c4];by_cases c5:i=j - 1
       ·omega
       ·exact s i (j - 1) (by omega) (by omega)
      ·rw[if_neg c4];exact s i j hij (by omega)
  have:=Qh o f (bubble p k (k - l)) (k+1) hq hs (by omega);exact Sat.mono (λq ⟨q1,q2⟩=>⟨q1,by rw[show k+(f+1)=k+1+f by omega];exact q2⟩) this
theorem W8(o:Wk n lt)(hn:1<=n):Sat n lt (kas_sort n) (λq=>Pm n q/\Up lt q n):=by
 have h0:Pm n (adL (acD n)):=⟨by simp,by simp⟩;refine Sat.bind (Sat.mono (λr ⟨r1,r2,r3,r4⟩=>?_) (UW o h0 hn));by_cases hr:r.1<n
 ·rw[if_pos hr];have e:max r.1 1=r.1:=by omega
  rw[e];refine Sat.mono (λq ⟨q1,q2⟩=>⟨q1,?_⟩) (Qh o (n - r.1) r.2 r.1 r1 r4 (by omega));rw[show r.1+(n - r.1)=n by omega] at q2;exact q2
 ·rw[if_neg hr];have e:r.1=n:=by omega
  rw[e] at r4;exact⟨r1,r4⟩
end
end Pu
namespace Pu
open PySem PySem.Spec PySem.W L2
open PyProof.Rows hiding St
section
variable{prog:acL}{w:acQ}{A:acO}{E:acB->acC->Prop}{s:acC}
theorem W9{a:acA}{vs:List acB}{n:Nat}{P:PySem.Fin->acC->Prop}{lt:Nat->Nat->Bool}{kk:SortKind}(ho:s.heap.get? a=some (adJ "list" vs.toArray n))(h64:vs.length<64)(od:Wk vs.length lt)
  (kind:2<=vs.length->∀h':acP,(∀b ob,b≠a->s.heap.get? b=some ob->h'.get? b=some ob)->∀Q:SortKind->acC->Prop,Q kk {s with heap:=h'}->acG (model prog w) A (keyKind' vs.toArray) Q (λ_ _=>False) {s with heap:=h'})
  (ask:∀h':acP,(∀b ob,b≠a->s.heap.get? b=some ob->h'.get? b=some ob)->∀i j C,i<vs.length->j<vs.length->C (lt i j) {s with heap:=h'}->kas_ask prog w A kk vs i j C {s with heap:=h'})
  (h:∀q:Array Nat,Pm vs.length q->Up lt q vs.length->P (.done (.ret .none)) {s with heap:=afj s.heap a vs (adL (q.toList.map λi=>vs.getD i acU))}):
  acG (model prog w) A (ad1.«list.sort» ⟨[.ref a],[]⟩) P E s:=by
 rw[list_sort_plain];have ha:a<s.heap.objs.size:=z2c ho;refine acz (listItems_at ho rfl ?_);refine acz (afp ho rfl ?_ (by rw[z1c,adv];omega) (adz _));obtain⟨e1,ho1⟩:∃e1,(s.heap.update a (ady λ_=>(#[]:Array acB))).get? a=some (adJ "list" #[] e1):=⟨_,ae4 ho (λ_=> #[])⟩;refine acz (afU ho1 rfl ?_);refine acz (afL ?_ (by show vs.length<=_;rw[adv];omega));refine acz (agJ ?_ (adz _));refine aev ?_
 generalize Ku:((s.heap.update a (ady λ_=>(#[]:Array acB))).push (adJ "tuple" vs.toArray 0)).push (adJ "list" #[] 0)=h6
 have ho6:h6.get? a=some (adJ "list" #[] e1):=by
  rw[<-Ku];exact z1a _ (z1a _ ho1)
 have keep:∀b ob,b≠a->s.heap.get? b=some ob->h6.get? b=some ob:=λb ob hb e=>by
  rw[<-Ku];exact z1a _ (z1a _ (by rw[adZ _ _ _ _ hb];exact e))
 have hsh:∀out:Array acB,afj s.heap a vs out=h6.update a (ady λ_=>out):=λout=>by rw[<-Ku];rfl
 show acG (model prog w) A _ P E {s with heap:=h6}
 dsimp only
 have hsz:vs.toArray.size=vs.length:=by simp
 by_cases h2:vs.toArray.size<2
 ·rw[if_pos h2,if_pos h2];refine acz (acF ?_);rw[StateT.run_pure];refine acz (acF ?_)
  dsimp only
  refine acz (afU ho6 rfl ?_);refine acz (afp ho6 rfl ?_ (adz _) (by show (((pairsOf vs)).map (·.2)).size<=_;rw[Array.size_map,pairsOf_size,adv];omega));simp only[bne_self_eq_false,ac7,if_false];have q:=h (adL (acD vs.length)) ⟨by simp,by simp⟩ (λi j h1 h3=>by omega);rw[hsh] at q;have eo:(arrOf (ahy general' (vs.toArray.zip vs.toArray) #[] 7 none)).map (·.2)=adL ((adL (acD vs.length)).toList.map λi=>vs.getD i acU):=by
   show (vs.toArray.zip vs.toArray).map (·.2)=_;exact Ik vs (by rw[<-hsz];exact h2)
  refine acF ?_;show P _ {s with heap:=h6.update a (ady λ_=>(arrOf (ahy general' (vs.toArray.zip vs.toArray) #[] 7 none)).map (·.2))};rw[eo];exact q
 ·rw[if_neg h2,if_neg h2];have h2':2<=vs.length:=by rw[hsz] at h2;omega
  refine acz (adQ (kind h2' h6 keep (λκ s'=>κ=kk/\s'={s with heap:=h6}) ⟨rfl,rfl⟩) (λκ s0 hk=>?_) λ_ _ x=>x.elim);obtain⟨rfl,rfl⟩:=hk;have wp:(kas_sort vs.length).kasWp (kas_ask prog w A κ vs) (λp s''=>(Pm vs.length p/\Up lt p vs.length)/\s''={s with heap:=h6}) {s with heap:=h6}:=
   Sat.wp (ask h6 keep) (λp hp=>⟨hp,rfl⟩) (W8 od (by omega))
  refine acz (adQ (kat_run (Q:=λst' s'=>∃p:Array Nat,p.size=vs.length/\arrOf st'=p.map (kas_item (vs.toArray.zip vs.toArray))/\failedOf st'=none/\(Pm vs.length p/\Up lt p vs.length)/\s'={s with heap:=h6})
   rfl h2' h64 (λp' st' s' a1 a2 a3 a4=>⟨p',a1,a2,a3,a4⟩) wp) ?_ λ_ _ e=>e)
  rintro⟨⟨⟩,st'⟩ s' ⟨p,hp,har,hf,⟨hpm,hps⟩,rfl⟩
  dsimp only
  have hout:=kat_snds rfl har;rw[hout];refine acz (afU ho6 rfl ?_);refine acz (afp ho6 rfl ?_ (adz _) (by show (adL (p.toList.map λi=>vs.getD i acU)).size<=_;rw[z1c,z1g,adY,hp,adv];omega));rw[hf];simp only[bne_self_eq_false,ac7,if_false];have q:=h p hpm hps;rw[hsh] at q;exact acF q
end
theorem Jc{a b c:List Int}(h1:bC b a=false)(h2:bC c b=false):bC c a=false:=by
 cases e:bC c a with
 |false=>rfl
 | true=>
  by_cases q:b=c
  ·rw[q] at h1;rw[h1] at e;cases e
  ·have h3:=m9 (a:=c) (b:=b) (λz=>q z.symm) h2;rw[eV h3 e] at h1;cases h1
theorem Lp{a b:List Int}(h:bC a b=true):bC b a=false:=by
 cases e:bC b a with
 |false=>rfl
 |true=>have:=eV h e;rw[iQ] at this;cases this
theorem aaO{ts:List (List Int)}:Wk ts.length (λi j=>bC (ts.getD i []) (ts.getD j [])):=⟨λa b c _ _ _ h1 h2=>Jc h1 h2,λa b _ _ h=>Lp h⟩
abbrev Ed(l:List (List Int)):Prop:=l.Pairwise λa b=>bC b a=false
theorem Ef(p:List Int):∀{l:List (List Int)},Ed l->Ed (tR p l)
 |[],_=>by unfold tR;simp
 | q ::r,h=>by
  obtain⟨h1,h2⟩:=adK.mp h;unfold tR;by_cases e:bC p q=true
  ·rw[if_pos e];refine adK.mpr ⟨λz hz=>?_,h⟩;rcases acR.mp hz with z1 |z1
   ·rw[z1];exact Lp e
   ·exact Jc (Lp e) (h1 z z1)
  ·rw[if_neg e];refine adK.mpr ⟨λz hz=>?_,Ef p h2⟩;rcases acR.mp ((sU p r).mem_iff.mp hz) with z1 |z1
   ·rw[z1];simpa using e
   ·exact h1 z z1
theorem Eh:∀{l:List (List Int)},Ed (d8 l)
 |[]=> .nil
 |p::r=>Ef p Eh
theorem Ei:∀{a b:List (List Int)},a.Perm b->Ed a->Ed b->a=b
 |[],b,p,_,_=>(List.nil_perm.mp p).symm
 |x::a,[],p,_,_=>absurd (List.perm_nil.mp p) (by simp)
 | x :: a, y::b,p,ha,hb=>by
  have ha':=adK.mp ha;have hb':=adK.mp hb;have h1 :x=y:=by
   rcases acR.mp (p.mem_iff.mp (acT (a:=x) (l:=a))) with h |h
   ·exact h
   ·rcases acR.mp (p.mem_iff.mpr (acT (a:=y) (l:=b))) with k |k
    ·exact k.symm
    ·by_cases e:x=y
     ·exact e
     ·have:=m9 e (hb'.1 x h);rw[ha'.1 y k] at this;cases this
  subst h1;rw[Ei ((List.perm_cons x).mp p) ha'.2 hb'.2]
theorem JB{ts:List (List Int)}{q:Array Nat}(h:Pm ts.length q)(hs:Up (λi j=>bC (ts.getD i []) (ts.getD j [])) q ts.length):q.toList.map (λi=>ts.getD i [])=d8 ts:=by
 refine Ei ?_ ?_ Eh
 ·have e:(acD ts.length).map (λi=>ts.getD i [])=ts:=by
   apply ae8;intro i;by_cases hi:i<ts.length
   ·simp[hi]
   ·simp[hi]
  have:=h.perm.map λi=>ts.getD i [];rw[e] at this;exact this.trans (eX ts).symm
 ·refine ag3.mpr λi j hi hj hij=>?_;have hl:(q.toList.map λi=>ts.getD i []).length=ts.length:=by simp[h.size]
  have:=hs i j hij (by rw[<-hl];exact hj);have e:∀(k:Nat) (hk:k<(q.toList.map λi=>ts.getD i []).length),(q.toList.map λi=>ts.getD i [])[k]=ts.getD (q.getD k 0) []:=λk hk=>by
   have hk':k<q.size:=by simpa using hk
   simp[ag2,hk']
  rw[e i hi,e j hj];exact this
section
variable{X:Cx}
theorem RD(hu:X.A.units+2<aed):CallR X (.builtin "sorted") (λxs H Q=>∃(a:acA) (as:List acA) (ts:List (List Int)),xs=[.ref a]/\SqL X.K H a (as.map V.ref)/\as.length=ts.length/\ts.length<64/\(∀(i:Nat) b t,as[i]?=some b->ts[i]?=some t->Ux X.K H b t)/\
  ∀(B:acA) (bs:List acA),H B=none->bs.length=ts.length->(∀(i:Nat) b t,bs[i]?=some b->(d8 ts)[i]?=some t->b∈as/\∃j:Nat,as[j]?=some b/\ts[j]?=some t)->Q (.ref B) (upd H B (.lst (bs.map V.ref)))):=by
 intro pins s σ H xs us Q I r h;obtain⟨a,as,ts,rfl,hq,hl,h64,ht,q⟩:=h;obtain⟨u,rfl,rx⟩:=vals1 r;cases rx;obtain⟨its,rv,pl,hz⟩:=I.list hq;have hits:its=as.map acM:=by
  have:∀(as:List acA) (its:List acB),Vals (as.map V.ref) its->its=as.map acM:=by
   intro as
   induction as with
   |nil=>intro its r;cases r;rfl
   |cons b as ih=>intro its r;cases r with |cons r1 r2=>cases r1;rw[ih _ r2];rfl
  exact this as its rv
 subst hits;have lenV:(as.map acM).length=ts.length:=by rw[z1g,hl]
 refine ag4 kind_sorted plain_sorted entry_sorted (args_sorted1 _) ?_;unfold ad1.«sorted»;refine acz (m:=checkCount "sorted" 1 1 _) (acF ?_);refine acz (collect_list pl.isList ?_);refine acz (agJ ?_ (by rw[lenV,adv];omega));have hsz:((s.heap.push (adJ "list" #[] 0)).update s.heap.objs.size (ady (· ++(as.map acM).toArray))).objs.size=s.heap.objs.size+1:=by
  rw[Heap.size_update,size_push']
 have hB:(((s.heap.push (adJ "list" #[] 0)).update s.heap.objs.size (ady (· ++(as.map acM).toArray))).push (adJ "list" (as.map acM).toArray 0)).get? (s.heap.objs.size+1)=some (adJ "list" (as.map acM).toArray 0):=by
  rw[<-hsz];exact z1f _ rfl
 show acG _ _ _ _ _ {s with heap:=((s.heap.push (adJ "list" #[] 0)).update s.heap.objs.size (ady (· ++(as.map acM).toArray))).push (adJ "list" (as.map acM).toArray 0)};rw[hsz];have kp:∀b o,s.heap.get? b=some o->(((s.heap.push (adJ "list" #[] 0)).update s.heap.objs.size (ady (· ++(as.map acM).toArray))).push (adJ "list" (as.map acM).toArray 0)).get? b=some o:=λb o e=>by
  refine z1a _ ?_;rw[adZ _ _ _ _ (ac2 (z2c e))];exact z1a _ e
 have Xa:∀(i:Nat) b,as[i]?=some b->∃l x,ts.getD i []=l::nats x/\nj s.heap b l x:=λi b e=>by
  have hi:i<ts.length:=by rw[<-hl];exact (z1b e).1
  obtain⟨l,x,e1,e2⟩:=Yg I (ht i b ts[i] e (by simp[hi]));exact⟨l,x,by simp[hi,e1],e2⟩
 have bne:∀b o,s.heap.get? b=some o->b≠s.heap.objs.size+1:=λb o e=>ac2 (afQ (z2c e));refine acz (aev (adi slot_list_sort ⟨_,hB,rfl⟩ entry_list_sort (W9 (lt:=λi j=>bC (ts.getD i []) (ts.getD j [])) (kk:=tuples' true) hB (by rw[lenV];exact h64) (by rw[lenV];exact aaO) ?kind ?ask λqq hq Um=>⟨_,rfl,?fin⟩) (args_list_sort _)))
 case kind=>
  intro h2 h6 keep Q' hQ';obtain⟨fs,kt,fl,fi⟩:=Uy (h:=h6) as λb hb=>by
   obtain⟨i,hi⟩:=af9.mp hb;obtain⟨l,x,_,e⟩:=Xa i b hi;exact⟨l,x,e.keeps λd o hd _=>keep d o (bne d o hd) (kp d o hd)⟩
  refine kat_kind (T:= .type "int") kt (by rw[fl,hl];rw[lenV] at h2;omega) (λf hf=>by obtain⟨k,t,rfl⟩:=fi f hf;exact .now) rfl hQ'
 case ask=>
  intro h6 keep i j C hi hj hC;rw[lenV] at hi hj;have hi':i<as.length:=by omega
  have hj':j<as.length:=by omega
  obtain⟨l,x,e1,t1⟩:=Xa i as[i] (by simp[hi']);obtain⟨l',x',e2,t2⟩:=Xa j as[j] (by simp[hj']);unfold kas_ask;rw[show (as.map acM).getD i acU= .ref as[i] by simp[hi'],show (as.map acM).getD j acU= .ref as[j] by simp[hj']];refine aaF (t1.keeps λd o hd _=>keep d o (bne d o hd) (kp d o hd)) (t2.keeps λd o hd _=>keep d o (bne d o hd) (kp d o hd)) ?_;rw[e1,e2] at hC;exact hC
 case fin=>
  rw[lenV] at hq Um;refine acF ⟨_,rfl,?_⟩;have hout:(qq.toList.map λi=>(as.map acM).getD i acU)=(qq.toList.map λi=>as.getD i 0).map acM:=by
   rw[ac8];refine adG λi hi=>?_;have hi':i<as.length:=by rw[hl];exact z2e (hq.perm.mem_iff.mp hi)
   simp[hi']
  rw[hout];obtain⟨cc,hFB⟩:=sortedHeap_at (vs:=as.map acM) (out:=adL ((qq.toList.map λi=>as.getD i 0).map acM)) hB;have hf:H (s.heap.objs.size+1)=none:=I.hok.fresh (agx _);refine⟨.ref (s.heap.objs.size+1),upd H (s.heap.objs.size+1) (.lst ((qq.toList.map λi=>as.getD i 0).map V.ref)),I.laid (t':=s.toks) (λb o e=>sI (bne b o e) (kp b o e)) (agx _) ?_,rfl,q _ _ hf ?_ λi b t eb et=>?_⟩
  ·refine⟨?_,_,cc,GD _,hFB⟩;rw[z1g,z1g,adY,hq.size,adv];omega
  ·rw[z1g,adY,hq.size]
  ·rw[<-JB hq Um] at et;rw[z2b] at eb et;cases ei:qq.toList[i]? with
   |none=>rw[ei] at eb;cases eb
   | some k=>
    rw[ei] at eb et;have eb:as.getD k 0=b:=acV eb;have et:ts.getD k []=t:=acV et;have hk:k<ts.length:=z2e (hq.perm.mem_iff.mp (ac6 ei));have hk':k<as.length:=by omega
    have ea:as[k]?=some b:=by simp[afd,hk'] at eb |-;exact eb
    exact⟨ac6 ea,k,ea,by simp[afd,hk] at et |-;exact et⟩
def Ej:List D->R D
 | [.lst ds]=>match gM ds with
  |some ts=>if ts.length<64 then .ok (.lst ((d8 ts).map lA)) else .bad
  |none=> .bad
 |_=> .bad
theorem Xb(hu:X.A.units+2<aed):CallD X (.builtin "sorted") Ej:=by
 refine⟨_,RD hu,λρ O σ H Q xs ds j r h=>?_⟩;unfold Ej at h;split at h
 ·rename_i es;obtain⟨x,rfl,rx⟩:=r.one;obtain⟨a,ys,rfl,hq,hna,rs⟩:=rx.lst;cases e:gM es with
  |none=>rw[e] at h;exact h.elim
  | some ts =>
   rw[e] at h;have h:good X (rD X) O (if ts.length<64 then R.ok (.lst ((d8 ts).map lA)) else .bad) σ H Q:=h;by_cases hl:ts.length<64
   ·rw[if_pos hl] at h;obtain⟨as,rfl,h1,h2⟩:=G7 e rs;refine⟨a,as,ts,rfl,hq,h1,hl,λi b t eb et=>(h2 i b t eb et).1,λB bs hB hbl hp=>?_⟩;refine h _ _ (Same.upd hB) (Rep.mQ hB (j.uY hB) (tU ?_ λi d v ed ev=>?_))
    ·rw[z1g,z1g,(eX ts).length_eq,hbl]
    ·rw[z2b] at ed ev;cases q1:(d8 ts)[i]? with
     |none=>rw[q1] at ed;cases ed
     | some t=>
      cases q2:bs[i]? with
      |none=>rw[q2] at ev;cases ev
      | some b=>
       rw[q1] at ed;rw[q2] at ev;cases ed;cases ev;obtain⟨_,k,z1,z2⟩:=hp i b t q2 q1;exact (h2 k b t z1 z2).2
   ·rw[if_neg hl] at h;exact h.elim
 ·exact h.elim
end
end Pu
namespace Pu
open PySem PySem.Spec L2
open PyProof.Rows hiding St
variable{e:acI}{M:Model}{Γ:PySem.Ctx}{s:acC}
theorem yj{p:Pos}{t:Sem PySem.Fin}{fs:List Frame}{s':acC}{e:End}(h:Runs M Γ p t fs s e s'):s.toks<=s'.toks:=by
 induction h with
 |fresh _ ih=>exact z0b (agx _) ih
 |call _ _ a b=>exact z0b a b
 |resumeFresh _ _ _ _ a b=>exact z0b a b
 |resumeSuspended _ _ _ _ a b=>exact z0b a b
 |segRet _ _ a b=>exact z0b a b
 |segGen _ _ a b=>exact z0b a b
 |segSuspGen _ _ _ _ a b=>exact z0b a b
 |_=>first |exact z0g _ |assumption
theorem RG{p:Pos}{g:Nat}{r:Resume}{s':acC}{res:GenResult}(h:Wakes M Γ p g r s res s'):s.toks<=s'.toks:=by
 unfold Wakes at h;split at h
 ·exact h.elim
 ·split at h
  ·obtain⟨_,_,h,_,_,rfl⟩:=h;have:=yj h;exact this
  ·rw[h.2];exact z0g _
  ·rw[h.2];exact z0g _
 ·obtain⟨_,_,h,_,_,rfl⟩:=h;have:=yj h;exact this
 ·rw[h.2];exact z0g _
 ·rw[h.2];exact z0g _
theorem wp_toks{α:Type}(n:Nat)(t:Sem α):∀{Q:α->Pos->acC->Prop} {E:acB->Pos->acC->Prop} {p:Pos} {s:acC},n<=s.toks->adX M Γ t Q E p s->
  adX M Γ t (λa p' s'=>n<=s'.toks/\Q a p' s') E p s:=by
 induction t with
 |pure a=>intro Q E p s h w;rw[adX] at w |-;exact⟨h,w⟩
 |fresh k ih=>intro Q E p s h w;rw[adX] at w |-;exact ih _ (agU h) w
 |load a l k ih=>intro Q E p s h w;rw[adX] at w |-;obtain⟨o,h1,w⟩:=w;exact⟨o,h1,ih _ h w⟩
 |update a l f k ih=>intro Q E p s h w;rw[adX] at w |-;exact⟨w.1,ih _ h w.2⟩
 |choose src m k ih=>intro Q E p s h w;rw[adX] at w |-;exact⟨w.1,ih _ h w.2⟩
 |call c hh g l k ih=>intro Q E p s h w;rw[adX] at w |-;obtain⟨r,s',h1,w⟩:=w;exact⟨r,s',h1,ih _ (z0b h (yj h1)) w⟩
 |genState g k ih=>intro Q E p s h w;rw[adX] at w |-;obtain⟨o,h1,w⟩:=w;exact⟨o,h1,ih _ h w⟩
 |resume g r l k ih=>intro Q E p s h w;rw[adX] at w |-;obtain⟨r,s',h1,w⟩:=w;exact⟨r,s',h1,ih _ (z0b h (RG h1)) w⟩
 |raise e=>intro Q E p s h w;rw[adX] at w |-;exact w
 |unsupported _=>intro Q E p s h w;rw[adX] at w;exact w.elim
 |finish _=>intro Q E p s h w;rw[adX] at w;exact w.elim
 |register _ _=>intro Q E p s h w;rw[adX] at w;exact w.elim
 |yield _ _ _ _=>intro Q E p s h w;rw[adX] at w;exact w.elim
 |fork _ _=>intro Q E p s h w;rw[adX] at w;exact w.elim
 |await _ _ _ _ _=>intro Q E p s h w;rw[adX] at w;exact w.elim
 |rule _ k ih=>intro Q E p s h w;rw[adX] at w |-;exact ih _ h w
 | «at» _ k ih=>intro Q E p s h w;rw[adX] at w |-;exact ih _ h w
 |loadIfAlive _ k ih=>intro Q E p s h w;rw[adX] at w |-;exact ih _ h w
 |point _ k ih=>intro Q E p s h w;rw[adX] at w |-;exact ih _ h w
 |alloc _ k ih=>intro Q E p s h w;rw[adX] at w |-;exact ih _ h w
 |ask k ih=>intro Q E p s h w;rw[adX] at w |-;exact ih _ h w
 |os _ _ k ih=>intro Q E p s h w;rw[adX] at w |-;exact ih _ h w
 |handled _ k ih=>intro Q E p s h w;rw[adX] at w |-;exact ih _ h w
 |newGen _ k ih=>intro Q E p s h w;rw[adX] at w |-;exact ih _ h w
 |stack k ih=>intro Q E p s h w;rw[adX] at w |-;exact ih _ h w
 |thread k ih=>intro Q E p s h w;rw[adX] at w |-;exact ih _ h w
theorem wpAny_toks{α:Type}{A:acO}{t:Sem α}{Q:α->acC->Prop}{E:acB->acC->Prop}(n:Nat)(h:n<=s.toks)(w:acG M A t Q E s):
  acG M A t (λa s'=>n<=s'.toks/\Q a s') E s:=λΓ p hΓ=>wp_toks n t h (w Γ p hΓ)
theorem Zq{A:acO}{Q:Flow->acC->Prop}{E:acB->acC->Prop}{env:PySem.Env}{r:acI}{i:Int}{k:Nat}{p1 p2 p3 p4:Pos}{op:afH}{b o:List acS}
  (w:acG M A (exec (.If (.Compare (.Subscript e (.Constant (.int i) k p1) p2) [op] [r] p3) b o p4) env) Q E s):
  acG M A (exec (.If (.Compare (.Subscript e (.Constant (.int i) k p1) p2) [op] [r] p3) b o p4) env) (λa s'=>1<=s'.toks/\Q a s') E s:=λΓ p hΓ=>by
 have w:=w Γ p hΓ;simp only[exec_If,isTrue_Compare1,eval_Subscript,bind_assoc] at w |-;rw[Sem.wp_bind'] at w |-;refine Sem.wp_mono M Γ _ (λ_ p1 s1 w=>?_) (λ_ _ _ x=>x) p s w;rw[Sem.wp_bind'] at w |-;refine Sem.wp_mono M Γ _ (λ_ p2 s2 w=>?_) (λ_ _ _ x=>x) p1 s1 w;rw[Sem.wp_bind',Sem.wp_holding] at w |-;have w:adX M Γ _ _ _ p2 {s2 with toks:=s2.toks+1}:=w;exact wp_toks 1 _ (show 1<=s2.toks+1 by omega) w
section
variable{X:Cx}
def Yh(X:Cx)(e:acI)(t:TE):Prop:=
 ∀(pins:List (acA×Obj)) (s:acC) (σ:L2.St) (H:Hp) (Q:VK),1<=s.toks->Inv X pins σ H s->t σ H Q->acG (model X.prog X.w) X.A (eval e X.env) (EP X pins σ Q) X.xe s
def PSp(X:Cx)(st:acS)(t:TS):Prop:=
 ∀(pins:List (acA×Obj)) (s:acC) (σ:L2.St) (H:Hp) (D:Ends),1<=s.toks->Inv X pins σ H s->t D σ H->acG (model X.prog X.w) X.A (exec st X.env) (SP X pins D) X.xe s
def acj(X:Cx)(st:List acS)(t:TS):Prop:=
 ∀(pins:List (acA×Obj)) (s:acC) (σ:L2.St) (H:Hp) (D:Ends),1<=s.toks->Inv X pins σ H s->t D σ H->acG (model X.prog X.w) X.A (execs st X.env) (SP X pins D) X.xe s
theorem aaP{t:TE}(h:PE X e t):Yh X e t:=λpins s σ H Q _=>h pins s σ H Q
def Hf(a b:Str)(f:ao->R D):ao->R D:=λρ=>(f ρ).bind λx=>match x with
 | .str x=>if x.length<=1048576 then .ok (.str (Txt.replace x a b)) else .bad
 |_=> .bad
theorem Hg{f:ao->R D}{a b:Str}{k1 k2:Nat}{c1 c2 apos cpos:Pos}(h1:Yh X e (tG X (rD X) f))(hab:(a ==b)=false)(hb:b.length<=14)
  (hbase:afo e "replace" X.env (eval e X.env)=eval e X.env:=by rfl)
  (hfew:((adg cpos (acE [.Constant (.str a) k1 c1,.Constant (.str b) k2 c2] X.env)).all (λx=> !x.1) && (ad5 cpos (adx [] X.env)).all (λx=>x.1.isSome)
   && decide ([Expr.Constant (.str a) k1 c1,.Constant (.str b) k2 c2].length+([]:List aei).length+(if ([]:List aei).isEmpty then 0 else 1)<30))=true:=by rfl)
  (hline:(apos.endLine ==cpos.line)=true:=by rfl):
  Yh X (.Call (.Attribute e "replace" apos) [.Constant (.str a) k1 c1,.Constant (.str b) k2 c2] [] cpos) (tG X (rD X) (Hf a b f)):=by
 intro pins s σ H Q tk I h;obtain⟨ρ,O,j,h⟩:=h;refine wpAny_Call_method_late hbase hfew hline rfl (thn (wpAny_toks 1 tk (h1 pins s σ H (λv H1=>∃x:Str,v= .str x/\x.length<=1048576/\Q (.str (Txt.replace x a b)) H1) tk I ?_)) λv s1 ⟨tk1,x,H1,I1,r1,y,hy,hl,q1⟩=>?_)
 ·refine go j h λd v H1 e1 s1 r1 j1 h1=>?_;cases d with
  | str x=>
   have h1:good X (rD X) O (if x.length<=1048576 then .ok (.str (Txt.replace x a b)) else .bad) σ H1 Q:=h1;by_cases hl:x.length<=1048576
   ·rw[if_pos hl] at h1;exact⟨x,r1.str,hl,fin h1 (gq _)⟩
   ·rw[if_neg hl] at h1;exact h1.elim
  |_=>exact h1.elim
 ·subst hy;obtain⟨t,rfl⟩:=r1;refine⟨"str","str.replace",PySem.F.plainAttrs_str,PySem.F.slot_str_replace,PySem.F.type_str_replace,agX _ _ _,(λ_ e=>by cases e),?_⟩;refine aht rfl (afg ?_);refine agz (ae2 (k:=k1) (pos:=c1) (agz (ae2 (k:=k2) (pos:=c2) (Calls.spliced_nil ?_))));refine SC.replaceW (Nat.pos_iff_ne_zero.mp tk1) (Nat.succ_ne_zero _) (ac2 (Nat.lt_succ_self _)) hab hl hb λt' k=>?_;exact⟨.str _,H1,(I1.tok _),⟨_,rfl⟩,q1⟩
theorem Zr(i:Nat){x:Str}{pos pos':Pos}{f:ao->R D}(hN:X.N.Nodup)(he:Yh X e (tG X (rD X) f))(hi:X.N[i]?=some x:=by rfl)(hx:Loc X.env.scope x:=by first |exact adS rfl |exact adA rfl)(hs:afC e (some (.Name x pos')) pos.line X.env=pure false:=by rfl)
  (hf:X.fn x=true\/X.env.scope.names.lookup x=some .local:=by first |exact .inl rfl |exact .inr rfl):PSp X (.Assign [.Name x pos'] e pos) (tS X (bh f (aJ i))):=by
 intro pins s σ H D tk I h;refine wpAny_Assign_Name (thn (he pins s σ H (λy H1=>gName i y σ H1 D.nx) tk I ?_) λv s1 ⟨y,H1,I1,r1,q1⟩=>store_ok I1 hN hi hx r1 (λs2 I2=>⟨_,H1,I2,q1⟩) hf) hs;obtain⟨H0,O0,O,ρ,j,h⟩:=h;refine⟨ρ,O,j.inn,?_⟩;unfold bh gZ at h;cases e1:f ρ with
 |bad=>rw[e1] at h;exact h
 |err c=>rw[e1] at h;exact h σ H O j
 |ok d=>rw[e1] at h;exact λv H' s r=>h _ H' O ((j.grow s).set (z1b hi).1 r) (Same.dM s)
theorem U0{st:acS}{rest:List acS}{t u:TS}(h1:PSp X st t)(h2:PSs X rest u):acj X (st::rest) (tSeq t u):=by
 intro pins s σ H D tk I h;refine af2 (thn (h1 pins s σ H {D with nx:=u D} tk I h) λf s1 q=>?_);cases f with
 | next=>
  obtain⟨σ',H',I',q⟩:=q;exact h2 pins s1 σ' H' D I' q
 |ret v=>exact q
 |brk=>exact q
 |cont=>exact q
theorem Qi{g k:ao->So}{E:Ends}{σ:L2.St}{H:Hp}(h:tS X (aM g k) E σ H):tSeq (tS X g) (tS X k) E σ H:=by
 obtain⟨H0,O0,O,ρ,j,h⟩:=h;unfold aM at h;refine⟨H0,O0,O,ρ,j,?_⟩;cases e1:g ρ with
 |bad=>rw[e1] at h;exact h
 |rt d=>rw[e1] at h;exact h
 |bk ρ'=>rw[e1] at h;exact h
 |ct ρ'=>rw[e1] at h;exact h
 |ex c ρ'=>rw[e1] at h;exact h
 | nx ρ'=>
  rw[e1] at h;have h:uI X H0 O0 O H E (k ρ'):=h;exact λσ' H' O' j' r'=>⟨H0,O0,O',ρ',j',h.go r'⟩
theorem Xc{r:acI}{i:Int}{kk:Nat}{p1 p2 p3 p4:Pos}{op:afH}{b o:List acS}{st:acS}{rest:List acS}{g l k:ao->So}
  (h1:DS X (.If (.Compare (.Subscript e (.Constant (.int i) kk p1) p2) [op] [r] p3) b o p4) g)(h2:PSp X st (tS X l))(h3:jg X rest k):
  jg X (.If (.Compare (.Subscript e (.Constant (.int i) kk p1) p2) [op] [r] p3) b o p4::st::rest) (aM g (aM l k)):=by
 intro pins s σ H D I h;refine af2 (thn (Zq (h1 pins s σ H {D with nx:=tS X (aM l k) D} I (Qi h))) λf s1 bA=>?_);obtain⟨tk,q⟩:=bA;cases f with
 | next=>
  obtain⟨σ',H',I',q⟩:=q;exact U0 h2 h3 pins s1 σ' H' D tk I' (Qi q)
 |ret v=>exact q
 |brk=>exact q
 |cont=>exact q
end
end Pu
namespace yp
open PySem PySem.Spec L2 Pu
open PyProof.Rows hiding St
abbrev gv(n:Nat):ao->R D:=λρ=>bF ρ n
abbrev ci(i:Int):ao->R D:=λ_=> .ok (.int i)
abbrev nA:ao->R (List D):=λ_=> .ok []
abbrev tT:ao->R Bool:=λ_=> .ok true
def Ek:ao->So:=(retS (bin (dj (ak (bin (dj (ak (ci 0) nA)) (aF cg (ak (bin (gv 0) (ci 0) bU) nA)) xR) nA)) (aF cg (ak (gv 0) nA)) xR))
def qd:List D->R D:=bK 0 Ek
def wI:ao->So:=(retS (aF pA (ak (cu 2 [] (λρ=>((ak (gv 0) (ak (gv 1) nA)) ρ).bind zip2) (cD (cF 2 (aW (aJ 0) (aW (aJ 1) nilG)))) tT (bin (gv 0) (gv 1) bU)) nA)))
def pF:List D->R D:=bK 0 wI
def U3:ao->So:=(aM (bh (bin (aF cg (ak (gv 0) nA)) (ci 1) cP) (aJ 1)) (retS (cu 1 [1,0] (λρ=>((ak (aF cg (ak (gv 0) nA)) nA) ρ).bind jQ) (aJ 0) tT (aF xO (ak (bin (bin (gv 2) (aF maxD (ak (bin (gv 0) (ci 1) cP) (ak (ci 0) nA))) bU) (bin (gv 2) (aF minD (ak (bin (gv 0) (ci 1) gR) (ak (gv 1) nA))) bU) cP) nA)))))
def yq:List D->R D:=bK 1 U3
def yt:ao->So:=(aM (bh (bin (gv 0) (gv 1) bU) (aJ 2)) (aM (bh (bin (gv 0) (aF maxD (ak (bin (gv 1) (ci 1) cP) (ak (ci 0) nA))) bU) (aJ 3)) (aM (bh (bin (aF cg (ak (gv 2) nA)) (ci 1) cP) (aJ 4)) (aM (newL nA 5) (aM (lG (λρ=>((ak (aF (aN yq 1) (ak (gv 2) nA)) nA) ρ).bind sO) (cD (cF 2 (aW (aJ 6) (aW (aJ 7) nilG)))) (aM (bh (bin (gv 7) (aF xO (ak (bin (bin (gv 3) (gv 6) bU) (bin (gv 2) (aF maxD (ak (bin (gv 6) (ci 1) cP) (ak (ci 0) nA))) bU) cP) nA)) gR) (aJ 8)) (aM (bh (bin (gv 7) (aF xO (ak (bin (bin (gv 3) (gv 6) bU) (bin (gv 2) (aF minD (ak (bin (gv 6) (ci 1) gR) (ak (gv 4) nA))) bU) cP) nA)) gR) (aJ 9)) (mX 5 (dj (ak (gv 8) (ak (gv 7) (ak (gv 9) nA)))))))) (retS (gv 5)))))))
def qZ:List D->R D:=bK 8 yt
def Jd:ao->So:=(retS (pq (sG gj (gv 0)) (Ak (ci 1) (aF cg (ak (gv 0) nA)) (ci 20) wH wH)))
def oY:List D->R D:=bK 0 Jd
def El:ao->So:=(retS (pq (sG zT (gv 0)) (aac (sG vg (gv 0)))))
def jM:List D->R D:=bK 0 El
def Je:ao->So:=(retS (pq (aF (aN jM 1) (ak (gv 0) nA)) (Ak (ci 0) (gv 0) (ci 99) wH wH)))
def yu:List D->R D:=bK 0 Je
def Lq:ao->So:=(retS (pq (aF (aN oY 1) (ak (gv 0) nA)) (aF pB (ak (cu 1 [] (gQ (gv 0)) (aJ 0) tT (aF (aN yu 1) (ak (gv 0) nA))) nA))))
def Cg:List D->R D:=bK 0 Lq
def yw:ao->So:=(aM (cW (xu (jt (bM (aF (aN oY 1) (ak (gv 0) nA)))) (jt (bM (aF pB (ak (cu 1 [] (gQ (gv 0)) (aJ 0) tT (aF (aN Cg 1) (ak (gv 0) nA))) nA))))) (retS (λ_=> .ok (.bl false))) So.nx) (retS (aF pB (ak (cu 1 [0] (gQ (gv 0)) (aJ 0) tT (bin (aF cg (ak (gv 0) nA)) (aF cg (ak (bin (gv 1) (ci 0) bU) nA)) jO)) nA))))
def q8:List D->R D:=bK 0 yw
def uM:ao->So:=(cW (jt (bM (aF (aN q8 1) (ak (gv 0) nA)))) (λ_=> .bad) So.nx)
def d9:List D->R D:=bK 0 uM
def Jf:ao->So:=(aM (gJ (aF (aN d9 1) (ak (gv 0) nA))) (retS (dj (ak (aF cg (ak (bin (gv 0) (ci 0) bU) nA)) (ak (aF cg (ak (gv 0) nA)) nA)))))
def iu:List D->R D:=bK 0 Jf
def Lr:ao->So:=(aM (bh (aF (aN iu 1) (ak (gv 0) nA)) (cD (cF 2 (aW (aJ 1) (aW (aJ 2) nilG))))) (retS (aF pA (ak (cu 1 [2,0] (λρ=>((ak (gv 1) nA) ρ).bind jQ) (aJ 0) tT (aF pA (ak (cu 1 [2,0] (λρ=>((ak (gv 1) nA) ρ).bind jQ) (aJ 0) tT (bin (bin (gv 1) (gv 0) bU) (gv 2) bU)) nA))) nA))))
def iG:List D->R D:=bK 2 Lr
def Ls:ao->So:=(aM (bh (aF (aN iu 1) (ak (gv 0) nA)) (cD (cF 2 (aW (aJ 1) (aW (aJ 2) nilG))))) (aM (bh (cu 1 [] (gQ (gv 0)) (aJ 0) tT (aF (aN yq 1) (ak (gv 0) nA))) (aJ 3)) (aM (bh (cu 1 [] (gQ (aF (aN iG 1) (ak (gv 0) nA))) (aJ 0) tT (aF (aN yq 1) (ak (gv 0) nA))) (aJ 4)) (retS (aF pA (ak (cu 1 [3,4,1] (λρ=>((ak (gv 2) nA) ρ).bind jQ) (aJ 0) tT (aF pA (ak (cu 1 [1,2,0] (λρ=>((ak (gv 3) nA) ρ).bind jQ) (aJ 0) tT (bin (bin (bin (gv 1) (gv 3) bU) (gv 0) bU) (bin (bin (gv 2) (gv 0) bU) (gv 3) bU) gR)) nA))) nA))))))
def Ci:List D->R D:=bK 4 Ls
def Qj:ao->So:=(aM (cW (bM (bin (gv 1) (λ_=> .ok (.str "worth")) jO)) (retS (cu 1 [] (gQ (aF (aN Ci 1) (ak (gv 0) nA))) (aJ 0) tT (cu 1 [] (gQ (gv 0)) (aJ 0) tT (dj (ak (gv 0) (ak (gv 0) (ak (gv 0) nA))))))) So.nx) (retS (cu 1 [0] (λρ=>((ak (aF cg (ak (gv 0) nA)) nA) ρ).bind jQ) (aJ 0) tT (aF (aN qZ 2) (ak (gv 1) (ak (gv 0) nA))))))
def nu:List D->R D:=bK 0 Qj
def Jg:ao->So:=(retS (bin (bin (gv 0) (gv 2) bU) (bin (bin (gv 1) (gv 2) cP) (ci 1) gR) bU))
def gk:List D->R D:=bK 0 Jg
def U4:ao->So:=(retS (aF Rw (ak (aF maxD (ak (bin (gv 0) (ci 1) cP) (ak (ci 0) nA))) (ak (aF minD (ak (bin (gv 0) (ci 2) gR) (ak (gv 1) nA))) nA))))
def Lw:List D->R D:=bK 0 U4
def onB:ao->So:=(aM (bh (aF (aN gk 3) (ak (gv 1) (ak (gv 2) (ak (gv 4) nA)))) (aJ 5)) (BX 3 (cu 3 [5] (gQ (bin (gv 0) (gv 4) bU)) (cD (cF 3 (aW (aJ 0) (aW (aJ 1) (aW (aJ 2) nilG))))) tT (dj (ak (gv 0) (ak (bin (gv 1) (gv 3) gR) (ak (gv 2) nA)))))))
def Ly:ao->So:=(aM (newL nA 3) (aM (lG (gQ (aF (aN Lw 2) (ak (gv 2) (ak (aF cg (ak (gv 0) nA)) nA)))) (aJ 4) onB) (retS (gv 3))))
def vH:List D->R D:=bK 3 Ly
def Yi(aG:Nat)(GG:List D->R D):ao->So:=(cW (bM (bin (gv 8) (ci 1) jO)) (bh (u5 nA) (aJ 9)) (cW (jt (Le (gv 4))) (bh (zY 3 aG GG 2 (ak (gv 7) (ak (u5 (ak (dj (ak (ci 0) (ak (ci 0) (ak (gv 2) nA)))) nA)) nA))) (aJ 9)) (bh (zY 3 aG GG 2 (ak (gv 7) (ak (aF (aN vH 3) (ak (Uk 4 (aao (ci 1))) (ak (bin (gv 0) (bin (gv 5) (ci 1) gR) bU) (ak (gv 7) nA)))) nA))) (aJ 9))))
def Yj:ao->So:=(aM (bh (Dg (bM (bin (gv 8) (ci 2) jO)) (ci 1) (ci 0)) (aJ 10)) (mX 6 (cu 3 [10] (gQ (gv 9)) (cD (cF 3 (aW (aJ 0) (aW (aJ 1) (aW (aJ 2) nilG))))) tT (dj (ak (bin (gv 0) (gv 3) cP) (ak (gv 1) (ak (gv 2) nA)))))))
def inW(aG:Nat)(GG:List D->R D):ao->So:=(aM (Yi aG GG) Yj)
def Xd(aG:Nat)(GG:List D->R D):ao->So:=(aM (newL nA 6) (aM (lG (λρ=>((ak (bin (gv 1) (gv 5) bU) nA) ρ).bind sO) (cD (cF 2 (aW (aJ 7) (aW (aJ 8) nilG)))) (inW aG GG)) (K6 4 6)))
def Hh(aG:Nat)(GG:List D->R D):ao->So:=(aM (newL nA 4) (aM (lG (λρ=>((ak (aF cg (ak (gv 1) nA)) nA) ρ).bind K7) (aJ 5) (Xd aG GG)) (retS (J5 (gv 4)))))
def uN(aG:Nat)(GG:List D->R D)(ds:List D):R D:=eU 7 (Hh aG GG) (ds.map .val++[.obj (.fn aG)])
def yx:ao->So:=(retS (cu 3 [0] (gQ (m8 (aF lU (ak (gv 1) nA)) (λ_=> .ok none) (λρ=>((gv 2) ρ).bind KC))) (cD (cF 3 (aW (aJ 0) (aW (aJ 1) (aW (aJ 2) nilG))))) tT (dj (ak (gv 0) (ak (gv 1) (ak (bin (dj (ak (gv 3) nA)) (gv 2) gR) nA))))))
def c7(my:Int)(ds:List D):R D:=eU 0 yx (ds.map .val++[.val (.int my)])
def tV:ao->So:=(Rp 3 2 ((gv 0):ao->R D) ((gv 1):ao->R D) ((dj nA):ao->R D) uN c7)
def tW(ds:List D):R D:=eU 1 tV (ds.map .val)
def Em:ao->So:=(aM (newL nA 2) (aM (lG (λρ=>((ak (bin (gv 1) (ci 0) bU) nA) ρ).bind sO) (cD (cF 2 (aW (aJ 3) (aW (aJ 4) nilG)))) (aM (bh (aF (aN gk 3) (ak (bin (gv 0) (ci 0) bU) (ak (gv 3) (ak (gv 3) nA)))) (aJ 5)) (BX 2 (cu 3 [5] (gQ (gv 4)) (cD (cF 3 (aW (aJ 0) (aW (aJ 1) (aW (aJ 2) nilG))))) tT (dj (ak (gv 0) (ak (bin (gv 1) (gv 3) gR) (ak (gv 2) nA)))))))) (retS (gv 2))))
def vI:List D->R D:=bK 4 Em
def wJ:ao->So:=(retS (m8 (aF lU (ak (aF (aN vI 2) (ak (gv 0) (ak (aF (aN tW 3) (ak (gv 0) (ak (gv 1) (ak (gv 2) nA)))) nA))) nA)) (λ_=> .ok none) (λρ=>((gv 2) ρ).bind KC)))
def pG(ds:List D):R D:=eU 0 wJ (ds.map .val)
def Aq:ao->So:=(aM (bh (aF (aN pG 3) (ak (gv 0) (ak (gv 1) (ak (ci 1) nA)))) (aJ 2)) (aM (cW (jt (Le (gv 2))) (retS (λ_=> .ok .non)) So.nx) (aM (bh (bin (gv 2) (ci 0) bU) (cD (cF 3 (aW (aJ 3) (aW (aJ 4) (aW (aJ 5) nilG)))))) (retS (dj (ak (gv 4) (ak (gv 5) nA)))))))
def jX(ds:List D):R D:=eU 4 Aq (ds.map .val)
def Jh:ao->So:=(retS (aF pA (ak (cu 2 [] (λρ=>((ak (gv 0) (ak (gv 1) nA)) ρ).bind zip2) (cD (cF 2 (aW (aJ 0) (aW (aJ 1) nilG)))) tT (bin (qX (gv 0) (λ_=> .ok none) (λρ=>((gv 1) ρ).bind KC)) (qX (gv 0) (λρ=>((bin (gv 1) (ci 1) gR) ρ).bind KC) (λ_=> .ok none)) gR)) nA)))
def sX:List D->R D:=bK 0 Jh
def U5:ao->R Bool:=(bM (bin (aF cg (ak (gv 6) nA)) (gv 1) ltI))
def tkB:ao->So:=(aM (bh (aF (aN jX 2) (ak (aF (aN nu 2) (ak (gv 4) (ak (gv 2) nA))) (ak (gv 5) nA))) (aJ 8)) (aM (cW (bM (bin (gv 8) (λ_=> .ok .non) isD)) (retS (λ_=> .ok .non)) So.nx) (aM (bh (gv 8) (cD (cF 2 (aW (aJ 9) (aW (aJ 10) nilG))))) (aM (mX 6 (dj (ak (gv 10) (ak (aF (aN pF 2) (ak (gv 4) (ak (gv 10) nA))) nA)))) (aM (BL 7 (gv 9)) (GF 4 5 (aF (aN sX 2) (ak (gv 4) (ak (gv 10) nA))) (aF (aN sX 2) (ak (gv 5) (ak (gv 10) nA)))))))))
def Qk:ao->So:=(aM (GF 4 5 (gv 0) (gv 3)) (aM (newL nA 6) (aM (bh (ci 0) (aJ 7)) (aM (ig U5 tkB 64) (retS (dj (ak (gv 4) (ak (gv 6) (ak (gv 7) nA)))))))))
def uO(ds:List D):R D:=eU 7 Qk (ds.map .val)
def Ar:ao->So:=(aM (bh (aF (aN uO 4) (ak (gv 0) (ak (ci 1) (ak (gv 1) (ak (aF (aN qd 1) (ak (gv 0) nA)) nA))))) (cD (cF 3 (aW (aJ 2) (aW (aJ 3) (aW (aJ 4) nilG)))))) (retS (dj (ak (gv 4) (ak (gv 2) nA)))))
def jY(ds:List D):R D:=eU 3 Ar (ds.map .val)
def Lz:ao->So:=(aM (bh (aF (aN jY 2) (ak (aF (aN iG 1) (ak (gv 0) nA)) (ak (gv 1) nA))) (cD (cF 2 (aW (aJ 2) (aW (aJ 3) nilG))))) (retS (dj (ak (gv 2) (ak (aF (aN iG 1) (ak (gv 3) nA)) nA)))))
def vJ(ds:List D):R D:=eU 2 Lz (ds.map .val)
def En:ao->So:=(aM (cW (xu (jt (bM (sG zU (gv 0)))) (jt (bM (aF pB (ak (cu 1 [] (Li (gv 0)) (aJ 0) tT (bin (gv 0) (dj (ak (λ_=> .ok (.str "c")) (ak (λ_=> .ok (.str "r")) nA))) (Ip false))) nA))))) (retS (λ_=> .ok (.bl false))) So.nx) (retS (pq (bin (Lj (gv 0) (λ_=> .ok (.str "c"))) (aF cg (ak (bin (gv 1) (ci 0) bU) nA)) ltI) (bin (Lj (gv 0) (λ_=> .ok (.str "r"))) (aF cg (ak (gv 1) nA)) ltI))))
def qe:List D->R D:=bK 0 En
def wK:ao->So:=(cW (bM (bin (gv 0) (λ_=> .ok (.tup [.str "worth",.str "joins"])) (Ip true))) (λ_=> .bad) So.nx)
def fL:List D->R D:=bK 0 wK
def boB:ao->So:=(bh (Dg (bM (bin (gv 4) (λ_=> .ok (.str "c")) jO)) (aF (aN jY 2) (ak (gv 3) (ak (gv 2) nA))) (aF (aN vJ 2) (ak (gv 3) (ak (gv 2) nA)))) (cD (cF 2 (aW (aJ 5) (aW (aJ 3) nilG)))))
def Eo:ao->So:=(aM (gJ (aF (aN d9 1) (ak (gv 0) nA))) (aM (gJ (aF (aN fL 1) (ak (gv 2) nA))) (aM (cW (jt (bM (aF (aN qe 2) (ak (gv 1) (ak (gv 0) nA))))) (λρ=> .ex "NoDeeds" ρ) So.nx) (aM (bh (gv 0) (aJ 3)) (aM (lG (Li (gv 1)) (aJ 4) boB) (retS (gv 3)))))))
def iw:List D->R D:=bK 3 Eo
def LC:ao->So:=(aM (cW (xu (jt (bM (sG gj (gv 0)))) (bM (bin (aF cg (ak (gv 0) nA)) (gv 2) lH))) (retS (λ_=> .ok (.bl false))) So.nx) (aM (cW (jt (bM (aF pB (ak (cu 1 [1] (gQ (gv 0)) (aJ 0) tT (pq (aF (aN jM 1) (ak (gv 0) nA)) (Ak (ci 0) (gv 0) (gv 1) wH ltI))) nA)))) (retS (λ_=> .ok (.bl false))) So.nx) (retS (aF pB (ak (cu 1 [0] (λρ=>((ak (ci 1) (ak (gv 2) nA)) ρ).bind Bu) (aJ 0) tT (bin (aF xO (ak (bin (bin (gv 1) (gv 0) bU) (bin (gv 1) (bin (gv 0) (ci 1) cP) bU) cP) nA)) (ci 1) wH)) nA)))))
def Cj:List D->R D:=bK 0 LC
def Ji:ao->So:=(aM (bh (aF (aN iu 1) (ak (gv 1) nA)) (cD (cF 2 (aW (aJ 2) (aW (aJ 3) nilG))))) (retS (aF (aN Cj 3) (ak (gv 0) (ak (gv 2) (ak (gv 3) nA))))))
def yC:List D->R D:=bK 2 Ji
def Av:ao->So:=(cW (jt (bM (aF (aN yC 2) (ak (gv 0) (ak (gv 1) nA))))) (λ_=> .bad) So.nx)
def tX:List D->R D:=bK 0 Av
def Ep:ao->So:=(aM (bh (aF (aN gk 3) (ak (bin (gv 0) (ci 0) bU) (ak (bin (gv 1) (ci 0) bU) (ak (bin (gv 1) (ci 0) bU) nA)))) (aJ 2)) (aM (lG (λρ=>((ak (ci 1) (ak (aF cg (ak (gv 1) nA)) nA)) ρ).bind Bu) (aJ 3) (BL 2 (aF (aN gk 3) (ak (bin (gv 0) (gv 3) bU) (ak (bin (gv 1) (bin (gv 3) (ci 1) cP) bU) (ak (bin (gv 1) (gv 3) bU) nA)))))) (retS (gv 2))))
def vK:List D->R D:=bK 2 Ep
def Jj:ao->So:=(aM (gJ (aF (aN d9 1) (ak (gv 0) nA))) (aM (gJ (aF (aN fL 1) (ak (gv 2) nA))) (aM (gJ (aF (aN tX 2) (ak (gv 1) (ak (gv 0) nA)))) (retS (aF (aN vK 2) (ak (aF (aN nu 2) (ak (gv 0) (ak (gv 2) nA))) (ak (gv 1) nA)))))))
def sY:List D->R D:=bK 0 Jj
def Jk:ao->So:=(retS (pq (aF (aN jM 1) (ak (gv 0) nA)) (Ak (ci 0) (gv 0) (ci 2) wH wH)))
def Jl:List D->R D:=bK 0 Jk
def uP:ao->So:=(retS (pq (sG gj (gv 0)) (pq (bin (aF cg (ak (gv 0) nA)) (gv 1) jO) (aF pB (ak (cu 1 [] (gQ (gv 0)) (aJ 0) tT (aF (aN Jl 1) (ak (gv 0) nA))) nA)))))
def uQ:List D->R D:=bK 0 uP
def Er:ao->So:=(aM (cW (xu (jt (bM (sG gj (gv 0)))) (bM (bin (aF cg (ak (gv 0) nA)) (aF cg (ak (gv 1) nA)) lH))) (retS (λ_=> .ok (.bl false))) So.nx) (retS (aF pB (ak (cu 1 [1] (gQ (gv 0)) (aJ 0) tT (aF (aN uQ 2) (ak (gv 0) (ak (aF cg (ak (bin (gv 1) (ci 0) bU) nA)) nA)))) nA))))
def Es:List D->R D:=bK 0 Er
def yD:ao->So:=(aM (cW (bM (bin (gv 0) (λ_=> .ok .non) isD)) (retS (aF (aN qd 1) (ak (gv 1) nA))) So.nx) (aM (cW (jt (bM (aF (aN Es 2) (ak (gv 0) (ak (gv 1) nA))))) (λ_=> .bad) So.nx) (retS (gv 0))))
def gF:List D->R D:=bK 0 yD
def Et:ao->So:=(aM (gJ (aF (aN d9 1) (ak (gv 0) nA))) (aM (gJ (aF (aN fL 1) (ak (gv 1) nA))) (aM (bh (aF (aN gF 2) (ak (gv 2) (ak (gv 0) nA))) (aJ 3)) (retS (dj (ak (aF (aN nu 2) (ak (gv 0) (ak (gv 1) nA))) (ak (gv 3) nA)))))))
def vL:List D->R D:=bK 1 Et
def yE:ao->So:=(aM (bh (aF (aN vL 3) (ak (gv 0) (ak (gv 1) (ak (gv 2) nA)))) (cD (cF 2 (aW (aJ 3) (aW (aJ 4) nilG))))) (aM (bh (aF (aN jX 2) (ak (gv 3) (ak (gv 4) nA))) (aJ 5)) (aM (cW (bM (bin (gv 5) (λ_=> .ok .non) isD)) (retS (λ_=> .ok .non)) So.nx) (retS (bin (gv 5) (ci 1) bU)))))
def lW(ds:List D):R D:=eU 3 yE (ds.map .val)
def coB:ao->So:=(aM (bh (cX iw 3 1 [.inl 0] (ak (gv 0) (ak (G8 (gv 1) (λ_=> .ok none) (λρ=>((gv 4) ρ).bind KC)) nA)) (ak (gv 2) nA)) (aJ 6)) (aM (bh (Dg (bM (bin (gv 5) (λ_=> .ok (.str "c")) jO)) (gv 6) (aF (aN iG 1) (ak (gv 6) nA))) (aJ 7)) (bh (bin (gv 3) (vh sY 3 1 [.inl 0] (ak (gv 7) (ak (vh lW 3 1 [.inl 0,.inr .non] (ak (gv 7) nA) (ak (gv 2) nA)) nA)) (ak (gv 2) nA)) gR) (aJ 3))))
def yF:ao->So:=(aM (bh (ci 0) (aJ 3)) (aM (lG (λρ=>((ak (gv 1) nA) ρ).bind sW) (cD (cF 2 (aW (aJ 4) (aW (aJ 5) nilG)))) coB) (retS (gv 3))))
def lX(ds:List D):R D:=eU 5 yF (ds.map .val)
def yG:ao->So:=(aM (bh (bin (ci 7) (gv 1) gA) (aJ 3)) (aM (cW (bM (bin (gv 0) (u5 nA) lH)) (aM (bh (bin (gv 0) (bin (gv 1) (aF cg (ak (gv 0) nA)) fK) bU) (aJ 3)) (aM (bh (bin (gv 1) (aF cg (ak (gv 0) nA)) gP) (aJ 4)) (aM (cW (jP (bM (bin (gv 3) (bin (ci 10) (ci 18) tO) Tj)) (bM (bin (gv 4) (ci 60) ltI))) (aM (bh (bin (gv 3) (bin (ci 10) (ci 18) tO) gP) (aJ 5)) (aM (ig (jP (bM (bin (gv 5) (ci 0) pZ)) (bM (bin (gv 4) (ci 0) pZ))) (aM (bh (bin (gv 5) (ci 1000000) gP) (aJ 5)) (bh (bin (gv 4) (ci 1) cP) (aJ 4))) 64) (cW (bM (bin (gv 5) (ci 0) pZ)) (retS (bin (bin (gv 5) (ci 1000000) fK) (gv 2) fK)) So.nx))) So.nx) (bh (bin (gv 3) (bin (ci 6553) (bin (gv 1) (aF cg (ak (gv 0) nA)) gP) gA) fW) (aJ 3))))) So.nx) (aM (bh (bin (bin (bin (bin (gv 3) (ci 2147483563) fK) (ci 69069) gA) (bin (ci 104723) (bin (gv 1) (ci 1) fW) gA) fW) (ci 2147483563) fK) (aJ 3)) (aM (bh (bin (bin (bin (gv 3) (gv 3) gA) (bin (gv 3) (ci 3) gP) fW) (ci 2147483399) fK) (aJ 3)) (retS (bin (bin (bin (bin (bin (gv 3) (gv 3) gA) (bin (gv 3) (ci 7) gP) fW) (ci 2147483647) fK) (ci 11) gP) (gv 2) fK))))))
def cR:List D->R D:=bK 3 yG
def wL:ao->So:=(retS (bin (u5 (ak (λ_=> .ok (.str "worth")) (ak (λ_=> .ok (.str "joins")) nA))) (aF (aN cR 3) (ak (gv 0) (ak (gv 1) (ak (ci 2) nA)))) bU))
def pH:List D->R D:=bK 0 wL
def uR:ao->So:=(aM (Kv 4 5 (bin (u5 (ak (ci 2) (ak (ci 5) (ak (ci 100) (ak (ci 10) nA))))) (aF (aN cR 3) (ak (gv 0) (ak (gv 1) (ak (ci 4) nA)))) bU) nA) (aM (lG (λρ=>((ak (gv 3) nA) ρ).bind jQ) (aJ 6) (mX 5 (aF pA (ak (cu 1 [1,2,4,0,6] (λρ=>((ak (gv 2) nA) ρ).bind jQ) (aJ 0) tT (aF (aN cR 3) (ak (gv 4) (ak (bin (bin (bin (gv 1) (ci 1) fW) (bin (gv 2) (gv 5) gA) fW) (gv 0) fW) (ak (gv 3) nA))))) nA)))) (retS (aF pA (ak (gv 5) nA)))))
def jN:List D->R D:=bK 3 uR
def Aw(FB:List D->R D):ao->So:=(aM (cW (jP (bM (bin (gv 1) (ci 0) jO)) (bM (bin (gv 2) (ci 0) jO))) (retS (dj (ak (ci 0) (ak (λ_=> .ok (.str "")) nA)))) So.nx) (aM (newL nA 4) (aM (cW (bM (bin (gv 2) (ci 0) pZ)) (aM (bh (aF (aN jY 2) (ak (gv 0) (ak (gv 3) nA))) (cD (cF 2 (aW (aJ 5) (aW (aJ 6) nilG))))) (aM (bh (aF (aN FB 4) (ak (gv 6) (ak (gv 1) (ak (bin (gv 2) (ci 1) cP) (ak (gv 3) nA))))) (cD (cF 2 (aW (aJ 7) (aW (aJ 8) nilG))))) (mX 4 (dj (ak (bin (gv 5) (gv 7) lV) (ak (bin (λ_=> .ok (.str "c")) (gv 8) lV) nA)))))) So.nx) (aM (cW (bM (bin (gv 1) (ci 0) pZ)) (aM (bh (aF (aN vJ 2) (ak (gv 0) (ak (gv 3) nA))) (cD (cF 2 (aW (aJ 5) (aW (aJ 6) nilG))))) (aM (bh (aF (aN FB 4) (ak (gv 6) (ak (bin (gv 1) (ci 1) cP) (ak (gv 2) (ak (gv 3) nA))))) (cD (cF 2 (aW (aJ 7) (aW (aJ 8) nilG))))) (mX 4 (dj (ak (bin (gv 5) (gv 7) lV) (ak (bin (λ_=> .ok (.str "r")) (gv 8) lV) nA)))))) So.nx) (retS (aF Ec (ak (gv 4) nA)))))))
def cT:Nat->List D->R D
 |0=>λds=>eU 5 (λ_=> .bad) (ds.map .val)
 |j+1=>λds=>eU 5 (Aw (cT j)) (ds.map .val)
def Ax:List D->R D:=cT 5
def yH:ao->So:=(cW (xu (jt (bM (aF (aN jM 1) (ak (gv 0) nA)))) (jt (bM (Ak (gv 1) (gv 0) (gv 2) wH wH)))) (Ye (ak (fsV "the width is to be a whole number from " " to " (gv 1) (gv 2)) nA) "NoWidth") So.nx)
def jC:List D->R D:=bK 0 yH
def yI:ao->So:=(aM (bh (aF (aN iu 1) (ak (gv 0) nA)) (cD (cF 2 (aW (aJ 4) (aW (aJ 5) nilG))))) (aM (gJ (aF (aN fL 1) (ak (gv 3) nA))) (aM (gJ (cX jC 3 0 [] (ak (gv 1) (ak (ci 0) (ak (aF minD (ak (ci 4) (ak (bin (gv 5) (ci 1) cP) nA))) nA))) nA)) (aM (gJ (cX jC 3 0 [] (ak (gv 2) (ak (ci 0) (ak (aF minD (ak (ci 4) (ak (bin (gv 4) (ci 1) cP) nA))) nA))) nA)) (retS (aF (aN Ax 4) (ak (gv 0) (ak (gv 1) (ak (gv 2) (ak (gv 3) nA))))))))))
def jD:List D->R D:=bK 2 yI
def Eu:ao->So:=(aM (gJ (aF (aN d9 1) (ak (gv 0) nA))) (aM (gJ (aF (aN fL 1) (ak (gv 2) nA))) (aM (bh (aF (aN gF 2) (ak (gv 3) (ak (gv 0) nA))) (aJ 4)) (aM (gJ (cX jC 3 0 [] (ak (gv 1) (ak (ci 1) (ak (aF cg (ak (bin (gv 0) (ci 0) bU) nA)) nA))) nA)) (retS (aF (aN uO 4) (ak (gv 0) (ak (bin (aF cg (ak (bin (gv 0) (ci 0) bU) nA)) (gv 1) cP) (ak (gv 2) (ak (gv 4) nA))))))))))
def qg:List D->R D:=bK 1 Eu
def U6:ao->So:=(retS (bin (cX qg 4 0 [] (ak (gv 0) (ak (gv 1) (ak (gv 2) (ak (λ_=> .ok .non) nA)))) nA) (ci 2) bU))
def Ew:List D->R D:=bK 0 U6
def Ey:ao->So:=(aM (bh (cX qg 4 0 [] (ak (gv 0) (ak (gv 1) (ak (gv 2) (ak (gv 3) nA)))) nA) (aJ 4)) (aM (cW (bM (bin (gv 4) (λ_=> .ok .non) isD)) (retS (λ_=> .ok .non)) So.nx) (retS (bin (gv 4) (ci 0) bU))))
def qj:List D->R D:=bK 1 Ey
def lwB:ao->So:=(aM (bh (bin (bin (λ_=> .ok (.str "c")) (gv 6) Ce) (bin (λ_=> .ok (.str "r")) (gv 5) Ce) lV) (aJ 10)) (aM (bh (aF Ej (ak (cu 2 [9,0] (λρ=>((ak (gv 10) nA) ρ).bind sW) (cD (cF 2 (aW (aJ 0) (aW (aJ 1) nilG)))) tT (dj (ak (aF (aN cR 3) (ak (gv 3) (ak (bin (bin (ci 70) (bin (ci 5) (gv 2) xR) lV) (gv 0) lV) (ak (ci 99) nA)))) (ak (gv 1) nA)))) nA)) (aJ 11)) (aM (bh (J8 (λ_=> .ok (.str "")) (cu 2 [] (gQ (gv 11)) (cD (cF 2 (aW (aJ 0) (aW (aJ 1) nilG)))) tT (gv 1))) (aJ 12)) (aM (bh (aF (aN lX 3) (ak (gv 1) (ak (gv 12) (ak (gv 4) nA)))) (aJ 13)) (cW (xu (bM (bin (gv 13) (gv 7) ltI)) (jP (bM (bin (gv 13) (gv 7) jO)) (bM (bin (gv 12) (gv 8) ltS)))) (retS (λ_=> .ok (.bl false))) So.nx)))))
def Yk:ao->So:=(aM (bh (aF (aN jN 4) (ak (gv 0) (ak (ci 2) (ak (bin (ci 3) (aF (aN cR 3) (ak (gv 0) (ak (ci 0) (ak (ci 3) nA)))) lV) (ak (bin (ci 3) (aF (aN cR 3) (ak (gv 0) (ak (ci 1) (ak (ci 2) nA)))) lV) nA))))) (aJ 1)) (aM (bh (aF (aN iu 1) (ak (gv 1) nA)) (cD (cF 2 (aW (aJ 2) (aW (aJ 3) nilG))))) (aM (Lh 4 5 6 (aF (aN pH 2) (ak (gv 0) (ak (ci 60) nA))) (aF (aN cR 3) (ak (gv 0) (ak (ci 61) (ak (ci 3) nA)))) (aF (aN cR 3) (ak (gv 0) (ak (ci 62) (ak (ci 3) nA))))) (aM (bh (cX jD 4 1 [.inl 0] (ak (gv 1) (ak (gv 5) (ak (gv 6) nA))) (ak (gv 4) nA)) (cD (cF 2 (aW (aJ 7) (aW (aJ 8) nilG))))) (aM (cW (xu (bM (bin (Lj (gv 8) (λ_=> .ok (.str "c"))) (gv 6) lH)) (xu (bM (bin (Lj (gv 8) (λ_=> .ok (.str "r"))) (gv 5) lH)) (bM (bin (aF W2 (ak (gv 8) nA)) (bin (gv 5) (gv 6) lV) lH)))) (retS (λ_=> .ok (.bl false))) So.nx) (aM (cW (bM (bin (aF (aN iu 1) (ak (cX iw 3 1 [.inl 0] (ak (gv 1) (ak (gv 8) nA)) (ak (gv 4) nA)) nA)) (dj (ak (bin (gv 2) (gv 6) cP) (ak (bin (gv 3) (gv 5) cP) nA))) lH)) (retS (λ_=> .ok (.bl false))) So.nx) (aM (cW (bM (bin (aF (aN lX 3) (ak (gv 1) (ak (gv 8) (ak (gv 4) nA)))) (gv 7) lH)) (retS (λ_=> .ok (.bl false))) So.nx) (aM (lG (λρ=>((ak (ci 3) nA) ρ).bind jQ) (aJ 9) lwB) (aM (cW (bM (bin (bin (cX jD 4 1 [.inl 0] (ak (aF (aN iG 1) (ak (gv 1) nA)) (ak (gv 6) (ak (gv 5) nA))) (ak (gv 4) nA)) (ci 0) bU) (gv 7) lH)) (retS (λ_=> .ok (.bl false))) So.nx) (aM (bh (Hf "x" "r" (Hf "r" "c" (Hf "c" "x" (gv 8)))) (aJ 12)) (aM (cW (bM (bin (cX iw 3 1 [.inl 0] (ak (aF (aN iG 1) (ak (gv 1) nA)) (ak (gv 12) nA)) (ak (gv 4) nA)) (aF (aN iG 1) (ak (cX iw 3 1 [.inl 0] (ak (gv 1) (ak (gv 8) nA)) (ak (gv 4) nA)) nA)) lH)) (retS (λ_=> .ok (.bl false))) So.nx) (aM (bh (dj (ak (cX Ew 3 1 [.inl 0] (ak (gv 1) (ak (bin (gv 2) (gv 6) cP) nA)) (ak (gv 4) nA)) (ak (bin (λ_=> .ok (.str "c")) (gv 6) Ce) nA))) (aJ 14)) (aM (cW (bM (bin (cX jD 4 1 [.inl 0] (ak (gv 1) (ak (ci 0) (ak (gv 6) nA))) (ak (gv 4) nA)) (gv 14) lH)) (retS (λ_=> .ok (.bl false))) So.nx) (retS (bin (cX iw 3 1 [.inl 0] (ak (gv 1) (ak (bin (λ_=> .ok (.str "c")) (gv 6) Ce) nA)) (ak (gv 4) nA)) (cX qj 4 1 [.inl 0,.inr .non] (ak (gv 1) (ak (bin (gv 2) (gv 6) cP) nA)) (ak (gv 4) nA)) jO)))))))))))))))
def Ez(ds:List D):R D:=eU 14 Yk (ds.map .val)
end yp
namespace yp
open PySem PySem.Spec L2 Pu
variable{m j c:Int}{L:List (List Bool)}{l':List Bool}{ds acc:List D}{F:List D->R D}{cs:List Wy}{a k:Nat}{s:Nat->Nat}{e1 e10 e0 e9 e8 e2:Option Ent}{r:R D}{fa:ao->R (List D)}{u:ao->R D}{b:Wy}
def row(w:Nat)(f:Nat->Int):D:= .tup ((acD w).map λx=> .int (f x))
def bH(w h:Nat)(f:Nat->Nat->Int):D:= .tup ((acD h).map λy=>row w (f y))
structure Ok(w h:Nat)(f:Nat->Nat->Int):Prop where
 w1:1<=w
 w2:w<=20
 h1:1<=h
 h2:h<=20
 c:∀y<h,∀x<w,0<=f y x/\f y x<=99
theorem sZ{i:Int}(h:i<=j):wH (.int i) (.int j)= .ok (.bl true):=by
 show R.ok (D.bl (decide (i<=j)))=_;rw[decide_eq_true h]
theorem EY(h1:1<=ds.length)(h2:ds.length<=20):oY [.tup ds]= .ok (.bl true):=
 bZ (bx (xK rfl (Dl rfl (aY (aq rfl) rfl) (sZ (by omega)) rfl (sZ (by omega)))))
theorem tY{i:Int}:jM [.int i]= .ok (.bl true):=rfl
theorem RJ{i:Int}(h0:0<=i)(h1:i<=99):yu [.int i]= .ok (.bl true):=by
 exact bZ (bx (xK (aQ (aq rfl) tY) (Dl rfl rfl (sZ h0) rfl (sZ h1))))
theorem U7{w:Nat}{f:Nat->Int}(h1:1<=w)(h2:w<=20)(hc:∀x<w,0<=f x/\f x<=99):Cg [row w f]= .ok (.bl true):=by
 refine bZ (bx (xK (aQ (aq rfl) (EY (by simpa using h1) (by simpa using h2))) (aY (aq (cj (c:=λx=> .int (f x)) (h:=λ_=> .bl true) (l:=acD w) (lg rfl) (by rw[z2d];omega) λx hx=>?_)) qF)));obtain⟨a,b⟩:=hc x (z2e hx);exact cJ rfl (aQ (aq rfl) (RJ a b))
section
variable{w h:Nat}{f:Nat->Nat->Int}
theorem JC(o:Ok w h f):q8 [bH w h f]= .ok (.bl true):=by
 have e1:oY [bH w h f]= .ok (.bl true):=EY (by simpa using o.h1) (by simpa using o.h2);refine bZ (aH (bV (qT (gD (aV (aQ (aq rfl) e1))) (gD (aV (aY (aq (cj (c:=λy=>row w (f y)) (h:=λ_=> .bl true) (l:=acD h) (lg rfl) (by rw[z2d];have:=o.h2;omega) λy hy=>?_)) qF)))) rfl) (bx (aY (aq (cj (c:=λy=>row w (f y)) (h:=λ_=> .bl true) (l:=acD h) (lg rfl) (by rw[z2d];have:=o.h2;omega) λy hy=>?_)) qF)))
 ·exact cJ rfl (aQ (aq rfl) (U7 o.w1 o.w2 (o.c y (z2e hy))))
 ·refine cJ rfl (aA (aY (aq rfl) rfl) (aY (aq (aA rfl rfl (iY (i:=0) (d:=row w (f 0)) ?_))) rfl) (Ky ?_ ?_))
  ·rw[z2b,ac3 o.h1];rfl
  ·simp
  ·simp[dep]
theorem uT(o:Ok w h f):d9 [bH w h f]= .ok .non:=Dm (bV (gD (aV (aQ (aq rfl) (JC o)))) rfl)
theorem size_eq(o:Ok w h f):iu [bH w h f]= .ok (.tup [.int w,.int h]):=by
 refine bZ (aH (fG (aQ (aq rfl) (uT o))) (bx (cH (aB (aY (aq (aA rfl rfl (iY (i:=0) (d:=row w (f 0)) ?_))) ?_) (aq (aY (aq rfl) ?_))))))
 ·rw[z2b,ac3 o.h1];rfl
 ·simp[row,cg]
 ·simp[bH,cg]
theorem tu(o:Ok w h f):iG [bH w h f]= .ok (bH h w λy x=>f x y):=by
 refine bZ (aH (aR (aQ (aq rfl) (size_eq o)) rfl) (bx (aY (aq (cj (c:=λ(x:Nat)=> .int (x:Int)) (h:=λx=>row h λy=>f y x) (l:=acD w) (oW (aq rfl) (by have:=o.w2;omega)) (by rw[z2d];have:=o.w2;omega) λx hx=>?_)) rfl)));refine cJ rfl (aY (aq (cj (c:=λ(y:Nat)=> .int (y:Int)) (h:=λy=> .int (f y x)) (l:=acD h) (oW (aq rfl) (by have:=o.h2;omega)) (by rw[z2d];have:=o.h2;omega) λy hy=>?_)) rfl);refine cJ rfl (aA (aA rfl rfl (iY (i:=y) (d:=row w (f y)) ?_)) rfl (iY (i:=x) ?_))
 ·rw[z2b,ac3 (z2e hy)];rfl
 ·rw[z2b,ac3 (z2e hx)];rfl
end
def Xe:ao->So:=(mX 5 (aF pA (ak (cu 1 [1,2,4,0,6] (λρ=>((ak (gv 2) nA) ρ).bind jQ) (aJ 0) tT (aF (aN cR 3) (ak (gv 4) (ak (bin (bin (bin (gv 1) (ci 1) fW) (bin (gv 2) (gv 5) gA) fW) (gv 0) fW) (ak (gv 3) nA))))) nA)))
section
variable{ns:List Int}{a m:Int}{w h:Nat}
def vA(d:D):Option Ent:=some (.val d)
theorem aaQ(hns:ns.length<=1000000)(ha:0<=a)(hm:0<m)(hw:w<=20){y:Nat}{tl:Option Ent}(hl:acc.length<1000000):
  Xe [vA (.lst (ns.map .int)),vA (.int a),vA (.int (w:Int)),tl,vA (.int m),some (.lst acc),vA (.int (y:Int))] =
   .nx [vA (.lst (ns.map .int)),vA (.int a),vA (.int (w:Int)),tl,vA (.int m),some (.lst (acc++[row w λx=>dr ns (a+1+(w:Int)*(y:Int)+(x:Int)) m])),vA (.int (y:Int))]:=by
 have e:aF pA (ak (cu 1 [1,2,4,0,6] (λρ=>((ak (gv 2) nA) ρ).bind jQ) (aJ 0) tT (aF (aN cR 3) (ak (gv 4) (ak (bin (bin (bin (gv 1) (ci 1) fW) (bin (gv 2) (gv 5) gA) fW) (gv 0) fW) (ak (gv 3) nA))))) nA)
   [vA (.lst (ns.map .int)),vA (.int a),vA (.int (w:Int)),tl,vA (.int m),some (.lst acc),vA (.int (y:Int))]= .ok (row w λx=>dr ns (a+1+(w:Int)*(y:Int)+(x:Int)) m):=by
  refine aY (aq (cj (c:=λ(x:Nat)=>D.int (x:Int)) (h:=λ(x:Nat)=>D.int (dr ns (a+1+(w:Int)*(y:Int)+(x:Int)) m)) (l:=acD w) (oW (aq rfl) (by omega)) (by rw[z2d];omega) λx hx=>?_)) rfl;refine cJ rfl (aQ (aB rfl (aB (aA (aA (aA rfl rfl rfl) (aA rfl rfl (lM (.inl ⟨by omega,by omega⟩))) rfl) rfl rfl) (aq rfl))) ?_);have hp:(0:Int)<=(w:Int)*(y:Int):=Int.mul_nonneg (by omega) (by omega);exact (qb hns (by omega) hm).1
 unfold Xe mX;rw[e];show (if acc.length<1000000 then So.nx _ else .bad)=_;rw[if_pos hl];rfl
theorem LK(hns:ns.length<=1000000)(ha:0<=a)(hm:0<m)(hw:w<=20){tl:Option Ent}:∀{ys:List Nat} {acc:List D} {x:Option Ent},acc.length+ys.length<=1000000->
  ∃x',forL (aJ 6) Xe (ys.map λ(y:Nat)=>D.int (y:Int)) [vA (.lst (ns.map .int)),vA (.int a),vA (.int (w:Int)),tl,vA (.int m),some (.lst acc),x] =
   .nx [vA (.lst (ns.map .int)),vA (.int a),vA (.int (w:Int)),tl,vA (.int m),some (.lst (acc++ys.map λ(y:Nat)=>row w λx=>dr ns (a+1+(w:Int)*(y:Int)+(x:Int)) m)),x']
 |[],acc,x,_=>⟨x,by rw[afa,afa,adp];rfl⟩
 | y::ys,acc,x,hl=>by
  rw[acX] at hl;obtain⟨x',e⟩:=LK hns ha hm hw (tl:=tl) (ys:=ys) (acc:=acc++[row w λx=>dr ns (a+1+(w:Int)*(y:Int)+(x:Int)) m]) (x:=vA (.int (y:Int))) (by rw[z1d];simp only[acX,ad8];omega);refine⟨x',?_⟩;rw[aeg] at e;rw[z1h,z1h];exact dN rfl (aaQ hns ha hm hw (by omega)) e
theorem RK(hns:ns.length<=1000000)(ha:0<=a)(hw:w<=20)(hw1:1<=w)(hh:h<=20)(hh1:1<=h):∃f,jN [.lst (ns.map .int),.int a,.int (w:Int),.int (h:Int)]= .ok (bH w h f)/\Ok w h f:=by
 obtain⟨e1,h0,h4⟩:=qb (k:=a) (m:=4) hns ha (by omega);obtain⟨d,hd,ed⟩:=GJ (xs:=[D.int 2,.int 5,.int 100,.int 10]) h0 h4;have hm:∃m,d= .int m/\0<m/\m<=100:=by
  simp only[acR,adW,or_false] at hd;rcases hd with rfl |rfl |rfl |rfl
  ·exact⟨_,rfl,by omega,by omega⟩
  ·exact⟨_,rfl,by omega,by omega⟩
  ·exact⟨_,rfl,by omega,by omega⟩
  ·exact⟨_,rfl,by omega,by omega⟩
 obtain⟨m,rfl,hm0,hm1⟩:=hm;obtain⟨x',er⟩:=LK hns ha hm0 hw (tl:=vA (.int (h:Int))) (ys:=acD h) (acc:=[]) (x:=none) (by rw[z2d,ad8];omega);refine⟨λy x=>dr ns (a+1+(w:Int)*(y:Int)+(x:Int)) m,bZ (aH (ρ':=[vA (.lst (ns.map .int)),vA (.int a),vA (.int (w:Int)),vA (.int (h:Int)),vA (.int m),some (.lst []),none]) ?_ (aH (jV (oW (m:=h) (aq rfl) (by omega)) er) (bx (aY (aq (x:= .lst ((acD h).map λ(y:Nat)=>row w λx=>dr ns (a+1+(w:Int)*(y:Int)+(x:Int)) m)) rfl) rfl)))),hw1,hw,hh1,hh,λy hy x hx=>?_⟩
 ·exact YB (aA (x:= .lst [D.int 2,.int 5,.int 100,.int 10]) (y:= .int (dr ns a 4)) (oV rfl) (aQ (aB rfl (aB rfl (aq rfl))) e1) (xM ed)) rfl
 ·have hp:(0:Int)<=(w:Int)*(y:Int):=Int.mul_nonneg (by omega) (by omega);have:=(qb (k:=a+1+(w:Int)*(y:Int)+(x:Int)) (m:=m) hns (by omega) hm0).2;show 0<=dr _ _ _/\dr _ _ _<=99;omega
end
section
variable{w h:Nat}{f g:Nat->Nat->Int}
theorem Xf{α β:Type}{p q:α->β}{l:List α}(e:∀a∈l,p a=q a):l.map p=l.map q:=adG e
theorem Ql:dep (bH w h f)<=40:=by
 unfold bH;rw[dep];have:=zV (c:=λy=>row w (f y)) (n:=1) (l:=acD h) (λy _=>by
  unfold row;rw[dep];have:=zV (c:=λx=>D.int (f y x)) (n:=0) (l:=acD w) (λx _=>by simp[dep]);omega)
 omega
end
structure vM(w h:Nat)(s:Nat->Nat):Prop where
 lt:∀y<h,s y<w
 st:∀y,y+1<h->s (y+1)<=s y+1/\s y<=s (y+1)+1
abbrev sm(h:Nat)(s:Nat->Nat):D:=row h λy=>((s y:Nat):Int)
section
variable{ρ:ao}{fa:ao->R (List D)}{α:Type}{l:List α}{p q r:α->D}{x y z:D}
theorem Qm{m:Nat}(e:fa ρ= .ok [.int 1,.int (m:Int)])(h:m<2^62):(λρ=>(fa ρ).bind Bu) ρ= .ok ((acD (m - 1)).map λ(i:Nat)=>D.int ((i+1:Nat):Int)):=by
 show (fa ρ).bind Bu=_;rw[e,R.bw,Bu,if_pos ⟨by omega,by omega,by omega,by omega⟩];unfold upto;rw[show ((m:Int) - 1).toNat=m - 1 by omega];refine congrArg R.ok (Xf λi _=>?_);rw[show (1:Int)+(i:Int)=((i+1:Nat):Int) by omega]
theorem Qn(e:fa ρ= .ok [x,y])(h1:je x= .ok (l.map p))(h2:je y= .ok (l.map q)):(λρ=>(fa ρ).bind zip2) ρ= .ok (l.map λa=> .tup [p a,q a]):=by
 show (fa ρ).bind zip2=_;rw[e,R.bw,zip2,h1,R.bw,h2,R.bw,GR,List.zip_map',ac8];rfl
theorem abM{i:Int}(h:i<j):ltI (.int i) (.int j)= .ok (.bl true):=by
 show R.ok (D.bl (decide (i<j)))=_;rw[decide_eq_true h]
theorem Zt{i:Int}(h:i=j):lH (.int i) (.int j)= .ok (.bl false):=iB (by rw[h]) (by simp[dep])
theorem U8{n d:Nat}:HT.sIx n d (some (k:Int))=min k n:=by
 show (if (k:Int)<0 then ((k:Int)+(n:Int)).toNat else min (k:Int).toNat n)=min k n;rw[if_neg (by omega),aeK]
theorem Fb{n d:Nat}:HT.sIx n d none=d:=rfl
theorem Zu{n:Nat}(h:n<=ds.length):jA ds none (some (n:Int))=ds.take n:=by
 rw[jA,U8,Fb,agh h,ahg];rfl
theorem U9{n:Nat}(h:n<=ds.length):jA ds (some (n:Int)) none=ds.drop n:=by
 rw[jA,U8,Fb,agh h,List.take_of_length_le (by rw[ahd];exact z0g _)]
theorem Zv{f:ao->R D}{fu:ao->R (Option Int)}{n:Nat}(e1:f ρ= .ok (.tup ds))(e2:fu ρ= .ok (some (n:Int)))(h:n<=ds.length):qX f (λ_=> .ok none) fu ρ= .ok (.tup (ds.take n)):=by
 rw[qX,e1,R.bw,R.bw,e2,R.bw,KD,Zu h]
theorem Va{f:ao->R D}{fl:ao->R (Option Int)}{n:Nat}(e1:f ρ= .ok (.tup ds))(e2:fl ρ= .ok (some (n:Int)))(h:n<=ds.length):qX f fl (λ_=> .ok none) ρ= .ok (.tup (ds.drop n)):=by
 rw[qX,e1,R.bw,e2,R.bw,R.bw,KD,U9 h]
theorem Qo{xs ys:List D}(h:xs.length+ys.length<=1000000):gR (.tup xs) (.tup ys)= .ok (.tup (xs++ys)):=by
 rw[gR,if_pos h]
end
section
variable{w h:Nat}{g:Nat->Int}{n:Nat}{c:Int}
theorem Xg(hn:n<w):((acD w).map λx=>D.int (g x)).take n++((acD w).map λx=>D.int (g x)).drop (n+1)=(acD (w - 1)).map λx=>D.int (if x<n then g x else g (x+1)):=by
 refine List.ext_getElem (by simp;omega) λi h1 h2=>?_;rw[List.getElem_append];by_cases hi:i<n
 ·rw[dif_pos (by simp;omega)];simp[hi]
 ·rw[dif_neg (by simp;omega)];have e:n+1+(i - min n w)=i+1:=by omega
  simp[hi,e]
end
section
variable{w h:Nat}{f:Nat->Nat->Int}{s:Nat->Nat}
theorem Vb(q:vM w h s)(Fd:h<=20):Cj [sm h s,.int (w:Int),.int (h:Int)]= .ok (.bl true):=by
 refine bZ (aH (bV (qT (gD (aV (b:=true) rfl)) (aV (aA (aY (aq rfl) rfl) rfl (Zt ?_)))) rfl)
  (aH (bV (gD (aV (aY (aq (cj (c:=λy=> .int ((s y:Nat):Int)) (h:=λ_=> .bl true) (l:=acD h) (lg rfl) (by rw[z2d];omega) λy hy=>?_)) qF))) rfl)
  (bx (aY (aq (cj (c:=λy=> .int ((y+1:Nat):Int)) (h:=λ_=> .bl true) (l:=acD (h - 1)) (Qm (aB rfl (aq rfl)) (by omega)) (by rw[z2d];omega) λy hy=>?_)) qF))))
 ·simp
 ·have:=q.lt y (z2e hy);exact cJ rfl (xK (aQ (aq rfl) tY) (Dl rfl rfl (sZ (by omega)) rfl (abM (by omega))))
 ·have hy:y<h - 1:=z2e hy;obtain⟨h1,h2⟩:=q.st y (by omega);refine cJ rfl (aA (aY (aq (aA (x:= .int ((s (y+1):Nat):Int)) (y:= .int ((s y:Nat):Int)) (aA rfl rfl (iY (i:=y+1) ?_)) (aA rfl (aA (x:= .int ((y+1:Nat):Int)) (y:= .int 1) rfl rfl ?_) (iY (i:=y) ?_)) rfl)) rfl) rfl (sZ ?_))
  ·rw[z2b,ac3 (by omega)];rfl
  ·show R.ok (D.int (((y+1:Nat):Int) - 1))=_;rw[show ((y+1:Nat):Int) - 1=(y:Int) by omega]
  ·rw[z2b,ac3 (by omega)];rfl
  ·split <;> omega
theorem RL(o:Ok w h f)(q:vM w h s):yC [sm h s,bH w h f]= .ok (.bl true):=
 bZ (aH (aR (aQ (aq rfl) (size_eq o)) rfl) (bx (aQ (aB rfl (aB rfl (aq rfl))) (Vb q o.h2))))
theorem LQ(o:Ok w h f)(q:vM w h s):tX [sm h s,bH w h f]= .ok .non:=
 Dm (bV (gD (aV (aQ (aB rfl (aq rfl)) (RL o q)))) rfl)
theorem len0(o:Ok w h f){ρ:ao}(e:u ρ= .ok (bH w h f)):aF cg (ak (bin u (ci 0) bU) nA) ρ= .ok (.int (w:Int)):=by
 refine aY (aq (aA e rfl (iY (i:=0) (d:=row w (f 0)) ?_))) ?_
 ·rw[z2b,ac3 o.h1];rfl
 ·simp[row,cg]
theorem Hi(q:vM w h s)(Fd:h<=20):pF [bH w h f,sm h s]= .ok (row h λy=>f y (s y)):=by
 refine bZ (bx (aY (aq (cj (c:=λy=> .tup [row w (f y),.int ((s y:Nat):Int)]) (h:=λy=> .int (f y (s y))) (l:=acD h) (Qn (aB rfl (aq rfl)) rfl rfl) (by rw[z2d];omega) λy hy=>?_)) rfl));refine cJ rfl (aA rfl rfl (iY (i:=s y) ?_));rw[z2b,ac3 (q.lt y (z2e hy))];rfl
def less(s:Nat->Nat)(f:Nat->Nat->Int):Nat->Nat->Int:=λy x=>if x<s y then f y x else f y (x+1)
def more(s:Nat->Nat)(c:Nat->Int)(f:Nat->Nat->Int):Nat->Nat->Int:=λy x=>if x<s y then f y x else if x=s y then c y else f y (x - 1)
theorem Fe(q:vM w h s)(Fd:h<=20)(w20:w<=20):sX [bH w h f,sm h s]= .ok (bH (w - 1) h (less s f)):=by
 refine bZ (bx (aY (aq (cj (c:=λy=> .tup [row w (f y),.int ((s y:Nat):Int)]) (h:=λy=>row (w - 1) (less s f y)) (l:=acD h) (Qn (aB rfl (aq rfl)) rfl rfl) (by rw[z2d];omega) λy hy=>?_)) rfl));have hs:=q.lt y (z2e hy);refine cJ rfl (aA (Zv (n:=s y) rfl rfl (by simp;omega)) (Va (n:=s y+1) rfl rfl (by simp;omega)) ((Qo (by simp;omega)).trans ?_));rw[Xg hs];rfl
end
theorem jr{ρ:ao}{i:Nat}(e:fa ρ= .ok ds)(h:ds.length<=1000000:=by exact ad9 rfl):newL fa i ρ= .nx (ρ.set i (some (.lst ds))):=by
 unfold newL;rw[e];show (if _ then _ else _)=_;rw[if_pos h]
def pl(ps:List Nat):List D:=ps.map λp=> .int ((p:Nat):Int)
section
variable{ns:List Int}{a:Int}{w h:Nat}{t:Option Ent}
end
section
variable{w h:Nat}{f:Nat->Nat->Int}
end
section
variable{w h:Nat}{f:Nat->Nat->Int}{s:Nat->Nat}{c:Nat->Int}
theorem Ok.less(o:Ok w h f)(h1:1<w):Ok (w - 1) h (less s f):=by
 refine⟨by omega,by have:=o.w2;omega,o.h1,o.h2,λy hy x hx=>?_⟩;unfold yp.less;split
 ·exact o.c y hy x (by omega)
 ·exact o.c y hy (x+1) (by omega)
end
def ab(i:Int):Int:=if i<0 then -i else i
def gap(n:Nat)(g:Nat->Int)(x:Nat):Int:=ab (g (x - 1) - g (min (x+1) (n - 1)))
def Qp(w h:Nat)(f:Nat->Nat->Int)(y x:Nat):Int:=gap w (f y) x+gap h (λy=>f y x) y
section
variable{n w h:Nat}{g:Nat->Int}{f:Nat->Nat->Int}{s:Nat->Nat}{ρ:ao}
theorem Aa:cg [row n g]= .ok (.int (n:Int)):=by simp[row,cg]
theorem Ab:cg [bH w h f]= .ok (.int (h:Int)):=by simp[bH,cg]
theorem Xh{n:Nat}(h1:1<=n):cP (.int (n:Int)) (.int 1)= .ok (.int ((n - 1:Nat):Int)):=by
 show R.ok (D.int ((n:Int) - 1))=_;rw[show (n:Int) - 1=((n - 1:Nat):Int) by omega]
theorem RM{x:Nat}:maxD [.int ((x:Int) - 1),.int 0]= .ok (.int ((x - 1:Nat):Int)):=by
 show R.ok (D.int (if (0:Int) > (x:Int) - 1 then 0 else (x:Int) - 1))=_;congr 2;split <;> omega
theorem min1{x n:Nat}:minD [.int ((x+1:Nat):Int),.int (n:Int)]= .ok (.int ((min (x+1) n:Nat):Int)):=by
 show R.ok (D.int (if (n:Int)<((x+1:Nat):Int) then (n:Int) else ((x+1:Nat):Int)))=_;congr 2;split <;> omega
theorem jZ{x:Nat}(hx:x<n):bU (row n g) (.int (x:Int))= .ok (.int (g x)):=by
 refine iY (i:=x) ?_;rw[z2b,ac3 hx];rfl
theorem LR{y:Nat}(hy:y<h):bU (bH w h f) (.int (y:Int))= .ok (row w (f y)):=by
 refine iY (i:=y) ?_;rw[z2b,ac3 hy];rfl
theorem jE{α:Type}{p:Nat->D}{x:Nat}(hx:x<n):bU (.lst ((acD n).map p)) (.int (x:Int))= .ok (p x):=by
 refine TY (i:=x) ?_;rw[z2b,ac3 hx];rfl
theorem Hj(h1:1<=n)(Fd:n<=20):yq [row n g]= .ok (.lst ((acD n).map λx=> .int (gap n g x))):=by
 refine bZ (aH (aR (aA (aY (aq rfl) Aa) rfl (Xh h1)) rfl) (bx (cj (c:=λ(x:Nat)=>D.int (x:Int)) (h:=λx=> .int (gap n g x)) (l:=acD n) (oW (aq (aY (aq rfl) Aa)) (by omega)) (by rw[z2d];omega) λx hx=>?_)));have hx:=z2e hx;exact cJ rfl (aY (aq (aA (x:= .int (g (x - 1))) (y:= .int (g (min (x+1) (n - 1)))) (aA rfl (aY (aB (aA rfl rfl rfl) (aq rfl)) RM) (jZ (by omega))) (aA rfl (aY (aB (x:= .int ((x+1:Nat):Int)) (aA rfl rfl rfl) (aq rfl)) min1) (jZ (by omega))) rfl)) rfl)
theorem Vc(o:Ok w h f):Ci [bH w h f]= .ok (bH w h (Qp w h f)):=by
 have Fd:=o.h2;have w20:=o.w2;refine bZ (aH (aR (aQ (aq rfl) (size_eq o)) rfl)
  (aH (aR (cj (c:=λy=>row w (f y)) (h:=λy=> .lst ((acD w).map λx=> .int (gap w (f y) x))) (l:=acD h) (lg rfl) (by rw[z2d];omega) λy hy=>cJ rfl (aQ (aq rfl) (Hj o.w1 o.w2))) rfl)
  (aH (aR (cj (c:=λx=>row h λy=>f y x) (h:=λx=> .lst ((acD h).map λy=> .int (gap h (λy=>f y x) y))) (l:=acD w) (lg (aQ (aq rfl) (tu o))) (by rw[z2d];omega) λy hy=>cJ rfl (aQ (aq rfl) (Hj o.h1 o.h2))) rfl)
  (bx (aY (aq (cj (c:=λ(y:Nat)=>D.int (y:Int)) (h:=λy=>row w (Qp w h f y)) (l:=acD h) (oW (aq rfl) (by omega)) (by rw[z2d];omega) λy hy=>?_)) rfl)))))
 have hy:=z2e hy;refine cJ rfl (aY (aq (cj (c:=λ(x:Nat)=>D.int (x:Int)) (h:=λx=> .int (Qp w h f y x)) (l:=acD w) (oW (aq rfl) (by omega)) (by rw[z2d];omega) λx hx=>?_)) rfl);have hx:=z2e hx;exact cJ rfl (aA (x:= .int (gap w (f y) x)) (y:= .int (gap h (λy=>f y x) y)) (aA (aA rfl rfl (jE (α:=D) hy)) rfl (jE (α:=D) hx)) (aA (aA rfl rfl (jE (α:=D) hx)) rfl (jE (α:=D) hy)) rfl)
def dD(T:Nat->Int):D:= .tup [.int (T 0),.int (T 1),.int (T 2)]
def tab(w h:Nat)(T:Nat->Nat->Nat->Int):D:= .lst ((acD h).map λy=> .lst ((acD w).map λx=>dD (T y x)))
def uU(w:Nat)(f:Nat->Nat->Int)(y x i:Nat):Int:=gap w (f y) x+(if i=0 then ab (f (y - 1) x - f y (x - 1)) else if i=1 then 0 else ab (f (y - 1) x - f y (min (x+1) (w - 1))))
def Yl:ao->So:=(aM (bh (bin (gv 7) (aF xO (ak (bin (bin (gv 3) (gv 6) bU) (bin (gv 2) (aF maxD (ak (bin (gv 6) (ci 1) cP) (ak (ci 0) nA))) bU) cP) nA)) gR) (aJ 8)) (aM (bh (bin (gv 7) (aF xO (ak (bin (bin (gv 3) (gv 6) bU) (bin (gv 2) (aF minD (ak (bin (gv 6) (ci 1) gR) (ak (gv 4) nA))) bU) cP) nA)) gR) (aJ 9)) (mX 5 (dj (ak (gv 8) (ak (gv 7) (ak (gv 9) nA)))))))
theorem q9{i:Nat}{d:D}(e:u ρ= .ok d)(h:ρ[i]?=some (some (.lst ds)))(hl:ds.length<1000000):mX i u ρ= .nx (ρ.set i (some (.lst (ds++[d])))):=by
 unfold mX;rw[e];simp only[Kg,gZ,h];rw[if_pos hl]
theorem Xi(h1:1<=w){y x:Nat}(hx:x<w)(hl:acc.length<1000000):
  ∃z8 z9,Yl [e0,e1,vA (row w (f y)),vA (row w (f (y - 1))),vA (.int ((w - 1:Nat):Int)),some (.lst acc),vA (.int (x:Int)),vA (.int (gap w (f y) x)),e8,e9] =
   .nx [e0,e1,vA (row w (f y)),vA (row w (f (y - 1))),vA (.int ((w - 1:Nat):Int)),some (.lst (acc++[dD (uU w f y x)])),vA (.int (x:Int)),vA (.int (gap w (f y) x)),z8,z9]:=by
 refine⟨_,_,aH (aR (d:= .int (uU w f y x 0)) (aA (x:= .int (gap w (f y) x)) (y:= .int (ab (f (y - 1) x - f y (x - 1)))) rfl (aY (aq (aA (x:= .int (f (y - 1) x)) (y:= .int (f y (x - 1))) (aA rfl rfl (jZ hx)) (aA rfl (aY (aB (aA rfl rfl rfl) (aq rfl)) RM) (jZ (by omega))) rfl)) rfl) rfl) rfl)
  (aH (aR (d:= .int (uU w f y x 2)) (aA (x:= .int (gap w (f y) x)) (y:= .int (ab (f (y - 1) x - f y (min (x+1) (w - 1))))) rfl (aY (aq (aA (x:= .int (f (y - 1) x)) (y:= .int (f y (min (x+1) (w - 1)))) (aA rfl rfl (jZ hx)) (aA rfl (aY (aB (x:= .int ((x+1:Nat):Int)) (aA rfl rfl rfl) (aq rfl)) min1) (jZ (by omega))) rfl)) rfl) rfl) rfl)
  (q9 (d:=dD (uU w f y x)) ((cH (aB rfl (aB rfl (aq rfl)))).trans ?_) rfl hl))⟩
 have:uU w f y x 1=gap w (f y) x:=by simp[uU]
 rw[dD,this]
theorem join_loop(h1:1<=w){y:Nat}{e0 e1:Option Ent}:∀{xs:List Nat} {acc:List D} {e6 e7 e8 e9:Option Ent},(∀x∈xs,x<w)->acc.length+xs.length<=1000->
  ∃z6 z7 z8 z9,forL (cD (cF 2 (aW (aJ 6) (aW (aJ 7) nilG)))) Yl (xs.map λ(x:Nat)=>D.tup [.int (x:Int),.int (gap w (f y) x)]) [e0,e1,vA (row w (f y)),vA (row w (f (y - 1))),vA (.int ((w - 1:Nat):Int)),some (.lst acc),e6,e7,e8,e9] =
   .nx [e0,e1,vA (row w (f y)),vA (row w (f (y - 1))),vA (.int ((w - 1:Nat):Int)),some (.lst (acc++xs.map λx=>dD (uU w f y x))),z6,z7,z8,z9]
 |[],acc,e6,e7,e8,e9,_,_=>⟨e6,e7,e8,e9,by rw[afa,afa,adp];rfl⟩
 | x::xs,acc,e6,e7,e8,e9,hx,hl=>by
  rw[acX] at hl;obtain⟨z8,z9,e⟩:=Xi (f:=f) (y:=y) h1 (hx x (by simp)) (e0:=e0) (e1:=e1) (e8:=e8) (e9:=e9) (acc:=acc) (by omega);obtain⟨y6,y7,y8,y9,e'⟩:=join_loop h1 (y:=y) (e0:=e0) (e1:=e1) (xs:=xs) (acc:=acc++[dD (uU w f y x)]) (e6:=vA (.int (x:Int))) (e7:=vA (.int (gap w (f y) x))) (e8:=z8) (e9:=z9) (λz hz=>hx z (by simp[hz])) (by simp;omega);refine⟨y6,y7,y8,y9,?_⟩;rw[aeg] at e';rw[z1h,z1h];exact dN rfl e e'
theorem Jm{p:Nat->D}:∀{n m:Nat},fX m ((aeP m n).map p)=(aeP m n).map λ(x:Nat)=>D.tup [.int (x:Int),p x]
 |0,_=>rfl
 |n+1,m=>by rw[afm,z1h,z1h,fX,Jm]
theorem Hl{x:D}{n:Nat}{p:Nat->D}(e:fa ρ= .ok [x])(h:je x= .ok ((acD n).map p)):(λρ=>(fa ρ).bind sO) ρ= .ok ((acD n).map λ(y:Nat)=>D.tup [.int (y:Int),p y]):=by
 show (fa ρ).bind sO=_;rw[e,R.bw,sO,h,R.bw,aeN,Jm]
theorem JD(o:Ok w h f){y:Nat}(hy:y<h):qZ [bH w h f,.int (y:Int)]= .ok (.lst ((acD w).map λx=>dD (uU w f y x))):=by
 have w20:=o.w2;obtain⟨z6,z7,z8,z9,e⟩:=join_loop (f:=f) (y:=y) o.w1 (e0:=vA (bH w h f)) (e1:=vA (.int (y:Int))) (xs:=acD w) (acc:=[]) (e6:=none) (e7:=none) (e8:=none) (e9:=none) (λx hx=>z2e hx) (by rw[z2d,ad8];omega);exact bZ (aH (aR (aA rfl rfl (LR hy)) rfl) (aH (aR (aA rfl (aY (aB (aA rfl rfl rfl) (aq rfl)) RM) (LR (by omega))) rfl) (aH (aR (aA (aY (aq rfl) Aa) rfl (Xh o.w1)) rfl) (aH (jr rfl)
  (aH (jV (Hl (aq (aQ (aq rfl) (Hj o.w1 o.w2))) rfl) e) (bx (d:= .lst ((acD w).map λx=>dD (uU w f y x))) rfl))))))
theorem Qq{a b:Str}:jO (.str a) (.str b)= .ok (.bl (a ==b)):=by
 rw[jO,if_pos (by simp[dep])];show R.ok (D.bl (gb (.str a) (.str b)))=_;simp[oJ,oK,oM,oN,oO,iM,eO]
def Ym(w h:Nat)(f:Nat->Nat->Int)(y x i:Nat):Int:=Qp w h f y x
theorem Qs(o:Ok w h f):nu [bH w h f,.str "worth"]= .ok (tab w h (Ym w h f)):=by
 have Fd:=o.h2;have w20:=o.w2;exact bZ (jm (dY (aV (b:=true) (aA rfl rfl Qq)) (bx (cj (c:=λy=>row w (Qp w h f y)) (h:=λy=> .lst ((acD w).map λx=>dD (Ym w h f y x))) (l:=acD h) (lg (aQ (aq rfl) (Vc o))) (by rw[z2d];omega) λy hy=>
  cJ rfl (cj (c:=λx=> .int (Qp w h f y x)) (h:=λx=>dD (Ym w h f y x)) (l:=acD w) (lg rfl) (by rw[z2d];omega) λx hx=>cJ rfl (cH (aB rfl (aB rfl (aq rfl)))))))))
theorem Qt(o:Ok w h f):nu [bH w h f,.str "joins"]= .ok (tab w h (uU w f)):=by
 have Fd:=o.h2;exact bZ (aH (bV (aV (b:=false) (aA rfl rfl Qq)) rfl) (bx (cj (c:=λ(y:Nat)=>D.int (y:Int)) (h:=λy=> .lst ((acD w).map λx=>dD (uU w f y x))) (l:=acD h) (oW (aq (aY (aq rfl) Ab)) (by omega)) (by rw[z2d];omega) λy hy=>
  cJ rfl (aQ (aB rfl (aq rfl)) (JD o (z2e hy))))))
def fare(T:Nat->Nat->Nat->Int)(s:Nat->Nat)(y:Nat):Int:=T y (s y) (s (y - 1)+1 - s y)
def cost(h:Nat)(T:Nat->Nat->Nat->Int)(s:Nat->Nat):Int:=T 0 (s 0) 1+((acD (h - 1)).map λy=>fare T s (y+1)).sum
theorem qm{T:Nat->Int}{p:Nat->D}{b:Nat}(hb:b<w)(h1:b<=a+1)(h2:a<=b+1)(hp:p b=dD T):gk [.lst ((acD w).map p),.int (a:Int),.int (b:Int)]= .ok (.int (T (a+1 - b))):=by
 refine bZ (bx (aA (x:=dD T) (y:= .int ((a+1 - b:Nat):Int)) (aA rfl rfl ((jE (α:=D) hb).trans (congrArg R.ok hp))) (aA (aA rfl rfl rfl) rfl ?_) (iY (i:=a+1 - b) ?_)))
 ·show R.ok (D.int ((a:Int) - (b:Int)+1))=_;rw[show (a:Int) - (b:Int)+1=((a+1 - b:Nat):Int) by omega]
 ·have:a+1 - b=0\/a+1 - b=1\/a+1 - b=2:=by omega
  rcases this with e |e |e <;> rw[e] <;> rfl
def abN:ao->So:=(BL 2 (aF (aN gk 3) (ak (bin (gv 0) (gv 3) bU) (ak (bin (gv 1) (bin (gv 3) (ci 1) cP) bU) (ak (bin (gv 1) (gv 3) bU) nA)))))
theorem Vd{i:Nat}{a b:Int}(h:ρ[i]?=some (some (.val (.int a))))(e:u ρ= .ok (.int b)):BL i u ρ= .nx (ρ.set i (some (.val (.int (a+b))))):=by
 unfold BL;simp only[h];rw[e];rfl
theorem Jo{T:Nat->Nat->Nat->Int}(q:vM w h s):∀{ys:List Nat} {acc:Int} {e3:Option Ent},(∀y∈ys,y+1<h)->
  ∃z3,forL (aJ 3) abN (ys.map λ(y:Nat)=>D.int ((y+1:Nat):Int)) [vA (tab w h T),vA (sm h s),vA (.int acc),e3]= .nx [vA (tab w h T),vA (sm h s),vA (.int (acc+(ys.map λy=>fare T s (y+1)).sum)),z3]
 |[],acc,e3,_=>⟨e3,by simp[forL]⟩
 | y::ys,acc,e3,hy=>by
  obtain⟨z3,e⟩:=Jo (T:=T) q (ys:=ys) (acc:=acc+fare T s (y+1)) (e3:=vA (.int ((y+1:Nat):Int))) λz hz=>hy z (by simp[hz]);have h1:=hy y (by simp);obtain⟨k1,k2⟩:=q.st y h1;refine⟨z3,?_⟩;rw[z1h,z1h,agM,<-agN];refine dN rfl (Vd rfl (aQ (aB (aA rfl rfl (jE (α:=D) h1)) (aB (aA rfl (aA (x:= .int ((y+1:Nat):Int)) rfl rfl (Xh (by omega))) (jZ (x:=y+1 - 1) (by omega))) (aq (aA rfl rfl (jZ h1))))) (qm (T:=T (y+1) (s (y+1))) (a:=s y) (q.lt _ h1) k1 k2 rfl))) e
theorem Oa{T:Nat->Nat->Nat->Int}(h1:1<=h)(Fd:h<=20)(q:vM w h s):vK [tab w h T,sm h s]= .ok (.int (cost h T s)):=by
 obtain⟨z3,e⟩:=Jo (T:=T) q (ys:=acD (h - 1)) (acc:=T 0 (s 0) 1) (e3:=none) λy hy=>by have:=z2e hy;omega
 have e0:gk [.lst ((acD w).map λx=>dD (T 0 x)),.int ((s 0:Nat):Int),.int ((s 0:Nat):Int)]= .ok (.int (T 0 (s 0) 1)):=by
  have:=qm (T:=T 0 (s 0)) (p:=λx=>dD (T 0 x)) (a:=s 0) (q.lt 0 h1) (by omega) (by omega) rfl
  rwa [show s 0+1 - s 0=1 by omega] at this
 exact bZ (aH (aR (aQ (aB (aA rfl rfl (jE (α:=D) (x:=0) h1)) (aB (aA rfl rfl (jZ (x:=0) h1)) (aq (aA rfl rfl (jZ (x:=0) h1))))) e0) rfl) (aH (jV (Qm (aB rfl (aq (aY (aq rfl) Aa))) (by omega)) e) (bx (d:= .int (cost h T s)) rfl)))
theorem iR{m:Str}(hm:m= "worth"\/m= "joins"):fL [.str m]= .ok .non:=by
 rcases hm with rfl |rfl
 ·exact Dm (bV (aV (b:=false) (aA rfl rfl (by simp[Ip,Ri,gK,oJ,oK,oM,oN,oO,iM,eO]))) rfl)
 ·exact Dm (bV (aV (b:=false) (aA rfl rfl (by simp[Ip,Ri,gK,oJ,oK,oM,oN,oO,iM,eO]))) rfl)
def tbl(m:Str)(w h:Nat)(f:Nat->Nat->Int):Nat->Nat->Nat->Int:=if m= "worth" then Ym w h f else uU w f
theorem RN{m:Str}(hm:m= "worth"\/m= "joins")(o:Ok w h f)(q:vM w h s):sY [bH w h f,sm h s,.str m]= .ok (.int (cost h (tbl m w h f) s)):=by
 refine bZ (aH (fG (aQ (aq rfl) (uT o))) (aH (fG (aQ (aq rfl) (iR hm))) (aH (fG (aQ (aB rfl (aq rfl)) (LQ o q))) (bx (aQ (aB (x:=tab w h (tbl m w h f)) (aQ (aB rfl (aq rfl)) ?_) (aq rfl)) (Oa o.h1 o.h2 q))))));rcases hm with rfl |rfl
 ·exact Qs o
 ·exact Qt o
end
section
variable{n w h:Nat}{g:Nat->Int}{f:Nat->Nat->Int}{s:Nat->Nat}{c:Int}{m:Str}{ρ:ao}
theorem vN{n j:Nat}{sel:List (Sum Nat D)}{fk:ao->R (List D)}{zs:List D}{d:D}(e1:fa ρ= .ok ds)(e2:fk ρ= .ok zs)(e3:F (ds++pickK .non sel zs)= .ok d)(hl:(ds++pickK .non sel zs).length=n:=by rfl)(hj:zs.length=j:=by rfl):vh F n j sel fa fk ρ= .ok d:=by
 rw[vh,e1,R.bw,e2,R.bw,if_pos hj,aN,if_pos hl,e3];rfl
theorem Ho{c:ao->R Bool}{f g:ao->R D}(e:c ρ= .ok true)(h:f ρ=r):Dg c f g ρ=r:=by rw[Dg,e,R.bw,if_pos rfl,h]
theorem Hq{c:ao->R Bool}{f g:ao->R D}(e:c ρ= .ok false)(h:g ρ=r):Dg c f g ρ=r:=by rw[Dg,e,R.bw,if_neg (by decide),h]
end
abbrev Wy:=Int×Int×List Int
def fl(t:Wy):List Int:=t.1::t.2.1::t.2.2
def un(l:List Int):Wy:=(l.getD 0 0,l.getD 1 0,l.drop 2)
theorem RP(t:Wy):un (fl t)=t:=rfl
theorem Ve{a:Wy}(h:fl a=fl b):a=b:=by have:=congrArg un h;simpa[RP] using this
def fH(t:Wy):D:= .tup [.int t.1,.int t.2.1,.tup (t.2.2.map .int)]
theorem Ck(t:Wy):fH t=iJ (fl t):=rfl
def cA(l:List Wy):D:= .lst (l.map fH)
section
variable{n w h:Nat}{g:Nat->Int}{f:Nat->Nat->Int}{ρ:ao}
theorem Qu{i:Nat}{es:List D}(h:ρ[i]?=some (some (.lst ds)))(e:u ρ= .ok (.lst es))(hl:ds.length+es.length<=1000000):BX i u ρ= .nx (ρ.set i (some (.lst (ds++es)))):=by
 unfold BX;simp only[h,e,Kg,gZ];rw[if_pos hl]
theorem Zw{i:Nat}{es:List D}(h:ρ[i]?=some (some (.lst ds)))(h2:ρ[k]?=some (some (.lst es)))(hl:ds.length<1000000):K6 i k ρ= .nx ((ρ.set i (some (.lst (ds++[.lst es])))).set k (some (.val (.lst es)))):=by
 unfold K6;simp only[h,h2];rw[if_pos hl]
theorem Ma{i:Nat}{G:List D->R D}{n:Nat}{d:D}(h:ρ[i]?=some (some (.obj (.fn a))))(e:fa ρ= .ok ds)(e2:G ds= .ok d)(hl:ds.length=n:=by rfl):zY i a G n fa ρ= .ok d:=by
 unfold zY;simp only[h,e,if_true,R.bw,aN,hl,e2];rfl
theorem aaR{i:Nat}{k:Int}{d:D}(h:ρ[i]?=some (some (.lst ds)))(e:u ρ= .ok (.int k))(e2:bU (.lst ds) (.int k)= .ok d):Uk i u ρ= .ok d:=by
 unfold Uk;simp only[h,e,R.bw,e2]
theorem Ac(e:u ρ= .ok (.lst ds)):Le u ρ= .ok (!ds.isEmpty):=by unfold Le;rw[e];rfl
theorem dZ{m:Nat}{s:ao->So}{es:List Ent}{d:D}(e:s (es.map some++acH m none)= .rt d):eU m s es= .ok d:=by rw[eU,e]
def nr(w x:Nat):List Nat:=aeP (x - 1) (min (x+2) w - (x - 1))
theorem Fg{x p:Nat}(hx:x<w):p∈nr w x↔p<w/\p<=x+1/\x<=p+1:=by
 unfold nr;rw[List.mem_range'_1,Nat.add_sub_cancel' (Nat.le_min.mpr ⟨z0b (Nat.sub_le x 1) (aeV x 2),z0b (Nat.sub_le x 1) (z0e hx)⟩),Nat.lt_min];exact⟨λh=>⟨h.2.2,Nat.le_of_lt_succ h.2.1,Nat.le_add_of_sub_le h.1⟩,λh=>⟨Nat.sub_le_of_le_add h.2.2,Nat.lt_succ_of_le h.2.1,h.1⟩⟩
theorem Vf{x:Nat}:(nr w x).length<=3:=by unfold nr;rw[List.length_range'];omega
theorem Zx{x:Nat}(hx:x<w)(hw:w<=20):Lw [.int (x:Int),.int (w:Int)]= .ok (.lst ((nr w x).map λ(p:Nat)=>D.int (p:Int))):=by
 have e2:minD [.int ((x+2:Nat):Int),.int (w:Int)]= .ok (.int ((min (x+2) w:Nat):Int)):=by
  show R.ok (D.int (if (w:Int)<((x+2:Nat):Int) then (w:Int) else ((x+2:Nat):Int)))=_;congr 2;by_cases hz:w<x+2
  ·rw[if_pos (ahj.mpr hz),Nat.min_eq_right (z0e hz)]
  ·rw[if_neg (λq=>hz (ahj.mp q)),agh (Nat.le_of_not_lt hz)]
 refine bZ (bx (aY (aB (x:= .int ((x - 1:Nat):Int)) (aY (aB (aA rfl rfl rfl) (aq rfl)) RM) (aq (x:= .int ((min (x+2) w:Nat):Int)) (aY (aB (x:= .int ((x+2:Nat):Int)) (aA rfl rfl rfl) (aq rfl)) e2))) ?_));show (if _ then _ else _)=_;have b1:x - 1<=1000:=z0b (Nat.sub_le x 1) (z0b (z0e hx) (z0b hw (by decide)));have b2:min (x+2) w<=1000:=z0b (Nat.min_le_right _ _) (z0b hw (by decide));rw[if_pos ⟨Int.le_trans (by decide) (ae3 _),ahc.mpr b1,Int.le_trans (by decide) (ae3 _),ahc.mpr b2⟩];congr 2;unfold upto nr;rw[Int.toNat_sub,ahk,ac8];refine adG λi _=>?_;simp
def eY(c:Int)(t:Wy):Wy:=(t.1,t.2.1+c,t.2.2)
def cands(w:Nat)(C:Nat->List Wy)(T:Nat->Nat->Int)(x:Nat):List Wy:=(nr w x).flatMap λp=>(C p).map (eY (T p (x+1 - p)))
variable{C:Nat->List Wy}{T:Nat->Nat->Int}
theorem aaS{x p:Nat}(hx:x<w)(hp:p∈nr w x)(hC:(C p).length<=1){e5:Option Ent}(hl:acc.length<=1000):
  onB [vA (.lst ((acD w).map λx=>cA (C x))),vA (.lst ((acD w).map λx=>dD (T x))),vA (.int (x:Int)),some (.lst acc),vA (.int (p:Int)),e5] =
   .nx [vA (.lst ((acD w).map λx=>cA (C x))),vA (.lst ((acD w).map λx=>dD (T x))),vA (.int (x:Int)),some (.lst (acc++((C p).map (eY (T p (x+1 - p)))).map fH)),vA (.int (p:Int)),vA (.int (T p (x+1 - p)))]:=by
 obtain⟨h1,h2,h3⟩:=(Fg hx).mp hp;refine aH (aR (aQ (aB rfl (aB rfl (aq rfl))) (qm (T:=T p) (p:=λx=>dD (T x)) h1 (by omega) (by omega) rfl)) rfl) ?_;refine Qu (ds:=acc) rfl (cj (c:=fH) (h:=λt=>fH (eY (T p (x+1 - p)) t)) (l:=C p) (qD (aA rfl rfl (jE (α:=D) h1))) (by omega) λt ht=>?_) (by simp;omega) |>.trans ?_
 ·exact cJ rfl (cH (aB rfl (aB (x:= .int (t.2.1+T p (x+1 - p))) (aA rfl rfl rfl) (aq rfl))))
 ·rw[ac8];rfl
theorem Qv{x:Nat}(hx:x<w)(hC:∀p<w,(C p).length<=1):∀{ps:List Nat} {acc:List D} {e4 e5:Option Ent},(∀p∈ps,p∈nr w x)->acc.length+ps.length<=1000->
  ∃z4 z5,forL (aJ 4) onB (ps.map λ(p:Nat)=>D.int (p:Int)) [vA (.lst ((acD w).map λx=>cA (C x))),vA (.lst ((acD w).map λx=>dD (T x))),vA (.int (x:Int)),some (.lst acc),e4,e5] =
   .nx [vA (.lst ((acD w).map λx=>cA (C x))),vA (.lst ((acD w).map λx=>dD (T x))),vA (.int (x:Int)),some (.lst (acc++(ps.flatMap λp=>(C p).map (eY (T p (x+1 - p)))).map fH)),z4,z5]
 |[],acc,e4,e5,_,_=>⟨e4,e5,by simp[forL]⟩
 | p::ps,acc,e4,e5,hp,hl=>by
  rw[acX] at hl;have hpn:=hp p (by simp);have hpw:=((Fg hx).mp hpn).1;have hc:=hC p hpw;obtain⟨z4,z5,e⟩:=Qv hx hC (ps:=ps) (acc:=acc++((C p).map (eY (T p (x+1 - p)))).map fH) (e4:=vA (.int (p:Int))) (e5:=vA (.int (T p (x+1 - p)))) (λq hq=>hp q (by simp[hq])) (by simp;omega);refine⟨z4,z5,dN rfl (aaS hx hpn hc (by omega)) (e.trans ?_)⟩;rw[agV,agm,aeg]
theorem Vg{x:Nat}(hx:x<w)(hw:w<=20)(hC:∀p<w,(C p).length<=1):vH [.lst ((acD w).map λx=>cA (C x)),.lst ((acD w).map λx=>dD (T x)),.int (x:Int)]= .ok (.lst ((cands w C T x).map fH)):=by
 obtain⟨z4,z5,e⟩:=Qv (T:=T) hx hC (ps:=nr w x) (acc:=[]) (e4:=none) (e5:=none) (λp hp=>hp) (by have:=Vf (w:=w) (x:=x);simp;omega);have hlen:cg [.lst ((acD w).map λx=>cA (C x))]= .ok (.int (w:Int)):=by simp[cg]
 refine bZ (aH (jr rfl) (aH (jV (qD (aQ (aB rfl (aq (aY (aq rfl) hlen))) (Zx hx hw))) e) (bx rfl)))
end
section
variable{n w h:Nat}{g:Nat->Int}{f:Nat->Nat->Int}{ρ:ao}
theorem tD{i:Int}:jO (.int i) (.int j)= .ok (.bl (decide (i=j))):=by
 rw[jO,if_pos (by simp[dep])];show R.ok (D.bl (gb (.int i) (.int j)))=_;by_cases h:i=j <;> simp[oJ,oK,oM,oN,oO,iM,eO,h]
def bR(cs:List Wy):List Wy:=((d8 (cs.map fl)).take 1).map un
def pre(x:Nat)(t:Wy):Wy:=(t.1,t.2.1,(x:Int)::t.2.2)
theorem vO:∀cs:List Wy,ni (cs.map fH)=some (cs.map fl)
 |[]=>rfl
 | t::cs=>by
  rw[z1h,ni,vO cs,Ck,show uL (iJ (fl t))=some (fl t) from Lb];rfl
theorem Mf:∀l∈d8 (cs.map fl),fl (un l)=l:=λl hl=>by
 obtain⟨t,_,rfl⟩:=adk.mp ((eX _).mem_iff.mp hl);rw[RP]
theorem vP:∀t∈bR cs,t∈cs:=λt ht=>by
 obtain⟨l,hl,rfl⟩:=adk.mp ht;have hl:=agn hl;obtain⟨t,h1,rfl⟩:=adk.mp ((eX _).mem_iff.mp hl);rw[RP];exact h1
theorem qu:(bR cs).length<=1:=by unfold bR;simp;omega
theorem wM{x:Nat}(hl:cs.length<64)(hn:(cs.map fl).Nodup)(hp:∀t∈cs,t.2.2.length<=100):c7 1 [.int (x:Int),.lst (cs.map fH)]= .ok (cA ((bR cs).map (pre x))):=by
 have e1:lU [.lst (cs.map fH)]= .ok (.lst ((d8 (cs.map fl)).map iJ)):=by
  rw[lU,vO];show (if _ then _ else _)=_;rw[if_pos ⟨by simpa using hl,hn⟩]
 have e2:jA ((d8 (cs.map fl)).map iJ) none (some 1)=(bR cs).map fH:=by
  have e3:∀{n d:Nat},HT.sIx n d (some 1)=min 1 n:=λ{n d}=>by
   show (if (1:Int)<0 then ((1:Int)+(n:Int)).toNat else min (1:Int).toNat n)=min 1 n;rw[if_neg (by decide)];rfl
  rw[jA,e3,Fb,ahg,ahu,<-List.map_take];have e4:∀l:List (List Int),l.take (min 1 (l.map iJ).length)=l.take 1:=λl=>by cases l <;> simp
  rw[e4];unfold bR;rw[ac8];refine adG λl hl=>?_;show iJ l=fH (un l);rw[Ck,Mf l (agn hl)]
 have e5:cA ((bR cs).map (pre x))= .lst ((bR cs).map λt=>fH (pre x t)):=by unfold cA;rw[ac8];rfl
 rw[e5];refine dZ (bx (cj (c:=fH) (h:=λt=>fH (pre x t)) (l:=bR cs) (qD (ds:=(bR cs).map fH) ?_) (by have:=qu (cs:=cs);omega) λt ht=>?_))
 ·show m8 _ _ _ _=_;unfold m8;rw[aY (aq rfl) e1];show R.ok (D.lst (jA _ none (some 1)))=_;rw[e2]
 ·refine cJ rfl (cH (aB rfl (aB rfl (aq (x:= .tup ((((x:Int)::t.2.2)).map .int)) (aA (cH (aq rfl)) rfl ?_)))));have:=hp t (vP t ht);exact Qo (xs:=[.int (x:Int)]) (ys:=t.2.2.map .int) (by simp;omega)
end
def dW(m:Int):Int:=if m=2 then 1 else 0
def sb(c:Int)(t:Wy):Wy:=(t.1 - c,t.2.1,t.2.2)
def jF(x:Nat)(m:Int)(cs:List Wy):List Wy:=if m=1 then[] else ((bR cs).map (pre x)).map (sb (dW m))
section
variable{w h a y:Nat}{T:Nat->Nat->Nat->Int}{M:Nat->Nat->Int}{ρ:ao}
theorem Xj{l:List Wy}(hl:l.length<=1){e3 e4 e5 e7:Option Ent}(ha:acc.length<=1000):
  Yj [e0,e1,e2,e3,e4,e5,some (.lst acc),e7,vA (.int m),vA (cA l),e10]= .nx [e0,e1,e2,e3,e4,e5,some (.lst (acc++[cA (l.map (sb (dW m)))])),e7,vA (.int m),vA (cA l),vA (.int (dW m))]:=by
 have e:(Dg (bM (bin (gv 8) (ci 2) jO)) (ci 1) (ci 0)) [e0,e1,e2,e3,e4,e5,some (.lst acc),e7,vA (.int m),vA (cA l),e10]= .ok (.int (dW m)):=by
  unfold dW;by_cases hm:m=2
  ·rw[if_pos hm];exact Ho (aV (aA rfl rfl (by rw[tD,decide_eq_true hm]))) rfl
  ·rw[if_neg hm];exact Hq (aV (aA rfl rfl (by rw[tD,decide_eq_false hm]))) rfl
 refine aH (aR e rfl) ?_;have e2:cA (l.map (sb (dW m)))= .lst (l.map λt=>fH (sb (dW m) t)):=by unfold cA;rw[ac8];rfl
 rw[e2];refine q9 (ds:=acc) (cj (c:=fH) (h:=λt=>fH (sb (dW m) t)) (l:=l) (qD rfl) (by omega) λt ht=>?_) rfl (by omega);exact cJ rfl (cH (aB (x:= .int (t.1 - dW m)) (aA rfl rfl rfl) (aB rfl (aq rfl))))
inductive Vh (w:Nat) (T:Nat->Nat->Nat->Int) (y:Nat):List D->(Nat->List Wy)->Prop
 |last:Vh w T y [] λ_=>[(0,0,[])]
 |more (rs:List D) (C:Nat->List Wy):(∀p<w,(C p).length<=1)->Vh w T y (rs++[.lst ((acD w).map λx=>cA (C x))]) (cands w C (T (y+1)))
theorem Xk{rows:List D}{cs:Nat->List Wy}(B:Vh w T y rows cs)(hy:rows≠[]->y+1<h){x:Nat}(hx:x<w)(hw:w<=20)(hl:(cs x).length<64)(hn:((cs x).map fl).Nodup)(hp:∀t∈cs x,t.2.2.length<=100){e6:Option Ent}:
  Yi a (c7 1) [vA (tab w h T),e1,vA (.tup []),some (.obj (.fn a)),some (.lst rows),vA (.int (y:Int)),e6,vA (.int (x:Int)),vA (.int m),e9,e10] =
   .nx [vA (tab w h T),e1,vA (.tup []),some (.obj (.fn a)),some (.lst rows),vA (.int (y:Int)),e6,vA (.int (x:Int)),vA (.int m),vA (cA (if m=1 then[] else (bR (cs x)).map (pre x))),e10]:=by
 have th:∀(u:Option Ent),Rc (vA (.int m))=vA (.int m):=λ_=>rfl;by_cases hm:m=1
 ·rw[if_pos hm];exact dY (aV (aA rfl rfl (by rw[tD,decide_eq_true hm]))) (aR (oV rfl) rfl)
 ·rw[if_neg hm];refine bV (aV (aA rfl rfl (by rw[tD,decide_eq_false hm]))) ?_;cases B with
  | last=>
   refine dY (gD (Ac (ds:=[]) rfl)) (aR (Ma rfl (aB rfl (aq (oV (aq (cH (aB rfl (aB rfl (aq rfl)))))))) (wM (cs:=[(0,0,[])]) hl hn hp)) rfl)
  | more rs C hC=>
   have hy:=hy (by simp);refine bV (gD (Ac (ds:=rs++[.lst ((acD w).map λx=>cA (C x))]) rfl) |>.trans (by simp)) (aR (Ma rfl (aB rfl (aq (aQ (aB (x:= .lst ((acD w).map λx=>cA (C x))) (aaR rfl (k:= -1) rfl ?_) (aB (aA rfl (aA (x:= .int (y:Int)) (y:= .int 1) (r:= .ok (.int ((y+1:Nat):Int))) rfl rfl rfl) (jE (α:=D) hy)) (aq rfl))) (Vg (C:=C) (T:=T (y+1)) hx hw hC)))) (wM hl hn hp)) rfl);rw[bU];have:L2.atI (rs++[D.lst ((acD w).map λx=>cA (C x))]) (-1)=some (.lst ((acD w).map λx=>cA (C x))):=by
    unfold L2.atI ixN;rw[if_neg (by decide),if_pos (by simp;omega)];simp only[z1d,aem,Option.bind_some];rw[show ((-1:Int)+((rs.length+1:Nat):Int)).toNat=rs.length by omega,adf (z0g _)];simp
   rw[this]
end
def mH(w h:Nat)(T:Nat->Nat->Nat->Int)(M:Nat->Nat->Int):Nat->Nat->List Wy
 |0,_=>[(0,0,[])]
 |k+1,x=>cands w (λp=>jF p (M (h - 1 - k) p) (mH w h T M k p)) (T (h - 1 - k)) x
def mJ(w h:Nat)(T:Nat->Nat->Nat->Int)(M:Nat->Nat->Int)(k x:Nat):List Wy:=jF x (M (h - 1 - k) x) (mH w h T M k x)
section
variable{w h a:Nat}{T:Nat->Nat->Nat->Int}{M:Nat->Nat->Int}{ρ:ao}
theorem nD{x:Nat}:mH w h T M (k+1) x=cands w (mJ w h T M k) (T (h - 1 - k)) x:=rfl
theorem nF{x:Nat}:(jF x m cs).length<=1:=by
 unfold jF;split
 ·simp
 ·have:=qu (cs:=cs);simpa using this
theorem kI{x:Nat}{t:Wy}(h:t∈jF x m cs):∃u∈cs,t=sb (dW m) (pre x u):=by
 unfold jF at h;split at h
 ·simp at h
 ·rw[ac8] at h;obtain⟨u,hu,rfl⟩:=adk.mp h;exact⟨u,vP u hu,rfl⟩
theorem Cm{α β:Type}{F:α->List β}:∀{l:List α},(∀a∈l,(F a).length<=1)->(l.flatMap F).length<=l.length
 |[],_=>by simp
 | a::l,h=>by
  rw[agV,z1d,acX];have h1:=h a (by simp);have h2:=Cm (l:=l) λb hb=>h b (by simp[hb]);omega
theorem Zy:∀{k x:Nat},(mH w h T M k x).length<64
 |0,_=>by simp[mH]
 | k+1,x=>by
  rw[nD];unfold cands;have:=Cm (F:=λp=>(mJ w h T M k p).map (eY (T (h - 1 - k) p (x+1 - p)))) (l:=nr w x) λp _=>by rw[z1g];exact nF
  have h2:=Vf (w:=w) (x:=x);omega
theorem Vi:∀{k x:Nat},∀t∈mH w h T M k x,t.2.2.length=k
 |0,_,t,ht=>by simp[mH] at ht;subst ht;rfl
 | k+1,x,t,ht=>by
  rw[nD] at ht;obtain⟨p,_,hp⟩:=aeX.mp ht;obtain⟨u,hu,rfl⟩:=adk.mp hp;obtain⟨v,hv,rfl⟩:=kI hu;show (((p:Nat):Int)::v.2.2).length=k+1;rw[acX,Vi v hv]
theorem Mg:∀{k x:Nat},((mH w h T M k x).map fl).Nodup
 |0,_=>by simp[mH]
 | k +1,x=>by
  rw[nD];unfold cands List.Nodup;rw[List.pairwise_map,List.pairwise_flatMap];refine⟨λp _=>?_,?_⟩
  ·have hl:((mJ w h T M k p).map (eY (T (h - 1 - k) p (x+1 - p)))).length<=1:=by rw[z1g];exact nF
   match (mJ w h T M k p).map (eY (T (h - 1 - k) p (x+1 - p))),hl with
   |[],_=>exact .nil
   |[_],_=>simp
   |_::_::_,hl=>simp at hl
  ·have nd:(nr w x).Nodup:=List.nodup_range';refine nd.imp λ{p q} hpq t ht u hu z=>?_;obtain⟨t',ht',rfl⟩:=adk.mp ht;obtain⟨u',hu',rfl⟩:=adk.mp hu;obtain⟨t2,_,rfl⟩:=kI ht';obtain⟨u2,_,rfl⟩:=kI hu';have:=Ve z;have h2:((p:Nat):Int)::t2.2.2=((q:Nat):Int)::u2.2.2:=congrArg (λt:Wy=>t.2.2) this;have h3:((p:Nat):Int)=((q:Nat):Int):=(af0 h2).1;exact hpq (by omega)
def tZ(w h:Nat)(T:Nat->Nat->Nat->Int)(M:Nat->Nat->Int)(k:Nat):D:= .lst ((acD w).map λx=>cA (mJ w h T M k x))
theorem Qw{y:Nat}{rows:List D}{cs:Nat->List Wy}(B:Vh w T y rows cs)(hy:rows≠[]->y+1<h)(hw:w<=20)(hl:∀x,(cs x).length<64)(hn:∀x,((cs x).map fl).Nodup)(hp:∀x,∀t∈cs x,t.2.2.length<=100){e1:Option Ent}:∀{xs:List Nat} {acc:List D} {e7 e8 e9 e10:Option Ent},(∀x∈xs,x<w)->acc.length+xs.length<=1000->
  ∃z7 z8 z9 lY,forL (cD (cF 2 (aW (aJ 7) (aW (aJ 8) nilG)))) (inW a (c7 1)) (xs.map λ(x:Nat)=>D.tup [.int (x:Int),.int (M y x)]) [vA (tab w h T),e1,vA (.tup []),some (.obj (.fn a)),some (.lst rows),vA (.int (y:Int)),some (.lst acc),e7,e8,e9,e10] =
   .nx [vA (tab w h T),e1,vA (.tup []),some (.obj (.fn a)),some (.lst rows),vA (.int (y:Int)),some (.lst (acc++xs.map λx=>cA (jF x (M y x) (cs x)))),z7,z8,z9,lY]
 |[],acc,e7,e8,e9,e10,_,_=>⟨e7,e8,e9,e10,by simp[forL]⟩
 | x ::xs,acc,e7,e8,e9,e10,hx,hle=>by
  rw[acX] at hle;have hxw:=hx x (by simp);obtain⟨z7,z8,z9,lY,e⟩:=Qw B hy hw hl hn hp (e1:=e1) (xs:=xs) (acc:=acc++[cA (jF x (M y x) (cs x))]) (e7:=vA (.int (x:Int))) (e8:=vA (.int (M y x))) (e9:=vA (cA (if M y x=1 then[] else (bR (cs x)).map (pre x)))) (e10:=vA (.int (dW (M y x)))) (λq hq=>hx q (by simp[hq])) (by simp;omega);refine⟨z7,z8,z9,lY,dN rfl (aH (Xk B hy hxw hw (hl x) (hn x) (hp x)) (Xj ?_ (by omega) |>.trans ?_)) (e.trans ?_)⟩
  ·split
   ·simp
   ·have:=qu (cs:=cs x);simpa using this
  ·have:jF x (M y x) (cs x)=(if M y x=1 then[] else (bR (cs x)).map (pre x)).map (sb (dW (M y x))):=by unfold jF;split <;> rfl
   rw[this]
  ·rw[z1h,aeg];rfl
def dn(r:Nat):List D:=(acD r).map λ(i:Nat)=>D.int ((r:Int) - 1 - (i:Int))
theorem Zz(r:Nat):dn (r+1)=D.int (r:Int)::dn r:=by
 unfold dn;rw[aex,z1h,ac8];congr 1
 ·congr 1;omega
 ·refine adG λi _=>?_;show D.int _=D.int _;congr 1;simp only[Nat.succ_eq_add_one];omega
theorem aaT{y:Nat}(hk:k<h)(hy:y=h - 1 - k):Vh w T y ((acD k).map (tZ w h T M)) (mH w h T M k):=by
 cases k with
 |zero=>exact .last
 | succ k=>
  rw[ahq,agm];have e:mH w h T M (k+1)=cands w (mJ w h T M k) (T (y+1)):=by
   funext x;rw[nD,show y+1=h - 1 - k by omega]
  rw[e];exact .more _ _ λp _=>nF
theorem aaU{y:Nat}(hk:k<h)(hy:y=h - 1 - k)(hh:h<=20)(hw:w<=20){e6 e7:Option Ent}:∃z6 z7 z8 z9 lY,Xd a (c7 1) [vA (tab w h T),vA (bH w h M),vA (.tup []),some (.obj (.fn a)),some (.lst ((acD k).map (tZ w h T M))),vA (.int (y:Int)),e6,e7,e8,e9,e10] =
  .nx [vA (tab w h T),vA (bH w h M),vA (.tup []),some (.obj (.fn a)),some (.lst ((acD (k+1)).map (tZ w h T M))),vA (.int (y:Int)),z6,z7,z8,z9,lY]:=by
 obtain⟨z7,z8,z9,lY,e⟩:=Qw (h:=h) (a:=a) (M:=M) (e1:=vA (bH w h M)) (aaT (w:=w) (T:=T) (M:=M) hk hy) (λhne=>by
  have:k≠0:=λz=>hne (by rw[z];rfl);omega) hw (λx=>Zy) (λx=>Mg) (λx t ht=>by rw[Vi t ht];omega) (xs:=acD w) (acc:=[]) (e7:=e7) (e8:=e8) (e9:=e9) (e10:=e10) (λx hx=>z2e hx) (by simp;omega)
 refine⟨vA (.lst ([]++(acD w).map λx=>cA (jF x (M y x) (mH w h T M k x)))),z7,z8,z9,lY,aH (jr rfl) (aH (jV (Hl (aq (aA rfl rfl (LR (by omega)))) rfl) e) ((Zw (ds:=(acD k).map (tZ w h T M)) (es:=[]++(acD w).map λx=>cA (jF x (M y x) (mH w h T M k x))) rfl rfl (by rw[z1g,z2d];omega)).trans ?_))⟩;rw[ahq,agm];have er:((acD w).map λx=>cA (jF x (M y x) (mH w h T M k x)))=(acD w).map λx=>cA (mJ w h T M k x):=by
  refine adG λx _=>?_;unfold mJ;rw[hy]
 simp only[ae6];rw[er];rfl
theorem Mh(hh:h<=20)(hw:w<=20):∀{r k:Nat} {e5 e6 e7 e8 e9 e10:Option Ent},k+r=h->∃z5 z6 z7 z8 z9 lY,forL (aJ 5) (Xd a (c7 1)) (dn r) [vA (tab w h T),vA (bH w h M),vA (.tup []),some (.obj (.fn a)),some (.lst ((acD k).map (tZ w h T M))),e5,e6,e7,e8,e9,e10] =
  .nx [vA (tab w h T),vA (bH w h M),vA (.tup []),some (.obj (.fn a)),some (.lst ((acD h).map (tZ w h T M))),z5,z6,z7,z8,z9,lY]
 |0,k,e5,e6,e7,e8,e9,e10,hk=>⟨e5,e6,e7,e8,e9,e10,by rw[show k=h by omega];rfl⟩
 | r+1,k,e5,e6,e7,e8,e9,e10,hk=>by
  obtain⟨y6,y7,y8,y9,y10,e1⟩:=aaU (a:=a) (w:=w) (T:=T) (M:=M) (k:=k) (y:=r) (by omega) (by omega) hh hw (e6:=e6) (e7:=e7) (e8:=e8) (e9:=e9) (e10:=e10);obtain⟨z5,z6,z7,z8,z9,lY,e2⟩:=Mh hh hw (r:=r) (k:=k+1) (e5:=vA (.int (r:Int))) (e6:=y6) (e7:=y7) (e8:=y8) (e9:=y9) (e10:=y10) (by omega);rw[Zz];exact⟨z5,z6,z7,z8,z9,lY,dN rfl e1 e2⟩
theorem Xl(hh:h<=20)(hw:w<=20):uN a (c7 1) [tab w h T,bH w h M,.tup []]= .ok (.lst ((acD h).map (tZ w h T M)).reverse):=by
 obtain⟨z5,z6,z7,z8,z9,lY,e⟩:=Mh (a:=a) (w:=w) (T:=T) (M:=M) hh hw (r:=h) (k:=0) (e5:=none) (e6:=none) (e7:=none) (e8:=none) (e9:=none) (e10:=none) (by omega);have er:K7 [.int (h:Int)]= .ok (dn h):=by
  show (if _ then _ else _)=_;rw[if_pos (by omega)];rfl
 refine dZ (aH (jr rfl) (aH (jV ?_ e) (bx ?_)))
 ·show ((ak (aF cg (ak (gv 1) nA)) nA) _).bind K7=_;rw[aq (aY (aq rfl) Ab)];exact er
 ·show J5 _ _=_;unfold J5;rfl
end
section
variable{w h:Nat}{T:Nat->Nat->Nat->Int}{M:Nat->Nat->Int}{f:Nat->Nat->Int}{m:Str}{ρ:ao}
theorem ZC(hh:h<=20)(hw:w<=20):tW [tab w h T,bH w h M,.int 1]= .ok (.lst ((acD h).map (tZ w h T M)).reverse):=by
 refine dZ ?_;show (match allOf (λx=>uN x (c7 1) [tab w h T,bH w h M,.tup []]) with | .ok r=>So.rt r |_=> .bad)=_;rw[WQ λa=>Xl hh hw]
theorem Vj{F:Nat->D}:((acD h).map F).reverse=(acD h).map λy=>F (h - 1 - y):=by
 apply ae8;intro i;by_cases hi:i<h
 ·rw[List.getElem?_reverse (by simpa using hi),z2b,z2b,ac3 hi,z1g,z2d,ac3 (by omega)];rfl
 ·rw[afc (by simp;omega),afc (by simp;omega)]
theorem mul_one{d:D}(h1:1<=k)(Fd:k<=20):xR (.tup [d]) (.int (k:Int))= .ok (.tup ((acD k).map λ_=>d)):=by
 rw[xR,if_pos ⟨by simp,by omega,by omega,by simp;omega⟩];congr 2;rw[show ((k:Nat):Int).toNat=k by omega]
 clear h1 Fd
 induction k with
 |zero=>rfl
 |succ k ih=>rw[adF,aer,ih,aex,z1h,ac8];rfl
theorem Ay(o:Ok w h f):qd [bH w h f]= .ok (bH w h λ_ _=>0):=
 bZ (bx (aA (cH (aq (aA (cH (aq rfl)) (len0 o rfl) (mul_one o.w1 o.w2)))) (aY (aq rfl) Ab) (mul_one o.h1 o.h2)))
theorem yJ(o:Ok w h f):gF [.non,bH w h f]= .ok (bH w h λ_ _=>0):=
 bZ (jm (dY (aV (b:=true) (aA rfl rfl rfl)) (bx (aQ (aq rfl) (Ay o)))))
theorem Cp(hm:m= "worth"\/m= "joins")(o:Ok w h f):nu [bH w h f,.str m]= .ok (tab w h (tbl m w h f)):=by
 rcases hm with rfl |rfl
 ·exact Qs o
 ·exact Qt o
theorem Qx{d:D}(hm:m= "worth"\/m= "joins")(o:Ok w h f)(e:gF [d,bH w h f]= .ok (bH w h M)):vL [bH w h f,.str m,d]= .ok (.tup [tab w h (tbl m w h f),bH w h M]):=
 bZ (aH (fG (aQ (aq rfl) (uT o))) (aH (fG (aQ (aq rfl) (iR hm))) (aH (aR (aQ (aB rfl (aq rfl)) e) rfl) (bx (cH (aB (aQ (aB rfl (aq rfl)) (Cp hm o)) (aq rfl)))))))
end
abbrev lt(a b:Wy):Bool:=bC (fl a) (fl b)
section
variable{w h:Nat}{T:Nat->Nat->Nat->Int}{M:Nat->Nat->Int}
theorem Vk{a:Wy}:lt (eY c a) (eY c b)=lt a b:=by
 obtain⟨a1,a2,a3⟩:=a;obtain⟨b1,b2,b3⟩:=b;simp only[lt,fl,eY,bC];by_cases e1:a1=b1
 ·rw[if_pos e1,if_pos e1];by_cases e:a2=b2
  ·rw[if_pos (by omega),if_pos e]
  ·rw[if_neg (by omega),if_neg e];exact decide_eq_decide.mpr (by omega)
 ·rw[if_neg e1,if_neg e1]
theorem abO{a:Wy}:lt (sb c a) (sb c b)=lt a b:=by
 obtain⟨a1,a2,a3⟩:=a;obtain⟨b1,b2,b3⟩:=b;simp only[lt,fl,sb,bC];by_cases e:a1=b1
 ·rw[if_pos (by omega),if_pos e]
 ·rw[if_neg (by omega),if_neg e];exact decide_eq_decide.mpr (by omega)
theorem aaV{x:Nat}{a:Wy}:lt (pre x a) (pre x b)=lt a b:=by
 obtain⟨a1,a2,a3⟩:=a;obtain⟨b1,b2,b3⟩:=b;simp only[lt,fl,pre,bC,if_true]
theorem Mi{a c:Wy}(h1:lt b a=false)(h2:lt c b=false):lt c a=false:=by
 cases z:lt c a with
 |false=>rfl
 | true=>
  by_cases e:fl b=fl a
  ·have h2:bC (fl c) (fl b)=false:=h2;rw[e] at h2;exact h2.symm.trans z |>.symm
  ·have:=eV z (m9 e h1);exact (this.symm.trans h2)
theorem rm(hn:(cs.map fl).Nodup)(hne:cs≠[]):∃v,bR cs=[v]/\v∈cs/\∀u∈cs,lt u v=false:=by
 have hr:=yd hn;cases es:d8 (cs.map fl) with
 | nil=>
  have:=(eX (cs.map fl)).length_eq;rw[es,z1g] at this;exact absurd (ahn.mp this.symm) hne
 | cons l ls=>
  have ef:bR cs=[un l]:=by unfold bR;rw[es];rfl
  rw[es] at hr;obtain⟨hr1,_⟩:=adK.mp hr;have hl:l∈d8 (cs.map fl):=by rw[es];exact acT
  have hul:fl (un l)=l:=Mf l hl;refine⟨un l,ef,vP _ (by rw[ef];exact acT),λu hu=>?_⟩;have hm:fl u∈d8 (cs.map fl):=(eX _).mem_iff.mpr (ago hu);rw[es] at hm;show bC (fl u) (fl (un l))=false;rw[hul];rcases acR.mp hm with z |z
  ·rw[z];exact iQ _
  ·cases q:bC (fl u) l with
   |false=>rfl
   |true=>have:=eV q (hr1 _ z);rw[iQ] at this;cases this
def vl(T:Nat->Nat->Nat->Int)(M:Nat->Nat->Int):Nat->List Nat->Wy
 |_,[]=>(0,0,[])
 |y,[x]=>sb (dW (M y x)) (pre x (0,0,[]))
 |y,x::p::l=>sb (dW (M y x)) (pre x (eY (T (y+1) p (x+1 - p)) (vl T M (y+1) (p::l))))
def Pa(w:Nat)(M:Nat->Nat->Int):Nat->List Nat->Prop
 |_,[]=>True
 |y,[x]=>x<w/\M y x≠1
 |y,x::p::l=>x<w/\M y x≠1/\p<=x+1/\x<=p+1/\Pa w M (y+1) (p::l)
theorem Pa.lt{y x:Nat}{l:List Nat}(h:Pa w M y (x::l)):x<w:=by
 cases l with
 |nil=>exact h.1
 |cons p l=>exact h.1
theorem Pa.ne{y x:Nat}{l:List Nat}(h:Pa w M y (x::l)):M y x≠1:=by
 cases l with
 |nil=>exact h.2
 |cons p l=>exact h.2.1
theorem Qy{x:Nat}{t:Wy}(h:t∈jF x m cs):m≠1:=λe=>by
 unfold jF at h;rw[if_pos e] at h;cases h
theorem Vl{h:Nat}(hk:k+1<h):h - 1 - k=h - 1 - (k+1)+1:=by omega
theorem Jp:∀{k x:Nat} {t:Wy},x<w->k<h->t∈mJ w h T M k x->∃l,l.length=k/\Pa w M (h - 1 - k) (x::l)/\t=vl T M (h - 1 - k) (x::l)
 | 0,x,t,hx,hk,ht=>by
  obtain⟨u,hu,e⟩:=kI ht;have hu:u=(0,0,[]):=by simpa[mH] using hu
  subst hu;exact⟨[],rfl,⟨hx,Qy ht⟩,e⟩
 | k+1,x,t,hx,hk,ht=>by
  obtain⟨u,hu,e⟩:=kI ht;have hm:=Qy ht;rw[nD] at hu;obtain⟨p,hp,hu⟩:=aeX.mp hu;obtain⟨v,hv,rfl⟩:=adk.mp hu;obtain⟨h1,h2,h3⟩:=(Fg hx).mp hp;obtain⟨l,hl,hP,hvl⟩:=Jp h1 (by omega) hv;have ey:h - 1 - k=h - 1 - (k+1)+1:=Vl hk;rw[ey] at hP hvl e;exact⟨p::l,by rw[acX,hl],⟨hx,hm,h2,h3,hP⟩,by rw[e,hvl];rfl⟩
theorem Jq{x:Nat}{v:Wy}(hm:m≠1)(e:bR cs=[v]):jF x m cs=[sb (dW m) (pre x v)]:=by
 unfold jF;rw[if_neg hm,e];rfl
theorem Jr:∀{k x:Nat} {l:List Nat},l.length=k->k<h->Pa w M (h - 1 - k) (x::l)->∃t∈mJ w h T M k x,lt (vl T M (h - 1 - k) (x::l)) t=false
 | 0,x,l,hl,hk,hP=>by
  cases ahn.mp hl;obtain⟨v,ev,hv,_⟩:=rm (Mg (w:=w) (h:=h) (T:=T) (M:=M) (k:=0) (x:=x)) (by simp[mH]);have hv:v=(0,0,[]):=by simpa[mH] using hv
  subst hv;exact⟨_,by unfold mJ;rw[Jq hP.ne ev];exact acT,iQ _⟩
 | k+1,x,l,hl,hk,hP=>by
  cases l with
  |nil=>cases hl
  | cons p l=>
   have ey:h - 1 - k=h - 1 - (k+1)+1:=Vl hk;obtain⟨hx,hm,h2,h3,hP'⟩:=hP;have hl:l.length=k:=by simpa using hl
   rw[<-ey] at hP';obtain⟨t,ht,hlt⟩:=Jr hl (by omega) hP';have hu:eY (T (h - 1 - k) p (x+1 - p)) t∈mH w h T M (k+1) x:=by
    rw[nD];exact aeX.mpr ⟨p,(Fg hx).mpr ⟨hP'.lt,h2,h3⟩,ago ht⟩
   obtain⟨v,ev,hv,hle⟩:=rm (Mg (w:=w) (h:=h) (T:=T) (M:=M) (k:=k+1) (x:=x)) (List.ne_nil_of_mem hu);refine⟨_,by unfold mJ;rw[Jq hm ev];exact acT,?_⟩;show lt (sb _ (pre x (eY (T (h - 1 - (k+1)+1) p (x+1 - p)) (vl T M (h - 1 - (k+1)+1) (p::l))))) _=false;rw[abO,aaV,<-ey];exact Mi (hle _ hu) (by rw[Vk];exact hlt)
def topC(w h:Nat)(T:Nat->Nat->Nat->Int)(M:Nat->Nat->Int):List Wy:=(acD w).flatMap λx=>(mJ w h T M (h - 1) x).map (eY (T 0 x 1))
theorem Xm:(topC w h T M).length<=w:=by
 have:=Cm (F:=λx=>(mJ w h T M (h - 1) x).map (eY (T 0 x 1))) (l:=acD w) λp _=>by rw[z1g];exact nF
 rw[z2d] at this;exact this
theorem Qz:((topC w h T M).map fl).Nodup:=by
 unfold topC List.Nodup;rw[List.pairwise_map,List.pairwise_flatMap];refine⟨λp _=>?_,?_⟩
 ·have hl:((mJ w h T M (h - 1) p).map (eY (T 0 p 1))).length<=1:=by rw[z1g];exact nF
  match (mJ w h T M (h - 1) p).map (eY (T 0 p 1)),hl with
  |[],_=>exact .nil
  |[_],_=>simp
  |_::_::_,hl=>simp at hl
 ·have nd:(acD w).Nodup:=List.nodup_range;refine nd.imp λ{p q} hpq t ht u hu z=>?_;obtain⟨t',ht',rfl⟩:=adk.mp ht;obtain⟨u',hu',rfl⟩:=adk.mp hu;obtain⟨t2,_,rfl⟩:=kI ht';obtain⟨u2,_,rfl⟩:=kI hu';have:=Ve z;have h2:((p:Nat):Int)::t2.2.2=((q:Nat):Int)::u2.2.2:=congrArg (λt:Wy=>t.2.2) this;have h3:((p:Nat):Int)=((q:Nat):Int):=(af0 h2).1;exact hpq (by omega)
def gn(M:Nat->Nat->Int)(h:Nat)(s:Nat->Nat):Int:=((acD h).map λy=>dW (M y (s y))).sum
def wS(T:Nat->Nat->Nat->Int)(M:Nat->Nat->Int)(h:Nat)(s:Nat->Nat):Wy:=(-gn M h s,cost h T s,(acD h).map λy=>((s y:Nat):Int))
structure Az(w h:Nat)(M:Nat->Nat->Int)(s:Nat->Nat):Prop where
 sm:vM w h s
 ne:∀y<h,M y (s y)≠1
theorem aaW{s:Nat->Nat}:∀{k y:Nat},vl T M y ((aeP y (k+1)).map s)=(-((aeP y (k+1)).map λy=>dW (M y (s y))).sum,((aeP (y+1) k).map λy=>fare T s y).sum,(aeP y (k+1)).map λy=>((s y:Nat):Int))
 | 0,y=>by
  show (0 - dW (M y (s y)),(0:Int),[((s y:Nat):Int)])=(-(dW (M y (s y))+0),0,[((s y:Nat):Int)]);rw[show 0 - dW (M y (s y))= -(dW (M y (s y))+0) by omega]
 | k +1,y=>by
  have ih:=aaW (s:=s) (k:=k) (y:=y+1);rw[afm (s:=y),z1h,z1h,z1h,agM];rw[afm (s:=y+1),z1h,z1h,z1h,agM] at ih |-;show sb _ (pre _ (eY _ (vl T M (y+1) _)))=_;rw[ih];simp only[sb,pre,eY];refine ahv ?_ (ahv ?_ rfl)
  ·show -_ - dW _= -_;omega
  ·rw[z1h,agM];show _+T (y+1) (s (y+1)) (s y+1 - s (y+1))=T (y+1) (s (y+1)) (s y+1 - s (y+1))+_;rw[Int.add_comm]
theorem aaX(h1:1<=h):eY (T 0 (s 0) 1) (vl T M 0 ((acD h).map s))=wS T M h s:=by
 obtain⟨k,rfl⟩:∃k,h=k+1:=⟨h - 1,by omega⟩;rw[aeN,aaW];simp only[eY,wS,gn,cost];refine ahv ?_ (ahv ?_ ?_)
 ·rw[aeN]
 ·show ((aeP (0+1) k).map λy=>fare T s y).sum+T 0 (s 0) 1=T 0 (s 0) 1+((acD (k+1 - 1)).map λy=>fare T s (y+1)).sum;rw[Int.add_comm,Nat.add_sub_cancel,ahk,ac8];congr 3;funext i;show fare T s (0+1+i)=fare T s (i+1);rw[show 0+1+i=i+1 by omega]
 ·rw[aeN]
theorem aaY{s : Nat -> Nat} : ∀{k y : Nat},Pa w M y ((aeP y (k+1)).map s)↔(∀z,y<=z->z<=y+k->s z<w/\M z (s z)≠1)/\∀z,y<=z->z<y+k->s (z+1)<=s z+1/\s z<=s (z+1)+1
 | 0, y => ⟨λ h => ⟨λ z h1 h2 => by have:z=y:=by omega
                                    subst this;exact h,λz h1 h2=>by omega⟩,λh=>h.1 y (z0g _) (z0g _)⟩
 | k+1,y=>by
  have ih:=aaY (s:=s) (k:=k) (y:=y+1);rw[afm (s:=y),z1h];rw[afm (s:=y+1),z1h] at ih |-;constructor
  ·rintro⟨h1,h2,h3,h4,h5⟩
   obtain⟨q1,q2⟩:=ih.mp h5;refine⟨λz z1 z2=>?_,λz z1 z2=>?_⟩
   ·by_cases e:z=y
    ·subst e;exact⟨h1,h2⟩
    ·exact q1 z (by omega) (by omega)
   ·by_cases e:z=y
    ·subst e;exact⟨h3,h4⟩
    ·exact q2 z (by omega) (by omega)
  ·rintro⟨q1,q2⟩
   have a:=q1 y (z0g _) (by omega);have b:=q2 y (z0g _) (by omega);exact⟨a.1,a.2,b.1,b.2,ih.mpr ⟨λz z1 z2=>q1 z (by omega) (by omega),λz z1 z2=>q2 z (by omega) (by omega)⟩⟩
theorem Vm(h1:1<=h):Pa w M 0 ((acD h).map s)↔Az w h M s:=by
 obtain⟨k,rfl⟩:∃k,h=k+1:=⟨h - 1,by omega⟩;rw[aeN,aaY];constructor
 ·rintro⟨a,b⟩
  exact⟨⟨λy hy=>(a y (by omega) (by omega)).1,λy hy=>b y (by omega) (by omega)⟩,λy hy=>(a y (by omega) (by omega)).2⟩
 ·rintro⟨⟨a,b⟩,c⟩
  exact⟨λz _ z2=>⟨a z (by omega),c z (by omega)⟩,λz _ z2=>b z (by omega)⟩
theorem ZD(l:List Nat):∃s:Nat->Nat,l=(acD l.length).map s:=
 ⟨λy=>l.getD y 0,by
  apply ae8;intro i;rw[z2b];by_cases hi:i<l.length
  ·rw[ac3 hi];simp[hi]
  ·rw[afc (by omega),afc (by simp;omega)];rfl⟩
theorem ZF(h1:1<=h){t:Wy}(ht:t∈topC w h T M):∃s,Az w h M s/\t=wS T M h s:=by
 obtain⟨x,hx,hu⟩:=aeX.mp ht;obtain⟨u,hv,rfl⟩:=adk.mp hu;obtain⟨l,hl,hP,rfl⟩:=Jp (k:=h - 1) (h:=h) (z2e hx) (by omega) hv;rw[show h - 1 - (h - 1)=0 by omega] at hP |-;obtain⟨s,hs⟩:=ZD (x::l);have hlen:(x::l).length=h:=by rw[acX,hl];omega
 rw[hlen] at hs;have h0:s 0=x:=by
  obtain⟨k,rfl⟩:∃k,h=k+1:=⟨h - 1,by omega⟩;rw[aex,z1h] at hs;exact (af0 hs).1.symm
 rw[hs] at hP |-;refine⟨s,(Vm h1).mp hP,?_⟩;rw[<-aaX h1,h0]
theorem Vn(h1:1<=h)(q:Az w h M s):∃t∈topC w h T M,lt (wS T M h s) t=false:=by
 have hP:=(Vm h1).mpr q;rw[<-aaX h1];obtain⟨k,rfl⟩:∃k,h=k+1:=⟨h - 1,by omega⟩;have e:(acD (k+1)).map s=s 0::(acD k).map λy=>s (y+1):=by
  rw[aex,z1h,ac8];rfl
 rw[e] at hP |-;obtain⟨t,ht,hl⟩:=Jr (w:=w) (h:=k+1) (T:=T) (M:=M) (k:=k+1 - 1) (x:=s 0) (l:=(acD k).map λy=>s (y+1)) (by simp) (by omega) (by rw[show k+1 - 1 - (k+1 - 1)=0 by omega];exact hP);rw[show k+1 - 1 - (k+1 - 1)=0 by omega] at hl;exact⟨_,aeX.mpr ⟨s 0,agp.mpr (q.sm.lt 0 (by omega)),ago ht⟩,by rw[Vk];exact hl⟩
def Bst(w h:Nat)(T:Nat->Nat->Nat->Int)(M:Nat->Nat->Int)(s:Nat->Nat):Prop:=Az w h M s/\∀s',Az w h M s'->lt (wS T M h s') (wS T M h s)=false
theorem least(h1:1<=h):(bR (topC w h T M)=[]/\∀s,¬Az w h M s)\/∃s,bR (topC w h T M)=[wS T M h s]/\Bst w h T M s:=by
 by_cases hne:topC w h T M=[]
 ·left;refine⟨by rw[hne];rfl,λs q=>?_⟩;obtain⟨t,ht,_⟩:=Vn (T:=T) h1 q;rw[hne] at ht;cases ht
 ·right;obtain⟨v,ev,hv,hle⟩:=rm Qz hne;obtain⟨s,q,rfl⟩:=ZF h1 hv;refine⟨s,ev,q,λs' q'=>?_⟩;obtain⟨t,ht,hl⟩:=Vn (T:=T) h1 q';exact Mi (hle t ht) hl
end
section
variable{w h:Nat}{T:Nat->Nat->Nat->Int}{M:Nat->Nat->Int}{f:Nat->Nat->Int}{m:Str}{ρ:ao}
def aaZ:ao->So:=(aM (bh (aF (aN gk 3) (ak (bin (gv 0) (ci 0) bU) (ak (gv 3) (ak (gv 3) nA)))) (aJ 5)) (BX 2 (cu 3 [5] (gQ (gv 4)) (cD (cF 3 (aW (aJ 0) (aW (aJ 1) (aW (aJ 2) nilG))))) tT (dj (ak (gv 0) (ak (bin (gv 1) (gv 3) gR) (ak (gv 2) nA)))))))
theorem ZG(h1:1<=h){C:Nat->List Wy}{x:Nat}(hx:x<w)(hC:(C x).length<=1){e5:Option Ent}(hl:acc.length<=1000):
  aaZ [vA (tab w h T),e1,some (.lst acc),vA (.int (x:Int)),vA (cA (C x)),e5]= .nx [vA (tab w h T),e1,some (.lst (acc++((C x).map (eY (T 0 x 1))).map fH)),vA (.int (x:Int)),vA (cA (C x)),vA (.int (T 0 x 1))]:=by
 have e0:gk [.lst ((acD w).map λx=>dD (T 0 x)),.int (x:Int),.int (x:Int)]= .ok (.int (T 0 x 1)):=by
  have:=qm (T:=T 0 x) (p:=λx=>dD (T 0 x)) (a:=x) (b:=x) hx (by omega) (by omega) rfl
  rwa [show x+1 - x=1 by omega] at this
 refine aH (aR (aQ (aB (aA rfl rfl (jE (α:=D) (x:=0) h1)) (aB rfl (aq rfl))) e0) rfl) ?_;refine (Qu (ds:=acc) rfl (cj (c:=fH) (h:=λt=>fH (eY (T 0 x 1) t)) (l:=C x) (qD rfl) (by omega) λt ht=>?_) (by simp;omega)).trans ?_
 ·exact cJ rfl (cH (aB rfl (aB (x:= .int (t.2.1+T 0 x 1)) (aA rfl rfl rfl) (aq rfl))))
 ·rw[ac8];rfl
theorem Mj(h1:1<=h){C:Nat->List Wy}(hC:∀p,(C p).length<=1){e1:Option Ent}:∀{ps:List Nat} {acc:List D} {e3 e4 e5:Option Ent},(∀p∈ps,p<w)->acc.length+ps.length<=1000->
  ∃z3 z4 z5,forL (cD (cF 2 (aW (aJ 3) (aW (aJ 4) nilG)))) aaZ (ps.map λ(p:Nat)=>D.tup [.int (p:Int),cA (C p)]) [vA (tab w h T),e1,some (.lst acc),e3,e4,e5] =
   .nx [vA (tab w h T),e1,some (.lst (acc++(ps.flatMap λp=>(C p).map (eY (T 0 p 1))).map fH)),z3,z4,z5]
 |[],acc,e3,e4,e5,_,_=>⟨e3,e4,e5,by simp[forL]⟩
 | p::ps,acc,e3,e4,e5,hp,hl=>by
  rw[acX] at hl;have hpw:=hp p (by simp);have hc:=hC p;obtain⟨z3,z4,z5,e⟩:=Mj h1 hC (e1:=e1) (ps:=ps) (acc:=acc++((C p).map (eY (T 0 p 1))).map fH) (e3:=vA (.int (p:Int))) (e4:=vA (cA (C p))) (e5:=vA (.int (T 0 p 1))) (λq hq=>hp q (by simp[hq])) (by simp;omega);refine⟨z3,z4,z5,dN rfl (ZG h1 hpw hc (by omega)) (e.trans ?_)⟩;rw[agV,agm,aeg]
theorem Oc(h1:1<=h)(hw:w<=20):vI [tab w h T,.lst ((acD h).map λy=>tZ w h T M (h - 1 - y))]= .ok (.lst ((topC w h T M).map fH)):=by
 obtain⟨z3,z4,z5,e⟩:=Mj (T:=T) h1 (C:=mJ w h T M (h - 1)) (λp=>nF) (e1:=vA (.lst ((acD h).map λy=>tZ w h T M (h - 1 - y)))) (ps:=acD w) (acc:=[]) (e3:=none) (e4:=none) (e5:=none) (λp hp=>z2e hp) (by simp;omega);exact bZ (aH (jr rfl) (aH (jV (Hl (p:=λp=>cA (mJ w h T M (h - 1) p)) (aq (aA rfl rfl (jE (α:=D) (x:=0) h1))) rfl) e) (bx rfl)))
theorem RQ(hl:cs.length<64)(hn:(cs.map fl).Nodup){v:ao->R (Option Int)}(e:u ρ= .ok (.lst (cs.map fH)))(e0:v ρ= .ok (some 1)):m8 (aF lU (ak u nA)) (λ_=> .ok none) v ρ= .ok (.lst ((bR cs).map fH)):=by
 have e1:lU [.lst (cs.map fH)]= .ok (.lst ((d8 (cs.map fl)).map iJ)):=by
  rw[lU,vO];show (if _ then _ else _)=_;rw[if_pos ⟨by simpa using hl,hn⟩]
 have e2:jA ((d8 (cs.map fl)).map iJ) none (some 1)=(bR cs).map fH:=by
  have e3:∀{n d:Nat},HT.sIx n d (some 1)=min 1 n:=λ{n d}=>by
   show (if (1:Int)<0 then ((1:Int)+(n:Int)).toNat else min (1:Int).toNat n)=min 1 n;rw[if_neg (by decide)];rfl
  rw[jA,e3,Fb,ahg,ahu,<-List.map_take];have e4:∀l:List (List Int),l.take (min 1 (l.map iJ).length)=l.take 1:=λl=>by cases l <;> simp
  rw[e4];unfold bR;rw[ac8];refine adG λl hl=>?_;show iJ l=fH (un l);rw[Ck,Mf l (agn hl)]
 unfold m8;rw[aY (aq e) e1,e0];show R.ok (D.lst (jA _ none (some 1)))=_;rw[e2]
theorem Hr(h1:1<=h)(hh:h<=20)(hw:w<=20):pG [tab w h T,bH w h M,.int 1]= .ok (.lst ((bR (topC w h T M)).map fH)):=by
 have hl:=Xm (w:=w) (h:=h) (T:=T) (M:=M);exact dZ (bx (RQ (by omega) Qz (aQ (aB rfl (aq (aQ (aB rfl (aB rfl (aq rfl))) ((ZC hh hw).trans (by rw[Vj]))))) (Oc h1 hw)) rfl))
def lwD:List Wy->D
 |[]=> .non
 |t::_=> .tup [.int t.2.1,.tup (t.2.2.map .int)]
def lsD:List Wy->D
 |[]=> .non
 |t::_=> .tup (t.2.2.map .int)
theorem yK(h1:1<=h)(hh:h<=20)(hw:w<=20):jX [tab w h T,bH w h M]= .ok (lwD (bR (topC w h T M))):=by
 have e:=Hr (T:=T) (M:=M) h1 hh hw;have hl:=qu (cs:=topC w h T M)
 match bR (topC w h T M),e,hl with
 |[],e,_=>exact dZ (aH (aR (aQ (aB rfl (aB rfl (aq rfl))) e) rfl) (jm (dY (gD (Ac (ds:=[]) rfl)) (bx rfl))))
 |[t],e,_=>exact dZ (aH (aR (aQ (aB rfl (aB rfl (aq rfl))) e) rfl) (aH (bV (gD (Ac (ds:=[fH t]) rfl)) rfl) (aH (aR (d:=fH t) (aA (y:= .int 0) rfl rfl (TY (i:=0) rfl)) rfl) (bx (cH (aB rfl (aq rfl)))))))
 |_::_::_,_,hl=>simp at hl
theorem JF{d:D}(hm:m= "worth"\/m= "joins")(o:Ok w h f)(e:gF [d,bH w h f]= .ok (bH w h M)):lW [bH w h f,.str m,d]= .ok (lsD (bR (topC w h (tbl m w h f) M))):=by
 have e1:=yK (T:=tbl m w h f) (M:=M) o.h1 o.h2 o.w2
 match bR (topC w h (tbl m w h f) M),e1 with
 |[],e1=>exact dZ (aH (aR (aQ (aB rfl (aB rfl (aq rfl))) (Qx hm o e)) rfl) (aH (aR (aQ (aB rfl (aq rfl)) e1) rfl) (jm (dY (aV (b:=true) (aA rfl rfl rfl)) (bx rfl)))))
 |t::r,e1=>exact dZ (aH (aR (aQ (aB rfl (aB rfl (aq rfl))) (Qx hm o e)) rfl) (aH (aR (aQ (aB rfl (aq rfl)) e1) rfl) (aH (bV (aV (b:=false) (aA rfl rfl rfl)) rfl) (bx (d:=lsD (t::r)) (aA (y:= .int 1) rfl rfl (iY (i:=1) rfl))))))
end
section
variable{ns:List Int}{w h k:Nat}{f M:Nat->Nat->Int}{T:Nat->Nat->Nat->Int}{m:Str}{s:Nat->Nat}{ρ:ao}
theorem Vo{i:Int}(hi:0<=i)(hns:ns.length<=1000000):∃m:Str,(m= "worth"\/m= "joins")/\pH [.lst (ns.map .int),.int i]= .ok (.str m):=by
 obtain⟨e1,h0,h2⟩:=qb (k:=i) (m:=2) hns (by omega) (by omega);obtain⟨d,hd,ed⟩:=GJ (xs:=[D.str "worth",.str "joins"]) h0 h2;simp only[acR,adW,or_false] at hd;rcases hd with rfl |rfl
 ·exact⟨"worth",.inl rfl,bZ (bx (aA (x:= .lst [D.str "worth",.str "joins"]) (oV rfl) (aQ (aB rfl (aB rfl (aq rfl))) e1) (xM ed)))⟩
 ·exact⟨"joins",.inr rfl,bZ (bx (aA (x:= .lst [D.str "worth",.str "joins"]) (oV rfl) (aQ (aB rfl (aB rfl (aq rfl))) e1) (xM ed)))⟩
theorem aa0:lwD [wS T M h s]= .tup [.int (cost h T s),sm h s]:=by
 show D.tup [.int (cost h T s),.tup (((acD h).map λy=>((s y:Nat):Int)).map .int)]=_;rw[ac8];rfl
theorem aa1:lsD [wS T M h s]=sm h s:=by
 show D.tup (((acD h).map λy=>((s y:Nat):Int)).map .int)=_;rw[ac8];rfl
theorem acn{p:ao->R Bool}{b:ao->So}{n:Nat}(e:p (cO ρ)= .ok false):ig p b (n+1) ρ= .nx ρ:=by rw[ig,e]
theorem aa2{p:ao->R Bool}{b:ao->So}{n:Nat}{ρ1:ao}{o:So}(e:p (cO ρ)= .ok true)(e1:b ρ= .nx ρ1)(e2:ig p b n ρ1=o):ig p b (n+1) ρ=o:=by rw[ig,e];simp only[e1,e2]
theorem abP{p:ao->R Bool}{b:ao->So}{n:Nat}{d:D}(e:p (cO ρ)= .ok true)(e1:b ρ= .rt d):ig p b (n+1) ρ= .rt d:=by rw[ig,e];simp only[e1]
theorem dO{n j:Nat}{sel:List (Sum Nat D)}{fk:ao->R (List D)}{zs:List D}(e1:fa ρ= .ok ds)(e2:fk ρ= .ok zs)(e3:F (ds++pickK .non sel zs)=r)(hl:(ds++pickK .non sel zs).length=n:=by rfl)(hj:zs.length=j:=by rfl):cX F n j sel fa fk ρ=r:=by
 unfold cX;rw[e1,R.bw,e2,R.bw,if_pos hj,okN,if_pos hl,e3]
abbrev yL:=(Nat->Nat)×(Nat->Int)
def Ad(h:Nat)(p:yL):D:= .tup [sm h p.1,row h p.2]
def Go(m:Str)(h:Nat):Nat->Nat->(Nat->Nat->Int)->(Nat->Nat->Int)->Option (List yL)->Prop
 |0,_,_,_,r=>r=some []
 |k+1,w,f,M,r=>(bR (topC w h (tbl m w h f) M)=[]/\(∀s,¬Az w h M s)/\r=none)\/∃s r',Az w h M s/\bR (topC w h (tbl m w h f) M)=[wS (tbl m w h f) M h s]/\Go m h k (w - 1) (less s f) (less s M) r'/\r=r'.map ((s,λy=>f y (s y)):: ·)
def QB:(Nat->Nat->Int)->List yL->Nat->Nat->Int
 |f,[]=>f
 |f,p::L=>QB (less p.1 f) L
def tot(m:Str)(h:Nat):Nat->(Nat->Nat->Int)->List yL->Int
 |_,_,[]=>0
 |w,f,p::L=>cost h (tbl m w h f) p.1+tot m h (w - 1) (less p.1 f) L
theorem Yn(h1:1<=h):∀{k w:Nat} {f M:Nat->Nat->Int},∃r,Go m h k w f M r
 |0,w,f,M=>⟨_,rfl⟩
 | k +1,w,f,M=>by
  rcases least (w:=w) (T:=tbl m w h f) (M:=M) h1 with⟨e,q⟩ |⟨s,e,q,_⟩
  ·exact⟨none,.inl ⟨e,q,rfl⟩⟩
  ·obtain⟨r,g⟩:=Yn h1 (k:=k) (w:=w - 1) (f:=less s f) (M:=less s M);exact⟨_,.inr ⟨s,r,q,e,g,rfl⟩⟩
theorem Vp:less s (λ_ _=>(0:Int))=λ_ _=>0:=by funext y x;unfold less;split <;> rfl
theorem QC:∀{k w:Nat} {f M:Nat->Nat->Int} {r:Option (List yL)},k<w->(∀y<h,∀x<w,M y x≠1)->Go m h k w f M r->∃L,r=some L
 |0,w,f,M,r,_,_,g=>⟨_,g⟩
 | k +1,w,f,M,r,hk,z,g=>by
  rcases g with⟨_,q,_⟩ |⟨s,r',q,_,g,e⟩
  ·exact absurd ⟨⟨λy hy=>by show 0<w;omega,λy hy=>by show 0<=0+1/\0<=0+1;omega⟩,λy hy=>z y hy 0 (by omega)⟩ (q λ_=>0)
  ·obtain⟨L,rfl⟩:=QC (by omega) (λy hy x hx=>by unfold less;split;exact z _ hy _ (by omega);exact z _ hy _ (by omega)) g;exact⟨_,e⟩
def tkD(m:Str)(w h k:Nat)(f:Nat->Nat->Int):Option (List yL)->D
 |none=> .non
 |some L=> .tup [bH (w - k) h (QB f L),.lst (L.map (Ad h)),.int (tot m h w f L)]
section
variable(hm:m= "worth"\/m= "joins")(o:Ok w h f)
include hm o
theorem Yo:jX [tab w h (tbl m w h f),bH w h M]= .ok (lwD (bR (topC w h (tbl m w h f) M))):=yK o.h1 o.h2 o.w2
theorem Xn(e:bR (topC w h (tbl m w h f) M)=[]){e3 e7:Option Ent}:tkB [e0,e1,vA (.str m),e3,vA (bH w h f),vA (bH w h M),some (.lst acc),e7,e8,e9,e10]= .rt .non:=by
 have el:=Yo (M:=M) hm o;rw[e] at el;exact aH (aR (aQ (aB (aQ (aB rfl (aq rfl)) (Cp hm o)) (aq rfl)) el) rfl) (jm (dY (aV (aA rfl rfl rfl)) (bx rfl)))
theorem Vq(q:Az w h M s)(e:bR (topC w h (tbl m w h f) M)=[wS (tbl m w h f) M h s]){e3:Option Ent}{t:Int}(hl:acc.length<=1000):tkB [e0,e1,vA (.str m),e3,vA (bH w h f),vA (bH w h M),some (.lst acc),vA (.int t),e8,e9,e10] =
  .nx [e0,e1,vA (.str m),e3,vA (bH (w - 1) h (less s f)),vA (bH (w - 1) h (less s M)),some (.lst (acc++[Ad h (s,λy=>f y (s y))])),vA (.int (t+cost h (tbl m w h f) s)),vA (.tup [.int (cost h (tbl m w h f) s),sm h s]),vA (.int (cost h (tbl m w h f) s)),vA (sm h s)]:=by
 have el:=Yo (M:=M) hm o;rw[e,aa0] at el;refine aH (aR (aQ (aB (aQ (aB rfl (aq rfl)) (Cp hm o)) (aq rfl)) el) rfl) (aH (bV (aV (aA rfl rfl rfl)) rfl) (aH (aR rfl rfl) (aH (q9 (ds:=acc) (d:=Ad h (s,λy=>f y (s y))) (cH (aB rfl (aq (aQ (aB rfl (aq rfl)) (Hi q.sm o.h2))))) rfl (by omega)) (aH (Vd (a:=t) (b:=cost h (tbl m w h f) s) rfl rfl) ?_))));exact GQ (aQ (aB rfl (aq rfl)) (Fe q.sm o.h2 o.w2)) (aQ (aB rfl (aq rfl)) (Fe q.sm o.h2 o.w2))
end
theorem Vr{e3 e4 e5 e7:Option Ent}{K:Nat}:U5 (cO [e0,vA (.int (K:Int)),e2,e3,e4,e5,some (.lst acc),e7,e8,e9,e10])= .ok (decide (acc.length<K)):=by
 refine aV (aA (aY (aq rfl) rfl) rfl ?_);show R.ok (D.bl (decide ((acc.length:Int)<(K:Int))))=_;rw[decide_eq_decide.mpr (by omega:(acc.length:Int)<(K:Int)↔acc.length<K)]
theorem QD(hm:m= "worth"\/m= "joins"){e0 e3:Option Ent}:∀{k w n K:Nat} {f M:Nat->Nat->Int} {r:Option (List yL)} {acc:List D} {t:Int} {e8 e9 e10:Option Ent},Go m h k w f M r->Ok w h f->k<w->k<n->acc.length+k=K->K<=500->
  match (generalizing:=false) r with
  |none=>ig U5 tkB n [e0,vA (.int (K:Int)),vA (.str m),e3,vA (bH w h f),vA (bH w h M),some (.lst acc),vA (.int t),e8,e9,e10]= .rt .non
  | some L=>∃z5 z8 z9 lY,ig U5 tkB n [e0,vA (.int (K:Int)),vA (.str m),e3,vA (bH w h f),vA (bH w h M),some (.lst acc),vA (.int t),e8,e9,e10] =
    .nx [e0,vA (.int (K:Int)),vA (.str m),e3,vA (bH (w - k) h (QB f L)),z5,some (.lst (acc++L.map (Ad h))),vA (.int (t+tot m h w f L)),z8,z9,lY]
 | 0,w,n,K,f,M,r,acc,t,e8,e9,e10,g,o,hw,hn,hK,hb=>by
  obtain⟨n,rfl⟩:∃j,n=j+1:=⟨n - 1,by omega⟩;have g:r=some []:=g;subst g;refine⟨vA (bH w h M),e8,e9,e10,?_⟩;rw[acn (by rw[Vr,decide_eq_false (by omega)]),afa,adp,QB,tot,Int.add_zero];rfl
 | k+1,w,n,K,f,M,r,acc,t,e8,e9,e10,g,o,hw,hn,hK,hb=>by
  obtain⟨n,rfl⟩:∃j,n=j+1:=⟨n - 1,by omega⟩;have et:∀e8 e9 e10,U5 (cO [e0,vA (.int (K:Int)),vA (.str m),e3,vA (bH w h f),vA (bH w h M),some (.lst acc),vA (.int t),e8,e9,e10])= .ok true:=λ_ _ _=>by rw[Vr,decide_eq_true (by omega)]
  rcases g with⟨e,_,rfl⟩ |⟨s,r',q,e,g,rfl⟩
  ·exact abP (et _ _ _) (Xn hm o e)
  ·have ih:=QD hm (e0:=e0) (e3:=e3) (n:=n) (K:=K) (acc:=acc++[Ad h (s,λy=>f y (s y))]) (t:=t+cost h (tbl m w h f) s) (e8:=vA (.tup [.int (cost h (tbl m w h f) s),sm h s])) (e9:=vA (.int (cost h (tbl m w h f) s))) (e10:=vA (sm h s)) g (o.less (by omega)) (by omega) (by omega) (by rw[z1d,aem];omega) hb;cases r' with
   |none=>exact aa2 (et _ _ _) (Vq hm o q e (by omega)) ih
   | some L=>
    obtain⟨z5,z8,z9,lY,e'⟩:=ih;refine⟨z5,z8,z9,lY,aa2 (et _ _ _) (Vq hm o q e (by omega)) ?_⟩;rw[e',aeg,agN,show w - (k+1)=w - 1 - k by omega];rfl
theorem Ml{r:Option (List yL)}(hm:m= "worth"\/m= "joins")(o:Ok w h f)(hk:k<w)(g:Go m h k w f M r):uO [bH w h f,.int (k:Int),.str m,bH w h M]= .ok (tkD m w h k f r):=by
 have ow:=o.w2;have e:=QD hm (e0:=vA (bH w h f)) (e3:=vA (bH w h M)) (n:=64) (K:=k) (acc:=[]) (t:=0) (e8:=none) (e9:=none) (e10:=none) g o hk (by omega) (by rw[ad8];omega) (by omega);cases r with
 |none=>exact dZ (aH (GQ rfl rfl) (aH (jr rfl) (aH (aR rfl rfl) (jm e))))
 | some L=>
  obtain⟨z5,z8,z9,lY,e⟩:=e;rw[ae6,Int.zero_add] at e;exact dZ (aH (GQ rfl rfl) (aH (jr rfl) (aH (aR rfl rfl) (aH e (bx (cH (aB rfl (aB rfl (aq rfl)))))))))
end
section
variable{ns:List Int}{w h k:Nat}{f M:Nat->Nat->Int}{T:Nat->Nat->Nat->Int}{m:Str}{s:Nat->Nat}{ρ:ao}
theorem pI{i n:Nat}{j:Nat}(h1:j<=i)(h2:i<=n):jC [.int (i:Int),.int (j:Int),.int (n:Int)]= .ok .non:=
 Dm (bV (qT (gD (b:=true) (aV (aQ (aq rfl) tY))) (gD (b:=true) (aV (Dl rfl rfl (sZ (by omega)) rfl (sZ (by omega)))))) rfl)
theorem nG{n:Nat}(e1:fa ρ= .ok ds)(e3:F ds=r)(hl:ds.length=n:=by rfl):cX F n 0 [] fa nA ρ=r:=
 dO (ds:=ds) (zs:=[]) e1 rfl (by show F (ds++[])=r;rw[adp];exact e3) (by show (ds++[]).length=n;rw[adp];exact hl)
def nwD(low h:Nat)(f:Nat->Nat->Int):Option (List yL)->D
 |none=> .non
 |some L=>bH low h (QB f L)
section
variable{low:Nat}{d:D}{r:Option (List yL)}(hm:m= "worth"\/m= "joins")(o:Ok w h f)(hd:gF [d,bH w h f]= .ok (bH w h M))(h1:1<=low)(h2:low<=w)(g:Go m h (w - low) w f M r)
include hm o hd h1 h2 g
theorem Ba:qg [bH w h f,.int (low:Int),.str m,d]= .ok (tkD m w h (w - low) f r):=by
 refine bZ (aH (fG (aQ (aq rfl) (uT o))) (aH (fG (aQ (aq rfl) (iR hm))) (aH (aR (aQ (aB rfl (aq rfl)) hd) rfl) (aH (fG (nG (aB rfl (aB rfl (aq (len0 o rfl)))) (pI (j:=1) h1 h2))) (bx (aQ (aB rfl (aB (x:= .int ((w - low:Nat):Int)) (aA (len0 o rfl) rfl ?_) (aB rfl (aq rfl)))) (Ml hm o (by omega) g)))))));show R.ok (D.int ((w:Int) - (low:Int)))=_;rw[show (w:Int) - (low:Int)=((w - low:Nat):Int) by omega]
theorem Od:qj [bH w h f,.int (low:Int),.str m,d]= .ok (nwD low h f r):=by
 have e:=Ba hm o hd h1 h2 g;cases r with
 |none=>exact bZ (aH (aR (nG (aB rfl (aB rfl (aB rfl (aq rfl)))) e) rfl) (jm (dY (aV (aA rfl rfl rfl)) (bx rfl))))
 | some L=>
  rw[tkD,show w - (w - low)=low by omega] at e;exact bZ (aH (aR (nG (aB rfl (aB rfl (aB rfl (aq rfl)))) e) rfl) (aH (bV (aV (aA rfl rfl rfl)) rfl) (bx (aA rfl rfl (iY (i:=0) rfl)))))
end
theorem ZJ{low:Nat}{L:List yL}(hm:m= "worth"\/m= "joins")(o:Ok w h f)(h1:1<=low)(h2:low<=w)(g:Go m h (w - low) w f (λ_ _=>0) (some L)):Ew [bH w h f,.int (low:Int),.str m]= .ok (.int (tot m h w f L)):=
 bZ (bx (aA (nG (aB rfl (aB rfl (aB rfl (aq rfl)))) (Ba hm o (yJ o) h1 h2 g)) rfl (iY (i:=2) rfl)))
def Best(m:Str)(w h:Nat)(f:Nat->Nat->Int)(s:Nat->Nat):Prop:=Az w h (λ_ _=>0) s/\bR (topC w h (tbl m w h f) λ_ _=>0)=[wS (tbl m w h f) (λ_ _=>0) h s]
theorem ZK(h1:1<=h)(hw:1<w):∃s,Best m w h f s:=by
 obtain⟨r,g⟩:=Yn (m:=m) h1 (k:=1) (w:=w) (f:=f) (M:=λ_ _=>0);obtain⟨L,rfl⟩:=QC hw (λ_ _ _ _=>by decide) g;rcases g with⟨_,_,e⟩ |⟨s,r',q,e,_,_⟩
 ·cases e
 ·exact⟨s,q,e⟩
def p8(m:Str)(w h:Nat)(f:Nat->Nat->Int):Nat->Nat:=Classical.epsilon (Best m w h f)
theorem Mp(h1:1<=h)(hw:1<w):Best m w h f (p8 m w h f):=Classical.epsilon_spec (ZK h1 hw)
def cst(m:Str)(w h:Nat)(f:Nat->Nat->Int):Int:=cost h (tbl m w h f) (p8 m w h f)
def tr(f:Nat->Nat->Int):Nat->Nat->Int:=λy x=>f x y
theorem Ok.tr(o:Ok w h f):Ok h w (tr f):=⟨o.h1,o.h2,o.w1,o.w2,λy hy x hx=>o.c x hx y hy⟩
theorem lZ(hm:m= "worth"\/m= "joins")(o:Ok w h f)(hw:1<w):jY [bH w h f,.str m]= .ok (.tup [.int (cst m w h f),bH (w - 1) h (less (p8 m w h f) f)]):=by
 have b:=Mp (m:=m) (f:=f) o.h1 hw;have g:Go m h 1 w f (λ_ _=>0) (some [(p8 m w h f,λy=>f y (p8 m w h f y))]):= .inr ⟨_,some [],b.1,b.2,rfl,rfl⟩;have e:=Ml hm o hw g;have e:uO [bH w h f,.int 1,.str m,bH w h λ_ _=>0]= .ok (.tup [bH (w - 1) h (less (p8 m w h f) f),.lst ([(p8 m w h f,λy=>f y (p8 m w h f y))].map (Ad h)),.int (cst m w h f+0)]):=e;rw[Int.add_zero] at e;exact dZ (aH (aR (aQ (aB rfl (aB rfl (aB rfl (aq (aQ (aq rfl) (Ay o)))))) e) rfl) (bx (cH (aB rfl (aq rfl)))))
theorem yM(hm:m= "worth"\/m= "joins")(o:Ok w h f)(hh:1<h):vJ [bH w h f,.str m]= .ok (.tup [.int (cst m h w (tr f)),bH w (h - 1) (tr (less (p8 m h w (tr f)) (tr f)))]):=
 dZ (aH (aR (aQ (aB (aQ (aq rfl) (tu o)) (aq rfl)) (lZ hm o.tr hh)) rfl) (bx (cH (aB rfl (aq (aQ (aq rfl) (tu (o.tr.less hh))))))))
structure Pc where
 w:Nat
 h:Nat
 f:Nat->Nat->Int
def pD(P:Pc):D:=bH P.w P.h P.f
abbrev j5(P:Pc):Prop:=Ok P.w P.h P.f
def stp(m:Str):Bool->Pc->Int×Pc
 |true,P=>(cst m P.w P.h P.f,⟨P.w - 1,P.h,less (p8 m P.w P.h P.f) P.f⟩)
 |false,P=>(cst m P.h P.w (tr P.f),⟨P.w,P.h - 1,tr (less (p8 m P.h P.w (tr P.f)) (tr P.f))⟩)
def Fits(l:List Bool)(P:Pc):Prop:=l.count true<P.w/\l.count false<P.h
def run(m:Str):List Bool->Pc->Int×Pc
 |[],P=>(0,P)
 |b::l,P=>((stp m b P).1+(run m l (stp m b P).2).1,(run m l (stp m b P).2).2)
section
variable{P:Pc}{l:List Bool}{b:Bool}
theorem Fits.tail(z:Fits (b::l) P):Fits l (stp m b P).2:=by
 obtain⟨z1,z2⟩:=z;cases b <;> simp[adq] at z1 z2 <;> exact⟨by show _<_;simp only[stp];omega,by show _<_;simp only[stp];omega⟩
theorem j5.step(o:j5 P)(z:Fits (b::l) P):j5 (stp m b P).2:=by
 obtain⟨z1,z2⟩:=z;cases b
 ·exact ((Ok.tr o).less (by simp[adq] at z2;omega)).tr
 ·exact Ok.less o (by simp[adq] at z1;omega)
def sgn(b:Bool):Str:=if b then "c" else "r"
def txt(l:List Bool):Str:=⟨(l.map λb=>if b then 99 else 114).toArray⟩
theorem yN:signs (txt l)=l.map λb=> .str (sgn b):=by
 unfold signs txt;simp only[ac8];refine adG λb _=>?_;cases b <;> rfl
theorem yO:(txt l).cps.all (· < 128)=true:=by
 unfold txt;simp only[List.all_toArray,List.all_map];refine afi.mpr λb _=>?_;cases b <;> rfl
theorem QF(e:u ρ= .ok (.str (txt l))):Li u ρ= .ok (l.map λb=> .str (sgn b)):=by
 rw[Li,e,R.bw];show (if (txt l).cps.all (· < 128)=true then R.ok (signs (txt l)) else .bad)=_;rw[if_pos yO,yN]
theorem abQ(hm:m= "worth"\/m= "joins")(o:j5 P)(z:Fits (b::l) P){e5:Option Ent}:boB [e0,e1,vA (.str m),vA (pD P),vA (.str (sgn b)),e5]= .nx [e0,e1,vA (.str m),vA (pD (stp m b P).2),vA (.str (sgn b)),vA (.int (stp m b P).1)]:=by
 obtain⟨z1,z2⟩:=z;cases b
 ·exact aR (Hq (aV (aA rfl rfl rfl)) (aQ (aB rfl (aq rfl)) (yM hm o (by simp[adq] at z2;omega)))) rfl
 ·exact aR (Ho (aV (aA rfl rfl rfl)) (aQ (aB rfl (aq rfl)) (lZ hm o (by simp[adq] at z1;omega)))) rfl
theorem QG(hm:m= "worth"\/m= "joins"){e0 e1:Option Ent}:∀{l:List Bool} {P:Pc} {e4 e5:Option Ent},j5 P->Fits l P->∃z4 z5,forL (aJ 4) boB (l.map λb=> .str (sgn b)) [e0,e1,vA (.str m),vA (pD P),e4,e5]= .nx [e0,e1,vA (.str m),vA (pD (run m l P).2),z4,z5]
 |[],P,e4,e5,_,_=>⟨e4,e5,rfl⟩
 | b::l,P,e4,e5,o,z=>by
  obtain⟨z4,z5,e⟩:=QG hm (l:=l) (P:=(stp m b P).2) (e4:=vA (.str (sgn b))) (e5:=vA (.int (stp m b P).1)) (j5.step o z) z.tail;exact⟨z4,z5,dN rfl (abQ hm o z) e⟩
theorem Oe(hm:m= "worth"\/m= "joins")(o:j5 P)(z:Fits l P)(q:qe [.str (txt l),pD P]= .ok (.bl true)):iw [pD P,.str (txt l),.str m]= .ok (pD (run m l P).2):=by
 obtain⟨z4,z5,e⟩:=QG hm (e0:=vA (pD P)) (e1:=vA (.str (txt l))) (e4:=none) (e5:=none) o z;exact bZ (aH (fG (aQ (aq rfl) (uT o))) (aH (fG (aQ (aq rfl) (iR hm))) (aH (bV (gD (b:=true) (aV (aQ (aB rfl (aq rfl)) q))) rfl) (aH (aR rfl rfl) (aH (jV (QF rfl) e) (bx rfl))))))
end
end
section
variable{ns:List Int}{w h k:Nat}{f M:Nat->Nat->Int}{T:Nat->Nat->Nat->Int}{m:Str}{s:Nat->Nat}{ρ:ao}
def kJ:Nat->Nat->Nat->List (List Bool)
 |0,_,_=>[]
 |n+1,d,a=>if d=0/\a=0 then[[]] else (if 0<a then (kJ n d (a - 1)).map (true:: ·) else[])++(if 0<d then (kJ n (d - 1) a).map (false:: ·) else[])
theorem jG:∀{n d a:Nat} {l:List Bool},l∈kJ n d a->l.count true=a/\l.count false=d
 |0,_,_,_,h=>by simp[kJ] at h
 | n+1,d,a,l,h=>by
  rw[kJ] at h;split at h
  ·rename_i z;obtain⟨rfl,rfl⟩:=z;cases aen.mp h;exact⟨rfl,rfl⟩
  ·rcases ad2.mp h with h |h
   ·split at h
    ·obtain⟨l',h',rfl⟩:=adk.mp h;have:=jG h';simp[adq,this];omega
    ·simp at h
   ·split at h
    ·obtain⟨l',h',rfl⟩:=adk.mp h;have:=jG h';simp[adq,this];omega
    ·simp at h
section
variable{P:Pc}{l:List Bool}{b:Bool}
theorem Xo:txt (b::l)=⟨#[if b then 99 else 114]++(txt l).cps⟩:=by
 unfold txt;simp
theorem Js:nats (txt (b::l))=(if b then 99 else 114)::nats (txt l):=by
 unfold nats txt;cases b <;> simp
theorem ZL{l:List Bool}(e:nats (txt l)=nats (txt l')):l=l':=by
 unfold nats txt at e;simp only[ac8] at e;refine (List.map_inj_right (f:=ae7 ∘ λb=>if b=true then 99 else 114) λx y h=>?_).mp e;cases x <;> cases y <;> first |rfl |(exact absurd h (by decide))
def key(m:Str)(P:Pc)(l:List Bool):List Int:=(run m l P).1::nats (txt l)
theorem ZM{l:List Bool}(e:key m P l=key m P l'):l=l':=ZL (af0 e).2
theorem RT:lA (key m P l)= .tup [.int (run m l P).1,.str (txt l)]:=G6 _ _
theorem Xp{l:List Bool}:bC (key m P (b::l)) (key m P (b::l'))=bC (key m (stp m b P).2 l) (key m (stp m b P).2 l'):=by
 unfold key;rw[Js,Js,bC,bC,bC,if_pos rfl];show (if (stp m b P).1+(run m l (stp m b P).2).1=(stp m b P).1+(run m l' (stp m b P).2).1 then _ else decide ((stp m b P).1+(run m l (stp m b P).2).1<(stp m b P).1+(run m l' (stp m b P).2).1))=_;by_cases e:(run m l (stp m b P).2).1=(run m l' (stp m b P).2).1
 ·rw[if_pos (by rw[e]),if_pos e]
 ·rw[if_neg (by omega),if_neg e];exact decide_eq_decide.mpr (by omega)
def Lst(m:Str)(P:Pc)(L:List (List Bool))(l:List Bool):Prop:=l∈L/\∀l'∈L,l'≠l->bC (key m P l) (key m P l')=true
theorem Lst.cons(q:Lst m (stp m b P).2 L l):Lst m P (L.map (b:: ·)) (b::l):=by
 refine⟨adk.mpr ⟨l,q.1,rfl⟩,λl' h' hn=>?_⟩;obtain⟨k,hk,rfl⟩:=adk.mp h';rw[Xp];exact q.2 k hk λe=>hn (by rw[e])
theorem Lst.two{L':List (List Bool)}(q:Lst m P L l)(q':Lst m P L' l')(hn:l≠l'):ju [key m P l,key m P l']=key m P (if bC (key m P l') (key m P l) then l' else l)/\Lst m P (L++L') (if bC (key m P l') (key m P l) then l' else l):=by
 by_cases c:bC (key m P l') (key m P l)=true
 ·rw[if_pos c];refine⟨by show (if bC (key m P l') (key m P l)=true then _ else _)=_;rw[if_pos c],ad2.mpr (.inr q'.1),λk hk kn=>?_⟩;rcases ad2.mp hk with h |h
  ·by_cases e:k=l
   ·rw[e];exact c
   ·exact eV c (q.2 k h e)
  ·exact q'.2 k h kn
 ·rw[if_neg c];refine⟨by show (if bC (key m P l') (key m P l)=true then _ else _)=_;rw[if_neg c],ad2.mpr (.inl q.1),λk hk kn=>?_⟩;have c':bC (key m P l) (key m P l')=true:=m9 (λe=>hn (ZM e).symm) (by simpa using c);rcases ad2.mp hk with h |h
  ·exact q.2 k h kn
  ·by_cases e:k=l'
   ·rw[e];exact c'
   ·exact eV c' (q'.2 k h e)
theorem Ae(h:l.length<999):lV (.str (sgn b)) (.str (txt l))= .ok (.str (txt (b::l))):=by
 have e:(sgn b).length+(txt l).length<=1000:=by
  have h1:(sgn b).length=1:=by cases b <;> rfl
  have h2:(txt l).length=l.length:=by show (txt l).cps.size=_;unfold txt;simp
  omega
 show (if (sgn b).length+(txt l).length<=1000 then R.ok (D.str (sgn b++txt l)) else .bad)=_;rw[if_pos e,Xo];cases b <;> rfl
theorem uV:l.length=l.count true+l.count false:=by
 induction l with
 |nil=>rfl
 |cons b l ih=>cases b <;> simp[adq,ih] <;> omega
theorem mn1{t:List Int}{d:D}(e:Cd d=some t)(e2:lA t=d):Ec [.lst [d]]= .ok d:=by
 show (match gM [d] with |some ts=>if 0<ts.length then R.ok (lA (ju ts)) else .bad |none=> .bad)=_;rw[gM,e,gM];show R.ok (lA t)=_;rw[e2]
theorem mn2{k1 k2:List Int}{d1 d2:D}(e1:Cd d1=some k1)(e2:Cd d2=some k2):Ec [.lst [d1,d2]]= .ok (lA (ju [k1,k2])):=by
 show (match gM [d1,d2] with |some ts=>if 0<ts.length then R.ok (lA (ju ts)) else .bad |none=> .bad)=_;rw[gM,e1,gM,e2,gM];rfl
def uc(m:Str)(P:Pc)(l:List Bool):D:= .tup [.int (run m l P).1,.str (txt l)]
theorem Fi:Cd (uc m P l)=some (key m P l):=rfl
theorem QH(h:0<a):cP (.int (a:Int)) (.int 1)= .ok (.int ((a - 1:Nat):Int)):=by
 show R.ok (D.int ((a:Int) - 1))=_;rw[show (a:Int) - 1=((a - 1:Nat):Int) by omega]
theorem gt0(h:0<a):pZ (.int (a:Int)) (.int 0)= .ok (.bl true):=by rw[nU,decide_eq_true (by omega)]
theorem rA(hm:m= "worth"\/m= "joins"):∀{n d a:Nat} {P:Pc},d+a<n->d+a<=40->j5 P->a<P.w->d<P.h->∃l,Lst m P (kJ n d a) l/\cT n [pD P,.int (d:Int),.int (a:Int),.str m]= .ok (uc m P l)
 |0,_,_,_,h,_,_,_,_=>absurd h (Nat.not_lt_zero _)
 | n+1,d,a,P,h,h40,o,ha,hd=>by
  rw[kJ];by_cases z:d=0/\a=0
  ·rw[if_pos z];obtain⟨rfl,rfl⟩:=z;refine⟨[],⟨aen.mpr rfl,λl' h' hn=>absurd (aen.mp h') hn⟩,?_⟩;rw[cT];exact dZ (jm (dY (m7 (aV (aA rfl rfl rfl)) (aV (aA rfl rfl rfl))) (bx (cH (aB rfl (aq rfl))))))
  ·rw[if_neg z];have t1:∀{e4 e5 e6 e7 e8:Option Ent},(jP (bM (bin (gv 1) (ci 0) jO)) (bM (bin (gv 2) (ci 0) jO))) [vA (pD P),vA (.int (d:Int)),vA (.int (a:Int)),vA (.str m),e4,e5,e6,e7,e8]= .ok false:=by
    intro e4 e5 e6 e7 e8;by_cases d0:d=0
    ·subst d0;exact m7 (aV (aA rfl rfl rfl)) (aV (aA rfl rfl (by rw[tD,decide_eq_false (by omega)])))
    ·exact zW (aV (aA rfl rfl (by rw[tD,decide_eq_false (by omega)])))
   have col:0<a->∃l,Lst m P ((kJ n d (a - 1)).map (true:: ·)) (true::l)/\l.length<999/\cT n [pD (stp m true P).2,.int (d:Int),.int ((a - 1:Nat):Int),.str m]= .ok (uc m (stp m true P).2 l):=λa0=>by
    obtain⟨l,q,e⟩:=rA hm (n:=n) (d:=d) (a:=a - 1) (P:=(stp m true P).2) (by omega) (by omega) (Ok.less o (by omega)) (by show _<P.w - 1;omega) hd;have c:=jG q.1;have c2:=uV (l:=l);exact⟨l,q.cons,by omega,e⟩
   have rw':0<d->∃l,Lst m P ((kJ n (d - 1) a).map (false:: ·)) (false::l)/\l.length<999/\cT n [pD (stp m false P).2,.int ((d - 1:Nat):Int),.int (a:Int),.str m]= .ok (uc m (stp m false P).2 l):=λd0=>by
    obtain⟨l,q,e⟩:=rA hm (n:=n) (d:=d - 1) (a:=a) (P:=(stp m false P).2) (by omega) (by omega) ((Ok.tr o).less (by omega)).tr ha (by show _<P.h - 1;omega);have c:=jG q.1;have c2:=uV (l:=l);exact⟨l,q.cons,by omega,e⟩
   by_cases a0:0<a
   ·obtain⟨l1,q1,n1,e1⟩:=col a0;by_cases d0:0<d
    ·obtain⟨l2,q2,n2,e2⟩:=rw' d0;obtain⟨b1,b2⟩:=Lst.two q1 q2 (λe=>absurd (af0 e).1 (by decide));rw[if_pos a0,if_pos d0]
     clear col rw'
     refine⟨_,b2,?_⟩;rw[cT];refine dZ (aH (bV t1 rfl) (aH (jr rfl) (aH (dY (aV (aA rfl rfl (gt0 a0))) (aH (aR (aQ (aB rfl (aq rfl)) (lZ hm o (by omega))) rfl) (aH (aR (aQ (aB rfl (aB rfl (aB (aA rfl rfl (QH a0)) (aq rfl)))) e1) rfl) (q9 (ds:=[]) (d:=uc m P (true::l1)) (cH (aB (aA rfl rfl rfl) (aq (aA rfl rfl (Ae (b:=true) n1))))) rfl (by decide))))) (aH (dY (aV (aA rfl rfl (gt0 d0))) (aH (aR (aQ (aB rfl (aq rfl)) (yM hm o (by omega))) rfl) (aH (aR (aQ (aB rfl (aB (aA rfl rfl (QH d0)) (aB rfl (aq rfl)))) e2) rfl) (q9 (ds:=[uc m P (true::l1)]) (d:=uc m P (false::l2)) (cH (aB (aA rfl rfl rfl) (aq (aA rfl rfl (Ae (b:=false) n2))))) rfl (by show 1<1000000;decide))))) (bx (aY (aq rfl) ?_))))));exact (mn2 Fi Fi).trans (by rw[b1,RT];rfl)
    ·rw[if_pos a0,if_neg d0,adp]
     clear col rw'
     refine⟨_,q1,?_⟩;rw[cT];refine dZ (aH (bV t1 rfl) (aH (jr rfl) (aH (dY (aV (aA rfl rfl (gt0 a0))) (aH (aR (aQ (aB rfl (aq rfl)) (lZ hm o (by omega))) rfl) (aH (aR (aQ (aB rfl (aB rfl (aB (aA rfl rfl (QH a0)) (aq rfl)))) e1) rfl) (q9 (ds:=[]) (d:=uc m P (true::l1)) (cH (aB (aA rfl rfl rfl) (aq (aA rfl rfl (Ae (b:=true) n1))))) rfl (by decide))))) (aH (bV (aV (aA rfl rfl (by rw[nU,decide_eq_false (by omega)]))) rfl) (bx (aY (aq rfl) (mn1 Fi RT)))))))
   ·have d0:0<d:=by clear col rw';omega
    obtain⟨l2,q2,n2,e2⟩:=rw' d0
    clear col rw'
    rw[if_neg a0,if_pos d0,ae6];refine⟨_,q2,?_⟩;rw[cT];refine dZ (aH (bV t1 rfl) (aH (jr rfl) (aH (bV (aV (aA rfl rfl (by rw[nU,decide_eq_false (by omega)]))) rfl) (aH (dY (aV (aA rfl rfl (gt0 d0))) (aH (aR (aQ (aB rfl (aq rfl)) (yM hm o (by omega))) rfl) (aH (aR (aQ (aB rfl (aB (aA rfl rfl (QH d0)) (aB rfl (aq rfl)))) e2) rfl) (q9 (ds:=[]) (d:=uc m P (false::l2)) (cH (aB (aA rfl rfl rfl) (aq (aA rfl rfl (Ae (b:=false) n2))))) rfl (by decide))))) (bx (aY (aq rfl) (mn1 Fi RT)))))))
end
end
section
variable{ns:List Int}{w h k:Nat}{f M:Nat->Nat->Int}{T:Nat->Nat->Nat->Int}{m:Str}{s:Nat->Nat}{ρ:ao}
def upto:Nat->List (List Bool)
 |0=>[[]]
 |n+1=>[]::(upto n).flatMap λl=>[true::l,false::l]
theorem Mq:∀{n:Nat} {l:List Bool},l.length<=n->l∈upto n
 |0,[],_=>aen.mpr rfl
 |0,b::l,h=>by simp at h
 |n+1,[],_=>acT
 |n+1,b::l,h=>z2f _ (aeX.mpr ⟨l,Mq (by simpa using h),by cases b <;> simp⟩)
def okT(l:List Bool):Bool:=
 ((aef (txt l) "c" 0 (txt l).length ((txt l).length+1)).length ==l.count true) && ((aef (txt l) "r" 0 (txt l).length ((txt l).length+1)).length ==l.count false)
 && decide (Txt.replace (Txt.replace (Txt.replace (txt l) "c" "x") "r" "c") "x" "r" =txt (l.map not)) && decide ((Txt.replace (txt l) "c" "x").length<=1048576) && decide ((Txt.replace (Txt.replace (txt l) "c" "x") "r" "c").length<=1048576)
 && (acD 5).all (λi=>decide (nq (txt l) none (some (i:Int))=txt (l.take i)))
 && decide (Txt.join "" (l.map sgn)=txt l) && decide ((l.map sgn).toArray.foldl (· + ·.length+("" :Str).length) 0<=1000)
theorem ZP:(upto 4).all okT=true:=by kernel_rfl
theorem qG{l:List Bool}:(txt l).length=l.length:=by show (txt l).cps.size=_;unfold txt;simp
structure OkT(l:List Bool):Prop where
 c:(aef (txt l) "c" 0 (txt l).length ((txt l).length+1)).length=l.count true
 r:(aef (txt l) "r" 0 (txt l).length ((txt l).length+1)).length=l.count false
 sw:Txt.replace (Txt.replace (Txt.replace (txt l) "c" "x") "r" "c") "x" "r" =txt (l.map not)
 s1:(Txt.replace (txt l) "c" "x").length<=1048576
 s2:(Txt.replace (Txt.replace (txt l) "c" "x") "r" "c").length<=1048576
 cut:∀i:Nat,i<5->nq (txt l) none (some (i:Int))=txt (l.take i)
 jn:Txt.join "" (l.map sgn)=txt l
 jl:(l.map sgn).toArray.foldl (· + ·.length+("" :Str).length) 0<=1000
theorem Vs{l:List Bool}(h:l.length<=4):OkT l:=by
 have:=afi.mp ZP l (Mq h);unfold okT at this;simp only[adU,beq_iff_eq,decide_eq_true_eq,afi,agp] at this;obtain⟨⟨⟨⟨⟨⟨⟨a,b⟩,c⟩,d⟩,e⟩,f⟩,g⟩,i⟩:=this;exact⟨a,b,c,d,e,f,g,i⟩
section
variable{P:Pc}{l l1 l2:List Bool}{b:Bool}
theorem Og(o:j5 P)(h4:l.length<=4)(z:Fits l P):qe [.str (txt l),pD P]= .ok (.bl true):=by
 have q:=Vs h4;obtain⟨z1,z2⟩:=z;refine bZ (aH (bV (qT (gD (b:=true) (aV rfl)) (gD (b:=true) (aV (aY (aq (cj (c:=λb=> .str (sgn b)) (h:=λ_=> .bl true) (l:=l) (QF rfl) (by omega) λb _=>cJ rfl (aA rfl (cH (aB rfl (aq rfl))) (by cases b <;> rfl)))) qF)))) rfl) (bx (xK (aA (x:= .int (l.count true:Int)) (congrArg (λn:Nat=>R.ok (D.int (n:Int))) q.c) (len0 o rfl) ?_) (aA (x:= .int (l.count false:Int)) (congrArg (λn:Nat=>R.ok (D.int (n:Int))) q.r) (aY (aq rfl) Ab) ?_))))
 ·show R.ok (D.bl (decide ((l.count true:Int)<(P.w:Int))))=_;rw[decide_eq_true (by omega)]
 ·show R.ok (D.bl (decide ((l.count false:Int)<(P.h:Int))))=_;rw[decide_eq_true (by omega)]
theorem Fj(hm:m= "worth"\/m= "joins")(o:j5 P)(h4:l.length<=4)(z:Fits l P):iw [pD P,.str (txt l),.str m]= .ok (pD (run m l P).2):=Oe hm o z (Og o h4 z)
theorem aa3{k:Nat}(hk:k<=4):minD [.int 4,.int (k:Int)]= .ok (.int (k:Int)):=by
 show R.ok (D.int (if (k:Int)<4 then (k:Int) else 4))=_;by_cases c:(k:Int)<4
 ·rw[if_pos c]
 ·rw[if_neg c,show (k:Int)=4 by omega]
theorem pJ{d:Nat}(hm:m= "worth"\/m= "joins")(o:j5 P)(w4:P.w<=5)(h4:P.h<=5)(ha:a<P.w)(hd:d<P.h)(hs:d+a<5):∃l,Lst m P (kJ 5 d a) l/\jD [pD P,.int (d:Int),.int (a:Int),.str m]= .ok (uc m P l):=by
 obtain⟨l,q,e⟩:=rA hm (n:=5) hs (by omega) o ha hd;exact⟨l,q,bZ (aH (aR (aQ (aq rfl) (size_eq o)) rfl) (aH (fG (aQ (aq rfl) (iR hm))) (aH (fG (nG (aB rfl (aB rfl (aq (aY (aB rfl (aq (aA rfl rfl (QH o.h1)))) (aa3 (by omega)))))) (pI (j:=0) (by omega) (by omega)))) (aH (fG (nG (aB rfl (aB rfl (aq (aY (aB rfl (aq (aA rfl rfl (QH o.w1)))) (aa3 (by omega)))))) (pI (j:=0) (by omega) (by omega)))) (bx (aQ (aB rfl (aB rfl (aB rfl (aq rfl)))) e))))))⟩
theorem Cq:∀{l1:List Bool} {P:Pc},j5 P->Fits (l1++l2) P->j5 (run m l1 P).2/\Fits l2 (run m l1 P).2
 |[],P,o,z=>⟨o,z⟩
 |b::l1,P,o,z=>Cq (l1:=l1) (P:=(stp m b P).2) (j5.step o z) z.tail
theorem QJ:∀{l1:List Bool} {P:Pc},run m (l1++l2) P=((run m l1 P).1+(run m l2 (run m l1 P).2).1,(run m l2 (run m l1 P).2).2)
 |[],P=>by rw[ae6,run,Int.zero_add]
 |b::l1,P=>by rw[ahi,run,run,QJ,agN]
theorem Vt:∀{l:List Bool} {P:Pc},(run m l P).2.w=P.w - l.count true/\(run m l P).2.h=P.h - l.count false
 |[],P=>⟨rfl,rfl⟩
 | b::l,P=>by
  obtain⟨e1,e2⟩:=Vt (l:=l) (P:=(stp m b P).2);rw[run];show (run m l (stp m b P).2).2.w=_/\(run m l (stp m b P).2).2.h=_;rw[e1,e2];cases b <;> simp[stp,adq] <;> omega
def wN(P:Pc):Pc:=⟨P.h,P.w,tr P.f⟩
theorem aa4:stp m (!b) (wN P)=((stp m b P).1,wN (stp m b P).2):=by cases b <;> rfl
theorem Fl:∀{l:List Bool} {P:Pc},run m (l.map not) (wN P)=((run m l P).1,wN (run m l P).2)
 |[],P=>rfl
 |b::l,P=>by rw[z1h,run,aa4,Fl,run]
theorem Af(o:j5 P):iG [pD P]= .ok (pD (wN P)):=tu o
theorem Hs:(l.map not).count true=l.count false/\(l.map not).count false=l.count true:=by
 induction l with
 |nil=>exact⟨rfl,rfl⟩
 |cons b l ih=>obtain⟨i1,i2⟩:=ih;rw[z1h,adq,adq,adq,adq,i1,i2];cases b <;> exact⟨rfl,rfl⟩
theorem Oh:(l.map not).map not=l:=by rw[ac8];exact (adG λb _=>by cases b <;> rfl).trans (List.map_id l)
theorem QK(hm:m= "worth"\/m= "joins")(o:Ok w h f)(w1:1<w):lW [bH w h f,.str m,.non]= .ok (sm h (p8 m w h f))/\sY [bH w h f,sm h (p8 m w h f),.str m]= .ok (.int (cst m w h f)):=by
 have b:=Mp (m:=m) (f:=f) o.h1 w1;have e:=JF hm o (yJ o);rw[b.2,aa1] at e;exact⟨e,RN hm o b.1.sm⟩
theorem abR(hm:m= "worth"\/m= "joins")(o:j5 P)(hl:(l1++b::l2).length<=4)(z:Fits (l1++b::l2) P){t:Int}{e6 e7:Option Ent}:∃z6 z7,coB [vA (pD P),vA (.str (txt (l1++b::l2))),vA (.str m),vA (.int t),vA (.int (l1.length:Int)),vA (.str (sgn b)),e6,e7] =
  .nx [vA (pD P),vA (.str (txt (l1++b::l2))),vA (.str m),vA (.int (t+(stp m b (run m l1 P).2).1)),vA (.int (l1.length:Int)),vA (.str (sgn b)),z6,z7]:=by
 have hl1:l1.length<4:=by rw[z1d,acX] at hl;omega
 obtain⟨oq,fq⟩:=Cq (m:=m) o z;have z0:Fits l1 P:=by
  obtain⟨y1,y2⟩:=z;rw[List.count_append] at y1 y2;exact⟨by omega,by omega⟩
 have e1:=Fj hm o (l:=l1) (by omega) z0;have ec:nq (txt (l1++b::l2)) none (some (l1.length:Int))=txt l1:=by rw[(Vs hl).cut _ (by omega),List.take_left'];rfl
 have sl:∀{e3 e5 e6 e7:Option Ent},G8 (gv 1) (λ_=> .ok none) (λρ=>((gv 4) ρ).bind KC) [vA (pD P),vA (.str (txt (l1++b::l2))),vA (.str m),e3,vA (.int (l1.length:Int)),e5,e6,e7]= .ok (.str (txt l1)):=λ{e3 e5 e6 e7}=>by
  show (if (nq (txt (l1++b::l2)) none (some (l1.length:Int))).length<=1000 then R.ok (D.str (nq (txt (l1++b::l2)) none (some (l1.length:Int)))) else .bad)=_;rw[ec,if_pos (by rw[qG];omega)]
 obtain⟨y1,y2⟩:=fq;cases b
 ·obtain⟨s1,s2⟩:=QK hm (Ok.tr oq) (by simp[adq] at y2;omega);exact⟨_,_,aH (aR (dO (aB rfl (aq sl)) (aq rfl) e1) rfl) (aH (aR (Hq (aV (aA rfl rfl rfl)) (aQ (aq rfl) (Af oq))) rfl) (aR (aA rfl (vN (aB rfl (aq (vN (aq rfl) (aq rfl) s1))) (aq rfl) s2) rfl) rfl))⟩
 ·obtain⟨s1,s2⟩:=QK hm oq (by simp[adq] at y1;omega);exact⟨_,_,aH (aR (dO (aB rfl (aq sl)) (aq rfl) e1) rfl) (aH (aR (Ho (aV (aA rfl rfl rfl)) rfl) rfl) (aR (aA rfl (vN (aB rfl (aq (vN (aq rfl) (aq rfl) s1))) (aq rfl) s2) rfl) rfl))⟩
theorem QL(hm:m= "worth"\/m= "joins")(o:j5 P):∀{l2 l1:List Bool} {t:Int} {e4 e5 e6 e7:Option Ent},(l1++l2).length<=4->Fits (l1++l2) P->∃z4 z5 z6 z7,
  forL (cD (cF 2 (aW (aJ 4) (aW (aJ 5) nilG)))) coB (fX l1.length (l2.map λb=> .str (sgn b))) [vA (pD P),vA (.str (txt (l1++l2))),vA (.str m),vA (.int t),e4,e5,e6,e7] =
   .nx [vA (pD P),vA (.str (txt (l1++l2))),vA (.str m),vA (.int (t+(run m l2 (run m l1 P).2).1)),z4,z5,z6,z7]
 |[],l1,t,e4,e5,e6,e7,_,_=>⟨e4,e5,e6,e7,by rw[run,Int.add_zero];rfl⟩
 | b::l2,l1,t,e4,e5,e6,e7,hl,z=>by
  obtain⟨y6,y7,e⟩:=abR hm o hl z (t:=t) (e6:=e6) (e7:=e7);have ea:l1++b::l2=(l1++[b])++l2:=by simp
  obtain⟨z4,z5,z6,z7,e'⟩:=QL hm o (l2:=l2) (l1:=l1++[b]) (t:=t+(stp m b (run m l1 P).2).1) (e4:=vA (.int (l1.length:Int))) (e5:=vA (.str (sgn b))) (e6:=y6) (e7:=y7) (by rw[<-ea];exact hl) (by rw[<-ea];exact z);rw[<-ea,z1d,aem] at e';refine⟨z4,z5,z6,z7,dN rfl e ?_⟩;rw[e',QJ,run,agN];rfl
theorem Mr(hm:m= "worth"\/m= "joins")(o:j5 P)(hl:l.length<=4)(z:Fits l P):lX [pD P,.str (txt l),.str m]= .ok (.int (run m l P).1):=by
 obtain⟨z4,z5,z6,z7,e⟩:=QL hm o (l1:=[]) (l2:=l) (t:=0) (e4:=none) (e5:=none) (e6:=none) (e7:=none) hl z;rw[Int.zero_add] at e;refine dZ (aH (aR rfl rfl) (aH (jV ?_ e) (bx rfl)));show (if (txt l).cps.all (· < 128)=true then R.ok (fX 0 (signs (txt l))) else .bad)=_;rw[if_pos yO,yN];rfl
end
end
section
variable{ns:List Int}{w h k:Nat}{f M:Nat->Nat->Int}{T:Nat->Nat->Nat->Int}{m:Str}{s:Nat->Nat}{ρ:ao}
theorem rC:∀{n d a:Nat} {l:List Bool},l.count true=a->l.count false=d->d+a<n->l∈kJ n d a
 |0,_,_,_,_,_,h=>absurd h (Nat.not_lt_zero _)
 | n+1,d,a,l,h1,h2,h=>by
  rw[kJ];cases l with
  |nil=>subst h1;subst h2;exact aen.mpr rfl
  | cons b l=>
   rw[adq] at h1 h2;cases b
   ·have z1:l.count true=a:=by simpa using h1
    have z2:l.count false+1=d:=by simpa using h2
    rw[if_neg (by omega),if_pos (by omega:0<d)];exact ad2.mpr (.inr (adk.mpr ⟨l,rC z1 (by omega) (by omega),rfl⟩))
   ·have z1:l.count true+1=a:=by simpa using h1
    have z2:l.count false=d:=by simpa using h2
    rw[if_neg (by omega),if_pos (by omega:0<a)];exact ad2.mpr (.inl (adk.mpr ⟨l,rC (by omega) z2 (by omega),rfl⟩))
section
variable{P:Pc}{l l':List Bool}{b:Bool}
theorem Ms(q:Lst m P L l)(h:l'∈L):(run m l P).1<=(run m l' P).1/\((run m l' P).1=(run m l P).1->bC (nats (txt l')) (nats (txt l))=false):=by
 by_cases e:l'=l
 ·subst e;exact⟨Int.le_refl _,λ_=>iQ _⟩
 ·have h:=q.2 l' h e;unfold key at h;rw[bC] at h;by_cases c:(run m l P).1=(run m l' P).1
  ·rw[if_pos c] at h;refine⟨by omega,λ_=>?_⟩;cases g:bC (nats (txt l')) (nats (txt l)) with
   |false=>rfl
   |true=>have:=eV h g;rw[iQ] at this;cases this
  ·rw[if_neg c] at h;have:=of_decide_eq_true h;exact⟨by omega,λz=>absurd z.symm c⟩
theorem aa5{d:Nat}(q:Lst m P (kJ 5 d a) l)(q':Lst m (wN P) (kJ 5 a d) l')(h:d+a<5):(run m l' (wN P)).1=(run m l P).1:=by
 obtain⟨c1,c2⟩:=jG q.1;obtain⟨c3,c4⟩:=jG q'.1;have n1:=Hs (l:=l);have n2:=Hs (l:=l');have a1:=(Ms q' (rC (l:=l.map not) (by omega) (by omega) (by omega))).1;have a2:=(Ms q (rC (l:=l'.map not) (by omega) (by omega) (by omega))).1;rw[Fl] at a1;have e:run m l' (wN P)=((run m (l'.map not) P).1,wN (run m (l'.map not) P).2):=by rw[<-Fl,Oh]
 rw[e] at a1 |-;exact Int.le_antisymm a1 a2
theorem Vu:∀{k w:Nat} {f:Nat->Nat->Int},1<=h->k<w->∃L,Go m h k w f (λ_ _=>0) (some L)/\tot m h w f L=(run m (acH k true) ⟨w,h,f⟩).1/\(⟨w - k,h,QB f L⟩:Pc)=(run m (acH k true) ⟨w,h,f⟩).2
 |0,w,f,_,_=>⟨[],rfl,rfl,rfl⟩
 | k +1,w,f,h1,hk=>by
  have b:=Mp (m:=m) (f:=f) h1 (show 1<w by omega);obtain⟨L,g,e1,e2⟩:=Vu (k:=k) (w:=w - 1) (f:=less (p8 m w h f) f) h1 (by omega);refine⟨(p8 m w h f,λy=>f y (p8 m w h f y))::L,.inr ⟨_,some L,b.1,b.2,by rw[Vp];exact g,rfl⟩,?_,?_⟩
  ·rw[adF,run];exact congrArg (λz=>cst m w h f+z) e1
  ·rw[adF,run,show w - (k+1)=w - 1 - k by omega];exact e2
def kS(c:Int)(b:Bool):List Int:=c::nats (sgn b)
def Cr(k:List Int):Bool:=decide (k.getD 1 0=99)
theorem Vv:Cr (kS c b)=b:=by cases b <;> rfl
theorem aco:lA (kS c b)= .tup [.int c,.str (sgn b)]:=G6 _ _
theorem Vw{α:Type}{c:α->Int}{p:α->Bool}:∀{L:List α},gM (L.map λx=> .tup [.int (c x),.str (sgn (p x))])=some (L.map λx=>kS (c x) (p x))
 |[]=>rfl
 |x::L=>by rw[z1h,z1h,gM,Vw];rfl
theorem Xq{α:Type}{c:α->Int}{p:α->Bool}{L:List α}(hl:L.length<64):∃Ks:List (List Int),Ej [.lst (L.map λx=> .tup [.int (c x),.str (sgn (p x))])]= .ok (.lst (Ks.map lA))/\(∀k∈Ks,∃c b,k=kS c b)/\(Ks.map Cr).Perm (L.map p):=by
 have hp:=eX (L.map λx=>kS (c x) (p x));refine⟨d8 (L.map λx=>kS (c x) (p x)),?_,λk hk=>?_,?_⟩
 ·show (match gM (L.map λx=> .tup [.int (c x),.str (sgn (p x))]) with |some ts=>if ts.length<64 then R.ok (D.lst ((d8 ts).map lA)) else .bad |none=> .bad)=_;rw[Vw];show (if (L.map λx=>kS (c x) (p x)).length<64 then R.ok (D.lst ((d8 (L.map λx=>kS (c x) (p x))).map lA)) else .bad)=_;rw[if_pos (by rw[z1g];exact hl)]
 ·obtain⟨x,_,e⟩:=adk.mp (hp.mem_iff.mp hk);exact⟨_,_,e.symm⟩
 ·have:=hp.map Cr;rw[ac8] at this;refine this.trans (.of_eq (adG λx _=>Vv))
theorem Mt:∀{l:List Bool},strsOf (l.map λb=> .str (sgn b))=some (l.map sgn)
 |[]=>rfl
 |b::l=>by rw[z1h,strsOf,Mt];rfl
theorem ZQ{fo g:ao->R D}(e1:fo ρ= .ok (.str ""))(e2:g ρ= .ok (.lst (l.map λb=> .str (sgn b))))(h4:l.length<=4):J8 fo g ρ= .ok (.str (txt l)):=by
 rw[J8,e1,R.bw];show (g ρ).bind _=_;rw[e2,R.bw];show (match strsOf (l.map λb=> .str (sgn b)) with |some (ss:List Str)=>if ss.toArray.foldl (λn (x:Str)=>n+x.length+("" :Str).length) 0<=1000 then R.ok (D.str (Txt.join "" ss)) else .bad |none=> .bad)=_;rw[Mt];show (if (l.map sgn).toArray.foldl (· + ·.length+("" :Str).length) 0<=1000 then R.ok (D.str (Txt.join "" (l.map sgn))) else .bad)=_;rw[if_pos (Vs h4).jl,(Vs h4).jn]
theorem enum_zip{g:Bool->D}:∀{l:List Bool} {n:Nat},fX n (l.map g)=(l.zipIdx n).map λp=> .tup [.int (p.2:Int),g p.1]
 |[],_=>rfl
 |b::l,n=>by rw[z1h,fX,enum_zip,af5,z1h]
theorem QM:∀{l:List Bool} {n:Nat},(l.zipIdx n).map (·.1)=l
 |[],_=>rfl
 |b::l,n=>by rw[af5,z1h,QM]
theorem Xr(e:u ρ= .ok (.str (txt l))):(λρ=>((ak u nA) ρ).bind sW) ρ= .ok ((l.zipIdx 0).map λp=> .tup [.int (p.2:Int),.str (sgn p.1)]):=by
 show (ak u nA ρ).bind sW=_;rw[aq e,R.bw];show (if (txt l).cps.all (· < 128)=true then R.ok (fX 0 (signs (txt l))) else .bad)=_;rw[if_pos yO,yN,enum_zip]
def Jt(a d:Nat):List Bool:=acH a true++acH d false
theorem Fo{k:Nat}(hk:k<=2):Ce (.str (sgn b)) (.int (k:Int))= .ok (.str (txt (acH k b))):=by
 have z1:k=0\/k=1\/k=2:=by omega
 rcases z1 with rfl |rfl |rfl <;> cases b <;> rfl
theorem aa6{d:Nat}(ha:a<=2)(hd:d<=2):lV (.str (txt (acH a true))) (.str (txt (acH d false)))= .ok (.str (txt (Jt a d))):=by
 have z1:a=0\/a=1\/a=2:=by omega
 have z2:d=0\/d=1\/d=2:=by omega
 rcases z1 with rfl |rfl |rfl <;> rcases z2 with rfl |rfl |rfl <;> rfl
theorem ZR{d:Nat}:(Jt a d).count true=a/\(Jt a d).count false=d/\(Jt a d).length=a+d:=by
 unfold Jt;simp[List.count_append,List.count_replicate]
theorem Mu{d kk:Nat}{l0:List Bool}(hm:m= "worth"\/m= "joins")(hn:ns.length<=1000000)(o:j5 P)(ha:a<=2)(hd:d<=2)(hw:a<P.w)(hh:d<P.h)(q:Lst m P (kJ 5 d a) l0){e3 Yp Yq Yr Vx:Option Ent}:
  ∃lY z11 z12 z13,lwB [vA (.lst (ns.map .int)),vA (pD P),e2,e3,vA (.str m),vA (.int (d:Int)),vA (.int (a:Int)),vA (.int (run m l0 P).1),vA (.str (txt l0)),vA (.int (kk:Int)),e10,Yp,Yq,Yr,Vx] =
   .nx [vA (.lst (ns.map .int)),vA (pD P),e2,e3,vA (.str m),vA (.int (d:Int)),vA (.int (a:Int)),vA (.int (run m l0 P).1),vA (.str (txt l0)),vA (.int (kk:Int)),lY,z11,z12,z13,Vx]:=by
 obtain⟨y1,y2,y3⟩:=ZR (a:=a) (d:=d);obtain⟨Ks,es,ek,ep⟩:=Xq (L:=(Jt a d).zipIdx 0) (c:=λp=>dr ns (70+5*(kk:Int)+(p.2:Int)) 99) (p:=λp=>p.1) (by rw[List.length_zipIdx];omega);have ep:(Ks.map Cr).Perm (Jt a d):=ep.trans (.of_eq QM)
 generalize hl:Ks.map Cr=l at ep
 have c1:l.count true=a:=by rw[ep.count_eq,y1]
 have c2:l.count false=d:=by rw[ep.count_eq,y2]
 have l4:l.length<=4:=by rw[ep.length_eq,y3];omega
 have lk:Ks.length<=4:=by rw[<-z1g (f:=Cr),hl];exact l4
 have ft:Fits l P:=⟨by omega,by omega⟩;obtain⟨le,lt⟩:=Ms q (rC (n:=5) c1 c2 (by omega));refine⟨_,_,_,_,aH (aR (aA (aA rfl rfl (Fo (b:=true) ha)) (aA rfl rfl (Fo (b:=false) hd)) (aa6 ha hd)) rfl) (aH (aR (aY (aq (cj (c:=λp:Bool×Nat=> .tup [.int (p.2:Int),.str (sgn p.1)]) (h:=λp=> .tup [.int (dr ns (70+5*(kk:Int)+(p.2:Int)) 99),.str (sgn p.1)]) (l:=(Jt a d).zipIdx 0) (Xr rfl) (by rw[List.length_zipIdx];omega) λp hp=>?_)) es) rfl) (aH (aR (ZQ (l:=l) rfl (by rw[<-hl,ac8];refine cj (c:=lA) (h:=λk=> .str (sgn (Cr k))) (l:=Ks) (qD rfl) (by omega) (λk hk=>?_);obtain⟨c,b,rfl⟩:=ek k hk;rw[aco,Vv];exact cJ rfl rfl) l4) rfl) (aH (aR (aQ (aB rfl (aB rfl (aq rfl))) (Mr hm o l4 ft)) rfl) (bV (qT (aV (aA rfl rfl ?_)) ?_) rfl))))⟩
 ·exact cJ rfl (cH (aB (aQ (aB rfl (aB rfl (aq rfl))) (qb hn (by omega) (by omega)).1) (aq rfl)))
 ·show R.ok (D.bl (decide ((run m l P).1<(run m l0 P).1)))=_;rw[decide_eq_false (by omega)]
 ·by_cases c:(run m l P).1=(run m l0 P).1
  ·refine m7 (aV (aA rfl rfl (by rw[tD,decide_eq_true c]))) (aV (aA rfl rfl ?_));show R.ok (D.bl (bC (nats (txt l)) (nats (txt l0))))=_;rw[lt c]
  ·exact zW (aV (aA rfl rfl (by rw[tD,decide_eq_false c])))
end
theorem Mv{a b x:Str}(e:u ρ= .ok (.str x))(h:x.length<=1048576):Hf a b u ρ= .ok (.str (Txt.replace x a b)):=by
 rw[Hf,e,R.bw];exact if_pos h
theorem Xu(ns:List Int)(hns:ns.length<=63):Ez [.lst (ns.map .int)]= .ok (.bl true):=by
 have hn:ns.length<=1000000:=by omega
 obtain⟨a1,a2,a3⟩:=qb (k:=0) (m:=3) hn (by omega) (by omega);obtain⟨b1,b2,b3⟩:=qb (k:=1) (m:=2) hn (by omega) (by omega);obtain⟨w,hw⟩:=adP (show 0<=3+dr ns 0 3 by omega);obtain⟨h,hh⟩:=adP (show 0<=3+dr ns 1 2 by omega);obtain⟨f,e1,o⟩:=RK (ns:=ns) (a:=2) (w:=w) (h:=h) hn (by decide) (by omega) (by omega) (by omega) (by omega);obtain⟨m,hm,e3⟩:=Vo (ns:=ns) (i:=60) (by decide) hn;obtain⟨c1,c2,c3⟩:=qb (k:=61) (m:=3) hn (by omega) (by omega);obtain⟨d1,d2,d3⟩:=qb (k:=62) (m:=3) hn (by omega) (by omega);obtain⟨d,hd⟩:=adP c2;obtain⟨a,ha⟩:=adP d2;rw[hd] at c1 c3;rw[ha] at d1 d3;have dd:d<=2:=by omega
 have aa:a<=2:=by omega
 obtain⟨P,hP⟩:∃P:Pc,P=⟨w,h,f⟩:=⟨_,rfl⟩;have oP:j5 P:=by rw[hP];exact o
 have Pw:P.w=w:=by rw[hP]
 have Ph:P.h=h:=by rw[hP]
 have e1:jN [.lst (ns.map .int),.int 2,.int (w:Int),.int (h:Int)]= .ok (pD P):=by rw[hP];exact e1
 have w5:P.w<=5:=by omega
 have h5:P.h<=5:=by omega
 have es:iu [pD P]= .ok (.tup [.int (w:Int),.int (h:Int)]):=by rw[<-Pw,<-Ph];exact size_eq oP
 obtain⟨l0,q0,eb⟩:=pJ (d:=d) (a:=a) hm oP w5 h5 (by omega) (by omega) (by omega);obtain⟨n1,n2⟩:=jG q0.1;have n3:=uV (l:=l0);have l4:l0.length<=4:=by omega
 have ft:Fits l0 P:=⟨by omega,by omega⟩;have k0:=Vs l4;have ob:=(Cq (m:=m) (l1:=l0) (l2:=[]) oP (by rw[adp];exact ft)).1;obtain⟨sw,sh⟩:=Vt (m:=m) (l:=l0) (P:=P);have oT:j5 (wN P):=Ok.tr oP;obtain⟨l1,q1,et⟩:=pJ (P:=wN P) (d:=a) (a:=d) hm oT h5 w5 (by show d<P.h;omega) (by show a<P.w;omega) (by omega);have ec:=aa5 q0 q1 (by omega);obtain⟨m1,m2⟩:=Hs (l:=l0);have ftT:Fits (l0.map not) (wN P):=⟨by show _<P.h;omega,by show _<P.w;omega⟩;have eT:=Fj hm oT (l:=l0.map not) (by rw[z1g];exact l4) ftT;rw[Fl] at eT;obtain⟨l2,q2,e0⟩:=pJ (d:=0) (a:=a) hm oP w5 h5 (by omega) (by omega) (by omega);obtain⟨g1,g2⟩:=jG q2.1;have r2:l2=acH a true:=by
  refine List.eq_replicate_iff.mpr ⟨by have:=uV (l:=l2);omega,λb hb=>?_⟩;cases b
  ·have:=List.count_pos_iff.mpr hb;omega
  ·rfl
 obtain⟨L,gL,t1,t2⟩:=Vu (m:=m) (h:=h) (k:=a) (w:=w) (f:=f) o.h1 (by omega);rw[<-hP] at t1 t2;have lw:w - (w - a)=a:=by omega
 have el:=ZJ (low:=w - a) (L:=L) hm o (by omega) (by omega) (by rw[lw];exact gL);have en:=Od (low:=w - a) (r:=some L) hm o (yJ o) (by omega) (by omega) (by rw[lw];exact gL);have el:Ew [pD P,.int ((w - a:Nat):Int),.str m]= .ok (.int (run m l2 P).1):=by rw[r2,<-t1,hP];exact el
 have en:qj [pD P,.int ((w - a:Nat):Int),.str m,.non]= .ok (pD (run m l2 P).2):=by
  rw[r2,<-t2,hP];exact en
 have sub:∀{x y:Nat},y<=x->cP (.int (x:Int)) (.int (y:Int))= .ok (.int ((x - y:Nat):Int)):=λ{x y} hxy=>by
  show R.ok (D.int ((x:Int) - (y:Int)))=_;rw[show (x:Int) - (y:Int)=((x - y:Nat):Int) by omega]
 have f2:Fits l2 P:=⟨by omega,by omega⟩;have l24:l2.length<=4:=by have:=uV (l:=l2);omega
 have dI:∀{i:Int},dep (.int i)<=40:=λ{i}=>ad9 rfl;refine dZ (aH (aR (aQ (aB rfl (aB rfl (aB (aA rfl (aQ (aB rfl (aB rfl (aq rfl))) a1) (congrArg (λz=>R.ok (D.int z)) hw)) (aq (aA rfl (aQ (aB rfl (aB rfl (aq rfl))) b1) (congrArg (λz=>R.ok (D.int z)) hh)))))) e1) rfl) ?_);refine aH (aR (aQ (aq rfl) es) rfl) ?_;refine aH (Zh (aQ (aB rfl (aq rfl)) e3) (aQ (aB rfl (aB rfl (aq rfl))) c1) (aQ (aB rfl (aB rfl (aq rfl))) d1)) ?_;refine aH (aR (dO (aB rfl (aB rfl (aq rfl))) (aq rfl) eb) rfl) ?_;refine aH (bV (qT (aV (aA (x:= .int (a:Int)) (congrArg (λn:Nat=>R.ok (D.int (n:Int))) (k0.c.trans n1)) rfl (Pu.iB rfl dI))) (qT (aV (aA (x:= .int (d:Int)) (congrArg (λn:Nat=>R.ok (D.int (n:Int))) (k0.r.trans n2)) rfl (Pu.iB rfl dI))) (aV (aA (x:= .int ((d:Int)+(a:Int))) (aY (aq rfl) ?_) (aA rfl rfl rfl) (Pu.iB rfl dI))))) rfl) ?_
 ·show (if (txt l0).length<=1000000 then R.ok (D.int ((txt l0).length:Int)) else .bad)=_;rw[qG,if_pos (by omega),show (l0.length:Int)=(d:Int)+(a:Int) by omega]
 refine aH (bV (aV (aA (x:= .tup [.int ((w - a:Nat):Int),.int ((h - d:Nat):Int)]) (aQ (aq (dO (aB rfl (aq rfl)) (aq rfl) (Fj hm oP l4 ft))) ?_) (cH (aB (aA rfl rfl (sub (by omega))) (aq (aA rfl rfl (sub (by omega)))))) (Pu.iB rfl (ad9 rfl)))) rfl) ?_
 ·refine (size_eq ob).trans ?_;rw[sw,sh,Pw,Ph,n1,n2]
 refine aH (bV (aV (aA (aQ (aB rfl (aB rfl (aq rfl))) (Mr hm oP l4 ft)) rfl (Pu.iB rfl dI))) rfl) ?_;obtain⟨p10,p11,p12,p13,pe⟩:=Mu (kk:=0) hm hn oP aa dd (by omega) (by omega) q0 (e2:=vA (.int (w:Int))) (e3:=vA (.int (h:Int))) (e10:=none) (Yp:=none) (Yq:=none) (Yr:=none) (Vx:=none);obtain⟨u10,u11,u12,u13,ue⟩:=Mu (kk:=1) hm hn oP aa dd (by omega) (by omega) q0 (e2:=vA (.int (w:Int))) (e3:=vA (.int (h:Int))) (e10:=p10) (Yp:=p11) (Yq:=p12) (Yr:=p13) (Vx:=none);obtain⟨v10,v11,v12,v13,ve⟩:=Mu (kk:=2) hm hn oP aa dd (by omega) (by omega) q0 (e2:=vA (.int (w:Int))) (e3:=vA (.int (h:Int))) (e10:=u10) (Yp:=u11) (Yq:=u12) (Yr:=u13) (Vx:=none);refine aH (jV (xs:=[.int 0,.int 1,.int 2]) rfl (dN rfl pe (dN rfl ue (dN rfl ve rfl)))) ?_
 clear pe ue ve
 refine aH (bV (aV (aA (x:= .int (run m l0 P).1) (aA (dO (aB (aQ (aq rfl) (Af oP)) (aB rfl (aq rfl))) (aq rfl) et) rfl (by rw[<-ec];exact iY (i:=0) rfl)) rfl (Pu.iB rfl dI))) rfl) ?_;refine aH (aR (d:= .str (txt (l0.map not))) ?_ rfl) ?_
 ·have e:=Mv (a:= "x") (b:= "r") (Mv (a:= "r") (b:= "c") (Mv (a:= "c") (b:= "x") (ρ:=[vA (.lst (ns.map .int)),vA (pD P),vA (.int (w:Int)),vA (.int (h:Int)),vA (.str m),vA (.int (d:Int)),vA (.int (a:Int)),vA (.int (run m l0 P).1),vA (.str (txt l0)),vA (.int ((2:Nat):Int)),v10,v11,v12,v13,none]) (u:=λρ=>bF ρ 8) (x:=txt l0) rfl (by rw[qG];omega)) k0.s1) k0.s2;rw[k0.sw] at e;exact e
 refine aH (bV (aV (aA (dO (aB (aQ (aq rfl) (Af oP)) (aq rfl)) (aq rfl) eT) (aQ (aq (dO (aB rfl (aq rfl)) (aq rfl) (Fj hm oP l4 ft))) (Af ob)) (Pu.iB rfl Ql))) rfl) ?_;refine aH (aR (cH (aB (dO (aB rfl (aq (aA rfl rfl (sub (by omega))))) (aq rfl) el) (aq (aA rfl rfl (Fo (b:=true) aa))))) rfl) ?_;rw[<-r2];refine aH (bV (aV (aA (dO (aB rfl (aB rfl (aq rfl))) (aq rfl) e0) rfl (Pu.iB rfl (ad9 rfl)))) rfl) ?_;refine bx (aA (dO (aB rfl (aq (aA rfl rfl (Fo (b:=true) aa)))) (aq rfl) (by rw[<-r2];exact Fj hm oP l24 f2)) (dO (aB rfl (aq (aA rfl rfl (sub (by omega))))) (aq rfl) en) (Ky rfl Ql))
end
end yp
namespace yp
open PySem PySem.Spec L2 Pu
open PyProof.Rows hiding St
variable{f:acA}{F:adh}{outer:List PySem.Env}{ps N:List Str}{us:List acB}{n:Nat}{K:PySem.W.Frag}{g:ao->So}{st:acS}{x:Str}{cdv:acB}
def DX(K:PySem.W.Frag)(x:Str)(st:acS):Prop:=∃f fd,Fun K x x st f fd/\PySem.W.nsIn K acK x=some (some (.ref f))
theorem abS{oc:acB}{od an:Option acA}{osl:Array (Option acB)}{kV doc pm ct:acB}(a:PySem.W.nsIn K acK x=some (some (.ref f)))(l:K.lookup f=some ⟨oc,od,.func (PySem.W.fnOf x x (defArgs st) (defBody st) (defScope st) .none kV doc pm an cdv ct),osl⟩)
  (c:PySem.W.codeIn K cdv x=true)(k:PySem.W.keepIn K (.ref f)=true):DX K x st:=⟨f,_,fun_mk l c k,a⟩
def DY(K:PySem.W.Frag)(mg:Str->Option acB)(x:Str)(st:acS)(ps:List Str):Prop:=∃f fd,Fun K x x st f fd/\mg x=some (.ref f)/\Binds K fd ps []
theorem dy{mg:Str->Option acB}{h:acP}(X:K.In h)(G:h.Ns acK mg)(q:DX K x st)
  (b:∀(kV doc pm:acB) (an:Option acA) (cdv ct:acB) (us:List acB),us.length=ps.length->aeR (PySem.W.fnOf x x (defArgs st) (defBody st) (defScope st) .none kV doc pm an cdv ct) ⟨us,[]⟩=pure (ps.zip us)):DY K mg x st ps:=
 let⟨f,fd,u,a⟩:=q;⟨f,fd,u,PySem.W.mg_of X G a,u.binds b⟩
section
variable{P:acL}{w:acQ}{K:PySem.W.Frag}{mg:Str->Option acB}{base:acP}
theorem fV{k m:Nat}(q:DY K mg x st ps)(S:FnScope N ps (defScope st))(hn:ps.length=n)(hm:N.length=n+m)
  (hb:∀{f:acA} (cdv:acB) (A:acO) (outer:List PySem.Env) (s:acC) (H:Hp) (E:XK),Room k (A.deeper (aeb x (defScope st) s.heap.objs.size f cdv))->jg (cxOf CX0 P w K mg base N x (defScope st) f cdv A outer s H E).nox (defBody st) g):dX P w K mg base (k+1) x n (bK m g):=
 let⟨_,_,Fn,hmg,b⟩:=q;aal Fn hmg b S hn hm hb
def mj(P:acL)(w:acQ)(K:PySem.W.Frag)(mg:Str->Option acB)(base:acP)(k:Nat)(x:Str)(n:Nat)(F:List D->R D)(ps:List Str)(ts:List (acA×Str)):Prop:=∃fd,K3 P w K mg base k x n F fd ps ts/\Binds K fd ps []
def J9(P:acL)(w:acQ)(K:PySem.W.Frag)(mg:Str->Option acB)(base:acP)(k:Nat)(x:Str)(n:Nat)(F:List D->R D)(ps:List Str)(ts:List (acA×Str)):Prop:=∃fd,Ca P w K mg base k x n F fd ps ts/\Binds K fd ps []
theorem yP{k m:Nat}{ts:List (acA×Str)}(q:DY K mg x st ps)(S:FnScope N ps (defScope st))(hn:ps.length=n)(hm:N.length=n+m)
  (hb:∀{f:acA} (cdv:acB) (A:acO) (outer:List PySem.Env) (s:acC) (H:Hp) (E:XK),True->Room k (A.deeper (aeb x (defScope st) s.heap.objs.size f cdv))->Tb ts H->jg (cxOf CX0 P w K mg base N x (defScope st) f cdv A outer s H E).nox (defBody st) g):mj P w K mg base (k+1) x n (λds=>eU m g (ds.map .val)) ps ts:=
 let⟨f,fd,Fn,hmg,b⟩:=q;⟨fd,⟨f,X8 Fn S hn hm λcdv A outer s H E _=>hb cdv A outer s H E trivial,hmg,Fn.kp⟩,b⟩
theorem aa7{k m:Nat}{ts:List (acA×Str)}(q:DY K mg x st ps)(S:FnScope N ps (defScope st))(hn:ps.length=n)(hm:N.length=n+m)
  (hb:∀{f:acA} (cdv:acB) (A:acO) (outer:List PySem.Env) (s:acC) (H:Hp) (E:XK),Room k (A.deeper (aeb x (defScope st) s.heap.objs.size f cdv))->Tb ts H->jg (cxOf (PJ P w) P w K mg base N x (defScope st) f cdv A outer s H E) (defBody st) g):J9 P w K mg base (k+1) x n (bK m g) ps ts:=
 let⟨f,fd,Fn,hmg,b⟩:=q;⟨fd,⟨f,Lg Fn S hn hm hb,hmg,Fn.kp⟩,b⟩
end
section
variable{X:Cx}{k m n:Nat}{ps:List Str}{F:List D->R D}{x:Str}{p pos:Pos}{e:acI}{es:List acI}{fa:ao->R (List D)}{ts:List (acA×Str)}
theorem dJ(G:mj X.prog X.w X.K X.mg X.base k x n F ps ts)(hT:Tb ts X.H₀)(hr:Room m X.A)(hkm:k<=m)(ha:DA X (e::es) fa)(hg:Gl X x:=by rfl)
  (hdb:(x ==("__debug__" :Str))=false:=by decide)(he:acE (e::es) X.env=(false,eval e X.env)::acE es X.env:=by rfl)(hpl:(adg pos (acE es X.env)).any (·.1)=false:=by rfl):
  DE X (.Call (.Name x p) (e::es) [] pos) (aF (aN F n) fa):=let⟨_,g,b⟩:=G;aay g hT hr hkm b ha hg hdb he hpl
theorem uW(G:J9 X.prog X.w X.K X.mg X.base k x n F ps ts)(hT:Tb ts X.H₀)(hr:Room m X.A)(hkm:k<=m)(ha:DA X (e::es) fa)(hg:Gl X x:=by rfl)
  (hdb:(x ==("__debug__" :Str))=false:=by decide)(he:acE (e::es) X.env=(false,eval e X.env)::acE es X.env:=by rfl)(hpl:(adg pos (acE es X.env)).any (·.1)=false:=by rfl):
  DE X (.Call (.Name x p) (e::es) [] pos) (cX F n 0 [] fa nA):=let⟨_,g,b⟩:=G;Ze Sel.nil g hT hr hkm (abH b) ha hg hdb he hpl
end
theorem Bb(hl:us.length=n+1):∃a u,us=a::u/\u.length=n:=by
 cases us with
 |nil=>cases hl
 |cons a u=>exact⟨a,u,rfl,Nat.succ.inj hl⟩
theorem uX(hl:us.length=1)(h:∀a0,aeR F ⟨[a0],[]⟩=pure (ps.zip [a0])):aeR F ⟨us,[]⟩=pure (ps.zip us):=by
 obtain⟨a0,u1,rfl,h1⟩:=Bb hl;cases ac4 h1;exact h a0
theorem mK(hl:us.length=2)(h:∀a0 a1,aeR F ⟨[a0,a1],[]⟩=pure (ps.zip [a0,a1])):aeR F ⟨us,[]⟩=pure (ps.zip us):=by
 obtain⟨a0,u1,rfl,h1⟩:=Bb hl;obtain⟨a1,u2,rfl,h2⟩:=Bb h1;cases ac4 h2;exact h a0 a1
theorem Fp(hl:us.length=3)(h:∀a0 a1 a2,aeR F ⟨[a0,a1,a2],[]⟩=pure (ps.zip [a0,a1,a2])):aeR F ⟨us,[]⟩=pure (ps.zip us):=by
 obtain⟨a0,u1,rfl,h1⟩:=Bb hl;obtain⟨a1,u2,rfl,h2⟩:=Bb h1;obtain⟨a2,u3,rfl,h3⟩:=Bb h2;cases ac4 h3;exact h a0 a1 a2
theorem Vy(hl:us.length=4)(h:∀a0 a1 a2 a3,aeR F ⟨[a0,a1,a2,a3],[]⟩=pure (ps.zip [a0,a1,a2,a3])):aeR F ⟨us,[]⟩=pure (ps.zip us):=by
 obtain⟨a0,u1,rfl,h1⟩:=Bb hl;obtain⟨a1,u2,rfl,h2⟩:=Bb h1;obtain⟨a2,u3,rfl,h3⟩:=Bb h2;obtain⟨a3,u4,rfl,h4⟩:=Bb h3;cases ac4 h4;exact h a0 a1 a2 a3
def top(i:Nat):acS:=PySem.Challenge.pw_seamhall_k38_whole_orders.main.body.getD i (.Pass ⟨0,0,0,0⟩)
abbrev vQ:acS:=top 31
theorem Oi:FnScope ["picture"] ["picture"] (defScope vQ):=⟨rfl,rfl,rfl,by decide +kernel,rfl,by decide +kernel,by decide +kernel⟩
abbrev pK:acS:=top 51
theorem Ht:FnScope ["picture","seam"] ["picture","seam"] (defScope pK):=⟨rfl,rfl,rfl,by decide +kernel,rfl,by decide +kernel,by decide +kernel⟩
abbrev Mw:acS:=top 20
theorem QS:FnScope ["line","last"] ["line"] (defScope Mw):=⟨rfl,rfl,rfl,by decide +kernel,rfl,by decide +kernel,by decide +kernel⟩
abbrev rE:acS:=top 35
theorem dR:FnScope ["picture","y","row","above","last","told","x","gap","from_left","from_right"] ["picture","y"] (defScope rE):=⟨rfl,rfl,rfl,by decide +kernel,rfl,by decide +kernel,by decide +kernel⟩
abbrev yQ:acS:=top 13
theorem RV:FnScope ["thing"] ["thing"] (defScope yQ):=⟨rfl,rfl,rfl,by decide +kernel,rfl,by decide +kernel,by decide +kernel⟩
abbrev vR:acS:=top 11
theorem Oj:FnScope ["thing"] ["thing"] (defScope vR):=⟨rfl,rfl,rfl,by decide +kernel,rfl,by decide +kernel,by decide +kernel⟩
abbrev yR:acS:=top 12
theorem RW:FnScope ["thing"] ["thing"] (defScope yR):=⟨rfl,rfl,rfl,by decide +kernel,rfl,by decide +kernel,by decide +kernel⟩
abbrev Cu:acS:=top 14
theorem Vz:FnScope ["thing"] ["thing"] (defScope Cu):=⟨rfl,rfl,rfl,by decide +kernel,rfl,by decide +kernel,by decide +kernel⟩
abbrev rF:acS:=top 15
theorem JG:FnScope ["thing"] ["thing"] (defScope rF):=⟨rfl,rfl,rfl,by decide +kernel,rfl,by decide +kernel,by decide +kernel⟩
abbrev nH:acS:=top 16
theorem Fq:FnScope ["thing"] ["thing"] (defScope nH):=⟨rfl,rfl,rfl,by decide +kernel,rfl,by decide +kernel,by decide +kernel⟩
abbrev yS:acS:=top 17
theorem RX:FnScope ["picture"] ["picture"] (defScope yS):=⟨rfl,rfl,rfl,by decide +kernel,rfl,by decide +kernel,by decide +kernel⟩
abbrev Cv:acS:=top 18
theorem Ju:FnScope ["picture","wide","high"] ["picture"] (defScope Cv):=⟨rfl,rfl,rfl,by decide +kernel,rfl,by decide +kernel,by decide +kernel⟩
abbrev Cw:acS:=top 21
theorem tE:FnScope ["picture","wide","high","across","down"] ["picture"] (defScope Cw):=⟨rfl,rfl,rfl,by decide +kernel,rfl,by decide +kernel,by decide +kernel⟩
abbrev Hu:acS:=top 36
theorem Xv:FnScope ["picture","manner"] ["picture","manner"] (defScope Hu):=⟨rfl,rfl,rfl,by decide +kernel,rfl,by decide +kernel,by decide +kernel⟩
abbrev yU:acS:=top 37
theorem RZ:FnScope ["row","above","place"] ["row","above","place"] (defScope yU):=⟨rfl,rfl,rfl,by decide +kernel,rfl,by decide +kernel,by decide +kernel⟩
abbrev Mx:acS:=top 34
theorem ZS:FnScope ["place","wide"] ["place","wide"] (defScope Mx):=⟨rfl,rfl,rfl,by decide +kernel,rfl,by decide +kernel,by decide +kernel⟩
abbrev Cy:acS:=top 40
theorem oZ:FnScope ["beneath","row","x","told","place","fare"] ["beneath","row","x"] (defScope Cy):=⟨rfl,rfl,rfl,by decide +kernel,rfl,by decide +kernel,by decide +kernel⟩
abbrev qH:acS:=top 41
theorem jc:FnScope ["table","marks","start","gather","rows","y","row","x","mark","told","lost"] ["table","marks","start","gather"] (defScope qH):=⟨rfl,rfl,rfl,by decide +kernel,rfl,by decide +kernel,by decide +kernel⟩
abbrev iH:acS:=top 42
theorem yV:FnScope ["table","marks","many","first_ones"] ["table","marks","many"] (defScope iH):=⟨rfl,rfl,rfl,by decide +kernel,rfl,by decide +kernel,by decide +kernel⟩
abbrev vU:acS:=top 43
theorem j7:FnScope ["table","rows","told","x","cell","fare"] ["table","rows"] (defScope vU):=⟨rfl,rfl,rfl,by decide +kernel,rfl,by decide +kernel,by decide +kernel⟩
abbrev pL:acS:=top 44
theorem Hv:FnScope ["table","marks","many"] ["table","marks","many"] (defScope pL):=⟨rfl,rfl,rfl,by decide +kernel,rfl,by decide +kernel,by decide +kernel⟩
abbrev ud:acS:=top 45
theorem rG:FnScope ["table","marks","found","less","cost","seam"] ["table","marks"] (defScope ud):=⟨rfl,rfl,rfl,by decide +kernel,rfl,by decide +kernel,by decide +kernel⟩
abbrev yW:acS:=top 52
theorem R0:FnScope ["rows","seam"] ["rows","seam"] (defScope yW):=⟨rfl,rfl,rfl,by decide +kernel,rfl,by decide +kernel,by decide +kernel⟩
abbrev Hw:acS:=top 56
theorem jH:FnScope ["picture","many","manner","marks","left","marked","steps","total","found","cost","seam"] ["picture","many","manner","marks"] (defScope Hw):=⟨rfl,rfl,rfl,by decide +kernel,rfl,by decide +kernel,by decide +kernel⟩
abbrev uf:acS:=top 60
theorem yX:FnScope ["picture","manner","left","steps","cost"] ["picture","manner"] (defScope uf):=⟨rfl,rfl,rfl,by decide +kernel,rfl,by decide +kernel,by decide +kernel⟩
abbrev Cz:acS:=top 61
theorem Jv:FnScope ["picture","manner","cost","left"] ["picture","manner"] (defScope Cz):=⟨rfl,rfl,rfl,by decide +kernel,rfl,by decide +kernel,by decide +kernel⟩
abbrev vV:acS:=top 62
theorem Ol:FnScope ["thing","picture"] ["thing","picture"] (defScope vV):=⟨rfl,rfl,rfl,by decide +kernel,rfl,by decide +kernel,by decide +kernel⟩
abbrev pN:acS:=top 27
theorem Hx:FnScope ["thing"] ["thing"] (defScope pN):=⟨rfl,rfl,rfl,by decide +kernel,rfl,by decide +kernel,by decide +kernel⟩
abbrev fY:acS:=top 63
theorem nY:FnScope ["picture","text","manner","left","sign","cost"] ["picture","text","manner"] (defScope fY):=⟨rfl,rfl,rfl,by decide +kernel,rfl,by decide +kernel,by decide +kernel⟩
abbrev CG:acS:=top 33
theorem VB:FnScope ["thing","wide","high"] ["thing","wide","high"] (defScope CG):=⟨rfl,rfl,rfl,by decide +kernel,rfl,by decide +kernel,by decide +kernel⟩
abbrev yZ:acS:=top 47
theorem Ft:FnScope ["thing","picture","wide","high"] ["thing","picture"] (defScope yZ):=⟨rfl,rfl,rfl,by decide +kernel,rfl,by decide +kernel,by decide +kernel⟩
abbrev ug:acS:=top 48
theorem Mz:FnScope ["thing","picture"] ["thing","picture"] (defScope ug):=⟨rfl,rfl,rfl,by decide +kernel,rfl,by decide +kernel,by decide +kernel⟩
abbrev vW:acS:=top 38
theorem nZ:FnScope ["table","way","total","y"] ["table","way"] (defScope vW):=⟨rfl,rfl,rfl,by decide +kernel,rfl,by decide +kernel,by decide +kernel⟩
abbrev iz:acS:=top 49
theorem R4:FnScope ["picture","seam","manner"] ["picture","seam","manner"] (defScope iz):=⟨rfl,rfl,rfl,by decide +kernel,rfl,by decide +kernel,by decide +kernel⟩
abbrev za:acS:=top 28
theorem R5:FnScope ["thing"] ["thing"] (defScope za):=⟨rfl,rfl,rfl,by decide +kernel,rfl,by decide +kernel,by decide +kernel⟩
abbrev nJ:acS:=top 29
theorem Fv:FnScope ["thing","wide"] ["thing","wide"] (defScope nJ):=⟨rfl,rfl,rfl,by decide +kernel,rfl,by decide +kernel,by decide +kernel⟩
abbrev vX:acS:=top 30
theorem Om:FnScope ["thing","picture"] ["thing","picture"] (defScope vX):=⟨rfl,rfl,rfl,by decide +kernel,rfl,by decide +kernel,by decide +kernel⟩
abbrev rH:acS:=top 32
theorem JH:FnScope ["thing","picture"] ["thing","picture"] (defScope rH):=⟨rfl,rfl,rfl,by decide +kernel,rfl,by decide +kernel,by decide +kernel⟩
abbrev vY:acS:=top 39
theorem Bc:FnScope ["picture","manner","marks","marked"] ["picture","manner","marks"] (defScope vY):=⟨rfl,rfl,rfl,by decide +kernel,rfl,by decide +kernel,by decide +kernel⟩
abbrev dF:acS:=top 50
theorem pO:FnScope ["picture","manner","marks","table","marked","found"] ["picture","manner","marks"] (defScope dF):=⟨rfl,rfl,rfl,by decide +kernel,rfl,by decide +kernel,by decide +kernel⟩
abbrev rJ:acS:=top 70
theorem gW:FnScope ["_law_picture_here","_law_text","_law_mode","_law_cost","_law_at","_law_sign","_law_here","_law_side"] ["_law_picture_here","_law_text","_law_mode"] (defScope rJ):=⟨rfl,rfl,rfl,by decide +kernel,rfl,by decide +kernel,by decide +kernel⟩
abbrev rK:acS:=top 67
theorem cU:FnScope ["_law_script","_law_k","_law_many","_law_cell","_law_turn","_law_rest"] ["_law_script","_law_k","_law_many"] (defScope rK):=⟨rfl,rfl,rfl,by decide +kernel,rfl,by decide +kernel,by decide +kernel⟩
abbrev pP:acS:=top 69
theorem Hy:FnScope ["_law_script","_law_at"] ["_law_script","_law_at"] (defScope pP):=⟨rfl,rfl,rfl,by decide +kernel,rfl,by decide +kernel,by decide +kernel⟩
abbrev nM:acS:=top 68
theorem mq:FnScope ["_law_script","_law_at","_law_broad","_law_tall","_law_most","_law_rows","_law_y"] ["_law_script","_law_at","_law_broad","_law_tall"] (defScope nM):=⟨rfl,rfl,rfl,by decide +kernel,rfl,by decide +kernel,by decide +kernel⟩
abbrev uh:acS:=top 64
theorem gG:FnScope ["picture","down","across","manner","told","cost","left","rest","text"] ["picture","down","across","manner"] (defScope uh):=⟨rfl,rfl,rfl,by decide +kernel,rfl,by decide +kernel,by decide +kernel⟩
abbrev rM:acS:=top 55
theorem JK:FnScope ["thing","least","most"] ["thing","least","most"] (defScope rM):=⟨rfl,rfl,rfl,by decide +kernel,rfl,by decide +kernel,by decide +kernel⟩
abbrev dG:acS:=top 65
theorem wO:FnScope ["picture","down","across","manner","wide","high"] ["picture","down","across","manner"] (defScope dG):=⟨rfl,rfl,rfl,by decide +kernel,rfl,by decide +kernel,by decide +kernel⟩
abbrev vZ:acS:=top 57
theorem Bd:FnScope ["picture","wide","manner","marks","marked"] ["picture","wide","manner","marks"] (defScope vZ):=⟨rfl,rfl,rfl,by decide +kernel,rfl,by decide +kernel,by decide +kernel⟩
abbrev mC:acS:=top 59
theorem ZV:FnScope ["picture","wide","manner"] ["picture","wide","manner"] (defScope mC):=⟨rfl,rfl,rfl,by decide +kernel,rfl,by decide +kernel,by decide +kernel⟩
abbrev fZ:acS:=top 58
theorem Bf:FnScope ["picture","wide","manner","marks","told"] ["picture","wide","manner","marks"] (defScope fZ):=⟨rfl,rfl,rfl,by decide +kernel,rfl,by decide +kernel,by decide +kernel⟩
abbrev qw:acS:=top 71
theorem ji:FnScope ["_law_script","_law_picture_here","_law_broad","_law_tall","_law_mode","_law_down","_law_across","_law_cost","_law_text","_law_k","_law_signs","_law_some","_law_other","_law_here","_law_due"] ["_law_script"] (defScope qw):=⟨rfl,rfl,rfl,by decide +kernel,rfl,by decide +kernel,by decide +kernel⟩
abbrev gH:acS:=(defBody iH).getD 0 (.Pass ⟨0,0,0,0⟩)
theorem JL:GZ ["x","told","many"] ["x","told"] "many" (defScope gH):=⟨rfl,rfl,rfl,by decide +kernel,rfl,by decide +kernel,by decide +kernel,by decide +kernel,by decide +kernel⟩
structure Txt(K:PySem.W.Frag)(mg:Str->Option acB):Prop where
 Fw:∃t,mg "FREE" =some (.int 0 t)
 Fx:∃t,mg "GONE" =some (.int 2 t)
 MF:∃t,mg "KEPT" =some (.int 1 t)
 um:∃t,mg "MOST_CELL" =some (.int 99 t)
 uo:∃t,mg "MOST_LONG" =some (.int 20 t)
 rN:∃t,mg "MOST_TAKEN" =some (.int 4 t)
 zc:Wq K mg "MANNERS" ["worth","joins"]
 Ag:mg "abs" =none
 oh:mg "all" =none
 MJ:mg "bool" =none
 iI:mg "enumerate" =none
 R6:mg "int" =none
 dH:mg "isinstance" =none
 cL:mg "len" =none
 MK:mg "list" =none
 Ah:mg "max" =none
 tH:mg "min" =none
 eE:mg "range" =none
 wg:mg "reversed" =none
 rO:mg "sorted" =none
 R7:mg "str" =none
 fJ:mg "tuple" =none
 Ka:mg "zip" =none
 Fy:∀d:D,PySem.W.kitOne K (.type (iK d)) (.type "int")=some (zT (iK d))
 zf:∀d:D,PySem.W.kitOne K (.type (iK d)) (.type "bool")=some (vg (iK d))
 lB:∀d:D,PySem.W.kitOne K (.type (iK d)) (.type "tuple")=some (gj (iK d))
 Fz:∀d:D,PySem.W.kitOne K (.type (iK d)) (.type "list")=some (Kw (iK d))
 FJ:∀d:D,PySem.W.kitOne K (.type (iK d)) (.type "str")=some (zU (iK d))
 zj:∃C,X7 K mg "NoDeeds" C
 zm:∃C,X7 K mg "NoWidth" C
abbrev tz(TP:acA):List (acA×Str):=[(TP,"best_ways.<locals>.first_ones")]
structure HX(K:PySem.W.Frag)(mg:Str->Option acB):Prop extends Txt K mg where
 wj:DY K mg "all_free" vQ ["picture"]
 pQ:DY K mg "cells_along" pK ["picture","seam"]
 MN:DY K mg "gaps" Mw ["line"]
 rP:DY K mg "join_fares" rE ["picture","y"]
 zp:DY K mg "is_line" yQ ["thing"]
 wk:DY K mg "is_whole" vR ["thing"]
 zq:DY K mg "is_cell" yR ["thing"]
 CJ:DY K mg "is_row" Cu ["thing"]
 rQ:DY K mg "is_picture" rF ["thing"]
 nO:DY K mg "need_picture" nH ["thing"]
 zu:DY K mg "size_of" yS ["picture"]
 CK:DY K mg "turned" Cv ["picture"]
 CN:DY K mg "worths" Cw ["picture"]
 Hz:DY K mg "fares" Hu ["picture","manner"]
 zx:DY K mg "fare_of" yU ["row","above","place"]
 MP:DY K mg "near" Mx ["place","wide"]
 CP:DY K mg "onward" Cy ["beneath","row","x"]
 HD:DY K mg "swept" qH ["table","marks","start","gather"]
 uq:DY K mg "best_ways" iH ["table","marks","many"]
 wu:DY K mg "from_top" vU ["table","rows"]
 pR:DY K mg "first_seams" pL ["table","marks","many"]
 ur:DY K mg "least_way" ud ["table","marks"]
 zy:DY K mg "without" yW ["rows","seam"]
 HF:DY K mg "taken" Hw ["picture","many","manner","marks"]
 uw:DY K mg "by_column" uf ["picture","manner"]
 CQ:DY K mg "by_row" Cz ["picture","manner"]
 wz:DY K mg "is_order" vV ["thing","picture"]
 pU:DY K mg "need_manner" pN ["thing"]
 CV:DY K mg "is_way" CG ["thing","wide","high"]
 zA:DY K mg "is_seam" yZ ["thing","picture"]
 ux:DY K mg "need_seam" ug ["thing","picture"]
 wA:DY K mg "way_cost" vW ["table","way"]
 zB:DY K mg "is_mark" za ["thing"]
 nP:DY K mg "is_marks_row" nJ ["thing","wide"]
 wB:DY K mg "is_marks" vX ["thing","picture"]
 rR:DY K mg "full_marks" rH ["thing","picture"]
 wC:DY K mg "laid_out" vY ["picture","manner","marks"]
 rT:DY K mg "_law_costs" rJ ["_law_picture_here","_law_text","_law_mode"]
 rW:DY K mg "_law_drawn" rK ["_law_script","_law_k","_law_many"]
 pW:DY K mg "_law_manner" pP ["_law_script","_law_at"]
 nQ:DY K mg "_law_picture" nM ["_law_script","_law_at","_law_broad","_law_tall"]
 ou:DY K mg "best_from" uh ["picture","down","across","manner"]
 rY:DY K mg "need_width" rM ["thing","least","most"]
 wD:DY K mg "taken_to" vZ ["picture","wide","manner","marks"]
 R8:∃f fd,Fun K "by_order" "by_order" fY f fd/\mg "by_order" =some (.ref f)/\KB K fd ["picture","text","manner"] ["manner"] [.inl 0]
 VD:∃f fd,Fun K "cost_of" "cost_of" iz f fd/\mg "cost_of" =some (.ref f)/\KB K fd ["picture","seam","manner"] ["manner"] [.inl 0]
 M4:∃f fd,Fun K "least_seam" "least_seam" dF f fd/\mg "least_seam" =some (.ref f)/\KB K fd ["picture","manner","marks"] ["manner"] [.inl 0,.inr .none]
 M5:∃f fd,Fun K "best_order" "best_order" dG f fd/\mg "best_order" =some (.ref f)/\KB K fd ["picture","down","across","manner"] ["manner"] [.inl 0]
 aa8:∃f fd,Fun K "loss" "loss" mC f fd/\mg "loss" =some (.ref f)/\KB K fd ["picture","wide","manner"] ["manner"] [.inl 0]
 R9:∃f fd,Fun K "narrowed" "narrowed" fZ f fd/\mg "narrowed" =some (.ref f)/\KB K fd ["picture","wide","manner","marks"] ["manner"] [.inl 0,.inr .none]
structure HB(K:PySem.W.Frag)(mg:Str->Option acB)(base:acP)(cN TP:acA):Prop extends HX K mg where
 hB:nW base mg cN TP
 hC:xZ K mg "best_ways" cN
section
variable{P:acL}{w:acQ}{K:PySem.W.Frag}{mg:Str->Option acB}{base:acP}{cN TP:acA}
theorem JM{c:acA}{A:acO}{s:acC}{H:Hp}(T:Txt K mg)(hr:Room 0 (A.deeper (vo "best_ways.<locals>.first_ones" (defScope gH) f cdv s "many" c))):jg (vp P w K mg base ["x","told","many"] "best_ways.<locals>.first_ones" (defScope gH) f cdv A outer s H "many" c) (defBody gH) yx:=by
 exact (aK (aX (bY ["less","cost","places"] [0] rfl (by kernel_rfl) (by kernel_rfl) (fQ (Iz (aU (Ld (Lf hr)) rfl T.rO boot_sorted (aj (dv 1) au)) qU (qW (dv 2)))) (iW (bQ (bf (by decide)) (bQ (bf (by decide)) (bQ (bf (by decide)) iV)))) (λ_ _ _ _ nd=>oG rfl (cC (bB 0 nd) (cC (bB 1 nd) (cC (bB 2 nd) kY)))) (λ_ _ _ _=>bW) (λ_ _ _ _=>(cI (aj (dv 0) (aj (dv 1) (aj (aP d7 (cI (aj (dv 3) au)) (dv 2)) au))))))))
theorem HJ(T:Txt K mg)(my:Int)(a c:acA)(H:Hp)(co:Obj)(uy:acB)(fh:jB H a "first_ones" "best_ways.<locals>.first_ones" (defArgs gH) (defBody gH) (defScope gH) [("many",c)])(hc:H c=some (.frz co (.own c)))(hcd:co.data= .cell (some uy))(hy:RelV (.int my) uy):xY P w K mg base 1 (c7 my) 2 a H:=
 aaB (k:=0) (m:=0) JL rfl rfl (λ_ _ _ _ _ us hl=>mK hl λ_ _=>rfl) (λcdv A outer s H f c hr=>JM T  hr) fh hc hcd hy
theorem FN(T:HX K mg):dX P w K mg base 1 "all_free" 1 qd:=
  fV (k:=0) (g:=Ek) T.wj Oi rfl rfl fun cdv A outer s H E hr=>(by
    obtain⟨aa9,M6⟩:=T.Fw
    exact (aK (aX (aP zX (cI (aj (aP zX (cI (aj (jL rfl M6) au)) (aU cB rfl T.cL PySem.boot_len (aj (bJ (dv 0) aL) au))) au)) (aU cB rfl T.cL PySem.boot_len (aj (dv 0) au))))))
theorem JN(T:HX K mg):dX P w K mg base 1 "cells_along" 2 pF:=
 fV (k:=0) (g:=wI) T.pQ Ht rfl rfl λcdv A outer s H E hr=>(aK (aX (jw jz rfl T.fJ aep (aj (bY ["row","place"] [] rfl (by kernel_rfl) (by kernel_rfl) (Py rfl T.Ka (aj (dv 0) (aj (dv 1) au))) (iW (bQ (bf (by decide)) (bQ (bf (by decide)) iV))) (λ_ _ _ _ nd=>oG rfl (cC (bB 0 nd) (cC (bB 1 nd) kY))) (λ_ _ _ _=>bW) (λ_ _ _ _=>(bJ (dv 0) (dv 1)))) au))))
theorem M7(T:HX K mg):dX P w K mg base 1 "gaps" 1 yq:=
 fV (k:=0) (g:=U3) T.MN QS rfl rfl λcdv A outer s H E hr=>(aD (bD 1 QS.nd (aP cM (aU cB rfl T.cL PySem.boot_len (aj (dv 0) au)) aL)) (aK (aX (bY ["at"] [1,0] rfl (by kernel_rfl) (by kernel_rfl) (gY rfl T.eE (aj (aU cB rfl T.cL PySem.boot_len (aj (dv 0) au)) au)) (bf (by decide)) (λ_ _ _ _ nd=>bB 0 nd) (λ_ _ _ _=>bW) (λ_ _ _ _=>(aU Dt rfl T.Ag boot_abs (aj (aP cM (bJ (dv 2) (aU (Du rfl) rfl T.Ah boot_max (aj (aP cM (dv 0) aL) (aj aL au)))) (bJ (dv 2) (aU (xP rfl) rfl T.tH ahl (aj (aP d7 (dv 0) aL) (aj (dv 1) au))))) au)))))))
theorem M8(T:HX K mg):dX P w K mg base 2 "join_fares" 2 qZ:=
 fV (k:=1) (g:=yt) T.rP dR rfl rfl λcdv A outer s H E hr=>(aD (bD 2 dR.nd (bJ (dv 0) (dv 1))) (aD (bD 3 dR.nd (bJ (dv 0) (aU (Du rfl) rfl T.Ah boot_max (aj (aP cM (dv 1) aL) (aj aL au))))) (aD (bD 4 dR.nd (aP cM (aU cB rfl T.cL PySem.boot_len (aj (dv 2) au)) aL)) (aD (mW 5 dR.nd au) (aD (jU ad3 rfl (GX rfl T.iI (aj (aZ (M7 T) hr (by decide) (aj (dv 2) au)) au)) (zR 6 7 rfl dR.nd) (aD (bD 8 dR.nd (aP d7 (dv 7) (aU Dt rfl T.Ag boot_abs (aj (aP cM (bJ (dv 3) (dv 6)) (bJ (dv 2) (aU (Du rfl) rfl T.Ah boot_max (aj (aP cM (dv 6) aL) (aj aL au))))) au)))) (aD (bD 9 dR.nd (aP d7 (dv 7) (aU Dt rfl T.Ag boot_abs (aj (aP cM (bJ (dv 3) (dv 6)) (bJ (dv 2) (aU (xP rfl) rfl T.tH ahl (aj (aP d7 (dv 6) aL) (aj (dv 4) au))))) au)))) (aK (uJ 5 (cI (aj (dv 8) (aj (dv 7) (aj (dv 9) au))))))))) (aK (aX (dv 5))))))))
theorem Jw(T:HX K mg):dX P w K mg base 1 "is_line" 1 oY:=
  fV (k:=0) (g:=Jd) T.zp RV rfl rfl fun cdv A outer s H E hr=>(by
    obtain⟨abp,Oo⟩:=T.uo
    exact (aK (aX (lE (mY (ans:=gj) T.lB (dv 0) rfl T.dH aeG rfl T.fJ aep) (oF (u6 nR nR aL (aU cB rfl T.cL PySem.boot_len (aj (dv 0) au)) (jL rfl Oo)))))))
theorem qy(T:HX K mg):dX P w K mg base 1 "is_whole" 1 jM:=
 fV (k:=0) (g:=El) T.wk Oj rfl rfl λcdv A outer s H E hr=>(aK (aX (lE (mY (ans:=zT) T.Fy (dv 0) rfl T.dH aeG rfl T.R6 boot_int) (oF (aad (mY (ans:=vg) T.zf (dv 0) rfl T.dH aeG rfl T.MJ boot_bool))))))
theorem VF(T:HX K mg):dX P w K mg base 2 "is_cell" 1 yu:=
  fV (k:=1) (g:=Je) T.zq RW rfl rfl fun cdv A outer s H E hr=>(by
    obtain⟨abq,Oq⟩:=T.um
    exact (aK (aX (lE (aZ (qy T) hr (by decide) (aj (dv 0) au)) (oF (u6 nR nR aL (dv 0) (jL rfl Oq)))))))
theorem Xw(T:HX K mg):dX P w K mg base 3 "is_row" 1 Cg:=
 fV (k:=2) (g:=Lq) T.CJ Vz rfl rfl λcdv A outer s H E hr=>(aK (aX (lE (aZ (Jw T) hr (by decide) (aj (dv 0) au)) (oF (aU (oH rfl) rfl T.oh af6 (aj (bY ["cell"] [] rfl (by kernel_rfl) (by kernel_rfl) (fQ (dv 0)) (bf (by decide)) (λ_ _ _ _ nd=>bB 0 nd) (λ_ _ _ _=>bW) (λ_ _ _ _=>(aZ (VF T) hr (by decide) (aj (dv 0) au)))) au))))))
theorem M9(T:HX K mg):dX P w K mg base 4 "is_picture" 1 q8:=
 fV (k:=3) (g:=yw) T.rQ JG rfl rfl λcdv A outer s H E hr=>(aD (cG (DW.dt (sE (gB (jd (aZ (Jw T) hr (by decide) (aj (dv 0) au)))) (qM (gB (jd (aU (oH rfl) rfl T.oh af6 (aj (bY ["row"] [] rfl (by kernel_rfl) (by kernel_rfl) (fQ (dv 0)) (bf (by decide)) (λ_ _ _ _ nd=>bB 0 nd) (λ_ _ _ _=>bW) (λ_ _ _ _=>(aZ (Xw T) hr (by decide) (aj (dv 0) au)))) au))))))) (aK (aX kh)) bL) (aK (aX (aU (oH rfl) rfl T.oh af6 (aj (bY ["row"] [0] rfl (by kernel_rfl) (by kernel_rfl) (fQ (dv 0)) (bf (by decide)) (λ_ _ _ _ nd=>bB 0 nd) (λ_ _ _ _=>bW) (λ_ _ _ _=>(qJ (lJ (cV hr)) (aU cB rfl T.cL PySem.boot_len (aj (dv 0) au)) (aU cB rfl T.cL PySem.boot_len (aj (bJ (dv 1) aL) au))))) au)))))
theorem iT(T:HX K mg):dX P w K mg base 5 "need_picture" 1 d9:=
 fV (k:=4) (g:=uM) T.nO Fq rfl rfl λcdv A outer s H E hr=>(aK (cG (gB (jd (aZ (M9 T) hr (by decide) (aj (dv 0) au)))) (aK vf) bL))
theorem lC(T:HX K mg):dX P w K mg base 6 "size_of" 1 iu:=
 fV (k:=5) (g:=Jf) T.zu RX rfl rfl λcdv A outer s H E hr=>(aD (fC (aZ (iT T) hr (by decide) (aj (dv 0) au))) (aK (aX (cI (aj (aU cB rfl T.cL PySem.boot_len (aj (bJ (dv 0) aL) au)) (aj (aU cB rfl T.cL PySem.boot_len (aj (dv 0) au)) au))))))
theorem kO(T:HX K mg):dX P w K mg base 7 "turned" 1 iG:=
 fV (k:=6) (g:=Lr) T.CK Ju rfl rfl λcdv A outer s H E hr=>(aD (fD 1 2 rfl Ju.nd (aZ (lC T) hr (by decide) (aj (dv 0) au))) (aK (aX (jw jz rfl T.fJ aep (aj (bY ["x"] [2,0] rfl (by kernel_rfl) (by kernel_rfl) (gY rfl T.eE (aj (dv 1) au)) (bf (by decide)) (λ_ _ _ _ nd=>bB 0 nd) (λ_ _ _ _=>bW) (λ_ _ _ _=>(jw jz rfl T.fJ aep (aj (bY ["y"] [2,0] rfl (by kernel_rfl) (by kernel_rfl) (gY rfl T.eE (aj (dv 1) au)) (bf (by decide)) (λ_ _ _ _ nd=>bB 0 nd) (λ_ _ _ _=>bW) (λ_ _ _ _=>(bJ (bJ (dv 1) (dv 0)) (dv 2)))) au)))) au)))))
theorem Xx(T:HX K mg):dX P w K mg base 8 "worths" 1 Ci:=
 fV (k:=7) (g:=Ls) T.CN tE rfl rfl λcdv A outer s H E hr=>(aD (fD 1 2 rfl tE.nd (aZ (lC T) hr (by decide) (aj (dv 0) au))) (aD (bD 3 tE.nd (bY ["row"] [] rfl (by kernel_rfl) (by kernel_rfl) (fQ (dv 0)) (bf (by decide)) (λ_ _ _ _ nd=>bB 0 nd) (λ_ _ _ _=>bW) (λ_ _ _ _=>(aZ (M7 T) hr (by decide) (aj (dv 0) au))))) (aD (bD 4 tE.nd (bY ["column"] [] rfl (by kernel_rfl) (by kernel_rfl) (fQ (aZ (kO T) hr (by decide) (aj (dv 0) au))) (bf (by decide)) (λ_ _ _ _ nd=>bB 0 nd) (λ_ _ _ _=>bW) (λ_ _ _ _=>(aZ (M7 T) hr (by decide) (aj (dv 0) au))))) (aK (aX (jw jz rfl T.fJ aep (aj (bY ["y"] [3,4,1] rfl (by kernel_rfl) (by kernel_rfl) (gY rfl T.eE (aj (dv 2) au)) (bf (by decide)) (λ_ _ _ _ nd=>bB 0 nd) (λ_ _ _ _=>bW) (λ_ _ _ _=>(jw jz rfl T.fJ aep (aj (bY ["x"] [1,2,0] rfl (by kernel_rfl) (by kernel_rfl) (gY rfl T.eE (aj (dv 3) au)) (bf (by decide)) (λ_ _ _ _ nd=>bB 0 nd) (λ_ _ _ _=>bW) (λ_ _ _ _=>(aP d7 (bJ (bJ (dv 1) (dv 3)) (dv 0)) (bJ (bJ (dv 2) (dv 0)) (dv 3))))) au)))) au)))))))
theorem HN(T:HX K mg):dX P w K mg base 9 "fares" 2 nu:=
 fV (k:=8) (g:=Qj) T.Hz Xv rfl rfl λcdv A outer s H E hr=>(aD (cG (bO (lJ (cV hr)) (dv 1) dg) (aK (aX (bY ["row"] [] rfl (by kernel_rfl) (by kernel_rfl) (fQ (aZ (Xx T) hr (by decide) (aj (dv 0) au))) (bf (by decide)) (λ_ _ _ _ nd=>bB 0 nd) (λ_ _ _ _=>bW) (λ_ _ _ _=>(bY ["worth"] [] rfl (by kernel_rfl) (by kernel_rfl) (fQ (dv 0)) (bf (by decide)) (λ_ _ _ _ nd=>bB 0 nd) (λ_ _ _ _=>bW) (λ_ _ _ _=>(cI (aj (dv 0) (aj (dv 0) (aj (dv 0) au)))))))))) bL) (aK (aX (bY ["y"] [0] rfl (by kernel_rfl) (by kernel_rfl) (gY rfl T.eE (aj (aU cB rfl T.cL PySem.boot_len (aj (dv 0) au)) au)) (bf (by decide)) (λ_ _ _ _ nd=>bB 0 nd) (λ_ _ _ _=>bW) (λ_ _ _ _=>(aZ (M8 T) hr (by decide) (aj (dv 1) (aj (dv 0) au))))))))
theorem tK(T:HX K mg):dX P w K mg base 1 "fare_of" 3 gk:=
 fV (k:=0) (g:=Jg) T.zx RZ rfl rfl λcdv A outer s H E hr=>(aK (aX (bJ (bJ (dv 0) (dv 2)) (aP d7 (aP cM (dv 1) (dv 2)) aL))))
theorem abb(T:HX K mg):dX P w K mg base 1 "near" 2 Lw:=
 fV (k:=0) (g:=U4) T.MP ZS rfl rfl λcdv A outer s H E hr=>(aK (aX (WX rfl rfl T.MK rfl T.eE (aj (aU (Du rfl) rfl T.Ah boot_max (aj (aP cM (dv 0) aL) (aj aL au))) (aj (aU (xP rfl) rfl T.tH ahl (aj (aP d7 (dv 0) aL) (aj (dv 1) au))) au)))))
theorem CW(T:HX K mg):dX P w K mg base 2 "onward" 3 vH:=
 fV (k:=1) (g:=Ly) T.CP oZ rfl rfl λcdv A outer s H E hr=>(aD (mW 3 oZ.nd au) (aD (jU ad3 rfl (fQ (aZ (abb T) hr (by decide) (aj (dv 2) (aj (aU cB rfl T.cL PySem.boot_len (aj (dv 0) au)) au)))) (mV 4 oZ.nd) (aD (bD 5 oZ.nd (aZ (tK T) hr (by decide) (aj (dv 1) (aj (dv 2) (aj (dv 4) au))))) (aK (Qd 3 oZ.nd (bY ["less","cost","rest"] [5] rfl (by kernel_rfl) (by kernel_rfl) (fQ (bJ (dv 0) (dv 4))) (iW (bQ (bf (by decide)) (bQ (bf (by decide)) (bQ (bf (by decide)) iV)))) (λ_ _ _ _ nd=>oG rfl (cC (bB 0 nd) (cC (bB 1 nd) (cC (bB 2 nd) kY)))) (λ_ _ _ _=>bW) (λ_ _ _ _=>(cI (aj (dv 0) (aj (aP d7 (dv 1) (dv 3)) (aj (dv 2) au)))))))))) (aK (aX (dv 3)))))
theorem Xy{A:acO}{s:acC}{H:Hp}{E:XK}(T:Txt K mg)(CW:dX P w K mg base 2 "onward" 3 vH){aG:Nat}{GG:List D->R D}(hG:xY P w K mg base 1 GG 2 aG H)(hr:Room 2 (A.deeper (aeb "swept" (defScope qH) s.heap.objs.size f cdv))):jg (cxOf CX0 P w K mg base ["table","marks","start","gather","rows","y","row","x","mark","told","lost"] "swept" (defScope qH) f cdv A outer s H E).nox (defBody qH) (Hh aG GG):=by
 obtain⟨abd,Nb⟩:=T.Fx;obtain⟨acs,abe⟩:=T.MF;exact (aD (mW 4 jc.nd au) (aD (jU ad3 rfl (Y6 rfl T.wg rfl T.eE (aj (aU cB rfl T.cL PySem.boot_len (aj (dv 1) au)) au)) (mV 5 jc.nd) (aD (mW 6 jc.nd au) (aD (jU ad3 rfl (GX rfl T.iI (aj (bJ (dv 1) (dv 5)) au)) (zR 7 8 rfl jc.nd) (aD (cG (bO (lJ (cV hr)) (dv 8) (jL rfl abe)) (aK (bD 9 jc.nd (xG au))) (aK (cG (gB (Uo (dv 4))) (aK (bD 9 jc.nd (K4 3 hG hr (by decide) (aj (dv 7) (aj (xG (aj (cI (aj aL (aj aL (aj (dv 2) au)))) au)) au))))) (aK (bD 9 jc.nd (K4 3 hG hr (by decide) (aj (dv 7) (aj (aZ CW hr (by decide) (aj (aaD 4 (aap aL)) (aj (bJ (dv 0) (aP d7 (dv 5) aL)) (aj (dv 7) au)))) au)))))))) (aD (bD 10 jc.nd (Q6 (bO (lJ (cV hr)) (dv 8) (jL rfl Nb)) aL aL)) (aK (uJ 6 (bY ["less","cost","rest"] [10] rfl (by kernel_rfl) (by kernel_rfl) (fQ (dv 9)) (iW (bQ (bf (by decide)) (bQ (bf (by decide)) (bQ (bf (by decide)) iV)))) (λ_ _ _ _ nd=>oG rfl (cC (bB 0 nd) (cC (bB 1 nd) (cC (bB 2 nd) kY)))) (λ_ _ _ _=>bW) (λ_ _ _ _=>(cI (aj (aP cM (dv 0) (dv 3)) (aj (dv 1) (aj (dv 2) au))))))))))) (aK (Y4 4 6 (by decide)))))) (aK (aX (Y0 (dv 4))))))
theorem HS(T:HX K mg):FnS P w K mg base 3 "swept" 1 3 2 uN:=by
 obtain⟨f,fd,Fn,hmg,hb⟩:=T.HD;exact⟨f,fd,["table","marks","start","gather"],fnS (k:=2) (m:=7) (g:=Hh) Fn jc rfl rfl λcdv A outer s H E a G hr hG=>Xy T.toTxt (CW T) hG hr,hmg,Fn.kp,hb⟩
theorem Nf{cc TP:acA}{A:acO}{s:acC}{H:Hp}{E:XK}(T:Txt K mg)(HS:FnS P w K mg base 3 "swept" 1 3 2 uN)(hB:nW base mg cc TP)(hT:Tb [(TP,"best_ways.<locals>.first_ones")] H)(hr:Room 3 (A.deeper (aeb "best_ways" (defScope iH) s.heap.objs.size f (.ref cc)))):jg (cxOf CX0 P w K mg base ["table","marks","many","first_ones"] "best_ways" (defScope iH) f (.ref cc) A outer s H E).nox (defBody iH) tV:=by
 obtain⟨fS,K5,Iw,Sw,hm,hk,hb⟩:=HS;exact WT (c:=s.heap.objs.size+1) (y:= "many") 3 2 yV.nd hB hT rfl Sw (hr.mono (by decide)) hm hk hb (HJ T ) (dv 0) (dv 1) (cI au) rfl rfl rfl rfl (by decide) (.inl rfl)
theorem Ot(T:HB K mg base cN TP):mj P w K mg base 4 "best_ways" 3 tW ["table","marks","many"] (tz TP):=by
 obtain⟨f,fd,Fn,hmg,hb⟩:=T.uq;refine⟨fd,⟨f,X8 (k:=3) (m:=1) (g:=tV) Fn yV rfl rfl λcdv A outer s H E hcd hr hT=>?_,hmg,Fn.kp⟩,hb⟩;have e:fd.code= .ref cN:=by
  obtain⟨oc,od,kV,doc,pm,an,acy,ct,osl,e1,lk,_⟩:=Fn.ex;exact T.hC f oc od fd osl hmg lk
 cases hcd.symm.trans e;exact Nf T.toHX.toTxt (HS T.toHX) T.hB hT hr
theorem Sd(T:HX K mg):dX P w K mg base 2 "from_top" 2 vI:=
 fV (k:=1) (g:=Em) T.wu j7 rfl rfl λcdv A outer s H E hr=>(aD (mW 2 j7.nd au) (aD (jU ad3 rfl (GX rfl T.iI (aj (bJ (dv 1) aL) au)) (zR 3 4 rfl j7.nd) (aD (bD 5 j7.nd (aZ (tK T) hr (by decide) (aj (bJ (dv 0) aL) (aj (dv 3) (aj (dv 3) au))))) (aK (Qd 2 j7.nd (bY ["less","cost","rest"] [5] rfl (by kernel_rfl) (by kernel_rfl) (fQ (dv 4)) (iW (bQ (bf (by decide)) (bQ (bf (by decide)) (bQ (bf (by decide)) iV)))) (λ_ _ _ _ nd=>oG rfl (cC (bB 0 nd) (cC (bB 1 nd) (cC (bB 2 nd) kY)))) (λ_ _ _ _=>bW) (λ_ _ _ _=>(cI (aj (dv 0) (aj (aP d7 (dv 1) (dv 3)) (aj (dv 2) au)))))))))) (aK (aX (dv 2)))))
theorem JQ(T:HB K mg base cN TP):mj P w K mg base 5 "first_seams" 3 pG ["table","marks","many"] (tz TP):=
 yP (k:=4) (m:=0) (g:=wJ) T.pR Hv rfl rfl λcdv A outer s H E _ hr hT=>((aK (aX (Iz (aU (Ld (Lf hr)) rfl T.rO boot_sorted (aj (aZ (Sd T.toHX) hr (by decide) (aj (dv 0) (aj (dJ (Ot T) hT hr (by decide) (aj (dv 0) (aj (dv 1) (aj (dv 2) au)))) au))) au)) qU (qW (dv 2))))))
theorem Bg(T:HB K mg base cN TP):mj P w K mg base 6 "least_way" 2 jX ["table","marks"] (tz TP):=
 yP (k:=5) (m:=4) (g:=Aq) T.ur rG rfl rfl λcdv A outer s H E _ hr hT=>((aD (bD 2 rG.nd (dJ (JQ T) hT hr (by decide) (aj (dv 0) (aj (dv 1) (aj aL au))))) (aD (cG (gB (Uo (dv 2))) (aK (aX lD)) bL) (aD (Qe 3 4 5 rfl rG.nd (bJ (dv 2) aL)) (aK (aX (cI (aj (dv 4) (aj (dv 5) au)))))))))
theorem Jx(T:HX K mg):dX P w K mg base 1 "without" 2 sX:=
 fV (k:=0) (g:=Jh) T.zy R0 rfl rfl λcdv A outer s H E hr=>(aK (aX (jw jz rfl T.fJ aep (aj (bY ["row","place"] [] rfl (by kernel_rfl) (by kernel_rfl) (Py rfl T.Ka (aj (dv 0) (aj (dv 1) au))) (iW (bQ (bf (by decide)) (bQ (bf (by decide)) iV))) (λ_ _ _ _ nd=>oG rfl (cC (bB 0 nd) (cC (bB 1 nd) kY))) (λ_ _ _ _=>bW) (λ_ _ _ _=>(aP d7 (KH (dv 0) qU (qW (dv 1))) (KH (dv 0) (qW (aP d7 (dv 1) aL)) qU)))) au))))
theorem QT(T:HB K mg base cN TP):mj P w K mg base 10 "taken" 4 uO ["picture","many","manner","marks"] (tz TP):=
 yP (k:=9) (m:=7) (g:=Qk) T.HF jH rfl rfl λcdv A outer s H E _ hr hT=>((aD (TX 4 5 rfl jH.nd (dv 0) (dv 3)) (aD (mW 6 jH.nd au) (aD (bD 7 jH.nd aL) (aD (Kl 64 ad3 (bO uZ (aU cB rfl T.cL PySem.boot_len (aj (dv 6) au)) (dv 1)) (aD (bD 8 jH.nd (dJ (Bg T) hT hr (by decide) (aj (aZ (HN T.toHX) hr (by decide) (aj (dv 4) (aj (dv 2) au))) (aj (dv 5) au)))) (aD (cG (bO J3 (dv 8) lD) (aK (aX lD)) bL) (aD (fD 9 10 rfl jH.nd (dv 8)) (aD (uJ 6 (cI (aj (dv 10) (aj (aZ (JN T.toHX) hr (by decide) (aj (dv 4) (aj (dv 10) au))) au)))) (aD (Ud 7 jH.nd (dv 9)) (aK (TX 4 5 rfl jH.nd (aZ (Jx T.toHX) hr (by decide) (aj (dv 4) (aj (dv 10) au))) (aZ (Jx T.toHX) hr (by decide) (aj (dv 5) (aj (dv 10) au))))))))))) (aK (aX (cI (aj (dv 4) (aj (dv 6) (aj (dv 7) au)))))))))))
theorem uz(T:HB K mg base cN TP):mj P w K mg base 11 "by_column" 2 jY ["picture","manner"] (tz TP):=
 yP (k:=10) (m:=3) (g:=Ar) T.uw yX rfl rfl λcdv A outer s H E _ hr hT=>((aD (Qe 2 3 4 rfl yX.nd (dJ (QT T) hT hr (by decide) (aj (dv 0) (aj aL (aj (dv 1) (aj (aZ (FN T.toHX) hr (by decide) (aj (dv 0) au)) au)))))) (aK (aX (cI (aj (dv 4) (aj (dv 2) au)))))))
theorem Ng(T:HB K mg base cN TP):mj P w K mg base 12 "by_row" 2 vJ ["picture","manner"] (tz TP):=
 yP (k:=11) (m:=2) (g:=Lz) T.CQ Jv rfl rfl λcdv A outer s H E _ hr hT=>((aD (fD 2 3 rfl Jv.nd (dJ (uz T) hT hr (by decide) (aj (aZ (kO T.toHX) hr (by decide) (aj (dv 0) au)) (aj (dv 1) au)))) (aK (aX (cI (aj (dv 2) (aj (aZ (kO T.toHX) hr (by decide) (aj (dv 3) au)) au)))))))
theorem Sg(T:HX K mg):dX P w K mg base 1 "is_order" 2 qe:=
 fV (k:=0) (g:=En) T.wz Ol rfl rfl λcdv A outer s H E hr=>(aD (cG (DW.dt (sE (gB (jd (mY (ans:=zU) T.FJ (dv 0) rfl T.dH aeG rfl T.R7 boot_str))) (qM (gB (jd (aU (oH rfl) rfl T.oh af6 (aj (bY ["sign"] [] rfl (by kernel_rfl) (by kernel_rfl) (Qg (dv 0)) (bf (by decide)) (λ_ _ _ _ nd=>bB 0 nd) (λ_ _ _ _=>bW) (λ_ _ _ _=>(qJ aby (dv 0) (cI (aj dg (aj dg au))) (by rfl)))) au))))))) (aK (aX kh)) bL) (aK (aX (lE (qJ uZ (sV (dv 0) dg) (aU cB rfl T.cL PySem.boot_len (aj (bJ (dv 1) aL) au))) (oF (qJ uZ (sV (dv 0) dg) (aU cB rfl T.cL PySem.boot_len (aj (dv 1) au))))))))
theorem jj(T:HX K mg):dX P w K mg base 1 "need_manner" 1 fL:=
 fV (k:=0) (g:=wK) T.pU Hx rfl rfl λcdv A outer s H E hr=>(aK (cG (bO Wi (dv 0) (YL (ss:=["worth","joins"]) rfl T.zc) (by rfl)) (aK vf) bL))
theorem f9(T:HB K mg base cN TP):∃fd,Ca P w K mg base 13 "by_order" 3 iw fd ["picture","text","manner"] (tz TP)∧KB K fd ["picture","text","manner"] ["manner"] [.inl 0]:=by
  obtain⟨f,fd,Fn,hmg,B⟩:=T.R8
  exact⟨fd,⟨f,Lg (k:=12) (m:=3) (g:=Eo) Fn nY rfl rfl fun cdv A outer s H E hr hT=>((by
    obtain⟨eZ,zj⟩:=T.zj
    exact (aD (fC (aZ (iT T.toHX) hr (by decide) (aj (dv 0) au))) (aD (fC (aZ (jj T.toHX) hr (by decide) (aj (dv 2) au))) (aD (cG (gB (jd (aZ (Sg T.toHX) hr (by decide) (aj (dv 1) (aj (dv 0) au))))) (aK (WD rfl zj (aj dg au) (fun _=>⟨_,rfl,by decide⟩))) bL) (aD (bD 3 nY.nd (dv 0)) (aD (jU PassesOwn.leaving rfl (Qg (dv 1)) (mV 4 nY.nd) (aK (fD 5 3 rfl nY.nd (Q6 (bO (lJ (cV hr)) (dv 4) dg) (dJ (uz T) hT hr (by decide) (aj (dv 3) (aj (dv 2) au))) (dJ (Ng T) hT hr (by decide) (aj (dv 3) (aj (dv 2) au))))))) (aK (aX (dv 3)))))))))),hmg,Fn.kp⟩,B⟩
theorem Xz(T:HX K mg):dX P w K mg base 2 "is_way" 3 Cj:=
 fV (k:=1) (g:=LC) T.CV VB rfl rfl λcdv A outer s H E hr=>(aD (cG (DW.dt (sE (gB (jd (mY (ans:=gj) T.lB (dv 0) rfl T.dH aeG rfl T.fJ aep))) (qM (bO (lK (cV hr)) (aU cB rfl T.cL PySem.boot_len (aj (dv 0) au)) (dv 2))))) (aK (aX kh)) bL) (aD (cG (gB (jd (aU (oH rfl) rfl T.oh af6 (aj (bY ["place"] [1] rfl (by kernel_rfl) (by kernel_rfl) (fQ (dv 0)) (bf (by decide)) (λ_ _ _ _ nd=>bB 0 nd) (λ_ _ _ _=>bW) (λ_ _ _ _=>(lE (aZ (qy T) hr (by decide) (aj (dv 0) au)) (oF (u6 nR uZ aL (dv 0) (dv 1)))))) au)))) (aK (aX kh)) bL) (aK (aX (aU (oH rfl) rfl T.oh af6 (aj (bY ["y"] [0] rfl (by kernel_rfl) (by kernel_rfl) (Ie rfl T.eE (aj aL (aj (dv 2) au))) (bf (by decide)) (λ_ _ _ _ nd=>bB 0 nd) (λ_ _ _ _=>bW) (λ_ _ _ _=>(qJ nR (aU Dt rfl T.Ag boot_abs (aj (aP cM (bJ (dv 1) (dv 0)) (bJ (dv 1) (aP cM (dv 0) aL))) au)) aL))) au))))))
theorem VG(T:HX K mg):dX P w K mg base 7 "is_seam" 2 yC:=
 fV (k:=6) (g:=Ji) T.zA Ft rfl rfl λcdv A outer s H E hr=>(aD (fD 2 3 rfl Ft.nd (aZ (lC T) hr (by decide) (aj (dv 1) au))) (aK (aX (aZ (Xz T) hr (by decide) (aj (dv 0) (aj (dv 2) (aj (dv 3) au)))))))
theorem Ou(T:HX K mg):dX P w K mg base 8 "need_seam" 2 tX:=
 fV (k:=7) (g:=Av) T.ux Mz rfl rfl λcdv A outer s H E hr=>(aK (cG (gB (jd (aZ (VG T) hr (by decide) (aj (dv 0) (aj (dv 1) au))))) (aK vf) bL))
theorem Sh(T:HX K mg):dX P w K mg base 2 "way_cost" 2 vK:=
 fV (k:=1) (g:=Ep) T.wA nZ rfl rfl λcdv A outer s H E hr=>(aD (bD 2 nZ.nd (aZ (tK T) hr (by decide) (aj (bJ (dv 0) aL) (aj (bJ (dv 1) aL) (aj (bJ (dv 1) aL) au))))) (aD (jU ad3 rfl (Ie rfl T.eE (aj aL (aj (aU cB rfl T.cL PySem.boot_len (aj (dv 1) au)) au))) (mV 3 nZ.nd) (aK (Ud 2 nZ.nd (aZ (tK T) hr (by decide) (aj (bJ (dv 0) (dv 3)) (aj (bJ (dv 1) (aP cM (dv 3) aL)) (aj (bJ (dv 1) (dv 3)) au))))))) (aK (aX (dv 2)))))
theorem zE(T:HX K mg):∃fd,FnE P w K mg base 10 "cost_of" 3 sY fd ["picture","seam","manner"]/\KB K fd ["picture","seam","manner"] ["manner"] [.inl 0]:=by
 obtain⟨f,fd,Fn,hmg,B⟩:=T.VD;exact⟨fd,aar (k:=9) (g:=Jj) Fn hmg R4 rfl rfl λcdv A outer s H E hr=>((aD (fC (aZ (iT T) hr (by decide) (aj (dv 0) au))) (aD (fC (aZ (jj T) hr (by decide) (aj (dv 2) au))) (aD (fC (aZ (Ou T) hr (by decide) (aj (dv 1) (aj (dv 0) au)))) (aK (aX (aZ (Sh T) hr (by decide) (aj (aZ (HN T) hr (by decide) (aj (dv 0) (aj (dv 2) au))) (aj (dv 1) au))))))))),B⟩
theorem VH(T:HX K mg):dX P w K mg base 2 "is_mark" 1 Jl:=
  fV (k:=1) (g:=Jk) T.zB R5 rfl rfl fun cdv A outer s H E hr=>(by
    obtain⟨aa9,M6⟩:=T.Fw
    obtain⟨abd,Nb⟩:=T.Fx
    exact (aK (aX (lE (aZ (qy T) hr (by decide) (aj (dv 0) au)) (oF (u6 nR nR (jL rfl M6) (dv 0) (jL rfl Nb)))))))
theorem HW(T:HX K mg):dX P w K mg base 3 "is_marks_row" 2 uQ:=
 fV (k:=2) (g:=uP) T.nP Fv rfl rfl λcdv A outer s H E hr=>(aK (aX (lE (mY (ans:=gj) T.lB (dv 0) rfl T.dH aeG rfl T.fJ aep) (lE (qJ (lJ (cV hr)) (aU cB rfl T.cL PySem.boot_len (aj (dv 0) au)) (dv 1)) (oF (aU (oH rfl) rfl T.oh af6 (aj (bY ["mark"] [] rfl (by kernel_rfl) (by kernel_rfl) (fQ (dv 0)) (bf (by decide)) (λ_ _ _ _ nd=>bB 0 nd) (λ_ _ _ _=>bW) (λ_ _ _ _=>(aZ (VH T) hr (by decide) (aj (dv 0) au)))) au)))))))
theorem Ss(T:HX K mg):dX P w K mg base 4 "is_marks" 2 Es:=
 fV (k:=3) (g:=Er) T.wB Om rfl rfl λcdv A outer s H E hr=>(aD (cG (DW.dt (sE (gB (jd (mY (ans:=gj) T.lB (dv 0) rfl T.dH aeG rfl T.fJ aep))) (qM (bO (lK (cV hr)) (aU cB rfl T.cL PySem.boot_len (aj (dv 0) au)) (aU cB rfl T.cL PySem.boot_len (aj (dv 1) au)))))) (aK (aX kh)) bL) (aK (aX (aU (oH rfl) rfl T.oh af6 (aj (bY ["row"] [1] rfl (by kernel_rfl) (by kernel_rfl) (fQ (dv 0)) (bf (by decide)) (λ_ _ _ _ nd=>bB 0 nd) (λ_ _ _ _=>bW) (λ_ _ _ _=>(aZ (HW T) hr (by decide) (aj (dv 0) (aj (aU cB rfl T.cL PySem.boot_len (aj (bJ (dv 1) aL) au)) au))))) au)))))
theorem zF(T:HX K mg):dX P w K mg base 5 "full_marks" 2 gF:=
 fV (k:=4) (g:=yD) T.rR JH rfl rfl λcdv A outer s H E hr=>(aD (cG (bO J3 (dv 0) lD) (aK (aX (aZ (FN T) hr (by decide) (aj (dv 1) au)))) bL) (aD (cG (gB (jd (aZ (Ss T) hr (by decide) (aj (dv 0) (aj (dv 1) au))))) (aK vf) bL) (aK (aX (dv 0)))))
theorem Sv(T:HX K mg):dX P w K mg base 10 "laid_out" 3 vL:=
 fV (k:=9) (g:=Et) T.wC Bc rfl rfl λcdv A outer s H E hr=>(aD (fC (aZ (iT T) hr (by decide) (aj (dv 0) au))) (aD (fC (aZ (jj T) hr (by decide) (aj (dv 1) au))) (aD (bD 3 Bc.nd (aZ (zF T) hr (by decide) (aj (dv 2) (aj (dv 0) au)))) (aK (aX (cI (aj (aZ (HN T) hr (by decide) (aj (dv 0) (aj (dv 1) au))) (aj (dv 3) au))))))))
theorem rZ(T:HB K mg base cN TP):∃fd,K3 P w K mg base 11 "least_seam" 3 lW fd ["picture","manner","marks"] (tz TP)/\KB K fd ["picture","manner","marks"] ["manner"] [.inl 0,.inr .none]:=by
 obtain⟨f,fd,Fn,hmg,B⟩:=T.M4;exact⟨fd,⟨f,X8 (k:=10) (m:=3) (g:=yE) Fn pO rfl rfl λcdv A outer s H E _ hr hT=>((aD (fD 3 4 rfl pO.nd (aZ (Sv T.toHX) hr (by decide) (aj (dv 0) (aj (dv 1) (aj (dv 2) au))))) (aD (bD 5 pO.nd (dJ (Bg T) hT hr (by decide) (aj (dv 3) (aj (dv 4) au)))) (aD (cG (bO J3 (dv 5) lD) (aK (aX lD)) bL) (aK (aX (bJ (dv 5) aL))))))),hmg,Fn.kp⟩,B⟩
theorem zG(T:HB K mg base cN TP):mj P w K mg base 14 "_law_costs" 3 lX ["_law_picture_here","_law_text","_law_mode"] (tz TP):=
  yP (k:=13) (m:=5) (g:=yF) T.rT gW rfl rfl fun cdv A outer s H E _ hr hT=>((by
    obtain⟨Ov,f9,cY⟩:=f9 T
    obtain⟨abT,zE,j9⟩:=zE T.toHX
    obtain⟨Z6,rZ,iU⟩:=rZ T
    exact (aD (bD 3 gW.nd aL) (aD (jU ad3 rfl (Ln rfl T.iI (aj (dv 1) au)) (zR 4 5 rfl gW.nd) (aD (bD 6 gW.nd (jo (ks:=["manner"]) (.at 0 .nil) f9 hT hr (by decide) cY (aj (dv 0) (aj (UJ (dv 1) qU (qW (dv 4))) au)) (gU (dv 2) jh))) (aD (bD 7 gW.nd (Q6 (bO (lJ (cV hr)) (dv 5) dg) (dv 6) (aZ (kO T.toHX) hr (by decide) (aj (dv 6) au)))) (aK (bD 3 gW.nd (aP d7 (dv 3) (aaq (ks:=["manner"]) (.at 0 .nil) zE hr (by decide) j9 (aj (dv 7) (aj (YT (ks:=["manner"]) (.at 0 (.non .nil)) rZ hT hr (by decide) iU (aj (dv 7) au) (gU (dv 2) jh)) au)) (gU (dv 2) jh)))))))) (aK (aX (dv 3)))))))
theorem fj(T:HX K mg):dX P w K mg base 1 "_law_drawn" 3 cR:=
 fV (k:=0) (g:=yG) T.rW cU rfl rfl λcdv A outer s H E hr=>(aD (bD 3 cU.nd (aP oA aL (dv 1))) (aD (cG (bO (lK (cV hr)) (dv 0) (xG au)) (aD (bD 3 cU.nd (bJ (dv 0) (aP oE (dv 1) (aU cB rfl T.cL PySem.boot_len (aj (dv 0) au))))) (aD (bD 4 cU.nd (aP qL (dv 1) (aU cB rfl T.cL PySem.boot_len (aj (dv 0) au)))) (aD (cG (DW.dt (Df (bO abu (dv 3) (aP Tp aL aL)) (zN (bO uZ (dv 4) aL)))) (aD (bD 5 cU.nd (aP qL (dv 3) (aP Tp aL aL))) (aD (Kl 64 ad3 (DW.dt (Df (bO Dc (dv 5) aL) (zN (bO Dc (dv 4) aL)))) (aD (bD 5 cU.nd (aP qL (dv 5) aL)) (aK (bD 4 cU.nd (aP cM (dv 4) aL))))) (aK (cG (bO Dc (dv 5) aL) (aK (aX (aP oE (aP oE (dv 5) aL) (dv 2)))) bL)))) bL) (aK (bD 3 cU.nd (aP oU (dv 3) (aP oA aL (aP qL (dv 1) (aU cB rfl T.cL PySem.boot_len (aj (dv 0) au)))))))))) bL) (aD (bD 3 cU.nd (aP oE (aP oU (aP oA (aP oE (dv 3) aL) aL) (aP oA aL (aP oU (dv 1) aL))) aL)) (aD (bD 3 cU.nd (aP oE (aP oU (aP oA (dv 3) (dv 3)) (aP qL (dv 3) aL)) aL)) (aK (aX (aP oE (aP qL (aP oE (aP oU (aP oA (dv 3) (dv 3)) (aP qL (dv 3) aL)) aL) aL) (dv 2))))))))
theorem JR(T:HX K mg):dX P w K mg base 2 "_law_manner" 2 pH:=
 fV (k:=1) (g:=wL) T.pW Hy rfl rfl λcdv A outer s H E hr=>(aK (aX (bJ (xG (aj dg (aj dg au))) (aZ (fj T) hr (by decide) (aj (dv 0) (aj (dv 1) (aj aL au)))))))
theorem HY(T:HX K mg):dX P w K mg base 2 "_law_picture" 4 jN:=
 fV (k:=1) (g:=uR) T.nQ mq rfl rfl λcdv A outer s H E hr=>(aD (Yz 4 5 rfl mq.nd (bJ (xG (aj aL (aj aL (aj aL (aj aL au))))) (aZ (fj T) hr (by decide) (aj (dv 0) (aj (dv 1) (aj aL au))))) au) (aD (jU ad3 rfl (gY rfl T.eE (aj (dv 3) au)) (mV 6 mq.nd) (aK (uJ 5 (jw jz rfl T.fJ aep (aj (bY ["_law_x"] [1,2,4,0,6] rfl (by kernel_rfl) (by kernel_rfl) (gY rfl T.eE (aj (dv 2) au)) (bf (by decide)) (λ_ _ _ _ nd=>bB 0 nd) (λ_ _ _ _=>bW) (λ_ _ _ _=>(aZ (fj T) hr (by decide) (aj (dv 4) (aj (aP oU (aP oU (aP oU (dv 1) aL) (aP oA (dv 2) (dv 5))) (dv 0)) (aj (dv 3) au)))))) au))))) (aK (aX (jw jz rfl T.fJ aep (aj (dv 5) au))))))
theorem uD(T:HB K mg base cN TP):∀j:Nat,mj P w K mg base (13+j) "best_from" 4 (cT j) ["picture","down","across","manner"] (tz TP)
 |0=>yP (k:=12) (m:=5) (g:=λ_=> .bad) T.ou gG rfl rfl λcdv A outer s H E _ hr hT=>Zm
 | j+1=>yP (k:=13+j) (m:=5) (g:=Aw (cT j)) T.ou gG rfl rfl λcdv A outer s H E _ hr0 hT=>
  have hr:Room 12 _:=hr0.mono (by omega)
  ((aD (cG (DW.dt (Df (bO (lJ (cV hr)) (dv 1) aL) (zN (bO (lJ (cV hr)) (dv 2) aL)))) (aK (aX (cI (aj aL (aj dg au))))) bL) (aD (mW 4 gG.nd au) (aD (cG (bO Dc (dv 2) aL) (aD (fD 5 6 rfl gG.nd (dJ (uz T) hT hr (by decide) (aj (dv 0) (aj (dv 3) au)))) (aD (fD 7 8 rfl gG.nd (dJ (uD T j) hT hr0 (z0g _) (aj (dv 6) (aj (dv 1) (aj (aP cM (dv 2) aL) (aj (dv 3) au)))))) (aK (uJ 4 (cI (aj (aP jq (dv 5) (dv 7)) (aj (aP jq dg (dv 8)) au))))))) bL) (aD (cG (bO Dc (dv 1) aL) (aD (fD 5 6 rfl gG.nd (dJ (Ng T) hT hr (by decide) (aj (dv 0) (aj (dv 3) au)))) (aD (fD 7 8 rfl gG.nd (dJ (uD T j) hT hr0 (z0g _) (aj (dv 6) (aj (aP cM (dv 1) aL) (aj (dv 2) (aj (dv 3) au)))))) (aK (uJ 4 (cI (aj (aP jq (dv 5) (dv 7)) (aj (aP jq dg (dv 8)) au))))))) bL) (aK (aX (aU (Zk rfl (aaJ hr)) rfl T.tH ahl (aj (dv 4) au)))))))))
theorem Ow(T:HB K mg base cN TP):mj P w K mg base 18 "best_from" 4 Ax ["picture","down","across","manner"] (tz TP):=uD T 5
theorem su(T:HB K mg base cN TP):J9 P w K mg base 2 "need_width" 3 jC ["thing","least","most"] (tz TP):=
  aa7 (k:=1) (m:=0) (g:=yH) T.rY JK rfl rfl fun cdv A outer s H E hr hT=>((by
    obtain⟨fB,zm⟩:=T.zm
    exact (aK (cG (DW.dt (sE (gB (jd (aZ (qy T.toHX) hr (by decide) (aj (dv 0) au)))) (qM (gB (Wa nR nR (dv 1) (dv 0) (dv 2)))))) (aK (Uu rfl zm (aj (abI (dv 1) (dv 2)) au))) bL))))
theorem jJ(T:HB K mg base cN TP):∃fd,Ca P w K mg base 19 "best_order" 4 jD fd ["picture","down","across","manner"] (tz TP)∧KB K fd ["picture","down","across","manner"] ["manner"] [.inl 0]:=by
  obtain⟨f,fd,Fn,hmg,B⟩:=T.M5
  exact⟨fd,⟨f,Lg (k:=18) (m:=2) (g:=yI) Fn wO rfl rfl fun cdv A outer s H E hr hT=>((by
    obtain⟨abf,zH⟩:=T.rN
    exact (aD (fD 4 5 rfl wO.nd (aZ (lC T.toHX) hr (by decide) (aj (dv 0) au))) (aD (fC (aZ (jj T.toHX) hr (by decide) (aj (dv 3) au))) (aD (fC (uW (su T) hT hr (by decide) (aj (dv 1) (aj aL (aj (aU (xP rfl) rfl T.tH ahl (aj (jL rfl zH) (aj (aP cM (dv 5) aL) au))) au))))) (aD (fC (uW (su T) hT hr (by decide) (aj (dv 2) (aj aL (aj (aU (xP rfl) rfl T.tH ahl (aj (jL rfl zH) (aj (aP cM (dv 4) aL) au))) au))))) (aK (aX (dJ (Ow T) hT hr (by decide) (aj (dv 0) (aj (dv 1) (aj (dv 2) (aj (dv 3) au))))))))))))),hmg,Fn.kp⟩,B⟩
theorem FQ(T:HB K mg base cN TP):J9 P w K mg base 11 "taken_to" 4 qg ["picture","wide","manner","marks"] (tz TP):=
 aa7 (k:=10) (m:=1) (g:=Eu) T.wD Bd rfl rfl λcdv A outer s H E hr hT=>((aD (fC (aZ (iT T.toHX) hr (by decide) (aj (dv 0) au))) (aD (fC (aZ (jj T.toHX) hr (by decide) (aj (dv 2) au))) (aD (bD 4 Bd.nd (aZ (zF T.toHX) hr (by decide) (aj (dv 3) (aj (dv 0) au)))) (aD (fC (uW (su T) hT hr (by decide) (aj (dv 1) (aj aL (aj (aU cB rfl T.cL PySem.boot_len (aj (bJ (dv 0) aL) au)) au))))) (aK (aX (dJ (QT T) hT hr (by decide) (aj (dv 0) (aj (aP cM (aU cB rfl T.cL PySem.boot_len (aj (bJ (dv 0) aL) au)) (dv 1)) (aj (dv 2) (aj (dv 4) au))))))))))))
theorem Nh(T:HB K mg base cN TP):∃fd,Ca P w K mg base 12 "loss" 3 Ew fd ["picture","wide","manner"] (tz TP)/\KB K fd ["picture","wide","manner"] ["manner"] [.inl 0]:=by
 obtain⟨f,fd,Fn,hmg,B⟩:=T.aa8;exact⟨fd,⟨f,Lg (k:=11) (m:=0) (g:=U6) Fn ZV rfl rfl λcdv A outer s H E hr hT=>((aK (aX (bJ (uW (FQ T) hT hr (by decide) (aj (dv 0) (aj (dv 1) (aj (dv 2) (aj lD au))))) aL)))),hmg,Fn.kp⟩,B⟩
theorem wF(T:HB K mg base cN TP):∃fd,Ca P w K mg base 12 "narrowed" 4 qj fd ["picture","wide","manner","marks"] (tz TP)/\KB K fd ["picture","wide","manner","marks"] ["manner"] [.inl 0,.inr .none]:=by
 obtain⟨f,fd,Fn,hmg,B⟩:=T.R9;exact⟨fd,⟨f,Lg (k:=11) (m:=1) (g:=Ey) Fn Bf rfl rfl λcdv A outer s H E hr hT=>((aD (bD 4 Bf.nd (uW (FQ T) hT hr (by decide) (aj (dv 0) (aj (dv 1) (aj (dv 2) (aj (dv 3) au)))))) (aD (cG (bO J3 (dv 4) lD) (aK (aX lD)) bL) (aK (aX (bJ (dv 4) aL)))))),hmg,Fn.kp⟩,B⟩
theorem ok_law{fd:adh}(Fn:Fun K "law" "law" qw f fd)(hmg:mg "law" =some (.ref f))(T:HB K mg base cN TP):K3 P w K mg base 20 "law" 1 Ez fd ["_law_script"] (tz TP):=
  ⟨f,X8 (k:=19) (m:=14) (g:=Yk) Fn ji rfl rfl fun cdv A outer s H E _ hr hT=>((by
    obtain⟨Z7,jJ,eF⟩:=jJ T
    obtain⟨Ov,f9,cY⟩:=f9 T
    obtain⟨acq,Nh,sy⟩:=Nh T
    obtain⟨abr,wF,jK⟩:=wF T
    exact (aD (bD 1 ji.nd (aZ (HY T.toHX) hr (by decide) (aj (dv 0) (aj aL (aj (aP jq aL (aZ (fj T.toHX) hr (by decide) (aj (dv 0) (aj aL (aj aL au))))) (aj (aP jq aL (aZ (fj T.toHX) hr (by decide) (aj (dv 0) (aj aL (aj aL au))))) au)))))) (aD (fD 2 3 rfl ji.nd (aZ (lC T.toHX) hr (by decide) (aj (dv 1) au))) (aD (Zg 4 5 6 rfl ji.nd (aZ (JR T.toHX) hr (by decide) (aj (dv 0) (aj aL au))) (aZ (fj T.toHX) hr (by decide) (aj (dv 0) (aj aL (aj aL au)))) (aZ (fj T.toHX) hr (by decide) (aj (dv 0) (aj aL (aj aL au))))) (aD (fD 7 8 rfl ji.nd (jo (ks:=["manner"]) (.at 0 .nil) jJ hT hr (by decide) eF (aj (dv 1) (aj (dv 5) (aj (dv 6) au))) (gU (dv 4) jh))) (aD (cG (DW.dt (sE (bO (lK (cV hr)) (sV (dv 8) dg) (dv 6)) (sE (bO (lK (cV hr)) (sV (dv 8) dg) (dv 5)) (qM (bO (lK (cV hr)) (aU Zn rfl T.cL PySem.boot_len (aj (dv 8) au)) (aP jq (dv 5) (dv 6))))))) (aK (aX kh)) bL) (aD (cG (bO (lK (cV hr)) (aZ (lC T.toHX) hr (by decide) (aj (jo (ks:=["manner"]) (.at 0 .nil) f9 hT hr (by decide) cY (aj (dv 1) (aj (dv 8) au)) (gU (dv 4) jh)) au)) (cI (aj (aP cM (dv 2) (dv 6)) (aj (aP cM (dv 3) (dv 5)) au)))) (aK (aX kh)) bL) (aD (cG (bO (lK (cV hr)) (dJ (zG T) hT hr (by decide) (aj (dv 1) (aj (dv 8) (aj (dv 4) au)))) (dv 7)) (aK (aX kh)) bL) (aD (jU ad3 rfl (gY rfl T.eE (aj aL au)) (mV 9 ji.nd) (aD (bD 10 ji.nd (aP jq (aP zZ dg (dv 6)) (aP zZ dg (dv 5)))) (aD (bD 11 ji.nd (aU (Xb (Lf hr)) rfl T.rO boot_sorted (aj (bY ["_law_at","_law_sign"] [9,0] rfl (by kernel_rfl) (by kernel_rfl) (Ln rfl T.iI (aj (dv 10) au)) (iW (bQ (bf (by decide)) (bQ (bf (by decide)) iV))) (fun _ _ _ _ nd=>oG rfl (cC (bB 0 nd) (cC (bB 1 nd) kY))) (fun _ _ _ _=>bW) (fun _ _ _ _=>(cI (aj (aZ (fj T.toHX) hr (by decide) (aj (dv 3) (aj (aP jq (aP jq aL (aP zX aL (dv 2))) (dv 0)) (aj aL au)))) (aj (dv 1) au))))) au))) (aD (bD 12 ji.nd (W4 dg (bY ["_law_weight","_law_sign"] [] rfl (by kernel_rfl) (by kernel_rfl) (fQ (dv 11)) (iW (bQ (bf (by decide)) (bQ (bf (by decide)) iV))) (fun _ _ _ _ nd=>oG rfl (cC (bB 0 nd) (cC (bB 1 nd) kY))) (fun _ _ _ _=>bW) (fun _ _ _ _=>(dv 1))))) (aD (bD 13 ji.nd (dJ (zG T) hT hr (by decide) (aj (dv 1) (aj (dv 12) (aj (dv 4) au))))) (aK (cG (DW.dt (sE (bO uZ (dv 13) (dv 7)) (qM (DW.dt (Df (bO (lJ (cV hr)) (dv 13) (dv 7)) (zN (bO aaL (dv 12) (dv 8)))))))) (aK (aX kh)) bL))))))) (Xc (cG (bO (lK (cV hr)) (bJ (jo (ks:=["manner"]) (.at 0 .nil) jJ hT hr (by decide) eF (aj (aZ (kO T.toHX) hr (by decide) (aj (dv 1) au)) (aj (dv 6) (aj (dv 5) au))) (gU (dv 4) jh)) aL) (dv 7)) (aK (aX kh)) bL) (Zr 12 ji.nd (Hg (Hg (Hg (aaP (dv 8)) (by decide) (by decide)) (by decide) (by decide)) (by decide) (by decide))) (aD (cG (bO (lK (cV hr)) (jo (ks:=["manner"]) (.at 0 .nil) f9 hT hr (by decide) cY (aj (aZ (kO T.toHX) hr (by decide) (aj (dv 1) au)) (aj (dv 12) au)) (gU (dv 4) jh)) (aZ (kO T.toHX) hr (by decide) (aj (jo (ks:=["manner"]) (.at 0 .nil) f9 hT hr (by decide) cY (aj (dv 1) (aj (dv 8) au)) (gU (dv 4) jh)) au))) (aK (aX kh)) bL) (aD (bD 14 ji.nd (cI (aj (jo (ks:=["manner"]) (.at 0 .nil) Nh hT hr (by decide) sy (aj (dv 1) (aj (aP cM (dv 2) (dv 6)) au)) (gU (dv 4) jh)) (aj (aP zZ dg (dv 6)) au)))) (aD (cG (bO (lK (cV hr)) (jo (ks:=["manner"]) (.at 0 .nil) jJ hT hr (by decide) eF (aj (dv 1) (aj aL (aj (dv 6) au))) (gU (dv 4) jh)) (dv 14)) (aK (aX kh)) bL) (aK (aX (qJ (lJ (cV hr)) (jo (ks:=["manner"]) (.at 0 .nil) f9 hT hr (by decide) cY (aj (dv 1) (aj (aP zZ dg (dv 6)) au)) (gU (dv 4) jh)) (jo (ks:=["manner"]) (.at 0 (.non .nil)) wF hT hr (by decide) jK (aj (dv 1) (aj (aP cM (dv 2) (dv 6)) au)) (gU (dv 4) jh))))))))))))))))))),hmg,Fn.kp⟩
end
theorem all_mk{l:PySem.W.OpenLaw}{w:acQ}{h:acP}{mg:Str->Option acB}{fa qz tL mD mF FW qC Sx:acA}(X:K.In h)(G:h.Ns acK mg)(hfa:mg "law" =some (.ref fa))
  {Ox Bh:Option acA}{Oz:Array (Option acB)}{OD Bj Bk Bl uE Bm:acB}
  {Sy FZ:Option acA}{SJ:Array (Option acB)}{SM Ga Gb Gd wG Ge:acB}
  {JT wQ:Option acA}{JV:Array (Option acB)}{JW wR wU wV pX wW:acB}
  {JX wX:Option acA}{JZ:Array (Option acB)}{J0 wY wZ w6 pY xg:acB}
  {ZW QV:Option acA}{ZX:Array (Option acB)}{Z0 QW QX QZ Ia Q0:acB}
  {OJ Bo:Option acA}{O5:Array (Option acB)}{O6 Bp Bq Br uF Bs:acB}
  {abg VJ:Option acA}{abh:Array (Option acB)}{abj VL VN VP Ni VR:acB}
  {Z1:Tok}(Fw:PySem.W.nsIn K acK "FREE" =some (some (.int 0 Z1)))
  {Z4:Tok}(Fx:PySem.W.nsIn K acK "GONE" =some (some (.int 2 Z4)))
  {Z5:Tok}(MF:PySem.W.nsIn K acK "KEPT" =some (some (.int 1 Z5)))
  {Nj:Tok}(um:PySem.W.nsIn K acK "MOST_CELL" =some (some (.int 99 Nj)))
  {Nk:Tok}(uo:PySem.W.nsIn K acK "MOST_LONG" =some (some (.int 20 Nk)))
  {J1:Tok}(rN:PySem.W.nsIn K acK "MOST_TAKEN" =some (some (.int 4 J1)))
  {Gf:acA}{SN:Nat}{SQ:Array (Option acB)}{Nm Np:Tok}(zc:PySem.W.nsIn K acK "MANNERS" =some (some (.ref Gf)))(V0:K.lookup Gf=some ⟨.type "tuple",none,.seq #[.str "worth" Nm,.str "joins" Np] SN,SQ⟩)
  (Ag:PySem.W.nsIn K acK "abs" =some none)
  (oh:PySem.W.nsIn K acK "all" =some none)
  (MJ:PySem.W.nsIn K acK "bool" =some none)
  (iI:PySem.W.nsIn K acK "enumerate" =some none)
  (R6:PySem.W.nsIn K acK "int" =some none)
  (dH:PySem.W.nsIn K acK "isinstance" =some none)
  (cL:PySem.W.nsIn K acK "len" =some none)
  (MK:PySem.W.nsIn K acK "list" =some none)
  (Ah:PySem.W.nsIn K acK "max" =some none)
  (tH:PySem.W.nsIn K acK "min" =some none)
  (eE:PySem.W.nsIn K acK "range" =some none)
  (wg:PySem.W.nsIn K acK "reversed" =some none)
  (rO:PySem.W.nsIn K acK "sorted" =some none)
  (R7:PySem.W.nsIn K acK "str" =some none)
  (fJ:PySem.W.nsIn K acK "tuple" =some none)
  (Ka:PySem.W.nsIn K acK "zip" =some none)
  (Fy:∀d:D,PySem.W.kitOne K (.type (iK d)) (.type "int")=some (zT (iK d)))
  (zf:∀d:D,PySem.W.kitOne K (.type (iK d)) (.type "bool")=some (vg (iK d)))
  (lB:∀d:D,PySem.W.kitOne K (.type (iK d)) (.type "tuple")=some (gj (iK d)))
  (Fz:∀d:D,PySem.W.kitOne K (.type (iK d)) (.type "list")=some (Kw (iK d)))
  (FJ:∀d:D,PySem.W.kitOne K (.type (iK d)) (.type "str")=some (zU (iK d)))
  {eZ:acA}(Jy:PySem.W.nsIn K acK "NoDeeds" =some (some (.ref eZ)))
  {fB:acA}(Jz:PySem.W.nsIn K acK "NoWidth" =some (some (.ref fB)))
  (zJ:PySem.W.excIn K eZ Wz "ValueError.__new__" =true)
  (Gg:PySem.W.findIn K (.ref eZ) "__getattribute__" =some (some (.builtin "BaseException.__getattribute__")))(Gh:PySem.W.findIn K (.ref eZ) "__getattr__" =some none)(Gi:(PySem.W.clsIn K eZ).isSome=true)(Gj:PySem.W.findIn K (.ref eZ) "__class__" =some (some (.builtin "object.__class__")))
  (Gk:PySem.W.specialIn K (.builtin "object.__class__") "__get__" =some (some (.builtin "getset_descriptor.__get__")))(Gm:PySem.W.takesIn K (.builtin "object.__class__")=some true)(Gn:PySem.W.mroIn K eZ (.type "object")=some true)(Gp:PySem.W.mroIn K eZ (.type "BaseException")=some true)
  (zK:PySem.W.excIn K fB Wz "ValueError.__new__" =true)
  (Gq:PySem.W.findIn K (.ref fB) "__getattribute__" =some (some (.builtin "BaseException.__getattribute__")))(Gr:PySem.W.findIn K (.ref fB) "__getattr__" =some none)(Gs:(PySem.W.clsIn K fB).isSome=true)(Gu:PySem.W.findIn K (.ref fB) "__class__" =some (some (.builtin "object.__class__")))
  (Gv:PySem.W.specialIn K (.builtin "object.__class__") "__get__" =some (some (.builtin "getset_descriptor.__get__")))(Gw:PySem.W.takesIn K (.builtin "object.__class__")=some true)(Gx:PySem.W.mroIn K fB (.type "object")=some true)(Gy:PySem.W.mroIn K fB (.type "BaseException")=some true)
  (wj:DX K "all_free" vQ)
  (pQ:DX K "cells_along" pK)
  (MN:DX K "gaps" Mw)
  (rP:DX K "join_fares" rE)
  (zp:DX K "is_line" yQ)
  (wk:DX K "is_whole" vR)
  (zq:DX K "is_cell" yR)
  (CJ:DX K "is_row" Cu)
  (rQ:DX K "is_picture" rF)
  (nO:DX K "need_picture" nH)
  (zu:DX K "size_of" yS)
  (CK:DX K "turned" Cv)
  (CN:DX K "worths" Cw)
  (Hz:DX K "fares" Hu)
  (zx:DX K "fare_of" yU)
  (MP:DX K "near" Mx)
  (CP:DX K "onward" Cy)
  (HD:DX K "swept" qH)
  (uq:DX K "best_ways" iH)
  (wu:DX K "from_top" vU)
  (pR:DX K "first_seams" pL)
  (ur:DX K "least_way" ud)
  (zy:DX K "without" yW)
  (HF:DX K "taken" Hw)
  (uw:DX K "by_column" uf)
  (CQ:DX K "by_row" Cz)
  (wz:DX K "is_order" vV)
  (pU:DX K "need_manner" pN)
  (SX:PySem.W.nsIn K acK "by_order" =some (some (.ref qz)))(S5:K.lookup qz=some ⟨OD,Ox,.func (PySem.W.fnOf "by_order" "by_order" (defArgs fY) (defBody fY) (defScope fY) .none Bj Bk Bl Bh uE Bm),Oz⟩)(S6:PySem.W.codeIn K uE "by_order" =true)(S7:PySem.W.keepIn K (.ref qz)=true)
  (CV:DX K "is_way" CG)
  (zA:DX K "is_seam" yZ)
  (ux:DX K "need_seam" ug)
  (wA:DX K "way_cost" vW)
  (V1:PySem.W.nsIn K acK "cost_of" =some (some (.ref tL)))(V2:K.lookup tL=some ⟨SM,Sy,.func (PySem.W.fnOf "cost_of" "cost_of" (defArgs iz) (defBody iz) (defScope iz) .none Ga Gb Gd FZ wG Ge),SJ⟩)(V3:PySem.W.codeIn K wG "cost_of" =true)(V4:PySem.W.keepIn K (.ref tL)=true)
  (zB:DX K "is_mark" za)
  (nP:DX K "is_marks_row" nJ)
  (wB:DX K "is_marks" vX)
  (rR:DX K "full_marks" rH)
  (wC:DX K "laid_out" vY)
  (Nq:PySem.W.nsIn K acK "least_seam" =some (some (.ref mD)))(Nr:K.lookup mD=some ⟨JW,JT,.func (PySem.W.fnOf "least_seam" "least_seam" (defArgs dF) (defBody dF) (defScope dF) .none wR wU wV wQ pX wW),JV⟩)(Nt:PySem.W.codeIn K pX "least_seam" =true)(Nu:PySem.W.keepIn K (.ref mD)=true)
  (rT:DX K "_law_costs" rJ)
  (rW:DX K "_law_drawn" rK)
  (pW:DX K "_law_manner" pP)
  (nQ:DX K "_law_picture" nM)
  (ou:DX K "best_from" uh)
  (rY:DX K "need_width" rM)
  (Nv:PySem.W.nsIn K acK "best_order" =some (some (.ref mF)))(Nx:K.lookup mF=some ⟨J0,JX,.func (PySem.W.fnOf "best_order" "best_order" (defArgs dG) (defBody dG) (defScope dG) .none wY wZ w6 wX pY xg),JZ⟩)(Ny:PySem.W.codeIn K pY "best_order" =true)(Nz:PySem.W.keepIn K (.ref mF)=true)
  (wD:DX K "taken_to" vZ)
  (abk:PySem.W.nsIn K acK "loss" =some (some (.ref FW)))(abl:K.lookup FW=some ⟨Z0,ZW,.func (PySem.W.fnOf "loss" "loss" (defArgs mC) (defBody mC) (defScope mC) .none QW QX QZ QV Ia Q0),ZX⟩)(abm:PySem.W.codeIn K Ia "loss" =true)(abn:PySem.W.keepIn K (.ref FW)=true)
  (S8:PySem.W.nsIn K acK "narrowed" =some (some (.ref qC)))(S9:K.lookup qC=some ⟨O6,OJ,.func (PySem.W.fnOf "narrowed" "narrowed" (defArgs fZ) (defBody fZ) (defScope fZ) .none Bp Bq Br Bo uF Bs),O5⟩)(Tc:PySem.W.codeIn K uF "narrowed" =true)(Td:PySem.W.keepIn K (.ref qC)=true)
  (Te:PySem.W.nsIn K acK "law" =some (some (.ref Sx)))(abU:K.lookup Sx=some ⟨abj,abg,.func (PySem.W.fnOf "law" "law" (defArgs qw) (defBody qw) (defScope qw) .none VL VN VP VJ Ni VR),abh⟩)(abV:PySem.W.codeIn K Ni "law" =true)(abW:PySem.W.keepIn K (.ref Sx)=true)
  (eF:KB K (PySem.W.fnOf "best_order" "best_order" (defArgs dG) (defBody dG) (defScope dG) .none wY wZ w6 wX pY xg) ["picture","down","across","manner"] ["manner"] [.inl 0])
  (cY:KB K (PySem.W.fnOf "by_order" "by_order" (defArgs fY) (defBody fY) (defScope fY) .none Bj Bk Bl Bh uE Bm) ["picture","text","manner"] ["manner"] [.inl 0])
  (j9:KB K (PySem.W.fnOf "cost_of" "cost_of" (defArgs iz) (defBody iz) (defScope iz) .none Ga Gb Gd FZ wG Ge) ["picture","seam","manner"] ["manner"] [.inl 0])
  (iU:KB K (PySem.W.fnOf "least_seam" "least_seam" (defArgs dF) (defBody dF) (defScope dF) .none wR wU wV wQ pX wW) ["picture","manner","marks"] ["manner"] [.inl 0,.inr .none])
  (sy:KB K (PySem.W.fnOf "loss" "loss" (defArgs mC) (defBody mC) (defScope mC) .none QW QX QZ QV Ia Q0) ["picture","wide","manner"] ["manner"] [.inl 0])
  (jK:KB K (PySem.W.fnOf "narrowed" "narrowed" (defArgs fZ) (defBody fZ) (defScope fZ) .none Bp Bq Br Bo uF Bs) ["picture","wide","manner","marks"] ["manner"] [.inl 0,.inr .none])
  :∃fd:adh,(∀(s:acC) (v:acB),afJ s fd ⟨[v],[]⟩ [("_law_script",v)])/\∀(base:acP) (c TP:acA),K.In base->base.Ns acK mg->nW base mg c TP->xZ K mg "best_ways" c->FnOk l.prog w K mg base CX0 20 fa fd ["_law_script"] (spT [(TP,"best_ways.<locals>.first_ones")] K 1 Ez):=by
 have e:=hfa.symm.trans (PySem.W.mg_of X G Te);cases e;have abY:XIn K eZ:=⟨Gg,Gh,Gi,Gj,Gk,Gm,Gn,Gp⟩;have abZ:XIn K fB:=⟨Gq,Gr,Gs,Gu,Gv,Gw,Gx,Gy⟩;have T:Txt K mg:=⟨⟨_,PySem.W.mg_of X G Fw⟩,⟨_,PySem.W.mg_of X G Fx⟩,⟨_,PySem.W.mg_of X G MF⟩,⟨_,PySem.W.mg_of X G um⟩,⟨_,PySem.W.mg_of X G uo⟩,⟨_,PySem.W.mg_of X G rN⟩,YM X G zc V0 (show 2<=sizeLine from z0b (by decide) (z0e eG)) (.cons ⟨_,rfl⟩ (.cons ⟨_,rfl⟩ (.nil))),PySem.W.mg_none_of X G Ag,PySem.W.mg_none_of X G oh,PySem.W.mg_none_of X G MJ,PySem.W.mg_none_of X G iI,PySem.W.mg_none_of X G R6,PySem.W.mg_none_of X G dH,PySem.W.mg_none_of X G cL,PySem.W.mg_none_of X G MK,PySem.W.mg_none_of X G Ah,PySem.W.mg_none_of X G tH,PySem.W.mg_none_of X G eE,PySem.W.mg_none_of X G wg,PySem.W.mg_none_of X G rO,PySem.W.mg_none_of X G R7,PySem.W.mg_none_of X G fJ,PySem.W.mg_none_of X G Ka,Fy,zf,lB,Fz,FJ,⟨eZ,Jy,PySem.W.mg_of X G Jy,zJ⟩,⟨fB,Jz,PySem.W.mg_of X G Jz,zK⟩⟩;have Tf:=fun_mk (st:=fY) S5 S6 S7;have V5:=fun_mk (st:=iz) V2 V3 V4;have NK:=fun_mk (st:=dF) Nr Nt Nu;have NP:=fun_mk (st:=dG) Nx Ny Nz;have abo:=fun_mk (st:=mC) abl abm abn;have Tg:=fun_mk (st:=fZ) S9 Tc Td;have abX:=fun_mk (st:=qw) abU abV abW;have hX:HX K mg:=⟨T,dy X G wj (λ_ _ _ _ _ _ us hl=>uX hl λ_=>rfl),dy X G pQ (λ_ _ _ _ _ _ us hl=>mK hl λ_ _=>rfl),dy X G MN (λ_ _ _ _ _ _ us hl=>uX hl λ_=>rfl),dy X G rP (λ_ _ _ _ _ _ us hl=>mK hl λ_ _=>rfl),dy X G zp (λ_ _ _ _ _ _ us hl=>uX hl λ_=>rfl),dy X G wk (λ_ _ _ _ _ _ us hl=>uX hl λ_=>rfl),dy X G zq (λ_ _ _ _ _ _ us hl=>uX hl λ_=>rfl),dy X G CJ (λ_ _ _ _ _ _ us hl=>uX hl λ_=>rfl),dy X G rQ (λ_ _ _ _ _ _ us hl=>uX hl λ_=>rfl),dy X G nO (λ_ _ _ _ _ _ us hl=>uX hl λ_=>rfl),dy X G zu (λ_ _ _ _ _ _ us hl=>uX hl λ_=>rfl),dy X G CK (λ_ _ _ _ _ _ us hl=>uX hl λ_=>rfl),dy X G CN (λ_ _ _ _ _ _ us hl=>uX hl λ_=>rfl),dy X G Hz (λ_ _ _ _ _ _ us hl=>mK hl λ_ _=>rfl),dy X G zx (λ_ _ _ _ _ _ us hl=>Fp hl λ_ _ _=>rfl),dy X G MP (λ_ _ _ _ _ _ us hl=>mK hl λ_ _=>rfl),dy X G CP (λ_ _ _ _ _ _ us hl=>Fp hl λ_ _ _=>rfl),dy X G HD (λ_ _ _ _ _ _ us hl=>Vy hl λ_ _ _ _=>rfl),dy X G uq (λ_ _ _ _ _ _ us hl=>Fp hl λ_ _ _=>rfl),dy X G wu (λ_ _ _ _ _ _ us hl=>mK hl λ_ _=>rfl),dy X G pR (λ_ _ _ _ _ _ us hl=>Fp hl λ_ _ _=>rfl),dy X G ur (λ_ _ _ _ _ _ us hl=>mK hl λ_ _=>rfl),dy X G zy (λ_ _ _ _ _ _ us hl=>mK hl λ_ _=>rfl),dy X G HF (λ_ _ _ _ _ _ us hl=>Vy hl λ_ _ _ _=>rfl),dy X G uw (λ_ _ _ _ _ _ us hl=>mK hl λ_ _=>rfl),dy X G CQ (λ_ _ _ _ _ _ us hl=>mK hl λ_ _=>rfl),dy X G wz (λ_ _ _ _ _ _ us hl=>mK hl λ_ _=>rfl),dy X G pU (λ_ _ _ _ _ _ us hl=>uX hl λ_=>rfl),dy X G CV (λ_ _ _ _ _ _ us hl=>Fp hl λ_ _ _=>rfl),dy X G zA (λ_ _ _ _ _ _ us hl=>mK hl λ_ _=>rfl),dy X G ux (λ_ _ _ _ _ _ us hl=>mK hl λ_ _=>rfl),dy X G wA (λ_ _ _ _ _ _ us hl=>mK hl λ_ _=>rfl),dy X G zB (λ_ _ _ _ _ _ us hl=>uX hl λ_=>rfl),dy X G nP (λ_ _ _ _ _ _ us hl=>mK hl λ_ _=>rfl),dy X G wB (λ_ _ _ _ _ _ us hl=>mK hl λ_ _=>rfl),dy X G rR (λ_ _ _ _ _ _ us hl=>mK hl λ_ _=>rfl),dy X G wC (λ_ _ _ _ _ _ us hl=>Fp hl λ_ _ _=>rfl),dy X G rT (λ_ _ _ _ _ _ us hl=>Fp hl λ_ _ _=>rfl),dy X G rW (λ_ _ _ _ _ _ us hl=>Fp hl λ_ _ _=>rfl),dy X G pW (λ_ _ _ _ _ _ us hl=>mK hl λ_ _=>rfl),dy X G nQ (λ_ _ _ _ _ _ us hl=>Vy hl λ_ _ _ _=>rfl),dy X G ou (λ_ _ _ _ _ _ us hl=>Vy hl λ_ _ _ _=>rfl),dy X G rY (λ_ _ _ _ _ _ us hl=>Fp hl λ_ _ _=>rfl),dy X G wD (λ_ _ _ _ _ _ us hl=>Vy hl λ_ _ _ _=>rfl),⟨qz,_,Tf,PySem.W.mg_of X G SX,cY⟩,⟨tL,_,V5,PySem.W.mg_of X G V1,j9⟩,⟨mD,_,NK,PySem.W.mg_of X G Nq,iU⟩,⟨mF,_,NP,PySem.W.mg_of X G Nv,eF⟩,⟨FW,_,abo,PySem.W.mg_of X G abk,sy⟩,⟨qC,_,Tg,PySem.W.mg_of X G S8,jK⟩⟩;refine⟨PySem.W.fnOf "law" "law" (defArgs qw) (defBody qw) (defScope qw) .none VL VN VP VJ Ni VR,λs v=> .of_eq rfl,λbase cN TP _ _ hB hCI=>?_⟩;obtain⟨f',ok',hm',_⟩:=ok_law (P:=l.prog) (w:=w) (base:=base) abX (PySem.W.mg_of X G Te) ⟨hX,hB,hCI⟩;cases (PySem.W.mg_of X G Te).symm.trans hm';exact ok'
end yp
namespace yp
open PySem PySem.Spec L2 Pu
theorem walk{l:PySem.W.OpenLaw}{q:acL}{loose:List Str}{XP:(Str->Option acB)->acP->Prop}{YP:acQ->acP->Prop}{d:DefRec}{K:Params->PySem.W.Frag}(hn:l.most=some 63)(hdf:d.params.defaults=[])
  (hY:∀(w:acQ) (h:acP),YP w h->(K w.params).In h)(hnt:∀w:acQ,PySem.W.noTabs (K w.params)=true)(hrec:∃dy,(PyProof.Rows.recsOf q).find? (λe:DefRec=>e.name ==("best_ways" :Str))=some dy)
  (F:∀(w:acQ) (mg:Str->Option acB) (fa:acA) (h:acP),(K w.params).In h->h.Ns acK mg->mg d.name=some (.ref fa)->
   ∃fd:adh,(∀(s:acC) (u:acB),afJ s fd ⟨[u],[]⟩ [("_law_script",u)])/\∀(base:acP) (c T:acA),(K w.params).In base->base.Ns acK mg->nW base mg c T->xZ (K w.params) mg "best_ways" c->FnOk l.prog w (K w.params) mg base CX0 20 fa fd ["_law_script"] (spT [(T,"best_ways.<locals>.first_ones")] (K w.params) 1 Ez)):
  PySem.W.WalkO q loose XP YP l.row.toRowW d [] (λf vs=>PySem.call f vs):=
 Pu.abE (n:=63) (k:=20) (x:= "_law_script") (y:= "best_ways") (q:= "best_ways.<locals>.first_ones") (FL:=Ez) hn (by decide) hdf ⟨rfl,by decide,by decide⟩ hY hnt (by obtain⟨dy,e⟩:=hrec;exact⟨dy,List.mem_of_find?_eq_some e,beq_iff_eq.mp (List.find?_some (p:=λe:DefRec=>e.name ==("best_ways" :Str)) e)⟩) F Xu
end yp
namespace PySem.W.Fast
theorem tw8494050401358406026:True:=trivial
theorem tw2854792607387054312:True:=trivial
theorem tw3513188731202400005:True:=trivial
theorem tw3947773150929464122:True:=trivial
theorem tw16670214357359647597:True:=trivial
theorem tw2632250043150490694:True:=trivial
theorem tw6050954780407528842:True:=trivial
theorem tw16983525837338748764:True:=trivial
theorem tw9728373951236575986:True:=trivial
theorem tw1849345336007323693:True:=trivial
theorem tw7308843418131281933:True:=trivial
theorem tw11264987625550362708:True:=trivial
theorem tw16184561842879691479:True:=trivial
theorem tw6315975255774881302:True:=trivial
theorem tw5140292835881613828:True:=trivial
theorem tw2197688428640411563:True:=trivial
theorem tw1884005125556137488:True:=trivial
theorem tw15964325088030066283:True:=trivial
theorem tw3412479838800051601:True:=trivial
theorem tw822180147147559655:True:=trivial
theorem tw7611418411787724753:True:=trivial
theorem tw6312957676430731544:True:=trivial
theorem tw14576069640128953106:True:=trivial
theorem tw11398335750445808787:True:=trivial
theorem tw12222846830092118608:True:=trivial
theorem tw8495077824253716965:True:=trivial
theorem tw16264015205150934969:True:=trivial
theorem tw10353898784390143986:True:=trivial
end PySem.W.Fast
open PySem PySem.W PyProof.Rows
set_option bootstrap.genMatcherCode true
set_option compiler.extract_closed true
set_option maxRecDepth 100000 in
set_option maxHeartbeats 0 in
theorem PySem.Challenge.cw_seamhall_k38_whole_orders_holds : PySem.Challenge.rw_seamhall_k38_whole_orders.Holds := by
 w_on;o_law;k_head;(case hw=>w_witness2)
 k_fill
 refine yp.walk (l:=PySem.Challenge.rw_seamhall_k38_whole_orders) rfl rfl (λw h Y=>PySem.W.km_in_of Y) ?nt ?rec ?F
 case nt=>intro w;kernel_rfl
 case rec=>exact⟨_,rfl⟩
 case F=>
  intro w mg fa h KX G hmg
  refine' yp.all_mk KX G hmg ?_ ?_ ?_ ?_ ?_ ?_ ?_ ?_ ?_ ?_ ?_ ?_ ?_ ?_ ?_ ?_ ?_ ?_ ?_ ?_ ?_ ?_ ?_ ?_ ?Fy ?zf ?lB ?Fz ?FJ ?_ ?_ ?zJ ?Gg ?Gh ?Gi ?Gj ?Gk ?Gm ?Gn ?Gp ?zK ?Gq ?Gr ?Gs ?Gu ?Gv ?Gw ?Gx ?Gy ?_ ?_ ?_ ?_ ?_ ?_ ?_ ?_ ?_ ?_ ?_ ?_ ?_ ?_ ?_ ?_ ?_ ?_ ?_ ?_ ?_ ?_ ?_ ?_ ?_ ?_ ?_ ?_ ?_ ?_ ?_ ?_ ?_ ?_ ?_ ?_ ?_ ?_ ?_ ?_ ?_ ?_ ?_ ?_ ?_ ?_ ?_ ?_ ?_ ?_ ?_ ?_ ?_ ?_ ?_ ?_ ?_ ?_ ?_ ?_ ?_ ?_ ?_ ?_ ?_ ?_ ?_ ?_ ?_ ?_ ?_ ?_ ?eF ?cY ?j9 ?iU ?sy ?jK
  all_goals try first |k_is |(refine' yp.abS ?qa ?ql ?qc ?qp;(case qa=>k_is);(case ql=>k_is);(case qc=>k_is);(case qp=>k_is))
  (case Fy=>intro d;cases d;(show PySem.W.kitOne _ (acJ "NoneType") (acJ "int")=some false);kit_is;(show PySem.W.kitOne _ (acJ "bool") (acJ "int")=some true);kit_is;(show PySem.W.kitOne _ (acJ "int") (acJ "int")=some true);kit_is;(show PySem.W.kitOne _ (acJ "str") (acJ "int")=some false);kit_is;(show PySem.W.kitOne _ (acJ "tuple") (acJ "int")=some false);kit_is;(show PySem.W.kitOne _ (acJ "list") (acJ "int")=some false);kit_is)
  (case zf=>intro d;cases d;(show PySem.W.kitOne _ (acJ "NoneType") (acJ "bool")=some false);kit_is;(show PySem.W.kitOne _ (acJ "bool") (acJ "bool")=some true);kit_is;(show PySem.W.kitOne _ (acJ "int") (acJ "bool")=some false);kit_is;(show PySem.W.kitOne _ (acJ "str") (acJ "bool")=some false);kit_is;(show PySem.W.kitOne _ (acJ "tuple") (acJ "bool")=some false);kit_is;(show PySem.W.kitOne _ (acJ "list") (acJ "bool")=some false);kit_is)
  (case lB=>intro d;cases d;(show PySem.W.kitOne _ (acJ "NoneType") (acJ "tuple")=some false);kit_is;(show PySem.W.kitOne _ (acJ "bool") (acJ "tuple")=some false);kit_is;(show PySem.W.kitOne _ (acJ "int") (acJ "tuple")=some false);kit_is;(show PySem.W.kitOne _ (acJ "str") (acJ "tuple")=some false);kit_is;(show PySem.W.kitOne _ (acJ "tuple") (acJ "tuple")=some true);kit_is;(show PySem.W.kitOne _ (acJ "list") (acJ "tuple")=some false);kit_is)
  (case Fz=>intro d;cases d;(show PySem.W.kitOne _ (acJ "NoneType") (acJ "list")=some false);kit_is;(show PySem.W.kitOne _ (acJ "bool") (acJ "list")=some false);kit_is;(show PySem.W.kitOne _ (acJ "int") (acJ "list")=some false);kit_is;(show PySem.W.kitOne _ (acJ "str") (acJ "list")=some false);kit_is;(show PySem.W.kitOne _ (acJ "tuple") (acJ "list")=some false);kit_is;(show PySem.W.kitOne _ (acJ "list") (acJ "list")=some true);kit_is)
  (case FJ=>intro d;cases d;(show PySem.W.kitOne _ (acJ "NoneType") (acJ "str")=some false);kit_is;(show PySem.W.kitOne _ (acJ "bool") (acJ "str")=some false);kit_is;(show PySem.W.kitOne _ (acJ "int") (acJ "str")=some false);kit_is;(show PySem.W.kitOne _ (acJ "str") (acJ "str")=some true);kit_is;(show PySem.W.kitOne _ (acJ "tuple") (acJ "str")=some false);kit_is;(show PySem.W.kitOne _ (acJ "list") (acJ "str")=some false);kit_is)
  (case zJ=>k_exc)
  (case zK=>k_exc)
  (case eF=>intro s us ws i hl hw;have h0:us.length=3:=(by simp only[acX,ad8] at hl;omega);clear hl;obtain⟨u0,V6,rfl,h1⟩:=Pu.iC h0;clear h0;obtain⟨u1,Ys,rfl,h2⟩:=Pu.iC h1;clear h1;obtain⟨u2,us2,rfl,h3⟩:=Pu.iC h2;clear h2;cases Pu.len0 h3;have g0:ws.length=1:=hw;clear hw;obtain⟨w0,V7,rfl,g1⟩:=Pu.iC g0;clear g0;cases Pu.len0 g1;exact PySem.W.kp_binds i (λS=>rfl))
  (case cY=>intro s us ws i hl hw;have h0:us.length=2:=(by simp only[acX,ad8] at hl;omega);clear hl;obtain⟨u0,V6,rfl,h1⟩:=Pu.iC h0;clear h0;obtain⟨u1,Ys,rfl,h2⟩:=Pu.iC h1;clear h1;cases Pu.len0 h2;have g0:ws.length=1:=hw;clear hw;obtain⟨w0,V7,rfl,g1⟩:=Pu.iC g0;clear g0;cases Pu.len0 g1;exact PySem.W.kp_binds i (λS=>rfl))
  (case j9=>intro s us ws i hl hw;have h0:us.length=2:=(by simp only[acX,ad8] at hl;omega);clear hl;obtain⟨u0,V6,rfl,h1⟩:=Pu.iC h0;clear h0;obtain⟨u1,Ys,rfl,h2⟩:=Pu.iC h1;clear h1;cases Pu.len0 h2;have g0:ws.length=1:=hw;clear hw;obtain⟨w0,V7,rfl,g1⟩:=Pu.iC g0;clear g0;cases Pu.len0 g1;exact PySem.W.kp_binds i (λS=>rfl))
  (case iU=>intro s us ws i hl hw;have h0:us.length=1:=(by simp only[acX,ad8] at hl;omega);clear hl;obtain⟨u0,V6,rfl,h1⟩:=Pu.iC h0;clear h0;cases Pu.len0 h1;have g0:ws.length=1:=hw;clear hw;obtain⟨w0,V7,rfl,g1⟩:=Pu.iC g0;clear g0;cases Pu.len0 g1;exact PySem.W.kp_binds i (λS=>rfl))
  (case sy=>intro s us ws i hl hw;have h0:us.length=2:=(by simp only[acX,ad8] at hl;omega);clear hl;obtain⟨u0,V6,rfl,h1⟩:=Pu.iC h0;clear h0;obtain⟨u1,Ys,rfl,h2⟩:=Pu.iC h1;clear h1;cases Pu.len0 h2;have g0:ws.length=1:=hw;clear hw;obtain⟨w0,V7,rfl,g1⟩:=Pu.iC g0;clear g0;cases Pu.len0 g1;exact PySem.W.kp_binds i (λS=>rfl))
  (case jK=>intro s us ws i hl hw;have h0:us.length=2:=(by simp only[acX,ad8] at hl;omega);clear hl;obtain⟨u0,V6,rfl,h1⟩:=Pu.iC h0;clear h0;obtain⟨u1,Ys,rfl,h2⟩:=Pu.iC h1;clear h1;cases Pu.len0 h2;have g0:ws.length=1:=hw;clear hw;obtain⟨w0,V7,rfl,g1⟩:=Pu.iC g0;clear g0;cases Pu.len0 g1;exact PySem.W.kp_binds i (λS=>rfl))
  all_goals first |k_is |kernel_rfl
