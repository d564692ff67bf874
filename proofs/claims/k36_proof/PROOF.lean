import PyProof.Rows.All
import Wide.All
import OpenK.AllK
import Wide.FinOn
import Lean
import PyProof.EqAt
import PyProof.EqKinds
import PyProof.TupleCall
import PyProof.NeKinds
import PyProof.FString
import PySem.Challenge.RW_seamhall_k36_orders_of_both
open PySem renaming wpAny_bind→abW,Addr→abX,Value→abY,Shared→abZ,wpAny_pure→ab1,starEach→ab2,wpAny→ab4,mainGlobals→ab5,Expr→ab6,Program→ab9,Heap→ace,World→acf,Around→acg,Stmt→acp,compareOp→acr,cellsFrom→acs,wpAny_field→acB,binaryOp→acJ,FuncData→acK,backTo→acO,rawInt→acQ,wpAny_call_entry→acT,wpAny_mono→ac1,wpAny_truthy_bool→ac4,wpAny_newObj_type→ac5,sizeLine_eq→ac6,wpAny_callSpecial?_slot→ac8,wpAny_loadPart'→ada,wpAny_setField_rec→adf,cLine→adn,Builtin→adu,wpAny_seqItems→adx,Scope→adA,bootBuiltins→adB,wpAny_holding→adD,strLen_append→adJ,storeName→adK,wpAny_Call_Name_kw→adL,foldedSetIterable→adQ,argBest→adS,behindInMarks→adT,bindArgs→adU,wpAny_of_eq→adY,wpAny_passesOwn→adZ,Keyword→ad0,assignEach→ad5,wpAny_rule→ad6,call_meets→ad8,keywordEach→aea,Arguments→aeb,NameKind→aed,callerA→aej,builtinsNs→aen,wpAny_letGo→aeu,codeAny_mono→aex,wpAny_richCompare_same_room→aeB,swapsWithSole→aeE,swappedStores→aeF,wpAny_attempt→aeG,codeAny→aeI,sliceBounds→aeJ,richCompare→aeK,wpAny_execs_nil→aeM,pushCells_keeps→aeS,wpAny_binaryOp_repeat_ref→aeW,wpAny_updateSeq→aeX,TriplesOk→aeZ,swapsWith→ae0,backToKw→ae1,wpAny_tupleItemsOf→ae3,BindsTo→ae9,typeIs_int→afa,wpAny_setField→afb,wpAny_pyIter_list→afe,wpAny_pyNext_list_item→afj,wpAny_pyIter_rangeiter→afk,plainId_quiet→afl,wpAny_isInstance→afr,codeAmong→afs,wpAny_call→afz,IsPart→afB,wpAny_ite_false→afH,codeAny_builtin→afJ,newFunctionEnv→afO,wpAny_tryCatch→afQ,IsRangeIter→afR,wpAny_standAt→af0,attributeBase→af5,wpAny_onRaise→af7,closureFor→agf,wpAny_eqBool_int→agi,wpAny_eqBool_str→agj,concat_meets→agn,noFill_tuple_add→ago,wpAny_typeOf→agr
open List renaming range→ab0,replicate→ab3,mem_cons→ach,length_cons→acn,mem_cons_self→acq,eq_nil_of_length_eq_zero→acu,getElem?_range→acv,mem_of_getElem?→acy,map_map→acz,mem_map→acA,getElem?_append_right→acD,append_nil→acE,mem_append_right→acG,getElem?_append_left→acH,length_replicate→acN,map_congr_left→acS,mem_singleton→acV,getElem?_eq_getElem→ac0,mem_append→ac9,lookup_append→ade,not_mem_nil→adi,replicate_succ→adl,append_assoc→ado,count_cons→adq,getElem?_replicate→adt,length_set→adG,range_succ_eq_map→adH,pairwise_cons→adN,toArray→adO,length_nil→adP,flatten_cons→adR,lookup_cons→adW,length_singleton→ad1,nil_append→ad2,map_append→ad3,all_cons→ad4,range_eq_range'→ad9,range'→aec,map_nil→aef,mem_flatMap→aeh,sum_cons→aem,flatMap_cons→aev,getElem?_eq_none→aez,getD→aeA,range'_succ→aeD,filterMap_cons→aeL,nodup_cons→aeN,forIn_cons→aeQ,drop_eq_getElem_cons→aeT,filterMap_cons_none→ae5,filterMap_cons_some→ae6,mem_range→ae8,length_eq_zero_iff→afd,ext_getElem?→afh,length_take→afn,mem_iff_getElem?→aft,cons_lt_cons_iff→afw,mem_filter→afx,mem_append_left→afy,of_mem_zip→afA,range_succ→afF,mem_of_mem_take→afK,mem_map_of_mem→afM,drop_zero→afP,mem_filterMap→afW,zip_cons_cons→afY,any_cons→af4,map_take→af8,size_toArray→af9,nodup_append→agb,foldl→agd,getElem_inj→agk,getElem?_take_of_lt→agm,length_drop→agq,all_eq_true→ags,cons_append→agu,range'_eq_map_range→agw,length_filterMap_le→agx,getElem?_cons_succ→agA,length_map→agB
open PySem.Value renaming type→ab7,ref→ab8,none→aco,builtin→adI,int→afS,bool→agc
open Ne renaming symm→acd
open Bool renaming false_ne_true→aci,false_eq_true→acP,and_eq_true→acY,not_true→aeH,false_and→afN,and_false→agG
open Option.some renaming inj→acj
open Nat renaming ne_of_lt→acw,lt_irrefl→acX,le_of_ble_eq_true→adM,zero_le→adX,min_eq_left→aeO,lt_of_le_of_lt→ae4,lt_succ_of_lt→afi,le_add_right→afo,sub_zero→afG,mul_comm→afI,ne_of_gt→agl,le_succ→agF
open PySem.Str renaming ofString→acC,empty→afv
open Int renaming eq_ofNat_of_zero_le→acF,natCast_nonneg→aeo,emod_lt_of_pos→aep,ofNat→aes,emod_nonneg→aeV,toNat_natCast→afg,ofNat_le→agp,ofNat_lt→agv
open PySem.Builtin.SmallTypes renaming nextOf→acI,ownedTupleIsFree→acR,ownedTupleHandOut→adC
open False renaming elim→acL
open Or renaming inr→acM,inl→acZ
open PySem.NameKind renaming free→acU,cell→aek
open PySem.Heap renaming size_push→acW,get?_update_other→adh,SameBut→adv,get?_update_ne→adz,get?_update_self→aey,ExtBut→agE
open PyProof.Rows renaming callWith_type1→ac2,slot_tuple_getitem→ac7,seqObj→adk,boot_tuple→adE,envOfC→adF,IntsAre→adV,AllBare→aew,get?_update_seq→aeU,boot_isinstance→aeY,boot_min→ae7,sortedHeap→afE,assignInOrder_cons→afU,boot_max→agy,boot_abs→agz
open PySem.Builtin.Range renaming rangeFitsLong→ac3,rangeSize→afc
open PySem.Obj renaming mapSeq→adb,mapFields→ael,data_mapFields→aer,isFreed_of_fields→afu
open PySem.PassesOwn renaming never→adg
open Option renaming isSome_iff_exists→adp,map_some→aeR,bind_some→afp,getD_some→agt
open Array renaming getElem?_eq_some_iff→adw,length_toList→ady,getD_eq_getD_getElem?→afX,getElem?_eq_getElem→agh,getD→agK
open PySem.Builtin.Slice renaming slicePlaces→ad7,sliceAdjust→aeP,sliceApplied→af2
open PySem.Builtin.Tuple renaming tupleExact→aee,tupleItemsOf→af3,tupleTooMany→af6
open PySem.Builtin.List renaming listTooLong→aeg
open PySem.Builtin.Str renaming occurrences→aei
open PySem.Around renaming under_plainId→aeC
open PySem.SeqAt.EqAt renaming int_int→ae2,int_str→agN,str_int→agO
open List.cons renaming inj→afm,injEq→agC
open PySem.AutoSeq1 renaming idx_int→afq
open PySem.Calls renaming evalArgs_plain→afC,Constant_str→afT,Name_function_global→afZ,call_function_entry→agg
open ForInStep renaming yield→afD
open PySem.Heap.SameBut renaming update→afL
open PySem.Data renaming cell→afV,fields→agD,seq→agI
open List.Pairwise renaming nil→aga
open Prod renaming ext→agH
open True renaming intro→agJ
open Prod.mk renaming injEq→agL
open PySem.EntryCells renaming newEntry→agM
open PySem.Heap.IsSliceOf renaming new→agP
noncomputable section
set_option bootstrap.genMatcherCode false
set_option compiler.extract_closed false
set_option Elab.async false
set_option linter.all false
set_option maxRecDepth 100000
set_option maxHeartbeats 4000000
theorem z0b{a b c : Nat}(h : a ≤ b)(k : b ≤ c) : a ≤ c := Nat.le_trans h k
theorem z0d{a b c : Nat}(h : a<b)(k : b ≤ c) : a<c := Nat.lt_of_lt_of_le h k
theorem z0e{a b : Nat}(h : a<b) : a ≤ b := Nat.le_of_lt h
theorem z0g(a : Nat) : a ≤ a := Nat.le_refl a
theorem z1a{h : PySem.Heap}{a : PySem.Addr}{o' : PySem.Obj}(o : PySem.Obj)(e : h.get? a=some o') : (h.push o).get? a=some o' := PySem.Heap.get?_push_of_some o e
theorem z1b{α : Type _}{i : Nat}{a : α}{l : List α}(h : l[i]?=some a) : ∃h : i<l.length, l[i]=a := List.getElem?_eq_some_iff.mp h
theorem z1c{α : Type _}{as : List α} : as.toArray.size=as.length := af9
theorem z1d{α : Type _}{as bs : List α} : (as ++ bs).length=as.length+bs.length := List.length_append
theorem z1e{α : Type _}{l : List α}{i j : Nat}(h : i ≠ j){a : α} : (l.set i a)[j]?=l[j]? := List.getElem?_set_ne h
theorem z1f(h : PySem.Heap){o : PySem.Obj}(e : o.isFreed=false) : (h.push o).get? h.objs.size=some o := PySem.Heap.get?_push_size h e
theorem z1g{α : Type _}{β : Type _}{as : List α}(f : α → β) : (as.map f).length=as.length := agB f
theorem z1h{α : Type _}{β : Type _}{f : α → β}{a : α}{l : List α} : (a :: l).map f=f a :: l.map f := rfl
theorem z2a{α : Type _}{l : List α}{i : Nat}{a : α}(h : i<l.length) : (l.set i a)[i]?=some a := List.getElem?_set_self h
theorem z2b{α : Type _}{β : Type _}{f : α → β}{l : List α}{i : Nat} : (l.map f)[i]?=Option.map f l[i]? := List.getElem?_map
theorem z2c{h : PySem.Heap}{a : PySem.Addr}{o : PySem.Obj}(e : h.get? a=some o) : a<h.objs.size := PySem.Heap.lt_size e
theorem z2d{n : Nat} : (ab0 n).length=n := List.length_range
theorem z2e{m n : Nat}(h : m ∈ ab0 n) : m<n := ae8.mp h
theorem z2f{α : Type _}(y : α){a : α}{l : List α}(h : a ∈ l) : a ∈ y :: l := List.mem_cons_of_mem y h
namespace L2
open PySem PySem.Spec PyProof.Rows
variable{A:acg}{CX:CXT}{e tg:ab6}{o:HO}{h base:ace}{H:Hp}{pins:List (abX×Obj)}{ch:List abX}{body:List acp}{ps N:List Str}{us:List abY}{M:Model}{t' k:Nat}{P:ab9}{K:PySem.W.Frag}{r:R2}{s:abZ}{σ:St}{mg:Str->Option abY}{Q:Unit->abZ->Prop}{E:abY->abZ->Prop}{f:abY->abY->Sem abY}{w:acf}
abbrev Key:=Sum Int Str
def keyIs:Key->abY->Bool
 | .inl k,v=>Value.isInt k v
 | .inr x,v=>Value.isStrOf x v
def keyH(w:acf):Key->Int
 | .inl k=>hashInt k
 | .inr x=>hashStr w x
theorem keyIs_shape:∀{k:Key} {v:abY},keyIs k v=true->(∃i t,k=Sum.inl i/\v=afS i t)\/(∃x t,k=Sum.inr x/\v=Value.str x t)
 | .inl i,v,h=>by
  obtain⟨t,e⟩:=Value.isInt_shape (k:=i) (v:=v) h;exact .inl ⟨i,t,rfl,e⟩
 | .inr x,v,h=>by
  obtain⟨t,e⟩:=Value.isStrOf_shape (x:=x) (v:=v) h;exact .inr ⟨x,t,rfl,e⟩
theorem key_ll(a b:Int):decide ((Sum.inl a:Key)=Sum.inl b)=(a ==b):=by
 by_cases e:a=b
 ·subst e;simp
 ·have h:¬(Sum.inl a:Key)=Sum.inl b:=λq=>e (Sum.inl.inj q);rw[decide_eq_false h];exact (beq_eq_false_iff_ne.mpr e).symm
theorem key_rr(a b:Str):decide ((Sum.inr a:Key)=Sum.inr b)=decide (a=b):=by
 by_cases e:a=b
 ·subst e;simp
 ·have h:¬(Sum.inr a:Key)=Sum.inr b:=λq=>e (Sum.inr.inj q);rw[decide_eq_false h,decide_eq_false e]
theorem key_lr(a:Int)(b:Str):decide ((Sum.inl a:Key)=Sum.inr b)=false:=decide_eq_false (λq=>nomatch q)
theorem key_rl(a:Str)(b:Int):decide ((Sum.inr a:Key)=Sum.inl b)=false:=decide_eq_false (λq=>nomatch q)
def mixKind(prog:ab9)(w:acf):PySem.KeyKind prog w Key where
 is:=keyIs
 hash:=keyH w
 inj :=λv a b ha hb=>by
  rcases keyIs_shape ha with⟨i,t,rfl,rfl⟩ |⟨x,t,rfl,rfl⟩
  ·rcases keyIs_shape hb with⟨j,u,rfl,e⟩ |⟨y,u,rfl,e⟩
   ·injection e with e1 _;rw[e1]
   ·exact nomatch e
  ·rcases keyIs_shape hb with⟨j,u,rfl,e⟩ |⟨y,u,rfl,e⟩
   ·exact nomatch e
   ·injection e with e1 _;rw[e1]
 byValue:=λk v h=>by
  rcases keyIs_shape h with⟨i,t,rfl,rfl⟩ |⟨x,t,rfl,rfl⟩ <;> rfl
 pyHash:=λhv h=>by
  rcases keyIs_shape hv with⟨i,t,rfl,rfl⟩ |⟨x,t,rfl,rfl⟩
  ·exact wpAny_pyHash_int h
  ·exact wpAny_pyHash_str h
 eqBool:=λhu hv h=>by
  rcases keyIs_shape hu with⟨i,t,rfl,rfl⟩ |⟨x,t,rfl,rfl⟩
  ·rcases keyIs_shape hv with⟨j,u,rfl,rfl⟩ |⟨y,u,rfl,rfl⟩
   ·rw[key_ll] at h;exact agi h
   ·rw[key_lr] at h;exact agN i t y u _ _ _ _ h
  ·rcases keyIs_shape hv with⟨j,u,rfl,rfl⟩ |⟨y,u,rfl,rfl⟩
   ·rw[key_rl] at h;exact agO x t j u _ _ _ _ h
   ·rw[key_rr] at h;exact agj h
 «strs»:=λk x t v h=>by
  rcases keyIs_shape h with⟨i,u,rfl,e⟩ |⟨y,u,rfl,e⟩
  ·exact nomatch e
  ·injection e with e1 _;subst e1;cases v <;> rfl
inductive V where
 |non |bl (b:Bool) |int (i:Int) |str (x:Str) |byt (b:Array UInt8) |flt (b:UInt64) |ref (a:abX) |ty (n:String)
 deriving DecidableEq
def RelV:V->abY->Prop
 | .non,u=>u=aco
 | .bl b,u=>u=agc b
 | .int i,u=>∃t,u=afS i t
 | .str x,u=>∃t,u=Value.str x t
 | .byt b,u=>∃t,u=Value.bytes b t
 | .flt b,u=>∃t,u=Value.float b t
 | .ref a,u=>u=ab8 a
 | .ty n,u=>u=ab7 n
abbrev Vals:List V->List abY->Prop:=Paired RelV
theorem Vals.length{xs:List V}(r:Vals xs us):xs.length=us.length:=Paired.length r
theorem Vals.get:∀{xs:List V} {us:List abY} {i:Nat} {x:V},Vals xs us->xs[i]?=some x->∃u,us[i]?=some u/\RelV x u
 |_,_,_,_,.nil,e=>by simp at e
 |_,_,0,_,.cons r _,e=>by simp at e;subst e;exact⟨_,rfl,r⟩
 | _,_,i+1,x,.cons _ t,e=>by
  obtain⟨u,h1,h2⟩:=Vals.get (i:=i) (x:=x) t (by simpa using e);exact⟨u,by simpa using h1,h2⟩
theorem Vals.append:∀{xs ys:List V} {us ws:List abY},Vals xs us->Vals ys ws->Vals (xs++ys) (us++ws)
 :=by
 intro xs ys us ws h q
 induction h with
 |nil=>exact q
 |cons r t ih=>exact .cons r ih
theorem Vals.take:∀{xs:List V} {us:List abY} (n:Nat),Vals xs us->Vals (xs.take n) (us.take n)
 |_,_,0,_=> .nil
 |_,_,_+1,.nil=> .nil
 |_,_,n+1,.cons r t=> .cons r (Vals.take n t)
theorem Vals.drop:∀{xs:List V} {us:List abY} (n:Nat),Vals xs us->Vals (xs.drop n) (us.drop n)
 |_,_,0,r=>r
 |_,_,_+1,.nil=> .nil
 |_,_,n+1,.cons _ t=>Vals.drop n t
def RelO:Option V->Option abY->Prop
 |some v,some u=>RelV v u
 |none,none=>True
 |_,_=>False
def KV{κ:Type}:List (κ×V)->List (κ×abY)->Prop:=Paired λ(p:κ×V) (q:κ×abY)=>p.1=q.1/\RelV p.2 q.2
def kV:Key->V
 | .inl i=> .int i
 | .inr x=> .str x
inductive HO where
 /-- a list -/
 |lst (xs:List V)
 /-- a tuple (never changes) -/
 |tup (xs:List V)
 /-- a dict whose keys are ints and texts;one whose keys are tuples of ints and texts (the empty one is both) -/
 |dK (kvs:List (Key×V)) |dT (kvs:List (List Key×V))
 /-- a set of ints:its members,its size -/
 |set (S:Int->Bool) (n:Nat)
 /-- an instance of the class at C,its dict at dx,its attributes -/
 |ins (C dx:abX) (fs:List (Str×V))
 /-- the dict of the instance at x -/
 |own (x:abX)
 /-- the dict of an exception -/
 |xd (fs:List (Str×V))
 /-- a bound method,f of x -/
 |met (f x:abX)
 /-- a range object lo,lo+1,.. below hi -/
 |rng (lo hi:Int)
 /-- a thing that is known to the object (the script;a dict while a loop walks it):read,never written while it is so -/
 |frz (o:Obj) (u:HO)
 /-- a code object's table -/
 |tbl (ps:Array abY)
 /-- any other thing,by what is true of its one object (a def of one's own:SetO a S n:=HO.ext λh=> ..) -/
 |ext (φ:ace->Prop)
abbrev Hp:=abX->Option HO
def upd(H:Hp)(a:abX)(o:HO):Hp:=λb=>if b=a then some o else H b
theorem upd_same{a:abX}:upd H a o a=some o:=by unfold upd;rw[if_pos rfl]
theorem upd_ne{a b:abX}(h:b≠a):upd H a o b=H b:=by unfold upd;rw[if_neg h]
theorem ne_of_none{a b:abX}(h:H a=some o)(h':H b=none):a≠b:=by
 intro e;subst e;rw[h] at h';cases h'
def uo(h:ace)(a:abX)(items:Array abY):Prop:=∃o,h.get? a=some o/\o.cls= .type "tuple"/\o.dict=none/\∃n,o.data= .seq items n
theorem uo.tup{a:abX}{items:Array abY}(x:uo h a items):IsTup h a items:=let⟨o,e,c,_,d⟩:=x;⟨o,e,c,d⟩
theorem uo.new(h:ace)(items:Array abY):uo (h.push {cls:= .type "tuple",data:= .seq items}) h.objs.size items:=⟨_,z1f _ rfl,rfl,rfl,_,rfl⟩
section
variable(P:ab9)(w:acf)
def ObjOk(H:Hp)(h:ace)(a:abX):HO->Prop
 | .lst xs=>xs.length<=sizeLine/\∃(its:List abY) (n:Nat),Vals xs its/\h.get? a=some {cls:= .type "list",data:= .seq its.toArray n}
 | .tup xs=>xs.length<=sizeLine/\∃its:List abY,Vals xs its/\uo h a its.toArray
 | .dK kvs=>kvs.length<=sizeLine/\(a ==sysModules)=false/\∃vs,KV kvs vs/\h.DictOf (mixKind P w) a vs
 | .dT kvs=>kvs.length<=sizeLine/\(a ==sysModules)=false/\∃xs:List (List Key×abX×abY),
   Paired (λ(p:List Key×V) (q:List Key×abX×abY)=>p.1=q.1/\H q.2.1=some (.tup (p.1.map kV))/\RelV p.2 q.2.2) kvs xs/\
   ∃o es ep,h.get? a=some o/\o.ExactDict/\o.data= .dict es ep/\es.toList=xs.map (entryOfKey (tupleKind (mixKind P w)))/\(xs.map (·.1)).Nodup
 | .set S n=>h.SetOf (intKind P w) a S n
 | .ins C dx fs=>H dx=some (.own a)/\fs.length<=1000/\dx≠a/\h.get? a=some (PySem.W.instObj C dx)/\
   ∃mA,h.Ns1 dx mA/\(∀f,RelO (fs.lookup f) (mA f))/\PySem.Within mA (fs.map (·.1))
 | .own _=>∃o,h.get? a=some o
 | .xd fs=>∃mA,h.Ns1 a mA/\∀f,RelO (fs.lookup f) (mA f)
 | .rng lo hi=>∃t u v,h.get? a=some {cls:= .type "range",data:= .fields #[.int lo t,.int hi u,.int 1 v]}
 | .frz o u=>h.get? a=some o/\ObjOk H h a u
 | .tbl ps=>∃qs:Array abY,h.get? a=some (PySem.W.tabObj qs)/\aeZ qs.toList/\∀pos cv,afs pos qs.toList=some cv->∃c oc vs q t tq,cv= .ref c/\H c=some (.frz oc (.own c))/\oc.data= .fields vs/\vs[1]?=some (.str q t)/\ps[0]?=some (.str q tq)
 | .met f x=>h.get? a=some (PySem.W.methodObj (.ref f) (.ref x))
 | .ext φ=>φ h/\(∃o,h.get? a=some o)/\∀h1 h2:ace,φ h1->(∀o,h1.get? a=some o->h2.get? a=some o)->φ h2
def HOk(H:Hp)(h:ace):Prop:=∀a o,H a=some o->ObjOk P w H h a o
end
section
variable{P:ab9}{w:acf}{H H':Hp}{h h':ace}{a:abX}{o:HO}
theorem ObjOk.lt(x:ObjOk P w H h a o):a<h.objs.size:=by
 cases o with
 |lst xs=>obtain⟨_,_,_,_,e⟩:=x;exact z2c e
 |tup xs=>obtain⟨_,_,_,_,e,_⟩:=x;exact z2c e
 |dK kvs=>obtain⟨_,_,_,_,o,_,_,e,_⟩:=x;exact z2c e
 |dT kvs=>obtain⟨_,_,_,_,o,_,_,e,_⟩:=x;exact z2c e
 |set S n=>obtain⟨o,_,_,_,e,_⟩:=x;exact z2c e
 |ins C dx fs=>obtain⟨_,_,_,e,_⟩:=x;exact z2c e
 |own y=>obtain⟨_,e⟩:=x;exact z2c e
 |xd fs=>obtain⟨_,⟨_,_,_,e,_⟩,_⟩:=x;exact z2c e
 |rng lo hi=>obtain⟨_,_,_,e⟩:=x;exact z2c e
 |frz ob u=>obtain⟨e,_⟩:=x;exact z2c e
 |tbl ps=>obtain⟨_,e,_⟩:=x;exact z2c e
 |met f y=>exact z2c (show h.get? a=some _ from x)
 |ext φ=>obtain⟨_,⟨_,e⟩,_⟩:=x;exact z2c e
theorem Paired.mapP{α β:Type}{F G:α->β->Prop}:∀{l₁:List α} {l₂:List β},Paired F l₁ l₂->(∀a b,F a b->G a b)->Paired G l₁ l₂
 :=by
 intro l₁ l₂ h f
 induction h with
 |nil=>exact .nil
 |cons r t ih=>exact .cons (f _ _ r) ih
theorem ObjOk.stay(x:ObjOk P w H h a o)(k:∀b u,(b=a\/H b=some (.own a))->h.get? b=some u->h'.get? b=some u)
  (ho:∀b,H b=some (.own a)->H' b=some (.own a))(ht:∀b xs,H b=some (.tup xs)->H' b=some (.tup xs))(hz:∀b o u,(∃vs,o.data= .fields vs)->H b=some (.frz o u)->H' b=some (.frz o u)):ObjOk P w H' h' a o:=by
 induction o with
 |lst xs=>obtain⟨z,its,n,r,e⟩:=x;exact⟨z,its,n,r,k _ _ (.inl rfl) e⟩
 |tup xs=>obtain⟨z,its,r,ob,e,c⟩:=x;exact⟨z,its,r,ob,k _ _ (.inl rfl) e,c⟩
 |dK kvs=>obtain⟨z,y,vs,r,ob,es,ep,e,c⟩:=x;exact⟨z,y,vs,r,ob,es,ep,k _ _ (.inl rfl) e,c⟩
 | dT kvs=>
  obtain⟨z,y,xs,r,ob,es,ep,e,c⟩:=x;exact⟨z,y,xs,Paired.mapP r λp q z=>⟨z.1,ht _ _ z.2.1,z.2.2⟩,ob,es,ep,k _ _ (.inl rfl) e,c⟩
 |set S n=>obtain⟨ob,es,ep,t,e,c⟩:=x;exact⟨ob,es,ep,t,k _ _ (.inl rfl) e,c⟩
 | ins C dx fs=>
  obtain⟨d,z,ne,e,mA,⟨od,es,ep,e2,c⟩,r⟩:=x;exact⟨ho _ d,z,ne,k _ _ (.inl rfl) e,mA,⟨od,es,ep,k _ _ (.inr d) e2,c⟩,r⟩
 |own y=>obtain⟨ob,e⟩:=x;exact⟨ob,k _ _ (.inl rfl) e⟩
 |xd fs=>obtain⟨mA,⟨od,es,ep,e,c⟩,r⟩:=x;exact⟨mA,⟨od,es,ep,k _ _ (.inl rfl) e,c⟩,r⟩
 |rng lo hi=>obtain⟨t,u,v,e⟩:=x;exact⟨t,u,v,k _ _ (.inl rfl) e⟩
 |frz ob u ih=>obtain⟨e,q⟩:=x;exact⟨k _ _ (.inl rfl) e,ih q⟩
 | tbl ps=>
  obtain⟨qs,e,tr,al⟩:=x;exact⟨qs,k a _ (.inl rfl) e,tr,λp cv z=>by
   obtain⟨c,oc,vs,q,t,tq,e1,e2,e3,r⟩:=al p cv z;exact⟨c,oc,vs,q,t,tq,e1,hz _ _ _ ⟨vs,e3⟩ e2,e3,r⟩⟩
 | met f y=>
  have e:h.get? a=some (PySem.W.methodObj (.ref f) (.ref y)):=x;show h'.get? a=some (PySem.W.methodObj (.ref f) (.ref y));exact k a _ (.inl rfl) e
 |ext φ=>obtain⟨p,⟨o,e⟩,st⟩:=x;exact⟨st _ _ p λo q=>k _ _ (.inl rfl) q,⟨o,k _ _ (.inl rfl) e⟩,st⟩
theorem HOk.lt(x:HOk P w H h)(e:H a=some o):a<h.objs.size:=(x a o e).lt
theorem HOk.fresh(x:HOk P w H h)(e:h.objs.size<=a):H a=none:=by
 cases q:H a with
 |none=>rfl
 |some u=>exact absurd (z0d (x.lt q) e) (acX _)
theorem HOk.kept(x:HOk P w H h)(k:∀b u,h.get? b=some u->h'.get? b=some u):HOk P w H h':=λa o e=>
 (x a o e).stay (λb u _ q=>k b u q) (λ_ q=>q) (λ_ _ q=>q) λ_ _ _ _ q=>q
theorem HOk.laid(x:HOk P w H h)(k:∀b u,h.get? b=some u->h'.get? b=some u)(hp:h.objs.size<=a)(new:ObjOk P w (upd H a o) h' a o):HOk P w (upd H a o) h':=λb u e=>by
 have hn:=x.fresh hp;by_cases hb:b=a
 ·subst hb;rw[upd_same] at e;cases e;exact new
 ·rw[upd_ne hb] at e;exact (x b u e).stay (λc v _ q=>k c v q) (λc q=>by rw[upd_ne (ne_of_none q hn)];exact q) (λc xs q=>by rw[upd_ne (ne_of_none q hn)];exact q) λc _ _ _ q=>by rw[upd_ne (ne_of_none q hn)];exact q
end
def Rd(H:Hp)(a:abX)(u:HO):Prop:=H a=some u\/∃o,H a=some (.frz o u)
theorem Rd.ok{a:abX}{u:HO}(r:Rd H a u)(x:HOk P w H h):ObjOk P w H h a u:=by
 rcases r with r |⟨o,r⟩
 ·exact x a u r
 ·obtain⟨_,q⟩:=x a _ r;exact q
def Mut:Option HO->Prop
 |some (.lst _)=>True
 |some (.dK _)=>True
 |some (.dT _)=>True
 |some (.set _ _)=>True
 |some (.ins _ _ _)=>True
 |some (.ext _)=>True
 |_=>False
section
variable{P:ab9}{w:acf}{H:Hp}{h h':ace}{x e:abX}{o':HO}
theorem HOk.write(ok:HOk P w H h)(mu:Mut (H x))(he:e=x\/H e=some (.own x))(k:∀b u,b≠e->h.get? b=some u->h'.get? b=some u)(heo:∃u,h'.get? e=some u)
  (new:ObjOk P w (upd H x o') h' x o'):HOk P w (upd H x o') h':=λb u q=>by
 have nown:∀c y,H c=some (.own y)->c≠x:=λc y r z=>by subst z;rw[r] at mu;exact mu
 have ntup:∀c xs,H c=some (.tup xs)->c≠x:=λc xs r z=>by subst z;rw[r] at mu;exact mu
 by_cases hb:b=x
 ·subst hb;rw[upd_same] at q;cases q;exact new
 ·rw[upd_ne hb] at q;by_cases hbe:b=e
  ·have q':H b=some (.own x):=by
    rcases he with z |z
    ·exact absurd (hbe.trans z) hb
    ·rw[hbe];exact z
   rw[q] at q';cases q';obtain⟨v,hv⟩:=heo;exact⟨v,by rw[hbe];exact hv⟩
  ·refine (ok b u q).stay (λc v hc r=>k c v ?_ r) (λc r=>by rw[upd_ne (nown c b r)];exact r) (λc xs r=>by rw[upd_ne (ntup c xs r)];exact r) λc o1 u1 _ r=>by rw[upd_ne (λz=>by rw[z] at r;rw[r] at mu;exact mu)];exact r
   rcases hc with rfl |hc
   ·exact hbe
   ·rintro rfl
    rcases he with z |z
    ·exact nown c b hc z
    ·rw[hc] at z;cases z;exact hb rfl
end
structure Un(fs ex:List abX)(H H':Hp)(h h':ace):Prop where
 keep:∀b o,h.get? b=some o->H b=none->b∉fs->b∉ex->h'.get? b=some o
 slot:∀b o,h.get? b=some o->H b=none->b∈fs->b∉ex->∃sl,h'.get? b=some {o with slots:=sl}
 free:∀b o,h.get? b=some o->H b=none->b∉ex->H' b=none
 there:∀b o,h.get? b=some o->b∉ex->∃o',h'.get? b=some o'
 tups:∀b xs,H b=some (.tup xs)->H' b=some (.tup xs)
 frzs:∀b o u,H b=some (.frz o u)->H' b=some (.frz o u)
 tbls:∀b ps,H b=some (.tbl ps)->∃more,H' b=some (.tbl (ps++more))
section
variable{fs fs' ex ex':List abX}{H H1 H2:Hp}{h h1 h2 h':ace}{a x e:abX}{o:HO}
theorem Un.any(u:Un fs ex H H1 h h1){b:abX}{ob:Obj}(q:h.get? b=some ob)(n:H b=none)(hx:b∉ex):∃sl,h1.get? b=some {ob with slots:=sl}:=by
 by_cases hb:b∈fs
 ·exact u.slot b ob q n hb hx
 ·exact⟨ob.slots,u.keep b ob q n hb hx⟩
theorem Un.kept(k:∀b u,h.get? b=some u->h'.get? b=some u):Un fs ex H H h h':=
 ⟨λb ob q _ _ _=>k b ob q,λb ob q _ _ _=>⟨ob.slots,k b ob q⟩,λ_ _ _ n _=>n,λb ob q _=>⟨ob,k b ob q⟩,λ_ _ q=>q,λ_ _ _ q=>q,λ_ ps q=>⟨#[],by rw[q];simp⟩⟩
theorem Un.refl:Un fs ex H H h h:=Un.kept λ_ _ q=>q
theorem Un.laid(k:∀b u,h.get? b=some u->h'.get? b=some u)(hp:h.objs.size<=a)(hn:H a=none):Un fs ex H (upd H a o) h h' where
 keep:=λb u q _ _ _=>k b u q
 slot:=λb u q _ _ _=>⟨u.slots,k b u q⟩
 free:=λb u q n _=>by rw[upd_ne (acw (z0d (z2c q) hp))];exact n
 there:=λb u q _=>⟨u,k b u q⟩
 tups:=λb xs q=>by rw[upd_ne (ne_of_none q hn)];exact q
 frzs:=λb u xs q=>by rw[upd_ne (ne_of_none q hn)];exact q
 tbls:=λb ps q=>⟨#[],by rw[upd_ne (ne_of_none q hn),q];simp⟩
theorem Un.write(mu:Mut (H x))(he:e=x\/H e=some (.own x))(k:∀b u,b≠e->h.get? b=some u->h'.get? b=some u)(heo:∃u,h'.get? e=some u):Un fs ex H (upd H x o) h h':=by
 have hx:∀b,H b=none->b≠x:=λb n z=>by subst z;rw[n] at mu;exact mu
 have hb:∀b,H b=none->b≠e:=λb n z=>by
  subst z;rcases he with r |r
  ·exact hx b n r
  ·rw[n] at r;cases r
 have hm:∀b u,H b=some u->¬Mut (some u)->b≠x:=λb u q nm z=>by subst z;rw[q] at mu;exact nm mu
 refine⟨λb u q n _ _=>k b u (hb b n) q,λb u q n _ _=>⟨u.slots,k b u (hb b n) q⟩,λb u q n _=>by rw[upd_ne (hx b n)];exact n,λb u q _=>?_,
  λb xs q=>by rw[upd_ne (hm b _ q λz=>z)];exact q,λb u xs q=>by rw[upd_ne (hm b _ q λz=>z)];exact q,λb ps q=>⟨#[],by rw[upd_ne (hm b _ q λz=>z),q];simp⟩⟩
 by_cases hbe:b=e
 ·subst hbe;exact heo
 ·exact⟨u,k b u hbe q⟩
end
def trk(h:ace)(H:Hp):List abX:=(ab0 h.objs.size).filter λa=>(H a).isSome
def hidT(h:ace)(H:Hp):ace:=PySem.W.hideAll h (trk h H)
theorem hidT_size(h:ace)(H:Hp):(hidT h H).objs.size=h.objs.size:=PySem.W.hideAll_size _ _
theorem hidT_get{b:abX}{o:Obj}(e:h.get? b=some o)(n:H b=none):(hidT h H).get? b=some o:=
 PySem.W.hideAll_get _ e λhm=>by
  have q:(H b).isSome=true:=(afx.mp hm).2;rw[n] at q;simp at q
theorem of_hidT{b:abX}{o:Obj}(e:(hidT h H).get? b=some o):h.get? b=some o/\H b=none:=by
 have e':h.get? b=some o:=PySem.W.of_hideAll (trk h H) e;refine⟨e',?_⟩;cases q:H b with
 |none=>rfl
 | some x=>
  have hm:b∈trk h H:=afx.mpr ⟨ae8.mpr (z2c e'),by simp[q]⟩;have z:(hidT h H).get? b=none:=PySem.W.hideAll_none (trk h H) hm;rw[z] at e;cases e
def allNews(g h:ace)(L:abX):List (abX×Obj):=(ab0 h.objs.size).filterMap λa=>if a=L\/(g.get? a).isSome=true then none else (h.get? a).map λo=>(a,o)
def rest(g h:ace)(L d:abX):List (abX×Obj):=(allNews g h L).filter λp=>decide (p.1≠d)
structure Mod(K:PySem.W.Frag)(mg:Str->Option abY)(base:ace):Prop where
 kin:K.In base
 glob:base.Ns ab5 mg
 blt:∃mb,base.Ns aen mb/\∀x:Str,x≠"__name__"->mb x=adB x
 nolimit:base.NoLimit
structure Cx where
 prog:ab9
 w:acf
 K:PySem.W.Frag
 mg:Str->Option abY
 base:ace
 A:acg
 N:List Str
 s₀:abZ
 H₀:Hp
 env:Env
 outer:List Env
 stack:List Env
 ex:List abX
 fn:Str->Bool
 calm:Bool
 pn:List (abX×Obj)
 xe:abY->abZ->Prop
def frs(l:List Env):List abX:=l.filterMap (·.frame)
abbrev Cx.fs(X:Cx):List abX:=frs X.outer
def Vis(sc:adA)(x:Str):Prop:=sc.names.lookup x=some .local\/sc.names.lookup x=some .cell\/sc.names.lookup x=some .free
def Loc(sc:adA)(x:Str):Prop:=sc.names.lookup x=some .local\/sc.names.lookup x=some .cell
def Look(env:Env)(h:ace)(m:Str->Option abY)(x:Str)(u:abY):Prop:=
 (env.kindOf x=some .local/\m x=some u)\/((env.kindOf x=some .cell\/env.kindOf x=some .free)/\∃c,env.cells.lookup x=some c/\h.IsCell c (some u))
structure Cx.Ok(X:Cx):Prop where
 mod:Mod X.K X.mg X.base
 kind:X.env.scope.kind= .function
 glob:X.env.globals=ab5
 blt:X.env.builtins=aen
 above:X.s₀.heap.objs.size<=X.env.locals
 inj:∀x y c,X.env.cells.lookup x=some c->X.env.cells.lookup y=some c->x=y
 has:∀x,(X.env.kindOf x=some .cell\/X.env.kindOf x=some .free)->∃c,X.env.cells.lookup x=some c
 cab:∀x c,X.fn x=true->X.env.cells.lookup x=some c->X.s₀.heap.objs.size<=c
 hd:X.calm=true->X.A.handled=none
 frames:X.A.frames=some X.stack
 stk:X.stack=X.outer\/(X.stack=X.env::X.outer/\X.env.frame=some X.env.locals)
 exf:∀b∈X.ex,b≠X.env.locals/\∀x c,X.env.cells.lookup x=some c->c≠b
 bs:∀b o,X.base.get? b=some o->X.s₀.heap.get? b=some o/\X.H₀ b=none
 bsz:X.base.objs.size<=X.s₀.heap.objs.size
 noex:∀b o,X.base.get? b=some o->b∉X.ex
 exfs:∀b∈X.ex,b∉X.fs
 funs:X.s₀.heap.FunFrames X.base X.outer
 frf:∀b∈X.fs,X.H₀ b=none
structure Inv(X:Cx)(pins:List (abX×Obj))(σ:List (Option V))(H:Hp)(s:abZ):Prop where
 ok:X.Ok
 os:s.os=X.s₀.os
 bare:aew s.gens
 base:Un X.fs X.ex X.H₀ H X.s₀.heap s.heap
 loc:∃m,s.heap.Ns X.env.locals m/\∀(i:Nat) (x:Str) (v:V),X.N[i]?=some x->σ[i]?=some (some v)->Vis X.env.scope x->∃u,RelV v u/\Look X.env s.heap m x u
 cell:∀x c,X.env.cells.lookup x=some c->∃v,s.heap.IsCell c v
 free:H X.env.locals=none
 freeC:∀x c,X.env.cells.lookup x=some c->H c=none
 pin:∀p∈X.pn++pins,s.heap.get? p.1=some p.2/\H p.1=none/\p.1≠X.env.locals/\p.1∉X.fs/\∀v,p.2.data≠.cell v
 hok:HOk X.prog X.w H s.heap
 len:σ.length=X.N.length
section
variable{X:Cx}{pins:List (abX×Obj)}{σ:List (Option V)}{H H':Hp}{s:abZ}{h':ace}
theorem Cx.Ok.nofr(ok:X.Ok){b:abX}{o:Obj}(e:X.base.get? b=some o):b∉X.fs:=λhb=>by
 have:=(ok.funs.mem hb).1;rw[e] at this;cases this
theorem Inv.bs(I:Inv X pins σ H s):∀b o,X.base.get? b=some o->s.heap.get? b=some o/\H b=none:=λb o e=>
 ⟨I.base.keep b o (I.ok.bs b o e).1 (I.ok.bs b o e).2 (I.ok.nofr e) (I.ok.noex b o e),I.base.free b o (I.ok.bs b o e).1 (I.ok.bs b o e).2 (I.ok.noex b o e)⟩
theorem Inv.bk(I:Inv X pins σ H s):∀b o,X.base.get? b=some o->s.heap.get? b=some o:=λb o e=>(I.bs b o e).1
theorem Inv.mod(I:Inv X pins σ H s):Mod X.K X.mg X.base:=I.ok.mod
theorem Inv.kIn(I:Inv X pins σ H s):X.K.In s.heap:=I.ok.mod.kin.keeps I.bk
theorem Inv.lt(I:Inv X pins σ H s):X.env.locals<s.heap.objs.size:=let⟨_,hn,_⟩:=I.loc;hn.lt
theorem Inv.sz(I:Inv X pins σ H s):X.s₀.heap.objs.size<=s.heap.objs.size:=z0b I.ok.above (z0e I.lt)
theorem Inv.nofs(I:Inv X pins σ H s){a:abX}(h:s.heap.objs.size<=a):a∉X.fs:=λhb=>by
 obtain⟨_,o,ho,_⟩:=I.ok.funs.mem hb;exact absurd (z0d (z2c ho) (z0b I.sz h)) (acX _)
theorem Inv.cne(I:Inv X pins σ H s):∀x c,X.env.cells.lookup x=some c->c≠X.env.locals:=λx c e z=>by
 obtain⟨v,o,ho,hd⟩:=I.cell x c e;obtain⟨m,⟨o',es,ep,ho',hd',_⟩,_⟩:=I.loc;rw[z,ho'] at ho;cases ho;rw[hd'] at hd;cases hd
theorem Inv.funs(I:Inv X pins σ H s):s.heap.FunFrames X.base X.outer:=by
 have all:∀(l:List Env),(∀b∈frs l,b∈X.fs)->X.s₀.heap.FunFrames X.base l->s.heap.FunFrames X.base l:=by
  intro l
  induction l with
  |nil=>intro _ _;trivial
  | cons env r ih=>
   intro hs hl;obtain⟨hk,⟨L,o,hf,hn,ho,hd⟩,hr⟩:=hl;have hL:L∈X.fs:=hs L (by unfold frs;rw[aeL,hf];exact acq);obtain⟨sl,e⟩:=I.base.slot L o ho (I.ok.frf L hL) hL λz=>I.ok.exfs L z hL;exact⟨hk,⟨L,_,hf,hn,e,hd⟩,ih (λb hb=>hs b (by unfold frs;rw[aeL,hf];exact z2f _ hb)) hr⟩
 exact all X.outer (λ_ hb=>hb) I.ok.funs
theorem Inv.stack(I:Inv X pins σ H s):s.heap.FunFrames X.base X.stack:=by
 rcases I.ok.stk with e |⟨e,hf⟩
 ·rw[e];exact I.funs
 ·rw[e];obtain⟨m,hn,_⟩:=I.loc;refine .cons (by rw[I.ok.kind];decide) hf hn ?_ I.funs;exact Heap.get?_none_of_le (z0b I.ok.bsz I.ok.above)
theorem Inv.stkSub(I:Inv X pins σ H s):∀b∈frs X.stack,b∈X.env.locals::X.fs:=λb hb=>by
 rcases I.ok.stk with e |⟨e,hf⟩
 ·rw[e] at hb;exact z2f _ hb
 ·rw[e] at hb;unfold frs at hb;rw[aeL,hf] at hb;exact hb
theorem Inv.stkFree(I:Inv X pins σ H s):∀b∈frs X.stack,H b=none:=λb hb=>by
 rcases ach.mp (I.stkSub b hb) with e |hb
 ·rw[e];exact I.free
 ·obtain⟨_,o,ho,_⟩:=I.ok.funs.mem hb;exact I.base.free b o ho (I.ok.frf b hb) λz=>I.ok.exfs b z hb
theorem Inv.step{g':Array GenState}{d':Drawn}(I:Inv X pins σ H s)
  (hch:∀b∈ch,(b∈X.ex\/X.s₀.heap.objs.size<=b)/\b≠X.env.locals/\(∀x c,X.env.cells.lookup x=some c->c≠b)/\∀p∈X.pn++pins,p.1≠b)
  (keep:∀b o,b≠X.env.locals->b∉X.fs->b∉ch->s.heap.get? b=some o->H b=none->h'.get? b=some o)
  (slot:∀b o,b≠X.env.locals->b∈X.fs->b∉ch->s.heap.get? b=some o->H b=none->∃sl,h'.get? b=some {o with slots:=sl})(free:∀b o,b∉ch->s.heap.get? b=some o->H b=none->H' b=none)
  (there:∀b o,b∉ch->s.heap.get? b=some o->∃o',h'.get? b=some o')
  (tups:∀b xs,H b=some (.tup xs)->H' b=some (.tup xs))(frzs:∀b o u,H b=some (.frz o u)->H' b=some (.frz o u))(tbls:∀b ps,H b=some (.tbl ps)->∃more,H' b=some (.tbl (ps++more)))
  (ns:∀m,s.heap.Ns X.env.locals m->h'.Ns X.env.locals m)(hok:HOk X.prog X.w H' h')(hg:aew g'):
  Inv X pins σ H' {s with heap:=h',gens:=g',drawn:=d',toks:=t'}:=by
 have neL:∀b o,X.s₀.heap.get? b=some o->b≠X.env.locals:=λb o e=>acw (z0d (z2c e) I.ok.above);have neC:∀b o,X.s₀.heap.get? b=some o->b∉X.ex->b∉ch:=λb o e hx hb=>by
  rcases (hch b hb).1 with z |z
  ·exact hx z
  ·exact absurd (z0d (z2c e) z) (acX _)
 have cellK:∀x c,X.env.cells.lookup x=some c->∀v,s.heap.IsCell c v->h'.IsCell c v:=λx c e v ⟨o,ho,hd⟩=>by
  have nch:c∉ch:=λz=>(hch c z).2.2.1 x c e rfl;by_cases hc:c∈X.fs
  ·obtain⟨sl,q⟩:=slot c o (I.cne x c e) hc nch ho (I.freeC x c e);exact⟨_,q,hd⟩
  ·exact⟨o,keep c o (I.cne x c e) hc nch ho (I.freeC x c e),hd⟩
 refine⟨I.ok,I.os,hg,⟨λb o e n hb hx=>?_,λb o e n hb hx=>?_,λb o e n hx=>?_,λb o e hx=>?_,λb xs e=>tups b xs (I.base.tups b xs e),λb o xs e=>frzs b o xs (I.base.frzs b o xs e),λb ps e=>?_⟩,?_,λx c e=>?_,?_,λx c e=>?_,λp hp=>?_,hok,I.len⟩
 ·exact keep b o (neL b o e) hb (neC b o e hx) (I.base.keep b o e n hb hx) (I.base.free b o e n hx)
 ·obtain⟨sl,e1⟩:=I.base.slot b o e n hb hx;obtain⟨sl',e2⟩:=slot b _ (neL b o e) hb (neC b o e hx) e1 (I.base.free b o e n hx);exact⟨sl',e2⟩
 ·obtain⟨o',e1⟩:=I.base.there b o e hx;exact free b o' (neC b o e hx) e1 (I.base.free b o e n hx)
 ·obtain⟨o',e1⟩:=I.base.there b o e hx;exact there b o' (neC b o e hx) e1
 ·obtain⟨m1,e1⟩:=I.base.tbls b ps e;obtain⟨m2,e2⟩:=tbls b _ e1;exact⟨m1++m2,by rw[e2,Array.append_assoc]⟩
 ·obtain⟨m,hn,hl⟩:=I.loc;refine⟨m,ns m hn,λi x v e1 e2 e3=>?_⟩;obtain⟨u,r,l⟩:=hl i x v e1 e2 e3;refine⟨u,r,?_⟩;rcases l with l |⟨k,c,e,z⟩
  ·exact .inl l
  ·exact .inr ⟨k,c,e,cellK x c e _ z⟩
 ·obtain⟨v,z⟩:=I.cell x c e;exact⟨v,cellK x c e v z⟩
 ·obtain⟨m,⟨o,_,_,ho,_⟩,_⟩:=I.loc;exact free _ o (λz=>(hch _ z).2.1 rfl) ho I.free
 ·obtain⟨v,o,ho,hd⟩:=I.cell x c e;exact free c o (λz=>(hch c z).2.2.1 x c e rfl) ho (I.freeC x c e)
 ·obtain⟨e,n,ne,nf,d⟩:=I.pin p hp;have nch:p.1∉ch:=λz=>(hch p.1 z).2.2.2 p hp rfl;exact⟨keep p.1 p.2 ne nf nch e n,free p.1 p.2 nch e n,ne,nf,d⟩
theorem Inv.un(I:Inv X pins σ H s)(u:Un X.fs [] H H' s.heap h')(hok:HOk X.prog X.w H' h'):Inv X pins σ H' {s with heap:=h',toks:=t'}:=by
 obtain⟨m,⟨o,es,ep,ho,r⟩,_⟩:=id I.loc;obtain⟨sl,hL⟩:=u.any ho I.free (by simp);exact I.step (g':=s.gens) (d':=s.drawn) (ch:=[]) (λ_ z=>nomatch z) (λb o _ hb _ e n=>u.keep b o e n hb (by simp)) (λb o _ hb _ e n=>u.slot b o e n hb (by simp)) (λb o _ e n=>u.free b o e n (by simp)) (λb o _ e=>u.there b o e (by simp)) u.tups u.frzs u.tbls (λm' hm=>by
  obtain⟨o',es',ep',ho',r'⟩:=hm;rw[ho] at ho';cases ho';exact⟨_,es',ep',hL,r'⟩) hok I.bare
theorem Inv.call{g':Array GenState}{d':Drawn}(I:Inv X pins σ H s)(u:Un (frs X.stack) ch H H' s.heap h')(hok:HOk X.prog X.w H' h')(hg:aew g')
  (hch:∀b∈ch,(b∈X.ex\/X.s₀.heap.objs.size<=b)/\b≠X.env.locals/\(∀x c,X.env.cells.lookup x=some c->c≠b)/\∀p∈X.pn++pins,p.1≠b):
  Inv X pins σ H' {s with heap:=h',gens:=g',drawn:=d',toks:=t'}:=by
 obtain⟨m,⟨o,es,ep,ho,r⟩,_⟩:=id I.loc;obtain⟨sl,hL⟩:=u.any ho I.free λz=>(hch _ z).2.1 rfl;exact I.step (ch:=ch) hch (λb o hL hb hc e n=>u.keep b o e n (λz=>(ach.mp (I.stkSub b z)).elim hL hb) hc) (λb o _ _ hc e n=>u.any e n hc) (λb o hc e n=>u.free b o e n hc) (λb o hc e=>u.there b o e hc) u.tups u.frzs u.tbls (λm' hm=>by
  obtain⟨o',es',ep',ho',r'⟩:=hm;rw[ho] at ho';cases ho';exact⟨_,es',ep',hL,r'⟩) hok hg
theorem Inv.turned{it:abX}(I:Inv X pins σ H s)(k:∀b o,b≠it->s.heap.get? b=some o->h'.get? b=some o)(hn:H it=none)(hL:it≠X.env.locals)
  (h1:it∈X.ex\/X.s₀.heap.objs.size<=it)(h2:∀x c,X.env.cells.lookup x=some c->c≠it)(h3:∀p∈X.pn++pins,p.1≠it):Inv X pins σ H {s with heap:=h',toks:=t'}:=by
 have nit:∀b u,H b=some u->b≠it:=λb u e z=>by rw[z,hn] at e;cases e
 refine I.step (g':=s.gens) (d':=s.drawn) (ch:=[it]) (λb hb=>?_) (λb o _ _ hc e _=>k b o (λz=>hc (by simp[z])) e) (λb o _ _ hc e _=>⟨o.slots,k b o (λz=>hc (by simp[z])) e⟩) (λ_ _ _ _ n=>n)
  (λb o hc e=>⟨o,k b o (λz=>hc (by simp[z])) e⟩) (λ_ _ e=>e) (λ_ _ _ e=>e) (λb ps e=>⟨#[],by rw[e];simp⟩) (λm hm=>?_) (λb u e=>?_) I.bare
 ·have e:b=it:=by simpa using hb
  subst e;exact⟨h1,hL,h2,h3⟩
 ·obtain⟨o,es,ep,ho,r⟩:=hm;exact⟨o,es,ep,k _ o (acd hL) ho,r⟩
 ·refine (I.hok b u e).stay (λc v hc q=>k c v ?_ q) (λ_ q=>q) (λ_ _ q=>q) λ_ _ _ _ q=>q;rcases hc with z |z
  ·rw[z];exact nit b u e
  ·exact nit c _ z
theorem Inv.tok(I:Inv X pins σ H s)(t:Nat):Inv X pins σ H {s with toks:=t}:=I.un (h':=s.heap) (t':=t) Un.refl I.hok
theorem Inv.kept(I:Inv X pins σ H s)(k:∀b u,s.heap.get? b=some u->h'.get? b=some u):Inv X pins σ H {s with heap:=h',toks:=t'}:=I.un (Un.kept k) (I.hok.kept k)
theorem Inv.laid{a:abX}(I:Inv X pins σ H s)(k:∀b u,s.heap.get? b=some u->h'.get? b=some u)(hp:s.heap.objs.size<=a)(new:ObjOk X.prog X.w (upd H a o) h' a o):
  Inv X pins σ (upd H a o) {s with heap:=h',toks:=t'}:=I.un (Un.laid k hp (I.hok.fresh hp)) (I.hok.laid k hp new)
theorem Inv.write{x e:abX}(I:Inv X pins σ H s)(mu:Mut (H x))(he:e=x\/H e=some (.own x))(k:∀b u,b≠e->s.heap.get? b=some u->h'.get? b=some u)(heo:∃u,h'.get? e=some u)
  (new:ObjOk X.prog X.w (upd H x o) h' x o):Inv X pins σ (upd H x o) {s with heap:=h',toks:=t'}:=I.un (Un.write mu he k heo) (I.hok.write mu he k heo new)
theorem Inv.pins_of{pins':List (abX×Obj)}(I:Inv X pins σ H s)(h:∀p∈pins',s.heap.get? p.1=some p.2/\H p.1=none/\p.1≠X.env.locals/\p.1∉X.fs/\∀v,p.2.data≠.cell v):Inv X pins' σ H s:=
 ⟨I.ok,I.os,I.bare,I.base,I.loc,I.cell,I.free,I.freeC,λp hp=>(ac9.mp hp).elim (λz=>I.pin p (afy _ z)) (h p),I.hok,I.len⟩
theorem nodup_ix(hN:N.Nodup){i j:Nat}{x:Str}(a:N[i]?=some x)(b:N[j]?=some x):i=j:=by
 obtain⟨h1,e1⟩:=z1b a;obtain⟨h2,e2⟩:=z1b b;exact (agk hN).mp (e1.trans e2.symm)
theorem store_ok2{i:Nat}{x:Str}{v:V}{u:abY}(I:Inv X pins σ H s)(hN:X.N.Nodup)(hi:X.N[i]?=some x)(hx:Loc X.env.scope x)(r:RelV v u)
  (h:∀s',Inv X pins (σ.set i (some v)) H s'->(∃a,adv a s.heap s'.heap/\(a=X.env.locals\/X.env.cells.lookup x=some a))->Q () s')(hf:X.fn x=true\/X.env.scope.names.lookup x=some .local:=by first |exact .inl rfl |exact .inr rfl |assumption):ab4 M A (adK X.env x u) Q E s:=by
 obtain⟨m,hn,hl⟩:=id I.loc;have hcls:(X.env.scope.kind == .class || (X.env.scope.kind == .module && X.env.locals !=X.env.globals))=false:=by rw[I.ok.kind];rfl
 have hiσ:i<σ.length:=by rw[I.len];exact (z1b hi).1
 have cne:=I.cne;have tracked:∀{a:abX} {h':ace},(∃o,s.heap.get? a=some o/\H a=none)->adv a s.heap h'->HOk X.prog X.w H h':=λ{a h'} ha hs b ob e=>by
  obtain⟨_,_,hfree⟩:=ha;refine (I.hok b ob e).stay (λc w' hc q=>(hs.2 c ?_).trans q) (λ_ q=>q) (λ_ _ q=>q) λ_ _ _ _ q=>q
  rintro rfl
  rcases hc with rfl |hc
  ·rw[hfree] at e;cases e
  ·rw[hfree] at hc;cases hc
 rcases hx with hk |hk
 ·refine wpAny_storeName_local hk hn (λh' hn' hs=>?_) hcls;obtain⟨oL,_,_,hoL,_⟩:=id hn;refine h _ ⟨I.ok,I.os,I.bare,⟨λb o e n hb hx=>?_,λb o e n hb hx=>?_,I.base.free,λb o e hx=>?_,I.base.tups,I.base.frzs,I.base.tbls⟩,⟨_,hn',λj y v' e1 e2 e3=>?_⟩,λy c e=>?_,I.free,I.freeC,λp hp=>?_,tracked ⟨oL,hoL,I.free⟩ hs,by simpa using I.len⟩ ⟨_,hs,.inl rfl⟩
  ·exact (hs.2 b (acw (z0d (z2c e) I.ok.above))).trans (I.base.keep b o e n hb hx)
  ·obtain⟨sl,e1⟩:=I.base.slot b o e n hb hx;exact⟨sl,(hs.2 b (acw (z0d (z2c e) I.ok.above))).trans e1⟩
  ·obtain⟨o',e1⟩:=I.base.there b o e hx;exact⟨o',(hs.2 b (acw (z0d (z2c e) I.ok.above))).trans e1⟩
  ·by_cases hj:j=i
   ·subst hj;rw[hi] at e1;cases e1;rw[z2a hiσ] at e2;cases e2;exact⟨u,r,.inl ⟨hk,by simp⟩⟩
   ·rw[z1e (acd hj)] at e2;obtain⟨u',r',q⟩:=hl j y v' e1 e2 e3;refine⟨u',r',?_⟩;rcases q with⟨k,e⟩ |⟨k,c,e,z⟩
    ·refine .inl ⟨k,?_⟩;have:y≠x:=λe=>hj (nodup_ix hN e1 (e▸hi));simp[this,e]
    ·exact .inr ⟨k,c,e,z.sameBut hs (cne y c e)⟩
  ·obtain⟨w',z⟩:=I.cell y c e;exact⟨w',z.sameBut hs (cne y c e)⟩
  ·obtain⟨e,n,ne,nf,d⟩:=I.pin p hp;exact⟨(hs.2 p.1 ne).trans e,n,ne,nf,d⟩
 ·have hfn:X.fn x=true:=by
   rcases hf with z |z
   ·exact z
   ·rw[z] at hk;cases hk
  obtain⟨c,hc⟩:=I.ok.has x (.inl hk);obtain⟨w',z⟩:=I.cell x c hc;refine wpAny_storeName_cell I.ok.kind hk hc z (λh' hc' hs=>?_);obtain⟨oc,hoc,hocd⟩:=id z;refine h {s with heap:=h'} ⟨I.ok,I.os,I.bare,⟨λb o e n hb hx=>?_,λb o e n hb hx=>?_,I.base.free,λb o e hx=>?_,I.base.tups,I.base.frzs,I.base.tbls⟩,⟨m,hn.sameBut hs (acd (cne x c hc)),λj y v' e1 e2 e3=>?_⟩,λy c' e=>?_,I.free,I.freeC,λp hp=>?_,tracked ⟨oc,hoc,I.freeC x c hc⟩ hs,by simpa using I.len⟩ ⟨c,hs,.inr hc⟩
  ·exact (hs.2 b (acw (z0d (z2c e) (I.ok.cab x c hfn hc)))).trans (I.base.keep b o e n hb hx)
  ·obtain⟨sl,e1⟩:=I.base.slot b o e n hb hx;exact⟨sl,(hs.2 b (acw (z0d (z2c e) (I.ok.cab x c hfn hc)))).trans e1⟩
  ·obtain⟨o',e1⟩:=I.base.there b o e hx;exact⟨o',(hs.2 b (acw (z0d (z2c e) (I.ok.cab x c hfn hc)))).trans e1⟩
  ·by_cases hj:j=i
   ·subst hj;rw[hi] at e1;cases e1;rw[z2a hiσ] at e2;cases e2;exact⟨u,r,.inr ⟨.inl hk,c,hc,hc'⟩⟩
   ·rw[z1e (acd hj)] at e2;obtain⟨u',r',q⟩:=hl j y v' e1 e2 e3;refine⟨u',r',?_⟩;rcases q with q |⟨k,c',e,z'⟩
    ·exact .inl q
    ·refine .inr ⟨k,c',e,z'.sameBut hs ?_⟩
     rintro rfl
     exact hj (nodup_ix hN e1 (I.ok.inj _ _ _ e hc▸hi))
  ·by_cases hcc:c'=c
   ·subst hcc;exact⟨_,hc'⟩
   ·obtain⟨w2,z2⟩:=I.cell y c' e;exact⟨w2,z2.sameBut hs hcc⟩
  ·obtain⟨e,n,ne,nf,d⟩:=I.pin p hp;refine⟨(hs.2 p.1 ?_).trans e,n,ne,nf,d⟩;intro q;rw[q,hoc] at e;have q':oc=p.2:=acj e;exact d w' (by rw[<-q'];exact hocd)
theorem store_ok{i:Nat}{x:Str}{v:V}{u:abY}(I:Inv X pins σ H s)(hN:X.N.Nodup)(hi:X.N[i]?=some x)(hx:Loc X.env.scope x)(r:RelV v u)
  (h:∀s',Inv X pins (σ.set i (some v)) H s'->Q () s')(hf:X.fn x=true\/X.env.scope.names.lookup x=some .local:=by first |exact .inl rfl |exact .inr rfl |assumption):ab4 M A (adK X.env x u) Q E s:=
 store_ok2 I hN hi hx r (λs' I' _=>h s' I') hf
theorem Inv.call'{s':abZ}(I:Inv X pins σ H s)(ho:s'.os=s.os)(u:Un (frs X.stack) ch H H' s.heap s'.heap)(hok:HOk X.prog X.w H' s'.heap)(hg:aew s'.gens)
  (hch:∀b∈ch,(b∈X.ex\/X.s₀.heap.objs.size<=b)/\b≠X.env.locals/\(∀x c,X.env.cells.lookup x=some c->c≠b)/\∀p∈X.pn++pins,p.1≠b):Inv X pins σ H' s':=by
 obtain⟨h',g',d',t',o'⟩:=s';have e:o'=s.os:=ho;subst e;exact I.call (g':=g') (t':=t') (d':=d') u hok hg hch
end
abbrev XK:=abY->Option abX->Hp->Prop
abbrev St:=List (Option V)
abbrev VK:=V->Hp->Prop
abbrev TE:=St->Hp->VK->Prop
abbrev TT:=St->Hp->(Bool->Hp->Prop)->Prop
abbrev TA:=St->Hp->(List V->Hp->Prop)->Prop
structure Ends where
 nx:St->Hp->Prop
 rt:VK
 bk:St->Hp->Prop:=λ_ _=>False
 ct:St->Hp->Prop:=λ_ _=>False
abbrev TS:=Ends->St->Hp->Prop
inductive EP (X:Cx) (pins:List (abX×Obj)) (σ:St) (Q:VK) (u:abY) (s':abZ):Prop
 |mk (v:V) (H':Hp) (I:Inv X pins σ H' s') (r:RelV v u) (q:Q v H'):EP X pins σ Q u s'
inductive TP (X:Cx) (pins:List (abX×Obj)) (σ:St) (Q:Bool->Hp->Prop) (b:Bool) (s':abZ):Prop
 |mk (H':Hp) (I:Inv X pins σ H' s') (q:Q b H'):TP X pins σ Q b s'
inductive AP (X:Cx) (pins:List (abX×Obj)) (σ:St) (Q:List V->Hp->Prop) (us:List abY) (s':abZ):Prop
 |mk (vs:List V) (H':Hp) (I:Inv X pins σ H' s') (r:Vals vs us) (q:Q vs H'):AP X pins σ Q us s'
inductive Ot (X:Cx) (pins:List (abX×Obj)) (D:St->Hp->Prop) (s':abZ):Prop
 |mk (σ':St) (H':Hp) (I:Inv X pins σ' H' s') (d:D σ' H'):Ot X pins D s'
inductive SPr (X:Cx) (pins:List (abX×Obj)) (D:V->Hp->Prop) (u:abY) (s':abZ):Prop
 |mk (v:V) (σ':St) (H':Hp) (I:Inv X pins σ' H' s') (r:RelV v u) (d:D v H'):SPr X pins D u s'
def SP(X:Cx)(pins:List (abX×Obj))(D:Ends)(f:Flow)(s':abZ):Prop:=
 match f with
 | .next=>Ot X pins D.nx s'
 | .brk=>Ot X pins D.bk s'
 | .cont=>Ot X pins D.ct s'
 | .ret u=>SPr X pins D.rt u s'
def PE(X:Cx)(e:ab6)(t:TE):Prop:=
 ∀(pins:List (abX×Obj)) (s:abZ) (σ:St) (H:Hp) (Q:VK),Inv X pins σ H s->t σ H Q->ab4 (model X.prog X.w) X.A (eval e X.env) (EP X pins σ Q) X.xe s
def PT(X:Cx)(e:ab6)(t:TT):Prop:=
 ∀(pins:List (abX×Obj)) (s:abZ) (σ:St) (H:Hp) (Q:Bool->Hp->Prop),Inv X pins σ H s->t σ H Q->ab4 (model X.prog X.w) X.A (isTrue e X.env (eval e X.env)) (TP X pins σ Q) X.xe s
def PW(X:Cx)(e:ab6)(t:TT):Prop:=
 ∀(whole:Sem abY) (pins:List (abX×Obj)) (s:abZ) (σ:St) (H:Hp) (Q:Bool->Hp->Prop),Inv X pins σ H s->t σ H Q->ab4 (model X.prog X.w) X.A (isTrue e X.env whole) (TP X pins σ Q) X.xe s
def PA(X:Cx)(es:List ab6)(t:TA):Prop:=
 ∀(pos:Pos) (pins:List (abX×Obj)) (s:abZ) (σ:St) (H:Hp) (Q:List V->Hp->Prop),Inv X pins σ H s->t σ H Q->ab4 (model X.prog X.w) X.A (spliced (acO pos (ab2 es X.env))) (AP X pins σ Q) X.xe s
def PS(X:Cx)(st:acp)(t:TS):Prop:=
 ∀(pins:List (abX×Obj)) (s:abZ) (σ:St) (H:Hp) (D:Ends),Inv X pins σ H s->t D σ H->ab4 (model X.prog X.w) X.A (exec st X.env) (SP X pins D) X.xe s
def PSs(X:Cx)(st:List acp)(t:TS):Prop:=
 ∀(pins:List (abX×Obj)) (s:abZ) (σ:St) (H:Hp) (D:Ends),Inv X pins σ H s->t D σ H->ab4 (model X.prog X.w) X.A (execs st X.env) (SP X pins D) X.xe s
theorem thn{α:Type}{t:Sem α}{Q Q':α->abZ->Prop}(h:ab4 M A t Q E s)(hQ:∀a s,Q a s->Q' a s):ab4 M A t Q' E s:=ac1 h hQ λ_ _ x=>x
section
variable{X:Cx}
theorem bin{a b:ab6}{ta tb:TE}(ha:PE X a ta)(hb:PE X b tb){R:V->V->Hp->Prop}(I:Inv X pins σ H s)(h:ta σ H λx H1=>tb σ H1 λy H2=>R x y H2)
  {α:Type}{Q:α->abZ->Prop}{f:abY->abY->Sem α}
  (hf:∀v u s2 x y H2,Inv X pins σ H2 s2->RelV x v->RelV y u->R x y H2->ab4 (model X.prog X.w) X.A (f v u) Q X.xe s2):
  ab4 (model X.prog X.w) X.A (eval a X.env) (λv s₁=>ab4 (model X.prog X.w) X.A (eval b X.env) (λu s₂=>ab4 (model X.prog X.w) X.A (f v u) Q X.xe s₂) X.xe s₁) X.xe s:=by
 refine thn (ha pins s σ H _ I h) λv s1 bC=>?_;obtain⟨x,H1,I1,r1,q1⟩:=bC;refine thn (hb pins s1 σ H1 _ I1 q1) λu s2 bC=>?_;obtain⟨y,H2,I2,r2,q2⟩:=bC;exact hf v u s2 x y H2 I2 r1 r2 q2
def tVar(i:Nat):TE:=λσ H Q=>∃v,σ[i]?=some (some v)/\Q v H
def tC(v:V):TE:=λ_ H Q=>Q v H
theorem pe_var{i:Nat}{x:Str}{pos:Pos}(hN:X.N[i]?=some x)(hv:Vis X.env.scope x)(hd:(x ==("__debug__" :Str))=false:=by decide)(hcd:(x ==("__classdict__" :Str))=false:=by decide):PE X (.Name x pos) (tVar i):=by
 intro pins s σ H Q I h;obtain⟨v,e,h⟩:=h;obtain⟨m,hn,hl⟩:=I.loc;obtain⟨u,r,l⟩:=hl i x v hN e hv;have fin:EP X pins σ Q u s:=⟨v,H,I,r,h⟩;rcases l with⟨hk,hm⟩ |⟨hk,c,hc,hcell⟩
 ·exact wpAny_Name (wpAny_loadName_local I.ok.kind hk hn hm fin) hd
 ·rcases hk with hk |hk
  ·exact wpAny_Name (wpAny_loadName_cell I.ok.kind hk hc hcell fin) hd
  ·exact wpAny_Name (wpAny_loadName_free I.ok.kind hk hc hcell fin hcd) hd
theorem pe_int{i j pos}:PE X (.Constant (.int i) j pos) (tC (.int i)):=λ_ _ _ H _ I h=>wpAny_Constant_int ⟨.int i,H,I.tok _,⟨_,rfl⟩,h⟩
theorem pe_bl{b j pos}:PE X (.Constant (.bool b) j pos) (tC (.bl b)):=λ_ _ _ H _ I h=>Constant_bool ⟨.bl b,H,I,rfl,h⟩
theorem pe_non{j pos}:PE X (.Constant .none j pos) (tC .non):=λ_ _ _ H _ I h=>Constant_none ⟨.non,H,I,rfl,h⟩
theorem pe_str{x j pos}:PE X (.Constant (.str x) j pos) (tC (.str x)):=λ_ _ _ H _ I h=>afT ⟨.str x,H,I.tok _,⟨_,rfl⟩,h⟩
def Gl(X:Cx)(x:Str):Prop:=X.env.kindOf x=some .globalImplicit
theorem ld_glob{x:Str}{u:abY}{pos:Pos}{Q:abY->abZ->Prop}(I:Inv X pins σ H s)(hg:Gl X x)(hm:X.mg x=some u)(h:Q u s)
  (hd:(x ==("__debug__" :Str))=false:=by decide):ab4 (model X.prog X.w) X.A (eval (.Name x pos) X.env) Q E s:=
 afZ I.ok.kind hg (Calls.loadGlobal_global (by rw[I.ok.glob];exact I.mod.glob.keeps I.bk) hm h) hd
theorem ld_blt{x:Str}{u:abY}{pos:Pos}{Q:abY->abZ->Prop}(I:Inv X pins σ H s)(hg:Gl X x)(hm:X.mg x=none)(hv:adB x=some u)(h:Q u s)
  (hn:x≠"__name__" :=by decide)(hd:(x ==("__debug__" :Str))=false:=by decide):ab4 (model X.prog X.w) X.A (eval (.Name x pos) X.env) Q E s:=by
 obtain⟨mb,h1,h2⟩:=I.mod.blt;exact afZ I.ok.kind hg (Calls.loadGlobal_builtin (by rw[I.ok.glob];exact I.mod.glob.keeps I.bk) hm (by rw[I.ok.blt];exact h1.keeps I.bk) ((h2 x hn).trans hv) h) hd
theorem pe_glob{x:Str}{v:V}{u:abY}{pos:Pos}(hg:Gl X x)(hm:X.mg x=some u)(r:RelV v u)(hd:(x ==("__debug__" :Str))=false:=by decide):PE X (.Name x pos) (tC v):=
 λ_ _ _ H _ I h=>ld_glob I hg hm ⟨v,H,I,r,h⟩ hd
theorem pe_bltn{x:Str}{v:V}{u:abY}{pos:Pos}(hg:Gl X x)(hm:X.mg x=none)(hv:adB x=some u)(r:RelV v u)(hn:x≠"__name__" :=by decide)(hd:(x ==("__debug__" :Str))=false:=by decide):PE X (.Name x pos) (tC v):=
 λ_ _ _ H _ I h=>ld_blt I hg hm hv ⟨v,H,I,r,h⟩ hn hd
variable{a b:ab6}{ta tb:TE}{pos:Pos}
def PC(X:Cx)(op:CmpOp)(a b:ab6)(t:TE):Prop:=
 ∀(pins:List (abX×Obj)) (s:abZ) (σ:St) (H:Hp) (Q:VK),Inv X pins σ H s->t σ H Q->
  ab4 (model X.prog X.w) X.A (eval a X.env) (λv s₁=>ab4 (model X.prog X.w) X.A (eval b X.env) (λu s₂=>ab4 (model X.prog X.w) X.A (acr op v u) (EP X pins σ Q) X.xe s₂) X.xe s₁) X.xe s
theorem nobehind(b:ab6){op:CmpOp}(h:op≠.In)(h2:op≠.NotIn):adT op b=false:=by
 have e1:(op ==CmpOp.In)=false:=by cases op <;> first |rfl |exact absurd rfl h
 have e2:(op ==CmpOp.NotIn)=false:=by cases op <;> first |rfl |exact absurd rfl h2
 cases b <;> simp[adT,e1,e2]
def tB(t:TE):TT:=λσ H Q=>t σ H λx H1=>∃c,x= .bl c/\Q c H1
theorem pt_cmp{op:CmpOp}{t:TE}(h:PC X op a b t)(h1:adT op b=false:=by first |exact nobehind _ (by decide) (by decide) |rfl):PT X (.Compare a [op] [b] pos) (tB t):=by
 intro pins s σ H Q I hw;refine wpAny_isTrue_Compare1 (thn (h pins s σ H _ I hw) λv s1 h1=>thn h1 λu s2 h2=>thn h2 λc s3 ⟨x,H1,I1,r1,q1⟩=>?_) h1;obtain⟨d,rfl,q⟩:=q1;cases r1;exact ac4 ⟨H1,I1,q⟩
theorem pt_val{t:TE}(h:PE X e t)(he:∀whole,isTrue e X.env whole=(do let v <-whole;standAt e.pos;holding [v] (truthy v)):=by intro _;rfl):PT X e (tB t):=by
 intro pins s σ H Q I hw;refine isTrue_plain (thn (h pins s σ H _ I hw) λv s1 ⟨x,H1,I1,r1,q1⟩=>?_) (he _);obtain⟨d,rfl,q⟩:=q1;cases r1;exact ac4 ⟨H1,I1,q⟩
variable{tA tB':TT}{rest:List ab6}
def tAnd(t u:TT):TT:=λσ H Q=>t σ H λc H1=>if c=true then u σ H1 Q else Q false H1
def tOr(t u:TT):TT:=λσ H Q=>t σ H λc H1=>if c=true then Q true H1 else u σ H1 Q
def tNot(t:TT):TT:=λσ H Q=>t σ H λc H1=>Q (!c) H1
theorem pw_and1(ha:PT X a tA):PW X (.BoolOp .And [a] pos) tA:=by
 intro wh pins s σ H Q I h;refine isTrue_and (thn (ha pins s σ H Q I h) λc s1 e=>?_);cases c with
 |true=>exact isTrue_and_nil e
 |false=>exact e
theorem pw_or1(ha:PT X a tA):PW X (.BoolOp .Or [a] pos) tA:=by
 intro wh pins s σ H Q I h;refine isTrue_or (thn (ha pins s σ H Q I h) λc s1 e=>?_);cases c with
 |false=>exact isTrue_or_nil e
 |true=>exact e
theorem pw_and(ha:PT X a tA)(hb:PW X (.BoolOp .And (b::rest) pos) tB'):PW X (.BoolOp .And (a::b::rest) pos) (tAnd tA tB'):=by
 intro wh pins s σ H Q I h;refine isTrue_and (thn (ha pins s σ H _ I h) λc s1 bC=>?_);obtain⟨H1,I1,q1⟩:=bC;cases c with
 |true=>exact hb wh pins s1 σ H1 Q I1 q1
 |false=>exact⟨H1,I1,q1⟩
theorem pw_or(ha:PT X a tA)(hb:PW X (.BoolOp .Or (b::rest) pos) tB'):PW X (.BoolOp .Or (a::b::rest) pos) (tOr tA tB'):=by
 intro wh pins s σ H Q I h;refine isTrue_or (thn (ha pins s σ H _ I h) λc s1 bC=>?_);obtain⟨H1,I1,q1⟩:=bC;cases c with
 |true=>exact⟨H1,I1,q1⟩
 |false=>exact hb wh pins s1 σ H1 Q I1 q1
theorem pt_not(ha:PT X a tA):PT X (.UnaryOp .Not a pos) (tNot tA):=by
 intro pins s σ H Q I h;refine isTrue_not (thn (ha pins s σ H (λc H1=>Q (!c) H1) I h) λc s1 hz=>?_);obtain⟨H1,I1,q1⟩:=hz;exact⟨H1,I1,q1⟩
def tAndV(ta tb:TE):TE:=λσ H Q=>ta σ H λx H1=>∃c,x= .bl c/\if c=true then tb σ H1 Q else Q (.bl false) H1
def tNotV(ta:TE):TE:=λσ H Q=>ta σ H λx H1=>∃c,x= .bl c/\Q (.bl (!c)) H1
theorem pe_one{op}{t:TE}(h:PE X a t):PE X (.BoolOp op [a] pos) t:=λpins s σ H Q I hw=>BoolOp_one (h pins s σ H Q I hw)
theorem pe_and(ha:PE X a ta)(hb:PE X (.BoolOp .And (b::rest) pos) tb):PE X (.BoolOp .And (a::b::rest) pos) (tAndV ta tb):=by
 intro pins s σ H Q I h;refine BoolOp_and (thn (ha pins s σ H _ I h) λv s1 bC=>?_);obtain⟨x,H1,I1,r1,q1⟩:=bC;obtain⟨c,rfl,q1⟩:=q1;cases r1;refine ac4 ?_;cases c with
 |true=>exact hb pins s1 σ H1 Q I1 q1
 |false=>exact⟨.bl false,H1,I1,rfl,q1⟩
theorem pe_not(ha:PE X a ta):PE X (.UnaryOp .Not a pos) (tNotV ta):=by
 intro pins s σ H Q I h;refine UnaryOp_ (thn (ha pins s σ H _ I h) λv s1 bC=>?_);obtain⟨x,H1,I1,r1,q1⟩:=bC;obtain⟨c,rfl,q1⟩:=q1;cases r1;exact not_of (ac4 ⟨.bl (!c),H1,I1,rfl,q1⟩)
def tIf(t:TT)(ta tb:TE):TE:=λσ H Q=>t σ H λc H1=>if c=true then ta σ H1 Q else tb σ H1 Q
theorem pe_ifExp{c:ab6}(hc:PT X c tA)(ha:PE X a ta)(hb:PE X b tb):PE X (.IfExp c a b pos) (tIf tA ta tb):=by
 intro pins s σ H Q I h;refine wpAny_IfExp (thn (hc pins s σ H _ I h) λd s1 bC=>?_);obtain⟨H1,I1,q1⟩:=bC;cases d with
 |true=>exact ha pins s1 σ H1 Q I1 q1
 |false=>exact hb pins s1 σ H1 Q I1 q1
end
def SqL(K:PySem.W.Frag)(H:Hp)(a:abX)(xs:List V):Prop:=
 Rd H a (.lst xs)\/
  ∃(o:Obj) (its:Array abY) (n:Nat),K.lookup a=some o/\o.cls= .type "list"/\o.dict=none/\o.data= .seq its n/\its.size<=sizeLine/\Vals xs its.toList
def SqT(K:PySem.W.Frag)(H:Hp)(a:abX)(xs:List V):Prop:=
 Rd H a (.tup xs)\/
  ∃(o:Obj) (its:Array abY) (n:Nat),K.lookup a=some o/\o.cls= .type "tuple"/\o.dict=none/\o.data= .seq its n/\its.size<=sizeLine/\Vals xs its.toList
def absV:abY->Option V
 | .none=>some .non
 | .bool b=>some (.bl b)
 | .int i _=>some (.int i)
 | .str x _=>some (.str x)
 | .bytes b _=>some (.byt b)
 | .float b _=>some (.flt b)
 | .ref a=>some (.ref a)
 | .type n=>some (.ty n)
 |_=>none
theorem RelV.abs{x:V}{u:abY}(r:RelV x u):absV u=some x:=by
 cases x with
 |non=>cases r;rfl
 |bl _=>cases r;rfl
 |int _=>obtain⟨t,rfl⟩:=r;rfl
 |str _=>obtain⟨t,rfl⟩:=r;rfl
 |byt _=>obtain⟨t,rfl⟩:=r;rfl
 |flt _=>obtain⟨t,rfl⟩:=r;rfl
 |ref _=>cases r;rfl
 |ty _=>cases r;rfl
theorem RelV.inj{x y:V}{u:abY}(r:RelV x u)(q:RelV y u):x=y:=acj (r.abs.symm.trans q.abs)
theorem Vals.inj:∀{xs ys:List V} {us:List abY},Vals xs us->Vals ys us->xs=ys
 :=by
 intro xs ys us h
 induction h generalizing ys with
 |nil=>intro q;cases q;rfl
 |cons r t ih=>intro q;cases q with |cons r' t'=>rw[r.inj r',ih t']
section
variable{X:Cx}{pins:List (abX×Obj)}{σ:St}{H:Hp}{s:abZ}{a:abX}{xs ys:List V}
theorem SqL.of(h:H a=some (.lst xs)):SqL K H a xs:= .inl (.inl h)
theorem SqT.of(h:H a=some (.tup xs)):SqT K H a xs:= .inl (.inl h)
theorem Inv.list(I:Inv X pins σ H s)(h:SqL X.K H a xs):∃its:List abY,Vals xs its/\PlainL s.heap a its.toArray/\xs.length<=sizeLine:=by
 rcases h with h |⟨o,its,n,hk,hc,hd,hs,hz,r⟩
 ·obtain⟨z,its,n,r,e⟩:=h.ok I.hok;exact⟨its,r,⟨_,n,e,rfl,rfl,rfl⟩,z⟩
 ·refine⟨its.toList,r,⟨o,n,I.kIn a o hk,hc,hd,by simpa using hs⟩,?_⟩;have e:=r.length;simp only[ady] at e;omega
theorem Inv.tuple(I:Inv X pins σ H s)(h:SqT X.K H a xs):∃its:List abY,Vals xs its/\IsTup s.heap a its.toArray/\xs.length<=sizeLine:=by
 rcases h with h |⟨o,its,n,hk,hc,_,hs,hz,r⟩
 ·obtain⟨z,its,r,p⟩:=h.ok I.hok;exact⟨its,r,p.tup,z⟩
 ·refine⟨its.toList,r,⟨o,I.kIn a o hk,hc,n,by simpa using hs⟩,?_⟩;have e:=r.length;simp only[ady] at e;omega
theorem Inv.list_inj(I:Inv X pins σ H s)(h:SqL X.K H a xs)(h':SqL X.K H a ys):xs=ys:=by
 obtain⟨its,r,⟨o,n,e,_,_,d⟩,_⟩:=I.list h;obtain⟨its',r',⟨o',n',e',_,_,d'⟩,_⟩:=I.list h';rw[e] at e';cases e';rw[d] at d';injection d' with d1 _;have:its=its':=by simpa using congrArg Array.toList d1
 subst this;exact r.inj r'
theorem Inv.tuple_inj(I:Inv X pins σ H s)(h:SqT X.K H a xs)(h':SqT X.K H a ys):xs=ys:=by
 obtain⟨its,r,⟨o,e,_,n,d⟩,_⟩:=I.tuple h;obtain⟨its',r',⟨o',e',_,n',d'⟩,_⟩:=I.tuple h';rw[e] at e';cases e';rw[d] at d';injection d' with d1 _;have:its=its':=by simpa using congrArg Array.toList d1
 subst this;exact r.inj r'
end
abbrev Cx.wish(X:Cx)(E:abY->abZ->Prop):Cx:={X with xe:=E}
abbrev Cx.nox(X:Cx):Cx:=X.wish λ_ _=>False
theorem Cx.Ok.wish{X:Cx}(ok:X.Ok)(E:abY->abZ->Prop):(X.wish E).Ok:=
 ⟨ok.mod,ok.kind,ok.glob,ok.blt,ok.above,ok.inj,ok.has,ok.cab,ok.hd,ok.frames,ok.stk,ok.exf,ok.bs,ok.bsz,ok.noex,ok.exfs,ok.funs,ok.frf⟩
theorem Cx.Ok.unwish{X:Cx}(ok:(X.wish E).Ok):X.Ok:=
 ⟨ok.mod,ok.kind,ok.glob,ok.blt,ok.above,ok.inj,ok.has,ok.cab,ok.hd,ok.frames,ok.stk,ok.exf,ok.bs,ok.bsz,ok.noex,ok.exfs,ok.funs,ok.frf⟩
section
variable{X:Cx}{pins:List (abX×Obj)}{σ:St}{H:Hp}{s:abZ}{E:abY->abZ->Prop}
theorem Inv.wish(I:Inv X pins σ H s)(E:abY->abZ->Prop):Inv (X.wish E) pins σ H s:=⟨I.ok.wish E,I.os,I.bare,I.base,I.loc,I.cell,I.free,I.freeC,I.pin,I.hok,I.len⟩
theorem Inv.unwish(I:Inv (X.wish E) pins σ H s):Inv X pins σ H s:=⟨I.ok.unwish,I.os,I.bare,I.base,I.loc,I.cell,I.free,I.freeC,I.pin,I.hok,I.len⟩
theorem SP.unwish{D:Ends}{f:Flow}{s':abZ}(h:SP (X.wish E) pins D f s'):SP X pins D f s':=by
 cases f with
 |next=>obtain⟨σ',H',I,q⟩:=h;exact⟨σ',H',I.unwish,q⟩
 |brk=>obtain⟨σ',H',I,q⟩:=h;exact⟨σ',H',I.unwish,q⟩
 |cont=>obtain⟨σ',H',I,q⟩:=h;exact⟨σ',H',I.unwish,q⟩
 |ret u=>obtain⟨v,σ',H',I,r,q⟩:=h;exact⟨v,σ',H',I.unwish,r,q⟩
theorem PSs.nox{st:List acp}{t:TS}(h:PSs X.nox st t):PSs X st t:=λpins s σ H D I hw=>
 ac1 (h pins s σ H D (I.wish _) hw) (λ_ _ q=>q.unwish) λ_ _ z=>acL z
end
section
variable{X:Cx}{st:acp}{rest:List acp}{t u:TS}{e:ab6}{te:TE}{pos:Pos}
def tNext:TS:=λD σ H=>D.nx σ H
def tSeq(t u:TS):TS:=λD σ H=>t {D with nx:=u D} σ H
theorem pss_nil:PSs X [] tNext:=λ_ _ σ H _ I h=>aeM ⟨σ,H,I,h⟩
theorem pss_cons(h1:PS X st t)(h2:PSs X rest u):PSs X (st::rest) (tSeq t u):=by
 intro pins s σ H D I h;refine wpAny_execs_cons (thn (h1 pins s σ H {D with nx:=u D} I h) λf s1 q=>?_);cases f with
 | next=>
  obtain⟨σ',H',I',q⟩:=q;exact h2 pins s1 σ' H' D I' q
 |ret v=>exact q
 |brk=>exact q
 |cont=>exact q
theorem pss_one(h1:PS X st t):PSs X [st] t:=by
 intro pins s σ H D I h;refine wpAny_execs_cons (thn (h1 pins s σ H D I h) λf s1 q=>?_);cases f with
 |next=>exact aeM q
 |ret v=>exact q
 |brk=>exact q
 |cont=>exact q
theorem Inv.quiet(I:Inv X pins σ H s):interactive X.env=false:=by simp[interactive,I.ok.kind]
def tDrop(te:TE):TS:=λD σ H=>te σ H λ_ H1=>D.nx σ H1
theorem ps_expr(he:PE X e te)(hs:ae0 e none pos.line X.env=pure false:=by rfl):PS X (.Expr e pos) (tDrop te):=by
 intro pins s σ H D I h;exact wpAny_Expr_any (thn (he pins s σ H _ I h) λv s1 ⟨x,H1,I1,r1,q1⟩=>⟨σ,H1,I1,q1⟩) I.quiet hs
def tRet(te:TE):TS:=λD σ H=>te σ H D.rt
theorem ps_ret(he:PE X e te):PS X (.Return (some e) pos) (tRet te):=by
 intro pins s σ H D I h;exact wpAny_Return_some (thn (he pins s σ H _ I h) λv s1 ⟨x,H1,I1,r1,q1⟩=>⟨x,σ,H1,I1,r1,q1⟩)
def tIfS(c:TT)(t u:TS):TS:=λD σ H=>c σ H λb H1=>if b=true then t D σ H1 else u D σ H1
theorem ps_if{c:ab6}{a b:List acp}{tc:TT}(hc:PT X c tc)(ha:PSs X a t)(hb:PSs X b u):PS X (.If c a b pos) (tIfS tc t u):=by
 intro pins s σ H D I h;refine wpAny_If (thn (hc pins s σ H _ I h) λd s1 bC=>?_);obtain⟨H1,I1,q1⟩:=bC;cases d with
 |true=>exact ha pins s1 σ H1 D I1 q1
 |false=>exact hb pins s1 σ H1 D I1 q1
end
abbrev TG:=V->St->Hp->(St->Hp->Prop)->Prop
abbrev TGs:=List V->St->Hp->(St->Hp->Prop)->Prop
def PG(X:Cx)(target:ab6)(t:TG):Prop:=
 ∀(pins:List (abX×Obj)) (s:abZ) (σ:St) (H:Hp) (v:V) (u:abY) (Q:St->Hp->Prop),Inv X pins σ H s->RelV v u->t v σ H Q->
  ab4 (model X.prog X.w) X.A (assign target X.env u) (λ_ s'=>Ot X pins Q s') X.xe s
def PGs(X:Cx)(ts:List ab6)(t:TGs):Prop:=
 ∀(pins:List (abX×Obj)) (s:abZ) (σ:St) (H:Hp) (vs:List V) (us:List abY) (Q:St->Hp->Prop),Inv X pins σ H s->Vals vs us->t vs σ H Q->
  ab4 (model X.prog X.w) X.A (assignInOrder ((ad5 ts X.env).map (·.2)) us) (λ_ s'=>Ot X pins Q s') X.xe s
abbrev TIp:=V->V->Hp->VK->Prop
def PIp(X:Cx)(op:Operator)(t:TIp):Prop:=
 ∀(pins:List (abX×Obj)) (s:abZ) (σ:St) (H:Hp) (x y:V) (v u:abY) (Q:VK),Inv X pins σ H s->RelV x v->RelV y u->t x y H Q->
  ab4 (model X.prog X.w) X.A (inplaceOp op v u) (EP X pins σ Q) X.xe s
section
variable{X:Cx}{pos:Pos}
def gName(i:Nat):TG:=λv σ H Q=>Q (σ.set i (some v)) H
theorem pg_name{i:Nat}{x:Str}(hN:X.N.Nodup)(hi:X.N[i]?=some x)(hx:Loc X.env.scope x)(hf:X.fn x=true\/X.env.scope.names.lookup x=some .local:=by first |exact .inl rfl |exact .inr rfl |assumption):PG X (.Name x pos) (gName i):=by
 intro pins s σ H v u Q I r h;exact wpAny_assign_Name (store_ok I hN hi hx r (λs' I'=>⟨_,H,I',h⟩) hf)
def gNil:TGs:=λvs σ H Q=>vs=[]/\Q σ H
def gCons(t:TG)(u:TGs):TGs:=λvs σ H Q=>∃v r,vs=v::r/\t v σ H λσ' H'=>u r σ' H' Q
theorem pgs_nil:PGs X [] gNil:=by
 intro pins s σ H vs us Q I r h;obtain⟨e,h⟩:=h;subst e;cases r;exact assignInOrder_nil ⟨σ,H,I,h⟩
theorem pgs_cons{es:List ab6}{t:TG}{u:TGs}(h1:PG X e t)(h2:PGs X es u)
  (hs:(ad5 (e::es) X.env).map (·.2)=assign e X.env::(ad5 es X.env).map (·.2):=by rfl):PGs X (e::es) (gCons t u):=by
 intro pins s σ H vs us Q I r h;obtain⟨v,vr,e1,h⟩:=h;subst e1;cases r with
 | cons r rr=>
  rw[hs];refine afU (thn (h1 pins s σ H _ _ _ I r h) λ_ s1 bC=>?_);obtain⟨σ1,H1,I1,q1⟩:=bC;exact h2 pins s1 σ1 H1 _ _ Q I1 rr q1
def gTup(K:PySem.W.Frag)(n:Nat)(t:TGs):TG:=λv σ H Q=>∃a xs,v= .ref a/\SqT K H a xs/\xs.length=n/\t xs σ H Q
theorem pg_tup{es:List ab6}{t:TGs}{n:Nat}(hc:X.calm=true)(h:PGs X es t)
  (hn:(ad5 es X.env).length=n:=by rfl)(hst:(ad5 es X.env).findIdx? (·.1)=none:=by rfl):PG X (.Tuple es k pos) (gTup X.K n t):=by
 intro pins s σ H v u Q I r hw;obtain⟨a,xs,e1,hq,hl,hw⟩:=hw;subst e1;cases r;obtain⟨its,rv,ht,hz⟩:=I.tuple hq;refine assign_Tuple_tuple (I.ok.hd hc) ht (by simp[hn,<-hl,rv.length]) hst λh' hx=>?_;have I1:Inv X pins σ H {s with heap:=h'}:=I.kept (t':=s.toks) λb o e=>hx b o (acw (z2c e)) e;exact h pins _ σ H xs _ Q I1 (by simpa using rv) hw
def tAsg(te:TE)(g:TG):TS:=λD σ H=>te σ H λx H1=>g x σ H1 D.nx
theorem ps_asg{te:TE}{g:TG}(he:PE X e te)(hg:PG X tg g)(hs:aeE [tg] e pos.line X.env=pure false:=by rfl)(hw:aeF [tg] e X.env=pure none:=by rfl)
  (h1:(ad5 [tg] X.env).map (·.2)=[assign tg X.env]:=by rfl):PS X (.Assign [tg] e pos) (tAsg te g):=by
 intro pins s σ H D I h;refine wpAny_Assign_stores (thn (he pins s σ H _ I h) λv s1 ⟨x,H1,I1,r1,q1⟩=>?_) hs hw;rw[h1];exact thn (hg pins s1 σ H1 x v _ I1 r1 q1) λ_ s2 q=>q
theorem ps_set{i:Nat}{x:Str}{te:TE}{pos':Pos}(hN:X.N.Nodup)(hi:X.N[i]?=some x)(hx:Loc X.env.scope x)(he:PE X e te)(hs:ae0 e (some (.Name x pos')) pos.line X.env=pure false:=by rfl)(hf:X.fn x=true\/X.env.scope.names.lookup x=some .local:=by first |exact .inl rfl |exact .inr rfl |assumption):
  PS X (.Assign [.Name x pos'] e pos) (tAsg te (gName i)):=by
 intro pins s σ H D I h;refine wpAny_Assign_Name (thn (he pins s σ H _ I h) λv s1 ⟨y,H1,I1,r1,q1⟩=>?_) hs;exact store_ok I1 hN hi hx r1 (λs2 I2=>⟨_,H1,I2,q1⟩) hf
def tPar(i j:Nat)(ta:TA):TS:=λD σ H=>ta σ H λvs H1=>∃v w,vs=[v,w]/\D.nx ((σ.set i (some v)).set j (some w)) H1
theorem ps_par{i j:Nat}{x y:Str}{a b:ab6}{ta:TA}{px py pt:Pos}{kt k2 pt2}(hc:X.calm=true)(hN:X.N.Nodup)(hi:X.N[i]?=some x)(hj:X.N[j]?=some y)(hij:i≠j)
  (hx:X.env.scope.names.lookup x=some .local)(hy:X.env.scope.names.lookup y=some .local)(ha:PA X [a,b] ta)
  (hw:aeF [.Tuple [.Name x px,.Name y py] kt pt] (.Tuple [a,b] k2 pt2) X.env=pure (some [x,y]))
  (hs:aeE [.Tuple [.Name x px,.Name y py] kt pt] (.Tuple [a,b] k2 pt2) pos.line X.env=pure false:=by rfl):
  PS X (.Assign [.Tuple [.Name x px,.Name y py] kt pt] (.Tuple [a,b] k2 pt2) pos) (tPar i j ta):=by
 intro pins s σ H D I h;rw[exec_Assign_arm];refine abW (af0 ?_);rw[hs];refine abW (ab1 ?_);rw[if_neg (by decide)];refine abW (Tuple_ (thn (ha _ pins s σ H _ I h) λus s1 bC=>?_));obtain⟨vs,H1,I1,r1,q1⟩:=bC;obtain⟨v,w,e1,q1⟩:=q1;subst e1;obtain⟨u1,u2,rfl,rv,rw'⟩:∃u1 u2,us=[u1,u2]/\RelV v u1/\RelV w u2:=by
  cases r1 with
  | cons p q=>
   cases q with
   | cons p' q'=>
    cases q';exact⟨_,_,rfl,p,p'⟩
 refine ac5 ?_ (by show 2<=sizeLine;decide);have I2:Inv X pins σ H1 {s1 with heap:=s1.heap.push {cls:= .type "tuple",data:= .seq [u1,u2].toArray}}:=I1.kept (t':=s1.toks) λb o e=>z1a _ e;rw[hw];refine abW (ab1 ?_);show ab4 (model X.prog X.w) X.A (do rule "assign.swapped-stores";let items <-unpackItems (.ref s1.heap.objs.size) 2 none;assignInOrder [λv=>bindName X.env y v,λv=>bindName X.env x v] items.reverse;pure Flow.next) _ _ _;refine abW (ad6 (abW (unpackItems_tuple (items:= #[u1,u2]) (I.ok.hd hc) (IsTup.new s1.heap _) λh' hx'=>?_)));have I3:=I2.kept (h':=h') (t':=s1.toks) λb o e=>hx' b o (acw (z2c e)) e;show ab4 _ _ (assignInOrder [λv=>bindName X.env y v,λv=>bindName X.env x v] [u2,u1] >>=λ_=>pure Flow.next) _ _ _;refine abW (afU (wpAny_bindName (store_ok I3 hN hj (.inl hy) rw' (λs2 I4=>?_) (.inr hy))));refine afU (wpAny_bindName (store_ok I4 hN hi (.inl hx) rv (λs3 I5=>assignInOrder_nil (ab1 ?_)) (.inr hx)));rw[List.set_comm _ _ (acd hij)] at I5;exact⟨_,H1,I5,q1⟩
def tAug(i:Nat)(te:TE)(ti:TIp):TS:=λD σ H=>∃x,σ[i]?=some (some x)/\te σ H λy H1=>ti x y H1 λz H2=>D.nx (σ.set i (some z)) H2
theorem ps_aug{i:Nat}{x:Str}{te:TE}{op:Operator}{ti:TIp}{pos':Pos}(hN:X.N.Nodup)(hi:X.N[i]?=some x)(hx:Loc X.env.scope x)(he:PE X e te)(ho:PIp X op ti)(hf:X.fn x=true\/X.env.scope.names.lookup x=some .local:=by first |exact .inl rfl |exact .inr rfl |assumption):
  PS X (.AugAssign (.Name x pos') op e pos) (tAug i te ti):=by
 intro pins s σ H D I h;obtain⟨v,e1,h⟩:=h;obtain⟨m,hn,hl⟩:=I.loc;have vis:Vis X.env.scope x:=by rcases hx with k |k;exact .inl k;exact .inr (.inl k)
 obtain⟨u,r,l⟩:=hl i x v hi e1 vis;refine wpAny_AugAssign_Name ?_;have go:ab4 (model X.prog X.w) X.A (eval e X.env) (λw s₂=>ab4 (model X.prog X.w) X.A (inplaceOp op u w) (λr s₃=>ab4 (model X.prog X.w) X.A (adK X.env x r) (λ_=>SP X pins D .next) X.xe s₃) X.xe s₂) X.xe s:=by
  refine thn (he pins s σ H _ I h) λw s1 bC=>?_;obtain⟨y,H1,I1,r1,q1⟩:=bC;refine thn (ho pins s1 σ H1 v y u w _ I1 r r1 q1) λz s2 bC=>?_;obtain⟨zv,H2,I2,r2,q2⟩:=bC;exact store_ok I2 hN hi hx r2 (λs3 I3=>⟨_,H2,I3,q2⟩) hf
 rcases l with⟨hk,hm⟩ |⟨hk,c,hc,hcell⟩
 ·exact wpAny_loadName_local I.ok.kind hk hn hm go
 ·rcases hk with hk |hk
  ·exact wpAny_loadName_cell I.ok.kind hk hc hcell go
  ·rcases hx with k |k
   ·have:X.env.scope.names.lookup x=some .free:=hk;rw[k] at this;cases this
   ·have:X.env.scope.names.lookup x=some .free:=hk;rw[k] at this;cases this
def ipI(f:Int->Int->Int):TIp:=λx y H Q=>∃i j,x= .int i/\y= .int j/\Q (.int (f i j)) H
theorem ip_add:PIp X .Add (ipI λi j=>i+j):=by
 intro pins s σ H x y v u Q I r1 r2 h;obtain⟨i,j,e1,e2,q⟩:=h;subst e1;subst e2;obtain⟨t,rfl⟩:=r1;obtain⟨t',rfl⟩:=r2;exact iadd_int ⟨.int _,H,I.tok _,⟨_,rfl⟩,q⟩
end
section
variable{X:Cx}{pos:Pos}
def tWhile(c:TT)(tb:TS):TS:=λD σ H=>∃W:Nat->St->Hp->Prop,(∃m,W m σ H)/\∀m σ H,W m σ H->
 c σ H λb H1=>if b=true then ∃N:St->Hp->Prop,(∀σ' H',N σ' H'->∃m',m'<m/\W m' σ' H')/\tb {D with nx:=N,ct:=N,bk:=D.nx} σ H1 else D.nx σ H1
theorem ps_while{c:ab6}{tc:TT}{tb:TS}(hp:PassesOwn (model X.prog X.w) X.A X.env X.xe)(hc:PT X c tc)(hb:PSs X body tb):PS X (.While c body [] pos) (tWhile tc tb):=by
 intro pins s σ H D I h;obtain⟨W,⟨m0,w0⟩,turn⟩:=h;refine wpAny_While (codeAny_whileLoop (λn s'=>∃σ' H',Inv X pins σ' H' s'/\W n σ' H') ?_ m0 ⟨σ,H,I,w0⟩)
 rintro n s1 ⟨σ1,H1,I1,w1⟩
 refine adZ hp (thn (hc pins s1 σ1 H1 _ I1 (turn n σ1 H1 w1)) λb s2 bC=>?_);obtain⟨H2,I2,q2⟩:=bC;cases b with
 | true=>
  obtain⟨N,hN,q2⟩:=q2;rw[if_pos rfl];refine adZ hp (thn (hb pins s2 σ1 H2 _ I2 q2) λf s3 q3=>?_);cases f with
  | next=>
   obtain⟨σ3,H3,I3,n3⟩:=q3;obtain⟨m',hm,w3⟩:=hN σ3 H3 n3;exact⟨m',hm,σ3,H3,I3,w3⟩
  | cont=>
   obtain⟨σ3,H3,I3,n3⟩:=q3;obtain⟨m',hm,w3⟩:=hN σ3 H3 n3;exact⟨m',hm,σ3,H3,I3,w3⟩
  |brk=>exact q3
  |ret v=>exact q3
 | false=>
  rw[if_neg aci];exact aeM ⟨σ1,H2,I2,q2⟩
end
structure It where
 go:Nat->Hp->Prop
 yld:Nat->Hp->V->Hp->Prop
 stop:Nat->Hp->Prop
def FpOk(X:Cx)(pins:List (abX×Obj))(H:Hp)(b:abX):Prop:=
 H b=none/\b≠X.env.locals/\b∉X.fs/\(b∈X.ex\/X.s₀.heap.objs.size<=b)/\(∀x c,X.env.cells.lookup x=some c->c≠b)/\∀p∈X.pn++pins,p.1≠b
theorem Inv.fpOk{X:Cx}{H':Hp}{b:abX}(I:Inv X pins σ H s)(hb:s.heap.objs.size<=b)(hn:H' b=none):FpOk X pins H' b:=by
 refine⟨hn,agl (z0d I.lt hb),I.nofs hb,.inr (z0b I.sz hb),λx c e z=>?_,λp hp z=>?_⟩
 ·obtain⟨v,q⟩:=I.cell x c e;exact absurd (z0d q.lt (by rw[z];exact hb)) (acX _)
 ·exact absurd (z0d (z2c (I.pin p hp).1) (by rw[z];exact hb)) (acX _)
inductive WM (X:Cx) (pins:List (abX×Obj)) (σ:St) (H:Hp) (J:It) (tn:Nat->ace->Prop) (fp:List abX) (i:Nat) (u:abY) (s2:abZ):Prop
 |mk (x:V) (H':Hp) (I:Inv X pins σ H' s2) (r:RelV x u) (y:J.yld i H x H') (st:tn (i+1) s2.heap) (f:∀b∈fp,H' b=none):WM X pins σ H J tn fp i u s2
structure Turn(P:ab9)(w:acf)(K:PySem.W.Frag)(tg:ab6)(J:It)(fp:List abX)(it:abX)(tn:Nat->ace->Prop):Prop where
 mem:it∈fp
 obj:∀i h,tn i h->∀b∈fp,∃o,h.get? b=some o/\∀v,o.data≠.cell v
 keep:∀i h h',tn i h->(∀b∈fp,∀o,h.get? b=some o->h'.get? b=some o)->tn i h'
 item:∀(X:Cx),X.prog=P->X.w=w->X.K=K->X.calm=true->∀(i:Nat) (pins:List (abX×Obj)) (s:abZ) (σ:St) (H:Hp) (E:abY->abZ->Prop),Inv X pins σ H s->(∀b∈fp,FpOk X pins H b)->tn i s.heap->J.go i H->
  ab4 (model P w) X.A (pyNext (.ref it)) (λr s1=>∃u,r=some u/\
   ab4 (model P w) X.A (letOwnedTupleGo tg (.ref it) u) (λ_ s2=>WM X pins σ H J tn fp i u s2) E s1) E s
 done:∀(X:Cx),X.prog=P->X.w=w->X.K=K->X.calm=true->∀(i:Nat) (pins:List (abX×Obj)) (s:abZ) (σ:St) (H:Hp) (E:abY->abZ->Prop),Inv X pins σ H s->(∀b∈fp,FpOk X pins H b)->tn i s.heap->J.stop i H->
  ab4 (model P w) X.A (pyNext (.ref it)) (λr s1=>r=none/\Inv X pins σ H s1) E s
 self:∀(A:acg) (i:Nat) (s:abZ) (Q:abY->abZ->Prop) (E:abY->abZ->Prop),tn i s.heap->Q (.ref it) s->ab4 (model P w) A (pyIter (.ref it)) Q E s
abbrev TI:=St->Hp->(It->Hp->Prop)->Prop
inductive PIE (X:Cx) (pins:List (abX×Obj)) (σ:St) (tg:ab6) (R:It->Hp->Prop) (itv:abY) (s2:abZ):Prop
 |mk (it:abX) (fp:List abX) (tn:Nat->ace->Prop) (J:It) (H':Hp) (e:itv= .ref it) (I:Inv X pins σ H' s2) (T:Turn X.prog X.w X.K tg J fp it tn) (st:tn 0 s2.heap) (f:∀b∈fp,FpOk X pins H' b) (r:R J H'):PIE X pins σ tg R itv s2
def PI(X:Cx)(tg iter:ab6)(wi:TI):Prop:=
 ∀(pins:List (abX×Obj)) (s:abZ) (σ:St) (H:Hp) (R:It->Hp->Prop),Inv X pins σ H s->wi σ H R->
  ab4 (model X.prog X.w) X.A (eval iter X.env) (λv s1=>ab4 (model X.prog X.w) X.A (pyIter v) (PIE X pins σ tg R) X.xe s1) X.xe s
theorem go_of{it:abX}{u:abY}{o:Obj}{n:String}{vs:Array abY}(ho:s.heap.get? it=some o)(hc:o.cls= .type n)(hd:o.data= .fields vs)
  (hn:["enumerate","zip","dict_itemiterator","dict_reverseitemiterator","odict_iterator","itertools.zip_longest","itertools.pairwise"].contains n=false)(hQ:Q () s):ab4 M A (letOwnedTupleGo tg (.ref it) u) Q E s:=by
 unfold letOwnedTupleGo;cases tg <;> first
  |exact ab1 hQ
  | (cases u <;> first
    |exact ab1 hQ
    | (refine abW (wpAny_load ho ?_)
       rw[hc,hd];show ab4 M A (if (["enumerate","zip","dict_itemiterator","dict_reverseitemiterator","odict_iterator","itertools.zip_longest","itertools.pairwise"].contains n && vs[0]? ==some (acQ _))=true then _ else _) Q E s;rw[if_neg (by intro h;rw[hn,afN] at h;cases h)];exact ab1 hQ))
def Itl(K:PySem.W.Frag)(a:abX):It:=
 ⟨λi H=>∃xs x,SqL K H a xs/\xs[i]?=some x,λi H x H'=>H'=H/\∀xs,SqL K H a xs->xs[i]?=some x,λi H=>∃xs,SqL K H a xs/\xs.length<=i⟩
def Itt(K:PySem.W.Frag)(a:abX):It:=
 ⟨λi H=>∃xs x,SqT K H a xs/\xs[i]?=some x,λi H x H'=>H'=H/\∀xs,SqT K H a xs->xs[i]?=some x,λi H=>∃xs,SqT K H a xs/\xs.length<=i⟩
def Itr(lo:Int)(n:Nat):It:=⟨λi _=>i<n,λi H x H'=>H'=H/\x= .int (lo+i),λi _=>n<=i⟩
theorem turn_list(a it:abX):Turn P w K tg (Itl K a) [it] it (λi h=>h.IsListIter it a i) where
 mem:=by simp
 obj:=λi h st b hb=>by
  have e:b=it:=by simpa using hb
  subst e;obtain⟨o,e,c,d⟩:=st;exact⟨o,e,λv z=>by rw[d] at z;cases z⟩
 keep:=λi h h' st k=>st.at λo e=>k it (by simp) o e
 item:=by
  intro X hP hw hK hc i pins s σ H E I hf st hg;subst hP hw hK;obtain⟨xs,x,hq,hx⟩:=hg;obtain⟨its,rv,p,hz⟩:=I.list hq;obtain⟨u,hu,ru⟩:=rv.get hx;obtain⟨f0,f1,f2,f3,f4,f5⟩:=hf it (by simp);refine afj st p.isList (x:=u) (by simpa using hu) λh' st' sb=>?_;have I1:Inv X pins σ H {s with heap:=h'}:=I.turned (t':=s.toks) (λb o hb e=>(sb.2 b hb).trans e) f0 f1 f3 f4 f5;obtain⟨o,e,c,d⟩:=id st';exact⟨u,rfl,go_of (s:={s with heap:=h'}) e c d (by decide) ⟨x,H,I1,ru,⟨rfl,λys hy=>by rw[I.list_inj hy hq];exact hx⟩,st',λb hb=>(hf b hb).1⟩⟩
 done:=by
  intro X hP hw hK hc i pins s σ H E I hf st hg;subst hP hw hK;obtain⟨xs,hq,hx⟩:=hg;obtain⟨its,rv,p,hz⟩:=I.list hq;obtain⟨f0,f1,f2,f3,f4,f5⟩:=hf it (by simp);have hl:=rv.length;exact wpAny_pyNext_list_end (I.ok.hd hc) st p.isList (by simp;omega) λh' eb=>⟨rfl,I.turned (t':=s.toks) (λb o hb e=>eb b o hb e) f0 f1 f3 f4 f5⟩
 self:=λ_ _ _ _ _ st h=>wpAny_pyIter_listiter st h
theorem turn_tuple(a it:abX):Turn P w K tg (Itt K a) [it] it (λi h=>h.IsTupleIter it a i) where
 mem:=by simp
 obj:=λi h st b hb=>by
  have e:b=it:=by simpa using hb
  subst e;obtain⟨o,e,c,d⟩:=st;exact⟨o,e,λv z=>by rw[d] at z;cases z⟩
 keep:=λi h h' st k=>st.at λo e=>k it (by simp) o e
 item:=by
  intro X hP hw hK hc i pins s σ H E I hf st hg;subst hP hw hK;obtain⟨xs,x,hq,hx⟩:=hg;obtain⟨its,rv,p,hz⟩:=I.tuple hq;obtain⟨u,hu,ru⟩:=rv.get hx;obtain⟨f0,f1,f2,f3,f4,f5⟩:=hf it (by simp);refine wpAny_pyNext_tuple_item st (show s.heap.IsTuple a its.toArray from p) (x:=u) (by simpa using hu) λh' st' sb=>?_;have I1:Inv X pins σ H {s with heap:=h'}:=I.turned (t':=s.toks) (λb o hb e=>(sb.2 b hb).trans e) f0 f1 f3 f4 f5;obtain⟨o,e,c,d⟩:=id st';exact⟨u,rfl,go_of (s:={s with heap:=h'}) e c d (by decide) ⟨x,H,I1,ru,⟨rfl,λys hy=>by rw[I.tuple_inj hy hq];exact hx⟩,st',λb hb=>(hf b hb).1⟩⟩
 done:=by
  intro X hP hw hK hc i pins s σ H E I hf st hg;subst hP hw hK;obtain⟨xs,hq,hx⟩:=hg;obtain⟨its,rv,p,hz⟩:=I.tuple hq;obtain⟨f0,f1,f2,f3,f4,f5⟩:=hf it (by simp);have hl:=rv.length;exact wpAny_pyNext_tuple_end (I.ok.hd hc) st (show s.heap.IsTuple a its.toArray from p) (by simp;omega) λh' eb=>⟨rfl,I.turned (t':=s.toks) (λb o hb e=>eb b o hb e) f0 f1 f3 f4 f5⟩
 self:=λ_ _ _ _ _ st h=>wpAny_pyIter_tupleiter st h
theorem turn_range(it:abX)(lo:Int)(n:Nat):Turn P w K tg (Itr lo n) [it] it (λi h=>afR h it (lo+(i:Nat)*1) ((n:Int) - (i:Nat)) 1) where
 mem:=by simp
 obj :=λi h st b hb=>by
  have e:b=it:=by simpa using hb
  subst e;exact⟨_,st,λv z=>by
   have z':agD _=afV v:=z;cases z'⟩
 keep:=λi h h' st k=>k it (by simp) _ st
 item:=by
  intro X hP hw hK hc i pins s σ H E I hf st hg;subst hP hw hK;obtain⟨f0,f1,f2,f3,f4,f5⟩:=hf it (by simp);have W:=Walks.range (prog:=X.prog) (w:=X.w) (I.ok.hd hc) it lo 1 n;refine W.item i s _ _ hg st λv h' tk hv st' kk=>?_;obtain⟨t,rfl⟩:=hv;have I1:Inv X pins σ H {s with heap:=h',toks:=tk}:=I.turned (λb o hb e=>kk b o (by simpa using hb) e) f0 f1 f3 f4 f5;refine⟨_,rfl,go_of (s:={s with heap:=h',toks:=tk}) (n:= "range_iterator") st' rfl rfl (by decide) ⟨.int (lo+i),H,I1,⟨t,?_⟩,⟨rfl,rfl⟩,st',λb hb=>(hf b hb).1⟩⟩;rw[Int.mul_one]
 done:=by
  intro X hP hw hK hc i pins s σ H E I hf st hg;subst hP hw hK;obtain⟨f0,f1,f2,f3,f4,f5⟩:=hf it (by simp);exact wpAny_pyNext_range_end (I.ok.hd hc) st (by have:n<=i:=hg;omega) λh' eb=>⟨rfl,I.turned (t':=s.toks) (λb o hb e=>eb b o hb e) f0 f1 f3 f4 f5⟩
 self:=λ_ _ _ _ _ st h=>afk st h
section
variable{X:Cx}{tg:ab6}
theorem range_it{R:It->Hp->Prop}{lo hi:Int}{t u v:Tok}{tk:Nat}(I:Inv X pins σ H s)(h1: -(2^62)<=lo)(h2:lo<2^62)(h3: -(2^62)<=hi)(h4:hi<2^62)
  (q:R (Itr lo (hi - lo).toNat) H):ab4 (model X.prog X.w) X.A (pyIter (.ref s.heap.objs.size)) (PIE X pins σ tg R) E {s with heap:=s.heap.push {cls:= .type "range",data:= .fields #[.int lo t,.int hi u,.int 1 v]},toks:=tk}:=by
 refine wpAny_pyIter_range (IsRange.new ..) (small_one h1 h2 h3 h4) ?_;have I1:Inv X pins σ H {s with heap:=s.heap.push {cls:= .type "range",data:= .fields #[.int lo t,.int hi u,.int 1 v]},toks:=tk}:=I.kept λb o e=>z1a _ e;refine⟨(s.heap.push {cls:= .type "range",data:= .fields #[.int lo t,.int hi u,.int 1 v]}).objs.size,[(s.heap.push {cls:= .type "range",data:= .fields #[.int lo t,.int hi u,.int 1 v]}).objs.size],_,_,H,rfl,
  I1.kept (t':=tk) λb o e=>z1a _ e,turn_range _ lo (hi - lo).toNat,?_,λb hb=>?_,q⟩
 ·have e1:lo+((0:Nat):Int)*1=lo:=by simp
  have e2:(((hi - lo).toNat:Nat):Int) - ((0:Nat):Int)=afc lo hi 1:=by rw[rangeSize_one];split <;> omega
  show afR _ _ (lo+((0:Nat):Int)*1) ((((hi - lo).toNat:Nat):Int) - ((0:Nat):Int)) 1;rw[e1,e2];exact z1f _ rfl
 ·have e:b=(s.heap.push {cls:= .type "range",data:= .fields #[.int lo t,.int hi u,.int 1 v]}).objs.size:=by simpa using hb
  subst e;exact I1.fpOk (z0g _) (I1.hok.fresh (z0g _))
def iRng1(ta:TA):TI:=λσ H R=>ta σ H λvs H1=>∃j:Int,vs=[.int j]/\-(2^62)<=j/\j<2^62/\R (Itr 0 j.toNat) H1
theorem pi_range1{a:ab6}{ta:TA}{p pos:Pos}(hg:Gl X "range")(hm:X.mg "range" =none)(ha:PA X [a] ta)(hs:ab2 [a] X.env=[(false,eval a X.env)]:=by rfl):PI X tg (.Call (.Name "range" p) [a] [] pos) (iRng1 ta):=by
 intro pins s σ H R I h;refine Call_ (ld_blt I hg hm boot_range (ac2 (thn (ha pos pins s σ H _ I h) λus s1 ⟨vs,H1,I1,r1,q1⟩=>?_) hs rfl));obtain⟨j,e,q1,q2,q⟩:=q1;subst e;cases r1 with
 | cons r rr=>
  cases rr;obtain⟨t,rfl⟩:=r;exact call_range_1 (range_it I1 (by omega) (by omega) q1 q2 (by simpa using q))
def tFor(wi:TI)(g:TG)(tb:TS):TS:=λD σ H=>wi σ H λJ H1=>∃W:Nat->Nat->St->Hp->Prop,(∃m,W 0 m σ H1)/\∀i m σ H,W i m σ H->
 (J.stop i H/\D.nx σ H)\/(J.go i H/\∃N:St->Hp->Prop,(∀σ' H',N σ' H'->∃m',m'<m/\W (i+1) m' σ' H')/\∀x H',J.yld i H x H'->g x σ H' λσ2 H2=>tb {D with nx:=N,ct:=N,bk:=D.nx} σ2 H2)
def pinsAt(fp:List abX)(h:ace):List (abX×Obj):=fp.filterMap λb=>(h.get? b).map λo=>(b,o)
theorem mem_pinsAt{fp:List abX}{b:abX}{o:Obj}(hb:b∈fp)(e:h.get? b=some o):(b,o)∈pinsAt fp h:=afW.mpr ⟨b,hb,by rw[e];rfl⟩
theorem of_pinsAt{fp:List abX}{p:abX×Obj}(hp:p∈pinsAt fp h):p.1∈fp/\h.get? p.1=some p.2:=by
 obtain⟨b,hb,e⟩:=afW.mp hp;cases q:h.get? b with
 |none=>rw[q] at e;cases e
 | some o=>
  rw[q] at e;have e':(b,o)=p:=acj e;subst e';exact⟨hb,q⟩
theorem Inv.pinned{fp:List abX}(I:Inv X pins σ H s)(hf:∀b∈fp,FpOk X pins H b)(ho:∀b∈fp,∃o,s.heap.get? b=some o/\∀v,o.data≠.cell v):Inv X (pins++pinsAt fp s.heap) σ H s:=
 I.pins_of λp hp=>(ac9.mp hp).elim (λz=>I.pin p (acG _ z)) λz=>by
  obtain⟨hb,e⟩:=of_pinsAt z;obtain⟨f0,f1,f2,_⟩:=hf p.1 hb;obtain⟨o,e',d⟩:=ho p.1 hb;rw[e] at e';cases e';exact⟨e,f0,f1,f2,d⟩
theorem Inv.unpinned{pl:List (abX×Obj)}(I:Inv X (pins++pl) σ H s):Inv X pins σ H s:=I.pins_of λp hp=>I.pin p (acG _ (afy _ hp))
inductive Vm (X:Cx) (pins:List (abX×Obj)) (tn:Nat->ace->Prop) (fp:List abX) (W:Nat->Nat->St->Hp->Prop) (n:Nat) (s':abZ):Prop
 |mk (i:Nat) (σ':St) (H':Hp) (I:Inv X pins σ' H' s') (st:tn i s'.heap) (fr:∀b∈fp,H' b=none) (w:W i n σ' H'):Vm X pins tn fp W n s'
theorem ps_for{iter:ab6}{wi:TI}{g:TG}{tb:TS}{pos:Pos}(hp:PassesOwn (model X.prog X.w) X.A X.env X.xe)(hc:X.calm=true)(hi:PI X tg iter wi)(hg:PG X tg g)(hb:PSs X body tb)
  (hs:∀x,adQ iter X.env x=pure x:=by intro _;rfl):PS X (.For tg iter body [] pos) (tFor wi g tb):=by
 intro pins s σ H D I h;refine wpAny_For (thn (hi pins s σ H _ I h) λv s1 h1=>thn h1 λitv s2 h2=>?_) hs;obtain⟨it,fp,tn,J,H2,e,I2,T,st2,f2,W,⟨m0,w0⟩,turn⟩:=h2;subst e;have stat:∀{H':Hp},(∀b∈fp,H' b=none)->∀b∈fp,FpOk X pins H' b:=λhn b hb=>⟨hn b hb,(f2 b hb).2⟩;refine codeAny_forLoop_any (λn s'=>Vm X pins tn fp W n s') ?_ m0 ⟨0,σ,H2,I2,st2,λb hb=>(f2 b hb).1,w0⟩
 rintro n s3 ⟨i,σ3,H3,I3,st3,fr3,w3⟩
 rcases turn i n σ3 H3 w3 with⟨stop,qn⟩ |⟨go,N,hN,step⟩
 ·refine adZ hp (thn (T.done X rfl rfl rfl hc i pins s3 σ3 H3 X.xe I3 (stat fr3) st3 stop) λr s4 bC=>?_);obtain⟨hr,I4⟩:=bC;subst hr;exact aeM ⟨σ3,H3,I4,qn⟩
 ·refine adZ hp (thn (T.item X rfl rfl rfl hc i pins s3 σ3 H3 X.xe I3 (stat fr3) st3 go) λr s4 bC=>?_);obtain⟨u,hr,h4⟩:=bC;subst hr;refine adZ hp (thn h4 λ_ s5 bC=>?_);obtain⟨x,H5,I5,r5,y5,st5,fr5⟩:=bC;have I5':=I5.pinned (stat fr5) (T.obj _ _ st5);refine adZ hp (thn (hg _ s5 σ3 H5 x u _ I5' r5 (step x H5 y5)) λ_ s6 bC=>?_);obtain⟨σ6,H6,I6,q6⟩:=bC;refine adZ hp (thn (hb _ s6 σ6 H6 _ I6 q6) λf s7 q7=>?_);have again:∀{σ7:St} {H7:Hp},Inv X (pins++pinsAt fp s5.heap) σ7 H7 s7->N σ7 H7->∃m,m<n/\Vm X pins tn fp W m s7:=λ{σ7 H7} I7 n7=>by
   obtain⟨m',hm,w7⟩:=hN σ7 H7 n7;refine⟨m',hm,i+1,σ7,H7,I7.unpinned,T.keep _ _ _ st5 λb hb o e=>(I7.pin (b,o) (acG _ (acG _ (mem_pinsAt hb e)))).1,λb hb=>?_,w7⟩;obtain⟨o,e,d⟩:=T.obj _ _ st5 b hb;exact (I7.pin (b,o) (acG _ (acG _ (mem_pinsAt hb e)))).2.1
  cases f with
  |next=>obtain⟨σ7,H7,I7,n7⟩:=q7;exact again I7 n7
  |cont=>obtain⟨σ7,H7,I7,n7⟩:=q7;exact again I7 n7
  |brk=>obtain⟨σ7,H7,I7,q7⟩:=q7;exact⟨σ7,H7,I7.unpinned,q7⟩
  |ret v=>obtain⟨x7,σ7,H7,I7,r7,q7⟩:=q7;exact⟨x7,σ7,H7,I7.unpinned,r7,q7⟩
end
abbrev R2:=V->V->Hp->VK->Prop
def OpR(X:Cx)(f:abY->abY->Sem abY)(r:R2):Prop:=
 ∀(pins:List (abX×Obj)) (s:abZ) (σ:St) (H:Hp) (x y:V) (v u:abY) (Q:VK),Inv X pins σ H s->RelV x v->RelV y u->r x y H Q->
  ab4 (model X.prog X.w) X.A (f v u) (EP X pins σ Q) X.xe s
def UnR(X:Cx)(f:abY->Sem abY)(r:V->Hp->VK->Prop):Prop:=
 ∀(pins:List (abX×Obj)) (s:abZ) (σ:St) (H:Hp) (x:V) (v:abY) (Q:VK),Inv X pins σ H s->RelV x v->r x H Q->
  ab4 (model X.prog X.w) X.A (f v) (EP X pins σ Q) X.xe s
def CallR(X:Cx)(f:abY)(r:List V->Hp->VK->Prop):Prop:=
 ∀(pins:List (abX×Obj)) (s:abZ) (σ:St) (H:Hp) (xs:List V) (us:List abY) (Q:VK),Inv X pins σ H s->Vals xs us->r xs H Q->
  ab4 (model X.prog X.w) X.A (call f us) (EP X pins σ Q) X.xe s
def TruR(X:Cx)(r:V->Hp->(Bool->Hp->Prop)->Prop):Prop:=
 ∀(pins:List (abX×Obj)) (s:abZ) (σ:St) (H:Hp) (x:V) (v:abY) (Q:Bool->Hp->Prop),Inv X pins σ H s->RelV x v->r x H Q->
  ab4 (model X.prog X.w) X.A (truthy v) (TP X pins σ Q) X.xe s
def tOp(r:R2)(ta tb:TE):TE:=λσ H Q=>ta σ H λx H1=>tb σ H1 λy H2=>r x y H2 Q
def tUn(r:V->Hp->VK->Prop)(ta:TE):TE:=λσ H Q=>ta σ H λx H1=>r x H1 Q
def rI(C:Int->Int->Prop)(g:Int->Int->V):R2:=λx y H Q=>∃i j,x= .int i/\y= .int j/\C i j/\Q (g i j) H
def rI0(g:Int->Int->V):R2:=λx y H Q=>∃i j,x= .int i/\y= .int j/\Q (g i j) H
def rU(g:Int->V):V->Hp->VK->Prop:=λx H Q=>∃i,x= .int i/\Q (g i) H
section
variable{X:Cx}{a b c:ab6}{ta tb tc:TE}{pos:Pos}
theorem binT(ha:PE X a ta)(hb:PE X b tb){R:V->V->Hp->Prop}(I:Inv X pins σ H s)
  (h:ta σ H λx H1=>tb σ H1 λy H2=>R x y H2){Q:abY->abZ->Prop}
  (hf:∀v u s2 x y H2,Inv X pins σ H2 s2->RelV x v->RelV y u->R x y H2->ab4 (model X.prog X.w) X.A (f v u) Q X.xe s2):
  ab4 (model X.prog X.w) X.A (eval a X.env) (λv s₁=>ab4 (model X.prog X.w) X.A (eval b X.env) (λu s₂=>ab4 (model X.prog X.w) X.A (f v u) Q X.xe s₂) X.xe s₁) X.xe s:=by
 refine thn (ha pins s σ H _ I h) λv s1 bC=>?_;obtain⟨x,H1,I1,r1,q1⟩:=bC;refine thn (hb pins s1 σ H1 _ I1 q1) λu s2 bC=>?_;obtain⟨y,H2,I2,r2,q2⟩:=bC;exact hf v u s2 x y H2 I2 r1 r2 q2
theorem pe_op{op:Operator}(ho:OpR X (acJ op) r)(ha:PE X a ta)(hb:PE X b tb):PE X (.BinOp a op b pos) (tOp r ta tb):=by
 intro pins s σ H Q I h;exact wpAny_BinOp (binT ha hb I h λv u s2 x y H2 I2 rx ry q=>ho pins s2 σ H2 x y v u Q I2 rx ry q)
theorem pe_un{op:UnaryOp}{r:V->Hp->VK->Prop}(ho:UnR X (unaryOp op) r)(ha:PE X a ta):PE X (.UnaryOp op a pos) (tUn r ta):=by
 intro pins s σ H Q I h;exact UnaryOp_ (thn (ha pins s σ H _ I h) λv s1 ⟨x,H1,I1,r1,q1⟩=>ho pins s1 σ H1 x v Q I1 r1 q1)
theorem opI{C:Int->Int->Prop}{g:Int->Int->Int}
  (rule:∀(i j:Int) (t u:Tok) (s:abZ) (Q:abY->abZ->Prop) (E:abY->abZ->Prop),C i j->Q (.int (g i j) s.toks) {s with toks:=s.toks+1}->ab4 (model X.prog X.w) X.A (f (.int i t) (.int j u)) Q E s):
  OpR X f (rI C λi j=> .int (g i j)):=by
 intro pins s σ H x y v u Q I rx ry h;obtain⟨i,j,rfl,rfl,hc,q⟩:=h;obtain⟨t,rfl⟩:=rx;obtain⟨t',rfl⟩:=ry;exact rule i j t t' s _ _ hc ⟨.int (g i j),H,I.tok _,⟨_,rfl⟩,q⟩
theorem opI0{g:Int->Int->Int}
  (rule:∀(i j:Int) (t u:Tok) (s:abZ) (Q:abY->abZ->Prop) (E:abY->abZ->Prop),Q (.int (g i j) s.toks) {s with toks:=s.toks+1}->ab4 (model X.prog X.w) X.A (f (.int i t) (.int j u)) Q E s):
  OpR X f (rI0 λi j=> .int (g i j)):=by
 intro pins s σ H x y v u Q I rx ry h;obtain⟨i,j,rfl,rfl,q⟩:=h;obtain⟨t,rfl⟩:=rx;obtain⟨t',rfl⟩:=ry;exact rule i j t t' s _ _ ⟨.int (g i j),H,I.tok _,⟨_,rfl⟩,q⟩
theorem opB0{g:Int->Int->Bool}
  (rule:∀(i j:Int) (t u:Tok) (s:abZ) (Q:abY->abZ->Prop) (E:abY->abZ->Prop),Q (.bool (g i j)) s->ab4 (model X.prog X.w) X.A (f (.int i t) (.int j u)) Q E s):
  OpR X f (rI0 λi j=> .bl (g i j)):=by
 intro pins s σ H x y v u Q I rx ry h;obtain⟨i,j,rfl,rfl,q⟩:=h;obtain⟨t,rfl⟩:=rx;obtain⟨t',rfl⟩:=ry;exact rule i j t t' s _ _ ⟨.bl (g i j),H,I,rfl,q⟩
def CPow(i j:Int):Prop:=0<=j/\j<=1000000/\i.natAbs<2^64
def CMul(i j:Int):Prop:=(-(2^64)<i/\i<2^64)\/(-(2^64)<j/\j<2^64)
theorem CMul.ok{i j:Int}(h:CMul i j):IntMulOk i j:=by
 rcases h with⟨h1,h2⟩ |⟨h1,h2⟩
 ·exact .of_left (intBits_le_64 h1 h2)
 ·exact .of_right (intBits_le_64 h1 h2)
theorem op_add:OpR X (acJ .Add) (rI0 λi j=> .int (i+j)):=opI0 λ_ _ _ _ _ _ _ q=>add_int q
theorem op_sub:OpR X (acJ .Sub) (rI0 λi j=> .int (i - j)):=opI0 λ_ _ _ _ _ _ _ q=>sub_int q
theorem op_mul:OpR X (acJ .Mult) (rI CMul λi j=> .int (i*j)):=opI λ_ _ _ _ _ _ _ hc q=>mul_int q hc.ok
theorem op_mod:OpR X (acJ .Mod) (rI (λ_ j=>0<j) λi j=> .int (i % j)):=opI λi j _ _ _ _ _ hc q=>by
 have h1:(0:Int)<j:=hc;exact mod_int' (by omega) (by rw[Int.fmod_eq_emod_of_nonneg i (by omega)];exact q)
theorem op_pow:OpR X (acJ .Pow) (rI CPow λi j=> .int (i^j.toNat)):=opI λ_ _ _ _ _ _ _ hc q=>pow_int_small hc.1 hc.2.1 hc.2.2 q
theorem unI{f:abY->Sem abY}{g:Int->Int}
  (rule:∀(i:Int) (t:Tok) (s:abZ) (Q:abY->abZ->Prop) (E:abY->abZ->Prop),Q (.int (g i) s.toks) {s with toks:=s.toks+1}->ab4 (model X.prog X.w) X.A (f (.int i t)) Q E s):
  UnR X f (rU λi=> .int (g i)):=by
 intro pins s σ H x v Q I rx h;obtain⟨i,rfl,q⟩:=h;obtain⟨t,rfl⟩:=rx;exact rule i t s _ _ ⟨.int (g i),H,I.tok _,⟨_,rfl⟩,q⟩
theorem un_neg:UnR X (unaryOp .USub) (rU λi=> .int (-i)):=unI λ_ _ _ _ _ q=>neg_int q
end
section
variable{X:Cx}{a b c:ab6}{ta tb tc:TE}{pos:Pos}
theorem fin_bl{Q:VK}{k k':Bool}(I:Inv X pins σ H s)(q:Q (.bl k) H)(e:k=k'):EP X pins σ Q (.bool k') s:=by
 subst e;exact⟨.bl k,H,I,rfl,q⟩
theorem op_lt:OpR X (acr .Lt) (rI0 λi j=> .bl (decide (i<j))):=opB0 λ_ _ _ _ _ _ _ q=>lt_int q
theorem op_le:OpR X (acr .LtE) (rI0 λi j=> .bl (decide (i<=j))):=opB0 λ_ _ _ _ _ _ _ q=>le_int q
theorem op_gt:OpR X (acr .Gt) (rI0 λi j=> .bl (decide (j<i))):=opB0 λ_ _ _ _ _ _ _ q=>gt_int q
theorem op_ge:OpR X (acr .GtE) (rI0 λi j=> .bl (decide (j<=i))):=opB0 λ_ _ _ _ _ _ _ q=>ge_int q
theorem op_isN:OpR X (acr .Is) (λx y H Q=>y= .non/\Q (.bl (decide (x= .non))) H):=by
 intro pins s σ H x y v u Q I rx ry h;obtain⟨rfl,q⟩:=h;cases ry;refine is_none_gen (fin_bl I q ?_);cases x <;> first
  |(cases rx;rfl)
  |(obtain⟨t,rfl⟩:=rx;rfl)
theorem op_notN:OpR X (acr .IsNot) (λx y H Q=>y= .non/\Q (.bl (!decide (x= .non))) H):=by
 intro pins s σ H x y v u Q I rx ry h;obtain⟨rfl,q⟩:=h;cases ry;refine isnot_none_gen (fin_bl I q ?_);cases x <;> first
  |(cases rx;rfl)
  |(obtain⟨t,rfl⟩:=rx;rfl)
theorem OpR.or{r':R2}(h:OpR X f r)(h':OpR X f r'):OpR X f (λx y H Q=>r x y H Q\/r' x y H Q):=by
 intro pins s σ H x y v u Q I rx ry q;rcases q with q |q
 ·exact h pins s σ H x y v u Q I rx ry q
 ·exact h' pins s σ H x y v u Q I rx ry q
theorem nomark(b:ab6){op:CmpOp}(h:op≠.In:=by decide)(h2:op≠.NotIn:=by decide):adT op b=false:=by
 have e1:(op ==CmpOp.In)=false:=by cases op <;> first |rfl |exact absurd rfl h
 have e2:(op ==CmpOp.NotIn)=false:=by cases op <;> first |rfl |exact absurd rfl h2
 cases b <;> simp[adT,e1,e2]
theorem pe_cmpR{op:CmpOp}(ho:OpR X (acr op) r)(ha:PE X a ta)(hb:PE X b tb)(hm:adT op b=false):PE X (.Compare a [op] [b] pos) (tOp r ta tb):=by
 intro pins s σ H Q I h;exact wpAny_Compare1 (binT ha hb I h λv u s2 x y H2 I2 rx ry q=>ho pins s2 σ H2 x y v u Q I2 rx ry q) hm
def tTest(t:TE):TT:=λσ H Q=>t σ H λx H'=>∃k,x= .bl k/\Q k H'
theorem pt_cmpR{op:CmpOp}(ho:OpR X (acr op) r)(ha:PE X a ta)(hb:PE X b tb)(hm:adT op b=false):PT X (.Compare a [op] [b] pos) (tTest (tOp r ta tb)):=by
 intro pins s σ H Q I h;refine wpAny_isTrue_Compare1 (thn (ha pins s σ H _ I h) λv s1 ⟨x,H1,I1,r1,q1⟩=>thn (hb pins s1 σ H1 _ I1 q1) λu s2 ⟨y,H2,I2,r2,q2⟩=>
  thn (ho pins s2 σ H2 x y v u _ I2 r1 r2 q2) λc s3 ⟨z,H3,I3,r3,k,e,q3⟩=>?_) hm
 subst e;cases r3;exact ac4 ⟨H3,I3,q3⟩
def tChain(r r':R2)(ta tb tc:TE):TE:=λσ H Q=>ta σ H λx H1=>tb σ H1 λy H2=>r x y H2 λz H3=>∃k,z= .bl k/\
 (if k=true then tc σ H3 λw' H4=>r' y w' H4 Q else Q (.bl false) H3)
theorem pe_chain{op op':CmpOp}{r':R2}(ho:OpR X (acr op) r)(ho':OpR X (acr op') r')(ha:PE X a ta)(hb:PE X b tb)(hc:PE X c tc)
  (hm:lastMarks [op,op'] [b,c]=false:=by with_unfolding_all rfl):PE X (.Compare a [op,op'] [b,c] pos) (tChain r r' ta tb tc):=by
 intro pins s σ H Q I h;refine Compare_chain (thn (ha pins s σ H _ I h) λv s1 ⟨x,H1,I1,r1,q1⟩=>chain_link (thn (hb pins s1 σ H1 _ I1 q1) λu s2 ⟨y,H2,I2,r2,q2⟩=>
  thn (ho pins s2 σ H2 x y v u _ I2 r1 r2 q2) λd s3 ⟨z,H3,I3,r3,k,e,q3⟩=>?_)) hm
 subst e;cases r3;refine ac4 ?_;cases k with
 |false=>exact ite_ff ⟨.bl false,H3,I3,rfl,q3⟩
 |true=>exact ite_tt (chain_last (thn (hc pins s3 σ H3 _ I3 q3) λw' s4 ⟨z',H4,I4,r4,q4⟩=>ho' pins s4 σ H4 y z' u w' Q I4 r2 r4 q4))
theorem pt_chain{op op':CmpOp}{r':R2}(ho:OpR X (acr op) r)(ho':OpR X (acr op') r')(ha:PE X a ta)(hb:PE X b tb)(hc:PE X c tc)
  (hm:lastMarks [op,op'] [b,c]=false:=by with_unfolding_all rfl):PT X (.Compare a [op,op'] [b,c] pos) (tTest (tChain r r' ta tb tc)):=by
 intro pins s σ H Q I h;refine isTrue_chain (thn (ha pins s σ H _ I h) λv s1 ⟨x,H1,I1,r1,q1⟩=>test_link (thn (hb pins s1 σ H1 _ I1 q1) λu s2 ⟨y,H2,I2,r2,q2⟩=>
  thn (ho pins s2 σ H2 x y v u _ I2 r1 r2 q2) λd s3 ⟨z,H3,I3,r3,k,e,q3⟩=>?_)) hm
 subst e;cases r3;refine ac4 ?_;cases k with
 | false=>
  obtain⟨k',e',q'⟩:=q3;cases e';exact ite_ff ⟨H3,I3,q'⟩
 | true=>
  refine ite_tt (test_last (thn (hc pins s3 σ H3 _ I3 q3) λw' s4 ⟨z',H4,I4,r4,q4⟩=>thn (ho' pins s4 σ H4 y z' u w' _ I4 r2 r4 q4) λd' s5 bC=>?_));obtain⟨z2,H5,I5,r5,k2,e2,q5⟩:=bC;subst e2;cases r5;exact ac4 ⟨H5,I5,q5⟩
def TruV(K:PySem.W.Frag)(x:V)(H:Hp)(k:Bool):Prop:=
 match x with
 | .non=>k=false
 | .bl b=>k=b
 | .int i=>k=(i !=0)
 | .str y=>y.length<=sizeLine/\k=((y.length:Int) !=0)
 | .byt y=>y.size<=sizeLine/\k=((y.size:Int) !=0)
 | .ref p=>(∃xs,SqL K H p xs/\k= !xs.isEmpty)\/(∃xs,SqT K H p xs/\k= !xs.isEmpty)\/∃kvs,H p=some (.dK kvs)/\k= !kvs.isEmpty
 |_=>False
theorem isEmpty_kv{κ:Type}{kvs:List (κ×V)}{vs:List (κ×abY)}(r:KV kvs vs):(!vs.isEmpty)= !kvs.isEmpty:=by
 cases r <;> rfl
theorem isEmpty_of{xs:List V}{its:List abY}(r:Vals xs its):(!its.toArray.isEmpty)= !xs.isEmpty:=by
 cases r <;> simp
theorem line63:(sizeLine:Nat)<2^63:=by rw[ac6];decide
theorem tru_ok:TruR X (λx H Q=>∃k,TruV X.K x H k/\Q k H):=by
 intro pins s σ H x v Q I rx h;obtain⟨k,e,q⟩:=h;have hl:=line63;have hs:sizeLine=16777216:=ac6;cases x with
 | non=>
  cases rx;have e':k=false:=e;subst e';exact truthy_none ⟨H,I,q⟩
 | bl b=>
  cases rx;have e':k=b:=e;subst e';exact ac4 ⟨H,I,q⟩
 | int i=>
  obtain⟨t,rfl⟩:=rx;have e':k=(i !=0):=e;subst e';exact PySem.P.truthy_int ⟨H,I,q⟩
 | str y=>
  obtain⟨t,rfl⟩:=rx;obtain⟨hy,e'⟩:y.length<=sizeLine/\k=((y.length:Int) !=0):=e;subst e';exact PySem.P.truthy_str (by omega) ⟨H,I.tok _,q⟩
 | byt y=>
  obtain⟨t,rfl⟩:=rx;obtain⟨hy,e'⟩:y.size<=sizeLine/\k=((y.size:Int) !=0):=e;subst e';exact PySem.W.truthy_bytes (by omega) ⟨H,I.tok _,q⟩
 | ref p=>
  cases rx;have e':(∃xs,SqL X.K H p xs/\k= !xs.isEmpty)\/(∃xs,SqT X.K H p xs/\k= !xs.isEmpty)\/∃kvs,H p=some (.dK kvs)/\k= !kvs.isEmpty:=e;rcases e' with⟨xs,hx,e'⟩ |⟨xs,hx,e'⟩ |⟨kvs,hx,e'⟩
  ·subst e';obtain⟨its,r,pl,hz⟩:=I.list hx;have hlen:=r.length;exact wpAny_truthy_list pl.isList (by simp only[z1c];omega) ⟨H,I.tok _,by rw[isEmpty_of r];exact q⟩
  ·subst e';obtain⟨its,r,pl,hz⟩:=I.tuple hx;have hlen:=r.length;exact truthy_tuple pl (by simp only[z1c];omega) ⟨H,I.tok _,by rw[isEmpty_of r];exact q⟩
  ·subst e';obtain⟨hz,hS,vs,r,m⟩:kvs.length<=sizeLine/\(p ==sysModules)=false/\∃vs,KV kvs vs/\s.heap.DictOf (mixKind X.prog X.w) p vs:=I.hok p _ hx;have hlen:kvs.length=vs.length:=Paired.length r;exact wpAny_truthy_dict hS m (by omega) ⟨H,I.tok _,by rw[isEmpty_kv r];exact q⟩
 |_=>exact (show False from e).elim
theorem pt_truth(ha:PE X a ta)(he:∀whole,isTrue a X.env whole=(do let v <-whole;standAt a.pos;holding [v] (truthy v))):
  PT X a (λσ H Q=>ta σ H λx H'=>∃k,TruV X.K x H' k/\Q k H'):=by
 intro pins s σ H Q I h;exact isTrue_plain (thn (ha pins s σ H _ I h) λv s1 ⟨x,H1,I1,r1,q1⟩=>tru_ok pins s1 σ H1 x v Q I1 r1 q1) (he _)
theorem vals1{x:V}(r:Vals [x] us):∃u,us=[u]/\RelV x u:=by
 cases r with
 |cons r1 r2=>cases r2;exact⟨_,rfl,r1⟩
theorem vals2{x y:V}(r:Vals [x,y] us):∃u w',us=[u,w']/\RelV x u/\RelV y w':=by
 cases r with
 | cons r1 r2=>
  cases r2 with
  |cons r3 r4=>cases r4;exact⟨_,_,rfl,r1,r3⟩
theorem call_abs:CallR X (.builtin "abs") (λxs H Q=>∃i,xs=[.int i]/\Q (.int (if i<0 then -i else i)) H):=by
 intro pins s σ H xs us Q I r h;obtain⟨i,rfl,q⟩:=h;obtain⟨u,rfl,t,rfl⟩:=vals1 r;exact call_abs_int λu tk=>⟨.int (if i<0 then -i else i),H,I.tok _,⟨_,rfl⟩,q⟩
theorem call_max2(hc:X.calm=true):CallR X (.builtin "max") (λxs H Q=>∃i j,xs=[.int i,.int j]/\Q (.int (if j > i then j else i)) H):=by
 intro pins s σ H xs us Q I r h;obtain⟨i,j,rfl,q⟩:=h;obtain⟨u,w',rfl,⟨t,rfl⟩,⟨t',rfl⟩⟩:=vals2 r;refine max_two_ints (I.ok.hd hc) λh' tk k=>⟨_,H,I.kept k,?_,q⟩;by_cases hj:j > i
 ·rw[if_pos hj,if_pos hj];exact⟨_,rfl⟩
 ·rw[if_neg hj,if_neg hj];exact⟨_,rfl⟩
theorem call_min2(hc:X.calm=true):CallR X (.builtin "min") (λxs H Q=>∃i j,xs=[.int i,.int j]/\Q (.int (if j<i then j else i)) H):=by
 intro pins s σ H xs us Q I r h;obtain⟨i,j,rfl,q⟩:=h;obtain⟨u,w',rfl,⟨t,rfl⟩,⟨t',rfl⟩⟩:=vals2 r;refine min_two_ints (I.ok.hd hc) λh' tk k=>⟨_,H,I.kept k,?_,q⟩;by_cases hj:j<i
 ·rw[if_pos hj,if_pos hj];exact⟨_,rfl⟩
 ·rw[if_neg hj,if_neg hj];exact⟨_,rfl⟩
end
section
variable{prog:ab9}{w:acf}{A:acg}{E:abY->abZ->Prop}{s:abZ}{K:PySem.W.Frag}{x dx C f:abX}{mA:Str->Option abY}{name:Str}{v:abY}
end
section
variable{P:ab9}{w:acf}{H H':Hp}{h h':ace}{a C dx:abX}{fs fs':List (Str×V)}
end
section
variable{X:Cx}{pins:List (abX×Obj)}{σ:St}{H:Hp}{s:abZ}{a C dx:abX}{fs:List (Str×V)}{f:Str}{v:V}{A:acg}{E:abY->abZ->Prop}
end
section
variable{X:Cx}{o e value:ab6}{f:Str}{pos pos' tpos:Pos}{ta tv:TE}
end
section
variable{X:Cx}{pins:List (abX×Obj)}{σ:St}{H:Hp}{s:abZ}{A:acg}{E:abY->abZ->Prop}{Q:abY->abZ->Prop}{c:abY}{b:Bool}
end
structure Room(k:Nat)(A:acg):Prop where
 hd:A.handled=none
 dp:A.depth+3*k+5<recursionLimit
 un:A.units+16*k+200<adn
theorem Room.mono{j:Nat}(r:Room k A)(h:j<=k):Room j A:=⟨r.hd,by have:=r.dp;omega,by have:=r.un;omega⟩
theorem Room.deeper(r:Room (k+1) A)(env:Env):Room k (A.deeper env):=
 ⟨r.hd,by have:=r.dp;show A.depth+1+3*k+5<_;omega,by have:=r.un;show A.units+3+16*k+200<_;omega⟩
theorem Room.depth(r:Room k A):A.depth<recursionLimit:=by have:=r.dp;omega
def tNil:TA:=λ_ H Q=>Q [] H
def tCons(ta:TE)(tr:TA):TA:=λσ H Q=>ta σ H λx H1=>tr σ H1 λxs H2=>Q (x::xs) H2
section
variable{X:Cx}{e:ab6}{es:List ab6}{te:TE}{t:TA}{pos:Pos}
theorem pa_nil:PA X [] tNil:=λ_ _ _ _ H Q I h=>Calls.spliced_nil ⟨[],H,I,.nil,h⟩
theorem pa_cons(ha:PE X e te)(hr:PA X es t)(hs:ab2 (e::es) X.env=(false,eval e X.env)::ab2 es X.env:=by rfl):PA X (e::es) (tCons te t):=by
 intro pos pins s σ H Q I h;rw[hs];show ab4 _ _ (spliced ((false,eval e X.env)::acO pos (ab2 es X.env))) _ _ s;refine Calls.spliced_cons (thn (ha pins s σ H _ I h) λu s1 bC=>?_);obtain⟨x,H1,I1,r1,q1⟩:=bC;refine thn (hr pos pins s1 σ H1 _ I1 q1) λus s2 bC=>?_;obtain⟨xs,H2,I2,r2,q2⟩:=bC;exact⟨x::xs,H2,I2,.cons r1 r2,q2⟩
def tTup(t:TA):TE:=λσ H Q=>t σ H λxs H1=>xs.length<=sizeLine/\∀p,H1 p=none->Q (.ref p) (upd H1 p (.tup xs))
def tLst(t:TA):TE:=λσ H Q=>t σ H λxs H1=>xs.length<=sizeLine/\∀p,H1 p=none->Q (.ref p) (upd H1 p (.lst xs))
theorem pe_tup{x1}(h:PA X es t):PE X (.Tuple es x1 pos) (tTup t):=by
 intro pins s σ H Q I hq;refine wpAny_Tuple_spliced (thn (h pos pins s σ H _ I hq) λus s1 ⟨xs,H1,I1,r,z,q⟩=>⟨by rw[<-r.length];exact z,?_⟩);have hf:H1 s1.heap.objs.size=none:=I1.hok.fresh (z0g _);refine⟨.ref s1.heap.objs.size,upd H1 s1.heap.objs.size (.tup xs),I1.laid (t':=s1.toks) (λb u e=>z1a _ e) (z0g _) ?_,rfl,q _ hf⟩;exact⟨z,us,r,⟨_,z1f _ rfl,rfl,rfl,_,rfl⟩⟩
theorem pe_lst(h:PA X es t):PE X (.List es pos) (tLst t):=by
 intro pins s σ H Q I hq;refine wpAny_List_spliced (thn (h pos pins s σ H _ I hq) λus s1 ⟨xs,H1,I1,r,z,q⟩=>⟨by rw[<-r.length];exact z,?_⟩);have hf:H1 s1.heap.objs.size=none:=I1.hok.fresh (z0g _);refine⟨.ref s1.heap.objs.size,upd H1 s1.heap.objs.size (.lst xs),I1.laid (t':=s1.toks) (λb u e=>z1a _ e) (z0g _) ?_,rfl,q _ hf⟩;exact⟨z,us,0,r,z1f _ rfl⟩
end
abbrev Sp:=List V->Hp->VK->XK->Prop
abbrev CXT:=List Env->Hp->abZ->XK->abY->abZ->Prop
structure Env0(P:ab9)(w:acf)(K:PySem.W.Frag)(mg:Str->Option abY)(base:ace)(A:acg)(outer:List Env)(s:abZ)(H:Hp):Prop where
 frames:A.frames=some outer
 mod:Mod K mg base
 bs:∀b o,base.get? b=some o->s.heap.get? b=some o/\H b=none
 bsz:base.objs.size<=s.heap.objs.size
 funs:s.heap.FunFrames base outer
 frf:∀b∈frs outer,H b=none
 hok:HOk P w H s.heap
 bare:aew s.gens
inductive CE (outer:List Env) (P:ab9) (w:acf) (H:Hp) (s:abZ) (Q:VK) (u:abY) (s':abZ):Prop
 |mk (v:V) (H':Hp) (os:s'.os=s.os) (bare:aew s'.gens) (un:Un (frs outer) [] H H' s.heap s'.heap) (hok:HOk P w H' s'.heap) (r:RelV v u) (q:Q v H'):CE outer P w H s Q u s'
def CR(CX:CXT)(outer:List Env)(P:ab9)(w:acf)(H:Hp)(s:abZ)(Q:VK)(E:XK)(r:Result)(s':abZ):Prop:=
 match r with
 | .ok (.ret u)=>CE outer P w H s Q u s'
 | .ok _=>False
 | .error e=>CX outer H s E e s'
structure FnOk(P:ab9)(w:acf)(K:PySem.W.Frag)(mg:Str->Option abY)(base:ace)(CX:CXT)(k:Nat)(f:abX)(fd:acK)(ps:List Str)(sp:Sp):Prop where
 len:∀vs H Q E,sp vs H Q E->vs.length=ps.length
 run:∀(A:acg) (outer:List Env) (s:abZ) (H:Hp) (args:Args) (us:List abY) (vs:List V) (Q:VK) (E:XK),Room k A->Env0 P w K mg base A outer s H->ae9 s fd args (ps.zip us)->Vals vs us->sp vs H Q E->
  aeI (model P w) A (.call (.ref f) args) (CR CX outer P w H s Q E) s
theorem FnOk.mono{j:Nat}{f:abX}{fd:acK}{sp:Sp}(F:FnOk P w K mg base CX j f fd ps sp)(h:j<=k):
  FnOk P w K mg base CX k f fd ps sp:=⟨F.len,λA outer s H args us vs Q E hr=>F.run A outer s H args us vs Q E (hr.mono h)⟩
section
variable{X:Cx}{pins:List (abX×Obj)}{σ:St}{H:Hp}{s s':abZ}
theorem Inv.env0(I:Inv X pins σ H s):Env0 X.prog X.w X.K X.mg X.base X.A X.stack s H:=
 ⟨I.ok.frames,I.ok.mod,I.bs,z0b I.ok.bsz I.sz,I.stack,I.stkFree,I.hok,I.bare⟩
theorem Inv.after{Q:VK}{u:abY}(I:Inv X pins σ H s)(h:CE X.stack X.prog X.w H s Q u s'):EP X pins σ Q u s':=by
 obtain⟨v,H',os,bare,un,hok,r,q⟩:=h;obtain⟨hh,g,d,t,os'⟩:=s';obtain rfl:os'=s.os:=os;exact⟨v,H',I.call (h':=hh) (g':=g) (d':=d) (t':=t) (ch:=[]) un hok bare (λb z=>absurd z (by simp)),r,q⟩
end
def tCall(sp:Sp)(dvs:List V)(E:XK)(t:TA):TE:=λσ H Q=>t σ H λvs H1=>sp (vs++dvs) H1 Q E
def Binds(K:PySem.W.Frag)(fd:acK)(ps:List Str)(ds:List abY):Prop:=
 ∀(s:abZ) (us:List abY),K.In s.heap->(us++ds).length=ps.length->ae9 s fd ⟨us,[]⟩ (ps.zip (us++ds))
theorem Binds.all{fd:acK}(h:∀us:List abY,us.length=ps.length->adU fd ⟨us,[]⟩=pure (ps.zip us)):Binds K fd ps []:=λs us _ hl=>by
 rw[acE] at hl |-;exact .of_eq (h us hl)
def Passes(CX:CXT)(X:Cx)(E:XK):Prop:=∀(pins:List (abX×Obj)) (σ:St) (H:Hp) (s:abZ) (e:abY) (s':abZ),Inv X pins σ H s->CX X.stack H s E e s'->X.xe e s'
section
variable{X:Cx}{CX:CXT}{k:Nat}{f C:abX}{fd:acK}{ps:List Str}{sp:Sp}{dvs:List V}{ds:List abY}{E:XK}{x m:Str}{p pos apos:Pos}{e o:ab6}{es:List ab6}{ta:TE}{t:TA}
theorem run_fn{Q:VK}{vs:List V}(F:FnOk X.prog X.w X.K X.mg X.base CX k f fd ps sp)(hr:Room k X.A)(hb:Binds X.K fd ps ds)(hd:Vals dvs ds)(hx:Passes CX X E)
  (I:Inv X pins σ H s)(r:Vals vs us)(h:sp (vs++dvs) H Q E):ab4 (model X.prog X.w) X.A (call (.ref f) us) (EP X pins σ Q) X.xe s:=by
 have r2:Vals (vs++dvs) (us++ds):=r.append hd;have hl:(us++ds).length=ps.length:=by rw[<-r2.length];exact F.len _ _ _ _ h
 refine afz (aex (F.run X.A X.stack s H ⟨us,[]⟩ (us++ds) (vs++dvs) Q E hr I.env0 (hb s us I.kIn hl) r2 h) λr s' hq=>?_);cases r with
 |error e=>exact hx pins σ H s e s' I hq
 | ok fl=>
  cases fl with
  |ret u=>exact I.after hq
  |next=>exact acL hq
  |brk=>exact acL hq
  |cont=>exact acL hq
theorem pe_call(F:FnOk X.prog X.w X.K X.mg X.base CX k f fd ps sp)(hr:Room k X.A)(hg:Gl X x)(hm:X.mg x=some (.ref f))(hk:PySem.W.keepIn X.K (.ref f)=true)(hb:Binds X.K fd ps ds)(hd:Vals dvs ds)(hx:Passes CX X E)
  (ha:PA X (e::es) t)(hdb:(x ==("__debug__" :Str))=false:=by decide)(he:ab2 (e::es) X.env=(false,eval e X.env)::ab2 es X.env:=by rfl)(hpl:(acO pos (ab2 es X.env)).any (·.1)=false:=by rfl):
  PE X (.Call (.Name x p) (e::es) [] pos) (tCall sp dvs E t):=by
 intro pins s σ H Q I h;refine adL (ld_glob I hg hm ?_ hdb);refine PySem.W.callWith_K (h₀:=X.base) I.ok.mod.kin hk (thn (ha pos pins s σ H _ I h) λus s1 ⟨vs,H1,I1,r,q⟩=>⟨I1.kIn,?_⟩) he hpl;exact run_fn F hr hb hd hx I1 r q
end
def PK(X:Cx)(kws:List ad0)(t:TA):Prop:=
 ∀(pos:Pos) (pins:List (abX×Obj)) (s:abZ) (σ:St) (H:Hp) (Q:List V->Hp->Prop),Inv X pins σ H s->t σ H Q->ab4 (model X.prog X.w) X.A (evalAll ((ae1 pos (aea kws X.env)).map (·.2))) (AP X pins σ Q) X.xe s
section
variable{X:Cx}{CX:CXT}{k:Nat}{f C:abX}{fd:acK}{ps ks:List Str}{sp:Sp}{E:XK}{x m:Str}{p pos apos kpos:Pos}{e o:ab6}{es:List ab6}{kws:List ad0}{te ta:TE}{t tk:TA}{nm:Option Str}
theorem pk_nil:PK X [] tNil:=λ_ _ _ _ H Q I h=>wpAny_evalAll_nil ⟨[],H,I,.nil,h⟩
theorem pk_cons(ha:PE X e te)(hr:PK X kws t):PK X (⟨nm,e,kpos⟩::kws) (tCons te t):=by
 intro pos pins s σ H Q I h;show ab4 _ _ (evalAll ((do let v <-eval e X.env;standAt pos;pure v)::(ae1 pos (aea kws X.env)).map (·.2))) _ _ s;refine wpAny_evalAll_cons (abW (thn (ha pins s σ H _ I h) λu s1 ⟨x,H1,I1,r1,q1⟩=>abW (af0 (ab1 ?_))));refine thn (hr pos pins s1 σ H1 _ I1 q1) λus s2 bC=>?_;obtain⟨xs,H2,I2,r2,q2⟩:=bC;exact⟨x::xs,H2,I2,.cons r1 r2,q2⟩
variable{g:List abY->List abY->List abY}{gV:List V->List V->List V}
end
structure FnScope(N P:List Str)(sc:adA):Prop where
 kind:sc.kind= .function
 co:sc.isCoroutine=false
 gen:sc.isGenerator=false
 nd:N.Nodup
 pre:N.take P.length=P
 par:∀x∈P,sc.names.lookup x=some .local\/sc.names.lookup x=some .cell
 nofree:∀y∈sc.names,y.2≠.free
theorem bindL_out{kindOf:Str->Option aed}{x:Str}:∀{binds:List (Str×abY)} {m:Str->Option abY},(∀v,(x,v)∉binds)->bindL kindOf binds m x=m x
 |[],_,_=>rfl
 | (n,v)::r,m,h=>by
  unfold bindL;rw[bindL_out λw hw=>h w (z2f _ hw)];split
  ·have:x≠n:=by rintro rfl;exact h v acq
   simp[this]
  ·rfl
theorem bindC_out{kindOf:Str->Option aed}{x:Str}:∀{binds:List (Str×abY)} {m:Str->Option abY},(∀v,(x,v)∉binds)->bindC kindOf binds m x=m x
 |[],_,_=>rfl
 | (n,v)::r,m,h=>by
  unfold bindC;rw[bindC_out λw hw=>h w (z2f _ hw)];split
  ·rfl
  ·have:x≠n:=by rintro rfl;exact h v acq
   simp[this]
theorem bindL_get{kindOf:Str->Option aed}{x:Str}{v:abY}:∀{P:List Str} {vs:List abY} {i:Nat} {m:Str->Option abY},P.Nodup->P[i]?=some x->vs[i]?=some v->kindOf x=some .local->
  bindL kindOf (P.zip vs) m x=some v
 |[],_,_,_,_,h,_,_=>by simp at h
 |_::_,[],_,_,_,_,h,_=>by simp at h
 | p::P,w::vs,0,m,nd,h1,h2,hk=>by
  simp at h1 h2;subst h1;subst h2;show bindL kindOf ((p,w)::P.zip vs) m p=_;unfold bindL;rw[bindL_out λv hv=>(aeN.mp nd).1 (afA hv).1,if_pos hk];simp
 | p::P,w::vs,i+1,m,nd,h1,h2,hk=>by
  show bindL kindOf ((p,w)::P.zip vs) m x=_;unfold bindL;exact bindL_get (i:=i) (aeN.mp nd).2 (by simpa using h1) (by simpa using h2) hk
theorem bindC_get{kindOf:Str->Option aed}{x:Str}{v:abY}:∀{P:List Str} {vs:List abY} {i:Nat} {m:Str->Option abY},P.Nodup->P[i]?=some x->vs[i]?=some v->kindOf x≠some .local->
  bindC kindOf (P.zip vs) m x=some v
 |[],_,_,_,_,h,_,_=>by simp at h
 |_::_,[],_,_,_,_,h,_=>by simp at h
 | p::P,w::vs,0,m,nd,h1,h2,hk=>by
  simp at h1 h2;subst h1;subst h2;show bindC kindOf ((p,w)::P.zip vs) m p=_;unfold bindC;rw[bindC_out λv hv=>(aeN.mp nd).1 (afA hv).1,if_neg hk];simp
 | p::P,w::vs,i+1,m,nd,h1,h2,hk=>by
  show bindC kindOf ((p,w)::P.zip vs) m x=_;unfold bindC;exact bindC_get (i:=i) (aeN.mp nd).2 (by simpa using h1) (by simpa using h2) hk
def start(N:List Str)(vs:List V):St:=vs.map some++ab3 (N.length - vs.length) none
def cxOf(CX:CXT)(P:ab9)(w:acf)(K:PySem.W.Frag)(mg:Str->Option abY)(base:ace)(N:List Str)(qual:Str)(scope:adA)(f:abX)(cd:abY)(A:acg)(outer:List Env)(s:abZ)(H:Hp)(E:XK):Cx where
 prog:=P
 w:=w
 K:=K
 mg:=mg
 base:=base
 A:=A.deeper (adF qual scope s.heap.objs.size f cd)
 N:=N
 s₀:=s
 H₀:=H
 env:=adF qual scope s.heap.objs.size f cd
 outer:=outer
 stack:=adF qual scope s.heap.objs.size f cd::outer
 ex:=[]
 calm:=true
 fn:=λ_=>true
 pn:=[]
 xe:=λe s'=>ab4 (model P w) (A.deeper (adF qual scope s.heap.objs.size f cd)) (leaving (adF qual scope s.heap.objs.size f cd) e) (λ_ s''=>CX outer H s E e s'') (λe' s''=>CX outer H s E e' s'') s'
theorem cell_has{sc:adA}{n:Nat}{x:Str}(h:sc.names.lookup x=some .cell):∃c,(acs n sc.names []).lookup x=some c:=by
 have q:=PySem.W.cellsFrom_some sc.names n [] (.inl h);exact adp.mp q
theorem inv_start{qual:Str}{scope:adA}{f:abX}{cd:abY}{outer:List Env}{s1:abZ}{E:XK}{vs:List V}
  (S:FnScope N ps scope)(hd:A.handled=none)(e0:Env0 P w K mg base A outer s H)(hl:vs.length=ps.length)(r:Vals vs us)
  (x:InCallC s s.heap.objs.size (bindL (adF qual scope s.heap.objs.size f cd).kindOf (ps.zip us) λ_=>none) (acs (s.heap.objs.size+1) scope.names []) (bindC (adF qual scope s.heap.objs.size f cd).kindOf (ps.zip us) λ_=>none) s1):
  Inv (cxOf CX P w K mg base N qual scope f cd A outer s H E) [] (start N vs) H s1:=by
 have hpl:ps.length<=N.length:=by have:=congrArg List.length S.pre;rw[afn] at this;omega
 obtain⟨h1,tk,rfl,hk⟩:=x.done;have noA:∀b:abX,b∉(cxOf CX P w K mg base N qual scope f cd A outer s H E).ex:=λb z=>absurd (show b∈([]:List abX) from z) (by simp);refine⟨⟨e0.mod,S.kind,rfl,rfl,z0g _,λy z c h1 h2=>?_,λy hy=>?_,λy c _ h=>?_,λ_=>hd,Around.frames_deeper e0.frames,.inr ⟨rfl,rfl⟩,λb z=>absurd z (noA b),e0.bs,e0.bsz,λb _ _=>noA b,λb z=>absurd z (noA b),e0.funs,e0.frf⟩,
  rfl,e0.bare,Un.kept hk,⟨_,x.toInCall.ns,λi y v h1 h2 h3=>?_⟩,λy c h=>⟨_,x.cell y c h⟩,e0.hok.fresh (z0g _),λy c h=>?_,λp hp=>absurd (show p∈([]:List (abX×Obj)) from hp) (by simp),e0.hok.kept hk,?_⟩
 ·exact name_of_addr x.apart (PySem.mem_of_lookup h1) (PySem.mem_of_lookup h2)
 ·have hy:scope.names.lookup y=some .cell\/scope.names.lookup y=some .free:=hy;rcases hy with hy |hy
  ·exact cell_has hy
  ·exact absurd rfl (S.nofree _ (PySem.mem_of_lookup hy))
 ·exact z0e (x.above y c (PySem.mem_of_lookup h))
 ·have hi:i<vs.length:=by
   unfold start at h2;by_cases hi:i<vs.length
   ·exact hi
   ·rw[acD (by simpa using hi)] at h2;rw[adt] at h2;split at h2 <;> cases h2
  have ha:vs[i]?=some v:=by
   unfold start at h2;rw[acH (by simpa using hi),z2b] at h2;cases e:vs[i]? with
   |none=>rw[e] at h2;cases h2
   |some a=>rw[e] at h2;cases h2;rfl
  obtain⟨u,hu,rv⟩:=r.get ha;have hp:ps[i]?=some y:=by
   rw[<-S.pre,agm (by omega)];exact h1
  have ndP:ps.Nodup:=by rw[<-S.pre];exact S.nd.sublist (List.take_sublist _ _)
  refine⟨u,rv,?_⟩;rcases S.par y (acy hp) with k |k
  ·exact .inl ⟨k,bindL_get ndP hp hu k⟩
  ·obtain⟨c,e⟩:=cell_has (n:=s.heap.objs.size+1) k;refine .inr ⟨.inl k,c,e,?_⟩;have q:=x.cell y c e;rw[bindC_get ndP hp hu (by show scope.names.lookup y≠_;rw[k];decide)] at q;exact q
 ·exact e0.hok.fresh (z0e (x.above y c (PySem.mem_of_lookup h)))
 ·unfold start;show _=N.length;rw[z1d,z1g,acN];omega
theorem fn_of{f:abX}{name qual:Str}{params:aeb}{scope:adA}{dV kV doc pm cdv ct oc:abY}{an od:Option abX}
  {osl:Array (Option abY)}{sp:Sp}(lk:K.lookup f=some ⟨oc,od,.func (PySem.W.fnOf name qual params body scope dV kV doc pm an cdv ct),osl⟩)(hcd:PySem.W.codeIn K cdv qual=true)(S:FnScope N ps scope)
  (len:∀vs H Q E,sp vs H Q E->vs.length=ps.length)
  (hbody:∀(A:acg) (outer:List Env) (s:abZ) (H:Hp) (vs:List V) (Q:VK) (E:XK),Room k (A.deeper (adF qual scope s.heap.objs.size f cdv))->sp vs H Q E->
   ∃t,PSs (cxOf CX P w K mg base N qual scope f cdv A outer s H E) body t/\t {nx:=λ_ H'=>Q .non H',rt:=Q} (start N vs) H):
  FnOk P w K mg base CX (k+1) f (PySem.W.fnOf name qual params body scope dV kV doc pm an cdv ct) ps sp:=by
 refine⟨len,λA outer s H args us vs Q E hr e0 hb r hsp=>?_⟩;have hl:=len _ _ _ _ hsp;have KX:K.In s.heap:=e0.mod.kin.keeps λb o e=>(e0.bs b o e).1;have lim:s.heap.NoLimit:=e0.mod.nolimit.keeps λb o e=>(e0.bs b o e).1;have hkind:∀y∈ps.zip us,scope.names.lookup y.1=some .local\/(scope.names.lookup y.1=some .cell/\((acs (s.heap.objs.size+1) scope.names []).lookup y.1).isSome=true):=λ⟨n,v⟩ hy=>by
  rcases S.par n (afA hy).1 with q |q
  ·exact .inl q
  ·exact .inr ⟨q,PySem.W.cellsFrom_some _ _ _ (.inl q)⟩
 refine codeAny_call_function hr.depth (KX _ _ lk) rfl S.co S.gen rfl (PySem.W.codeRec_of KX hcd) (hb _ _ _ _ ?_);refine wpAny_newFunctionEnv_cells S.kind hkind λenv he s1 x=>?_;subst he;refine⟨lim.keeps x.toInCall.keep,codeAny_func ?_⟩;obtain⟨t,ht,hq⟩:=hbody A outer s H vs Q E (hr.deeper _) hsp;have I:Inv (cxOf CX P w K mg base N qual scope f cdv A outer s H E) [] (start N vs) H s1:=inv_start S hr.hd e0 hl r x;refine ac1 (ht [] s1 (start N vs) H _ I hq) (λfl s' hs=>?_) λe s' hs=>hs;have fin:∀{σ':St} {H':Hp} {v:V} {u:abY},Inv (cxOf CX P w K mg base N qual scope f cdv A outer s H E) [] σ' H' s'->RelV v u->Q v H'->CE outer P w H s Q u s':=
  λ{σ' H' v u} J rv q=>⟨v,H',J.os,J.bare,J.base,J.hok,rv,q⟩
 cases fl with
 | ret u=>
  obtain⟨v,σ',H',J,rv,q⟩:=hs;exact fin J rv q
 | next=>
  obtain⟨σ',H',J,q⟩:=hs;exact fin (v:=V.non) (u:=aco) J rfl q
 | brk=>
  obtain⟨_,_,_,q⟩:=hs;exact acL q
 | cont=>
  obtain⟨_,_,_,q⟩:=hs;exact acL q
section
variable{X:Cx}{x:Str}{p pos:Pos}{e:ab6}{es:List ab6}{t:TA}{id T:String}{r:List V->Hp->VK->Prop}
def tCB(r:List V->Hp->VK->Prop)(t:TA):TE:=λσ H Q=>t σ H λvs H1=>r vs H1 Q
theorem pe_callB(hc:CallR X (.builtin id) r)(hg:Gl X x)(hm:X.mg x=none)(hv:adB x=some (.builtin id))(ha:PA X (e::es) t)(hn:x≠"__name__" :=by decide)(hdb:(x ==("__debug__" :Str))=false:=by decide)
  (he:ab2 (e::es) X.env=(false,eval e X.env)::ab2 es X.env:=by rfl)(hpl:(acO pos (ab2 es X.env)).any (·.1)=false:=by rfl):PE X (.Call (.Name x p) (e::es) [] pos) (tCB r t):=by
 intro pins s σ H Q I h;refine adL (ld_blt I hg hm hv ?_ hn hdb);exact PyProof.Rows.callWith_builtin1 (thn (ha pos pins s σ H _ I h) λus s1 ⟨vs,H1,I1,r1,q1⟩=>hc pins s1 σ H1 vs us Q I1 r1 q1) he hpl
theorem pe_callTy(hc:CallR X (.type T) r)(hg:Gl X x)(hm:X.mg x=none)(hv:adB x=some (.type T))(ha:PA X (e::es) t)(hn:x≠"__name__" :=by decide)(hdb:(x ==("__debug__" :Str))=false:=by decide)
  (he:ab2 (e::es) X.env=(false,eval e X.env)::ab2 es X.env:=by rfl)(hpl:(acO pos (ab2 es X.env)).any (·.1)=false:=by rfl):PE X (.Call (.Name x p) (e::es) [] pos) (tCB r t):=by
 intro pins s σ H Q I h;refine adL (ld_blt I hg hm hv ?_ hn hdb);exact ac2 (thn (ha pos pins s σ H _ I h) λus s1 ⟨vs,H1,I1,r1,q1⟩=>hc pins s1 σ H1 vs us Q I1 r1 q1) he hpl
end
end L2
namespace HT
open PySem PyProof.Rows
section
open PySem.SeqAt
open PySem.AutoSeq1 (wpAny_loadPart')
open PySem.MeetsSeq PySem.MeetsSeq2 PySem.MeetsSeq3
end
section
variable{prog:ab9}{w:acf}{A:acg}{E:abY->abZ->Prop}{s:abZ}
theorem cat_tup{t b:abX}{vs ws:List abY}{Q:abY->abZ->Prop}(ht:IsTup s.heap t vs.toArray)(hb:IsTup s.heap b ws.toArray)(hv:vs≠[])
  (h1:ws=[]->Q (.ref t) s)(h2:ws≠[]->Q (.ref s.heap.objs.size) {s with heap:=s.heap.push {cls:= .type "tuple",data:= .seq (vs++ws).toArray}})
  (hsz:vs.length+ws.length<=sizeLine):ab4 (model prog w) A (acJ .Add (.ref t) (.ref b)) Q E s:=by
 obtain⟨⟨cls,dd,data,sl⟩,ho,hc,n,hd⟩:=id ht;obtain⟨⟨cls2,dd2,data2,sl2⟩,ho2,hc2,n2,hd2⟩:=id hb;simp only at hc hd hc2 hd2;subst hc hd hc2 hd2;have e:vs.toArray++ws.toArray=(vs++ws).toArray:=by simp
 by_cases hw:ws=[]
 ·exact agn ⟨_,ho,rfl⟩ ⟨_,ho2,rfl⟩ ago seq_tuple_add PySem.F.slot_tuple_add PySem.F.entry_tuple_add (PySem.F.args_tuple_add_2 _ _)
   (tuple_addW1 t b vs.toArray ws.toArray n n2 dd dd2 sl sl2 (by simpa using hv) (by simp[hw])) ⟨ho,ho2,h1 hw⟩
 ·refine agn ⟨_,ho,rfl⟩ ⟨_,ho2,rfl⟩ ago seq_tuple_add PySem.F.slot_tuple_add PySem.F.entry_tuple_add (PySem.F.args_tuple_add_2 _ _)
   (tuple_addW2 t b vs.toArray ws.toArray n n2 dd dd2 sl sl2 (by simpa using hv) (by simpa using hw) (by rw[z1c,z1c];exact hsz)) ⟨ho,ho2,?_⟩
  rw[e];exact h2 hw
def sIx(n d:Nat):Option Int->Nat
 |none=>d
 |some v=>if v<0 then (v+(n:Int)).toNat else min v.toNat n
theorem sIx_le(n d:Nat)(hd:d<=n)(o:Option Int):sIx n d o<=n:=by
 cases o with
 |none=>exact hd
 | some v=>
  show (if v<0 then (v+(n:Int)).toNat else min v.toNat n)<=n;by_cases hv:v<0
  ·rw[if_pos hv];omega
  ·rw[if_neg hv];exact Nat.min_le_right _ _
theorem R7(a b:Nat):((min a b:Nat):Int)=min (a:Int) (b:Int):=by
 rcases Nat.le_total a b with h |h
 ·rw[aeO h,Int.min_eq_left (agp.mpr h)]
 ·rw[Nat.min_eq_right h,Int.min_eq_right (agp.mpr h)]
theorem Y0{i:Int}(n:Nat)(h:i<0):max 0 (min (i+(n:Int)) (n:Int))=(((i+(n:Int)).toNat:Nat):Int):=by
 rw[Int.min_eq_left (by omega),Int.max_comm];exact (Int.ofNat_toNat _).symm
theorem Y4(k n:Nat):max 0 (min (k:Int) (n:Int))=((min (k:Int).toNat n:Nat):Int):=by
 rw[Int.max_eq_right (Int.le_min.mpr ⟨aeo _,aeo _⟩)];exact (R7 k n).symm
theorem clip_eq(v:Int)(n d:Nat):(if v<0 then max (v+(n:Int)) 0 else min v (n:Int))=((sIx n d (some v):Nat):Int):=by
 show (if v<0 then max (v+(n:Int)) 0 else min v (n:Int))=(((if v<0 then (v+(n:Int)).toNat else min v.toNat n):Nat):Int);by_cases hv:v<0
 ·simp only[if_pos hv];exact (Int.ofNat_toNat _).symm
 ·simp only[if_neg hv];obtain⟨k,rfl⟩:=acF (Int.not_lt.mp hv);exact (R7 k n).symm
theorem adjust_gen(lo hi:Option Int)(n:Nat):aeP lo hi 1 (n:Int)=(((sIx n 0 lo:Nat):Int),((sIx n n hi:Nat):Int)):=by
 have h1:¬((1:Int)<0):=by omega
 unfold aeP;simp only[h1,if_false];refine agH ?_ ?_
 ·cases lo with
  |none=>rfl
  |some v=>exact clip_eq v n 0
 ·cases hi with
  |none=>rfl
  |some v=>exact clip_eq v n n
theorem places_gen(i j:Nat):ad7 (i:Int) (j:Int) 1=j - i:=by
 unfold ad7;have h1:(1:Int) > 0:=by omega
 simp only[h1,if_true,Int.ediv_one];split <;> omega
theorem slicePart_{v:abY}{o:Option Int}{Q:Option Int->abZ->Prop}(p:afB v o)(h:Q o s):ab4 (model prog w) A (Builtin.Slice.slicePartIndex v) Q E s:=by
 cases p with
 |none=>exact slicePart_none h
 |int i t=>exact slicePart_int h
theorem sliceApplied_gen{sl:abX}{vl vu:abY}{lo hi:Option Int}{n:Nat}{Q:Int×Int×Nat->abZ->Prop}(hs:s.heap.IsSliceOf sl vl vu .none)(pl:afB vl lo)(pu:afB vu hi)
  (h:Q (((sIx n 0 lo:Nat):Int),1,sIx n n hi - sIx n 0 lo) s):ab4 (model prog w) A (af2 (.ref sl) (pure (n:Int))) Q E s:=by
 obtain⟨os,hos,hcs,hds⟩:=id hs;unfold af2 Builtin.Slice.sliceFields;refine abW (abW (acB hos hds (x:=vl) rfl (abW (acB hos hds (x:=vu) rfl (abW (acB hos hds (x:= .none) rfl (ab1 ?_)))))));refine abW (slicePart_none ?_);show ab4 _ _ (if ((1:Int) ==0)=true then _ else _) _ _ s;rw[if_neg (by decide)];refine abW (slicePart_ pl (abW (slicePart_ pu (abW (ab1 ?_)))));show ab4 _ _ (match aeP lo hi 1 (n:Int) with |(lo,hi)=>pure (lo,(1:Int),ad7 lo hi 1)) _ _ s;rw[adjust_gen lo hi n];show ab4 _ _ (pure (((sIx n 0 lo:Nat):Int),(1:Int),ad7 ((sIx n 0 lo:Nat):Int) ((sIx n n hi:Nat):Int) 1)) _ _ s;rw[places_gen];exact ab1 h
theorem pick_gen(xs:Array abY)(i k:Nat):((ab0 k).filterMap λ(m:Nat)=>xs[((i:Int)+(m:Int)*1).toNat]?).toArray=((xs.toList.drop i).take k).toArray:=by
 have e:(λ(m:Nat)=>xs[((i:Int)+(m:Int)*1).toNat]?)=λm=>xs[i+m]?:=by
  funext m;have:((i:Int)+(m:Int)*1).toNat=i+m:=by omega
  rw[this]
 rw[e];have:=pick_run xs i k;rw[List.filterMap_map] at this;have e2:((λx=>xs[x]?) ∘ λx=>i+x)=λm=>xs[i+m]?:=rfl;rw[e2] at this;rw[this]
theorem getItem_tuple_cut{t sl:abX}{items:Array abY}{vl vu:abY}{lo hi:Option Int}{Q:abY->abZ->Prop}(ht:IsTup s.heap t items)(hs:s.heap.IsSliceOf sl vl vu .none)(pl:afB vl lo)(pu:afB vu hi)
  (hw:¬(sIx items.size 0 lo=0/\sIx items.size items.size hi=items.size))
  (h:Q (.ref s.heap.objs.size) {s with heap:=s.heap.push {cls:= .type "tuple",data:= .seq ((items.toList.drop (sIx items.size 0 lo)).take (sIx items.size items.size hi - sIx items.size 0 lo)).toArray}})
  (hsz:items.size<=sizeLine):ab4 (model prog w) A (getItem (.ref t) (.ref sl)) Q E s:=by
 have htake:sizeOk (.seq ((items.toList.drop (sIx items.size 0 lo)).take (sIx items.size items.size hi - sIx items.size 0 lo)).toArray):=by
  show ((items.toList.drop (sIx items.size 0 lo)).take (sIx items.size items.size hi - sIx items.size 0 lo)).toArray.size<=sizeLine;rw[z1c,afn,agq,ady];omega
 have hj:sIx items.size items.size hi<=items.size:=sIx_le _ _ (z0g _) hi;obtain⟨os,hos,hcs,hds⟩:=id hs;have hTs:s.TypeIs (.ref sl) "slice" :=⟨os,hos,hcs⟩;unfold getItem
 try with_reducible refine adD ?_
 first |refine abW (ab1 ?_) |skip
 refine abW (wpAny_sequenceKey ht.typeIs (by decide) ?_);refine abW (ac8 (name:=acC "__getitem__") ht.typeIs ac7
  (acT ac7 ht.typeIs entry_tuple_getitem ?_ (args_tuple_getitem _ _)))
 show ab4 _ _ (af3 (.ref t) >>=_) _ _ s;refine abW (tupleItemsOf_ ht ?_);refine abW (agr hTs ?_);rw[if_pos (by decide)];refine abW (sliceApplied_gen hs pl pu ?_);have hno:¬((((sIx items.size 0 lo:Nat):Int) ==0 && (1:Int) ==1 && (sIx items.size items.size hi - sIx items.size 0 lo) ==items.size)=true):=by
  intro q;rw[acY,acY] at q;have q1:((sIx items.size 0 lo:Nat):Int)=0:=eq_of_beq q.1.1;have q2:sIx items.size items.size hi - sIx items.size 0 lo=items.size:=eq_of_beq q.2;exact hw ⟨by omega,by omega⟩
 show ab4 _ _ (if (((sIx items.size 0 lo:Nat):Int) ==0 && (1:Int) ==1 && (sIx items.size items.size hi - sIx items.size 0 lo) ==items.size)=true then _ else _) _ _ s;rw[if_neg hno,pick_gen]
 first
  |exact abW (m:=aee _) (ac5 (ab1 ⟨_,rfl,ab1 h⟩) htake)
  |exact abW (m:=aee _) (ac5 (abW (ab1 (ab1 ⟨_,rfl,ab1 h⟩))) htake)
  |exact abW (abW (m:=aee _) (ac5 (ab1 (ab1 ⟨_,rfl,ab1 h⟩)) htake))
  |exact abW (abW (m:=aee _) (ac5 (ab1 ⟨_,rfl,ab1 h⟩) htake))
end
end HT
namespace L2
open PySem PySem.Spec PyProof.Rows
abbrev TO:=St->Hp->(Option Int->Hp->Prop)->Prop
def PO(X:Cx)(e:Option ab6)(t:TO):Prop:=
 ∀(pins:List (abX×Obj)) (s:abZ) (σ:St) (H:Hp) (Q:Option Int->Hp->Prop),Inv X pins σ H s->t σ H Q->
  ab4 (model X.prog X.w) X.A (evalPart e X.env) (λu s'=>∃o H',Inv X pins σ H' s'/\afB u o/\Q o H') X.xe s
def tNoPart:TO:=λ_ H Q=>Q none H
def tPart(t:TE):TO:=λσ H Q=>t σ H λx H1=>∃i,x= .int i/\Q (some i) H1
theorem intsAre_of{ns:List Int}:∀{us:List abY},Vals (ns.map V.int) us->adV us ns:=by
 induction ns with
 |nil=>intro us r;rw[aef] at r;cases r;exact .nil
 | cons n ns ih=>
  intro us r;rw[z1h] at r;cases r with
  | cons r1 r2=>
   obtain⟨t,e⟩:=r1;subst e;exact .cons n t (ih r2)
section
variable{X:Cx}{e:ab6}{te:TE}{lo hi:Option ab6}{tl th:TO}{pos p2:Pos}
theorem po_none:PO X none tNoPart:=by
 intro pins s σ H Q I h;rw[evalPart_none];exact ab1 ⟨none,H,I,.none,h⟩
theorem po_some(h:PE X e te):PO X (some e) (tPart te):=by
 intro pins s σ H Q I hw;rw[evalPart_some];refine thn (h pins s σ H _ I hw) λu s1 bC=>?_;obtain⟨x,H1,I1,r1,q1⟩:=bC;obtain⟨i,rfl,q⟩:=q1;obtain⟨t,rfl⟩:=r1;exact⟨some i,H1,I1,.int i t,q⟩
def SlR(X:Cx)(r:V->Option Int->Option Int->Hp->VK->Prop):Prop:=
 ∀(pins:List (abX×Obj)) (s:abZ) (σ:St) (H:Hp) (x:V) (v vl vu:abY) (lo hi:Option Int) (sl:abX) (Q:VK),Inv X pins σ H s->RelV x v->s.heap.IsSliceOf sl vl vu .none->afB vl lo->afB vu hi->r x lo hi H Q->
  ∃T id,typeLookup (.type T) "__getitem__" =pure (some (.builtin id))/\s.TypeIs v T/\ab4 (model X.prog X.w) X.A (getItem v (.ref sl)) (EP X pins σ Q) X.xe s
theorem SlR.or{r r':V->Option Int->Option Int->Hp->VK->Prop}(h:SlR X r)(h':SlR X r'):SlR X (λx lo hi H Q=>r x lo hi H Q\/r' x lo hi H Q):=by
 intro pins s σ H x v vl vu lo hi sl Q I rx hs pl pu q;rcases q with q |q
 ·exact h pins s σ H x v vl vu lo hi sl Q I rx hs pl pu q
 ·exact h' pins s σ H x v vl vu lo hi sl Q I rx hs pl pu q
def tSl(r:V->Option Int->Option Int->Hp->VK->Prop)(te:TE)(tl th:TO):TE:=λσ H Q=>te σ H λx H1=>tl σ H1 λl H2=>th σ H2 λu H3=>r x l u H3 Q
theorem pe_slice{r:V->Option Int->Option Int->Hp->VK->Prop}(hr:SlR X r)(he:PE X e te)(hl:PO X lo tl)(hu:PO X hi th):PE X (.Subscript e (.Slice lo hi none p2) pos) (tSl r te tl th):=by
 intro pins s σ H Q I h;refine Subscript_ (thn (he pins s σ H _ I h) λv s1 bC=>?_);obtain⟨x,H1,I1,r1,q1⟩:=bC;refine wpAny_Slice (thn (hl pins s1 σ H1 _ I1 q1) λvl s2 ⟨l,H2,I2,pl,q2⟩=>thn (hu pins s2 σ H2 _ I2 q2) λvu s3 bC=>?_);obtain⟨u,H3,I3,pu,q3⟩:=bC;rw[evalPart_none];refine ab1 ?_;have I4:Inv X pins σ H3 {s3 with heap:=s3.heap.push {cls:= .type "slice",data:= .fields #[vl,vu,.none]}}:=I3.kept (t':=s3.toks) λb ob q=>z1a _ q;obtain⟨T,id,hT,ht,hg⟩:=hr pins {s3 with heap:=s3.heap.push {cls:= .type "slice",data:= .fields #[vl,vu,.none]}} σ H3 x v vl vu l u s3.heap.objs.size Q I4 r1 (agP ..) pl pu q3;show ab4 (model X.prog X.w) X.A (subscriptTail e (.Slice lo hi none p2) v (.ref s3.heap.objs.size)) (EP X pins σ Q) X.xe {s3 with heap:=s3.heap.push {cls:= .type "slice",data:= .fields #[vl,vu,.none]}};exact tail_any (ops:=[.ref s3.heap.objs.size,v]) ht hT hg (by with_unfolding_all rfl)
def cutV(xs:List V)(lo hi:Option Int):List V:=(xs.drop (HT.sIx xs.length 0 lo)).take (HT.sIx xs.length xs.length hi - HT.sIx xs.length 0 lo)
theorem cutV_length(xs:List V)(lo hi:Option Int):(cutV xs lo hi).length<=xs.length:=by
 unfold cutV;rw[afn,agq];omega
def rSlT(K:PySem.W.Frag):V->Option Int->Option Int->Hp->VK->Prop:=λx lo hi H Q=>∃a xs,x= .ref a/\SqT K H a xs/\
 ¬(HT.sIx xs.length 0 lo=0/\HT.sIx xs.length xs.length hi=xs.length)/\∀p,H p=none->Q (.ref p) (upd H p (.tup (cutV xs lo hi)))
theorem sl_tup:SlR X (rSlT X.K):=by
 intro pins s σ H x v vl vu lo hi sl Q I rx hs pl pu h;obtain⟨a,xs,rfl,hx,hw,q⟩:=h;cases rx;obtain⟨its,r,ht,hz⟩:=I.tuple hx;have hlen:its.toArray.size=xs.length:=by rw[z1c];exact r.length.symm
 refine⟨"tuple",_,ac7.lookup,ht.typeIs,?_⟩;refine HT.getItem_tuple_cut ht hs pl pu (by rw[hlen];exact hw) ?_ (by rw[hlen];exact hz);rw[hlen];refine⟨.ref s.heap.objs.size,_,I.laid (t':=s.toks) (o:= .tup (cutV xs lo hi)) (λb ob q=>z1a _ q) (z0g _) ?_,rfl,q _ (I.hok.fresh (z0g _))⟩;exact⟨z0b (cutV_length xs lo hi) hz,_,(r.drop (HT.sIx xs.length 0 lo)).take (HT.sIx xs.length xs.length hi - HT.sIx xs.length 0 lo),uo.new _ _⟩
def rCatT(K:PySem.W.Frag):R2:=λx y H Q=>∃a b xs ys,x= .ref a/\y= .ref b/\SqT K H a xs/\SqT K H b ys/\xs≠[]/\xs.length+ys.length<=sizeLine/\
 (ys=[]->Q (.ref a) H)/\(ys≠[]->∀p,H p=none->Q (.ref p) (upd H p (.tup (xs++ys))))
theorem Vals.nil_iff{xs:List V}{us:List abY}(r:Vals xs us):us=[]↔xs=[]:=by
 cases r with
 |nil=>simp
 |cons _ _=>simp
theorem op_catT:OpR X (acJ .Add) (rCatT X.K):=by
 intro pins s σ H x y v u Q I rx ry h;obtain⟨a,b,xs,ys,rfl,rfl,ha,hb,hx,hz,q1,q2⟩:=h;cases rx;cases ry;obtain⟨its,r1,p1,_⟩:=I.tuple ha;obtain⟨its2,r2,p2,_⟩:=I.tuple hb;refine HT.cat_tup p1 p2 (λz=>hx (r1.nil_iff.mp z)) (λz=>⟨.ref a,H,I,rfl,q1 (r2.nil_iff.mp z)⟩) (λz=>?_) (by rw[<-r1.length,<-r2.length];exact hz);refine⟨.ref s.heap.objs.size,_,I.laid (t':=s.toks) (o:= .tup (xs++ys)) (λb ob q=>z1a _ q) (z0g _) ?_,rfl,q2 (λw=>z (r2.nil_iff.mpr w)) _ (I.hok.fresh (z0g _))⟩;exact⟨by rw[z1d];exact hz,_,r1.append r2,uo.new _ _⟩
end
def ixN(n:Nat)(i:Int):Option Nat:=if 0<=i then (if i<n then some i.toNat else none) else if -(n:Int)<=i then some (i+n).toNat else none
def atI{α:Type}(xs:List α)(i:Int):Option α:=(ixN xs.length i).bind λj=>xs[j]?
theorem ixN_seq{n:Nat}{i:Int}{j:Nat}(h:ixN n i=some j):seqIndex? i n=some j/\j<n/\-(n:Int)<=i/\i<n:=by
 unfold ixN at h;by_cases h0:0<=i
 ·rw[if_pos h0] at h;by_cases h1:i<n
  ·rw[if_pos h1] at h;have e:i.toNat=j:=acj h;exact⟨by rw[seqIndex_of h0 h1,e],by omega,by omega,h1⟩
  ·rw[if_neg h1] at h;cases h
 ·rw[if_neg h0] at h;by_cases h1: -(n:Int)<=i
  ·rw[if_pos h1] at h;have e:(i+n).toNat=j:=acj h;exact⟨by rw[seqIndex_neg (by omega) h1,e],by omega,h1,by omega⟩
  ·rw[if_neg h1] at h;cases h
theorem atI_get{α:Type}{xs:List α}{i:Int}{v:α}(h:atI xs i=some v):∃j,seqIndex? i xs.length=some j/\xs[j]?=some v/\j<xs.length/\-(xs.length:Int)<=i/\i<xs.length:=by
 unfold atI at h;cases e:ixN xs.length i with
 |none=>rw[e] at h;cases h
 | some j=>
  rw[e] at h;obtain⟨h1,h2,h3,h4⟩:=ixN_seq e;exact⟨j,h1,h,h2,h3,h4⟩
def PlainIx(b:ab6):Prop:=∀o i,subscripted b false o i=operate [o,i] (getItem o i)
def IxR(X:Cx)(r:R2):Prop:=
 ∀(value slice:ab6) (pins:List (abX×Obj)) (s:abZ) (σ:St) (H:Hp) (x y:V) (v u:abY) (Q:VK),Inv X pins σ H s->RelV x v->RelV y u->r x y H Q->
  subscripted slice false v u=operate [v,u] (getItem v u)->ab4 (model X.prog X.w) X.A (subscriptTail value slice v u) (EP X pins σ Q) X.xe s
def MtR(X:Cx)(id:String)(r:V->List V->Hp->VK->Prop):Prop:=
 ∀(pins:List (abX×Obj)) (s:abZ) (σ:St) (H:Hp) (x:V) (xs:List V) (v:abY) (us:List abY) (Q:VK),Inv X pins σ H s->RelV x v->Vals xs us->r x xs H Q->
  ab4 (model X.prog X.w) X.A (call (.builtin id) (v::us)) (EP X pins σ Q) X.xe s
section
variable{X:Cx}{a b:ab6}{ta tb:TE}{pos:Pos}
theorem IxR.or{r r':R2}(h:IxR X r)(h':IxR X r'):IxR X (λx y H Q=>r x y H Q\/r' x y H Q):=by
 intro value slice pins s σ H x y v u Q I rx ry q hs;rcases q with q |q
 ·exact h value slice pins s σ H x y v u Q I rx ry q hs
 ·exact h' value slice pins s σ H x y v u Q I rx ry q hs
theorem pe_ix{r:R2}(hr:IxR X r)(ha:PE X a ta)(hb:PE X b tb)(hs:PlainIx b):PE X (.Subscript a b pos) (tOp r ta tb):=by
 intro pins s σ H Q I h;exact Subscript_ (binT ha hb I h λv u s2 x y H2 I2 rx ry q=>hr a b pins s2 σ H2 x y v u Q I2 rx ry q (hs _ _))
def rIxL(K:PySem.W.Frag):R2:=λx y H Q=>∃p xs i v,x= .ref p/\y= .int i/\SqL K H p xs/\atI xs i=some v/\Q v H
def rIxT(K:PySem.W.Frag):R2:=λx y H Q=>∃p xs i v,x= .ref p/\y= .int i/\SqT K H p xs/\atI xs i=some v/\Q v H
def rIxS:R2:=λx y H Q=>∃z i c,x= .str z/\y= .int i/\z.length<=sizeLine/\atI z.cps.toList i=some c/\Q (.str ⟨#[c]⟩) H
theorem ix_list:IxR X (rIxL X.K):=by
 intro value slice pins s σ H x y v u Q I rx ry h hs;obtain⟨p,xs,i,z,rfl,rfl,hq,he,q⟩:=h;cases rx;obtain⟨t,rfl⟩:=ry;obtain⟨its,r,pl,hz⟩:=I.list hq;obtain⟨j,h1,h2,h3,h4,h5⟩:=atI_get he;obtain⟨w,ew,rw'⟩:=r.get h2;have hl:=r.length;have hn:=line63;have fin:EP X pins σ Q w s:=⟨z,H,I,rw',q⟩;by_cases h0:0<=i
 ·have hj:i.toNat=j:=by
   rw[seqIndex_of h0 h5] at h1;exact acj h1
  exact item_listR pl.isList h0 (by omega) (by rw[hj];simpa using ew) fin hs
 ·have hj:(i+(its.toArray.size:Int)).toNat=j:=by
   rw[seqIndex_neg (by omega) h4] at h1;rw[z1c,<-hl];exact acj h1
  exact subscriptTail_builtinR (x:=w) pl.isList.typeIs slot_list_getitem.lookup
   (wpAny_getItem_list_neg (Q:=λr s'=>r=w/\EP X pins σ Q r s') pl.isList (by omega) (by rw[z1c] <;> omega) (by omega) (by rw[hj];simpa using ew) ⟨rfl,fin⟩) hs
theorem ix_tup:IxR X (rIxT X.K):=by
 intro value slice pins s σ H x y v u Q I rx ry h hs;obtain⟨p,xs,i,z,rfl,rfl,hq,he,q⟩:=h;cases rx;obtain⟨t,rfl⟩:=ry;obtain⟨its,r,pl,hz⟩:=I.tuple hq;obtain⟨j,h1,h2,h3,h4,h5⟩:=atI_get he;obtain⟨w,ew,rw'⟩:=r.get h2;have hl:=r.length;have hn:=line63;have fin:EP X pins σ Q w s:=⟨z,H,I,rw',q⟩;exact subscriptTail_builtinR (x:=w) pl.typeIs slot_tuple_getitem.lookup
  (getItem_tuple (j:=j) (Q:=λr s'=>r=w/\EP X pins σ Q r s') pl (by omega) (by omega) (by rw[z1c,<-hl];exact h1) (by simpa using ew) ⟨rfl,fin⟩) hs
theorem ix_str:IxR X rIxS:=by
 intro value slice pins s σ H x y v u Q I rx ry h hs;obtain⟨z,i,c,rfl,rfl,hz,he,q⟩:=h;obtain⟨t,rfl⟩:=rx;obtain⟨t',rfl⟩:=ry;obtain⟨j,h1,h2,h3,h4,h5⟩:=atI_get he;have hl:z.cps.toList.length=z.length:=by simp[Str.length]
 rw[hl] at h1 h4 h5;have hn:=line63;exact tail_any (typeIs_str s z t) slot_str_getitem.lookup (getItem_str (c:=c) (by
  have e1:decide (i < -(2^63:Int))=false:=decide_eq_false (by omega);have e2:decide (i>=2^63)=false:=decide_eq_false (by omega);rw[e1,e2,Bool.or_false]) (by rw[h1];simpa using h2) ⟨.str ⟨#[c]⟩,H,I.tok _,⟨_,rfl⟩,q⟩) hs
def rIx(K:PySem.W.Frag):R2:=λx y H Q=>rIxL K x y H Q\/rIxT K x y H Q\/rIxS x y H Q
theorem ix_seq:IxR X (rIx X.K):=ix_list.or (ix_tup.or ix_str)
theorem Inv.lst{pins:List (abX×Obj)}{σ:St}{H:Hp}{s:abZ}{p:abX}{xs:List V}(I:Inv X pins σ H s)(h:H p=some (.lst xs)):
  ∃(its:List abY) (n:Nat),Vals xs its/\s.heap.get? p=some {cls:= .type "list",data:= .seq its.toArray n}/\xs.length<=sizeLine:=by
 obtain⟨z,its,n,r,e⟩:=I.hok p _ h;exact⟨its,n,r,e,z⟩
theorem slice_bounds(lo hi:Option Int)(n:Nat):(aeJ lo hi none n).1=((HT.sIx n 0 lo:Nat):Int)/\(aeJ lo hi none n).2.1=((HT.sIx n n hi:Nat):Int)/\(aeJ lo hi none n).2.2=1:=by
 refine⟨?_,?_,rfl⟩
 ·cases lo with
  |none=>simp[aeJ,HT.sIx]
  | some i=>
   simp only[aeJ,HT.sIx,Option.getD_none,show (1:Int) > 0 by decide,if_true];by_cases h:i<0
   ·simp only[h,if_true];exact HT.Y0 n h
   ·simp only[h,if_false];obtain⟨k,rfl⟩:=acF (Int.not_lt.mp h);exact HT.Y4 k n
 ·cases hi with
  |none=>simp[aeJ,HT.sIx]
  | some i=>
   simp only[aeJ,HT.sIx,Option.getD_none,show (1:Int) > 0 by decide,if_true];by_cases h:i<0
   ·simp only[h,if_true];exact HT.Y0 n h
   ·simp only[h,if_false];obtain⟨k,rfl⟩:=acF (Int.not_lt.mp h);exact HT.Y4 k n
theorem slicePick_cut(its:List abY)(lo hi:Option Int):slicePick its.toArray lo hi none=((its.drop (HT.sIx its.length 0 lo)).take (HT.sIx its.length its.length hi - HT.sIx its.length 0 lo)).toArray:=by
 obtain⟨h1,h2,h3⟩:=slice_bounds lo hi its.toArray.size;unfold slicePick;rw[h1,h2,h3];simp only[sliceRange_one,pick_run,z1c] <;> rfl
def rSlL(K:PySem.W.Frag):V->Option Int->Option Int->Hp->VK->Prop:=λx lo hi H Q=>∃a xs,x= .ref a/\SqL K H a xs/\∀p,H p=none->Q (.ref p) (upd H p (.lst (cutV xs lo hi)))
theorem sl_list:SlR X (rSlL X.K):=by
 intro pins s σ H x v vl vu lo hi sl Q I rx hs pl pu h;obtain⟨a,xs,rfl,hx,q⟩:=h;cases rx;obtain⟨its,r,ht,hz⟩:=I.list hx;have hlen:=r.length;refine⟨"list",_,slot_list_getitem.lookup,ht.isList.typeIs,?_⟩;refine wpAny_getItem_list_slice ht.isList hs pl pu .none (by simp) ?_ (by rw[z1c] <;> omega);rw[slicePick_cut,<-hlen];refine⟨.ref s.heap.objs.size,_,I.laid (t':=s.toks) (o:= .lst (cutV xs lo hi)) (λb ob q=>z1a _ q) (z0g _) ?_,rfl,q _ (I.hok.fresh (z0g _))⟩;exact⟨z0b (cutV_length xs lo hi) hz,_,0,(r.drop (HT.sIx xs.length 0 lo)).take (HT.sIx xs.length xs.length hi - HT.sIx xs.length 0 lo),z1f _ rfl⟩
def flatV:V->Bool
 | .non=>true
 | .bl _=>true
 | .int _=>true
 | .str _=>true
 |_=>false
def eqV:V->V->Bool
 | .non,.non=>true
 | .bl a,.bl b=>a ==b
 | .bl a,.int b=>(if a then 1 else 0) ==b
 | .int a,.bl b=>a ==(if b then 1 else 0)
 | .int a,.int b=>a ==b
 | .str a,.str b=>a ==b
 |_,_=>false
theorem eqAt_V{A:acg}{s:abZ}{y x:V}{u v:abY}(ry:RelV y u)(rx:RelV x v)(fy:flatV y=true)(fx:flatV x=true):SeqAt.EqAt A s u v (eqV y x):=by
 cases y with
 | non=>
  cases ry;cases x with
  |non=>cases rx;exact SeqAt.EqAt.same _
  |bl b=>cases rx;exact SeqAt.EqAt.none_bool b
  |int b=>obtain⟨t,rfl⟩:=rx;exact SeqAt.EqAt.none_int b t
  |str b=>obtain⟨t,rfl⟩:=rx;exact SeqAt.EqAt.none_str b t
  |_=>exact absurd (show false=true from fx) aci
 | bl a=>
  cases ry;cases x with
  |non=>cases rx;exact SeqAt.EqAt.bool_none a
  |bl b=>cases rx;exact SeqAt.EqAt.bool_bool a b
  |int b=>obtain⟨t,rfl⟩:=rx;exact SeqAt.EqAt.bool_int a b t
  |str b=>obtain⟨t,rfl⟩:=rx;exact SeqAt.EqAt.bool_str a b t
  |_=>exact absurd (show false=true from fx) aci
 | int a=>
  obtain⟨t',rfl⟩:=ry;cases x with
  |non=>cases rx;exact SeqAt.EqAt.int_none a t'
  |bl b=>cases rx;exact SeqAt.EqAt.int_bool a t' b
  |int b=>obtain⟨t,rfl⟩:=rx;exact ae2 a t' b t
  |str b=>obtain⟨t,rfl⟩:=rx;exact agN a t' b t
  |_=>exact absurd (show false=true from fx) aci
 | str a=>
  obtain⟨t',rfl⟩:=ry;cases x with
  |non=>cases rx;exact SeqAt.EqAt.str_none a t'
  |bl b=>cases rx;exact SeqAt.EqAt.str_bool a t' b
  |int b=>obtain⟨t,rfl⟩:=rx;exact agO a t' b t
  |str b=>obtain⟨t,rfl⟩:=rx;exact SeqAt.EqAt.str_str a t' b t
  |_=>exact absurd (show false=true from fx) aci
 |_=>exact absurd (show false=true from fy) aci
def eqU(x:V)(u:abY):Bool:=match u with
 | .none=>eqV .non x
 | .bool b=>eqV (.bl b) x
 | .int i _=>eqV (.int i) x
 | .str z _=>eqV (.str z) x
 |_=>false
theorem eqU_of{x y:V}{u:abY}(r:RelV y u)(f:flatV y=true):eqU x u=eqV y x:=by
 cases y with
 |non=>cases r;rfl
 |bl b=>cases r;rfl
 |int i=>obtain⟨t,rfl⟩:=r;rfl
 |str z=>obtain⟨t,rfl⟩:=r;rfl
 |_=>exact absurd (show false=true from f) aci
theorem any_eqU{x:V}:∀{xs:List V} {us:List abY},Vals xs us->xs.all flatV=true->us.any (eqU x)=xs.any λy=>eqV y x
 |_,_,.nil,_=>rfl
 | y::xs,u::us,.cons r t,f=>by
  rw[ad4,acY] at f;rw[af4,af4,eqU_of r f.1,any_eqU t f.2]
theorem mem_eqAt{A:acg}{s:abZ}{x:V}{v:abY}(rx:RelV x v)(fx:flatV x=true):∀{xs:List V} {us:List abY},Vals xs us->xs.all flatV=true->∀u∈us,SeqAt.EqAt A s u v (eqU x u)
 |_,_,.nil,_=>λu hu=>by cases hu
 | y::xs,u::us,.cons r t,f=>λu' hu=>by
  rw[ad4,acY] at f;rcases ach.mp hu with rfl |hu
  ·rw[eqU_of r f.1];exact eqAt_V r rx f.1 fx
  ·exact mem_eqAt rx fx t f.2 u' hu
def inV(x:V)(xs:List V):Bool:=xs.any λy=>eqV y x
def rIn(K:PySem.W.Frag)(neg:Bool):R2:=λx y H Q=>∃p xs,y= .ref p/\(SqL K H p xs\/SqT K H p xs)/\flatV x=true/\xs.all flatV=true/\Q (.bl (if neg then !inV x xs else inV x xs)) H
theorem op_in_seq:OpR X (acr .In) (rIn X.K false):=by
 intro pins s σ H x y v u Q I rx ry h;obtain⟨p,xs,rfl,hq,fx,fs,q⟩:=h;cases ry;rcases hq with hq |hq
 ·obtain⟨its,r,pl,hz⟩:=I.list hq;refine SeqAt.in_listAt (eqU x) pl.isList (λw hw=>mem_eqAt rx fx r fs w (by simpa using hw)) ⟨.bl _,H,I,rfl,?_⟩;rw[show its.toArray.any (eqU x)=its.any (eqU x) by simp,any_eqU r fs];exact q
 ·obtain⟨its,r,pl,hz⟩:=I.tuple hq;refine SeqAt.in_tupleAt (eqU x) pl (λw hw=>mem_eqAt rx fx r fs w (by simpa using hw)) ⟨.bl _,H,I,rfl,?_⟩;rw[show its.toArray.any (eqU x)=its.any (eqU x) by simp,any_eqU r fs];exact q
theorem op_notIn_seq:OpR X (acr .NotIn) (rIn X.K true):=by
 intro pins s σ H x y v u Q I rx ry h;obtain⟨p,xs,rfl,hq,fx,fs,q⟩:=h;cases ry;rcases hq with hq |hq
 ·obtain⟨its,r,pl,hz⟩:=I.list hq;refine SeqAt.notIn_listAt (eqU x) pl.isList (λw hw=>mem_eqAt rx fx r fs w (by simpa using hw)) ⟨.bl _,H,I,rfl,?_⟩;rw[show its.toArray.any (eqU x)=its.any (eqU x) by simp,any_eqU r fs];exact q
 ·obtain⟨its,r,pl,hz⟩:=I.tuple hq;refine SeqAt.notIn_tupleAt (eqU x) pl (λw hw=>mem_eqAt rx fx r fs w (by simpa using hw)) ⟨.bl _,H,I,rfl,?_⟩;rw[show its.toArray.any (eqU x)=its.any (eqU x) by simp,any_eqU r fs];exact q
theorem call_len_seq:CallR X (.builtin "len") (λxs H Q=>∃p ys,xs=[.ref p]/\(SqL X.K H p ys\/SqT X.K H p ys)/\Q (.int ys.length) H):=by
 intro pins s σ H xs us Q I r h;obtain⟨p,ys,rfl,hq,q⟩:=h;obtain⟨u,rfl,rx⟩:=vals1 r;cases rx;have hn:=line63;rcases hq with hq |hq
 ·obtain⟨its,r',pl,hz⟩:=I.list hq;have hlen:=r'.length;exact Calls.call_len_list pl.isList (by simp only[z1c] <;> omega) ⟨.int ys.length,H,I.tok _,⟨s.toks+1,by rw[z1c,hlen]⟩,q⟩
 ·obtain⟨its,r',pl,hz⟩:=I.tuple hq;have hlen:=r'.length;exact len_tuple pl (by simp only[z1c] <;> omega) ⟨.int ys.length,H,I.tok _,⟨s.toks+1,by rw[z1c,hlen]⟩,q⟩
theorem call_tuple_of:CallR X (.type "tuple") (λxs H Q=>∃p ys,xs=[.ref p]/\((SqL X.K H p ys/\∀l,H l=none->Q (.ref l) (upd H l (.tup ys)))\/(SqT X.K H p ys/\Q (.ref p) H))):=by
 intro pins s σ H xs us Q I r h;obtain⟨p,ys,rfl,h⟩:=h;obtain⟨u,rfl,rx⟩:=vals1 r;cases rx;rcases h with⟨hq,q⟩ |⟨hq,q⟩
 ·obtain⟨its,r',pl,hz⟩:=I.list hq;have hlen:=r'.length;refine call_tuple_list pl.isList (λh' kp=>?_) (by simp only[z1c] <;> omega);have I1:Inv X pins σ H {s with heap:=h'}:=I.kept (t':=s.toks) kp;have I2:Inv X pins σ (upd H h'.objs.size (.tup ys)) {s with heap:=h'.push {cls:= .type "tuple",data:= .seq its.toArray}}:=
   I1.laid (t':=s.toks) (λb o e=>z1a _ e) (z0g _) (show ObjOk X.prog X.w _ _ _ (.tup ys) from⟨hz,its,r',uo.new _ _⟩)
  exact⟨.ref h'.objs.size,_,I2,rfl,q _ (I1.hok.fresh (z0g _))⟩
 ·obtain⟨its,r',pl,hz⟩:=I.tuple hq;exact call_tuple_same pl ⟨.ref p,H,I,rfl,q⟩
def tyV(K:PySem.W.Frag)(T:String)(x:V)(H:Hp):Prop:=match x with
 | .str _=>T= "str"
 | .int _=>T= "int"
 | .ref p=>(T= "list"/\∃xs,SqL K H p xs)\/(T= "tuple"/\∃xs,SqT K H p xs)\/
   (T= "dict"/\((∃kvs,H p=some (.dK kvs))\/∃kvs,H p=some (.dT kvs)))\/(T= "set"/\∃S n,H p=some (.set S n))
 |_=>False
theorem tyV_is{pins:List (abX×Obj)}{σ:St}{H:Hp}{s:abZ}{T:String}{x:V}{v:abY}(I:Inv X pins σ H s)(r:RelV x v)(ty:tyV X.K T x H):
  s.TypeIs v T/\∀a,v= .ref a->∃ob,s.heap.get? a=some ob/\ob.dict=none:=by
 cases x with
 | str z=>
  obtain⟨t,rfl⟩:=r;cases (show T= "str" from ty);exact⟨typeIs_str s z t,λ_ e=>nomatch e⟩
 | int i=>
  obtain⟨t,rfl⟩:=r;cases (show T= "int" from ty);exact⟨afa s i t,λ_ e=>nomatch e⟩
 | ref p =>
  cases r;rcases ty with⟨rfl,xs,hq⟩ |⟨rfl,xs,h |⟨o,its,n,hk,hc,hd,_⟩⟩ |⟨rfl,hk⟩ |⟨rfl,S,n,hk⟩
  ·obtain⟨its,_,pl,_⟩:=I.list hq;refine⟨pl.isList.typeIs,λa e=>?_⟩;cases e;obtain⟨o,n,e,c,hd,_⟩:=pl;exact⟨o,e,hd⟩
  ·obtain⟨_,its,_,o,e1,c1,d1,_⟩:=h.ok I.hok;refine⟨⟨o,e1,c1⟩,λa e=>?_⟩;cases e;exact⟨o,e1,d1⟩
  ·refine⟨⟨o,I.kIn p o hk,hc⟩,λa e=>?_⟩;cases e;exact⟨o,I.kIn _ o hk,hd⟩
  ·have z:∃o,s.heap.get? p=some o/\o.ExactDict:=by
    rcases hk with⟨kvs,hk⟩ |⟨kvs,hk⟩
    ·obtain⟨_,_,_,_,o,_,_,e,ex,_⟩:=I.hok p _ hk;exact⟨o,e,ex⟩
    ·obtain⟨_,_,_,_,o,_,_,e,ex,_⟩:=I.hok p _ hk;exact⟨o,e,ex⟩
   obtain⟨o,e,ex⟩:=z;refine⟨⟨o,e,ex.1⟩,λa e2=>?_⟩;cases e2;exact⟨o,e,ex.2.1⟩
  ·obtain⟨o,_,_,_,e,ex,_⟩:=I.hok p _ hk;refine⟨⟨o,e,ex.1⟩,λa e2=>?_⟩;cases e2;exact⟨o,e,ex.2.1⟩
 |_=>exact acL ty
def tBM(K:PySem.W.Frag)(T:String)(r:V->List V->Hp->VK->Prop)(to:TE)(t:TA):TE:=λσ H Q=>to σ H λx H1=>tyV K T x H1/\t σ H1 λxs H2=>r x xs H2 Q
variable{o e:ab6}{es:List ab6}{to:TE}{t:TA}{name:Str}{apos cpos:Pos}{T id:String}{r:V->List V->Hp->VK->Prop}
theorem pe_bm(pa:PlainAttrs T)(slot:Slot T name id)(hty:typeOf (.builtin id)=pure (.type "method_descriptor"))(hm:MtR X id r)(ho:PE X o to)(ha:PA X (e::es) t)
  (hbase:af5 o name X.env (eval o X.env)=eval o X.env:=by rfl)
  (hfew:((acO cpos (ab2 (e::es) X.env)).all (λx=> !x.1) && (ae1 cpos (aea [] X.env)).all (λx=>x.1.isSome)
   && decide ((e::es).length+([]:List ad0).length+(if ([]:List ad0).isEmpty then 0 else 1)<30))=true:=by rfl)
  (hline:(apos.endLine ==cpos.line)=true:=by rfl) (hs:ab2 (e::es) X.env=(false,eval e X.env)::ab2 es X.env:=by rfl) (hplain:(acO cpos (ab2 es X.env)).any (·.1)=false:=by rfl):
  PE X (.Call (.Attribute o name apos) (e::es) [] cpos) (tBM X.K T r to t):=by
 intro pins s σ H Q I h;refine wpAny_Call_method_late hbase hfew hline rfl (thn (ho pins s σ H _ I h) λv s1 bC=>?_);obtain⟨x,H1,I1,r1,ty,q1⟩:=bC;obtain⟨h1,h2⟩:=tyV_is I1 r1 ty;refine⟨T,id,pa,slot,hty,h1,h2,?_⟩;have hA:=ha cpos pins s1 σ H1 _ I1 q1;rw[hs] at hA |-;refine Calls.callWith_builtin (by show (false || (acO cpos (ab2 es X.env)).any (·.1))=false;rw[hplain] <;> rfl) (afC ?_);refine thn hA λus s2 bC=>?_;obtain⟨vs,H2,I2,r2,q2⟩:=bC;exact hm pins s2 σ H2 x vs v us Q I2 r1 r2 q2
end
def MtM(X:Cx)(id:String)(r:V->List V->Hp->VK->Prop):Prop:=
 ∀(pins:List (abX×Obj)) (s:abZ) (σ:St) (H:Hp) (x:V) (xs:List V) (v:abY) (us:List abY) (Q:VK),Inv X pins σ H s->RelV x v->Vals xs us->r x xs H Q->
  ab4 (model X.prog X.w) X.A (call (.builtin id) (v::us)) (EP X pins σ Q) X.xe s
theorem Vals.one:∀{x:V} {us:List abY},Vals [x] us->∃u,us=[u]/\RelV x u
 | _,_,h=>by
  cases h with
  |cons r t=>cases t;exact⟨_,rfl,r⟩
theorem Vals.rep{xs:List V}{us:List abY}(h:Vals xs us):∀k:Nat,Vals (ab3 k xs).flatten (ab3 k us).flatten
 |0=> .nil
 | k+1=>by
  rw[adl,adl,adR,adR];exact Vals.append h (Vals.rep h k)
theorem foldl_rep(its:List abY):∀(k:Nat) (acc:List abY),
  agd (λx1 x2=>x1++x2) acc.toArray (ab3 k its.toArray)=(acc++(ab3 k its).flatten).toArray
 |0,acc=>by simp
 | k +1,acc=>by
  have e:acc.toArray++its.toArray=(acc++its).toArray:=by simp
  have e2:(acc++its)++(ab3 k its).flatten=acc++(ab3 (k+1) its).flatten:=by
   rw[adl,adR,ado]
  rw[<-e2,<-foldl_rep its k (acc++its),<-e,adl,List.foldl_cons]
section
variable{X:Cx}{pins:List (abX×Obj)}{σ:St}{H:Hp}{s:abZ}{l b:abX}{xs ys zs:List V}
theorem Inv.lset{its its':List abY}{n:Nat}{f:Array abY->Array abY}{t':Nat}(I:Inv X pins σ H s)(hH:H l=some (.lst xs))
  (e:s.heap.get? l=some {cls:= .type "list",data:= .seq its.toArray n})(hf:f its.toArray=its'.toArray)(hv:Vals ys its')(hz:ys.length<=sizeLine):
  Inv X pins σ (upd H l (.lst ys)) {s with heap:=s.heap.update l (adb f),toks:=t'}:=by
 have q:=PySem.IsL.update e f;rw[hf] at q;refine I.write (x:=l) (e:=l) (by rw[hH];exact trivial) (.inl rfl) (λb' u hb hu=>(adh s.heap (adb f) (acd hb)).trans hu) ⟨_,q⟩ ?_;exact⟨hz,its',_,hv,q⟩
theorem Inv.lnew{its:List abY}{t':Nat}(I:Inv X pins σ H s)(hv:Vals ys its)(hz:ys.length<=sizeLine):
  Inv X pins σ (upd H s.heap.objs.size (.lst ys)) {s with heap:=s.heap.push {cls:= .type "list",data:= .seq its.toArray},toks:=t'}:=
 I.laid (λ_ _ q=>z1a _ q) (z0g _) ⟨hz,its,0,hv,z1f _ rfl⟩
theorem Inv.fresh(I:Inv X pins σ H s):H s.heap.objs.size=none:=I.hok.fresh (z0g _)
theorem Inv.lstM(I:Inv X pins σ H s)(hH:H l=some (.lst xs)):xs.length<=sizeLine/\∃(its:List abY) (n:Nat),Vals xs its/\xs.length=its.length/\s.heap.get? l=some {cls:= .type "list",data:= .seq its.toArray n}:=by
 obtain⟨z,its,n,r,e⟩:=I.hok l _ hH;exact⟨z,its,n,r,r.length,e⟩
end
section
variable{X:Cx}
def rAppend:V->List V->Hp->VK->Prop:=λx vs H Q=>∃l xs y,x= .ref l/\vs=[y]/\H l=some (.lst xs)/\xs.length<sizeLine/\Q .non (upd H l (.lst (xs++[y])))
theorem mt_append:MtM X "list.append" rAppend:=by
 intro pins s σ H x vs v us Q I rx rv h;obtain⟨l,xs,y,rfl,rfl,hH,hz,q⟩:=h;cases rx;obtain⟨u,rfl,ru⟩:=rv.one;obtain⟨z,its,n,r,hl,e⟩:=I.lstM hH;refine ad8 F.slot_list_append ⟨_,e,rfl⟩ F.entry_list_append (F.args_list_append_2 _ _) (PySem.list_append l its.toArray n u (by rw[z1c];omega)) ⟨e,?_⟩;refine⟨.non,_,I.lset (its':=its++[u]) hH e (by simp) (r.append (.cons ru .nil)) ?_,rfl,q⟩;rw[z1d,ad1];omega
theorem len_rep{α:Type}(xs:List α)(k:Nat):(ab3 k xs).flatten.length=k*xs.length:=by
 induction k with
 |zero=>simp
 |succ k ih=>rw[adl,adR,z1d,ih,Nat.succ_mul,Nat.add_comm]
end
section
variable{prog:ab9}{w:acf}{A:acg}{E:abY->abZ->Prop}{s:abZ}
end
section
variable{X:Cx}
end
section
variable{κ:Type}[DecidableEq κ]
end
section
variable{P:ab9}{w:acf}{H:Hp}{h:ace}{a:abX}
end
section
variable{X:Cx}{pins:List (abX×Obj)}{σ:St}{H:Hp}{s:abZ}{a:abX}{y v:V}{u r:abY}{o:Option V}{A:acg}{E:abY->abZ->Prop}
end
section
variable{X:Cx}{pins:List (abX×Obj)}{σ:St}{H:Hp}{s:abZ}{a:abX}{kvs:List (Key×V)}{k:Key}{u:abY}{A:acg}{E:abY->abZ->Prop}
end
section
variable{X:Cx}{o i e value:ab6}{pos pos' tpos:Pos}{td ty tv:TE}
end
section
variable{X:Cx}{pos:Pos}
end
section
variable{X:Cx}{pins:List (abX×Obj)}{σ:St}{H:Hp}{s:abZ}{a:abX}{y d:V}{u r:abY}{o:Option V}{A:acg}{E:abY->abZ->Prop}
end
section
variable{X:Cx}{o e f:ab6}{apos cpos:Pos}{td ty tx:TE}
end
section
variable{X:Cx}{pins:List (abX×Obj)}{σ:St}{H:Hp}{s:abZ}{a:abX}{kvs:List (Key×V)}{A:acg}{E:abY->abZ->Prop}
end
section
variable{X:Cx}{pins:List (abX×Obj)}{σ:St}{H:Hp}{s:abZ}{a:abX}{y:V}{u:abY}{A:acg}{E:abY->abZ->Prop}
end
end L2
namespace Att
open PySem PySem.W PySem.Calls PyProof.Rows
theorem ints_of_wellAll{P:Params}{h:ace}:∀(ns:List Int) (vs:List abY),WellAll P h vs (ns.map WData.int)->adV vs ns:=by
 intro ns
 induction ns with
 | nil=>
  intro vs w;rw[aef] at w;cases w;exact .nil
 | cons n ns ih=>
  intro vs w;rw[z1h] at w;cases w with
  | cons a b=>
   cases a;exact .cons _ _ (ih _ b)
theorem script_of{l:OpenLaw}{n:Nat}(hn:l.most=some n){P:Params}{h:ace}{args:List WData}{vals:List abY}
  (hpre:l.row.toRowW.claim.pre args=true)(hwl:WellAll P h vals args):
  ∃a vs ns,vals=[ab8 a]/\args=[WData.list (ns.map WData.int)]/\h.get? a=some {cls:= .type "list",data:= .seq vs.toArray}/\adV vs ns/\ns.length<=n:=by
 have hsh:WShape.hasAll [] args [.list .int]=true:=(pre_splitW hpre).1;have hc:l.pre.holds [] {args:=args}=true:=(pre_splitW hpre).2;obtain⟨d,r,rfl,h1,h2⟩:=hasAllW_cons hsh;obtain rfl:=hasAllW_nil h2;obtain⟨xs,rfl,h3⟩:=hasW_list h1;obtain⟨ns,rfl⟩:=items_int h3;have hlen:ns.length<=n:=by
  unfold OpenLaw.pre at hc;have h4:(WTm.not (.lt (.lit (.int (n:Int))) (.len (.arg 0)))).holds [] {args:=[.list (ns.map .int)]}=true:=by
   have h4:=(holds_andW hc).1;rw[hn] at h4;exact h4
  have h5:=condW_of h4 (w_not (w_lt w_lit (w_len_list (w_arg rfl))));rw[z1g] at h5;refine Nat.le_of_not_lt λq=>?_;have q':(n:Int)<((ns.length:Nat):Int):=by omega
  first
   |(rw[decide_eq_true q'] at h5;exact absurd h5 (by decide))
   |(simp at h5;omega)
 cases hwl with
 | cons w1 w2=>
  cases w2;cases w1 with
  |list ho hall=>exact⟨_,_,ns,rfl,rfl,ho,ints_of_wellAll ns _ hall,hlen⟩
theorem post_true(l:OpenLaw)(args:List WData):l.row.toRowW.claim.post args (.bool true) args=true:=
 postW_of (r:=l.row.toRowW) (X:=(true ==true))
  (show WShape.has [] (.bool true) .bool=true by first |rfl |decide |simp[WShape.has,WShape.arms,WShape.armsAll])
  (show (WTm.eq .res (.lit (.bool true))).value [] {args:=args,res:=some (.bool true),after:=args}=some (.bool (true ==true)) from w_eq_bool (w_res rfl) w_lit) rfl
theorem attach_call{l:OpenLaw}{n:Nat}{q:ab9}{loose:List Str}{XP:(Str->Option abY)->ace->Prop}{YP:acf->ace->Prop}{d:DefRec}
  (hn:l.most=some n)(hdf:d.params.defaults=[])
  (call:∀(w:acf) (s₀ s₁:abZ) (mg mb:Str->Option abY) (fa:abX) (o:Obj) (pm cd doc:abY) (a:abX) (vs:List abY) (ns:List Int),
   Ground q loose [] XP w s₀ mg mb s₁.heap->YP w s₁.heap->
   s₁.heap.get? fa=some o->o.data= .func (docDef d.name d.params d.body d.scope pm cd doc)->s₁.heap.CodeRec cd d.name->mg d.name=some (.ref fa)->
   s₁.heap.get? a=some {cls:= .type "list",data:= .seq vs.toArray}->adV vs ns->ns.length<=n->s₁.gens= #[]->
   aeI (model l.prog w) aej (.call (.ref fa) ⟨[.ref a],[]⟩) (λr s'=>r= .ok (.ret (.bool true))/\OldK s₁.heap s'.heap/\s'.os=s₁.os/\aew s'.gens) s₁):
  WalkO q loose XP YP l.row.toRowW d [] (λf vs=>PySem.call f vs):=by
 intro w s₀ s₁ mg mb G Y fa o pm cd doc dV kV ho hd hcd hD hmg hg args vals as hpre hlay hrd hwl hlo;obtain rfl:dV= .none:=Dflts.none hD hdf;obtain rfl:kV= .none:=Dflts.noKw hD;obtain⟨a,vs,ns,rfl,rfl,hobj,hints,hlen⟩:=script_of hn hpre hwl;refine enter_call (aex (call w s₀ s₁ mg mb fa o pm cd doc a vs ns G Y ho (fd_plain hd) hcd hmg hobj hints hlen hg) λr s' hq=>?_);obtain⟨rfl,h2,h3,h4⟩:=hq;exact⟨.inl ⟨.bool true,.bool true,[],rfl,λ_=>rfl,.bool true,post_true l _,λ_=>⟨aga,λ_ hm=>(nomatch hm)⟩⟩,h2,h3,h4⟩
section
variable{prog:ab9}{w:acf}{A:acg}{E:abY->abZ->Prop}{s:abZ}{K:Frag}
end
end Att
namespace L2
open PySem PySem.Spec PyProof.Rows
variable{fd:acK}{st:acp}{x qual:Str}
theorem vals_ints:∀{vs:List abY} {ns:List Int},adV vs ns->Vals (ns.map V.int) vs
 :=by
 intro vs ns h
 induction h with
 |nil=>exact .nil
 |cons n t h ih=>exact .cons ⟨t,rfl⟩ ih
def Only(H:Hp):Prop:=∀b,H b=none\/∃o xs,H b=some (.frz o (.lst xs))
theorem law_call {P:Program} {w:World} {K:PySem.W.Frag} {mg mb:Str→Option Value} {CX:CXT} {k:Nat} {fa a:Addr} {sp:Sp} {s₁:Shared} {vs:List Value} {ns:List Int}
    (KX:K.In s₁.heap)(hns:s₁.heap.Ns ab5 mg)(hb:s₁.heap.Ns aen mb)(hbb:∀x:Str,x≠"__name__"→mb x=adB x)(hlim:s₁.heap.NoLimit)(hg:s₁.gens= #[])
    (ha:s₁.heap.get? a=some {cls:= .type "list",data:= .seq vs.toArray})(hi:adV vs ns)(hl:ns.length≤sizeLine)(hr:Room k aej)
    (F:∀base:ace,K.In base→base.Ns ab5 mg→FnOk P w K mg base CX k fa fd [x] sp)(hbind:∀(s:abZ) (u:abY),ae9 s fd ⟨[u],[]⟩ [(x,u)])
    (hsp:∀H:Hp,Only H→SqL K H a (ns.map V.int)→sp [.ref a] H (fun v _=>v= .bl true) fun _ _ _=>False)
    (hCX:∀H e s',CX [] H s₁ (fun _ _ _=>False) e s'→False):
    aeI (model P w) aej (.call (.ref fa) ⟨[.ref a],[]⟩) (fun r s'=>r= .ok (.ret (.bool true))∧OldK s₁.heap s'.heap∧s'.os=s₁.os∧aew s'.gens) s₁:=by
  have rv:=vals_ints hi
  have lenV:=hi.length
  have core :∀H:Hp,Only H→SqL K H a (ns.map V.int)→HOk P w H s₁.heap→(∀b,H b≠none→b=a)→(H a≠none→K.lookup a=none)→
      aeI (model P w) aej (.call (.ref fa) ⟨[.ref a],[]⟩) (fun r s'=>r= .ok (.ret (.bool true))∧OldK s₁.heap s'.heap∧s'.os=s₁.os∧aew s'.gens) s₁:=by
    intro H hO hS hok hA hK
    have base_of:∀{b:abX} {o:Obj},s₁.heap.get? b=some o→H b=none→(hidT s₁.heap H).get? b=some o:=fun e n=>hidT_get e n
    have noA:∀{b:abX} {o:Obj} {es:Array DictEntry} {ep:Nat},s₁.heap.get? b=some o→o.data= .dict es ep→H b=none:=fun {b o es ep} e d=>by
      cases q:H b with
      |none=>rfl
      | some u=>
        have e':b=a:=hA b (by rw[q];simp)
        subst e'
        rw[ha] at e;cases e
        have d':agI vs.toArray _=Data.dict es ep:=d
        cases d'
    have nsK:∀{b:abX} {m:Str→Option abY},s₁.heap.Ns b m→(hidT s₁.heap H).Ns b m:=fun {b m} ⟨o,es,ep,e,d,r⟩=>⟨o,es,ep,base_of e (noA e d),d,r⟩
    have hKb:K.In (hidT s₁.heap H):=fun b o e=>base_of (KX b o e) (by
      cases q:H b with
      |none=>rfl
      | some u=>
        have e':b=a:=hA b (by rw[q];simp)
        subst e'
        rw[hK (by rw[q];simp)] at e;cases e)
    have hM:Mod K mg (hidT s₁.heap H):=⟨hKb,nsK hns,⟨mb,nsK hb,hbb⟩,let⟨mc,h1,h2⟩:=hlim;⟨mc,nsK h1,h2⟩⟩
    have e0:Env0 P w K mg (hidT s₁.heap H) aej [] s₁ H:=⟨rfl,hM,fun b o e=>of_hidT e,Nat.le_of_eq (hidT_size _ _),trivial,fun b hb=>absurd (show b∈([]:List abX) from hb) (by simp),hok,.of_eq hg⟩
    refine aex ((F _ hKb (nsK hns)).run aej [] s₁ H ⟨[.ref a],[]⟩ [.ref a] [.ref a] _ _ hr e0 (hbind s₁ (.ref a)) (.cons rfl .nil) (hsp H hO hS)) fun r s' h=>?_
    cases r with
    |error e=>exact (hCX H e s' h).elim
    | ok fl =>
      cases fl with
      |next=>exact acL h
      |brk=>exact acL h
      |cont=>exact acL h
      | ret u=>
        obtain⟨v,H',os,bare,un,hok',r',q⟩:=h
        have q':v= .bl true:=q
        subst q'
        obtain rfl:u=agc true:=r'
        refine⟨rfl,OldK.of_keep fun b o e=>?_,os,bare⟩
        cases q:H b with
        |none=>exact un.keep b o e q (by intro z;exact absurd (show b∈([]:List abX) from z) (by simp)) (by simp)
        | some u=>
          rcases hO b with z |⟨ob,xs,z⟩
          · rw[q] at z;cases z
          · have z2:=un.frzs b ob _ z
            obtain⟨e1,_⟩:=hok b _ z
            obtain⟨e2,_⟩:=hok' b _ z2
            rw[e] at e1;cases e1
            exact e2
  cases hk:K.lookup a with
  | some o=>
    have e:=KX a o hk
    rw[ha] at e
    cases e
    refine core (fun _=>none) (fun _=> .inl rfl) (.inr ⟨_,vs.toArray,_,hk,rfl,rfl,rfl,by rw[af9,lenV];exact hl,by simpa using rv⟩) (fun b u z=>by have z':(none:Option HO)=some u:=z;cases z') (fun b z=>absurd rfl z) fun z=>absurd rfl z
  | none=>
    refine core (fun b=>if b=a then some (.frz {cls:= .type "list",data:= .seq vs.toArray} (.lst (ns.map V.int))) else none) (fun b=>?_) (.inl (.inr ⟨{cls:= .type "list",data:= .seq vs.toArray},if_pos rfl⟩)) (fun b u z=>?_) (fun b z=>?_) fun _=>hk
    · by_cases hb:b=a
      · exact .inr ⟨_,_,if_pos hb⟩
      · exact .inl (if_neg hb)
    · by_cases hb:b=a
      · have z':=(if_pos hb).symm.trans z
        cases z'
        subst hb
        exact⟨ha,by rw[agB];exact hl,vs,_,rv,ha⟩
      · have z':=(if_neg hb).symm.trans z
        cases z'
    · by_cases hb:b=a
      · exact hb
      · exact absurd (if_neg hb) z
theorem walk_of{l:PySem.W.OpenLaw}{n k:Nat}{q:ab9}{loose:List Str}{XP:(Str->Option abY)->ace->Prop}{YP:acf->ace->Prop}{d:DefRec}{K:Params->PySem.W.Frag}{CX:acf->CXT}{sp:acf->Sp}
  (hn:l.most=some n)(hn2:n<=sizeLine)(hdf:d.params.defaults=[])(hr:Room k aej)
  (hY:∀(w:acf) (h:ace),YP w h->(K w.params).In h)
  (F:∀(w:acf) (mg:Str->Option abY) (fa:abX) (h:ace),(K w.params).In h->h.Ns ab5 mg->mg d.name=some (.ref fa)->
   ∃fd:acK,(∀(s:abZ) (u:abY),ae9 s fd ⟨[u],[]⟩ [(x,u)])/\
    ∀base:ace,(K w.params).In base->base.Ns ab5 mg->FnOk l.prog w (K w.params) mg base (CX w) k fa fd [x] (sp w))
  (hsp:∀(w:acf) (H:Hp) (a:abX) (ns:List Int),ns.length<=n->Only H->SqL (K w.params) H a (ns.map V.int)->sp w [.ref a] H (λv _=>v= .bl true) λ_ _ _=>False)
  (hCX:∀(w:acf) (H:Hp) (s:abZ) (e:abY) (s':abZ),CX w [] H s (λ_ _ _=>False) e s'->False):
  PySem.W.WalkO q loose XP YP l.row.toRowW d [] (λf vs=>PySem.call f vs):=by
 refine Att.attach_call hn hdf λw s₀ s₁ mg mb fa o pm cd doc a vs ns G Y ho hd hcd hmg hobj hints hlen hg=>?_;have KX:=hY w _ Y;obtain⟨fd,hb,hF⟩:=F w mg fa _ KX G.T.g hmg;exact law_call KX G.T.g G.T.b G.T.builtins G.T.nolimit hg hobj hints (z0b hlen hn2) hr hF hb (λH hO hS=>hsp w H a ns hlen hO hS) λH e s'=>hCX w H s₁ e s'
def defArgs(s:acp):aeb:=match s with
 | .FunctionDef _ a _ _ _ _ _ _ _ _=>a
 |_=>{posonlyargs:=[],args:=[],vararg:=none,kwonlyargs:=[],kw_defaults:=[],kwarg:=none,defaults:=[]}
def defBody(s:acp):List acp:=match s with
 | .FunctionDef _ _ b _ _ _ _ _ _ _=>b
 |_=>[]
def defScope(s:acp):adA:=match s with
 | .FunctionDef _ _ _ _ _ _ sc _ _ _=>sc
 |_=>{kind:= .function,names:=[],isGenerator:=false,isCoroutine:=false}
abbrev CX0:CXT:=λ_ _ _ _ _ _=>False
abbrev E0:XK:=λ_ _ _=>False
theorem pass0{X:Cx}:Passes CX0 X E0:=λ_ _ _ _ _ _ _ h=>h.elim
inductive WQ (K:PySem.W.Frag) (x qual:Str) (st:acp) (f:abX) (fd:acK):Prop
 |mk (oc:abY) (od:Option abX) (kV doc pm:abY) (an:Option abX) (cdv ct:abY) (osl:Array (Option abY)) (e:fd=PySem.W.fnOf x qual (defArgs st) (defBody st) (defScope st) .none kV doc pm an cdv ct) (lk:K.lookup f=some ⟨oc,od,.func fd,osl⟩) (hcd:PySem.W.codeIn K cdv qual=true):WQ K x qual st f fd
structure Fun(K:PySem.W.Frag)(x qual:Str)(st:acp)(f:abX)(fd:acK):Prop where
 ex:WQ K x qual st f fd
 kp:PySem.W.keepIn K (.ref f)=true
section
variable{P:ab9}{w:acf}{K:PySem.W.Frag}{mg:Str->Option abY}{base:ace}
theorem Fun.ok{f:abX}{N ps:List Str}{k:Nat}{sp:Sp}(F:Fun K x qual st f fd)(S:FnScope N ps (defScope st))(len:∀vs H Q E,sp vs H Q E->vs.length=ps.length)
  (hbody:∀(cdv:abY) (A:acg) (outer:List Env) (s:abZ) (H:Hp) (vs:List V) (Q:VK) (E:XK),Room k (A.deeper (adF qual (defScope st) s.heap.objs.size f cdv))->sp vs H Q E->
   ∃t,PSs (cxOf CX0 P w K mg base N qual (defScope st) f cdv A outer s H E).nox (defBody st) t/\t {nx:=λ_ H'=>Q .non H',rt:=Q} (start N vs) H):FnOk P w K mg base CX0 (k+1) f fd ps sp:=by
 obtain⟨oc,od,kV,doc,pm,an,cdv,ct,osl,rfl,lk,hcd⟩:=F.ex;refine fn_of lk hcd S len λA outer s H vs Q E hr hsp=>?_;obtain⟨t,h,q⟩:=hbody cdv A outer s H vs Q E hr hsp;exact⟨t,h.nox,q⟩
theorem Fun.binds{f:abX}{ps:List Str}(F:Fun K x qual st f fd)
  (h:∀(kV doc pm:abY) (an:Option abX) (cdv ct:abY) (us:List abY),us.length=ps.length->adU (PySem.W.fnOf x qual (defArgs st) (defBody st) (defScope st) .none kV doc pm an cdv ct) ⟨us,[]⟩=pure (ps.zip us)):Binds K fd ps []:=by
 obtain⟨oc,od,kV,doc,pm,an,cdv,ct,osl,rfl,lk,hcd⟩:=F.ex;exact .all (h kV doc pm an cdv ct)
theorem fun_mk{f:abX}{oc:abY}{od an:Option abX}{osl:Array (Option abY)}{kV doc pm cdv ct:abY}(l:K.lookup f=some ⟨oc,od,.func (PySem.W.fnOf x qual (defArgs st) (defBody st) (defScope st) .none kV doc pm an cdv ct),osl⟩)
  (c:PySem.W.codeIn K cdv qual=true)(k:PySem.W.keepIn K (.ref f)=true):Fun K x qual st f (PySem.W.fnOf x qual (defArgs st) (defBody st) (defScope st) .none kV doc pm an cdv ct):=⟨⟨oc,od,kV,doc,pm,an,cdv,ct,osl,rfl,l,c⟩,k⟩
end
section
variable{X:Cx}
end
def Same(H H':Hp):Prop:=∀b o,H b=some o->H' b=some o
theorem Same.refl(H:Hp):Same H H:=λ_ _ h=>h
theorem Same.trans{H H1 H2:Hp}(a:Same H H1)(b:Same H1 H2):Same H H2:=λc o h=>b c o (a c o h)
theorem Same.free{H H':Hp}(e:Same H H'){l:abX}(h:H' l=Option.none):H l=Option.none:=by
 cases q:H l with
 |none=>rfl
 | some o=>
  rw[e l o q] at h;cases h
section
variable{κ:Type}[DecidableEq κ]
end
end L2
namespace Pu
open PySem PySem.Spec L2
open PyProof.Rows hiding St
inductive D where
 |non |bl (b:Bool) |int (i:Int) |str (x:Str) |tup (xs:List D) |lst (xs:List D)
inductive R (α:Type) where
 |bad |ok (a:α) |err (c:Str)
namespace R
def bind{α β:Type}(r:R α)(k:α->R β):R β:=match r with
 | .ok a=>k a
 | .err c=> .err c
 | .bad=> .bad
@[simp] theorem bh {α β:Type} (a:α) (k:α->R β):(R.ok a).bind k=k a:=rfl
end R
mutual
def Rep(K:PySem.W.Frag)(O:abX->Prop)(H:Hp):D->V->Prop
 | .non,v=>v= .non
 | .bl b,v=>v= .bl b
 | .int i,v=>v= .int i
 | .str x,v=>v= .str x
 | .tup ds,v=>∃a xs,v= .ref a/\SqT K H a xs/\aO K O H ds xs
 | .lst ds,v=>∃a xs,v= .ref a/\SqL K H a xs/\¬O a/\aO K O H ds xs
def aO(K:PySem.W.Frag)(O:abX->Prop)(H:Hp):List D->List V->Prop
 |[],xs=>xs=[]
 |d::ds,xs=>∃x r,xs=x::r/\Rep K O H d x/\aO K O H ds r
end
structure Ext(O:abX->Prop)(H H':Hp):Prop where
 tup:∀b xs,Rd H b (.tup xs)->Rd H' b (.tup xs)
 lst:∀b xs,¬O b->Rd H b (.lst xs)->Rd H' b (.lst xs)
section
variable{K:PySem.W.Frag}{O O':abX->Prop}{H H':Hp}
theorem SqL.ext(e:Ext O H H'){a:abX}{xs:List V}(n:¬O a)(h:SqL K H a xs):SqL K H' a xs:=by
 rcases h with h |h
 ·exact .inl (e.lst _ _ n h)
 ·exact .inr h
theorem SqT.ext(e:Ext O H H'){a:abX}{xs:List V}(h:SqT K H a xs):SqT K H' a xs:=by
 rcases h with h |h
 ·exact .inl (e.tup _ _ h)
 ·exact .inr h
mutual
theorem Rep.ext(e:Ext O H H')(o:∀b xs,¬O b->SqL K H b xs->¬O' b):∀(d:D) (v:V),Rep K O H d v->Rep K O' H' d v
 | .non,_,h=>by simpa only[Rep] using h
 | .bl _,_,h=>by simpa only[Rep] using h
 | .int _,_,h=>by simpa only[Rep] using h
 | .str _,_,h=>by simpa only[Rep] using h
 | .tup ds,v,h=>by
  simp only[Rep] at h |-;obtain⟨a,xs,e1,h1,h2⟩:=h;exact⟨a,xs,e1,SqT.ext e h1,aO.ext e o ds xs h2⟩
 | .lst ds,v,h=>by
  simp only[Rep] at h |-;obtain⟨a,xs,e1,h1,h2,h3⟩:=h;exact⟨a,xs,e1,SqL.ext e h2 h1,o _ _ h2 h1,aO.ext e o ds xs h3⟩
theorem aO.ext(e:Ext O H H')(o:∀b xs,¬O b->SqL K H b xs->¬O' b):∀(ds:List D) (xs:List V),aO K O H ds xs->aO K O' H' ds xs
 |[],xs,h=>by simpa only[aO] using h
 | d::ds,xs,h=>by
  simp only[aO] at h |-;obtain⟨x,r,e1,h1,h2⟩:=h;exact⟨x,r,e1,Rep.ext e o d x h1,aO.ext e o ds r h2⟩
end
end
structure fL(K:PySem.W.Frag)(O:abX->Prop)(H:Hp)(O':abX->Prop)(H':Hp):Prop where
 ext:Ext O H H'
 new:∀a,O' a->O a\/(H a=none/\K.lookup a=none)
 dom:∀a,H' a=none->H a=none
section
variable{K:PySem.W.Frag}{O O1 O2:abX->Prop}{H H1 H2:Hp}
theorem Rd.some{a:abX}{u:HO}(h:Rd H a u):H a≠none:=by
 rcases h with h |⟨o,h⟩ <;> rw[h] <;> simp
theorem fL.out(r:fL K O H O1 H1)(b:abX)(xs:List V)(n:¬O b)(h:SqL K H b xs):¬O1 b:=λz=>by
 rcases r.new b z with z |⟨z1,z2⟩
 ·exact n z
 ·rcases h with h |⟨o,_,_,h,_⟩
  ·exact Rd.some h z1
  ·rw[z2] at h;cases h
theorem fL.refl:fL K O H O H:=⟨⟨λ_ _ h=>h,λ_ _ _ h=>h⟩,λ_ h=> .inl h,λ_ h=>h⟩
theorem fL.trans(r:fL K O H O1 H1)(q:fL K O1 H1 O2 H2):fL K O H O2 H2 where
 ext:=⟨λb xs h=>q.ext.tup b xs (r.ext.tup b xs h),λb xs n h=>q.ext.lst b xs (r.out b xs n (.inl h)) (r.ext.lst b xs n h)⟩
 new:=λa z=>(q.new a z).elim (r.new a) λw=> .inr ⟨r.dom a w.1,w.2⟩
 dom:=λa z=>r.dom a (q.dom a z)
theorem Same.rd(s:Same H H1){a:abX}{u:HO}(h:Rd H a u):Rd H1 a u:=by
 rcases h with h |⟨o,h⟩
 ·exact .inl (s _ _ h)
 ·exact .inr ⟨o,s _ _ h⟩
theorem Same.eU(s:Same H H1):fL K O H O H1:=⟨⟨λ_ _ h=>Same.rd s h,λ_ _ _ h=>Same.rd s h⟩,λ_ h=> .inl h,λ_ h=>s.free h⟩
theorem Rep.go(r:fL K O H O1 H1){d:D}{v:V}(h:Rep K O H d v):Rep K O1 H1 d v:=Rep.ext r.ext r.out d v h
theorem aO.go(r:fL K O H O1 H1){d:List D}{v:List V}(h:aO K O H d v):aO K O1 H1 d v:=aO.ext r.ext r.out d v h
theorem Rep.same(s:Same H H1){d:D}{v:V}(h:Rep K O H d v):Rep K O H1 d v:=h.go (Same.eU s)
theorem aO.same(s:Same H H1){d:List D}{v:List V}(h:aO K O H d v):aO K O H1 d v:=h.go (Same.eU s)
theorem Rep.fewer(w:∀a,O1 a->O a){d:D}{v:V}(h:Rep K O H d v):Rep K O1 H d v:=Rep.ext ⟨λ_ _ h=>h,λ_ _ _ h=>h⟩ (λb _ n _ z=>n (w b z)) d v h
theorem aO.fewer(w:∀a,O1 a->O a){d:List D}{v:List V}(h:aO K O H d v):aO K O1 H d v:=aO.ext ⟨λ_ _ h=>h,λ_ _ _ h=>h⟩ (λb _ n _ z=>n (w b z)) d v h
theorem aO.nil:aO K O H [] []:=by simp only[aO]
theorem aO.cons{d:D}{v:V}{ds:List D}{vs:List V}(h:Rep K O H d v)(t:aO K O H ds vs):aO K O H (d::ds) (v::vs):=by simp only[aO];exact⟨v,vs,rfl,h,t⟩
theorem aO.cons_inv{d:D}{ds:List D}{vs:List V}(h:aO K O H (d::ds) vs):∃x r,vs=x::r/\Rep K O H d x/\aO K O H ds r:=by simpa only[aO] using h
theorem aO.nil_inv{vs:List V}(h:aO K O H [] vs):vs=[]:=by simpa only[aO] using h
theorem aO.length:∀{ds:List D} {vs:List V},aO K O H ds vs->ds.length=vs.length
 |[],vs,h=>by rw[h.nil_inv];rfl
 | d::ds,vs,h=>by
  obtain⟨x,r,rfl,_,t⟩:=h.cons_inv;simp[aO.length t]
theorem aO.get:∀{ds:List D} {vs:List V} {i:Nat} {d:D},aO K O H ds vs->ds[i]?=some d->∃v,vs[i]?=some v/\Rep K O H d v
 |[],_,_,_,_,e=>by simp at e
 | d::ds,vs,i,d',h,e=>by
  obtain⟨x,r,rfl,h1,t⟩:=h.cons_inv;cases i with
  |zero=>simp at e;subst e;exact⟨x,rfl,h1⟩
  |succ i=>simpa using aO.get t (i:=i) (by simpa using e)
theorem aO.bJ{ds:List D}{vs:List V}{i:Nat}{v:V}(h:aO K O H ds vs)(e:vs[i]?=some v):∃d,ds[i]?=some d/\Rep K O H d v:=by
 have hl:=h.length;have hi:i<ds.length:=by rw[hl];exact (z1b e).1
 obtain⟨v',e',r⟩:=h.get (i:=i) (d:=ds[i]) (by simp[hi]);rw[e] at e';cases e';exact⟨_,by simp[hi],r⟩
theorem aO.append:∀{ds es:List D} {vs ws:List V},aO K O H ds vs->aO K O H es ws->aO K O H (ds++es) (vs++ws)
 |[],_,vs,_,h,t=>by rw[h.nil_inv];exact t
 | d::ds,es,vs,ws,h,t=>by
  obtain⟨x,r,rfl,h1,h2⟩:=h.cons_inv;exact .cons h1 (aO.append h2 t)
theorem aO.reverse:∀{ds:List D} {vs:List V},aO K O H ds vs->aO K O H ds.reverse vs.reverse
 |[],vs,h=>by rw[h.nil_inv];exact .nil
 | d::ds,vs,h=>by
  obtain⟨x,r,rfl,h1,h2⟩:=h.cons_inv;simp only[List.reverse_cons];exact h2.reverse.append (.cons h1 .nil)
theorem aO.drop:∀{ds:List D} {vs:List V} (n:Nat),aO K O H ds vs->aO K O H (ds.drop n) (vs.drop n)
 |_,_,0,h=>h
 |[],vs,n+1,h=>by rw[h.nil_inv];exact .nil
 | d::ds,vs,n+1,h=>by
  obtain⟨x,r,rfl,h1,h2⟩:=h.cons_inv;exact h2.drop n
theorem aO.take:∀{ds:List D} {vs:List V} (n:Nat),aO K O H ds vs->aO K O H (ds.take n) (vs.take n)
 |_,_,0,_=>by simpa using aO.nil
 |[],vs,n+1,h=>by rw[h.nil_inv];exact .nil
 | d::ds,vs,n+1,h=>by
  obtain⟨x,r,rfl,h1,h2⟩:=h.cons_inv;exact .cons h1 (h2.take n)
theorem Rep.int{i:Int}{v:V}(h:Rep K O H (.int i) v):v= .int i:=by simpa only[Rep] using h
theorem Rep.bl{b:Bool}{v:V}(h:Rep K O H (.bl b) v):v= .bl b:=by simpa only[Rep] using h
theorem Rep.non{v:V}(h:Rep K O H .non v):v= .non:=by simpa only[Rep] using h
theorem Rep.str{x:Str}{v:V}(h:Rep K O H (.str x) v):v= .str x:=by simpa only[Rep] using h
theorem Rep.tup{ds:List D}{v:V}(h:Rep K O H (.tup ds) v):∃a xs,v= .ref a/\SqT K H a xs/\aO K O H ds xs:=by simpa only[Rep] using h
theorem Rep.lst{ds:List D}{v:V}(h:Rep K O H (.lst ds) v):∃a xs,v= .ref a/\SqL K H a xs/\¬O a/\aO K O H ds xs:=by simpa only[Rep] using h
theorem cg(i:Int):Rep K O H (.int i) (.int i):=by simp only[Rep]
theorem eV(b:Bool):Rep K O H (.bl b) (.bl b):=by simp only[Rep]
theorem nM:Rep K O H .non .non:=by simp only[Rep]
theorem j5(x:Str):Rep K O H (.str x) (.str x):=by simp only[Rep]
theorem gZ{ds:List D}{a:abX}{xs:List V}(h:SqT K H a xs)(r:aO K O H ds xs):Rep K O H (.tup ds) (.ref a):=by simp only[Rep];exact⟨a,xs,rfl,h,r⟩
theorem lY{ds:List D}{a:abX}{xs:List V}(h:SqL K H a xs)(n:¬O a)(r:aO K O H ds xs):Rep K O H (.lst ds) (.ref a):=by simp only[Rep];exact⟨a,xs,rfl,h,n,r⟩
end
inductive Ob where
 |exc (c:Str) |fn (a:abX)
inductive Ent where
 |val (d:D) |lst (ds:List D) |xH (kvs:List (Key×D)) |obj (t:Ob) |rws (rows:List (List D))
def Ent.own:Ent->Bool
 | .val _=>false
 | .obj _=>false
 |_=>true
def Ent.Ou:Ent->Bool
 | .val _=>true
 |_=>false
theorem Xr{e:Ent}(h:e.Ou=true):e.own=false:=by cases e <;> first |rfl |cases h
abbrev aB:=List (Option Ent)
def aaP(K:PySem.W.Frag)(O:abX->Prop)(H:Hp)(kvs:List (Key×D))(ys:List (Key×V)):Prop:=kvs.map (·.1)=ys.map (·.1)/\aO K O H (kvs.map (·.2)) (ys.map (·.2))
def nO(K:PySem.W.Frag)(H:Hp):Ob->V->Prop
 | .exc c,v=>∃a o C,v= .ref a/\H a=some (.frz o (.own a))/\o.cls= .ref C/\o.dict=none/\(∃vs,o.data= .fields vs)/\PySem.W.nsIn K ab5 c=some (some (.ref C))
 | .fn a,v=>v= .ref a/\∃o fd,H a=some (.frz o (.own a))/\o.data= .func fd
structure J6(K:PySem.W.Frag)(O:abX->Prop)(H:Hp)(rows:List (List D))(a:abX)(rs:List abX):Prop where
 at_:H a=some (.lst (rs.map V.ref))
 oa:O a
 nd:(a::rs).Nodup
 len:rs.length=rows.length
 row:∀(i:Nat) r row,rs[i]?=some r->rows[i]?=some row->O r/\∃xs,H r=some (.lst xs)/\aO K O H row xs
def p7(K:PySem.W.Frag)(O:abX->Prop)(H:Hp):Ent->V->Prop
 | .val d,v=>Rep K O H d v
 | .lst ds,v=>∃a xs,v= .ref a/\O a/\H a=some (.lst xs)/\aO K O H ds xs
 | .xH kvs,v=>∃a ys,v= .ref a/\O a/\H a=some (.dK ys)/\aaP K O H kvs ys
 | .obj t,v=>nO K H t v
 | .rws rows,v=>∃a rs,v= .ref a/\J6 K O H rows a rs
def QD(H:Hp)(ρ:aB)(σ:St):Prop:=∀(i j:Nat) (rows:List (List D)) (a:abX) (rs:List abX) (e:Ent) (v:V),i≠j->ρ[i]?=some (some (.rws rows))->σ[i]?=some (some (.ref a))->H a=some (.lst (rs.map V.ref))->ρ[j]?=some (some e)->e.own=true->σ[j]?=some (some v)->(∀r∈rs,v≠.ref r)/\∀rows',e≠.rws rows'
structure Env(K:PySem.W.Frag)(O:abX->Prop)(H:Hp)(ρ:aB)(σ:St):Prop where
 get:∀(i:Nat) e,ρ[i]?=some (some e)->∃v,σ[i]?=some (some v)/\p7 K O H e v
 sep:∀(i j:Nat) e e' v,i≠j->ρ[i]?=some (some e)->ρ[j]?=some (some e')->e.own=true->e'.own=true->σ[i]?=some (some v)->σ[j]?=some (some v)->False
 nP:QD H ρ σ
structure In(X:Cx)(O:abX->Prop)(H:Hp)(ρ:aB)(σ:St):Prop where
 env:Env X.K O H ρ σ
 al:∀a,O a->∃o,H a=some o
 len:σ.length=X.N.length
 jF:ρ.length=X.N.length
section
variable{X:Cx}{O:abX->Prop}{H H1:Hp}{ρ:aB}{σ:St}{K:PySem.W.Frag}
theorem nO.fz(s:∀b o u,H b=some (.frz o u)->H1 b=some (.frz o u)):∀{t:Ob} {v:V},nO K H t v->nO K H1 t v
 | .exc _,_,z=>by
  obtain⟨a,o,C,e,h,q,n⟩:=z;exact⟨a,o,C,e,s _ _ _ h,q,n⟩
 | .fn _,_,z=>by
  obtain⟨e,o,fd,h,q⟩:=z;exact⟨e,o,fd,s _ _ _ h,q⟩
theorem nO.same(s:Same H H1){t:Ob}{v:V}(h:nO K H t v):nO K H1 t v:=h.fz λ_ _ _ q=>s _ _ q
theorem Bs{rs rs':List abX}(h:rs.map V.ref=rs'.map V.ref):rs=rs':=(List.map_inj_right λ_ _ e=>V.ref.inj e).mp h
theorem J6.same(s:Same H H1){rows:List (List D)}{a:abX}{rs:List abX}(h:J6 K O H rows a rs):J6 K O H1 rows a rs:=⟨s _ _ h.at_,h.oa,h.nd,h.len,λi r row e1 e2=>let⟨o,xs,q,r'⟩:=h.row i r row e1 e2;⟨o,xs,s _ _ q,r'.same s⟩⟩
theorem p7.same(s:Same H H1):∀{e:Ent} {v:V},p7 K O H e v->p7 K O H1 e v
 | .val d,v,h=>Rep.same s h
 | .lst ds,v,z=>by
  obtain⟨a,xs,e,o,h,r⟩:=z;exact⟨a,xs,e,o,s _ _ h,r.same s⟩
 | .xH kvs,v,z=>by
  obtain⟨a,xs,e,o,h,k,r⟩:=z;exact⟨a,xs,e,o,s _ _ h,k,r.same s⟩
 | .obj t,v,h=>nO.same s h
 | .rws rows,v,⟨a,rs,e,h⟩=>⟨a,rs,e,h.same s⟩
theorem QD.of(h:QD H ρ σ)(w:∀(i:Nat) (rows:List (List D)) (a:abX) (rs:List abX),ρ[i]?=some (some (.rws rows))->σ[i]?=some (some (.ref a))->H1 a=some (.lst (rs.map V.ref))->H a=some (.lst (rs.map V.ref))):QD H1 ρ σ:=λi j rows a rs e v hij hi hs ha=>h i j rows a rs e v hij hi hs (w i rows a rs hi hs ha)
theorem Env.rws(E:Env K O H ρ σ){i:Nat}{rows:List (List D)}{a:abX}(hi:ρ[i]?=some (some (.rws rows)))(hs:σ[i]?=some (some (.ref a))):∃rs,J6 K O H rows a rs:=by
 obtain⟨v,q,a',rs,e,r⟩:=E.get i _ hi;rw[q] at hs;cases hs;cases e;exact⟨rs,r⟩
theorem Env.back(E:Env K O H ρ σ)(s:Same H H1){i:Nat}{rows:List (List D)}{a:abX}{rs:List abX}(hi:ρ[i]?=some (some (.rws rows)))(hs:σ[i]?=some (some (.ref a)))(ha:H1 a=some (.lst (rs.map V.ref))):H a=some (.lst (rs.map V.ref)):=by
 obtain⟨rs',r⟩:=E.rws hi hs;have:=s _ _ r.at_;rw[ha] at this;rw[r.at_,Bs (HO.lst.inj (acj this))]
theorem Env.same(E:Env K O H ρ σ)(s:Same H H1):Env K O H1 ρ σ:=⟨λj e h=>let⟨v,h1,h2⟩:=E.get j e h;⟨v,h1,h2.same s⟩,E.sep,E.nP.of λi rows a rs hi hs ha=>E.back s hi hs ha⟩
theorem In.same(i:In X O H ρ σ)(s:Same H H1):In X O H1 ρ σ:=
 ⟨i.env.same s,λa h=>let⟨o,q⟩:=i.al a h;⟨o,s _ _ q⟩,i.len,i.jF⟩
end
def Exc(h:ace)(e C:abX)(T:Option abX):Prop:=∃(oe:Obj) (vs:Array abY),h.get? e=some oe/\oe.cls= .ref C/\oe.dict=none/\oe.data= .fields vs/\match T with
 |none=>vs[1]?=some aco
 |some t=>vs[1]?=some (.ref t)/\t≠e/\∃(ot:Obj) (ts:Array abY),h.get? t=some ot/\ot.data= .fields ts/\ts[3]?=some aco
structure xJ(P:ab9)(w:acf)(fs:List abX)(H:Hp)(s:abZ)(a C:abX)(T:Option abX)(s':abZ)(H':Hp):Prop where
 same:Same H H'
 un:Un fs [] H H' s.heap s'.heap
 hok:HOk P w H' s'.heap
 os:s'.os=s.os
 bare:aew s'.gens
 exc:Exc s'.heap a C T
 na:s.heap.get? a=none
 ha:H' a=none
 nt:∀t,T=some t->s.heap.get? t=none/\H' t=none
def HJ(X:Cx)(c:Str)(σ:St)(H:Hp):Prop:=∀(H1:Hp) (pins:List (abX×Obj)) (s:abZ) (a C:abX) (T:Option abX) (s':abZ) (H':Hp),Same H H1->Inv X pins σ H1 s->
 PySem.W.nsIn X.K ab5 c=some (some (.ref C))->xJ X.prog X.w (frs X.stack) H1 s a C T s' H'->X.xe (.ref a) s'
theorem HJ.same{X:Cx}{c:Str}{σ:St}{H H1:Hp}(h:HJ X c σ H)(s:Same H H1):HJ X c σ H1:=λH2 pins s0 a C T s' H' s2=>h H2 pins s0 a C T s' H' (s.trans s2)
def good{α β:Type}(X:Cx)(Rl:(abX->Prop)->Hp->α->β->Prop)(O:abX->Prop)(r:R α)(σ:St)(H:Hp)(Q:β->Hp->Prop):Prop:=match r with
 | .ok a=>∀b H',Same H H'->Rl O H' a b->Q b H'
 | .err c=>HJ X c σ H
 | .bad=>False
theorem good.same{α β:Type}{X:Cx}{Rl:(abX->Prop)->Hp->α->β->Prop}{O:abX->Prop}{r:R α}{σ:St}{H H1:Hp}{Q:β->Hp->Prop}(h:good X Rl O r σ H Q)(s:Same H H1):good X Rl O r σ H1 Q:=by
 cases r with
 |ok a=>exact λb H' s' q=>h b H' (s.trans s') q
 |err c=>exact HJ.same (show HJ X c σ H from h) s
 |bad=>exact h
inductive TGd {α β:Type} (X:Cx) (Rl:(abX->Prop)->Hp->α->β->Prop) (f:aB->R α) (σ:St) (H:Hp) (Q:β->Hp->Prop):Prop
 |mk (ρ:aB) (O:abX->Prop) (j:In X O H ρ σ) (g:good X Rl O (f ρ) σ H Q):TGd X Rl f σ H Q
def tG{α β:Type}(X:Cx)(Rl:(abX->Prop)->Hp->α->β->Prop)(f:aB->R α):St->Hp->(β->Hp->Prop)->Prop:=λσ H Q=>TGd X Rl f σ H Q
abbrev rB:(abX->Prop)->Hp->Bool->Bool->Prop:=λ_ _ a b=>a=b
abbrev rD(X:Cx):(abX->Prop)->Hp->D->V->Prop:=λO H d v=>Rep X.K O H d v
abbrev Du(X:Cx):(abX->Prop)->Hp->List D->List V->Prop:=λO H d v=>aO X.K O H d v
def DE(X:Cx)(e:ab6)(f:aB->R D):Prop:=PE X e (tG X (rD X) f)
def DT(X:Cx)(e:ab6)(f:aB->R Bool):Prop:=PT X e (tG X rB f)
def DW(X:Cx)(e:ab6)(f:aB->R Bool):Prop:=PW X e (tG X rB f)
def DA(X:Cx)(es:List ab6)(f:aB->R (List D)):Prop:=PA X es (tG X (Du X) f)
theorem PE.imp{X:Cx}{e:ab6}{t t':TE}(h:PE X e t)(w:∀σ H Q,t' σ H Q->t σ H Q):PE X e t':=λpins s σ H Q I q=>h pins s σ H Q I (w σ H Q q)
theorem PT.imp{X:Cx}{e:ab6}{t t':TT}(h:PT X e t)(w:∀σ H Q,t' σ H Q->t σ H Q):PT X e t':=λpins s σ H Q I q=>h pins s σ H Q I (w σ H Q q)
theorem PW.imp{X:Cx}{e:ab6}{t t':TT}(h:PW X e t)(w:∀σ H Q,t' σ H Q->t σ H Q):PW X e t':=λwh pins s σ H Q I q=>h wh pins s σ H Q I (w σ H Q q)
theorem PA.imp{X:Cx}{e:List ab6}{t t':TA}(h:PA X e t)(w:∀σ H Q,t' σ H Q->t σ H Q):PA X e t':=λpos pins s σ H Q I q=>h pos pins s σ H Q I (w σ H Q q)
section
variable{X:Cx}{O:abX->Prop}{H:Hp}{ρ:aB}{σ:St}
theorem go{α β γ δ:Type}{Rl:(abX->Prop)->Hp->α->β->Prop}{Rm:(abX->Prop)->Hp->γ->δ->Prop}{f:aB->R α}{g:α->R γ}{Q:δ->Hp->Prop}{Q':β->Hp->Prop}
  (i:In X O H ρ σ)(h:good X Rm O ((f ρ).bind g) σ H Q)
  (k:∀a b H1,f ρ= .ok a->Same H H1->Rl O H1 a b->In X O H1 ρ σ->good X Rm O (g a) σ H1 Q->Q' b H1):tG X Rl f σ H Q':=by
 refine⟨ρ,O,i,?_⟩;cases e:f ρ with
 |ok a=>rw[e] at h;exact λb H1 s r=>k a b H1 e s r (i.same s) (good.same h s)
 |err c=>rw[e] at h;exact h
 |bad=>rw[e] at h;exact h
theorem fin{α β:Type}{Rl:(abX->Prop)->Hp->α->β->Prop}{a:α}{b:β}{Q:β->Hp->Prop}(h:good X Rl O (.ok a) σ H Q)(r:Rl O H a b):Q b H:=h b H (Same.refl H) r
end
end Pu
namespace Pu
open PySem PySem.Spec L2
open PyProof.Rows hiding St
variable{p:abX}{O O0:abX->Prop}{X Y:Cx}{d:D}{l:D->D->R D}{H H0:Hp}{ds:List D}{u:List D->aB->R aB}{N caps ts:List Str}{xs:List V}{n i:Nat}{px:Pos}{K:PySem.W.Frag}{ρ:aB}{scope sc:adA}{σ:St}{α:Type}
theorem Same.upd{o:HO}(h:H p=none):Same H (L2.upd H p o):=λb u e=>by
 rw[upd_ne (ne_of_none e h)];exact e
theorem Rep.nQ(h:H p=none)(r:aO X.K O H ds xs):Rep X.K O (upd H p (.tup xs)) (.tup ds) (.ref p):=
 gZ (SqT.of upd_same) (r.same (Same.upd h))
theorem In.uq(i:In X O H ρ σ)(h:H p=none):¬O p:=λz=>by
 obtain⟨o,e⟩:=i.al p z;rw[h] at e;cases e
theorem Rep.lZ(h:H p=none)(n:¬O p)(r:aO X.K O H ds xs):Rep X.K O (upd H p (.lst xs)) (.lst ds) (.ref p):=
 lY (SqL.of upd_same) n (r.same (Same.upd h))
section
variable{X:Cx}{a b c:ab6}{f g h:aB->R D}{pos:Pos}
def bJ(ρ:aB)(i:Nat):R D:=match ρ[i]? with
 |some (some (.val d))=> .ok d
 |_=> .bad
theorem dv(i:Nat){x:Str}{pos:Pos}(hN:X.N[i]?=some x:=by rfl)(hv:Vis X.env.scope x:=by first |exact acZ rfl |exact acM (acZ rfl) |exact acM (acM rfl))(hd:(x ==("__debug__" :Str))=false:=by decide)(hcd:(x ==("__classdict__" :Str))=false:=by decide):
  DE X (.Name x pos) (λρ=>bJ ρ i):=by
 refine PE.imp (pe_var hN hv hd hcd) λσ H Q h=>?_;obtain⟨ρ,O,j,h⟩:=h;have h:good X (rD X) O (bJ ρ i) σ H Q:=h;unfold bJ at h;split at h
 ·rename_i d e;obtain⟨v,e1,r⟩:=j.env.get i _ e;exact⟨v,e1,fin h r⟩
 ·exact h.elim
theorem Gv{e:ab6}{v:V}(h:PE X e (tC v))(r:∀O H,Rep X.K O H d v):DE X e (λ_=> .ok d):=PE.imp h λσ H Q h=>by
 obtain⟨ρ,O,j,h⟩:=h;exact fin h (r O H)
theorem aH{i:Int}{j pos}:DE X (.Constant (.int i) j pos) (λ_=> .ok (.int i)):=Gv pe_int λ_ _=>cg i
theorem j7{i:Bool}{j pos}:DE X (.Constant (.bool i) j pos) (λ_=> .ok (.bl i)):=Gv pe_bl λ_ _=>eV i
theorem jg{j pos}:DE X (.Constant .none j pos) (λ_=> .ok .non):=Gv pe_non λ_ _=>nM
theorem cI{x:Str}{j pos}:DE X (.Constant (.str x) j pos) (λ_=> .ok (.str x)):=Gv pe_str λ_ _=>j5 x
theorem nR{x:Str}{i:Int}{t:Tok}{pos:Pos}(hg:Gl X x)(hm:X.mg x=some (.int i t))(hd:(x ==("__debug__" :Str))=false:=by decide):DE X (.Name x pos) (λ_=> .ok (.int i)):=
 Gv (pe_glob (v:= .int i) hg hm ⟨t,rfl⟩ hd) λ_ _=>cg i
def gw(X:Cx)(o:abY->abY->Sem abY)(k:D->D->R D):Prop:=∃r:R2,OpR X o r/\
 ∀(ρ:aB) (O:abX->Prop) (σ:St) (H:Hp) (Q:VK) (x y:V) (dx dy:D),In X O H ρ σ->Rep X.K O H dx x->Rep X.K O H dy y->good X (rD X) O (k dx dy) σ H Q->r x y H Q
def bin(f g:aB->R D)(k:D->D->R D):aB->R D:=λρ=>(f ρ).bind λx=>(g ρ).bind λy=>k x y
theorem Dv{r:R2}{k:D->D->R D}{Q:VK}
  (hr:∀(ρ:aB) (O:abX->Prop) (σ:St) (H:Hp) (Q:VK) (x y:V) (dx dy:D),In X O H ρ σ->Rep X.K O H dx x->Rep X.K O H dy y->good X (rD X) O (k dx dy) σ H Q->r x y H Q)
  (h:tG X (rD X) (bin f g k) σ H Q):tOp r (tG X (rD X) f) (tG X (rD X) g) σ H Q:=by
 obtain⟨ρ,O,j,h⟩:=h;refine go j h λdx x H1 e1 s1 r1 j1 h1=>?_;exact go j1 h1 λdy y H2 e2 s2 r2 j2 h2=>hr ρ O σ H2 Q x y dx dy j2 (r1.same s2) r2 h2
theorem aM{op:Operator}{k:D->D->R D}(ho:gw X (acJ op) k)(ha:DE X a f)(hb:DE X b g):DE X (.BinOp a op b pos) (bin f g k):=by
 obtain⟨r,ho,hr⟩:=ho;exact PE.imp (pe_op ho ha hb) λσ H Q h=>Dv hr h
theorem yd{op:CmpOp}{k:D->D->R D}(ho:gw X (acr op) k)(ha:DE X a f)(hb:DE X b g)(hm:adT op b=false:=by exact nomark _):DE X (.Compare a [op] [b] pos) (bin f g k):=by
 obtain⟨r,ho,hr⟩:=ho;exact PE.imp (pe_cmpR ho ha hb hm) λσ H Q h=>Dv hr h
def asB:D->R Bool
 | .bl b=> .ok b
 |_=> .bad
def bR(f:aB->R D):aB->R Bool:=λρ=>(f ρ).bind asB
theorem Cj{t:TE}{k:aB->R D}{Q:Bool->Hp->Prop}(w:∀Q,tG X (rD X) k σ H Q->t σ H Q)(h:tG X rB (bR k) σ H Q):tTest t σ H Q:=by
 refine w _ ?_;obtain⟨ρ,O,j,h⟩:=h;refine go j h λd x H1 e1 s1 r1 j1 h1=>?_;cases d with
 |bl b=>exact⟨b,r1.bl,fin h1 rfl⟩
 |_=>exact h1.elim
theorem bK{op:CmpOp}{k:D->D->R D}(ho:gw X (acr op) k)(ha:DE X a f)(hb:DE X b g)(hm:adT op b=false:=by exact nomark _):DT X (.Compare a [op] [b] pos) (bR (bin f g k)):=by
 obtain⟨r,ho,hr⟩:=ho;exact PT.imp (pt_cmpR ho ha hb hm) λσ H Q h=>Cj (λQ h=>Dv hr h) h
theorem rA{e:ab6}(h:DE X e f)(he:∀whole,isTrue e X.env whole=(do let v <-whole;standAt e.pos;holding [v] (truthy v)):=by intro _;rfl):DT X e (bR f):=
 PT.imp (pt_val h he) λσ H Q h=>Cj (t:=tG X (rD X) f) (λQ h=>h) h
def iD(k:Int->Int->R D):D->D->R D
 | .int i,.int j=>k i j
 |_,_=> .bad
theorem Ag{o:abY->abY->Sem abY}{C:Int->Int->Prop}{g:Int->Int->V}{k:Int->Int->R D}(ho:OpR X o (rI C g))(hk:∀i j,k i j= .bad\/∃d,k i j= .ok d/\C i j/\∀K O H,Rep K O H d (g i j)):gw X o (iD k):=by
 refine⟨_,ho,λρ O σ H Q x y dx dy j0 rx ry h=>?_⟩;cases dx <;> cases dy <;> first
  |exact h.elim
  |skip
 rename_i i j;rcases hk i j with e |⟨d,e,c,r⟩
 ·have h':good X (rD X) O (k i j) σ H Q:=h;rw[e] at h';exact h'.elim
 ·have h':good X (rD X) O (k i j) σ H Q:=h;rw[e] at h';exact⟨i,j,rx.int,ry.int,c,fin h' (r _ _ _)⟩
theorem rC{o:abY->abY->Sem abY}{g:Int->Int->V}{k:Int->Int->R D}(ho:OpR X o (rI0 g))(hk:∀i j,∃d,k i j= .ok d/\∀K O H,Rep K O H d (g i j)):gw X o (iD k):=by
 refine⟨_,ho,λρ O σ H Q x y dx dy j0 rx ry h=>?_⟩;cases dx <;> cases dy <;> first
  |exact h.elim
  |skip
 rename_i i j;obtain⟨d,e,r⟩:=hk i j;have h':good X (rD X) O (k i j) σ H Q:=h;rw[e] at h';exact⟨i,j,rx.int,ry.int,fin h' (r _ _ _)⟩
def cT:D->D->R D:=iD λi j=> .ok (.int (i - j))
def gG:D->D->R D:=iD λi j=>if (-(2^64)<i/\i<2^64)\/(-(2^64)<j/\j<2^64) then .ok (.int (i*j)) else .bad
def gW:D->D->R D:=iD λi j=>if 0<j/\j<2^64 then .ok (.int (i / j)) else .bad
def f9:D->D->R D:=iD λi j=>if 0<j then .ok (.int (i % j)) else .bad
def ur:D->D->R D:=iD λi j=>if 0<=j/\j<=1000000/\i.natAbs<2^64 then .ok (.int (i^j.toNat)) else .bad
def ltI:D->D->R D:=iD λi j=> .ok (.bl (decide (i<j)))
def yg:D->D->R D:=iD λi j=> .ok (.bl (decide (i<=j)))
def qQ:D->D->R D:=iD λi j=> .ok (.bl (decide (j<i)))
def R8:D->D->R D:=iD λi j=> .ok (.bl (decide (j<=i)))
theorem cJ:gw X (acJ .Sub) cT:=rC op_sub λi j=>⟨_,rfl,λ_ _ _=>cg _⟩
theorem Ah:gw X (acr .Lt) ltI:=rC op_lt λi j=>⟨_,rfl,λ_ _ _=>eV _⟩
theorem wz:gw X (acr .LtE) yg:=rC op_le λi j=>⟨_,rfl,λ_ _ _=>eV _⟩
theorem Dw:gw X (acr .Gt) qQ:=rC op_gt λi j=>⟨_,rfl,λ_ _ _=>eV _⟩
theorem aaQ:gw X (acr .GtE) R8:=rC op_ge λi j=>⟨_,rfl,λ_ _ _=>eV _⟩
theorem Ai{c:Prop}[Decidable c](d:D){P:D->Prop}(hP:c->P d):(if c then R.ok d else R.bad)=R.bad\/∃d',(if c then R.ok d else R.bad)=R.ok d'/\c/\P d':=by
 by_cases h:c
 ·exact .inr ⟨d,by rw[if_pos h],h,hP h⟩
 ·exact .inl (by rw[if_neg h])
theorem pH:gw X (acJ .Mult) gG:=Ag op_mul λi j=>Ai (.int (i*j)) (P:=λd=>∀K O H,Rep K O H d (.int (i*j))) λ_ _ _ _=>cg _
theorem R9{j:Int}(h0:0<j)(h:j<2^64):j.natAbs.log2<9000:=by
 have h1:j.natAbs≠0:=by omega
 have h2:j.natAbs<2^64:=by omega
 have h3:j.natAbs.log2<64:=(Nat.log2_lt h1).mpr h2;omega
theorem Vn:OpR X (acJ .FloorDiv) (rI (λ_ j=>0<j/\j<2^64) λi j=> .int (i / j)):=opI λi j _ _ _ _ _ hc q=>by
 refine floordiv_int (by have:=hc.1;omega) ?_ (.inl (PyProof.noPylong_of_log2 (R9 hc.1 hc.2)));rw[Int.fdiv_eq_ediv_of_nonneg _ (by have:=hc.1;omega)];exact q
theorem rE:gw X (acJ .FloorDiv) gW:=Ag Vn λi j=>Ai (.int (i / j)) (P:=λd=>∀K O H,Rep K O H d (.int (i / j))) λ_ _ _ _=>cg _
theorem pI:gw X (acJ .Mod) f9:=Ag op_mod λi j=>Ai (.int (i % j)) (P:=λd=>∀K O H,Rep K O H d (.int (i % j))) λ_ _ _ _=>cg _
theorem Sd:gw X (acJ .Pow) ur:=Ag op_pow λi j=>Ai (.int (i^j.toNat)) (P:=λd=>∀K O H,Rep K O H d (.int (i^j.toNat))) λ_ _ _ _=>cg _
def Bt(f g h:aB->R D)(k l:D->D->R D):aB->R D:=λρ=>(f ρ).bind λx=>(g ρ).bind λy=>(k x y).bind λz=>match z with
 | .bl true=>(h ρ).bind λw=>l y w
 | .bl false=> .ok (.bl false)
 |_=> .bad
def uw(f g:aB->R D):aB->R D:=λρ=>(f ρ).bind λx=>match x with
 | .bl true=>g ρ
 | .bl false=> .ok (.bl false)
 |_=> .bad
def Y5(f:aB->R D):aB->R D:=λρ=>(f ρ).bind λx=>match x with
 | .bl b=> .ok (.bl (!b))
 |_=> .bad
variable{rest:List ab6}
theorem yh{op}(h:DE X a f):DE X (.BoolOp op [a] pos) f:=pe_one h
theorem yj(ha:DE X a f)(hb:DE X (.BoolOp .And (b::rest) pos) g):DE X (.BoolOp .And (a::b::rest) pos) (uw f g):=by
 refine PE.imp (pe_and ha hb) λσ H Q h=>?_;obtain⟨ρ,O,j,h⟩:=h;refine go j h λd x H1 e1 s1 r1 j1 h1=>?_;cases d with
 | bl k=>
  cases k with
  |true=>exact⟨true,r1.bl,by rw[if_pos rfl];exact⟨ρ,O,j1,h1⟩⟩
  |false=>exact⟨false,r1.bl,by rw[if_neg aci];exact fin h1 (eV _)⟩
 |_=>exact h1.elim
theorem Y6(ha:DE X a f):DE X (.UnaryOp .Not a pos) (Y5 f):=by
 refine PE.imp (pe_not ha) λσ H Q h=>?_;obtain⟨ρ,O,j,h⟩:=h;refine go j h λd x H1 e1 s1 r1 j1 h1=>?_;cases d with
 |bl k=>exact⟨k,r1.bl,fin h1 (eV _)⟩
 |_=>exact h1.elim
def jG(f g:aB->R Bool):aB->R Bool:=λρ=>(f ρ).bind λx=>if x=true then g ρ else .ok false
def vG(f g:aB->R Bool):aB->R Bool:=λρ=>(f ρ).bind λx=>if x=true then .ok true else g ρ
def lR(f:aB->R Bool):aB->R Bool:=λρ=>(f ρ).bind λx=> .ok (!x)
variable{p q:aB->R Bool}
theorem vH(ha:DT X a p):DW X (.BoolOp .And [a] pos) p:=pw_and1 ha
theorem yp(ha:DT X a p):DW X (.BoolOp .Or [a] pos) p:=pw_or1 ha
theorem yq(ha:DT X a p)(hb:DW X (.BoolOp .And (b::rest) pos) q):DW X (.BoolOp .And (a::b::rest) pos) (jG p q):=by
 refine PW.imp (pw_and ha hb) λσ H Q h=>?_;obtain⟨ρ,O,j,h⟩:=h;refine go j h λd x H1 e1 s1 r1 j1 h1=>?_;subst r1;cases d with
 |true=>rw[if_pos rfl] at h1 |-;exact⟨ρ,O,j1,h1⟩
 |false=>rw[if_neg aci] at h1 |-;exact fin h1 rfl
theorem Dy(ha:DT X a p)(hb:DW X (.BoolOp .Or (b::rest) pos) q):DW X (.BoolOp .Or (a::b::rest) pos) (vG p q):=by
 refine PW.imp (pw_or ha hb) λσ H Q h=>?_;obtain⟨ρ,O,j,h⟩:=h;refine go j h λd x H1 e1 s1 r1 j1 h1=>?_;subst r1;cases d with
 |true=>rw[if_pos rfl] at h1 |-;exact fin h1 rfl
 |false=>rw[if_neg aci] at h1 |-;exact⟨ρ,O,j1,h1⟩
theorem DW.dt{e:ab6}(h:DW X e p):DT X e p:=h _
theorem lq(ha:DT X a p):DT X (.UnaryOp .Not a pos) (lR p):=by
 refine PT.imp (pt_not ha) λσ H Q h=>?_;obtain⟨ρ,O,j,h⟩:=h;refine go j h λd x H1 e1 s1 r1 j1 h1=>?_;subst r1;exact fin h1 rfl
def tQ(c:aB->R Bool)(f g:aB->R D):aB->R D:=λρ=>(c ρ).bind λx=>if x=true then f ρ else g ρ
theorem wA(hc:DT X c p)(ha:DE X a f)(hb:DE X b g):DE X (.IfExp c a b pos) (tQ p f g):=by
 refine PE.imp (pe_ifExp hc ha hb) λσ H Q h=>?_;obtain⟨ρ,O,j,h⟩:=h;refine go j h λd x H1 e1 s1 r1 j1 h1=>?_;subst r1;cases d with
 |true=>rw[if_pos rfl] at h1 |-;exact⟨ρ,O,j1,h1⟩
 |false=>rw[if_neg aci] at h1 |-;exact⟨ρ,O,j1,h1⟩
def ak(f:aB->R D)(g:aB->R (List D)):aB->R (List D):=λρ=>(f ρ).bind λx=>(g ρ).bind λxs=> .ok (x::xs)
variable{es:List ab6}{fa:aB->R (List D)}
theorem aA:DA X [] (λ_=> .ok []):=PA.imp pa_nil λσ H Q h=>by
 obtain⟨ρ,O,j,h⟩:=h;exact fin h .nil
theorem aj(ha:DE X a f)(hr:DA X es fa)(hs:ab2 (a::es) X.env=(false,eval a X.env)::ab2 es X.env:=by rfl):DA X (a::es) (ak f fa):=by
 refine PA.imp (pa_cons ha hr hs) λσ H Q h=>?_;obtain⟨ρ,O,j,h⟩:=h;refine go j h λd x H1 e1 s1 r1 j1 h1=>?_;exact go j1 h1 λds xs H2 e2 s2 r2 j2 h2=>fin h2 (.cons (r1.same s2) r2)
def cap(k:List D->D)(ds:List D):R D:=if ds.length<=1000000 then .ok (k ds) else .bad
theorem dJ:1000000<=sizeLine:=by rw[ac6];decide
def cU(fa:aB->R (List D)):aB->R D:=λρ=>(fa ρ).bind (cap .tup)
def gY(fa:aB->R (List D)):aB->R D:=λρ=>(fa ρ).bind (cap .lst)
theorem cC{x1}(h:DA X es fa):DE X (.Tuple es x1 pos) (cU fa):=by
 refine PE.imp (pe_tup h) λσ H Q h=>?_;obtain⟨ρ,O,j,h⟩:=h;refine go j h λds xs H1 e1 s1 r1 j1 h1=>?_;unfold cap at h1;split at h1
 ·rename_i hl;exact⟨by rw[<-r1.length];exact z0b hl dJ,λp hp=>h1 _ _ (Same.upd hp) (Rep.nQ hp r1)⟩
 ·exact h1.elim
theorem eX(h:DA X es fa):DE X (.List es pos) (gY fa):=by
 refine PE.imp (pe_lst h) λσ H Q h=>?_;obtain⟨ρ,O,j,h⟩:=h;refine go j h λds xs H1 e1 s1 r1 j1 h1=>?_;unfold cap at h1;split at h1
 ·rename_i hl;exact⟨by rw[<-r1.length];exact z0b hl dJ,λp hp=>h1 _ _ (Same.upd hp) (Rep.lZ hp (j1.uq hp) r1)⟩
 ·exact h1.elim
def bN:D->D->R D
 | .tup ds,.int i=>match atI ds i with |some d=> .ok d |none=> .bad
 | .lst ds,.int i=>match atI ds i with |some d=> .ok d |none=> .bad
 |_,_=> .bad
theorem aO.atI{K:PySem.W.Frag}{O:abX->Prop}{H:Hp}{ds:List D}{vs:List V}{i:Int}{d:D}(r:aO K O H ds vs)(e:atI ds i=some d):∃v,atI vs i=some v/\Rep K O H d v:=by
 unfold L2.atI at e |-;rw[r.length] at e;cases q:ixN vs.length i with
 |none=>rw[q] at e;cases e
 | some k=>
  rw[q] at e;obtain⟨v,h1,h2⟩:=r.get (i:=k) (d:=d) e;exact⟨v,h1,h2⟩
theorem bH(ha:DE X a f)(hb:DE X b g)(hs:PlainIx b:=by exact λ_ _=>rfl):DE X (.Subscript a b pos) (bin f g bN):=by
 refine PE.imp (pe_ix ix_seq ha hb hs) λσ H Q h=>Dv (λρ O σ H Q x y dx dy j0 rx ry h=>?_) h;cases dx <;> cases dy <;> first
  |exact h.elim
  |skip
 ·rename_i ds i;obtain⟨p,xs,rfl,hq,r⟩:=rx.tup;have h':good X (rD X) O (match L2.atI ds i with |some d=>R.ok d |none=>R.bad) σ H Q:=h;cases e:L2.atI ds i with
  |none=>rw[e] at h';exact h'.elim
  | some d=>
   rw[e] at h';obtain⟨v,e1,rv⟩:=r.atI e;exact .inr (.inl ⟨p,xs,i,v,rfl,ry.int,hq,e1,fin h' rv⟩)
 ·rename_i ds i;obtain⟨p,xs,rfl,hq,_,r⟩:=rx.lst;have h':good X (rD X) O (match L2.atI ds i with |some d=>R.ok d |none=>R.bad) σ H Q:=h;cases e:L2.atI ds i with
  |none=>rw[e] at h';exact h'.elim
  | some d=>
   rw[e] at h';obtain⟨v,e1,rv⟩:=r.atI e;exact .inl ⟨p,xs,i,v,rfl,ry.int,hq,e1,fin h' rv⟩
def CallD(X:Cx)(u:abY)(k:List D->R D):Prop:=∃r:List V->Hp->VK->Prop,CallR X u r/\
 ∀(ρ:aB) (O:abX->Prop) (σ:St) (H:Hp) (Q:VK) (xs:List V) (ds:List D),In X O H ρ σ->aO X.K O H ds xs->good X (rD X) O (k ds) σ H Q->r xs H Q
def aD(k:List D->R D)(fa:aB->R (List D)):aB->R D:=λρ=>(fa ρ).bind k
variable{x:Str}{pp:Pos}{k:List D->R D}{id T:String}
theorem aW(hc:CallD X (.builtin id) k)(hg:Gl X x)(hm:X.mg x=none)(hv:adB x=some (.builtin id))(ha:DA X (a::es) fa)(hn:x≠"__name__" :=by decide)(hdb:(x ==("__debug__" :Str))=false:=by decide)
  (he:ab2 (a::es) X.env=(false,eval a X.env)::ab2 es X.env:=by rfl)(hpl:(acO pos (ab2 es X.env)).any (·.1)=false:=by rfl):DE X (.Call (.Name x pp) (a::es) [] pos) (aD k fa):=by
 obtain⟨r,hc,hr⟩:=hc;refine PE.imp (pe_callB hc hg hm hv ha hn hdb he hpl) λσ H Q h=>?_;obtain⟨ρ,O,j,h⟩:=h;exact go j h λds xs H1 e1 s1 r1 j1 h1=>hr ρ O σ H1 Q xs ds j1 r1 h1
theorem eZ(hc:CallD X (.type T) k)(hg:Gl X x)(hm:X.mg x=none)(hv:adB x=some (.type T))(ha:DA X (a::es) fa)(hn:x≠"__name__" :=by decide)(hdb:(x ==("__debug__" :Str))=false:=by decide)
  (he:ab2 (a::es) X.env=(false,eval a X.env)::ab2 es X.env:=by rfl)(hpl:(acO pos (ab2 es X.env)).any (·.1)=false:=by rfl):DE X (.Call (.Name x pp) (a::es) [] pos) (aD k fa):=by
 obtain⟨r,hc,hr⟩:=hc;refine PE.imp (pe_callTy hc hg hm hv ha hn hdb he hpl) λσ H Q h=>?_;obtain⟨ρ,O,j,h⟩:=h;exact go j h λds xs H1 e1 s1 r1 j1 h1=>hr ρ O σ H1 Q xs ds j1 r1 h1
end
section
variable{X:Cx}{a b c:ab6}{f g h:aB->R D}{pos:Pos}
theorem HN{r r':R2}{k:D->D->R D}{Q:VK}
  (hr:∀(ρ:aB) (O:abX->Prop) (σ:St) (H:Hp) (Q:VK) (x y:V) (dx dy:D),In X O H ρ σ->Rep X.K O H dx x->Rep X.K O H dy y->good X (rD X) O (k dx dy) σ H Q->r x y H Q)
  (hl:∀(ρ:aB) (O:abX->Prop) (σ:St) (H:Hp) (Q:VK) (x y:V) (dx dy:D),In X O H ρ σ->Rep X.K O H dx x->Rep X.K O H dy y->good X (rD X) O (l dx dy) σ H Q->r' x y H Q)
  (q:tG X (rD X) (Bt f g h k l) σ H Q):tChain r r' (tG X (rD X) f) (tG X (rD X) g) (tG X (rD X) h) σ H Q:=by
 obtain⟨ρ,O,j,q⟩:=q;refine go j q λdx x H1 e1 s1 r1 j1 h1=>?_;refine go j1 h1 λdy y H2 e2 s2 r2 j2 h2=>?_;have r1':=r1.same s2;cases e3:k dx dy with
 |bad=>rw[e3] at h2;exact h2.elim
 |err n=>rw[e3] at h2;exact hr ρ O σ H2 _ x y dx dy j2 r1' r2 (by rw[e3];exact h2)
 | ok z=>
  rw[e3] at h2;refine hr ρ O σ H2 _ x y dx dy j2 r1' r2 ?_;rw[e3];intro v H3 s3 r3;have j3:=j2.same s3;cases z with
  | bl t=>
   refine⟨t,r3.bl,?_⟩;cases t with
   | true=>
    rw[if_pos rfl];exact go j3 (good.same h2 s3) λdw w H4 e4 s4 r4 j4 h4=>hl ρ O σ H4 Q y w dy dw j4 (r2.same (s3.trans s4)) r4 h4
   | false=>
    rw[if_neg aci];exact fin (good.same h2 s3) (eV _)
  |_=>exact h2.elim
theorem J7{op op':CmpOp}{k:D->D->R D}(ho:gw X (acr op) k)(ho':gw X (acr op') l)(ha:DE X a f)(hb:DE X b g)(hc:DE X c h)
  (hm:lastMarks [op,op'] [b,c]=false:=by with_unfolding_all rfl):DE X (.Compare a [op,op'] [b,c] pos) (Bt f g h k l):=by
 obtain⟨r,ho,hr⟩:=ho;obtain⟨r',ho',hr'⟩:=ho';exact PE.imp (pe_chain ho ho' ha hb hc hm) λσ H Q q=>HN hr hr' q
theorem Vo{op op':CmpOp}{k:D->D->R D}(ho:gw X (acr op) k)(ho':gw X (acr op') l)(ha:DE X a f)(hb:DE X b g)(hc:DE X c h)
  (hm:lastMarks [op,op'] [b,c]=false:=by with_unfolding_all rfl):DT X (.Compare a [op,op'] [b,c] pos) (bR (Bt f g h k l)):=by
 obtain⟨r,ho,hr⟩:=ho;obtain⟨r',ho',hr'⟩:=ho';exact PT.imp (pt_chain ho ho' ha hb hc hm) λσ H Q q=>Cj (λQ q=>HN hr hr' q) q
end
def YAt(K:PySem.W.Frag)(O:abX->Prop)(J:It)(xs:List D)(H:Hp):Prop:=
 ∀i:Nat,(∀d,xs[i]?=some d->J.go i H/\∀x H',J.yld i H x H'->Same H H'/\Rep K O H' d x)/\(xs.length<=i->J.stop i H)
def YR(K:PySem.W.Frag)(O:abX->Prop)(H:Hp)(J:It)(xs:List D):Prop:=∀O' H',fL K O H O' H'->YAt K O' J xs H'
abbrev rIt(X:Cx):(abX->Prop)->Hp->List D->It->Prop:=λO H xs J=>YR X.K O H J xs
def DI(X:Cx)(tg iter:ab6)(fi:aB->R (List D)):Prop:=PI X tg iter (tG X (rIt X) fi)
theorem PI.imp{tg e:ab6}{t t':TI}(h:PI X tg e t)(w:∀σ H Q,t' σ H Q->t σ H Q):PI X tg e t':=λpins s σ H Q I q=>h pins s σ H Q I (w σ H Q q)
section
variable{X:Cx}{tg:ab6}
def abm(K:PySem.W.Frag)(tl:TE):TI:=λσ H R=>tl σ H λx H1=>∃a,x= .ref a/\(((∃xs,SqL K H1 a xs)/\R (Itl K a) H1)\/((∃xs,SqT K H1 a xs)/\R (Itt K a) H1))
theorem Y7{l:ab6}{tl:TE}(hl:PE X l tl):PI X tg l (abm X.K tl):=by
 intro pins s σ H R I h;refine thn (hl pins s σ H _ I h) λv s1 bC=>?_;obtain⟨x,H1,I1,r1,q1⟩:=bC;obtain⟨a,e,q⟩:=q1;subst e;cases r1;have fp:∀b∈[s1.heap.objs.size],FpOk X pins H1 b:=λb hb=>by
  have e:b=s1.heap.objs.size:=by simpa using hb
  subst e;exact I1.fpOk (z0g _) (I1.hok.fresh (z0g _))
 rcases q with⟨⟨xs,hq⟩,q⟩ |⟨⟨xs,hq⟩,q⟩
 ·obtain⟨its,rv,p,hz⟩:=I1.list hq;refine afe p.isList ?_;exact⟨s1.heap.objs.size,[s1.heap.objs.size],_,_,H1,rfl,I1.kept (t':=s1.toks) λb o e=>z1a _ e,turn_list a _,⟨_,z1f _ rfl,rfl,rfl⟩,fp,q⟩
 ·obtain⟨its,rv,p,hz⟩:=I1.tuple hq;refine wpAny_pyIter_tuple (show s1.heap.IsTuple a its.toArray from p) ?_;exact⟨s1.heap.objs.size,[s1.heap.objs.size],_,_,H1,rfl,I1.kept (t':=s1.toks) λb o e=>z1a _ e,turn_tuple a _,⟨_,z1f _ rfl,rfl,rfl⟩,fp,q⟩
def jh:D->R (List D)
 | .tup ds=> .ok ds
 | .lst ds=> .ok ds
 |_=> .bad
theorem YR.lst{a:abX}(h:SqL K H a xs)(n:¬O a)(r:aO K O H ds xs):YR K O H (Itl K a) ds:=by
 intro O' H' q;have h':SqL K H' a xs:=SqL.ext q.ext n h;have r':=r.go q;intro i;refine⟨λd e=>?_,λe=>⟨xs,h',by rw[<-r.length];exact e⟩⟩;obtain⟨v,e1,rv⟩:=r'.get e;refine⟨⟨xs,v,h',e1⟩,λx H2 y=>?_⟩;obtain⟨eH,y⟩:=y;subst eH;have:=y xs h';rw[e1] at this;cases this;exact⟨Same.refl _,rv⟩
theorem YR.tup{a:abX}(h:SqT K H a xs)(r:aO K O H ds xs):YR K O H (Itt K a) ds:=by
 intro O' H' q;have h':SqT K H' a xs:=SqT.ext q.ext h;have r':=r.go q;intro i;refine⟨λd e=>?_,λe=>⟨xs,h',by rw[<-r.length];exact e⟩⟩;obtain⟨v,e1,rv⟩:=r'.get e;refine⟨⟨xs,v,h',e1⟩,λx H2 y=>?_⟩;obtain⟨eH,y⟩:=y;subst eH;have:=y xs h';rw[e1] at this;cases this;exact⟨Same.refl _,rv⟩
def fj(f:aB->R D):aB->R (List D):=λρ=>(f ρ).bind jh
theorem dM{l:ab6}{f:aB->R D}(h:DE X l f):DI X tg l (fj f):=by
 refine PI.imp (Y7 h) λσ H Q q=>?_;obtain⟨ρ,O,j,q⟩:=q;refine go j q λd x H1 e1 s1 r1 j1 h1=>?_;cases d with
 | tup ds=>
  obtain⟨a,xs,rfl,hq,r⟩:=r1.tup;exact⟨a,rfl,.inr ⟨⟨xs,hq⟩,fin h1 (YR.tup hq r)⟩⟩
 | lst ds=>
  obtain⟨a,xs,rfl,hq,n,r⟩:=r1.lst;exact⟨a,rfl,.inl ⟨⟨xs,hq⟩,fin h1 (YR.lst hq n r)⟩⟩
 |_=>exact h1.elim
def upto(lo:Int)(n:Nat):List D:=(ab0 n).map λ(i:Nat)=>D.int (lo+(i:Int))
theorem YR.rng(lo:Int)(n:Nat):YR K O H (Itr lo n) (upto lo n):=by
 intro O' H' q i;have hl:(upto lo n).length=n:=by simp[upto]
 refine⟨λd e=>?_,λe=>by rw[hl] at e;exact e⟩;have hi:i<n:=by rw[<-hl];exact (z1b e).1
 have e2:d=D.int (lo+(i:Int)):=by
  simp only[upto,z2b,acv hi] at e;exact (acj e).symm
 subst e2;refine⟨hi,λx H2 y=>?_⟩;obtain⟨eH,y⟩:=y;subst eH;subst y;exact⟨Same.refl _,cg _⟩
def jz:List D->R (List D)
 |[.int j]=>if -(2^62)<=j/\j<2^62 then .ok (upto 0 j.toNat) else .bad
 |_=> .bad
theorem aO.one(r:aO K O H [d] xs):∃x,xs=[x]/\Rep K O H d x:=by
 obtain⟨x,t,rfl,h1,h2⟩:=r.cons_inv;rw[h2.nil_inv];exact⟨x,rfl,h1⟩
theorem aO.two{e:D}(r:aO K O H [d,e] xs):∃x y,xs=[x,y]/\Rep K O H d x/\Rep K O H e y:=by
 obtain⟨x,t,rfl,h1,h2⟩:=r.cons_inv;obtain⟨y,rfl,h3⟩:=h2.one;exact⟨x,y,rfl,h1,h3⟩
variable{a b:ab6}{fa:aB->R (List D)}{p pos:Pos}
theorem fM(hg:Gl X "range")(hm:X.mg "range" =none)(ha:DA X [a] fa)(hs:ab2 [a] X.env=[(false,eval a X.env)]:=by rfl):DI X tg (.Call (.Name "range" p) [a] [] pos) (λρ=>(fa ρ).bind jz):=by
 refine PI.imp (pi_range1 hg hm ha hs) λσ H Q q=>?_;obtain⟨ρ,O,j,q⟩:=q;refine go j q λds xs H1 e1 s1 r1 j1 h1=>?_;unfold jz at h1;split at h1
 ·obtain⟨x,rfl,rx⟩:=r1.one;split at h1
  ·rename_i i hi;exact⟨i,by rw[rx.int],hi.1,hi.2,fin h1 (YR.rng 0 i.toNat)⟩
  ·exact h1.elim
 ·exact h1.elim
end
inductive DGp (X:Cx) (gt:D->aB->R aB) (v:V) (σ:St) (H:Hp) (Q:St->Hp->Prop):Prop
 |mk (ρ:aB) (O:abX->Prop) (d:D) (ρ':aB) (j:In X O H ρ σ) (r:Rep X.K O H d v) (e:gt d ρ= .ok ρ') (q:∀σ',In X O H ρ' σ'->Q σ' H):DGp X gt v σ H Q
def DG(X:Cx)(tg:ab6)(gt:D->aB->R aB):Prop:=PG X tg λv σ H Q=>DGp X gt v σ H Q
inductive Y8 (X:Cx) (gt:List D->aB->R aB) (vs:List V) (σ:St) (H:Hp) (Q:St->Hp->Prop):Prop
 |mk (ρ:aB) (O:abX->Prop) (ds:List D) (ρ':aB) (j:In X O H ρ σ) (r:aO X.K O H ds vs) (e:gt ds ρ= .ok ρ') (q:∀σ',In X O H ρ' σ'->Q σ' H):Y8 X gt vs σ H Q
def WR(X:Cx)(ts:List ab6)(gt:List D->aB->R aB):Prop:=PGs X ts λvs σ H Q=>Y8 X gt vs σ H Q
section
variable{X:Cx}{pos:Pos}
theorem In.set(j:In X O H ρ σ)(hi:i<X.N.length){v:V}(r:Rep X.K O H d v):In X O H (ρ.set i (some (.val d))) (σ.set i (some v)):=by
 have h1:i<ρ.length:=by rw[j.jF];exact hi
 have h2:i<σ.length:=by rw[j.len];exact hi
 refine⟨⟨λk e q=>?_,λk l e e' u hkl qk ql ok ol sk sl=>?_,λk l rows a rs e u hkl qk sk ha ql ol sl=>?_⟩,j.al,by rw[adG];exact j.len,by rw[adG];exact j.jF⟩
 ·by_cases hk:k=i
  ·subst hk;rw[z2a h1] at q;cases q;exact⟨v,z2a h2,r⟩
  ·rw[z1e (acd hk)] at q;obtain⟨u,q1,q2⟩:=j.env.get k e q;exact⟨u,by rw[z1e (acd hk)];exact q1,q2⟩
 ·have hk:k≠i:=λz=>by subst z;rw[z2a h1] at qk;cases qk;cases ok
  have hl:l≠i:=λz=>by subst z;rw[z2a h1] at ql;cases ql;cases ol
  rw[z1e (acd hk)] at qk sk;rw[z1e (acd hl)] at ql sl;exact j.env.sep k l e e' u hkl qk ql ok ol sk sl
 ·have hk:k≠i:=λz=>by subst z;rw[z2a h1] at qk;cases qk
  have hl:l≠i:=λz=>by subst z;rw[z2a h1] at ql;cases ql;cases ol
  rw[z1e (acd hk)] at qk sk;rw[z1e (acd hl)] at ql sl;exact j.env.nP k l rows a rs e u hkl qk sk ha ql ol sl
def aK(i:Nat)(d:D)(ρ:aB):R aB:= .ok (ρ.set i (some (.val d)))
theorem bx(i:Nat){x:Str}(hN:X.N.Nodup)(hi:X.N[i]?=some x:=by rfl)(hx:Loc X.env.scope x:=by first |exact acZ rfl |exact acM rfl)(hf:X.fn x=true\/X.env.scope.names.lookup x=some .local:=by first |exact .inl rfl |exact .inr rfl):DG X (.Name x pos) (aK i):=by
 intro pins s σ H v u Q I r h;obtain⟨ρ,O,d,ρ',j,rd,e,q⟩:=h;cases e;exact pg_name hN hi hx hf pins s σ H v u Q I r (q _ (j.set (z1b hi).1 rd))
def nilG:List D->aB->R aB
 |[],ρ=> .ok ρ
 |_,_=> .bad
def aY(t:D->aB->R aB)(u:List D->aB->R aB):List D->aB->R aB
 |d::ds,ρ=>(t d ρ).bind λρ'=>u ds ρ'
 |_,_=> .bad
theorem jk:WR X [] nilG:=by
 intro pins s σ H vs us Q I r h;obtain⟨ρ,O,ds,ρ',j,rd,e,q⟩:=h;cases ds with
 |nil=>cases e;exact pgs_nil pins s σ H vs us Q I r ⟨rd.nil_inv,q _ j⟩
 |cons d ds=>cases e
theorem cB{e:ab6}{es:List ab6}{t:D->aB->R aB}(h1:DG X e t)(h2:WR X es u)
  (hs:(ad5 (e::es) X.env).map (·.2)=assign e X.env::(ad5 es X.env).map (·.2):=by rfl):WR X (e::es) (aY t u):=by
 intro pins s σ H vs us Q I r h;obtain⟨ρ,O,ds,ρ',j,rd,e,q⟩:=h;cases ds with
 |nil=>cases e
 | cons d ds=>
  obtain⟨x,xs,rfl,rx,rxs⟩:=rd.cons_inv;have e':(t d ρ).bind (λρ'=>u ds ρ')= .ok ρ':=e;cases q1:t d ρ with
  |bad=>rw[q1] at e';cases e'
  |err c=>rw[q1] at e';cases e'
  | ok ρ1=>
   rw[q1] at e';refine pgs_cons h1 h2 hs pins s σ H _ us Q I r ⟨x,xs,rfl,ρ,O,d,ρ1,j,rx,q1,λσ1 j1=>?_⟩;exact⟨ρ1,O,ds,ρ',j1,rxs,e',q⟩
def cY(u:List D->aB->R aB):D->aB->R aB
 | .tup ds,ρ=>u ds ρ
 |_,_=> .bad
def cZ(n:Nat)(u:List D->aB->R aB):List D->aB->R aB:=λds ρ=>if ds.length=n then u ds ρ else .bad
theorem lu{es:List ab6}{k:Nat}(hc:X.calm=true)(h:WR X es u)
  (hn:(ad5 es X.env).length=n:=by rfl)(hst:(ad5 es X.env).findIdx? (·.1)=none:=by rfl):DG X (.Tuple es k pos) (cY (cZ n u)):=by
 intro pins s σ H v w Q I r q;obtain⟨ρ,O,d,ρ',j,rd,e,q⟩:=q;cases d with
 | tup ds=>
  obtain⟨a,xs,rfl,hq,rs⟩:=rd.tup;have e':(if ds.length=n then u ds ρ else .bad)= .ok ρ':=e;by_cases hl:ds.length=n
  ·rw[if_pos hl] at e';exact pg_tup hc h hn hst pins s σ H _ w Q I r ⟨a,xs,rfl,hq,by rw[<-rs.length];exact hl,ρ,O,ds,ρ',j,rs,e',q⟩
  ·rw[if_neg hl] at e';cases e'
 |_=>cases e
end
def jH(x:Str):List Str->Nat
 |[]=>0
 |y::r=>if x=y then 0 else jH x r+1
theorem nU{x:Str}:∀{N:List Str},x∈N->N[jH x N]?=some x
 |[],h=>by simp at h
 | y ::r,h=>by
  unfold jH;by_cases e:x=y
  ·rw[if_pos e,e];rfl
  ·rw[if_neg e];rcases ach.mp h with z |z
   ·exact absurd z e
   ·simpa using nU z
def pull{α:Type}(N caps:List Str)(n:Nat)(l:List (Option α)):List (Option α):=ab3 n none++caps.map λx=>(l[jH x N]?).join
theorem wB(N caps:List Str)(n:Nat)(l:List (Option α)):(pull N caps n l).length=n+caps.length:=by simp[pull]
theorem join_some{o:Option (Option α)}{a:α}(h:o.join=some a):o=some (some a):=by
 cases o with
 |none=>cases h
 |some o=>exact congrArg some h
theorem lU{l:List (Option α)}{a:α}(h:(pull N caps n l)[i]?=some (some a)):∃j x,i=n+j/\caps[j]?=some x/\l[jH x N]?=some (some a):=by
 unfold pull at h;by_cases hi:i<n
 ·rw[acH (by simpa using hi),adt,if_pos hi] at h;cases h
 ·rw[acD (by simpa using hi),acN,z2b] at h;cases e:caps[i - n]? with
  |none=>rw[e] at h;cases h
  | some x=>
   rw[e] at h;exact⟨i - n,x,by omega,e,join_some (acj h)⟩
theorem vI{l:List (Option α)}{j:Nat}{x:Str}(h:caps[j]?=some x):(pull N caps n l)[n+j]?=some (l[jH x N]?).join:=by
 unfold pull;rw[acD (by simp),acN,z2b,show n+j - n=j by omega,h];rfl
def dW(sc:adA):List Str:=(sc.names.filter λx=>decide (x.2= .free)).map (·.1)
def Ck(outer sc:adA)(ts N:List Str):Bool:=
 decide (sc.kind= .function) && sc.names.all (λx=>(!decide (x.2= .local)) || decide (sc.names.lookup x.1=some .local)) && sc.names.all (λx=>(!decide (x.2= .cell)) || decide (sc.names.lookup x.1=some .cell)) &&
  (dW sc).all (λx=>(decide (outer.names.lookup x=some .cell) || decide (outer.names.lookup x=some .free)) && decide (x∈N) && decide (sc.names.lookup x=some .free)) && decide (ts++dW sc).Nodup
structure Aj(outer sc:adA)(ts N:List Str):Prop where
 kind:sc.kind= .function
 loc:∀x∈sc.names,x.2= .local->sc.names.lookup x.1=some .local
 WT:∀x∈sc.names,x.2= .cell->sc.names.lookup x.1=some .cell
 out:∀x∈dW sc,outer.names.lookup x=some .cell\/outer.names.lookup x=some .free
 mem:∀x∈dW sc,x∈N
 HS:∀x∈dW sc,sc.names.lookup x=some .free
 nd:(ts++dW sc).Nodup
theorem aaR{outer:adA}(h:Ck outer sc ts N=true):Aj outer sc ts N:=by
 unfold Ck at h;simp only[acY,ags,decide_eq_true_eq,Bool.or_eq_true,Bool.not_eq_true',decide_eq_false_iff_not] at h;obtain⟨⟨⟨⟨h1,h2⟩,h3⟩,h4⟩,h5⟩:=h;exact⟨h1,λx hx e=>(h2 x hx).resolve_left λn=>n e,λx hx e=>(h3 x hx).resolve_left λn=>n e,λx hx=>(h4 x hx).1.1,λx hx=>(h4 x hx).1.2,λx hx=>(h4 x hx).2,h5⟩
def gH(cs:List (Str×abX)):List (Str×aed)->List (Str×abX)->List (Str×abX)
 |[],acc=>acc
 |(n,k)::r,acc=>if k= .free then gH cs r ((n,(cs.lookup n).getD 0)::acc) else gH cs r acc
theorem QF{env:PySem.Env}(h:∀x∈scope.names,x.2= .free->∃c,env.cells.lookup x.1=some c):agf scope env=pure (gH env.cells scope.names []):=by
 unfold agf;have all:∀(l:List (Str×aed)) (acc:List (Str×abX)),(∀x∈l,x.2= .free->∃c,env.cells.lookup x.1=some c)->
   (forIn l acc λx r=>match x with |(name,kind)=>if (kind ==acU)=true then do let a <-cellOf env name;pure (afD ((name,a)::r)) else pure (afD r):Sem (List (Str×abX)))=pure (gH env.cells l acc):=by
  intro l
  induction l with
  |nil=>intro acc _;rfl
  | cons x r ih=>
   intro acc hx;obtain⟨n,k⟩:=x;rw[aeQ];unfold gH;by_cases hk:k= .free
   ·obtain⟨c,hc⟩:=hx (n,k) acq hk;have hc:env.cells.lookup n=some c:=hc;have e1:cellOf env n=pure c:=by unfold cellOf;rw[hc]
    subst hk;simp only[e1,hc,agt,beq_self_eq_true,if_true,pure_bind];exact ih _ λy hy=>hx y (z2f _ hy)
   ·have e2:(k ==acU)=false:=by simpa using hk
    simp only[e2,acP,if_false,pure_bind,hk];exact ih _ λy hy=>hx y (z2f _ hy)
 simpa using all scope.names [] h
theorem lA(cs:List (Str×abX)):∀(l:List (Str×aed)) (acc:List (Str×abX)),gH cs l acc=gH cs l []++acc
 |[],acc=>rfl
 | (n,k)::r,acc=>by
  unfold gH;split
  ·rw[lA cs r (_::acc),lA cs r [_]];simp
  ·exact lA cs r acc
theorem rF(cs:List (Str×abX)):∀(l:List (Str×aed)) {n:Str} {c:abX},(n,c)∈gH cs l []->(n,acU)∈l/\c=(cs.lookup n).getD 0
 |[],_,_,h=>by simp[gH] at h
 | (m, k)::r,n,c,h=>by
  unfold gH at h;split at h
  ·rename_i hk;rw[lA] at h;rcases ac9.mp h with h |h
   ·obtain⟨h1,h2⟩:=rF cs r h;exact⟨z2f _ h1,h2⟩
   ·have e:=acV.mp h;cases e;subst hk;exact⟨acq,rfl⟩
  ·obtain⟨h1,h2⟩:=rF cs r h;exact⟨z2f _ h1,h2⟩
theorem Cm(cs:List (Str×abX)):∀(l:List (Str×aed)) {n:Str},(n,acU)∈l->((gH cs l []).lookup n).isSome=true
 |[],_,h=>by simp at h
 | (m, k)::r,n,h=>by
  unfold gH;split
  ·rename_i hk;rw[lA,ade];rcases ach.mp h with e |h
   ·cases e;simp[adW]
   ·simp[Cm cs r h]
  ·rename_i hk;rcases ach.mp h with e |h
   ·cases e;exact absurd rfl hk
   ·exact Cm cs r h
theorem dO:∀(l:List (Str×aed)) (n:Nat) (acc:List (Str×abX)),acs n l acc=acs n l []++acc
 |[],_,_=>rfl
 | (m,k)::r,n,acc=>by
  unfold acs;split
  ·rw[dO r _ (_::acc),dO r _ [_]];simp
  ·exact dO r n acc
theorem ji:∀(l:List (Str×aed)) (n:Nat) {x:Str} {c:abX},(x,c)∈acs n l []->(x,aek)∈l/\n<=c
 |[],_,_,_,h=>by simp[acs] at h
 | (m, k)::r,n,x,c,h=>by
  unfold acs at h;split at h
  ·rename_i hk;rw[dO] at h;rcases ac9.mp h with h |h
   ·obtain⟨h1,h2⟩:=ji r _ h;exact⟨z2f _ h1,by omega⟩
   ·have e:=acV.mp h;cases e;have:k= .cell:=by simpa using hk
    subst this;exact⟨acq,z0g _⟩
  ·obtain⟨h1,h2⟩:=ji r _ h;exact⟨z2f _ h1,h2⟩
section
variable{M:Model}{A:acg}{E:abY->abZ->Prop}{s:abZ}
theorem Sg{globals:abX}{cl:List (Str×abX)}{qual:Str}{env:PySem.Env}{Q:PySem.Env->abZ->Prop}
  (hQ:Q (newEnv scope s.heap.objs.size globals (acs (s.heap.objs.size+1) scope.names cl) qual none .none (some env) aen) {s with heap:=pushCells (s.heap.push {cls:= .type "dict",data:= .dict #[]}) scope.names}):
  ab4 M A (afO scope globals cl [] qual none .none (some env)) Q E s:=by
 simp only[afO,Option.isSome_some,if_true];refine abW (wpAny_alloc ?_);refine abW (wpAny_layCells _ (λname kind cells=>by cases hkc:kind ==aek <;> simp[hkc]) _ _ _ _ ?_);rw[show ({s with heap:=s.heap.push {cls:= .type "dict",data:= .dict #[]}}:abZ).heap.objs.size=s.heap.objs.size+1 from acW ..];exact abW (ab1 (ab1 hQ))
end
def gj(scope:adA)(env:PySem.Env)(C:abX):PySem.Env:=
 {scope:=relabel scope env,locals:=C,globals:=env.globals,cells:=acs (C+1) scope.names (gH env.cells scope.names []),qual:=env.qual,func:=none,code:=env.code,frame:=env.frame,builtins:=env.builtins}
def cG(X:Cx)(scope:adA)(ts:List Str)(C:abX)(s:abZ)(H:Hp)(ex:List abX):Cx where
 prog:=X.prog
 w:=X.w
 K:=X.K
 mg:=X.mg
 base:=X.base
 A:=X.A
 N:=ts++dW scope
 s₀:=s
 H₀:=H
 env:=gj scope X.env C
 outer:=X.stack
 stack:=X.stack
 ex:=ex
 fn:=λx=>decide (scope.names.lookup x=some .cell)
 calm:=X.calm
 pn:=[]
 xe:=λ_ _=>False
theorem nW{scope:adA}{env:PySem.Env}{x:Str}:∀{names:List (Str×aed)},
  (names.map λ(n,k)=>if (k ==acU && env.scope.kind == .function && env.kindOf n ==some .cell) then (n,aek) else (n,k)).lookup x =
   (names.lookup x).map λk=>if (k ==acU && env.scope.kind == .function && env.kindOf x ==some .cell) then .cell else k
 |[]=>rfl
 | (n, k)::r=>by
  have ih:= @nW scope env x r;rw[z1h];show List.lookup x ((if (k ==acU && env.scope.kind == .function && env.kindOf n ==some .cell)=true then (n,aek) else (n,k))::_)=_;cases hx:x ==n with
  | true=>
   have e:x=n:=by simpa using hx
   subst e;by_cases hc:(k ==acU && env.scope.kind == .function && env.kindOf x ==some .cell)=true
   ·rw[if_pos hc];simp only[adW,beq_self_eq_true,aeR,hc,if_true]
   ·rw[if_neg hc];simp only[adW,beq_self_eq_true,aeR,hc,if_false] <;> rfl
  | false=>
   by_cases hc:(k ==acU && env.scope.kind == .function && env.kindOf n ==some .cell)=true
   ·rw[if_pos hc];simp only[adW,hx];exact ih
   ·rw[if_neg hc];simp only[adW,hx];exact ih
theorem rG{x:Str}(h:(x,acU)∈sc.names):x∈dW sc:=acA.mpr ⟨(x,.free),afx.mpr ⟨h,by simp⟩,rfl⟩
theorem Xu{x:Str}(h:x∈dW sc):(x,acU)∈sc.names:=by
 obtain⟨⟨n,k⟩,h1,h2⟩:=acA.mp h;obtain⟨h3,h4⟩:=afx.mp h1;have h4:k=acU:=by simpa using h4
 subst h4;have h2:n=x:=h2;subst h2;exact h3
section
variable{X:Cx}{scope:adA}{ts:List Str}{C:abX}
theorem jJ(B:Aj X.env.scope scope ts X.N)(has:∀x,(X.env.kindOf x=some .cell\/X.env.kindOf x=some .free)->∃c,X.env.cells.lookup x=some c){x:Str}{c:abX}(h:(gj scope X.env C).cells.lookup x=some c):
  (scope.names.lookup x=some .cell/\@LE.le Nat _ (C+1) c)\/(x∈dW scope/\X.env.cells.lookup x=some c):=by
 have h:(acs (C+1) scope.names (gH X.env.cells scope.names [])).lookup x=some c:=h;rw[dO,ade] at h;cases e:(acs (C+1) scope.names []).lookup x with
 | some c'=>
  rw[e] at h;have e2:c'=c:=by simpa using h
  subst e2;obtain⟨h1,h2⟩:=ji _ _ (PySem.mem_of_lookup e);exact .inl ⟨B.WT _ h1 rfl,h2⟩
 | none=>
  rw[e] at h;have h:(gH X.env.cells scope.names []).lookup x=some c:=by simpa using h
  obtain⟨h1,h2⟩:=rF _ _ (PySem.mem_of_lookup h);have hx:=rG h1;obtain⟨c',hc'⟩:=has x (B.out x hx);rw[hc'] at h2;have h2:c=c':=h2;subst h2;exact .inr ⟨hx,hc'⟩
theorem J8(B:Aj X.env.scope scope ts X.N){x:Str}{c:abX}(hx:x∈dW scope)(hc:X.env.cells.lookup x=some c)(has:∀x,(X.env.kindOf x=some .cell\/X.env.kindOf x=some .free)->∃c,X.env.cells.lookup x=some c):(gj scope X.env C).cells.lookup x=some c:=by
 have hs:=Cm X.env.cells scope.names (Xu hx);obtain⟨c',e⟩:=adp.mp hs;have hl:∃d,(gj scope X.env C).cells.lookup x=some d:=by
  show ∃d,(acs (C+1) scope.names (gH X.env.cells scope.names [])).lookup x=some d;rw[dO,ade,e];cases (acs (C+1) scope.names []).lookup x with
  |none=>exact⟨c',rfl⟩
  |some d=>exact⟨d,rfl⟩
 obtain⟨d,hd⟩:=hl;rcases jJ B has hd with⟨h1,_⟩ |⟨_,h2⟩
 ·rw[B.HS x hx] at h1;cases h1
 ·rw[hc] at h2;cases h2;exact hd
theorem Vp(B:Aj X.env.scope scope ts X.N){x:Str}(hx:x∈dW scope):(gj scope X.env C).kindOf x=some .cell\/(gj scope X.env C).kindOf x=some .free:=by
 show (relabel scope X.env).names.lookup x=some .cell\/(relabel scope X.env).names.lookup x=some .free;have e:(relabel scope X.env).names.lookup x=(scope.names.lookup x).map λk=>if (k ==acU && X.env.scope.kind == .function && X.env.kindOf x ==some .cell) then .cell else k:=nW (scope:=scope);rw[e,B.HS x hx];simp only[aeR];split
 ·exact .inl rfl
 ·exact .inr rfl
end
def J9{α:Type}:R α->R α
 | .err _=> .bad
 | .ok a=> .ok a
 | .bad=> .bad
@[simp] theorem Dz {α:Type} (a:α):J9 (R.ok a)= .ok a:=rfl
def jA(k:D->R (Option D)):List D->R (List D)
 |[]=> .ok []
 |x::xs=>(J9 (k x)).bind λo=>(jA k xs).bind λds=> .ok (o.toList++ds)
def nY(gt:D->aB->R aB)(ft:aB->R Bool)(fe:aB->R D)(ρ:aB)(x:D):R (Option D):=
 (gt x ρ).bind λρ1=>(ft ρ1).bind λb=>if b=true then (fe ρ1).bind λd=> .ok (some d) else .ok none
def wC:Option Ent->Option Ent
 |some (.val d)=>some (.val d)
 |_=>none
def Ak(n:Nat)(caps:List Nat)(ρ:aB):aB:=ab3 n none++caps.map λk=>((ρ.map wC)[k]?).join
def bL(n:Nat)(caps:List Nat)(fi:aB->R (List D))(gt:D->aB->R aB)(ft:aB->R Bool)(fe:aB->R D):aB->R D:=
 λρ=>(fi ρ).bind λxs=>(jA (nY gt ft fe (Ak n caps ρ)) xs).bind (cap .lst)
def pJ(n:Nat)(gt:D->aB->R aB):Prop:=∀d ρ ρ',gt d ρ= .ok ρ'->∀i,n<=i->ρ'[i]?=ρ[i]?
def Al(n:Nat)(gt:List D->aB->R aB):Prop:=∀d ρ ρ',gt d ρ= .ok ρ'->∀i,n<=i->ρ'[i]?=ρ[i]?
theorem aX(h:i<n):pJ n (aK i):=λd ρ ρ' e j hj=>by
 cases e;rw[z1e (by omega)]
theorem gA:Al n nilG:=λd ρ ρ' e j hj=>by
 cases d with
 |nil=>cases e;rfl
 |cons _ _=>cases e
theorem bM{t:D->aB->R aB}(h1:pJ n t)(h2:Al n u):Al n (aY t u):=λd ρ ρ' e j hj=>by
 cases d with
 |nil=>cases e
 | cons d ds=>
  have e':(t d ρ).bind (λρ'=>u ds ρ')= .ok ρ':=e;cases q:t d ρ with
  |ok ρ1=>rw[q] at e';rw[h2 ds ρ1 ρ' e' j hj,h1 d ρ ρ1 q j hj]
  |err c=>rw[q] at e';cases e'
  |bad=>rw[q] at e';cases e'
theorem gB{m:Nat}(h:Al n u):pJ n (cY (cZ m u)):=λd ρ ρ' e j hj=>by
 cases d with
 | tup ds=>
  have e':(if ds.length=m then u ds ρ else .bad)= .ok ρ':=e;by_cases hl:ds.length=m
  ·rw[if_pos hl] at e';exact h ds ρ ρ' e' j hj
  ·rw[if_neg hl] at e';cases e'
 |_=>cases e
def Ka(Y:Cx)(ifs:List ab6)(ft:aB->R Bool):Prop:=∀(pins:List (abX×Obj)) (s:abZ) (σ:St) (H:Hp) (Q:Bool->Hp->Prop),Inv Y pins σ H s->tG Y rB ft σ H Q->
 ab4 (model Y.prog Y.w) Y.A (forIn ifs true λc r=>if r=true then do let ok <-isTrue c Y.env (eval c Y.env);pure (afD ok) else pure (afD r)) (TP Y pins σ Q) Y.xe s
theorem bY:Ka Y [] (λ_=> .ok true):=λpins s σ H Q I h=>by
 obtain⟨ρ,O,j,h⟩:=h;exact wpAny_tests_nil ⟨H,I,fin h rfl⟩
theorem Am{c:ab6}{p:aB->R Bool}(hc:DT Y c p):Ka Y [c] p:=λpins s σ H Q I h=>wpAny_tests_one (hc pins s σ H Q I h)
theorem Sh{k:D->R (Option D)}{x:D}{xs:List D}{all:List D}(h:jA k (x::xs)= .ok all):∃o rest,k x= .ok o/\jA k xs= .ok rest/\all=o.toList++rest:=by
 have h:(J9 (k x)).bind (λo=>(jA k xs).bind λds=> .ok (o.toList++ds))= .ok all:=h;cases e:k x with
 |bad=>rw[e] at h;cases h
 |err c=>rw[e] at h;cases h
 | ok o=>
  rw[e] at h;cases e2:jA k xs with
  |bad=>rw[e2] at h;cases h
  |err c=>rw[e2] at h;cases h
  | ok rest=>
   rw[e2] at h;cases h;exact⟨o,rest,rfl,rfl,rfl⟩
theorem DN{k:D->R (Option D)}:∀{xs:List D} {c:Str},jA k xs≠.err c
 |[],c=>λh=>by cases h
 | x ::xs,c=>λh=>by
  have h:(J9 (k x)).bind (λo=>(jA k xs).bind λds=> .ok (o.toList++ds))= .err c:=h;cases e:k x with
  |bad=>rw[e] at h;cases h
  |err c=>rw[e] at h;cases h
  | ok o=>
   rw[e] at h;cases e2:jA k xs with
   |bad=>rw[e2] at h;cases h
   |err c'=>exact DN e2
   |ok rest=>rw[e2] at h;cases h
section
variable{X:Cx}
theorem QG{o:Option Ent}{e:Ent}(h:wC o=some e):o=some e/\e.Ou=true:=by
 cases o with
 |none=>cases h
 | some e'=>
  cases e' with
  |val d=>cases h;exact⟨rfl,rfl⟩
  |lst _=>cases h
  |xH _=>cases h
  |rws _=>cases h
  |obj _=>cases h
theorem rH{e:Ent}(h:(ρ.map wC)[i]?=some (some e)):ρ[i]?=some (some e)/\e.Ou=true:=by
 rw[z2b] at h;cases q:ρ[i]? with
 |none=>rw[q] at h;cases h
 | some o=>
  rw[q] at h;obtain⟨h1,h2⟩:=QG (acj h);rw[h1];exact⟨rfl,h2⟩
theorem In.vals(j:In X O H ρ σ):In X O H (ρ.map wC) σ:=
 ⟨⟨λi e h=>j.env.get i e (rH h).1,λi k e e' v hik hi hk=>j.env.sep i k e e' v hik (rH hi).1 (rH hk).1,λi k rows a rs e v hik hi=>by cases (rH hi).2⟩,j.al,j.len,by rw[z1g];exact j.jF⟩
theorem QH{ks:List Nat}(h:caps.map (λx=>jH x N)=ks):pull N caps n (ρ.map wC)=Ak n ks ρ:=by
 unfold pull Ak;rw[<-h,acz];rfl
theorem Xv{pins:List (abX×Obj)}{s:abZ}{fp:List abX}(I:Inv X pins σ H s)(B:Aj X.env.scope scope ts X.N)
  (hf:∀b∈fp,FpOk X pins H b)(ho:∀b∈fp,b<s.heap.objs.size){h4:ace}{C:Nat}(hC:C=s.heap.objs.size+1)
  (e4:h4=pushCells ((s.heap.push {cls:= .type "list",dict:=none,data:= .seq ([]:List abY).toArray}).push {cls:= .type "dict",data:= .dict #[]}) scope.names):
  Inv (cG X scope ts C s H fp) [] (pull X.N (dW scope) ts.length σ) (upd H s.heap.objs.size (.lst [])) {s with heap:=h4}:=by
 have hD:H s.heap.objs.size=none:=I.hok.fresh (z0g _);have WW:∀b o,(s.heap.push {cls:= .type "list",dict:=none,data:= .seq ([]:List abY).toArray}).get? b=some o->h4.get? b=some o:=λb o e=>by
  rw[e4];exact aeS _ _ b o (z1a _ e)
 have keep:∀b o,s.heap.get? b=some o->h4.get? b=some o:=λb o e=>WW b o (z1a _ e);have Y9:(s.heap.push {cls:= .type "list",dict:=none,data:= .seq ([]:List abY).toArray}).objs.size=s.heap.objs.size+1:=acW ..;have hns:h4.Ns C λ_=>none:=by
  rw[e4,hC,<-Y9];exact (Heap.Ns.new _ (.type "dict")).keeps (aeS _ _)
 have ok:=cellsFrom_ok scope.names ((s.heap.push {cls:= .type "list",dict:=none,data:= .seq ([]:List abY).toArray}).push {cls:= .type "dict",data:= .dict #[]}) (C+1) [] ⟨λ_ _ hm=>(nomatch hm),aga⟩ (by rw[acW,Y9,hC];exact z0g _);rw[acW,Y9,<-hC,<-e4] at ok;have Xw:∀x c,(gj scope X.env C).cells.lookup x=some c->scope.names.lookup x=some .cell->h4.IsCell c none:=λx c h hk=>by
  have h:(acs (C+1) scope.names (gH X.env.cells scope.names [])).lookup x=some c:=h;rw[dO,ade] at h;cases e:(acs (C+1) scope.names []).lookup x with
  | some c'=>
   rw[e] at h;have e2:c'=c:=by simpa using h
   subst e2;exact (ok.empty x c' (PySem.mem_of_lookup e)).1
  | none=>
   rw[e] at h;have h:(gH X.env.cells scope.names []).lookup x=some c:=by simpa using h
   have:=B.HS x (rG (rF _ _ (PySem.mem_of_lookup h)).1);rw[hk] at this;cases this
 have QJ:∀x (c:Nat),X.env.cells.lookup x=some c->c<s.heap.objs.size:=λx c e=>by
  obtain⟨v,q⟩:=I.cell x c e;exact q.lt
 have Za:∀x c,(gj scope X.env C).cells.lookup x=some c->∃v,h4.IsCell c v:=λx c h=>by
  rcases jJ B I.ok.has h with⟨h1,_⟩ |⟨_,h2⟩
  ·exact⟨_,Xw x c h h1⟩
  ·obtain⟨v,q⟩:=I.cell x c h2;exact⟨v,q.keeps keep⟩
 refine⟨⟨I.ok.mod,B.kind,I.ok.glob,I.ok.blt,by show @LE.le Nat _ s.heap.objs.size C;omega,?inj,?has,?cab,I.ok.hd,I.ok.frames,.inl rfl,?exf,I.bs,z0b I.ok.bsz I.sz,?noex,?exfs,I.stack,I.stkFree⟩,
  rfl,I.bare,Un.laid keep (z0g _) hD,⟨_,hns,?loc⟩,Za,?free,?freeC,λp hp=>absurd (show p∈([]:List (abX×Obj)) from hp) (by simp),I.hok.laid keep (z0g _) ?new,?len⟩
 case inj=>
  intro x y c h1 h2;have h1:(gj scope X.env C).cells.lookup x=some c:=h1;have h2:(gj scope X.env C).cells.lookup y=some c:=h2;rcases jJ B I.ok.has h1 with⟨a1,a2⟩ |⟨a1,a2⟩ <;> rcases jJ B I.ok.has h2 with⟨b1,b2⟩ |⟨b1,b2⟩
  ·-- both its own
   have look:∀z,(gj scope X.env C).cells.lookup z=some c->scope.names.lookup z=some .cell->(z,c)∈acs (C+1) scope.names []:=λz h hk=>by
    have h:(acs (C+1) scope.names (gH X.env.cells scope.names [])).lookup z=some c:=h;rw[dO,ade] at h;cases e:(acs (C+1) scope.names []).lookup z with
    | some c'=>
     rw[e] at h;have e2:c'=c:=by simpa using h
     subst e2;exact PySem.mem_of_lookup e
    | none=>
     rw[e] at h;have h:(gH X.env.cells scope.names []).lookup z=some c:=by simpa using h
     have:=B.HS z (rG (rF _ _ (PySem.mem_of_lookup h)).1);rw[hk] at this;cases this
   exact name_of_addr ok.apart (look x h1 a1) (look y h2 b1)
  ·have:=QJ y c b2;omega
  ·have:=QJ x c a2;omega
  ·exact I.ok.inj x y c a2 b2
 case has=>
  intro x hx;have hx:(relabel scope X.env).names.lookup x=some .cell\/(relabel scope X.env).names.lookup x=some .free:=hx;have hx:(scope.names.map λ(n,k)=>if (k ==acU && X.env.scope.kind == .function && X.env.kindOf n ==some .cell) then (n,aek) else (n,k)).lookup x=some .cell\/(scope.names.map λ(n,k)=>if (k ==acU && X.env.scope.kind == .function && X.env.kindOf n ==some .cell) then (n,aek) else (n,k)).lookup x=some .free:=hx;rw[nW (scope:=scope)] at hx;cases e:scope.names.lookup x with
  |none=>rw[e] at hx;rcases hx with z |z <;> cases z
  | some k=>
   rw[e] at hx;by_cases hk:k= .free
   ·subst hk;have hm:=rG (PySem.mem_of_lookup e);obtain⟨c,hc⟩:=I.ok.has x (B.out x hm);exact⟨c,J8 B hm hc I.ok.has⟩
   ·have hk':(k ==acU)=false:=by simpa using hk
    simp only[aeR,hk',afN,acP,if_false] at hx;have hc:k= .cell:=by
     rcases hx with z |z
     ·exact acj z
     ·exact absurd (acj z) hk
    subst hc;have q:=PySem.W.cellsFrom_some scope.names (C+1) (gH X.env.cells scope.names []) (.inl e);exact adp.mp q
 case cab=>
  intro x c hfn h;have h:(gj scope X.env C).cells.lookup x=some c:=h;have hfn:scope.names.lookup x=some .cell:=of_decide_eq_true hfn;rcases jJ B I.ok.has h with⟨_,a2⟩ |⟨a1,_⟩
  ·show @LE.le Nat _ s.heap.objs.size c;omega
  ·rw[B.HS x a1] at hfn;cases hfn
 case exf=>
  intro b hb;have hb:b∈fp:=hb;have hl: @LT.lt Nat _ b s.heap.objs.size:=ho b hb;refine⟨by show @Ne Nat b C;omega,λx c h=>?_⟩;rcases jJ B I.ok.has h with⟨_,a2⟩ |⟨_,a2⟩
  ·show @Ne Nat c b;omega
  ·exact (hf b hb).2.2.2.2.1 x c a2
 case noex=>
  intro b o e hb;have hb:b∈fp:=hb;rcases (hf b hb).2.2.2.1 with z |z
  ·exact I.ok.noex b o e z
  ·exact absurd (z0d (z2c e) (z0b I.ok.bsz z)) (acX _)
 case exfs=>
  intro b hb hz;have hb:b∈fp:=hb;have hz:b∈frs X.stack:=hz;rcases ach.mp (I.stkSub b hz) with z |z
  ·exact (hf b hb).2.1 z
  ·exact (hf b hb).2.2.1 z
 case loc=>
  intro i x v h1 h2 h3;have h1:(ts++dW scope)[i]?=some x:=h1;obtain⟨k,y,e1,e2,e3⟩:=lU h2;have hy:x=y:=by
   rw[e1,acD (by omega),show ts.length+k - ts.length=k by omega,e2] at h1;exact (acj h1).symm
  subst hy;have hm:x∈dW scope:=acy e2;obtain⟨m,_,hl⟩:=I.loc;have vis:Vis X.env.scope x:=by
   rcases B.out x hm with z |z
   ·exact .inr (.inl z)
   ·exact .inr (.inr z)
  obtain⟨u,ru,lk⟩:=hl (jH x X.N) x v (nU (B.mem x hm)) e3 vis;refine⟨u,ru,.inr ⟨Vp B hm,?_⟩⟩;rcases lk with⟨z,_⟩ |⟨_,c,hc,q⟩
  ·have z:X.env.scope.names.lookup x=some .local:=z;rcases B.out x hm with z' |z' <;> rw[z] at z' <;> cases z'
  ·exact⟨c,J8 B hm hc I.ok.has,q.keeps keep⟩
 case free=>
  show upd H s.heap.objs.size (.lst []) C=none;rw[upd_ne (show @Ne Nat C s.heap.objs.size by omega)];exact I.hok.fresh (show @LE.le Nat _ s.heap.objs.size C by omega)
 case freeC=>
  intro x c h;rcases jJ B I.ok.has h with⟨_,a2⟩ |⟨_,a2⟩
  ·rw[upd_ne (show @Ne Nat c s.heap.objs.size by omega)];exact I.hok.fresh (show @LE.le Nat _ s.heap.objs.size c by omega)
  ·have:=QJ x c a2;rw[upd_ne (show @Ne Nat c s.heap.objs.size by omega)];exact I.freeC x c a2
 case new=>
  exact⟨adX _,[],0,.nil,WW _ _ (z1f _ rfl)⟩
 case len=>
  show (pull X.N (dW scope) ts.length σ).length=(ts++dW scope).length;rw[wB,z1d]
theorem Zb{s:abZ}{fp:List abX}{C:abX}(B:Aj X.env.scope scope ts X.N)(j:In X O H ρ σ):In (cG X scope ts C s H fp) O H (pull X.N (dW scope) ts.length ρ) (pull X.N (dW scope) ts.length σ):=by
 refine⟨⟨λi e h=>?_,λi k e e' v hik hi hk oi ok si sk=>?_,λi k rows a rs e v hik hi si ha hk ok sk=>?_⟩,j.al,?_,?_⟩
 ·obtain⟨m,x,rfl,e1,e2⟩:=lU h;obtain⟨v,e3,r⟩:=j.env.get _ e e2;exact⟨v,by rw[vI e1,e3];rfl,r⟩
 ·obtain⟨m,x,rfl,e1,e2⟩:=lU hi;obtain⟨m',x',rfl,e1',e2'⟩:=lU hk;have hx:x≠x':=λz=>by
   subst z;have nd:=(agb.mp B.nd).2.1;exact hik (by rw[nodup_ix nd e1 e1'])
  have hm:=B.mem x (acy e1);have hm':=B.mem x' (acy e1');have hne:jH x X.N≠jH x' X.N:=λz=>by
   have q1:=nU hm;have q2:=nU hm';rw[z,q2] at q1;exact hx (acj q1).symm
  rw[vI e1] at si;rw[vI e1'] at sk;exact j.env.sep _ _ e e' v hne e2 e2' oi ok (join_some (acj si)) (join_some (acj sk))
 ·obtain⟨m,x,rfl,e1,e2⟩:=lU hi;obtain⟨m',x',rfl,e1',e2'⟩:=lU hk;have hx:x≠x':=λz=>by
   subst z;have nd:=(agb.mp B.nd).2.1;exact hik (by rw[nodup_ix nd e1 e1'])
  have hm:=B.mem x (acy e1);have hm':=B.mem x' (acy e1');have hne:jH x X.N≠jH x' X.N:=λz=>by
   have q1:=nU hm;have q2:=nU hm';rw[z,q2] at q1;exact hx (acj q1).symm
  rw[vI e1] at si;rw[vI e1'] at sk;exact j.env.nP _ _ rows a rs e v hne e2 (join_some (acj si)) ha e2' ok (join_some (acj sk))
 ·show (pull X.N (dW scope) ts.length σ).length=(ts++dW scope).length;rw[wB,z1d]
 ·show (pull X.N (dW scope) ts.length ρ).length=(ts++dW scope).length;rw[wB,z1d]
end
theorem fJ:1000000<sizeLine:=by rw[ac6];decide
section
variable{X:Cx}
theorem In.back{ρ1:aB}(j:In Y O H ρ1 σ)(h0:∀i,i<n->ρ[i]?=some none)(h1:∀i,n<=i->ρ1[i]?=ρ[i]?)(hl:ρ.length=Y.N.length):In Y O H ρ σ:=by
 have sub:∀(i:Nat) e,ρ[i]?=some (some e)->ρ1[i]?=some (some e):=λi e h=>by
  by_cases hi:i<n
  ·rw[h0 i hi] at h;cases h
  ·rw[h1 i (by omega)];exact h
 exact⟨⟨λi e h=>j.env.get i e (sub i e h),λi k e e' v hik hi hk=>j.env.sep i k e e' v hik (sub i e hi) (sub k e' hk),λi k rows a rs e v hik hi si ha hk=>j.env.nP i k rows a rs e v hik (sub i _ hi) si ha (sub k e hk)⟩,j.al,j.len,hl⟩
theorem Ss{l:List (Option α)}(h:i<n):(pull N caps n l)[i]?=some none:=by
 unfold pull;rw[acH (by simpa using h),adt,if_pos h]
theorem In.go{O':abX->Prop}{H':Hp}(j:In Y O H ρ σ)(hv:∀(i:Nat) e,ρ[i]?=some (some e)->e.Ou=true)(r:fL Y.K O H O' H')(al:∀a,O' a->∃o,H' a=some o):In Y O' H' ρ σ:=by
 refine⟨⟨λi e h=>?_,λi k e e' v _ hi _ oi=>?_,λi k rows a rs e v _ hi=>by cases hv i _ hi⟩,al,j.len,j.jF⟩
 ·obtain⟨v,h1,h2⟩:=j.env.get i e h;refine⟨v,h1,?_⟩;cases e with
  |val d=>exact Rep.go r h2
  |lst _=>cases hv i _ h
  |xH _=>cases hv i _ h
  |rws _=>cases hv i _ h
  |obj _=>cases hv i _ h
 ·rw[Xr (hv i e hi)] at oi;cases oi
theorem HW:∀(i:Nat) e,(pull N caps n (ρ.map wC))[i]?=some (some e)->e.Ou=true:=λi e h=>by
 obtain⟨_,_,_,_,q⟩:=lU h;exact (rH q).2
end
inductive So where
 |bad |nx (ρ:aB) |rt (d:D) |bk (ρ:aB) |ct (ρ:aB) |ex (c:Str) (ρ:aB)
def JV(H0:Hp)(O0:abX->Prop)(H:Hp)(ρ:aB)(σ:St):Prop:=∀(i:Nat) (rows:List (List D)) (a:abX) (rs:List abX),ρ[i]?=some (some (.rws rows))->σ[i]?=some (some (.ref a))->H a=some (.lst (rs.map V.ref))->∀r∈rs,H0 r=none/\¬O0 r
structure At(X:Cx)(H0:Hp)(O0 O:abX->Prop)(H:Hp)(ρ:aB)(σ:St):Prop where
 same:Same H0 H
 eU:fL X.K O0 H0 O H
 sub:∀a,O0 a->O a
 inn:In X O H ρ σ
 mine:∀(i:Nat) e a,ρ[i]?=some (some e)->e.own=true->σ[i]?=some (some (.ref a))->H0 a=none/\¬O0 a
 tR:JV H0 O0 H ρ σ
def vJ(X:Cx)(H0:Hp)(O0 O:abX->Prop)(H:Hp)(E:Ends)(o:So):Prop:=match o with
 | .nx ρ'=>∀σ' H' O',At X H0 O0 O' H' ρ' σ'->fL X.K O H O' H'->E.nx σ' H'
 | .bk ρ'=>∀σ' H' O',At X H0 O0 O' H' ρ' σ'->fL X.K O H O' H'->E.bk σ' H'
 | .ct ρ'=>∀σ' H' O',At X H0 O0 O' H' ρ' σ'->fL X.K O H O' H'->E.ct σ' H'
 | .rt d=>∀v H',Same H0 H'->Rep X.K O0 H' d v->E.rt v H'
 | .ex c ρ'=>∀σ' H' O',At X H0 O0 O' H' ρ' σ'->HJ X c σ' H'
 | .bad=>False
theorem vJ.go{H1:Hp}{O1:abX->Prop}{E:Ends}{o:So}(h:vJ X H0 O0 O H E o)(r:fL X.K O H O1 H1):vJ X H0 O0 O1 H1 E o:=by
 cases o with
 |bad=>exact h
 |rt d=>exact h
 |bk ρ2=>exact λσ2 H2 O2 j2 r2=>h σ2 H2 O2 j2 (r.trans r2)
 |ct ρ2=>exact λσ2 H2 O2 j2 r2=>h σ2 H2 O2 j2 (r.trans r2)
 |nx ρ2=>exact λσ2 H2 O2 j2 r2=>h σ2 H2 O2 j2 (r.trans r2)
 |ex c ρ2=>exact h
def tS(X:Cx)(g:aB->So):TS:=λE σ H=>∃H0 O0 O ρ,At X H0 O0 O H ρ σ/\vJ X H0 O0 O H E (g ρ)
def DS(X:Cx)(st:acp)(g:aB->So):Prop:=PS X st (tS X g)
def jB(X:Cx)(st:List acp)(g:aB->So):Prop:=PSs X st (tS X g)
theorem PS.imp{e:acp}{t t':TS}(h:PS X e t)(w:∀σ H Q,t' Q σ H->t Q σ H):PS X e t':=λpins s σ H Q I q=>h pins s σ H Q I (w σ H Q q)
theorem PSs.imp{e:List acp}{t t':TS}(h:PSs X e t)(w:∀σ H Q,t' Q σ H->t Q σ H):PSs X e t':=λpins s σ H Q I q=>h pins s σ H Q I (w σ H Q q)
section
variable{X:Cx}{H0 H H1:Hp}{O0 O:abX->Prop}{ρ:aB}{σ:St}
theorem JV.of(h:JV H0 O0 H ρ σ)(w:∀(i:Nat) (rows:List (List D)) (a:abX) (rs:List abX),ρ[i]?=some (some (.rws rows))->σ[i]?=some (some (.ref a))->H1 a=some (.lst (rs.map V.ref))->H a=some (.lst (rs.map V.ref))):JV H0 O0 H1 ρ σ:=λi rows a rs hi hs ha=>h i rows a rs hi hs (w i rows a rs hi hs ha)
theorem At.grow(j:At X H0 O0 O H ρ σ)(s:Same H H1):At X H0 O0 O H1 ρ σ:=⟨j.same.trans s,j.eU.trans (Same.eU s),j.sub,j.inn.same s,j.mine,j.tR.of λi rows a rs hi hs ha=>j.inn.env.back s hi hs ha⟩
theorem At.set(j:At X H0 O0 O H ρ σ)(hi:i<X.N.length){v:V}(r:Rep X.K O H d v):At X H0 O0 O H (ρ.set i (some (.val d))) (σ.set i (some v)):=by
 have h1:i<ρ.length:=by rw[j.inn.jF];exact hi
 refine⟨j.same,j.eU,j.sub,j.inn.set hi r,λk e a h ho hs=>?_,λk rows a rs h hs=>?_⟩
 ·by_cases hk:k=i
  ·subst hk;rw[z2a h1] at h;cases h;cases ho
  ·rw[z1e (acd hk)] at h hs;exact j.mine k e a h ho hs
 ·by_cases hk:k=i
  ·subst hk;rw[z2a h1] at h;cases h
  ·rw[z1e (acd hk)] at h hs;exact j.tR k rows a rs h hs
def QK:Option Ent->Option Ent
 |some (.lst ds)=>some (.val (.lst ds))
 |some (.rws rows)=>some (.val (.lst (rows.map D.lst)))
 |o=>o
def dB(ρ:aB):aB:=ρ.map QK
def Ov(H:Hp)(ρ:aB)(σ:St)(O:abX->Prop):abX->Prop:=λa=>O a/\(∀(i:Nat) ds,ρ[i]?=some (some (.lst ds))->σ[i]?≠some (some (.ref a)))/\∀(i:Nat) (rows:List (List D)) (b:abX) (rs:List abX),ρ[i]?=some (some (.rws rows))->σ[i]?=some (some (.ref b))->H b=some (.lst (rs.map V.ref))->a∉b::rs
theorem Cp{e:Ent}(h:(dB ρ)[i]?=some (some e)):(ρ[i]?=some (some e)/\(∀ds,e≠.lst ds)/\∀rows,e≠.rws rows)\/(∃ds,ρ[i]?=some (some (.lst ds))/\e= .val (.lst ds))\/∃rows,ρ[i]?=some (some (.rws rows))/\e= .val (.lst (rows.map D.lst)):=by
 unfold dB at h;rw[z2b] at h;cases q:ρ[i]? with
 |none=>rw[q] at h;cases h
 | some o=>
  rw[q] at h;have h:QK o=some e:=acj h;cases o with
  |none=>cases h
  | some e'=>
   cases e' with
   |val d=>cases h;exact .inl ⟨rfl,(λ_ z=>by cases z),(λ_ z=>by cases z)⟩
   |lst ds=>cases h;exact .inr (.inl ⟨ds,rfl,rfl⟩)
   |xH kvs=>cases h;exact .inl ⟨rfl,(λ_ z=>by cases z),(λ_ z=>by cases z)⟩
   |obj t=>cases h;exact .inl ⟨rfl,(λ_ z=>by cases z),(λ_ z=>by cases z)⟩
   |rws rows=>cases h;exact .inr (.inr ⟨rows,rfl,rfl⟩)
theorem HY{K:PySem.W.Frag}{O':abX->Prop}:∀{rs:List abX} {rows:List (List D)},rs.length=rows.length->(∀(i:Nat) r row,rs[i]?=some r->rows[i]?=some row->Rep K O' H (.lst row) (.ref r))->aO K O' H (rows.map D.lst) (rs.map V.ref)
 |[],[],_,_=> .nil
 |[],_::_,h,_=>by cases h
 |_::_,[],h,_=>by cases h
 |r::rs,row::rows,h,n=> .cons (n 0 r row rfl rfl) (HY (Nat.succ.inj h) λi r row e1 e2=>n (i+1) r row e1 e2)
theorem In.dB(j:In X O H ρ σ):In X (Ov H ρ σ O) H (Pu.dB ρ) σ:=by
 refine⟨⟨λi e h=>?_,λi k e e' v hik hi hk oi ok si sk=>?_,λi k rows a rs e v hik hi=>?_⟩,λa z=>j.al a z.1,j.len,by unfold Pu.dB;rw[z1g];exact j.jF⟩
 ·rcases Cp h with⟨h1,h2,h2'⟩ |⟨ds,h1,rfl⟩ |⟨rows,h1,rfl⟩
  ·obtain⟨v,h3,h4⟩:=j.env.get i e h1;refine⟨v,h3,?_⟩;cases e with
   |val d=>exact Rep.fewer (λa z=>z.1) h4
   |lst ds=>exact absurd rfl (h2 ds)
   |rws rows=>exact absurd rfl (h2' rows)
   |obj t=>exact h4
   | xH kvs=>
    obtain⟨a,ys,e1,o1,e2,k1,r1⟩:=h4;refine⟨a,ys,e1,⟨o1,λk ds hk hs=>?_,λk rows b rs hk hs hb hm=>?_⟩,e2,k1,r1.fewer λa z=>z.1⟩
    ·by_cases hik:i=k
     ·subst hik;rw[h1] at hk;cases hk
     ·exact j.env.sep i k _ _ v hik h1 hk rfl rfl h3 (by rw[e1];exact hs)
    ·by_cases hik:i=k
     ·subst hik;rw[h1] at hk;cases hk
     ·rcases ach.mp hm with z |z
      ·exact j.env.sep i k _ _ v hik h1 hk rfl rfl h3 (by rw[e1,z];exact hs)
      ·exact (j.env.nP k i rows b rs _ v (acd hik) hk hs hb h1 rfl h3).1 a z e1
  ·obtain⟨v,h3,a,xs,e1,o1,e2,r1⟩:=j.env.get i _ h1;exact⟨v,h3,by rw[e1];exact lY (SqL.of e2) (λz=>z.2.1 i ds h1 (by rw[<-e1];exact h3)) (r1.fewer λa z=>z.1)⟩
  ·obtain⟨v,h3,a,rs,e1,R⟩:=j.env.get i _ h1;refine⟨v,h3,?_⟩;have hs:σ[i]?=some (some (.ref a)):=by rw[<-e1];exact h3
   rw[e1];refine lY (SqL.of R.at_) (λz=>z.2.2 i rows a rs h1 hs R.at_ (acq ..)) (HY R.len λk r row q1 q2=>?_);obtain⟨_,xs,q3,q4⟩:=R.row k r row q1 q2;exact lY (SqL.of q3) (λz=>z.2.2 i rows a rs h1 hs R.at_ (z2f _ (acy q1))) (q4.fewer λa z=>z.1)
 ·have un:∀{m:Nat} {e:Ent},(Pu.dB ρ)[m]?=some (some e)->e.own=true->ρ[m]?=some (some e):=λ{m e} h ho=>by
   rcases Cp h with⟨h1,_⟩ |⟨ds,_,rfl⟩ |⟨rows,_,rfl⟩
   ·exact h1
   ·cases ho
   ·cases ho
  exact j.env.sep i k e e' v hik (un hi oi) (un hk ok) oi ok si sk
 ·rcases Cp hi with⟨_,_,h2⟩ |⟨ds,_,z⟩ |⟨_,_,z⟩
  ·exact absurd rfl (h2 rows)
  ·cases z
  ·cases z
theorem At.abn(j:At X H0 O0 O H ρ σ):∀a,O0 a->Ov H ρ σ O a:=λa z=>⟨j.sub a z,λi ds h hs=>(j.mine i _ a h rfl hs).2 z,λi rows b rs h hs hb hm=>by
 rcases ach.mp hm with q |q
 ·subst q;exact (j.mine i _ _ h rfl hs).2 z
 ·exact (j.tR i rows b rs h hs hb a q).2 z⟩
end
section
variable{X:Cx}{st:acp}{rest:List acp}{g k:aB->So}{f:aB->R D}{p:aB->R Bool}{e:ab6}{pos:Pos}
def aP(g k:aB->So):aB->So:=λρ=>match g ρ with
 | .nx ρ'=>k ρ'
 |o=>o
theorem cH:jB X [] .nx:=PSs.imp pss_nil λσ H E h=>by
 obtain⟨H0,O0,O,ρ,j,h⟩:=h;exact h σ H O j .refl
theorem aL(h:DS X st g):jB X [st] g:=pss_one h
theorem aJ(h1:DS X st g)(h2:jB X rest k):jB X (st::rest) (aP g k):=by
 refine PSs.imp (pss_cons h1 h2) λσ H E h=>?_;obtain⟨H0,O0,O,ρ,j,h⟩:=h;unfold aP at h;refine⟨H0,O0,O,ρ,j,?_⟩;cases e1:g ρ with
 |bad=>rw[e1] at h;exact h
 |rt d=>rw[e1] at h;exact h
 |bk ρ'=>rw[e1] at h;exact h
 |ct ρ'=>rw[e1] at h;exact h
 |ex c ρ'=>rw[e1] at h;exact h
 | nx ρ'=>
  rw[e1] at h;have h:vJ X H0 O0 O H E (k ρ'):=h;exact λσ' H' O' j' r'=>⟨H0,O0,O',ρ',j',h.go r'⟩
def jC(r:R D)(ρ:aB)(k:D->So):So:=match r with
 | .ok d=>k d
 | .err c=> .ex c ρ
 | .bad=> .bad
def retS(f:aB->R D):aB->So:=λρ=>jC (f (dB ρ)) ρ .rt
theorem bf(he:DE X e f):DS X (.Return (some e) pos) (retS f):=by
 refine PS.imp (ps_ret he) λσ H E h=>?_;obtain⟨H0,O0,O,ρ,j,h⟩:=h;refine⟨dB ρ,Ov H ρ σ O,j.inn.dB,?_⟩;unfold retS jC at h;cases e1:f (dB ρ) with
 |bad=>rw[e1] at h;exact h
 |err c=>rw[e1] at h;exact h σ H O j
 |ok d=>rw[e1] at h;exact λv H' s r=>h v H' (j.same.trans s) (Rep.fewer j.abn r)
def jD(f:aB->R D):aB->So:=λρ=>jC (f (dB ρ)) ρ λ_=> .nx ρ
theorem mj(he:DE X e f)(hs:ae0 e none pos.line X.env=pure false:=by rfl):DS X (.Expr e pos) (jD f):=by
 refine PS.imp (ps_expr he hs) λσ H E h=>?_;obtain⟨H0,O0,O,ρ,j,h⟩:=h;refine⟨dB ρ,Ov H ρ σ O,j.inn.dB,?_⟩;unfold jD jC at h;cases e1:f (dB ρ) with
 |bad=>rw[e1] at h;exact h
 |err c=>rw[e1] at h;exact h σ H O j
 |ok d=>rw[e1] at h;exact λv H' s r=>h σ H' O (j.grow s) (Same.eU s)
def bw(f:aB->R D)(gt:D->aB->R aB):aB->So:=λρ=>jC (f ρ) ρ λd=>match gt d ρ with
 | .ok ρ'=> .nx ρ'
 |_=> .bad
theorem bF(i:Nat){x:Str}{pos':Pos}(hN:X.N.Nodup)(he:DE X e f)(hi:X.N[i]?=some x:=by rfl)(hx:Loc X.env.scope x:=by first |exact acZ rfl |exact acM rfl)(hs:ae0 e (some (.Name x pos')) pos.line X.env=pure false:=by rfl)
  (hf:X.fn x=true\/X.env.scope.names.lookup x=some .local:=by first |exact .inl rfl |exact .inr rfl):DS X (.Assign [.Name x pos'] e pos) (bw f (aK i)):=by
 refine PS.imp (ps_set hN hi hx he hs hf) λσ H E h=>?_;obtain⟨H0,O0,O,ρ,j,h⟩:=h;refine⟨ρ,O,j.inn,?_⟩;unfold bw jC at h;cases e1:f ρ with
 |bad=>rw[e1] at h;exact h
 |err c=>rw[e1] at h;exact h σ H O j
 |ok d=>rw[e1] at h;exact λv H' s r=>h _ H' O ((j.grow s).set (z1b hi).1 r) (Same.eU s)
theorem jm(i k:Nat){x y:Str}{py pt:Pos}{kt}(hc:X.calm=true)(hN:X.N.Nodup)(he:DE X e f)(hi:X.N[i]?=some x:=by rfl)(hk:X.N[k]?=some y:=by rfl)
  (hx:Loc X.env.scope x:=by first |exact acZ rfl |exact acM rfl)(hy:Loc X.env.scope y:=by first |exact acZ rfl |exact acM rfl)
  (hfx:X.fn x=true\/X.env.scope.names.lookup x=some .local:=by first |exact .inl rfl |exact .inr rfl)(Kc:X.fn y=true\/X.env.scope.names.lookup y=some .local:=by first |exact .inl rfl |exact .inr rfl)
  (hs:aeE [.Tuple [.Name x px,.Name y py] kt pt] e pos.line X.env=pure false:=by rfl)(hw:aeF [.Tuple [.Name x px,.Name y py] kt pt] e X.env=pure none:=by rfl):
  DS X (.Assign [.Tuple [.Name x px,.Name y py] kt pt] e pos) (bw f (cY (cZ 2 (aY (aK i) (aY (aK k) nilG))))):=by
 refine PS.imp (ps_asg he (pg_tup hc (pgs_cons (pg_name hN hi hx hfx) (pgs_cons (pg_name hN hk hy Kc) pgs_nil))) hs hw) λσ H E h=>?_;obtain⟨H0,O0,O,ρ,j,h⟩:=h;refine⟨ρ,O,j.inn,?_⟩;unfold bw jC at h;cases e1:f ρ with
 |bad=>rw[e1] at h;exact h
 |err c=>rw[e1] at h;exact h σ H O j
 | ok d=>
  rw[e1] at h;intro v H' s r;cases d with
  | tup ds=>
   match ds,h,r with
   |[],h,_=>exact h.elim
   |[_],h,_=>exact h.elim
   |_::_::_::_,h,_=>exact (show False by simpa[cY,cZ,vJ] using h).elim
   | [d1,d2],h,r=>
    obtain⟨a,xs,rfl,hq,rs⟩:=r.tup;obtain⟨v1,v2,rfl,r1,r2⟩:=rs.two;refine⟨a,[v1,v2],rfl,hq,rfl,v1,[v2],rfl,v2,[],rfl,rfl,?_⟩;exact h _ H' O (((j.grow s).set (z1b hi).1 r1).set (z1b hk).1 r2) (Same.eU s)
  |_=>exact h.elim
def d8(p:aB->R Bool)(g k:aB->So):aB->So:=λρ=>match p (dB ρ) with
 | .ok true=>g ρ
 | .ok false=>k ρ
 | .err c=> .ex c ρ
 | .bad=> .bad
theorem Ow{g:aB->So}{E:Ends}{H1:Hp}(j:At X H0 O0 O H ρ σ)(s:Same H H1)(h:vJ X H0 O0 O H E (g ρ)):tS X g E σ H1:=
 ⟨H0,O0,O,ρ,j.grow s,h.go (Same.eU s)⟩
theorem dD{c:ab6}{a b:List acp}(hc:DT X c p)(ha:jB X a g)(hb:jB X b k):DS X (.If c a b pos) (d8 p g k):=by
 refine PS.imp (ps_if hc ha hb) λσ H E h=>?_;obtain⟨H0,O0,O,ρ,j,h⟩:=h;refine⟨dB ρ,Ov H ρ σ O,j.inn.dB,?_⟩;unfold d8 at h;cases e1:p (dB ρ) with
 |bad=>rw[e1] at h;exact h
 |err c=>rw[e1] at h;exact h σ H O j
 | ok t=>
  rw[e1] at h;intro b' H' s e;subst e;cases t with
  |true=>rw[if_pos rfl];exact Ow j s h
  |false=>rw[if_neg aci];exact Ow j s h
theorem Kd:DS X st (λ_=> .bad):=λpins s σ H E I h=>by
 obtain⟨_,_,_,_,_,h⟩:=h;exact h.elim
def forL(gt:D->aB->R aB)(b:aB->So):List D->aB->So
 |[],ρ=> .nx ρ
 | x ::xs,ρ=>match gt x ρ with
  | .ok ρ1=>match b ρ1 with
   | .nx ρ2=>forL gt b xs ρ2
   | .ct ρ2=>forL gt b xs ρ2
   | .bk ρ2=> .nx ρ2
   |o=>o
  |_=> .bad
def lV(fi:aB->R (List D))(gt:D->aB->R aB)(b:aB->So):aB->So:=λρ=>match fi ρ with
 | .ok xs=>forL gt b xs ρ
 | .err c=> .ex c ρ
 | .bad=> .bad
inductive Zc (X:Cx) (gt:D->aB->R aB) (v:V) (σ:St) (H:Hp) (Q:St->Hp->Prop):Prop
 |mk (H0:Hp) (O0 O:abX->Prop) (ρ:aB) (d:D) (ρ':aB) (j:At X H0 O0 O H ρ σ) (r:Rep X.K O H d v) (e:gt d ρ= .ok ρ') (q:∀σ',At X H0 O0 O H ρ' σ'->Q σ' H):Zc X gt v σ H Q
def Zd(X:Cx)(tg:ab6)(gt:D->aB->R aB):Prop:=PG X tg λv σ H Q=>Zc X gt v σ H Q
theorem jK(i:Nat){x:Str}(hN:X.N.Nodup)(hi:X.N[i]?=some x:=by rfl)(hx:Loc X.env.scope x:=by first |exact acZ rfl |exact acM rfl)(hf:X.fn x=true\/X.env.scope.names.lookup x=some .local:=by first |exact .inl rfl |exact .inr rfl):Zd X (.Name x pos) (aK i):=by
 intro pins s σ H v u Q I r h;obtain⟨H0,O0,O,ρ,d,ρ',j,rd,e,q⟩:=h;cases e;exact pg_name hN hi hx hf pins s σ H v u Q I r (q _ (j.set (z1b hi).1 rd))
theorem Gw(i k:Nat){x y:Str}{py:Pos}{kt}(hc:X.calm=true)(hN:X.N.Nodup)(hi:X.N[i]?=some x:=by rfl)(hk:X.N[k]?=some y:=by rfl)
  (hx:Loc X.env.scope x:=by first |exact acZ rfl |exact acM rfl)(hy:Loc X.env.scope y:=by first |exact acZ rfl |exact acM rfl)
  (hfx:X.fn x=true\/X.env.scope.names.lookup x=some .local:=by first |exact .inl rfl |exact .inr rfl)(Kc:X.fn y=true\/X.env.scope.names.lookup y=some .local:=by first |exact .inl rfl |exact .inr rfl):
  Zd X (.Tuple [.Name x px,.Name y py] kt pos) (cY (cZ 2 (aY (aK i) (aY (aK k) nilG)))):=by
 intro pins s σ H v u Q I r h;obtain⟨H0,O0,O,ρ,d,ρ',j,rd,e,q⟩:=h;cases d with
 | tup ds=>
  match ds,e,rd with
  |[],e,_=>cases e
  |[_],e,_=>cases e
  |_::_::_::_,e,_=>simp[cY,cZ] at e
  | [d1,d2],e,rd=>
   obtain⟨a,xs,rfl,hq,rs⟩:=rd.tup;obtain⟨v1,v2,rfl,r1,r2⟩:=rs.two;cases e;refine pg_tup hc (pgs_cons (pg_name hN hi hx hfx) (pgs_cons (pg_name hN hk hy Kc) pgs_nil)) rfl rfl pins s σ H _ u Q I r ⟨a,[v1,v2],rfl,hq,rfl,v1,[v2],rfl,v2,[],rfl,rfl,?_⟩;exact q _ ((j.set (z1b hi).1 r1).set (z1b hk).1 r2)
 |_=>cases e
theorem jL{tg iter:ab6}{body:List acp}{fi:aB->R (List D)}{gt:D->aB->R aB}{b:aB->So}(hp:PassesOwn (model X.prog X.w) X.A X.env X.xe)(hc:X.calm=true)(hi:DI X tg iter fi)(hg:Zd X tg gt)(hb:jB X body b)
  (hs:∀x,adQ iter X.env x=pure x:=by intro _;rfl):DS X (.For tg iter body [] pos) (lV fi gt b):=by
 refine PS.imp (ps_for hp hc hi hg hb hs) λσ H E h=>?_;obtain⟨H0,O0,O,ρ,j,h⟩:=h;refine⟨ρ,O,j.inn,?_⟩;unfold lV at h;cases e1:fi ρ with
 |bad=>rw[e1] at h;exact h
 |err c=>rw[e1] at h;exact h σ H O j
 | ok xs =>
  rw[e1] at h;have h:vJ X H0 O0 O H E (forL gt b xs ρ):=h;intro J H1 s1 yr;have j1:=j.grow s1;have q1:fL X.K O H O H1:=Same.eU s1;refine⟨λi m σ' H'=>∃O' ρ',At X H0 O0 O' H' ρ' σ'/\fL X.K O H1 O' H'/\i<=xs.length/\m=xs.length - i/\forL gt b (xs.drop i) ρ'=forL gt b xs ρ,⟨_,O,ρ,j1,.refl,adX _,rfl,by simp⟩,?_⟩
  rintro i m σ' H' ⟨O',ρ',j',r',hil,rfl,hf⟩
  have Sv:=yr O' H' r' i;by_cases hlt:i<xs.length
  ·have ed:xs.drop i=xs[i]::xs.drop (i+1):=aeT hlt;obtain⟨Ze,jy⟩:=Sv.1 xs[i] (by simp[hlt]);refine .inr ⟨Ze,λσ2 H2=>∃O2 ρ2,At X H0 O0 O2 H2 ρ2 σ2/\fL X.K O H1 O2 H2/\forL gt b (xs.drop (i+1)) ρ2=forL gt b xs ρ,?_,λx H2 y=>?_⟩
   ·rintro σ2 H2 ⟨O2,ρ2,j2,r2,hf2⟩
    exact⟨xs.length - (i+1),by omega,O2,ρ2,j2,r2,by omega,rfl,hf2⟩
   ·obtain⟨sm,rep⟩:=jy x H2 y;rw[ed] at hf;have hf:(match gt xs[i] ρ' with
     | .ok ρ1=>match b ρ1 with
      | .nx ρ2=>forL gt b (xs.drop (i+1)) ρ2
      | .ct ρ2=>forL gt b (xs.drop (i+1)) ρ2
      | .bk ρ2=> .nx ρ2
      |o=>o
     |_=> .bad)=forL gt b xs ρ:=hf
    cases e2:gt xs[i] ρ' with
    |bad=>rw[e2] at hf;rw[<-hf] at h;exact h.elim
    |err c=>rw[e2] at hf;rw[<-hf] at h;exact h.elim
    | ok ρ1=>
     rw[e2] at hf;refine⟨H0,O0,O',ρ',xs[i],ρ1,j'.grow sm,rep,e2,λσ3 j3=>?_⟩;refine⟨H0,O0,O',ρ1,j3,?_⟩;have r3:fL X.K O H1 O' H2:=r'.trans (Same.eU sm);have hf:(match b ρ1 with
      | .nx ρ2=>forL gt b (xs.drop (i+1)) ρ2
      | .ct ρ2=>forL gt b (xs.drop (i+1)) ρ2
      | .bk ρ2=> .nx ρ2
      |o=>o)=forL gt b xs ρ:=hf
     cases e3:b ρ1 with
     |bad=>rw[e3] at hf;rw[<-hf] at h;exact h
     |rt d=>rw[e3] at hf;rw[<-hf] at h;exact h
     |ex c ρ2=>rw[e3] at hf;rw[<-hf] at h;exact h
     |bk ρ2=>rw[e3] at hf;rw[<-hf] at h;exact λσ4 H4 O4 j4 r4=>h σ4 H4 O4 j4 (q1.trans (r3.trans r4))
     |nx ρ2=>rw[e3] at hf;exact λσ4 H4 O4 j4 r4=>⟨O4,ρ2,j4,r3.trans r4,hf⟩
     |ct ρ2=>rw[e3] at hf;exact λσ4 H4 O4 j4 r4=>⟨O4,ρ2,j4,r3.trans r4,hf⟩
  ·have ei:i=xs.length:=by omega
   subst ei;have hf:forL gt b (xs.drop xs.length) ρ'=forL gt b xs ρ:=hf;rw[List.drop_length] at hf;rw[<-hf] at h;exact .inl ⟨Sv.2 (z0g _),h σ' H' O' j' (q1.trans r')⟩
def iu(p:aB->R Bool)(b:aB->So):Nat->aB->So
 |0,_=> .bad
 | n +1,ρ=>match p (dB ρ) with
  | .ok true=>match b ρ with
   | .nx ρ'=>iu p b n ρ'
   | .ct ρ'=>iu p b n ρ'
   | .bk ρ'=> .nx ρ'
   |o=>o
  | .ok false=> .nx ρ
  | .err c=> .ex c ρ
  | .bad=> .bad
theorem Ke(n:Nat){c:ab6}{body:List acp}{b:aB->So}(hp:PassesOwn (model X.prog X.w) X.A X.env X.xe)(hc:DT X c p)(hb:jB X body b):DS X (.While c body [] pos) (iu p b n):=by
 refine PS.imp (ps_while hp hc hb) λσ H E h=>?_;obtain⟨H0,O0,O,ρ,j,h⟩:=h;have h:vJ X H0 O0 O H E (iu p b n ρ):=h;refine⟨λm σ' H'=>∃O' ρ',At X H0 O0 O' H' ρ' σ'/\fL X.K O H O' H'/\iu p b m ρ'=iu p b n ρ,⟨n,O,ρ,j,.refl,rfl⟩,?_⟩
 rintro m σ' H' ⟨O',ρ',j',r',hf⟩
 refine⟨dB ρ',Ov H' ρ' σ' O',j'.inn.dB,?_⟩;cases m with
 |zero=>rw[<-hf] at h;exact h.elim
 | succ m =>
  have hf:(match p (dB ρ') with
   | .ok true=>match b ρ' with
    | .nx ρ'=>iu p b m ρ'
    | .ct ρ'=>iu p b m ρ'
    | .bk ρ'=> .nx ρ'
    |o=>o
   | .ok false=> .nx ρ'
   | .err c=> .ex c ρ'
   | .bad=> .bad)=iu p b n ρ:=hf
  cases e1:p (dB ρ') with
  |bad=>rw[e1] at hf;rw[<-hf] at h;exact h
  |err c=>rw[e1] at hf;rw[<-hf] at h;exact h σ' H' O' j'
  | ok t =>
   rw[e1] at hf;intro t' H1 s1 e;subst e;have j1:=j'.grow s1;have r1:fL X.K O H O' H1:=r'.trans (Same.eU s1);cases t with
   | false=>
    rw[if_neg aci];rw[<-hf] at h;exact h σ' H1 O' j1 r1
   | true=>
    rw[if_pos rfl];refine⟨λσ2 H2=>∃O2 ρ2,At X H0 O0 O2 H2 ρ2 σ2/\fL X.K O H O2 H2/\iu p b m ρ2=iu p b n ρ,?_,H0,O0,O',ρ',j1,?_⟩
    ·rintro σ2 H2 ⟨O2,ρ2,j2,r2,hf2⟩
     exact⟨m,by omega,O2,ρ2,j2,r2,hf2⟩
    ·have hf:(match b ρ' with
      | .nx ρ'=>iu p b m ρ'
      | .ct ρ'=>iu p b m ρ'
      | .bk ρ'=> .nx ρ'
      |o=>o)=iu p b n ρ:=hf
     cases e3:b ρ' with
     |bad=>rw[e3] at hf;rw[<-hf] at h;exact h
     |rt d=>rw[e3] at hf;rw[<-hf] at h;exact h
     |ex c ρ2=>rw[e3] at hf;rw[<-hf] at h;exact h
     |bk ρ2=>rw[e3] at hf;rw[<-hf] at h;exact λσ4 H4 O4 j4 r4=>h σ4 H4 O4 j4 (r1.trans r4)
     |nx ρ2=>rw[e3] at hf;exact λσ4 H4 O4 j4 r4=>⟨O4,ρ2,j4,r1.trans r4,hf⟩
     |ct ρ2=>rw[e3] at hf;exact λσ4 H4 O4 j4 r4=>⟨O4,ρ2,j4,r1.trans r4,hf⟩
end
section
variable{X:Cx}{a b e:ab6}{es:List ab6}{f g:aB->R D}{fa:aB->R (List D)}{pos:Pos}
def aaS(K:PySem.W.Frag)(t:TA):TE:=λσ H Q=>t σ H λxs H1=>xs.length<=sizeLine/\∀p,H1 p=none->K.lookup p=none->Q (.ref p) (upd H1 p (.lst xs))
theorem Inv.abo{pins:List (abX×Obj)}{s:abZ}(I:Inv X pins σ H s):X.K.lookup s.heap.objs.size=none:=by
 cases q:X.K.lookup s.heap.objs.size with
 |none=>rfl
 |some o=>exact absurd (z2c (I.kIn _ _ q)) (acX _)
theorem Ox{t:TA}(h:PA X es t):PE X (.List es pos) (aaS X.K t):=by
 intro pins s σ H Q I hq;refine wpAny_List_spliced (thn (h pos pins s σ H _ I hq) λus s1 ⟨xs,H1,I1,r,z,q⟩=>⟨by rw[<-r.length];exact z,?_⟩);have hf:H1 s1.heap.objs.size=none:=I1.hok.fresh (z0g _);refine⟨.ref s1.heap.objs.size,upd H1 s1.heap.objs.size (.lst xs),I1.laid (t':=s1.toks) (λb u e=>z1a _ e) (z0g _) ?_,rfl,q _ hf (Inv.abo I1)⟩;exact⟨z,us,0,r,z1f _ rfl⟩
def newL(fa:aB->R (List D))(i:Nat):aB->So:=λρ=>match fa ρ with
 | .ok ds=>if ds.length<=1000000 then .nx (ρ.set i (some (.lst ds))) else .bad
 | .err c=> .ex c ρ
 | .bad=> .bad
theorem At.own(j:At X H0 O0 O H ρ σ)(hi:i<X.N.length){o:HO}{en:Ent}(hp:H p=none)(hk:X.K.lookup p=none)(ho:en.own=true)
  (hr:p7 X.K (λa=>O a\/a=p) (upd H p o) en (.ref p))(hnr:∀rows,en≠.rws rows:=by intro _ z;cases z):
  At X H0 O0 (λa=>O a\/a=p) (upd H p o) (ρ.set i (some en)) (σ.set i (some (.ref p)))/\fL X.K O H (λa=>O a\/a=p) (upd H p o):=by
 have s1:Same H (upd H p o):=Same.upd hp;have r1:fL X.K O H (λa=>O a\/a=p) (upd H p o):=⟨(Same.eU (K:=X.K) (O:=O) s1).ext,λa z=>z.elim .inl λe=> .inr (by rw[e];exact⟨hp,hk⟩),(Same.eU (K:=X.K) (O:=O) s1).dom⟩;have h1:i<ρ.length:=by rw[j.inn.jF];exact hi
 have h2:i<σ.length:=by rw[j.inn.len];exact hi
 have Sx:¬O p:=j.inn.uq hp;have old:∀{e:Ent} {v:V},p7 X.K O H e v->p7 X.K (λa=>O a\/a=p) (upd H p o) e v/\(e.own=true->v≠.ref p):=λ{e v} h=>by
  cases e with
  |val d=>exact⟨Rep.go r1 h,λz=>by cases z⟩
  | lst ds=>
   obtain⟨a,xs,e1,o1,e2,r⟩:=h;exact⟨⟨a,xs,e1,.inl o1,s1 _ _ e2,r.go r1⟩,λ_ z=>by rw[e1] at z;cases z;exact Sx o1⟩
  |obj t=>exact⟨nO.same s1 h,λz=>by cases z⟩
  | xH kvs=>
   obtain⟨a,xs,e1,o1,e2,k,r⟩:=h;exact⟨⟨a,xs,e1,.inl o1,s1 _ _ e2,k,r.go r1⟩,λ_ z=>by rw[e1] at z;cases z;exact Sx o1⟩
  | rws rows=>
   obtain⟨a,rs,e1,R⟩:=h;exact⟨⟨a,rs,e1,s1 _ _ R.at_,.inl R.oa,R.nd,R.len,λi r row q1 q2=>let⟨o1,xs,q3,q4⟩:=R.row i r row q1 q2;⟨.inl o1,xs,s1 _ _ q3,q4.go r1⟩⟩,λ_ z=>by rw[e1] at z;cases z;exact Sx R.oa⟩
 have bk:∀{k:Nat} {rows:List (List D)} {a:abX} {rs:List abX},ρ[k]?=some (some (.rws rows))->σ[k]?=some (some (.ref a))->upd H p o a=some (.lst (rs.map V.ref))->H a=some (.lst (rs.map V.ref))/\∀r∈rs,O r:=λ{k rows a rs} q1 q2 q3=>by
  have q4:=j.inn.env.back s1 q1 q2 q3;refine⟨q4,λr hr=>?_⟩;obtain⟨rs',R⟩:=j.inn.env.rws q1 q2;have e:=R.at_;rw[q4] at e;rw[Bs (HO.lst.inj (acj e))] at hr;obtain⟨n,hn⟩:=aft.mp hr;have hl:=R.len;have hn':=(z1b hn).1;exact (R.row n r _ hn (ac0 (by omega))).1
 refine⟨⟨j.same.trans s1,j.eU.trans r1,λa z=> .inl (j.sub a z),⟨⟨λk e h=>?_,λk l e e' v hkl hk' hl ok ol sk sl=>?_,λk l rows a rs e v hkl hk' sk ha hl ol sl=>?_⟩,λa z=>?_,by rw[adG];exact j.inn.len,by rw[adG];exact j.inn.jF⟩,λk e a h hoo hs=>?_,λk rows a rs h hs ha=>?_⟩,r1⟩
 ·by_cases hki:k=i
  ·subst hki;rw[z2a h1] at h;cases h;exact⟨.ref p,z2a h2,hr⟩
  ·rw[z1e (acd hki)] at h;obtain⟨v,q1,q2⟩:=j.inn.env.get k e h;exact⟨v,by rw[z1e (acd hki)];exact q1,(old q2).1⟩
 ·by_cases hki:k=i
  ·subst hki;rw[z2a h2] at sk;cases sk;rw[z1e hkl] at hl sl;obtain⟨v,q1,q2⟩:=j.inn.env.get l e' hl;rw[q1] at sl;cases sl;exact (old q2).2 ol rfl
  ·rw[z1e (acd hki)] at hk' sk;by_cases hli:l=i
   ·subst hli;rw[z2a h2] at sl;cases sl;obtain⟨v,q1,q2⟩:=j.inn.env.get k e hk';rw[q1] at sk;cases sk;exact (old q2).2 ok rfl
   ·rw[z1e (acd hli)] at hl sl;exact j.inn.env.sep k l e e' v hkl hk' hl ok ol sk sl
 ·by_cases hki:k=i
  ·subst hki;rw[z2a h1] at hk';cases hk';exact absurd rfl (hnr rows)
  ·rw[z1e (acd hki)] at hk' sk;obtain⟨ha',hO'⟩:=bk hk' sk ha;by_cases hli:l=i
   ·subst hli;rw[z2a h2] at sl;rw[z2a h1] at hl;cases sl;cases hl;exact⟨λr hr z=>by cases z;exact Sx (hO' _ hr),hnr⟩
   ·rw[z1e (acd hli)] at hl sl;exact j.inn.env.nP k l rows a rs e v hkl hk' sk ha' hl ol sl
 ·rcases z with z |z
  ·obtain⟨u,q⟩:=j.inn.al a z;exact⟨u,s1 _ _ q⟩
  ·rw[z];exact⟨o,upd_same⟩
 ·by_cases hki:k=i
  ·subst hki;rw[z2a h2] at hs;cases hs;exact⟨j.same.free hp,λz=>Sx (j.sub _ z)⟩
  ·rw[z1e (acd hki)] at h hs;exact j.mine k e a h hoo hs
 ·by_cases hki:k=i
  ·subst hki;rw[z2a h1] at h;cases h;exact absurd rfl (hnr rows)
  ·rw[z1e (acd hki)] at h hs;exact j.tR k rows a rs h hs (bk h hs ha).1
theorem nZ(i:Nat){x:Str}{pos' p2:Pos}(hN:X.N.Nodup)(ha:DA X es fa)(hi:X.N[i]?=some x:=by rfl)(hx:Loc X.env.scope x:=by first |exact acZ rfl |exact acM rfl)(hs:ae0 (.List es p2) (some (.Name x pos')) pos.line X.env=pure false:=by rfl)
  (hf:X.fn x=true\/X.env.scope.names.lookup x=some .local:=by first |exact .inl rfl |exact .inr rfl):DS X (.Assign [.Name x pos'] (.List es p2) pos) (newL fa i):=by
 refine PS.imp (ps_set hN hi hx (Ox ha) hs hf) λσ H E h=>?_;obtain⟨H0,O0,O,ρ,j,h⟩:=h;refine⟨ρ,O,j.inn,?_⟩;unfold newL at h;cases e1:fa ρ with
 |bad=>rw[e1] at h;exact h
 |err c=>rw[e1] at h;exact h σ H O j
 | ok ds=>
  rw[e1] at h;intro vs H1 s1 r1;by_cases hl:ds.length<=1000000
  ·simp only[if_pos hl] at h;refine⟨by rw[<-r1.length];exact z0b hl dJ,λp hp hk=>?_⟩;obtain⟨j2,r2⟩:=(j.grow s1).own (z1b hi).1 (o:= .lst vs) (en:= .lst ds) hp hk rfl ⟨p,vs,rfl,.inr rfl,upd_same,r1.go ⟨(Same.eU (K:=X.K) (O:=O) (Same.upd hp)).ext,λa z=>z.elim .inl λe=> .inr (by rw[e];exact⟨hp,hk⟩),(Same.eU (K:=X.K) (O:=O) (Same.upd hp)).dom⟩⟩;exact h _ _ _ j2 ((Same.eU s1).trans r2)
  ·simp only[if_neg hl] at h;exact h.elim
theorem At.chg(j:At X H0 O0 O H ρ σ){e0 en:Ent}{u o:HO}(hi:ρ[i]?=some (some e0))(h0:e0.own=true)(hp:σ[i]?=some (some (.ref p)))(hO:O p)(hu:H p=some u)(hm:Mut (some u))(ho:en.own=true)
  (hr:fL X.K O H O (upd H p o)->p7 X.K O (upd H p o) en (.ref p))(hnr:∀rows,en≠.rws rows:=by intro _ z;cases z):At X H0 O0 O (upd H p o) (ρ.set i (some en)) σ/\fL X.K O H O (upd H p o):=by
 have nt:∀b xs,Rd H b (.tup xs)->b≠p:=λb xs h z=>by
  subst z;rcases h with h |⟨_,h⟩ <;> rw[hu] at h <;> cases h <;> exact hm
 have r1:fL X.K O H O (upd H p o):=by
  refine⟨⟨λb xs h=>?_,λb xs n h=>?_⟩,λa z=> .inl z,λa z=>?_⟩
  ·have nb:=nt b xs h;rcases h with h |⟨q,h⟩
   ·exact .inl (by rw[upd_ne nb];exact h)
   ·exact .inr ⟨q,by rw[upd_ne nb];exact h⟩
  ·have nb:b≠p:=λz=>n (by rw[z];exact hO);rcases h with h |⟨q,h⟩
   ·exact .inl (by rw[upd_ne nb];exact h)
   ·exact .inr ⟨q,by rw[upd_ne nb];exact h⟩
  ·by_cases ea:a=p
   ·rw[ea,upd_same] at z;cases z
   ·rw[upd_ne ea] at z;exact z
 have h1:i<ρ.length:=(z1b hi).1;obtain⟨Zf,Zg⟩:=j.mine i e0 p hi h0 hp;have bk:∀{k:Nat} {rows:List (List D)} {a:abX} {rs:List abX},k≠i->ρ[k]?=some (some (.rws rows))->σ[k]?=some (some (.ref a))->upd H p o a=some (.lst (rs.map V.ref))->H a=some (.lst (rs.map V.ref)):=λ{k rows a rs} hki q1 q2 q3=>by
  have na:a≠p:=λz=>j.inn.env.sep k i _ e0 _ hki q1 hi rfl h0 q2 (by rw[z];exact hp);rw[upd_ne na] at q3;exact q3
 refine⟨⟨λb q z=>?_,j.eU.trans r1,j.sub,⟨⟨λk e h=>?_,λk l e e' v hkl hk' hl ok ol sk sl=>?_,λk l rows a rs e v hkl hk' sk ha hl ol sl=>?_⟩,λa z=>?_,j.inn.len,by rw[adG];exact j.inn.jF⟩,λk e a h hoo hs=>?_,λk rows a rs h hs ha=>?_⟩,r1⟩
 ·rw[upd_ne (ne_of_none z Zf)];exact j.same _ _ z
 ·by_cases hki:k=i
  ·subst hki;rw[z2a h1] at h;cases h;exact⟨_,hp,hr r1⟩
  ·rw[z1e (acd hki)] at h;obtain⟨v,q1,q2⟩:=j.inn.env.get k e h;refine⟨v,q1,?_⟩;have nv:e.own=true->v≠.ref p:=λz w=>by
    subst w;exact j.inn.env.sep k i e e0 _ hki h hi z h0 q1 hp
   cases e with
   |val d=>exact Rep.go r1 q2
   | obj t=>exact nO.fz (λb o' u hb=>by
     have nb:b≠p:=λz=>by rw[z,hu] at hb;cases hb;exact hm
     rw[upd_ne nb];exact hb) q2
   | lst ds=>
    obtain⟨a,xs,e1,o1,e2,r⟩:=q2;have na:a≠p:=λz=>nv rfl (by rw[e1,z]);exact⟨a,xs,e1,o1,by rw[upd_ne na];exact e2,r.go r1⟩
   | xH kvs=>
    obtain⟨a,xs,e1,o1,e2,kk,r⟩:=q2;have na:a≠p:=λz=>nv rfl (by rw[e1,z]);exact⟨a,xs,e1,o1,by rw[upd_ne na];exact e2,kk,r.go r1⟩
   | rws rows=>
    obtain⟨a,rs,e1,R⟩:=q2;have na:a≠p:=λz=>nv rfl (by rw[e1,z]);have Sy:σ[k]?=some (some (.ref a)):=by rw[<-e1];exact q1
    refine⟨a,rs,e1,by rw[upd_ne na];exact R.at_,R.oa,R.nd,R.len,λn r row z1 z2=>?_⟩;obtain⟨o1,xs,z3,z4⟩:=R.row n r row z1 z2;have nr:r≠p:=λz=>(j.inn.env.nP k i rows a rs e0 (.ref p) hki h Sy R.at_ hi h0 hp).1 r (acy z1) (by rw[z]);exact⟨o1,xs,by rw[upd_ne nr];exact z3,z4.go r1⟩
 ·have un:∀{m:Nat} {x:Ent},(ρ.set i (some en))[m]?=some (some x)->x.own=true->∃y,ρ[m]?=some (some y)/\y.own=true:=λ{m x} h ho'=>by
   by_cases hmi:m=i
   ·rw[hmi];exact⟨e0,hi,h0⟩
   ·rw[z1e (acd hmi)] at h;exact⟨x,h,ho'⟩
  obtain⟨y,hy,oy⟩:=un hk' ok;obtain⟨y',hy',oy'⟩:=un hl ol;exact j.inn.env.sep k l y y' v hkl hy hy' oy oy' sk sl
 ·by_cases hki:k=i
  ·subst hki;rw[z2a h1] at hk';cases hk';exact absurd rfl (hnr rows)
  ·rw[z1e (acd hki)] at hk';have ha':=bk hki hk' sk ha;by_cases hli:l=i
   ·subst hli;rw[hp] at sl;rw[z2a h1] at hl;cases sl;cases hl;exact⟨(j.inn.env.nP k l rows a rs e0 _ hkl hk' sk ha' hi h0 hp).1,hnr⟩
   ·rw[z1e (acd hli)] at hl;exact j.inn.env.nP k l rows a rs e v hkl hk' sk ha' hl ol sl
 ·by_cases ea:a=p
  ·rw[ea];exact⟨o,upd_same⟩
  ·obtain⟨w,q⟩:=j.inn.al a z;exact⟨w,by rw[upd_ne ea];exact q⟩
 ·by_cases hki:k=i
  ·subst hki;rw[hp] at hs;cases hs;exact⟨Zf,Zg⟩
  ·rw[z1e (acd hki)] at h;exact j.mine k e a h hoo hs
 ·by_cases hki:k=i
  ·subst hki;rw[z2a h1] at h;cases h;exact absurd rfl (hnr rows)
  ·rw[z1e (acd hki)] at h;exact j.tR k rows a rs h hs (bk hki h hs ha)
def oh(i:Nat)(f:aB->R D):aB->So:=λρ=>jC (J9 (f ρ)) ρ λd=>match ρ[i]? with
 |some (some (.lst ds))=>if ds.length<1000000 then .nx (ρ.set i (some (.lst (ds++[d])))) else .bad
 |_=> .bad
theorem vK(i:Nat){x:Str}{apos cpos:Pos}(he:DE X e f)(hN:X.N[i]?=some x:=by rfl)(hv:Vis X.env.scope x:=by first |exact acZ rfl |exact acM (acZ rfl) |exact acM (acM rfl))
  (hd:(x ==("__debug__" :Str))=false:=by decide)(hcd:(x ==("__classdict__" :Str))=false:=by decide)
  (hbase:af5 (.Name x px) "append" X.env (eval (.Name x px) X.env)=eval (.Name x px) X.env:=by rfl)
  (hfew:((acO cpos (ab2 [e] X.env)).all (λx=> !x.1) && (ae1 cpos (aea [] X.env)).all (λx=>x.1.isSome)
   && decide ([e].length+([]:List ad0).length+(if ([]:List ad0).isEmpty then 0 else 1)<30))=true:=by rfl)
  (hline:(apos.endLine ==cpos.line)=true:=by rfl) (hs1:ab2 [e] X.env=(false,eval e X.env)::ab2 [] X.env:=by rfl) (hplain:(acO cpos (ab2 [] X.env)).any (·.1)=false:=by rfl)
  (hs:ae0 (.Call (.Attribute (.Name x px) "append" apos) [e] [] cpos) none pos.line X.env=pure false:=by rfl):
  DS X (.Expr (.Call (.Attribute (.Name x px) "append" apos) [e] [] cpos) pos) (oh i f):=by
 refine PS.imp (ps_expr (pe_bm PySem.F.plainAttrs_list PySem.F.slot_list_append PySem.F.type_list_append mt_append (pe_var hN hv hd hcd) (pa_cons he pa_nil hs1) hbase hfew hline hs1 hplain) hs) λσ H E h=>?_;obtain⟨H0,O0,O,ρ,j,h⟩:=h;unfold oh jC at h;cases e1:f ρ with
 |bad=>rw[e1] at h;exact h.elim
 |err c=>rw[e1] at h;exact h.elim
 | ok d =>
  rw[e1] at h;cases e2:ρ[i]? with
  |none=>simp only[e2] at h;exact h.elim
  | some oe=>
   cases oe with
   |none=>simp only[e2] at h;exact h.elim
   | some en=>
    cases en with
    |val _=>simp only[e2] at h;exact h.elim
    |xH _=>simp only[e2] at h;exact h.elim
    |rws _=>simp only[e2] at h;exact h.elim
    |obj _=>simp only[e2] at h;exact h.elim
    | lst ds=>
     simp only[e2] at h;by_cases hl:ds.length<1000000
     ·simp only[if_pos hl] at h;obtain⟨v,hv1,a,xs,rfl,hO,hH,rs⟩:=j.inn.env.get i _ e2;refine⟨.ref a,hv1,.inl ⟨rfl,xs,SqL.of hH⟩,?_⟩;refine⟨ρ,O,j.inn,?_⟩;rw[e1];intro w H1 s1 Zh;have j1:=j.grow s1;obtain⟨_,hv2,a2,xs2,e3,Zi,hH2,DP⟩:=j1.inn.env.get i _ e2;rw[hv1] at hv2;cases hv2;cases e3;have hlen:=DP.length;refine⟨a,xs2,w,rfl,rfl,hH2,by have:=fJ;omega,?_⟩;obtain⟨j2,r2⟩:=j1.chg (o:= .lst (xs2++[w])) (en:= .lst (ds++[d])) e2 rfl hv1 Zi hH2 trivial rfl λr=>⟨a,xs2++[w],rfl,Zi,upd_same,(DP.append (.cons Zh .nil)).go r⟩;exact h _ _ _ j2 ((Same.eU s1).trans r2)
     ·simp only[if_neg hl] at h;exact h.elim
end
inductive SpD (K:PySem.W.Frag) (n:Nat) (F:List D->R D) (vs:List V) (H:Hp) (Q:VK):Prop
 | mk (O:abX->Prop) (ds:List D) (r:aO K O H ds vs) (hl:ds.length=n) (al:∀a,O a->∃o,H a=some o) (h:match F ds with
  | .ok d=>∀v H',Same H H'->Rep K O H' d v->Q v H'
  |_=>False):SpD K n F vs H Q
def Kf(K:PySem.W.Frag)(n:Nat)(F:List D->R D):Sp:=λvs H Q _=>SpD K n F vs H Q
def bV(n:Nat)(g:aB->So)(ds:List D):R D:=match g (ds.map (λd=>some (.val d))++ab3 n none) with
 | .rt d=> .ok d
 | .nx _=> .ok .non
 | .ex c _=> .err c
 |_=> .bad
section
variable{P:ab9}{w:acf}{K:PySem.W.Frag}{mg:Str->Option abY}{base:ace}
theorem jo{K:PySem.W.Frag}{vs:List V}(r:aO K O H ds vs)(m:Nat)(i:Nat)(e:Ent)(h:(ds.map (λd=>some (Ent.val d))++ab3 m none)[i]?=some (some e)):∃v,(vs.map some++ab3 m none)[i]?=some (some v)/\p7 K O H e v/\e.own=false:=by
 by_cases hi:i<ds.length
 ·rw[acH (by simpa using hi),z2b] at h;cases q:ds[i]? with
  |none=>rw[q] at h;cases h
  | some d=>
   rw[q] at h;cases h;obtain⟨v,e1,rv⟩:=r.get q;exact⟨v,by rw[acH (by rw[z1g,<-r.length];exact hi),z2b,e1];rfl,rv,rfl⟩
 ·rw[acD (by simpa using hi),adt] at h;split at h <;> cases h
theorem fnD{x qual:Str}{st:acp}{f:abX}{fd:acK}{ps:List Str}{k m:Nat}{g:aB->So}{F:List D->R D}(Fn:Fun K x qual st f fd)(S:FnScope N ps (defScope st))(hn:ps.length=n)(hm:N.length=n+m)
  (hb:∀(cdv:abY) (A:acg) (outer:List PySem.Env) (s:abZ) (H:Hp) (E:XK),Room k (A.deeper (adF qual (defScope st) s.heap.objs.size f cdv))->jB (cxOf CX0 P w K mg base N qual (defScope st) f cdv A outer s H E).nox (defBody st) g)
  (hF:∀ds d,ds.length=n->F ds= .ok d->bV m g ds= .ok d):FnOk P w K mg base CX0 (k+1) f fd ps (Kf K n F):=by
 refine Fn.ok S (λvs H Q E h=>?_) (λcdv A outer s H vs Q E hr h=>?_)
 ·obtain⟨O,ds,r,hl,_⟩:=h;rw[hn,<-hl,r.length]
 ·obtain⟨O,ds,r,hl,al,h⟩:=h;refine⟨_,hb cdv A outer s H E hr,H,O,O,ds.map (λd=>some (.val d))++ab3 m none,?_,?_⟩
  ·have hst:L2.start N vs=vs.map some++ab3 m none:=by
    unfold L2.start;rw[show N.length - vs.length=m by rw[<-r.length];omega]
   refine⟨Same.refl _,.refl,λ_ z=>z,⟨⟨λi e q=>?_,λi k e e' v _ hi _ oi=>?_,λi k rows a rs e v _ hi=>by obtain⟨_,_,_,h3⟩:=jo r m i _ hi;cases h3⟩,al,?_,?_⟩,λi e a q ho=>?_,λi rows a rs q=>by obtain⟨_,_,_,h3⟩:=jo r m i _ q;cases h3⟩
   ·obtain⟨v,h1,h2,_⟩:=jo r m i e q;exact⟨v,by rw[hst];exact h1,h2⟩
   ·obtain⟨_,_,_,h3⟩:=jo r m i e hi;rw[h3] at oi;cases oi
   ·show (L2.start N vs).length=N.length;rw[hst,z1d,z1g,acN,<-r.length];omega
   ·show (ds.map (λd=>some (Ent.val d))++ab3 m none).length=N.length;rw[z1d,z1g,acN];omega
   ·obtain⟨_,_,_,h3⟩:=jo r m i e q;rw[h3] at ho;cases ho
  ·cases e:F ds with
   |bad=>rw[e] at h;exact h.elim
   |err c=>rw[e] at h;exact h.elim
   | ok d=>
    rw[e] at h;have q:=hF ds d hl e;unfold bV at q;cases e2:g (ds.map (λd=>some (.val d))++ab3 m none) with
    | rt d'=>
     rw[e2] at q;cases q;exact λv H' s' r'=>h v H' s' r'
    | nx ρ'=>
     rw[e2] at q;cases q;exact λσ' H' O' j' _=>h .non H' j'.same nM
    |bk _=>rw[e2] at q;cases q
    |ct _=>rw[e2] at q;cases q
    |ex _ _=>rw[e2] at q;cases q
    |bad=>rw[e2] at q;cases q
end
section
variable{X:Cx}{k n:Nat}{f:abX}{fd:acK}{ps:List Str}{F:List D->R D}{x:Str}{p pos:Pos}{e:ab6}{es:List ab6}{fa:aB->R (List D)}
def aV(F:List D->R D)(n:Nat)(ds:List D):R D:=if ds.length=n then J9 (F ds) else .bad
theorem Xx(G:FnOk X.prog X.w X.K X.mg X.base CX0 k f fd ps (Kf X.K n F))(hr:Room k X.A)(hg:Gl X x)(hm:X.mg x=some (.ref f))(hk:PySem.W.keepIn X.K (.ref f)=true)(hb:Binds X.K fd ps [])
  (ha:DA X (e::es) fa)(hdb:(x ==("__debug__" :Str))=false:=by decide)(he:ab2 (e::es) X.env=(false,eval e X.env)::ab2 es X.env:=by rfl)(hpl:(acO pos (ab2 es X.env)).any (·.1)=false:=by rfl):
  DE X (.Call (.Name x p) (e::es) [] pos) (aD (aV F n) fa):=by
 refine PE.imp (pe_call (dvs:=[]) G hr hg hm hk hb .nil pass0 ha hdb he hpl) λσ H Q h=>?_;obtain⟨ρ,O,j,h⟩:=h;refine go j h λds vs H1 e1 s1 r1 j1 h1=>?_;unfold aV at h1;by_cases hl:ds.length=n
 ·rw[if_pos hl] at h1;rw[acE];refine⟨O,ds,r1,hl,j1.al,?_⟩;cases q:F ds with
  |ok d=>rw[q] at h1;exact h1
  |err c=>rw[q] at h1;exact h1
  |bad=>rw[q] at h1;exact h1
 ·rw[if_neg hl] at h1;exact h1.elim
end
section
variable{X:Cx}
def cF:List D->R D
 |[.tup ds]=> .ok (.int ds.length)
 |[.lst ds]=> .ok (.int ds.length)
 |_=> .bad
theorem cL:CallD X (.builtin "len") cF:=by
 refine⟨_,call_len_seq,λρ O σ H Q xs ds j r h=>?_⟩;unfold cF at h;split at h
 ·obtain⟨x,rfl,rx⟩:=r.one;obtain⟨a,ys,rfl,hq,rs⟩:=rx.tup;exact⟨a,ys,rfl,.inr hq,by rw[<-rs.length];exact fin h (cg _)⟩
 ·obtain⟨x,rfl,rx⟩:=r.one;obtain⟨a,ys,rfl,hq,_,rs⟩:=rx.lst;exact⟨a,ys,rfl,.inl hq,by rw[<-rs.length];exact fin h (cg _)⟩
 ·exact h.elim
def jM:List D->R D
 |[.tup ds]=> .ok (.tup ds)
 |[.lst ds]=> .ok (.tup ds)
 |_=> .bad
theorem fB:CallD X (.type "tuple") jM:=by
 refine⟨_,call_tuple_of,λρ O σ H Q xs ds j r h=>?_⟩;unfold jM at h;split at h
 ·obtain⟨x,rfl,rx⟩:=r.one;obtain⟨a,ys,rfl,hq,rs⟩:=rx.tup;exact⟨a,ys,rfl,.inr ⟨hq,fin h (gZ hq rs)⟩⟩
 ·obtain⟨x,rfl,rx⟩:=r.one;obtain⟨a,ys,rfl,hq,_,rs⟩:=rx.lst;exact⟨a,ys,rfl,.inl ⟨hq,λl hl=>h _ _ (Same.upd hl) (Rep.nQ hl rs)⟩⟩
 ·exact h.elim
def boolsOf:List D->Option (List Bool)
 |[]=>some []
 | .bl b::r=>(boolsOf r).map (b:: ·)
 |_=>none
def intsOf:List D->Option (List Int)
 |[]=>some []
 | .int i::r=>(intsOf r).map (i:: ·)
 |_=>none
theorem Oz{K:PySem.W.Frag}{O:abX->Prop}{H:Hp}:∀{ds:List D} {bs:List Bool} {vs:List V},boolsOf ds=some bs->aO K O H ds vs->vs=bs.map V.bl
 |[],bs,vs,e,r=>by cases e;exact r.nil_inv
 | d ::ds,bs,vs,e,r=>by
  cases d with
  | bl b=>
   have e:(boolsOf ds).map (b:: ·)=some bs:=e;cases q:boolsOf ds with
   |none=>rw[q] at e;cases e
   | some l=>
    rw[q] at e;cases e;obtain⟨x,t,rfl,rx,rt⟩:=r.cons_inv;rw[rx.bl,Oz q rt];rfl
  |_=>cases e
theorem Kg{K:PySem.W.Frag}{O:abX->Prop}{H:Hp}:∀{ds:List D} {bs:List Int} {vs:List V},intsOf ds=some bs->aO K O H ds vs->vs=bs.map V.int
 |[],bs,vs,e,r=>by cases e;exact r.nil_inv
 | d ::ds,bs,vs,e,r=>by
  cases d with
  | int b=>
   have e:(intsOf ds).map (b:: ·)=some bs:=e;cases q:intsOf ds with
   |none=>rw[q] at e;cases e
   | some l=>
    rw[q] at e;cases e;obtain⟨x,t,rfl,rx,rt⟩:=r.cons_inv;rw[rx.int,Kg q rt];rfl
  |_=>cases e
theorem Kh:∀{bs:List Bool} {us:List abY},Vals (bs.map V.bl) us->LSm.BoolsAre us bs
 |[],_,.nil=> .nil
 |b::bs,_,.cons r t=>by cases r;exact .cons b (Kh t)
theorem SJ(hc:X.calm=true):CallR X (.builtin "all") (λxs H Q=>∃p,∃bs:List Bool,xs=[.ref p]/\SqL X.K H p (bs.map V.bl)/\Q (.bl (bs.all id)) H):=by
 intro pins s σ H xs us Q I r h;obtain⟨p,bs,rfl,hq,q⟩:=h;obtain⟨u,rfl,rx⟩:=vals1 r;cases rx;obtain⟨its,r',pl,hz⟩:=I.list hq;have hb:=Kh r';have hl:=pl.isList;have hlt:p<s.heap.objs.size:=by obtain⟨_,e,_⟩:=hl;exact z2c e
 refine call_all_walk (afe hl ?_);refine⟨s.heap.objs.size,[s.heap.objs.size,p],[s.heap.objs.size],its.toArray.size,_,_,λi=>(bs[i]?).getD true,rfl,Walks.list (A:=X.A.in1) (I.ok.hd hc) _ p (acw hlt) its.toArray,
  ⟨⟨_,z1f _ rfl,rfl,rfl⟩,hl.push _⟩,λi v s' Q' E' hP hQ=>?_,λh' tk hk=>?_⟩
 ·obtain⟨b,e,rfl⟩:=hb.get i v (by simpa using hP);simp only[e,agt] at hQ;exact ac4 hQ
 ·have e:((ab0 its.toArray.size).all λi=>(bs[i]?).getD true)=bs.all id:=by
   rw[z1c,hb.length];exact LSm.range_all bs
  rw[e];exact⟨.bl _,H,I.kept (LSm.kept_iter hk),rfl,q⟩
def wD:List D->R D
 | [.lst ds]=>match boolsOf ds with
  |some bs=> .ok (.bl (bs.all id))
  |none=> .bad
 |_=> .bad
theorem DQ(hc:X.calm=true):CallD X (.builtin "all") wD:=by
 refine⟨_,SJ hc,λρ O σ H Q xs ds j r h=>?_⟩;unfold wD at h;split at h
 ·rename_i ds;obtain⟨x,rfl,rx⟩:=r.one;obtain⟨a,ys,rfl,hq,_,rs⟩:=rx.lst;cases e:boolsOf ds with
  |none=>rw[e] at h;exact h.elim
  | some bs=>
   rw[e] at h;have ey:=Oz e rs;subst ey;exact⟨a,bs,rfl,hq,fin h (eV _)⟩
 ·exact h.elim
theorem SM(hc:X.calm=true):CallR X (.builtin "sum") (λxs H Q=>∃p,∃ns:List Int,xs=[.ref p]/\(SqL X.K H p (ns.map V.int)\/SqT X.K H p (ns.map V.int))/\Q (.int ns.sum) H):=by
 intro pins s σ H xs us Q I r h;obtain⟨p,ns,rfl,hq,q⟩:=h;obtain⟨u,rfl,rx⟩:=vals1 r;cases rx;have key:∀(its:List abY),Vals (ns.map V.int) its->∃zs:Array (Int×Tok),its.toArray=intItems zs/\preSum (numAt zs) zs.size=ns.sum:=λits r'=>by
  have hi:=intsAre_of r';obtain⟨zs,hx⟩:=hi.allInts.items;refine⟨zs,hx,?_⟩;have e1:ns=zs.toList.map (·.1):=by
   rw[<-nums_intItems,<-hx];exact (show numsOf its.toArray.toList=ns from hi.numsOf).symm
  rw[preSum_eq,List.take_of_length_le (by simp),e1]
 rcases hq with hq |hq
 ·obtain⟨its,r',pl,hz⟩:=I.list hq;obtain⟨zs,e1,e2⟩:=key its r';refine sum_intListG (I.ok.hd hc) (e1▸pl.isList) λh' tk t' hk=>?_;rw[e2];exact⟨.int _,H,I.kept hk,⟨t',rfl⟩,q⟩
 ·obtain⟨its,r',pl,hz⟩:=I.tuple hq;obtain⟨zs,e1,e2⟩:=key its r';refine PySem.W.ktm_sumG (I.ok.hd hc) (show s.heap.IsTuple p (intItems zs) from e1▸pl) λh' tk t' hk=>?_;rw[e2];exact⟨.int _,H,I.kept hk,⟨t',rfl⟩,q⟩
def Kl:List D->R D
 | [.lst ds]=>match intsOf ds with
  |some bs=> .ok (.int bs.sum)
  |none=> .bad
 | [.tup ds]=>match intsOf ds with
  |some bs=> .ok (.int bs.sum)
  |none=> .bad
 |_=> .bad
theorem Zj(hc:X.calm=true):CallD X (.builtin "sum") Kl:=by
 refine⟨_,SM hc,λρ O σ H Q xs ds j r h=>?_⟩;unfold Kl at h;split at h
 ·rename_i ds;obtain⟨x,rfl,rx⟩:=r.one;obtain⟨a,ys,rfl,hq,_,rs⟩:=rx.lst;cases e:intsOf ds with
  |none=>rw[e] at h;exact h.elim
  | some bs=>
   rw[e] at h;have ey:=Kg e rs;subst ey;exact⟨a,bs,rfl,.inl hq,fin h (cg _)⟩
 ·rename_i ds;obtain⟨x,rfl,rx⟩:=r.one;obtain⟨a,ys,rfl,hq,rs⟩:=rx.tup;cases e:intsOf ds with
  |none=>rw[e] at h;exact h.elim
  | some bs=>
   rw[e] at h;have ey:=Kg e rs;subst ey;exact⟨a,bs,rfl,.inr hq,fin h (cg _)⟩
 ·exact h.elim
def iK:D->String
 | .non=> "NoneType"
 | .bl _=> "bool"
 | .int _=> "int"
 | .str _=> "str"
 | .tup _=> "tuple"
 | .lst _=> "list"
theorem SN(T:String)(ans:String->Bool)(hk:∀d:D,PySem.W.kitOne X.K (.type (iK d)) (.type T)=some (ans (iK d))):
  CallR X (.builtin "isinstance") (λxs H Q=>∃x O d,xs=[x,.ty T]/\Rep X.K O H d x/\Q (.bl (ans (iK d))) H):=by
 intro pins s σ H xs us Q I r h;obtain⟨x,O,d,rfl,rd,q⟩:=h;obtain⟨u,u2,rfl,rx,r2⟩:=vals2 r;cases r2;have e:=hk d;have fin':∀tk,EP X pins σ Q (.bool (ans (iK d))) {s with toks:=tk}:=λtk=>⟨.bl _,H,I.tok _,rfl,q⟩;cases d with
 | non=>
  cases rd.non;cases (show u=aco from rx);exact PySem.W.kia_one PySem.W.kitx_none I.kIn agJ e (λz=>nomatch z) fin'
 | bl b=>
  cases rd.bl;cases (show u=agc b from rx);exact PySem.W.kia_one PySem.W.kitx_bool I.kIn agJ e (λz=>nomatch z) fin'
 | int i=>
  cases rd.int;obtain⟨t,z⟩:=(show ∃t,u=afS i t from rx);cases z;exact PySem.W.kia_one PySem.W.kitx_int I.kIn agJ e (λz=>nomatch z) fin'
 | str y=>
  cases rd.str;obtain⟨t,z⟩:=(show ∃t,u=Value.str y t from rx);cases z;exact PySem.W.kia_one PySem.W.kitx_str I.kIn agJ e (λz=>nomatch z) fin'
 | tup ds=>
  obtain⟨a,ys,rfl,hq,_⟩:=rd.tup;cases (show u=ab8 a from rx);obtain⟨its,_,pl,_⟩:=I.tuple hq;obtain⟨o,h1,h2,_⟩:=pl;exact PySem.W.kia_one PySem.W.kitx_tuple I.kIn ⟨o,h1,h2⟩ e (λz=>nomatch z) fin'
 | lst ds=>
  obtain⟨a,ys,rfl,hq,_,_⟩:=rd.lst;cases (show u=ab8 a from rx);obtain⟨its,_,pl,_⟩:=I.list hq;obtain⟨o,n,h1,h2,_⟩:=pl;exact PySem.W.kia_one PySem.W.kitx_list I.kIn ⟨o,h1,h2⟩ e (λz=>nomatch z) fin'
def Ao(ans:String->Bool)(f:aB->R D):aB->R D:=λρ=>(f ρ).bind λd=> .ok (.bl (ans (iK d)))
theorem Aq{T:String}{ans:String->Bool}{x y:Str}{e:ab6}{f:aB->R D}{p p2 pos:Pos}(hk:∀d:D,PySem.W.kitOne X.K (.type (iK d)) (.type T)=some (ans (iK d)))(he:DE X e f)
  (hg:Gl X x)(hm:X.mg x=none)(hv:adB x=some (.builtin "isinstance"))(hgy:Gl X y)(hmy:X.mg y=none)(hvy:adB y=some (.type T))(hn:x≠"__name__" :=by decide)(hdb:(x ==("__debug__" :Str))=false:=by decide)
  (hny:y≠"__name__" :=by decide)(Zk:(y ==("__debug__" :Str))=false:=by decide)
  (hs:ab2 [e,.Name y p2] X.env=(false,eval e X.env)::ab2 [.Name y p2] X.env:=by rfl)(hs2:ab2 [.Name y p2] X.env=(false,eval (.Name y p2) X.env)::ab2 [] X.env:=by rfl)(hpl:(acO pos (ab2 [.Name y p2] X.env)).any (·.1)=false:=by rfl):
  DE X (.Call (.Name x p) [e,.Name y p2] [] pos) (Ao ans f):=by
 refine PE.imp (pe_callB (SN T ans hk) hg hm hv (pa_cons he (pa_cons (pe_bltn (v:= .ty T) hgy hmy hvy rfl hny Zk) pa_nil hs2) hs) hn hdb hs hpl) λσ H Q h=>?_;obtain⟨ρ,O,j,h⟩:=h;refine go j h λd v H1 e1 s1 r1 j1 h1=>?_;exact⟨v,O,d,rfl,r1,fin h1 (eV _)⟩
end
mutual
def fQ:D->D->Bool
 | .non,.non=>true
 | .bl a,.bl b=>a ==b
 | .bl a,.int b=>(if a then 1 else 0) ==b
 | .int a,.bl b=>a ==(if b then 1 else 0)
 | .int a,.int b=>a ==b
 | .str a,.str b=>a ==b
 | .tup a,.tup b=>p8 a b
 | .lst a,.lst b=>p8 a b
 |_,_=>false
def p8:List D->List D->Bool
 |[],[]=>true
 |x::xs,y::ys=>fQ x y && p8 xs ys
 |_,_=>false
end
mutual
def dep:D->Nat
 | .tup a=>deps a+1
 | .lst a=>deps a+1
 |_=>0
def deps:List D->Nat
 |[]=>0
 |x::xs=>max (dep x) (deps xs)
end
theorem ou:∀{ds:List D} {d:D},d∈ds->dep d<=deps ds
 |[],_,h=>by simp at h
 | x::xs,d,h=>by
  rw[deps];rcases ach.mp h with e |h
  ·subst e;exact Nat.le_max_left _ _
  ·exact z0b (ou h) (Nat.le_max_right _ _)
theorem lB(a b:Bool):fQ (.bl a) (.bl b)=(a ==b):=rfl
theorem lC(a:Bool)(b:Int):fQ (.bl a) (.int b)=((if a then 1 else 0) ==b):=rfl
theorem lD(a:Int)(b:Bool):fQ (.int a) (.bl b)=(a ==(if b then 1 else 0)):=rfl
theorem lE(a b:Int):fQ (.int a) (.int b)=(a ==b):=rfl
theorem lF(a b:Str):fQ (.str a) (.str b)=(a ==b):=rfl
theorem gJ(a b:List D):fQ (.tup a) (.tup b)=p8 a b:=rfl
theorem d9(a b:List D):fQ (.lst a) (.lst b)=p8 a b:=rfl
mutual
theorem Cq:∀d:D,fQ d d=true
 | .non=>rfl
 | .bl a=>by simp[lB,lC,lD,lE,lF,gJ,d9]
 | .int a=>by simp[lB,lC,lD,lE,lF,gJ,d9]
 | .str a=>by simp[lB,lC,lD,lE,lF,gJ,d9]
 | .tup a=>by rw[gJ];exact pK a
 | .lst a=>by rw[d9];exact pK a
theorem pK:∀d:List D,p8 d d=true
 |[]=>rfl
 |x::xs=>by rw[p8,Cq x,pK xs];rfl
end
theorem rJ:∀{xs ys:List D},xs.length≠ys.length->p8 xs ys=false
 |[],[],h=>absurd rfl h
 |[],_::_,_=>rfl
 |_::_,[],_=>rfl
 | x::xs,y::ys,h=>by
  rw[p8,rJ (xs:=xs) (ys:=ys) (λe=>h (by simp[e])),agG]
theorem rK:∀{xs ys:List D},xs.length=ys.length->p8 xs ys=(ab0 xs.length).all λi=>fQ (xs.getD i .non) (ys.getD i .non)
 |[],[],_=>rfl
 |[],_::_,h=>by simp at h
 |_::_,[],h=>by simp at h
 | x::xs,y::ys,h=>by
  rw[p8,rK (xs:=xs) (ys:=ys) (by simpa using h),acn,adH,ad4,List.all_map];rfl
end Pu
namespace Pu
open PySem PySem.Spec L2
open PyProof.Rows hiding St
open PySem.SeqAt
variable{A:acg}{d:D}{u u':abY}
inductive LkT (X:Cx) (O:abX->Prop) (H:Hp) (s:abZ) (ds:List D) (u:abY):Prop
 |mk (a:abX) (xs:List V) (its:List abY) (e:u=ab8 a) (q:SqT X.K H a xs) (v:Vals xs its) (p:s.heap.IsTuple a its.toArray) (r:aO X.K O H ds xs):LkT X O H s ds u
inductive LkL (X:Cx) (O:abX->Prop) (H:Hp) (s:abZ) (ds:List D) (u:abY):Prop
 |mk (a:abX) (xs:List V) (its:List abY) (e:u=ab8 a) (q:SqL X.K H a xs) (v:Vals xs its) (p:s.heap.IsList a its.toArray) (r:aO X.K O H ds xs):LkL X O H s ds u
def Lk(X:Cx)(O:abX->Prop)(H:Hp)(s:abZ):D->abY->Prop
 | .non,u=>u=aco
 | .bl b,u=>u=agc b
 | .int i,u=>∃t,u=afS i t
 | .str x,u=>∃t,u=Value.str x t
 | .tup ds,u=>LkT X O H s ds u
 | .lst ds,u=>LkL X O H s ds u
section
variable{X:Cx}{pins:List (abX×Obj)}{σ:St}{H:Hp}{s:abZ}{O O':abX->Prop}
theorem tU(I:Inv X pins σ H s){v:V}(r:Rep X.K O H d v)(q:RelV v u):Lk X O H s d u:=by
 cases d with
 |non=>cases r.non;exact q
 |bl b=>cases r.bl;exact q
 |int i=>cases r.int;exact q
 |str x=>cases r.str;exact q
 | tup ds=>
  obtain⟨a,xs,rfl,hq,rs⟩:=r.tup;cases (show u=ab8 a from q);obtain⟨its,rv,p,_⟩:=I.tuple hq;exact⟨a,xs,its,rfl,hq,rv,p,rs⟩
 | lst ds=>
  obtain⟨a,xs,rfl,hq,_,rs⟩:=r.lst;cases (show u=ab8 a from q);obtain⟨its,rv,p,_⟩:=I.list hq;exact⟨a,xs,its,rfl,hq,rv,p.isList,rs⟩
theorem isTuple_list{a:abX}{p q:Array abY}(h1:s.heap.IsTuple a p)(h2:s.heap.IsList a q):False:=ne_of_list_tuple h2 h1 rfl
mutual
theorem Rep.inj(I:Inv X pins σ H s):∀(d e:D) (v:V),Rep X.K O H d v->Rep X.K O' H e v->d=e
 | .non,e,v,r,q=>by
  cases r.non;cases e with
  |non=>rfl
  |bl _=>cases q.bl
  |int _=>cases q.int
  |str _=>cases q.str
  |tup _=>obtain⟨_,_,z,_⟩:=q.tup;cases z
  |lst _=>obtain⟨_,_,z,_⟩:=q.lst;cases z
 | .bl b,e,v,r,q=>by
  cases r.bl;cases e with
  |non=>cases q.non
  |bl _=>cases q.bl;rfl
  |int _=>cases q.int
  |str _=>cases q.str
  |tup _=>obtain⟨_,_,z,_⟩:=q.tup;cases z
  |lst _=>obtain⟨_,_,z,_⟩:=q.lst;cases z
 | .int b,e,v,r,q=>by
  cases r.int;cases e with
  |non=>cases q.non
  |bl _=>cases q.bl
  |int _=>cases q.int;rfl
  |str _=>cases q.str
  |tup _=>obtain⟨_,_,z,_⟩:=q.tup;cases z
  |lst _=>obtain⟨_,_,z,_⟩:=q.lst;cases z
 | .str b,e,v,r,q=>by
  cases r.str;cases e with
  |non=>cases q.non
  |bl _=>cases q.bl
  |int _=>cases q.int
  |str _=>cases q.str;rfl
  |tup _=>obtain⟨_,_,z,_⟩:=q.tup;cases z
  |lst _=>obtain⟨_,_,z,_⟩:=q.lst;cases z
 | .tup ds,e,v,r,q=>by
  obtain⟨a,xs,rfl,hq,rs⟩:=r.tup;cases e with
  |non=>cases q.non
  |bl _=>cases q.bl
  |int _=>cases q.int
  |str _=>cases q.str
  | tup es=>
   obtain⟨b,ys,z,hq',rs'⟩:=q.tup;cases z;cases I.tuple_inj hq hq';rw[aO.inj I ds es xs rs rs']
  | lst es=>
   obtain⟨b,ys,z,hq',_,rs'⟩:=q.lst;cases z;obtain⟨_,_,p1,_⟩:=I.tuple hq;obtain⟨_,_,p2,_⟩:=I.list hq';exact (isTuple_list p1 p2.isList).elim
 | .lst ds,e,v,r,q=>by
  obtain⟨a,xs,rfl,hq,_,rs⟩:=r.lst;cases e with
  |non=>cases q.non
  |bl _=>cases q.bl
  |int _=>cases q.int
  |str _=>cases q.str
  | tup es=>
   obtain⟨b,ys,z,hq',rs'⟩:=q.tup;cases z;obtain⟨_,_,p1,_⟩:=I.tuple hq';obtain⟨_,_,p2,_⟩:=I.list hq;exact (isTuple_list p1 p2.isList).elim
  | lst es=>
   obtain⟨b,ys,z,hq',_,rs'⟩:=q.lst;cases z;cases I.list_inj hq hq';rw[aO.inj I ds es xs rs rs']
theorem aO.inj(I:Inv X pins σ H s):∀(ds es:List D) (vs:List V),aO X.K O H ds vs->aO X.K O' H es vs->ds=es
 | [],es,vs,r,q=>by
  rw[r.nil_inv] at q;cases es with
  |nil=>rfl
  |cons e es=>obtain⟨_,_,z,_⟩:=q.cons_inv;cases z
 | d ::ds,es,vs,r,q=>by
  obtain⟨x,t,rfl,rx,rt⟩:=r.cons_inv;cases es with
  |nil=>cases q.nil_inv
  | cons e es=>
   obtain⟨_,_,z,qx,qt⟩:=q.cons_inv;cases z;rw[Rep.inj I d e x rx qx,aO.inj I ds es t rt qt]
end
theorem oA{ds es:List D}{xs ys:List V}{its jts:List abY}(r1:aO X.K O H ds xs)(r2:aO X.K O' H es ys)(v1:Vals xs its)(v2:Vals ys jts)
  (ih:∀d∈ds,∀(e:D) (v w:V) (u u':abY),Rep X.K O H d v->Rep X.K O' H e w->RelV v u->RelV w u'->EqAt A s u u' (fQ d e)):
  ∀j (h1:j<its.toArray.size) (h2:j<jts.toArray.size),EqAt A s its.toArray[j] jts.toArray[j] (fQ (ds.getD j .non) (es.getD j .non)):=by
 intro j h1 h2;have e1:its[j]?=some its.toArray[j]:=by simp
 have e2:jts[j]?=some jts.toArray[j]:=by simp
 have l1:=v1.length;have l2:=v2.length;have k1:=r1.length;have k2:=r2.length;simp only[z1c] at h1 h2;obtain⟨v,ev,rv⟩:∃v,xs[j]?=some v/\RelV v its.toArray[j]:=by
  have hj:j<xs.length:=by omega
  obtain⟨u,eu,ru⟩:=v1.get (i:=j) (x:=xs[j]) (by simp[hj]);rw[e1] at eu;cases eu;exact⟨_,by simp[hj],ru⟩
 obtain⟨w,ew,rw'⟩:∃v,ys[j]?=some v/\RelV v jts.toArray[j]:=by
  have hj:j<ys.length:=by omega
  obtain⟨u,eu,ru⟩:=v2.get (i:=j) (x:=ys[j]) (by simp[hj]);rw[e2] at eu;cases eu;exact⟨_,by simp[hj],ru⟩
 obtain⟨d,ed,rd⟩:=r1.bJ ev;obtain⟨e,ee,re⟩:=r2.bJ ew;have g1:ds.getD j .non=d:=by simp[aeA,ed]
 have g2:es.getD j .non=e:=by simp[aeA,ee]
 rw[g1,g2];exact ih d (acy ed) e v w _ _ rd re rv rw'
theorem Cr{ds es:List D}{n m:Nat}(hn:ds.length=n)(hm:es.length=m):((ab0 (min n m)).all (λj=>fQ (ds.getD j .non) (es.getD j .non)) && n ==m)=p8 ds es:=by
 by_cases h:n=m
 ·subst h;rw[Nat.min_self,beq_self_eq_true,Bool.and_true,rK (by rw[hn,hm]),hn]
 ·rw[rJ (by rw[hn,hm];exact h),show (n ==m)=false by simpa using h,agG]
theorem Km(I:Inv X pins σ H s)(hu:A.units<adn){e:D}(h1:Lk X O H s d u)(h2:Lk X O' H s e u')
  (ih:∀c∈(match d with | .tup ds=>ds | .lst ds=>ds |_=>[]),∀(e:D) (v w:V) (u u':abY),Rep X.K O H c v->Rep X.K O' H e w->RelV v u->RelV w u'->EqAt A.in1 s u u' (fQ c e)):EqAt A s u u' (fQ d e):=by
 cases d with
 | non=>
  cases h1;cases e with
  | non=>
   cases h2;exact EqAt.same _
  | bl b=>
   cases h2;exact EqAt.none_bool _
  | int b=>
   obtain⟨t2,rfl⟩:=h2;exact EqAt.none_int _ _
  | str b=>
   obtain⟨t2,rfl⟩:=h2;exact EqAt.none_str _ _
  | tup es=>
   obtain⟨p2,ys,jts,rfl,hq2,v2,hp2,r2⟩:=h2;exact EqAt.none_tuple hp2 hu
  | lst es=>
   obtain⟨p2,ys,jts,rfl,hq2,v2,hp2,r2⟩:=h2;exact EqAt.none_list hp2 hu
 | bl a=>
  cases h1;cases e with
  | non=>
   cases h2;exact EqAt.bool_none _
  | bl b=>
   cases h2;exact EqAt.bool_bool _ _
  | int b=>
   obtain⟨t2,rfl⟩:=h2;exact EqAt.bool_int _ _ _
  | str b=>
   obtain⟨t2,rfl⟩:=h2;exact EqAt.bool_str _ _ _
  | tup es=>
   obtain⟨p2,ys,jts,rfl,hq2,v2,hp2,r2⟩:=h2;exact EqAt.bool_tuple _ hp2 hu
  | lst es=>
   obtain⟨p2,ys,jts,rfl,hq2,v2,hp2,r2⟩:=h2;exact EqAt.bool_list _ hp2 hu
 | int a=>
  obtain⟨t1,rfl⟩:=h1;cases e with
  | non=>
   cases h2;exact EqAt.int_none _ _
  | bl b=>
   cases h2;exact EqAt.int_bool _ _ _
  | int b=>
   obtain⟨t2,rfl⟩:=h2;exact EqAt.int_int _ _ _ _
  | str b=>
   obtain⟨t2,rfl⟩:=h2;exact EqAt.int_str _ _ _ _
  | tup es=>
   obtain⟨p2,ys,jts,rfl,hq2,v2,hp2,r2⟩:=h2;exact EqAt.int_tuple _ _ hp2 hu
  | lst es=>
   obtain⟨p2,ys,jts,rfl,hq2,v2,hp2,r2⟩:=h2;exact EqAt.int_list _ _ hp2 hu
 | str a=>
  obtain⟨t1,rfl⟩:=h1;cases e with
  | non=>
   cases h2;exact EqAt.str_none _ _
  | bl b=>
   cases h2;exact EqAt.str_bool _ _ _
  | int b=>
   obtain⟨t2,rfl⟩:=h2;exact EqAt.str_int _ _ _ _
  | str b=>
   obtain⟨t2,rfl⟩:=h2;exact EqAt.str_str _ _ _ _
  | tup es=>
   obtain⟨p2,ys,jts,rfl,hq2,v2,hp2,r2⟩:=h2;exact EqAt.str_tuple _ _ hp2 hu
  | lst es=>
   obtain⟨p2,ys,jts,rfl,hq2,v2,hp2,r2⟩:=h2;exact EqAt.str_list _ _ hp2 hu
 | tup ds=>
  obtain⟨p1,xs,its,rfl,hq1,v1,hp1,r1⟩:=h1;cases e with
  | non=>
   cases h2;exact EqAt.tuple_none hp1 hu
  | bl b=>
   cases h2;exact EqAt.tuple_bool _ hp1 hu
  | int b=>
   obtain⟨t2,rfl⟩:=h2;exact EqAt.tuple_int _ _ hp1 hu
  | str b=>
   obtain⟨t2,rfl⟩:=h2;exact EqAt.tuple_str _ _ hp1 hu
  | tup es=>
   obtain⟨p2,ys,jts,rfl,hq2,v2,hp2,r2⟩:=h2;by_cases hne:p1=p2
   ·subst hne;cases I.tuple_inj hq1 hq2;rw[gJ,aO.inj I ds es xs r1 r2,pK];exact EqAt.same _
   ·have q:=EqAt.of_refs hne (RcAt.tuples hp1 hp2 hu (oA r1 r2 v1 v2 ih));simp only[z1c] at q;rw[Cr (r1.length.trans v1.length) (r2.length.trans v2.length)] at q;rw[gJ];exact q
  | lst es=>
   obtain⟨p2,ys,jts,rfl,hq2,v2,hp2,r2⟩:=h2;exact EqAt.tuple_list hp1 hp2 hu
 | lst ds=>
  obtain⟨p1,xs,its,rfl,hq1,v1,hp1,r1⟩:=h1;cases e with
  | non=>
   cases h2;exact EqAt.list_none hp1 hu
  | bl b=>
   cases h2;exact EqAt.list_bool _ hp1 hu
  | int b=>
   obtain⟨t2,rfl⟩:=h2;exact EqAt.list_int _ _ hp1 hu
  | str b=>
   obtain⟨t2,rfl⟩:=h2;exact EqAt.list_str _ _ hp1 hu
  | tup es=>
   obtain⟨p2,ys,jts,rfl,hq2,v2,hp2,r2⟩:=h2;exact EqAt.list_tuple hp1 hp2 hu
  | lst es=>
   obtain⟨p2,ys,jts,rfl,hq2,v2,hp2,r2⟩:=h2;by_cases hne:p1=p2
   ·subst hne;cases I.list_inj hq1 hq2;rw[d9,aO.inj I ds es xs r1 r2,pK];exact EqAt.same _
   ·by_cases hz:ds.length=es.length
    ·have q:=EqAt.of_refs hne (RcAt.lists hp1 hp2 (by simp only[z1c];rw[<-v1.length,<-v2.length,<-r1.length,<-r2.length];exact hz) hu (oA r1 r2 v1 v2 ih));rw[z1c,<-v1.length,<-r1.length,<-rK hz] at q;rw[d9];exact q
    ·rw[d9,rJ hz];exact EqAt.of_refs hne (RcAt.lists_lengths hp1 hp2 (by simp only[z1c];rw[<-v1.length,<-v2.length,<-r1.length,<-r2.length];simpa using hz) hu)
theorem Vq(I:Inv X pins σ H s)(hu:A.units<adn){e:D}(h1:Lk X O H s d u)(h2:Lk X O' H s e u')
  (ih:∀c∈(match d with | .tup ds=>ds | .lst ds=>ds |_=>[]),∀(e:D) (v w:V) (u u':abY),Rep X.K O H c v->Rep X.K O' H e w->RelV v u->RelV w u'->EqAt A.in1 s u u' (fQ c e)):RcAt A s u u' (fQ d e):=by
 cases d with
 | non=>
  cases h1;cases e with
  | non=>
   cases h2;exact RcAt.none_none
  | bl b=>
   cases h2;exact RcAt.none_bool _
  | int b=>
   obtain⟨t2,rfl⟩:=h2;exact RcAt.none_int _ _
  | str b=>
   obtain⟨t2,rfl⟩:=h2;exact RcAt.none_str _ _
  | tup es=>
   obtain⟨p2,ys,jts,rfl,hq2,v2,hp2,r2⟩:=h2;exact RcAt.none_tuple hp2 hu
  | lst es=>
   obtain⟨p2,ys,jts,rfl,hq2,v2,hp2,r2⟩:=h2;exact RcAt.none_list hp2 hu
 | bl a=>
  cases h1;cases e with
  | non=>
   cases h2;exact RcAt.bool_none _
  | bl b=>
   cases h2;exact RcAt.bool_bool _ _
  | int b=>
   obtain⟨t2,rfl⟩:=h2;exact RcAt.bool_int _ _ _
  | str b=>
   obtain⟨t2,rfl⟩:=h2;exact RcAt.bool_str _ _ _
  | tup es=>
   obtain⟨p2,ys,jts,rfl,hq2,v2,hp2,r2⟩:=h2;exact RcAt.bool_tuple _ hp2 hu
  | lst es=>
   obtain⟨p2,ys,jts,rfl,hq2,v2,hp2,r2⟩:=h2;exact RcAt.bool_list _ hp2 hu
 | int a=>
  obtain⟨t1,rfl⟩:=h1;cases e with
  | non=>
   cases h2;exact RcAt.int_none _ _
  | bl b=>
   cases h2;exact RcAt.int_bool _ _ _
  | int b=>
   obtain⟨t2,rfl⟩:=h2;exact RcAt.int_int _ _ _ _
  | str b=>
   obtain⟨t2,rfl⟩:=h2;exact RcAt.int_str _ _ _ _
  | tup es=>
   obtain⟨p2,ys,jts,rfl,hq2,v2,hp2,r2⟩:=h2;exact RcAt.int_tuple _ _ hp2 hu
  | lst es=>
   obtain⟨p2,ys,jts,rfl,hq2,v2,hp2,r2⟩:=h2;exact RcAt.int_list _ _ hp2 hu
 | str a=>
  obtain⟨t1,rfl⟩:=h1;cases e with
  | non=>
   cases h2;exact RcAt.str_none _ _
  | bl b=>
   cases h2;exact RcAt.str_bool _ _ _
  | int b=>
   obtain⟨t2,rfl⟩:=h2;exact RcAt.str_int _ _ _ _
  | str b=>
   obtain⟨t2,rfl⟩:=h2;exact RcAt.str_str _ _ _ _
  | tup es=>
   obtain⟨p2,ys,jts,rfl,hq2,v2,hp2,r2⟩:=h2;exact RcAt.str_tuple _ _ hp2 hu
  | lst es=>
   obtain⟨p2,ys,jts,rfl,hq2,v2,hp2,r2⟩:=h2;exact RcAt.str_list _ _ hp2 hu
 | tup ds=>
  obtain⟨p1,xs,its,rfl,hq1,v1,hp1,r1⟩:=h1;cases e with
  | non=>
   cases h2;exact RcAt.tuple_none hp1 hu
  | bl b=>
   cases h2;exact RcAt.tuple_bool _ hp1 hu
  | int b=>
   obtain⟨t2,rfl⟩:=h2;exact RcAt.tuple_int _ _ hp1 hu
  | str b=>
   obtain⟨t2,rfl⟩:=h2;exact RcAt.tuple_str _ _ hp1 hu
  | tup es=>
   obtain⟨p2,ys,jts,rfl,hq2,v2,hp2,r2⟩:=h2;have q:=RcAt.tuples hp1 hp2 hu (oA r1 r2 v1 v2 ih);simp only[z1c] at q;rw[Cr (r1.length.trans v1.length) (r2.length.trans v2.length)] at q;rw[gJ];exact q
  | lst es=>
   obtain⟨p2,ys,jts,rfl,hq2,v2,hp2,r2⟩:=h2;exact RcAt.tuple_list hp1 hp2 hu
 | lst ds=>
  obtain⟨p1,xs,its,rfl,hq1,v1,hp1,r1⟩:=h1;cases e with
  | non=>
   cases h2;exact RcAt.list_none hp1 hu
  | bl b=>
   cases h2;exact RcAt.list_bool _ hp1 hu
  | int b=>
   obtain⟨t2,rfl⟩:=h2;exact RcAt.list_int _ _ hp1 hu
  | str b=>
   obtain⟨t2,rfl⟩:=h2;exact RcAt.list_str _ _ hp1 hu
  | tup es=>
   obtain⟨p2,ys,jts,rfl,hq2,v2,hp2,r2⟩:=h2;exact RcAt.list_tuple hp1 hp2 hu
  | lst es=>
   obtain⟨p2,ys,jts,rfl,hq2,v2,hp2,r2⟩:=h2;by_cases hz:ds.length=es.length
   ·have q:=RcAt.lists hp1 hp2 (by simp only[z1c];rw[<-v1.length,<-v2.length,<-r1.length,<-r2.length];exact hz) hu (oA r1 r2 v1 v2 ih);rw[z1c,<-v1.length,<-r1.length,<-rK hz] at q;rw[d9];exact q
   ·rw[d9,rJ hz];exact RcAt.lists_lengths hp1 hp2 (by simp only[z1c];rw[<-v1.length,<-v2.length,<-r1.length,<-r2.length];simpa using hz) hu
theorem Vr(I:Inv X pins σ H s)(hu:A.units<adn){e:D}(h1:Lk X O H s d u)(h2:Lk X O' H s e u')
  (ih:∀c∈(match d with | .tup ds=>ds | .lst ds=>ds |_=>[]),∀(e:D) (v w:V) (u u':abY),Rep X.K O H c v->Rep X.K O' H e w->RelV v u->RelV w u'->EqAt A.in1 s u u' (fQ c e)):RcNeAt A s u u' (!fQ d e):=by
 cases d with
 | non=>
  cases h1;cases e with
  | non=>
   cases h2;exact RcNeAt.none_none
  | bl b=>
   cases h2;exact RcNeAt.none_bool _
  | int b=>
   obtain⟨t2,rfl⟩:=h2;exact RcNeAt.none_int _ _
  | str b=>
   obtain⟨t2,rfl⟩:=h2;exact RcNeAt.none_str _ _
  | tup es=>
   obtain⟨p2,ys,jts,rfl,hq2,v2,hp2,r2⟩:=h2;exact RcNeAt.none_tuple hp2 hu
  | lst es=>
   obtain⟨p2,ys,jts,rfl,hq2,v2,hp2,r2⟩:=h2;exact RcNeAt.none_list hp2 hu
 | bl a=>
  cases h1;cases e with
  | non=>
   cases h2;exact RcNeAt.bool_none _
  | bl b=>
   cases h2;exact RcNeAt.bool_bool _ _
  | int b=>
   obtain⟨t2,rfl⟩:=h2;exact RcNeAt.bool_int _ _ _
  | str b=>
   obtain⟨t2,rfl⟩:=h2;exact RcNeAt.bool_str _ _ _
  | tup es=>
   obtain⟨p2,ys,jts,rfl,hq2,v2,hp2,r2⟩:=h2;exact RcNeAt.bool_tuple _ hp2 hu
  | lst es=>
   obtain⟨p2,ys,jts,rfl,hq2,v2,hp2,r2⟩:=h2;exact RcNeAt.bool_list _ hp2 hu
 | int a=>
  obtain⟨t1,rfl⟩:=h1;cases e with
  | non=>
   cases h2;exact RcNeAt.int_none _ _
  | bl b=>
   cases h2;exact RcNeAt.int_bool _ _ _
  | int b=>
   obtain⟨t2,rfl⟩:=h2;exact RcNeAt.int_int _ _ _ _
  | str b=>
   obtain⟨t2,rfl⟩:=h2;exact RcNeAt.int_str _ _ _ _
  | tup es=>
   obtain⟨p2,ys,jts,rfl,hq2,v2,hp2,r2⟩:=h2;exact RcNeAt.int_tuple _ _ hp2 hu
  | lst es=>
   obtain⟨p2,ys,jts,rfl,hq2,v2,hp2,r2⟩:=h2;exact RcNeAt.int_list _ _ hp2 hu
 | str a=>
  obtain⟨t1,rfl⟩:=h1;cases e with
  | non=>
   cases h2;exact RcNeAt.str_none _ _
  | bl b=>
   cases h2;exact RcNeAt.str_bool _ _ _
  | int b=>
   obtain⟨t2,rfl⟩:=h2;exact RcNeAt.str_int _ _ _ _
  | str b=>
   obtain⟨t2,rfl⟩:=h2;exact RcNeAt.str_str _ _ _ _
  | tup es=>
   obtain⟨p2,ys,jts,rfl,hq2,v2,hp2,r2⟩:=h2;exact RcNeAt.str_tuple _ _ hp2 hu
  | lst es=>
   obtain⟨p2,ys,jts,rfl,hq2,v2,hp2,r2⟩:=h2;exact RcNeAt.str_list _ _ hp2 hu
 | tup ds=>
  obtain⟨p1,xs,its,rfl,hq1,v1,hp1,r1⟩:=h1;cases e with
  | non=>
   cases h2;exact RcNeAt.tuple_none hp1 hu
  | bl b=>
   cases h2;exact RcNeAt.tuple_bool _ hp1 hu
  | int b=>
   obtain⟨t2,rfl⟩:=h2;exact RcNeAt.tuple_int _ _ hp1 hu
  | str b=>
   obtain⟨t2,rfl⟩:=h2;exact RcNeAt.tuple_str _ _ hp1 hu
  | tup es=>
   obtain⟨p2,ys,jts,rfl,hq2,v2,hp2,r2⟩:=h2;have q:=RcNeAt.tuples hp1 hp2 hu (oA r1 r2 v1 v2 ih);simp only[z1c] at q;rw[Cr (r1.length.trans v1.length) (r2.length.trans v2.length)] at q;rw[gJ];exact q
  | lst es=>
   obtain⟨p2,ys,jts,rfl,hq2,v2,hp2,r2⟩:=h2;exact RcNeAt.tuple_list hp1 hp2 hu
 | lst ds=>
  obtain⟨p1,xs,its,rfl,hq1,v1,hp1,r1⟩:=h1;cases e with
  | non=>
   cases h2;exact RcNeAt.list_none hp1 hu
  | bl b=>
   cases h2;exact RcNeAt.list_bool _ hp1 hu
  | int b=>
   obtain⟨t2,rfl⟩:=h2;exact RcNeAt.list_int _ _ hp1 hu
  | str b=>
   obtain⟨t2,rfl⟩:=h2;exact RcNeAt.list_str _ _ hp1 hu
  | tup es=>
   obtain⟨p2,ys,jts,rfl,hq2,v2,hp2,r2⟩:=h2;exact RcNeAt.list_tuple hp1 hp2 hu
  | lst es=>
   obtain⟨p2,ys,jts,rfl,hq2,v2,hp2,r2⟩:=h2;by_cases hz:ds.length=es.length
   ·have q:=RcNeAt.lists hp1 hp2 (by simp only[z1c];rw[<-v1.length,<-v2.length,<-r1.length,<-r2.length];exact hz) hu (oA r1 r2 v1 v2 ih);rw[z1c,<-v1.length,<-r1.length,<-rK hz] at q;rw[d9];exact q
   ·rw[d9,rJ hz];exact RcNeAt.lists_lengths hp1 hp2 (by simp only[z1c];rw[<-v1.length,<-v2.length,<-r1.length,<-r2.length];simpa using hz) hu
theorem Ko(I:Inv X pins σ H s):∀(n:Nat) (A:acg) (d:D),dep d<=n->A.units+n<adn->∀(e:D) (v w:V) (u u':abY),Rep X.K O H d v->Rep X.K O' H e w->RelV v u->RelV w u'->EqAt A s u u' (fQ d e):=by
 intro n
 induction n with
 | zero=>
  intro A d hd hu e v w u u' r1 r2 q1 q2;refine Km I (by omega) (tU I r1 q1) (tU I r2 q2) λc hc=>?_;cases d with
  |tup ds=>rw[dep] at hd;omega
  |lst ds=>rw[dep] at hd;omega
  |_=>simp at hc
 | succ n ihn=>
  intro A d hd hu e v w u u' r1 r2 q1 q2;refine Km I (by omega) (tU I r1 q1) (tU I r2 q2) λc hc=>?_;have hc':dep c<=n:=by
   cases d with
   |tup ds=>rw[dep] at hd;have:=ou (ds:=ds) hc;omega
   |lst ds=>rw[dep] at hd;have:=ou (ds:=ds) hc;omega
   |_=>simp at hc
  exact ihn A.in1 c hc' (by show A.units+1+n<adn;omega)
end
def iM(d e:D):R D:=if dep d<=40 then .ok (.bl (fQ d e)) else .bad
def jN(d e:D):R D:=if dep d<=40 then .ok (.bl (!fQ d e)) else .bad
section
variable{X:Cx}
theorem Zm(hu:X.A.units+60<adn):OpR X (acr .Eq) (λx y H Q=>∃O O' d e,Rep X.K O H d x/\Rep X.K O' H e y/\dep d<=40/\Q (.bl (fQ d e)) H):=by
 intro pins s σ H x y v u Q I rx ry h;obtain⟨O,O',d,e,r1,r2,hd,q⟩:=h;refine Vq I (show X.A.units<adn by omega) (tU I r1 rx) (tU I r2 ry) (λc hc=>?_) X.prog X.w X.xe _ ⟨.bl _,H,I,rfl,q⟩;have hc':dep c<=40:=by
  cases d with
  |tup ds=>rw[dep] at hd;have:=ou (ds:=ds) hc;omega
  |lst ds=>rw[dep] at hd;have:=ou (ds:=ds) hc;omega
  |_=>simp at hc
 exact Ko I 40 X.A.in1 c hc' (by show X.A.units+1+40<adn;omega)
theorem Zn(hu:X.A.units+60<adn):OpR X (acr .NotEq) (λx y H Q=>∃O O' d e,Rep X.K O H d x/\Rep X.K O' H e y/\dep d<=40/\Q (.bl (!fQ d e)) H):=by
 intro pins s σ H x y v u Q I rx ry h;obtain⟨O,O',d,e,r1,r2,hd,q⟩:=h;refine Vr I (show X.A.units<adn by omega) (tU I r1 rx) (tU I r2 ry) (λc hc=>?_) X.prog X.w X.xe _ ⟨.bl _,H,I,rfl,q⟩;have hc':dep c<=40:=by
  cases d with
  |tup ds=>rw[dep] at hd;have:=ou (ds:=ds) hc;omega
  |lst ds=>rw[dep] at hd;have:=ou (ds:=ds) hc;omega
  |_=>simp at hc
 exact Ko I 40 X.A.in1 c hc' (by show X.A.units+1+40<adn;omega)
theorem iH(hu:X.A.units+60<adn):gw X (acr .Eq) iM:=by
 refine⟨_,Zm hu,λρ O σ H Q x y dx dy j rx ry h=>?_⟩;unfold iM at h;by_cases hd:dep dx<=40
 ·rw[if_pos hd] at h;exact⟨O,O,dx,dy,rx,ry,hd,fin h (eV _)⟩
 ·rw[if_neg hd] at h;exact h.elim
theorem oZ(hu:X.A.units+60<adn):gw X (acr .NotEq) jN:=by
 refine⟨_,Zn hu,λρ O σ H Q x y dx dy j rx ry h=>?_⟩;unfold jN at h;by_cases hd:dep dx<=40
 ·rw[if_pos hd] at h;exact⟨O,O,dx,dy,rx,ry,hd,fin h (eV _)⟩
 ·rw[if_neg hd] at h;exact h.elim
end
end Pu
namespace Pu
open PySem PySem.Spec L2
open PyProof.Rows hiding St
section
variable{prog:ab9}{w:acf}{A:acg}{E:abY->abZ->Prop}{s:abZ}
end
section
variable{X:Cx}{e:ab6}{te:TE}{pos p2 p3 p4:Pos}{j:Nat}{f:aB->R D}
theorem Vals.rev{xs:List V}{us:List abY}(h:Vals xs us):Vals xs.reverse us.reverse:=by
 induction h with
 |nil=>exact .nil
 | cons r _ ih=>
  simp only[List.reverse_cons];exact ih.append (.cons r .nil)
def abS:D->R D
 | .tup ds=> .ok (.tup ds.reverse)
 |_=> .bad
def gk:D->D->R D
 | .int i,.int j=> .ok (.int (i+j))
 | .tup xs,.tup ys=>if 0<xs.length/\xs.length+ys.length<=1000000 then .ok (.tup (xs++ys)) else .bad
 |_,_=> .bad
theorem pL:gw X (acJ .Add) gk:=by
 refine⟨_,OpR.or op_add op_catT,λρ O σ H Q x y dx dy j0 rx ry h=>?_⟩;cases dx <;> cases dy <;> first
  |exact h.elim
  |skip
 ·rename_i i j;exact .inl ⟨i,j,rx.int,ry.int,fin h (cg _)⟩
 ·rename_i xs ys;have h:good X (rD X) O (if 0<xs.length/\xs.length+ys.length<=1000000 then .ok (.tup (xs++ys)) else .bad) σ H Q:=h;by_cases hc:0<xs.length/\xs.length+ys.length<=1000000
  ·rw[if_pos hc] at h;obtain⟨a,us,rfl,ha,r1⟩:=rx.tup;obtain⟨b,ws,rfl,hb,r2⟩:=ry.tup;refine .inr ⟨a,b,us,ws,rfl,rfl,ha,hb,λz=>?_,?_,λz=>?_,λz l hl=>?_⟩
   ·have h1:=r1.length;have h2:=hc.1;rw[z] at h1;rw[h1] at h2;exact acX _ h2
   ·rw[<-r1.length,<-r2.length];exact z0b hc.2 dJ
   ·subst z;have:ys=[]:=acu r2.length;subst this;rw[acE] at h;exact fin h (gZ ha r1)
   ·exact h _ _ (Same.upd hl) (Rep.nQ hl (r1.append r2))
  ·rw[if_neg hc] at h;exact h.elim
end
section
variable{K:PySem.W.Frag}{O:abX->Prop}{H:Hp}
end
section
variable{X:Cx}{e e1 e2:ab6}{f g:aB->R D}{pos:Pos}
end
end Pu
namespace Pu
open PySem PySem.W PyProof.Rows
variable{p:Array Nat}
def Sat{α:Type}(n:Nat)(lt:Nat->Nat->Bool):KasT α->(α->Prop)->Prop
 | .ret a,Q=>Q a
 | .ask i j k,Q=>i<n/\j<n/\Sat n lt (k (lt i j)) Q
section
variable{n:Nat}{lt:Nat->Nat->Bool}
theorem Sat.bind{α β:Type}{f:α->KasT β}{Q:β->Prop}:∀{t:KasT α},Sat n lt t (λa=>Sat n lt (f a) Q)->Sat n lt (t.bind f) Q
 | .ret _,h=>h
 | .ask i j k,h=>⟨h.1,h.2.1,Sat.bind h.2.2⟩
theorem Sat.mono{α:Type}{Q Q':α->Prop}(w:∀a,Q a->Q' a):∀{t:KasT α},Sat n lt t Q->Sat n lt t Q'
 | .ret _,h=>w _ h
 | .ask _ _ _,h=>⟨h.1,h.2.1,Sat.mono w h.2.2⟩
theorem Sat.wp{α:Type}{cmp:Nat->Nat->(Bool->abZ->Prop)->abZ->Prop}{s:abZ}{P:α->Prop}{Q:α->abZ->Prop}(hc:∀i j C,i<n->j<n->C (lt i j) s->cmp i j C s)(hQ:∀a,P a->Q a s):
  ∀{t:KasT α},Sat n lt t P->t.kasWp cmp Q s
 | .ret _,h=>hQ _ h
 | .ask i j k,h=>hc i j _ h.1 h.2.1 (Sat.wp hc hQ h.2.2)
structure Ord(n:Nat)(lt:Nat->Nat->Bool):Prop where
 tr:∀a b c,a<n->b<n->c<n->lt a b=true->lt b c=true->lt a c=true
 tot:∀a b,a<n->b<n->a≠b->lt a b=false->lt b a=true
structure Pm(n:Nat)(p:Array Nat):Prop where
 size:p.size=n
 perm:p.toList.Perm (ab0 n)
theorem Pm.bd(h:Pm n p){i:Nat}(hi:i<n):p.getD i 0<n:=by
 have hs:i<p.size:=by rw[h.size];exact hi
 have:p.getD i 0=p[i]:=by simp[agK,hs]
 rw[this];have hm:p[i]∈p.toList:=by simp
 exact z2e (h.perm.mem_iff.mp hm)
theorem Pm.ne(h:Pm n p){i j:Nat}(hi:i<n)(hj:j<n)(hij:i≠j):p.getD i 0≠p.getD j 0:=by
 have hs:i<p.size:=by rw[h.size];exact hi
 have hs2:j<p.size:=by rw[h.size];exact hj
 have e1:p.getD i 0=p.toList[i]'(by simpa using hs):=by simp[agK,hs]
 have e2:p.getD j 0=p.toList[j]'(by simpa using hs2):=by simp[agK,hs2]
 rw[e1,e2];have nd:p.toList.Nodup:=h.perm.nodup_iff.mpr List.nodup_range;intro z;exact hij ((agk nd).mp z)
theorem Pm.of{q:Array Nat}(h:Pm n p)(w:q.Perm p):Pm n q:=
 ⟨by rw[<-h.size];exact w.size_eq,(Array.perm_iff_toList_perm.mp w).trans h.perm⟩
def S(lt:Nat->Nat->Bool)(p:Array Nat)(k:Nat):Prop:=∀i j,i<j->j<k->lt (p.getD i 0) (p.getD j 0)=true
def De(lt:Nat->Nat->Bool)(p:Array Nat)(k:Nat):Prop:=∀i j,i<j->j<k->lt (p.getD j 0) (p.getD i 0)=true
theorem S.one:S lt p 1:=λi j h1 h2=>by omega
theorem S.ext(o:Ord n lt)(h:Pm n p){a:Nat}(ha:1<=a)(hn:a<n)(s:S lt p a)(e:lt (p.getD (a - 1) 0) (p.getD a 0)=true):S lt p (a+1):=λi j h1 h2=>by
 by_cases hj:j<a
 ·exact s i j h1 hj
 ·have ej:j=a:=by omega
  subst ej;by_cases hi:i=j - 1
  ·rw[hi];exact e
  ·exact o.tr _ _ _ (h.bd (by omega)) (h.bd (by omega)) (h.bd hn) (s i (j - 1) (by omega) (by omega)) e
theorem De.ext(o:Ord n lt)(h:Pm n p){a:Nat}(ha:1<=a)(hn:a<n)(s:De lt p a)(e:lt (p.getD a 0) (p.getD (a - 1) 0)=true):De lt p (a+1):=λi j h1 h2=>by
 by_cases hj:j<a
 ·exact s i j h1 hj
 ·have ej:j=a:=by omega
  subst ej;by_cases hi:i=j - 1
  ·rw[hi];exact e
  ·exact o.tr _ _ _ (h.bd hn) (h.bd (by omega)) (h.bd (by omega)) e (s i (j - 1) (by omega) (by omega))
theorem Gx(o:Ord n lt){p:Array Nat}(h:Pm n p):∀(f a:Nat),1<=a->a+f<=n->S lt p a->Sat n lt (kas_asc p f a) (λm=>a<=m/\m<=a+f/\S lt p m/\(m<a+f->lt (p.getD m 0) (p.getD (m - 1) 0)=true))
 |0,a,h1,h2,s=>⟨z0g _,z0g _,s,λz=>absurd z (by omega)⟩
 | f +1,a,h1,h2,s=>by
  refine⟨h.bd (by omega),h.bd (by omega),?_⟩;cases e:lt (p.getD a 0) (p.getD (a - 1) 0) with
  |true=>exact⟨z0g _,by omega,s,λ_=>e⟩
  | false=>
   have e':=o.tot _ _ (h.bd (by omega)) (h.bd (by omega)) (h.ne (i:=a) (j:=a - 1) (by omega) (by omega) (by omega)) e;show Sat n lt (kas_asc p f (a+1)) _;refine Sat.mono (λm ⟨m1,m2,m3,m4⟩=>⟨by omega,by omega,m3,λz=>m4 (by omega)⟩) (Gx o h f (a+1) (by omega) (by omega) (S.ext o h h1 (by omega) s e'))
theorem Kq(o:Ord n lt){p:Array Nat}(h:Pm n p):∀(f a:Nat),1<=a->a+f<=n->De lt p a->Sat n lt (kas_desc f p a 0) (λr=>r.1=p/\r.2.2=0/\a<=r.2.1/\r.2.1<=a+f/\De lt p r.2.1)
 |0,a,h1,h2,s=>⟨rfl,rfl,z0g _,z0g _,s⟩
 | f +1,a,h1,h2,s=>by
  refine⟨h.bd (by omega),h.bd (by omega),?_⟩;cases e:lt (p.getD a 0) (p.getD (a - 1) 0) with
  | true=>
   show Sat n lt (kas_desc f p (a+1) 0) _;exact Sat.mono (λr ⟨m1,m2,m3,m4,m5⟩=>⟨m1,m2,by omega,by omega,m5⟩) (Kq o h f (a+1) (by omega) (by omega) (De.ext o h h1 (by omega) s e))
  | false=>
   have e':=o.tot _ _ (h.bd (by omega)) (h.bd (by omega)) (h.ne (i:=a) (j:=a - 1) (by omega) (by omega) (by omega)) e;refine⟨h.bd (by omega),h.bd (by omega),?_⟩;rw[e'];exact⟨rfl,rfl,z0g _,afo _ _,s⟩
theorem Ar{q:Array Nat}{i j:Nat}(h:p[i]?=q[j]?):p.getD i 0=q.getD j 0:=by
 rw[afX,afX,h]
theorem SQ(o:Ord n lt)(h:Pm n p){m:Nat}(h1:1<=m)(h2:m<=n)(s:De lt p m):Sat n lt (kas_tail3 m n p) (λr=>Pm n r.2/\1<=r.1/\r.1<=n/\S lt r.2 r.1):=by
 have hq:Pm n (kas_rev p 0 m):=h.of (mirror_perm _ _ _ _);have hs:S lt (kas_rev p 0 m) m:=λi j hij hj=>by
  have g:∀k,k<m->(kas_rev p 0 m).getD k 0=p.getD (m - 1 - k) 0:=λk hk=>by
   apply Ar;show (mirror p 0 m ((m - 0) / 2))[k]?=_;rw[getElem?_mirror_all (by rw[h.size];exact h2),if_pos ⟨by omega,hk⟩];congr 1;omega
  rw[g i (by omega),g j hj];exact s (m - 1 - j) (m - 1 - i) (by omega) (by omega)
 exact Sat.bind (Sat.mono (λk ⟨k1,k2,k3,_⟩=>⟨hq,by omega,by omega,k3⟩) (Gx o hq (n - m) m h1 (by omega) hs))
theorem SX(o:Ord n lt)(h:Pm n p)(hn:1<=n):Sat n lt (kas_count n p) (λr=>Pm n r.2/\1<=r.1/\r.1<=n/\S lt r.2 r.1):=by
 refine Sat.bind (Sat.mono (λm ⟨m1,m2,m3,m4⟩=>?_) (Gx o h (n - 1) 1 (z0g _) (by omega) S.one));by_cases e:m=n
 ·rw[if_pos (by simp[e])];exact⟨h,m1,by omega,m3⟩
 ·rw[if_neg (by simp[e])];by_cases hm:m > 1
  ·rw[if_pos hm];refine⟨h.bd (by omega),h.bd (by omega),?_⟩;rw[m3 0 (m - 1) (by omega) (by omega)];exact⟨h,m1,by omega,m3⟩
  ·rw[if_neg hm];have em:m=1:=by omega
   subst em;have e0:=m4 (by omega);have d2:De lt p 2:=De.ext o h (a:=1) (z0g _) (by omega) (λi j a1 a2=>by omega) e0;refine Sat.bind (Sat.mono (λr ⟨r1,r2,r3,r4,r5⟩=>?_) (Kq o h (n - (1+1)) (1+1) (by omega) (by omega) d2));rw[if_neg (by omega),r1];exact SQ o h (by omega) (by omega) r5
theorem yt(o:Ord n lt){p:Array Nat}(h:Pm n p){k:Nat}(hk:k<n)(s:S lt p k):∀(f l r:Nat),l<=r->r<=k->r - l<=f->(∀i,i<l->lt (p.getD i 0) (p.getD k 0)=true)->(∀i,r<=i->i<k->lt (p.getD k 0) (p.getD i 0)=true)->
  Sat n lt (kas_place p k f l r) (λm=>m<=k/\(∀i,i<m->lt (p.getD i 0) (p.getD k 0)=true)/\∀i,m<=i->i<k->lt (p.getD k 0) (p.getD i 0)=true)
 |0,l,r,h1,h2,h3,hl,hr=>⟨by omega,hl,λi a b=>hr i (by omega) b⟩
 | f+1,l,r,h1,h2,h3,hl,hr=>by
  unfold kas_place;by_cases hlr:l>=r
  ·rw[if_pos hlr];exact⟨by omega,hl,λi a b=>hr i (by omega) b⟩
  ·rw[if_neg hlr];have hm:(l+r) / 2<k:=by omega
   refine⟨h.bd hk,h.bd (by omega),?_⟩;cases e:lt (p.getD k 0) (p.getD ((l+r) / 2) 0) with
   | true=>
    refine yt o h hk s f l ((l+r) / 2) (by omega) (by omega) (by omega) hl λi a b=>?_;by_cases hi:i=(l+r) / 2
    ·rw[hi];exact e
    ·exact o.tr _ _ _ (h.bd hk) (h.bd (by omega)) (h.bd (by omega)) e (s _ _ (by omega) b)
   | false=>
    have e':=o.tot _ _ (h.bd hk) (h.bd (by omega)) (h.ne (i:=k) (j:=(l+r) / 2) hk (by omega) (by omega)) e;refine yt o h hk s f ((l+r) / 2+1) r (by omega) h2 (by omega) (λi a=>?_) hr;by_cases hi:i=(l+r) / 2
    ·rw[hi];exact e'
    ·exact o.tr _ _ _ (h.bd (by omega)) (h.bd (by omega)) (h.bd hk) (s i ((l+r) / 2) (by omega) hm) e'
theorem OD(o:Ord n lt):∀(f:Nat) (p:Array Nat) (k:Nat),Pm n p->S lt p k->k+f<=n->Sat n lt (kas_bin f p k) (λq=>Pm n q/\S lt q (k+f))
 |0,p,k,h,s,_=>⟨h,s⟩
 | f+1, p, k,h,s,hk=>by
  refine Sat.bind (Sat.mono (λl ⟨l1,l2,l3⟩=>?_) (yt o h (by omega) s k 0 k (adX _) (z0g _) (by omega) (λi a=>by omega) λi a b=>by omega));have hq:Pm n (bubble p k (k - l)):=h.of (bubble_perm _ _ _);have g:∀i,(bubble p k (k - l)).getD i 0=if i=l then p.getD k 0 else if l<i/\i<=k then p.getD (i - 1) 0 else p.getD i 0:=λi=>by
   have e:=getElem?_bubble (xs:=p) (src:=k) (by rw[h.size];omega) (k - l) (by omega) i;rw[show k - (k - l)=l by omega] at e;by_cases c1:i=l
   ·rw[if_pos c1] at e |-;exact Ar e
   ·rw[if_neg c1] at e |-;by_cases c2:l<i/\i<=k
    ·rw[if_pos c2] at e |-;exact Ar e
    ·rw[if_neg c2] at e |-;exact Ar e
  have hs : S lt (bubble p k (k - l)) (k+1):=λi j hij hj=>by
   rw[g i,g j];by_cases c1:i=l
   ·rw[if_pos c1,if_neg (by omega),if_pos ⟨by omega,by omega⟩];exact l3 (j - 1) (by omega) (by omega)
   ·rw[if_neg c1];by_cases c2:l<i/\i<=k
    ·rw[if_pos c2,if_neg (by omega),if_pos ⟨by omega,by omega⟩];exact s (i - 1) (j - 1) (by omega) (by omega)
    ·rw[if_neg c2];have hil:i<l:=by omega
     by_cases c3:j=l
     ·rw[if_pos c3];exact l2 i hil
     ·rw[if_neg c3];by_cases c4:l<j/\j<=k
      ·rw[if_pos c4];by_cases c5:i=j - 1
       ·omega
       ·exact s i (j - 1) (by omega) (by omega)
      ·rw[if_neg c4];exact s i j hij (by omega)
  have:=OD o f (bubble p k (k - l)) (k+1) hq hs (by omega);exact Sat.mono (λq ⟨q1,q2⟩=>⟨q1,by rw[show k+(f+1)=k+1+f by omega];exact q2⟩) this
theorem Vs(o:Ord n lt)(hn:1<=n):Sat n lt (kas_sort n) (λq=>Pm n q/\S lt q n):=by
 have h0:Pm n (adO (ab0 n)):=⟨by simp,by simp⟩;refine Sat.bind (Sat.mono (λr ⟨r1,r2,r3,r4⟩=>?_) (SX o h0 hn));by_cases hr:r.1<n
 ·rw[if_pos hr];have e:max r.1 1=r.1:=by omega
  rw[e];refine Sat.mono (λq ⟨q1,q2⟩=>⟨q1,?_⟩) (OD o (n - r.1) r.2 r.1 r1 r4 (by omega));rw[show r.1+(n - r.1)=n by omega] at q2;exact q2
 ·rw[if_neg hr];have e:r.1=n:=by omega
  rw[e] at r4;exact⟨r1,r4⟩
end
end Pu
namespace Pu
open PySem PySem.Spec PySem.W L2
open PyProof.Rows hiding St
variable{vs:List abY}
theorem tV{h:ace}{a b:abX}{out:Array abY}{o:Obj}(hb:b≠a)(e:h.get? b=some o):(afE h a vs out).get? b=some o:=by
 unfold afE;rw[adz _ _ _ _ hb];exact z1a _ (z1a _ (by rw[adz _ _ _ _ hb];exact e))
theorem sortedHeap_at{h:ace}{a:abX}{out:Array abY}{n:Nat}(e:h.get? a=some (adk "list" vs.toArray n)):∃c,(afE h a vs out).get? a=some (adk "list" out c):=by
 unfold afE;have h1:=aeU e (λ_=>(#[]:Array abY));exact⟨_,aeU (z1a _ (z1a _ h1)) λ_=>out⟩
theorem S5(vs:List abY)(h:vs.length<2):(vs.toArray.zip vs.toArray).map (·.2)=adO ((adO (ab0 vs.length)).toList.map λi=>vs.getD i aco):=by
 match vs,h with
 |[],_=>simp
 |[v],_=>simp[afF]
 |_::_::_,h=>exact absurd h (by simp)
section
variable{prog:ab9}{w:acf}{A:acg}{E:abY->abZ->Prop}{s:abZ}
theorem OJ{a:abX}{n:Nat}{P:PySem.Fin->abZ->Prop}{lt:Nat->Nat->Bool}{kk:SortKind}(ho:s.heap.get? a=some (adk "list" vs.toArray n))(h64:vs.length<64)(od:Ord vs.length lt)
  (kind:2<=vs.length->∀h':ace,(∀b ob,b≠a->s.heap.get? b=some ob->h'.get? b=some ob)->∀Q:SortKind->abZ->Prop,Q kk {s with heap:=h'}->ab4 (model prog w) A (keyKind' vs.toArray) Q (λ_ _=>False) {s with heap:=h'})
  (ask:∀h':ace,(∀b ob,b≠a->s.heap.get? b=some ob->h'.get? b=some ob)->∀i j C,i<vs.length->j<vs.length->C (lt i j) {s with heap:=h'}->kas_ask prog w A kk vs i j C {s with heap:=h'})
  (h:∀q:Array Nat,Pm vs.length q->S lt q vs.length->P (.done (.ret .none)) {s with heap:=afE s.heap a vs (adO (q.toList.map λi=>vs.getD i aco))}):
  ab4 (model prog w) A (adu.«list.sort» ⟨[.ref a],[]⟩) P E s:=by
 rw[list_sort_plain];have ha:a<s.heap.objs.size:=z2c ho;refine abW (listItems_at ho rfl ?_);refine abW (listUpdate_at ho rfl ?_ (by rw[z1c,ac6];omega) (adX _));obtain⟨e1,ho1⟩:∃e1,(s.heap.update a (adb λ_=>(#[]:Array abY))).get? a=some (adk "list" #[] e1):=⟨_,aeU ho (λ_=> #[])⟩;refine abW (seqEpoch_at ho1 rfl ?_);refine abW (wpAny_newTuple ?_ (by show vs.length<=_;rw[ac6];omega));refine abW (wpAny_newList ?_ (adX _));refine adD ?_
 generalize Zo:((s.heap.update a (adb λ_=>(#[]:Array abY))).push (adk "tuple" vs.toArray 0)).push (adk "list" #[] 0)=h6
 have ho6:h6.get? a=some (adk "list" #[] e1):=by
  rw[<-Zo];exact z1a _ (z1a _ ho1)
 have keep:∀b ob,b≠a->s.heap.get? b=some ob->h6.get? b=some ob:=λb ob hb e=>by
  rw[<-Zo];exact z1a _ (z1a _ (by rw[adz _ _ _ _ hb];exact e))
 have hsh:∀out:Array abY,afE s.heap a vs out=h6.update a (adb λ_=>out):=λout=>by rw[<-Zo];rfl
 show ab4 (model prog w) A _ P E {s with heap:=h6}
 dsimp only
 have hsz:vs.toArray.size=vs.length:=by simp
 by_cases h2:vs.toArray.size<2
 ·rw[if_pos h2,if_pos h2];refine abW (ab1 ?_);rw[StateT.run_pure];refine abW (ab1 ?_)
  dsimp only
  refine abW (seqEpoch_at ho6 rfl ?_);refine abW (listUpdate_at ho6 rfl ?_ (adX _) (by show (((pairsOf vs)).map (·.2)).size<=_;rw[Array.size_map,pairsOf_size,ac6];omega));simp only[bne_self_eq_false,acP,if_false];have q:=h (adO (ab0 vs.length)) ⟨by simp,by simp⟩ (λi j h1 h3=>by omega);rw[hsh] at q;have eo:(arrOf (SortSt.mk' general' (vs.toArray.zip vs.toArray) #[] 7 none)).map (·.2)=adO ((adO (ab0 vs.length)).toList.map λi=>vs.getD i aco):=by
   show (vs.toArray.zip vs.toArray).map (·.2)=_;exact S5 vs (by rw[<-hsz];exact h2)
  refine ab1 ?_;show P _ {s with heap:=h6.update a (adb λ_=>(arrOf (SortSt.mk' general' (vs.toArray.zip vs.toArray) #[] 7 none)).map (·.2))};rw[eo];exact q
 ·rw[if_neg h2,if_neg h2];have h2':2<=vs.length:=by rw[hsz] at h2;omega
  refine abW (ac1 (kind h2' h6 keep (λκ s'=>κ=kk/\s'={s with heap:=h6}) ⟨rfl,rfl⟩) (λκ s0 hk=>?_) λ_ _ x=>x.elim);obtain⟨rfl,rfl⟩:=hk;have wp:(kas_sort vs.length).kasWp (kas_ask prog w A κ vs) (λp s''=>(Pm vs.length p/\S lt p vs.length)/\s''={s with heap:=h6}) {s with heap:=h6}:=
   Sat.wp (ask h6 keep) (λp hp=>⟨hp,rfl⟩) (Vs od (by omega))
  refine abW (ac1 (kat_run (Q:=λst' s'=>∃p:Array Nat,p.size=vs.length/\arrOf st'=p.map (kas_item (vs.toArray.zip vs.toArray))/\failedOf st'=none/\(Pm vs.length p/\S lt p vs.length)/\s'={s with heap:=h6})
   rfl h2' h64 (λp' st' s' a1 a2 a3 a4=>⟨p',a1,a2,a3,a4⟩) wp) ?_ λ_ _ e=>e)
  rintro⟨⟨⟩,st'⟩ s' ⟨p,hp,har,hf,⟨hpm,hps⟩,rfl⟩
  dsimp only
  have hout:=kat_snds rfl har;rw[hout];refine abW (seqEpoch_at ho6 rfl ?_);refine abW (listUpdate_at ho6 rfl ?_ (adX _) (by show (adO (p.toList.map λi=>vs.getD i aco)).size<=_;rw[z1c,z1g,ady,hp,ac6];omega));rw[hf];simp only[bne_self_eq_false,acP,if_false];have q:=h p hpm hps;rw[hsh] at q;exact ab1 q
end
section
variable{prog:ab9}{w:acf}{A:acg}{E:abY->abZ->Prop}{s:abZ}
end
section
variable{X:Cx}{pins:List (abX×Obj)}{σ:St}{H:Hp}{s:abZ}
end
theorem Gy:∀as:List abX,Vals (as.map V.ref) (as.map ab8)
 |[]=> .nil
 |a::as=> .cons rfl (Gy as)
section
variable{X:Cx}
end
section
variable{X:Cx}
end
end Pu
namespace Pu
open PySem PySem.Spec L2
open PyProof.Rows hiding St
section
variable{X:Cx}{a b:ab6}{es:List ab6}{f g:aB->R D}{fa:aB->R (List D)}{pos:Pos}
def yu(i k:Nat)(f g:aB->R D):aB->So:=λρ=>jC (f ρ) ρ λd=>jC (g ρ) ρ λe=> .nx ((ρ.set i (some (.val d))).set k (some (.val e)))
theorem DR(i k:Nat){x y:Str}{px py pt:Pos}{kt k2 pt2}(hc:X.calm=true)(hN:X.N.Nodup)(ha:DE X a f)(hb:DE X b g)(hi:X.N[i]?=some x:=by rfl)(hk:X.N[k]?=some y:=by rfl)(hik:i≠k:=by decide)
  (hx:X.env.scope.names.lookup x=some .local:=by rfl)(hy:X.env.scope.names.lookup y=some .local:=by rfl)
  (h1:ab2 [a,b] X.env=(false,eval a X.env)::ab2 [b] X.env:=by rfl)(h2:ab2 [b] X.env=(false,eval b X.env)::ab2 [] X.env:=by rfl)
  (hw:aeF [.Tuple [.Name x px,.Name y py] kt pt] (.Tuple [a,b] k2 pt2) X.env=pure (some [x,y]):=by rfl)
  (hs:aeE [.Tuple [.Name x px,.Name y py] kt pt] (.Tuple [a,b] k2 pt2) pos.line X.env=pure false:=by rfl):
  DS X (.Assign [.Tuple [.Name x px,.Name y py] kt pt] (.Tuple [a,b] k2 pt2) pos) (yu i k f g):=by
 refine PS.imp (ps_par hc hN hi hk hik hx hy (pa_cons ha (pa_cons hb pa_nil h2) h1) hw hs) λσ H E h=>?_;obtain⟨H0,O0,O,ρ,j,h⟩:=h;refine⟨ρ,O,j.inn,?_⟩;unfold yu jC at h;cases e1:f ρ with
 |bad=>rw[e1] at h;exact h
 |err c=>rw[e1] at h;exact h σ H O j
 | ok d=>
  rw[e1] at h;intro v H1 s1 rv;have j1:=j.grow s1;refine⟨ρ,O,j1.inn,?_⟩;cases e2:g ρ with
  |bad=>simp only[e2] at h;exact h
  |err c=>simp only[e2] at h;exact HJ.same (h σ H O j) s1
  | ok e=>
   simp only[e2] at h;intro w H2 s2 rw2;refine⟨v,w,rfl,?_⟩;exact h _ H2 O (((j1.grow s2).set (z1b hi).1 (rv.same s2)).set (z1b hk).1 rw2) ((Same.eU s1).trans (Same.eU s2))
def Kr(i k:Nat)(f:aB->R D)(fa:aB->R (List D)):aB->So:=λρ=>jC (f ρ) ρ λd=>match fa ρ with
 | .ok ds=>if ds.length<=1000000 then .nx ((ρ.set i (some (.val d))).set k (some (.lst ds))) else .bad
 |_=> .bad
theorem Xy(i k:Nat){x y:Str}{px py pt p3:Pos}{kt k2 pt2}(hc:X.calm=true)(hN:X.N.Nodup)(ha:DE X a f)(hb:DA X es fa)(hi:X.N[i]?=some x:=by rfl)(hk:X.N[k]?=some y:=by rfl)
  (hx:Loc X.env.scope x:=by first |exact acZ rfl |exact acM rfl)(hy:Loc X.env.scope y:=by first |exact acZ rfl |exact acM rfl)
  (hfx:X.fn x=true\/X.env.scope.names.lookup x=some .local:=by first |exact .inl rfl |exact .inr rfl)(Kc:X.fn y=true\/X.env.scope.names.lookup y=some .local:=by first |exact .inl rfl |exact .inr rfl)
  (h1:ab2 [a,.List es p3] X.env=(false,eval a X.env)::ab2 [.List es p3] X.env:=by rfl)(h2:ab2 [.List es p3] X.env=(false,eval (.List es p3) X.env)::ab2 [] X.env:=by rfl)
  (hs:aeE [.Tuple [.Name x px,.Name y py] kt pt] (.Tuple [a,.List es p3] k2 pt2) pos.line X.env=pure false:=by rfl)(hw:aeF [.Tuple [.Name x px,.Name y py] kt pt] (.Tuple [a,.List es p3] k2 pt2) X.env=pure none:=by rfl):
  DS X (.Assign [.Tuple [.Name x px,.Name y py] kt pt] (.Tuple [a,.List es p3] k2 pt2) pos) (Kr i k f fa):=by
 refine PS.imp (ps_asg (pe_tup (pa_cons ha (pa_cons (Ox hb) pa_nil h2) h1)) (pg_tup hc (pgs_cons (pg_name hN hi hx hfx) (pgs_cons (pg_name hN hk hy Kc) pgs_nil))) hs hw) λσ H E h=>?_;obtain⟨H0,O0,O,ρ,j,h⟩:=h;refine⟨ρ,O,j.inn,?_⟩;unfold Kr jC at h;cases e1:f ρ with
 |bad=>rw[e1] at h;exact h
 |err c=>rw[e1] at h;exact h σ H O j
 | ok d=>
  rw[e1] at h;intro v H1 s1 rv;have j1:=j.grow s1;refine⟨ρ,O,j1.inn,?_⟩;cases e2:fa ρ with
  |bad=>simp only[e2] at h;exact h
  |err c=>simp only[e2] at h;exact h.elim
  | ok ds=>
   simp only[e2] at h;by_cases hl:ds.length<=1000000
   ·simp only[if_pos hl] at h;intro vs H2 s2 rvs;refine⟨by rw[<-rvs.length];exact z0b hl dJ,λp hp hpk=>?_⟩;refine⟨by show 2<=sizeLine;decide,λt ht=>?_⟩;refine⟨t,[v,.ref p],rfl,SqT.of upd_same,rfl,v,[.ref p],rfl,.ref p,[],rfl,rfl,?_⟩;have j2:=(j1.grow s2).set (z1b hi).1 (rv.same s2);obtain⟨j3,r3⟩:=j2.own (z1b hk).1 (o:= .lst vs) (en:= .lst ds) hp hpk rfl ⟨p,vs,rfl,.inr rfl,upd_same,rvs.go ⟨(Same.eU (K:=X.K) (O:=O) (Same.upd hp)).ext,λa z=>z.elim .inl λe=> .inr (by rw[e];exact⟨hp,hpk⟩),(Same.eU (K:=X.K) (O:=O) (Same.upd hp)).dom⟩⟩;have s4:Same (upd H2 p (.lst vs)) (upd (upd H2 p (.lst vs)) t (.tup [v,.ref p])):=Same.upd ht;exact h _ _ _ (j3.grow s4) ((((Same.eU s1).trans (Same.eU s2)).trans r3).trans (Same.eU s4))
   ·simp only[if_neg hl] at h;exact h.elim
end
def Av(s:String):Bool:=s == "int" || s == "bool"
def wF(s:String):Bool:=s == "bool"
def tW(s:String):Bool:=s == "tuple"
def Ks(s:String):Bool:=s == "list"
def vL(s:String):Bool:=s == "str"
def d7(P:ab9)(w:acf)(K:PySem.W.Frag)(mg:Str->Option abY)(base:ace)(k:Nat)(x:Str)(n:Nat)(F:List D->R D):Prop:=
 ∃f fd ps,FnOk P w K mg base CX0 k f fd ps (Kf K n F)/\mg x=some (.ref f)/\PySem.W.keepIn K (.ref f)=true/\Binds K fd ps []
theorem bA{X:Cx}{k n m:Nat}{F:List D->R D}{x:Str}{p pos:Pos}{e:ab6}{es:List ab6}{fa:aB->R (List D)}(G:d7 X.prog X.w X.K X.mg X.base k x n F)(hr:Room m X.A)(hkm:k<=m)(ha:DA X (e::es) fa)(hg:Gl X x:=by rfl)
  (hdb:(x ==("__debug__" :Str))=false:=by decide)(he:ab2 (e::es) X.env=(false,eval e X.env)::ab2 es X.env:=by rfl)(hpl:(acO pos (ab2 es X.env)).any (·.1)=false:=by rfl):
  DE X (.Call (.Name x p) (e::es) [] pos) (aD (aV F n) fa):=by
 obtain⟨f,fd,ps,ok,hm,hk,hb⟩:=G;exact Xx ok (hr.mono hkm) hg hm hk hb ha hdb he hpl
theorem cV{A:acg}{k:Nat}(hr:Room k A):A.units+60<adn:=by have:=hr.un;omega
theorem Zq{P:ab9}{w:acf}{K:PySem.W.Frag}{mg:Str->Option abY}{base:ace}{x qual:Str}{st:acp}{f:abX}{fd:acK}{N ps:List Str}{k n m:Nat}{g:aB->So}(Fn:Fun K x qual st f fd)(hmg:mg x=some (.ref f))(hb:Binds K fd ps [])(S:FnScope N ps (defScope st))(hn:ps.length=n)(hm:N.length=n+m)
  (hbody:∀(cdv:abY) (A:acg) (outer:List PySem.Env) (s:abZ) (H:Hp) (E:XK),Room k (A.deeper (adF qual (defScope st) s.heap.objs.size f cdv))->jB (cxOf CX0 P w K mg base N qual (defScope st) f cdv A outer s H E).nox (defBody st) g):
  d7 P w K mg base (k+1) x n (bV m g):=⟨f,fd,ps,fnD Fn S hn hm hbody λds d _ e=>e,hmg,Fn.kp,hb⟩
theorem sp_law{K:PySem.W.Frag}{F:List D->R D}{H:Hp}{a:abX}{ns:List Int}{E:XK}(hS:SqL K H a (ns.map V.int))(hF:F [.lst (ns.map D.int)]= .ok (.bl true)):Kf K 1 F [.ref a] H (λv _=>v= .bl true) E:=by
 refine⟨λ_=>False,[.lst (ns.map D.int)],.cons (lY hS (λz=>z) ?_) .nil,rfl,λa z=>z.elim,?_⟩
 ·have:∀l:List Int,aO K (λ_=>False) H (l.map D.int) (l.map V.int):=by
   intro l
   induction l with
   |nil=>exact .nil
   |cons i l ih=>exact .cons (cg i) ih
  exact this ns
 ·rw[hF];exact λv H' _ r=>r.bl
end Pu
namespace Pu
open PySem PySem.Spec L2
variable{d:D}{gt:D->aB->R aB}{i j:Int}{xs:List D}{α:Type}{l:List α}{ρ:aB}
theorem O5{α:Type}{k:D->R (Option D)}{c h:α->D}:∀{l:List α},(∀a∈l,k (c a)= .ok (some (h a)))->jA k (l.map c)= .ok (l.map h)
 |[],_=>rfl
 | a::l,q=>by
  rw[z1h,jA,q a (by simp),Dz,R.bh,O5 λb hb=>q b (by simp[hb])];rfl
theorem Ea{α:Type}{c:α->Bool}:∀{l:List α},boolsOf (l.map λa=> .bl (c a))=some (l.map c)
 |[]=>rfl
 | a::l=>by
  rw[z1h,boolsOf,Ea];rfl
theorem yw{α:Type}{c:α->Int}:∀{l:List α},intsOf (l.map λa=> .int (c a))=some (l.map c)
 |[]=>rfl
 | a::l=>by
  rw[z1h,intsOf,yw];rfl
theorem Aw{α:Type}{c:α->D}{n:Nat}:∀{l:List α},(∀a∈l,dep (c a)<=n)->deps (l.map c)<=n
 |[],_=>by rw[aef,deps];omega
 | a::l,h=>by
  rw[z1h,deps];have:=h a (by simp);have:=Aw (l:=l) λb hb=>h b (by simp[hb]);omega
theorem oE{e:D}(h:d=e)(hd:dep d<=40):jN d e= .ok (.bl false):=by
 subst h;rw[jN,if_pos hd,Cq];rfl
theorem Ku{e:D}(h:d=e)(hd:dep d<=40):iM d e= .ok (.bl true):=by
 subst h;rw[iM,if_pos hd,Cq]
theorem all_true:(l.map λ_=>true).all id=true:=by
 induction l with
 |nil=>rfl
 |cons a l ih=>rw[z1h,ad4,ih];rfl
theorem atI_nat{xs:List α}{j:Nat}(h:j<xs.length):atI xs (j:Int)=some xs[j]:=by
 unfold atI ixN;rw[if_pos (by omega),if_pos (by omega),afg,afp,ac0 h]
theorem Gz{xs:List α}(h0:0<=i)(h1:i<xs.length):∃x∈xs,atI xs i=some x:=by
 obtain⟨j,rfl⟩:=acF h0;have hj:j<xs.length:=by omega
 exact⟨xs[j],List.getElem_mem hj,atI_nat hj⟩
theorem cj{n:Nat}{caps:List Nat}{fi:aB->R (List D)}{ft:aB->R Bool}{fe:aB->R D}{c h:α->D}(e1:fi ρ= .ok (l.map c))(hl:l.length<=1000000)
  (e2:∀a∈l,nY gt ft fe (Ak n caps ρ) (c a)= .ok (some (h a))):bL n caps fi gt ft fe ρ= .ok (.lst (l.map h)):=by
 rw[bL,e1,R.bh,O5 e2,R.bh,cap,if_pos (by rw[z1g];exact hl)]
def look:List (Int×Int)->Int->Int
 |[],_=>0
 |(k,v)::r,c=>if k=c then v else look r c
abbrev keys(ps:List (Int×Int)):List Int:=ps.map (·.1)
section
variable{ρ ρ':aB}{f g:aB->R D}{fa:aB->R (List D)}{p q:aB->R Bool}{x y d:D}{xs ds:List D}{r:R D}{k:D->D->R D}{c:List D->R D}{n:Nat}{F:List D->R D}{o:So}{s t:aB->So}{gt:D->aB->R aB}{b:Bool}
theorem aU(e:fa ρ= .ok ds)(h:c ds=r):aD c fa ρ=r:=by rw[aD,e];exact h
theorem aR(e:fa ρ= .ok ds)(h:F ds= .ok d)(hl:ds.length=n:=by rfl):aD (aV F n) fa ρ= .ok d:=by rw[aD,e,R.bh,aV,if_pos hl,h];rfl
theorem ao(e1:f ρ= .ok x)(e2:fa ρ= .ok xs):ak f fa ρ= .ok (x::xs):=by rw[ak,e1,R.bh,e2];rfl
theorem au(e:f ρ= .ok x):ak f (λ_=> .ok []) ρ= .ok [x]:=ao e rfl
theorem aq(e1:f ρ= .ok x)(e2:g ρ= .ok y)(h:k x y=r):bin f g k ρ=r:=by rw[bin,e1,R.bh,e2];exact h
theorem yx(e1:f ρ= .ok (.bl true))(e2:g ρ=r):uw f g ρ=r:=by rw[uw,e1];exact e2
theorem Eb{h:aB->R D}{l:D->D->R D}{z:D}(e1:f ρ= .ok x)(e2:g ρ= .ok y)(e3:k x y= .ok (.bl true))(e4:h ρ= .ok z)(e5:l y z=r):Bt f g h k l ρ=r:=by
 rw[Bt,e1,R.bh,e2,R.bh,e3,R.bh];show (h ρ).bind _=_;rw[e4];exact e5
theorem cu(e:fa ρ= .ok ds)(h:ds.length<=1000000:=by exact adM rfl):cU fa ρ= .ok (.tup ds):=by rw[cU,e,R.bh,cap,if_pos h]
theorem dX(e:fa ρ= .ok ds)(h:ds.length<=1000000:=by exact adM rfl):gY fa ρ= .ok (.lst ds):=by rw[gY,e,R.bh,cap,if_pos h]
theorem jq(e:f ρ= .ok (.tup ds)):fj f ρ= .ok ds:=by rw[fj,e];rfl
theorem j9(e:f ρ= .ok (.lst ds)):fj f ρ= .ok ds:=by rw[fj,e];rfl
theorem jO{m:Nat}(e:fa ρ= .ok [.int (m:Int)])(h:m<2^62):(λρ=>(fa ρ).bind jz) ρ= .ok ((ab0 m).map λ(i:Nat)=>D.int (i:Int)):=by
 show (fa ρ).bind jz=_;rw[e,R.bh,jz,if_pos ⟨by have:(0:Int)<=m:=aeo m;omega,by omega⟩];simp[upto]
theorem cM{ρ1:aB}(e1:gt x ρ= .ok ρ1)(e2:f ρ1= .ok d):nY gt (λ_=> .ok true) f ρ x= .ok (some d):=by
 rw[nY,e1,R.bh,R.bh,if_pos rfl,e2];rfl
theorem aN(e:f ρ= .ok (.bl b)):bR f ρ= .ok b:=by rw[bR,e];rfl
theorem eY(e:p ρ= .ok b):lR p ρ= .ok (!b):=by rw[lR,e];rfl
theorem rM(e1:p ρ= .ok false)(e2:q ρ= .ok b):vG p q ρ= .ok b:=by rw[vG,e1,R.bh,if_neg (by decide)];exact e2
theorem jr(e1:p ρ= .ok true)(e2:q ρ= .ok b):jG p q ρ= .ok b:=by rw[jG,e1,R.bh,if_pos rfl];exact e2
theorem vM(e1:p ρ= .ok false):jG p q ρ= .ok false:=by rw[jG,e1,R.bh,if_neg (by decide)]
theorem iI{i:Nat}(h:xs[i]?=some d):bN (.tup xs) (.int (i:Int))= .ok d:=by
 obtain⟨hi,e⟩:=z1b h;rw[bN,atI_nat hi,e]
theorem Ec{i:Nat}(h:xs[i]?=some d):bN (.lst xs) (.int (i:Int))= .ok d:=by
 obtain⟨hi,e⟩:=z1b h;rw[bN,atI_nat hi,e]
theorem aF(e1:s ρ= .nx ρ')(e2:t ρ'=o):aP s t ρ=o:=by rw[aP,e1];exact e2
theorem aZ(e:f (dB ρ)= .ok d):retS f ρ= .rt d:=by rw[retS,e];rfl
theorem aQ(e:f ρ= .ok d)(e2:gt d ρ= .ok ρ'):bw f gt ρ= .nx ρ':=by rw[bw,e];show (match gt d ρ with | .ok ρ'=>So.nx ρ' |_=> .bad)=_;rw[e2]
theorem iQ(e:f (dB ρ)= .ok d):jD f ρ= .nx ρ:=by rw[jD,e];rfl
theorem cP(e:p (dB ρ)= .ok true)(e2:s ρ=o):d8 p s t ρ=o:=by rw[d8,e];exact e2
theorem bU(e:p (dB ρ)= .ok false)(e2:t ρ=o):d8 p s t ρ=o:=by rw[d8,e];exact e2
theorem bQ{m:Nat}(e:s (ds.map (λd=>some (.val d))++ab3 m none)= .rt d):bV m s ds= .ok d:=by rw[bV,e]
theorem JW{m:Nat}(e:s (ds.map (λd=>some (.val d))++ab3 m none)= .nx ρ):bV m s ds= .ok .non:=by rw[bV,e]
theorem mQ(h:(-(2^64)<i/\i<2^64)\/(-(2^64)<j/\j<2^64)):gG (.int i) (.int j)= .ok (.int (i*j)):=by
 show (if _ then _ else _)=_;rw[if_pos h]
theorem mR(h:0<j/\j<2^64):gW (.int i) (.int j)= .ok (.int (i / j)):=by
 show (if _ then _ else _)=_;rw[if_pos h]
theorem mU(h:0<j):f9 (.int i) (.int j)= .ok (.int (i % j)):=by
 show (if _ then _ else _)=_;rw[if_pos h]
theorem vN:wD [.lst (l.map λ_=> .bl true)]= .ok (.bl true):=by
 have:=Ea (c:=λ_:α=>true) (l:=l);rw[wD,this];show R.ok (D.bl _)=_;rw[all_true]
theorem Xz{c:α->Int}:Kl [.lst (l.map λa=> .int (c a))]= .ok (.int (l.map c).sum):=by rw[Kl,yw]
end
def GC:aB->So:=(aP (bw (bin (λ_=> .ok (.int 7)) (λρ=>bJ ρ 1) gG) (aK 3)) (aP (d8 (bR (bin (λρ=>bJ ρ 0) (gY (λ_=> .ok [])) jN)) (aP (bw (bin (λρ=>bJ ρ 0) (bin (λρ=>bJ ρ 1) (aD cF (ak (λρ=>bJ ρ 0) (λ_=> .ok []))) f9) bN) (aK 3)) (aP (bw (bin (λρ=>bJ ρ 1) (aD cF (ak (λρ=>bJ ρ 0) (λ_=> .ok []))) gW) (aK 4)) (aP (d8 (jG (bR (bin (λρ=>bJ ρ 3) (bin (λ_=> .ok (.int 10)) (λ_=> .ok (.int 18)) ur) R8)) (bR (bin (λρ=>bJ ρ 4) (λ_=> .ok (.int 60)) ltI))) (aP (bw (bin (λρ=>bJ ρ 3) (bin (λ_=> .ok (.int 10)) (λ_=> .ok (.int 18)) ur) gW) (aK 5)) (aP (iu (jG (bR (bin (λρ=>bJ ρ 5) (λ_=> .ok (.int 0)) qQ)) (bR (bin (λρ=>bJ ρ 4) (λ_=> .ok (.int 0)) qQ))) (aP (bw (bin (λρ=>bJ ρ 5) (λ_=> .ok (.int 1000000)) gW) (aK 5)) (bw (bin (λρ=>bJ ρ 4) (λ_=> .ok (.int 1)) cT) (aK 4))) 64) (d8 (bR (bin (λρ=>bJ ρ 5) (λ_=> .ok (.int 0)) qQ)) (retS (bin (bin (λρ=>bJ ρ 5) (λ_=> .ok (.int 1000000)) f9) (λρ=>bJ ρ 2) f9)) So.nx))) So.nx) (bw (bin (λρ=>bJ ρ 3) (bin (λ_=> .ok (.int 6553)) (bin (λρ=>bJ ρ 1) (aD cF (ak (λρ=>bJ ρ 0) (λ_=> .ok []))) gW) gG) gk) (aK 3))))) So.nx) (aP (bw (bin (bin (bin (bin (λρ=>bJ ρ 3) (λ_=> .ok (.int 2147483563)) f9) (λ_=> .ok (.int 69069)) gG) (bin (λ_=> .ok (.int 104723)) (bin (λρ=>bJ ρ 1) (λ_=> .ok (.int 1)) gk) gG) gk) (λ_=> .ok (.int 2147483563)) f9) (aK 3)) (aP (bw (bin (bin (bin (λρ=>bJ ρ 3) (λρ=>bJ ρ 3) gG) (bin (λρ=>bJ ρ 3) (λ_=> .ok (.int 3)) gW) gk) (λ_=> .ok (.int 2147483399)) f9) (aK 3)) (retS (bin (bin (bin (bin (bin (λρ=>bJ ρ 3) (λρ=>bJ ρ 3) gG) (bin (λρ=>bJ ρ 3) (λ_=> .ok (.int 7)) gW) gk) (λ_=> .ok (.int 2147483647)) f9) (λ_=> .ok (.int 11)) gW) (λρ=>bJ ρ 2) f9))))))
def tailD:aB->So:=(aP (bw (bin (bin (bin (bin (λρ=>bJ ρ 3) (λ_=> .ok (.int 2147483563)) f9) (λ_=> .ok (.int 69069)) gG) (bin (λ_=> .ok (.int 104723)) (bin (λρ=>bJ ρ 1) (λ_=> .ok (.int 1)) gk) gG) gk) (λ_=> .ok (.int 2147483563)) f9) (aK 3)) (aP (bw (bin (bin (bin (λρ=>bJ ρ 3) (λρ=>bJ ρ 3) gG) (bin (λρ=>bJ ρ 3) (λ_=> .ok (.int 3)) gW) gk) (λ_=> .ok (.int 2147483399)) f9) (aK 3)) (retS (bin (bin (bin (bin (bin (λρ=>bJ ρ 3) (λρ=>bJ ρ 3) gG) (bin (λρ=>bJ ρ 3) (λ_=> .ok (.int 7)) gW) gk) (λ_=> .ok (.int 2147483647)) f9) (λ_=> .ok (.int 11)) gW) (λρ=>bJ ρ 2) f9))))
def Zr:aB->So:=(d8 (jG (bR (bin (λρ=>bJ ρ 3) (bin (λ_=> .ok (.int 10)) (λ_=> .ok (.int 18)) ur) R8)) (bR (bin (λρ=>bJ ρ 4) (λ_=> .ok (.int 60)) ltI))) (aP (bw (bin (λρ=>bJ ρ 3) (bin (λ_=> .ok (.int 10)) (λ_=> .ok (.int 18)) ur) gW) (aK 5)) (aP (iu (jG (bR (bin (λρ=>bJ ρ 5) (λ_=> .ok (.int 0)) qQ)) (bR (bin (λρ=>bJ ρ 4) (λ_=> .ok (.int 0)) qQ))) (aP (bw (bin (λρ=>bJ ρ 5) (λ_=> .ok (.int 1000000)) gW) (aK 5)) (bw (bin (λρ=>bJ ρ 4) (λ_=> .ok (.int 1)) cT) (aK 4))) 64) (d8 (bR (bin (λρ=>bJ ρ 5) (λ_=> .ok (.int 0)) qQ)) (retS (bin (bin (λρ=>bJ ρ 5) (λ_=> .ok (.int 1000000)) f9) (λρ=>bJ ρ 2) f9)) So.nx))) So.nx)
def WX:aB->R Bool:=(jG (bR (bin (λρ=>bJ ρ 5) (λ_=> .ok (.int 0)) qQ)) (bR (bin (λρ=>bJ ρ 4) (λ_=> .ok (.int 0)) qQ)))
def wbD:aB->So:=(aP (bw (bin (λρ=>bJ ρ 5) (λ_=> .ok (.int 1000000)) gW) (aK 5)) (bw (bin (λρ=>bJ ρ 4) (λ_=> .ok (.int 1)) cT) (aK 4)))
section
variable{S s0 s1 s2 s3 x y:Option Ent}{k m c:Int}
theorem tail_eq(hm:0<m):∃v,tailD [S,some (.val (.int k)),some (.val (.int m)),some (.val (.int c)),x,y]= .rt (.int v)/\0<=v/\v<m:=by
 refine⟨_,aF (aQ (aq (aq (aq (aq rfl rfl (mU (by omega))) rfl (mQ (.inr ⟨by omega,by omega⟩))) (aq rfl (aq rfl rfl rfl) (mQ (.inl ⟨by omega,by omega⟩))) rfl) rfl (mU (by omega))) rfl)
  (aF (aQ (aq (aq (aq rfl rfl (mQ (.inl ?b1))) (aq rfl rfl (mR ⟨by omega,by omega⟩)) rfl) rfl (mU (by omega))) rfl)
  (aZ (aq (aq (aq (aq (aq rfl rfl (mQ (.inl ?b2))) (aq rfl rfl (mR ⟨by omega,by omega⟩)) rfl) rfl (mU (by omega))) rfl (mR ⟨by omega,by omega⟩)) rfl (mU hm)))),aeV _ (by omega),aep _ hm⟩
 case b1=>
  have h1:=aeV (c % 2147483563*69069+104723*(k+1)) (b:=2147483563) (by omega);have h2:=aep (c % 2147483563*69069+104723*(k+1)) (b:=2147483563) (by omega);constructor <;> omega
 case b2=>
  generalize (c % 2147483563*69069+104723*(k+1)) % 2147483563=z
  have h1:=aeV (z*z+z / 3) (b:=2147483399) (by omega);have h2:=aep (z*z+z / 3) (b:=2147483399) (by omega);constructor <;> omega
theorem o7:qQ (.int i) (.int j)= .ok (.bl (decide (j<i))):=rfl
theorem Kv:∀{n:Nat} {t r:Int},0<=t->t<n->∃t' r',iu WX wbD n [s0,s1,s2,s3,some (.val (.int t)),some (.val (.int r))]= .nx [s0,s1,s2,s3,some (.val (.int t')),some (.val (.int r'))]
 |0,t,r,h0,h1=>by omega
 | n+1,t,r,h0,h1=>by
  rw[iu];by_cases hr:0<r
  ·by_cases ht:0<t
   ·obtain⟨t',r',e⟩:=Kv (n:=n) (t:=t - 1) (r:=r / 1000000) (by omega) (by omega);refine⟨t',r',?_⟩;have e1:WX (dB [s0,s1,s2,s3,some (.val (.int t)),some (.val (.int r))])= .ok true:=jr (aN (aq rfl rfl (by rw[o7,decide_eq_true hr]))) (aN (aq rfl rfl (by rw[o7,decide_eq_true ht])));have e2:wbD [s0,s1,s2,s3,some (.val (.int t)),some (.val (.int r))]= .nx [s0,s1,s2,s3,some (.val (.int (t - 1))),some (.val (.int (r / 1000000)))]:=aF (aQ (aq rfl rfl (mR ⟨by omega,by omega⟩)) rfl) (aQ (aq rfl rfl rfl) rfl);simp only[e1,e2];exact e
   ·refine⟨t,r,?_⟩;have e1:WX (dB [s0,s1,s2,s3,some (.val (.int t)),some (.val (.int r))])= .ok false:=jr (aN (aq rfl rfl (by rw[o7,decide_eq_true hr]))) (aN (aq rfl rfl (by rw[o7,decide_eq_false ht])));simp only[e1]
  ·refine⟨t,r,?_⟩;have e1:WX (dB [s0,s1,s2,s3,some (.val (.int t)),some (.val (.int r))])= .ok false:=vM (aN (aq rfl rfl (by rw[o7,decide_eq_false hr])));simp only[e1]
theorem Ed:ur (.int 10) (.int 18)= .ok (.int 1000000000000000000):=by
 unfold ur iD;simp only[];rw[if_pos ⟨by decide,by decide,by decide⟩];rfl
theorem Zt{t:Int}(hm:0<m)(ht:0<=t):(∃t' x',Zr [S,some (.val (.int k)),some (.val (.int m)),some (.val (.int c)),some (.val (.int t)),x]= .nx [S,some (.val (.int k)),some (.val (.int m)),some (.val (.int c)),some (.val (.int t')),x'])\/
  ∃v,Zr [S,some (.val (.int k)),some (.val (.int m)),some (.val (.int c)),some (.val (.int t)),x]= .rt (.int v)/\0<=v/\v<m:=by
 by_cases h1:1000000000000000000<=c
 ·by_cases h2:t<60
  ·have e:(jG (bR (bin (λρ=>bJ ρ 3) (bin (λ_=> .ok (.int 10)) (λ_=> .ok (.int 18)) ur) R8)) (bR (bin (λρ=>bJ ρ 4) (λ_=> .ok (.int 60)) ltI))) (dB [S,some (.val (.int k)),some (.val (.int m)),some (.val (.int c)),some (.val (.int t)),x])= .ok true:=
    jr (aN (aq rfl (aq rfl rfl Ed) (by show R.ok (D.bl (decide _))=_;rw[decide_eq_true h1]))) (aN (aq rfl rfl (by show R.ok (D.bl (decide _))=_;rw[decide_eq_true h2])))
   obtain⟨t',r',ew⟩:=Kv (s0:=S) (s1:=some (.val (.int k))) (s2:=some (.val (.int m))) (s3:=some (.val (.int c))) (n:=64) (t:=t) (r:=c / 1000000000000000000) ht (by omega);by_cases h3:0<r'
   ·exact .inr ⟨_,cP e (aF (aQ (aq rfl (aq rfl rfl Ed) (mR ⟨by omega,by omega⟩)) rfl) (aF ew (cP (aN (aq rfl rfl (by rw[o7,decide_eq_true h3]))) (aZ (aq (aq rfl rfl (mU (by omega))) rfl (mU hm)))))),aeV _ (by omega),aep _ hm⟩
   ·exact .inl ⟨t',some (.val (.int r')),cP e (aF (aQ (aq rfl (aq rfl rfl Ed) (mR ⟨by omega,by omega⟩)) rfl) (aF ew (bU (aN (aq rfl rfl (by rw[o7,decide_eq_false h3]))) rfl)))⟩
  ·exact .inl ⟨t,x,bU (jr (aN (aq rfl (aq rfl rfl Ed) (by show R.ok (D.bl (decide _))=_;rw[decide_eq_true h1]))) (aN (aq rfl rfl (by show R.ok (D.bl (decide _))=_;rw[decide_eq_false h2])))) rfl⟩
 ·exact .inl ⟨t,x,bU (vM (aN (aq rfl (aq rfl rfl Ed) (by show R.ok (D.bl (decide _))=_;rw[decide_eq_false h1])))) rfl⟩
end
theorem gD{s t:aB->So}(e1:s ρ= .rt d):aP s t ρ= .rt d:=by rw[aP,e1]
theorem yC(h:atI xs i=some d):bN (.lst xs) (.int i)= .ok d:=by rw[bN,h]
theorem Vt{ns:List Int}{k m:Int}(hl:ns.length<=1000000)(hk:0<=k)(hm:0<m):∃v,bV 3 GC [.lst (ns.map .int),.int k,.int m]= .ok (.int v)/\0<=v/\v<m:=by
 have hd:dep (.lst (ns.map .int))<=40:=by
  rw[dep];have:=Aw (c:=D.int) (n:=0) (l:=ns) (λa _=>by simp[dep]);omega
 cases ns with
 | nil=>
  obtain⟨v,e,h⟩:=tail_eq (S:=some (.val (.lst []))) (k:=k) (c:=7*k) (x:=none) (y:=none) hm;exact⟨v,bQ (aF (aQ (aq rfl rfl (mQ (.inl ⟨by omega,by omega⟩))) rfl) (aF (bU (aN (aq rfl (dX rfl) (oE rfl hd))) rfl) e)),h⟩
 | cons a ns=>
  have hn:jN (.lst ((a::ns).map .int)) (.lst [])= .ok (.bl true):=by
   rw[jN,if_pos hd];rfl
  have hlen:(0:Int)<(((a::ns).map D.int).length:Int):=by rw[z1g,acn];omega
  have hlen2:(((a::ns).map D.int).length:Int)<2^64:=by rw[z1g];omega
  obtain⟨d,hd1,hd2⟩:=Gz (xs:=(a::ns).map D.int) (i:=k % (((a::ns).map D.int).length:Int)) (aeV _ (by omega)) (aep _ hlen);obtain⟨c,-,rfl⟩:=acA.mp hd1;have ht:0<=k / (((a::ns).map D.int).length:Int):=Int.ediv_nonneg hk (by omega)
  generalize hL:(((a::ns).map D.int).length:Int)=L at *
  have Ef:∀(S x1 x2 x3 x4 x5:Option Ent),S=some (Ent.val (.lst ((a::ns).map D.int)))->aD cF (ak (λρ=>bJ ρ 0) (λ_=> .ok [])) [S,x1,x2,x3,x4,x5]= .ok (.int L):=by
   intro S x1 x2 x3 x4 x5 e;subst e;rw[<-hL];exact aU (au rfl) rfl
  rcases Zt (S:=some (.val (.lst ((a::ns).map .int)))) (k:=k) (m:=m) (c:=c) (x:=none) hm ht with⟨t',x',e⟩ |⟨v,e,h⟩
  ·obtain⟨v,e2,h⟩:=tail_eq (S:=some (.val (.lst ((a::ns).map .int)))) (k:=k) (c:=c+6553*(k / L)) (x:=some (.val (.int t'))) (y:=x') hm;exact⟨v,bQ (aF (aQ (aq rfl rfl (mQ (.inl ⟨by omega,by omega⟩))) rfl) (aF (cP (aN (aq rfl (dX rfl) hn))
    (aF (aQ (aq rfl (aq rfl (Ef _ _ _ _ _ _ rfl) (mU hlen)) (yC hd2)) rfl) (aF (aQ (aq rfl (Ef _ _ _ _ _ _ rfl) (mR ⟨hlen,hlen2⟩)) rfl) (aF e (aQ (aq rfl (aq rfl (aq rfl (Ef _ _ _ _ _ _ rfl) (mR ⟨hlen,hlen2⟩)) (mQ (.inl ⟨by omega,by omega⟩))) rfl) rfl))))) e2)),h⟩
  ·exact⟨v,bQ (aF (aQ (aq rfl rfl (mQ (.inl ⟨by omega,by omega⟩))) rfl) (gD (cP (aN (aq rfl (dX rfl) hn))
    (aF (aQ (aq rfl (aq rfl (Ef _ _ _ _ _ _ rfl) (mU hlen)) (yC hd2)) rfl) (aF (aQ (aq rfl (Ef _ _ _ _ _ _ rfl) (mR ⟨hlen,hlen2⟩)) rfl) (gD e)))))),h⟩
theorem fU{ρ1 ρ2:aB}{b:aB->So}{x:D}{o:So}(e1:gt x ρ= .ok ρ1)(e2:b ρ1= .nx ρ2)(e3:forL gt b xs ρ2=o):forL gt b (x::xs) ρ=o:=by
 rw[forL];simp only[e1,e2];exact e3
theorem jP{fi:aB->R (List D)}{b:aB->So}{o:So}(e1:fi ρ= .ok xs)(e2:forL gt b xs ρ=o):lV fi gt b ρ=o:=by
 rw[lV,e1];exact e2
theorem XC{i k:Nat}{f:aB->R D}{fa:aB->R (List D)}{ds:List D}(e1:f ρ= .ok d)(e2:fa ρ= .ok ds)(h:ds.length<=1000000:=by exact adM rfl):Kr i k f fa ρ= .nx ((ρ.set i (some (.val d))).set k (some (.lst ds))):=by
 unfold Kr;rw[e1];simp only[jC,e2];rw[if_pos h]
theorem qY{i k:Nat}{f g:aB->R D}{e:D}(e1:f ρ= .ok d)(e2:g ρ= .ok e):yu i k f g ρ= .nx ((ρ.set i (some (.val d))).set k (some (.val e))):=by
 unfold yu;rw[e1];simp only[jC,e2]
def dr(ns:List Int)(k m:Int):Int:=match bV 3 GC [.lst (ns.map .int),.int k,.int m] with
 | .ok (.int v)=>v
 |_=>0
theorem o8{ns:List Int}{k m:Int}(hl:ns.length<=1000000)(hk:0<=k)(hm:0<m):bV 3 GC [.lst (ns.map .int),.int k,.int m]= .ok (.int (dr ns k m))/\0<=dr ns k m/\dr ns k m<m:=by
 obtain⟨v,e,h⟩:=Vt hl hk hm;have:dr ns k m=v:=by rw[dr,e]
 rw[this];exact⟨e,h⟩
end Pu
namespace Pu
open PySem PySem.Spec L2
open PyProof.Rows hiding St
variable{l it l1 l2 C i1 i2:abX}{O O0:abX->Prop}{params:aeb}{xs:Array abY}{t t1 t2:Bool}{tg iter elt:ab6}{fd:acK}{h h' b0:ace}{H:Hp}{pins:List (abX×Obj)}{ts:List (abX×Str)}{clos:List (Str×abX)}{ifs:List ab6}{outer:List PySem.Env}{body:List acp}{N ps:List Str}{zs ys vs:List V}{k i n:Nat}{pos pos':Pos}{P:ab9}{env:PySem.Env}{K:PySem.W.Frag}{ρ:aB}{ft:aB->R Bool}{scope:adA}{σ:St}{qual name y:Str}{α:Type}{Q:abY->abZ->Prop}{w:acf}
section
variable{X:Cx}
def rN:List D->R D
 |[.int i]=> .ok (.int (if i<0 then -i else i))
 |_=> .bad
theorem vO:CallD X (.builtin "abs") rN:=by
 refine⟨_,call_abs,λρ O σ H Q xs ds j r h=>?_⟩;unfold rN at h;split at h
 ·rename_i i;obtain⟨x,rfl,rx⟩:=r.one;exact⟨i,by rw[rx.int],fin h (cg _)⟩
 ·exact h.elim
def maxD:List D->R D
 |[.int i,.int j]=> .ok (.int (if j > i then j else i))
 |_=> .bad
theorem vP(hc:X.calm=true):CallD X (.builtin "max") maxD:=by
 refine⟨_,call_max2 hc,λρ O σ H Q xs ds j r h=>?_⟩;unfold maxD at h;split at h
 ·rename_i i k;obtain⟨x,y,rfl,rx,ry⟩:=r.two;exact⟨i,k,by rw[rx.int,ry.int],fin h (cg _)⟩
 ·exact h.elim
def minD:List D->R D
 |[.int i,.int j]=> .ok (.int (if j<i then j else i))
 |_=> .bad
theorem pN(hc:X.calm=true):CallD X (.builtin "min") minD:=by
 refine⟨_,call_min2 hc,λρ O σ H Q xs ds j r h=>?_⟩;unfold minD at h;split at h
 ·rename_i i k;obtain⟨x,y,rfl,rx,ry⟩:=r.two;exact⟨i,k,by rw[rx.int,ry.int],fin h (cg _)⟩
 ·exact h.elim
def Eh:D->Bool
 | .non=>true
 |_=>false
theorem O6{d:D}{v:V}(r:Rep K O H d v):decide (v= .non)=Eh d:=by
 cases d with
 |non=>rw[r.non];rfl
 |bl b=>rw[r.bl];rfl
 |int i=>rw[r.int];rfl
 |str x=>rw[r.str];rfl
 |tup ds=>obtain⟨a,xs,rfl,_⟩:=r.tup;rfl
 |lst ds=>obtain⟨a,xs,rfl,_⟩:=r.lst;rfl
def isD:D->D->R D
 |d,.non=> .ok (.bl (Eh d))
 |_,_=> .bad
def S6:D->D->R D
 |d,.non=> .ok (.bl (!Eh d))
 |_,_=> .bad
theorem QL:gw X (acr .Is) isD:=by
 refine⟨_,op_isN,λρ O σ H Q x y dx dy j0 rx ry h=>?_⟩;cases dy with
 |non=>exact⟨ry.non,by rw[O6 rx];exact fin (a:=D.bl (Eh dx)) h (eV _)⟩
 |_=>cases dx <;> exact h.elim
theorem Vu:gw X (acr .IsNot) S6:=by
 refine⟨_,op_notN,λρ O σ H Q x y dx dy j0 rx ry h=>?_⟩;cases dy with
 |non=>exact⟨ry.non,by rw[O6 rx];exact fin (a:=D.bl (!Eh dx)) h (eV _)⟩
 |_=>cases dx <;> exact h.elim
theorem XD:OpR X (acJ .Add) (λx y H Q=>∃a b ys,x= .ref a/\y= .ref b/\SqT X.K H a []/\SqT X.K H b ys/\Q (.ref b) H):=by
 intro pins s σ H x y v u Q I rx ry h;obtain⟨a,b,ys,rfl,rfl,ha,hb,q⟩:=h;cases rx;cases ry;obtain⟨its,r1,p1,_⟩:=I.tuple ha;obtain⟨its2,r2,p2,_⟩:=I.tuple hb;cases r1;obtain⟨⟨cls,dd,data,sl⟩,ho,hc,n,hd⟩:=id p1;obtain⟨⟨cls2,dd2,data2,sl2⟩,ho2,hc2,n2,hd2⟩:=id p2;simp only at hc hd hc2 hd2;subst hc hd hc2 hd2;exact agn ⟨_,ho,rfl⟩ ⟨_,ho2,rfl⟩ ago seq_tuple_add PySem.F.slot_tuple_add PySem.F.entry_tuple_add (PySem.F.args_tuple_add_2 _ _)
   (tuple_addW0 a b _ _ n n2 dd dd2 sl sl2 rfl) ⟨ho,ho2,⟨.ref b,H,I,rfl,q⟩⟩
def abp:D->R D
 | .int i=> .ok (.int (-i))
 |_=> .bad
def oF(f:aB->R D):aB->R D:=λρ=>(f ρ).bind abp
theorem rO{e:ab6}{f:aB->R D}(he:DE X e f):DE X (.UnaryOp .USub e pos) (oF f):=by
 refine PE.imp (pe_un un_neg he) λσ H Q h=>?_;obtain⟨ρ,O,j,h⟩:=h;refine go j h λd v H1 e1 s1 r1 j1 h1=>?_;cases d with
 |int i=>exact⟨i,r1.int,fin h1 (cg _)⟩
 |_=>exact h1.elim
theorem XF:OpR X (acJ .Add) (λx y H Q=>∃a b xs ys,x= .ref a/\y= .ref b/\SqL X.K H a xs/\SqL X.K H b ys/\xs.length+ys.length<=sizeLine/\∀p,H p=none->Q (.ref p) (upd H p (.lst (xs++ys)))):=by
 intro pins s σ H x y v u Q I rx ry h;obtain⟨a,b,xs,ys,rfl,rfl,ha,hb,hz,q⟩:=h;cases rx;cases ry;obtain⟨its,r1,p1,_⟩:=I.list ha;obtain⟨its2,r2,p2,_⟩:=I.list hb;obtain⟨⟨cls,dd,data,sl⟩,n,ho,hc,hdd,hd⟩:=id p1;obtain⟨⟨cls2,dd2,data2,sl2⟩,n2,ho2,hc2,abT,hd2⟩:=id p2;simp only at hc hd hc2 hd2;subst hc hd hc2 hd2;refine agn ⟨_,ho,rfl⟩ ⟨_,ho2,rfl⟩ noFill_list_add seq_list_add PySem.F.slot_list_add PySem.F.entry_list_add (PySem.F.args_list_add_2 _ _)
   (list_addW a b _ _ n n2 dd dd2 sl sl2 (by rw[z1c,z1c,<-r1.length,<-r2.length];exact hz)) ⟨ho,ho2,?_⟩
 have ea:its.toArray++its2.toArray=(its++its2).toArray:=by simp
 rw[ea];exact⟨.ref _,_,I.lnew (t':=s.toks) (r1.append r2) (by rw[z1d];omega),rfl,q _ I.fresh⟩
def c7:D->D->R D
 | .int i,.int j=> .ok (.int (i+j))
 | .tup xs,.tup ys=>if xs.length+ys.length<=1000000 then .ok (.tup (xs++ys)) else .bad
 | .lst xs,.lst ys=>if xs.length+ys.length<=1000000 then .ok (.lst (xs++ys)) else .bad
 |_,_=> .bad
theorem cD:gw X (acJ .Add) c7:=by
 refine⟨_,OpR.or op_add (OpR.or op_catT (OpR.or XD XF)),λρ O σ H Q x y dx dy j0 rx ry h=>?_⟩;cases dx <;> cases dy <;> first
  |exact h.elim
  |skip
 ·rename_i i j;exact .inl ⟨i,j,rx.int,ry.int,fin h (cg _)⟩
 ·rename_i xs ys;have h:good X (rD X) O (if xs.length+ys.length<=1000000 then .ok (.tup (xs++ys)) else .bad) σ H Q:=h;by_cases hc:xs.length+ys.length<=1000000
  ·rw[if_pos hc] at h;obtain⟨a,us,rfl,ha,r1⟩:=rx.tup;obtain⟨b,ws,rfl,hb,r2⟩:=ry.tup;by_cases hx:us=[]
   ·subst hx;have:xs=[]:=acu r1.length;subst this;exact .inr (.inr (.inl ⟨a,b,ws,rfl,rfl,ha,hb,fin h (gZ hb r2)⟩))
   ·refine .inr (.inl ⟨a,b,us,ws,rfl,rfl,ha,hb,hx,?_,λz=>?_,λz l hl=>?_⟩)
    ·rw[<-r1.length,<-r2.length];exact z0b hc dJ
    ·subst z;have:ys=[]:=acu r2.length;subst this;rw[acE] at h;exact fin h (gZ ha r1)
    ·exact h _ _ (Same.upd hl) (Rep.nQ hl (r1.append r2))
  ·rw[if_neg hc] at h;exact h.elim
 ·rename_i xs ys;have h:good X (rD X) O (if xs.length+ys.length<=1000000 then .ok (.lst (xs++ys)) else .bad) σ H Q:=h;by_cases hc:xs.length+ys.length<=1000000
  ·rw[if_pos hc] at h;obtain⟨a,us,rfl,ha,_,r1⟩:=rx.lst;obtain⟨b,ws,rfl,hb,_,r2⟩:=ry.lst;refine .inr (.inr (.inr ⟨a,b,us,ws,rfl,rfl,ha,hb,?_,λl hl=>?_⟩))
   ·rw[<-r1.length,<-r2.length];exact z0b hc dJ
   ·exact h _ _ (Same.upd hl) (Rep.lZ hl (j0.uq hl) (r1.append r2))
  ·rw[if_neg hc] at h;exact h.elim
end
section
variable{prog:ab9}{w:acf}{A:acg}{E:abY->abZ->Prop}{s:abZ}
open HT in
theorem yc{t sl:abX}{items:Array abY}{vl vu:abY}{lo hi:Option Int}(ht:IsTup s.heap t items)(hs:s.heap.IsSliceOf sl vl vu .none)(pl:afB vl lo)(pu:afB vu hi)
  (hw:sIx items.size 0 lo=0/\sIx items.size items.size hi=items.size)(h:Q (.ref t) s):ab4 (model prog w) A (getItem (.ref t) (.ref sl)) Q E s:=by
 obtain⟨os,hos,hcs,hds⟩:=id hs;have hTs:s.TypeIs (.ref sl) "slice" :=⟨os,hos,hcs⟩;unfold getItem
 try with_reducible refine adD ?_
 first |refine abW (ab1 ?_) |skip
 refine abW (wpAny_sequenceKey ht.typeIs (by decide) ?_);refine abW (ac8 (name:=acC "__getitem__") ht.typeIs ac7
  (acT ac7 ht.typeIs entry_tuple_getitem ?_ (args_tuple_getitem _ _)))
 show ab4 _ _ (af3 (.ref t) >>=_) _ _ s;refine abW (tupleItemsOf_ ht ?_);refine abW (agr hTs ?_);rw[if_pos (by decide)];refine abW (sliceApplied_gen hs pl pu ?_);show ab4 _ _ (if (((sIx items.size 0 lo:Nat):Int) ==0 && (1:Int) ==1 && (sIx items.size items.size hi - sIx items.size 0 lo) ==items.size)=true then _ else _) _ _ s;rw[if_pos (by rw[hw.1,hw.2];simp)];refine abW (m:=Builtin.Tuple.tupleIsExact _) (abW (agr ht.typeIs (ab1 ?_)));rw[if_pos (beq_self_eq_true _)]
 first
  |exact abW (ab1 (ab1 ⟨_,rfl,ab1 h⟩))
  |exact abW (ad6 (ab1 ⟨_,rfl,ab1 h⟩))
end
section
variable{X:Cx}{e e1:ab6}{lo hi:Option ab6}{f f1:aB->R D}{fl fu:aB->R (Option Int)}{pos p2:Pos}
def abq(K:PySem.W.Frag):V->Option Int->Option Int->Hp->VK->Prop:=λx lo hi H Q=>∃a xs,x= .ref a/\SqT K H a xs/\
 (HT.sIx xs.length 0 lo=0/\HT.sIx xs.length xs.length hi=xs.length)/\Q (.ref a) H
theorem XH:SlR X (abq X.K):=by
 intro pins s σ H x v vl vu lo hi sl Q I rx hs pl pu h;obtain⟨a,xs,rfl,hx,hw,q⟩:=h;cases rx;obtain⟨its,r,ht,hz⟩:=I.tuple hx;have hlen:its.toArray.size=xs.length:=by rw[z1c];exact r.length.symm
 exact⟨"tuple",_,ac7.lookup,ht.typeIs,yc ht hs pl pu (by rw[hlen];exact hw) ⟨.ref a,H,I,rfl,q⟩⟩
abbrev abr:(abX->Prop)->Hp->Option Int->Option Int->Prop:=λ_ _ a b=>a=b
def O7(X:Cx)(lo:Option ab6)(fo:aB->R (Option Int)):Prop:=PO X lo (tG X abr fo)
theorem PO.imp{t t':TO}(h:PO X lo t)(w:∀σ H Q,t' σ H Q->t σ H Q):PO X lo t':=λpins s σ H Q I q=>h pins s σ H Q I (w σ H Q q)
theorem rP:O7 X none (λ_=> .ok none):=by
 refine PO.imp po_none λσ H Q h=>?_;obtain⟨ρ,O,j,h⟩:=h;exact fin h rfl
def Ia:D->R (Option Int)
 | .int i=> .ok (some i)
 |_=> .bad
theorem rQ(h:DE X e1 f1):O7 X (some e1) (λρ=>(f1 ρ).bind Ia):=by
 refine PO.imp (po_some h) λσ H Q h=>?_;obtain⟨ρ,O,j,h⟩:=h;refine go j h λd v H1 e1 s1 r1 j1 h1=>?_;cases d with
 |int i=>exact⟨i,r1.int,fin h1 rfl⟩
 |_=>exact h1.elim
def iY(ds:List D)(lo hi:Option Int):List D:=(ds.drop (HT.sIx ds.length 0 lo)).take (HT.sIx ds.length ds.length hi - HT.sIx ds.length 0 lo)
def Kw(d:D)(lo hi:Option Int):R D:=match d with
 | .tup ds=> .ok (.tup (iY ds lo hi))
 |_=> .bad
def lG(f:aB->R D)(fl fu:aB->R (Option Int)):aB->R D:=λρ=>(f ρ).bind λd=>(fl ρ).bind λl=>(fu ρ).bind λu=>Kw d l u
theorem Cu(he:DE X e f)(hl:O7 X lo fl)(hu:O7 X hi fu):DE X (.Subscript e (.Slice lo hi none p2) pos) (lG f fl fu):=by
 refine PE.imp (pe_slice (SlR.or sl_tup XH) he hl hu) λσ H Q h=>?_;obtain⟨ρ,O,j,h⟩:=h;refine go j h λd v H1 e1 s1 r1 j1 h1=>?_;refine go j1 h1 λl l' H2 e2 s2 r2 j2 h2=>?_;refine go j2 h2 λu u' H3 e3 s3 r3 j3 h3=>?_;have r2:l=l':=r2;have r3:u=u':=r3;subst r2 r3;cases d with
 | tup ds=>
  have r1':=(r1.same s2).same s3;obtain⟨a,xs,rfl,hq,rs⟩:=r1'.tup;have hlen:=rs.length;by_cases hw:HT.sIx xs.length 0 l=0/\HT.sIx xs.length xs.length u=xs.length
  ·refine .inr ⟨a,xs,rfl,hq,hw,?_⟩;have e:iY ds l u=ds:=by
    unfold iY;rw[hlen,hw.1,hw.2,afP,afG,<-hlen,List.take_length]
   have h3:good X (rD X) O (.ok (.tup (iY ds l u))) σ H3 Q:=h3;rw[e] at h3;exact fin h3 (gZ hq rs)
  ·refine .inl ⟨a,xs,rfl,hq,hw,λp hp=>?_⟩;refine h3 _ _ (Same.upd hp) (Rep.nQ hp ?_);unfold iY cutV;rw[hlen];exact (rs.drop _).take _
 |_=>exact h3.elim
end
def pickK{α:Type}(z:α)(sel:List (Sum Nat α))(ws:List α):List α:=sel.map λ
 | .inl i=>ws.getD i z
 | .inr c=>c
inductive Sel:List (Sum Nat abY)->List (Sum Nat V)->List (Sum Nat D)->Prop
 |nil:Sel [] [] []
 |at (i:Nat) {a b c}:Sel a b c->Sel (.inl i::a) (.inl i::b) (.inl i::c)
 |non {a b c}:Sel a b c->Sel (.inr .none::a) (.inr .non::b) (.inr .non::c)
 |str (x:Str) (t:Tok) {a b c}:Sel a b c->Sel (.inr (.str x t)::a) (.inr (.str x)::b) (.inr (.str x)::c)
 |int (x:Int) (t:Tok) {a b c}:Sel a b c->Sel (.inr (.int x t)::a) (.inr (.int x)::b) (.inr (.int x)::c)
 |bl (x:Bool) {a b c}:Sel a b c->Sel (.inr (.bool x)::a) (.inr (.bl x)::b) (.inr (.bl x)::c)
theorem S7{ws:List abY}(r:Vals zs ws)(i:Nat):RelV (zs.getD i .non) (ws.getD i .none):=by
 induction r generalizing i with
 |nil=>exact rfl
 | cons h _ ih=>
  cases i with
  |zero=>exact h
  |succ i=>exact ih i
theorem Sel.vals{a b c}(s:Sel a b c){ws:List abY}(r:Vals zs ws):Vals (pickK .non b zs) (pickK .none a ws):=by
 induction s with
 |nil=>exact .nil
 | «at» i _ ih=>exact .cons (S7 r i) ih
 |non _ ih=>exact .cons rfl ih
 |str x t _ ih=>exact .cons ⟨t,rfl⟩ ih
 |int x t _ ih=>exact .cons ⟨t,rfl⟩ ih
 |bl x _ ih=>exact .cons rfl ih
section
variable{K:PySem.W.Frag}{O:abX->Prop}{H:Hp}
theorem Ib:∀{ds:List D} {zs:List V},aO K O H ds zs->∀i:Nat,Rep K O H (ds.getD i .non) (zs.getD i .non)
 |[],zs,r,i=>by rw[r.nil_inv];exact nM
 | d::ds,zs,r,i=>by
  obtain⟨x,t,rfl,h1,h2⟩:=r.cons_inv;cases i with
  |zero=>exact h1
  |succ i=>exact Ib h2 i
theorem Sel.reps{a b c}(s:Sel a b c){ds:List D}(r:aO K O H ds zs):aO K O H (pickK .non c ds) (pickK .non b zs):=by
 induction s with
 |nil=>exact .nil
 | «at» i _ ih=>exact .cons (Ib r i) ih
 |non _ ih=>exact .cons nM ih
 |str x t _ ih=>exact .cons (j5 x) ih
 |int x t _ ih=>exact .cons (cg x) ih
 |bl x _ ih=>exact .cons (eV x) ih
end
section
variable{X:Cx}{k n:Nat}{f:abX}{fd:acK}{ps ks:List Str}{F:List D->R D}{x:Str}{p pos kpos:Pos}{e:ab6}{es:List ab6}{kws:List ad0}{fa fk:aB->R (List D)}{fe:aB->R D}{nm:Option Str}
def DK(X:Cx)(kws:List ad0)(fk:aB->R (List D)):Prop:=PK X kws (tG X (Du X) fk)
theorem PK.imp{t t':TA}(h:PK X kws t)(w:∀σ H Q,t' σ H Q->t σ H Q):PK X kws t':=λpos pins s σ H Q I q=>h pos pins s σ H Q I (w σ H Q q)
theorem S8:DK X [] (λ_=> .ok []):=by
 refine PK.imp pk_nil λσ H Q h=>?_;obtain⟨ρ,O,j,h⟩:=h;exact fin h .nil
theorem O8(he:DE X e fe)(hr:DK X kws fk):DK X (⟨nm,e,kpos⟩::kws) (ak fe fk):=by
 refine PK.imp (pk_cons he hr) λσ H Q h=>?_;obtain⟨ρ,O,j,h⟩:=h;refine go j h λd v H1 e1 s1 r1 j1 h1=>?_;refine go j1 h1 λds vs H2 e2 s2 r2 j2 h2=>?_;exact fin h2 (.cons (r1.same s2) r2)
theorem Ie{z:α}{sel:List (Sum Nat α)}{ws:List α}:(pickK z sel ws).length=sel.length:=by unfold pickK;rw[z1g]
def KB(K:PySem.W.Frag)(fd:acK)(ps ks:List Str)(sel:List (Sum Nat abY)):Prop:=∀(s:abZ) (us ws:List abY),K.In s.heap->us.length+sel.length=ps.length->ws.length=ks.length->ae9 s fd ⟨us,ks.zip ws⟩ (ps.zip (us++pickK .none sel ws))
end
section
variable{X:Cx}{k n:Nat}{f:abX}{fd:acK}{ps:List Str}{F:List D->R D}{x:Str}{p pos:Pos}{e:ab6}{es:List ab6}{fa:aB->R (List D)}
end
theorem len0{l:List α}(h:l.length=0):l=[]:=acu h
theorem lW{l:List α}(h:l.length=n+1):∃a m,l=a::m/\m.length=n:=by
 cases l with
 |nil=>simp at h
 |cons a m=>exact⟨a,m,rfl,by simpa using h⟩
section
variable{X:Cx}{k m n:Nat}{fd:acK}{ps ks:List Str}{F:List D->R D}{x:Str}{p pos:Pos}{e:ab6}{es:List ab6}{kws:List ad0}{fa fk:aB->R (List D)}
end
section
variable{K:PySem.W.Frag}{kV doc pm cdv ct:abY}{an:Option abX}{body:List acp}{scope:adA}{d:abX}{t:Tok}{q:Pos}
def S9(q:Pos):aeb:={posonlyargs:=[],args:=[⟨"p",none,q⟩],vararg:=none,kwonlyargs:=[⟨"manner",none,q⟩,⟨"marks",none,q⟩],kw_defaults:=[some (.Constant (.str "worth") 0 q),some (.Constant .none 0 q)],kwarg:=none,defaults:=[]}
example:KB K (PySem.W.fnOf "f" "f" (S9 q) body scope .none kV doc pm an cdv ct) ["p","manner","marks"] ["marks","manner"] [.inl 1,.inl 0]:=by
 intro s us ws i hl hw;have hl1:us.length=1:=by simpa using hl
 clear hl
 obtain⟨u,us',rfl,hl2⟩:=lW hl1
 clear hl1
 cases len0 hl2;obtain⟨w1,ws1,rfl,hw1⟩:=lW hw
 clear hw
 obtain⟨w2,ws2,rfl,hw2⟩:=lW hw1
 clear hw1
 cases len0 hw2;exact .of_eq rfl
end
section
variable{X:Cx}
end
section
variable{K:PySem.W.Frag}{O O':abX->Prop}{H:Hp}
end
section
variable{X:Cx}{e:ab6}{f:aB->R D}{pos:Pos}
end
section
variable{prog:ab9}{w:acf}{A:acg}{E:abY->abZ->Prop}{s:abZ}{t:abX}
end
section
variable{X:Cx}
end
theorem rR:fillsNumberSlot (.type "tuple") "mul" =pure false:=
 PySem.fillsNumberSlot_seq (id:= "tuple.__mul__") (r:=some (.builtin "tuple.__rmul__")) F.slot_tuple_mul.lookup (by decide +kernel) F.slot_tuple_rmul.lookup (by decide +kernel)
theorem yD:seqRepeat? (.type "tuple")=pure (some (.builtin "tuple.__mul__")):=by
 unfold seqRepeat?;rw[PySem.seqSlot_of (T:= "tuple") (name:= "__mul__") (id:= "tuple.__mul__") F.slot_tuple_mul.lookup (by decide +kernel),PySem.seqSlot_of (T:= "tuple") (name:= "__rmul__") (id:= "tuple.__rmul__") F.slot_tuple_rmul.lookup (by decide +kernel)];rfl
theorem vQ(a:Int)(t:Tok)(l:abX)(items:Array abY)(n:Nat)(dd:Option abX)(sl:Array (Option abY)):
  Meets (adu.«int.__rmul__» ⟨[.int a t,.ref l],[]⟩) (λ_ R s=>s.heap.get? l=some {cls:= .type "tuple",dict:=dd,data:= .seq items n,slots:=sl}/\R (.ok (.ret Value.notImplemented)) s):=
 .of_wp λprog w A R s h=>by obtain⟨hp,g,d,tk,os⟩:=s;obtain⟨hl,h⟩:=h;wp_walk;exact⟨_,rfl,h⟩
theorem QM(l:abX)(items:Array abY)(n:Nat)(dd:Option abX)(sl:Array (Option abY))(t:Tok):
  Meets (adu.«tuple.__mul__» ⟨[.ref l,.int 1 t],[]⟩) (λ_ R s=>s.heap.get? l=some {cls:= .type "tuple",dict:=dd,data:= .seq items n,slots:=sl}/\R (.ok (.ret (.ref l))) {s with heap:=s.heap,toks:=s.toks}):=
 .of_wp λprog w A R s h=>by obtain⟨hp,g,d,tk,os⟩:=s;obtain⟨hl,h⟩:=h;have f1:=afq;have hc0:(items.isEmpty || (1:Int) ==1)=true:=(by simp);unfold adu.«tuple.__mul__»;wp_walk using ada hl;exact⟨_,rfl,h⟩
theorem QS(l:abX)(items:Array abY)(n:Nat)(dd:Option abX)(sl:Array (Option abY))(k:Int)(t:Tok)(hf:¬(decide (k < -(2^63)) || decide (k>=2^63))=true)(hc0:¬(items.isEmpty || k ==1)=true)(hc1:¬(decide (k<=0) || items.isEmpty)=true)
  (hc2:¬(items.size:Int)*k > (2^63 - 1) / 8)(hc3:¬af6 ((items.size:Int)*k)=true)(hsz:sizeOk (.seq (agd (λx1 x2=>x1++x2) #[] (ab3 k.toNat items)))):
  Meets (adu.«tuple.__mul__» ⟨[.ref l,.int k t],[]⟩) (λ_ R s=>s.heap.get? l=some {cls:= .type "tuple",dict:=dd,data:= .seq items n,slots:=sl}/\R (.ok (.ret (.ref s.heap.objs.size))) {s with heap:=s.heap.push {cls:=ab7 "tuple",data:=agI (agd (λx1 x2=>x1++x2) #[] (ab3 k.toNat items))},toks:=s.toks}):=
 .of_wp λprog w A R s h=>by
  obtain⟨hp,g,d,tk,os⟩:=s;obtain⟨hl,h⟩:=h;have f1:=afq;unfold adu.«tuple.__mul__»
  wp_walk using ada hl
  refine afH (by simpa using hf) ?_
  wp_walk using ada hl
  refine afH (by simpa using hc2) ?_
  wp_walk using ada hl
  refine afH (by simpa[sizeOk] using hsz) ?_
  wp_walk using ada hl
  exact⟨_,rfl,h⟩
section
variable{X:Cx}
theorem XJ:OpR X (acJ .Mult) (λx y H Q=>∃a k xs,x= .ref a/\y= .int k/\SqT X.K H a xs/\xs≠[]/\1<=k/\k<2^63/\xs.length*k.toNat<=sizeLine/\(k=1->Q (.ref a) H)/\
  (k≠1->∀p,H p=none->Q (.ref p) (upd H p (.tup (ab3 k.toNat xs).flatten)))):=by
 intro pins s σ H x y v u Q I rx ry h;obtain⟨a,k,xs,rfl,rfl,hq,hx,h1,h2,hz,q1,q2⟩:=h;cases rx;obtain⟨t,rfl⟩:=ry;obtain⟨its,r,p1,_⟩:=I.tuple hq;obtain⟨⟨cls,dd,data,sl⟩,ho,hc,n,hd⟩:=id p1;simp only at hc hd;subst hc hd;have hlen:=r.length;have hne:its≠[]:=λz=>hx (by rw[z] at r;cases r;rfl);have hpos:0<its.length:=by cases its with |nil=>exact absurd rfl hne |cons _ _=>simp
 have hemp:its.toArray.isEmpty=false:=by cases its with |nil=>exact absurd rfl hne |cons _ _=>simp
 refine aeW (T:= "tuple") (U:= "int") (by decide) ⟨_,ho,rfl⟩ (λs'=>afa s' k t) rR F.fills_int_mul F.slot_int_rmul yD F.slot_int_index.lookup
  (ad8 F.slot_int_rmul (afa s k t) F.entry_int_rmul (F.args_int_rmul_2 _ _) (vQ k t a its.toArray n dd sl) ⟨ho,rfl,⟨_,ho,rfl⟩,?_⟩)
 by_cases hk:k=1
 ·subst hk;exact ad8 F.slot_tuple_mul ⟨_,ho,rfl⟩ F.entry_tuple_mul (F.args_tuple_mul_2 _ _) (QM a its.toArray n dd sl t) ⟨ho,⟨.ref a,H,I,rfl,q1 rfl⟩⟩
 ·have hmul:(its.toArray.size:Int)*k=((xs.length*k.toNat:Nat):Int):=by
   rw[z1c,<-hlen,Int.natCast_mul,Int.toNat_of_nonneg (by omega)]
  have hnew:agd (λx1 x2=>x1++x2) #[] (ab3 k.toNat its.toArray)=(ab3 k.toNat its).flatten.toArray:=by
   have:=foldl_rep its k.toNat [];rw[ad2] at this;exact this
  have hs:sizeOk (.seq (agd (λx1 x2=>x1++x2) #[] (ab3 k.toNat its.toArray))):=by
   rw[hnew];show (ab3 k.toNat its).flatten.toArray.size<=sizeLine;rw[z1c,len_rep,<-hlen,afI];exact hz
  have hbig:(sizeLine:Nat)<=(2^63 - 1) / 8:=by decide
  refine ad8 F.slot_tuple_mul ⟨_,ho,rfl⟩ F.entry_tuple_mul (F.args_tuple_mul_2 _ _) (QS a its.toArray n dd sl k t (by simp;omega) (by rw[hemp];simp[hk]) (by rw[hemp];simp;omega) (by rw[hmul];omega) (by rw[hmul];unfold af6;intro z;have z:=of_decide_eq_true z;omega) hs) ⟨ho,?_⟩;rw[hnew];refine⟨.ref s.heap.objs.size,_,I.laid (t':=s.toks) (o:= .tup (ab3 k.toNat xs).flatten) (λb ob q=>z1a _ q) (z0g _) ?_,rfl,q2 hk _ (I.hok.fresh (z0g _))⟩;exact⟨by rw[len_rep,afI];exact hz,_,r.rep k.toNat,uo.new _ _⟩
theorem Cv{K:PySem.W.Frag}{O:abX->Prop}{H:Hp}{ds:List D}{xs:List V}(r:aO K O H ds xs):∀k:Nat,aO K O H (ab3 k ds).flatten (ab3 k xs).flatten
 |0=> .nil
 |k+1=>by rw[adl,adl,adR,adR];exact r.append (Cv r k)
def wG:D->D->R D
 | .int i,.int j=>gG (.int i) (.int j)
 | .tup ds,.int k=>if ds≠[]/\1<=k/\k<2^63/\ds.length*k.toNat<=1000000 then .ok (.tup (ab3 k.toNat ds).flatten) else .bad
 |_,_=> .bad
theorem vR:gw X (acJ .Mult) wG:=by
 obtain⟨r0,o0,c0⟩:=pH (X:=X);refine⟨_,OpR.or o0 XJ,λρ O σ H Q x y dx dy j0 rx ry h=>?_⟩;cases dx <;> cases dy <;> first
  |exact h.elim
  |skip
 ·exact .inl (c0 ρ O σ H Q x y _ _ j0 rx ry h)
 ·rename_i ds k;have h:good X (rD X) O (if ds≠[]/\1<=k/\k<2^63/\ds.length*k.toNat<=1000000 then .ok (.tup (ab3 k.toNat ds).flatten) else .bad) σ H Q:=h;by_cases hc:ds≠[]/\1<=k/\k<2^63/\ds.length*k.toNat<=1000000
  ·rw[if_pos hc] at h;obtain⟨a,us,rfl,ha,r1⟩:=rx.tup;obtain⟨h0,h1,h2,h3⟩:=hc;refine .inr ⟨a,k,us,rfl,ry.int,ha,λz=>h0 (by have:=r1.length;rw[z] at this;exact acu this),h1,h2,by rw[<-r1.length];exact z0b h3 dJ,λz=>?_,λz l hl=>?_⟩
   ·subst z;have e:(ab3 (1:Int).toNat ds).flatten=ds:=by simp
    rw[e] at h;exact fin h (gZ ha r1)
   ·exact h _ _ (Same.upd hl) (Rep.nQ hl (Cv r1 _))
  ·rw[if_neg hc] at h;exact h.elim
end
def gU:D->Bool
 | .tup _=>false
 | .lst _=>false
 |_=>true
def vD:D->V
 | .non=> .non
 | .bl b=> .bl b
 | .int i=> .int i
 | .str x=> .str x
 |_=> .non
section
variable{K:PySem.W.Frag}{O:abX->Prop}{H:Hp}
theorem O9{d:D}{v:V}(f:gU d=true)(r:Rep K O H d v):v=vD d:=by
 cases d with
 |non=>exact r.non
 |bl b=>exact r.bl
 |int i=>exact r.int
 |str x=>exact r.str
 |tup _=>cases f
 |lst _=>cases f
theorem Ky:∀{ds:List D} {vs:List V},ds.all gU=true->aO K O H ds vs->vs=ds.map vD
 |[],vs,_,r=>r.nil_inv
 | d::ds,vs,f,r=>by
  obtain⟨x,t,rfl,h1,h2⟩:=r.cons_inv;rw[ad4,acY] at f;rw[O9 f.1 h1,Ky f.2 h2];rfl
theorem Tc{d:D}(f:gU d=true):flatV (vD d)=true:=by cases d <;> first |rfl |cases f
theorem aaT{a b:D}(fa:gU a=true)(fb:gU b=true):eqV (vD a) (vD b)=fQ a b:=by
 cases a <;> cases b <;> first |rfl |(simp[gU] at fa;done) |(simp[gU] at fb;done) |(rw[d9];rfl) |(simp[vD,eqV,lB,lC,lD,lE,lF,gJ,d9])
theorem WY{d:D}(fd:gU d=true):∀{ds:List D},ds.all gU=true->inV (vD d) (ds.map vD)=ds.any λy=>fQ y d
 |[],_=>rfl
 | y::ds,f=>by
  rw[ad4,acY] at f;have ih:=WY fd f.2;unfold inV at ih |-;rw[z1h,af4,af4,aaT f.1 fd,ih]
theorem Pb:∀{ds:List D},ds.all gU=true->(ds.map vD).all flatV=true
 |[],_=>rfl
 | y::ds,f=>by
  rw[ad4,acY] at f;rw[z1h,ad4,Tc f.1,Pb f.2];rfl
end
def QT:D->Option (List D)
 | .tup ds=>some ds
 | .lst ds=>some ds
 |_=>none
def Ei(neg:Bool)(d s:D):R D:=match QT s with
 |some ds=>if gU d=true/\ds.all gU=true then .ok (.bl (if neg then !(ds.any λy=>fQ y d) else ds.any λy=>fQ y d)) else .bad
 |none=> .bad
section
variable{X:Cx}
theorem in_of{neg:Bool}{ρ:aB}{Q:VK}{x y:V}{dx dy:D}(rx:Rep X.K O H dx x)(ry:Rep X.K O H dy y)(h:good X (rD X) O (Ei neg dx dy) σ H Q):rIn X.K neg x y H Q:=by
 unfold Ei at h;cases e:QT dy with
 |none=>rw[e] at h;exact h.elim
 | some ds=>
  rw[e] at h;have h:good X (rD X) O (if gU dx=true/\ds.all gU=true then .ok (.bl (if neg then !(ds.any λy=>fQ y dx) else ds.any λy=>fQ y dx)) else .bad) σ H Q:=h;by_cases hc:gU dx=true/\ds.all gU=true
  ·rw[if_pos hc] at h;have key:∃p xs,y= .ref p/\(SqL X.K H p xs\/SqT X.K H p xs)/\aO X.K O H ds xs:=by
    cases dy with
    | tup ds'=>
     cases e;obtain⟨a,xs,rfl,hq,rs⟩:=ry.tup;exact⟨a,xs,rfl,.inr hq,rs⟩
    | lst ds'=>
     cases e;obtain⟨a,xs,rfl,hq,_,rs⟩:=ry.lst;exact⟨a,xs,rfl,.inl hq,rs⟩
    |_=>cases e
   obtain⟨p,xs,rfl,hq,rs⟩:=key;have e1:=O9 hc.1 rx;have e2:=Ky hc.2 rs;subst e1 e2;refine⟨p,_,rfl,hq,Tc hc.1,Pb hc.2,?_⟩;rw[WY hc.1 hc.2];exact fin h (eV _)
  ·rw[if_neg hc] at h;exact h.elim
theorem aaU:gw X (acr .In) (Ei false):=⟨_,op_in_seq,λρ O σ H Q x y dx dy j0 rx ry h=>in_of (ρ:=ρ) rx ry h⟩
theorem Vv:gw X (acr .NotIn) (Ei true):=⟨_,op_notIn_seq,λρ O σ H Q x y dx dy j0 rx ry h=>in_of (ρ:=ρ) rx ry h⟩
end
def mV:Bool->ace->abX->abX->Nat->Prop
 |true,h,it,l,k=>h.IsTupleIter it l k
 |false,h,it,l,k=>h.IsListIter it l k
def qR:Bool->ace->abX->Array abY->Prop
 |true,h,l,xs=>h.IsTuple l xs
 |false,h,l,xs=>h.IsList l xs
def Zu(t:Bool):String:=if t then "tuple_iterator" else "list_iterator"
def Sq:Bool->PySem.W.Frag->Hp->abX->List V->Prop
 |true,K,H,a,xs=>SqT K H a xs
 |false,K,H,a,xs=>SqL K H a xs
theorem mV.of(x:mV t h it l k)(q:∀o,h.get? it=some o->h'.get? it=some o):mV t h' it l k:=by
 cases t <;> (obtain⟨o,e,r⟩:=x;exact⟨o,q o e,r⟩)
theorem mV.obj(x:mV t h it l k):∃o,h.get? it=some o/\∀v,o.data≠.cell v:=by
 cases t <;> (obtain⟨o,e,c,d⟩:=x;exact⟨o,e,λv z=>by rw[d] at z;cases z⟩)
theorem mV.new(e:h.get? it=some {cls:= .type (Zu t),data:= .fields #[.ref l,.int 0 0]}):mV t h it l 0:=by
 cases t <;> exact⟨_,e,rfl,rfl⟩
theorem qR.of(x:qR t h l xs)(q:∀o,h.get? l=some o->h'.get? l=some o):qR t h' l xs:=by
 cases t <;> (obtain⟨o,e,r⟩:=x;exact⟨o,q o e,r⟩)
section
variable{prog:ab9}{w:acf}{A:acg}{E:abY->abZ->Prop}{s:abZ}
theorem nextT{v:abY}(hit:s.heap.IsTupleIter it l i)(hl:s.heap.IsTuple l xs)(hv:xs[i]?=some v)
  (hQ:∀h',h'.IsTupleIter it l (i+1)->adv it s.heap h'->Q v {s with heap:=h'}):ab4 (model prog w) A (acI (.ref it)) Q E s:=by
 have ty:=hit.typeIs;obtain⟨o,g,c,dt⟩:=hit;obtain⟨p,gp,_,m,dp⟩:=hl;unfold acI;refine abW (ac8 (name:=acC "__next__") ty F.slot_tuple_iterator_next (acT F.slot_tuple_iterator_next ty F.entry_tuple_iterator_next ?_ (F.args_tuple_iterator_next_1 _)));show ab4 _ _ (field (.ref it) 0 >>=_) _ _ s;refine abW (acB g dt (x:= .ref l) rfl ?_);show ab4 _ _ (if (ab8 l ==aco)=true then _ else _) _ _ s;rw[if_neg (show ¬((ab8 l ==aco)=true) from aci)];show ab4 _ _ (field (.ref it) 1 >>=_) _ _ s;refine abW (acB g dt (x:= .int i 0) rfl ?_);show ab4 _ _ (seqItems? (.ref l) >>=_) _ _ s;refine abW (adx gp dp ?_);simp only[afg,hv];refine abW (afb g dt (by simp) (ab1 ⟨v,rfl,ab1 (hQ _ ⟨_,aey _ g (afu (aer dt _)),(Obj.cls_mapFields ..).trans c,?_⟩ (afL ..))⟩));rw[aer dt];simp[acQ]
theorem Vw(hh:A.handled=none)(hit:s.heap.IsTupleIter it l i)(hl:s.heap.IsTuple l xs)(hv:xs[i]?=none)
  (hE:∀h' e,agE it s.heap h'->(∃o,h'.get? e=some o/\o.cls= .type "StopIteration")->E (.ref e) {s with heap:=h'}):ab4 (model prog w) A (acI (.ref it)) Q E s:=by
 have ty:=hit.typeIs;obtain⟨o,g,c,dt⟩:=hit;obtain⟨p,gp,_,m,dp⟩:=hl;unfold acI;refine abW (ac8 (name:=acC "__next__") ty F.slot_tuple_iterator_next (acT F.slot_tuple_iterator_next ty F.entry_tuple_iterator_next ?_ (F.args_tuple_iterator_next_1 _)));show ab4 _ _ (field (.ref it) 0 >>=_) _ _ s;refine abW (acB g dt (x:= .ref l) rfl ?_);show ab4 _ _ (if (ab8 l ==aco)=true then _ else _) _ _ s;rw[if_neg (show ¬((ab8 l ==aco)=true) from aci)];show ab4 _ _ (field (.ref it) 1 >>=_) _ _ s;refine abW (acB g dt (x:= .int i 0) rfl ?_);show ab4 _ _ (seqItems? (.ref l) >>=_) _ _ s;refine abW (adx gp dp ?_);simp only[afg,hv];refine abW (ad6 (abW (afb g dt (by simp) ?_)));show ab4 _ _ (newExc (.type "StopIteration") [] >>=_) _ _ _;refine abW ?_;simp only[newExc,newTuple];refine abW (ac5 ?_ (by size_fits));refine abW (m:=firstArgMember _ _) (adY (a:=aco) (by first |(simp only[firstArgMember];rfl) |rfl) ?_);refine ac5 ?_ (by size_fits);simp only[raiseNew];refine abW (wpAny_handled ?_);first |rw[show A.in1.handled=none from hh] |rw[hh]
 exact abW (ab1 (wpAny_throw (hE _ _ (((afL ..).extBut.push _).push _) ⟨_,z1f _ rfl,rfl⟩)))
theorem JX{v:abY}(hit:mV t s.heap it l i)(hl:qR t s.heap l xs)(hv:xs[i]?=some v)
  (hQ:∀h',mV t h' it l (i+1)->adv it s.heap h'->Q v {s with heap:=h'}):ab4 (model prog w) A (acI (.ref it)) Q E s:=by
 cases t with
 |true=>exact nextT hit hl hv hQ
 |false=>exact wpAny_nextOf_list_item hit hl hv hQ
theorem Cw(hh:A.handled=none)(hit:mV t s.heap it l i)(hl:qR t s.heap l xs)(hv:xs[i]?=none)
  (hE:∀h' e,agE it s.heap h'->(∃o,h'.get? e=some o/\o.cls= .type "StopIteration")->E (.ref e) {s with heap:=h'}):ab4 (model prog w) A (acI (.ref it)) Q E s:=by
 cases t with
 |true=>exact Vw hh hit hl hv hE
 |false=>exact wpAny_nextOf_list_end hh hit hl hv hE
theorem Ej(hl:qR t s.heap l xs)(hQ:Q (.ref s.heap.objs.size) {s with heap:=s.heap.push {cls:= .type (Zu t),data:= .fields #[.ref l,.int 0 0]}}):
  ab4 (model prog w) A (pyIter (.ref l)) Q E s:=by
 cases t with
 |true=>exact wpAny_pyIter_tuple hl hQ
 |false=>exact afe hl hQ
theorem Kz{T:abX}{arr:Array abY}{x:abY}{Q:Unit->abZ->Prop}(hT:s.heap.get? T=some {cls:= .type "tuple",data:= .seq arr})
  (h:∀h',h'.get? T=some {cls:= .type "tuple",data:= .seq (arr.setIfInBounds k x)}->adv T s.heap h'->Q () {s with heap:=h'})(hs:arr.size<=sizeLine:=by size_fits):ab4 (model prog w) A (updateSeq T (·.setIfInBounds k x)) Q E s:=by
 refine aeX (hz:=hs) (_hz':=by simpa using Nat.le_succ_of_le hs) hT rfl (h _ (by rw[aey _ hT rfl];simp[adb]) (afL ..))
end
section
variable{X:Cx}{pins:List (abX×Obj)}{σ:St}{H:Hp}{s:abZ}
theorem _root_.L2.Inv.fp{b:abX}(I:Inv X pins σ H s)(f:FpOk X pins H b)(sb:adv b s.heap h'):Inv X pins σ H {s with heap:=h'}:=
 I.turned (t':=s.toks) (λc o hc e=>(sb.2 c hc).trans e) f.1 f.2.1 f.2.2.2.1 f.2.2.2.2.1 f.2.2.2.2.2
theorem _root_.L2.Inv.fpE{b:abX}(I:Inv X pins σ H s)(f:FpOk X pins H b)(sb:agE b s.heap h'):Inv X pins σ H {s with heap:=h'}:=
 I.turned (t':=s.toks) (λc o hc e=>sb c o hc e) f.1 f.2.1 f.2.2.2.1 f.2.2.2.2.1 f.2.2.2.2.2
theorem _root_.L2.FpOk.upd{b p:abX}{o:HO}(f:FpOk X pins H b)(n:b≠p):FpOk X pins (L2.upd H p o) b:=⟨by rw[upd_ne n];exact f.1,f.2⟩
theorem _root_.L2.Inv.sq{xs:List V}(I:Inv X pins σ H s)(q:Sq t X.K H l xs):∃its:List abY,Vals xs its/\qR t s.heap l its.toArray:=by
 cases t with
 |true=>obtain⟨its,r,p,_⟩:=I.tuple q;exact⟨its,r,p⟩
 |false=>obtain⟨its,r,p,_⟩:=I.list q;exact⟨its,r,p.isList⟩
theorem _root_.L2.Inv.KC{xs:List V}(I:Inv X pins σ H s)(q:Sq t X.K H l xs)(r:Sq t X.K H l ys):xs=ys:=by
 cases t with
 |true=>exact I.tuple_inj q r
 |false=>exact I.list_inj q r
end
abbrev wH(h:ace)(T:abX)(arr:Array abY):Prop:=h.get? T=some {cls:= .type "tuple",data:= .seq arr}
structure Z2(h:ace)(z TI TO i1 i2:abX)(t1 t2:Bool)(l1 l2:abX)(k:Nat):Prop where
 z:IsZip h z TI TO .none
 ti:wH h TI #[.ref i1,.ref i2]
 to:∃a b,wH h TO #[a,b]
 s1:mV t1 h i1 l1 k
 s2:mV t2 h i2 l2 k
def Vx(K:PySem.W.Frag)(t1:Bool)(l1:abX)(t2:Bool)(l2:abX):It:=
 ⟨λi H=>∃xs ys x y,Sq t1 K H l1 xs/\xs[i]?=some x/\Sq t2 K H l2 ys/\ys[i]?=some y,
  λi H v H'=>∃p x y,H p=none/\v= .ref p/\H'=upd H p (.tup [x,y])/\(∀xs,Sq t1 K H l1 xs->xs[i]?=some x)/\∀ys,Sq t2 K H l2 ys->ys[i]?=some y,
  λi H=>∃xs ys,Sq t1 K H l1 xs/\Sq t2 K H l2 ys/\(xs.length<=i\/ys.length<=i)⟩
section
variable{X:Cx}{pins:List (abX×Obj)}{σ:St}{H:Hp}{s:abZ}{A':acg}{E:abY->abZ->Prop}
theorem Td:2<=sizeLine:=z0b (by decide) (z0e fJ)
theorem Te{z TI TO:abX}{xs:List V}{x y:V}(I:Inv X pins σ H s)
  (fz:FpOk X pins H z)(fO:FpOk X pins H TO)(f1:FpOk X pins H i1)(f2:FpOk X pins H i2)
  (n1:TI≠z)(n2:TO≠z)(n3:i1≠z)(n4:i2≠z)(n5:TI≠TO)(n6:TI≠i1)(n7:TI≠i2)(n8:TO≠i1)(n9:TO≠i2)(n10:i1≠i2)
  (st:Z2 s.heap z TI TO i1 i2 t1 t2 l1 l2 k)(q1:Sq t1 X.K H l1 xs)(e1:xs[k]?=some x)(q2:Sq t2 X.K H l2 ys)(e2:ys[k]?=some y)
  (hQ:∀h',Inv X pins σ (upd H s.heap.objs.size (.tup [x,y])) {s with heap:=h'}->IsZip h' z TI TO (acQ s.heap.objs.size)->wH h' TI #[.ref i1,.ref i2]->(∃a b,wH h' TO #[a,b])->
   mV t1 h' i1 l1 (k+1)->mV t2 h' i2 l2 (k+1)->Q (.ref s.heap.objs.size) {s with heap:=h'}):
  ab4 (model X.prog X.w) A' (adu.«zip.__next__» ⟨[.ref z],[]⟩) (λfin s'=>∃v,fin= .done (.ret v)/\Q v s') E s:=by
 obtain⟨hz,hTI,⟨a,b,hTO⟩,h1,h2⟩:=st;show ab4 _ _ (field (.ref z) 2 >>=_) _ _ _;refine abW (acB hz rfl (x:= .bool false) rfl ?_);show ab4 _ _ (field (.ref z) 3 >>=_) _ _ _;refine abW (acB hz rfl (x:= .ref TI) rfl ?_);refine abW (adx hTI rfl ?_);show ab4 _ _ (acR (.ref z) >>=_) _ _ _;refine abW ?_;unfold acR;refine abW (acB hz rfl (x:= .none) rfl (ab1 ?_));simp only[if_true];refine abW (ad6 (abW (acB hz rfl (x:= .ref TO) rfl ?_)));refine abW (adf hz (by simp) λg1 z1 b1=>?_)
 replace z1:IsZip g1 z TI TO .ellipsis:=z1
 have I1:=I.fp fz b1;refine abW ?_;simp only[List.zipIdx_cons,List.zipIdx_nil,aeQ,List.forIn_nil];obtain⟨us,r1,p1⟩:=I1.sq q1;obtain⟨u,hu,ru⟩:=r1.get e1;refine abW (abW (af7 ?_));show ab4 _ _ (acI (.ref i1) >>=_) _ _ _;refine abW (JX (h1.of λo e=>b1.extBut _ _ n3 e) p1 (v:=u) (by simpa using hu) λg2 s12 b2=>ab1 ?_);have I2:=I1.fp f1 b2;have o2:wH g2 TO #[a,b]:=b2.extBut _ _ n8 (b1.extBut _ _ n2 hTO);refine abW (adx o2 rfl (abW (Kz o2 λg3 o3 b3=>abW (aeu (ab1 ?_)))))
 replace o3:wH g3 TO #[u,b]:=o3
 have I3:=I2.fp fO b3;obtain⟨vs,r2,p2⟩:=I3.sq q2;obtain⟨v,hv,rv⟩:=r2.get e2;refine abW (abW (af7 ?_));show ab4 _ _ (acI (.ref i2) >>=_) _ _ _;refine abW (JX (h2.of λo e=>b3.extBut _ _ (acd n9) (b2.extBut _ _ (acd n10) (b1.extBut _ _ n4 e))) p2 (v:=v) (by simpa using hv) λg4 s24 b4=>ab1 ?_);have I4:=I3.fp f2 b4;have o4:wH g4 TO #[u,b]:=b4.extBut _ _ n9 o3;refine abW (adx o4 rfl (abW (Kz o4 λg5 o5 b5=>abW (aeu (ab1 (ab1 ?_))))))
 replace o5:wH g5 TO #[u,v]:=o5
 have I5:=I4.fp fO b5;refine abW (adx o5 rfl (abW (wpAny_newTuple ?_)));have sz:g5.objs.size=s.heap.objs.size:=by rw[b5.1,b4.1,b3.1,b2.1,b1.1]
 have I6:Inv X pins σ (upd H g5.objs.size (.tup [x,y])) {s with heap:=g5.push {cls:= .type "tuple",data:= .seq #[u,v]}}:=
  I5.laid (t':=s.toks) (λb u e=>z1a _ e) (z0g _) ⟨Td,[u,v],.cons ru (.cons rv .nil),⟨_,z1f _ rfl,rfl,rfl,_,rfl⟩⟩
 have z5:IsZip g5 z TI TO .ellipsis:=b5.extBut _ _ (acd n2) (b4.extBut _ _ (acd n4) (b3.extBut _ _ (acd n2) (b2.extBut _ _ (acd n3) z1)));have lt:∀{c o},g5.get? c=some o->c≠g5.objs.size:=λe=>acw (z2c e);show ab4 _ _ (adC (.ref z) (.ref g5.objs.size) >>=_) _ _ _;refine abW ?_;unfold adC;refine abW (adf (z1a _ z5) (by simp) λg7 z7 b7=>?_)
 replace z7:IsZip g7 z TI TO (acQ g5.objs.size):=z7
 have I7:=I6.fp (fz.upd (lt z5)) b7;refine adf z7 (by simp) λg8 z8 b8=>?_
 replace z8:IsZip g8 z TI TO (acQ g5.objs.size):=z8
 have I8:=I7.fp (fz.upd (lt z5)) b8;have up:∀c o,c≠z->g5.get? c=some o->g8.get? c=some o:=λc o c1 e=>b8.extBut _ _ c1 (b7.extBut _ _ c1 (z1a _ e));refine ab1 ⟨_,rfl,?_⟩;rw[sz] at I8 z8;show Q (.ref g5.objs.size) _;rw[sz];refine hQ g8 I8 z8 (up _ _ n1 (b5.extBut _ _ n5 (b4.extBut _ _ n7 (b3.extBut _ _ n5 (b2.extBut _ _ n6 (b1.extBut _ _ n1 hTI)))))) ⟨u,v,up _ _ n2 o5⟩ ?_ ?_
 ·exact s12.of λo e=>up _ _ n3 (b5.extBut _ _ (acd n8) (b4.extBut _ _ n10 (b3.extBut _ _ (acd n8) e)))
 ·exact s24.of λo e=>up _ _ n4 (b5.extBut _ _ (acd n9) e)
theorem Vy{z TI TO:abX}{xs:List V}{Q:Fin->abZ->Prop}(hh:A'.handled=none)(I:Inv X pins σ H s)
  (fz:FpOk X pins H z)(fO:FpOk X pins H TO)(f1:FpOk X pins H i1)(f2:FpOk X pins H i2)
  (n1:TI≠z)(n2:TO≠z)(n3:i1≠z)(n4:i2≠z)(n5:TI≠TO)(n6:TI≠i1)(n7:TI≠i2)(n8:TO≠i1)(n9:TO≠i2)(n10:i1≠i2)
  (st:Z2 s.heap z TI TO i1 i2 t1 t2 l1 l2 k)(q1:Sq t1 X.K H l1 xs)(q2:Sq t2 X.K H l2 ys)(en:xs.length<=k\/ys.length<=k)
  (hE:∀h' e,Inv X pins σ H {s with heap:=h'}->(∃o,h'.get? e=some o/\o.cls= .type "StopIteration")->E (.ref e) {s with heap:=h'}):
  ab4 (model X.prog X.w) A' (adu.«zip.__next__» ⟨[.ref z],[]⟩) Q E s:=by
 obtain⟨hz,hTI,⟨a,b,hTO⟩,h1,h2⟩:=st;show ab4 _ _ (field (.ref z) 2 >>=_) _ _ _;refine abW (acB hz rfl (x:= .bool false) rfl ?_);show ab4 _ _ (field (.ref z) 3 >>=_) _ _ _;refine abW (acB hz rfl (x:= .ref TI) rfl ?_);refine abW (adx hTI rfl ?_);show ab4 _ _ (acR (.ref z) >>=_) _ _ _;refine abW ?_;unfold acR;refine abW (acB hz rfl (x:= .none) rfl (ab1 ?_));simp only[if_true];refine abW (ad6 (abW (acB hz rfl (x:= .ref TO) rfl ?_)));refine abW (adf hz (by simp) λg1 z1 b1=>?_)
 replace z1:IsZip g1 z TI TO .ellipsis:=z1
 have I1:=I.fp fz b1;refine abW ?_;simp only[List.zipIdx_cons,List.zipIdx_nil,aeQ,List.forIn_nil];obtain⟨us,r1,p1⟩:=I1.sq q1;have leave:∀{g g':ace} {e:abX} {c:abX},Inv X pins σ H {s with heap:=g}->IsZip g z TI TO .ellipsis->FpOk X pins H c->c≠z->agE c g g'->(∃o,g'.get? e=some o/\o.cls= .type "StopIteration")->
   ab4 (model X.prog X.w) A' (setField (.ref z) 0 .none) (λ_ s'=>E (.ref e) s') E {s with heap:=g'}:=λ{g g' e c} Ig zg fc nc eb ⟨oe,hoe,hce⟩=>by
  have zg':IsZip g' z TI TO .ellipsis:=eb _ _ (acd nc) zg;have hez:e≠z:=λq=>by subst q;rw[zg'] at hoe;cases hoe;simp at hce
  have Ig':Inv X pins σ H {s with heap:=g'}:=Ig.fpE fc eb;exact adf zg' (by simp) λg'' _ b''=>hE g'' e (Ig'.fp fz b'') ⟨oe,b''.extBut _ _ hez hoe,hce⟩
 refine abW (abW (af7 ?_));show ab4 _ _ (acI (.ref i1) >>=_) _ _ _;have h1':=h1.of (h':=g1) λo e=>b1.extBut _ _ n3 e;by_cases hx:xs.length<=k
 ·exact abW (Cw hh h1' p1 (by have:=r1.length;simp;omega) λg2 e eb ex=>leave I1 z1 f1 n3 eb ex)
 ·have hy:ys.length<=k:=by rcases en with h |h;exact absurd h hx;exact h
  obtain⟨u,hu,ru⟩:=r1.get (i:=k) (x:=xs[k]'(by omega)) (ac0 (by omega));refine abW (JX h1' p1 (v:=u) (by simpa using hu) λg2 s12 b2=>ab1 ?_);have I2:=I1.fp f1 b2;have o2:wH g2 TO #[a,b]:=b2.extBut _ _ n8 (b1.extBut _ _ n2 hTO);refine abW (adx o2 rfl (abW (Kz o2 λg3 o3 b3=>abW (aeu (ab1 ?_)))));have I3:=I2.fp fO b3;obtain⟨vs,r2,p2⟩:=I3.sq q2;have z3:IsZip g3 z TI TO .ellipsis:=b3.extBut _ _ (acd n2) (b2.extBut _ _ (acd n3) z1);refine abW (abW (af7 ?_));show ab4 _ _ (acI (.ref i2) >>=_) _ _ _;exact abW (Cw hh (h2.of λo e=>b3.extBut _ _ (acd n9) (b2.extBut _ _ (acd n10) (b1.extBut _ _ n4 e))) p2 (by have:=r2.length;simp;omega) λg4 e eb ex=>leave I3 z3 f2 n4 eb ex)
end
theorem Tf{xK:List ab6}{kk}{pp:Pos}{z TI TO:abX}
  (n1:TI≠z)(n2:TO≠z)(n3:i1≠z)(n4:i2≠z)(n5:TI≠TO)(n6:TI≠i1)(n7:TI≠i2)(n8:TO≠i1)(n9:TO≠i2)(n10:i1≠i2):
  Turn P w K (.Tuple xK kk pp) (Vx K t1 l1 t2 l2) [z,TI,TO,i1,i2] z (λi h=>Z2 h z TI TO i1 i2 t1 t2 l1 l2 i) where
 mem:=by simp
 obj:=λi h st b hb=>by
  obtain⟨hz,hTI,⟨x,y,hTO⟩,h1,h2⟩:=st;simp only[ach,adi,or_false] at hb;rcases hb with rfl |rfl |rfl |rfl |rfl
  ·exact⟨_,hz,λv q=>by have q':agD _=afV v:=q;cases q'⟩
  ·exact⟨_,hTI,λv q=>by have q':agI _=afV v:=q;cases q'⟩
  ·exact⟨_,hTO,λv q=>by have q':agI _=afV v:=q;cases q'⟩
  ·exact h1.obj
  ·exact h2.obj
 keep:=λi h h' st k=>by
  obtain⟨hz,hTI,⟨x,y,hTO⟩,h1,h2⟩:=st;exact⟨k _ (by simp) _ hz,k _ (by simp) _ hTI,⟨x,y,k _ (by simp) _ hTO⟩,h1.of λo e=>k _ (by simp) o e,h2.of λo e=>k _ (by simp) o e⟩
 item :=by
  intro X hP hw hK hc i pins s σ H E I hf st hg;subst hP hw hK;obtain⟨xs,ys,x,y,q1,e1,q2,e2⟩:=hg;have hT:s.TypeIs (.ref z) "zip" :=⟨_,st.z,rfl⟩;unfold pyNext;refine abW (aeG (ac8 (name:=acC "__next__") hT F.slot_zip_next (acT F.slot_zip_next hT F.entry_zip_next
   (Te I (hf z (by simp)) (hf TO (by simp)) (hf i1 (by simp)) (hf i2 (by simp)) n1 n2 n3 n4 n5 n6 n7 n8 n9 n10 st q1 e1 q2 e2 λh' I' z' ti' Zv s1' s2'=>ab1 ⟨_,rfl,?_⟩) (F.args_zip_next_1 _))))
  have hp:H s.heap.objs.size=none:=I.hok.fresh (z0g _);have nz:∀b,b∈[z,TI,TO,i1,i2]->b≠s.heap.objs.size:=λb hb q=>by
   obtain⟨o,e,_⟩:∃o,s.heap.get? b=some o/\True:=by
    obtain⟨hz,hTI,⟨x,y,hTO⟩,h1,h2⟩:=st;simp only[ach,adi,or_false] at hb;rcases hb with rfl |rfl |rfl |rfl |rfl
    ·exact⟨_,hz,trivial⟩
    ·exact⟨_,hTI,trivial⟩
    ·exact⟨_,hTO,trivial⟩
    ·obtain⟨o,e,_⟩:=h1.obj;exact⟨o,e,trivial⟩
    ·obtain⟨o,e,_⟩:=h2.obj;exact⟨o,e,trivial⟩
   exact absurd (z2c e) (by rw[q];exact acX _)
  refine wpAny_letOwnedTupleGo_zip z' λh'' z'' b''=>⟨.ref s.heap.objs.size,upd H s.heap.objs.size (.tup [x,y]),I'.fp ((hf z (by simp)).upd (nz z (by simp))) b'',rfl,⟨_,x,y,hp,rfl,rfl,λxs' q=>by rw[I.KC q q1];exact e1,λys' q=>by rw[I.KC q q2];exact e2⟩,?_,λb hb=>?_⟩
  ·obtain⟨a,b,Zv⟩:=Zv;exact⟨z'',b''.extBut _ _ n1 ti',⟨a,b,b''.extBut _ _ n2 Zv⟩,s1'.of λo e=>b''.extBut _ _ n3 e,s2'.of λo e=>b''.extBut _ _ n4 e⟩
  ·rw[upd_ne (nz b hb)];exact (hf b hb).1
 done:=by
  intro X hP hw hK hc i pins s σ H E I hf st hg;subst hP hw hK;obtain⟨xs,ys,q1,q2,en⟩:=hg;have hT:s.TypeIs (.ref z) "zip" :=⟨_,st.z,rfl⟩;unfold pyNext;refine abW (aeG (ac8 (name:=acC "__next__") hT F.slot_zip_next (acT F.slot_zip_next hT F.entry_zip_next
   (Vy (I.ok.hd hc) I (hf z (by simp)) (hf TO (by simp)) (hf i1 (by simp)) (hf i2 (by simp)) n1 n2 n3 n4 n5 n6 n7 n8 n9 n10 st q1 q2 en λh' e I' ex=>?_) (F.args_zip_next_1 _))))
  obtain⟨o,ho,ec⟩:=ex;exact abW (afr (T:= "StopIteration") (b:=true) ⟨o,ho,ec⟩ isSubtype_stop (ab1 ⟨rfl,I'⟩))
 self:=λ_ _ _ _ _ st h=>wpAny_pyIter_zip st.z h
abbrev itR(t:Bool)(l:abX):Obj:={cls:= .type (Zu t),data:= .fields #[.ref l,.int 0 0]}
abbrev Tg(h:ace)(t1:Bool)(l1:abX):ace:=h.push (itR t1 l1)
abbrev W0(h:ace)(t1:Bool)(l1:abX)(t2:Bool)(l2:abX):ace:=(Tg h t1 l1).push (itR t2 l2)
abbrev W2(h:ace)(t1:Bool)(l1:abX)(t2:Bool)(l2:abX):ace:=(W0 h t1 l1 t2 l2).push {cls:= .type "tuple",data:= .seq #[.ref h.objs.size,.ref (Tg h t1 l1).objs.size]}
abbrev W3(h:ace)(t1:Bool)(l1:abX)(t2:Bool)(l2:abX):ace:=(W2 h t1 l1 t2 l2).push {cls:= .type "tuple",data:= .seq #[.none,.none]}
abbrev Pg(h:ace)(t1:Bool)(l1:abX)(t2:Bool)(l2:abX):ace:=(W3 h t1 l1 t2 l2).push {cls:= .type "zip",data:= .fields #[.none,.bool false,.bool false,.ref (W0 h t1 l1 t2 l2).objs.size,.ref (W2 h t1 l1 t2 l2).objs.size]}
theorem QV(t1:Bool)(l1:abX)(t2:Bool)(l2:abX)(xs ys:Array abY):Meets (adu.«zip.__new__» ⟨[.type "zip",.ref l1,.ref l2],[]⟩)
  (λ_ R s=>qR t1 s.heap l1 xs/\qR t2 s.heap l2 ys/\R (.ok (.ret (.ref (W3 s.heap t1 l1 t2 l2).objs.size))) {s with heap:=Pg s.heap t1 l1 t2 l2}):=
 .of_wp λprog w A R s h=>by
  obtain⟨hp,g,d,tk,os⟩:=s;obtain⟨k1,k2,h⟩:=h;have hsub:=sub_zip;have L1:qR t1 (Shared.heap ⟨hp,g,d,tk,os⟩) l1 xs:=k1;have L2:qR t2 (Shared.heap ⟨Tg hp t1 l1,g,d,tk,os⟩) l2 ys:=k2.of λo e=>z1a _ e
  wp_walk using Ej L1,Ej L2
  exact⟨_,rfl,h⟩
section
variable{prog:ab9}{w:acf}{A:acg}{E:abY->abZ->Prop}{s:abZ}
theorem Ti{ys:Array abY}(k1:qR t1 s.heap l1 xs)(k2:qR t2 s.heap l2 ys)
  (h:∀h',Z2 h' (s.heap.objs.size+4) (s.heap.objs.size+2) (s.heap.objs.size+3) s.heap.objs.size (s.heap.objs.size+1) t1 t2 l1 l2 0->(∀c o,s.heap.get? c=some o->h'.get? c=some o)->Q (.ref (s.heap.objs.size+4)) {s with heap:=h'}):
  ab4 (model prog w) A (call (.type "zip") [.ref l1,.ref l2]) Q E s:=by
 refine callType_new F.called_zip (by decide) (F.typeCall_zip_2 _ _) (F.newCall_zip_2 _ _) (λobj=>F.args_object_init_3 obj _ _) F.entry_zip_new (QV t1 l1 t2 l2 xs ys) ⟨k1,k2,?_⟩;have z1:(Tg s.heap t1 l1).objs.size=s.heap.objs.size+1:=acW ..;have z2:(W0 s.heap t1 l1 t2 l2).objs.size=s.heap.objs.size+2:=by rw[acW,z1]
 have z3:(W2 s.heap t1 l1 t2 l2).objs.size=s.heap.objs.size+3:=by rw[acW,z2]
 have z4:(W3 s.heap t1 l1 t2 l2).objs.size=s.heap.objs.size+4:=by rw[acW,z3]
 have a5:(Pg s.heap t1 l1 t2 l2).get? (W3 s.heap t1 l1 t2 l2).objs.size=some _:=z1f _ rfl;have a4:(Pg s.heap t1 l1 t2 l2).get? (W2 s.heap t1 l1 t2 l2).objs.size=some _:=z1a _ (z1f _ rfl);have a3:(Pg s.heap t1 l1 t2 l2).get? (W0 s.heap t1 l1 t2 l2).objs.size=some _:=z1a _ (z1a _ (z1f _ rfl));have a2:(Pg s.heap t1 l1 t2 l2).get? (Tg s.heap t1 l1).objs.size=some (itR t2 l2):=z1a _ (z1a _ (z1a _ (z1f _ rfl)));have a1:(Pg s.heap t1 l1 t2 l2).get? s.heap.objs.size=some (itR t1 l1):=z1a _ (z1a _ (z1a _ (z1a _ (z1f _ rfl))));show _/\_;rw[z2,z3,z4] at a5;rw[z1,z2] at a3;rw[z3] at a4;rw[z1] at a2;rw[z4];exact⟨⟨_,a5,rfl⟩,h _ ⟨a5,a3,⟨_,_,a4⟩,.new a1,.new a2⟩ λc o e=>z1a _ (z1a _ (z1a _ (z1a _ (z1a _ e))))⟩
end
theorem Zw:adB "zip" =some (.type "zip"):=by decide +kernel
section
variable{X:Cx}{xK:List ab6}{kk:Nat}{pp:Pos}{a b:ab6}{p pos:Pos}
def aaV(K:PySem.W.Frag)(ta:TA):TI:=λσ H R=>ta σ H λvs H1=>∃t1 l1 t2 l2,vs=[.ref l1,.ref l2]/\(∃xs,Sq t1 K H1 l1 xs)/\(∃ys,Sq t2 K H1 l2 ys)/\R (Vx K t1 l1 t2 l2) H1
theorem XM {ta:TA} (hg:Gl X "zip") (hm:X.mg "zip" =none) (ha:PA X [a,b] ta) (he:starEach [a,b] X.env=(false,eval a X.env)::starEach [b] X.env:=by rfl) (hpl:(backTo pos (starEach [b] X.env)).any (·.1)=false:=by rfl):
    PI X (.Tuple xK kk pp) (.Call (.Name "zip" p) [a,b] [] pos) (aaV X.K ta):=by
  intro pins s σ H R I h
  refine Call_ (ld_blt I hg hm Zw (ac2 (thn (ha pos pins s σ H _ I h) fun us s1 ⟨vs,H1,I1,r1,q1⟩=>?_) he hpl))
  obtain⟨t1,l1,t2,l2,e,⟨xs,w1⟩,⟨ys,w2⟩,q⟩:=q1
  subst e
  cases r1 with
  | cons r rr=>
    cases rr with
    | cons r' rr=>
      cases rr
      cases r
      cases r'
      obtain⟨vs1,_,p1⟩:=I1.sq w1
      obtain⟨vs2,_,p2⟩:=I1.sq w2
      refine Ti p1 p2 fun h' st k=>wpAny_pyIter_zip st.z ⟨s1.heap.objs.size+4,[s1.heap.objs.size+4,s1.heap.objs.size+2,s1.heap.objs.size+3,s1.heap.objs.size,s1.heap.objs.size+1],_,_,H1,rfl,I1.kept (t':=s1.toks) k,Tf ?_ ?_ ?_ ?_ ?_ ?_ ?_ ?_ ?_ ?_,st,fun c hc=>(by
        have hle:s1.heap.objs.size≤c:=by
          simp only[ach,adi,or_false] at hc
          rcases hc with rfl |rfl |rfl |rfl |rfl <;> first |exact Nat.le_refl _ |exact afo _ _
        exact I1.fpOk hle (I1.hok.fresh hle)),q⟩
      all_goals (show @Ne Nat _ _;omega)
end
def GD(xs ys:List D):List D:=(xs.zip ys).map λp=> .tup [p.1,p.2]
def zip2:List D->R (List D)
 |[x,y]=>(jh x).bind λxs=>(jh y).bind λys=> .ok (GD xs ys)
 |_=> .bad
section
variable{K:PySem.W.Frag}{O:abX->Prop}{H:Hp}
structure Src(K:PySem.W.Frag)(O:abX->Prop)(H:Hp)(t:Bool)(a:abX)(ds:List D):Prop where
 ex:∃vs,Sq t K H a vs/\aO K O H ds vs
 no:t=false->¬O a
theorem KD{d:D}{v:V}{ds:List D}(r:Rep K O H d v)(h:jh d= .ok ds):∃t a,v= .ref a/\Src K O H t a ds:=by
 cases d with
 |tup es=>cases h;obtain⟨a,xs,rfl,q,rs⟩:=r.tup;exact⟨true,a,rfl,⟨xs,q,rs⟩,λz=>by cases z⟩
 |lst es=>cases h;obtain⟨a,xs,rfl,q,n,rs⟩:=r.lst;exact⟨false,a,rfl,⟨xs,q,rs⟩,λ_=>n⟩
 |_=>cases h
theorem Src.go{O':abX->Prop}{H':Hp}{a:abX}{ds:List D}(s:Src K O H t a ds)(q:fL K O H O' H'):∃vs,Sq t K H' a vs/\aO K O' H' ds vs:=by
 obtain⟨vs,h,r⟩:=s.ex;cases t with
 |true=>exact⟨vs,SqT.ext q.ext h,r.go q⟩
 |false=>exact⟨vs,SqL.ext q.ext (s.no rfl) h,r.go q⟩
theorem Vz{xs ys:List D}{d:D}(h:(GD xs ys)[i]?=some d):∃x y,xs[i]?=some x/\ys[i]?=some y/\d= .tup [x,y]:=by
 unfold GD at h;rw[z2b] at h;cases e:(xs.zip ys)[i]? with
 |none=>rw[e] at h;cases h
 |some p=>rw[e] at h;cases h;obtain⟨h1,h2⟩:=List.getElem?_zip_eq_some.mp e;exact⟨_,_,h1,h2,rfl⟩
theorem YR.zip2{a1 a2:abX}{xs ys:List D}(s1:Src K O H t1 a1 xs)(s2:Src K O H t2 a2 ys):YR K O H (Vx K t1 a1 t2 a2) (GD xs ys):=by
 intro O' H' q i;obtain⟨v1,q1,r1⟩:=s1.go q;obtain⟨v2,q2,r2⟩:=s2.go q;refine⟨λd e=>?_,λe=>⟨v1,v2,q1,q2,?_⟩⟩
 ·obtain⟨x,y,e1,e2,rfl⟩:=Vz e;obtain⟨u1,g1,w1⟩:=r1.get e1;obtain⟨u2,g2,w2⟩:=r2.get e2;refine⟨⟨v1,v2,u1,u2,q1,g1,q2,g2⟩,λx H2 y=>?_⟩;obtain⟨p,x1,x2,hp,rfl,rfl,k1,k2⟩:=y;have k1:=k1 _ q1;have k2:=k2 _ q2;rw[g1] at k1;cases k1;rw[g2] at k2;cases k2;exact⟨Same.upd hp,gZ (SqT.of upd_same) ((aO.cons w1 (.cons w2 .nil)).same (Same.upd hp))⟩
 ·rw[<-r1.length,<-r2.length];simp only[GD,z1g,List.length_zip] at e;omega
end
section
variable{X:Cx}{xK:List ab6}{kk:Nat}{pp:Pos}{a b:ab6}{p pos:Pos}{fa:aB->R (List D)}
theorem Ax(hg:Gl X "zip")(hm:X.mg "zip" =none)(ha:DA X [a,b] fa)(he:ab2 [a,b] X.env=(false,eval a X.env)::ab2 [b] X.env:=by rfl)(hpl:(acO pos (ab2 [b] X.env)).any (·.1)=false:=by rfl):
  DI X (.Tuple xK kk pp) (.Call (.Name "zip" p) [a,b] [] pos) (λρ=>(fa ρ).bind zip2):=by
 refine PI.imp (XM hg hm ha he hpl) λσ H Q q=>?_;obtain⟨ρ,O,j,q⟩:=q;refine go j q λds vs H1 e1 s1 r1 j1 h1=>?_;unfold zip2 at h1;split at h1
 ·rename_i x y;obtain⟨v1,v2,rfl,w1,w2⟩:=r1.two;cases ex:jh x with
  |bad=>rw[ex] at h1;exact h1.elim
  |err c=>rw[ex] at h1;cases x <;> cases ex
  | ok xs=>
   cases ey:jh y with
   |bad=>rw[ex,R.bh,ey] at h1;exact h1.elim
   |err c=>cases y <;> cases ey
   | ok ys=>
    rw[ex,R.bh,ey,R.bh] at h1;obtain⟨t1,a1,rfl,c1⟩:=KD w1 ex;obtain⟨t2,a2,rfl,c2⟩:=KD w2 ey;obtain⟨vs1,k1,_⟩:=c1.ex;obtain⟨vs2,k2,_⟩:=c2.ex;exact⟨t1,a1,t2,a2,rfl,⟨vs1,k1⟩,⟨vs2,k2⟩,fin h1 (YR.zip2 c1 c2)⟩
 ·exact h1.elim
end
section
variable{X:Cx}{pins:List (abX×Obj)}{σ:St}{H:Hp}{s:abZ}{A':acg}{E:abY->abZ->Prop}
end
section
variable{prog:ab9}{w:acf}{A:acg}{E:abY->abZ->Prop}{s:abZ}
end
section
variable{X:Cx}{xK:List ab6}{kk:Nat}{pp:Pos}{a b c:ab6}{p pos:Pos}
end
section
variable{K:PySem.W.Frag}{O:abX->Prop}{H:Hp}
theorem aO.three{d e f:D}{xs:List V}(r:aO K O H [d,e,f] xs):∃x y z,xs=[x,y,z]/\Rep K O H d x/\Rep K O H e y/\Rep K O H f z:=by
 obtain⟨x,t,rfl,h1,h2⟩:=r.cons_inv;obtain⟨y,z,rfl,h3,h4⟩:=h2.two;exact⟨x,y,z,rfl,h1,h3,h4⟩
end
section
variable{X:Cx}{xK:List ab6}{kk:Nat}{pp:Pos}{a b c:ab6}{p pos:Pos}{fa:aB->R (List D)}
theorem Nt{x:D}{c:Str}(h:jh x= .err c):False:=by cases x <;> cases h
end
section
variable{X:Cx}
theorem Pj:∀{ns:List Int} {its:List abY},Vals (ns.map V.int) its->adV its ns
 |[],_,r=>by cases r;exact .nil
 | n::ns,_,r=>by
  cases r with
  |cons h t=>obtain⟨tk,rfl⟩:=h;exact .cons n tk (Pj t)
theorem Ih{K:PySem.W.Frag}{O:abX->Prop}{H:Hp}:∀{ds:List D} {ns:List Int} {vs:List V},intsOf ds=some ns->aO K O H ds vs->vs=ns.map V.int
 |[],ns,vs,e,r=>by cases e;exact r.nil_inv
 | d ::ds,ns,vs,e,r=>by
  obtain⟨x,t,rfl,h1,h2⟩:=r.cons_inv;cases d with
  | int i=>
   have e:(intsOf ds).map (i:: ·)=some ns:=e;cases q:intsOf ds with
   |none=>rw[q] at e;cases e
   |some l=>rw[q] at e;cases e;rw[h1.int,Ih q h2];rfl
  |_=>cases e
theorem yE{K:PySem.W.Frag}{O:abX->Prop}{H:Hp}:∀{ns:List Int},aO K O H (ns.map D.int) (ns.map V.int)
 |[]=> .nil
 |_::_=> .cons (cg _) yE
variable{pos:Pos}
end
def Ite(K:PySem.W.Frag)(t:Bool)(l:abX):It:=
 ⟨λi H=>∃xs x,Sq t K H l xs/\xs[i]?=some x,
  λi H v H'=>∃p x,H p=none/\v= .ref p/\H'=upd H p (.tup [.int (i:Int),x])/\∀xs,Sq t K H l xs->xs[i]?=some x,
  λi H=>∃xs,Sq t K H l xs/\xs.length<=i⟩
section
variable{X:Cx}{pins:List (abX×Obj)}{σ:St}{H:Hp}{s:abZ}{A':acg}{E:abY->abZ->Prop}
theorem Tj{e:abX}{xs:List V}{x:V}{old:abY}(I:Inv X pins σ H s)(fe:FpOk X pins H e)(fi:FpOk X pins H it)(ne:e≠it)
  (he:IsEnum s.heap e it k old)(hs:mV t s.heap it l k)(q:Sq t X.K H l xs)(ex:xs[k]?=some x)
  (hQ:∀h' u,Inv X pins σ (upd H s.heap.objs.size (.tup [.int (k:Int),x])) {s with heap:=h',toks:=s.toks+1}->IsEnumOut h' e it ((k:Int)+1) u s.heap.objs.size->mV t h' it l (k+1)->Q (.ref s.heap.objs.size) {s with heap:=h',toks:=s.toks+1}):
  ab4 (model X.prog X.w) A' (adu.«enumerate.__next__» ⟨[.ref e],[]⟩) (λfin s'=>∃v,fin= .done (.ret v)/\Q v s') E s:=by
 obtain⟨us,r1,p1⟩:=I.sq q;obtain⟨u,hu,ru⟩:=r1.get ex;obtain⟨hp,g,d,tk,os⟩:=s;show ab4 _ _ (field (.ref e) 2 >>=_) _ _ _;refine abW (acB he rfl (x:= .ref it) rfl ?_);refine abW (JX hs p1 (v:=u) (by simpa using hu) λg1 s1 b1=>?_);have I1:=I.fp fi b1
 replace b1:adv it hp g1:=b1
 have e1:IsEnum g1 e it k old:=(b1.2 e ne).trans he;show ab4 _ _ (field (.ref e) 3 >>=_) _ _ ⟨g1,g,d,tk,os⟩;refine abW (acB e1 rfl (x:=acQ k) rfl ?_);show ab4 _ _ (field (.ref e) 4 >>=_) _ _ ⟨g1,g,d,tk,os⟩;refine abW (acB e1 rfl (x:= .none) rfl ?_);show ab4 _ _ (mkInt k >>=_) _ _ ⟨g1,g,d,tk,os⟩;refine abW (wpAny_mkInt ?_);have I1':Inv X pins σ H ⟨g1,g,d,tk+1,os⟩:=Inv.tok (s:=⟨g1,g,d,tk,os⟩) I1 (tk+1);show ab4 _ _ (setField (.ref e) 3 (acQ ((k:Int)+1)) >>=_) _ _ ⟨g1,g,d,tk+1,os⟩;refine abW (adf e1 (by simp) λg2 e2 b2=>?_);have I2:=I1'.fp fe b2
 replace b2:adv e g1 g2:=b2
 replace e2:IsEnum g2 e it ((k:Int)+1) old:=e2
 show ab4 _ _ (setField (.ref e) 4 .none >>=_) _ _ ⟨g2,g,d,tk+1,os⟩;refine abW (adf e2 (by simp) λg3 e3 b3=>?_);have I3:=I2.fp fe b3
 replace b3:adv e g2 g3:=b3
 replace e3:IsEnum g3 e it ((k:Int)+1) old:=e3
 show ab4 _ _ (newTuple [.int k tk,u] >>=_) _ _ ⟨g3,g,d,tk+1,os⟩;refine abW (wpAny_newTuple ?_);have sz:g3.objs.size=hp.objs.size:=by rw[b3.1,b2.1,b1.1]
 have lt:e≠g3.objs.size:=acw (z2c e3);have I4:Inv X pins σ (upd H g3.objs.size (.tup [.int (k:Int),x])) ⟨g3.push {cls:= .type "tuple",data:= .seq #[.int k tk,u]},g,d,tk+1,os⟩:=
  Inv.laid (s:=⟨g3,g,d,tk+1,os⟩) (t':=tk+1) I3 (λb u e=>z1a _ e) (z0g _) ⟨Td,[.int k tk,u],.cons ⟨tk,rfl⟩ (.cons ru .nil),⟨_,z1f _ rfl,rfl,rfl,_,rfl⟩⟩
 have e4:IsEnum (g3.push {cls:= .type "tuple",data:= .seq #[.int k tk,u]}) e it ((k:Int)+1) old:=z1a _ e3;have s4:mV t (g3.push {cls:= .type "tuple",data:= .seq #[.int k tk,u]}) it l (k+1):=s1.of λo z=>z1a _ (b3.extBut _ _ (acd ne) (b2.extBut _ _ (acd ne) z));show ab4 _ _ (acR (.ref e) >>=_) _ _ ⟨g3.push {cls:= .type "tuple",data:= .seq #[.int k tk,u]},g,d,tk+1,os⟩
 generalize g3.push {cls:= .type "tuple",data:= .seq #[.int k tk,u]}=g4 at *
 refine abW ?_;unfold acR;refine abW (acB e4 rfl (x:= .none) rfl (ab1 ?_));simp only[if_true];refine abW (ad6 (abW (acB e4 rfl (x:=old) rfl ?_)));refine abW (adf e4 (by simp) λg5 e5 b5=>?_);have I5:=I4.fp (fe.upd lt) b5
 replace b5:adv e g4 g5:=b5
 replace e5:IsEnum g5 e it ((k:Int)+1) u:=e5
 show ab4 _ _ (adC (.ref e) (.ref g3.objs.size) >>=_) _ _ ⟨g5,g,d,tk+1,os⟩;refine abW ?_;unfold adC;refine abW (adf e5 (by simp) λg6 e6 b6=>?_);have I6:=I5.fp (fe.upd lt) b6
 replace b6:adv e g5 g6:=b6
 replace e6:IsEnumOut g6 e it ((k:Int)+1) u g3.objs.size:=e6
 refine adf e6 (by simp) λg7 e7 b7=>?_;have I7:=I6.fp (fe.upd lt) b7
 replace b7:adv e g6 g7:=b7
 replace e7:IsEnumOut g7 e it ((k:Int)+1) u g3.objs.size:=e7
 refine abW (aeu (ab1 ⟨_,rfl,?_⟩));rw[sz] at I7 e7;show Q (.ref g3.objs.size) _;rw[sz];exact hQ g7 u I7 e7 (s4.of λo z=>b7.extBut _ _ (acd ne) (b6.extBut _ _ (acd ne) (b5.extBut _ _ (acd ne) z)))
end
theorem Tn{xK:List ab6}{kk}{pp:Pos}{e:abX}(ne:e≠it):
  Turn P w K (.Tuple xK kk pp) (Ite K t l) [e,it] e (λi h=>(∃old,IsEnum h e it i old)/\mV t h it l i) where
 mem:=by simp
 obj:=λi h st b hb=>by
  obtain⟨⟨old,he⟩,hs⟩:=st;simp only[ach,adi,or_false] at hb;rcases hb with rfl |rfl
  ·exact⟨_,he,λv q=>by have q':agD _=afV v:=q;cases q'⟩
  ·exact hs.obj
 keep:=λi h h' st k=>by
  obtain⟨⟨old,he⟩,hs⟩:=st;exact⟨⟨old,k _ (by simp) _ he⟩,hs.of λo z=>k _ (by simp) o z⟩
 item :=by
  intro X hP hw hK hc i pins s σ H E I hf st hg;subst hP hw hK;obtain⟨⟨old,he⟩,hs⟩:=st;obtain⟨xs,x,q,ex⟩:=hg;have hT:s.TypeIs (.ref e) "enumerate" :=⟨_,he,rfl⟩;have hp:H s.heap.objs.size=none:=I.hok.fresh (z0g _);have nz:∀b,b∈[e,it]->b≠s.heap.objs.size:=λb hb z=>by
   obtain⟨o,eo⟩:∃o,s.heap.get? b=some o:=by
    simp only[ach,adi,or_false] at hb;rcases hb with rfl |rfl
    ·exact⟨_,he⟩
    ·obtain⟨o,eo,_⟩:=hs.obj;exact⟨o,eo⟩
   exact absurd (z2c eo) (by rw[z];exact acX _)
  unfold pyNext;refine abW (aeG (ac8 (name:=acC "__next__") hT F.slot_enumerate_next (acT F.slot_enumerate_next hT F.entry_enumerate_next
   (Tj I (hf e (by simp)) (hf it (by simp)) ne he hs q ex λh' u I' e' s'=>ab1 ⟨_,rfl,?_⟩) (F.args_enumerate_next_1 _))))
  refine wpAny_letOwnedTupleGo_enum e' λh'' e'' b''=>⟨.ref s.heap.objs.size,upd H s.heap.objs.size (.tup [.int (i:Int),x]),I'.fp ((hf e (by simp)).upd (nz e (by simp))) b'',rfl,⟨_,x,hp,rfl,rfl,λxs' q'=>by rw[I.KC q' q];exact ex⟩,⟨⟨u,by simpa using e''⟩,s'.of λo z=>b''.extBut _ _ (acd ne) z⟩,λb hb=>?_⟩;rw[upd_ne (nz b hb)];exact (hf b hb).1
 done:=by
  intro X hP hw hK hc i pins s σ H E I hf st hg;subst hP hw hK;obtain⟨⟨old,he⟩,hs⟩:=st;obtain⟨xs,q,en⟩:=hg;obtain⟨us,r1,p1⟩:=I.sq q;have hT:s.TypeIs (.ref e) "enumerate" :=⟨_,he,rfl⟩;unfold pyNext;refine abW (aeG (ac8 (name:=acC "__next__") hT F.slot_enumerate_next (acT F.slot_enumerate_next hT F.entry_enumerate_next ?_ (F.args_enumerate_next_1 _))));show ab4 _ _ (field (.ref e) 2 >>=_) _ _ _;refine abW (acB he rfl (x:= .ref it) rfl ?_);refine abW (Cw (I.ok.hd hc) hs p1 (by have:=r1.length;simp;omega) λg1 x eb bC=>?_);obtain⟨o,ho,ec⟩:=bC;exact abW (afr (T:= "StopIteration") (b:=true) ⟨o,ho,ec⟩ isSubtype_stop (ab1 ⟨rfl,I.fpE (hf it (by simp)) eb⟩))
 self:=λ_ _ _ _ _ st h=>by
  obtain⟨⟨old,he⟩,_⟩:=st;exact wpAny_pyIter_enum he h
theorem Nu(t:Bool)(l:abX)(xs:Array abY):Meets (adu.«enumerate.__new__» ⟨[.type "enumerate",.ref l],[]⟩)
  (λ_ R s=>qR t s.heap l xs/\R (.ok (.ret (.ref (s.heap.push (itR t l)).objs.size))) {s with heap:=(s.heap.push (itR t l)).push {cls:= .type "enumerate",data:= .fields #[.none,.bool false,.ref s.heap.objs.size,acQ 0,.none,.none]}}):=
 .of_wp λprog w A R s h=>by
  obtain⟨hp,g,d,tk,os⟩:=s;obtain⟨k1,h⟩:=h;have hsub:=sub_enumerate;have L1:qR t (Shared.heap ⟨hp,g,d,tk,os⟩) l xs:=k1
  wp_walk using Ej L1
  refine wpAny_stack_any λst=>ab1 ?_;split
  ·rename_i c _ _ _ _ _;cases (c ==ab7 "enumerate") <;> (wp_walk using Ej L1;exact⟨_,rfl,h⟩)
  ·wp_walk using Ej L1
   exact⟨_,rfl,h⟩
section
variable{prog:ab9}{w:acf}{A:acg}{E:abY->abZ->Prop}{s:abZ}
theorem QW(k1:qR t s.heap l xs)
  (h:∀h',IsEnum h' (s.heap.objs.size+1) s.heap.objs.size 0 .none->mV t h' s.heap.objs.size l 0->(∀c o,s.heap.get? c=some o->h'.get? c=some o)->Q (.ref (s.heap.objs.size+1)) {s with heap:=h'}):
  ab4 (model prog w) A (call (.type "enumerate") [.ref l]) Q E s:=by
 refine callType_new F.called_enumerate (by decide) (F.typeCall_enumerate_1 _) (F.newCall_enumerate_1 _) (λobj=>F.args_object_init_2 obj _) F.entry_enumerate_new (Nu t l xs) ⟨k1,?_⟩;have z1:(s.heap.push (itR t l)).objs.size=s.heap.objs.size+1:=acW ..;have a2:((s.heap.push (itR t l)).push {cls:= .type "enumerate",data:= .fields #[.none,.bool false,.ref s.heap.objs.size,acQ 0,.none,.none]}).get? (s.heap.push (itR t l)).objs.size=some _:=z1f _ rfl;show _/\_;rw[z1] at a2 |-;exact⟨⟨_,a2,rfl⟩,h _ a2 (.new (z1a _ (z1f _ rfl))) λc o e=>z1a _ (z1a _ e)⟩
end
section
variable{X:Cx}{xK:List ab6}{kk:Nat}{pp:Pos}{a:ab6}{p pos:Pos}{fa:aB->R (List D)}
def aaW(K:PySem.W.Frag)(ta:TA):TI:=λσ H R=>ta σ H λvs H1=>∃t l,vs=[.ref l]/\(∃xs,Sq t K H1 l xs)/\R (Ite K t l) H1
theorem XQ {ta:TA} (hg:Gl X "enumerate") (hm:X.mg "enumerate" =none) (ha:PA X [a] ta) (he:starEach [a] X.env=(false,eval a X.env)::starEach [] X.env:=by rfl) (hpl:(backTo pos (starEach [] X.env)).any (·.1)=false:=by rfl):
    PI X (.Tuple xK kk pp) (.Call (.Name "enumerate" p) [a] [] pos) (aaW X.K ta):=by
  intro pins s σ H R I h
  refine Call_ (ld_blt I hg hm boot_enumerate (ac2 (thn (ha pos pins s σ H _ I h) fun us s1 ⟨vs,H1,I1,r1,q1⟩=>?_) he hpl))
  obtain⟨t,l,e,⟨xs,w1⟩,q⟩:=q1
  subst e
  cases r1 with
  | cons r rr=>
    cases rr
    cases r
    obtain⟨vs1,_,p1⟩:=I1.sq w1
    refine QW p1 fun h' e' s' k=>wpAny_pyIter_enum e' ⟨s1.heap.objs.size+1,[s1.heap.objs.size+1,s1.heap.objs.size],_,_,H1,rfl,I1.kept (t':=s1.toks) k,Tn ?_,⟨⟨_,e'⟩,s'⟩,fun c hc=>(by
        have hle:s1.heap.objs.size≤c:=by
          simp only[ach,adi,or_false] at hc
          rcases hc with rfl |rfl <;> first |exact Nat.le_refl _ |exact afo _ _
        exact I1.fpOk hle (I1.hok.fresh hle)),q⟩
    all_goals (show @Ne Nat _ _;omega)
def mW:Nat->List D->List D
 |_,[]=>[]
 |n,d::ds=> .tup [.int (n:Int),d]::mW (n+1) ds
theorem Ii:∀{ds:List D} {n i:Nat} {d:D},(mW n ds)[i]?=some d->∃x,ds[i]?=some x/\d= .tup [.int ((n+i:Nat):Int),x]
 |[],_,_,_,h=>by simp[mW] at h
 |x::ds,n,0,d,h=>by simp[mW] at h;exact⟨x,rfl,by rw[<-h];rfl⟩
 | x::ds,n,i+1,d,h=>by
  rw[mW,agA] at h;obtain⟨y,e1,e2⟩:=Ii h;exact⟨y,by rw[agA];exact e1,by rw[e2,show n+1+i=n+(i+1) by omega]⟩
theorem Ij:∀{ds:List D} {n:Nat},(mW n ds).length=ds.length
 |[],_=>rfl
 |_::ds,n=>by rw[mW,acn,Ij,acn]
def o9:List D->R (List D)
 |[x]=>(jh x).bind λxs=> .ok (mW 0 xs)
 |_=> .bad
theorem YR.enum{a:abX}{xs:List D}(s1:Src K O H t a xs):YR K O H (Ite K t a) (mW 0 xs):=by
 intro O' H' q i;obtain⟨v1,q1,r1⟩:=s1.go q;refine⟨λd e=>?_,λe=>⟨v1,q1,?_⟩⟩
 ·obtain⟨x,e1,rfl⟩:=Ii e;obtain⟨u1,g1,w1⟩:=r1.get e1;refine⟨⟨v1,u1,q1,g1⟩,λx H2 y=>?_⟩;obtain⟨p,x1,hp,rfl,rfl,k1⟩:=y;have k1:=k1 _ q1;rw[g1] at k1;cases k1;rw[Nat.zero_add];exact⟨Same.upd hp,gZ (SqT.of upd_same) ((aO.cons (cg _) (.cons w1 .nil)).same (Same.upd hp))⟩
 ·rw[<-r1.length,<-Ij (n:=0)];exact e
theorem vU(hg:Gl X "enumerate")(hm:X.mg "enumerate" =none)(ha:DA X [a] fa)(he:ab2 [a] X.env=(false,eval a X.env)::ab2 [] X.env:=by rfl)(hpl:(acO pos (ab2 [] X.env)).any (·.1)=false:=by rfl):
  DI X (.Tuple xK kk pp) (.Call (.Name "enumerate" p) [a] [] pos) (λρ=>(fa ρ).bind o9):=by
 refine PI.imp (XQ hg hm ha he hpl) λσ H Q q=>?_;obtain⟨ρ,O,j,q⟩:=q;refine go j q λds vs H1 e1 s1 r1 j1 h1=>?_;unfold o9 at h1;split at h1
 ·rename_i x;obtain⟨v1,rfl,w1⟩:=r1.one;cases ex:jh x with
  |bad=>rw[ex] at h1;exact h1.elim
  |err c=>exact (Nt ex).elim
  | ok xs=>
   rw[ex,R.bh] at h1;obtain⟨t1,a1,rfl,c1⟩:=KD w1 ex;obtain⟨vs1,k1,_⟩:=c1.ex;exact⟨t1,a1,rfl,⟨vs1,k1⟩,fin h1 (YR.enum c1)⟩
 ·exact h1.elim
end
section
variable{prog:ab9}{w:acf}{A:acg}{E:abY->abZ->Prop}{s:abZ}
end
section
variable{X:Cx}{a:ab6}{p pos p2 pos2:Pos}{fa:aB->R (List D)}
def Zx(K:PySem.W.Frag)(ta:TA):TE:=λσ H Q=>ta σ H λvs H1=>∃j:Int,vs=[.int j]/\0<=j/\j<=1000/\∀q,H1 q=none->Q (.ref q) (upd H1 q (.rng 0 j))
theorem Zy{ta:TA}(hg:Gl X "range")(hm:X.mg "range" =none)(ha:PA X [a] ta)(hs:ab2 [a] X.env=[(false,eval a X.env)]:=by rfl):PE X (.Call (.Name "range" p) [a] [] pos) (Zx X.K ta):=by
 intro pins s σ H Q I h;refine Call_ (ld_blt I hg hm boot_range (ac2 (thn (ha pos pins s σ H _ I h) λus s1 ⟨vs,H1,I1,r1,q1⟩=>?_) hs rfl));obtain⟨j,e,h0,h1,q⟩:=q1;subst e;cases r1 with
 | cons r rr=>
  cases rr;obtain⟨t,rfl⟩:=r;refine call_range_1 ?_;exact⟨.ref s1.heap.objs.size,upd H1 s1.heap.objs.size (.rng 0 j),I1.laid (λb o e=>z1a _ e) (z0g _) ⟨_,_,_,z1f _ rfl⟩,rfl,q _ (I1.hok.fresh (z0g _))⟩
end
section
variable{X:Cx}{e:ab6}{f:aB->R D}{pos:Pos}
def KH(i:Nat)(f:aB->R D):aB->So:=λρ=>match ρ[i]? with
 | some (some (.val (.int a)))=>jC (f ρ) ρ λd=>match d with
  | .int b=> .nx (ρ.set i (some (.val (.int (a+b)))))
  |_=> .bad
 |_=> .bad
theorem Zz(i:Nat){x:Str}(hN:X.N.Nodup)(he:DE X e f)(hi:X.N[i]?=some x:=by rfl)(hx:Loc X.env.scope x:=by first |exact acZ rfl |exact acM rfl)
  (hf:X.fn x=true\/X.env.scope.names.lookup x=some .local:=by first |exact .inl rfl |exact .inr rfl):DS X (.AugAssign (.Name x pos') .Add e pos) (KH i f):=by
 refine PS.imp (ps_aug hN hi hx he ip_add hf) λσ H E h=>?_;obtain⟨H0,O0,O,ρ,j,h⟩:=h;unfold KH at h;cases e1:ρ[i]? with
 |none=>simp only[e1] at h;exact h.elim
 | some oe =>
  cases oe with
  |none=>simp only[e1] at h;exact h.elim
  | some en=>
   cases en with
   |lst _=>simp only[e1] at h;exact h.elim
   |xH _=>simp only[e1] at h;exact h.elim
   |rws _=>simp only[e1] at h;exact h.elim
   |obj _=>simp only[e1] at h;exact h.elim
   | val d=>
    cases d with
    | int a=>
     simp only[e1] at h;obtain⟨v,hv,rv⟩:=j.inn.env.get i _ e1;have rv:v= .int a:=Rep.int (K:=X.K) (O:=O) (H:=H) rv;subst rv;refine⟨.int a,hv,ρ,O,j.inn,?_⟩;unfold jC at h;cases e2:f ρ with
     |bad=>rw[e2] at h;exact h
     |err c=>rw[e2] at h;exact h σ H O j
     | ok d=>
      rw[e2] at h;intro v' H' s r;cases d with
      |int b=>exact⟨a,b,rfl,r.int,h _ H' O ((j.grow s).set (z1b hi).1 (cg _)) (Same.eU s)⟩
      |_=>exact h.elim
    |_=>simp only[e1] at h;exact h.elim
def VB(K:PySem.W.Frag)(mg:Str->Option abY)(x:Str)(ss:List Str):Prop:=∃a,mg x=some (.ref a)/\∀H,SqT K H a (ss.map V.str)
theorem Ik{K:PySem.W.Frag}{O:abX->Prop}{H:Hp}:∀{ss:List Str},aO K O H (ss.map D.str) (ss.map V.str)
 |[]=> .nil
 |_::_=> .cons (j5 _) Ik
theorem XR{x:Str}{ss:List Str}{pos:Pos}(hg:Gl X x)(h:VB X.K X.mg x ss)(hd:(x ==("__debug__" :Str))=false:=by decide):DE X (.Name x pos) (λ_=> .ok (.tup (ss.map D.str))):=by
 obtain⟨a,hm,hq⟩:=h;exact Gv (pe_glob (v:= .ref a) hg hm rfl hd) λ_ H=>gZ (hq H) Ik
end
theorem XS{mg:Str->Option abY}{x:Str}{ss:List Str}{a:abX}{its:Array abY}{sl:Array (Option abY)}(X:K.In h)(G:h.Ns ab5 mg)
  (y:PySem.W.nsIn K ab5 x=some (some (.ref a)))(l:K.lookup a=some ⟨.type "tuple",none,.seq its n,sl⟩)(hz:its.size<=sizeLine)(hv:Vals (ss.map V.str) its.toList):VB K mg x ss:=
 ⟨a,PySem.W.mg_of X G y,λ_=> .inr ⟨_,its,n,l,rfl,rfl,rfl,hz,hv⟩⟩
section
variable{X:Cx}
theorem QX(l:abX)(items:Array abY)(n:Nat)(dd:Option abX)(sl:Array (Option abY))(t:Tok)(hc0:¬(items.isEmpty || (0:Int) ==1)=true)(hc1:(decide ((0:Int)<=0) || items.isEmpty)=true):
  Meets (adu.«tuple.__mul__» ⟨[.ref l,.int 0 t],[]⟩) (λ_ R s=>s.heap.get? l=some {cls:= .type "tuple",dict:=dd,data:= .seq items n,slots:=sl}/\R (.ok (.ret (.ref s.heap.objs.size))) {s with heap:=s.heap.push {cls:=ab7 "tuple",data:=agI #[]},toks:=s.toks}):=
 .of_wp λprog w A R s h=>by
  obtain⟨hp,g,d,tk,os⟩:=s;obtain⟨hl,h⟩:=h;have f1:=afq;unfold adu.«tuple.__mul__»
  wp_walk using ada hl
  refine afH (decide_eq_false hc0) ?_
  wp_walk using ada hl
  exact⟨_,rfl,h⟩
theorem VD:OpR X (acJ .Mult) (λx y H Q=>∃a xs,x= .ref a/\y= .int 0/\SqT X.K H a xs/\xs≠[]/\∀p,H p=none->Q (.ref p) (upd H p (.tup []))):=by
 intro pins s σ H x y v u Q I rx ry h;obtain⟨a,xs,rfl,rfl,hq,hx,q⟩:=h;cases rx;obtain⟨t,rfl⟩:=ry;obtain⟨its,r,p1,_⟩:=I.tuple hq;obtain⟨⟨cls,dd,data,sl⟩,ho,hc,n,hd⟩:=id p1;simp only at hc hd;subst hc hd;have hne:its≠[]:=λz=>hx (by rw[z] at r;cases r;rfl);have hemp:its.toArray.isEmpty=false:=by cases its with |nil=>exact absurd rfl hne |cons _ _=>simp
 refine aeW (T:= "tuple") (U:= "int") (by decide) ⟨_,ho,rfl⟩ (λs'=>afa s' 0 t) rR F.fills_int_mul F.slot_int_rmul yD F.slot_int_index.lookup
  (ad8 F.slot_int_rmul (afa s 0 t) F.entry_int_rmul (F.args_int_rmul_2 _ _) (vQ 0 t a its.toArray n dd sl) ⟨ho,rfl,⟨_,ho,rfl⟩,?_⟩)
 refine ad8 F.slot_tuple_mul ⟨_,ho,rfl⟩ F.entry_tuple_mul (F.args_tuple_mul_2 _ _) (QX a its.toArray n dd sl t (by rw[hemp];decide) (by simp)) ⟨ho,?_⟩;exact⟨.ref s.heap.objs.size,_,I.laid (t':=s.toks) (o:= .tup []) (λb ob q=>z1a _ q) (z0g _) ⟨adX _,[],.nil,uo.new _ _⟩,rfl,q _ (I.hok.fresh (z0g _))⟩
theorem foldl_size{α:Type}(a:Array α):∀(n:Nat) (b:Array α),((ab3 n a).foldl (· ++ ·) b).size=b.size+n*a.size
 |0,b=>by simp
 | n+1,b=>by
  rw[adl,List.foldl_cons,foldl_size a n (b++a),Array.size_append,Nat.succ_mul];omega
theorem X3:OpR X (acJ .Mult) (λx y H Q=>∃(z:Str) (k:Int),x= .str z/\y= .int k/\2<=k/\k<=1000/\z.length=1/\Q (.str ⟨(ab3 k.toNat z.cps).foldl (· ++ ·) #[]⟩) H):=by
 intro pins s σ H x y v u Q I rx ry h;obtain⟨z,k,rfl,rfl,h1,h2,hz,q⟩:=h;obtain⟨t,rfl⟩:=rx;obtain⟨t',rfl⟩:=ry;have e1:¬k<1:=by omega
 have e2:¬(k ==1 || z.length ==0)=true:=by rw[hz];simp;omega
 have hz':z.cps.size=1:=hz;have hd:(1:Int)<=(2^63 - 1) / k:=(Int.le_ediv_iff_mul_le (by omega)).mpr (by omega);have hlen:((ab3 k.toNat z.cps).foldl (· ++ ·) #[]).size<=sizeLine:=by
  rw[foldl_size,hz'];have:=fJ;simp;omega
 refine P.mul_str (by simp;omega) (λ_ _=>by rw[hz];omega) (λ_ _=>by
  rw[hz];have:=fJ;show decide (1*k.toNat > sizeLine)=false;exact decide_eq_false (by omega)) ?_
 rw[if_neg e1,if_neg e2];exact⟨hlen,⟨.str _,H,I.tok _,⟨_,rfl⟩,q⟩⟩
theorem VF:OpR X (acJ .Mult) (λx y H Q=>∃(z:Str),x= .str z/\y= .int 1/\Q (.str z) H):=by
 intro pins s σ H x y v u Q I rx ry h;obtain⟨z,rfl,rfl,q⟩:=h;obtain⟨t,rfl⟩:=rx;obtain⟨t',rfl⟩:=ry;refine P.mul_str (by decide) (λ_ h=>by simp at h) (λ_ h=>by simp at h) ?_;rw[if_neg (by decide),if_pos (by simp)];exact⟨.str z,H,I,⟨_,rfl⟩,q⟩
def VG:D->D->R D
 | .int i,.int j=>gG (.int i) (.int j)
 | .tup ds,.int k=>if k=0 then (if ds≠[] then .ok (.tup []) else .bad) else wG (.tup ds) (.int k)
 | .str z,.int k=>if k=1 then .ok (.str z) else if 2<=k/\k<=1000/\z.length=1 then .ok (.str ⟨(ab3 k.toNat z.cps).foldl (· ++ ·) #[]⟩) else .bad
 |_,_=> .bad
theorem X4:gw X (acJ .Mult) VG:=by
 obtain⟨r0,o0,c0⟩:=vR (X:=X);refine⟨_,OpR.or o0 (OpR.or VD (OpR.or X3 VF)),λρ O σ H Q x y dx dy j0 rx ry h=>?_⟩;cases dx <;> cases dy <;> first
  |exact h.elim
  |skip
 ·exact .inl (c0 ρ O σ H Q x y _ _ j0 rx ry h)
 ·rename_i z k;have h:good X (rD X) O (if k=1 then .ok (.str z) else if 2<=k/\k<=1000/\z.length=1 then .ok (.str ⟨(ab3 k.toNat z.cps).foldl (· ++ ·) #[]⟩) else .bad) σ H Q:=h;by_cases h1:k=1
  ·rw[if_pos h1] at h;subst h1;exact .inr (.inr (.inr ⟨z,rx.str,ry.int,fin h (j5 _)⟩))
  ·rw[if_neg h1] at h;by_cases h2:2<=k/\k<=1000/\z.length=1
   ·rw[if_pos h2] at h;exact .inr (.inr (.inl ⟨z,k,rx.str,ry.int,h2.1,h2.2.1,h2.2.2,fin h (j5 _)⟩))
   ·rw[if_neg h2] at h;exact h.elim
 ·rename_i ds k;have h:good X (rD X) O (if k=0 then (if ds≠[] then .ok (.tup []) else .bad) else wG (.tup ds) (.int k)) σ H Q:=h;by_cases h0:k=0
  ·rw[if_pos h0] at h;by_cases hd:ds≠[]
   ·rw[if_pos hd] at h;obtain⟨a,us,rfl,ha,r1⟩:=rx.tup;have h:good X (rD X) O (.ok (.tup [])) σ H Q:=h;exact .inr (.inl ⟨a,us,rfl,by rw[ry.int,h0],ha,λz=>hd (by have:=r1.length;rw[z] at this;exact acu this),λp hp=>h _ _ (Same.upd hp) (Rep.nQ hp .nil)⟩)
   ·rw[if_neg hd] at h;exact h.elim
  ·rw[if_neg h0] at h;exact .inl (c0 ρ O σ H Q x y _ _ j0 rx ry h)
end
section
variable{X:Cx}
inductive VH (XB:Cx) (K:PySem.W.Frag) (O:abX->Prop) (H2:Hp) (Dd:abX) (fp:List abX) (tn:Nat->ace->Prop) (ρ0:aB) (xs:List D) (F:D->R (Option D)) (all:List D) (n:Nat) (s':abZ):Prop
 |mk (i:Nat) (σ':St) (H':Hp) (ys:List V) (ds rest:List D) (en:n=xs.length+1 - i) (hil:i<=xs.length) (I:Inv XB [] σ' H' s') (st:tn i s'.heap) (fr:∀b∈fp,H' b=none) (j:In XB O H' ρ0 σ') (sm:Same H2 H') (hD:H' Dd=some (.lst ys)) (rp:aO K O H' ds ys) (hm:jA F (xs.drop i)= .ok rest) (hr:ds++rest=all):VH XB K O H2 Dd fp tn ρ0 xs F all n s'
def Tb(ts:List (abX×Str))(H:Hp):Prop:=∀p∈ts,∃(ps:Array abY) (tq:Tok),H p.1=some (.tbl ps)/\ps[0]?=some (.str p.2 tq)
theorem Tb.un{fs ex:List abX}{H':Hp}(t:Tb ts H)(u:Un fs ex H H' h h'):Tb ts H':=λp hp=>by
 obtain⟨ps,tq,e,q⟩:=t p hp;obtain⟨more,e'⟩:=u.tbls _ _ e;refine⟨_,tq,e',?_⟩;obtain⟨hl,_⟩:=adw.mp q;rw[Array.getElem?_append_left hl];exact q
theorem Il{pos2:Pos}{fi:aB->R (List D)}{gt:D->aB->R aB}{fe:aB->R D}(ts:List Str)(caps:List Nat)
  (hc:X.calm=true)(hb:Ck X.env.scope scope ts X.N=true)(hcap:(dW scope).map (λx=>jH x X.N)=caps)
  (hi:DI X tg iter fi)(hk:pJ ts.length gt)(hg:∀C s H ex,(cG X scope ts C s H ex).N.Nodup->DG (cG X scope ts C s H ex) tg gt){Ek:List (abX×Str)}(hT:Tb Ek X.H₀)(ht:∀C s H ex,Tb Ek H->Ka (cG X scope ts C s H ex) ifs ft)(he:∀C s H ex,Tb Ek H->DE (cG X scope ts C s H ex) elt fe)
  (hs:∀x,adQ iter X.env x=pure x){use:Option (abY->Sem Unit)}{Qr:abY->abZ->Prop}{s:abZ}{Q:VK}(I:Inv X pins σ H s)(j:In X O H ρ σ)
  (hQ:∀(v:V) (H':Hp) (s5:abZ) (C:abX) (m:Str->Option abY) (f:Flow) (acc:abY),Q v H'->Inv X pins σ H' s5->s5.heap.Ns C m->FpOk X pins H' C->RelV v acc->compPost (model X.prog X.w) X.A X.xe use Qr acc C (.ok f) s5)
  (h:good X (rD X) O (bL ts.length caps fi gt ft fe ρ) σ H Q):
  ab4 (model X.prog X.w) X.A (comprehension (.ListComp elt [⟨tg,iter,ifs,0⟩] scope pos) scope X.env pos2 (newList []) false (eval iter X.env) use) Qr X.xe s:=by
 have B:=aaR hb;refine wpAny_comprehension_free (cl:=gH X.env.cells scope.names []) (use:=use) rfl hs (QF λx hx e=>?_) B.kind B.loc ?_
 ·obtain⟨n,k⟩:=x;have e:k= .free:=e;subst e;exact I.ok.has n (B.out n (rG hx))
 refine thn (hi pins s σ H (λJ H1=>∃xs,YR X.K O H1 J xs/\In X O H1 ρ σ/\good X (rD X) O ((jA (nY gt ft fe (Ak ts.length caps ρ)) xs).bind (cap .lst)) σ H1 Q) I (Pu.go j h λxs J H1 e1 s1 y1 j1 h1=>⟨xs,y1,j1,h1⟩)) λxv s1 h1=>thn h1 λitv s2 h2=>?_;obtain⟨it,fp,tn,J,H2,e,I2,T,st2,f2,xs,yr,j2,g2⟩:=h2;have tb2:Tb Ek H2:=hT.un I2.base;subst e;rw[<-QH hcap] at g2
 generalize eρ:pull X.N (dW scope) ts.length (ρ.map wC)=ρ0 at g2
 obtain⟨all,hall,hlen,g3⟩:∃all,jA (nY gt ft fe ρ0) xs= .ok all/\all.length<=1000000/\good X (rD X) O (.ok (.lst all)) σ H2 Q:=by
  cases e:jA (nY gt ft fe ρ0) xs with
  |bad=>rw[e] at g2;exact g2.elim
  |err c=>exact absurd e DN
  | ok all=>
   rw[e] at g2;have g2:good X (rD X) O (if all.length<=1000000 then .ok (.lst all) else .bad) σ H2 Q:=g2;by_cases hl:all.length<=1000000
   ·rw[if_pos hl] at g2;exact⟨all,rfl,hl,g2⟩
   ·rw[if_neg hl] at g2;exact g2.elim
 have hlt:∀b∈fp,b<s2.heap.objs.size:=λb hb=>by
  obtain⟨o,e,_⟩:=T.obj 0 _ st2 b hb;exact z2c e
 refine ac5 (Sg ?_)
 generalize hC:(s2.heap.push {cls:= .type "list",dict:=none,data:= .seq ([]:List abY).toArray}).objs.size=C
 have hC':C=s2.heap.objs.size+1:=by rw[<-hC];exact acW ..
 generalize e4:pushCells ((s2.heap.push {cls:= .type "list",dict:=none,data:= .seq ([]:List abY).toArray}).push {cls:= .type "dict",data:= .dict #[]}) scope.names=h4
 show aeI (model X.prog X.w) X.A (.compStart (.ListComp elt [⟨tg,iter,ifs,0⟩] scope pos) 0 (.ref it) (.ref s2.heap.objs.size) (gj scope X.env C)) (compPost (model X.prog X.w) X.A X.xe use Qr (.ref s2.heap.objs.size) C) {s2 with heap:=h4};have W4:H2 s2.heap.objs.size=none:=I2.hok.fresh (z0g _);have hOn:¬O s2.heap.objs.size:=j2.uq W4;have hDk:X.K.lookup s2.heap.objs.size=none:=by
  cases q:X.K.lookup s2.heap.objs.size with
  |none=>rfl
  |some o=>exact absurd (z2c (I2.kIn _ _ q)) (acX _)
 have I4:=Xv (ts:=ts) I2 B f2 hlt hC' e4.symm;have sD:Same H2 (upd H2 s2.heap.objs.size (.lst [])):=Same.upd W4;have lρ0:ρ0.length=(ts++dW scope).length:=by rw[<-eρ,wB,z1d]
 generalize eD:s2.heap.objs.size=Dd at *
 have ZC:∀{H':Hp},Same H2 H'->fL X.K O H2 (λa=>O a\/a=Dd) H':=λsm=>⟨(Same.eU (K:=X.K) (O:=O) sm).ext,λa z=>z.elim .inl λe=> .inr (by rw[e];exact⟨W4,hDk⟩),(Same.eU (K:=X.K) (O:=O) sm).dom⟩;have alO:∀{H':Hp} {ys:List V},Same H2 H'->H' Dd=some (.lst ys)->∀a,(O a\/a=Dd)->∃o,H' a=some o:=λsm e a z=>z.elim (λq=>let⟨o,h⟩:=j2.al a q;⟨o,sm _ _ h⟩) λq=>by rw[q];exact⟨_,e⟩
 have j4:In (cG X scope ts C s2 H2 fp) (λa=>O a\/a=Dd) (upd H2 Dd (.lst [])) ρ0 (pull X.N (dW scope) ts.length σ):=by
  rw[<-eρ];exact In.go (Zb B j2.vals) HW (ZC sD) (alO sD upd_same)
 have hv0:∀(i:Nat) e,ρ0[i]?=some (some e)->e.Ou=true:=by rw[<-eρ];exact HW
 have hn0:∀i,i<ts.length->ρ0[i]?=some none:=by rw[<-eρ];exact λi h=>Ss h
 have aaX:∀b o,s2.heap.get? b=some o->h4.get? b=some o:=λb o e=>by
  rw[<-e4];exact aeS _ _ b o (z1a _ (z1a _ e))
 have st4:tn 0 h4:=T.keep _ _ _ st2 λb _ o e=>aaX b o e;have stat:∀{H':Hp},(∀b∈fp,H' b=none)->∀b∈fp,FpOk (cG X scope ts C s2 H2 fp) [] H' b:=λ{H'} hn b hb=>by
  have hl: @LT.lt Nat _ b Dd:=hlt b hb;obtain⟨_,a1,a2,a3,a4,_⟩:=f2 b hb;refine⟨hn b hb,by show @Ne Nat b C;omega,λz=>?_,.inl hb,λx c h=>?_,λp hp=>absurd (show p∈([]:List (abX×Obj)) from hp) (by simp)⟩
  ·rcases ach.mp (I2.stkSub b z) with z |z
   ·exact a1 z
   ·exact a2 z
  ·rcases jJ B I2.ok.has h with⟨_,q⟩ |⟨_,q⟩
   ·show @Ne Nat c b;omega
   ·exact a4 x c q
 have fr4:∀b∈fp,(upd H2 Dd (.lst [])) b=none:=λb hb=>by
  have hl: @LT.lt Nat _ b Dd:=hlt b hb;rw[upd_ne (show @Ne Nat b Dd by omega)];exact (f2 b hb).1
 have loop : ∀s0:abZ,s0={s2 with heap:=h4}->aeI (model X.prog X.w) X.A (.compLoop (.ListComp elt [⟨tg,iter,ifs,0⟩] scope pos) 0 (.ref it) (.ref Dd) (gj scope X.env C)) (compPost (model X.prog X.w) X.A X.xe use Qr (.ref Dd) C) s0:=by
  intro s0 e0;refine codeAny_loop rfl (λn s'=>VH (cG X scope ts C s2 H2 fp) X.K (λa=>O a\/a=Dd) H2 Dd fp tn ρ0 xs (nY gt ft fe ρ0) all n s') (λn s' hI=>?_) (xs.length+1)
   ⟨0,_,_,[],[],all,rfl,adX _,e0▸I4,e0▸st4,fr4,j4,sD,upd_same,.nil,by simpa using hall,rfl⟩
  obtain⟨i,σ',H',ys,ds,rest,rfl,hil,I',st',fr',j',sm',hD',ZD,hm',hr'⟩:=hI;show ab4 (model X.prog X.w) X.A ((compTurn (.ListComp elt [⟨tg,iter,ifs,0⟩] scope pos) 0 (.ref it) (.ref Dd) (gj scope X.env C)).onRaise (λx=>do noteFrame x (gj scope X.env C);theTreesLotGoes x)) _ _ s';refine wpAny_noted ?_;rw[compTurn_list];have Sv:=yr _ H' (ZC sm') i;refine abW (af0 (abW ?_));by_cases hlt':i<xs.length
  ·-- a turn
   have ex:xs[i]?=some xs[i]:=by simp[hlt']
   have ed:xs.drop i=xs[i]::xs.drop (i+1):=aeT hlt';rw[ed] at hm';obtain⟨o,rest',k1,k2,k3⟩:=Sh hm';obtain⟨Ze,jy⟩:=Sv.1 _ ex;refine ac1 (T.item (cG X scope ts C s2 H2 fp) rfl rfl rfl hc i [] s' σ' H' (λ_ _=>False) I' (stat fr') st' Ze) (λr s4 ⟨u,hr,h4'⟩=>?_) λ_ _ z=>z.elim;subst hr;refine abW (ac1 h4' (λ_ s5 ⟨x,H5,I5,r5,y5,st5,fr5⟩=>?_) λ_ _ z=>z.elim);obtain⟨KJ,abt⟩:=jy x H5 y5;have I5':=I5.pinned (stat fr5) (T.obj _ _ st5);have k1:(gt xs[i] ρ0).bind (λρ1=>(ft ρ1).bind λb=>if b=true then (fe ρ1).bind λd=> .ok (some d) else .ok none)= .ok o:=k1;cases q1:gt xs[i] ρ0 with
   |bad=>rw[q1] at k1;cases k1
   |err c=>rw[q1] at k1;cases k1
   | ok ρ1 =>
    rw[q1] at k1;have k1:(ft ρ1).bind (λb=>if b=true then (fe ρ1).bind λd=> .ok (some d) else .ok none)= .ok o:=k1;refine abW (ac1 (hg C s2 H2 fp B.nd _ s5 σ' H5 x u (λσ6 H6=>H6=H5/\In (cG X scope ts C s2 H2 fp) (λa=>O a\/a=Dd) H5 ρ1 σ6) I5' r5 ⟨ρ0,_,xs[i],ρ1,j'.same KJ,abt,q1,λσ6 j6=>⟨rfl,j6⟩⟩) (λ_ s6 ⟨σ6,H6,I6,eH,j6⟩=>?_) λ_ _ z=>(show False from z).elim);subst eH;cases q2:ft ρ1 with
    |bad=>rw[q2] at k1;cases k1
    |err c=>rw[q2] at k1;cases k1
    | ok bb =>
     rw[q2] at k1;have k1:(if bb=true then (fe ρ1).bind λd=>R.ok (some d) else .ok none)= .ok o:=k1;have gtest:tG (cG X scope ts C s2 H2 fp) rB ft σ6 H6 (λb H7=>b=bb/\Same H6 H7):=⟨ρ1,_,j6,by rw[q2];exact λb H7 s7 e7=>⟨e7.symm,s7⟩⟩;refine abW (ac1 (ht C s2 H2 fp tb2 _ s6 σ6 H6 _ I6 gtest) (λok s7 ⟨H7,I7,ok7,El⟩=>?_) λ_ _ z=>(show False from z).elim);subst ok7;have back:∀{H8:Hp} {s8:abZ} {ys':List V} {ds':List D},Inv (cG X scope ts C s2 H2 fp) ([]++pinsAt fp s5.heap) σ6 H8 s8->Same H2 H8->In (cG X scope ts C s2 H2 fp) (λa=>O a\/a=Dd) H8 ρ0 σ6->H8 Dd=some (.lst ys')->aO X.K (λa=>O a\/a=Dd) H8 ds' ys'->ds'++rest'=all->
       ∃m,m<xs.length+1 - i/\VH (cG X scope ts C s2 H2 fp) X.K (λa=>O a\/a=Dd) H2 Dd fp tn ρ0 xs (nY gt ft fe ρ0) all m s8:=by
      intro H8 s8 ys' ds' I8 Pk j8 W5 W6 hr8;refine⟨xs.length+1 - (i+1),by omega,i+1,σ6,H8,ys',ds',rest',rfl,by omega,I8.unpinned,T.keep _ _ _ st5 λb hb o e=>(I8.pin (b,o) (acG _ (acG _ (mem_pinsAt hb e)))).1,λb hb=>?_,j8,Pk,W5,W6,k2,hr8⟩;obtain⟨o,e,d⟩:=T.obj _ _ st5 b hb;exact (I8.pin (b,o) (acG _ (acG _ (mem_pinsAt hb e)))).2.1
     have j60:In (cG X scope ts C s2 H2 fp) (λa=>O a\/a=Dd) H6 ρ0 σ6:=In.back (n:=ts.length) j6 hn0 (λk hk'=>hk _ _ _ q1 k hk') lρ0;cases ok with
     | false=>
      have k1:R.ok none=R.ok o:=k1;cases k1;refine ab1 ⟨rfl,?_⟩;refine back I7 (sm'.trans (KJ.trans El)) (j60.same El) (El _ _ (KJ _ _ hD')) (ZD.same (KJ.trans El)) ?_;rw[<-hr',k3];rfl
     | true =>
      have k1:(fe ρ1).bind (λd=>R.ok (some d))= .ok o:=k1;cases q3:fe ρ1 with
      |bad=>rw[q3] at k1;cases k1
      |err c=>rw[q3] at k1;cases k1
      | ok d =>
       rw[q3] at k1;have k1:R.ok (some d)=R.ok o:=k1;cases k1;have abu:tG (cG X scope ts C s2 H2 fp) (rD (cG X scope ts C s2 H2 fp)) fe σ6 H7 (λv H8=>Same H7 H8/\Rep X.K (λa=>O a\/a=Dd) H8 d v):=⟨ρ1,_,j6.same El,by rw[q3];exact λv H8 s8 r8=>⟨s8,r8⟩⟩;refine abW (abW (ac1 (he C s2 H2 fp tb2 _ s7 σ6 H7 _ I7 abu) (λxv s8 ⟨v8,H8,I8,r8,Pk,abv⟩=>?_) λ_ _ z=>(show False from z).elim));have W5:H8 Dd=some (.lst ys):=Pk _ _ (El _ _ (KJ _ _ hD'));have W6:aO X.K (λa=>O a\/a=Dd) H8 ds ys:=ZD.same (KJ.trans (El.trans Pk));have hds:ds++d::rest'=all:=by rw[<-hr',k3];rfl
       have hyl:ys.length<sizeLine:=by
        have:=fJ;have e1:=W6.length;have e2:=congrArg List.length hds;rw[z1d,acn] at e2;omega
       refine abW (ac1 (mt_append (X:=cG X scope ts C s2 H2 fp) _ s8 σ6 H8 (.ref Dd) [v8] (.ref Dd) [xv] (λ_ H9=>H9=upd H8 Dd (.lst (ys++[v8]))) I8 rfl (.cons r8 .nil) ⟨_,ys,v8,rfl,rfl,W5,hyl,rfl⟩) (λ_ s9 ⟨_,H9,I9,_,eH9⟩=>?_) λ_ _ z=>(show False from z).elim);subst eH9;have abw:Same H2 H8:=sm'.trans (KJ.trans (El.trans Pk));have ZF:fL X.K (λa=>O a\/a=Dd) H8 (λa=>O a\/a=Dd) (upd H8 Dd (.lst (ys++[v8]))):=by
        refine⟨⟨λb zs h=>?_,λb zs n h=>?_⟩,λa z=> .inl z,λa z=>?_⟩
        ·have nb:b≠Dd:=λe=>by
          rw[e] at h;rcases h with h |⟨o,h⟩ <;> rw[W5] at h <;> cases h
         rcases h with h |⟨o,h⟩
         ·exact .inl (by rw[upd_ne nb];exact h)
         ·exact .inr ⟨o,by rw[upd_ne nb];exact h⟩
        ·have nb:b≠Dd:=λe=>n (.inr e);rcases h with h |⟨o,h⟩
         ·exact .inl (by rw[upd_ne nb];exact h)
         ·exact .inr ⟨o,by rw[upd_ne nb];exact h⟩
        ·by_cases ea:a=Dd
         ·rw[ea,upd_same] at z;cases z
         ·rw[upd_ne ea] at z;exact z
       have sm9:Same H2 (upd H8 Dd (.lst (ys++[v8]))):=λb o e=>by
        rw[upd_ne (ne_of_none e W4)];exact abw _ _ e
       refine ab1 (ab1 ⟨rfl,?_⟩);refine back I9 sm9 (In.go (j60.same (El.trans Pk)) hv0 ZF (alO sm9 upd_same)) upd_same ((W6.append (.cons abv .nil)).go ZF) ?_;rw[ado];exact hds
  ·-- the end
   have ei:i=xs.length:=by omega
   subst ei;have hrest:rest=[]:=by
    have hm':jA (nY gt ft fe ρ0) (xs.drop xs.length)= .ok rest:=hm';rw[List.drop_length] at hm';cases hm';rfl
   subst hrest;rw[acE] at hr';subst hr';refine ac1 (T.done (cG X scope ts C s2 H2 fp) rfl rfl rfl hc _ [] s' σ' H' (λ_ _=>False) I' (stat fr') st' (Sv.2 (z0g _))) (λr s5 ⟨hr,I5⟩=>?_) λ_ _ z=>z.elim;subst hr;refine ab1 ?_;obtain⟨m,hns,_⟩:=I5.loc;have hCn:H' C=none:=I5.free;have I6:Inv X pins σ H' s5:=by
    refine I2.call' (s':=s5) (ch:=fp) I5.os ⟨λb o e n hb hx=>I5.base.keep b o e n hb hx,λb o e n hb hx=>I5.base.slot b o e n hb hx,I5.base.free,λb o e hx=>I5.base.there b o e hx,I5.base.tups,I5.base.frzs,I5.base.tbls⟩ (λb u e=>I5.hok b u e) I5.bare λb hb=>⟨(f2 b hb).2.2.2.1,(f2 b hb).2.1,(f2 b hb).2.2.2.2.1,(f2 b hb).2.2.2.2.2⟩
   exact hQ (.ref Dd) H' s5 C m _ (.ref Dd) (g3 _ _ sm' (lY (SqL.of hD') hOn (ZD.fewer λa z=> .inl z))) I6 hns (I2.fpOk (show @LE.le Nat _ _ C by omega) hCn) rfl
 exact codeAny_compStart_list (loop _ rfl) (T.self _ 0 _ _ _ st4 (loop _ rfl))
theorem KN{pos2:Pos}{fi:aB->R (List D)}{gt:D->aB->R aB}{fe:aB->R D}(ts:List Str)(caps:List Nat)
  (hc:X.calm=true)(hb:Ck X.env.scope scope ts X.N=true)(hcap:(dW scope).map (λx=>jH x X.N)=caps)
  (hi:DI X tg iter fi)(hk:pJ ts.length gt)(hg:∀C s H ex,(cG X scope ts C s H ex).N.Nodup->DG (cG X scope ts C s H ex) tg gt)(ht:∀C s H ex,Ka (cG X scope ts C s H ex) ifs ft)(he:∀C s H ex,DE (cG X scope ts C s H ex) elt fe)
  (hs:∀x,adQ iter X.env x=pure x){use:Option (abY->Sem Unit)}{Qr:abY->abZ->Prop}{s:abZ}{Q:VK}(I:Inv X pins σ H s)(j:In X O H ρ σ)
  (hQ:∀(v:V) (H':Hp) (s5:abZ) (C:abX) (m:Str->Option abY) (f:Flow) (acc:abY),Q v H'->Inv X pins σ H' s5->s5.heap.Ns C m->FpOk X pins H' C->RelV v acc->compPost (model X.prog X.w) X.A X.xe use Qr acc C (.ok f) s5)
  (h:good X (rD X) O (bL ts.length caps fi gt ft fe ρ) σ H Q):
  ab4 (model X.prog X.w) X.A (comprehension (.ListComp elt [⟨tg,iter,ifs,0⟩] scope pos) scope X.env pos2 (newList []) false (eval iter X.env) use) Qr X.xe s:=
 Il (Ek:=[]) ts caps hc hb hcap hi hk hg (λ_ z=>absurd z adi) (λC s H ex _=>ht C s H ex) (λC s H ex _=>he C s H ex) hs I j hQ h
theorem bW{fi:aB->R (List D)}{gt:D->aB->R aB}{fe:aB->R D}(ts:List Str)(caps:List Nat)
  (hc:X.calm=true)(hb:Ck X.env.scope scope ts X.N=true)(hcap:(dW scope).map (λx=>jH x X.N)=caps)
  (hi:DI X tg iter fi)(hk:pJ ts.length gt)(hg:∀C s H ex,(cG X scope ts C s H ex).N.Nodup->DG (cG X scope ts C s H ex) tg gt)(ht:∀C s H ex,Ka (cG X scope ts C s H ex) ifs ft)(he:∀C s H ex,DE (cG X scope ts C s H ex) elt fe)
  (hs:∀x,adQ iter X.env x=pure x:=by intro _;rfl):
  DE X (.ListComp elt [⟨tg,iter,ifs,0⟩] scope pos) (bL ts.length caps fi gt ft fe):=by
 intro pins s σ H Q I h;obtain⟨ρ,O,j,h⟩:=h;rw[eval_ListComp];exact KN ts caps hc hb hcap hi hk hg ht he hs (use:=none) (Qr:=EP X pins σ Q) I j (λv H' s5 C m f acc hv I6 hns fp rv=>⟨m,hns,λh' sb=>⟨v,H',I6.fp fp sb,rv,hv⟩⟩) h
theorem Pn(i:Nat){x:Str}{cpos:Pos}{fi:aB->R (List D)}{gt:D->aB->R aB}{fe:aB->R D}(hN:X.N.Nodup)(ts:List Str)(caps:List Nat)
  (hc:X.calm=true)(hb:Ck X.env.scope scope ts X.N=true)(hcap:(dW scope).map (λx=>jH x X.N)=caps)
  (hi:DI X tg iter fi)(hk:pJ ts.length gt)(hg:∀C s H ex,(cG X scope ts C s H ex).N.Nodup->DG (cG X scope ts C s H ex) tg gt)(ht:∀C s H ex,Ka (cG X scope ts C s H ex) ifs ft)(he:∀C s H ex,DE (cG X scope ts C s H ex) elt fe)
  (hix:X.N[i]?=some x:=by rfl)(hx:Loc X.env.scope x:=by first |exact acZ rfl |exact acM rfl)(hf:X.fn x=true\/X.env.scope.names.lookup x=some .local:=by first |exact .inl rfl |exact .inr rfl)
  (hsw:ae0 (.ListComp elt [⟨tg,iter,ifs,0⟩] scope cpos) (some (.Name x pos')) pos.line X.env=pure true:=by rfl)
  (hs:∀x,adQ iter X.env x=pure x:=by intro _;rfl):
  DS X (.Assign [.Name x pos'] (.ListComp elt [⟨tg,iter,ifs,0⟩] scope cpos) pos) (bw (bL ts.length caps fi gt ft fe) (aK i)):=by
 intro pins s σ H E I h;obtain⟨H0,O0,O,ρ,j,h⟩:=h;rw[exec_Assign_Name_used _ _ _ _ hsw];refine abW (af0 (abW ?_));show ab4 _ _ (comprehension (.ListComp elt [⟨tg,iter,ifs,0⟩] scope cpos) scope X.env _ (newList []) false (eval iter X.env) (some (assign (.Name x pos') X.env)) >>=λ_=>pure ()) _ _ _;unfold bw jC at h;refine abW (KN (Q:=λv H'=>∃d,bL ts.length caps fi gt ft fe ρ= .ok d/\Same H H'/\Rep X.K O H' d v) (Qr:=λ_ s'=>ab4 (model X.prog X.w) X.A (pure ()) (λ_ s1=>ab4 (model X.prog X.w) X.A (pure Flow.next) (SP X pins E) X.xe s1) X.xe s') ts caps hc hb hcap hi hk hg ht he hs I j.inn ?_ ?_)
 ·intro v H' s5 C m f acc hq I5 hns fC rel;obtain⟨d,ed,sm,rd⟩:=hq;rw[ed] at h;have h:vJ X H0 O0 O H E (.nx (ρ.set i (some (.val d)))):=h;obtain⟨o,es,ep,ho,hd,hr⟩:=hns;have Ip:=I5.pinned (fp:=[C]) (λb hb=>by rw[acV.mp hb];exact fC) (λb hb=>by rw[acV.mp hb];exact⟨o,ho,λv z=>by rw[hd] at z;cases z⟩);show ab4 (model X.prog X.w) X.A (assign (.Name x pos') X.env acc) _ X.xe s5;refine ac1 (pg_name hN hix hx hf _ s5 σ H' v acc (λσ' W7=>σ'=σ.set i (some v)/\W7=H') Ip rel ⟨rfl,rfl⟩) (λ_ s6 ⟨σ',W7,I',e1,e2⟩=>?_) λ_ _ z=>z;subst e1 e2;have pn:=(I'.pin (C,o) (acG _ (acG _ (mem_pinsAt (acV.mpr rfl) ho)))).1;refine⟨m,⟨o,es,ep,pn,hd,hr⟩,λh' sb=>ab1 (ab1 ⟨_,W7,(I'.unpinned).fp fC sb,h _ W7 O ((j.grow sm).set (z1b hix).1 rd) (Same.eU sm)⟩)⟩
 ·cases e1:bL ts.length caps fi gt ft fe ρ with
  |bad=>rw[e1] at h;exact h
  |err c=>rw[e1] at h;exact h σ H O j
  |ok d=>exact λv H' sm r=>⟨d,rfl,sm,r⟩
end
def okN(F:List D->R D)(n:Nat)(ds:List D):R D:=if ds.length=n then F ds else .bad
def Ay(sub:Str->Str->Bool)(i:Nat)(t:Str):aB->R D:=λρ=>match ρ[i]? with
 |some (some (.obj (.exc c)))=>if sub c c=true then .ok (.bl (sub c t)) else .bad
 |_=> .bad
def KQ(sub:Str->Str->Bool)(t:Str)(i:Nat)(g h:aB->So):aB->So:=λρ=>match g ρ with
 | .ex c ρ1=>if sub c t=true then (match h (ρ1.set i (some (.obj (.exc c)))) with
  | .rt d=> .rt d
  |_=> .bad) else .bad
 |o=>o
def abU:List D->R (List D)
 |[.lst ds]=> .ok ds.reverse
 |_=> .bad
def mulL:D->D->R D
 | .lst ds,.int k=>if ds≠[]/\1<=k/\k<2^63/\ds.length*k.toNat<=1000000 then .ok (.lst (ab3 k.toNat ds).flatten) else .bad
 |x,y=>wG x y
section
variable{ρ ρ1:aB}{fa:aB->R (List D)}{F:List D->R D}{ds:List D}{n:Nat}{d:D}{c:Str}{f:aB->R D}{gt:D->aB->R aB}{p:aB->R Bool}{s t:aB->So}{o:So}
theorem Az(e:f (dB ρ)= .err c):jD f ρ= .ex c ρ:=by rw[jD,e];rfl
theorem KR(e:s ρ= .ex c ρ1):aP s t ρ= .ex c ρ1:=by rw[aP,e]
theorem yF{m:Nat}(e:s (ds.map (λd=>some (.val d))++ab3 m none)= .ex c ρ1):bV m s ds= .err c:=by rw[bV,e]
theorem wI{sub:Str->Str->Bool}{t:Str}(h:ρ[i]?=some (some (.obj (.exc c))))(hk:sub c c=true):Ay sub i t ρ= .ok (.bl (sub c t)):=by
 unfold Ay;rw[h];show (if sub c c=true then R.ok (D.bl (sub c t)) else .bad)=_;rw[if_pos hk]
theorem Tp{sub:Str->Str->Bool}{u:Str}(e1:s ρ= .ex c ρ1)(hs:sub c u=true)(e2:t (ρ1.set i (some (.obj (.exc c))))= .rt d):KQ sub u i s t ρ= .rt d:=by
 unfold KQ;rw[e1];simp only[hs,if_true,e2]
end
structure vV(fs:List abX)(h h':ace)(a C:abX)(T:Option abX)(t':abX):Prop where
 exc:Exc h' a C (some t')
 old:T=some t'\/h.get? t'=none
 keep:∀b o,h.get? b=some o->b≠a->T≠some b->b∉fs->h'.get? b=some o
 slot:∀b o,h.get? b=some o->b∈fs->∃sl,h'.get? b=some {o with slots:=sl}
section
variable{M:Model}{A:acg}{E:abY->abZ->Prop}{s:abZ}
theorem yG{h h1 b0 b1:ace}:∀{l:List PySem.Env},h.FunFrames b0 l->(∀b∈frs l,b1.get? b=none)->(∀b o,h.get? b=some o->b∈frs l->h1.get? b=some o)->h1.FunFrames b1 l
 |[],_,_,_=>trivial
 | env::r,hl,hn,hs=>by
  obtain⟨hk,⟨L,o,hf,_,ho,hd⟩,hr⟩:=hl;have e:frs (env::r)=L::frs r:=by unfold frs;rw[aeL,hf]
  rw[e] at hn hs;exact⟨hk,⟨L,o,hf,hn L acq,hs L o ho acq,hd⟩,yG hr (λb hb=>hn b (z2f _ hb)) λb o q hb=>hs b o q (z2f _ hb)⟩
theorem Tq{o:Obj}{g:Array abY->Array abY}:(o.mapFields g).dict=o.dict:=by
 obtain⟨c,d,dt,sl⟩:=o;cases dt <;> rfl
theorem Im{L a:abX}{oe:Obj}{vs:Array abY}{hd0:abY}{had:Bool}{Q:Unit->abZ->Prop}(hfr:A.frames=some (env::outer))(hl:s.heap.FunFrames b0 (env::outer))(hf:env.frame=some L)
  (he:s.heap.get? a=some oe)(hc:oe.cls= .ref C)(hn:oe.dict=none)(hv:oe.data= .fields vs)(hz:1<vs.size)
  (h:∀h' t',vV (frs (env::outer)) s.heap h' a C none t'->Q () {s with heap:=h'}):
  ab4 M A (do let x <-frameOf env;let y <-entryPlaceOf L had;let z <-agM hd0 x .none (acQ L) .none y;setField (.ref a) 1 z) (λ_ s'=>ab4 M A (setFlight (.ref a) none) Q E s') E s:=by
 have na:a∉frs (env::outer):=λz=>by
  obtain⟨_,o',ho',hd'⟩:=hl.mem z;rw[he] at ho';cases ho';exact hd' vs hv
 refine abW (wpAny_frameOf_fun hfr hl hf λg1 sl1=>abW (wpAny_entryPlaceOf λpl ok=>?_));unfold agM newFields;refine abW (ac5 ?_ (ok.sizeOk5 _ _ _ _ _));have e1:g1.get? a=some oe:=(sl1.2.1 a na).trans he
 generalize hob:({cls:= .type "traceback",dict:=none,data:= .fields ([hd0,.ref L,.none,acQ L,.none]++(if pl.isEmpty then ab3 6 aco else pl)).toArray}:Obj)=ob
 have VJ:ob.data= .fields ([hd0,.ref L,.none,acQ L,.none]++(if pl.isEmpty then ab3 6 aco else pl)).toArray:=by rw[<-hob]
 have abx:ob.isFreed=false:=by rw[<-hob];rfl
 have e2:(g1.push ob).get? a=some oe:=z1a ob e1;refine afb e2 hv hz ?_;have nT:g1.objs.size≠a:=agl (z2c e1);have d3:=aer hv (·.setIfInBounds 1 (ab8 g1.objs.size));have e3:=aey (ael (·.setIfInBounds 1 (ab8 g1.objs.size))) e2 (afu d3);have T3:=(adh (g1.push ob) (ael (·.setIfInBounds 1 (ab8 g1.objs.size))) (acd nT)).trans (z1f g1 abx);unfold setFlight;refine abW (acB e3 d3 (x:= .ref g1.objs.size) (by simp[hz]) ?_);rw[if_pos (show (ab8 g1.objs.size !=aco)=true from by simp)];have hsz:3<(([hd0,.ref L,.none,acQ L,.none]++(if pl.isEmpty then ab3 6 aco else pl)).toArray).size:=by
  rw[z1c,z1d];show 3<5+_;omega
 refine afb T3 VJ hsz (h _ g1.objs.size ⟨⟨_,_,(adh _ _ nT).trans e3,(Obj.cls_mapFields _ _).trans hc,Tq.trans hn,d3,by simp[hz],nT,_,_,aey _ T3 (afu (aer VJ _)),aer VJ _,?_⟩,.inr (Heap.get?_none_of_le (by rw[sl1.1];exact z0g _)),λb o hb n1 _ n3=>?_,λb o hb hm=>?_⟩)
 ·rw[Array.getElem?_setIfInBounds,if_pos rfl,if_pos hsz];rfl
 ·have q1:g1.get? b=some o:=(sl1.2.1 b n3).trans hb;rw[adh _ _ (agl (z2c q1)),adh _ _ (acd n1)];exact z1a _ q1
 ·obtain⟨sl,q1⟩:=sl1.2.2 b o hb;refine⟨sl,?_⟩;rw[adh _ _ (agl (z2c q1)),adh _ _ (λz=>na (by rw[z];exact hm))];exact z1a _ q1
theorem KY{L a:abX}{T:Option abX}{Q:Unit->abZ->Prop}(hfr:A.frames=some (env::outer))(hl:s.heap.FunFrames b0 (env::outer))(hf:env.frame=some L)(x:Exc s.heap a C T)
  (h:∀h' t',vV (frs (env::outer)) s.heap h' a C T t'->Q () {s with heap:=h'}):ab4 M A (noteFrame (.ref a) env) (λ_ s2=>ab4 M A (setFlight (.ref a) none) Q E s2) E s:=by
 obtain⟨oe,vs,he,hc,hn,hd,hx⟩:=x;unfold noteFrame;simp only[hf];cases T with
 | none=>
  have h1:vs[1]?=some aco:=hx;refine abW (acB he hd h1 ?_);rw[if_neg (by decide)];exact Im hfr hl hf he hc hn hd (adw.mp h1).1 h
 | some t=>
  obtain⟨h1,hne,ot,ts,ht,hdt,h3⟩:=hx;have nt:t∉frs (env::outer):=λz=>by
   obtain⟨_,o',ho',hd'⟩:=hl.mem z;rw[ht] at ho';cases ho';exact hd' ts hdt
  refine abW (acB he hd h1 ?_);rw[if_pos (show (ab8 t !=aco)=true from by simp)];refine abW (acB ht hdt h3 ?_);rw[if_neg (show ¬((aco ==acQ L)=true) from by simp[acQ])];refine abW (afb ht hdt (adw.mp h3).1 ?_);have other:∀b o,s.heap.get? b=some o->b≠t->(s.heap.update t (ael (·.setIfInBounds 3 aco))).get? b=some o:=λb o q hb=>(adh _ _ (acd hb)).trans q;refine Im (s:={s with heap:=s.heap.update t (ael (·.setIfInBounds 3 aco))}) (b0:=b0) hfr (yG hl (λb hb=>(hl.mem hb).1) λb o q hb=>other b o q λz=>nt (z▸hb)) hf (other a oe he (acd hne)) hc hn hd (adw.mp h1).1 λh' t' ld=>?_;refine h h' t' ⟨ld.exc,?_,λb o q n1 n2 n3=>ld.keep b o (other b o q λz=>n2 (by rw[z])) n1 (by simp) n3,λb o q hm=>ld.slot b o (other b o q λz=>nt (z▸hm)) hm⟩;by_cases z:t'=t
  ·exact .inl (by rw[z])
  ·refine .inr ?_;rcases ld.old with q |q
   ·cases q
   ·cases q2:s.heap.get? t' with
    |none=>rfl
    | some o=>
     have q3:=other t' o q2 z;have q:(s.heap.update t (ael (·.setIfInBounds 3 aco))).get? t'=none:=q;rw[q] at q3;cases q3
theorem Tr{L a:abX}{T:Option abX}{Q:Unit->abZ->Prop}(hfr:A.frames=some (env::outer))(hl:s.heap.FunFrames b0 (env::outer))(hf:env.frame=some L)(x:Exc s.heap a C T)
  (h:∀h' t',vV (frs (env::outer)) s.heap h' a C T t'->Q () {s with heap:=h'}):ab4 M A (leaving env (.ref a)) Q E s:=by
 unfold leaving;exact abW (KY hfr hl hf x h)
end
section
variable{P:ab9}{w:acf}{fs fs':List abX}{H H' H0:Hp}{s s' s0:abZ}{a C:abX}{T:Option abX}{h':ace}{t':abX}
theorem ObjOk.ex{H:Hp}{a:abX}{o:HO}(x:ObjOk P w H h a o):∃ob,h.get? a=some ob:=by
 induction o with
 |lst xs=>obtain⟨_,_,_,_,e⟩:=x;exact⟨_,e⟩
 |tup xs=>obtain⟨_,_,_,ob,e,_⟩:=x;exact⟨_,e⟩
 |dK kvs=>obtain⟨_,_,_,_,ob,_,_,e,_⟩:=x;exact⟨_,e⟩
 |dT kvs=>obtain⟨_,_,_,_,ob,_,_,e,_⟩:=x;exact⟨_,e⟩
 |set S n=>obtain⟨ob,_,_,_,e,_⟩:=x;exact⟨_,e⟩
 |ins C dx fs=>obtain⟨_,_,_,e,_⟩:=x;exact⟨_,e⟩
 |own y=>exact x
 |xd fs=>obtain⟨_,⟨_,_,_,e,_⟩,_⟩:=x;exact⟨_,e⟩
 |rng lo hi=>obtain⟨_,_,_,e⟩:=x;exact⟨_,e⟩
 |frz ob u ih=>exact⟨_,x.1⟩
 |tbl ps=>obtain⟨_,e,_⟩:=x;exact⟨_,e⟩
 |met f y=>exact⟨_,x⟩
 |ext φ=>exact x.2.1
theorem wJ{b:abX}(x:HOk P w H h)(e:h.get? b=none):H b=none:=by
 cases q:H b with
 |none=>rfl
 | some u=>
  obtain⟨o,z⟩:=ObjOk.ex (x b u q);rw[e] at z;cases z
theorem vV.hok(ld:vV fs h h' a C T t')(x:HOk P w H h)(ha:H a=none)(ht:∀t,T=some t->H t=none)(hf:∀b∈fs,H b=none):HOk P w H h':=λb u e=>by
 have ne:∀c v,H c=some v->c≠a/\T≠some c/\c∉fs:=λc v q=>⟨λz=>(by rw[z,ha] at q;cases q),λz=>(by rw[ht c z] at q;cases q),λz=>(by rw[hf c z] at q;cases q)⟩;refine (x b u e).stay (λc v hc q=>?_) (λ_ q=>q) (λ_ _ q=>q) λ_ _ _ _ q=>q;rcases hc with rfl |hc
 ·obtain⟨n1,n2,n3⟩:=ne _ _ e;exact ld.keep _ _ q n1 n2 n3
 ·obtain⟨n1,n2,n3⟩:=ne _ _ hc;exact ld.keep _ _ q n1 n2 n3
theorem xJ.land(r:xJ P w fs H s a C T s' H')(hs:∀b∈fs',b∈fs)(ld:vV fs' s'.heap h' a C T t')(hf:∀b∈fs,H' b=none):xJ P w fs H s a C (some t') {s' with heap:=h'} H':=by
 have ne:∀b o,s.heap.get? b=some o->b≠a/\T≠some b:=λb o q=>⟨λz=>(by rw[z,r.na] at q;cases q),λz=>(by rw[(r.nt b z).1] at q;cases q)⟩;have any:∀b o,s.heap.get? b=some o->∀o',s'.heap.get? b=some o'->∃sl,h'.get? b=some {o' with slots:=sl}:=λb o q o' q'=>by
  by_cases hb:b∈fs'
  ·exact ld.slot b o' q' hb
  ·exact⟨o'.slots,ld.keep b o' q' (ne b o q).1 (ne b o q).2 hb⟩
 refine⟨r.same,⟨λb o q n hb hx=>?_,λb o q n hb hx=>?_,r.un.free,λb o q hx=>?_,r.un.tups,r.un.frzs,r.un.tbls⟩,ld.hok r.hok r.ha (λt z=>(r.nt t z).2) λb hb=>hf b (hs b hb),r.os,r.bare,ld.exc,r.na,r.ha,λt z=>?_⟩
 ·exact ld.keep b o (r.un.keep b o q n hb hx) (ne b o q).1 (ne b o q).2 λz=>hb (hs b z)
 ·obtain⟨sl,e⟩:=r.un.slot b o q n hb hx;obtain⟨sl',e'⟩:=any b o q _ e;exact⟨sl',e'⟩
 ·obtain⟨o',e⟩:=r.un.there b o q hx;obtain⟨sl',e'⟩:=any b o q _ e;exact⟨_,e'⟩
 ·cases z;rcases ld.old with z |z
  ·exact r.nt t' z
  ·refine⟨?_,wJ r.hok z⟩;cases q:s.heap.get? t' with
   |none=>rfl
   | some o=>
    obtain⟨o',e⟩:=r.un.there t' o q (by simp);rw[z] at e;cases e
theorem xJ.from{X:Cx}(I:Inv X pins σ H s)(hex:X.ex=[])(r:xJ X.prog X.w (frs X.stack) H s a C T s' H')(sm:Same X.H₀ H):xJ X.prog X.w X.fs X.H₀ X.s₀ a C T s' H':=by
 have J:Inv X pins σ H' s':=I.call' r.os r.un r.hok r.bare λb z=>absurd z (by simp);have b:=J.base;rw[hex] at b;have no:∀c,s.heap.get? c=none->X.s₀.heap.get? c=none:=λc e=>by
  cases q:X.s₀.heap.get? c with
  |none=>rfl
  | some o=>
   obtain⟨o',e'⟩:=I.base.there c o q (by rw[hex];simp);rw[e] at e';cases e'
 exact⟨sm.trans r.same,b,r.hok,J.os,r.bare,r.exc,no a r.na,r.ha,λt z=>⟨no t (r.nt t z).1,(r.nt t z).2⟩⟩
end
def Pq(P:ab9)(w:acf):CXT:=λouter H s E e s'=>∃a C T H',e= .ref a/\E (.ref C) none H'/\xJ P w (frs outer) H s a C T s' H'
def spX(K:PySem.W.Frag)(n:Nat)(F:List D->R D):Sp:=λvs H Q E=>∃O ds,aO K O H ds vs/\ds.length=n/\(∀a,O a->∃o,H a=some o)/\match F ds with
 | .ok d=>∀v H',Same H H'->Rep K O H' d v->Q v H'
 | .err c=>∀C H',PySem.W.nsIn K ab5 c=some (some (.ref C))->E (.ref C) none H'
 | .bad=>False
section
variable{P:ab9}{w:acf}{K:PySem.W.Frag}{mg:Str->Option abY}{base:ace}
end
section
variable{X:Cx}{k n m:Nat}{F:List D->R D}{x:Str}{p pos:Pos}{e:ab6}{es:List ab6}{fa:aB->R (List D)}
end
abbrev VL:List abY:=[.type "ValueError",.type "Exception",.type "BaseException",.type "object"]
structure W8(K:PySem.W.Frag)(mg:Str->Option abY)(c:Str)(C:abX):Prop where
 ns:PySem.W.nsIn K ab5 c=some (some (.ref C))
 mg:mg c=some (.ref C)
 ex:PySem.W.excIn K C VL "ValueError.__new__" =true
theorem Tt{bmB:List abY}{newId:String}(X:K.In h)(q:PySem.W.excIn K C bmB newId=true):
  ∃bm N nm qn bs hdct sn sub ab col dd k0 k1 k2 k3 k5 mN,h.get? C=some (excClassObj nm qn C N bs bm hdct sn sub ab col dd k0 k1 k2 k3 k5 newId)/\h.Ns N mN/\mN "__init__" =none/\OwnTail h bmB bm:=by
 unfold PySem.W.excIn at q;split at q
 ·rename_i d0 cd sl0 e0;split at q
  ·rename_i C1 b1 a0 a1 a2 a3 n1 a5 e1 e2;simp only[acY,beq_iff_eq,Bool.not_eq_true'] at q;obtain⟨⟨⟨⟨⟨rfl,rfl⟩,z1⟩,z2⟩,z3⟩,z4⟩:=q;obtain⟨v1,v2,v3,v4,v5,v6,v7,v8,v9,v10,v11⟩:=cd
   dsimp only at e1 z1 z3 z4
   subst e1 z1;obtain⟨l0⟩:=sl0;simp only at e2;subst e2;exact⟨b1,v4,v1,v5,v2,v6,v7,v8,v9,v10,d0,a0,a1,a2,a3,a5,_,X _ _ e0,.of_isNs (PySem.W.isNs_of_in X z3),PySem.W.nsMap_none_of_in X z3 z4,PySem.W.tail_of_in X z2⟩
  ·cases q
 ·cases q
section
variable{X:Cx}{c:Str}{C:abX}{np cpos pos:Pos}{e:ab6}{fa:aB->R (List D)}
theorem VN(hc:X.calm=true)(hx:W8 X.K X.mg c C)(ha:DA X [e] fa)(hfa:∀ρ,∃ds,fa ρ= .ok ds/\ds.length<=1000000)(hg:Gl X c:=by rfl)(hdb:(c ==("__debug__" :Str))=false:=by decide)
  (he:ab2 [e] X.env=(false,eval e X.env)::ab2 [] X.env:=by rfl)(hpl:(acO cpos (ab2 [e] X.env)).any (·.1)=false:=by rfl):
  DS X (.Raise (some (.Call (.Name c np) [e] [] cpos)) none pos) (λρ=> .ex c ρ):=by
 intro pins s σ H E I h;obtain⟨H0,O0,O,ρ,j,h⟩:=h;obtain⟨bm,N,nm,qn,bs,hdct,sn,sub,ab,col,dd,k0,k1,k2,k3,k5,mN,o1,o2,o3,o4⟩:=Tt I.mod.kin hx.ex;obtain⟨ds,ef,dl⟩:=hfa ρ;have key:tG X (Du X) fa σ H (λvs H1=>ds.length=vs.length/\Same H H1):=⟨ρ,O,j.inn,by rw[ef];exact λvs H1 s1 r1=>⟨r1.length,s1⟩⟩;refine wpAny_Raise_call_subU (C:=C) (nm:=nm) (q:=qn) (N:=N) (bs:=bs) (bm:=bm) (hdct:=hdct) (sn:=sn) (sub:=sub) (ab:=ab) (col:=col) (dd:=dd) (k0:=k0) (k1:=k1) (k2:=k2) (k3:=k3) (k5:=k5)
  PySem.F.excBase_ValueError (by rfl) PySem.F.excBase_ValueError (mN:=mN) (o4.hasType PySem.F.excBase_ValueError.hasBase) (I.ok.hd hc) hpl o3 (ld_glob I hg hx.mg ⟨rfl,?_⟩ hdb)
 have hA:=ha cpos pins s σ H _ I key;rw[he] at hA |-;refine afC (ac1 hA (λus s1 ⟨vs,H1,I1,r,hl,sm⟩=>?_) λ_ _ z=>z);refine⟨rfl,?_,I1.bk _ _ o1,o2.keeps I1.bk,o4.keeps I1.bk,λh' ev hm=>?_⟩
 ·show us.length<=sizeLine;rw[<-r.length,<-hl];exact z0b dl dJ
 ·obtain⟨t,ht,_,_⟩:=hm.there;exact h σ H1 O (j.grow sm) H1 pins s1 ev C none _ H1 (Same.refl _) I1 hx.ns ⟨Same.refl _,Un.kept hm.keeps,I1.hok.kept hm.keeps,rfl,I1.bare,⟨_,_,ht,rfl,rfl,rfl,rfl⟩,hm.new,wJ I1.hok hm.new,λ_ z=>by cases z⟩
end
section
variable{X:Cx}{pins:List (abX×Obj)}{σ:St}{H:Hp}{s:abZ}
theorem _root_.L2.Inv.track{a:abX}{o:Obj}(I:Inv X pins σ H s)(ha:H a=none)(ho:s.heap.get? a=some o)(n0:X.s₀.heap.get? a=none)(nL:a≠X.env.locals)(nc:∀x c,X.env.cells.lookup x=some c->c≠a)(np:∀p∈X.pn++pins,p.1≠a):
  Inv X pins σ (upd H a (.frz o (.own a))) s:=by
 have old:∀b u,H b=some u->upd H a (.frz o (.own a)) b=some u:=λb u q=>by rw[upd_ne (ne_of_none q ha)];exact q
 refine⟨I.ok,I.os,I.bare,⟨I.base.keep,I.base.slot,λb ob q n hx=>?_,I.base.there,λb xs q=>old _ _ (I.base.tups b xs q),λb ob u q=>old _ _ (I.base.frzs b ob u q),λb ps q=>?_⟩,I.loc,I.cell,?_,λx c q=>?_,λp hp=>?_,λb u q=>?_,I.len⟩
 ·rw[upd_ne (λz=>by rw[z,n0] at q;cases q)];exact I.base.free b ob q n hx
 ·obtain⟨more,e⟩:=I.base.tbls b ps q;exact⟨more,old _ _ e⟩
 ·rw[upd_ne (acd nL)];exact I.free
 ·rw[upd_ne (nc x c q)];exact I.freeC x c q
 ·obtain⟨e,n,r⟩:=I.pin p hp;exact⟨e,by rw[upd_ne (np p hp)];exact n,r⟩
 ·by_cases hb:b=a
  ·subst hb;rw[upd_same] at q;cases q;exact⟨ho,o,ho⟩
  ·rw[upd_ne hb] at q;exact (I.hok b u q).stay (λ_ _ _ z=>z) (λc z=>old _ _ z) (λc xs z=>old _ _ z) λc o u _ z=>old _ _ z
theorem _root_.L2.Inv.gone{m':Str->Option abY}{t':Nat}(I:Inv X pins σ H s)(hn:h'.Ns X.env.locals m')(hs:adv X.env.locals s.heap h'):Inv X pins (ab3 X.N.length none) H {s with heap:=h',toks:=t'}:=by
 have to:∀b ob,X.s₀.heap.get? b=some ob->b≠X.env.locals:=λb ob q=>acw (z0d (z2c q) I.ok.above);refine⟨I.ok,I.os,I.bare,⟨λb ob q n hb hx=>?_,λb ob q n hb hx=>?_,I.base.free,λb ob q hx=>?_,I.base.tups,I.base.frzs,I.base.tbls⟩,⟨m',hn,λi x v _ e2 _=>?_⟩,λx c q=>?_,I.free,I.freeC,λp hp=>?_,λb u q=>?_,by simp⟩
 ·exact (hs.2 b (to b ob q)).trans (I.base.keep b ob q n hb hx)
 ·obtain⟨sl,e⟩:=I.base.slot b ob q n hb hx;exact⟨sl,(hs.2 b (to b ob q)).trans e⟩
 ·obtain⟨o',e⟩:=I.base.there b ob q hx;exact⟨o',(hs.2 b (to b ob q)).trans e⟩
 ·rw[adt] at e2;split at e2 <;> cases e2
 ·obtain⟨v,z⟩:=I.cell x c q;exact⟨v,z.sameBut hs (I.cne x c q)⟩
 ·obtain⟨e,n,ne,r⟩:=I.pin p hp;exact⟨(hs.2 p.1 ne).trans e,n,ne,r⟩
 ·refine (I.hok b u q).stay (λc w' hc z=>(hs.2 c ?_).trans z) (λ_ z=>z) (λ_ _ z=>z) λ_ _ _ _ z=>z
  rintro rfl
  rcases hc with hc |hc
  ·rw[<-hc,I.free] at q;cases q
  ·rw[I.free] at hc;cases hc
abbrev _root_.L2.Cx.Em(X:Cx)(a:abX):Cx:={X with A:=X.A.mark (some (.ref a)),calm:=false,xe:=λ_ _=>False}
theorem _root_.L2.Inv.Em(I:Inv X pins σ H s)(a:abX):Inv (X.Em a) pins σ H s:=
 ⟨⟨I.ok.mod,I.ok.kind,I.ok.glob,I.ok.blt,I.ok.above,I.ok.inj,I.ok.has,I.ok.cab,λz=>Bool.noConfusion z,I.ok.frames,I.ok.stk,I.ok.exf,I.ok.bs,I.ok.bsz,I.ok.noex,I.ok.exfs,I.ok.funs,I.ok.frf⟩,I.os,I.bare,I.base,I.loc,I.cell,I.free,I.freeC,I.pin,I.hok,I.len⟩
theorem _root_.L2.Inv.aby{a:abX}(ok:X.Ok)(I:Inv (X.Em a) pins σ H s):Inv X pins σ H s:=⟨ok,I.os,I.bare,I.base,I.loc,I.cell,I.free,I.freeC,I.pin,I.hok,I.len⟩
theorem At.cx{Y:Cx}{H0:Hp}(j:At X H0 O0 O H ρ σ)(hK:Y.K=X.K)(hN:Y.N=X.N):At Y H0 O0 O H ρ σ:=
 ⟨j.same,by rw[hK];exact j.eU,j.sub,⟨by rw[hK];exact j.inn.env,j.inn.al,by rw[hN];exact j.inn.len,by rw[hN];exact j.inn.jF⟩,j.mine,j.tR⟩
theorem At.abz{H0:Hp}(j:At X H0 O0 O H ρ σ)(hi:i<X.N.length){t:Ob}{v:V}(r:nO X.K H t v):At X H0 O0 O H (ρ.set i (some (.obj t))) (σ.set i (some v)):=by
 have h1:i<ρ.length:=by rw[j.inn.jF];exact hi
 have h2:i<σ.length:=by rw[j.inn.len];exact hi
 refine⟨j.same,j.eU,j.sub,⟨⟨λk e q=>?_,λk l e e' u hkl hk hl ok ol sk sl=>?_,λk l rows a rs e u hkl hk sk ha hl ol sl=>?_⟩,j.inn.al,by rw[adG];exact j.inn.len,by rw[adG];exact j.inn.jF⟩,λk e a q ho hs=>?_,λk rows a rs q hs=>?_⟩
 ·by_cases hki:k=i
  ·subst hki;rw[z2a h1] at q;cases q;exact⟨v,z2a h2,r⟩
  ·rw[z1e (acd hki)] at q |-;exact j.inn.env.get k e q
 ·by_cases hki:k=i
  ·subst hki;rw[z2a h1] at hk;cases hk;cases ok
  ·by_cases hli:l=i
   ·subst hli;rw[z2a h1] at hl;cases hl;cases ol
   ·rw[z1e (acd hki)] at hk sk;rw[z1e (acd hli)] at hl sl;exact j.inn.env.sep k l e e' u hkl hk hl ok ol sk sl
 ·by_cases hki:k=i
  ·subst hki;rw[z2a h1] at hk;cases hk
  ·by_cases hli:l=i
   ·subst hli;rw[z2a h1] at hl;cases hl;cases ol
   ·rw[z1e (acd hki)] at hk sk;rw[z1e (acd hli)] at hl sl;exact j.inn.env.nP k l rows a rs e u hkl hk sk ha hl ol sl
 ·by_cases hki:k=i
  ·subst hki;rw[z2a h1] at q;cases q;cases ho
  ·rw[z1e (acd hki)] at q hs;exact j.mine k e a q ho hs
 ·by_cases hki:k=i
  ·subst hki;rw[z2a h1] at q;cases q
  ·rw[z1e (acd hki)] at q hs;exact j.tR k rows a rs q hs
end
abbrev _root_.L2.Cx.Pr(X:Cx)(E:abY->abZ->Prop)(pn:List (abX×Obj)):Cx:={X with xe:=E,pn:=pn}
section
variable{X:Cx}{pins:List (abX×Obj)}{σ:St}{H:Hp}{s:abZ}{E:abY->abZ->Prop}
theorem _root_.L2.Inv.Pr(I:Inv X pins σ H s)(E:abY->abZ->Prop):Inv (X.Pr E (X.pn++pins)) [] σ H s:=
 ⟨⟨I.ok.mod,I.ok.kind,I.ok.glob,I.ok.blt,I.ok.above,I.ok.inj,I.ok.has,I.ok.cab,I.ok.hd,I.ok.frames,I.ok.stk,I.ok.exf,I.ok.bs,I.ok.bsz,I.ok.noex,I.ok.exfs,I.ok.funs,I.ok.frf⟩,I.os,I.bare,I.base,I.loc,I.cell,I.free,I.freeC,λp hp=>I.pin p (by rw[acE] at hp;exact hp),I.hok,I.len⟩
theorem _root_.L2.Inv.ux{p1:List (abX×Obj)}(ok:X.Ok)(I:Inv (X.Pr E (X.pn++pins)) p1 σ H s):Inv X pins σ H s:=
 ⟨ok,I.os,I.bare,I.base,I.loc,I.cell,I.free,I.freeC,λp hp=>I.pin p (afy _ hp),I.hok,I.len⟩
theorem _root_.L2.SP.ux{D:Ends}{f:Flow}{s':abZ}(ok:X.Ok)(h:SP (X.Pr E (X.pn++pins)) [] D f s'):SP X pins D f s':=by
 cases f with
 |next=>obtain⟨σ',H',I,q⟩:=h;exact⟨σ',H',I.ux ok,q⟩
 |brk=>obtain⟨σ',H',I,q⟩:=h;exact⟨σ',H',I.ux ok,q⟩
 |cont=>obtain⟨σ',H',I,q⟩:=h;exact⟨σ',H',I.ux ok,q⟩
 |ret u=>obtain⟨v,σ',H',I,r,q⟩:=h;exact⟨v,σ',H',I.ux ok,r,q⟩
end
section
variable{X:Cx}{t n:Str}{CT:abX}{np hpos pos:Pos}{body suite:List acp}{b₀:acp}{g h:aB->So}{sub:Str->Str->Bool}
theorem ZG(i:Nat)(hN:X.N.Nodup)(hst:X.stack=X.env::X.outer)(hfr:X.env.frame=some X.env.locals)(hex:X.ex=[])(hm:X.mg t=some (.ref CT))
  (hx:∀c C,sub c t=true->PySem.W.nsIn X.K ab5 c=some (some (.ref C))->PySem.W.exmOne X.K (.ref C) (.ref CT)=some true)
  (hb:∀E pn,jB (X.Pr E pn) body g)(hh:∀a,jB (X.Em a) (b₀::suite) h)(hg:Gl X t:=by rfl)(hi:X.N[i]?=some n:=by rfl)(hl:X.env.kindOf n=some .local:=by rfl)(hdb:(t ==("__debug__" :Str))=false:=by decide):
  DS X (.Try body [.ExceptHandler (some (.Name t np)) (some n) (b₀::suite) hpos] [] [] pos) (KQ sub t i g h):=by
 intro pins s σ H E I q;obtain⟨H0,O0,O,ρ,j,q⟩:=q;refine wpAny_Try_except ?_;have hin:i<X.N.length:=(z1b hi).1;have hcls:(X.env.scope.kind == .class || (X.env.scope.kind == .module && X.env.locals !=X.env.globals))=false:=by rw[I.ok.kind];rfl
 refine ac1 (hb _ (X.pn++pins) [] s σ H E (I.Pr _) ⟨H0,O0,O,ρ,j.cx rfl rfl,?_⟩) (λf s1 z=>?_) λ_ _ z=>z
 ·-- the body's ends
  unfold KQ at q;cases eg:g ρ with
  |bad=>rw[eg] at q;exact q
  |nx ρ1=>rw[eg] at q;exact λσ' H' O' j' r'=>q σ' H' O' (j'.cx rfl rfl) r'
  |bk ρ1=>rw[eg] at q;exact λσ' H' O' j' r'=>q σ' H' O' (j'.cx rfl rfl) r'
  |ct ρ1=>rw[eg] at q;exact λσ' H' O' j' r'=>q σ' H' O' (j'.cx rfl rfl) r'
  |rt d=>rw[eg] at q;exact q
  | ex c ρ1 =>
   rw[eg] at q;simp only at q;by_cases hs:sub c t=true
   ·rw[if_pos hs] at q;intro σ1 H1' O1 j1 H1 abQ s1 a C T s2 H2 sm I1w hC rs;have I1:Inv X pins σ1 H1 s1:=I1w.ux I.ok;have J1:Inv X pins σ1 H2 s2:=I1.call' rs.os rs.un rs.hok rs.bare λb z=>absurd z (by simp);refine KY (b0:=X.base) (outer:=X.outer) (by rw[J1.ok.frames,hst]) (by have:=J1.stack;rwa [hst] at this) hfr rs.exc λh3 t3 ld=>?_;have abA:∀b∈frs (X.env::X.outer),b∈frs X.stack:=λb z=>by rw[hst];exact z
    have r3:xJ X.prog X.w (frs X.stack) H1 s1 a C (some t3) {s2 with heap:=h3} H2:=xJ.land rs abA ld J1.stkFree;have J3:Inv X pins σ1 H2 {s2 with heap:=h3}:=I1.call' r3.os r3.un r3.hok r3.bare λb z=>absurd z (by simp);obtain⟨oe,vs,x1,x2,x3,x4,x5,x6,ot,ts,y1,y2,y3⟩:=r3.exc;refine wpAny_handleBy_cons (codeAny_handlers_test (ld_glob (X:=X.Em a) (J3.Em a) hg hm ?_ hdb)) (by intro z;cases z);have LT:PySem.W.Looks (model X.prog X.w) h3 (typeOf (.ref a)) (.ref C):=x2▸(PySem.W.Looks.ld x1).andThen .now;refine (PySem.W.exm_one J3.kIn LT (hx c C hs hC)).here ?_;simp only[if_true];refine codeAny_handlers_suite_as ?_;refine wpAny_setFlight_none x1 x4 x5 y1 y2 (adw.mp y3).1 ?_;have aaY:h3.update t3 (ael (·.setIfInBounds 3 aco))=h3:=Heap.update_setField_same h3 t3 ot ts 3 aco y1 y2 y3;show ab4 _ _ _ _ _ {s2 with heap:=h3.update t3 (ael (·.setIfInBounds 3 aco))};rw[aaY];have na1:∀b ob,s1.heap.get? b=some ob->b≠a:=λb ob z e=>by rw[e,rs.na] at z;cases z
    have K3:Inv X pins σ1 (upd H2 a (.frz oe (.own a))) {s2 with heap:=h3}:=by
     refine J3.track r3.ha x1 ?_ ?_ (λy cc z=>?_) λp hp=>?_
     ·cases z:X.s₀.heap.get? a with
      |none=>rfl
      | some ob=>
       obtain⟨o',e⟩:=I1.base.there a ob z (by rw[hex];simp);rw[rs.na] at e;cases e
     ·intro z;obtain⟨m,⟨ob,_,_,e,_⟩,_⟩:=I1.loc;exact na1 _ _ e z.symm
     ·obtain⟨v,ob,e,_⟩:=I1.cell y cc z;exact na1 _ _ e
     ·exact na1 _ _ (I1.pin p hp).1
    refine store_ok (X:=X.Em a) (v:= .ref a) (K3.Em a) hN hi (.inl hl) rfl (λs4 J4=>?_) (.inr hl);have jx:At X H0 O0 O1 H1' ρ1 σ1:=j1.cx rfl rfl;have sm3:Same H1' (upd H2 a (.frz oe (.own a))):=(sm.trans rs.same).trans (Same.upd r3.ha);have j4:At (X.Em a) H0 O0 O1 (upd H2 a (.frz oe (.own a))) (ρ1.set i (some (.obj (.exc c)))) (σ1.set i (some (.ref a))):=
     ((jx.grow sm3).abz (t:= .exc c) (v:= .ref a) hin ⟨a,oe,C,rfl,upd_same,x2,x3,⟨vs,x4⟩,hC⟩).cx rfl rfl
    cases eh:h (ρ1.set i (some (.obj (.exc c)))) with
    | rt d=>
     rw[eh] at q;refine ac1 (hh a pins s4 _ _ {nx:=λ_ _=>False,rt:=E.rt} J4 ⟨H0,O0,O1,_,j4,by rw[eh];exact q⟩) (λf s5 z=>?_) λ_ _ z=>z.elim;cases f with
     |next=>obtain⟨_,_,_,z⟩:=z;exact z.elim
     |brk=>obtain⟨_,_,_,z⟩:=z;exact z.elim
     |cont=>obtain⟨_,_,_,z⟩:=z;exact z.elim
     | ret u=>
      obtain⟨v,σ5,H5,J5,r5,q5⟩:=z;have J5':Inv X pins σ5 H5 s5:=J5.aby I.ok;obtain⟨m,hn,_⟩:=J5'.loc;exact wpAny_nameGoes hl hn hcls λh6 m6 hn6 hs6=>⟨v,_,H5,J5'.gone hn6 hs6,r5,q5⟩
    |bad=>rw[eh] at q;exact q.elim
    |nx _=>rw[eh] at q;exact q.elim
    |bk _=>rw[eh] at q;exact q.elim
    |ct _=>rw[eh] at q;exact q.elim
    |ex _ _=>rw[eh] at q;exact q.elim
   ·rw[if_neg hs] at q;exact q.elim
 ·cases f with
  |next=>exact aeM (z.ux I.ok)
  |brk=>exact z.ux I.ok
  |cont=>exact z.ux I.ok
  |ret u=>exact z.ux I.ok
end
structure Bu(K:PySem.W.Frag)(C:abX):Prop where
 g1:PySem.W.findIn K (.ref C) "__getattribute__" =some (some (.builtin "BaseException.__getattribute__"))
 g2:PySem.W.findIn K (.ref C) "__getattr__" =some none
 cl:(PySem.W.clsIn K C).isSome=true
 ha:PySem.W.findIn K (.ref C) "__class__" =some (some (.builtin "object.__class__"))
 hn:PySem.W.specialIn K (.builtin "object.__class__") "__get__" =some (some (.builtin "getset_descriptor.__get__"))
 ht:PySem.W.takesIn K (.builtin "object.__class__")=some true
 hm:PySem.W.mroIn K C (.type "object")=some true
 hb:PySem.W.mroIn K C (.type "BaseException")=some true
section
variable{prog:ab9}{w:acf}{A:acg}{E:abY->abZ->Prop}{s:abZ}{K:PySem.W.Frag}{x C:abX}{ox:Obj}{od:Option Obj}
theorem Tv{K:PySem.W.Frag}{C:abX}{od:Option Obj}{a g:abY}(hc:(PySem.W.clsIn K C).isSome=true)(ha:PySem.W.findIn K (.ref C) name=some (some a))(hg:PySem.W.specialIn K a "__get__" =some (some g))(ht:PySem.W.takesIn K a=some true):PySem.W.findObj K C od name=some (.bind g a):=by
 obtain⟨cd,e⟩:=adp.mp hc;unfold PySem.W.findObj;rw[e,afp,ha,afp];simp[hg,ht]
theorem Tw{Q:Option abY->abZ->Prop}(X:K.In s.heap)(I:PySem.W.InstAt s.heap x ox C od)(F:Bu K C)(h:Q (some (.ref C)) {s with toks:=s.toks+1}):ab4 (model prog w) A (getAttr? (.ref x) "__class__") Q E s:=by
 obtain⟨hh,g,d,t,os⟩:=s;have L0:=I.type (M:=model prog w);have L1:=PySem.W.looks_findIn (M:=model prog w) X F.g1;have L2:=PySem.W.looks_findIn (M:=model prog w) X F.g2;have L4:=PySem.W.looks_find (M:=model prog w) X I (Tv (od:=od) F.cl F.ha F.hn F.ht);have LB:=PySem.W.looks_mroIn (M:=model prog w) X F.hb;have f3:=PySem.F.attrBase_ValueError.ga.bind (.ref x);unfold getAttr? getAttrBy? getAttrBy;refine abW (wpAny_mkText (abW (aeG (adD (abW (L0.at (abW (L1.at ?_))))))));have hx1:(onTheHeap (ab8 C) && adI "BaseException.__getattribute__" ==adI "object.__getattribute__")=false:=by
  rw[show (adI "BaseException.__getattribute__" ==adI "object.__getattribute__")=false from by decide +kernel];exact agG _
 dsimp only
 rw[hx1,if_neg aci];unfold getAttrByItsOwn hookBefore;rw[if_pos (show onTheHeap (ab8 C)=true from rfl)];refine abW (L2.at (abW (aeG (adD ?_))));unfold callGetattribute;rw[afN,if_neg aci];unfold boundAndCalled;rw[f3];refine abW (ab1 ?_);refine afz (codeAny_call_builtin PySem.F.attrBase_ValueError.ga.plain PySem.F.entry_bexc_ga ?_);have hk:builtinKind "BaseException.__getattribute__" =some .slot:=by decide +kernel
 have hsp:splitId "BaseException.__getattribute__" =some ("BaseException","__getattribute__"):=by decide +kernel
 have ha:=PySem.F.args_bexc_ga (.ref x) (.str (acC "__class__") t);simp only[checkBuiltinCall,hk,hsp,agu,ad2];unfold isInstance;refine abW (abW (L0.at (LB.at ?_)));rw[aeH,if_neg aci];refine adY (a:=()) ha ?_;unfold adu.«object.__getattribute__»;refine abW (ab1 ?_);refine abW (ab1 ?_);refine abW (L0.at (abW (L4.at ?_)));show ab4 _ _ (holding [adI "object.__class__"] (call (adI "getset_descriptor.__get__") [adI "object.__class__",.ref x,.ref C]) >>=ret) _ _ _;refine abW (adD (afz (PySem.W.class_get (s:=⟨hh,g,d,t+1,os⟩) (od:=od) X I F.hm (ab1 ?_))));exact PySem.W.handed_on rfl (ab1 h)
theorem VP(F:Bu K C):PySem.W.KitX K (.ref x) (.ref C) (λh=>PySem.W.InstAt h x ox C od) where
 ty:=λ_ _ _ I=>I.type
 it :=λ_ _ X _=>by
  obtain⟨cd,hcd⟩:=adp.mp F.cl;unfold PySem.W.clsIn at hcd;split at hcd
  ·rename_i v1 v2 v3 v4 ho;intro A' Q' E' s' k q;unfold isType loadHead;exact abW (wpAny_loadPart (k _ _ (X _ _ ho)) (ab1 q))
  ·cases hcd
 ne :=λh tp dd its n sl X htp=>by
  obtain⟨cd,hcd⟩:=adp.mp F.cl;refine Bool.eq_false_iff.mpr λq=>?_;have e:C=tp:=Value.ref.inj (beq_iff_eq.mp q);subst e;unfold PySem.W.clsIn at hcd;split at hcd
  ·rename_i v1 v2 v3 v4 ho;cases (X _ _ ho).symm.trans htp
  ·cases hcd
 ca:=λX I k=>Tw X I F k
end
section
variable{X:Cx}{sub:Str->Str->Bool}
theorem QZ{T:Str}{vt:V}{ut:abY}(hut:∀u,RelV vt u->u=ut)(hq:∀c C,sub c c=true->PySem.W.nsIn X.K ab5 c=some (some (.ref C))->Bu X.K C/\PySem.W.kitOne X.K (.ref C) ut=some (sub c T)):
  CallR X (.builtin "isinstance") (λxs H Q=>∃x c,xs=[x,vt]/\sub c c=true/\nO X.K H (.exc c) x/\Q (.bl (sub c T)) H):=by
 intro pins s σ H xs us Q I r h;obtain⟨x,c,rfl,hc,⟨a,o,C,rfl,hH,h1,h2,⟨vs,h3⟩,h4⟩,q⟩:=h;obtain⟨u,u2,rfl,rx,r2⟩:=vals2 r;cases (show u=ab8 a from rx);cases hut u2 r2;obtain⟨F,e⟩:=hq c C hc h4;obtain⟨ho,_⟩:=I.hok a _ hH;refine PySem.W.kia_one (VP (x:=a) (ox:=o) (od:=none) F) I.kIn ⟨ho,h1,by unfold PySem.W.notCls;rw[h3],by rw[h2];trivial⟩ e (λz=>nomatch z) λtk=>⟨.bl _,H,I.tok _,rfl,q⟩
theorem KZ(i:Nat){T n:Str}{vt:V}{ut:abY}{p p1 p2:Pos}(hg:Gl X "isinstance")(hm:X.mg "isinstance" =none)(hT:PE X (.Name T p2) (tC vt))(hut:∀u,RelV vt u->u=ut)
  (hq:∀c C,sub c c=true->PySem.W.nsIn X.K ab5 c=some (some (.ref C))->Bu X.K C/\PySem.W.kitOne X.K (.ref C) ut=some (sub c T))
  (hN:X.N[i]?=some n:=by rfl)(hv:Vis X.env.scope n:=by first |exact acZ rfl |exact acM (acZ rfl) |exact acM (acM rfl))(hd:(n ==("__debug__" :Str))=false:=by decide)(hcd:(n ==("__classdict__" :Str))=false:=by decide)
  (hs:ab2 [.Name n p1,.Name T p2] X.env=(false,eval (.Name n p1) X.env)::ab2 [.Name T p2] X.env:=by rfl)(hs2:ab2 [.Name T p2] X.env=(false,eval (.Name T p2) X.env)::ab2 [] X.env:=by rfl)(hpl:(acO pos (ab2 [.Name T p2] X.env)).any (·.1)=false:=by rfl):
  DE X (.Call (.Name "isinstance" p) [.Name n p1,.Name T p2] [] pos) (Ay sub i T):=by
 refine PE.imp (pe_callB (QZ (T:=T) hut hq) hg hm aeY (pa_cons (pe_var hN hv hd hcd) (pa_cons hT pa_nil hs2) hs) (by decide) (by decide) hs hpl) λσ H Q h=>?_;obtain⟨ρ,O,j,h⟩:=h;unfold Ay at h;cases q:ρ[i]? with
 |none=>rw[q] at h;exact h.elim
 | some oe =>
  rw[q] at h;cases oe with
  |none=>exact h.elim
  | some en=>
   cases en with
   |val _=>exact h.elim
   |lst _=>exact h.elim
   |xH _=>exact h.elim
   |rws _=>exact h.elim
   | obj t=>
    cases t with
    |fn _=>exact h.elim
    | exc c=>
     have h:good X (rD X) O (if sub c c=true then .ok (.bl (sub c T)) else .bad) σ H Q:=h;by_cases hc:sub c c=true
     ·rw[if_pos hc] at h;obtain⟨v,hv1,hv2⟩:=j.env.get i _ q;exact⟨v,hv1,v,c,rfl,hc,hv2,fin h (eV _)⟩
     ·rw[if_neg hc] at h;exact h.elim
end
section
variable{X:Cx}{tg a:ab6}{p pos:Pos}{fa:aB->R (List D)}
end
section
variable{X:Cx}
theorem X5:OpR X (acJ .Mult) (λx y H Q=>∃a k xs,x= .ref a/\y= .int k/\SqL X.K H a xs/\1<=k/\k<2^63/\xs.length*k.toNat<=1000000/\∀p,H p=none->Q (.ref p) (upd H p (.lst (ab3 k.toNat xs).flatten))):=by
 intro pins s σ H x y v u Q I rx ry h;obtain⟨a,k,xs,rfl,rfl,hq,h1,h2,hz,q⟩:=h;cases rx;obtain⟨t,rfl⟩:=ry;obtain⟨its,r,p1,_⟩:=I.list hq;obtain⟨⟨cls,dd,data,sl⟩,ho,hc,n,hd⟩:=id p1.isList;simp only at hc hd;subst hc hd;have hlen:=r.length;have hz':its.toArray.size*k.toNat<=1000000:=by rw[z1c,<-hlen];exact hz
 have hz2:its.length*k.toNat<=1000000:=by rw[<-hlen];exact hz
 refine aeW (T:= "list") (U:= "int") (by decide) ⟨_,ho,rfl⟩ (λs'=>afa s' k t) noFill_list_mul F.fills_int_mul F.slot_int_rmul repeat_list F.slot_int_index.lookup
  (ad8 F.slot_int_rmul (afa s k t) F.entry_int_rmul (F.args_int_rmul_2 _ _) (lm_int_rmul_list_any k t a its.toArray n dd sl) ⟨ho,rfl,⟨_,ho,rfl⟩,?_⟩)
 refine ad8 F.slot_list_mul ⟨_,ho,rfl⟩ F.entry_list_mul (F.args_list_mul_2 _ _) (lm_list_mul_any a its.toArray n dd sl k t (by simp[Builtin.List.listFitsIndex];omega) (by omega) (by simp[aeg,sizeLine];omega)) ⟨ho,?_⟩;rw[listMul_foldl_if];refine⟨.ref s.heap.objs.size,_,I.laid (t':=s.toks) (o:= .lst (ab3 k.toNat xs).flatten) (λb ob z=>z1a _ z) (z0g _) ?_,rfl,q _ (I.hok.fresh (z0g _))⟩;exact⟨by rw[len_rep,afI];exact z0b hz dJ,_,_,r.rep k.toNat,z1f _ rfl⟩
theorem X6:gw X (acJ .Mult) mulL:=by
 obtain⟨r0,o0,c0⟩:=vR (X:=X);refine⟨_,OpR.or o0 X5,λρ O σ H Q x y dx dy j0 rx ry h=>?_⟩;cases dx with
 | lst ds=>
  cases dy with
  | int k=>
   have h:good X (rD X) O (if ds≠[]/\1<=k/\k<2^63/\ds.length*k.toNat<=1000000 then .ok (.lst (ab3 k.toNat ds).flatten) else .bad) σ H Q:=h;by_cases hc:ds≠[]/\1<=k/\k<2^63/\ds.length*k.toNat<=1000000
   ·rw[if_pos hc] at h;obtain⟨a,us,rfl,ha,hn,r1⟩:=rx.lst;obtain⟨h0,h1,h2,h3⟩:=hc;exact .inr ⟨a,k,us,rfl,ry.int,ha,h1,h2,by rw[<-r1.length];exact h3,λl hl=>h _ _ (Same.upd hl) (Rep.lZ hl (j0.uq hl) (Cv r1 _))⟩
   ·rw[if_neg hc] at h;exact h.elim
  |_=>exact h.elim
 |_=>exact .inl (c0 ρ O σ H Q x y _ _ j0 rx ry h)
end
theorem Tb.same{H':Hp}(t:Tb ts H)(s:Same H H'):Tb ts H':=λp hp=>let⟨ps,tq,e,q⟩:=t p hp;⟨ps,tq,s _ _ e,q⟩
theorem En{α β:Type}{F:α->β->Prop}:∀{es:List α} {vs:List β} {i:Nat} {e:α},Paired F es vs->es[i]?=some e->∃v,vs[i]?=some v/\F e v
 |_,_,_,_,.nil,h=>by simp at h
 |_,_,0,_,.cons r _,h=>by simp at h;subst h;exact⟨_,rfl,r⟩
 | _,_,i+1,e,.cons _ t,h=>by
  obtain⟨v,h1,h2⟩:=En (i:=i) (e:=e) t (by simpa using h);exact⟨v,by simpa using h1,h2⟩
theorem Q0{β:Type}{F:α->β->Prop}:∀{es:List α} {vs:List β},Paired F es vs->es.length=vs.length
 :=by
 intro es vs h
 induction h with
 |nil=>rfl
 |cons r t ih=>rw[acn,acn,ih]
theorem Eo{β:Type}{F:α->β->Prop}:∀{es fs:List α} {vs ws:List β},Paired F es vs->Paired F fs ws->Paired F (es++fs) (vs++ws)
 :=by
 intro es fs vs ws h q
 induction h with
 |nil=>exact q
 |cons r t ih=>exact .cons r ih
abbrev ZJ(K:PySem.W.Frag)(O:abX->Prop)(H:Hp):Ent->V->Prop:=λe v=>p7 K O H e v/\e.own=false
theorem tX{K:PySem.W.Frag}{O:abX->Prop}{H:Hp}:∀{ds:List D} {vs:List V},aO K O H ds vs->Paired (ZJ K O H) (ds.map .val) vs
 |[],vs,r=>by rw[r.nil_inv];exact .nil
 | d::ds,vs,r=>by
  obtain⟨x,t,rfl,h1,h2⟩:=r.cons_inv;exact .cons ⟨h1,rfl⟩ (tX h2)
theorem Cy{X:Cx}{es:List Ent}{m:Nat}(hl:X.N.length=es.length+m)(r:Paired (ZJ X.K O H) es vs)(al:∀a,O a->∃o,H a=some o):
  At X H O O H (es.map some++ab3 m none) (vs.map some++ab3 m none):=by
 have hlen:=Q0 r;have get:∀(i:Nat) e,(es.map some++ab3 m none)[i]?=some (some e)->∃v,(vs.map some++ab3 m none)[i]?=some (some v)/\p7 X.K O H e v/\e.own=false:=λi e q=>by
  by_cases hi:i<es.length
  ·rw[acH (by simpa using hi),z2b] at q;cases z:es[i]? with
   |none=>rw[z] at q;cases q
   | some e'=>
    rw[z] at q;cases q;obtain⟨v,h1,h2,h3⟩:=En r z;exact⟨v,by rw[acH (by rw[z1g,<-hlen];exact hi),z2b,h1];rfl,h2,h3⟩
  ·rw[acD (by simpa using hi),adt] at q;split at q <;> cases q
 refine⟨Same.refl _,.refl,λ_ z=>z,⟨⟨λi e q=>?_,λi k e e' v _ hi _ oi=>?_,λi k rows a rs e v _ hi=>by obtain⟨_,_,_,h3⟩:=get i _ hi;cases h3⟩,al,?_,?_⟩,λi e a q ho=>?_,λi rows a rs q=>by obtain⟨_,_,_,h3⟩:=get i _ q;cases h3⟩
 ·obtain⟨v,h1,h2,_⟩:=get i e q;exact⟨v,h1,h2⟩
 ·obtain⟨_,_,_,h3⟩:=get i e hi;rw[h3] at oi;cases oi
 ·rw[z1d,z1g,acN,<-hlen];exact hl.symm
 ·rw[z1d,z1g,acN];exact hl.symm
 ·obtain⟨_,_,_,h3⟩:=get i e q;rw[h3] at ho;cases ho
theorem Cz{m:Nat}(h:N.length=vs.length+m):L2.start N vs=vs.map some++ab3 m none:=by
 unfold L2.start;rw[show N.length - vs.length=m by omega]
def spT(ts:List (abX×Str))(K:PySem.W.Frag)(n:Nat)(F:List D->R D):Sp:=λvs H Q E=>Tb ts H/\Kf K n F vs H Q E
section
variable{P:ab9}{w:acf}{K:PySem.W.Frag}{mg:Str->Option abY}{base:ace}
def gb(m:Nat)(g:aB->So)(es:List Ent):R D:=match g (es.map some++ab3 m none) with
 | .rt d=> .ok d
 | .nx _=> .ok .non
 |_=> .bad
theorem Px{X:Cx}{m:Nat}{g:aB->So}{es:List Ent}{Q:VK}(h:match gb m g es with | .ok d=>∀v H',Same H H'->Rep X.K O H' d v->Q v H' |_=>False):
  vJ X H O O H {nx:=λ_ H'=>Q .non H',rt:=Q} (g (es.map some++ab3 m none)):=by
 unfold gb at h;cases e2:g (es.map some++ab3 m none) with
 |rt d=>rw[e2] at h;exact λv H' s' r'=>h v H' s' r'
 |nx ρ'=>rw[e2] at h;exact λσ' H' O' j' _=>h .non H' j'.same nM
 |bk _=>rw[e2] at h;exact h.elim
 |ct _=>rw[e2] at h;exact h.elim
 |ex _ _=>rw[e2] at h;exact h.elim
 |bad=>rw[e2] at h;exact h.elim
theorem ZK{x:Str}{st:acp}{f:abX}{m:Nat}{g:aB->So}(Fn:Fun K x qual st f fd)(S:FnScope N ps (defScope st))(hn:ps.length=n)(hm:N.length=n+m)
  (hb:∀(cdv:abY) (A:acg) (outer:List PySem.Env) (s:abZ) (H:Hp) (E:XK),fd.code=cdv->Room k (A.deeper (adF qual (defScope st) s.heap.objs.size f cdv))->Tb ts H->jB (cxOf CX0 P w K mg base N qual (defScope st) f cdv A outer s H E).nox (defBody st) g):
  FnOk P w K mg base CX0 (k+1) f fd ps (spT ts K n (λds=>gb m g (ds.map .val))):=by
 obtain⟨oc,od,kV,doc,pm,an,cdv,ct,osl,rfl,lk,hcd⟩:=Fn.ex;refine fn_of lk hcd S (λvs H Q E h=>?_) λA outer s H vs Q E hr h=>?_
 ·obtain⟨_,O,ds,r,hl,_⟩:=h;rw[hn,<-hl,r.length]
 ·obtain⟨hT,O,ds,r,hl,al,h⟩:=h;have Bv:N.length=vs.length+m:=by rw[hm,<-hl,r.length]
  refine⟨_,(hb cdv A outer s H E rfl hr hT).nox,H,O,O,(ds.map Ent.val).map some++ab3 m none,?_,Px h⟩;rw[Cz Bv];exact Cy (X:=(cxOf CX0 P w K mg base N qual (defScope st) f cdv A outer s H E).nox) (by rw[z1g,r.length];exact Bv) (tX r) al
end
def VR(P:ab9)(w:acf)(K:PySem.W.Frag)(mg:Str->Option abY)(base:ace)(k:Nat)(x:Str)(n:Nat)(F:List D->R D)(fd:acK)(ps:List Str)(ts:List (abX×Str)):Prop:=
 ∃f,FnOk P w K mg base CX0 k f fd ps (spT ts K n F)/\mg x=some (.ref f)/\PySem.W.keepIn K (.ref f)=true
section
variable{X:Cx}{k m n:Nat}{fd:acK}{ps ks:List Str}{F:List D->R D}{x:Str}{p pos:Pos}{e:ab6}{es:List ab6}{kws:List ad0}{fa fk:aB->R (List D)}{ts:List (abX×Str)}
theorem ZL(G:VR X.prog X.w X.K X.mg X.base k x n F fd ps ts)(hT:Tb ts X.H₀)(hr:Room m X.A)(hkm:k<=m)(hb:Binds X.K fd ps [])(ha:DA X (e::es) fa)(hg:Gl X x:=by rfl)
  (hdb:(x ==("__debug__" :Str))=false:=by decide)(he:ab2 (e::es) X.env=(false,eval e X.env)::ab2 es X.env:=by rfl)(hpl:(acO pos (ab2 es X.env)).any (·.1)=false:=by rfl):
  DE X (.Call (.Name x p) (e::es) [] pos) (aD (aV F n) fa):=by
 obtain⟨f,ok,hm,hk⟩:=G;intro pins s σ H Q I h;refine pe_call (dvs:=[]) (ok.mono hkm) hr hg hm hk hb .nil pass0 ha hdb he hpl pins s σ H Q I ?_;obtain⟨ρ,O,j,h⟩:=h;refine go j h λds vs H1 e1 s1 r1 j1 h1=>?_;unfold aV at h1;by_cases hl:ds.length=n
 ·rw[if_pos hl] at h1;rw[acE];refine⟨(hT.un I.base).same s1,O,ds,r1,hl,j1.al,?_⟩;cases q:F ds with
  |ok d=>rw[q] at h1;exact h1
  |err c=>rw[q] at h1;exact h1
  |bad=>rw[q] at h1;exact h1
 ·rw[if_neg hl] at h1;exact h1.elim
end
theorem Nv{a b:Int}{s t:Tok}{c:abY}(l:List abY)(h:aeZ l):aeZ (l++[.int a s,.int b t,c]):=by
 fun_induction aeZ l with
 |case1=>simp[aeZ]
 |case2 x1 x2 x3 x4 x5 rest ih=>simp only[agu,aeZ];exact ih h
 |case3=>exact h.elim
theorem Tz{a b:Int}{s t:Tok}{c cv:abY}(l:List abY)(h:aeZ l)(e:afs pos (l++[.int a s,.int b t,c])=some cv):afs pos l=some cv\/cv=c:=by
 fun_induction aeZ l with
 | case1=>
  simp only[ad2,afs] at e;split at e
  ·cases e;exact .inr rfl
  ·cases e
 | case2 x1 x2 x3 x4 x5 rest ih=>
  simp only[agu,afs] at e |-;split at e
  ·rename_i z;rw[if_pos z];exact .inl e
  ·rename_i z;rw[if_neg z];exact ih h e
 |case3=>exact h.elim
inductive jQ (H:Hp) (a:abX) (name qual:Str) (params:aeb) (body:List acp) (scope:adA) (clos:List (Str×abX)):Prop
 |mk (fo:Obj) (doc pm:abY) (c':abX) (ctv:abY) (oc:Obj) (vs:Array abY) (t:Tok) (h1:H a=some (.frz fo (.own a))) (h2:fo.data= .func (PySem.W.fnX name qual params body scope clos .none .none doc pm none (.ref c') ctv)) (h3:H c'=some (.frz oc (.own c'))) (h4:oc.data= .fields vs) (h5:vs[1]?=some (.str qual t)):jQ H a name qual params body scope clos
theorem jQ.fz{H':Hp}{a:abX}(h:jQ H a name qual params body scope clos)(s:∀b o u,H b=some (.frz o u)->H' b=some (.frz o u)):jQ H' a name qual params body scope clos:=
 by
 obtain⟨fo,doc,pm,c',ctv,oc,vs,t,h1,h2,h3,h4,h5⟩:=h;exact⟨fo,doc,pm,c',ctv,oc,vs,t,s _ _ _ h1,h2,s _ _ _ h3,h4,h5⟩
structure pq(base:ace)(mg:Str->Option abY)(c P:abX):Prop where
 code:PySem.W.CodeHd base c P
 blt:∃bm ob,mg "__builtins__" =some (.ref bm)/\bm≠aen/\base.get? bm=some ob/\ob.cls= .type "module"/\ob.dict=some aen/\ob.data= .plain
section
variable{X:Cx}{pins:List (abX×Obj)}{σ:St}{H:Hp}{s:abZ}
theorem X7{M:Model}{A:acg}{E:abY->abZ->Prop}{line:Nat}{c P:abX}{ps:Array abY}{tq:Tok}
  (I:Inv X pins σ H s)(hB:pq X.base X.mg c P)(hc:X.env.code= .ref c)(e0:H P=some (.tbl ps))(q0:ps[0]?=some (.str qual tq))(hcl:agf scope X.env=pure clos):
  ab4 M A (makeFunction name qual params (.stmts body) scope X.env [] [] [] pos line) (λv s'=>∃a H1,v= .ref a/\Inv X pins σ H1 s'/\Same H H1/\jQ H1 a name qual params body scope clos) E s:=by
 obtain⟨qs,hP,tr,al⟩:=I.hok P _ e0;have hgs:s.heap.Ns ab5 X.mg:=I.mod.glob.keeps I.bk;have C:PySem.W.CodeHd s.heap c P:=hB.code.keeps I.bk;obtain⟨bm,ob,b1,b2,b3,b4,b5,b6⟩:=hB.blt;have hgP:ab5≠P:=λq=>by
  obtain⟨o,es,ep,e,hd,_⟩:=hgs;rw[q,hP] at e;cases e;cases hd
 have hbP:bm≠P:=λq=>by
  have e:=I.bk _ _ b3;rw[q,hP] at e;cases e;cases b4
 have hbG:bm≠ab5:=λq=>by
  obtain⟨o,es,ep,e,hd,_⟩:=I.mod.glob;rw[q,e] at b3;cases b3;rw[hd] at b6;cases b6
 have hbb:s.heap.BuiltinsAt X.mg P:=⟨bm,ob,b1,b2,hbG,hbP,I.bk _ _ b3,b4,b5,b6⟩;cases hf:afs pos qs.toList with
 | some cv=>
  obtain⟨c',oc,vs,q,t,tq',rfl,h1,h2,h3,h4⟩:=al pos cv hf;rw[q0] at h4;cases h4;refine PySem.W.makeFunction_hit (mg:=X.mg) hcl I.ok.glob hgs hc C hP tr hf hbb λctv doc h' tk hk hsz=>?_;have I1:Inv X pins σ H {s with heap:=h',toks:=tk}:=I.kept (t':=tk) hk;have hn:H h'.objs.size=none:=I1.hok.fresh (z0g _);refine⟨h'.objs.size,upd H h'.objs.size (.frz _ (.own h'.objs.size)),rfl,I1.laid (t':=tk) (λb u z=>z1a _ z) (z0g _) ⟨z1f _ rfl,_,z1f _ rfl⟩,Same.upd hn,?_⟩;exact⟨_,doc,_,c',ctv,oc,vs,t,upd_same,rfl,by rw[upd_ne (ne_of_none h1 hn)];exact h1,h2,h3⟩
 | none =>
  refine PySem.W.makeFunction_K (mg:=X.mg) hcl I.ok.glob hgs hc C hP tr hf hgP hbb λc' ctv doc h' tk hx hge hlt hrec htb=>?_;obtain⟨c2,oc,vs,t,e2,hoc,hd,hv⟩:=hrec;cases e2;have hn:H c'=none:=I.hok.fresh hge;have old:∀b u,H b=some u->upd H c' (.frz oc (.own c')) b=some u:=λb u z=>by rw[upd_ne (ne_of_none z hn)];exact z
  have I1 : Inv X pins σ (upd H c' (.frz oc (.own c'))) {s with heap:=h',toks:=tk}:=by
   refine I.call' (ch:=[]) rfl ⟨λb o q n _ _=>hx b o (λz=>by rw[z,e0] at n;cases n) q,λb o q n _ _=>⟨o.slots,hx b o (λz=>by rw[z,e0] at n;cases n) q⟩,λb o q n _=>?_,λb o q _=>?_,λb xs q=>old _ _ q,λb o u q=>old _ _ q,λb p q=>⟨#[],by rw[old _ _ q];simp⟩⟩ (λb u q=>?_) I.bare (λb z=>absurd z (by simp))
   ·rw[upd_ne (acw (z0d (z2c q) hge))];exact n
   ·by_cases hb:b=P
    ·rw[hb];exact⟨_,htb⟩
    ·exact⟨o,hx b o hb q⟩
   ·by_cases hb:b=c'
    ·subst hb;rw[upd_same] at q;cases q;exact⟨hoc,oc,hoc⟩
    ·rw[upd_ne hb] at q;by_cases hp:b=P
     ·subst hp;rw[e0] at q;cases q;refine⟨_,htb,?_,λp cv z=>?_⟩
      ·have:=Nv (a:=pos.line) (s:=0) (b:=pos.col) (t:=0) (c:=ab8 c') qs.toList tr;simpa[acQ] using this
      ·have z':afs p (qs.toList++[.int pos.line 0,.int pos.col 0,.ref c'])=some cv:=by simpa[acQ] using z
       rcases Tz _ tr z' with z1 |z1
       ·obtain⟨c3,o3,v3,q3,t3,tq3,y1,y2,y3⟩:=al p cv z1;exact⟨c3,o3,v3,q3,t3,tq3,y1,old _ _ y2,y3⟩
       ·exact⟨c',oc,vs,qual,t,tq,z1,upd_same,hd,hv,q0⟩
     ·exact (I.hok b u q).stay (λd v hd z=>hx d v (λy=>hd.elim (λx=>hp (x.symm.trans y)) λx=>by rw[y,e0] at x;cases x) z) (λd z=>old _ _ z) (λd xs z=>old _ _ z) λd o u _ z=>old _ _ z
  have hn2:upd H c' (.frz oc (.own c')) h'.objs.size=none:=I1.hok.fresh (z0g _);refine⟨h'.objs.size,upd (upd H c' (.frz oc (.own c'))) h'.objs.size (.frz _ (.own h'.objs.size)),rfl,I1.laid (t':=tk) (λb u z=>z1a _ z) (z0g _) ⟨z1f _ rfl,_,z1f _ rfl⟩,(Same.upd hn).trans (Same.upd hn2),?_⟩;exact⟨_,doc,_,c',ctv,oc,vs,t,upd_same,rfl,by rw[upd_ne (acw hlt),upd_same],hd,hv⟩
def abB(i:Nat)(name qual:Str)(params:aeb)(body:List acp)(scope:adA)(clos:List (Str×abX)):TS:=λD σ H=>∀a H1,Same H H1->jQ H1 a name qual params body scope clos->D.nx (σ.set i (some (.ref a))) H1
theorem ZM(i:Nat){c P:abX}(hN:X.N.Nodup)(hB:pq X.base X.mg c P)(hT:Tb [(P,qual)] X.H₀)(hc:X.env.code= .ref c)(hcl:agf scope X.env=pure clos)
  (hi:X.N[i]?=some name:=by rfl)(hl:Loc X.env.scope name:=by first |exact acZ rfl |exact acM rfl)(hq:qualnameIn X.env name name=qual:=by rfl)(hd0:params.defaults=[]:=by rfl)(hk0:params.kw_defaults=[]:=by rfl)(ha:annTrees params none X.env=[]:=by rfl)
  (hf:X.fn name=true\/X.env.scope.names.lookup name=some .local:=by first |exact .inl rfl |exact .inr rfl):PS X (.FunctionDef name params body [] none [] scope none name pos) (abB i name qual params body scope clos):=by
 intro pins s σ H D I h;obtain⟨ps,tq,e0,q0⟩:=(hT.un I.base) (P,qual) (by simp);refine PySem.W.nestDef_K hd0 hk0 ha ?_;rw[hq];refine ac1 (X7 I hB hc e0 q0 hcl) (λv s1 ⟨a,H1,ev,I1,sm,fh⟩=>?_) λ_ _ z=>z;subst ev;exact store_ok I1 hN hi hl (v:= .ref a) rfl (λs2 I2=>⟨_,H1,I2,h a H1 sm fh⟩) hf
end
def yH(P:ab9)(w:acf)(K:PySem.W.Frag)(mg:Str->Option abY)(base:ace)(k:Nat)(G:List D->R D)(n:Nat)(a:abX)(H:Hp):Prop:=
 ∀(A:acg) (outer:List PySem.Env) (s:abZ) (H1:Hp) (us:List abY) (vs:List V) (Q:VK) (E:XK),Room k A->Env0 P w K mg base A outer s H1->(∀b o u,H b=some (.frz o u)->H1 b=some (.frz o u))->Vals vs us->Kf K n G vs H1 Q E->
  aeI (model P w) A (.call (.ref a) ⟨us,[]⟩) (CR CX0 outer P w H1 s Q E) s
def Ba(i a:Nat)(G:List D->R D)(n:Nat)(fa:aB->R (List D)):aB->R D:=λρ=>match ρ[i]? with
 |some (some (.obj (.fn b)))=>if b=a then (fa ρ).bind (aV G n) else .bad
 |_=> .bad
section
variable{X:Cx}{k m n:Nat}{G:List D->R D}{x:Str}{p pos:Pos}{e:ab6}{es:List ab6}{fa:aB->R (List D)}{a:abX}
theorem K1(i:Nat)(hc:yH X.prog X.w X.K X.mg X.base k G n a X.H₀)(hr:Room m X.A)(hkm:k<=m)(ha:DA X (e::es) fa)(hN:X.N[i]?=some x:=by rfl)(hv:Vis X.env.scope x:=by first |exact acZ rfl |exact acM (acZ rfl) |exact acM (acM rfl))
  (hd:(x ==("__debug__" :Str))=false:=by decide)(hcd:(x ==("__classdict__" :Str))=false:=by decide)(he:ab2 (e::es) X.env=(false,eval e X.env)::ab2 es X.env:=by rfl)(hpl:(acO pos (ab2 es X.env)).any (·.1)=false:=by rfl):
  DE X (.Call (.Name x p) (e::es) [] pos) (Ba i a G n fa):=by
 intro pins s σ H Q I h;obtain⟨ρ,O,j,h⟩:=h;unfold Ba at h;split at h
 ·rename_i b q;by_cases hb:b=a
  ·subst hb;rw[if_pos rfl] at h;obtain⟨v,hv1,rfl,o,fd,ho,hod⟩:=j.env.get i _ q;have at':∀{s':abZ} {H':Hp},Inv X pins σ H' s'->Same H H'->PySem.W.FnAt b s'.heap:=λ{s' H'} I' sm=>by
    obtain⟨ho',_⟩:=I'.hok b _ (sm _ _ ho);obtain⟨v1,v2,v3,v4⟩:=o;have hod:v3= .func fd:=hod;subst hod;exact⟨v1,v2,fd,v4,ho'⟩
   refine adL (thn (pe_var hN hv hd hcd pins s σ H (λv H1=>v= .ref b/\H1=H) I ⟨_,hv1,rfl,rfl⟩) λu s1 bC=>?_);obtain⟨v',H1,I1,r1,e1,e2⟩:=bC;subst e1 e2;cases (show u=ab8 b from r1);have key:tG X (Du X) fa σ H1 (λvs H2=>Same H1 H2/\Kf X.K n G vs H2 Q E0):=by
    refine go j h λds vs H2 e1 s2 r2 j2 h2=>⟨s2,?_⟩;unfold aV at h2;by_cases hl:ds.length=n
    ·rw[if_pos hl] at h2;refine⟨O,ds,r2,hl,j2.al,?_⟩;cases q:G ds with
     |ok d=>rw[q] at h2;exact h2
     |err c=>rw[q] at h2;exact h2
     |bad=>rw[q] at h2;exact h2
    ·rw[if_neg hl] at h2;exact h2.elim
   refine PySem.W.callWith_F (at' I1 (Same.refl _)) (thn (ha pos pins s1 σ H1 _ I1 key) λus s2 ⟨vs,H2,I2,r,sm,q2⟩=>⟨at' I2 sm,?_⟩) he hpl;refine afz (aex (hc X.A X.stack s2 H2 us vs Q E0 (hr.mono hkm) I2.env0 I2.base.frzs r q2) λr s' hq=>?_);cases r with
   |error e=>exact pass0 pins σ H2 s2 e s' I2 hq
   | ok fl=>
    cases fl with
    |ret u=>exact I2.after hq
    |next=>exact acL hq
    |brk=>exact acL hq
    |cont=>exact acL hq
  ·rw[if_neg hb] at h;exact h.elim
 ·exact h.elim
end
inductive SpS (P:ab9) (w:acf) (mg:Str->Option abY) (base:ace) (k:Nat) (K:PySem.W.Frag) (n q:Nat) (F:abX->(List D->R D)->List D->R D) (vs:List V) (H:Hp) (Q:VK):Prop
 | mk (O:abX->Prop) (ds:List D) (xs:List V) (a:abX) (G:List D->R D) (e:vs=xs++[.ref a]) (r:aO K O H ds xs) (hl:ds.length=n) (al:∀b,O b->∃o,H b=some o) (ro:nO K H (.fn a) (.ref a)) (hc:yH P w K mg base k G q a H) (h:match F a G ds with
  | .ok d=>∀v H',Same H H'->Rep K O H' d v->Q v H'
  |_=>False):SpS P w mg base k K n q F vs H Q
def spS(P:ab9)(w:acf)(mg:Str->Option abY)(base:ace)(k:Nat)(K:PySem.W.Frag)(n q:Nat)(F:abX->(List D->R D)->List D->R D):Sp:=λvs H Q _=>SpS P w mg base k K n q F vs H Q
section
variable{P:ab9}{w:acf}{K:PySem.W.Frag}{mg:Str->Option abY}{base:ace}
theorem fnS{x:Str}{st:acp}{f:abX}{kG m q:Nat}{g:abX->(List D->R D)->aB->So}(Fn:Fun K x qual st f fd)(S:FnScope N ps (defScope st))(hn:ps.length=n+1)(hm:N.length=n+1+m)
  (hb:∀(cdv:abY) (A:acg) (outer:List PySem.Env) (s:abZ) (H:Hp) (E:XK) (a:abX) (G:List D->R D),Room k (A.deeper (adF qual (defScope st) s.heap.objs.size f cdv))->yH P w K mg base kG G q a H->jB (cxOf CX0 P w K mg base N qual (defScope st) f cdv A outer s H E).nox (defBody st) (g a G)):
  FnOk P w K mg base CX0 (k+1) f fd ps (spS P w mg base kG K n q (λa G ds=>gb m (g a G) (ds.map .val++[.obj (.fn a)]))):=by
 obtain⟨oc,od,kV,doc,pm,an,cdv,ct,osl,rfl,lk,hcd⟩:=Fn.ex;refine fn_of lk hcd S (λvs H Q E h=>?_) λA outer s H vs Q E hr h=>?_
 ·obtain⟨O,ds,xs,a,G,rfl,r,hl,_⟩:=h;rw[hn,z1d,<-r.length,hl];rfl
 ·obtain⟨O,ds,xs,a,G,rfl,r,hl,al,ro,hc,h⟩:=h;have Bv:N.length=(xs++[V.ref a]).length+m:=by rw[hm,z1d,<-r.length,hl];rfl
  refine⟨_,(hb cdv A outer s H E a G hr hc).nox,H,O,O,(ds.map Ent.val++[Ent.obj (.fn a)]).map some++ab3 m none,?_,Px h⟩;rw[Cz Bv];refine Cy (X:=(cxOf CX0 P w K mg base N qual (defScope st) f cdv A outer s H E).nox) (by rw[z1d,z1g,r.length];rw[z1d] at Bv;exact Bv) (Eo (tX r) (.cons ⟨ro,rfl⟩ .nil)) al
end
def del(H:Hp)(c:abX):Hp:=λb=>if b=c then none else H b
theorem iZ{c:abX}:del H c c=none:=if_pos rfl
theorem dF{b c:abX}(h:b≠c):del H c b=H b:=if_neg h
theorem V0{b c:abX}{u:HO}(h:del H c b=some u):b≠c/\H b=some u:=by
 by_cases e:b=c
 ·rw[e,iZ] at h;cases h
 ·rw[dF e] at h;exact⟨e,h⟩
section
variable{P:ab9}{w:acf}{H:Hp}{h:ace}{c:abX}{co:Obj}{u:Option abY}
theorem Py(x:HOk P w H h)(hc:H c=some (.frz co (.own c)))(hd:co.data= .cell u):HOk P w (del H c) h:=λb v q=>by
 obtain⟨nb,q⟩:=V0 q;refine (x b v q).stay (λ_ _ _ z=>z) (λd z=>?_) (λd xs z=>?_) λd o v' hv z=>?_
 ·rw[dF (λe=>by rw[e,hc] at z;cases z)];exact z
 ·rw[dF (λe=>by rw[e,hc] at z;cases z)];exact z
 ·rw[dF (λe=>by rw[e,hc] at z;cases z;obtain⟨vs,y⟩:=hv;rw[hd] at y;cases y)];exact z
theorem Pz(x:HOk P w H h)(hn:H c=none)(ho:h.get? c=some co):HOk P w (upd H c (.frz co (.own c))) h:=λb v q=>by
 have old:∀b u,H b=some u->upd H c (.frz co (.own c)) b=some u:=λb u z=>by rw[upd_ne (ne_of_none z hn)];exact z
 by_cases hb:b=c
 ·subst hb;rw[upd_same] at q;cases q;exact⟨ho,co,ho⟩
 ·rw[upd_ne hb] at q;exact (x b v q).stay (λ_ _ _ z=>z) (λd z=>old _ _ z) (λd xs z=>old _ _ z) λd o v' _ z=>old _ _ z
theorem PB(hc:H c=some (.frz co (.own c))):Ext O H (del H c):=by
 refine⟨λb xs z=>?_,λb xs _ z=>?_⟩
 ·have nb:b≠c:=λe=>by rcases z with z |⟨o,z⟩ <;> rw[e,hc] at z <;> cases z
  rcases z with z |⟨o,z⟩
  ·exact .inl (by rw[dF nb];exact z)
  ·exact .inr ⟨o,by rw[dF nb];exact z⟩
 ·have nb:b≠c:=λe=>by rcases z with z |⟨o,z⟩ <;> rw[e,hc] at z <;> cases z
  rcases z with z |⟨o,z⟩
  ·exact .inl (by rw[dF nb];exact z)
  ·exact .inr ⟨o,by rw[dF nb];exact z⟩
end
section
variable{M:Model}{A:acg}{E:abY->abZ->Prop}{s:abZ}
theorem Ep{env env':PySem.Env}(f f':Str×abY->PUnit->Sem (ForInStep PUnit))(hf:∀n v u,f (n,v) u=(do adK env n v;pure (.yield ⟨⟩)))(hf':∀n v u,f' (n,v) u=(do adK env' n v;pure (.yield ⟨⟩))):
  ∀binds:List (Str×abY),(∀x∈binds,∀v,adK env x.1 v=adK env' x.1 v)->(forIn binds (⟨⟩:PUnit) f:Sem PUnit)=forIn binds (⟨⟩:PUnit) f'
 |[],_=>rfl
 | (n,v)::r,h=>by
  rw[aeQ,aeQ,hf,hf',h (n,v) acq v];simp only[bind_assoc,pure_bind];rw[Ep f f' hf hf' r λx hx=>h x (z2f _ hx)]
theorem PJ{n:Str}{v:abY}(hk:env.scope.kind= .function)(h:env.scope.names.lookup n=some .local):adK env n v=nsSet env.locals n v:=by
 have h:env.kindOf n=some .local:=h;simp[adK,h,hk]
theorem PL{n:Str}{v:abY}{d:abX}(hk:env.scope.kind= .function)(h:env.scope.names.lookup n=some .cell)(hd:env.cells.lookup n=some d):adK env n v=cellSet d (some v):=by
 have h:env.kindOf n=some .cell:=h;simp[adK,h,hk,cellOf,hd]
theorem Nx{globals:abX}{binds:List (Str×abY)}{func:Option abX}{code:abY}{builtins:abX}{Q:PySem.Env->abZ->Prop}
  (hk:scope.kind= .function)
  (hkind:∀x∈binds,scope.names.lookup x.1=some .local\/(scope.names.lookup x.1=some .cell/\((acs (s.heap.objs.size+1) scope.names []).lookup x.1).isSome=true))
  (hQ:∀s',InCallC s s.heap.objs.size (bindL (λq=>scope.names.lookup q) binds λ_=>none) (acs (s.heap.objs.size+1) scope.names []) (bindC (λq=>scope.names.lookup q) binds λ_=>none) s'->
   Q (newEnv scope s.heap.objs.size globals (acs (s.heap.objs.size+1) scope.names []++clos) qual func code none builtins) s'):
  ab4 M A (afO scope globals clos binds qual func code none builtins) Q E s:=by
 simp only[afO,Option.isSome_none,acP,if_false];refine abW (wpAny_alloc ?_);refine abW (wpAny_layCells _ (λname kind cells=>by cases hkc:kind ==aek <;> simp[hkc]) _ _ _ _ ?_);have ok:=cellsFrom_ok scope.names (s.heap.push {cls:= .type "frame",data:= .dict #[]}) (s.heap.objs.size+1) [] ⟨λ_ _ hm=>(nomatch hm),aga⟩ (by rw[acW];exact z0g _);rw[acW] at ok;rw[show ({s with heap:=s.heap.push {cls:= .type "frame",data:= .dict #[]}}:abZ).heap.objs.size=s.heap.objs.size+1 from acW ..];rw[dO];have eq:=Ep (env:=newEnv scope s.heap.objs.size globals (acs (s.heap.objs.size+1) scope.names []++clos) qual func code none builtins) (env':=newEnv scope s.heap.objs.size globals (acs (s.heap.objs.size+1) scope.names []) qual func code none builtins)
  (λx _=>do adK (newEnv scope s.heap.objs.size globals (acs (s.heap.objs.size+1) scope.names []++clos) qual func code none builtins) x.1 x.2;pure (.yield ⟨⟩))
  (λx _=>do adK (newEnv scope s.heap.objs.size globals (acs (s.heap.objs.size+1) scope.names []) qual func code none builtins) x.1 x.2;pure (.yield ⟨⟩)) (λ_ _ _=>rfl) (λ_ _ _=>rfl) binds (λx hx v=>by
   rcases hkind x hx with z |⟨z,z2⟩
   ·rw[PJ hk z,PJ hk z];rfl
   ·obtain⟨d,hd⟩:=adp.mp z2;have e1:(acs (s.heap.objs.size+1) scope.names []++clos).lookup x.1=some d:=by rw[ade,hd];rfl
    rw[PL hk z e1,PL hk z hd])
 refine abW ?_;show ab4 M A (forIn binds (⟨⟩:PUnit) (λx _=>do adK (newEnv scope s.heap.objs.size globals (acs (s.heap.objs.size+1) scope.names []++clos) qual func code none builtins) x.1 x.2;pure (.yield ⟨⟩))) _ E _;rw[eq];exact wpAny_bindParams (s₀:=s) (env:=newEnv scope s.heap.objs.size globals (acs (s.heap.objs.size+1) scope.names []) qual func code none builtins)
  _ (λ_ _ _=>rfl) hk binds (λ_=>none) (λ_=>none) _ _
  ⟨⟨⟨_,_,rfl⟩,(Heap.Ns.new s.heap (.type "frame")).keeps (aeS _ _),λb o e=>aeS _ _ b o (z1a _ e),z0g _⟩,
   λn c hc=>(ok.empty n c (mem_of_lookup hc)).1,ok.apart,λn c hm=>(ok.empty n c hm).2⟩
  hkind λs' x=>ab1 (hQ s' x)
end
structure GF(N P:List Str)(y:Str)(sc:adA):Prop where
 kind:sc.kind= .function
 co:sc.isCoroutine=false
 gen:sc.isGenerator=false
 nd:N.Nodup
 pre:N.take (P.length+1)=P++[y]
 par:∀x∈P,sc.names.lookup x=some .local\/sc.names.lookup x=some .cell
 HS:sc.names.lookup y=some .free
 only:∀z∈sc.names,z.2= .free->z.1=y
 WT:∀z∈sc.names,z.2= .cell->sc.names.lookup z.1=some .cell
section
variable(P:ab9)(w:acf)(K:PySem.W.Frag)(mg:Str->Option abY)(base:ace)(N:List Str)(qual:Str)(scope:adA)(f:abX)(cd:abY)(A:acg)(outer:List PySem.Env)(s:abZ)(H:Hp)(y:Str)(c:abX)
abbrev wK:PySem.Env:=PySem.W.envX qual scope s.heap.objs.size f cd (acs (s.heap.objs.size+1) scope.names []++[(y,c)])
def wL:Cx where
 prog:=P
 w:=w
 K:=K
 mg:=mg
 base:=base
 A:=A.deeper (wK qual scope f cd s y c)
 N:=N
 s₀:=s
 H₀:=H
 env:=wK qual scope f cd s y c
 outer:=outer
 stack:=wK qual scope f cd s y c::outer
 ex:=[]
 calm:=true
 fn:=λx=>decide (x≠y)
 pn:=[]
 xe:=λ_ _=>False
end
section
variable{P:ab9}{w:acf}{K:PySem.W.Frag}{mg:Str->Option abY}{base:ace}
theorem ZP{f:abX}{cd:abY}{A:acg}{s s1:abZ}{us:List abY}{c:abX}{vy:V}{uy:abY}
  (S:GF N ps y scope)(hd:A.handled=none)(e0:Env0 P w K mg base A outer s H)(hl:vs.length=ps.length)(r:Vals vs us)(hc:s.heap.IsCell c (some uy))(hy:RelV vy uy)(hHc:H c=none)
  (x:InCallC s s.heap.objs.size (bindL (λq=>scope.names.lookup q) (ps.zip us) λ_=>none) (acs (s.heap.objs.size+1) scope.names []) (bindC (λq=>scope.names.lookup q) (ps.zip us) λ_=>none) s1):
  Inv (wL P w K mg base N qual scope f cd A outer s H y c) [] (start N (vs++[vy])) H s1:=by
 have hpl:ps.length+1<=N.length:=by have:=congrArg List.length S.pre;rw[afn,z1d,ad1] at this;omega
 obtain⟨h1,tk,rfl,hk⟩:=x.done;have noA:∀b:abX,b∉(wL P w K mg base N qual scope f cd A outer s H y c).ex:=λb z=>absurd (show b∈([]:List abX) from z) (by simp);have clt:c<s.heap.objs.size:=hc.lt;have cells:∀z d,(wK qual scope f cd s y c).cells.lookup z=some d->((acs (s.heap.objs.size+1) scope.names []).lookup z=some d/\scope.names.lookup z=some .cell)\/(z=y/\d=c):=λz d q=>by
  have q:(acs (s.heap.objs.size+1) scope.names []++[(y,c)]).lookup z=some d:=q;rw[ade] at q;cases e:(acs (s.heap.objs.size+1) scope.names []).lookup z with
  | some d'=>
   rw[e] at q;have q:d'=d:=by simpa using q
   subst q;obtain⟨m1,_⟩:=ji _ _ (PySem.mem_of_lookup e);exact .inl ⟨rfl,S.WT _ m1 rfl⟩
  | none=>
   rw[e] at q;have q:List.lookup z [(y,c)]=some d:=by simpa using q
   rw[adW] at q;cases hz:z ==y with
   |true=>rw[hz] at q;cases q;exact .inr ⟨by simpa using hz,rfl⟩
   |false=>rw[hz] at q;cases q
 have kept:(wK qual scope f cd s y c).cells.lookup y=some c:=by
  show (acs (s.heap.objs.size+1) scope.names []++[(y,c)]).lookup y=some c;rw[ade];cases e:(acs (s.heap.objs.size+1) scope.names []).lookup y with
  | some d=>
   obtain⟨m1,_⟩:=ji _ _ (PySem.mem_of_lookup e);have:=S.WT _ m1 rfl;rw[S.HS] at this;cases this
  |none=>simp[adW]
 refine⟨⟨e0.mod,S.kind,rfl,rfl,z0g _,λz z' d h1 h2=>?_,λz hz=>?_,λz d hf h=>?_,λ_=>hd,Around.frames_deeper e0.frames,.inr ⟨rfl,rfl⟩,λb z=>absurd z (noA b),e0.bs,e0.bsz,λb _ _=>noA b,λb z=>absurd z (noA b),e0.funs,e0.frf⟩,
  rfl,e0.bare,Un.kept hk,⟨_,x.toInCall.ns,λi z v h1 h2 h3=>?_⟩,λz d h=>?_,e0.hok.fresh (z0g _),λz d h=>?_,λp hp=>absurd (show p∈([]:List (abX×Obj)) from hp) (by simp),e0.hok.kept hk,?_⟩
 ·rcases cells z d h1 with⟨q1,_⟩ |⟨q1,q2⟩ <;> rcases cells z' d h2 with⟨q3,_⟩ |⟨q3,q4⟩
  ·exact name_of_addr x.apart (PySem.mem_of_lookup q1) (PySem.mem_of_lookup q3)
  ·have:=x.above z d (PySem.mem_of_lookup q1);rw[q4] at this;exact absurd (Nat.lt_trans clt this) (acX _)
  ·have:=x.above z' d (PySem.mem_of_lookup q3);rw[q2] at this;exact absurd (Nat.lt_trans clt this) (acX _)
  ·rw[q1,q3]
 ·have hz:scope.names.lookup z=some .cell\/scope.names.lookup z=some .free:=hz;rcases hz with hz |hz
  ·obtain⟨d,e⟩:=cell_has (n:=s.heap.objs.size+1) hz;exact⟨d,by show (acs (s.heap.objs.size+1) scope.names []++[(y,c)]).lookup z=some d;rw[ade,e];rfl⟩
  ·have e:=S.only _ (PySem.mem_of_lookup hz) rfl;have e:z=y:=e;rw[e];exact⟨c,kept⟩
 ·have hf:z≠y:=of_decide_eq_true hf;rcases cells z d h with⟨q1,_⟩ |⟨q1,_⟩
  ·exact z0e (x.above z d (PySem.mem_of_lookup q1))
  ·exact absurd q1 hf
 ·have hi:i<vs.length+1:=by
   unfold L2.start at h2;by_cases hi:i<vs.length+1
   ·exact hi
   ·rw[acD (by simpa using hi)] at h2;rw[adt] at h2;split at h2 <;> cases h2
  have ha:(vs++[vy])[i]?=some v:=by
   unfold L2.start at h2;rw[acH (by simpa using hi),z2b] at h2;cases e:(vs++[vy])[i]? with
   |none=>rw[e] at h2;cases h2
   |some a=>rw[e] at h2;cases h2;rfl
  have hp:(ps++[y])[i]?=some z:=by
   rw[<-S.pre,agm (by omega)];exact h1
  by_cases hiv:i<vs.length
  ·rw[acH hiv] at ha;rw[acH (by omega)] at hp;obtain⟨u,hu,rv⟩:=r.get ha;have ndP:ps.Nodup:=by
    have q:(ps++[y]).Nodup:=by rw[<-S.pre];exact S.nd.sublist (List.take_sublist _ _)
    exact (agb.mp q).1
   refine⟨u,rv,?_⟩;rcases S.par z (acy hp) with k |k
   ·exact .inl ⟨k,bindL_get ndP hp hu k⟩
   ·obtain⟨d,e⟩:=cell_has (n:=s.heap.objs.size+1) k;refine .inr ⟨.inl k,d,?_,?_⟩
    ·show (acs (s.heap.objs.size+1) scope.names []++[(y,c)]).lookup z=some d;rw[ade,e];rfl
    ·have q:=x.cell z d e;rw[bindC_get ndP hp hu (by rw[k];decide)] at q;exact q
  ·have ei:i=vs.length:=by omega
   subst ei;rw[acD (z0g _)] at ha;rw[hl,acD (z0g _)] at hp;have ha:vy=v:=by simpa using ha
   have hp:y=z:=by simpa using hp
   subst ha hp;exact⟨uy,hy,.inr ⟨.inr S.HS,c,kept,hc.keeps hk⟩⟩
 ·rcases cells z d h with⟨q1,_⟩ |⟨_,q2⟩
  ·exact⟨_,x.cell z d q1⟩
  ·rw[q2];exact⟨_,hc.keeps hk⟩
 ·rcases cells z d h with⟨q1,_⟩ |⟨_,q2⟩
  ·exact e0.hok.fresh (z0e (x.above z d (PySem.mem_of_lookup q1)))
  ·rw[q2];exact hHc
 ·unfold L2.start;show _=N.length;rw[z1d,z1g,acN,z1d,ad1];omega
theorem ZQ{m:Nat}{g:aB->So}{my:Int}{a c:abX}{co:Obj}{uy:abY}
  (S:GF N ps y scope)(hn:ps.length=n)(hm:N.length=n+1+m)
  (hbind:∀(doc pm:abY) (cl:List (Str×abX)) (cdv ct:abY) (us:List abY),us.length=ps.length->adU (PySem.W.fnX name qual params body scope cl .none .none doc pm none cdv ct) ⟨us,[]⟩=pure (ps.zip us))
  (hb:∀(cdv:abY) (A:acg) (outer:List PySem.Env) (s:abZ) (H:Hp) (f c:abX),Room k (A.deeper (wK qual scope f cdv s y c))->jB (wL P w K mg base N qual scope f cdv A outer s H y c) body g)
  (fh:jQ H a name qual params body scope [(y,c)])(hc:H c=some (.frz co (.own c)))(hcd:co.data= .cell (some uy))(hy:RelV (.int my) uy):
  yH P w K mg base (k+1) (λds=>gb m g (ds.map .val++[.val (.int my)])) n a H:=by
 intro A outer s H1 us vs Q E hr e0 hz r sp;obtain⟨O,ds,rs,hl,al,sp⟩:=sp;have sp:(match gb m g (ds.map Ent.val++[Ent.val (.int my)]) with | .ok d=>∀v H',Same H1 H'->Rep K O H' d v->Q v H' |_=>False):=sp;obtain⟨fo,doc,pm,c',ctv,oc,vq,t,f1,f2,f3,f4,f5⟩:=fh.fz hz;have hc1:=hz _ _ _ hc;obtain⟨hco,_⟩:=e0.hok c _ hc1;obtain⟨hfo,_⟩:=e0.hok a _ f1;obtain⟨hoc,_⟩:=e0.hok c' _ f3;have KX:K.In s.heap:=e0.mod.kin.keeps λb o e=>(e0.bs b o e).1;have lim:s.heap.NoLimit:=e0.mod.nolimit.keeps λb o e=>(e0.bs b o e).1;have e1:Env0 P w K mg base A outer s (del H1 c):=⟨e0.frames,e0.mod,λb o e=>⟨(e0.bs b o e).1,by
  by_cases q:b=c
  ·rw[q];exact iZ
  ·rw[dF q];exact (e0.bs b o e).2⟩,e0.bsz,e0.funs,λb hb=>by
  by_cases q:b=c
  ·rw[q];exact iZ
  ·rw[dF q];exact e0.frf b hb,Py e0.hok hc1 hcd,e0.bare⟩
 have hlu:us.length=ps.length:=by rw[<-r.length,<-rs.length,hl,hn]
 have hkind:∀z∈ps.zip us,scope.names.lookup z.1=some .local\/(scope.names.lookup z.1=some .cell/\((acs (s.heap.objs.size+1) scope.names []).lookup z.1).isSome=true):=λ⟨q,v⟩ hy=>by
  rcases S.par q (afA hy).1 with z |z
  ·exact .inl z
  ·exact .inr ⟨z,PySem.W.cellsFrom_some _ _ _ (.inl z)⟩
 refine codeAny_call_function hr.depth hfo f2 S.co S.gen rfl ⟨c',oc,vq,t,rfl,hoc,f4,f5⟩ ?_;rw[hbind doc pm _ _ _ us hlu];refine ab1 (Nx S.kind hkind λs1 x=>?_);refine⟨lim.keeps x.toInCall.keep,codeAny_func ?_⟩;have I:Inv (wL P w K mg base N qual scope a (.ref c') A outer s (del H1 c) y c) [] (start N (vs++[.int my])) (del H1 c) s1:=
  ZP S hr.hd e1 (by rw[<-rs.length,hl,hn]) r ⟨co,hco,hcd⟩ hy iZ x
 have Bv:N.length=(vs++[V.int my]).length+m:=by rw[hm,z1d,<-rs.length,hl];rfl
 have rs':aO K (λb=>O b/\b≠c) (del H1 c) ds vs:=aO.ext (PB hc1) (λb xs nb _ z=>nb z.1) ds vs rs;have J:At (wL P w K mg base N qual scope a (.ref c') A outer s (del H1 c) y c) (del H1 c) (λb=>O b/\b≠c) (λb=>O b/\b≠c) (del H1 c) ((ds.map Ent.val++[Ent.val (.int my)]).map some++ab3 m none) (start N (vs++[.int my])):=by
  rw[Cz Bv];refine Cy (by show N.length=_;rw[z1d,z1g,rs.length];rw[z1d] at Bv;exact Bv) (Eo (tX rs') (.cons ⟨(cg (K:=K) (O:=λb=>O b/\b≠c) (H:=del H1 c) my:p7 K (λb=>O b/\b≠c) (del H1 c) (.val (.int my)) (.int my)),rfl⟩ .nil)) λb z=>?_;obtain⟨o,q⟩:=al b z.1;exact⟨o,by rw[dF z.2];exact q⟩
 have run:=hb (.ref c') A outer s (del H1 c) a c (hr.deeper _) [] s1 _ _ {nx:=λ_ H'=>gb m g (ds.map .val++[.val (.int my)])= .ok .non/\Same (del H1 c) H',rt:=λv H'=>∃d,gb m g (ds.map .val++[.val (.int my)])= .ok d/\Same (del H1 c) H'/\Rep K (λb=>O b/\b≠c) H' d v} I ⟨_,_,_,_,J,by
  unfold gb at sp |-;cases e2:g ((ds.map Ent.val++[Ent.val (.int my)]).map some++ab3 m none) with
  |rt d=>exact λv H' s' r'=>⟨d,by simp only[e2],s',r'⟩
  |nx ρ'=>exact λσ' H' O' j' _=>⟨by simp only[e2],j'.same⟩
  |bk _=>rw[e2] at sp;exact sp.elim
  |ct _=>rw[e2] at sp;exact sp.elim
  |ex _ _=>rw[e2] at sp;exact sp.elim
  |bad=>rw[e2] at sp;exact sp.elim⟩
 have cfr:c∉frs outer:=λz=>by rw[e0.frf c z] at hc1;cases hc1
 have fin:∀{σ':St} {H':Hp} {v:V} {u:abY} {s':abZ} {d:D},Inv (wL P w K mg base N qual scope a (.ref c') A outer s (del H1 c) y c) [] σ' H' s'->RelV v u->gb m g (ds.map .val++[.val (.int my)])= .ok d->Same (del H1 c) H'->Rep K (λb=>O b/\b≠c) H' d v->CE outer P w H1 s Q u s':=λ{σ' H' v u s' d} J rv ed sm rd=>by
  have hn':H' c=none:=J.base.free c co hco iZ (by simp[wL]);have hc':s'.heap.get? c=some co:=J.base.keep c co hco iZ cfr (by simp[wL]);have ol:∀b,b≠c->upd H' c (.frz co (.own c)) b=H' b:=λb z=>upd_ne z;have kIn:K.In s'.heap:=J.kIn;refine⟨v,upd H' c (.frz co (.own c)),J.os,J.bare,⟨λb o q nb hb hx=>?_,λb o q nb hb hx=>?_,λb o q nb hx=>?_,λb o q hx=>J.base.there b o q hx,λb xs q=>?_,λb o u q=>?_,λb ps q=>?_⟩,Pz J.hok hn' hc',rv,?_⟩
  ·exact J.base.keep b o q (show del H1 c b=none by by_cases z:b=c;(rw[z];exact iZ);rw[dF z];exact nb) hb hx
  ·exact J.base.slot b o q (show del H1 c b=none by by_cases z:b=c;(rw[z];exact iZ);rw[dF z];exact nb) hb hx
  ·have nc:b≠c:=λz=>by rw[z,hc1] at nb;cases nb
   rw[ol b nc];exact J.base.free b o q (show del H1 c b=none by rw[dF nc];exact nb) hx
  ·have nc:b≠c:=λz=>by rw[z,hc1] at q;cases q
   rw[ol b nc];exact J.base.tups b xs (show del H1 c b=some _ by rw[dF nc];exact q)
  ·by_cases nc:b=c
   ·rw[nc,hc1] at q;cases q;rw[nc,upd_same]
   ·rw[ol b nc];exact J.base.frzs b o u (show del H1 c b=some _ by rw[dF nc];exact q)
  ·have nc:b≠c:=λz=>by rw[z,hc1] at q;cases q
   rw[ol b nc];exact J.base.tbls b ps (show del H1 c b=some _ by rw[dF nc];exact q)
  ·rw[ed] at sp;have s2:Same H' (upd H' c (.frz co (.own c))):=Same.upd hn';refine sp v _ (λb o q=>?_) ?_
   ·by_cases nc:b=c
    ·rw[nc,hc1] at q;cases q;rw[nc,upd_same]
    ·exact s2 _ _ (sm b o (by rw[dF nc];exact q))
   ·refine Rep.ext ⟨λb xs z=>Same.rd s2 z,λb xs _ z=>Same.rd s2 z⟩ (λb xs nb hq z=>?_) d v rd;by_cases nc:b=c
    ·subst nc;rcases hq with (hq |⟨o,hq⟩) |⟨o,its,n',hq,h4,_⟩
     ·rw[hn'] at hq;cases hq
     ·rw[hn'] at hq;cases hq
     ·have:=kIn _ _ hq;rw[hc'] at this;cases this;simp_all
    ·exact nb ⟨z,nc⟩
 refine ac1 run (λfl s' hs=>?_) λe s' hs=>hs.elim;cases fl with
 | ret u=>
  obtain⟨v,σ',H',J,rv,d,q1,q2,q3⟩:=hs;exact fin J rv q1 q2 q3
 | next=>
  obtain⟨σ',H',J,q1,q2⟩:=hs;exact fin (v:=V.non) (u:=aco) J rfl q1 q2 nM
 |brk=>obtain⟨_,_,_,q⟩:=hs;exact acL q
 |cont=>obtain⟨_,_,_,q⟩:=hs;exact acL q
end
section
variable{X:Cx}{name qual:Str}{params:aeb}{body:List acp}{scope:adA}{y xS:Str}{c fS:abX}{K4:acK}{Io:List Str}{kS kG n q iy:Nat}{FS:abX->(List D->R D)->List D->R D}{GG:Int->List D->R D}{p pos:Pos}{e:ab6}{es:List ab6}{ta:TA}
inductive W9 (K:PySem.W.Frag) (name qual:Str) (params:aeb) (body:List acp) (scope:adA) (y:Str) (c:abX) (iy n:Nat) (FS:abX->(List D->R D)->List D->R D) (GG:Int->List D->R D) (σ:St) (Q:VK) (vs:List V) (H1:Hp):Prop
 |mk (O:abX->Prop) (ds:List D) (xs:List V) (a:abX) (my:Int) (d:D) (e:vs=xs++[.ref a]) (r:aO K O H1 ds xs) (hl:ds.length=n) (al:∀b,O b->∃o,H1 b=some o) (fh:jQ H1 a name qual params body scope [(y,c)]) (hσ:σ[iy]?=some (some (.int my))) (hF:∀a,FS a (GG my) ds= .ok d) (hQ:∀v H',Same H1 H'->Rep K O H' d v->Q v H'):W9 K name qual params body scope y c iy n FS GG σ Q vs H1
def aaZ(K:PySem.W.Frag)(name qual:Str)(params:aeb)(body:List acp)(scope:adA)(y:Str)(c:abX)(iy n:Nat)(FS:abX->(List D->R D)->List D->R D)(GG:Int->List D->R D)(ta:TA):TE:=λσ H Q=>ta σ H λvs H1=>W9 K name qual params body scope y c iy n FS GG σ Q vs H1
theorem V1(Sw:FnOk X.prog X.w X.K X.mg X.base CX0 kS fS K4 Io (spS X.prog X.w X.mg X.base kG X.K n q FS))(hr:Room kS X.A)(hg:Gl X xS)(hm:X.mg xS=some (.ref fS))(hk:PySem.W.keepIn X.K (.ref fS)=true)(hb:Binds X.K K4 Io [])
  (V2:∀my a c H co uy,jQ H a name qual params body scope [(y,c)]->H c=some (.frz co (.own c))->co.data= .cell (some uy)->RelV (.int my) uy->yH X.prog X.w X.K X.mg X.base kG (GG my) q a H)
  (hc:X.env.cells.lookup y=some c)(Xa:X.env.scope.names.lookup y=some .cell)(hfn:X.fn y=true)(hiy:X.N[iy]?=some y)(ha:PA X (e::es) ta)(hdb:(xS ==("__debug__" :Str))=false:=by decide)
  (he:ab2 (e::es) X.env=(false,eval e X.env)::ab2 es X.env:=by rfl)(hpl:(acO pos (ab2 es X.env)).any (·.1)=false:=by rfl):
  PE X (.Call (.Name xS p) (e::es) [] pos) (aaZ X.K name qual params body scope y c iy n FS GG ta):=by
 intro pins s σ H Q I h;refine adL (ld_glob I hg hm ?_ hdb);refine PySem.W.callWith_K (h₀:=X.base) I.ok.mod.kin hk (thn (ha pos pins s σ H _ I h) λus s1 ⟨vs,H1,I1,r,hq⟩=>⟨I1.kIn,?_⟩) he hpl;obtain⟨O,ds,xs,a,my,d,rfl,rs,hl,al,fh,hσ,hF,hQ⟩:=hq;obtain⟨m,hn,hl'⟩:=I1.loc;obtain⟨uy,ry,look⟩:=hl' iy y (.int my) hiy hσ (.inr (.inl Xa));have hcell:s1.heap.IsCell c (some uy):=by
  rcases look with⟨z,_⟩ |⟨_,c2,z,hz⟩
  ·have z:X.env.scope.names.lookup y=some .local:=z;rw[Xa] at z;cases z
  ·rw[hc] at z;cases z;exact hz
 obtain⟨co,hco,hcd⟩:=hcell;have hnc:H1 c=none:=I1.freeC y c hc;have cab:X.s₀.heap.objs.size<=c:=I1.ok.cab y c hfn hc;have sm:Same H1 (upd H1 c (.frz co (.own c))):=Same.upd hnc;have nfr:∀b∈frs X.stack,b≠c:=λb hb z=>by
  rcases ach.mp (I1.stkSub b hb) with e |hb'
  ·exact I1.cne y c hc (z.symm.trans e)
  ·obtain⟨_,o,ho,_⟩:=I1.ok.funs.mem hb';exact absurd (z0d (z2c ho) cab) (by rw[z];exact acX _)
 have e0:=I1.env0;have e1:Env0 X.prog X.w X.K X.mg X.base X.A X.stack s1 (upd H1 c (.frz co (.own c))):=⟨e0.frames,e0.mod,λb o z=>⟨(e0.bs b o z).1,by
  rw[upd_ne (λw=>by
   have:=z2c (I1.ok.bs b o z).1;rw[w] at this;exact absurd (z0d this cab) (acX _))]
  exact (e0.bs b o z).2⟩,e0.bsz,e0.funs,λb hb=>by rw[upd_ne (nfr b hb)];exact e0.frf b hb,Pz e0.hok hnc hco,e0.bare⟩
 obtain⟨fo,doc,pm,c',ctv,oc,vq,t,f1,f2,f3,f4,f5⟩:=id fh;have fh1:=fh.fz λb o u z=>sm b _ z;have sp:spS X.prog X.w X.mg X.base kG X.K n q FS (xs++[.ref a]) (upd H1 c (.frz co (.own c))) (λv H'=>Same (upd H1 c (.frz co (.own c))) H'/\Rep X.K O H' d v) E0:=by
  refine⟨O,ds,xs,a,GG my,rfl,rs.same sm,hl,λb z=>let⟨o,w⟩:=al b z;⟨o,sm _ _ w⟩,⟨rfl,fo,_,sm _ _ f1,f2⟩,V2 my a c _ co uy fh1 upd_same hcd ry,?_⟩;rw[hF a];exact λv H' s' r'=>⟨s',r'⟩
 have hll:us.length=Io.length:=by rw[<-r.length];exact Sw.len _ _ _ _ sp
 have hbb:=hb s1 us I1.kIn (by rw[acE];exact hll);rw[acE] at hbb;refine afz (aex (Sw.run X.A X.stack s1 _ ⟨us,[]⟩ us _ _ E0 hr e1 hbb r sp) λrr s' hq=>?_);cases rr with
 |error ev=>exact hq.elim
 | ok fl =>
  cases fl with
  |next=>exact acL hq
  |brk=>exact acL hq
  |cont=>exact acL hq
  | ret u =>
   obtain⟨v,H',os,bare,un,hok,rv,q1,q2⟩:=hq;have hc':H' c=some (.frz co (.own c)):=un.frzs c co _ upd_same;have up:∀b,b≠c->upd H1 c (.frz co (.own c)) b=H1 b:=λb z=>upd_ne z;have un':Un (frs X.stack) [] H1 (del H' c) s1.heap s'.heap:=by
    refine⟨λb o z nb hb hx=>?_,λb o z nb hb hx=>?_,λb o z nb hx=>?_,un.there,λb xs z=>?_,λb o u z=>?_,λb ps z=>?_⟩
    ·by_cases bc:b=c
     ·subst bc;rw[hco] at z;cases z;exact (hok b _ hc').1
     ·exact un.keep b o z (by rw[up b bc];exact nb) hb hx
    ·exact un.slot b o z (by rw[up b (nfr b hb)];exact nb) hb hx
    ·by_cases bc:b=c
     ·rw[bc];exact iZ
     ·rw[dF bc];exact un.free b o z (by rw[up b bc];exact nb) hx
    ·have bc:=ne_of_none z hnc;rw[dF bc];exact un.tups b xs (by rw[up b bc];exact z)
    ·have bc:=ne_of_none z hnc;rw[dF bc];exact un.frzs b o u (by rw[up b bc];exact z)
    ·have bc:=ne_of_none z hnc;rw[dF bc];exact un.tbls b ps (by rw[up b bc];exact z)
   have J:Inv X pins σ (del H' c) s':=I1.call' os un' (Py hok hc' hcd) bare λb z=>absurd z (by simp);refine⟨v,del H' c,J,rv,hQ v _ (λb o z=>?_) ?_⟩
   ·have bc:=ne_of_none z hnc;rw[dF bc];exact q1 b o (by rw[up b bc];exact z)
   ·exact Rep.ext (PB hc') (λb xs nb _ z=>nb z) d v q2
end
open Classical in
def allOf(f:abX->R D):R D:=if h:∃d,∀a,f a= .ok d then .ok h.choose else .bad
theorem V3{f:abX->R D}{d:D}(h:∀a,f a= .ok d):allOf f= .ok d:=by
 have e:∃d,∀a,f a= .ok d:=⟨d,h⟩;unfold allOf;rw[dif_pos e];have:=e.choose_spec 0;rw[h 0] at this;exact this.symm
theorem V4{f:abX->R D}{d:D}(h:allOf f= .ok d)(a:abX):f a= .ok d:=by
 unfold allOf at h;by_cases e:∃d,∀a,f a= .ok d
 ·rw[dif_pos e] at h;cases h;exact e.choose_spec a
 ·rw[dif_neg e] at h;cases h
def Q5(i iy:Nat)(f1 f2 f3:aB->R D)(FS:abX->(List D->R D)->List D->R D)(GG:Int->List D->R D):aB->So:=λρ=>match ρ[i]?,ρ[iy]? with
 | some none,some (some (.val (.int my)))=>(match f1 ρ,f2 ρ,f3 ρ with
  | .ok a,.ok b,.ok d=>(match allOf (λx=>FS x (GG my) [a,b,d]) with
   | .ok r=> .rt r
   |_=> .bad)
  |_,_,_=> .bad)
 |_,_=> .bad
section
variable{X:Cx}{name qual:Str}{params:aeb}{body:List acp}{scope:adA}{y xS:Str}{c cc P fS:abX}{K4:acK}{Io:List Str}{kS kG q:Nat}{FS:abX->(List D->R D)->List D->R D}{GG:Int->List D->R D}{p p4 pos pos2 ZR:Pos}{e1 e2 e3:ab6}{f1 f2 f3:aB->R D}
theorem In.abC{v:V}(j:In X O H ρ σ)(hn:ρ[i]?=some none):In X O H ρ (σ.set i (some v)):=by
 have ne:∀(k:Nat) e,ρ[k]?=some (some e)->i≠k:=λk e h z=>by rw[<-z,hn] at h;cases h
 refine⟨⟨λk e h=>?_,λk l e e' u hkl hk hl ok ol sk sl=>?_,λk l rows a rs e u hkl hk sk ha hl ol sl=>?_⟩,j.al,by rw[adG];exact j.len,j.jF⟩
 ·rw[z1e (ne k e h)];exact j.env.get k e h
 ·rw[z1e (ne k e hk)] at sk;rw[z1e (ne l e' hl)] at sl;exact j.env.sep k l e e' u hkl hk hl ok ol sk sl
 ·rw[z1e (ne k _ hk)] at sk;rw[z1e (ne l e hl)] at sl;exact j.env.nP k l rows a rs e u hkl hk sk ha hl ol sl
theorem V5(i iy:Nat)(hN:X.N.Nodup)(hB:pq X.base X.mg cc P)(hT:Tb [(P,qual)] X.H₀)(hcode:X.env.code= .ref cc)(Sw:FnOk X.prog X.w X.K X.mg X.base CX0 kS fS K4 Io (spS X.prog X.w X.mg X.base kG X.K 3 q FS))(hr:Room kS X.A)(hm:X.mg xS=some (.ref fS))(hk:PySem.W.keepIn X.K (.ref fS)=true)(hb:Binds X.K K4 Io [])
  (V2:∀my a c H co uy,jQ H a name qual params body scope [(y,c)]->H c=some (.frz co (.own c))->co.data= .cell (some uy)->RelV (.int my) uy->yH X.prog X.w X.K X.mg X.base kG (GG my) q a H)
  (h1:DE X e1 f1)(h2:DE X e2 f2)(h3:DE X e3 f3)
  (hcl:agf scope X.env=pure [(y,c)])(hc:X.env.cells.lookup y=some c)(Xa:X.env.scope.names.lookup y=some .cell)(hfn:X.fn y=true)(hii:i≠iy)(hnv:Vis X.env.scope name)
  (hiy:X.N[iy]?=some y:=by rfl)(hi:X.N[i]?=some name:=by rfl)(hl:Loc X.env.scope name:=by first |exact acZ rfl |exact acM rfl)(hq:qualnameIn X.env name name=qual:=by rfl)(hd0:params.defaults=[]:=by rfl)(hk0:params.kw_defaults=[]:=by rfl)(ha:annTrees params none X.env=[]:=by rfl)
  (hg:Gl X xS:=by rfl)(hdb:(xS ==("__debug__" :Str))=false:=by decide)(hdn:(name ==("__debug__" :Str))=false:=by decide)(hdc:(name ==("__classdict__" :Str))=false:=by decide)
  (he1:ab2 [e1,e2,e3,.Name name p4] X.env=(false,eval e1 X.env)::ab2 [e2,e3,.Name name p4] X.env:=by rfl)(he2:ab2 [e2,e3,.Name name p4] X.env=(false,eval e2 X.env)::ab2 [e3,.Name name p4] X.env:=by rfl)
  (he3:ab2 [e3,.Name name p4] X.env=(false,eval e3 X.env)::ab2 [.Name name p4] X.env:=by rfl)(he4:ab2 [.Name name p4] X.env=(false,eval (.Name name p4) X.env)::ab2 [] X.env:=by rfl)
  (hpl:(acO pos2 (ab2 [e2,e3,.Name name p4] X.env)).any (·.1)=false:=by rfl)(hf:X.fn name=true\/X.env.scope.names.lookup name=some .local:=by first |exact .inl rfl |exact .inr rfl):
  jB X [.FunctionDef name params body [] none [] scope none name pos,.Return (some (.Call (.Name xS p) [e1,e2,e3,.Name name p4] [] pos2)) ZR] (Q5 i iy f1 f2 f3 FS GG):=by
 have A:=pa_cons h1 (pa_cons h2 (pa_cons h3 (pa_cons (pe_var (X:=X) (pos:=p4) hi hnv hdn hdc) pa_nil he4) he3) he2) he1;refine PSs.imp (pss_cons (ZM i hN hB hT hcode hcl hi hl hq hd0 hk0 ha hf) (pss_one (ps_ret (V1 (iy:=iy) (p:=p) (pos:=pos2) Sw hr hg hm hk hb V2 hc Xa hfn hiy A hdb he1 hpl)))) λσ H E h=>?_;obtain⟨H0,O0,O,ρ,j,h⟩:=h;intro a H1 sm fh;unfold Q5 at h;split at h
 ·rename_i my en em;have hil:i<X.N.length:=(z1b hi).1;obtain⟨v,hv,rv⟩:=j.inn.env.get iy _ em;have rv:v= .int my:=Rep.int (show Rep X.K O H (.int my) v from rv);subst rv;split at h
  ·rename_i d1 d2 d3 q1 q2 q3;cases q4:allOf (λx=>FS x (GG my) [d1,d2,d3]) with
   |bad=>rw[q4] at h;exact h.elim
   |err _=>rw[q4] at h;exact h.elim
   | ok d=>
    rw[q4] at h;have jn:In X O H1 ρ (σ.set i (some (.ref a))):=In.abC (j.inn.same sm) en;refine⟨ρ,O,jn,?_⟩;rw[q1];intro v1 H2 s2 r1;refine⟨ρ,O,jn.same s2,?_⟩;rw[q2];intro v2 H3 s3 r2;refine⟨ρ,O,(jn.same s2).same s3,?_⟩;rw[q3];intro v3 H4 s4 r3;have jl:i<σ.length:=by rw[j.inn.len];exact hil
    refine⟨.ref a,z2a jl,?_⟩;have ZS:Same H1 H4:=(s2.trans s3).trans s4;refine⟨O,[d1,d2,d3],[v1,v2,v3],a,my,d,rfl,.cons (r1.same (s3.trans s4)) (.cons (r2.same s4) (.cons r3 .nil)),rfl,(jn.same ZS).al,fh.fz λb o u z=>ZS _ _ z,?_,V4 q4,λv' H' s' r'=>?_⟩
    ·rw[z1e hii];exact hv
    ·exact h v' H' (j.same.trans (sm.trans (ZS.trans s'))) (r'.fewer j.sub)
  ·exact h.elim
 ·exact h.elim
end
def mq(a:abX)(o:Option HO)(T:abX)(q:Str):Hp:=λb=>if b=T then some (.tbl #[.str q 0]) else if b=a then o else none
theorem TF {mg mb:Str→Option Value} {fa a c T:Addr} {q:Str} {x:Str} {sp:Sp} {s₁:Shared} {vs:List Value} {ns:List Int}
    (KX:K.In s₁.heap)(hns:s₁.heap.Ns ab5 mg)(hb:s₁.heap.Ns aen mb)(hbb:∀x:Str,x≠"__name__"→mb x=adB x)(hlim:s₁.heap.NoLimit)(hg:s₁.gens= #[])
    (ha:s₁.heap.get? a=some {cls:= .type "list",data:= .seq vs.toArray})(hi:adV vs ns)(hl:ns.length≤sizeLine)(hr:Room k aej)
    (hC:PySem.W.CodeHd s₁.heap c T)(hT:s₁.heap.get? T=some (PySem.W.tabObj #[]))(hnt:PySem.W.noTabs K=true)
    (hbm:∃bm ob,mg "__builtins__" =some (.ref bm)∧bm≠aen∧s₁.heap.get? bm=some ob∧ob.cls= .type "module"∧ob.dict=some aen∧ob.data= .plain)
    (F:∀base:ace,K.In base→base.Ns ab5 mg→pq base mg c T→FnOk P w K mg base CX0 k fa fd [x] sp)(hbind:∀(s:abZ) (u:abY),ae9 s fd ⟨[u],[]⟩ [(x,u)])
    (hsp:∀H:Hp,Tb [(T,q)] H→SqL K H a (ns.map V.int)→sp [.ref a] H (fun v _=>v= .bl true) fun _ _ _=>False):
    aeI (model P w) aej (.call (.ref fa) ⟨[.ref a],[]⟩) (fun r s'=>r= .ok (.ret (.bool true))∧OldK s₁.heap s'.heap∧s'.os=s₁.os∧aew s'.gens) s₁:=by
  have rv:=vals_ints hi
  have lenV:=hi.length
  have aT:a≠T:=fun z=>by rw[z,hT] at ha;cases ha
  have core : ∀o:Option HO,(o=none∨o=some (.frz {cls:= .type "list",data:= .seq vs.toArray} (.lst (ns.map V.int))))→SqL K (mq a o T q) a (ns.map V.int)→(o≠none→K.lookup a=none)→
      aeI (model P w) aej (.call (.ref fa) ⟨[.ref a],[]⟩) (fun r s'=>r= .ok (.ret (.bool true))∧OldK s₁.heap s'.heap∧s'.os=s₁.os∧aew s'.gens) s₁:=by
    intro o ho hS hK
    have hH:∀b u,mq a o T q b=some u→(b=T∧u= .tbl #[.str q 0])∨(b=a∧u= .frz {cls:= .type "list",data:= .seq vs.toArray} (.lst (ns.map V.int))∧o≠none):=fun b u z=>by
      unfold mq at z
      by_cases h1:b=T
      · rw[if_pos h1] at z;cases z;exact .inl ⟨h1,rfl⟩
      · rw[if_neg h1] at z
        by_cases h2:b=a
        · rw[if_pos h2] at z
          rcases ho with ho |ho
          · rw[ho] at z;cases z
          · rw[ho] at z;cases z;exact .inr ⟨h2,rfl,by rw[ho];simp⟩
        · rw[if_neg h2] at z;cases z
    have hok:HOk P w (mq a o T q) s₁.heap:=fun b u z=>by
      rcases hH b u z with⟨rfl,rfl⟩ |⟨rfl,rfl,_⟩
      · exact⟨#[],hT,trivial,fun p cv y=>by cases y⟩
      · exact⟨ha,by rw[agB];exact hl,vs,_,rv,ha⟩
    have tb:Tb [(T,q)] (mq a o T q):=fun p hp=>by
      have e:p=(T,q):=by simpa using hp
      subst e
      exact⟨#[.str q 0],0,if_pos rfl,rfl⟩
    have base_of:∀{b:abX} {u:Obj},s₁.heap.get? b=some u→mq a o T q b=none→(hidT s₁.heap (mq a o T q)).get? b=some u:=fun e n=>hidT_get e n
    have free:∀{b:abX} {u:Obj},s₁.heap.get? b=some u→u.cls≠.type "list"→u.cls≠.none→mq a o T q b=none:=fun {b u} e n1 n2=>by
      cases z:mq a o T q b with
      |none=>rfl
      | some y=>
        rcases hH b y z with⟨rfl,_⟩ |⟨rfl,_,_⟩
        · rw[hT] at e;cases e;exact absurd rfl n2
        · rw[ha] at e;cases e;exact absurd rfl n1
    have aa0:∀{b:abX} {u:Obj} {es:Array DictEntry} {ep:Nat},s₁.heap.get? b=some u→u.data= .dict es ep→mq a o T q b=none:=fun {b u es ep} e d=>by
      cases z:mq a o T q b with
      |none=>rfl
      | some y=>
        rcases hH b y z with⟨rfl,_⟩ |⟨rfl,_,_⟩
        · rw[hT] at e;cases e;cases d
        · rw[ha] at e;cases e;cases d
    have nsK:∀{b:abX} {m:Str→Option abY},s₁.heap.Ns b m→(hidT s₁.heap (mq a o T q)).Ns b m:=fun {b m} ⟨u,es,ep,e,d,r⟩=>⟨u,es,ep,base_of e (aa0 e d),d,r⟩
    have hKb:K.In (hidT s₁.heap (mq a o T q)):=fun b u e=>base_of (KX b u e) (by
      cases z:mq a o T q b with
      |none=>rfl
      | some y=>
        rcases hH b y z with⟨rfl,_⟩ |⟨rfl,_,no⟩
        · have e1:=KX b u e
          rw[hT] at e1;cases e1
          have h2:=ags.mp hnt (b,PySem.W.tabObj #[]) (PySem.W.mem_of_lookupK e)
          exact absurd (show false=true from h2) aci
        · rw[hK no] at e;cases e)
    have hM:Mod K mg (hidT s₁.heap (mq a o T q)):=⟨hKb,nsK hns,⟨mb,nsK hb,hbb⟩,let⟨mc,h1,h2⟩:=hlim;⟨mc,nsK h1,h2⟩⟩
    have nb:pq (hidT s₁.heap (mq a o T q)) mg c T:=by
      refine⟨?_,?_⟩
      · obtain⟨oc,v,file,tf,flags,tg,inF,text,tt,e1,e2,r⟩:=hC
        exact⟨oc,v,file,tf,flags,tg,inF,text,tt,base_of e1 (free e1 (by rw[e2];nofun) (by rw[e2];nofun)),e2,r⟩
      · obtain⟨bm,ob,b1,b2,b3,b4,r⟩:=hbm
        exact⟨bm,ob,b1,b2,base_of b3 (free b3 (by rw[b4];nofun) (by rw[b4];nofun)),b4,r⟩
    have e0:Env0 P w K mg (hidT s₁.heap (mq a o T q)) aej [] s₁ (mq a o T q):=⟨rfl,hM,fun b o e=>of_hidT e,Nat.le_of_eq (hidT_size _ _),trivial,fun b hb=>absurd (show b∈([]:List abX) from hb) (by simp),hok,.of_eq hg⟩
    refine aex ((F _ hKb (nsK hns) nb).run aej [] s₁ (mq a o T q) ⟨[.ref a],[]⟩ [.ref a] [.ref a] _ _ hr e0 (hbind s₁ (.ref a)) (.cons rfl .nil) (hsp _ tb hS)) fun r s' h=>?_
    cases r with
    |error e=>exact h.elim
    | ok fl =>
      cases fl with
      |next=>exact acL h
      |brk=>exact acL h
      |cont=>exact acL h
      | ret u =>
        obtain⟨v,H',os,bare,un,hok',r',z⟩:=h
        have z:v= .bl true:=z
        subst z
        obtain rfl:u=agc true:=r'
        have each:∀b o,s₁.heap.get? b=some o→s'.heap.get? b=some o∨(b=T∧o=PySem.W.tabObj #[]∧∃qs,s'.heap.get? b=some (PySem.W.tabObj qs)):=fun b ob e=>by
          cases z:mq a o T q b with
          |none=>exact .inl (un.keep b ob e z (by intro y;exact absurd (show b∈([]:List abX) from y) (by simp)) (by simp))
          | some y=>
            rcases hH b y z with⟨rfl,rfl⟩ |⟨rfl,rfl,_⟩
            · obtain⟨more,z2⟩:=un.tbls _ _ z
              obtain⟨qs,e2,_⟩:=hok' _ _ z2
              rw[hT] at e;cases e
              exact .inr ⟨rfl,rfl,qs,e2⟩
            · have z2:=un.frzs _ _ _ z
              obtain⟨e1,_⟩:=hok _ _ z
              obtain⟨e2,_⟩:=hok' _ _ z2
              rw[e] at e1;cases e1
              exact .inl e2
        refine⟨rfl,⟨fun b ob e=>?_,fun b ob e=>?_⟩,os,bare⟩
        · rcases each b ob e with z |⟨rfl,rfl,qs,z⟩
          · exact .inl z
          · exact .inr (.inl ⟨(hC.tab hT).isCodeTable,rfl,#[],qs,rfl,by rw[Array.empty_append];exact z⟩)
        · rcases each b ob e with z |⟨rfl,rfl,qs,z⟩
          · exact⟨_,z⟩
          · exact⟨_,z⟩
  cases hk:K.lookup a with
  | some o=>
    have e:=KX a o hk
    rw[ha] at e
    cases e
    exact core none (.inl rfl) (.inr ⟨_,vs.toArray,_,hk,rfl,rfl,rfl,by rw[af9,lenV];exact hl,by simpa using rv⟩) fun z=>absurd rfl z
  |none=>exact core _ (.inr rfl) (.inl (.inr ⟨_,(if_neg aT).trans (if_pos rfl)⟩)) fun _=>hk
def yI(K:PySem.W.Frag)(mg:Str->Option abY)(x:Str)(c:abX):Prop:=∀f oc od fd osl,mg x=some (.ref f)->K.lookup f=some ⟨oc,od,.func fd,osl⟩->fd.code= .ref c
theorem aa1{l:PySem.W.OpenLaw}{p:ab9}{loose:List Str}{XP:(Str->Option abY)->ace->Prop}{YP:acf->ace->Prop}{d:DefRec}{K:Params->PySem.W.Frag}{x q:Str}{FL:List D->R D}
  (hn:l.most=some n)(hn2:n<=sizeLine)(hdf:d.params.defaults=[])(hr:Room k aej)
  (hY:∀(w:acf) (h:ace),YP w h->(K w.params).In h)(hnt:∀w:acf,PySem.W.noTabs (K w.params)=true)(hrec:∃dy∈recsOf p,dy.name=y)
  (F:∀(w:acf) (mg:Str->Option abY) (fa:abX) (h:ace),(K w.params).In h->h.Ns ab5 mg->mg d.name=some (.ref fa)->
   ∃fd:acK,(∀(s:abZ) (u:abY),ae9 s fd ⟨[u],[]⟩ [(x,u)])/\
    ∀(base:ace) (c T:abX),(K w.params).In base->base.Ns ab5 mg->pq base mg c T->yI (K w.params) mg y c->FnOk l.prog w (K w.params) mg base CX0 k fa fd [x] (spT [(T,q)] (K w.params) 1 FL))
  (hL:∀ns:List Int,ns.length<=n->FL [.lst (ns.map D.int)]= .ok (.bl true)):
  PySem.W.WalkO p loose XP YP l.row.toRowW d [] (λf vs=>PySem.call f vs):=by
 refine Att.attach_call hn hdf λw s₀ s₁ mg mb fa o pm cd doc a vs ns G Y ho hd hcd hmg hobj hints hlen hg=>?_;have KX:=hY w _ Y;obtain⟨fd,hb,hF⟩:=F w mg fa _ KX G.T.g hmg;obtain⟨dy,Zk,rfl⟩:=hrec;obtain⟨f',o',fd',c,T,t1,t2,t3,t4,t5,t6⟩:=G.T.tab dy Zk;have hci:yI (K w.params) mg dy.name c:=λf oc od fd2 osl e1 e2=>by
  rw[t1] at e1;cases e1;have e3:=KX _ _ e2;rw[t2] at e3;cases e3;cases t3;exact t4
 exact TF (q:=q) KX G.T.g G.T.b G.T.builtins G.T.nolimit hg hobj hints (z0b hlen hn2) hr (PySem.W.CodeHd.of t5 t6) t6.2 (hnt w) G.T.bmain (λbase h1 h2 h3=>hF base c T h1 h2 h3 hci) hb λH tb hS=>⟨tb,sp_law hS (hL ns hlen)⟩
section
variable{X:Cx}{e lo hi:ab6}{f g:aB->R D}{fl fu:aB->R (Option Int)}{pos p2 p3 p4:Pos}
def X8(d:D)(lo hi:Option Int):R D:=match d with
 | .lst ds=> .ok (.lst (iY ds lo hi))
 |_=> .bad
def oG(f:aB->R D)(fl fu:aB->R (Option Int)):aB->R D:=λρ=>(f ρ).bind λd=>(fl ρ).bind λl=>(fu ρ).bind λu=>X8 d l u
theorem Ir{lo hi:Option ab6}(he:DE X e f)(hl:O7 X lo fl)(hu:O7 X hi fu):DE X (.Subscript e (.Slice lo hi none p2) pos) (oG f fl fu):=by
 refine PE.imp (pe_slice sl_list he hl hu) λσ H Q h=>?_;obtain⟨ρ,O,j,h⟩:=h;refine go j h λd v H1 e1 s1 r1 j1 h1=>?_;refine go j1 h1 λl l' H2 e2 s2 r2 j2 h2=>?_;refine go j2 h2 λu u' H3 e3 s3 r3 j3 h3=>?_;have r2:l=l':=r2;have r3:u=u':=r3;subst r2 r3;cases d with
 | lst ds=>
  have r1':=(r1.same s2).same s3;obtain⟨a,xs,rfl,hq,hn,rs⟩:=r1'.lst;have hlen:=rs.length;refine⟨a,xs,rfl,hq,λp hp=>?_⟩;refine h3 _ _ (Same.upd hp) (Rep.lZ hp (j3.uq hp) ?_);unfold iY cutV;rw[hlen];exact (rs.drop _).take _
 |_=>exact h3.elim
theorem Yb{kk}{te:TE}(he:PE X e te):PE X (.Subscript e (.Slice none none (some (.UnaryOp .USub (.Constant (.int 1) kk p3) p4)) p2) pos) (λσ H Q=>te σ H λx H1=>∃a xs,x= .ref a/\SqL X.K H1 a xs/\∀p,H1 p=none->Q (.ref p) (upd H1 p (.lst xs.reverse))):=by
 intro pins s σ H Q I h;refine Subscript_ (thn (he pins s σ H _ I h) λv s1 bC=>?_);obtain⟨x,H1,I1,r1,q1⟩:=bC;obtain⟨a,xs,rfl,hq,q⟩:=q1;cases r1;refine wpAny_Slice ?_;rw[evalPart_none,evalPart_some];refine ab1 (ab1 ?_);refine thn (pe_un (X:=X) un_neg pe_int pins s1 σ H1 (λy H2=>y= .int (-1)/\H2=H1) I1 ⟨1,rfl,rfl,rfl⟩) λvs s2 bC=>?_;obtain⟨y,H2,I2,r2,ey,eH⟩:=bC;subst ey;subst eH;obtain⟨t,rfl⟩:=r2;have I4:Inv X pins σ H2 {s2 with heap:=s2.heap.push {cls:= .type "slice",data:= .fields #[.none,.none,.int (-1) t]}}:=I2.kept (t':=s2.toks) λb ob q=>z1a _ q;obtain⟨its,rv,ht,hz⟩:=I4.list hq;have hlen:=rv.length;show ab4 (model X.prog X.w) X.A (subscriptTail e (.Slice none none (some (.UnaryOp .USub (.Constant (.int 1) kk p3) p4)) p2) (.ref a) (.ref s2.heap.objs.size)) (EP X pins σ Q) X.xe {s2 with heap:=s2.heap.push {cls:= .type "slice",data:= .fields #[.none,.none,.int (-1) t]}};refine tail_any (ops:=[.ref a,.ref s2.heap.objs.size]) ht.isList.typeIs slot_list_getitem.lookup (wpAny_getItem_list_slice ht.isList (agP ..) .none .none (.int (-1) t) (by simp) ?_ (by rw[z1c];omega)) (by with_unfolding_all rfl);rw[PySem.W.krv_pick];refine⟨.ref _,_,I4.laid (t':=s2.toks) (o:= .lst xs.reverse) (λb ob q=>z1a _ q) (z0g _) ?_,rfl,q _ (I4.hok.fresh (z0g _))⟩;exact⟨by rw[List.length_reverse];exact hz,its.reverse,0,Vals.rev rv,(by have e:its.toArray.toList.reverse=its.reverse:=(by simp);rw[e];exact z1f _ rfl)⟩
def aa2:D->R D
 | .lst ds=> .ok (.lst ds.reverse)
 |_=> .bad
def JZ(f:aB->R D):aB->R D:=λρ=>(f ρ).bind aa2
theorem Yc{kk}(he:DE X e f):DE X (.Subscript e (.Slice none none (some (.UnaryOp .USub (.Constant (.int 1) kk p3) p4)) p2) pos) (JZ f):=by
 refine PE.imp (Yb he) λσ H Q h=>?_;obtain⟨ρ,O,j,h⟩:=h;refine go j h λd v H1 e1 s1 r1 j1 h1=>?_;cases d with
 | lst ds=>
  obtain⟨a,xs,rfl,hq,hn,rs⟩:=r1.lst;exact⟨a,xs,rfl,hq,λp hp=>h1 _ _ (Same.upd hp) (Rep.lZ hp (j1.uq hp) rs.reverse)⟩
 |_=>exact h1.elim
def TJ(i:Nat)(f:aB->R D):aB->R D:=λρ=>match ρ[i]? with
 |some (some (.lst ds))=>(f ρ).bind λd=>bN (.lst ds) d
 |_=> .bad
theorem ZV(i:Nat){x:Str}{px:Pos}(hb:DE X e f)(hs:PlainIx e:=by exact λ_ _=>rfl)(hN:X.N[i]?=some x:=by rfl)(hv:Vis X.env.scope x:=by first |exact acZ rfl |exact acM (acZ rfl) |exact acM (acM rfl))
  (hd:(x ==("__debug__" :Str))=false:=by decide)(hcd:(x ==("__classdict__" :Str))=false:=by decide):DE X (.Subscript (.Name x px) e pos) (TJ i f):=by
 refine PE.imp (pe_ix ix_seq (pe_var hN hv hd hcd) hb hs) λσ H Q h=>?_;obtain⟨ρ,O,j,h⟩:=h;unfold TJ at h;split at h
 ·rename_i ds q;obtain⟨v,hv1,a,xs,rfl,hO,hH,rs⟩:=j.env.get i _ q;refine⟨.ref a,hv1,?_⟩;refine go j h λd y H1 e1 s1 r1 j1 h1=>?_;cases d with
  | int k=>
   have h':good X (rD X) O (match L2.atI ds k with |some d=>R.ok d |none=>R.bad) σ H1 Q:=h1;cases e2:L2.atI ds k with
   |none=>rw[e2] at h';exact h'.elim
   | some d=>
    rw[e2] at h';obtain⟨v,e3,rv⟩:=(rs.same s1).atI e2;exact .inl ⟨a,xs,k,v,rfl,r1.int,SqL.of (s1 _ _ hH),e3,fin h' rv⟩
  |_=>exact h1.elim
 ·exact h.elim
end
section
variable{X:Cx}{pos:Pos}
def K5(i k:Nat):aB->So:=λρ=>match ρ[i]?,ρ[k]? with
 |some (some (.lst ds)),some (some (.lst es))=>if ds.length<1000000 then .nx ((ρ.set i (some (.lst (ds++[.lst es])))).set k (some (.val (.lst es)))) else .bad
 |_,_=> .bad
theorem At.give{H0:Hp}(j:At X H0 O0 O H ρ σ){es:List D}{b:abX}(hk:ρ[k]?=some (some (.lst es)))(hb:σ[k]?=some (some (.ref b))):
  At X H0 O0 (λa=>O a/\a≠b) H (ρ.set k (some (.val (.lst es)))) σ/\fL X.K O H (λa=>O a/\a≠b) H:=by
 obtain⟨Zf,Zg⟩:=j.mine k _ b hk rfl hb;have rc:fL X.K O H (λa=>O a/\a≠b) H:=⟨⟨λ_ _ z=>z,λ_ _ _ z=>z⟩,λa z=> .inl z.1,λ_ z=>z⟩;have hkl:k<ρ.length:=(z1b hk).1;obtain⟨v,hv,b',xs,e1,hO,hH,rs⟩:=j.inn.env.get k _ hk;rw[hb] at hv;cases hv;cases e1;have un:∀{m:Nat} {x:Ent},(ρ.set k (some (.val (.lst es))))[m]?=some (some x)->x.own=true->ρ[m]?=some (some x):=λ{m x} h ho=>by
  by_cases hmk:m=k
  ·subst hmk;rw[z2a hkl] at h;cases h;cases ho
  ·rw[z1e (acd hmk)] at h;exact h
 refine⟨⟨j.same,j.eU.trans rc,λa z=>⟨j.sub a z,λe=>Zg (e▸z)⟩,⟨⟨λm e q=>?_,λm l e e' u hml hm hl om ol sm sl=>?_,λm l rows a rs' e u hml hm sm ha hl ol sl=>?_⟩,λa z=>j.inn.al a z.1,j.inn.len,by rw[adG];exact j.inn.jF⟩,λm e a q ho hs=>?_,λm rows a rs' q hs=>?_⟩,rc⟩
 ·by_cases hmk:m=k
  ·subst hmk;rw[z2a hkl] at q;cases q;exact⟨_,hb,lY (SqL.of hH) (λz=>z.2 rfl) (rs.go rc)⟩
  ·rw[z1e (acd hmk)] at q;obtain⟨v,q1,q2⟩:=j.inn.env.get m e q;refine⟨v,q1,?_⟩;have nb:e.own=true->v≠.ref b:=λoe z=>by subst z;exact j.inn.env.sep m k _ _ _ hmk q hk oe rfl q1 hb
   cases e with
   |val d=>exact Rep.go rc q2
   |obj t=>exact q2
   | rws rows=>
    obtain⟨a,rs',e2,R⟩:=q2;have Sy:σ[m]?=some (some (.ref a)):=by rw[<-e2];exact q1
    refine⟨a,rs',e2,R.at_,⟨R.oa,λz=>nb rfl (by rw[e2,z])⟩,R.nd,R.len,λn r row z1 z2=>?_⟩;obtain⟨o1,ys,z3,z4⟩:=R.row n r row z1 z2;exact⟨⟨o1,λz=>(j.inn.env.nP m k rows a rs' _ (.ref b) hmk q Sy R.at_ hk rfl hb).1 r (acy z1) (by rw[z])⟩,ys,z3,z4.go rc⟩
   | lst ds=>
    obtain⟨a,ys,e2,o2,h2,r2⟩:=q2;exact⟨a,ys,e2,⟨o2,λz=>nb rfl (by rw[e2,z])⟩,h2,r2.go rc⟩
   | xH kvs=>
    obtain⟨a,ys,e2,o2,h2,kk,r2⟩:=q2;exact⟨a,ys,e2,⟨o2,λz=>nb rfl (by rw[e2,z])⟩,h2,kk,r2.go rc⟩
 ·exact j.inn.env.sep m l e e' u hml (un hm om) (un hl ol) om ol sm sl
 ·exact j.inn.env.nP m l rows a rs' e u hml (un hm rfl) sm ha (un hl ol) ol sl
 ·by_cases hmk:m=k
  ·subst hmk;rw[z2a hkl] at q;cases q;cases ho
  ·rw[z1e (acd hmk)] at q;exact j.mine m e a q ho hs
 ·exact j.tR m rows a rs' (un q rfl) hs
theorem Yd(i k:Nat){x:Str}{px py apos cpos:Pos}(hik:i≠k)(hN:X.N[i]?=some x:=by rfl)(hNk:X.N[k]?=some y:=by rfl)(hv:Vis X.env.scope x:=by first |exact acZ rfl |exact acM (acZ rfl) |exact acM (acM rfl))(hvk:Vis X.env.scope y:=by first |exact acZ rfl |exact acM (acZ rfl) |exact acM (acM rfl))
  (hd:(x ==("__debug__" :Str))=false:=by decide)(hcd:(x ==("__classdict__" :Str))=false:=by decide)(hdk:(y ==("__debug__" :Str))=false:=by decide)(abD:(y ==("__classdict__" :Str))=false:=by decide)
  (hbase:af5 (.Name x px) "append" X.env (eval (.Name x px) X.env)=eval (.Name x px) X.env:=by rfl)
  (hfew:((acO cpos (ab2 [.Name y py] X.env)).all (λx=> !x.1) && (ae1 cpos (aea [] X.env)).all (λx=>x.1.isSome)
   && decide ([Expr.Name y py].length+([]:List ad0).length+(if ([]:List ad0).isEmpty then 0 else 1)<30))=true:=by rfl)
  (hline:(apos.endLine ==cpos.line)=true:=by rfl) (hs1:ab2 [.Name y py] X.env=(false,eval (.Name y py) X.env)::ab2 [] X.env:=by rfl) (hplain:(acO cpos (ab2 [] X.env)).any (·.1)=false:=by rfl)
  (hs:ae0 (.Call (.Attribute (.Name x px) "append" apos) [.Name y py] [] cpos) none pos.line X.env=pure false:=by rfl):
  DS X (.Expr (.Call (.Attribute (.Name x px) "append" apos) [.Name y py] [] cpos) pos) (K5 i k):=by
 refine PS.imp (ps_expr (pe_bm PySem.F.plainAttrs_list PySem.F.slot_list_append PySem.F.type_list_append mt_append (pe_var hN hv hd hcd) (pa_cons (pe_var hNk hvk hdk abD) pa_nil hs1) hbase hfew hline hs1 hplain) hs) λσ H E h=>?_;obtain⟨H0,O0,O,ρ,j,h⟩:=h;unfold K5 at h;split at h
 ·rename_i ds es q1 q2;by_cases hl:ds.length<1000000
  ·rw[if_pos hl] at h;obtain⟨v,hv1,a,xs,rfl,hO,hH,rs⟩:=j.inn.env.get i _ q1;obtain⟨v,hv2,b,ys,rfl,Zi,hH2,DP⟩:=j.inn.env.get k _ q2;have hab:a≠b:=λz=>j.inn.env.sep i k _ _ _ hik q1 q2 rfl rfl hv1 (by rw[z];exact hv2);refine⟨.ref a,hv1,.inl ⟨rfl,xs,SqL.of hH⟩,.ref b,hv2,?_⟩;have hlen:=rs.length;refine⟨a,xs,.ref b,rfl,rfl,hH,by have:=fJ;omega,?_⟩;obtain⟨j1,r1⟩:=j.give q2 hv2;have Sy:(ρ.set k (some (.val (.lst es))))[i]?=some (some (.lst ds)):=by rw[z1e (acd hik)];exact q1
   obtain⟨j2,r2⟩:=j1.chg (o:= .lst (xs++[.ref b])) (en:= .lst (ds++[.lst es])) Sy rfl hv1 ⟨hO,hab⟩ hH trivial rfl λr=>⟨a,xs++[.ref b],rfl,⟨hO,hab⟩,upd_same,by
    have z1:aO X.K (λc=>O c/\c≠b) H (ds++[.lst es]) (xs++[.ref b]):=(rs.go r1).append (.cons (lY (SqL.of hH2) (λz=>z.2 rfl) (DP.go r1)) .nil);exact z1.go r⟩
   rw[List.set_comm _ _ (acd hik)] at j2;exact h _ _ _ j2 (r1.trans r2)
  ·rw[if_neg hl] at h;exact h.elim
 ·exact h.elim
end
section
open PySem
theorem Q6(l b:abX)(items:Array abY)(n:Nat)(items2:Array abY)(n2:Nat)(dd:Option abX)(sl:Array (Option abY))(hs0:¬(!items.isEmpty && aeg (items.size+items2.size))=true)(hs1:items.size<=sizeLine)(hs2:items.size+items2.size<=sizeLine+1):
  Meets (adu.«list.__iadd__» ⟨[.ref l,.ref b],[]⟩) (λ_ R s=>s.heap.get? l=some {cls:= .type "list",dict:=none,data:= .seq items n,slots:= #[]}/\s.heap.get? b=some {cls:= .type "list",dict:=dd,data:= .seq items2 n2,slots:=sl}/\R (.ok (.ret (ab8 l))) {s with heap:=s.heap.update l (adb λx=>x++items2),toks:=s.toks}):=
 .of_wp λprog w A R s h=>by
  obtain⟨hp,g,d,tk,os⟩:=s;obtain⟨hl,hb,h⟩:=h;have f1:=afq;have f2:=AutoSeq1.sub_tuple_tuple;have f3:=AutoSeq1.sub_list_list;have f4:=AutoSeq1.sub_tuple_list;have f5:=AutoSeq1.sub_list_tuple;
  have hz':(items++items2).size<=sizeLine+1:=by rw[Array.size_append];exact hs2
  wp_walk using (aeX hl rfl (hz:=hs1) (_hz':=hz')),ada hl,ada hb;exact⟨_,rfl,h⟩
end
section
variable{X:Cx}{e:ab6}{f:aB->R D}{pos:Pos}
theorem Ye:PIp X .Add (λx y H Q=>∃a b xs ys,x= .ref a/\y= .ref b/\H a=some (.lst xs)/\SqL X.K H b ys/\xs.length+ys.length<=1000000/\Q (.ref a) (upd H a (.lst (xs++ys)))):=by
 intro pins s σ H x y v u Q I rx ry h;obtain⟨a,b,xs,ys,rfl,rfl,ha,hb,hz,q⟩:=h;cases rx;cases ry;obtain⟨its,n,r,ho,hzl⟩:=I.lst ha;obtain⟨its2,r2,p2,hz2⟩:=I.list hb;obtain⟨⟨cls2,dd2,data2,sl2⟩,ho2,hc2,n2,hd2⟩:=id p2.isList;simp only at hc2 hd2;subst hc2 hd2;have l1:=r.length;have l2:=r2.length;have hsl:=fJ;have hT:s.TypeIs (.ref a) "list" :=⟨_,ho,rfl⟩;have hT2:s.TypeIs (.ref b) "list" :=⟨_,ho2,rfl⟩;unfold inplaceOp;refine adD ?_;have hfi:fillsInplaceSlot (.type "list") "add" (Operator.Add == .Add)=pure false:=by
  unfold fillsInplaceSlot;show (typeLookup (.type "list") (dunderI "add") >>=λfi=>pure (fi.isSome && !isSeqSlot fi))=pure false;rw[PySem.F.slot_list_iadd.lookup,pure_bind,show isSeqSlot (some (.builtin "list.__iadd__"))=true from by decide +kernel];rfl
 refine abW (agr hT (abW (adY hfi ?_)));show ab4 _ _ (if false=true then _ else _) _ _ s;rw[if_neg aci];refine abW (binaryOp1_none (nm:= "add") hT hT2 PySem.noFill_list_add ?_);refine abW (adY (PySem.seqSlot_of (T:= "list") (name:=dunderI "add") (id:= "list.__iadd__") PySem.F.slot_list_iadd.lookup (by decide +kernel)) ?_);refine abW (ad6 ?_);refine ad8 PySem.F.slot_list_iadd hT PySem.F.entry_list_iadd (PySem.F.args_list_iadd_2 _ _) (Q6 a b its.toArray n its2.toArray n2 dd2 sl2 ?_ (by rw[z1c];omega) (by rw[z1c,z1c];omega)) ⟨ho,ho2,?_⟩
 ·rw[z1c,z1c];have:aeg (its.length+its2.length)=false:=by unfold aeg;exact decide_eq_false (by omega)
  rw[this];simp
 ·refine⟨.ref a,upd H a (.lst (xs++ys)),I.lset (its':=its++its2) ha ho (by simp) (r.append r2) (by rw[z1d];omega),rfl,q⟩
def CG(i:Nat)(f:aB->R D):aB->So:=λρ=>match ρ[i]? with
 | some (some (.lst ds))=>jC (J9 (f ρ)) ρ λd=>match d with
  | .lst es=>if ds.length+es.length<=1000000 then .nx (ρ.set i (some (.lst (ds++es)))) else .bad
  |_=> .bad
 |_=> .bad
theorem PN(i:Nat){x:Str}(hN:X.N.Nodup)(he:DE X e f)(hi:X.N[i]?=some x:=by rfl)(hx:Loc X.env.scope x:=by first |exact acZ rfl |exact acM rfl)
  (hf:X.fn x=true\/X.env.scope.names.lookup x=some .local:=by first |exact .inl rfl |exact .inr rfl):DS X (.AugAssign (.Name x pos') .Add e pos) (CG i f):=by
 refine PS.imp (ps_aug hN hi hx he Ye hf) λσ H E h=>?_;obtain⟨H0,O0,O,ρ,j,h⟩:=h;unfold CG at h;split at h
 ·rename_i ds q;obtain⟨v,hv1,a,xs,rfl,hO,hH,rs⟩:=j.inn.env.get i _ q;refine⟨.ref a,hv1,ρ,O,j.inn,?_⟩;unfold jC at h;cases e1:f ρ with
  |bad=>rw[e1] at h;exact h.elim
  |err c=>rw[e1] at h;exact h.elim
  | ok d =>
   rw[e1] at h;intro w H1 s1 Zh;cases d with
   | lst es=>
    have h:vJ X H0 O0 O H E (if ds.length+es.length<=1000000 then .nx (ρ.set i (some (.lst (ds++es)))) else .bad):=h;by_cases hl:ds.length+es.length<=1000000
    ·rw[if_pos hl] at h;have j1:=j.grow s1;obtain⟨b,ys,rfl,hb,hnb,DP⟩:=Zh.lst;have rs1:=rs.same s1;have hH1:=s1 _ _ hH;refine⟨a,b,xs,ys,rfl,rfl,hH1,hb,by rw[<-rs1.length,<-DP.length];exact hl,?_⟩;obtain⟨j2,r2⟩:=j1.chg (o:= .lst (xs++ys)) (en:= .lst (ds++es)) q rfl hv1 hO hH1 trivial rfl λr=>⟨a,xs++ys,rfl,hO,upd_same,(rs1.append DP).go r⟩;have eσ:σ.set i (some (V.ref a))=σ:=by
      apply afh;intro m;by_cases hm:m=i
      ·subst hm;rw[z2a (z1b hv1).1,hv1]
      ·rw[z1e (acd hm)]
     rw[eσ];exact h _ _ _ j2 ((Same.eU s1).trans r2)
    ·rw[if_neg hl] at h;exact h.elim
   |_=>exact h.elim
 ·exact h.elim
end
def Its(lo:Int)(n:Nat)(c:Int):It:=⟨λi _=>i<n,λi H x H'=>H'=H/\x= .int (lo+i*c),λi _=>n<=i⟩
theorem TQ(it:abX)(lo:Int)(n:Nat)(c:Int):Turn P w K tg (Its lo n c) [it] it (λi h=>afR h it (lo+(i:Nat)*c) ((n:Int) - (i:Nat)) c) where
 mem:=by simp
 obj :=λi h st b hb=>by
  have e:b=it:=by simpa using hb
  subst e;exact⟨_,st,λv z=>by
   have z':agD _=afV v:=z;cases z'⟩
 keep:=λi h h' st k=>k it (by simp) _ st
 item:=by
  intro X hP hw hK hc i pins s σ H E I hf st hg;subst hP hw hK;obtain⟨f0,f1,f2,f3,f4,f5⟩:=hf it (by simp);have W:=Walks.range (prog:=X.prog) (w:=X.w) (I.ok.hd hc) it lo c n;refine W.item i s _ _ hg st λv h' tk hv st' kk=>?_;obtain⟨t,rfl⟩:=hv;have I1:Inv X pins σ H {s with heap:=h',toks:=tk}:=I.turned (λb o hb e=>kk b o (by simpa using hb) e) f0 f1 f3 f4 f5;exact⟨_,rfl,go_of (s:={s with heap:=h',toks:=tk}) (n:= "range_iterator") st' rfl rfl (by decide) ⟨.int (lo+i*c),H,I1,⟨t,rfl⟩,⟨rfl,rfl⟩,st',λb hb=>(hf b hb).1⟩⟩
 done:=by
  intro X hP hw hK hc i pins s σ H E I hf st hg;subst hP hw hK;obtain⟨f0,f1,f2,f3,f4,f5⟩:=hf it (by simp);exact wpAny_pyNext_range_end (I.ok.hd hc) st (by have:n<=i:=hg;omega) λh' eb=>⟨rfl,I.turned (t':=s.toks) (λb o hb e=>eb b o hb e) f0 f1 f3 f4 f5⟩
 self:=λ_ _ _ _ _ st h=>afk st h
def yJ(hi:Int)(n:Nat):List D:=(ab0 n).map λ(i:Nat)=>D.int (hi - (i:Int))
theorem YR.step(hi:Int)(n:Nat):YR K O H (Its hi n (-1)) (yJ hi n):=by
 intro O' H' _;intro i;refine⟨λd e=>?_,λe=>?_⟩
 ·unfold yJ at e;rw[z2b] at e;cases q:(ab0 n)[i]? with
  |none=>rw[q] at e;cases e
  | some k=>
   rw[q] at e;have hk:i<n/\i=k:=by simpa[acv] using (z1b q)
   obtain⟨h1,rfl⟩:=hk;cases e;refine⟨h1,λx H2 y=>?_⟩;obtain⟨rfl,rfl⟩:=y;exact⟨Same.refl _,by rw[show hi+(i:Int)*(-1)=hi - (i:Int) by omega];exact cg _⟩
 ·show n<=i;unfold yJ at e;simpa using e
section
variable{X:Cx}{tg a b c:ab6}{p pos p2 pos2:Pos}{fa:aB->R (List D)}{ta:TA}
def abM:List D->R (List D)
 |[.int i,.int j,.int k]=>if k= -1/\-(2^62)<=i/\i<2^62/\-(2^62)<=j/\j<2^62 then .ok (yJ i (i - j).toNat) else .bad
 |_=> .bad
end
section
variable{prog:ab9}{w:acf}{A:acg}{E:abY->abZ->Prop}{s:abZ}
theorem Er(r:abX)(j:Int)(t u v:Tok)(h0:0<=j)(h1:j<=1000):Meets (adu.«range.__reversed__» ⟨[.ref r],[]⟩) (λ_ R s=>IsRange s.heap r 0 j 1 t u v/\R (.ok (.ret (.ref s.heap.objs.size))) {s with heap:=s.heap.push {cls:= .type "range_iterator",data:= .fields #[acQ (j - 1),acQ j,acQ (-1)]}}):=
 .of_wp λprog w A R s h=>by
  obtain⟨hp,g,d,tk,os⟩:=s;obtain⟨hr,h⟩:=h;have e1:afc 0 j 1=j:=by rw[rangeSize_one];split <;> omega
  have e2:(ac3 0 && ac3 j && ac3 1 && ac3 (-1) && ac3 (0 - 1) && ac3 j)=true:=by
   simp only[ac3,acY,decide_eq_true_eq];omega
  have e3:(0:Int)+(j - 1)*1=j - 1:=by omega
  unfold adu.«range.__reversed__» Builtin.Range.rangeFields
  wp_walk using ada hr
  rw[e1];simp only[e2,e3,aeH,acP,if_false,if_true];unfold newFields;refine abW (ac5 (ab1 ⟨_,rfl,h⟩) (by size_fits))
theorem Es:isSubtype (.type "range_iterator") (.type "reversed")=pure false:=by rw[isSubtype_type];kernel_rfl
theorem GJ{r:abX}{j:Int}{t u v:Tok}{Q₁:abY->abZ->Prop}(h0:0<=j)(h1:j<=1000)(hr:IsRange s.heap r 0 j 1 t u v)
  (h:Q₁ (.ref s.heap.objs.size) {s with heap:=s.heap.push {cls:= .type "range_iterator",data:= .fields #[acQ (j - 1),acQ j,acQ (-1)]}}):
  aeI (model prog w) A (.call (.builtin "reversed.__new__") ⟨[.type "reversed",.ref r],[]⟩) (wants Q₁ E) s:=by
 have hT:s.TypeIs (.ref r) "range" :=⟨_,hr,rfl⟩;refine codeAny_of_tree ?_;show ab4 _ A.in1 (do checkBuiltinCall "reversed.__new__" ⟨[.type "reversed",.ref r],[]⟩;again (.builtin "reversed.__new__" ⟨[.type "reversed",.ref r],[]⟩)) _ _ s;refine abW (adY (PySem.F.newCall_reversed_1 _) (ab1 ⟨afl PySem.F.plain_reversed_new _,afJ PySem.F.entry_reversed_new ?_⟩));rw[aeC PySem.F.plain_reversed_new _];unfold adu.«reversed.__new__»;refine abW (adY (newClass_reversed _) ?_)
 try dsimp only
 refine abW (adY (a:=()) (by first |rfl |kernel_rfl) ?_);refine abW (adY (a:=()) (by first |rfl |kernel_rfl) ?_)
 try dsimp only
 refine abW (wpAny_specialOf hT PySem.F.slot_range_reversed.lookup ?_)
 try dsimp only
 refine abW (adY (PySem.F.slot_range_reversed.bind _) ?_)
 try dsimp only
 first
 |rw[if_neg (show ¬((adI "range.__reversed__" ==aco)=true) from aci)]
 |(show ab4 _ _ (if (adI "range.__reversed__" ==aco)=true then _ else _) _ _ _;rw[if_neg (show ¬((adI "range.__reversed__" ==aco)=true) from aci)])
 refine abW (ad6 ?_);refine abW (m:=runValue (.call (.builtin "range.__reversed__") ⟨[.ref r],[]⟩)) (show ab4 _ _ (call (.builtin "range.__reversed__") [.ref r]) _ _ _ from ad8 PySem.F.slot_range_reversed hT PySem.F.entry_range_reversed (PySem.F.args_range_reversed_1 _) (Er r j t u v h0 h1) ⟨hr,?_⟩)
 first
 |exact ab1 h
 |exact abW (ab1 (ab1 h))
theorem GK{r:abX}{j:Int}{t u v:Tok}(h0:0<=j)(h1:j<=1000)(hr:IsRange s.heap r 0 j 1 t u v)
  (h:Q (.ref s.heap.objs.size) {s with heap:=s.heap.push {cls:= .type "range_iterator",data:= .fields #[acQ (j - 1),acQ j,acQ (-1)]}}):ab4 (model prog w) A (call (.type "reversed") [.ref r]) Q E s:=by
 refine callType_other (U:= "range_iterator") (Q₁:=λobj s₁=>obj= .ref s.heap.objs.size/\s₁={s with heap:=s.heap.push {cls:= .type "range_iterator",data:= .fields #[acQ (j - 1),acQ j,acQ (-1)]}}) (by decide +kernel) PySem.F.create_reversed ⟨_,_,PySem.F.mro_reversed⟩ PySem.F.made_reversed Es (PySem.F.typeCall_reversed_1 _) (GJ h0 h1 hr ⟨rfl,rfl⟩) ?_
 rintro obj s₁ ⟨rfl,rfl⟩
 exact⟨⟨_,z1f _ rfl,rfl⟩,h⟩
end
section
variable{X:Cx}{tg a:ab6}{p pos p2 pos2:Pos}{fa:aB->R (List D)}
def K6:List D->R (List D)
 |[.int j]=>if 0<=j/\j<=1000 then .ok (yJ (j - 1) j.toNat) else .bad
 |_=> .bad
theorem Yg(hg:Gl X "reversed")(hm:X.mg "reversed" =none)(hg2:Gl X "range")(hm2:X.mg "range" =none)(ha:DA X [a] fa)(hs:ab2 [a] X.env=[(false,eval a X.env)]:=by rfl)
  (he:ab2 [.Call (.Name "range" p2) [a] [] pos2] X.env=(false,eval (.Call (.Name "range" p2) [a] [] pos2) X.env)::ab2 [] X.env:=by rfl)(hpl:(acO pos (ab2 [] X.env)).any (·.1)=false:=by rfl):
  DI X tg (.Call (.Name "reversed" p) [.Call (.Name "range" p2) [a] [] pos2] [] pos) (λρ=>(fa ρ).bind K6):=by
 intro pins s σ H R I h;have A:=pa_cons (Zy (p:=p2) (pos:=pos2) hg2 hm2 ha hs) pa_nil he;obtain⟨ρ,O,jn,h⟩:=h;have key:tCons (Zx X.K (tG X (Du X) fa)) tNil σ H (λvs H1=>∃q j,vs=[.ref q]/\H1 q=some (.rng 0 j)/\0<=j/\j<=1000/\R (Its (j - 1) j.toNat (-1)) H1):=by
  refine go jn h λds vs H1 e1 s1 r1 j1 h1=>?_;unfold K6 at h1;split at h1
  ·rename_i j;by_cases hh:0<=j/\j<=1000
   ·rw[if_pos hh] at h1;obtain⟨v,rfl,w⟩:=r1.one;exact⟨j,by rw[w.int],hh.1,hh.2,λq hq=>⟨q,j,rfl,upd_same,hh.1,hh.2,h1 _ _ (Same.upd hq) (YR.step _ _)⟩⟩
   ·rw[if_neg hh] at h1;exact h1.elim
  ·exact h1.elim
 refine Call_ (ld_blt I hg hm boot_reversed (ac2 (thn (A pos pins s σ H _ I key) λus s1 ⟨vs,H1,I1,r1,q1⟩=>?_) he hpl));obtain⟨q,j,e,hq,h0,h1,q⟩:=q1;subst e;cases r1 with
 | cons r rr=>
  cases rr;cases r;obtain⟨t,u,v,hr⟩:=I1.hok _ _ hq;refine GK h0 h1 hr ?_;have hit:afR (s1.heap.push {cls:= .type "range_iterator",data:= .fields #[acQ (j - 1),acQ j,acQ (-1)]}) s1.heap.objs.size (j - 1) j (-1):=z1f _ rfl;refine afk (s:={s1 with heap:=s1.heap.push {cls:= .type "range_iterator",data:= .fields #[acQ (j - 1),acQ j,acQ (-1)]}}) hit ?_;refine⟨s1.heap.objs.size,[s1.heap.objs.size],_,_,H1,rfl,I1.kept (t':=s1.toks) λb o e=>z1a _ e,TQ _ (j - 1) j.toNat (-1),?_,λb hb=>?_,q⟩
  ·show afR _ _ (j - 1+((0:Nat):Int)*(-1)) (((j.toNat:Nat):Int) - ((0:Nat):Int)) (-1);rw[show j - 1+((0:Nat):Int)*(-1)=j - 1 by simp,show ((j.toNat:Nat):Int) - ((0:Nat):Int)=j by omega];exact hit
  ·have e:b=s1.heap.objs.size:=by simpa using hb
   subst e;exact I1.fpOk (z0g _) (I1.hok.fresh (z0g _))
end
end Pu
namespace Pu
open PySem PySem.Spec PySem.W L2
open PyProof.Rows hiding St
variable{a:abX}{ts:List (List Int)}{ns:List Int}
def bO:List Int->List Int->Bool
 |[],[]=>false
 |[],_::_=>true
 |_::_,[]=>false
 |x::xs,y::ys=>if x=y then bO xs ys else decide (x<y)
theorem ig:∀a:List Int,bO a a=false
 |[]=>rfl
 |x::xs=>by rw[bO,if_pos rfl];exact ig xs
theorem gC:∀{a b c:List Int},bO a b=true->bO b c=true->bO a c=true
 |[],[],_,h,_=>by cases h
 |[],_::_,[],_,h=>by cases h
 |[],_::_,_::_,_,_=>rfl
 |_::_,[],_,h,_=>by cases h
 |_::_,_::_,[],_,h=>by cases h
 | x ::a,y::b,z::c,h1,h2=>by
  rw[bO] at h1 h2 |-;by_cases e1:x=y
  ·rw[if_pos e1] at h1;subst e1;by_cases e2:x=z
   ·rw[if_pos e2] at h2 |-;exact gC h1 h2
   ·rw[if_neg e2] at h2 |-;exact h2
  ·rw[if_neg e1] at h1;have h1:x<y:=of_decide_eq_true h1;by_cases e2:y=z
   ·subst e2;rw[if_neg e1];exact decide_eq_true h1
   ·rw[if_neg e2] at h2;have h2:y<z:=of_decide_eq_true h2;rw[if_neg (by omega)];exact decide_eq_true (by omega)
theorem qZ:∀{a b:List Int},a≠b->bO a b=false->bO b a=true
 |[],[],h,_=>absurd rfl h
 |[],_::_,_,h=>by cases h
 |_::_,[],_,_=>rfl
 | x ::a,y::b,h,e=>by
  rw[bO] at e |-;by_cases e1:x=y
  ·subst e1;rw[if_pos rfl] at e |-;exact qZ (λz=>h (by rw[z])) e
  ·rw[if_neg e1] at e;rw[if_neg (λz=>e1 z.symm)];have e:¬x<y:=of_decide_eq_false e;exact decide_eq_true (by omega)
section
variable{prog:ab9}{w:acf}{A:acg}{E:abY->abZ->Prop}{s:abZ}
theorem Ny{b:abX}{oa ob:Obj}{xs ys:Array abY}{na nb:Nat}{ms:List Int}{P:PySem.Fin->abZ->Prop}(hoa:s.heap.get? a=some oa)(hda:oa.data= .seq xs na)(hob:s.heap.get? b=some ob)(hcb:ob.cls= .type "tuple")(hdb:ob.data= .seq ys nb)
  (hia:adV xs.toList ns)(hib:adV ys.toList ms)(h:P (.done (.ret (.bool (bO ns ms)))) s):
  ab4 (model prog w) A (adu.«tuple.__lt__» ⟨[.ref a,.ref b],[]⟩) P E s:=by
 have hTb:s.TypeIs (.ref b) "tuple" :=⟨ob,hob,hcb⟩;show ab4 _ _ (isInstance (.ref b) (.type "tuple") >>=_) _ _ s;refine abW (afr hTb isSubtype_tuple_tuple ?_);simp only[aeH,acP,if_false];refine abW (ae3 hoa hda ?_);refine abW (ae3 hob hdb ?_);refine abW ?_;refine wpAny_forIn_list _
  (λrest r s'=>r.1=none/\s'=s/\∃xs' ys' ns' ms',rest=List.zip xs' ys'/\adV xs' ns'/\adV ys' ms'/\bO ns' ms'=bO ns ms/\decide (xs'.length<ys'.length)=decide (xs.size<ys.size))
  _ ?_ ?_ _ _ ⟨rfl,rfl,xs.toList,ys.toList,ns,ms,rfl,hia,hib,rfl,by simp⟩
 ·rintro ⟨u,v⟩ rest r s' ⟨hr,rfl,xs',ys',ns',ms',hz,hx',hy',hdec,hlen⟩
  cases hx' with
  |nil=>simp at hz
  | cons k1 t1 hx''=>
   cases hy' with
   |nil=>simp at hz
   | cons k2 t2 hy''=>
    simp only[afY,agC,agL] at hz;obtain⟨⟨rfl,rfl⟩,rfl⟩:=hz;refine abW (agi ?_);rw[bO] at hdec;by_cases hk:k1=k2
    ·subst hk;rw[if_pos rfl] at hdec;simp only[beq_self_eq_true,aeH,acP,if_false];exact ab1 ⟨rfl,rfl,_,_,_,_,rfl,hx'',hy'',hdec,by simpa using hlen⟩
    ·rw[if_neg hk] at hdec;have e:(k1 ==k2)=false:=by simpa using hk
     rw[e];simp only[Bool.not_false,if_true];rw[<-hdec] at h;refine abW (ad6 ?_);refine abW (m:=aeK .Lt (.int k1 t1) (.int k2 t2)) (show ab4 _ _ (acr .Lt (.int k1 t1) (.int k2 t2)) _ _ _ from lt_int ?_)
     first
      |exact ab1 (ab1 h)
      |exact abW (ab1 (ab1 (ab1 h)))
      |exact abW (ab1 (ab1 h))
 ·rintro⟨r1,r2⟩ s' ⟨hr,rfl,xs',ys',ns',ms',hz,hx',hy',hdec,hlen⟩
  simp only at hr;subst hr;refine ab1 ?_;have hfin:decide (xs.size<ys.size)=bO ns ms:=by
   rw[<-hdec,<-hlen];cases hx' with
   | nil=>
    cases hy' with
    |nil=>rfl
    |cons _ _ _=>simp[bO]
   | cons _ _ _=>
    cases hy' with
    |nil=>simp[bO]
    |cons _ _ _=>simp at hz
  show P (.done (.ret (.bool (decide (xs.size<ys.size))))) s';rw[hfin];exact h
theorem PX{b:abX}{oa ob:Obj}{xs ys:Array abY}{na nb:Nat}{ms:List Int}{Q:abY->abZ->Prop}(hu:A.units<adn)(hoa:s.heap.get? a=some oa)(hca:oa.cls= .type "tuple")(hda:oa.data= .seq xs na)(hob:s.heap.get? b=some ob)(hcb:ob.cls= .type "tuple")(hdb:ob.data= .seq ys nb)
  (hia:adV xs.toList ns)(hib:adV ys.toList ms)(h:Q (.bool (bO ns ms)) s):ab4 (model prog w) A (acr .Lt (.ref a) (.ref b)) Q E s:=by
 show ab4 _ _ (aeK .Lt (.ref a) (.ref b)) _ _ _;exact aeB (op:= .Lt) ⟨oa,hoa,hca⟩ ⟨ob,hob,hcb⟩ PySem.F.slot_tuple_lt
   (acT PySem.F.slot_tuple_lt ⟨oa,hoa,hca⟩ PySem.F.entry_tuple_lt (Ny hoa hda hob hcb hdb hia hib ⟨_,rfl,(λe=>nomatch e),h⟩) (PySem.F.args_tuple_lt_2 _ _)) hu
end
section
variable{X:Cx}
end
def CJ(p:List Int):List (List Int)->List (List Int)
 |[]=>[p]
 |q::r=>if bO p q then p::q::r else q::CJ p r
def dZ:List (List Int)->List (List Int)
 |[]=>[]
 |p::r=>CJ p (dZ r)
theorem yK(p:List Int):∀l,(CJ p l).Perm (p::l)
 |[]=> .refl _
 | q::r=>by
  unfold CJ;split
  ·exact .refl _
  ·exact ((yK p r).cons q).trans (List.Perm.swap p q r)
theorem eG:∀l,(dZ l).Perm l
 |[]=> .refl _
 |p::r=>(yK p _).trans ((eG r).cons p)
abbrev Et(l:List (List Int)):Prop:=l.Pairwise λa b=>bO a b=true
theorem Iu(p:List Int):∀{l:List (List Int)},Et l->p∉l->Et (CJ p l)
 |[],_,_=>by unfold CJ;simp
 | q ::r,h,hn=>by
  obtain⟨h1,h2⟩:=adN.mp h;unfold CJ;by_cases e:bO p q=true
  ·rw[if_pos e];refine adN.mpr ⟨λz hz=>?_,h⟩;rcases ach.mp hz with z1 |z1
   ·rw[z1];exact e
   ·exact gC e (h1 z z1)
  ·rw[if_neg e];have e2:bO q p=true:=qZ (λz=>hn (by rw[z];exact acq)) (by simpa using e);refine adN.mpr ⟨λz hz=>?_,Iu p h2 λz=>hn (z2f _ z)⟩;rcases ach.mp ((yK p r).mem_iff.mp hz) with z1 |z1
   ·rw[z1];exact e2
   ·exact h1 z z1
theorem tY:∀{l:List (List Int)},l.Nodup->Et (dZ l)
 |[],_=> .nil
 | p::r,h=>by
  obtain⟨h1,h2⟩:=aeN.mp h;exact Iu p (tY h2) λz=>h1 ((eG r).mem_iff.mp z)
theorem Eu:∀{a b:List (List Int)},a.Perm b->Et a->Et b->a=b
 |[],b,p,_,_=>(List.nil_perm.mp p).symm
 |x::a,[],p,_,_=>absurd (List.perm_nil.mp p) (by simp)
 | x :: a,y::b,p,ha,hb=>by
  have ha':=adN.mp ha;have hb':=adN.mp hb;have h1:x=y:=by
   rcases ach.mp (p.mem_iff.mp (acq (a:=x) (l:=a))) with h |h
   ·exact h
   ·rcases ach.mp (p.mem_iff.mpr (acq (a:=y) (l:=b))) with k |k
    ·exact k.symm
    ·have:=gC (ha'.1 y k) (hb'.1 x h);rw[ig] at this;cases this
  subst h1;rw[Eu ((List.perm_cons x).mp p) ha'.2 hb'.2]
theorem Q7(hn:ts.Nodup){a b:Nat}(ha:a<ts.length)(hb:b<ts.length)(hab:a≠b):ts.getD a []≠ts.getD b []:=by
 simp only[aeA,ac0 ha,ac0 hb,agt];intro z;exact hab ((agk hn).mp z)
theorem P0(hn:ts.Nodup):Ord ts.length (λi j=>bO (ts.getD i []) (ts.getD j [])):=
 ⟨λa b c _ _ _ h1 h2=>gC h1 h2,λa b ha hb hab h=>qZ (Q7 hn ha hb hab) h⟩
theorem yL(hn:ts.Nodup){q:Array Nat}(h:Pm ts.length q)(hs:S (λi j=>bO (ts.getD i []) (ts.getD j [])) q ts.length):q.toList.map (λi=>ts.getD i [])=dZ ts:=by
 refine Eu ?_ ?_ (tY hn)
 ·have e:(ab0 ts.length).map (λi=>ts.getD i [])=ts:=by
   apply afh;intro i;by_cases hi:i<ts.length
   ·simp[hi]
   ·simp[hi]
  have:=h.perm.map λi=>ts.getD i [];rw[e] at this;exact this.trans (eG ts).symm
 ·refine List.pairwise_iff_getElem.mpr λi j hi hj hij=>?_;have hl:(q.toList.map λi=>ts.getD i []).length=ts.length:=by simp[h.size]
  have:=hs i j hij (by rw[<-hl];exact hj);have e:∀(k:Nat) (hk:k<(q.toList.map λi=>ts.getD i []).length),(q.toList.map λi=>ts.getD i [])[k]=ts.getD (q.getD k 0) []:=λk hk=>by
   have hk':k<q.size:=by simpa using hk
   simp[agK,hk']
  rw[e i hi,e j hj];exact this
section
variable{prog:ab9}{w:acf}{A:acg}{E:abY->abZ->Prop}{s:abZ}
inductive gK (h:ace) (a:abX) (l c:Int) (ps:List Int):Prop
 |mk (o o2:Obj) (n n2:Nat) (t u:Tok) (p:abX) (vs:Array abY) (h1:h.get? a=some o) (h2:o.cls= .type "tuple") (h3:o.data= .seq #[.int l t,.int c u,.ref p] n) (h4:h.get? p=some o2) (h5:o2.cls= .type "tuple") (h6:o2.data= .seq vs n2) (h7:adV vs.toList ps):gK h a l c ps
theorem gK.keeps{h h':ace}{l c:Int}{ps:List Int}(x:gK h a l c ps)(k:∀b o,h.get? b=some o->o.cls= .type "tuple"->h'.get? b=some o):gK h' a l c ps:=
 by
 obtain⟨o,o2,n,n2,t,u,p,vs,h1,h2,h3,h4,h5,h6,h7⟩:=x;exact⟨o,o2,n,n2,t,u,p,vs,k _ _ h1 h2,h2,h3,k _ _ h4 h5,h5,h6,h7⟩
theorem rT{prog:ab9}{w:acf}:∀{vs:List abY} {ns:List Int},adV vs ns->ItemsAre (intKind prog w) ns vs
 |_,_,.nil=> .nil
 |_,_,.cons n t h=> .cons (intKind_is _ _ _ _) (rT h)
theorem Yh{x y:abX}{l c l' c':Int}{ps qs:List Int}{Q:Bool->abZ->Prop}(hu:A.units<adn)(hx:gK s.heap x l c ps)(hy:gK s.heap y l' c' qs)(h:Q (bO (l::c::ps) (l'::c'::qs)) s):
  ab4 (model prog w) A (keyLt' (tuples' true) (.ref x) (.ref y)) Q E s:=by
 obtain⟨o,o2,n,n2,t,u,p,vs,h1,h2,h3,h4,h5,h6,h7⟩:=hx;obtain⟨o',o2',n',Xb,t',u',p',vs',g1,g2,g3,g4,g5,g6,g7⟩:=hy;refine kat_lt h1 h3 g1 g3 ?_;show KatLex prog w A true (decide (3<3)) Q [(.int l t,.int l' t'),(.int c u,.int c' u'),(.ref p,.ref p')] 0 s;rw[bO,bO] at h;refine kat_cons (ae2 l t l' t' prog w _ _ ?_);by_cases e1:l=l'
 ·rw[if_pos e1] at h;rw[show (l ==l')=true by simpa using e1];refine kat_yes (kat_cons (ae2 c u c' u' prog w _ _ ?_));by_cases e2:c=c'
  ·rw[if_pos e2] at h;rw[show (c ==c')=true by simpa using e2];refine kat_yes (kat_cons (wpAny_eqBool_tuple (knd:=intKind prog w) hu ⟨o2,vs,n2,h4,h5,h6,rT h7⟩ ⟨o2',vs',Xb,g4,g5,g6,rT g7⟩ ?_));by_cases e3:ps=qs
   ·rw[e3,ig] at h;rw[decide_eq_true e3];exact kat_yes (kat_nil (by simpa using h))
   ·rw[decide_eq_false e3];refine kat_no ?_;show ab4 (model prog w) A (oneLt' false _ _) Q _ s;exact kat_one _ _ (PX hu h4 h5 h6 g4 g5 g6 h7 g7 h)
  ·rw[if_neg e2] at h;rw[show (c ==c')=false by simpa using e2];refine kat_no ?_;show ab4 (model prog w) A (oneLt' false _ _) Q _ s;exact kat_one _ _ (lt_int h)
 ·rw[if_neg e1] at h;rw[show (l ==l')=false by simpa using e1];refine kat_no ?_;show ab4 (model prog w) A (keyLt' oneType' (.int l t) (.int l' t')) Q _ s;exact kat_lt_int h
end
theorem K7{h:ace}:∀(as:List abX),(∀a∈as,∃l c ps,gK h a l c ps)->∃fs,KatTups h (as.map ab8) fs/\fs.length=as.length/\∀f∈fs,∃k t,f=afS k t
 |[],_=>⟨[],.nil,rfl,λf hf=>by simp at hf⟩
 | a::as,hx=>by
  obtain⟨l,c,ps,o,o2,n,n2,t,u,p,vs,h1,h2,h3,_⟩:=hx a acq;obtain⟨fs,k1,k2,k3⟩:=K7 as λb hb=>hx b (z2f _ hb);refine⟨.int l t::fs,KatTups.cons h1 h2 h3 rfl k1,by simp[k2],λf hf=>?_⟩;rcases ach.mp hf with z |z
  ·exact⟨l,t,z⟩
  ·exact k3 f z
section
variable{X:Cx}
def Bb(K:PySem.W.Frag)(H:Hp)(a:abX)(ns:List Int):Prop:=∃l c ps p,ns=l::c::ps/\SqT K H a [.int l,.int c,.ref p]/\SqT K H p (ps.map V.int)
theorem GQ{pins:List (abX×Obj)}{σ:St}{H:Hp}{s:abZ}(I:Inv X pins σ H s)(h:Bb X.K H a ns):∃l c ps,ns=l::c::ps/\gK s.heap a l c ps:=by
 obtain⟨l,c,ps,p,rfl,h1,h2⟩:=h;obtain⟨its,r1,⟨o,ho,hc,n,hd⟩,_⟩:=I.tuple h1;obtain⟨its2,r2,⟨o2,ho2,hc2,n2,hd2⟩,_⟩:=I.tuple h2;refine⟨l,c,ps,rfl,?_⟩;cases r1 with
 | cons a1 r1=>
  cases r1 with
  | cons a2 r1=>
   cases r1 with
   | cons a3 r1=>
    cases r1;obtain⟨t,rfl⟩:=a1;obtain⟨u,rfl⟩:=a2;cases a3;exact⟨o,o2,n,n2,t,u,p,its2.toArray,ho,hc,hd,ho2,hc2,hd2,by simpa using Pj r2⟩
theorem Q8(hu:X.A.units+2<adn):CallR X (.builtin "sorted") (λxs H Q=>∃(a:abX) (as:List abX) (ts:List (List Int)),xs=[.ref a]/\SqL X.K H a (as.map V.ref)/\as.length=ts.length/\ts.length<64/\ts.Nodup/\(∀(i:Nat) b t,as[i]?=some b->ts[i]?=some t->Bb X.K H b t)/\
  ∀(B:abX) (bs:List abX),H B=none->bs.length=ts.length->(∀(i:Nat) b t,bs[i]?=some b->(dZ ts)[i]?=some t->b∈as/\∃j:Nat,as[j]?=some b/\ts[j]?=some t)->Q (.ref B) (upd H B (.lst (bs.map V.ref)))):=by
 intro pins s σ H xs us Q I r h;obtain⟨a,as,ts,rfl,hq,hl,h64,hn,ht,q⟩:=h;obtain⟨u,rfl,rx⟩:=vals1 r;cases rx;obtain⟨its,rv,pl,hz⟩:=I.list hq;have hits:its=as.map ab8:=by
  have:∀(as:List abX) (its:List abY),Vals (as.map V.ref) its->its=as.map ab8:=by
   intro as
   induction as with
   |nil=>intro its r;cases r;rfl
   |cons b as ih=>intro its r;cases r with |cons r1 r2=>cases r1;rw[ih _ r2];rfl
  exact this as its rv
 subst hits;have lenV:(as.map ab8).length=ts.length:=by rw[z1g,hl]
 refine agg kind_sorted plain_sorted entry_sorted (args_sorted1 _) ?_;unfold adu.«sorted»;refine abW (m:=checkCount "sorted" 1 1 _) (ab1 ?_);refine abW (collect_list pl.isList ?_);refine abW (wpAny_newList ?_ (by rw[lenV,ac6];omega));have hsz:((s.heap.push (adk "list" #[] 0)).update s.heap.objs.size (adb (· ++(as.map ab8).toArray))).objs.size=s.heap.objs.size+1:=by
  rw[Heap.size_update,size_push']
 have hB:(((s.heap.push (adk "list" #[] 0)).update s.heap.objs.size (adb (· ++(as.map ab8).toArray))).push (adk "list" (as.map ab8).toArray 0)).get? (s.heap.objs.size+1)=some (adk "list" (as.map ab8).toArray 0):=by
  rw[<-hsz];exact z1f _ rfl
 show ab4 _ _ _ _ _ {s with heap:=((s.heap.push (adk "list" #[] 0)).update s.heap.objs.size (adb (· ++(as.map ab8).toArray))).push (adk "list" (as.map ab8).toArray 0)};rw[hsz];have kp:∀b o,s.heap.get? b=some o->(((s.heap.push (adk "list" #[] 0)).update s.heap.objs.size (adb (· ++(as.map ab8).toArray))).push (adk "list" (as.map ab8).toArray 0)).get? b=some o:=λb o e=>by
  refine z1a _ ?_;rw[adz _ _ _ _ (acw (z2c e))];exact z1a _ e
 have K8:∀(i:Nat) b,as[i]?=some b->∃l c ps,ts.getD i []=l::c::ps/\gK s.heap b l c ps:=λi b e=>by
  have hi:i<ts.length:=by rw[<-hl];exact (z1b e).1
  obtain⟨l,c,ps,e1,e2⟩:=GQ I (ht i b ts[i] e (by simp[hi]));exact⟨l,c,ps,by simp[hi,e1],e2⟩
 have bne:∀b o,s.heap.get? b=some o->b≠s.heap.objs.size+1:=λb o e=>acw (afi (z2c e));refine abW (adD (acT slot_list_sort ⟨_,hB,rfl⟩ entry_list_sort (OJ (lt:=λi j=>bO (ts.getD i []) (ts.getD j [])) (kk:=tuples' true) hB (by rw[lenV];exact h64) (by rw[lenV];exact P0 hn) ?kind ?ask λqq hq TV=>⟨_,rfl,?fin⟩) (args_list_sort _)))
 case kind=>
  intro h2 h6 keep Q' hQ';obtain⟨fs,kt,fl,fi⟩:=K7 (h:=h6) as λb hb=>by
   obtain⟨i,hi⟩:=aft.mp hb;obtain⟨l,c,ps,_,e⟩:=K8 i b hi;exact⟨l,c,ps,e.keeps λd o hd _=>keep d o (bne d o hd) (kp d o hd)⟩
  refine kat_kind (T:= .type "int") kt (by rw[fl,hl];rw[lenV] at h2;omega) (λf hf=>by obtain⟨k,t,rfl⟩:=fi f hf;exact .now) rfl hQ'
 case ask=>
  intro h6 keep i j C hi hj hC;rw[lenV] at hi hj;have hi':i<as.length:=by omega
  have hj':j<as.length:=by omega
  obtain⟨l,c,ps,e1,t1⟩:=K8 i as[i] (by simp[hi']);obtain⟨l',c',ps',e2,t2⟩:=K8 j as[j] (by simp[hj']);unfold kas_ask;rw[show (as.map ab8).getD i aco= .ref as[i] by simp[hi'],show (as.map ab8).getD j aco= .ref as[j] by simp[hj']];refine Yh ?_ (t1.keeps λd o hd _=>keep d o (bne d o hd) (kp d o hd)) (t2.keeps λd o hd _=>keep d o (bne d o hd) (kp d o hd)) ?_
  ·first |exact ae4 (by simp) hu |(show X.A.units+_<adn;omega)
  ·rw[e1,e2] at hC;exact hC
 case fin=>
  rw[lenV] at hq TV;refine ab1 ⟨_,rfl,?_⟩;have hout:(qq.toList.map λi=>(as.map ab8).getD i aco)=(qq.toList.map λi=>as.getD i 0).map ab8:=by
   rw[acz];refine acS λi hi=>?_;have hi':i<as.length:=by rw[hl];exact z2e (hq.perm.mem_iff.mp hi)
   simp[hi']
  rw[hout];obtain⟨cc,ZW⟩:=sortedHeap_at (vs:=as.map ab8) (out:=adO ((qq.toList.map λi=>as.getD i 0).map ab8)) hB;have hf:H (s.heap.objs.size+1)=none:=I.hok.fresh (agF _);refine⟨.ref (s.heap.objs.size+1),upd H (s.heap.objs.size+1) (.lst ((qq.toList.map λi=>as.getD i 0).map V.ref)),I.laid (t':=s.toks) (λb o e=>tV (bne b o e) (kp b o e)) (agF _) ?_,rfl,q _ _ hf ?_ λi b t eb et=>?_⟩
  ·refine⟨?_,_,cc,Gy _,ZW⟩;rw[z1g,z1g,ady,hq.size,ac6];omega
  ·rw[z1g,ady,hq.size]
  ·rw[<-yL hn hq TV] at et;rw[z2b] at eb et;cases ei:qq.toList[i]? with
   |none=>rw[ei] at eb;cases eb
   | some k=>
    rw[ei] at eb et;have eb:as.getD k 0=b:=acj eb;have et:ts.getD k []=t:=acj et;have hk:k<ts.length:=z2e (hq.perm.mem_iff.mp (acy ei));have hk':k<as.length:=by omega
    have ea:as[k]?=some b:=by simp[aeA,hk'] at eb |-;exact eb
    exact⟨acy ea,k,ea,by simp[aeA,hk] at et |-;exact et⟩
end
end Pu
namespace Pu
open PySem PySem.Spec L2
open PyProof.Rows hiding St
def iJ:List Int->D
 |l::c::ps=> .tup [.int l,.int c,.tup (ps.map .int)]
 |_=> .non
def jR:D->Option (List Int)
 | .tup [.int l,.int c,.tup ps]=>(intsOf ps).map λns=>l::c::ns
 |_=>none
def oH:List D->Option (List (List Int))
 |[]=>some []
 | d::ds=>match jR d,oH ds with
  |some t,some ts=>some (t::ts)
  |_,_=>none
def mX:List D->R D
 | [.lst ds]=>match oH ds with
  |some ts=>if ts.length<64/\ts.Nodup then .ok (.lst ((dZ ts).map iJ)) else .bad
  |none=> .bad
 |_=> .bad
theorem Q9(ns:List Int):intsOf (ns.map D.int)=some ns:=by simpa using yw (c:=λi:Int=>i) (l:=ns)
theorem yM{l c:Int}{ps:List Int}:jR (iJ (l::c::ps))=some (l::c::ps):=by simp[iJ,jR,Q9]
section
variable{K:PySem.W.Frag}{O:abX->Prop}{H:Hp}
theorem CK{d:D}{v:V}{t:List Int}(e:jR d=some t)(r:Rep K O H d v):∃b,v= .ref b/\Bb K H b t/\Rep K O H (iJ t) v:=by
 unfold jR at e;split at e
 ·rename_i l c ps;cases q:intsOf ps with
  |none=>rw[q] at e;cases e
  | some ns=>
   rw[q] at e;cases e;obtain⟨a,xs,rfl,hq,rs⟩:=r.tup;obtain⟨v1,v2,v3,rfl,r1,r2,r3⟩:=rs.three;have r1:=r1.int;have r2:=r2.int;subst r1 r2;obtain⟨p,ys,rfl,hq2,DP⟩:=r3.tup;have e2:=Ih q DP;subst e2;refine⟨a,rfl,⟨l,c,ns,p,rfl,hq,hq2⟩,gZ hq (.cons (cg l) (.cons (cg c) (.cons (gZ hq2 yE) .nil)))⟩
 ·cases e
theorem Iv:∀{ds:List D} {vs:List V} {ts:List (List Int)},oH ds=some ts->aO K O H ds vs->∃as:List abX,vs=as.map V.ref/\as.length=ts.length/\∀(i:Nat) b t,as[i]?=some b->ts[i]?=some t->Bb K H b t/\Rep K O H (iJ t) (.ref b)
 | [],vs,ts,e,r=>by
  cases e;exact⟨[],r.nil_inv,rfl,λi b t h=>by simp at h⟩
 | d ::ds,vs,ts,e,r=>by
  obtain⟨x,r',rfl,h1,h2⟩:=r.cons_inv;unfold oH at e;split at e
  ·rename_i t ts' e1 e2;cases e;obtain⟨b,rfl,h3,h4⟩:=CK e1 h1;obtain⟨as,rfl,h5,h6⟩:=Iv e2 h2;refine⟨b::as,rfl,by simp[h5],λi b' t' eb et=>?_⟩;cases i with
   |zero=>simp at eb et;subst eb et;exact⟨h3,h4⟩
   |succ i=>exact h6 i b' t' (by simpa using eb) (by simpa using et)
  ·cases e
theorem uz:∀{ds:List D} {vs:List V},ds.length=vs.length->(∀(i:Nat) d v,ds[i]?=some d->vs[i]?=some v->Rep K O H d v)->aO K O H ds vs
 |[],[],_,_=> .nil
 |[],_::_,h,_=>by simp at h
 |_::_,[],h,_=>by simp at h
 |d::ds,v::vs,h,p=> .cons (p 0 d v rfl rfl) (uz (by simpa using h) λi d' v' e1 e2=>p (i+1) d' v' (by simpa using e1) (by simpa using e2))
end
section
variable{X:Cx}
theorem K9(hu:X.A.units+2<adn):CallD X (.builtin "sorted") mX:=by
 refine⟨_,Q8 hu,λρ O σ H Q xs ds j r h=>?_⟩;unfold mX at h;split at h
 ·rename_i es;obtain⟨x,rfl,rx⟩:=r.one;obtain⟨a,ys,rfl,hq,hna,rs⟩:=rx.lst;cases e:oH es with
  |none=>rw[e] at h;exact h.elim
  | some ts =>
   rw[e] at h;have h:good X (rD X) O (if ts.length<64/\ts.Nodup then R.ok (.lst ((dZ ts).map iJ)) else .bad) σ H Q:=h;by_cases hl:ts.length<64/\ts.Nodup
   ·rw[if_pos hl] at h;obtain⟨as,rfl,h1,h2⟩:=Iv e rs;refine⟨a,as,ts,rfl,hq,h1,hl.1,hl.2,λi b t eb et=>(h2 i b t eb et).1,λB bs hB ZX hp=>?_⟩;refine h _ _ (Same.upd hB) (Rep.lZ hB (j.uq hB) (uz ?_ λi d v ed ev=>?_))
    ·rw[z1g,z1g,(eG ts).length_eq,ZX]
    ·rw[z2b] at ed ev;cases q1:(dZ ts)[i]? with
     |none=>rw[q1] at ed;cases ed
     | some t=>
      cases q2:bs[i]? with
      |none=>rw[q2] at ev;cases ev
      | some b=>
       rw[q1] at ed;rw[q2] at ev;cases ed;cases ev;obtain⟨_,k,z1,z2⟩:=hp i b t q2 q1;exact (h2 k b t z1 z2).2
   ·rw[if_neg hl] at h;exact h.elim
 ·exact h.elim
end
section
variable{X:Cx}{e:ab6}{f:aB->R D}{pos:Pos}
theorem GR(i k m:Nat){x y z:Str}{px py pz pt:Pos}{kt}(hc:X.calm=true)(hN:X.N.Nodup)(he:DE X e f)(hi:X.N[i]?=some x:=by rfl)(hk:X.N[k]?=some y:=by rfl)(hm:X.N[m]?=some z:=by rfl)
  (hx:Loc X.env.scope x:=by first |exact acZ rfl |exact acM rfl)(hy:Loc X.env.scope y:=by first |exact acZ rfl |exact acM rfl)(hz:Loc X.env.scope z:=by first |exact acZ rfl |exact acM rfl)
  (hfx:X.fn x=true\/X.env.scope.names.lookup x=some .local:=by first |exact .inl rfl |exact .inr rfl)(Kc:X.fn y=true\/X.env.scope.names.lookup y=some .local:=by first |exact .inl rfl |exact .inr rfl)(hfz:X.fn z=true\/X.env.scope.names.lookup z=some .local:=by first |exact .inl rfl |exact .inr rfl)
  (hs:aeE [.Tuple [.Name x px,.Name y py,.Name z pz] kt pt] e pos.line X.env=pure false:=by rfl)(hw:aeF [.Tuple [.Name x px,.Name y py,.Name z pz] kt pt] e X.env=pure none:=by rfl):
  DS X (.Assign [.Tuple [.Name x px,.Name y py,.Name z pz] kt pt] e pos) (bw f (cY (cZ 3 (aY (aK i) (aY (aK k) (aY (aK m) nilG)))))):=by
 refine PS.imp (ps_asg he (pg_tup hc (pgs_cons (pg_name hN hi hx hfx) (pgs_cons (pg_name hN hk hy Kc) (pgs_cons (pg_name hN hm hz hfz) pgs_nil)))) hs hw) λσ H E h=>?_;obtain⟨H0,O0,O,ρ,j,h⟩:=h;refine⟨ρ,O,j.inn,?_⟩;unfold bw jC at h;cases e1:f ρ with
 |bad=>rw[e1] at h;exact h
 |err c=>rw[e1] at h;exact h σ H O j
 | ok d=>
  rw[e1] at h;intro v H' s r;cases d with
  | tup ds=>
   match ds,h,r with
   |[],h,_=>exact h.elim
   |[_],h,_=>exact h.elim
   |[_,_],h,_=>exact h.elim
   |_::_::_::_::_,h,_=>exact (show False by simpa[cY,cZ,vJ] using h).elim
   | [d1,d2,d3],h,r=>
    obtain⟨a,xs,rfl,hq,rs⟩:=r.tup;obtain⟨v1,v2,v3,rfl,r1,r2,r3⟩:=rs.three;refine⟨a,[v1,v2,v3],rfl,hq,rfl,v1,[v2,v3],rfl,v2,[v3],rfl,v3,[],rfl,rfl,?_⟩;exact h _ H' O ((((j.grow s).set (z1b hi).1 r1).set (z1b hk).1 r2).set (z1b hm).1 r3) (Same.eU s)
  |_=>exact h.elim
end
section
variable{X:Cx}{e:ab6}{f:aB->R D}
def abE:D->R Bool
 | .lst ds=> .ok (!ds.isEmpty)
 | .tup ds=> .ok (!ds.isEmpty)
 |_=> .bad
def La(f:aB->R D):aB->R Bool:=λρ=>(f ρ).bind abE
theorem aO.empty{K:PySem.W.Frag}{O:abX->Prop}{H:Hp}{ds:List D}{vs:List V}(r:aO K O H ds vs):ds.isEmpty=vs.isEmpty:=by
 have:=r.length;cases ds <;> cases vs <;> simp_all
theorem TX(h:DE X e f)(he:∀whole,isTrue e X.env whole=(do let v <-whole;standAt e.pos;holding [v] (truthy v)):=by intro _;rfl):DT X e (La f):=by
 refine PT.imp (pt_truth h he) λσ H Q h=>?_;obtain⟨ρ,O,j,h⟩:=h;refine go j h λd v H1 e1 s1 r1 j1 h1=>?_;cases d with
 | lst ds=>
  obtain⟨a,xs,rfl,hq,hn,rs⟩:=r1.lst;exact⟨!xs.isEmpty,.inl ⟨xs,hq,rfl⟩,by rw[<-rs.empty];exact fin h1 rfl⟩
 | tup ds=>
  obtain⟨a,xs,rfl,hq,rs⟩:=r1.tup;exact⟨!xs.isEmpty,.inr (.inl ⟨xs,hq,rfl⟩),by rw[<-rs.empty];exact fin h1 rfl⟩
 |_=>exact h1.elim
end
theorem Ew{A:acg}{k:Nat}(hr:Room k A):A.units+2<adn:=by have:=hr.un;omega
def FnS(P:ab9)(w:acf)(K:PySem.W.Frag)(mg:Str->Option abY)(base:ace)(k:Nat)(x:Str)(kG n q:Nat)(F:abX->(List D->R D)->List D->R D):Prop:=
 ∃f fd ps,FnOk P w K mg base CX0 k f fd ps (spS P w mg base kG K n q F)/\mg x=some (.ref f)/\PySem.W.keepIn K (.ref f)=true/\Binds K fd ps []
theorem Bw:∀{xs:List V} {us:List abY},xs.length=us.length->(∀(i:Nat) x u,xs[i]?=some x->us[i]?=some u->RelV x u)->Vals xs us
 |[],[],_,_=> .nil
 |[],_::_,h,_=>by simp at h
 |_::_,[],h,_=>by simp at h
 |x::xs,u::us,h,p=> .cons (p 0 x u rfl rfl) (Bw (by simpa using h) λi d' v' e1 e2=>p (i+1) d' v' (by simpa using e1) (by simpa using e2))
theorem TY{lo:Int}{acc:Array abY}{n:Nat}(h:ItemsOf (λi v=>∃t,v= .int (lo+i*1) t) acc n):Vals ((ab0 n).map λ(i:Nat)=>V.int (lo+(i:Int))) acc.toList:=by
 refine Bw (by simp[h.1]) λi x u e1 e2=>?_;rw[Array.getElem?_toList] at e2;obtain⟨t,rfl⟩:=h.2 i u e2;rw[z2b] at e1;cases q:(ab0 n)[i]? with
 |none=>rw[q] at e1;cases e1
 | some k=>
  rw[q] at e1;have hk:i<n/\i=k:=by simpa[acv] using (z1b q)
  obtain⟨_,rfl⟩:=hk;cases e1;exact⟨t,by rw[Int.mul_one]⟩
section
variable{X:Cx}{a b:ab6}{p pos p2 pos2:Pos}{fa:aB->R (List D)}{ta:TA}
def aa3(ta:TA):TE:=λσ H Q=>ta σ H λvs H1=>∃i j:Int,vs=[.int i,.int j]/\∀q,H1 q=none->Q (.ref q) (upd H1 q (.rng i j))
theorem Yi(hg:Gl X "range")(hm:X.mg "range" =none)(ha:PA X [a,b] ta)(hs:ab2 [a,b] X.env=[(false,eval a X.env),(false,eval b X.env)]:=by rfl)(hs2:ab2 [b] X.env=[(false,eval b X.env)]:=by rfl):PE X (.Call (.Name "range" p) [a,b] [] pos) (aa3 ta):=by
 intro pins s σ H Q I h;refine Call_ (ld_blt I hg hm boot_range (ac2 (thn (ha pos pins s σ H _ I h) λus s1 ⟨vs,H1,I1,r1,q1⟩=>?_) (by rw[hs,hs2]) (by rw[hs2];rfl)));obtain⟨i,j,e,q⟩:=q1;subst e;cases r1 with
 | cons r rr=>
  cases rr with
  | cons r' rr=>
   cases rr;obtain⟨t,rfl⟩:=r;obtain⟨t',rfl⟩:=r';refine call_range_2 ?_;exact⟨.ref s1.heap.objs.size,upd H1 s1.heap.objs.size (.rng i j),I1.laid (λb o e=>z1a _ e) (z0g _) ⟨_,_,_,z1f _ rfl⟩,rfl,q _ (I1.hok.fresh (z0g _))⟩
theorem T4(hc:X.calm=true):CallR X (.type "list") (λxs H Q=>∃(b:abX) (i j:Int),xs=[.ref b]/\H b=some (.rng i j)/\-1000<=i/\i<=1000/\-1000<=j/\j<=1000/\∀B,H B=none->Q (.ref B) (upd H B (.lst ((ab0 (j - i).toNat).map λ(k:Nat)=>V.int (i+(k:Int)))))):=by
 intro pins s σ H xs us Q I r h;obtain⟨b,i,j,rfl,hb,h0,h1,h2,h3,q⟩:=h;obtain⟨u,rfl,rx⟩:=vals1 r;cases rx;obtain⟨t,u,v,hr⟩:=(show ObjOk X.prog X.w H s.heap b (.rng i j) from I.hok b _ hb);have hn:afc i j 1=(((j - i).toNat:Nat):Int):=by rw[rangeSize_one];split <;> omega
 refine call_list_range (I.ok.hd hc) hr (small_one (by omega) (by omega) (by omega) (by omega)) hn (by omega) λh' tk acc c' hk he hacc=>?_;have hf:H s.heap.objs.size=none:=I.hok.fresh (z0g _);refine⟨.ref s.heap.objs.size,_,I.laid (t':=tk) (o:= .lst ((ab0 (j - i).toNat).map λ(k:Nat)=>V.int (i+(k:Int)))) hk (z0g _) ⟨?_,acc.toList,c',TY hacc,by simpa using he⟩,rfl,q _ hf⟩;rw[z1g,z2d];exact z0b (by omega) (z0e fJ)
theorem Ra{K:PySem.W.Frag}{O:abX->Prop}{H:Hp}{lo:Int}{n:Nat}:aO K O H (upto lo n) ((ab0 n).map λ(i:Nat)=>V.int (lo+(i:Int))):=by
 unfold upto
 generalize ab0 n=l
 induction l with
 |nil=>exact .nil
 |cons x l ih=>exact .cons (cg _) ih
def abR:List D->R D
 |[.int j]=>if 0<=j/\j<=1000 then .ok (.lst (upto 0 j.toNat)) else .bad
 |_=> .bad
def Rb:List D->R D
 |[.int i,.int j]=>if -1000<=i/\i<=1000/\-1000<=j/\j<=1000 then .ok (.lst (upto i (j - i).toNat)) else .bad
 |_=> .bad
theorem V6(hc:X.calm=true)(hg:Gl X "list")(hm:X.mg "list" =none)(hg2:Gl X "range")(hm2:X.mg "range" =none)(ha:DA X [a,b] fa)(hs2:ab2 [a,b] X.env=[(false,eval a X.env),(false,eval b X.env)]:=by rfl)(hs3:ab2 [b] X.env=[(false,eval b X.env)]:=by rfl)
  (he:ab2 [.Call (.Name "range" p) [a,b] [] pos] X.env=(false,eval (.Call (.Name "range" p) [a,b] [] pos) X.env)::ab2 [] X.env:=by rfl)(hpl:(acO pos2 (ab2 [] X.env)).any (·.1)=false:=by rfl):
  DE X (.Call (.Name "list" p2) [.Call (.Name "range" p) [a,b] [] pos] [] pos2) (aD Rb fa):=by
 refine PE.imp (pe_callTy (T4 hc) hg hm boot_list (pa_cons (Yi hg2 hm2 ha hs2 hs3) pa_nil he) (by decide) (by decide) he hpl) λσ H Q q=>?_;obtain⟨ρ,O,j,q⟩:=q;refine go j q λds vs H1 e1 s1 r1 j1 h1=>?_;unfold Rb at h1;split at h1
 ·rename_i i k;obtain⟨x,y,rfl,rx,ry⟩:=r1.two;by_cases hi: -1000<=i/\i<=1000/\-1000<=k/\k<=1000
  ·rw[if_pos hi] at h1;refine⟨i,k,by rw[rx.int,ry.int],λq hq=>⟨q,i,k,rfl,upd_same,hi.1,hi.2.1,hi.2.2.1,hi.2.2.2,λB hB=>?_⟩⟩;have s2:Same H1 (upd H1 q (.rng i k)):=Same.upd hq;exact h1 _ _ (s2.trans (Same.upd hB)) (Rep.lZ hB ((j1.same s2).uq hB) Ra)
  ·rw[if_neg hi] at h1;exact h1.elim
 ·exact h1.elim
end
end Pu
namespace Pu
open PySem PySem.Spec PySem.W L2
open PyProof.Rows hiding St
variable{l' c':Int}{ps qs:List Int}{E:abY->abZ->Prop}
section
variable{prog:ab9}{w:acf}{A:acg}{s:abZ}
def T5(prog:ab9)(w:acf)(A:acg)(s:abZ)(u v:abY)(b:Bool):Prop:=∀(Q:Bool->abZ->Prop) (E:abY->abZ->Prop),Q b s->ab4 (model prog w) A (eqBool u v) Q E s
def LtB(prog:ab9)(w:acf)(A:acg)(s:abZ)(u v:abY)(b:Bool):Prop:=∀(Q:abY->abZ->Prop) (E:abY->abZ->Prop),Q (.bool b) s->ab4 (model prog w) A (acr .Lt u v) Q E s
inductive Lx (prog:ab9) (w:acf) (A:acg) (s:abZ) (r:Bool):List abY->List abY->Prop
 |nil:r=false->Lx prog w A s r [] []
 |yes {u v xs ys}:T5 prog w A s u v true->Lx prog w A s r xs ys->Lx prog w A s r (u::xs) (v::ys)
 |no {u v xs ys}:T5 prog w A s u v false->LtB prog w A s u v r->Lx prog w A s r (u::xs) (v::ys)
theorem Bx{a b:abX}{oa ob:Obj}{xs ys:Array abY}{na nb:Nat}{r:Bool}{P:PySem.Fin->abZ->Prop}(hoa:s.heap.get? a=some oa)(hda:oa.data= .seq xs na)(hob:s.heap.get? b=some ob)(hcb:ob.cls= .type "tuple")(hdb:ob.data= .seq ys nb)
  (hl:Lx prog w A s r xs.toList ys.toList)(hsz:xs.size=ys.size)(h:P (.done (.ret (.bool r))) s):
  ab4 (model prog w) A (adu.«tuple.__lt__» ⟨[.ref a,.ref b],[]⟩) P E s:=by
 have hTb:s.TypeIs (.ref b) "tuple" :=⟨ob,hob,hcb⟩;show ab4 _ _ (isInstance (.ref b) (.type "tuple") >>=_) _ _ s;refine abW (afr hTb isSubtype_tuple_tuple ?_);simp only[aeH,acP,if_false];refine abW (ae3 hoa hda ?_);refine abW (ae3 hob hdb ?_);refine abW ?_;refine wpAny_forIn_list _
  (λrest q s'=>q.1=none/\s'=s/\∃xs' ys',rest=List.zip xs' ys'/\Lx prog w A s r xs' ys')
  _ ?_ ?_ _ _ ⟨rfl,rfl,xs.toList,ys.toList,rfl,hl⟩
 ·rintro⟨u,v⟩ rest q s' ⟨hr,rfl,xs',ys',hz,hx'⟩
  cases hx' with
  |nil _=>simp at hz
  | yes he hx''=>
   simp only[afY,agC,agL] at hz;obtain⟨⟨rfl,rfl⟩,rfl⟩:=hz;refine abW (he _ _ ?_);simp only[aeH,acP,if_false];exact ab1 ⟨rfl,rfl,_,_,rfl,hx''⟩
  | no he hlt=>
   simp only[afY,agC,agL] at hz;obtain⟨⟨rfl,rfl⟩,rfl⟩:=hz;refine abW (he _ _ ?_);simp only[Bool.not_false,if_true];refine abW (ad6 ?_);refine abW (m:=aeK .Lt u v) (show ab4 _ _ (acr .Lt u v) _ _ _ from hlt _ _ ?_)
   first
    |exact ab1 (ab1 h)
    |exact abW (ab1 (ab1 (ab1 h)))
    |exact abW (ab1 (ab1 h))
 ·rintro⟨r1,r2⟩ s' ⟨hr,rfl,xs',ys',hz,hx'⟩
  simp only at hr;subst hr;refine ab1 ?_;have hfin:decide (xs.size<ys.size)=r:=by
   cases hx' with
   |nil e=>rw[e];exact decide_eq_false (by omega)
   |yes _ _=>simp at hz
   |no _ _=>simp at hz
  show P (.done (.ret (.bool (decide (xs.size<ys.size))))) s';rw[hfin];exact h
theorem q8{i j:Int}{t u:Tok}{b:Bool}(e:(i ==j)=b):T5 prog w A s (.int i t) (.int j u) b:=λQ E h=>agi (by rw[e];exact h)
theorem GX{i j:Int}{t u:Tok}:LtB prog w A s (.int i t) (.int j u) (decide (i<j)):=λQ E h=>lt_int h
theorem Yj{x y:abX}{l c:Int}(hu:A.units<adn)(hx:gK s.heap x l c ps)(hy:gK s.heap y l' c' qs):∃(oa ob:Obj) (xs ys:Array abY) (na nb:Nat),s.heap.get? x=some oa/\oa.cls= .type "tuple"/\oa.data= .seq xs na/\s.heap.get? y=some ob/\ob.cls= .type "tuple"/\ob.data= .seq ys nb/\xs.size=ys.size/\Lx prog w A s (bO (l::c::ps) (l'::c'::qs)) xs.toList ys.toList:=by
 obtain⟨o,o2,n,n2,t,u,p,vs,h1,h2,h3,h4,h5,h6,h7⟩:=hx;obtain⟨o',o2',n',Xb,t',u',p',vs',g1,g2,g3,g4,g5,g6,g7⟩:=hy;refine⟨o,o',_,_,n,n',h1,h2,h3,g1,g2,g3,rfl,?_⟩;show Lx prog w A s _ [.int l t,.int c u,.ref p] [.int l' t',.int c' u',.ref p'];rw[bO,bO];by_cases e1:l=l'
 ·rw[if_pos e1];refine .yes (q8 (by simpa using e1)) ?_;by_cases e2:c=c'
  ·rw[if_pos e2];refine .yes (q8 (by simpa using e2)) ?_;have eq:T5 prog w A s (.ref p) (.ref p') (decide (ps=qs)):=λQ E h=>wpAny_eqBool_tuple (knd:=intKind prog w) hu ⟨o2,vs,n2,h4,h5,h6,rT h7⟩ ⟨o2',vs',Xb,g4,g5,g6,rT g7⟩ h;by_cases e3:ps=qs
   ·rw[decide_eq_true e3] at eq;exact .yes eq (.nil (by rw[e3];exact ig _))
   ·rw[decide_eq_false e3] at eq;exact .no eq λQ E h=>PX hu h4 h5 h6 g4 g5 g6 h7 g7 h
  ·rw[if_neg e2];exact .no (q8 (by simpa using e2)) GX
 ·rw[if_neg e1];exact .no (q8 (by simpa using e1)) GX
theorem Lb{a b:abX}{l c:Int}{P:PySem.Fin->abZ->Prop}(hu:A.units<adn)(hx:gK s.heap a l c ps)(hy:gK s.heap b l' c' qs)(h:P (.done (.ret (.bool (bO (l::c::ps) (l'::c'::qs))))) s):
  ab4 (model prog w) A (adu.«tuple.__lt__» ⟨[.ref a,.ref b],[]⟩) P E s:=by
 obtain⟨oa,ob,xs,ys,na,nb,h1,h2,h3,h4,h5,h6,h7,h8⟩:=Yj (prog:=prog) (w:=w) hu hx hy;exact Bx h1 h3 h4 h5 h6 h8 h7 h
theorem V7{a b:abX}{l c:Int}{Q:abY->abZ->Prop}(hu:A.units+2<adn)(hx:gK s.heap a l c ps)(hy:gK s.heap b l' c' qs)(h:Q (.bool (bO (l::c::ps) (l'::c'::qs))) s):ab4 (model prog w) A (acr .Lt (.ref a) (.ref b)) Q E s:=by
 obtain⟨oa,o2,n,n2,t,u,p,vs,h1,h2,_⟩:=id hx;obtain⟨ob,o2',n',Xb,t',u',p',vs',g1,g2,_⟩:=id hy;show ab4 _ _ (aeK .Lt (.ref a) (.ref b)) _ _ _;refine aeB (op:= .Lt) ⟨oa,h1,h2⟩ ⟨ob,g1,g2⟩ PySem.F.slot_tuple_lt
   (acT PySem.F.slot_tuple_lt ⟨oa,h1,h2⟩ PySem.F.entry_tuple_lt (Lb ?_ hx hy ⟨_,rfl,(λe=>nomatch e),h⟩) (PySem.F.args_tuple_lt_2 _ _)) (by omega)
 first |exact ae4 (by simp) hu |(show A.units+_<adn;omega)
end
section
variable{X:Cx}
theorem Z0(hu:X.A.units+2<adn):OpR X (acr .Lt) (λx y H Q=>∃a b,∃ns ms:List Int,x= .ref a/\y= .ref b/\Bb X.K H a ns/\Bb X.K H b ms/\Q (.bl (bO ns ms)) H):=by
 intro pins s σ H x y v u Q I rx ry h;obtain⟨a,b,ns,ms,rfl,rfl,ha,hb,q⟩:=h;cases rx;cases ry;obtain⟨l,c,ps,rfl,h1⟩:=GQ I ha;obtain⟨l',c',qs,rfl,h2⟩:=GQ I hb;exact V7 hu h1 h2 ⟨.bl _,H,I,rfl,q⟩
def Ld(x y:D):R D:=match jR x,jR y with
 |some a,some b=> .ok (.bl (bO a b))
 |_,_=> .bad
theorem Z1(hu:X.A.units+2<adn):gw X (acr .Lt) Ld:=by
 refine⟨_,Z0 hu,λρ O σ H Q x y dx dy j0 rx ry h=>?_⟩;unfold Ld at h;cases e1:jR dx with
 |none=>rw[e1] at h;exact h.elim
 | some ns=>
  cases e2:jR dy with
  |none=>rw[e1,e2] at h;exact h.elim
  | some ms=>
   rw[e1,e2] at h;obtain⟨a,rfl,ha,_⟩:=CK e1 rx;obtain⟨b,rfl,hb,_⟩:=CK e2 ry;exact⟨a,b,ns,ms,rfl,rfl,ha,hb,fin h (eV _)⟩
end
end Pu
namespace Pu
open PySem PySem.Spec L2
open PyProof.Rows hiding St
section
variable{X:Cx}{pins:List (abX×Obj)}{σ:St}{H:Hp}{s:abZ}
end
section
variable{X:Cx}{qual:Str}{params:aeb}{body:ab6}{scope:adA}{xS:Str}{cc P fS:abX}{K4:acK}{Io:List Str}{kS kG q:Nat}{FS:abX->(List D->R D)->List D->R D}{GG:List D->R D}{p p4 pos2 ZR:Pos}{e1 e2 e3:ab6}{f1 f2 f3:aB->R D}
end
end Pu
namespace Pu
open PySem PySem.Spec PySem.W L2
open PyProof.Rows hiding St
def Kp(I S:abX)(h0 h:ace):Prop:=∀b o,b≠I->b≠S->h0.get? b=some o->h.get? b=some o
theorem J0:(toString "min" ++toString ".loop" :String)= "min.loop" :=by decide
section
variable{prog:ab9}{w:acf}{A:acg}{R:Result->abZ->Prop}{I l S:abX}{its:Array abY}{h0:ace}{bt:Nat->Nat->Bool}
theorem GZ(hh:A.handled=none)(hl:l≠I)(hS1:S≠I)(hS2:l≠S)
  (cmp:∀(s:abZ) (i j:Nat) (vi vj:abY) (Q:abY->abZ->Prop) (E:abY->abZ->Prop),Kp I S h0 s.heap->its[i]?=some vi->its[j]?=some vj->Q (.bool (bt i j)) s->ab4 (model prog w) A.in1 (aeK .Lt vi vj) Q E s):
  ∀(k j:Nat) (s:abZ) (vb:abY) (c:Nat),its.size=j+1+k->s.heap.IsListIter I l (j+1)->s.heap.IsList l its->its[adS bt j]?=some vb->s.heap.get? S=some (adk "list" #[vb,vb] c)->Kp I S h0 s.heap->
   (∀v h' tk,its[adS bt (its.size - 1)]?=some v->Kp I S h0 h'->R (.ok (.ret v)) {s with heap:=h',toks:=tk})->
   aeI (model prog w) A (.builtin "min.loop" ⟨[.ref I,.none,.ref S],[]⟩) R s
 | 0,j,s,vb,c,hk,hit,hL,hb,hS,kp,hR=>by
  refine afJ F.entry_min_loop ?_;rw[aeC F.plain_min_loop];refine abW (m:=seqItems? (.ref S)) (adx hS rfl ?_);refine abW (afQ (wpAny_pyNext_list_end (by simp[hh]) hit hL (Array.getElem?_eq_none (by omega)) λh' ex=>?_));have hS':=ex S _ hS1 hS;refine abW (m:=updateSeq S λ_=> #[]) (aeX hS' rfl (abW (aeu (ab1 ?_))));refine hR vb _ s.toks (by rw[show its.size - 1=j by omega];exact hb) λb o b1 b2 e=>?_;rw[adz _ _ _ _ b2];exact ex b o b1 (kp b o b1 b2 e)
 | k +1,j,s,vb,c,hk,hit,hL,hb,hS,kp,hR=>by
  refine afJ F.entry_min_loop ?_;rw[aeC F.plain_min_loop];refine abW (m:=seqItems? (.ref S)) (adx hS rfl ?_);have hx:its[j+1]?=some (its[j+1]'(by omega)):=agh (by omega);refine abW (afQ (afj hit hL hx λh' hit' sb=>?_));have hS':=(sb.2 S hS1).trans hS;have hL':=hL.extBut sb.extBut hl;have kp':Kp I S h0 h':=λb o b1 b2 e=>(sb.2 b b1).trans (kp b o b1 b2 e);refine abW (ab1 ?_);refine abW (afQ (adD (abW (cmp _ (j+1) (adS bt j) _ vb _ _ kp' hx hb ?_))));refine abW (adD (ac4 (abW (aeu (ab1 ?_)))));cases q:bt (j+1) (adS bt j) with
  | true=>
   simp only[if_true];refine abW (m:=updateSeq S λ_=>_) (aeX hS' rfl (abW (aeu ?_)));rw[J0];have g2:=aeU hS' (λ_=> #[its[j+1]'(by omega),its[j+1]'(by omega)]);have up:∀b o,b≠S->h'.get? b=some o->(h'.update S (adb λ_=> #[its[j+1]'(by omega),its[j+1]'(by omega)])).get? b=some o:=λb o bs e=>by rw[adz _ _ _ _ bs];exact e
   refine ab1 ⟨afl F.plain_min_loop _,GZ hh hl hS1 hS2 cmp k (j+1) _ _ _ (by omega) (hit'.at λo e=>up I o (acd hS1) e) (hL'.at λo e=>up l o hS2 e) (by rw[adS,q,if_pos rfl];exact hx) g2 (λb o b1 b2 e=>up b o b2 (kp' b o b1 b2 e)) λv h2 tk hv k2=>hR v h2 tk hv k2⟩
  | false=>
   simp only[acP,if_false];refine abW (aeu ?_);rw[J0];exact ab1 ⟨afl F.plain_min_loop _,GZ hh hl hS1 hS2 cmp k (j+1) _ vb c (by omega) hit' hL' (by rw[adS,q];exact hb) hS' kp' λv h2 tk hv k2=>hR v h2 tk hv k2⟩
end
section
variable{prog:ab9}{w:acf}{A:acg}{E:abY->abZ->Prop}{s:abZ}{l:abX}{its:Array abY}{bt:Nat->Nat->Bool}{Q:abY->abZ->Prop}
theorem Yk(hh:A.handled=none)(hL:s.heap.IsList l its)(hn:0<its.size)
  (cmp:∀(s2:abZ) (i j:Nat) (vi vj:abY) (Q:abY->abZ->Prop) (E:abY->abZ->Prop),(∀b o,s.heap.get? b=some o->s2.heap.get? b=some o)->its[i]?=some vi->its[j]?=some vj->Q (.bool (bt i j)) s2->ab4 (model prog w) A.in1 (aeK .Lt vi vj) Q E s2)
  (h:∀v h' tk,its[adS bt (its.size - 1)]?=some v->(∀b o,s.heap.get? b=some o->h'.get? b=some o)->Q v {s with heap:=h',toks:=tk}):
  ab4 (model prog w) A (call (.builtin "min") [.ref l]) Q E s:=by
 obtain⟨ol,hol,hcl,nl,hdl⟩:=id hL;have ll:=z2c hol;refine call_function_tree F.kind_min F.plain_min F.entry_min (F.args_min1 _) ?_;refine abW (m:=Builtin.Builtins.bindParams "min" ["key","default"] 0 ⟨[],[]⟩) (adY (a:=[none,none]) rfl (abW (ab1 ?_)));refine abW (afe hL (abW (ac5 ?_)));rw[J0];have z1:(s.heap.push {cls:= .type "list_iterator",data:= .fields #[.ref l,.int 0 0]}).objs.size=s.heap.objs.size+1:=acW ..;have gI:(s.heap.push {cls:= .type "list_iterator",data:= .fields #[.ref l,.int 0 0]}).get? s.heap.objs.size=some {cls:= .type "list_iterator",data:= .fields #[.ref l,.int 0 0]}:=z1f _ rfl;have k1:∀b o,s.heap.get? b=some o->(s.heap.push {cls:= .type "list_iterator",data:= .fields #[.ref l,.int 0 0]}).get? b=some o:=λb o e=>z1a _ e
 generalize s.heap.push {cls:= .type "list_iterator",data:= .fields #[.ref l,.int 0 0]}=h1 at *
 have gS:(h1.push (adk "list" #[] 0)).get? h1.objs.size=some (adk "list" #[] 0):=z1f _ rfl;have k2:∀b o,h1.get? b=some o->(h1.push (adk "list" #[] 0)).get? b=some o:=λb o e=>z1a _ e;show ab4 _ _ _ _ _ {s with heap:=h1.push (adk "list" #[] 0)}
 generalize h1.push (adk "list" #[] 0)=h2 at *
 have nS:h1.objs.size=s.heap.objs.size+1:=z1
 generalize h1.objs.size=S at *
 have n1:S≠s.heap.objs.size:=by rw[nS];exact Nat.succ_ne_self _
 have n2:l≠s.heap.objs.size:=acw ll;have n3:l≠S:=by rw[nS];exact acw (afi ll)
 have old:∀b o,s.heap.get? b=some o->b≠s.heap.objs.size/\b≠S:=λb o e=>by have:=z2c e;exact⟨acw this,by rw[nS];exact acw (afi this)⟩
 have hit:h2.IsListIter s.heap.objs.size l 0:=⟨_,k2 _ _ gI,rfl,rfl⟩;have hL2:h2.IsList l its:=hL.at λo e=>k2 _ _ (k1 _ _ e);refine ab1 ⟨afl F.plain_min_loop _,afJ F.entry_min_loop ?_⟩;rw[aeC F.plain_min_loop];refine abW (m:=seqItems? (.ref S)) (adx gS rfl ?_);have hx:its[0]?=some its[0]:=agh hn;refine abW (afQ (afj hit hL2 hx λh' hit' sb=>abW (ab1 ?_)));have hS':=(sb.2 S n1).trans gS;refine abW (m:=updateSeq S λ_=>_) (aeX hS' rfl ?_);rw[J0];have g2:=aeU hS' (λ_=> #[its[0],its[0]]);have up:∀b o,b≠S->h'.get? b=some o->(h'.update S (adb λ_=> #[its[0],its[0]])).get? b=some o:=λb o bs e=>by rw[adz _ _ _ _ bs];exact e
 refine ab1 ⟨afl F.plain_min_loop _,GZ (h0:=s.heap) (bt:=bt) hh n2 n1 n3 (λs2 i j vi vj Q E kp=>cmp s2 i j vi vj Q E λb o e=>kp b o (old b o e).1 (old b o e).2 e) (its.size - 1) 0 _ _ _ (by omega) (hit'.at λo e=>up _ o (acd n1) e) ((hL2.extBut sb.extBut n2).at λo e=>up l o n3 e) hx g2 (λb o b1 b2 e=>up b o b2 ((sb.2 b b1).trans (k2 _ _ (k1 _ _ e)))) λv h3 tk hv kp=>?_⟩;exact h v h3 tk hv λb o e=>kp b o (old b o e).1 (old b o e).2 e
end
def jE:List (List Int)->List Int
 |[]=>[]
 |a::r=>r.foldl (λm x=>if bO x m then x else m) a
theorem Ey(a:List Int)(r:List (List Int)):∀k:Nat,k<=r.length->(a::r).getD (adS (λi j=>bO ((a::r).getD i []) ((a::r).getD j [])) k) []=jE (a::r.take k)/\adS (λi j=>bO ((a::r).getD i []) ((a::r).getD j [])) k<=k
 |0,_=>by simp[adS,jE]
 | k +1,h=>by
  obtain⟨ih,hb⟩:=Ey a r k (Nat.le_of_succ_le h);have e1:r.take (k+1)=r.take k++[r.getD k []]:=by
   rw[List.take_add_one,aeA,ac0 h];rfl
  have e2:jE (a::r.take (k+1))=if bO (r.getD k []) (jE (a::r.take k)) then r.getD k [] else jE (a::r.take k):=by
   rw[jE,e1,List.foldl_append];rfl
  rw[e2,<-ih];have e3:(a::r).getD (k+1) []=r.getD k []:=by simp[aeA]
  have eA:adS (λi j=>bO ((a::r).getD i []) ((a::r).getD j [])) (k+1)=if bO (r.getD k []) ((a::r).getD (adS (λi j=>bO ((a::r).getD i []) ((a::r).getD j [])) k) []) then k+1 else adS (λi j=>bO ((a::r).getD i []) ((a::r).getD j [])) k:=by rw[<-e3];rfl
  rw[eA];by_cases q:bO (r.getD k []) ((a::r).getD (adS (λi j=>bO ((a::r).getD i []) ((a::r).getD j [])) k) [])=true
  ·rw[if_pos q,if_pos q];exact⟨e3,z0g _⟩
  ·rw[if_neg q,if_neg q];exact⟨rfl,Nat.le_succ_of_le hb⟩
theorem T6{ts:List (List Int)}(h:0<ts.length):ts.getD (adS (λi j=>bO (ts.getD i []) (ts.getD j [])) (ts.length - 1)) []=jE ts/\adS (λi j=>bO (ts.getD i []) (ts.getD j [])) (ts.length - 1)<ts.length:=by
 cases ts with
 |nil=>simp at h
 | cons a r=>
  have:=Ey a r r.length (z0g _);rw[List.take_length] at this;exact⟨this.1,Nat.lt_succ_of_le this.2⟩
section
variable{X:Cx}
end
end Pu
namespace Pu
open PySem PySem.Spec PySem.W L2
open PyProof.Rows hiding St
open PySem.SeqAt
section
variable{X:Cx}{e1 e2:ab6}{f g:aB->R D}
end
end Pu
namespace Pu
open PySem PySem.Spec L2
open PyProof.Rows hiding St
section
variable{X:Cx}
end
section
variable{X:Cx}{e:ab6}{f:aB->R D}{pos:Pos}
end
end Pu
namespace Pu
open PySem PySem.Spec PySem.W L2
open PyProof.Rows hiding St
section
variable{prog:ab9}{w:acf}{A:acg}{E:abY->abZ->Prop}{s:abZ}
end
section
variable{X:Cx}
end
end Pu
namespace Pu
open PySem PySem.Spec L2
open PyProof.Rows hiding St
def Rc(ts:List (abX×Str))(K:PySem.W.Frag)(n:Nat)(F:List D->R D):Sp:=λvs H Q E=>Tb ts H/\spX K n F vs H Q E
section
variable{P:ab9}{w:acf}{K:PySem.W.Frag}{mg:Str->Option abY}{base:ace}
theorem V8{ts:List (abX×Str)}{x qual:Str}{st:acp}{f:abX}{fd:acK}{N ps:List Str}{k n m:Nat}{g:aB->So}(Fn:Fun K x qual st f fd)(S:FnScope N ps (defScope st))(hn:ps.length=n)(hm:N.length=n+m)
  (hb:∀(cdv:abY) (A:acg) (outer:List PySem.Env) (s:abZ) (H:Hp) (E:XK),Room k (A.deeper (adF qual (defScope st) s.heap.objs.size f cdv))->Tb ts H->jB (cxOf (Pq P w) P w K mg base N qual (defScope st) f cdv A outer s H E) (defBody st) g):
  FnOk P w K mg base (Pq P w) (k+1) f fd ps (Rc ts K n (bV m g)):=by
 obtain⟨oc,od,kV,doc,pm,an,cdv,ct,osl,rfl,lk,hcd⟩:=Fn.ex;refine fn_of lk hcd S (λvs H Q E h=>?_) λA outer s H vs Q E hr h=>?_
 ·obtain⟨_,O,ds,r,hl,_⟩:=h;rw[hn,<-hl,r.length]
 ·obtain ⟨hT,O,ds,r,hl,al,h⟩:=h;refine⟨_,hb cdv A outer s H E hr hT,H,O,O,ds.map (λd=>some (.val d))++ab3 m none,?_,?_⟩
  ·have hst:L2.start N vs=vs.map some++ab3 m none:=by
    unfold L2.start;rw[show N.length - vs.length=m by rw[<-r.length];omega]
   refine⟨Same.refl _,.refl,λ_ z=>z,⟨⟨λi e q=>?_,λi k e e' v _ hi _ oi=>?_,λi k rows a rs e v _ hi=>by obtain⟨_,_,_,h3⟩:=jo r m i _ hi;cases h3⟩,al,?_,?_⟩,λi e a q ho=>?_,λi rows a rs q=>by obtain⟨_,_,_,h3⟩:=jo r m i _ q;cases h3⟩
   ·obtain⟨v,h1,h2,_⟩:=jo r m i e q;exact⟨v,by rw[hst];exact h1,h2⟩
   ·obtain⟨_,_,_,h3⟩:=jo r m i e hi;rw[h3] at oi;cases oi
   ·show (L2.start N vs).length=N.length;rw[hst,z1d,z1g,acN,<-r.length];omega
   ·show (ds.map (λd=>some (Ent.val d))++ab3 m none).length=N.length;rw[z1d,z1g,acN];omega
   ·obtain⟨_,_,_,h3⟩:=jo r m i e q;rw[h3] at ho;cases ho
  ·unfold bV at h;cases e2:g (ds.map (λd=>some (.val d))++ab3 m none) with
   |rt d=>rw[e2] at h;exact λv H' s' r'=>h v H' s' r'
   |nx ρ'=>rw[e2] at h;exact λσ' H' O' j' _=>h .non H' j'.same nM
   |bk _=>rw[e2] at h;exact h.elim
   |ct _=>rw[e2] at h;exact h.elim
   |bad=>rw[e2] at h;exact h.elim
   | ex c ρ'=>
    rw[e2] at h;intro σ' H' O' j' H1 pins s1 a C T s2 H2 sm I hC rs;have J:Inv (cxOf (Pq P w) P w K mg base N qual (defScope st) f cdv A outer s H E) pins σ' H2 s2:=I.call' rs.os rs.un rs.hok rs.bare λb z=>absurd z (by simp);have mC:xJ P w (frs outer) H s a C T s2 H2:=xJ.from I rfl rs (j'.same.trans sm);refine Tr (b0:=base) (L:=s.heap.objs.size) (outer:=outer) J.ok.frames J.stack rfl rs.exc λh' t' ld=>?_;refine⟨a,C,some t',H2,rfl,h C H2 hC,?_⟩;have ne:∀b o,s.heap.get? b=some o->b≠a/\T≠some b:=λb o q=>⟨λz=>(by rw[z,mC.na] at q;cases q),λz=>(by rw[(mC.nt b z).1] at q;cases q)⟩;have nL:∀b o,s.heap.get? b=some o->b≠s.heap.objs.size:=λb o q=>acw (z2c q);have fr:∀b,b∈frs (adF qual (defScope st) s.heap.objs.size f cdv::outer)->b=s.heap.objs.size\/b∈frs outer:=λb hb=>ach.mp hb;have fr':∀b,b∈frs outer->b∈frs (adF qual (defScope st) s.heap.objs.size f cdv::outer):=λb hb=>z2f _ hb;have hfree:∀b,b∈frs (adF qual (defScope st) s.heap.objs.size f cdv::outer)->H2 b=none:=J.stkFree;refine⟨mC.same,⟨λb o q n hb hx=>?_,λb o q n hb hx=>?_,mC.un.free,λb o q hx=>?_,mC.un.tups,mC.un.frzs,mC.un.tbls⟩,ld.hok mC.hok mC.ha (λt z=>(mC.nt t z).2) hfree,mC.os,mC.bare,ld.exc,mC.na,mC.ha,λt z=>?_⟩
    ·exact ld.keep b o (mC.un.keep b o q n hb hx) (ne b o q).1 (ne b o q).2 λz=>(fr b z).elim (nL b o q) hb
    ·obtain⟨sl,e⟩:=mC.un.slot b o q n hb hx;obtain⟨sl',e'⟩:=ld.slot b _ e (fr' b hb);exact⟨sl',e'⟩
    ·obtain⟨o',e⟩:=mC.un.there b o q hx;by_cases hb:b∈frs (adF qual (defScope st) s.heap.objs.size f cdv::outer)
     ·obtain⟨sl',e'⟩:=ld.slot b _ e hb;exact⟨_,e'⟩
     ·exact⟨o',ld.keep b o' e (ne b o q).1 (ne b o q).2 hb⟩
    ·cases z;rcases ld.old with z |z
     ·exact mC.nt t' z
     ·refine⟨?_,wJ mC.hok z⟩;cases q:s.heap.get? t' with
      |none=>rfl
      | some o=>
       obtain⟨o',e⟩:=mC.un.there t' o q (by simp);rw[z] at e;cases e
end
def Le(P:ab9)(w:acf)(K:PySem.W.Frag)(mg:Str->Option abY)(base:ace)(k:Nat)(x:Str)(n:Nat)(F:List D->R D)(fd:acK)(ps:List Str)(ts:List (abX×Str)):Prop:=
 ∃f,FnOk P w K mg base (Pq P w) k f fd ps (Rc ts K n F)/\mg x=some (.ref f)/\PySem.W.keepIn K (.ref f)=true
def gM(F:List D->R D)(n m:Nat)(sel:List (Sum Nat D))(fa fk:aB->R (List D)):aB->R D:=λρ=>(fa ρ).bind λds=>(fk ρ).bind λzs=>if zs.length=m then okN F n (ds++pickK .non sel zs) else .bad
section
variable{X:Cx}{k m n:Nat}{f:abX}{fd:acK}{ps ks:List Str}{F:List D->R D}{x:Str}{p pos:Pos}{e:ab6}{es:List ab6}{kws:List ad0}{fa fk:aB->R (List D)}{ts:List (abX×Str)}
theorem T7(ok:FnOk X.prog X.w X.K X.mg X.base (Pq X.prog X.w) k f fd ps (Rc ts X.K n F))(hr:Room m X.A)(hkm:k<=m){pins:List (abX×Obj)}{σ:St}{H:Hp}{s:abZ}{O:abX->Prop}{ρ:aB}{ds:List D}{vs:List V}{us:List abY}{pa:List abY}{kw:List (Str×abY)}{Q:VK}
  (I:Inv X pins σ H s)(hT:Tb ts H)(r1:aO X.K O H ds vs)(r:Vals vs us)(j:In X O H ρ σ)(hb:us.length=ps.length->ae9 s fd ⟨pa,kw⟩ (ps.zip us))(h:good X (rD X) O (okN F n ds) σ H Q):ab4 (model X.prog X.w) X.A (PySem.call (.ref f) pa kw) (EP X pins σ Q) X.xe s:=by
 unfold okN at h;by_cases hl:ds.length=n
 ·rw[if_pos hl] at h;have sp:Rc ts X.K n F vs H Q λu _ _=>∃c C,F ds= .err c/\u= .ref C/\PySem.W.nsIn X.K ab5 c=some (some (.ref C)):=by
   refine⟨hT,O,ds,r1,hl,j.al,?_⟩;cases q:F ds with
   |ok d=>rw[q] at h;exact h
   |bad=>rw[q] at h;exact h
   |err c=>exact λC _ hC=>⟨c,C,rfl,rfl,hC⟩
  have hll:us.length=ps.length:=by rw[<-r.length];exact ok.len _ _ _ _ sp
  refine afz (aex ((ok.mono hkm).run X.A X.stack s H ⟨pa,kw⟩ us vs Q _ hr I.env0 (hb hll) r sp) λr s' hq=>?_);cases r with
  | error ev=>
   obtain⟨a,C,T,H',rfl,hE,rs⟩:=hq;obtain⟨c,C',q,z,hC⟩:=hE;cases z;rw[q] at h;exact h H pins s a C T s' H' (Same.refl _) I hC rs
  | ok fl=>
   cases fl with
   |ret u=>exact I.after hq
   |next=>exact acL hq
   |brk=>exact acL hq
   |cont=>exact acL hq
 ·rw[if_neg hl] at h;exact h.elim
theorem q9{sa sb sc}(S:Sel sa sb sc)(G:Le X.prog X.w X.K X.mg X.base k x n F fd ps ts)(hT:Tb ts X.H₀)(hr:Room m X.A)(hkm:k<=m)(hb:KB X.K fd ps [] sa)
  (ha:DA X (e::es) fa)(hg:Gl X x:=by rfl)(hdb:(x ==("__debug__" :Str))=false:=by decide)(he:ab2 (e::es) X.env=(false,eval e X.env)::ab2 es X.env:=by rfl)(hpl:(acO pos (ab2 es X.env)).any (·.1)=false:=by rfl):
  DE X (.Call (.Name x p) (e::es) [] pos) (gM F n 0 sc fa (λ_=> .ok [])):=by
 obtain⟨f,ok,hm,hk⟩:=G;intro pins s σ H Q I h;obtain⟨ρ,O,j,h⟩:=h;refine adL (ld_glob I hg hm ?_ hdb);have key:tG X (Du X) fa σ H (λvs H1=>∃ds,Same H H1/\aO X.K O H1 ds vs/\In X O H1 ρ σ/\good X (rD X) O (okN F n (ds++pickK .non sc [])) σ H1 Q):=go j h λds vs H1 e1 s1 r1 j1 h1=>⟨ds,s1,r1,j1,h1⟩;refine PySem.W.callWith_K (h₀:=X.base) I.ok.mod.kin hk (thn (ha pos pins s σ H _ I key) λus s1 ⟨vs,H1,I1,r,q⟩=>⟨I1.kIn,?_⟩) he hpl;obtain⟨ds,sm,r1,j1,h1⟩:=q;exact T7 ok hr hkm I1 (hT.un I1.base) (r1.append (S.reps .nil)) (r.append (S.vals .nil)) j1 (λhl=>hb s1 us [] I1.kIn (by rw[z1d,Ie] at hl;exact hl) rfl) h1
theorem Qa{sa sb sc}(S:Sel sa sb sc)(G:Le X.prog X.w X.K X.mg X.base k x n F fd ps ts)(hT:Tb ts X.H₀)(hr:Room m X.A)(hkm:k<=m)(hb:KB X.K fd ps ks sa)
  (ha:DA X (e::es) fa)(hkw:DK X kws fk)(hg:Gl X x:=by rfl)(hall:(ae1 pos (aea kws X.env)).all (·.1.isSome)=true:=by rfl)(hks:(ae1 pos (aea kws X.env)).filterMap (·.1)=ks:=by rfl)
  (hdb:(x ==("__debug__" :Str))=false:=by decide)(he:ab2 (e::es) X.env=(false,eval e X.env)::ab2 es X.env:=by rfl)
  (hpl:((acO pos (ab2 (e::es) X.env)).any (·.1) || (ae1 pos (aea kws X.env)).any (·.1.isNone))=false:=by rfl):
  DE X (.Call (.Name x p) (e::es) kws pos) (gM F n ks.length sc fa fk):=by
 obtain⟨f,ok,hm,hk⟩:=G;intro pins s σ H Q I h;obtain⟨ρ,O,j,h⟩:=h;refine adL (ld_glob I hg hm ?_ hdb);have key:tG X (Du X) fa σ H λvs H1=>tG X (Du X) fk σ H1 λzs H2=>zs.length=ks.length/\∃dd,aO X.K O H2 dd (vs++pickK .non sb zs)/\In X O H2 ρ σ/\good X (rD X) O (okN F n dd) σ H2 Q:=by
  refine go j h λds vs H1 e1 s1 r1 j1 h1=>?_;refine go j1 h1 λzd zs H2 e2 s2 r2 j2 h2=>?_;by_cases hz:zd.length=ks.length
  ·rw[if_pos hz] at h2;exact⟨by rw[<-r2.length];exact hz,_,(r1.same s2).append (S.reps r2),j2,h2⟩
  ·rw[if_neg hz] at h2;exact h2.elim
 refine PySem.W.callWith_KW (h₀:=X.base) I.ok.mod.kin hk hall (thn (ha pos pins s σ H _ I key) λus s1 ⟨vs,H1,I1,r,q⟩=>?_) hpl he;refine thn (hkw pos pins s1 σ H1 _ I1 q) λws s2 ⟨zs,H2,I2,rz,q2⟩=>⟨I2.kIn,?_⟩;rw[hks];obtain⟨hz,dd,r1,j1,h1⟩:=q2;exact T7 ok hr hkm I2 (hT.un I2.base) r1 (r.append (S.vals rz)) j1 (λhl=>hb s2 us ws I2.kIn (by rw[z1d,Ie] at hl;exact hl) (by rw[<-rz.length];exact hz)) h1
theorem aa4{K:PySem.W.Frag}(b:Binds K fd ps []):KB K fd ps [] []:=λs us ws i hl hw=>by
 cases acu hw;have:=b s us i (by rw[acE];exact hl);simpa[pickK] using this
end
section
variable{X:Cx}{tg a b c:ab6}{p pos p2 pos2:Pos}{fa:aB->R (List D)}{ta:TA}
end
end Pu
namespace Pu
open PySem PySem.Spec PySem.W L2
open PyProof.Rows hiding St
open PySem.SeqAt
section
variable{X:Cx}{e1 e2:ab6}{f g:aB->R D}
end
end Pu
namespace Pu
open PySem PySem.Spec L2
open PyProof.Rows hiding St
section
variable{X:Cx}
theorem V9{tg iter elt:ab6}{ifs:List ab6}{scope:adA}{pos:Pos}{fi:aB->R (List D)}{gt:D->aB->R aB}{ft:aB->R Bool}{fe:aB->R D}(ts:List Str)(caps:List Nat)
  (hc:X.calm=true)(hb:Ck X.env.scope scope ts X.N=true)(hcap:(dW scope).map (λx=>jH x X.N)=caps)
  (hi:DI X tg iter fi)(hk:pJ ts.length gt)(hg:∀C s H ex,(cG X scope ts C s H ex).N.Nodup->DG (cG X scope ts C s H ex) tg gt){Ek:List (abX×Str)}(hT:Tb Ek X.H₀)(ht:∀C s H ex,Tb Ek H->Ka (cG X scope ts C s H ex) ifs ft)(he:∀C s H ex,Tb Ek H->DE (cG X scope ts C s H ex) elt fe)
  (hs:∀x,adQ iter X.env x=pure x:=by intro _;rfl):
  DE X (.ListComp elt [⟨tg,iter,ifs,0⟩] scope pos) (bL ts.length caps fi gt ft fe):=by
 intro pins s σ H Q I h;obtain⟨ρ,O,j,h⟩:=h;rw[eval_ListComp];exact Il ts caps hc hb hcap hi hk hg hT ht he hs (use:=none) (Qr:=EP X pins σ Q) I j (λv H' s5 C m f acc hv I6 hns fp rv=>⟨m,hns,λh' sb=>⟨v,H',I6.fp fp sb,rv,hv⟩⟩) h
end
end Pu
namespace Pu
open PySem PySem.Spec PySem.W L2
open PyProof.Rows hiding St
section
variable{prog:ab9}{w:acf}{A:acg}{s:abZ}
end
section
variable{X:Cx}
end
section
variable{X:Cx}
end
end Pu
namespace Pu
open PySem PySem.Spec L2
open PyProof.Rows hiding St
section
variable{X:Cx}
end
section
variable{K:PySem.W.Frag}{O O':abX->Prop}{H H':Hp}{rs:List abX}{ds:List D}
end
section
variable{X:Cx}
end
section
variable{P:ab9}{w:acf}{K:PySem.W.Frag}{mg:Str->Option abY}{base:ace}
end
section
variable{X:Cx}{c x y:Str}{C:abX}{np cpos pos p1 p2 p3 p4:Pos}{k1 k2:Nat}{a b:ab6}{f g:aB->R D}
def Wa(k:Int->R D):D->R D
 | .int i=>k i
 |_=> .bad
def Xc(x y:Str)(f g:aB->R D):aB->R D:=λρ=>(f ρ).bind (Wa λi=>if i.natAbs.log2<1920 then (g ρ).bind (Wa λj=>if j.natAbs.log2<1920 then .ok (.str (((afv++x++acC (toString i))++y)++acC (toString j))) else .bad) else .bad)
theorem Qc{i:Int}(h:i.natAbs.log2<1920):(acC (toString i)).length<=1921:=by
 rw[PySem.ofString_length];exact int_text_length_le (by decide) h
theorem aa5(ha:DE X a f)(hb:DE X b g)(hx:x.length<=1000:=by decide +kernel)(hy:y.length<=1000:=by decide +kernel):DE X (.JoinedStr [.Constant (.str x) k1 p1,.FormattedValue a (-1) none p2,.Constant (.str y) k2 p3,.FormattedValue b (-1) none p4] pos) (Xc x y f g):=by
 intro pins s σ H Q I h;obtain⟨ρ,O,j,h⟩:=h;refine wpAny_JoinedStr ?_;have key:tG X (rD X) f σ H (λv H1=>∃i,v= .int i/\i.natAbs.log2<1920/\tG X (rD X) g σ H1 (λu H2=>∃i',u= .int i'/\i'.natAbs.log2<1920/\Q (.str (((afv++x++acC (toString i))++y)++acC (toString i'))) H2)):=by
  refine go j h λdx v H1 e1 s1 r1 j1 h1=>?_;cases dx with
  | int i =>
   have h1:good X (rD X) O (if i.natAbs.log2<1920 then (g ρ).bind (Wa λj=>if j.natAbs.log2<1920 then .ok (.str (((afv++x++acC (toString i))++y)++acC (toString j))) else .bad) else .bad) σ H1 Q:=h1;by_cases c:i.natAbs.log2<1920
   ·rw[if_pos c] at h1;refine⟨i,r1.int,c,go j1 h1 λdy u H2 e2 s2 r2 j2 h2=>?_⟩;cases dy with
    | int i'=>
     have h2:good X (rD X) O (if i'.natAbs.log2<1920 then .ok (.str (((afv++x++acC (toString i))++y)++acC (toString i'))) else .bad) σ H2 Q:=h2;by_cases c':i'.natAbs.log2<1920
     ·rw[if_pos c'] at h2;exact⟨i',r2.int,c',fin h2 (j5 _)⟩
     ·rw[if_neg c'] at h2;exact h2.elim
    |_=>exact h2.elim
   ·rw[if_neg c] at h1;exact h1.elim
  |_=>exact h1.elim
 have L0:(afv++x).length=x.length:=by rw[adJ];exact Nat.zero_add _
 refine afT ⟨x,_,rfl,by rw[L0,ac6];omega,wpAny_FormattedValue_plain (thn (ha pins _ σ H _ (I.tok _) key) λv s1 bC=>?_)⟩;obtain⟨v',H1,I1,r1,i,e1,fact,q1⟩:=bC;subst e1;obtain⟨t1,rfl⟩:=r1;have l1:=Qc fact;refine wpAny_formatField_int fact ⟨_,_,rfl,by rw[adJ,L0,ac6];omega,?_⟩;refine afT ⟨y,_,rfl,by rw[adJ,adJ,L0,ac6];omega,wpAny_FormattedValue_plain (thn (hb pins _ σ H1 _ ((I1.tok _).tok _) q1) λu s2 bC=>?_)⟩;obtain⟨u',H2,I2,r2,i',e2,c,q2⟩:=bC;subst e2;obtain⟨t2,rfl⟩:=r2;have l2:=Qc c;refine wpAny_formatField_int c ⟨_,_,rfl,by rw[adJ,adJ,adJ,L0,ac6];omega,?_,(.str (((afv++x++acC (toString i))++y)++acC (toString i'))),H2,((I2.tok _).tok _),⟨_,rfl⟩,q2⟩;rw[adJ,adJ,adJ,L0,ac6];omega
def Qd(fa:aB->R (List D))(c:Str):aB->So:=λρ=>match fa ρ with
 | .ok ds=>if ds.length<=1000000 then .ex c ρ else .bad
 |_=> .bad
theorem T8{e:ab6}{fa:aB->R (List D)}(hc:X.calm=true)(hx:W8 X.K X.mg c C)(ha:DA X [e] fa)(hg:Gl X c:=by rfl)(hdb:(c ==("__debug__" :Str))=false:=by decide)
  (he:ab2 [e] X.env=(false,eval e X.env)::ab2 [] X.env:=by rfl)(hpl:(acO cpos (ab2 [e] X.env)).any (·.1)=false:=by rfl):
  DS X (.Raise (some (.Call (.Name c np) [e] [] cpos)) none pos) (Qd fa c):=by
 intro pins s σ H E I h;obtain⟨H0,O0,O,ρ,j,h⟩:=h;obtain⟨bm,N,nm,qn,bs,hdct,sn,sub,ab,col,dd,k0,k1,k2,k3,k5,mN,o1,o2,o3,o4⟩:=Tt I.mod.kin hx.ex;obtain⟨ds,ef,dl,e0⟩:∃ds,fa ρ= .ok ds/\ds.length<=1000000/\Qd fa c ρ= .ex c ρ:=by
  unfold Qd at h |-;cases q:fa ρ with
  | ok ds=>
   rw[q] at h;by_cases l:ds.length<=1000000
   ·exact⟨ds,rfl,l,by simp only[if_pos l]⟩
   ·simp only[if_neg l] at h;exact h.elim
  |err z=>rw[q] at h;exact h.elim
  |bad=>rw[q] at h;exact h.elim
 rw[e0] at h;have key:tG X (Du X) fa σ H (λvs H1=>ds.length=vs.length/\Same H H1):=⟨ρ,O,j.inn,by rw[ef];exact λvs H1 s1 r1=>⟨r1.length,s1⟩⟩;refine wpAny_Raise_call_subU (C:=C) (nm:=nm) (q:=qn) (N:=N) (bs:=bs) (bm:=bm) (hdct:=hdct) (sn:=sn) (sub:=sub) (ab:=ab) (col:=col) (dd:=dd) (k0:=k0) (k1:=k1) (k2:=k2) (k3:=k3) (k5:=k5)
  PySem.F.excBase_ValueError (by rfl) PySem.F.excBase_ValueError (mN:=mN) (o4.hasType PySem.F.excBase_ValueError.hasBase) (I.ok.hd hc) hpl o3 (ld_glob I hg hx.mg ⟨rfl,?_⟩ hdb)
 have hA:=ha cpos pins s σ H _ I key;rw[he] at hA |-;refine afC (ac1 hA (λus s1 ⟨vs,H1,I1,r,hl,sm⟩=>?_) λ_ _ z=>z);refine⟨rfl,?_,I1.bk _ _ o1,o2.keeps I1.bk,o4.keeps I1.bk,λh' ev hm=>?_⟩
 ·show us.length<=sizeLine;rw[<-r.length,<-hl];exact z0b dl dJ
 ·obtain⟨t,ht,_,_⟩:=hm.there;exact h σ H1 O (j.grow sm) H1 pins s1 ev C none _ H1 (Same.refl _) I1 hx.ns ⟨Same.refl _,Un.kept hm.keeps,I1.hok.kept hm.keeps,rfl,I1.bare,⟨_,_,ht,rfl,rfl,rfl,rfl⟩,hm.new,wJ I1.hok hm.new,λ_ z=>by cases z⟩
theorem Xd{ρ:aB}{i j:Int}(e1:f ρ= .ok (.int i))(e2:g ρ= .ok (.int j))(hi:i.natAbs<1000)(hj:j.natAbs<1000):∃d,Xc x y f g ρ= .ok d:=by
 have l1:i.natAbs.log2<1920:=ae4 (Nat.log2_le_self _) (by omega);have l2:j.natAbs.log2<1920:=ae4 (Nat.log2_le_self _) (by omega);refine⟨.str (((afv++x++acC (toString i))++y)++acC (toString j)),?_⟩;rw[Xc,e1,R.bh];show (if _ then _ else _)=_;rw[if_pos l1,e2,R.bh];show (if _ then _ else _)=_;rw[if_pos l2]
theorem Xe{ρ:aB}(e:∃d,f ρ= .ok d):Qd (ak f (λ_=> .ok [])) c ρ= .ex c ρ:=by
 obtain⟨d,e⟩:=e;unfold Qd ak;rw[e];rfl
end
end Pu
namespace L2
open PySem PySem.Spec PyProof.Rows
section
variable{X:Cx}{pos:Pos}
end
end L2
namespace Pu
open PySem PySem.Spec L2
open PyProof.Rows hiding St
section
variable{X:Cx}{a b c:ab6}{f g u:aB->R D}{pos:Pos}
end
section
variable{X:Cx}{H0 H:Hp}{O0 O:abX->Prop}{ρ:aB}{σ:St}{sts:List acp}{g:aB->So}
end
section
variable{X:Cx}
end
section
variable{X:Cx}{pos:Pos}
end
section
variable{X:Cx}
end
section
variable{X:Cx}
abbrev ReT:=Hp->(abX->Prop)->Hp->D->V->Prop
abbrev Z4:=D->Nat->aB->Option aB
section
variable{R1 R2 R3:ReT}{p q r:Z4}{i k l:Nat}{f g u:aB->R D}{H0 H:Hp}{O0 O:abX->Prop}{ρ:aB}{σ:St}{E:Ends}
end
section
variable{R1 R2 R3:ReT}{p q r:Z4}{f g u:aB->R D}{a b c:ab6}{pos:Pos}
end
end
section
variable{X:Cx}{pos:Pos}
end
end Pu
namespace PyProof.Rows
open PySem PySem.Spec
section
variable{prog:ab9}{w:acf}{A:acg}{E:abY->abZ->Prop}{s:abZ}
end
end PyProof.Rows
namespace Pu
open PySem PySem.Spec L2
open PyProof.Rows hiding St
section
variable{X:Cx}
end
end Pu
namespace PySem
open AutoSeq1 (wpAny_loadPart')
open MeetsSeq MeetsSeq2 SeqAt
end PySem
namespace Pu
open PySem PySem.Spec L2 PySem.SeqAt
open PyProof.Rows hiding St
section
variable{X:Cx}{e1 e2:ab6}{f g:aB->R D}
end
end Pu
namespace Pu
open PySem PySem.Spec L2
open PyProof.Rows hiding St
section
variable{X:Cx}{es:List ab6}{fa:aB->R (List D)}{pos:Pos}
end
section
variable{X:Cx}{a:ab6}{p pos p2 pos2:Pos}{fa:aB->R (List D)}
end
section
variable{X:Cx}
theorem Rf{n:Nat}(h:n<=1000):n<=sizeLine:=z0b h (by decide)
theorem Yl:OpR X (acJ .Add) (λx y H Q=>∃a b:Str,x= .str a/\y= .str b/\a.length+b.length<=1000/\Q (.str (a++b)) H):=by
 intro pins s σ H x y v u Q I rx ry h;obtain⟨a,b,rfl,rfl,hl,q⟩:=h;obtain⟨t,rfl⟩:=rx;obtain⟨t',rfl⟩:=ry;exact PyProof.Rows.add_str (λt' tk=>⟨.str _,H,I.tok _,⟨_,rfl⟩,q⟩) (Rf hl)
def rW:D->D->R D
 | .str a,.str b=>if a.length+b.length<=1000 then .ok (.str (a++b)) else .bad
 |x,y=>c7 x y
theorem mD:gw X (acJ .Add) rW:=by
 obtain⟨r0,o0,c0⟩:=cD (X:=X);refine⟨_,OpR.or o0 Yl,λρ O σ H Q x y dx dy j0 rx ry h=>?_⟩;unfold rW at h;split at h
 ·rename_i a b;by_cases hl:a.length+b.length<=1000
  ·rw[if_pos hl] at h;exact .inr ⟨a,b,rx.str,ry.str,hl,fin h (j5 _)⟩
  ·rw[if_neg hl] at h;exact h.elim
 ·exact .inl (c0 ρ O σ H Q x y dx dy j0 rx ry h)
def Z5(x:Str):It:=⟨λi _=>i<x.cps.size,λi H v H'=>H'=H/\∃c,x.cps[i]?=some c/\v= .str ⟨#[c]⟩,λi _=>x.cps.size<=i⟩
theorem T9{P:ab9}{w:acf}{K:PySem.W.Frag}{tg:ab6}(it:abX)(x:Str)(t:Tok):Turn P w K tg (Z5 x) [it] it (λi h=>h.IsStrIter it "str_ascii_iterator" x t i) where
 mem:=by simp
 obj:=λi h st b hb=>by
  have e:b=it:=by simpa using hb
  subst e;obtain⟨o,ho,hc,hd⟩:=st;exact⟨o,ho,λv z=>by rw[hd] at z;cases z⟩
 keep:=λi h h' st k=>let⟨o,ho,r⟩:=st;⟨o,k it (by simp) o ho,r⟩
 item:=by
  intro X hP hw hK hc i pins s σ H E I hf st hg;subst hP hw hK;obtain⟨f0,f1,f2,f3,f4,f5⟩:=hf it (by simp);have W:=Walks.strAscii (prog:=X.prog) (w:=X.w) (I.ok.hd hc) it x t;refine W.item i s _ _ hg st λv h' tk hv st' kk=>?_;obtain⟨c,u,hc',rfl⟩:=hv;have I1:Inv X pins σ H {s with heap:=h',toks:=tk}:=I.turned (λb o hb e=>kk b o (by simpa using hb) e) f0 f1 f3 f4 f5;obtain⟨o,ho,hcl,hd⟩:=id st';exact⟨_,rfl,go_of (s:={s with heap:=h',toks:=tk}) (n:= "str_ascii_iterator") ho hcl hd (by decide) ⟨.str ⟨#[c]⟩,H,I1,⟨u,rfl⟩,⟨rfl,c,hc',rfl⟩,st',λb hb=>(hf b hb).1⟩⟩
 done:=by
  intro X hP hw hK hc i pins s σ H E I hf st hg;subst hP hw hK;obtain⟨f0,f1,f2,f3,f4,f5⟩:=hf it (by simp);exact wpAny_pyNext_ascii_end (I.ok.hd hc) st (by have:x.cps.size<=i:=hg;simp;omega) λh' eb=>⟨rfl,I.turned (t':=s.toks) (λb o hb e=>eb b o hb e) f0 f1 f3 f4 f5⟩
 self:=λ_ _ _ _ _ st h=>wpAny_pyIter_striter_ascii st h
def signs(x:Str):List D:=x.cps.toList.map λc=> .str ⟨#[c]⟩
theorem YR.text{K:PySem.W.Frag}{O:abX->Prop}{H:Hp}(x:Str):YR K O H (Z5 x) (signs x):=by
 intro O' H' _ i;refine⟨λd e=>?_,λe=>?_⟩
 ·unfold signs at e;rw[z2b] at e;cases q:x.cps.toList[i]? with
  |none=>rw[q] at e;cases e
  | some c=>
   rw[q] at e;cases e;have hc:x.cps[i]?=some c:=by rw[<-Array.getElem?_toList];exact q
   refine⟨(adw.mp hc).1,λy H2 z=>?_⟩;obtain⟨rfl,c',h1,rfl⟩:=z;rw[hc] at h1;cases h1;exact⟨Same.refl _,j5 _⟩
 ·show x.cps.size<=i;unfold signs at e;simpa using e
def abF(tl:TE):TI:=λσ H R=>tl σ H λv H1=>∃x:Str,v= .str x/\x.cps.all (· < 128)=true/\R (Z5 x) H1
theorem Ym{tg e:ab6}{tl:TE}(he:PE X e tl):PI X tg e (abF tl):=by
 intro pins s σ H R I h;refine thn (he pins s σ H _ I h) λv s1 bC=>?_;obtain⟨x,H1,I1,r1,q1⟩:=bC;obtain⟨y,rfl,ha,q⟩:=q1;obtain⟨t,rfl⟩:=r1;refine wpAny_pyIter_ascii ha ?_;refine⟨s1.heap.objs.size,[s1.heap.objs.size],_,_,H1,rfl,I1.kept (t':=s1.toks) λb o e=>z1a _ e,T9 _ y t,⟨_,z1f _ rfl,rfl,rfl⟩,λb hb=>?_,q⟩;have e:b=s1.heap.objs.size:=by simpa using hb
 subst e;exact I1.fpOk (z0g _) (I1.hok.fresh (z0g _))
def CN(f:aB->R D):aB->R (List D):=λρ=>(f ρ).bind λd=>match d with
 | .str x=>if x.cps.all (· < 128)=true then .ok (signs x) else .bad
 |_=> .bad
theorem G3{tg e:ab6}{f:aB->R D}(he:DE X e f):DI X tg e (CN f):=by
 refine PI.imp (Ym he) λσ H Q q=>?_;obtain⟨ρ,O,j,q⟩:=q;refine go j q λd v H1 e1 s1 r1 j1 h1=>?_;cases d with
 | str x=>
  have h1:good X (rIt X) O (if x.cps.all (· < 128)=true then .ok (signs x) else .bad) σ H1 Q:=h1;by_cases ha:x.cps.all (· < 128)=true
  ·rw[if_pos ha] at h1;exact⟨x,r1.str,ha,fin h1 (YR.text x)⟩
  ·rw[if_neg ha] at h1;exact h1.elim
 |_=>exact h1.elim
theorem Ua:MtR X "str.count" (λx xs H Q=>∃a b:Str,x= .str a/\xs=[.str b]/\Q (.int ((aei a b 0 a.length (a.length+1)).length:Nat)) H):=by
 intro pins s σ H x xs v us Q I rx rv h;obtain⟨a,b,rfl,rfl,q⟩:=h;obtain⟨t,rfl⟩:=rx;obtain⟨u,rfl,ru⟩:=rv.one;obtain⟨t',rfl⟩:=ru;refine call_gives PySem.F.slot_str_count (typeIs_str s a t) PySem.F.entry_str_count (PySem.F.args_str_count_2 _ _) (gives_str_count a b t t') ?_;exact⟨.int _,H,I.tok _,⟨_,rfl⟩,q⟩
def Wb(f g:aB->R D):aB->R D:=λρ=>(f ρ).bind λx=>match x with
 | .str a=>(g ρ).bind λy=>match y with
  | .str b=> .ok (.int ((aei a b 0 a.length (a.length+1)).length:Nat))
  |_=> .bad
 |_=> .bad
theorem Iw{e1 e2:ab6}{f g:aB->R D}{apos cpos:Pos}(h1:DE X e1 f)(h2:DE X e2 g)
  (hbase:af5 e1 "count" X.env (eval e1 X.env)=eval e1 X.env:=by rfl)
  (hfew:((acO cpos (ab2 [e2] X.env)).all (λx=> !x.1) && (ae1 cpos (aea [] X.env)).all (λx=>x.1.isSome)
   && decide ([e2].length+([]:List ad0).length+(if ([]:List ad0).isEmpty then 0 else 1)<30))=true:=by rfl)
  (hline:(apos.endLine ==cpos.line)=true:=by rfl) (hs1:ab2 [e2] X.env=(false,eval e2 X.env)::ab2 [] X.env:=by rfl) (hplain:(acO cpos (ab2 [] X.env)).any (·.1)=false:=by rfl):
  DE X (.Call (.Attribute e1 "count" apos) [e2] [] cpos) (Wb f g):=by
 refine PE.imp (pe_bm PySem.F.plainAttrs_str PySem.F.slot_str_count PySem.F.type_str_count Ua h1 (pa_cons h2 pa_nil hs1) hbase hfew hline hs1 hplain) λσ H Q h=>?_;obtain⟨ρ,O,j,h⟩:=h;refine go j h λd v H1 e1 s1 r1 j1 h1=>?_;cases d with
 | str a=>
  obtain rfl:=r1.str;refine⟨rfl,?_⟩;refine go j1 h1 λdy y H2 e2 s2 r2 j2 h2=>?_;cases dy with
  | str b=>
   obtain rfl:=r2.str;exact⟨a,b,rfl,rfl,fin h2 (cg _)⟩
  |_=>exact h2.elim
 |_=>exact h1.elim
end
end Pu
namespace Pu
open PySem PySem.Spec PySem.W L2
open PyProof.Rows hiding St
variable{l l':Int}
def nats(x:Str):List Int:=x.cps.toList.map aes
theorem CP:∀a b:List Nat,bO (a.map aes) (b.map aes)=decide (a<b)
 |[],[]=>rfl
 |[],_::_=>by simp[bO]
 |_::_,[]=>by simp[bO]
 | x ::a,y::b=>by
  rw[z1h,z1h,bO,CP a b];by_cases e:x=y
  ·subst e;simp[afw]
  ·have e1:¬aes x=aes y:=λz=>e (Int.ofNat.inj z);rw[if_neg e1];by_cases q:x<y
   ·have q1:aes x<aes y:=agv.mpr q;simp[afw,q]
   ·have q1:¬aes x<aes y:=λz=>q (agv.mp z);simp[afw,q,e]
def oJ(h:ace)(a:abX)(l:Int)(x:Str):Prop:=∃(o:Obj) (n:Nat) (t u:Tok),h.get? a=some o/\o.cls= .type "tuple"/\o.data= .seq #[.int l t,.str x u] n
theorem oJ.keeps{h h':ace}{a:abX}{x:Str}(z:oJ h a l x)(k:∀b o,h.get? b=some o->o.cls= .type "tuple"->h'.get? b=some o):oJ h' a l x:=
 let⟨o,n,t,u,h1,h2,r⟩:=z;⟨o,n,t,u,k _ _ h1 h2,h2,r⟩
def Ub(K:PySem.W.Frag)(H:Hp)(a:abX)(ns:List Int):Prop:=∃l x,ns=l::nats x/\SqT K H a [.int l,.str x]
section
variable{prog:ab9}{w:acf}{A:acg}{s:abZ}
theorem Z6{E:abY->abZ->Prop}{x y:abX}{p q:Str}{Q:Bool->abZ->Prop}(hx:oJ s.heap x l p)(hy:oJ s.heap y l' q)(h:Q (bO (l::nats p) (l'::nats q)) s):
  ab4 (model prog w) A (keyLt' (tuples' true) (.ref x) (.ref y)) Q E s:=by
 obtain⟨o,n,t,u,h1,h2,h3⟩:=hx;obtain⟨o',n',t',u',g1,g2,g3⟩:=hy;refine kat_lt h1 h3 g1 g3 ?_;show KatLex prog w A true (decide (2<2)) Q [(.int l t,.int l' t'),(.str p u,.str q u')] 0 s;rw[bO] at h;refine kat_cons (ae2 l t l' t' prog w _ _ ?_);by_cases e1:l=l'
 ·rw[if_pos e1] at h;rw[show (l ==l')=true by simpa using e1];refine kat_yes (kat_cons (agj ?_));by_cases e3:p=q
  ·rw[e3,ig] at h;rw[decide_eq_true e3];exact kat_yes (kat_nil (by simpa using h))
  ·rw[decide_eq_false e3];refine kat_no ?_;show ab4 (model prog w) A (oneLt' false _ _) Q _ s;refine kat_one _ _ (lt_str ?_);rw[nats,nats,CP] at h;exact h
 ·rw[if_neg e1] at h;rw[show (l ==l')=false by simpa using e1];refine kat_no ?_;show ab4 (model prog w) A (keyLt' oneType' (.int l t) (.int l' t')) Q _ s;exact kat_lt_int h
theorem aa6{x y:abX}{p q:Str}(hx:oJ s.heap x l p)(hy:oJ s.heap y l' q):∃(oa ob:Obj) (xs ys:Array abY) (na nb:Nat),s.heap.get? x=some oa/\oa.cls= .type "tuple"/\oa.data= .seq xs na/\s.heap.get? y=some ob/\ob.cls= .type "tuple"/\ob.data= .seq ys nb/\xs.size=ys.size/\Lx prog w A s (bO (l::nats p) (l'::nats q)) xs.toList ys.toList:=by
 obtain⟨o,n,t,u,h1,h2,h3⟩:=hx;obtain⟨o',n',t',u',g1,g2,g3⟩:=hy;refine⟨o,o',_,_,n,n',h1,h2,h3,g1,g2,g3,rfl,?_⟩;show Lx prog w A s _ [.int l t,.str p u] [.int l' t',.str q u'];rw[bO];by_cases e1:l=l'
 ·rw[if_pos e1];refine .yes (q8 (by simpa using e1)) ?_;have eq:T5 prog w A s (.str p u) (.str q u') (decide (p=q)):=λQ E h=>agj h;by_cases e3:p=q
  ·rw[decide_eq_true e3] at eq;exact .yes eq (.nil (by rw[e3];exact ig _))
  ·rw[decide_eq_false e3] at eq;exact .no eq λQ E h=>lt_str (by rw[nats,nats,CP] at h;exact h)
 ·rw[if_neg e1];exact .no (q8 (by simpa using e1)) GX
theorem Z7{E:abY->abZ->Prop}{a b:abX}{p q:Str}{Q:abY->abZ->Prop}(hu:A.units+2<adn)(hx:oJ s.heap a l p)(hy:oJ s.heap b l' q)(h:Q (.bool (bO (l::nats p) (l'::nats q))) s):ab4 (model prog w) A (aeK .Lt (.ref a) (.ref b)) Q E s:=by
 obtain⟨oa,n,t,u,h1,h2,_⟩:=id hx;obtain⟨ob,n',t',u',g1,g2,_⟩:=id hy;refine aeB (op:= .Lt) ⟨oa,h1,h2⟩ ⟨ob,g1,g2⟩ PySem.F.slot_tuple_lt
   (acT PySem.F.slot_tuple_lt ⟨oa,h1,h2⟩ PySem.F.entry_tuple_lt (by
    obtain⟨oa,ob,xs,ys,na,nb,k1,k2,k3,k4,k5,k6,k7,k8⟩:=aa6 (prog:=prog) (w:=w) (A:=A.in1) hx hy;exact Bx k1 k3 k4 k5 k6 k8 k7 ⟨_,rfl,(λe=>nomatch e),h⟩) (PySem.F.args_tuple_lt_2 _ _)) (by omega)
end
theorem Uc{h:ace}:∀(as:List abX),(∀a∈as,∃l x,oJ h a l x)->∃fs,KatTups h (as.map ab8) fs/\fs.length=as.length/\∀f∈fs,∃k t,f=afS k t
 |[],_=>⟨[],.nil,rfl,λf hf=>by simp at hf⟩
 | a::as,hx=>by
  obtain⟨l,x,o,n,t,u,h1,h2,h3⟩:=hx a acq;obtain⟨fs,k1,k2,k3⟩:=Uc as λb hb=>hx b (z2f _ hb);refine⟨.int l t::fs,KatTups.cons h1 h2 h3 rfl k1,by simp[k2],λf hf=>?_⟩;rcases ach.mp hf with z |z
  ·exact⟨l,t,z⟩
  ·exact k3 f z
section
variable{X:Cx}
theorem Xf{pins:List (abX×Obj)}{σ:St}{H:Hp}{s:abZ}{a:abX}{ns:List Int}(I:Inv X pins σ H s)(h:Ub X.K H a ns):∃l x,ns=l::nats x/\oJ s.heap a l x:=by
 obtain⟨l,x,rfl,h1⟩:=h;obtain⟨its,r1,⟨o,ho,hc,n,hd⟩,_⟩:=I.tuple h1;refine⟨l,x,rfl,?_⟩;cases r1 with
 | cons a1 r1=>
  cases r1 with
  | cons a2 r1=>
   cases r1;obtain⟨t,rfl⟩:=a1;obtain⟨u,rfl⟩:=a2;exact⟨o,n,t,u,ho,hc,hd⟩
theorem Rg(hu:X.A.units+2<adn):CallR X (.builtin "sorted") (λxs H Q=>∃(a:abX) (as:List abX) (ts:List (List Int)),xs=[.ref a]/\SqL X.K H a (as.map V.ref)/\as.length=ts.length/\ts.length<64/\ts.Nodup/\(∀(i:Nat) b t,as[i]?=some b->ts[i]?=some t->Ub X.K H b t)/\
  ∀(B:abX) (bs:List abX),H B=none->bs.length=ts.length->(∀(i:Nat) b t,bs[i]?=some b->(dZ ts)[i]?=some t->b∈as/\∃j:Nat,as[j]?=some b/\ts[j]?=some t)->Q (.ref B) (upd H B (.lst (bs.map V.ref)))):=by
 intro pins s σ H xs us Q I r h;obtain⟨a,as,ts,rfl,hq,hl,h64,hn,ht,q⟩:=h;obtain⟨u,rfl,rx⟩:=vals1 r;cases rx;obtain⟨its,rv,pl,hz⟩:=I.list hq;have hits:its=as.map ab8:=by
  have:∀(as:List abX) (its:List abY),Vals (as.map V.ref) its->its=as.map ab8:=by
   intro as
   induction as with
   |nil=>intro its r;cases r;rfl
   |cons b as ih=>intro its r;cases r with |cons r1 r2=>cases r1;rw[ih _ r2];rfl
  exact this as its rv
 subst hits;have lenV:(as.map ab8).length=ts.length:=by rw[z1g,hl]
 refine agg kind_sorted plain_sorted entry_sorted (args_sorted1 _) ?_;unfold adu.«sorted»;refine abW (m:=checkCount "sorted" 1 1 _) (ab1 ?_);refine abW (collect_list pl.isList ?_);refine abW (wpAny_newList ?_ (by rw[lenV,ac6];omega));have hsz:((s.heap.push (adk "list" #[] 0)).update s.heap.objs.size (adb (· ++(as.map ab8).toArray))).objs.size=s.heap.objs.size+1:=by
  rw[Heap.size_update,size_push']
 have hB:(((s.heap.push (adk "list" #[] 0)).update s.heap.objs.size (adb (· ++(as.map ab8).toArray))).push (adk "list" (as.map ab8).toArray 0)).get? (s.heap.objs.size+1)=some (adk "list" (as.map ab8).toArray 0):=by
  rw[<-hsz];exact z1f _ rfl
 show ab4 _ _ _ _ _ {s with heap:=((s.heap.push (adk "list" #[] 0)).update s.heap.objs.size (adb (· ++(as.map ab8).toArray))).push (adk "list" (as.map ab8).toArray 0)};rw[hsz];have kp:∀b o,s.heap.get? b=some o->(((s.heap.push (adk "list" #[] 0)).update s.heap.objs.size (adb (· ++(as.map ab8).toArray))).push (adk "list" (as.map ab8).toArray 0)).get? b=some o:=λb o e=>by
  refine z1a _ ?_;rw[adz _ _ _ _ (acw (z2c e))];exact z1a _ e
 have Wc:∀(i:Nat) b,as[i]?=some b->∃l x,ts.getD i []=l::nats x/\oJ s.heap b l x:=λi b e=>by
  have hi:i<ts.length:=by rw[<-hl];exact (z1b e).1
  obtain⟨l,x,e1,e2⟩:=Xf I (ht i b ts[i] e (by simp[hi]));exact⟨l,x,by simp[hi,e1],e2⟩
 have bne:∀b o,s.heap.get? b=some o->b≠s.heap.objs.size+1:=λb o e=>acw (afi (z2c e));refine abW (adD (acT slot_list_sort ⟨_,hB,rfl⟩ entry_list_sort (OJ (lt:=λi j=>bO (ts.getD i []) (ts.getD j [])) (kk:=tuples' true) hB (by rw[lenV];exact h64) (by rw[lenV];exact P0 hn) ?kind ?ask λqq hq TV=>⟨_,rfl,?fin⟩) (args_list_sort _)))
 case kind=>
  intro h2 h6 keep Q' hQ';obtain⟨fs,kt,fl,fi⟩:=Uc (h:=h6) as λb hb=>by
   obtain⟨i,hi⟩:=aft.mp hb;obtain⟨l,x,_,e⟩:=Wc i b hi;exact⟨l,x,e.keeps λd o hd _=>keep d o (bne d o hd) (kp d o hd)⟩
  refine kat_kind (T:= .type "int") kt (by rw[fl,hl];rw[lenV] at h2;omega) (λf hf=>by obtain⟨k,t,rfl⟩:=fi f hf;exact .now) rfl hQ'
 case ask=>
  intro h6 keep i j C hi hj hC;rw[lenV] at hi hj;have hi':i<as.length:=by omega
  have hj':j<as.length:=by omega
  obtain⟨l,x,e1,t1⟩:=Wc i as[i] (by simp[hi']);obtain⟨l',x',e2,t2⟩:=Wc j as[j] (by simp[hj']);unfold kas_ask;rw[show (as.map ab8).getD i aco= .ref as[i] by simp[hi'],show (as.map ab8).getD j aco= .ref as[j] by simp[hj']];refine Z6 (t1.keeps λd o hd _=>keep d o (bne d o hd) (kp d o hd)) (t2.keeps λd o hd _=>keep d o (bne d o hd) (kp d o hd)) ?_;rw[e1,e2] at hC;exact hC
 case fin=>
  rw[lenV] at hq TV;refine ab1 ⟨_,rfl,?_⟩;have hout:(qq.toList.map λi=>(as.map ab8).getD i aco)=(qq.toList.map λi=>as.getD i 0).map ab8:=by
   rw[acz];refine acS λi hi=>?_;have hi':i<as.length:=by rw[hl];exact z2e (hq.perm.mem_iff.mp hi)
   simp[hi']
  rw[hout];obtain⟨cc,ZW⟩:=sortedHeap_at (vs:=as.map ab8) (out:=adO ((qq.toList.map λi=>as.getD i 0).map ab8)) hB;have hf:H (s.heap.objs.size+1)=none:=I.hok.fresh (agF _);refine⟨.ref (s.heap.objs.size+1),upd H (s.heap.objs.size+1) (.lst ((qq.toList.map λi=>as.getD i 0).map V.ref)),I.laid (t':=s.toks) (λb o e=>tV (bne b o e) (kp b o e)) (agF _) ?_,rfl,q _ _ hf ?_ λi b t eb et=>?_⟩
  ·refine⟨?_,_,cc,Gy _,ZW⟩;rw[z1g,z1g,ady,hq.size,ac6];omega
  ·rw[z1g,ady,hq.size]
  ·rw[<-yL hn hq TV] at et;rw[z2b] at eb et;cases ei:qq.toList[i]? with
   |none=>rw[ei] at eb;cases eb
   | some k=>
    rw[ei] at eb et;have eb:as.getD k 0=b:=acj eb;have et:ts.getD k []=t:=acj et;have hk:k<ts.length:=z2e (hq.perm.mem_iff.mp (acy ei));have hk':k<as.length:=by omega
    have ea:as[k]?=some b:=by simp[aeA,hk'] at eb |-;exact eb
    exact⟨acy ea,k,ea,by simp[aeA,hk] at et |-;exact et⟩
theorem Ud(hc:X.calm=true)(hu:X.A.units+4<adn):CallR X (.builtin "min") (λxs H Q=>∃(p:abX) (as:List abX) (ts:List (List Int)),xs=[.ref p]/\SqL X.K H p (as.map V.ref)/\as.length=ts.length/\0<ts.length/\(∀(i:Nat) b t,as[i]?=some b->ts[i]?=some t->Ub X.K H b t)/\
  ∀(k:Nat) (b:abX),as[k]?=some b->ts[k]?=some (jE ts)->Q (.ref b) H):=by
 intro pins s σ H xs us Q I r h;obtain⟨p,as,ts,rfl,hq,hl,hn,ht,q⟩:=h;obtain⟨u,rfl,rx⟩:=vals1 r;cases rx;obtain⟨its,rv,pl,hz⟩:=I.list hq;have hits:its=as.map ab8:=by
  have:∀(as:List abX) (its:List abY),Vals (as.map V.ref) its->its=as.map ab8:=by
   intro as
   induction as with
   |nil=>intro its r;cases r;rfl
   |cons b as ih=>intro its r;cases r with |cons r1 r2=>cases r1;rw[ih _ r2];rfl
  exact this as its rv
 subst hits;have sz:(as.map ab8).toArray.size=ts.length:=by simp[hl]
 obtain⟨b1,b2⟩:=T6 hn;refine Yk (bt:=λi j=>bO (ts.getD i []) (ts.getD j [])) (I.ok.hd hc) pl.isList (by rw[sz];exact hn) (λs2 i j vi vj Q' E' kp e1 e2 hQ=>?_) λv h' tk hv kp=>?_
 ·have at':∀{i:Nat} {v:abY},(as.map ab8).toArray[i]?=some v->∃(b:abX) (l:Int) (x:Str),v= .ref b/\oJ s.heap b l x/\ts.getD i []=l::nats x:=λ{i v} e=>by
   rw[List.getElem?_toArray,z2b] at e;cases z:as[i]? with
   |none=>rw[z] at e;cases e
   | some b=>
    rw[z] at e;cases e;have hi:i<ts.length:=by rw[<-hl];exact (z1b z).1
    obtain⟨l,x,e1,e2⟩:=Xf I (ht i b ts[i] z (by simp[hi]));exact⟨b,l,x,rfl,e2,by simp[hi,e1]⟩
  obtain⟨b,l,x,rfl,t1,e3⟩:=at' e1;obtain⟨b',l',x',rfl,t2,e4⟩:=at' e2;refine Z7 ?_ (t1.keeps λd o hd _=>kp d o hd) (t2.keeps λd o hd _=>kp d o hd) ?_
  ·first |(simp;omega) |(show X.A.units+_<adn;omega)
  ·rw[<-e3,<-e4];exact hQ
 ·rw[sz,List.getElem?_toArray,z2b] at hv;cases z:as[adS (λi j=>bO (ts.getD i []) (ts.getD j [])) (ts.length - 1)]? with
  |none=>rw[z] at hv;cases hv
  | some b=>
   rw[z] at hv;cases hv;refine⟨.ref b,H,I.kept kp,rfl,q _ b z ?_⟩;rw[<-b1,List.getD_eq_getElem?_getD,ac0 b2];rfl
end
def kJ:List Int->D
 |l::ns=> .tup [.int l,.str ⟨(ns.map Int.toNat).toArray⟩]
 |_=> .non
def CQ:D->Option (List Int)
 | .tup [.int l,.str x]=>some (l::nats x)
 |_=>none
def iw:List D->Option (List (List Int))
 |[]=>some []
 | d::ds=>match CQ d,iw ds with
  |some t,some ts=>some (t::ts)
  |_,_=>none
theorem Z8(x:Str):(⟨((nats x).map Int.toNat).toArray⟩:Str)=x:=by
 obtain⟨a⟩:=x;simp[nats,acz,Function.comp_def]
theorem Qe(l:Int)(x:Str):kJ (l::nats x)= .tup [.int l,.str x]:=by rw[kJ,Z8]
def Ez:List D->R D
 | [.lst ds]=>match iw ds with
  |some ts=>if ts.length<64/\ts.Nodup then .ok (.lst ((dZ ts).map kJ)) else .bad
  |none=> .bad
 |_=> .bad
def EY:List D->R D
 | [.lst ds]=>match iw ds with
  |some ts=>if 0<ts.length then .ok (kJ (jE ts)) else .bad
  |none=> .bad
 |_=> .bad
section
variable{K:PySem.W.Frag}{O:abX->Prop}{H:Hp}
theorem Z9{d:D}{v:V}{t:List Int}(e:CQ d=some t)(r:Rep K O H d v):∃b,v= .ref b/\Ub K H b t/\Rep K O H (kJ t) v:=by
 unfold CQ at e;split at e
 ·rename_i l x;cases e;rw[Qe];obtain⟨a,xs,rfl,hq,rs⟩:=id r.tup;obtain⟨v1,v2,rfl,r1,r2⟩:=rs.two;have r1:=r1.int;have r2:=r2.str;subst r1 r2;exact⟨a,rfl,⟨l,x,rfl,hq⟩,r⟩
 ·cases e
theorem G4:∀{ds:List D} {vs:List V} {ts:List (List Int)},iw ds=some ts->aO K O H ds vs->∃as:List abX,vs=as.map V.ref/\as.length=ts.length/\∀(i:Nat) b t,as[i]?=some b->ts[i]?=some t->Ub K H b t/\Rep K O H (kJ t) (.ref b)
 | [],vs,ts,e,r=>by
  cases e;exact⟨[],r.nil_inv,rfl,λi b t h=>by simp at h⟩
 | d ::ds,vs,ts,e,r=>by
  obtain⟨x,r',rfl,h1,h2⟩:=r.cons_inv;unfold iw at e;split at e
  ·rename_i t ts' e1 e2;cases e;obtain⟨b,rfl,h3,h4⟩:=Z9 e1 h1;obtain⟨as,rfl,h5,h6⟩:=G4 e2 h2;refine⟨b::as,rfl,by simp[h5],λi b' t' eb et=>?_⟩;cases i with
   |zero=>simp at eb et;subst eb et;exact⟨h3,h4⟩
   |succ i=>exact h6 i b' t' (by simpa using eb) (by simpa using et)
  ·cases e
end
section
variable{X:Cx}
theorem Wd(hu:X.A.units+2<adn):CallD X (.builtin "sorted") Ez:=by
 refine⟨_,Rg hu,λρ O σ H Q xs ds j r h=>?_⟩;unfold Ez at h;split at h
 ·rename_i es;obtain⟨x,rfl,rx⟩:=r.one;obtain⟨a,ys,rfl,hq,hna,rs⟩:=rx.lst;cases e:iw es with
  |none=>rw[e] at h;exact h.elim
  | some ts =>
   rw[e] at h;have h:good X (rD X) O (if ts.length<64/\ts.Nodup then R.ok (.lst ((dZ ts).map kJ)) else .bad) σ H Q:=h;by_cases hl:ts.length<64/\ts.Nodup
   ·rw[if_pos hl] at h;obtain⟨as,rfl,h1,h2⟩:=G4 e rs;refine⟨a,as,ts,rfl,hq,h1,hl.1,hl.2,λi b t eb et=>(h2 i b t eb et).1,λB bs hB ZX hp=>?_⟩;refine h _ _ (Same.upd hB) (Rep.lZ hB (j.uq hB) (uz ?_ λi d v ed ev=>?_))
    ·rw[z1g,z1g,(eG ts).length_eq,ZX]
    ·rw[z2b] at ed ev;cases q1:(dZ ts)[i]? with
     |none=>rw[q1] at ed;cases ed
     | some t=>
      cases q2:bs[i]? with
      |none=>rw[q2] at ev;cases ev
      | some b=>
       rw[q1] at ed;rw[q2] at ev;cases ed;cases ev;obtain⟨_,k,z1,z2⟩:=hp i b t q2 q1;exact (h2 k b t z1 z2).2
   ·rw[if_neg hl] at h;exact h.elim
 ·exact h.elim
theorem Yn(hc:X.calm=true)(hu:X.A.units+4<adn):CallD X (.builtin "min") EY:=by
 refine⟨_,Ud hc hu,λρ O σ H Q xs ds j r h=>?_⟩;unfold EY at h;split at h
 ·rename_i ds;obtain⟨x,rfl,rx⟩:=r.one;obtain⟨a,ys,rfl,hq,_,rs⟩:=rx.lst;cases e:iw ds with
  |none=>rw[e] at h;exact h.elim
  | some ts=>
   rw[e] at h;have h:good X (rD X) O (if 0<ts.length then .ok (kJ (jE ts)) else .bad) σ H Q:=h;by_cases hp:0<ts.length
   ·rw[if_pos hp] at h;obtain⟨as,rfl,hl,ha⟩:=G4 e rs;exact⟨a,as,ts,rfl,hq,hl,hp,λi b t e1 e2=>(ha i b t e1 e2).1,λk b e1 e2=>h _ _ (Same.refl _) (ha k b _ e1 e2).2⟩
   ·rw[if_neg hp] at h;exact h.elim
 ·exact h.elim
end
section
variable{X:Cx}
theorem Wf:OpR X (acJ .Mult) (λx y H Q=>∃(z:Str),x= .str z/\y= .int 0/\Q (.str ⟨#[]⟩) H):=by
 intro pins s σ H x y v u Q I rx ry h;obtain⟨z,rfl,rfl,q⟩:=h;obtain⟨t,rfl⟩:=rx;obtain⟨t',rfl⟩:=ry;exact P.mul_str_none (by decide) (by decide) ⟨.str _,H,I.tok _,⟨_,rfl⟩,q⟩
def CV:D->D->R D
 | .str z,.int k=>if k=0 then .ok (.str ⟨#[]⟩) else VG (.str z) (.int k)
 |x,y=>VG x y
theorem Bc:gw X (acJ .Mult) CV:=by
 obtain⟨r0,o0,c0⟩:=X4 (X:=X);refine⟨_,OpR.or o0 Wf,λρ O σ H Q x y dx dy j0 rx ry h=>?_⟩;unfold CV at h;split at h
 ·rename_i z k;by_cases hk:k=0
  ·rw[if_pos hk] at h;exact .inr ⟨z,rx.str,by rw[ry.int,hk],fin h (j5 _)⟩
  ·rw[if_neg hk] at h;exact .inl (c0 ρ O σ H Q x y _ _ j0 rx ry h)
 ·exact .inl (c0 ρ O σ H Q x y _ _ j0 rx ry h)
end
theorem aac{A:acg}{k:Nat}(hr:Room k A):A.units+4<adn:=by have:=hr.un;omega
theorem Qf{X:Cx}{b:List acp}:jB X b (λ_=> .bad):=λpins s σ H Q I q=>by
 obtain⟨H0,O0,O,ρ,j,h⟩:=q;exact h.elim
end Pu
namespace yN
open PySem PySem.Spec L2 Pu
open PyProof.Rows hiding St
abbrev gv(n:Nat):aB->R D:=λρ=>bJ ρ n
abbrev ci(i:Int):aB->R D:=λ_=> .ok (.int i)
abbrev nA:aB->R (List D):=λ_=> .ok []
abbrev tT:aB->R Bool:=λ_=> .ok true
def jc(c t:Str):Bool:=(c == "NoWidth" && (["NoWidth","SeamError","ValueError"]:List Str).contains t) || (c == "NoDeeds" && (["NoDeeds","SeamError","ValueError"]:List Str).contains t) || false
theorem yO{c t:Str}(h:jc c t=true):c= "NoWidth"\/c= "NoDeeds" :=by
 unfold jc at h;simp only[Bool.or_eq_true,acY,beq_iff_eq,acP,or_false,or_assoc] at h;rcases h with h |h
 ·exact .inl h.1
 ·exact .inr (h.1)
def Iz:aB->So:=(retS (bin (bin (gv 0) (aD maxD (ak (ci 0) (ak (aD minD (ak (bin (aD cF (ak (gv 0) nA)) (ci 1) cT) (ak (gv 2) nA))) nA))) bN) (aD maxD (ak (ci 0) (ak (aD minD (ak (bin (aD cF (ak (bin (gv 0) (ci 0) bN) nA)) (ci 1) cT) (ak (gv 1) nA))) nA))) bN))
def iU:List D->R D:=bV 0 Iz
def BJ:aB->So:=(aP (bw (aD rN (ak (bin (aD (aV iU 3) (ak (gv 0) (ak (bin (gv 2) (ci 1) cT) (ak (gv 3) nA)))) (aD (aV iU 3) (ak (gv 0) (ak (bin (gv 2) (ci 1) c7) (ak (gv 3) nA)))) cT) nA)) (aK 5)) (aP (d8 (bR (bin (gv 1) (λ_=> .ok (.str "worth")) iM)) (retS (bin (gv 5) (aD rN (ak (bin (aD (aV iU 3) (ak (gv 0) (ak (gv 2) (ak (bin (gv 3) (ci 1) cT) nA)))) (aD (aV iU 3) (ak (gv 0) (ak (gv 2) (ak (bin (gv 3) (ci 1) c7) nA)))) cT) nA)) c7)) So.nx) (aP (d8 (jG (bR (bin (gv 4) (λ_=> .ok .non) S6)) (bR (bin (gv 4) (gv 2) jN))) (bw (bin (gv 5) (aD rN (ak (bin (bin (bin (gv 0) (bin (gv 3) (ci 1) cT) bN) (gv 2) bN) (bin (bin (gv 0) (gv 3) bN) (tQ (bR (bin (gv 4) (gv 2) ltI)) (bin (gv 2) (ci 1) cT) (bin (gv 2) (ci 1) c7)) bN) cT) nA)) c7) (aK 5)) So.nx) (retS (gv 5)))))
def jt:List D->R D:=bV 1 BJ
def BK:aB->So:=(aP (bw (bin (cU (ak (λ_=> .ok .non) nA)) (lG (gv 2) (λ_=> .ok none) (λρ=>(((oF (ci 1)):aB->R D) ρ).bind Ia)) c7) (aK 3)) (retS (aD Kl (ak (bL 2 [3,1,0] (λρ=>((ak (gv 2) nA) ρ).bind o9) (cY (cZ 2 (aY (aK 0) (aY (aK 1) nilG)))) tT (aD (aV jt 5) (ak (gv 4) (ak (gv 3) (ak (gv 1) (ak (gv 0) (ak (bin (gv 2) (gv 0) bN) nA))))))) nA))))
def ju:List D->R D:=bV 1 BK
def yP:aB->So:=(retS (aD cF (ak (bL 2 [2] (λρ=>((ak (gv 0) (ak (gv 1) nA)) ρ).bind zip2) (cY (cZ 2 (aY (aK 0) (aY (aK 1) nilG)))) (bR (bin (bin (gv 0) (gv 1) bN) (gv 2) iM)) (gv 1)) nA)))
def jT:List D->R D:=bV 0 yP
def wyI:aB->So:=(bw (bin (gv 4) (bL 1 [0,5] (fj (cU (ak (bin (bin (gv 5) (oF (ci 1)) bN) (ci 1) cT) (ak (bin (gv 5) (oF (ci 1)) bN) (ak (bin (bin (gv 5) (oF (ci 1)) bN) (ci 1) c7) nA))))) (aK 0) (jG (bR (bin (ci 0) (gv 0) yg)) (bR (bin (gv 0) (gv 1) ltI))) (bin (gv 2) (cU (ak (gv 0) nA)) c7)) c7) (aK 4))
def wyO:aB->So:=(aP (bw (gY nA) (aK 4)) (aP (lV (fj (gv 2)) (aK 5) wyI) (bw (gv 4) (aK 2))))
def BL:aB->So:=(aP (bw (bL 1 [] (λρ=>((ak (gv 0) nA) ρ).bind jz) (aK 0) tT (cU (ak (gv 0) nA))) (aK 2)) (aP (lV (λρ=>((ak (bin (gv 1) (ci 1) cT) nA) ρ).bind jz) (aK 3) wyO) (retS (gv 2))))
def uD:List D->R D:=bV 4 BL
def beB:aB->So:=(d8 (bR (bin (aD (aV jT 3) (ak (gv 2) (ak (gv 4) (ak (ci 1) nA)))) (ci 0) iM)) (aP (bw (cU (ak (oF (aD (aV jT 3) (ak (gv 2) (ak (gv 4) (ak (ci 2) nA))))) (ak (aD (aV ju 3) (ak (gv 0) (ak (gv 1) (ak (gv 4) nA)))) (ak (gv 4) nA)))) (aK 5)) (bw (tQ (vG (bR (bin (gv 3) (λ_=> .ok .non) isD)) (bR (bin (gv 5) (gv 3) Ld))) (gv 5) (gv 3)) (aK 3))) So.nx)
def BP:aB->So:=(aP (bw (λ_=> .ok .non) (aK 3)) (aP (lV (fj (aD (aV uD 2) (ak (aD cF (ak (bin (gv 0) (ci 0) bN) nA)) (ak (aD cF (ak (gv 0) nA)) nA)))) (aK 4) beB) (retS (tQ (bR (bin (gv 3) (λ_=> .ok .non) isD)) (λ_=> .ok .non) (bin (gv 3) (ci 2) bN)))))
def pA:List D->R D:=bV 3 BP
def Fb:aB->So:=(retS (aD jM (ak (bL 2 [] (λρ=>((ak (gv 0) (ak (gv 1) nA)) ρ).bind zip2) (cY (cZ 2 (aY (aK 0) (aY (aK 1) nilG)))) tT (aD jM (ak (bL 2 [1] (λρ=>((ak (gv 0) nA) ρ).bind o9) (cY (cZ 2 (aY (aK 0) (aY (aK 1) nilG)))) (bR (bin (gv 0) (gv 2) jN)) (gv 1)) nA))) nA)))
def qT:List D->R D:=bV 0 Fb
def BR:aB->So:=(retS (aD jM (ak (bL 1 [] (fj (gv 0)) (aK 0) tT (bin (cU (ak (ci 0) nA)) (aD cF (ak (gv 0) nA)) wG)) nA)))
def uE:List D->R D:=bV 0 BR
def xM:aB->So:=(retS (aD jM (ak (bL 1 [0] (λρ=>((ak (aD cF (ak (bin (gv 0) (ci 0) bN) nA)) nA) ρ).bind jz) (aK 0) tT (aD jM (ak (bL 1 [0] (fj (gv 1)) (aK 0) tT (bin (gv 0) (gv 1) bN)) nA))) nA)))
def lM:List D->R D:=bV 0 xM
def lbB:aB->So:=(aP (bw (tQ (bR (bin (gv 4) (λ_=> .ok (.str "c")) iM)) (gv 0) (aD (aV lM 1) (ak (gv 0) nA))) (aK 5)) (aP (bw (aD (aV pA 3) (ak (gv 5) (ak (gv 2) (ak (aD (aV uE 1) (ak (gv 5) nA)) nA)))) (aK 6)) (aP (yu 3 5 (bin (gv 3) (aD (aV ju 3) (ak (gv 5) (ak (gv 2) (ak (gv 6) nA)))) c7) (aD (aV qT 2) (ak (gv 5) (ak (gv 6) nA)))) (bw (tQ (bR (bin (gv 4) (λ_=> .ok (.str "c")) iM)) (gv 5) (aD (aV lM 1) (ak (gv 5) nA))) (aK 0)))))
def IK:aB->So:=(aP (bw (ci 0) (aK 3)) (aP (lV (CN (gv 1)) (aK 4) lbB) (retS (cU (ak (gv 3) (ak (gv 0) nA))))))
def pO:List D->R D:=bV 4 IK
def yQ:aB->So:=(aP (bw (bin (ci 7) (gv 1) gG) (aK 3)) (aP (d8 (bR (bin (gv 0) (gY nA) jN)) (aP (bw (bin (gv 0) (bin (gv 1) (aD cF (ak (gv 0) nA)) f9) bN) (aK 3)) (aP (bw (bin (gv 1) (aD cF (ak (gv 0) nA)) gW) (aK 4)) (aP (d8 (jG (bR (bin (gv 3) (bin (ci 10) (ci 18) ur) R8)) (bR (bin (gv 4) (ci 60) ltI))) (aP (bw (bin (gv 3) (bin (ci 10) (ci 18) ur) gW) (aK 5)) (aP (iu (jG (bR (bin (gv 5) (ci 0) qQ)) (bR (bin (gv 4) (ci 0) qQ))) (aP (bw (bin (gv 5) (ci 1000000) gW) (aK 5)) (bw (bin (gv 4) (ci 1) cT) (aK 4))) 64) (d8 (bR (bin (gv 5) (ci 0) qQ)) (retS (bin (bin (gv 5) (ci 1000000) f9) (gv 2) f9)) So.nx))) So.nx) (bw (bin (gv 3) (bin (ci 6553) (bin (gv 1) (aD cF (ak (gv 0) nA)) gW) gG) gk) (aK 3))))) So.nx) (aP (bw (bin (bin (bin (bin (gv 3) (ci 2147483563) f9) (ci 69069) gG) (bin (ci 104723) (bin (gv 1) (ci 1) gk) gG) gk) (ci 2147483563) f9) (aK 3)) (aP (bw (bin (bin (bin (gv 3) (gv 3) gG) (bin (gv 3) (ci 3) gW) gk) (ci 2147483399) f9) (aK 3)) (retS (bin (bin (bin (bin (bin (gv 3) (gv 3) gG) (bin (gv 3) (ci 7) gW) gk) (ci 2147483647) f9) (ci 11) gW) (gv 2) f9))))))
def dg:List D->R D:=bV 3 yQ
def xO:aB->So:=(retS (bin (gY (ak (λ_=> .ok (.str "worth")) (ak (λ_=> .ok (.str "joins")) nA))) (aD (aV dg 3) (ak (gv 0) (ak (gv 1) (ak (ci 2) nA)))) bN))
def qb:List D->R D:=bV 0 xO
def Fd:aB->So:=(retS (bin (cU (ak (bin (cU (ak (ci 0) nA)) (aD cF (ak (bin (gv 0) (ci 0) bN) nA)) wG) nA)) (aD cF (ak (gv 0) nA)) wG))
def wM:List D->R D:=bV 0 Fd
def xP:aB->So:=(retS (aD jM (ak (bL 2 [] (λρ=>((ak (gv 0) (ak (gv 1) nA)) ρ).bind zip2) (cY (cZ 2 (aY (aK 0) (aY (aK 1) nilG)))) tT (bin (gv 0) (gv 1) bN)) nA)))
def qd:List D->R D:=bV 0 xP
def Ue:aB->So:=(aP (bw (bin (aD cF (ak (gv 0) nA)) (ci 1) cT) (aK 1)) (retS (bL 1 [1,0] (λρ=>((ak (aD cF (ak (gv 0) nA)) nA) ρ).bind jz) (aK 0) tT (aD rN (ak (bin (bin (gv 2) (aD maxD (ak (bin (gv 0) (ci 1) cT) (ak (ci 0) nA))) bN) (bin (gv 2) (aD minD (ak (bin (gv 0) (ci 1) c7) (ak (gv 1) nA))) bN) cT) nA)))))
def yR:List D->R D:=bV 1 Ue
def yS:aB->So:=(aP (bw (bin (gv 0) (gv 1) bN) (aK 2)) (aP (bw (bin (gv 0) (aD maxD (ak (bin (gv 1) (ci 1) cT) (ak (ci 0) nA))) bN) (aK 3)) (aP (bw (bin (aD cF (ak (gv 2) nA)) (ci 1) cT) (aK 4)) (aP (newL nA 5) (aP (lV (λρ=>((ak (aD (aV yR 1) (ak (gv 2) nA)) nA) ρ).bind o9) (cY (cZ 2 (aY (aK 6) (aY (aK 7) nilG)))) (aP (bw (bin (gv 7) (aD rN (ak (bin (bin (gv 3) (gv 6) bN) (bin (gv 2) (aD maxD (ak (bin (gv 6) (ci 1) cT) (ak (ci 0) nA))) bN) cT) nA)) c7) (aK 8)) (aP (bw (bin (gv 7) (aD rN (ak (bin (bin (gv 3) (gv 6) bN) (bin (gv 2) (aD minD (ak (bin (gv 6) (ci 1) c7) (ak (gv 4) nA))) bN) cT) nA)) c7) (aK 9)) (oh 5 (cU (ak (gv 8) (ak (gv 7) (ak (gv 9) nA)))))))) (retS (gv 5)))))))
def rY:List D->R D:=bV 8 yS
def IV:aB->So:=(retS (uw (Ao tW (gv 0)) (Bt (ci 1) (aD cF (ak (gv 0) nA)) (ci 20) yg yg)))
def pP:List D->R D:=bV 0 IV
def Fe:aB->So:=(retS (uw (Ao Av (gv 0)) (Y5 (Ao wF (gv 0)))))
def mY:List D->R D:=bV 0 Fe
def IW:aB->So:=(retS (uw (aD (aV mY 1) (ak (gv 0) nA)) (Bt (ci 0) (gv 0) (ci 99) yg yg)))
def yU:List D->R D:=bV 0 IW
def Lf:aB->So:=(retS (uw (aD (aV pP 1) (ak (gv 0) nA)) (aD wD (ak (bL 1 [] (fj (gv 0)) (aK 0) tT (aD (aV yU 1) (ak (gv 0) nA))) nA))))
def CW:List D->R D:=bV 0 Lf
def yV:aB->So:=(aP (d8 (vG (lR (bR (aD (aV pP 1) (ak (gv 0) nA)))) (lR (bR (aD wD (ak (bL 1 [] (fj (gv 0)) (aK 0) tT (aD (aV CW 1) (ak (gv 0) nA))) nA))))) (retS (λ_=> .ok (.bl false))) So.nx) (retS (aD wD (ak (bL 1 [0] (fj (gv 0)) (aK 0) tT (bin (aD cF (ak (gv 0) nA)) (aD cF (ak (bin (gv 1) (ci 0) bN) nA)) iM)) nA))))
def rZ:List D->R D:=bV 0 yV
def vW:aB->So:=(d8 (lR (bR (aD (aV rZ 1) (ak (gv 0) nA)))) (λ_=> .bad) So.nx)
def kh:List D->R D:=bV 0 vW
def Ja:aB->So:=(aP (jD (aD (aV kh 1) (ak (gv 0) nA))) (retS (cU (ak (aD cF (ak (bin (gv 0) (ci 0) bN) nA)) (ak (aD cF (ak (gv 0) nA)) nA)))))
def pQ:List D->R D:=bV 0 Ja
def Lg:aB->So:=(aP (bw (aD (aV pQ 1) (ak (gv 0) nA)) (cY (cZ 2 (aY (aK 1) (aY (aK 2) nilG))))) (retS (aD jM (ak (bL 1 [2,0] (λρ=>((ak (gv 1) nA) ρ).bind jz) (aK 0) tT (aD jM (ak (bL 1 [2,0] (λρ=>((ak (gv 1) nA) ρ).bind jz) (aK 0) tT (bin (bin (gv 1) (gv 0) bN) (gv 2) bN)) nA))) nA))))
def su:List D->R D:=bV 2 Lg
def Lh:aB->So:=(aP (bw (aD (aV pQ 1) (ak (gv 0) nA)) (cY (cZ 2 (aY (aK 1) (aY (aK 2) nilG))))) (aP (bw (bL 1 [] (fj (gv 0)) (aK 0) tT (aD (aV yR 1) (ak (gv 0) nA))) (aK 3)) (aP (bw (bL 1 [] (fj (aD (aV su 1) (ak (gv 0) nA))) (aK 0) tT (aD (aV yR 1) (ak (gv 0) nA))) (aK 4)) (retS (aD jM (ak (bL 1 [3,4,1] (λρ=>((ak (gv 2) nA) ρ).bind jz) (aK 0) tT (aD jM (ak (bL 1 [1,2,0] (λρ=>((ak (gv 3) nA) ρ).bind jz) (aK 0) tT (bin (bin (bin (gv 1) (gv 3) bN) (gv 0) bN) (bin (bin (gv 2) (gv 0) bN) (gv 3) bN) c7)) nA))) nA))))))
def CZ:List D->R D:=bV 4 Lh
def Qg:aB->So:=(aP (d8 (bR (bin (gv 1) (λ_=> .ok (.str "worth")) iM)) (retS (bL 1 [] (fj (aD (aV CZ 1) (ak (gv 0) nA))) (aK 0) tT (bL 1 [] (fj (gv 0)) (aK 0) tT (cU (ak (gv 0) (ak (gv 0) (ak (gv 0) nA))))))) So.nx) (retS (bL 1 [0] (λρ=>((ak (aD cF (ak (gv 0) nA)) nA) ρ).bind jz) (aK 0) tT (aD (aV rY 2) (ak (gv 1) (ak (gv 0) nA))))))
def vX:List D->R D:=bV 0 Qg
def Jb:aB->So:=(retS (bin (bin (gv 0) (gv 2) bN) (bin (bin (gv 1) (gv 2) cT) (ci 1) c7) bN))
def mF:List D->R D:=bV 0 Jb
def Ug:aB->So:=(retS (aD Rb (ak (aD maxD (ak (bin (gv 0) (ci 1) cT) (ak (ci 0) nA))) (ak (aD minD (ak (bin (gv 0) (ci 2) c7) (ak (gv 1) nA))) nA))))
def Li:List D->R D:=bV 0 Ug
def onB:aB->So:=(aP (bw (aD (aV mF 3) (ak (gv 1) (ak (gv 2) (ak (gv 4) nA)))) (aK 5)) (CG 3 (bL 3 [5] (fj (bin (gv 0) (gv 4) bN)) (cY (cZ 3 (aY (aK 0) (aY (aK 1) (aY (aK 2) nilG))))) tT (cU (ak (gv 0) (ak (bin (gv 1) (gv 3) c7) (ak (gv 2) nA)))))))
def Lj:aB->So:=(aP (newL nA 3) (aP (lV (fj (aD (aV Li 2) (ak (gv 2) (ak (aD cF (ak (gv 0) nA)) nA)))) (aK 4) onB) (retS (gv 3))))
def wN:List D->R D:=bV 3 Lj
def Xg(aG:Nat)(GG:List D->R D):aB->So:=(d8 (bR (bin (gv 8) (ci 1) iM)) (bw (gY nA) (aK 9)) (d8 (lR (La (gv 4))) (bw (Ba 3 aG GG 2 (ak (gv 7) (ak (gY (ak (cU (ak (ci 0) (ak (ci 0) (ak (gv 2) nA)))) nA)) nA))) (aK 9)) (bw (Ba 3 aG GG 2 (ak (gv 7) (ak (aD (aV wN 3) (ak (TJ 4 (oF (ci 1))) (ak (bin (gv 0) (bin (gv 5) (ci 1) c7) bN) (ak (gv 7) nA)))) nA))) (aK 9))))
def Xh:aB->So:=(aP (bw (tQ (bR (bin (gv 8) (ci 2) iM)) (ci 1) (ci 0)) (aK 10)) (oh 6 (bL 3 [10] (fj (gv 9)) (cY (cZ 3 (aY (aK 0) (aY (aK 1) (aY (aK 2) nilG))))) tT (cU (ak (bin (gv 0) (gv 3) cT) (ak (gv 1) (ak (gv 2) nA)))))))
def inW(aG:Nat)(GG:List D->R D):aB->So:=(aP (Xg aG GG) Xh)
def Wg(aG:Nat)(GG:List D->R D):aB->So:=(aP (newL nA 6) (aP (lV (λρ=>((ak (bin (gv 1) (gv 5) bN) nA) ρ).bind o9) (cY (cZ 2 (aY (aK 7) (aY (aK 8) nilG)))) (inW aG GG)) (K5 4 6)))
def G5(aG:Nat)(GG:List D->R D):aB->So:=(aP (newL nA 4) (aP (lV (λρ=>((ak (aD cF (ak (gv 1) nA)) nA) ρ).bind K6) (aK 5) (Wg aG GG)) (retS (JZ (gv 4)))))
def vY(aG:Nat)(GG:List D->R D)(ds:List D):R D:=gb 7 (G5 aG GG) (ds.map .val++[.obj (.fn aG)])
def yW:aB->So:=(retS (bL 3 [0] (fj (oG (aD mX (ak (gv 1) nA)) (λ_=> .ok none) (λρ=>((gv 2) ρ).bind Ia))) (cY (cZ 3 (aY (aK 0) (aY (aK 1) (aY (aK 2) nilG))))) tT (cU (ak (gv 0) (ak (gv 1) (ak (bin (cU (ak (gv 3) nA)) (gv 2) c7) nA))))))
def dR(my:Int)(ds:List D):R D:=gb 0 yW (ds.map .val++[.val (.int my)])
def uF:aB->So:=(Q5 3 2 ((gv 0):aB->R D) ((gv 1):aB->R D) ((cU nA):aB->R D) vY dR)
def uG(ds:List D):R D:=gb 1 uF (ds.map .val)
def Fg:aB->So:=(aP (newL nA 2) (aP (lV (λρ=>((ak (bin (gv 1) (ci 0) bN) nA) ρ).bind o9) (cY (cZ 2 (aY (aK 3) (aY (aK 4) nilG)))) (aP (bw (aD (aV mF 3) (ak (bin (gv 0) (ci 0) bN) (ak (gv 3) (ak (gv 3) nA)))) (aK 5)) (CG 2 (bL 3 [5] (fj (gv 4)) (cY (cZ 3 (aY (aK 0) (aY (aK 1) (aY (aK 2) nilG))))) tT (cU (ak (gv 0) (ak (bin (gv 1) (gv 3) c7) (ak (gv 2) nA)))))))) (retS (gv 2))))
def wO:List D->R D:=bV 4 Fg
def xQ:aB->So:=(retS (oG (aD mX (ak (aD (aV wO 2) (ak (gv 0) (ak (aD (aV uG 3) (ak (gv 0) (ak (gv 1) (ak (gv 2) nA)))) nA))) nA)) (λ_=> .ok none) (λρ=>((gv 2) ρ).bind Ia)))
def qe(ds:List D):R D:=gb 0 xQ (ds.map .val)
def BW:aB->So:=(aP (bw (aD (aV qe 3) (ak (gv 0) (ak (gv 1) (ak (ci 1) nA)))) (aK 2)) (aP (d8 (lR (La (gv 2))) (retS (λ_=> .ok .non)) So.nx) (aP (bw (bin (gv 2) (ci 0) bN) (cY (cZ 3 (aY (aK 3) (aY (aK 4) (aY (aK 5) nilG)))))) (retS (cU (ak (gv 4) (ak (gv 5) nA)))))))
def pB(ds:List D):R D:=gb 4 BW (ds.map .val)
def Jc:aB->So:=(retS (aD jM (ak (bL 2 [] (λρ=>((ak (gv 0) (ak (gv 1) nA)) ρ).bind zip2) (cY (cZ 2 (aY (aK 0) (aY (aK 1) nilG)))) tT (bin (lG (gv 0) (λ_=> .ok none) (λρ=>((gv 1) ρ).bind Ia)) (lG (gv 0) (λρ=>((bin (gv 1) (ci 1) c7) ρ).bind Ia) (λ_=> .ok none)) c7)) nA)))
def tZ:List D->R D:=bV 0 Jc
def Uh:aB->R Bool:=(bR (bin (aD cF (ak (gv 6) nA)) (gv 1) ltI))
def tkB:aB->So:=(aP (bw (aD (aV pB 2) (ak (aD (aV vX 2) (ak (gv 4) (ak (gv 2) nA))) (ak (gv 5) nA))) (aK 8)) (aP (d8 (bR (bin (gv 8) (λ_=> .ok .non) isD)) (retS (λ_=> .ok .non)) So.nx) (aP (bw (gv 8) (cY (cZ 2 (aY (aK 9) (aY (aK 10) nilG))))) (aP (oh 6 (cU (ak (gv 10) (ak (aD (aV qd 2) (ak (gv 4) (ak (gv 10) nA))) nA)))) (aP (KH 7 (gv 9)) (yu 4 5 (aD (aV tZ 2) (ak (gv 4) (ak (gv 10) nA))) (aD (aV tZ 2) (ak (gv 5) (ak (gv 10) nA)))))))))
def Qh:aB->So:=(aP (yu 4 5 (gv 0) (gv 3)) (aP (newL nA 6) (aP (bw (ci 0) (aK 7)) (aP (iu Uh tkB 64) (retS (cU (ak (gv 4) (ak (gv 6) (ak (gv 7) nA)))))))))
def Bd(ds:List D):R D:=gb 7 Qh (ds.map .val)
def BX:aB->So:=(aP (bw (aD (aV Bd 4) (ak (gv 0) (ak (ci 1) (ak (gv 1) (ak (aD (aV wM 1) (ak (gv 0) nA)) nA))))) (cY (cZ 3 (aY (aK 2) (aY (aK 3) (aY (aK 4) nilG)))))) (retS (cU (ak (gv 4) (ak (gv 2) nA)))))
def lH(ds:List D):R D:=gb 3 BX (ds.map .val)
def Ln:aB->So:=(aP (bw (aD (aV lH 2) (ak (aD (aV su 1) (ak (gv 0) nA)) (ak (gv 1) nA))) (cY (cZ 2 (aY (aK 2) (aY (aK 3) nilG))))) (retS (cU (ak (gv 2) (ak (aD (aV su 1) (ak (gv 3) nA)) nA)))))
def wQ(ds:List D):R D:=gb 2 Ln (ds.map .val)
def BZ(FB:List D->R D):aB->So:=(aP (d8 (jG (bR (bin (gv 1) (ci 0) iM)) (bR (bin (gv 2) (ci 0) iM))) (retS (cU (ak (ci 0) (ak (λ_=> .ok (.str "")) nA)))) So.nx) (aP (newL nA 4) (aP (d8 (bR (bin (gv 2) (ci 0) qQ)) (aP (bw (aD (aV lH 2) (ak (gv 0) (ak (gv 3) nA))) (cY (cZ 2 (aY (aK 5) (aY (aK 6) nilG))))) (aP (bw (aD (aV FB 4) (ak (gv 6) (ak (gv 1) (ak (bin (gv 2) (ci 1) cT) (ak (gv 3) nA))))) (cY (cZ 2 (aY (aK 7) (aY (aK 8) nilG))))) (oh 4 (cU (ak (bin (gv 5) (gv 7) rW) (ak (bin (λ_=> .ok (.str "c")) (gv 8) rW) nA)))))) So.nx) (aP (d8 (bR (bin (gv 1) (ci 0) qQ)) (aP (bw (aD (aV wQ 2) (ak (gv 0) (ak (gv 3) nA))) (cY (cZ 2 (aY (aK 5) (aY (aK 6) nilG))))) (aP (bw (aD (aV FB 4) (ak (gv 6) (ak (bin (gv 1) (ci 1) cT) (ak (gv 2) (ak (gv 3) nA))))) (cY (cZ 2 (aY (aK 7) (aY (aK 8) nilG))))) (oh 4 (cU (ak (bin (gv 5) (gv 7) rW) (ak (bin (λ_=> .ok (.str "r")) (gv 8) rW) nA)))))) So.nx) (retS (aD EY (ak (gv 4) nA)))))))
def dG:Nat->List D->R D
 |0=>λds=>gb 5 (λ_=> .bad) (ds.map .val)
 |j+1=>λds=>gb 5 (BZ (dG j)) (ds.map .val)
def Ca:List D->R D:=dG 4
def xR:aB->So:=(d8 (bR (bin (gv 0) (λ_=> .ok (.tup [.str "worth",.str "joins"])) (Ei true))) (λ_=> .bad) So.nx)
def lN:List D->R D:=bV 0 xR
def yX:aB->So:=(d8 (vG (lR (bR (aD (aV mY 1) (ak (gv 0) nA)))) (lR (bR (Bt (gv 1) (gv 0) (gv 2) yg yg)))) (Qd (ak (Xc "the width is to be a whole number from " " to " (gv 1) (gv 2)) nA) "NoWidth") So.nx)
def jU:List D->R D:=bV 0 yX
def yZ:aB->So:=(aP (bw (aD (aV pQ 1) (ak (gv 0) nA)) (cY (cZ 2 (aY (aK 4) (aY (aK 5) nilG))))) (aP (jD (aD (aV lN 1) (ak (gv 3) nA))) (aP (jD (gM jU 3 0 [] (ak (gv 1) (ak (ci 0) (ak (aD minD (ak (ci 4) (ak (bin (gv 5) (ci 1) cT) nA))) nA))) nA)) (aP (jD (gM jU 3 0 [] (ak (gv 2) (ak (ci 0) (ak (aD minD (ak (ci 4) (ak (bin (gv 4) (ci 1) cT) nA))) nA))) nA)) (retS (aD (aV Ca 4) (ak (gv 0) (ak (gv 1) (ak (gv 2) (ak (gv 3) nA))))))))))
def fV:List D->R D:=bV 2 yZ
def Fi:aB->So:=(aP (d8 (vG (lR (bR (Ao vL (gv 0)))) (lR (bR (aD wD (ak (bL 1 [] (CN (gv 0)) (aK 0) tT (bin (gv 0) (cU (ak (λ_=> .ok (.str "c")) (ak (λ_=> .ok (.str "r")) nA))) (Ei false))) nA))))) (retS (λ_=> .ok (.bl false))) So.nx) (retS (uw (bin (Wb (gv 0) (λ_=> .ok (.str "c"))) (aD cF (ak (bin (gv 1) (ci 0) bN) nA)) ltI) (bin (Wb (gv 0) (λ_=> .ok (.str "r"))) (aD cF (ak (gv 1) nA)) ltI))))
def jd:List D->R D:=bV 0 Fi
def boB:aB->So:=(bw (tQ (bR (bin (gv 4) (λ_=> .ok (.str "c")) iM)) (aD (aV lH 2) (ak (gv 3) (ak (gv 2) nA))) (aD (aV wQ 2) (ak (gv 3) (ak (gv 2) nA)))) (cY (cZ 2 (aY (aK 5) (aY (aK 3) nilG)))))
def Fj:aB->So:=(aP (jD (aD (aV kh 1) (ak (gv 0) nA))) (aP (jD (aD (aV lN 1) (ak (gv 2) nA))) (aP (d8 (lR (bR (aD (aV jd 2) (ak (gv 1) (ak (gv 0) nA))))) (λρ=> .ex "NoDeeds" ρ) So.nx) (aP (bw (gv 0) (aK 3)) (aP (lV (CN (gv 1)) (aK 4) boB) (retS (gv 3)))))))
def iz:List D->R D:=bV 3 Fj
def Jd:aB->So:=(aP (KQ jc "SeamError" 4 (d8 (bR (bin (gv 0) (ci 0) iM)) (jD (gM iz 3 0 [.inr (.str "worth")] (ak (gv 1) (ak (gv 2) nA)) nA)) (jD (gM fV 4 0 [.inr (.str "worth")] (ak (gv 1) (ak (gv 2) (ak (gv 3) nA))) nA))) (retS (gY (ak (Ay jc 4 "NoDeeds") (ak (Ay jc 4 "NoWidth") nA))))) (retS (gY nA)))
def iV(ds:List D):R D:=gb 1 Jd (ds.map .val)
def xT(FB:List D->R D):aB->So:=(aP (d8 (vG (bR (bin (gv 0) (ci 0) iM)) (bR (bin (gv 1) (ci 0) iM))) (retS (gY (ak (bin (bin (λ_=> .ok (.str "r")) (gv 0) CV) (bin (λ_=> .ok (.str "c")) (gv 1) CV) rW) nA))) So.nx) (aP (bw (bL 1 [] (fj (aD (aV FB 2) (ak (gv 0) (ak (bin (gv 1) (ci 1) cT) nA)))) (aK 0) tT (bin (λ_=> .ok (.str "c")) (gv 0) rW)) (aK 2)) (retS (bin (gv 2) (bL 1 [] (fj (aD (aV FB 2) (ak (bin (gv 0) (ci 1) cT) (ak (gv 1) nA)))) (aK 0) tT (bin (λ_=> .ok (.str "r")) (gv 0) rW)) rW))))
def kj:Nat->List D->R D
 |0=>bV 1 (λ_=> .bad)
 |j+1=>bV 1 (xT (kj j))
def qg:List D->R D:=kj 3
def vZ:aB->So:=(aP (Kr 4 5 (bin (gY (ak (ci 2) (ak (ci 5) (ak (ci 100) (ak (ci 10) nA))))) (aD (aV dg 3) (ak (gv 0) (ak (gv 1) (ak (ci 4) nA)))) bN) nA) (aP (lV (λρ=>((ak (gv 3) nA) ρ).bind jz) (aK 6) (oh 5 (aD jM (ak (bL 1 [1,2,4,0,6] (λρ=>((ak (gv 2) nA) ρ).bind jz) (aK 0) tT (aD (aV dg 3) (ak (gv 4) (ak (bin (bin (bin (gv 1) (ci 1) gk) (bin (gv 2) (gv 5) gG) gk) (gv 0) gk) (ak (gv 3) nA))))) nA)))) (retS (aD jM (ak (gv 5) nA)))))
def kI:List D->R D:=bV 3 vZ
def Xi:aB->So:=(aP (bw (aD (aV kI 4) (ak (gv 0) (ak (ci 2) (ak (bin (ci 2) (aD (aV dg 3) (ak (gv 0) (ak (ci 0) (ak (ci 2) nA)))) c7) (ak (bin (ci 2) (aD (aV dg 3) (ak (gv 0) (ak (ci 1) (ak (ci 2) nA)))) c7) nA))))) (aK 1)) (aP (bw (cU (ak (aD cF (ak (bin (gv 1) (ci 0) bN) nA)) (ak (aD cF (ak (gv 1) nA)) (ak (aD (aV qb 2) (ak (gv 0) (ak (ci 40) nA))) nA)))) (cY (cZ 3 (aY (aK 2) (aY (aK 3) (aY (aK 4) nilG)))))) (aP (yu 5 6 (aD (aV dg 3) (ak (gv 0) (ak (ci 41) (ak (aD minD (ak (ci 3) (ak (gv 3) nA))) nA)))) (aD (aV dg 3) (ak (gv 0) (ak (ci 42) (ak (ci 2) nA))))) (aP (bw (aD Ez (ak (bL 1 [4,1] (fj (aD (aV qg 2) (ak (gv 5) (ak (gv 6) nA)))) (aK 0) tT (cU (ak (bin (aD (aV pO 3) (ak (gv 2) (ak (gv 0) (ak (gv 1) nA)))) (ci 0) bN) (ak (gv 0) nA)))) nA)) (aK 7)) (aP (d8 (bR (bin (gM fV 4 1 [.inl 0] (ak (gv 1) (ak (gv 5) (ak (gv 6) nA))) (ak (gv 4) nA)) (bin (gv 7) (ci 0) bN) jN)) (retS (λ_=> .ok (.bl false))) So.nx) (aP (bw (bin (bin (gv 7) (aD (aV dg 3) (ak (gv 0) (ak (ci 43) (ak (aD cF (ak (gv 7) nA)) nA)))) bN) (ci 1) bN) (aK 8)) (aP (d8 (bR (bin (gM iz 3 1 [.inl 0] (ak (gv 1) (ak (gv 8) nA)) (ak (gv 4) nA)) (bin (aD (aV pO 3) (ak (gv 1) (ak (gv 8) (ak (gv 4) nA)))) (ci 1) bN) jN)) (retS (λ_=> .ok (.bl false))) So.nx) (aP (d8 (bR (bin (gM iz 3 0 [.inr (.str "worth")] (ak (gv 1) (ak (λ_=> .ok (.str "")) nA)) nA) (gv 1) jN)) (retS (λ_=> .ok (.bl false))) So.nx) (aP (bw (gY (ak (λ_=> .ok .non) (ak (λ_=> .ok (.str "x")) (ak (λ_=> .ok (.str "C")) (ak (ci 7) (ak (gY (ak (λ_=> .ok (.str "c")) nA)) (ak (bin (λ_=> .ok (.str "c")) (gv 2) CV) (ak (bin (λ_=> .ok (.str "r")) (gv 3) CV) (ak (λ_=> .ok (.str "cr ")) nA))))))))) (aK 9)) (aP (d8 (bR (bin (bL 1 [1] (fj (gv 9)) (aK 0) (bR (bin (aD (aV iV 4) (ak (ci 0) (ak (gv 1) (ak (gv 0) (ak (λ_=> .ok .non) nA))))) (gY (ak (λ_=> .ok (.bl true)) (ak (λ_=> .ok (.bl false)) nA))) jN)) (gv 0)) (gY nA) jN)) (retS (λ_=> .ok (.bl false))) So.nx) (aP (bw (bin (gY (ak (oF (ci 1)) (ak (ci 5) (ak (λ_=> .ok .non) (ak (λ_=> .ok (.bl true)) (ak (λ_=> .ok (.str "1")) (ak (cU (ak (ci 0) nA)) nA))))))) (aD (aV dg 3) (ak (gv 0) (ak (ci 44) (ak (ci 6) nA)))) bN) (aK 10)) (aP (bw (gY (ak (aD (aV iV 4) (ak (ci 1) (ak (gv 1) (ak (gv 10) (ak (ci 0) nA))))) (ak (aD (aV iV 4) (ak (ci 1) (ak (gv 1) (ak (ci 0) (ak (gv 10) nA))))) (ak (aD (aV iV 4) (ak (ci 1) (ak (gv 1) (ak (gv 3) (ak (ci 0) nA))))) nA)))) (aK 11)) (aP (d8 (bR (bin (bin (gv 11) (gY (ak (aD (aV iV 4) (ak (ci 1) (ak (gv 1) (ak (ci 0) (ak (gv 2) nA))))) nA)) c7) (bin (gY (ak (gY (ak (λ_=> .ok (.bl false)) (ak (λ_=> .ok (.bl true)) nA))) nA)) (ci 4) mulL) jN)) (retS (λ_=> .ok (.bl false))) So.nx) (aP (d8 (bR (bin (gM fV 4 0 [.inr (.str "worth")] (ak (gv 1) (ak (ci 0) (ak (ci 0) nA))) nA) (cU (ak (ci 0) (ak (λ_=> .ok (.str "")) nA))) jN)) (retS (λ_=> .ok (.bl false))) So.nx) (retS (bin (gM iz 3 0 [.inr (.str "worth")] (ak (gv 1) (ak (gv 8) nA)) nA) (bin (aD (aV pO 3) (ak (gv 1) (ak (gv 8) (ak (λ_=> .ok (.str "worth")) nA)))) (ci 1) bN) iM))))))))))))))))
def Fl(ds:List D):R D:=gb 11 Xi (ds.map .val)
end yN
namespace yN
open PySem PySem.Spec L2 Pu
variable{i j m:Int}{L:List (List Bool)}{seen:List (List Int)}{l':List Bool}{ds acc:List D}{l:List Int}{cs:List Wy}{x y k a:Nat}{s s':Nat->Nat}{e1 e5 e0 e3 e9 e10 e8 e4 e7 e2 e6:Option Ent}{r:R D}{fa:aB->R (List D)}{u:aB->R D}{b t:Wy}
def row(w:Nat)(f:Nat->Int):D:= .tup ((ab0 w).map λx=> .int (f x))
def bB(w h:Nat)(f:Nat->Nat->Int):D:= .tup ((ab0 h).map λy=>row w (f y))
structure Ok(w h:Nat)(f:Nat->Nat->Int):Prop where
 w1:1<=w
 w2:w<=20
 h1:1<=h
 h2:h<=20
 c:∀y<h,∀x<w,0<=f y x/\f y x<=99
theorem uc(h:i<=j):yg (.int i) (.int j)= .ok (.bl true):=by
 show R.ok (D.bl (decide (i<=j)))=_;rw[decide_eq_true h]
theorem Fo(h1:1<=ds.length)(h2:ds.length<=20):pP [.tup ds]= .ok (.bl true):=
 bQ (aZ (yx rfl (Eb rfl (aU (au rfl) rfl) (uc (by omega)) rfl (uc (by omega)))))
theorem uH:mY [.int i]= .ok (.bl true):=rfl
theorem Rh(h0:0<=i)(h1:i<=99):yU [.int i]= .ok (.bl true):=by
 exact bQ (aZ (yx (aR (au rfl) uH) (Eb rfl rfl (uc h0) rfl (uc h1))))
theorem Ui{w:Nat}{f:Nat->Int}(h1:1<=w)(h2:w<=20)(hc:∀x<w,0<=f x/\f x<=99):CW [row w f]= .ok (.bl true):=by
 refine bQ (aZ (yx (aR (au rfl) (Fo (by simpa using h1) (by simpa using h2))) (aU (au (cj (c:=λx=> .int (f x)) (h:=λ_=> .bl true) (l:=ab0 w) (jq rfl) (by rw[z2d];omega) λx hx=>?_)) vN)));obtain⟨a,b⟩:=hc x (z2e hx);exact cM rfl (aR (au rfl) (Rh a b))
section
variable{w h:Nat}{f:Nat->Nat->Int}
theorem Jx(o:Ok w h f):rZ [bB w h f]= .ok (.bl true):=by
 have e1:pP [bB w h f]= .ok (.bl true):=Fo (by simpa using o.h1) (by simpa using o.h2);refine bQ (aF (bU (rM (eY (aN (aR (au rfl) e1))) (eY (aN (aU (au (cj (c:=λy=>row w (f y)) (h:=λ_=> .bl true) (l:=ab0 h) (jq rfl) (by rw[z2d];have:=o.h2;omega) λy hy=>?_)) vN)))) rfl) (aZ (aU (au (cj (c:=λy=>row w (f y)) (h:=λ_=> .bl true) (l:=ab0 h) (jq rfl) (by rw[z2d];have:=o.h2;omega) λy hy=>?_)) vN)))
 ·exact cM rfl (aR (au rfl) (Ui o.w1 o.w2 (o.c y (z2e hy))))
 ·refine cM rfl (aq (aU (au rfl) rfl) (aU (au (aq rfl rfl (iI (i:=0) (d:=row w (f 0)) ?_))) rfl) (Ku ?_ ?_))
  ·rw[z2b,acv o.h1];rfl
  ·simp
  ·simp[dep]
theorem G6(o:Ok w h f):kh [bB w h f]= .ok .non:=JW (bU (eY (aN (aR (au rfl) (Jx o)))) rfl)
theorem size_eq(o:Ok w h f):pQ [bB w h f]= .ok (.tup [.int w,.int h]):=by
 refine bQ (aF (iQ (aR (au rfl) (G6 o))) (aZ (cu (ao (aU (au (aq rfl rfl (iI (i:=0) (d:=row w (f 0)) ?_))) ?_) (au (aU (au rfl) ?_))))))
 ·rw[z2b,acv o.h1];rfl
 ·simp[row,cF]
 ·simp[bB,cF]
theorem za(o:Ok w h f):su [bB w h f]= .ok (bB h w λy x=>f x y):=by
 refine bQ (aF (aQ (aR (au rfl) (size_eq o)) rfl) (aZ (aU (au (cj (c:=λ(x:Nat)=> .int (x:Int)) (h:=λx=>row h λy=>f y x) (l:=ab0 w) (jO (au rfl) (by have:=o.w2;omega)) (by rw[z2d];have:=o.w2;omega) λx hx=>?_)) rfl)));refine cM rfl (aU (au (cj (c:=λ(y:Nat)=> .int (y:Int)) (h:=λy=> .int (f y x)) (l:=ab0 h) (jO (au rfl) (by have:=o.h2;omega)) (by rw[z2d];have:=o.h2;omega) λy hy=>?_)) rfl);refine cM rfl (aq (aq rfl rfl (iI (i:=y) (d:=row w (f y)) ?_)) rfl (iI (i:=x) ?_))
 ·rw[z2b,acv (z2e hy)];rfl
 ·rw[z2b,acv (z2e hx)];rfl
end
def Wh:aB->So:=(oh 5 (aD jM (ak (bL 1 [1,2,4,0,6] (λρ=>((ak (gv 2) nA) ρ).bind jz) (aK 0) tT (aD (aV dg 3) (ak (gv 4) (ak (bin (bin (bin (gv 1) (ci 1) gk) (bin (gv 2) (gv 5) gG) gk) (gv 0) gk) (ak (gv 3) nA))))) nA)))
section
variable{ns:List Int}{a m:Int}{w h:Nat}
def vA(d:D):Option Ent:=some (.val d)
theorem aad(hns:ns.length<=1000000)(ha:0<=a)(hm:0<m)(hw:w<=20){tl:Option Ent}(hl:acc.length<1000000):
  Wh [vA (.lst (ns.map .int)),vA (.int a),vA (.int (w:Int)),tl,vA (.int m),some (.lst acc),vA (.int (y:Int))] =
   .nx [vA (.lst (ns.map .int)),vA (.int a),vA (.int (w:Int)),tl,vA (.int m),some (.lst (acc++[row w λx=>dr ns (a+1+(w:Int)*(y:Int)+(x:Int)) m])),vA (.int (y:Int))]:=by
 have e:aD jM (ak (bL 1 [1,2,4,0,6] (λρ=>((ak (gv 2) nA) ρ).bind jz) (aK 0) tT (aD (aV dg 3) (ak (gv 4) (ak (bin (bin (bin (gv 1) (ci 1) gk) (bin (gv 2) (gv 5) gG) gk) (gv 0) gk) (ak (gv 3) nA))))) nA)
   [vA (.lst (ns.map .int)),vA (.int a),vA (.int (w:Int)),tl,vA (.int m),some (.lst acc),vA (.int (y:Int))]= .ok (row w λx=>dr ns (a+1+(w:Int)*(y:Int)+(x:Int)) m):=by
  refine aU (au (cj (c:=λ(x:Nat)=>D.int (x:Int)) (h:=λ(x:Nat)=>D.int (dr ns (a+1+(w:Int)*(y:Int)+(x:Int)) m)) (l:=ab0 w) (jO (au rfl) (by omega)) (by rw[z2d];omega) λx hx=>?_)) rfl;refine cM rfl (aR (ao rfl (ao (aq (aq (aq rfl rfl rfl) (aq rfl rfl (mQ (.inl ⟨by omega,by omega⟩))) rfl) rfl rfl) (au rfl))) ?_);have hp:(0:Int)<=(w:Int)*(y:Int):=Int.mul_nonneg (by omega) (by omega);exact (o8 hns (by omega) hm).1
 unfold Wh oh;rw[e];show (if acc.length<1000000 then So.nx _ else .bad)=_;rw[if_pos hl];rfl
theorem Lp(hns:ns.length<=1000000)(ha:0<=a)(hm:0<m)(hw:w<=20){tl:Option Ent}:∀{ys:List Nat} {acc:List D} {x:Option Ent},acc.length+ys.length<=1000000->
  ∃x',forL (aK 6) Wh (ys.map λ(y:Nat)=>D.int (y:Int)) [vA (.lst (ns.map .int)),vA (.int a),vA (.int (w:Int)),tl,vA (.int m),some (.lst acc),x] =
   .nx [vA (.lst (ns.map .int)),vA (.int a),vA (.int (w:Int)),tl,vA (.int m),some (.lst (acc++ys.map λ(y:Nat)=>row w λx=>dr ns (a+1+(w:Int)*(y:Int)+(x:Int)) m)),x']
 |[],acc,x,_=>⟨x,by rw[aef,aef,acE];rfl⟩
 | y::ys,acc,x,hl=>by
  rw[acn] at hl;obtain⟨x',e⟩:=Lp hns ha hm hw (tl:=tl) (ys:=ys) (acc:=acc++[row w λx=>dr ns (a+1+(w:Int)*(y:Int)+(x:Int)) m]) (x:=vA (.int (y:Int))) (by rw[z1d];simp only[acn,adP];omega);refine⟨x',?_⟩;rw[ado] at e;rw[z1h,z1h];exact fU rfl (aad hns ha hm hw (by omega)) e
theorem Ri(hns:ns.length<=1000000)(ha:0<=a)(hw:w<=20)(hw1:1<=w)(hh:h<=20)(hh1:1<=h):∃f,kI [.lst (ns.map .int),.int a,.int (w:Int),.int (h:Int)]= .ok (bB w h f)/\Ok w h f:=by
 obtain⟨e1,h0,h4⟩:=o8 (k:=a) (m:=4) hns ha (by omega);obtain⟨d,hd,ed⟩:=Gz (xs:=[D.int 2,.int 5,.int 100,.int 10]) h0 h4;have hm:∃m,d= .int m/\0<m/\m<=100:=by
  simp only[ach,adi,or_false] at hd;rcases hd with rfl |rfl |rfl |rfl
  ·exact⟨_,rfl,by omega,by omega⟩
  ·exact⟨_,rfl,by omega,by omega⟩
  ·exact⟨_,rfl,by omega,by omega⟩
  ·exact⟨_,rfl,by omega,by omega⟩
 obtain⟨m,rfl,hm0,hm1⟩:=hm;obtain⟨x',er⟩:=Lp hns ha hm0 hw (tl:=vA (.int (h:Int))) (ys:=ab0 h) (acc:=[]) (x:=none) (by rw[z2d,adP];omega);refine⟨λy x=>dr ns (a+1+(w:Int)*(y:Int)+(x:Int)) m,bQ (aF (ρ':=[vA (.lst (ns.map .int)),vA (.int a),vA (.int (w:Int)),vA (.int (h:Int)),vA (.int m),some (.lst []),none]) ?_ (aF (jP (jO (m:=h) (au rfl) (by omega)) er) (aZ (aU (au (x:= .lst ((ab0 h).map λ(y:Nat)=>row w λx=>dr ns (a+1+(w:Int)*(y:Int)+(x:Int)) m)) rfl) rfl)))),hw1,hw,hh1,hh,λy hy x hx=>?_⟩
 ·exact XC (aq (x:= .lst [D.int 2,.int 5,.int 100,.int 10]) (y:= .int (dr ns a 4)) (dX rfl) (aR (ao rfl (ao rfl (au rfl))) e1) (yC ed)) rfl
 ·have hp:(0:Int)<=(w:Int)*(y:Int):=Int.mul_nonneg (by omega) (by omega);have:=(o8 (k:=a+1+(w:Int)*(y:Int)+(x:Int)) (m:=m) hns (by omega) hm0).2;show 0<=dr _ _ _/\dr _ _ _<=99;omega
end
section
variable{w h:Nat}{f g:Nat->Nat->Int}
theorem G7:dep (bB w h f)<=40:=by
 unfold bB;rw[dep];have:=Aw (c:=λy=>row w (f y)) (n:=1) (l:=ab0 h) (λy _=>by
  unfold row;rw[dep];have:=Aw (c:=λx=>D.int (f y x)) (n:=0) (l:=ab0 w) (λx _=>by simp[dep]);omega)
 omega
end
structure qj(w h:Nat)(s:Nat->Nat):Prop where
 lt:∀y<h,s y<w
 st:∀y,y+1<h->s (y+1)<=s y+1/\s y<=s (y+1)+1
abbrev sm(h:Nat)(s:Nat->Nat):D:=row h λy=>((s y:Nat):Int)
section
variable{ρ:aB}{fa:aB->R (List D)}{α:Type}{l:List α}{p q r:α->D}{x y z:D}
theorem Bf(e:fa ρ= .ok [x,y])(h1:jh x= .ok (l.map p))(h2:jh y= .ok (l.map q)):(λρ=>(fa ρ).bind zip2) ρ= .ok (l.map λa=> .tup [p a,q a]):=by
 show (fa ρ).bind zip2=_;rw[e,R.bh,zip2,h1,R.bh,h2,R.bh,GD,List.zip_map',acz];rfl
theorem aae:yg (.int i) (.int j)= .ok (.bl (decide (i<=j))):=rfl
theorem aa7(h:i<j):ltI (.int i) (.int j)= .ok (.bl true):=by
 show R.ok (D.bl (decide (i<j)))=_;rw[decide_eq_true h]
theorem Yo(h:i=j):jN (.int i) (.int j)= .ok (.bl false):=oE (by rw[h]) (by simp[dep])
theorem Uj{n d:Nat}:HT.sIx n d (some (k:Int))=min k n:=by
 show (if (k:Int)<0 then ((k:Int)+(n:Int)).toNat else min (k:Int).toNat n)=min k n;rw[if_neg (by omega),afg]
theorem zc{n d:Nat}:HT.sIx n d none=d:=rfl
theorem Yp{n:Nat}(h:n<=ds.length):iY ds none (some (n:Int))=ds.take n:=by
 rw[iY,Uj,zc,aeO h,afG];rfl
theorem Uk{n:Nat}(h:n<=ds.length):iY ds (some (n:Int)) none=ds.drop n:=by
 rw[iY,Uj,zc,aeO h,List.take_of_length_le (by rw[agq];exact z0g _)]
theorem Yq{f:aB->R D}{fu:aB->R (Option Int)}{n:Nat}(e1:f ρ= .ok (.tup ds))(e2:fu ρ= .ok (some (n:Int)))(h:n<=ds.length):lG f (λ_=> .ok none) fu ρ= .ok (.tup (ds.take n)):=by
 rw[lG,e1,R.bh,R.bh,e2,R.bh,Kw,Yp h]
theorem Ul{f:aB->R D}{fl:aB->R (Option Int)}{n:Nat}(e1:f ρ= .ok (.tup ds))(e2:fl ρ= .ok (some (n:Int)))(h:n<=ds.length):lG f fl (λ_=> .ok none) ρ= .ok (.tup (ds.drop n)):=by
 rw[lG,e1,R.bh,e2,R.bh,R.bh,Kw,Uk h]
theorem Bg{xs ys:List D}(h:xs.length+ys.length<=1000000):c7 (.tup xs) (.tup ys)= .ok (.tup (xs++ys)):=by
 rw[c7,if_pos h]
theorem Yr{xs ys:List D}(h:xs.length+ys.length<=1000000):c7 (.lst xs) (.lst ys)= .ok (.lst (xs++ys)):=by
 rw[c7,if_pos h]
end
section
variable{w h:Nat}{g:Nat->Int}{n:Nat}{c:Int}
theorem Lq(hn:n<w):((ab0 w).map λx=>D.int (g x)).take n++((ab0 w).map λx=>D.int (g x)).drop (n+1)=(ab0 (w - 1)).map λx=>D.int (if x<n then g x else g (x+1)):=by
 refine List.ext_getElem (by simp;omega) λi h1 h2=>?_;rw[List.getElem_append];by_cases hi:i<n
 ·rw[dif_pos (by simp;omega)];simp[hi]
 ·rw[dif_neg (by simp;omega)];have e:n+1+(i - min n w)=i+1:=by omega
  simp[hi,e]
end
section
variable{w h:Nat}{f:Nat->Nat->Int}{s:Nat->Nat}
theorem len0(o:Ok w h f){ρ:aB}(e:u ρ= .ok (bB w h f)):aD cF (ak (bin u (ci 0) bN) nA) ρ= .ok (.int (w:Int)):=by
 refine aU (au (aq e rfl (iI (i:=0) (d:=row w (f 0)) ?_))) ?_
 ·rw[z2b,acv o.h1];rfl
 ·simp[row,cF]
theorem G8(q:qj w h s)(xU:h<=20):qd [bB w h f,sm h s]= .ok (row h λy=>f y (s y)):=by
 refine bQ (aZ (aU (au (cj (c:=λy=> .tup [row w (f y),.int ((s y:Nat):Int)]) (h:=λy=> .int (f y (s y))) (l:=ab0 h) (Bf (ao rfl (au rfl)) rfl rfl) (by rw[z2d];omega) λy hy=>?_)) rfl));refine cM rfl (aq rfl rfl (iI (i:=s y) ?_));rw[z2b,acv (q.lt y (z2e hy))];rfl
def less(s:Nat->Nat)(f:Nat->Nat->Int):Nat->Nat->Int:=λy x=>if x<s y then f y x else f y (x+1)
def more(s:Nat->Nat)(c:Nat->Int)(f:Nat->Nat->Int):Nat->Nat->Int:=λy x=>if x<s y then f y x else if x=s y then c y else f y (x - 1)
theorem Fp(q:qj w h s)(xU:h<=20)(w20:w<=20):tZ [bB w h f,sm h s]= .ok (bB (w - 1) h (less s f)):=by
 refine bQ (aZ (aU (au (cj (c:=λy=> .tup [row w (f y),.int ((s y:Nat):Int)]) (h:=λy=>row (w - 1) (less s f y)) (l:=ab0 h) (Bf (ao rfl (au rfl)) rfl rfl) (by rw[z2d];omega) λy hy=>?_)) rfl));have hs:=q.lt y (z2e hy);refine cM rfl (aq (Yq (n:=s y) rfl rfl (by simp;omega)) (Ul (n:=s y+1) rfl rfl (by simp;omega)) ((Bg (by simp;omega)).trans ?_));rw[Lq hs];rfl
end
theorem jw{ρ:aB}{i:Nat}(e:fa ρ= .ok ds)(h:ds.length<=1000000:=by exact adM rfl):newL fa i ρ= .nx (ρ.set i (some (.lst ds))):=by
 unfold newL;rw[e];show (if _ then _ else _)=_;rw[if_pos h]
def pl(ps:List Nat):List D:=ps.map λp=> .int ((p:Nat):Int)
section
variable{ns:List Int}{a:Int}{w h:Nat}{t:Option Ent}
end
section
variable{w h:Nat}{f:Nat->Nat->Int}
end
section
variable{w h:Nat}{f:Nat->Nat->Int}{s:Nat->Nat}{c:Nat->Int}
theorem Ok.less(o:Ok w h f)(h1:1<w):Ok (w - 1) h (less s f):=by
 refine⟨by omega,by have:=o.w2;omega,o.h1,o.h2,λy hy x hx=>?_⟩;unfold yN.less;split
 ·exact o.c y hy x (by omega)
 ·exact o.c y hy (x+1) (by omega)
end
def ab(i:Int):Int:=if i<0 then -i else i
def gap(n:Nat)(g:Nat->Int)(x:Nat):Int:=ab (g (x - 1) - g (min (x+1) (n - 1)))
def Lr(w h:Nat)(f:Nat->Nat->Int)(y x:Nat):Int:=gap w (f y) x+gap h (λy=>f y x) y
section
variable{n w h:Nat}{g:Nat->Int}{f:Nat->Nat->Int}{s:Nat->Nat}{ρ:aB}
theorem Bh:cF [row n g]= .ok (.int (n:Int)):=by simp[row,cF]
theorem mH:cF [bB w h f]= .ok (.int (h:Int)):=by simp[bB,cF]
theorem zf{n:Nat}(h1:1<=n):cT (.int (n:Int)) (.int 1)= .ok (.int ((n - 1:Nat):Int)):=by
 show R.ok (D.int ((n:Int) - 1))=_;rw[show (n:Int) - 1=((n - 1:Nat):Int) by omega]
theorem Rj:maxD [.int ((x:Int) - 1),.int 0]= .ok (.int ((x - 1:Nat):Int)):=by
 show R.ok (D.int (if (0:Int) > (x:Int) - 1 then 0 else (x:Int) - 1))=_;congr 2;split <;> omega
theorem min1{n:Nat}:minD [.int ((x+1:Nat):Int),.int (n:Int)]= .ok (.int ((min (x+1) n:Nat):Int)):=by
 show R.ok (D.int (if (n:Int)<((x+1:Nat):Int) then (n:Int) else ((x+1:Nat):Int)))=_;congr 2;split <;> omega
theorem jj(hx:x<n):bN (row n g) (.int (x:Int))= .ok (.int (g x)):=by
 refine iI (i:=x) ?_;rw[z2b,acv hx];rfl
theorem pR(hy:y<h):bN (bB w h f) (.int (y:Int))= .ok (row w (f y)):=by
 refine iI (i:=y) ?_;rw[z2b,acv hy];rfl
theorem mZ{α:Type}{p:Nat->D}(hx:x<n):bN (.lst ((ab0 n).map p)) (.int (x:Int))= .ok (p x):=by
 refine Ec (i:=x) ?_;rw[z2b,acv hx];rfl
theorem G9(h1:1<=n)(xU:n<=20):yR [row n g]= .ok (.lst ((ab0 n).map λx=> .int (gap n g x))):=by
 refine bQ (aF (aQ (aq (aU (au rfl) Bh) rfl (zf h1)) rfl) (aZ (cj (c:=λ(x:Nat)=>D.int (x:Int)) (h:=λx=> .int (gap n g x)) (l:=ab0 n) (jO (au (aU (au rfl) Bh)) (by omega)) (by rw[z2d];omega) λx hx=>?_)));have hx:=z2e hx;exact cM rfl (aU (au (aq (x:= .int (g (x - 1))) (y:= .int (g (min (x+1) (n - 1)))) (aq rfl (aU (ao (aq rfl rfl rfl) (au rfl)) Rj) (jj (by omega))) (aq rfl (aU (ao (x:= .int ((x+1:Nat):Int)) (aq rfl rfl rfl) (au rfl)) min1) (jj (by omega))) rfl)) rfl)
theorem Um(o:Ok w h f):CZ [bB w h f]= .ok (bB w h (Lr w h f)):=by
 have xU:=o.h2;have w20:=o.w2;refine bQ (aF (aQ (aR (au rfl) (size_eq o)) rfl)
  (aF (aQ (cj (c:=λy=>row w (f y)) (h:=λy=> .lst ((ab0 w).map λx=> .int (gap w (f y) x))) (l:=ab0 h) (jq rfl) (by rw[z2d];omega) λy hy=>cM rfl (aR (au rfl) (G9 o.w1 o.w2))) rfl)
  (aF (aQ (cj (c:=λx=>row h λy=>f y x) (h:=λx=> .lst ((ab0 h).map λy=> .int (gap h (λy=>f y x) y))) (l:=ab0 w) (jq (aR (au rfl) (za o))) (by rw[z2d];omega) λy hy=>cM rfl (aR (au rfl) (G9 o.h1 o.h2))) rfl)
  (aZ (aU (au (cj (c:=λ(y:Nat)=>D.int (y:Int)) (h:=λy=>row w (Lr w h f y)) (l:=ab0 h) (jO (au rfl) (by omega)) (by rw[z2d];omega) λy hy=>?_)) rfl)))))
 have hy:=z2e hy;refine cM rfl (aU (au (cj (c:=λ(x:Nat)=>D.int (x:Int)) (h:=λx=> .int (Lr w h f y x)) (l:=ab0 w) (jO (au rfl) (by omega)) (by rw[z2d];omega) λx hx=>?_)) rfl);have hx:=z2e hx;exact cM rfl (aq (x:= .int (gap w (f y) x)) (y:= .int (gap h (λy=>f y x) y)) (aq (aq rfl rfl (mZ (α:=D) hy)) rfl (mZ (α:=D) hx)) (aq (aq rfl rfl (mZ (α:=D) hx)) rfl (mZ (α:=D) hy)) rfl)
def fK(T:Nat->Int):D:= .tup [.int (T 0),.int (T 1),.int (T 2)]
def tab(w h:Nat)(T:Nat->Nat->Nat->Int):D:= .lst ((ab0 h).map λy=> .lst ((ab0 w).map λx=>fK (T y x)))
def jV(w:Nat)(f:Nat->Nat->Int)(y x i:Nat):Int:=gap w (f y) x+(if i=0 then ab (f (y - 1) x - f y (x - 1)) else if i=1 then 0 else ab (f (y - 1) x - f y (min (x+1) (w - 1))))
def Xj:aB->So:=(aP (bw (bin (gv 7) (aD rN (ak (bin (bin (gv 3) (gv 6) bN) (bin (gv 2) (aD maxD (ak (bin (gv 6) (ci 1) cT) (ak (ci 0) nA))) bN) cT) nA)) c7) (aK 8)) (aP (bw (bin (gv 7) (aD rN (ak (bin (bin (gv 3) (gv 6) bN) (bin (gv 2) (aD minD (ak (bin (gv 6) (ci 1) c7) (ak (gv 4) nA))) bN) cT) nA)) c7) (aK 9)) (oh 5 (cU (ak (gv 8) (ak (gv 7) (ak (gv 9) nA)))))))
theorem sy{i:Nat}{d:D}(e:u ρ= .ok d)(h:ρ[i]?=some (some (.lst ds)))(hl:ds.length<1000000):oh i u ρ= .nx (ρ.set i (some (.lst (ds++[d])))):=by
 unfold oh;rw[e];simp only[Dz,jC,h];rw[if_pos hl]
theorem Wi(h1:1<=w)(hx:x<w)(hl:acc.length<1000000):
  ∃z8 z9,Xj [e0,e1,vA (row w (f y)),vA (row w (f (y - 1))),vA (.int ((w - 1:Nat):Int)),some (.lst acc),vA (.int (x:Int)),vA (.int (gap w (f y) x)),e8,e9] =
   .nx [e0,e1,vA (row w (f y)),vA (row w (f (y - 1))),vA (.int ((w - 1:Nat):Int)),some (.lst (acc++[fK (jV w f y x)])),vA (.int (x:Int)),vA (.int (gap w (f y) x)),z8,z9]:=by
 refine⟨_,_,aF (aQ (d:= .int (jV w f y x 0)) (aq (x:= .int (gap w (f y) x)) (y:= .int (ab (f (y - 1) x - f y (x - 1)))) rfl (aU (au (aq (x:= .int (f (y - 1) x)) (y:= .int (f y (x - 1))) (aq rfl rfl (jj hx)) (aq rfl (aU (ao (aq rfl rfl rfl) (au rfl)) Rj) (jj (by omega))) rfl)) rfl) rfl) rfl)
  (aF (aQ (d:= .int (jV w f y x 2)) (aq (x:= .int (gap w (f y) x)) (y:= .int (ab (f (y - 1) x - f y (min (x+1) (w - 1))))) rfl (aU (au (aq (x:= .int (f (y - 1) x)) (y:= .int (f y (min (x+1) (w - 1)))) (aq rfl rfl (jj hx)) (aq rfl (aU (ao (x:= .int ((x+1:Nat):Int)) (aq rfl rfl rfl) (au rfl)) min1) (jj (by omega))) rfl)) rfl) rfl) rfl)
  (sy (d:=fK (jV w f y x)) ((cu (ao rfl (ao rfl (au rfl)))).trans ?_) rfl hl))⟩
 have:jV w f y x 1=gap w (f y) x:=by simp[jV]
 rw[fK,this]
theorem join_loop(h1:1<=w){y:Nat}{e0 e1:Option Ent}:∀{xs:List Nat} {acc:List D} {e6 e7 e8 e9:Option Ent},(∀x∈xs,x<w)->acc.length+xs.length<=1000->
  ∃z6 z7 z8 z9,forL (cY (cZ 2 (aY (aK 6) (aY (aK 7) nilG)))) Xj (xs.map λ(x:Nat)=>D.tup [.int (x:Int),.int (gap w (f y) x)]) [e0,e1,vA (row w (f y)),vA (row w (f (y - 1))),vA (.int ((w - 1:Nat):Int)),some (.lst acc),e6,e7,e8,e9] =
   .nx [e0,e1,vA (row w (f y)),vA (row w (f (y - 1))),vA (.int ((w - 1:Nat):Int)),some (.lst (acc++xs.map λx=>fK (jV w f y x))),z6,z7,z8,z9]
 |[],acc,e6,e7,e8,e9,_,_=>⟨e6,e7,e8,e9,by rw[aef,aef,acE];rfl⟩
 | x::xs,acc,e6,e7,e8,e9,hx,hl=>by
  rw[acn] at hl;obtain⟨z8,z9,e⟩:=Wi (f:=f) (y:=y) h1 (hx x (by simp)) (e0:=e0) (e1:=e1) (e8:=e8) (e9:=e9) (acc:=acc) (by omega);obtain⟨y6,y7,y8,y9,e'⟩:=join_loop h1 (y:=y) (e0:=e0) (e1:=e1) (xs:=xs) (acc:=acc++[fK (jV w f y x)]) (e6:=vA (.int (x:Int))) (e7:=vA (.int (gap w (f y) x))) (e8:=z8) (e9:=z9) (λz hz=>hx z (by simp[hz])) (by simp;omega);refine⟨y6,y7,y8,y9,?_⟩;rw[ado] at e';rw[z1h,z1h];exact fU rfl e e'
theorem Je{p:Nat->D}:∀{n m:Nat},mW m ((aec m n).map p)=(aec m n).map λ(x:Nat)=>D.tup [.int (x:Int),p x]
 |0,_=>rfl
 |n+1,m=>by rw[aeD,z1h,z1h,mW,Je]
theorem wg{x:D}{n:Nat}{p:Nat->D}(e:fa ρ= .ok [x])(h:jh x= .ok ((ab0 n).map p)):(λρ=>(fa ρ).bind o9) ρ= .ok ((ab0 n).map λ(y:Nat)=>D.tup [.int (y:Int),p y]):=by
 show (fa ρ).bind o9=_;rw[e,R.bh,o9,h,R.bh,ad9,Je]
theorem Jy(o:Ok w h f)(hy:y<h):rY [bB w h f,.int (y:Int)]= .ok (.lst ((ab0 w).map λx=>fK (jV w f y x))):=by
 have w20:=o.w2;obtain⟨z6,z7,z8,z9,e⟩:=join_loop (f:=f) (y:=y) o.w1 (e0:=vA (bB w h f)) (e1:=vA (.int (y:Int))) (xs:=ab0 w) (acc:=[]) (e6:=none) (e7:=none) (e8:=none) (e9:=none) (λx hx=>z2e hx) (by rw[z2d,adP];omega);exact bQ (aF (aQ (aq rfl rfl (pR hy)) rfl) (aF (aQ (aq rfl (aU (ao (aq rfl rfl rfl) (au rfl)) Rj) (pR (by omega))) rfl) (aF (aQ (aq (aU (au rfl) Bh) rfl (zf o.w1)) rfl) (aF (jw rfl)
  (aF (jP (wg (au (aR (au rfl) (G9 o.w1 o.w2))) rfl) e) (aZ (d:= .lst ((ab0 w).map λx=>fK (jV w f y x))) rfl))))))
theorem oK{a b:Str}:iM (.str a) (.str b)= .ok (.bl (a ==b)):=by
 rw[iM,if_pos (by simp[dep])];show R.ok (D.bl (fQ (.str a) (.str b)))=_;simp[lB,lC,lD,lE,lF,gJ,d9]
def Xk(w h:Nat)(f:Nat->Nat->Int)(y x i:Nat):Int:=Lr w h f y x
theorem Ys(o:Ok w h f):vX [bB w h f,.str "worth"]= .ok (tab w h (Xk w h f)):=by
 have xU:=o.h2;have w20:=o.w2;exact bQ (gD (cP (aN (b:=true) (aq rfl rfl oK)) (aZ (cj (c:=λy=>row w (Lr w h f y)) (h:=λy=> .lst ((ab0 w).map λx=>fK (Xk w h f y x))) (l:=ab0 h) (jq (aR (au rfl) (Um o))) (by rw[z2d];omega) λy hy=>
  cM rfl (cj (c:=λx=> .int (Lr w h f y x)) (h:=λx=>fK (Xk w h f y x)) (l:=ab0 w) (jq rfl) (by rw[z2d];omega) λx hx=>cM rfl (cu (ao rfl (ao rfl (au rfl)))))))))
theorem Yt(o:Ok w h f):vX [bB w h f,.str "joins"]= .ok (tab w h (jV w f)):=by
 have xU:=o.h2;exact bQ (aF (bU (aN (b:=false) (aq rfl rfl oK)) rfl) (aZ (cj (c:=λ(y:Nat)=>D.int (y:Int)) (h:=λy=> .lst ((ab0 w).map λx=>fK (jV w f y x))) (l:=ab0 h) (jO (au (aU (au rfl) mH)) (by omega)) (by rw[z2d];omega) λy hy=>
  cM rfl (aR (ao rfl (au rfl)) (Jy o (z2e hy))))))
def fare(T:Nat->Nat->Nat->Int)(s:Nat->Nat)(y:Nat):Int:=T y (s y) (s (y - 1)+1 - s y)
def cost(h:Nat)(T:Nat->Nat->Nat->Int)(s:Nat->Nat):Int:=T 0 (s 0) 1+((ab0 (h - 1)).map λy=>fare T s (y+1)).sum
theorem Fq{T:Nat->Int}{p:Nat->D}{b:Nat}(hb:b<w)(h1:b<=a+1)(h2:a<=b+1)(hp:p b=fK T):mF [.lst ((ab0 w).map p),.int (a:Int),.int (b:Int)]= .ok (.int (T (a+1 - b))):=by
 refine bQ (aZ (aq (x:=fK T) (y:= .int ((a+1 - b:Nat):Int)) (aq rfl rfl ((mZ (α:=D) hb).trans (congrArg R.ok hp))) (aq (aq rfl rfl rfl) rfl ?_) (iI (i:=a+1 - b) ?_)))
 ·show R.ok (D.int ((a:Int) - (b:Int)+1))=_;rw[show (a:Int) - (b:Int)+1=((a+1 - b:Nat):Int) by omega]
 ·have:a+1 - b=0\/a+1 - b=1\/a+1 - b=2:=by omega
  rcases this with e |e |e <;> rw[e] <;> rfl
theorem aaf{i:Nat}{a b:Int}(h:ρ[i]?=some (some (.val (.int a))))(e:u ρ= .ok (.int b)):KH i u ρ= .nx (ρ.set i (some (.val (.int (a+b))))):=by
 unfold KH;simp only[h];rw[e];rfl
theorem iR{m:Str}(hm:m= "worth"\/m= "joins"):lN [.str m]= .ok .non:=by
 rcases hm with rfl |rfl
 ·exact JW (bU (aN (b:=false) (aq rfl rfl (by simp[Ei,QT,gU,lB,lC,lD,lE,lF,gJ,d9]))) rfl)
 ·exact JW (bU (aN (b:=false) (aq rfl rfl (by simp[Ei,QT,gU,lB,lC,lD,lE,lF,gJ,d9]))) rfl)
def tbl(m:Str)(w h:Nat)(f:Nat->Nat->Int):Nat->Nat->Nat->Int:=if m= "worth" then Xk w h f else jV w f
end
section
variable{n w h:Nat}{g:Nat->Int}{f:Nat->Nat->Int}{s:Nat->Nat}{c:Int}{m:Str}{ρ:aB}
theorem Uo{p:Nat->Int}(hh:1<=h):((ab0 h).map p).sum=p 0+((ab0 (h - 1)).map λy=>p (y+1)).sum:=by
 obtain⟨k,rfl⟩:∃k,h=k+1:=⟨h - 1,by omega⟩;rw[adH,z1h,aem,acz];rfl
abbrev clip(n:Nat)(X:Int):Int:=if (if X<((n - 1:Nat):Int) then X else ((n - 1:Nat):Int)) > 0 then (if X<((n - 1:Nat):Int) then X else ((n - 1:Nat):Int)) else 0
theorem J2{X Y:Int}(o:Ok w h f)(hy:clip h Y=(y:Int))(hyh:y<h)(hx:clip w X=(x:Int))(hxw:x<w):iU [bB w h f,.int X,.int Y]= .ok (.int (f y x)):=by
 refine bQ (aZ (aq (x:=row w (f y)) (y:= .int (x:Int)) (aq rfl (aU (ao rfl (au (aU (ao (aq (aU (au rfl) mH) rfl (zf o.h1)) (au rfl)) rfl))) ?_) (pR hyh)) (aU (ao rfl (au (aU (ao (aq (len0 o rfl) rfl (zf o.w1)) (au rfl)) rfl))) ?_) (jj hxw)))
 ·exact congrArg (λz=>R.ok (D.int z)) hy
 ·exact congrArg (λz=>R.ok (D.int z)) hx
theorem Bj(hx:x<n):clip n (x:Int)=(x:Int):=by unfold clip;split <;> split <;> omega
theorem Qi(hx:x<n):clip n ((x+1:Nat):Int)=((min (x+1) (n - 1):Nat):Int):=by unfold clip;split <;> split <;> omega
theorem Qj(hx:x<n):clip n ((x:Int) - 1)=((x - 1:Nat):Int):=by unfold clip;split <;> split <;> omega
theorem sE(o:Ok w h f)(hx:x<w)(hy:y<h):aD rN (ak (bin (aD (aV iU 3) (ak (gv 0) (ak (bin (gv 2) (ci 1) cT) (ak (gv 3) nA)))) (aD (aV iU 3) (ak (gv 0) (ak (bin (gv 2) (ci 1) c7) (ak (gv 3) nA)))) cT) nA)
  [vA (bB w h f),e1,vA (.int (x:Int)),vA (.int (y:Int)),e4,e5]= .ok (.int (gap w (f y) x)):=
 aU (au (aq (x:= .int (f y (x - 1))) (y:= .int (f y (min (x+1) (w - 1)))) (aR (ao rfl (ao (x:= .int ((x:Int) - 1)) (aq rfl rfl rfl) (au rfl))) (J2 o (Bj hy) hy (Qj hx) (by omega))) (aR (ao rfl (ao (x:= .int ((x+1:Nat):Int)) (aq rfl rfl rfl) (au rfl))) (J2 o (Bj hy) hy (Qi hx) (by omega))) rfl)) rfl
theorem aag(o:Ok w h f)(hx:x<w)(hy:y<h){d:D}:jt [bB w h f,.str "worth",.int (x:Int),.int (y:Int),d]= .ok (.int (Lr w h f y x)):=by
 refine bQ (aF (aQ (sE o hx hy) rfl) (gD (cP (aN (b:=true) (aq rfl rfl oK)) (aZ (aq (x:= .int (gap w (f y) x)) (y:= .int (gap h (λy=>f y x) y)) rfl (aU (au (aq (x:= .int (f (y - 1) x)) (y:= .int (f (min (y+1) (h - 1)) x)) ?_ ?_ rfl)) rfl) rfl)))))
 ·exact aR (ao rfl (ao rfl (au (x:= .int ((y:Int) - 1)) (aq rfl rfl rfl)))) (J2 o (Qj hy) (by omega) (Bj hx) hx)
 ·exact aR (ao rfl (ao rfl (au (x:= .int ((y+1:Nat):Int)) (aq rfl rfl rfl)))) (J2 o (Qi hy) (by omega) (Bj hx) hx)
theorem mJ{c:aB->R Bool}{f g:aB->R D}(e:c ρ= .ok true)(h:f ρ=r):tQ c f g ρ=r:=by rw[tQ,e,R.bh,if_pos rfl,h]
theorem oM{c:aB->R Bool}{f g:aB->R D}(e:c ρ= .ok false)(h:g ρ=r):tQ c f g ρ=r:=by rw[tQ,e,R.bh,if_neg (by decide),h]
theorem aa8:jN (.int i) (.int j)= .ok (.bl (!decide (i=j))):=by
 rw[jN,if_pos (by simp[dep])];show R.ok (D.bl (!fQ (.int i) (.int j)))=_;by_cases h:i=j <;> simp[lB,lC,lD,lE,lF,gJ,d9,h]
theorem Yu(o:Ok w h f)(hx:x<w)(hy:y<h):jt [bB w h f,.str "joins",.int (x:Int),.int (y:Int),.non]= .ok (.int (jV w f y x 1)):=by
 have e:jV w f y x 1=gap w (f y) x:=by simp[jV]
 rw[e];exact bQ (aF (aQ (sE o hx hy) rfl) (aF (bU (aN (b:=false) (aq rfl rfl oK)) rfl) (aF (bU (vM (aN (b:=false) (aq rfl rfl rfl))) rfl) (aZ rfl))))
theorem aah(o:Ok w h f){b:Nat}(hx:x<w)(hy:y+1<h)(hb:b<w)(h1:b<=x+1)(h2:x<=b+1):jt [bB w h f,.str "joins",.int (x:Int),.int ((y+1:Nat):Int),.int (b:Int)]= .ok (.int (jV w f (y+1) x (b+1 - x))):=by
 by_cases hbx:b=x
 ·subst hbx;have e:jV w f (y+1) b (b+1 - b)=gap w (f (y+1)) b:=by simp[jV,show b+1 - b=1 by omega]
  rw[e];exact bQ (aF (aQ (sE o hx hy) rfl) (aF (bU (aN (b:=false) (aq rfl rfl oK)) rfl) (aF (bU (jr (aN (b:=true) (aq rfl rfl rfl)) (aN (aq rfl rfl (Yo rfl)))) rfl) (aZ rfl))))
 ·have hne:jN (.int (b:Int)) (.int (x:Int))= .ok (.bl true):=by rw[aa8,decide_eq_false (by omega)];rfl
  by_cases hlt:b<x
  ·have e:jV w f (y+1) x (b+1 - x)=gap w (f (y+1)) x+ab (f y x - f (y+1) (x - 1)):=by simp[jV,show b+1 - x=0 by omega]
   rw[e];exact bQ (aF (aQ (sE o hx hy) rfl) (aF (bU (aN (b:=false) (aq rfl rfl oK)) rfl) (aF (cP (jr (aN (b:=true) (aq rfl rfl rfl)) (aN (aq rfl rfl hne)))
    (aQ (d:= .int (gap w (f (y+1)) x+ab (f y x - f (y+1) (x - 1)))) (aq (x:= .int (gap w (f (y+1)) x)) (y:= .int (ab (f y x - f (y+1) (x - 1)))) rfl (aU (au (aq (x:= .int (f y x)) (y:= .int (f (y+1) (x - 1))) (aq (aq rfl (aq (x:= .int ((y+1:Nat):Int)) rfl rfl (zf (by omega))) (pR (y:=y+1 - 1) (by omega))) rfl (jj hx)) (aq (aq rfl rfl (pR hy)) (mJ (aN (aq rfl rfl (aa7 (by omega)))) (aq (x:= .int (x:Int)) rfl rfl (zf (by omega)))) (jj (by omega))) rfl)) rfl) rfl) rfl)) (aZ rfl))))
  ·have e:jV w f (y+1) x (b+1 - x)=gap w (f (y+1)) x+ab (f y x - f (y+1) (x+1)):=by simp[jV,show b+1 - x=2 by omega,show min (x+1) (w - 1)=x+1 by omega]
   have hf:ltI (.int (b:Int)) (.int (x:Int))= .ok (.bl false):=by
    show R.ok (D.bl (decide _))=_;rw[decide_eq_false (by omega)]
   rw[e];exact bQ (aF (aQ (sE o hx hy) rfl) (aF (bU (aN (b:=false) (aq rfl rfl oK)) rfl) (aF (cP (jr (aN (b:=true) (aq rfl rfl rfl)) (aN (aq rfl rfl hne)))
    (aQ (d:= .int (gap w (f (y+1)) x+ab (f y x - f (y+1) (x+1)))) (aq (x:= .int (gap w (f (y+1)) x)) (y:= .int (ab (f y x - f (y+1) (x+1)))) rfl (aU (au (aq (x:= .int (f y x)) (y:= .int (f (y+1) (x+1))) (aq (aq rfl (aq (x:= .int ((y+1:Nat):Int)) rfl rfl (zf (by omega))) (pR (y:=y+1 - 1) (by omega))) rfl (jj hx)) (aq (aq rfl rfl (pR hy)) (oM (aN (aq rfl rfl hf)) (aq (x:= .int (x:Int)) (y:= .int 1) rfl rfl rfl)) (jj (x:=x+1) (by omega))) rfl)) rfl) rfl) rfl)) (aZ rfl))))
def bef(h:Nat)(s:Nat->Nat):List D:=D.non::(ab0 (h - 1)).map λy=>D.int ((s y:Nat):Int)
theorem aai(hh:1<=h)(xU:h<=20):bin (cU (ak (λ_=> .ok .non) nA)) (lG (gv 2) (λ_=> .ok none) (λρ=>(((oF (ci 1)):aB->R D) ρ).bind Ia)) c7 [e0,e1,vA (sm h s),e3]= .ok (.tup (bef h s)):=by
 have e:lG (gv 2) (λ_=> .ok none) (λρ=>(((oF (ci 1)):aB->R D) ρ).bind Ia) [e0,e1,vA (sm h s),e3]= .ok (.tup ((ab0 (h - 1)).map λy=>D.int ((s y:Nat):Int))):=by
  show R.ok (D.tup (iY ((ab0 h).map λy=>D.int ((s y:Nat):Int)) none (some (-1))))=_;have e2:∀{n d:Nat},HT.sIx n d (some (-1))=n - 1:=λ{n d}=>by
   show (if (-1:Int)<0 then ((-1:Int)+(n:Int)).toNat else min (-1:Int).toNat n)=n - 1;rw[if_pos (by decide)];omega
  rw[iY,e2,zc,afG,z1g,z2d,afP,<-af8,List.take_range,aeO (by omega)]
 exact aq (cu (au rfl)) e (Bg (by simp;omega))
theorem aaj(hy:y<h):bN (.tup (bef h s)) (.int (y:Int))= .ok (if y=0 then .non else .int ((s (y - 1):Nat):Int)):=by
 refine iI (i:=y) ?_;cases y with
 |zero=>rfl
 | succ y=>
  show ((ab0 (h - 1)).map λy=>D.int ((s y:Nat):Int))[y]?=_;rw[z2b,acv (by omega)];rfl
theorem step_eq(hm:m= "worth"\/m= "joins")(o:Ok w h f)(q:qj w h s)(hy:y<h):jt [bB w h f,.str m,.int ((s y:Nat):Int),.int (y:Int),if y=0 then .non else .int ((s (y - 1):Nat):Int)]= .ok (.int (if y=0 then tbl m w h f 0 (s 0) 1 else fare (tbl m w h f) s y)):=by
 rcases hm with rfl |rfl
 ·rw[aag o (q.lt y hy) hy];by_cases h0:y=0
  ·subst h0;rfl
  ·rw[if_neg h0];rfl
 ·by_cases h0:y=0
  ·subst h0;rw[if_pos rfl,if_pos rfl];exact Yu o (q.lt 0 hy) hy
  ·obtain⟨k,rfl⟩:∃k,y=k+1:=⟨y - 1,by omega⟩;rw[if_neg h0,if_neg h0];obtain⟨k1,k2⟩:=q.st k hy;exact aah o (q.lt _ hy) hy (q.lt k (by omega)) k2 k1
theorem Cd(hm:m= "worth"\/m= "joins")(o:Ok w h f)(q:qj w h s):ju [bB w h f,.str m,sm h s]= .ok (.int (cost h (tbl m w h f) s)):=by
 have xU:=o.h2;have e:((ab0 h).map λy=>if y=0 then tbl m w h f 0 (s 0) 1 else fare (tbl m w h f) s y).sum=cost h (tbl m w h f) s:=by
  rw[Uo o.h1,if_pos rfl];rfl
 rw[<-e];refine bQ (aF (aQ (aai o.h1 xU) rfl) (aZ (aU (au (cj (c:=λ(y:Nat)=>D.tup [.int (y:Int),.int ((s y:Nat):Int)]) (h:=λy=> .int (if y=0 then tbl m w h f 0 (s 0) 1 else fare (tbl m w h f) s y)) (l:=ab0 h) (wg (au rfl) rfl) (by rw[z2d];omega) λy hy=>?_)) Xz)));have hy:=z2e hy;exact cM rfl (aR (ao rfl (ao rfl (ao rfl (ao rfl (au (aq rfl rfl (aaj hy))))))) (step_eq hm o q hy))
end
abbrev Wy:=Int×Int×List Int
def fl(t:Wy):List Int:=t.1::t.2.1::t.2.2
def un(l:List Int):Wy:=(l.getD 0 0,l.getD 1 0,l.drop 2)
theorem Rk(t:Wy):un (fl t)=t:=rfl
theorem Ls{a:Wy}(h:fl a=fl b):a=b:=by have:=congrArg un h;simpa[Rk] using this
def dN(t:Wy):D:= .tup [.int t.1,.int t.2.1,.tup (t.2.2.map .int)]
theorem wR(t:Wy):dN t=iJ (fl t):=rfl
def cO(l:List Wy):D:= .lst (l.map dN)
section
variable{n w h:Nat}{g:Nat->Int}{f:Nat->Nat->Int}{ρ:aB}
theorem Qk{i:Nat}{es:List D}(h:ρ[i]?=some (some (.lst ds)))(e:u ρ= .ok (.lst es))(hl:ds.length+es.length<=1000000):CG i u ρ= .nx (ρ.set i (some (.lst (ds++es)))):=by
 unfold CG;simp only[h,e,Dz,jC];rw[if_pos hl]
theorem Yv{i:Nat}{es:List D}(h:ρ[i]?=some (some (.lst ds)))(h2:ρ[k]?=some (some (.lst es)))(hl:ds.length<1000000):K5 i k ρ= .nx ((ρ.set i (some (.lst (ds++[.lst es])))).set k (some (.val (.lst es)))):=by
 unfold K5;simp only[h,h2];rw[if_pos hl]
theorem Lw{i:Nat}{G:List D->R D}{n:Nat}{d:D}(h:ρ[i]?=some (some (.obj (.fn a))))(e:fa ρ= .ok ds)(e2:G ds= .ok d)(hl:ds.length=n:=by rfl):Ba i a G n fa ρ= .ok d:=by
 unfold Ba;simp only[h,e,if_true,R.bh,aV,hl,e2];rfl
theorem aak{i:Nat}{k:Int}{d:D}(h:ρ[i]?=some (some (.lst ds)))(e:u ρ= .ok (.int k))(e2:bN (.lst ds) (.int k)= .ok d):TJ i u ρ= .ok d:=by
 unfold TJ;simp only[h,e,R.bh,e2]
theorem Bk(e:u ρ= .ok (.lst ds)):La u ρ= .ok (!ds.isEmpty):=by unfold La;rw[e];rfl
theorem fW{m:Nat}{s:aB->So}{es:List Ent}{d:D}(e:s (es.map some++ab3 m none)= .rt d):gb m s es= .ok d:=by rw[gb,e]
def nr(w x:Nat):List Nat:=aec (x - 1) (min (x+2) w - (x - 1))
theorem Ft{p:Nat}(hx:x<w):p∈nr w x↔p<w/\p<=x+1/\x<=p+1:=by
 unfold nr;rw[List.mem_range'_1,Nat.add_sub_cancel' (Nat.le_min.mpr ⟨z0b (Nat.sub_le x 1) (afo x 2),z0b (Nat.sub_le x 1) (z0e hx)⟩),Nat.lt_min];exact⟨λh=>⟨h.2.2,Nat.le_of_lt_succ h.2.1,Nat.le_add_of_sub_le h.1⟩,λh=>⟨Nat.sub_le_of_le_add h.2.2,Nat.lt_succ_of_le h.2.1,h.1⟩⟩
theorem Uq:(nr w x).length<=3:=by unfold nr;rw[List.length_range'];omega
theorem Yw(hx:x<w)(hw:w<=20):Li [.int (x:Int),.int (w:Int)]= .ok (.lst ((nr w x).map λ(p:Nat)=>D.int (p:Int))):=by
 have e2:minD [.int ((x+2:Nat):Int),.int (w:Int)]= .ok (.int ((min (x+2) w:Nat):Int)):=by
  show R.ok (D.int (if (w:Int)<((x+2:Nat):Int) then (w:Int) else ((x+2:Nat):Int)))=_;congr 2;by_cases hz:w<x+2
  ·rw[if_pos (agv.mpr hz),Nat.min_eq_right (z0e hz)]
  ·rw[if_neg (λq=>hz (agv.mp q)),aeO (Nat.le_of_not_lt hz)]
 refine bQ (aZ (aU (ao (x:= .int ((x - 1:Nat):Int)) (aU (ao (aq rfl rfl rfl) (au rfl)) Rj) (au (x:= .int ((min (x+2) w:Nat):Int)) (aU (ao (x:= .int ((x+2:Nat):Int)) (aq rfl rfl rfl) (au rfl)) e2))) ?_));show (if _ then _ else _)=_;have b1:x - 1<=1000:=z0b (Nat.sub_le x 1) (z0b (z0e hx) (z0b hw (by decide)));have b2:min (x+2) w<=1000:=z0b (Nat.min_le_right _ _) (z0b hw (by decide));rw[if_pos ⟨Int.le_trans (by decide) (aeo _),agp.mpr b1,Int.le_trans (by decide) (aeo _),agp.mpr b2⟩];congr 2;unfold upto nr;rw[Int.toNat_sub,agw,acz];refine acS λi _=>?_;simp
def fX(c:Int)(t:Wy):Wy:=(t.1,t.2.1+c,t.2.2)
def cands(w:Nat)(C:Nat->List Wy)(T:Nat->Nat->Int)(x:Nat):List Wy:=(nr w x).flatMap λp=>(C p).map (fX (T p (x+1 - p)))
variable{C:Nat->List Wy}{T:Nat->Nat->Int}
theorem aal{p:Nat}(hx:x<w)(hp:p∈nr w x)(hC:(C p).length<=1)(hl:acc.length<=1000):
  onB [vA (.lst ((ab0 w).map λx=>cO (C x))),vA (.lst ((ab0 w).map λx=>fK (T x))),vA (.int (x:Int)),some (.lst acc),vA (.int (p:Int)),e5] =
   .nx [vA (.lst ((ab0 w).map λx=>cO (C x))),vA (.lst ((ab0 w).map λx=>fK (T x))),vA (.int (x:Int)),some (.lst (acc++((C p).map (fX (T p (x+1 - p)))).map dN)),vA (.int (p:Int)),vA (.int (T p (x+1 - p)))]:=by
 obtain⟨h1,h2,h3⟩:=(Ft hx).mp hp;refine aF (aQ (aR (ao rfl (ao rfl (au rfl))) (Fq (T:=T p) (p:=λx=>fK (T x)) h1 (by omega) (by omega) rfl)) rfl) ?_;refine Qk (ds:=acc) rfl (cj (c:=dN) (h:=λt=>dN (fX (T p (x+1 - p)) t)) (l:=C p) (j9 (aq rfl rfl (mZ (α:=D) h1))) (by omega) λt ht=>?_) (by simp;omega) |>.trans ?_
 ·exact cM rfl (cu (ao rfl (ao (x:= .int (t.2.1+T p (x+1 - p))) (aq rfl rfl rfl) (au rfl))))
 ·rw[acz];rfl
theorem Ql{x:Nat}(hx:x<w)(hC:∀p<w,(C p).length<=1):∀{ps:List Nat} {acc:List D} {e4 e5:Option Ent},(∀p∈ps,p∈nr w x)->acc.length+ps.length<=1000->
  ∃z4 z5,forL (aK 4) onB (ps.map λ(p:Nat)=>D.int (p:Int)) [vA (.lst ((ab0 w).map λx=>cO (C x))),vA (.lst ((ab0 w).map λx=>fK (T x))),vA (.int (x:Int)),some (.lst acc),e4,e5] =
   .nx [vA (.lst ((ab0 w).map λx=>cO (C x))),vA (.lst ((ab0 w).map λx=>fK (T x))),vA (.int (x:Int)),some (.lst (acc++(ps.flatMap λp=>(C p).map (fX (T p (x+1 - p)))).map dN)),z4,z5]
 |[],acc,e4,e5,_,_=>⟨e4,e5,by simp[forL]⟩
 | p::ps,acc,e4,e5,hp,hl=>by
  rw[acn] at hl;have hpn:=hp p (by simp);have hpw:=((Ft hx).mp hpn).1;have hc:=hC p hpw;obtain⟨z4,z5,e⟩:=Ql hx hC (ps:=ps) (acc:=acc++((C p).map (fX (T p (x+1 - p)))).map dN) (e4:=vA (.int (p:Int))) (e5:=vA (.int (T p (x+1 - p)))) (λq hq=>hp q (by simp[hq])) (by simp;omega);refine⟨z4,z5,fU rfl (aal hx hpn hc (by omega)) (e.trans ?_)⟩;rw[aev,ad3,ado]
theorem Ur(hx:x<w)(hw:w<=20)(hC:∀p<w,(C p).length<=1):wN [.lst ((ab0 w).map λx=>cO (C x)),.lst ((ab0 w).map λx=>fK (T x)),.int (x:Int)]= .ok (.lst ((cands w C T x).map dN)):=by
 obtain⟨z4,z5,e⟩:=Ql (T:=T) hx hC (ps:=nr w x) (acc:=[]) (e4:=none) (e5:=none) (λp hp=>hp) (by have:=Uq (w:=w) (x:=x);simp;omega);have hlen:cF [.lst ((ab0 w).map λx=>cO (C x))]= .ok (.int (w:Int)):=by simp[cF]
 refine bQ (aF (jw rfl) (aF (jP (j9 (aR (ao rfl (au (aU (au rfl) hlen))) (Yw hx hw))) e) (aZ rfl)))
end
section
variable{n w h:Nat}{g:Nat->Int}{f:Nat->Nat->Int}{ρ:aB}
theorem m7:iM (.int i) (.int j)= .ok (.bl (decide (i=j))):=by
 rw[iM,if_pos (by simp[dep])];show R.ok (D.bl (fQ (.int i) (.int j)))=_;by_cases h:i=j <;> simp[lB,lC,lD,lE,lF,gJ,d9,h]
def cA(cs:List Wy):List Wy:=((dZ (cs.map fl)).take 1).map un
def pre(x:Nat)(t:Wy):Wy:=(t.1,t.2.1,(x:Int)::t.2.2)
theorem wU:∀cs:List Wy,oH (cs.map dN)=some (cs.map fl)
 |[]=>rfl
 | t::cs=>by
  rw[z1h,oH,wU cs,wR,show jR (iJ (fl t))=some (fl t) from yM];rfl
theorem Ly:∀l∈dZ (cs.map fl),fl (un l)=l:=λl hl=>by
 obtain⟨t,_,rfl⟩:=acA.mp ((eG _).mem_iff.mp hl);rw[Rk]
theorem wV:∀t∈cA cs,t∈cs:=λt ht=>by
 obtain⟨l,hl,rfl⟩:=acA.mp ht;have hl:=afK hl;obtain⟨t,h1,rfl⟩:=acA.mp ((eG _).mem_iff.mp hl);rw[Rk];exact h1
theorem qU:(cA cs).length<=1:=by unfold cA;simp;omega
theorem xV(hl:cs.length<64)(hn:(cs.map fl).Nodup)(hp:∀t∈cs,t.2.2.length<=100):dR 1 [.int (x:Int),.lst (cs.map dN)]= .ok (cO ((cA cs).map (pre x))):=by
 have e1:mX [.lst (cs.map dN)]= .ok (.lst ((dZ (cs.map fl)).map iJ)):=by
  rw[mX,wU];show (if _ then _ else _)=_;rw[if_pos ⟨by simpa using hl,hn⟩]
 have e2:iY ((dZ (cs.map fl)).map iJ) none (some 1)=(cA cs).map dN:=by
  have e3:∀{n d:Nat},HT.sIx n d (some 1)=min 1 n:=λ{n d}=>by
   show (if (1:Int)<0 then ((1:Int)+(n:Int)).toNat else min (1:Int).toNat n)=min 1 n;rw[if_neg (by decide)];rfl
  rw[iY,e3,zc,afG,afP,<-af8];have e4:∀l:List (List Int),l.take (min 1 (l.map iJ).length)=l.take 1:=λl=>by cases l <;> simp
  rw[e4];unfold cA;rw[acz];refine acS λl hl=>?_;show iJ l=dN (un l);rw[wR,Ly l (afK hl)]
 have e5:cO ((cA cs).map (pre x))= .lst ((cA cs).map λt=>dN (pre x t)):=by unfold cO;rw[acz];rfl
 rw[e5];refine fW (aZ (cj (c:=dN) (h:=λt=>dN (pre x t)) (l:=cA cs) (j9 (ds:=(cA cs).map dN) ?_) (by have:=qU (cs:=cs);omega) λt ht=>?_))
 ·show oG _ _ _ _=_;unfold oG;rw[aU (au rfl) e1];show R.ok (D.lst (iY _ none (some 1)))=_;rw[e2]
 ·refine cM rfl (cu (ao rfl (ao rfl (au (x:= .tup ((((x:Int)::t.2.2)).map .int)) (aq (cu (au rfl)) rfl ?_)))));have:=hp t (wV t ht);exact Bg (xs:=[.int (x:Int)]) (ys:=t.2.2.map .int) (by simp;omega)
end
def eO(m:Int):Int:=if m=2 then 1 else 0
def sb(c:Int)(t:Wy):Wy:=(t.1 - c,t.2.1,t.2.2)
def jW(x:Nat)(m:Int)(cs:List Wy):List Wy:=if m=1 then[] else ((cA cs).map (pre x)).map (sb (eO m))
section
variable{w h a y:Nat}{T:Nat->Nat->Nat->Int}{M:Nat->Nat->Int}{ρ:aB}
theorem Wj{l:List Wy}(hl:l.length<=1)(ha:acc.length<=1000):
  Xh [e0,e1,e2,e3,e4,e5,some (.lst acc),e7,vA (.int m),vA (cO l),e10]= .nx [e0,e1,e2,e3,e4,e5,some (.lst (acc++[cO (l.map (sb (eO m)))])),e7,vA (.int m),vA (cO l),vA (.int (eO m))]:=by
 have e:(tQ (bR (bin (gv 8) (ci 2) iM)) (ci 1) (ci 0)) [e0,e1,e2,e3,e4,e5,some (.lst acc),e7,vA (.int m),vA (cO l),e10]= .ok (.int (eO m)):=by
  unfold eO;by_cases hm:m=2
  ·rw[if_pos hm];exact mJ (aN (aq rfl rfl (by rw[m7,decide_eq_true hm]))) rfl
  ·rw[if_neg hm];exact oM (aN (aq rfl rfl (by rw[m7,decide_eq_false hm]))) rfl
 refine aF (aQ e rfl) ?_;have e2:cO (l.map (sb (eO m)))= .lst (l.map λt=>dN (sb (eO m) t)):=by unfold cO;rw[acz];rfl
 rw[e2];refine sy (ds:=acc) (cj (c:=dN) (h:=λt=>dN (sb (eO m) t)) (l:=l) (j9 rfl) (by omega) λt ht=>?_) rfl (by omega);exact cM rfl (cu (ao (x:= .int (t.1 - eO m)) (aq rfl rfl rfl) (ao rfl (au rfl))))
inductive Us (w:Nat) (T:Nat->Nat->Nat->Int) (y:Nat):List D->(Nat->List Wy)->Prop
 |last:Us w T y [] λ_=>[(0,0,[])]
 |more (rs:List D) (C:Nat->List Wy):(∀p<w,(C p).length<=1)->Us w T y (rs++[.lst ((ab0 w).map λx=>cO (C x))]) (cands w C (T (y+1)))
theorem Wk{rows:List D}{cs:Nat->List Wy}(B:Us w T y rows cs)(hy:rows≠[]->y+1<h)(hx:x<w)(hw:w<=20)(hl:(cs x).length<64)(hn:((cs x).map fl).Nodup)(hp:∀t∈cs x,t.2.2.length<=100):
  Xg a (dR 1) [vA (tab w h T),e1,vA (.tup []),some (.obj (.fn a)),some (.lst rows),vA (.int (y:Int)),e6,vA (.int (x:Int)),vA (.int m),e9,e10] =
   .nx [vA (tab w h T),e1,vA (.tup []),some (.obj (.fn a)),some (.lst rows),vA (.int (y:Int)),e6,vA (.int (x:Int)),vA (.int m),vA (cO (if m=1 then[] else (cA (cs x)).map (pre x))),e10]:=by
 have th:∀(u:Option Ent),QK (vA (.int m))=vA (.int m):=λ_=>rfl;by_cases hm:m=1
 ·rw[if_pos hm];exact cP (aN (aq rfl rfl (by rw[m7,decide_eq_true hm]))) (aQ (dX rfl) rfl)
 ·rw[if_neg hm];refine bU (aN (aq rfl rfl (by rw[m7,decide_eq_false hm]))) ?_;cases B with
  | last=>
   refine cP (eY (Bk (ds:=[]) rfl)) (aQ (Lw rfl (ao rfl (au (dX (au (cu (ao rfl (ao rfl (au rfl)))))))) (xV (cs:=[(0,0,[])]) hl hn hp)) rfl)
  | more rs C hC=>
   have hy:=hy (by simp);refine bU (eY (Bk (ds:=rs++[.lst ((ab0 w).map λx=>cO (C x))]) rfl) |>.trans (by simp)) (aQ (Lw rfl (ao rfl (au (aR (ao (x:= .lst ((ab0 w).map λx=>cO (C x))) (aak rfl (k:= -1) rfl ?_) (ao (aq rfl (aq (x:= .int (y:Int)) (y:= .int 1) (r:= .ok (.int ((y+1:Nat):Int))) rfl rfl rfl) (mZ (α:=D) hy)) (au rfl))) (Ur (C:=C) (T:=T (y+1)) hx hw hC)))) (xV hl hn hp)) rfl);rw[bN];have:L2.atI (rs++[D.lst ((ab0 w).map λx=>cO (C x))]) (-1)=some (.lst ((ab0 w).map λx=>cO (C x))):=by
    unfold L2.atI ixN;rw[if_neg (by decide),if_pos (by simp;omega)];simp only[z1d,ad1,afp];rw[show ((-1:Int)+((rs.length+1:Nat):Int)).toNat=rs.length by omega,acD (z0g _)];simp
   rw[this]
end
def nF(w h:Nat)(T:Nat->Nat->Nat->Int)(M:Nat->Nat->Int):Nat->Nat->List Wy
 |0,_=>[(0,0,[])]
 |k+1,x=>cands w (λp=>jW p (M (h - 1 - k) p) (nF w h T M k p)) (T (h - 1 - k)) x
def nG(w h:Nat)(T:Nat->Nat->Nat->Int)(M:Nat->Nat->Int)(k x:Nat):List Wy:=jW x (M (h - 1 - k) x) (nF w h T M k x)
section
variable{w h a:Nat}{T:Nat->Nat->Nat->Int}{M:Nat->Nat->Int}{ρ:aB}
theorem oN:nF w h T M (k+1) x=cands w (nG w h T M k) (T (h - 1 - k)) x:=rfl
theorem oO:(jW x m cs).length<=1:=by
 unfold jW;split
 ·simp
 ·have:=qU (cs:=cs);simpa using this
theorem lX(h:t∈jW x m cs):∃u∈cs,t=sb (eO m) (pre x u):=by
 unfold jW at h;split at h
 ·simp at h
 ·rw[acz] at h;obtain⟨u,hu,rfl⟩:=acA.mp h;exact⟨u,wV u hu,rfl⟩
theorem Dc{α β:Type}{F:α->List β}:∀{l:List α},(∀a∈l,(F a).length<=1)->(l.flatMap F).length<=l.length
 |[],_=>by simp
 | a::l,h=>by
  rw[aev,z1d,acn];have h1:=h a (by simp);have h2:=Dc (l:=l) λb hb=>h b (by simp[hb]);omega
theorem Yx:∀{k x:Nat},(nF w h T M k x).length<64
 |0,_=>by simp[nF]
 | k+1,x=>by
  rw[oN];unfold cands;have:=Dc (F:=λp=>(nG w h T M k p).map (fX (T (h - 1 - k) p (x+1 - p)))) (l:=nr w x) λp _=>by rw[z1g];exact oO
  have h2:=Uq (w:=w) (x:=x);omega
theorem Ut:∀{k x:Nat},∀t∈nF w h T M k x,t.2.2.length=k
 |0,_,t,ht=>by simp[nF] at ht;subst ht;rfl
 | k+1,x,t,ht=>by
  rw[oN] at ht;obtain⟨p,_,hp⟩:=aeh.mp ht;obtain⟨u,hu,rfl⟩:=acA.mp hp;obtain⟨v,hv,rfl⟩:=lX hu;show (((p:Nat):Int)::v.2.2).length=k+1;rw[acn,Ut v hv]
theorem Lz:∀{k x:Nat},((nF w h T M k x).map fl).Nodup
 |0,_=>by simp[nF]
 | k +1,x=>by
  rw[oN];unfold cands List.Nodup;rw[List.pairwise_map,List.pairwise_flatMap];refine⟨λp _=>?_,?_⟩
  ·have hl:((nG w h T M k p).map (fX (T (h - 1 - k) p (x+1 - p)))).length<=1:=by rw[z1g];exact oO
   match (nG w h T M k p).map (fX (T (h - 1 - k) p (x+1 - p))),hl with
   |[],_=>exact .nil
   |[_],_=>simp
   |_::_::_,hl=>simp at hl
  ·have nd:(nr w x).Nodup:=List.nodup_range';refine nd.imp λ{p q} hpq t ht u hu z=>?_;obtain⟨t',ht',rfl⟩:=acA.mp ht;obtain⟨u',hu',rfl⟩:=acA.mp hu;obtain⟨t2,_,rfl⟩:=lX ht';obtain⟨u2,_,rfl⟩:=lX hu';have:=Ls z;have h2:((p:Nat):Int)::t2.2.2=((q:Nat):Int)::u2.2.2:=congrArg (λt:Wy=>t.2.2) this;have h3:((p:Nat):Int)=((q:Nat):Int):=(afm h2).1;exact hpq (by omega)
def uI(w h:Nat)(T:Nat->Nat->Nat->Int)(M:Nat->Nat->Int)(k:Nat):D:= .lst ((ab0 w).map λx=>cO (nG w h T M k x))
theorem Qm{y:Nat}{rows:List D}{cs:Nat->List Wy}(B:Us w T y rows cs)(hy:rows≠[]->y+1<h)(hw:w<=20)(hl:∀x,(cs x).length<64)(hn:∀x,((cs x).map fl).Nodup)(hp:∀x,∀t∈cs x,t.2.2.length<=100){e1:Option Ent}:∀{xs:List Nat} {acc:List D} {e7 e8 e9 e10:Option Ent},(∀x∈xs,x<w)->acc.length+xs.length<=1000->
  ∃z7 z8 z9 pU,forL (cY (cZ 2 (aY (aK 7) (aY (aK 8) nilG)))) (inW a (dR 1)) (xs.map λ(x:Nat)=>D.tup [.int (x:Int),.int (M y x)]) [vA (tab w h T),e1,vA (.tup []),some (.obj (.fn a)),some (.lst rows),vA (.int (y:Int)),some (.lst acc),e7,e8,e9,e10] =
   .nx [vA (tab w h T),e1,vA (.tup []),some (.obj (.fn a)),some (.lst rows),vA (.int (y:Int)),some (.lst (acc++xs.map λx=>cO (jW x (M y x) (cs x)))),z7,z8,z9,pU]
 |[],acc,e7,e8,e9,e10,_,_=>⟨e7,e8,e9,e10,by simp[forL]⟩
 | x ::xs,acc,e7,e8,e9,e10,hx,hle=>by
  rw[acn] at hle;have hxw:=hx x (by simp);obtain⟨z7,z8,z9,pU,e⟩:=Qm B hy hw hl hn hp (e1:=e1) (xs:=xs) (acc:=acc++[cO (jW x (M y x) (cs x))]) (e7:=vA (.int (x:Int))) (e8:=vA (.int (M y x))) (e9:=vA (cO (if M y x=1 then[] else (cA (cs x)).map (pre x)))) (e10:=vA (.int (eO (M y x)))) (λq hq=>hx q (by simp[hq])) (by simp;omega);refine⟨z7,z8,z9,pU,fU rfl (aF (Wk B hy hxw hw (hl x) (hn x) (hp x)) (Wj ?_ (by omega) |>.trans ?_)) (e.trans ?_)⟩
  ·split
   ·simp
   ·have:=qU (cs:=cs x);simpa using this
  ·have:jW x (M y x) (cs x)=(if M y x=1 then[] else (cA (cs x)).map (pre x)).map (sb (eO (M y x))):=by unfold jW;split <;> rfl
   rw[this]
  ·rw[z1h,ado];rfl
def dn(r:Nat):List D:=(ab0 r).map λ(i:Nat)=>D.int ((r:Int) - 1 - (i:Int))
theorem Yy(r:Nat):dn (r+1)=D.int (r:Int)::dn r:=by
 unfold dn;rw[adH,z1h,acz];congr 1
 ·congr 1;omega
 ·refine acS λi _=>?_;show D.int _=D.int _;congr 1;simp only[Nat.succ_eq_add_one];omega
theorem aam(hk:k<h)(hy:y=h - 1 - k):Us w T y ((ab0 k).map (uI w h T M)) (nF w h T M k):=by
 cases k with
 |zero=>exact .last
 | succ k=>
  rw[afF,ad3];have e:nF w h T M (k+1)=cands w (nG w h T M k) (T (y+1)):=by
   funext x;rw[oN,show y+1=h - 1 - k by omega]
  rw[e];exact .more _ _ λp _=>oO
theorem aan(hk:k<h)(hy:y=h - 1 - k)(hh:h<=20)(hw:w<=20):∃z6 z7 z8 z9 pU,Wg a (dR 1) [vA (tab w h T),vA (bB w h M),vA (.tup []),some (.obj (.fn a)),some (.lst ((ab0 k).map (uI w h T M))),vA (.int (y:Int)),e6,e7,e8,e9,e10] =
  .nx [vA (tab w h T),vA (bB w h M),vA (.tup []),some (.obj (.fn a)),some (.lst ((ab0 (k+1)).map (uI w h T M))),vA (.int (y:Int)),z6,z7,z8,z9,pU]:=by
 obtain⟨z7,z8,z9,pU,e⟩:=Qm (h:=h) (a:=a) (M:=M) (e1:=vA (bB w h M)) (aam (w:=w) (T:=T) (M:=M) hk hy) (λhne=>by
  have:k≠0:=λz=>hne (by rw[z];rfl);omega) hw (λx=>Yx) (λx=>Lz) (λx t ht=>by rw[Ut t ht];omega) (xs:=ab0 w) (acc:=[]) (e7:=e7) (e8:=e8) (e9:=e9) (e10:=e10) (λx hx=>z2e hx) (by simp;omega)
 refine⟨vA (.lst ([]++(ab0 w).map λx=>cO (jW x (M y x) (nF w h T M k x)))),z7,z8,z9,pU,aF (jw rfl) (aF (jP (wg (au (aq rfl rfl (pR (by omega)))) rfl) e) ((Yv (ds:=(ab0 k).map (uI w h T M)) (es:=[]++(ab0 w).map λx=>cO (jW x (M y x) (nF w h T M k x))) rfl rfl (by rw[z1g,z2d];omega)).trans ?_))⟩;rw[afF,ad3];have er:((ab0 w).map λx=>cO (jW x (M y x) (nF w h T M k x)))=(ab0 w).map λx=>cO (nG w h T M k x):=by
  refine acS λx _=>?_;unfold nG;rw[hy]
 simp only[ad2];rw[er];rfl
theorem LC(hh:h<=20)(hw:w<=20):∀{r k:Nat} {e5 e6 e7 e8 e9 e10:Option Ent},k+r=h->∃z5 z6 z7 z8 z9 pU,forL (aK 5) (Wg a (dR 1)) (dn r) [vA (tab w h T),vA (bB w h M),vA (.tup []),some (.obj (.fn a)),some (.lst ((ab0 k).map (uI w h T M))),e5,e6,e7,e8,e9,e10] =
  .nx [vA (tab w h T),vA (bB w h M),vA (.tup []),some (.obj (.fn a)),some (.lst ((ab0 h).map (uI w h T M))),z5,z6,z7,z8,z9,pU]
 |0,k,e5,e6,e7,e8,e9,e10,hk=>⟨e5,e6,e7,e8,e9,e10,by rw[show k=h by omega];rfl⟩
 | r+1,k,e5,e6,e7,e8,e9,e10,hk=>by
  obtain⟨y6,y7,y8,y9,y10,e1⟩:=aan (a:=a) (w:=w) (T:=T) (M:=M) (k:=k) (y:=r) (by omega) (by omega) hh hw (e6:=e6) (e7:=e7) (e8:=e8) (e9:=e9) (e10:=e10);obtain⟨z5,z6,z7,z8,z9,pU,e2⟩:=LC hh hw (r:=r) (k:=k+1) (e5:=vA (.int (r:Int))) (e6:=y6) (e7:=y7) (e8:=y8) (e9:=y9) (e10:=y10) (by omega);rw[Yy];exact⟨z5,z6,z7,z8,z9,pU,fU rfl e1 e2⟩
theorem Wm(hh:h<=20)(hw:w<=20):vY a (dR 1) [tab w h T,bB w h M,.tup []]= .ok (.lst ((ab0 h).map (uI w h T M)).reverse):=by
 obtain⟨z5,z6,z7,z8,z9,pU,e⟩:=LC (a:=a) (w:=w) (T:=T) (M:=M) hh hw (r:=h) (k:=0) (e5:=none) (e6:=none) (e7:=none) (e8:=none) (e9:=none) (e10:=none) (by omega);have er:K6 [.int (h:Int)]= .ok (dn h):=by
  show (if _ then _ else _)=_;rw[if_pos (by omega)];rfl
 refine fW (aF (jw rfl) (aF (jP ?_ e) (aZ ?_)))
 ·show ((ak (aD cF (ak (gv 1) nA)) nA) _).bind K6=_;rw[au (aU (au rfl) mH)];exact er
 ·show JZ _ _=_;unfold JZ;rfl
end
section
variable{w h:Nat}{T:Nat->Nat->Nat->Int}{M:Nat->Nat->Int}{f:Nat->Nat->Int}{m:Str}{ρ:aB}
theorem Yz(hh:h<=20)(hw:w<=20):uG [tab w h T,bB w h M,.int 1]= .ok (.lst ((ab0 h).map (uI w h T M)).reverse):=by
 refine fW ?_;show (match allOf (λx=>vY x (dR 1) [tab w h T,bB w h M,.tup []]) with | .ok r=>So.rt r |_=> .bad)=_;rw[V3 λa=>Wm hh hw]
theorem Uu{F:Nat->D}:((ab0 h).map F).reverse=(ab0 h).map λy=>F (h - 1 - y):=by
 apply afh;intro i;by_cases hi:i<h
 ·rw[List.getElem?_reverse (by simpa using hi),z2b,z2b,acv hi,z1g,z2d,acv (by omega)];rfl
 ·rw[aez (by simp;omega),aez (by simp;omega)]
theorem mul_one{d:D}(h1:1<=k)(xU:k<=20):wG (.tup [d]) (.int (k:Int))= .ok (.tup ((ab0 k).map λ_=>d)):=by
 rw[wG,if_pos ⟨by simp,by omega,by omega,by simp;omega⟩];congr 2;rw[show ((k:Nat):Int).toNat=k by omega]
 clear h1 xU
 induction k with
 |zero=>rfl
 |succ k ih=>rw[adl,adR,ih,adH,z1h,acz];rfl
theorem Nz(o:Ok w h f):wM [bB w h f]= .ok (bB w h λ_ _=>0):=
 bQ (aZ (aq (cu (au (aq (cu (au rfl)) (len0 o rfl) (mul_one o.w1 o.w2)))) (aU (au rfl) mH) (mul_one o.h1 o.h2)))
theorem LK(hm:m= "worth"\/m= "joins")(o:Ok w h f):vX [bB w h f,.str m]= .ok (tab w h (tbl m w h f)):=by
 rcases hm with rfl |rfl
 ·exact Ys o
 ·exact Yt o
end
abbrev lt(a b:Wy):Bool:=bO (fl a) (fl b)
section
variable{w h:Nat}{T:Nat->Nat->Nat->Int}{M:Nat->Nat->Int}
theorem Uv{c:Int}{a:Wy}:lt (fX c a) (fX c b)=lt a b:=by
 obtain⟨a1,a2,a3⟩:=a;obtain⟨b1,b2,b3⟩:=b;simp only[lt,fl,fX,bO];by_cases e1:a1=b1
 ·rw[if_pos e1,if_pos e1];by_cases e:a2=b2
  ·rw[if_pos (by omega),if_pos e]
  ·rw[if_neg (by omega),if_neg e];exact decide_eq_decide.mpr (by omega)
 ·rw[if_neg e1,if_neg e1]
theorem aa9{c:Int}{a:Wy}:lt (sb c a) (sb c b)=lt a b:=by
 obtain⟨a1,a2,a3⟩:=a;obtain⟨b1,b2,b3⟩:=b;simp only[lt,fl,sb,bO];by_cases e:a1=b1
 ·rw[if_pos (by omega),if_pos e]
 ·rw[if_neg (by omega),if_neg e];exact decide_eq_decide.mpr (by omega)
theorem aao{a:Wy}:lt (pre x a) (pre x b)=lt a b:=by
 obtain⟨a1,a2,a3⟩:=a;obtain⟨b1,b2,b3⟩:=b;simp only[lt,fl,pre,bO,if_true]
theorem LQ{a c:Wy}(h1:lt b a=false)(h2:lt c b=false):lt c a=false:=by
 cases z:lt c a with
 |false=>rfl
 | true=>
  by_cases e:fl b=fl a
  ·have h2:bO (fl c) (fl b)=false:=h2;rw[e] at h2;exact h2.symm.trans z |>.symm
  ·have:=gC z (qZ e h1);exact (this.symm.trans h2)
theorem aap{a:Wy}(h1:lt a b=false)(h2:lt b a=false):a=b:=by
 by_cases e:fl a=fl b
 ·exact Ls e
 ·have h3:bO (fl b) (fl a)=true:=qZ e h1;exact absurd (h3.symm.trans h2) (by decide)
theorem sG(hn:(cs.map fl).Nodup)(hne:cs≠[]):∃v,cA cs=[v]/\v∈cs/\∀u∈cs,lt u v=false:=by
 have hr:=tY hn;cases es:dZ (cs.map fl) with
 | nil=>
  have:=(eG (cs.map fl)).length_eq;rw[es,z1g] at this;exact absurd (afd.mp this.symm) hne
 | cons l ls=>
  have ef:cA cs=[un l]:=by unfold cA;rw[es];rfl
  rw[es] at hr;obtain⟨hr1,_⟩:=adN.mp hr;have hl:l∈dZ (cs.map fl):=by rw[es];exact acq
  have hul:fl (un l)=l:=Ly l hl;refine⟨un l,ef,wV _ (by rw[ef];exact acq),λu hu=>?_⟩;have hm:fl u∈dZ (cs.map fl):=(eG _).mem_iff.mpr (afM hu);rw[es] at hm;show bO (fl u) (fl (un l))=false;rw[hul];rcases ach.mp hm with z |z
  ·rw[z];exact ig _
  ·cases q:bO (fl u) l with
   |false=>rfl
   |true=>have:=gC q (hr1 _ z);rw[ig] at this;cases this
def vl(T:Nat->Nat->Nat->Int)(M:Nat->Nat->Int):Nat->List Nat->Wy
 |_,[]=>(0,0,[])
 |y,[x]=>sb (eO (M y x)) (pre x (0,0,[]))
 |y,x::p::l=>sb (eO (M y x)) (pre x (fX (T (y+1) p (x+1 - p)) (vl T M (y+1) (p::l))))
def Pa(w:Nat)(M:Nat->Nat->Int):Nat->List Nat->Prop
 |_,[]=>True
 |y,[x]=>x<w/\M y x≠1
 |y,x::p::l=>x<w/\M y x≠1/\p<=x+1/\x<=p+1/\Pa w M (y+1) (p::l)
theorem Pa.lt{l:List Nat}(h:Pa w M y (x::l)):x<w:=by
 cases l with
 |nil=>exact h.1
 |cons p l=>exact h.1
theorem Pa.ne{l:List Nat}(h:Pa w M y (x::l)):M y x≠1:=by
 cases l with
 |nil=>exact h.2
 |cons p l=>exact h.2.1
theorem Qn(h:t∈jW x m cs):m≠1:=λe=>by
 unfold jW at h;rw[if_pos e] at h;cases h
theorem Uw{h:Nat}(hk:k+1<h):h - 1 - k=h - 1 - (k+1)+1:=by omega
theorem Jf:∀{k x:Nat} {t:Wy},x<w->k<h->t∈nG w h T M k x->∃l,l.length=k/\Pa w M (h - 1 - k) (x::l)/\t=vl T M (h - 1 - k) (x::l)
 | 0,x,t,hx,hk,ht=>by
  obtain⟨u,hu,e⟩:=lX ht;have hu:u=(0,0,[]):=by simpa[nF] using hu
  subst hu;exact⟨[],rfl,⟨hx,Qn ht⟩,e⟩
 | k+1,x,t,hx,hk,ht=>by
  obtain⟨u,hu,e⟩:=lX ht;have hm:=Qn ht;rw[oN] at hu;obtain⟨p,hp,hu⟩:=aeh.mp hu;obtain⟨v,hv,rfl⟩:=acA.mp hu;obtain⟨h1,h2,h3⟩:=(Ft hx).mp hp;obtain⟨l,hl,hP,hvl⟩:=Jf h1 (by omega) hv;have ey:h - 1 - k=h - 1 - (k+1)+1:=Uw hk;rw[ey] at hP hvl e;exact⟨p::l,by rw[acn,hl],⟨hx,hm,h2,h3,hP⟩,by rw[e,hvl];rfl⟩
theorem Jg{v:Wy}(hm:m≠1)(e:cA cs=[v]):jW x m cs=[sb (eO m) (pre x v)]:=by
 unfold jW;rw[if_neg hm,e];rfl
theorem Jh:∀{k x:Nat} {l:List Nat},l.length=k->k<h->Pa w M (h - 1 - k) (x::l)->∃t∈nG w h T M k x,lt (vl T M (h - 1 - k) (x::l)) t=false
 | 0,x,l,hl,hk,hP=>by
  cases afd.mp hl;obtain⟨v,ev,hv,_⟩:=sG (Lz (w:=w) (h:=h) (T:=T) (M:=M) (k:=0) (x:=x)) (by simp[nF]);have hv:v=(0,0,[]):=by simpa[nF] using hv
  subst hv;exact⟨_,by unfold nG;rw[Jg hP.ne ev];exact acq,ig _⟩
 | k+1,x,l,hl,hk,hP=>by
  cases l with
  |nil=>cases hl
  | cons p l=>
   have ey:h - 1 - k=h - 1 - (k+1)+1:=Uw hk;obtain⟨hx,hm,h2,h3,hP'⟩:=hP;have hl:l.length=k:=by simpa using hl
   rw[<-ey] at hP';obtain⟨t,ht,hlt⟩:=Jh hl (by omega) hP';have hu:fX (T (h - 1 - k) p (x+1 - p)) t∈nF w h T M (k+1) x:=by
    rw[oN];exact aeh.mpr ⟨p,(Ft hx).mpr ⟨hP'.lt,h2,h3⟩,afM ht⟩
   obtain⟨v,ev,hv,hle⟩:=sG (Lz (w:=w) (h:=h) (T:=T) (M:=M) (k:=k+1) (x:=x)) (List.ne_nil_of_mem hu);refine⟨_,by unfold nG;rw[Jg hm ev];exact acq,?_⟩;show lt (sb _ (pre x (fX (T (h - 1 - (k+1)+1) p (x+1 - p)) (vl T M (h - 1 - (k+1)+1) (p::l))))) _=false;rw[aa9,aao,<-ey];exact LQ (hle _ hu) (by rw[Uv];exact hlt)
def topC(w h:Nat)(T:Nat->Nat->Nat->Int)(M:Nat->Nat->Int):List Wy:=(ab0 w).flatMap λx=>(nG w h T M (h - 1) x).map (fX (T 0 x 1))
theorem Wn:(topC w h T M).length<=w:=by
 have:=Dc (F:=λx=>(nG w h T M (h - 1) x).map (fX (T 0 x 1))) (l:=ab0 w) λp _=>by rw[z1g];exact oO
 rw[z2d] at this;exact this
theorem Qo:((topC w h T M).map fl).Nodup:=by
 unfold topC List.Nodup;rw[List.pairwise_map,List.pairwise_flatMap];refine⟨λp _=>?_,?_⟩
 ·have hl:((nG w h T M (h - 1) p).map (fX (T 0 p 1))).length<=1:=by rw[z1g];exact oO
  match (nG w h T M (h - 1) p).map (fX (T 0 p 1)),hl with
  |[],_=>exact .nil
  |[_],_=>simp
  |_::_::_,hl=>simp at hl
 ·have nd:(ab0 w).Nodup:=List.nodup_range;refine nd.imp λ{p q} hpq t ht u hu z=>?_;obtain⟨t',ht',rfl⟩:=acA.mp ht;obtain⟨u',hu',rfl⟩:=acA.mp hu;obtain⟨t2,_,rfl⟩:=lX ht';obtain⟨u2,_,rfl⟩:=lX hu';have:=Ls z;have h2:((p:Nat):Int)::t2.2.2=((q:Nat):Int)::u2.2.2:=congrArg (λt:Wy=>t.2.2) this;have h3:((p:Nat):Int)=((q:Nat):Int):=(afm h2).1;exact hpq (by omega)
def gn(M:Nat->Nat->Int)(h:Nat)(s:Nat->Nat):Int:=((ab0 h).map λy=>eO (M y (s y))).sum
def wS(T:Nat->Nat->Nat->Int)(M:Nat->Nat->Int)(h:Nat)(s:Nat->Nat):Wy:=(-gn M h s,cost h T s,(ab0 h).map λy=>((s y:Nat):Int))
structure mK(w h:Nat)(M:Nat->Nat->Int)(s:Nat->Nat):Prop where
 sm:qj w h s
 ne:∀y<h,M y (s y)≠1
theorem aaq{s:Nat->Nat}:∀{k y:Nat},vl T M y ((aec y (k+1)).map s)=(-((aec y (k+1)).map λy=>eO (M y (s y))).sum,((aec (y+1) k).map λy=>fare T s y).sum,(aec y (k+1)).map λy=>((s y:Nat):Int))
 | 0,y=>by
  show (0 - eO (M y (s y)),(0:Int),[((s y:Nat):Int)])=(-(eO (M y (s y))+0),0,[((s y:Nat):Int)]);rw[show 0 - eO (M y (s y))= -(eO (M y (s y))+0) by omega]
 | k +1,y=>by
  have ih:=aaq (s:=s) (k:=k) (y:=y+1);rw[aeD (s:=y),z1h,z1h,z1h,aem];rw[aeD (s:=y+1),z1h,z1h,z1h,aem] at ih |-;show sb _ (pre _ (fX _ (vl T M (y+1) _)))=_;rw[ih];simp only[sb,pre,fX];refine agH ?_ (agH ?_ rfl)
  ·show -_ - eO _= -_;omega
  ·rw[z1h,aem];show _+T (y+1) (s (y+1)) (s y+1 - s (y+1))=T (y+1) (s (y+1)) (s y+1 - s (y+1))+_;rw[Int.add_comm]
theorem aar(h1:1<=h):fX (T 0 (s 0) 1) (vl T M 0 ((ab0 h).map s))=wS T M h s:=by
 obtain⟨k,rfl⟩:∃k,h=k+1:=⟨h - 1,by omega⟩;rw[ad9,aaq];simp only[fX,wS,gn,cost];refine agH ?_ (agH ?_ ?_)
 ·rw[ad9]
 ·show ((aec (0+1) k).map λy=>fare T s y).sum+T 0 (s 0) 1=T 0 (s 0) 1+((ab0 (k+1 - 1)).map λy=>fare T s (y+1)).sum;rw[Int.add_comm,Nat.add_sub_cancel,agw,acz];congr 3;funext i;show fare T s (0+1+i)=fare T s (i+1);rw[show 0+1+i=i+1 by omega]
 ·rw[ad9]
theorem aas{s : Nat -> Nat} : ∀{k y : Nat},Pa w M y ((aec y (k+1)).map s)↔(∀z,y<=z->z<=y+k->s z<w/\M z (s z)≠1)/\∀z,y<=z->z<y+k->s (z+1)<=s z+1/\s z<=s (z+1)+1
 | 0, y => ⟨λ h => ⟨λ z h1 h2 => by have:z=y:=by omega
                                    subst this;exact h,λz h1 h2=>by omega⟩,λh=>h.1 y (z0g _) (z0g _)⟩
 | k+1,y=>by
  have ih:=aas (s:=s) (k:=k) (y:=y+1);rw[aeD (s:=y),z1h];rw[aeD (s:=y+1),z1h] at ih |-;constructor
  ·rintro⟨h1,h2,h3,h4,h5⟩
   obtain⟨q1,q2⟩:=ih.mp h5;refine⟨λz z1 z2=>?_,λz z1 z2=>?_⟩
   ·by_cases e:z=y
    ·subst e;exact⟨h1,h2⟩
    ·exact q1 z (by omega) (by omega)
   ·by_cases e:z=y
    ·subst e;exact⟨h3,h4⟩
    ·exact q2 z (by omega) (by omega)
  ·rintro⟨q1,q2⟩
   have a:=q1 y (z0g _) (by omega);have b:=q2 y (z0g _) (by omega);exact⟨a.1,a.2,b.1,b.2,ih.mpr ⟨λz z1 z2=>q1 z (by omega) (by omega),λz z1 z2=>q2 z (by omega) (by omega)⟩⟩
theorem Ux(h1:1<=h):Pa w M 0 ((ab0 h).map s)↔mK w h M s:=by
 obtain⟨k,rfl⟩:∃k,h=k+1:=⟨h - 1,by omega⟩;rw[ad9,aas];constructor
 ·rintro⟨a,b⟩
  exact⟨⟨λy hy=>(a y (by omega) (by omega)).1,λy hy=>b y (by omega) (by omega)⟩,λy hy=>(a y (by omega) (by omega)).2⟩
 ·rintro⟨⟨a,b⟩,c⟩
  exact⟨λz _ z2=>⟨a z (by omega),c z (by omega)⟩,λz _ z2=>b z (by omega)⟩
theorem YB(l:List Nat):∃s:Nat->Nat,l=(ab0 l.length).map s:=
 ⟨λy=>l.getD y 0,by
  apply afh;intro i;rw[z2b];by_cases hi:i<l.length
  ·rw[acv hi];simp[hi]
  ·rw[aez (by omega),aez (by simp;omega)];rfl⟩
theorem YC(h1:1<=h)(ht:t∈topC w h T M):∃s,mK w h M s/\t=wS T M h s:=by
 obtain⟨x,hx,hu⟩:=aeh.mp ht;obtain⟨u,hv,rfl⟩:=acA.mp hu;obtain⟨l,hl,hP,rfl⟩:=Jf (k:=h - 1) (h:=h) (z2e hx) (by omega) hv;rw[show h - 1 - (h - 1)=0 by omega] at hP |-;obtain⟨s,hs⟩:=YB (x::l);have hlen:(x::l).length=h:=by rw[acn,hl];omega
 rw[hlen] at hs;have h0:s 0=x:=by
  obtain⟨k,rfl⟩:∃k,h=k+1:=⟨h - 1,by omega⟩;rw[adH,z1h] at hs;exact (afm hs).1.symm
 rw[hs] at hP |-;refine⟨s,(Ux h1).mp hP,?_⟩;rw[<-aar h1,h0]
theorem Uy(h1:1<=h)(q:mK w h M s):∃t∈topC w h T M,lt (wS T M h s) t=false:=by
 have hP:=(Ux h1).mpr q;rw[<-aar h1];obtain⟨k,rfl⟩:∃k,h=k+1:=⟨h - 1,by omega⟩;have e:(ab0 (k+1)).map s=s 0::(ab0 k).map λy=>s (y+1):=by
  rw[adH,z1h,acz];rfl
 rw[e] at hP |-;obtain⟨t,ht,hl⟩:=Jh (w:=w) (h:=k+1) (T:=T) (M:=M) (k:=k+1 - 1) (x:=s 0) (l:=(ab0 k).map λy=>s (y+1)) (by simp) (by omega) (by rw[show k+1 - 1 - (k+1 - 1)=0 by omega];exact hP);rw[show k+1 - 1 - (k+1 - 1)=0 by omega] at hl;exact⟨_,aeh.mpr ⟨s 0,ae8.mpr (q.sm.lt 0 (by omega)),afM ht⟩,by rw[Uv];exact hl⟩
def Bst(w h:Nat)(T:Nat->Nat->Nat->Int)(M:Nat->Nat->Int)(s:Nat->Nat):Prop:=mK w h M s/\∀s',mK w h M s'->lt (wS T M h s') (wS T M h s)=false
theorem least(h1:1<=h):(cA (topC w h T M)=[]/\∀s,¬mK w h M s)\/∃s,cA (topC w h T M)=[wS T M h s]/\Bst w h T M s:=by
 by_cases hne:topC w h T M=[]
 ·left;refine⟨by rw[hne];rfl,λs q=>?_⟩;obtain⟨t,ht,_⟩:=Uy (T:=T) h1 q;rw[hne] at ht;cases ht
 ·right;obtain⟨v,ev,hv,hle⟩:=sG Qo hne;obtain⟨s,q,rfl⟩:=YC h1 hv;refine⟨s,ev,q,λs' q'=>?_⟩;obtain⟨t,ht,hl⟩:=Uy (T:=T) h1 q';exact LQ (hle t ht) hl
end
section
variable{w h:Nat}{T:Nat->Nat->Nat->Int}{M:Nat->Nat->Int}{f:Nat->Nat->Int}{m:Str}{ρ:aB}
def aat:aB->So:=(aP (bw (aD (aV mF 3) (ak (bin (gv 0) (ci 0) bN) (ak (gv 3) (ak (gv 3) nA)))) (aK 5)) (CG 2 (bL 3 [5] (fj (gv 4)) (cY (cZ 3 (aY (aK 0) (aY (aK 1) (aY (aK 2) nilG))))) tT (cU (ak (gv 0) (ak (bin (gv 1) (gv 3) c7) (ak (gv 2) nA)))))))
theorem YD(h1:1<=h){C:Nat->List Wy}(hx:x<w)(hC:(C x).length<=1)(hl:acc.length<=1000):
  aat [vA (tab w h T),e1,some (.lst acc),vA (.int (x:Int)),vA (cO (C x)),e5]= .nx [vA (tab w h T),e1,some (.lst (acc++((C x).map (fX (T 0 x 1))).map dN)),vA (.int (x:Int)),vA (cO (C x)),vA (.int (T 0 x 1))]:=by
 have e0:mF [.lst ((ab0 w).map λx=>fK (T 0 x)),.int (x:Int),.int (x:Int)]= .ok (.int (T 0 x 1)):=by
  have:=Fq (T:=T 0 x) (p:=λx=>fK (T 0 x)) (a:=x) (b:=x) hx (by omega) (by omega) rfl
  rwa [show x+1 - x=1 by omega] at this
 refine aF (aQ (aR (ao (aq rfl rfl (mZ (α:=D) (x:=0) h1)) (ao rfl (au rfl))) e0) rfl) ?_;refine (Qk (ds:=acc) rfl (cj (c:=dN) (h:=λt=>dN (fX (T 0 x 1) t)) (l:=C x) (j9 rfl) (by omega) λt ht=>?_) (by simp;omega)).trans ?_
 ·exact cM rfl (cu (ao rfl (ao (x:= .int (t.2.1+T 0 x 1)) (aq rfl rfl rfl) (au rfl))))
 ·rw[acz];rfl
theorem LR(h1:1<=h){C:Nat->List Wy}(hC:∀p,(C p).length<=1){e1:Option Ent}:∀{ps:List Nat} {acc:List D} {e3 e4 e5:Option Ent},(∀p∈ps,p<w)->acc.length+ps.length<=1000->
  ∃z3 z4 z5,forL (cY (cZ 2 (aY (aK 3) (aY (aK 4) nilG)))) aat (ps.map λ(p:Nat)=>D.tup [.int (p:Int),cO (C p)]) [vA (tab w h T),e1,some (.lst acc),e3,e4,e5] =
   .nx [vA (tab w h T),e1,some (.lst (acc++(ps.flatMap λp=>(C p).map (fX (T 0 p 1))).map dN)),z3,z4,z5]
 |[],acc,e3,e4,e5,_,_=>⟨e3,e4,e5,by simp[forL]⟩
 | p::ps,acc,e3,e4,e5,hp,hl=>by
  rw[acn] at hl;have hpw:=hp p (by simp);have hc:=hC p;obtain⟨z3,z4,z5,e⟩:=LR h1 hC (e1:=e1) (ps:=ps) (acc:=acc++((C p).map (fX (T 0 p 1))).map dN) (e3:=vA (.int (p:Int))) (e4:=vA (cO (C p))) (e5:=vA (.int (T 0 p 1))) (λq hq=>hp q (by simp[hq])) (by simp;omega);refine⟨z3,z4,z5,fU rfl (YD h1 hpw hc (by omega)) (e.trans ?_)⟩;rw[aev,ad3,ado]
theorem NK(h1:1<=h)(hw:w<=20):wO [tab w h T,.lst ((ab0 h).map λy=>uI w h T M (h - 1 - y))]= .ok (.lst ((topC w h T M).map dN)):=by
 obtain⟨z3,z4,z5,e⟩:=LR (T:=T) h1 (C:=nG w h T M (h - 1)) (λp=>oO) (e1:=vA (.lst ((ab0 h).map λy=>uI w h T M (h - 1 - y)))) (ps:=ab0 w) (acc:=[]) (e3:=none) (e4:=none) (e5:=none) (λp hp=>z2e hp) (by simp;omega);exact bQ (aF (jw rfl) (aF (jP (wg (p:=λp=>cO (nG w h T M (h - 1) p)) (au (aq rfl rfl (mZ (α:=D) (x:=0) h1))) rfl) e) (aZ rfl)))
theorem Rn(hl:cs.length<64)(hn:(cs.map fl).Nodup){v:aB->R (Option Int)}(e:u ρ= .ok (.lst (cs.map dN)))(e0:v ρ= .ok (some 1)):oG (aD mX (ak u nA)) (λ_=> .ok none) v ρ= .ok (.lst ((cA cs).map dN)):=by
 have e1:mX [.lst (cs.map dN)]= .ok (.lst ((dZ (cs.map fl)).map iJ)):=by
  rw[mX,wU];show (if _ then _ else _)=_;rw[if_pos ⟨by simpa using hl,hn⟩]
 have e2:iY ((dZ (cs.map fl)).map iJ) none (some 1)=(cA cs).map dN:=by
  have e3:∀{n d:Nat},HT.sIx n d (some 1)=min 1 n:=λ{n d}=>by
   show (if (1:Int)<0 then ((1:Int)+(n:Int)).toNat else min (1:Int).toNat n)=min 1 n;rw[if_neg (by decide)];rfl
  rw[iY,e3,zc,afG,afP,<-af8];have e4:∀l:List (List Int),l.take (min 1 (l.map iJ).length)=l.take 1:=λl=>by cases l <;> simp
  rw[e4];unfold cA;rw[acz];refine acS λl hl=>?_;show iJ l=dN (un l);rw[wR,Ly l (afK hl)]
 unfold oG;rw[aU (au e) e1,e0];show R.ok (D.lst (iY _ none (some 1)))=_;rw[e2]
theorem Hf(h1:1<=h)(hh:h<=20)(hw:w<=20):qe [tab w h T,bB w h M,.int 1]= .ok (.lst ((cA (topC w h T M)).map dN)):=by
 have hl:=Wn (w:=w) (h:=h) (T:=T) (M:=M);exact fW (aZ (Rn (by omega) Qo (aR (ao rfl (au (aR (ao rfl (ao rfl (au rfl))) ((Yz hh hw).trans (by rw[Uu]))))) (NK h1 hw)) rfl))
def lwD:List Wy->D
 |[]=> .non
 |t::_=> .tup [.int t.2.1,.tup (t.2.2.map .int)]
def lsD:List Wy->D
 |[]=> .non
 |t::_=> .tup (t.2.2.map .int)
theorem Ma(h1:1<=h)(hh:h<=20)(hw:w<=20):pB [tab w h T,bB w h M]= .ok (lwD (cA (topC w h T M))):=by
 have e:=Hf (T:=T) (M:=M) h1 hh hw;have hl:=qU (cs:=topC w h T M)
 match cA (topC w h T M),e,hl with
 |[],e,_=>exact fW (aF (aQ (aR (ao rfl (ao rfl (au rfl))) e) rfl) (gD (cP (eY (Bk (ds:=[]) rfl)) (aZ rfl))))
 |[t],e,_=>exact fW (aF (aQ (aR (ao rfl (ao rfl (au rfl))) e) rfl) (aF (bU (eY (Bk (ds:=[dN t]) rfl)) rfl) (aF (aQ (d:=dN t) (aq (y:= .int 0) rfl rfl (Ec (i:=0) rfl)) rfl) (aZ (cu (ao rfl (au rfl)))))))
 |_::_::_,_,hl=>simp at hl
theorem Uz{α:Type}{k:D->R (Option D)}{c:α->D}{o:α->Option D}:∀{l:List α},(∀a∈l,k (c a)= .ok (o a))->jA k (l.map c)= .ok (l.filterMap o)
 |[],_=>rfl
 | a::l,h=>by
  rw[z1h,jA,h a (by simp),Dz,R.bh,Uz λb hb=>h b (by simp[hb]),R.bh];cases e:o a with
  |none=>rw[ae5 e];rfl
  |some d=>rw[ae6 e];rfl
theorem Fv{α:Type}{n:Nat}{caps:List Nat}{fi:aB->R (List D)}{gt:D->aB->R aB}{ft:aB->R Bool}{fe:aB->R D}{ρ:aB}{c:α->D}{o:α->Option D}{l:List α}(e1:fi ρ= .ok (l.map c))(hl:l.length<=1000000)
  (e2:∀a∈l,nY gt ft fe (Ak n caps ρ) (c a)= .ok (o a)):bL n caps fi gt ft fe ρ= .ok (.lst (l.filterMap o)):=by
 rw[bL,e1,R.bh,Uz e2,R.bh,cap,if_pos (z0b (agx _ _) hl)]
theorem Bl{ρ ρ1:aB}{gt:D->aB->R aB}{ft:aB->R Bool}{fe:aB->R D}{x d:D}{b:Bool}(e1:gt x ρ= .ok ρ1)(e2:ft ρ1= .ok b)(e3:fe ρ1= .ok d):nY gt ft fe ρ x= .ok (if b=true then some d else none):=by
 rw[nY,e1,R.bh,e2,R.bh];cases b with
 |true=>rw[if_pos rfl,if_pos rfl,e3];rfl
 |false=>rw[if_neg (by decide),if_neg (by decide)]
theorem UG(e:u ρ= .ok (.int i)):oF u ρ= .ok (.int (-i)):=by rw[oF,e];rfl
def cnt(M:Nat->Nat->Int)(h:Nat)(s:Nat->Nat)(k:Int):Int:=((ab0 h).map λy=>if M y (s y)=k then (1:Int) else 0).sum
theorem Mf{α:Type}{p:α->Bool}{g:α->D}:∀{l:List α},((l.filterMap λa=>if p a=true then some (g a) else none).length:Int)=(l.map λa=>if p a=true then (1:Int) else 0).sum
 |[]=>rfl
 | a::l=>by
  rw[z1h,aem];cases e:p a with
  |true=>rw[ae6 (b:=g a) (by simp[e]),acn,if_pos rfl,<-Mf (g:=g)];omega
  |false=>rw[ae5 (by simp[e]),if_neg (by decide),<-Mf (g:=g)];omega
theorem Mg(hh:h<=20)(q:qj w h s){k:Int}:jT [bB w h M,sm h s,.int k]= .ok (.int (cnt M h s k)):=by
 have e:cnt M h s k=(((ab0 h).filterMap λy=>if decide (M y (s y)=k)=true then some (D.int ((s y:Nat):Int)) else none).length:Int):=by
  rw[Mf];unfold cnt;simp only[decide_eq_true_eq]
 rw[e];refine bQ (aZ (aU (au (x:= .lst ((ab0 h).filterMap λy=>if decide (M y (s y)=k)=true then some (D.int ((s y:Nat):Int)) else none)) (Fv (l:=ab0 h) (c:=λy=> .tup [row w (M y),.int ((s y:Nat):Int)]) (Bf (ao rfl (au rfl)) rfl rfl) (by rw[z2d];omega) λy hy=>?_)) rfl));exact Bl rfl (aN (aq (aq rfl rfl (jj (q.lt y (z2e hy)))) rfl m7)) rfl
theorem Mh{p:Nat->Bool}:∀{l:List Nat},(l.map λa=>if p a=true then (1:Int) else 0).sum=0↔∀a∈l,p a=false
 |[]=>by simp
 | a ::l=>by
  have ih:=Mh (p:=p) (l:=l);have hp:∀l:List Nat,0<=(l.map λa=>if p a=true then (1:Int) else 0).sum:=λl=>by
   induction l with
   |nil=>exact Int.le_refl 0
   |cons a l ih=>rw[z1h,aem];split <;> omega
  have:=hp l;rw[z1h,aem];cases e:p a with
  | true=>
   rw[if_pos rfl];exact⟨λz=>by omega,λz=>by have:=z a (by simp);rw[e] at this;cases this⟩
  | false=>
   rw[if_neg (by decide),Int.zero_add,ih];exact⟨λz b hb=>by rcases ach.mp hb with q |q;(· rw[q];exact e);exact z b q,λz b hb=>z b (by simp[hb])⟩
theorem Mi{k:Int}:cnt M h s k=0↔∀y<h,M y (s y)≠k:=by
 have:cnt M h s k=((ab0 h).map λy=>if decide (M y (s y)=k)=true then (1:Int) else 0).sum:=by unfold cnt;simp only[decide_eq_true_eq]
 rw[this,Mh];exact⟨λz y hy=>of_decide_eq_false (z y (ae8.mpr hy)),λz y hy=>decide_eq_false (z y (z2e hy))⟩
end
section
variable{ns:List Int}{w h:Nat}{f M:Nat->Nat->Int}{T:Nat->Nat->Nat->Int}{m:Str}{s:Nat->Nat}{ρ:aB}
def tI(l:List Int):D:= .tup (l.map .int)
def bZ(h:Nat)(s:Nat->Nat):List Int:=(ab0 h).map λy=>((s y:Nat):Int)
theorem Xl:tI (bZ h s)=sm h s:=by unfold tI bZ;rw[acz];rfl
def ext(w:Nat)(l:List Int)(a:Int):List (List Int):=[a - 1,a,a+1].filterMap λx=>if (decide (0<=x) && decide (x<(w:Int)))=true then some (l++[x]) else none
def lst(l:List Int):Int:=l.getD (l.length - 1) 0
def kO(w:Nat):Nat->List (List Int)
 |0=>(ab0 w).map λx=>[((x:Nat):Int)]
 |k+1=>(kO w k).flatMap λl=>ext w l (lst l)
theorem Hg:lst (bZ (k+1) s)=((s k:Nat):Int):=by simp[lst,bZ]
theorem Mj:bZ (k+1) s=bZ k s++[((s k:Nat):Int)]:=by unfold bZ;rw[afF,ad3];rfl
theorem Qp{r:List Int}{a:Int}:r∈ext w l a↔∃x,(x=a - 1\/x=a\/x=a+1)/\0<=x/\x<(w:Int)/\r=l++[x]:=by
 unfold ext;rw[afW];constructor
 ·rintro⟨x,hx,e⟩
  split at e
  ·rename_i hb;cases e;simp only[ach,adi,or_false] at hx;simp only[acY,decide_eq_true_eq] at hb;exact⟨x,hx,hb.1,hb.2,rfl⟩
  ·cases e
 ·rintro⟨x,hx,h0,h1,rfl⟩
  refine⟨x,by simpa using hx,?_⟩;rw[if_pos (by simp[h0,h1])]
theorem Ji(e:∀y<k,s y=s' y):bZ k s=bZ k s':=by
 unfold bZ;exact acS λy hy=>by rw[e y (z2e hy)]
theorem Hh(e:bZ k s=bZ k s'):∀y<k,s y=s' y:=λy hy=>by
 have:=congrArg (λl:List Int=>l[y]?) e;simp only[bZ,z2b,acv hy,aeR,Option.some.injEq] at this;omega
theorem wj:∀{k:Nat} {l:List Int},l∈kO w k↔∃s,qj w (k+1) s/\l=bZ (k+1) s
 | 0,l=>by
  unfold kO;rw[acA];constructor
  ·rintro⟨x,hx,rfl⟩
   exact⟨λ_=>x,⟨λ_ _=>z2e hx,λy hy=>by omega⟩,rfl⟩
  ·rintro⟨s,q,rfl⟩
   exact⟨s 0,ae8.mpr (q.lt 0 (by omega)),rfl⟩
 | k+1,l=>by
  unfold kO;rw[aeh];constructor
  ·rintro⟨l',h',hl⟩
   obtain⟨s,q,rfl⟩:=wj.mp h';rw[Hg] at hl;obtain⟨x,hx,h0,h1,rfl⟩:=Qp.mp hl;obtain⟨p,rfl⟩:=acF h0;have e1:∀y<k+1,(λy=>if y=k+1 then p else s y) y=s y:=λy hy=>if_neg (by omega);refine⟨λy=>if y=k+1 then p else s y,⟨λy hy=>?_,λy hy=>?_⟩,?_⟩
   ·by_cases e:y=k+1
    ·simp only[e,if_true];omega
    ·simp only[e,if_false];exact q.lt y (by omega)
   ·by_cases e:y=k
    ·subst e;simp only[if_true,show ¬y=y+1 by omega,if_false];omega
    ·simp only[show ¬y+1=k+1 by omega,show ¬y=k+1 by omega,if_false];exact q.st y (by omega)
   ·rw[Mj (k:=k+1),Ji e1];simp
  ·rintro⟨s,q,rfl⟩
   refine⟨bZ (k+1) s,wj.mpr ⟨s,⟨λy hy=>q.lt y (by omega),λy hy=>q.st y (by omega)⟩,rfl⟩,?_⟩;rw[Hg,Qp];have a:=q.st k (by omega);have b:=q.lt (k+1) (by omega);exact⟨((s (k+1):Nat):Int),by omega,by omega,by omega,Mj⟩
theorem Hi{a:Int}:(ext w l a).length<=3:=by unfold ext;exact agx _ _
theorem Jj{F:List Int->List (List Int)}:∀{l:List (List Int)},(∀a∈l,(F a).length<=3)->(l.flatMap F).length<=3*l.length
 |[],_=>by simp
 | a::l,h=>by
  rw[aev,z1d,acn];have h1:=h a (by simp);have h2:=Jj (l:=l) λb hb=>h b (by simp[hb]);omega
theorem Qq:∀{k:Nat},(kO w k).length<=w*3^k
 |0=>by simp[kO]
 | k+1=>by
  unfold kO;have:=Jj (F:=λl=>ext w l (lst l)) (l:=kO w k) λa _=>Hi;have h2:=Qq (k:=k);rw[Nat.pow_succ];have:w*(3^k*3)=3*(w*3^k):=by rw[afI (3^k) 3,<-Nat.mul_assoc,afI w 3,Nat.mul_assoc]
  omega
theorem Wo(hw:w<=4)(hk:k<=3):(kO w k).length<=108:=by
 have:=Qq (w:=w) (k:=k);have h3:3^k<=27:=by
  have:k=0\/k=1\/k=2\/k=3:=by omega
  rcases this with rfl |rfl |rfl |rfl <;> decide
 have:w*3^k<=4*27:=Nat.mul_le_mul hw h3;omega
theorem Hj:bN (tI (bZ (k+1) s)) (.int (-1))= .ok (.int ((s k:Nat):Int)):=by
 have:atI ((bZ (k+1) s).map D.int) (-1)=some (.int ((s k:Nat):Int)):=by
  unfold atI ixN;rw[if_neg (by omega),if_pos (by simp[bZ];omega)];show ((bZ (k+1) s).map D.int)[_]?=_;have e:(-1+(((bZ (k+1) s).map D.int).length:Int)).toNat=k:=by simp[bZ];omega
  rw[e];simp[bZ]
 show bN (.tup ((bZ (k+1) s).map D.int)) (.int (-1))=_;rw[bN,this]
theorem YF{a:Int}:(ext w l a).map tI=[a - 1,a,a+1].filterMap λx=>if (decide (0<=x) && decide (x<(w:Int)))=true then some (tI (l++[x])) else none:=by
 unfold ext;rw[List.map_filterMap];congr 1;funext x;split <;> rfl
theorem aau(hk:k<20)(q:qj w (k+1) s)(hl:acc.length<=1000):
  wyI [vA (.int (w:Int)),e1,e2,e3,vA (.lst acc),vA (tI (bZ (k+1) s))]= .nx [vA (.int (w:Int)),e1,e2,e3,vA (.lst (acc++(ext w (bZ (k+1) s) (lst (bZ (k+1) s))).map tI)),vA (tI (bZ (k+1) s))]:=by
 have hlen:=Hi (w:=w) (l:=bZ (k+1) s) (a:=lst (bZ (k+1) s));have hwl:(bZ (k+1) s).length=k+1:=by simp[bZ]
 rw[Hg] at hlen |-;refine aQ (aq rfl (y:= .lst ((ext w (bZ (k+1) s) ((s k:Nat):Int)).map tI)) ?_ (Yr (by rw[z1g];omega))) rfl;rw[YF];refine Fv (l:=[((s k:Nat):Int) - 1,((s k:Nat):Int),((s k:Nat):Int)+1]) (c:=D.int) (jq (cu (ao (aq (aq rfl rfl Hj) rfl rfl) (ao (aq rfl rfl Hj) (au (aq (aq rfl rfl Hj) rfl rfl)))))) (by simp) λx hx=>?_;refine Bl rfl ?_ (aq rfl (cu (au rfl)) ((Bg (by rw[z1g,hwl];simp;omega)).trans (by rw[tI,ad3];rfl)));by_cases h0:0<=x
 ·rw[decide_eq_true h0,Bool.true_and];exact jr (aN (aq rfl rfl (uc h0))) (aN (aq rfl rfl rfl))
 ·rw[decide_eq_false h0,afN];refine vM (aN (aq rfl rfl ?_));show R.ok (D.bl (decide _))=_;rw[decide_eq_false h0]
theorem Ml{k:Nat}(hk:k<20){e1 e2 e3:Option Ent}:∀{ws:List (List Int)} {acc:List D} {e5:Option Ent},(∀l∈ws,∃s,qj w (k+1) s/\l=bZ (k+1) s)->acc.length+3*ws.length<=1000->
  ∃z5,forL (aK 5) wyI (ws.map tI) [vA (.int (w:Int)),e1,e2,e3,vA (.lst acc),e5]= .nx [vA (.int (w:Int)),e1,e2,e3,vA (.lst (acc++(ws.flatMap λl=>ext w l (lst l)).map tI)),z5]
 |[],acc,e5,_,_=>⟨e5,by simp[forL]⟩
 | l::ws,acc,e5,hw,hl=>by
  rw[acn] at hl;obtain⟨s,q,rfl⟩:=hw l (by simp);have hlen:=Hi (w:=w) (l:=bZ (k+1) s) (a:=lst (bZ (k+1) s));obtain⟨z5,e⟩:=Ml hk (e1:=e1) (e2:=e2) (e3:=e3) (ws:=ws) (acc:=acc++(ext w (bZ (k+1) s) (lst (bZ (k+1) s))).map tI) (e5:=vA (tI (bZ (k+1) s))) (λl hl=>hw l (by simp[hl])) (by rw[z1d,z1g];omega);refine⟨z5,fU rfl (aau hk q (by omega)) (e.trans ?_)⟩;rw[aev,ad3,ado]
theorem aav(hk:k<3)(hw:w<=4):∃z4 z5,wyO [vA (.int (w:Int)),e1,vA (.lst ((kO w k).map tI)),e3,e4,e5]= .nx [vA (.int (w:Int)),e1,vA (.lst ((kO w (k+1)).map tI)),e3,z4,z5]:=by
 have hl:=Wo (k:=k) hw (by omega);obtain⟨z5,e⟩:=Ml (w:=w) (k:=k) (by omega) (e1:=e1) (e2:=vA (.lst ((kO w k).map tI))) (e3:=e3) (ws:=kO w k) (acc:=[]) (e5:=e5) (λl hl=>wj.mp hl) (by simp;omega);exact⟨_,z5,aF (aQ (dX rfl) rfl) (aF (jP (j9 rfl) e) (aQ (d:= .lst ((kO w (k+1)).map tI)) rfl rfl))⟩
theorem Mp(hw:w<=4){e1:Option Ent}:∀{r k:Nat} {ys:List Nat} {e3 e4 e5:Option Ent},ys.length=r->k+r<=3->∃z3 z4 z5,forL (aK 3) wyO (ys.map λ(y:Nat)=>D.int (y:Int)) [vA (.int (w:Int)),e1,vA (.lst ((kO w k).map tI)),e3,e4,e5]= .nx [vA (.int (w:Int)),e1,vA (.lst ((kO w (k+r)).map tI)),z3,z4,z5]
 |0,k,ys,e3,e4,e5,hl,_=>by cases afd.mp hl;exact⟨e3,e4,e5,rfl⟩
 | r +1,k,ys,e3,e4,e5,hl,hk=>by
  cases ys with
  |nil=>cases hl
  | cons y ys=>
   obtain⟨y4,y5,e⟩:=aav (k:=k) (by omega) hw (e1:=e1) (e3:=vA (.int (y:Int))) (e4:=e4) (e5:=e5);obtain⟨z3,z4,z5,e'⟩:=Mp hw (e1:=e1) (r:=r) (k:=k+1) (ys:=ys) (e3:=vA (.int (y:Int))) (e4:=y4) (e5:=y5) (by simpa using hl) (by omega);rw[show k+1+r=k+(r+1) by omega] at e';exact⟨z3,z4,z5,fU rfl e e'⟩
theorem YG(hw:w<=4)(h1:1<=h)(hh:h<=4):uD [.int (w:Int),.int (h:Int)]= .ok (.lst ((kO w (h - 1)).map tI)):=by
 obtain⟨z3,z4,z5,e⟩:=Mp hw (e1:=vA (.int (h:Int))) (r:=h - 1) (k:=0) (ys:=ab0 (h - 1)) (e3:=none) (e4:=none) (e5:=none) (by simp) (by omega);rw[Nat.zero_add] at e;refine bQ (aF (aQ (d:= .lst ((kO w 0).map tI)) ?_ rfl) (aF (jP (jO (m:=h - 1) (au (aq rfl rfl (zf h1))) (by omega)) e) (aZ rfl)));have:(kO w 0).map tI=(ab0 w).map λ(x:Nat)=>D.tup [.int (x:Int)]:=by unfold kO;rw[acz];rfl
 rw[this];exact cj (c:=λ(x:Nat)=>D.int (x:Int)) (h:=λ(x:Nat)=>D.tup [.int (x:Int)]) (l:=ab0 w) (jO (au rfl) (by omega)) (by rw[z2d];omega) λx hx=>cM rfl (cu (au rfl))
theorem aaw{p q:aB->R Bool}(e1:p ρ= .ok true):vG p q ρ= .ok true:=by rw[vG,e1,R.bh,if_pos rfl]
def bD:Option Wy->D
 |none=> .non
 |some t=>dN t
theorem UJ{a:Wy}:Ld (dN a) (dN b)= .ok (.bl (lt a b)):=by
 have e:∀t:Wy,jR (dN t)=some (fl t):=λt=>by rw[wR];exact yM
 rw[Ld,e,e]
theorem abG:dN (wS T M h s)= .tup [.int (-gn M h s),.int (cost h T s),sm h s]:=by
 rw[<-Xl];rfl
theorem Ro(h1:1<=h)(e:∀y<h,s y=s' y):cost h T s=cost h T s':=by
 unfold cost;rw[e 0 h1];congr 2;refine acS λy hy=>?_;have hy:y+1<h:=by have:=z2e hy;omega
 unfold fare;rw[e (y+1) hy,e (y+1 - 1) (by omega)]
theorem Mq(h1:1<=h)(e:∀y<h,s y=s' y):wS T M h s=wS T M h s':=by
 unfold wS;rw[Ro h1 e,show gn M h s=gn M h s' by unfold gn;exact congrArg List.sum (acS λy hy=>by rw[e y (z2e hy)])];exact congrArg (λz=>(_,_,z)) (Ji e)
theorem UL(e:∀y<h,s y=s' y)(q:mK w h M s):mK w h M s':=
 ⟨⟨λy hy=>by rw[<-e y hy];exact q.sm.lt y hy,λy hy=>by rw[<-e y (by omega),<-e (y+1) hy];exact q.sm.st y hy⟩,λy hy=>by rw[<-e y hy];exact q.ne y hy⟩
def Ce(w h:Nat)(T:Nat->Nat->Nat->Int)(M:Nat->Nat->Int)(seen:List (List Int)):Option Wy->Prop
 |none=>∀s,bZ h s∈seen->¬mK w h M s
 |some t=>(∃s,mK w h M s/\t=wS T M h s)/\∀s,bZ h s∈seen->mK w h M s->lt (wS T M h s) t=false
theorem Wq{b:Option Wy}(hs:¬mK w h M s)(q:Ce w h T M seen b):Ce w h T M (seen++[bZ h s]) b:=by
 have key:∀s',bZ h s'∈seen++[bZ h s]->mK w h M s'->bZ h s'∈seen:=λs' h' q'=>by
  rcases ac9.mp h' with z |z
  ·exact z
  ·exact absurd (UL (Hh (acV.mp z)) q') hs
 cases b with
 |none=>exact λs' h' q'=>q s' (key s' h' q') q'
 |some t=>exact⟨q.1,λs' h' q'=>q.2 s' (key s' h' q') q'⟩
theorem Mr{b:Option Wy}(h1:1<=h)(hs:mK w h M s)(q:Ce w h T M seen b)(hb:∀t,b=some t->lt (wS T M h s) t=true):Ce w h T M (seen++[bZ h s]) (some (wS T M h s)):=by
 refine⟨⟨s,hs,rfl⟩,λs' h' q'=>?_⟩;rcases ac9.mp h' with z |z
 ·cases b with
  |none=>exact absurd q' (q s' z)
  | some t=>
   have a:=q.2 s' z q';cases e:lt (wS T M h s') (wS T M h s) with
   |false=>rfl
   | true=>
    have:=gC e (hb t rfl);exact this.symm.trans a
 ·rw[Mq (T:=T) (M:=M) h1 (Hh (acV.mp z))];exact ig _
theorem UW(h1:1<=h)(q:Ce w h T M seen (some t))(hb:lt (wS T M h s) t=false):Ce w h T M (seen++[bZ h s]) (some t):=by
 refine⟨q.1,λs' h' q'=>?_⟩;rcases ac9.mp h' with z |z
 ·exact q.2 s' z q'
 ·rw[Mq (T:=T) (M:=M) h1 (Hh (acV.mp z))];exact hb
theorem aax(hm:m= "worth"\/m= "joins")(o:Ok w h f)(q:qj w h s){b:Option Wy}(hb:Ce w h (tbl m w h f) M seen b):
  ∃b' z5,beB [vA (bB w h f),vA (.str m),vA (bB w h M),vA (bD b),vA (tI (bZ h s)),e5]= .nx [vA (bB w h f),vA (.str m),vA (bB w h M),vA (bD b'),vA (tI (bZ h s)),z5]/\Ce w h (tbl m w h f) M (seen++[bZ h s]) b':=by
 have e1:=Mg (M:=M) (k:=1) o.h2 q;rw[Xl];by_cases hc:cnt M h s 1=0
 ·have fr:mK w h M s:=⟨q,Mi.mp hc⟩;have eh:cU (ak (oF (aD (aV jT 3) (ak (gv 2) (ak (gv 4) (ak (ci 2) nA))))) (ak (aD (aV ju 3) (ak (gv 0) (ak (gv 1) (ak (gv 4) nA)))) (ak (gv 4) nA))) [vA (bB w h f),vA (.str m),vA (bB w h M),vA (bD b),vA (sm h s),e5]= .ok (dN (wS (tbl m w h f) M h s)):=by
   rw[abG];exact cu (ao (UG (aR (ao rfl (ao rfl (au rfl))) (Mg o.h2 q))) (ao (aR (ao rfl (ao rfl (au rfl))) (Cd hm o q)) (au rfl)))
  cases b with
  | none=>
   exact⟨some (wS (tbl m w h f) M h s),vA (dN (wS (tbl m w h f) M h s)),cP (aN (aq (aR (ao rfl (ao rfl (au rfl))) e1) rfl (by rw[m7,decide_eq_true hc]))) (aF (aQ eh rfl) (aQ (mJ (aaw (aN (aq rfl rfl rfl))) rfl) rfl)),Mr o.h1 fr hb λt e=>nomatch e⟩
  | some t=>
   cases hlt:lt (wS (tbl m w h f) M h s) t with
   | true=>
    exact⟨some (wS (tbl m w h f) M h s),vA (dN (wS (tbl m w h f) M h s)),cP (aN (aq (aR (ao rfl (ao rfl (au rfl))) e1) rfl (by rw[m7,decide_eq_true hc]))) (aF (aQ eh rfl) (aQ (mJ (rM (aN (aq rfl rfl rfl)) (aN (aq rfl rfl (UJ.trans (by rw[hlt]))))) rfl) rfl)),Mr o.h1 fr hb λt' e=>by cases e;exact hlt⟩
   | false=>
    exact⟨some t,vA (dN (wS (tbl m w h f) M h s)),cP (aN (aq (aR (ao rfl (ao rfl (au rfl))) e1) rfl (by rw[m7,decide_eq_true hc]))) (aF (aQ eh rfl) (aQ (oM (rM (aN (aq rfl rfl rfl)) (aN (aq rfl rfl (UJ.trans (by rw[hlt]))))) rfl) rfl)),UW o.h1 hb hlt⟩
 ·exact⟨b,e5,bU (aN (aq (aR (ao rfl (ao rfl (au rfl))) e1) rfl (by rw[m7,decide_eq_false hc]))) rfl,Wq (λz=>hc (Mi.mpr z.ne)) hb⟩
theorem Qs(hm:m= "worth"\/m= "joins")(o:Ok w h f):∀{ws seen:List (List Int)} {b:Option Wy} {e4 e5:Option Ent},(∀l∈ws,∃s,qj w h s/\l=bZ h s)->Ce w h (tbl m w h f) M seen b->
  ∃b' z4 z5,forL (aK 4) beB (ws.map tI) [vA (bB w h f),vA (.str m),vA (bB w h M),vA (bD b),e4,e5]= .nx [vA (bB w h f),vA (.str m),vA (bB w h M),vA (bD b'),z4,z5]/\Ce w h (tbl m w h f) M (seen++ws) b'
 |[],seen,b,e4,e5,_,hb=>⟨b,e4,e5,rfl,by rw[acE];exact hb⟩
 | l::ws,seen,b,e4,e5,hw,hb=>by
  obtain⟨s,q,rfl⟩:=hw l (by simp);obtain⟨b1,y5,e1,h1⟩:=aax hm o q hb (e5:=e5);obtain⟨b',z4,z5,e2,h2⟩:=Qs hm o (ws:=ws) (seen:=seen++[bZ h s]) (b:=b1) (e4:=vA (tI (bZ h s))) (e5:=y5) (λl hl=>hw l (by simp[hl])) h1;exact⟨b',z4,z5,fU rfl e1 e2,by rw[ado] at h2;exact h2⟩
theorem Wr(hm:m= "worth"\/m= "joins")(o:Ok w h f)(hw:w<=4)(hh:h<=4):pA [bB w h f,.str m,bB w h M]= .ok (lsD (cA (topC w h (tbl m w h f) M))):=by
 have h1:=o.h1;have hk:h - 1+1=h:=by omega
 obtain⟨b,z4,z5,e,hb⟩:=Qs (M:=M) hm o (ws:=kO w (h - 1)) (seen:=[]) (b:=none) (e4:=none) (e5:=none) (λl hl=>by have:=wj.mp hl;rwa [hk] at this) (λs hs=>by cases hs);rw[ad2] at hb;have all:∀s,mK w h M s->bZ h s∈kO w (h - 1):=λs q=>wj.mpr ⟨s,by rw[hk];exact⟨q.sm,rfl⟩⟩;have fin:(retS (tQ (bR (bin (gv 3) (λ_=> .ok .non) isD)) (λ_=> .ok .non) (bin (gv 3) (ci 2) bN))) [vA (bB w h f),vA (.str m),vA (bB w h M),vA (bD b),z4,z5]= .rt (lsD (cA (topC w h (tbl m w h f) M))):=by
  rcases least (w:=w) (h:=h) (T:=tbl m w h f) (M:=M) h1 with⟨en,hno⟩ |⟨s,en,hs⟩
  ·rw[en];cases b with
   |none=>exact aZ (mJ (aN (aq rfl rfl rfl)) rfl)
   |some t=>obtain⟨⟨s,q,_⟩,_⟩:=hb;exact absurd q (hno s)
  ·rw[en];cases b with
   |none=>exact absurd hs.1 (hb s (all s hs.1))
   | some t=>
    obtain⟨⟨s',q',rfl⟩,hle⟩:=hb;have e1:=hs.2 s' q';have e2:=hle s (all s hs.1) hs.1;rw[aap e2 e1];exact aZ (oM (aN (aq rfl rfl rfl)) (aq (y:= .int 2) rfl rfl (iI (i:=2) rfl)))
 exact bQ (aF (aQ rfl rfl) (aF (jP (j9 (aR (ao (len0 o rfl) (au (aU (au rfl) mH))) (YG hw h1 hh))) e) fin))
end
section
variable{ns:List Int}{w h k:Nat}{f M:Nat->Nat->Int}{T:Nat->Nat->Nat->Int}{m:Str}{s:Nat->Nat}{ρ:aB}
theorem U0(hi:0<=i)(hns:ns.length<=1000000):∃m:Str,(m= "worth"\/m= "joins")/\qb [.lst (ns.map .int),.int i]= .ok (.str m):=by
 obtain⟨e1,h0,h2⟩:=o8 (k:=i) (m:=2) hns (by omega) (by omega);obtain⟨d,hd,ed⟩:=Gz (xs:=[D.str "worth",.str "joins"]) h0 h2;simp only[ach,adi,or_false] at hd;rcases hd with rfl |rfl
 ·exact⟨"worth",.inl rfl,bQ (aZ (aq (x:= .lst [D.str "worth",.str "joins"]) (dX rfl) (aR (ao rfl (ao rfl (au rfl))) e1) (yC ed)))⟩
 ·exact⟨"joins",.inr rfl,bQ (aZ (aq (x:= .lst [D.str "worth",.str "joins"]) (dX rfl) (aR (ao rfl (ao rfl (au rfl))) e1) (yC ed)))⟩
theorem Ms{α β:Type}{f:α->Option β}{g:α->β}:∀{l:List α},(∀a∈l,f a=some (g a))->l.filterMap f=l.map g
 |[],_=>rfl
 |a::l,h=>by rw[ae6 (h a (by simp)),z1h,Ms λb hb=>h b (by simp[hb])]
theorem YH{g:Nat->Int}{n:Nat}(hn:n<w):(ab0 w).filterMap (λx=>if x=n then none else some (D.int (g x)))=(ab0 (w - 1)).map λx=>D.int (if x<n then g x else g (x+1)):=by
 rw[<-Lq hn,<-af8,<-List.map_drop];have e2:ab0 w=(ab0 w).take n++n::(ab0 w).drop (n+1):=by
  have:=List.take_append_drop n (ab0 w);rw[aeT (by simpa using hn)] at this;simpa using this.symm
 conv=>lhs;rw[e2]
 rw[List.filterMap_append,ae5 (by simp),Ms (g:=λx=>D.int (g x)) λx hx=>?_,Ms (g:=λx=>D.int (g x)) λx hx=>?_]
 ·obtain⟨i,hi,e⟩:=List.mem_iff_getElem.mp hx;simp at e;rw[if_neg (by omega)]
 ·rw[List.take_range] at hx;have:=z2e hx;rw[if_neg (by omega)]
theorem U3(q:qj w h s)(xU:h<=20)(w20:w<=20):qT [bB w h f,sm h s]= .ok (bB (w - 1) h (less s f)):=by
 refine bQ (aZ (aU (au (cj (c:=λy=> .tup [row w (f y),.int ((s y:Nat):Int)]) (h:=λy=>row (w - 1) (less s f y)) (l:=ab0 h) (Bf (ao rfl (au rfl)) rfl rfl) (by rw[z2d];omega) λy hy=>?_)) rfl));refine cM rfl (aU (au (x:= .lst ((ab0 w).filterMap λx=>if x=s y then none else some (D.int (f y x)))) (Fv (l:=ab0 w) (c:=λ(x:Nat)=>D.tup [.int (x:Int),.int (f y x)]) (wg (au rfl) rfl) (by rw[z2d];omega) λx hx=>?_)) ?_)
 ·have e:jN (.int (x:Int)) (.int ((s y:Nat):Int))= .ok (.bl (!decide (x=s y))):=by
   rw[jN,if_pos (by simp[dep])];show R.ok (D.bl (!fQ (.int (x:Int)) (.int ((s y:Nat):Int))))=_;by_cases h:x=s y
   ·simp[lB,lC,lD,lE,lF,gJ,d9,h]
   ·have h':¬(x:Int)=((s y:Nat):Int):=by omega
    simp[fQ,h,h']
  refine (Bl rfl (aN (aq rfl rfl e)) rfl).trans ?_;by_cases h:x=s y
  ·simp[h]
  ·simp[h]
 ·rw[YH (q.lt y (z2e hy))];rfl
theorem free_eq(o:Ok w h f):uE [bB w h f]= .ok (bB w h λ_ _=>0):=by
 have xU:=o.h2;exact bQ (aZ (aU (au (cj (c:=λy=>row w (f y)) (h:=λ_=>row w λ_=>0) (l:=ab0 h) (jq rfl) (by rw[z2d];omega) λy hy=>cM rfl (aq (cu (au rfl)) (aU (au rfl) Bh) (mul_one o.w1 o.w2)))) rfl))
theorem aay:lwD [wS T M h s]= .tup [.int (cost h T s),sm h s]:=by
 show D.tup [.int (cost h T s),.tup (((ab0 h).map λy=>((s y:Nat):Int)).map .int)]=_;rw[acz];rfl
theorem aaz:lsD [wS T M h s]=sm h s:=by
 show D.tup (((ab0 h).map λy=>((s y:Nat):Int)).map .int)=_;rw[acz];rfl
theorem YJ{p q:aB->R Bool}(e1:p ρ= .ok true):vG p q ρ= .ok true:=by rw[vG,e1,R.bh,if_pos rfl]
theorem abH{p:aB->R Bool}{b:aB->So}{n:Nat}(e:p (dB ρ)= .ok false):iu p b (n+1) ρ= .nx ρ:=by rw[iu,e]
theorem aaA{p:aB->R Bool}{b:aB->So}{n:Nat}{ρ1:aB}{o:So}(e:p (dB ρ)= .ok true)(e1:b ρ= .nx ρ1)(e2:iu p b n ρ1=o):iu p b (n+1) ρ=o:=by rw[iu,e];simp only[e1,e2]
theorem abb{p:aB->R Bool}{b:aB->So}{n:Nat}{d:D}(e:p (dB ρ)= .ok true)(e1:b ρ= .rt d):iu p b (n+1) ρ= .rt d:=by rw[iu,e];simp only[e1]
theorem iW{F:List D->R D}{n j:Nat}{sel:List (Sum Nat D)}{fk:aB->R (List D)}{zs:List D}(e1:fa ρ= .ok ds)(e2:fk ρ= .ok zs)(e3:F (ds++pickK .non sel zs)=r)(hl:(ds++pickK .non sel zs).length=n:=by rfl)(hj:zs.length=j:=by rfl):gM F n j sel fa fk ρ=r:=by
 unfold gM;rw[e1,R.bh,e2,R.bh,if_pos hj,okN,if_pos hl,e3]
abbrev Jk:=(Nat->Nat)×(Nat->Int)
def Bm(h:Nat)(p:Jk):D:= .tup [sm h p.1,row h p.2]
def Go(m:Str)(h:Nat):Nat->Nat->(Nat->Nat->Int)->(Nat->Nat->Int)->Option (List Jk)->Prop
 |0,_,_,_,r=>r=some []
 |k+1,w,f,M,r=>(cA (topC w h (tbl m w h f) M)=[]/\(∀s,¬mK w h M s)/\r=none)\/∃s r',mK w h M s/\cA (topC w h (tbl m w h f) M)=[wS (tbl m w h f) M h s]/\Go m h k (w - 1) (less s f) (less s M) r'/\r=r'.map ((s,λy=>f y (s y)):: ·)
def Xm:(Nat->Nat->Int)->List Jk->Nat->Nat->Int
 |f,[]=>f
 |f,p::L=>Xm (less p.1 f) L
def tot(m:Str)(h:Nat):Nat->(Nat->Nat->Int)->List Jk->Int
 |_,_,[]=>0
 |w,f,p::L=>cost h (tbl m w h f) p.1+tot m h (w - 1) (less p.1 f) L
theorem Xn(h1:1<=h):∀{k w:Nat} {f M:Nat->Nat->Int},∃r,Go m h k w f M r
 |0,w,f,M=>⟨_,rfl⟩
 | k +1,w,f,M=>by
  rcases least (w:=w) (T:=tbl m w h f) (M:=M) h1 with⟨e,q⟩ |⟨s,e,q,_⟩
  ·exact⟨none,.inl ⟨e,q,rfl⟩⟩
  ·obtain⟨r,g⟩:=Xn h1 (k:=k) (w:=w - 1) (f:=less s f) (M:=less s M);exact⟨_,.inr ⟨s,r,q,e,g,rfl⟩⟩
theorem Qt:∀{k w:Nat} {f M:Nat->Nat->Int} {r:Option (List Jk)},k<w->(∀y<h,∀x<w,M y x≠1)->Go m h k w f M r->∃L,r=some L
 |0,w,f,M,r,_,_,g=>⟨_,g⟩
 | k +1,w,f,M,r,hk,z,g=>by
  rcases g with⟨_,q,_⟩ |⟨s,r',q,_,g,e⟩
  ·exact absurd ⟨⟨λy hy=>by show 0<w;omega,λy hy=>by show 0<=0+1/\0<=0+1;omega⟩,λy hy=>z y hy 0 (by omega)⟩ (q λ_=>0)
  ·obtain⟨L,rfl⟩:=Qt (by omega) (λy hy x hx=>by unfold less;split;exact z _ hy _ (by omega);exact z _ hy _ (by omega)) g;exact⟨_,e⟩
def tkD(m:Str)(w h k:Nat)(f:Nat->Nat->Int):Option (List Jk)->D
 |none=> .non
 |some L=> .tup [bB (w - k) h (Xm f L),.lst (L.map (Bm h)),.int (tot m h w f L)]
section
variable(hm:m= "worth"\/m= "joins")(o:Ok w h f)
include hm o
theorem Xo:pB [tab w h (tbl m w h f),bB w h M]= .ok (lwD (cA (topC w h (tbl m w h f) M))):=Ma o.h1 o.h2 o.w2
theorem Ws(e:cA (topC w h (tbl m w h f) M)=[]):tkB [e0,e1,vA (.str m),e3,vA (bB w h f),vA (bB w h M),some (.lst acc),e7,e8,e9,e10]= .rt .non:=by
 have el:=Xo (M:=M) hm o;rw[e] at el;exact aF (aQ (aR (ao (aR (ao rfl (au rfl)) (LK hm o)) (au rfl)) el) rfl) (gD (cP (aN (aq rfl rfl rfl)) (aZ rfl)))
theorem U4(q:mK w h M s)(e:cA (topC w h (tbl m w h f) M)=[wS (tbl m w h f) M h s]){t:Int}(hl:acc.length<=1000):tkB [e0,e1,vA (.str m),e3,vA (bB w h f),vA (bB w h M),some (.lst acc),vA (.int t),e8,e9,e10] =
  .nx [e0,e1,vA (.str m),e3,vA (bB (w - 1) h (less s f)),vA (bB (w - 1) h (less s M)),some (.lst (acc++[Bm h (s,λy=>f y (s y))])),vA (.int (t+cost h (tbl m w h f) s)),vA (.tup [.int (cost h (tbl m w h f) s),sm h s]),vA (.int (cost h (tbl m w h f) s)),vA (sm h s)]:=by
 have el:=Xo (M:=M) hm o;rw[e,aay] at el;refine aF (aQ (aR (ao (aR (ao rfl (au rfl)) (LK hm o)) (au rfl)) el) rfl) (aF (bU (aN (aq rfl rfl rfl)) rfl) (aF (aQ rfl rfl) (aF (sy (ds:=acc) (d:=Bm h (s,λy=>f y (s y))) (cu (ao rfl (au (aR (ao rfl (au rfl)) (G8 q.sm o.h2))))) rfl (by omega)) (aF (aaf (a:=t) (b:=cost h (tbl m w h f) s) rfl rfl) ?_))));exact qY (aR (ao rfl (au rfl)) (Fp q.sm o.h2 o.w2)) (aR (ao rfl (au rfl)) (Fp q.sm o.h2 o.w2))
end
theorem U5{K:Nat}:Uh (dB [e0,vA (.int (K:Int)),e2,e3,e4,e5,some (.lst acc),e7,e8,e9,e10])= .ok (decide (acc.length<K)):=by
 refine aN (aq (aU (au rfl) rfl) rfl ?_);show R.ok (D.bl (decide ((acc.length:Int)<(K:Int))))=_;rw[decide_eq_decide.mpr (by omega:(acc.length:Int)<(K:Int)↔acc.length<K)]
theorem Qu(hm:m= "worth"\/m= "joins"){e0 e3:Option Ent}:∀{k w n K:Nat} {f M:Nat->Nat->Int} {r:Option (List Jk)} {acc:List D} {t:Int} {e8 e9 e10:Option Ent},Go m h k w f M r->Ok w h f->k<w->k<n->acc.length+k=K->K<=500->
  match (generalizing:=false) r with
  |none=>iu Uh tkB n [e0,vA (.int (K:Int)),vA (.str m),e3,vA (bB w h f),vA (bB w h M),some (.lst acc),vA (.int t),e8,e9,e10]= .rt .non
  | some L=>∃z5 z8 z9 pU,iu Uh tkB n [e0,vA (.int (K:Int)),vA (.str m),e3,vA (bB w h f),vA (bB w h M),some (.lst acc),vA (.int t),e8,e9,e10] =
    .nx [e0,vA (.int (K:Int)),vA (.str m),e3,vA (bB (w - k) h (Xm f L)),z5,some (.lst (acc++L.map (Bm h))),vA (.int (t+tot m h w f L)),z8,z9,pU]
 | 0,w,n,K,f,M,r,acc,t,e8,e9,e10,g,o,hw,hn,hK,hb=>by
  obtain⟨n,rfl⟩:∃j,n=j+1:=⟨n - 1,by omega⟩;have g:r=some []:=g;subst g;refine⟨vA (bB w h M),e8,e9,e10,?_⟩;rw[abH (by rw[U5,decide_eq_false (by omega)]),aef,acE,Xm,tot,Int.add_zero];rfl
 | k+1,w,n,K,f,M,r,acc,t,e8,e9,e10,g,o,hw,hn,hK,hb=>by
  obtain⟨n,rfl⟩:∃j,n=j+1:=⟨n - 1,by omega⟩;have et:∀e8 e9 e10,Uh (dB [e0,vA (.int (K:Int)),vA (.str m),e3,vA (bB w h f),vA (bB w h M),some (.lst acc),vA (.int t),e8,e9,e10])= .ok true:=λ_ _ _=>by rw[U5,decide_eq_true (by omega)]
  rcases g with⟨e,_,rfl⟩ |⟨s,r',q,e,g,rfl⟩
  ·exact abb (et _ _ _) (Ws hm o e)
  ·have ih:=Qu hm (e0:=e0) (e3:=e3) (n:=n) (K:=K) (acc:=acc++[Bm h (s,λy=>f y (s y))]) (t:=t+cost h (tbl m w h f) s) (e8:=vA (.tup [.int (cost h (tbl m w h f) s),sm h s])) (e9:=vA (.int (cost h (tbl m w h f) s))) (e10:=vA (sm h s)) g (o.less (by omega)) (by omega) (by omega) (by rw[z1d,ad1];omega) hb;cases r' with
   |none=>exact aaA (et _ _ _) (U4 hm o q e (by omega)) ih
   | some L=>
    obtain⟨z5,z8,z9,pU,e'⟩:=ih;refine⟨z5,z8,z9,pU,aaA (et _ _ _) (U4 hm o q e (by omega)) ?_⟩;rw[e',ado,Int.add_assoc,show w - (k+1)=w - 1 - k by omega];rfl
theorem Wt{r:Option (List Jk)}(hm:m= "worth"\/m= "joins")(o:Ok w h f)(hk:k<w)(g:Go m h k w f M r):Bd [bB w h f,.int (k:Int),.str m,bB w h M]= .ok (tkD m w h k f r):=by
 have ow:=o.w2;have e:=Qu hm (e0:=vA (bB w h f)) (e3:=vA (bB w h M)) (n:=64) (K:=k) (acc:=[]) (t:=0) (e8:=none) (e9:=none) (e10:=none) g o hk (by omega) (by rw[adP];omega) (by omega);cases r with
 |none=>exact fW (aF (qY rfl rfl) (aF (jw rfl) (aF (aQ rfl rfl) (gD e))))
 | some L=>
  obtain⟨z5,z8,z9,pU,e⟩:=e;rw[ad2,Int.zero_add] at e;exact fW (aF (qY rfl rfl) (aF (jw rfl) (aF (aQ rfl rfl) (aF e (aZ (cu (ao rfl (ao rfl (au rfl)))))))))
end
section
variable{ns:List Int}{w h k:Nat}{f M:Nat->Nat->Int}{T:Nat->Nat->Nat->Int}{m:Str}{s:Nat->Nat}{ρ:aB}
def Best(m:Str)(w h:Nat)(f:Nat->Nat->Int)(s:Nat->Nat):Prop:=mK w h (λ_ _=>0) s/\cA (topC w h (tbl m w h f) λ_ _=>0)=[wS (tbl m w h f) (λ_ _=>0) h s]
theorem YK(h1:1<=h)(hw:1<w):∃s,Best m w h f s:=by
 obtain⟨r,g⟩:=Xn (m:=m) h1 (k:=1) (w:=w) (f:=f) (M:=λ_ _=>0);obtain⟨L,rfl⟩:=Qt hw (λ_ _ _ _=>by decide) g;rcases g with⟨_,_,e⟩ |⟨s,r',q,e,_,_⟩
 ·cases e
 ·exact⟨s,q,e⟩
def sH(m:Str)(w h:Nat)(f:Nat->Nat->Int):Nat->Nat:=Classical.epsilon (Best m w h f)
theorem U6(h1:1<=h)(hw:1<w):Best m w h f (sH m w h f):=Classical.epsilon_spec (YK h1 hw)
def cst(m:Str)(w h:Nat)(f:Nat->Nat->Int):Int:=cost h (tbl m w h f) (sH m w h f)
def tr(f:Nat->Nat->Int):Nat->Nat->Int:=λy x=>f x y
theorem Ok.tr(o:Ok w h f):Ok h w (tr f):=⟨o.h1,o.h2,o.w1,o.w2,λy hy x hx=>o.c x hx y hy⟩
theorem m8(hm:m= "worth"\/m= "joins")(o:Ok w h f)(hw:1<w):lH [bB w h f,.str m]= .ok (.tup [.int (cst m w h f),bB (w - 1) h (less (sH m w h f) f)]):=by
 have b:=U6 (m:=m) (f:=f) o.h1 hw;have g:Go m h 1 w f (λ_ _=>0) (some [(sH m w h f,λy=>f y (sH m w h f y))]):= .inr ⟨_,some [],b.1,b.2,rfl,rfl⟩;have e:=Wt hm o hw g;have e:Bd [bB w h f,.int 1,.str m,bB w h λ_ _=>0]= .ok (.tup [bB (w - 1) h (less (sH m w h f) f),.lst ([(sH m w h f,λy=>f y (sH m w h f y))].map (Bm h)),.int (cst m w h f+0)]):=e;rw[Int.add_zero] at e;exact fW (aF (aQ (aR (ao rfl (ao rfl (ao rfl (au (aR (au rfl) (Nz o)))))) e) rfl) (aZ (cu (ao rfl (au rfl)))))
theorem zj(hm:m= "worth"\/m= "joins")(o:Ok w h f)(hh:1<h):wQ [bB w h f,.str m]= .ok (.tup [.int (cst m h w (tr f)),bB w (h - 1) (tr (less (sH m h w (tr f)) (tr f)))]):=
 fW (aF (aQ (aR (ao (aR (au rfl) (za o)) (au rfl)) (m8 hm o.tr hh)) rfl) (aZ (cu (ao rfl (au (aR (au rfl) (za (o.tr.less hh))))))))
theorem Fw(o:Ok w h f):lM [bB w h f]= .ok (bB h w (tr f)):=by
 refine bQ (aZ (aU (au (cj (c:=λ(x:Nat)=> .int (x:Int)) (h:=λx=>row h λy=>f y x) (l:=ab0 w) (jO (au (len0 o rfl)) (by have:=o.w2;omega)) (by rw[z2d];have:=o.w2;omega) λx hx=>?_)) rfl));refine cM rfl (aU (au (cj (c:=λy=>row w (f y)) (h:=λy=> .int (f y x)) (l:=ab0 h) (jq rfl) (by rw[z2d];have:=o.h2;omega) λy hy=>?_)) rfl);refine cM rfl (aq rfl rfl (iI (i:=x) ?_));rw[z2b,acv (z2e hx)];rfl
structure Pc where
 w:Nat
 h:Nat
 f:Nat->Nat->Int
def pD(P:Pc):D:=bB P.w P.h P.f
abbrev m9(P:Pc):Prop:=Ok P.w P.h P.f
def stp(m:Str):Bool->Pc->Int×Pc
 |true,P=>(cst m P.w P.h P.f,⟨P.w - 1,P.h,less (sH m P.w P.h P.f) P.f⟩)
 |false,P=>(cst m P.h P.w (tr P.f),⟨P.w,P.h - 1,tr (less (sH m P.h P.w (tr P.f)) (tr P.f))⟩)
def Fits(l:List Bool)(P:Pc):Prop:=l.count true<P.w/\l.count false<P.h
def run(m:Str):List Bool->Pc->Int×Pc
 |[],P=>(0,P)
 |b::l,P=>((stp m b P).1+(run m l (stp m b P).2).1,(run m l (stp m b P).2).2)
section
variable{P:Pc}{l:List Bool}{b:Bool}
theorem Fits.tail(z:Fits (b::l) P):Fits l (stp m b P).2:=by
 obtain⟨z1,z2⟩:=z;cases b <;> simp[adq] at z1 z2 <;> exact⟨by show _<_;simp only[stp];omega,by show _<_;simp only[stp];omega⟩
theorem m9.step(o:m9 P)(z:Fits (b::l) P):m9 (stp m b P).2:=by
 obtain⟨z1,z2⟩:=z;cases b
 ·exact ((Ok.tr o).less (by simp[adq] at z2;omega)).tr
 ·exact Ok.less o (by simp[adq] at z1;omega)
theorem Xp:(stp m b P).2.w<=P.w/\(stp m b P).2.h<=P.h:=by cases b <;> exact⟨by simp[stp],by simp[stp]⟩
def sgn(b:Bool):Str:=if b then "c" else "r"
def txt(l:List Bool):Str:=⟨(l.map λb=>if b then 99 else 114).toArray⟩
theorem U7:signs (txt l)=l.map λb=> .str (sgn b):=by
 unfold signs txt;simp only[acz];refine acS λb _=>?_;cases b <;> rfl
theorem U8:(txt l).cps.all (· < 128)=true:=by
 unfold txt;simp only[List.all_toArray,List.all_map];refine ags.mpr λb _=>?_;cases b <;> rfl
theorem Bo(e:u ρ= .ok (.str (txt l))):CN u ρ= .ok (l.map λb=> .str (sgn b)):=by
 rw[CN,e,R.bh];show (if (txt l).cps.all (· < 128)=true then R.ok (signs (txt l)) else .bad)=_;rw[if_pos U8,U7]
theorem abd(hm:m= "worth"\/m= "joins")(o:m9 P)(z:Fits (b::l) P):boB [e0,e1,vA (.str m),vA (pD P),vA (.str (sgn b)),e5]= .nx [e0,e1,vA (.str m),vA (pD (stp m b P).2),vA (.str (sgn b)),vA (.int (stp m b P).1)]:=by
 obtain⟨z1,z2⟩:=z;cases b
 ·exact aQ (oM (aN (aq rfl rfl rfl)) (aR (ao rfl (au rfl)) (zj hm o (by simp[adq] at z2;omega)))) rfl
 ·exact aQ (mJ (aN (aq rfl rfl rfl)) (aR (ao rfl (au rfl)) (m8 hm o (by simp[adq] at z1;omega)))) rfl
theorem Qv(hm:m= "worth"\/m= "joins"){e0 e1:Option Ent}:∀{l:List Bool} {P:Pc} {e4 e5:Option Ent},m9 P->Fits l P->∃z4 z5,forL (aK 4) boB (l.map λb=> .str (sgn b)) [e0,e1,vA (.str m),vA (pD P),e4,e5]= .nx [e0,e1,vA (.str m),vA (pD (run m l P).2),z4,z5]
 |[],P,e4,e5,_,_=>⟨e4,e5,rfl⟩
 | b::l,P,e4,e5,o,z=>by
  obtain⟨z4,z5,e⟩:=Qv hm (l:=l) (P:=(stp m b P).2) (e4:=vA (.str (sgn b))) (e5:=vA (.int (stp m b P).1)) (m9.step o z) z.tail;exact⟨z4,z5,fU rfl (abd hm o z) e⟩
theorem Qw(hm:m= "worth"\/m= "joins")(o:Ok w h f)(w1:1<w)(w4:w<=4)(h4:h<=4):pA [bB w h f,.str m,bB w h λ_ _=>0]= .ok (sm h (sH m w h f))/\ju [bB w h f,.str m,sm h (sH m w h f)]= .ok (.int (cst m w h f))/\qT [bB w h f,sm h (sH m w h f)]= .ok (bB (w - 1) h (less (sH m w h f) f)):=by
 have b:=U6 (m:=m) (f:=f) o.h1 w1;have el:=Wr (M:=λ_ _=>0) hm o w4 h4;rw[b.2,aaz] at el;exact⟨el,Cd hm o b.1.sm,U3 b.1.sm o.h2 o.w2⟩
theorem abe(hm:m= "worth"\/m= "joins")(o:m9 P)(w4:P.w<=4)(h4:P.h<=4)(z:Fits (b::l) P){t:Int}:∃z5 z6,lbB [vA (pD P),e1,vA (.str m),vA (.int t),vA (.str (sgn b)),e5,e6]= .nx [vA (pD (stp m b P).2),e1,vA (.str m),vA (.int (t+(stp m b P).1)),vA (.str (sgn b)),z5,z6]:=by
 obtain⟨z1,z2⟩:=z;cases b
 ·obtain⟨s1,s2,s3⟩:=Qw hm (Ok.tr o) (by simp[adq] at z2;omega) h4 w4;refine⟨_,_,aF (aQ (oM (aN (aq rfl rfl rfl)) (aR (au rfl) (Fw o))) rfl) (aF (aQ (aR (ao rfl (ao rfl (au (aR (au rfl) (free_eq (Ok.tr o)))))) s1) rfl) (aF (qY (aq rfl (aR (ao rfl (ao rfl (au rfl))) s2) rfl) (aR (ao rfl (au rfl)) s3)) (aQ (oM (aN (aq rfl rfl rfl)) (aR (au rfl) (Fw ((Ok.tr o).less (by simp[adq] at z2;omega))))) rfl)))⟩
 ·obtain⟨s1,s2,s3⟩:=Qw hm o (by simp[adq] at z1;omega) w4 h4;exact⟨_,_,aF (aQ (mJ (aN (aq rfl rfl rfl)) rfl) rfl) (aF (aQ (aR (ao rfl (ao rfl (au (aR (au rfl) (free_eq o))))) s1) rfl) (aF (qY (aq rfl (aR (ao rfl (ao rfl (au rfl))) s2) rfl) (aR (ao rfl (au rfl)) s3)) (aQ (mJ (aN (aq rfl rfl rfl)) rfl) rfl)))⟩
theorem Qx(hm:m= "worth"\/m= "joins"){e1:Option Ent}:∀{l:List Bool} {P:Pc} {t:Int} {e4 e5 e6:Option Ent},m9 P->P.w<=4->P.h<=4->Fits l P->∃z4 z5 z6,forL (aK 4) lbB (l.map λb=> .str (sgn b)) [vA (pD P),e1,vA (.str m),vA (.int t),e4,e5,e6]= .nx [vA (pD (run m l P).2),e1,vA (.str m),vA (.int (t+(run m l P).1)),z4,z5,z6]
 |[],P,t,e4,e5,e6,_,_,_,_=>⟨e4,e5,e6,by rw[run,Int.add_zero];rfl⟩
 | b::l,P,t,e4,e5,e6,o,w4,h4,z=>by
  obtain⟨y5,y6,e⟩:=abe hm o w4 h4 z (t:=t) (e1:=e1) (e5:=e5) (e6:=e6);obtain⟨z4,z5,z6,e'⟩:=Qx hm (e1:=e1) (l:=l) (P:=(stp m b P).2) (t:=t+(stp m b P).1) (e4:=vA (.str (sgn b))) (e5:=y5) (e6:=y6) (m9.step o z) (z0b Xp.1 w4) (z0b Xp.2 h4) z.tail;refine⟨z4,z5,z6,fU rfl e ?_⟩;rw[e',run,Int.add_assoc]
theorem zm(hm:m= "worth"\/m= "joins")(o:m9 P)(w4:P.w<=4)(h4:P.h<=4)(z:Fits l P):pO [pD P,.str (txt l),.str m]= .ok (.tup [.int (run m l P).1,pD (run m l P).2]):=by
 obtain⟨z4,z5,z6,e⟩:=Qx hm (e1:=vA (.str (txt l))) (t:=0) (e4:=none) (e5:=none) (e6:=none) o w4 h4 z;rw[Int.zero_add] at e;exact bQ (aF (aQ rfl rfl) (aF (jP (Bo rfl) e) (aZ (cu (ao rfl (au rfl))))))
theorem uJ(hm:m= "worth"\/m= "joins")(o:m9 P)(z:Fits l P)(q:jd [.str (txt l),pD P]= .ok (.bl true)):iz [pD P,.str (txt l),.str m]= .ok (pD (run m l P).2):=by
 obtain⟨z4,z5,e⟩:=Qv hm (e0:=vA (pD P)) (e1:=vA (.str (txt l))) (e4:=none) (e5:=none) o z;exact bQ (aF (iQ (aR (au rfl) (G6 o))) (aF (iQ (aR (au rfl) (iR hm))) (aF (bU (eY (b:=true) (aN (aR (ao rfl (au rfl)) q))) rfl) (aF (aQ rfl rfl) (aF (jP (Bo rfl) e) (aZ rfl))))))
end
end
section
variable{ns:List Int}{w h k:Nat}{f M:Nat->Nat->Int}{T:Nat->Nat->Nat->Int}{m:Str}{s:Nat->Nat}{ρ:aB}
def gq:Nat->Nat->Nat->List (List Bool)
 |0,_,_=>[]
 |n+1,d,a=>if d=0/\a=0 then[[]] else (if 0<a then (gq n d (a - 1)).map (true:: ·) else[])++(if 0<d then (gq n (d - 1) a).map (false:: ·) else[])
theorem oR:∀{n d a:Nat} {l:List Bool},l∈gq n d a->l.count true=a/\l.count false=d
 |0,_,_,_,h=>by simp[gq] at h
 | n+1,d,a,l,h=>by
  rw[gq] at h;split at h
  ·rename_i z;obtain⟨rfl,rfl⟩:=z;cases acV.mp h;exact⟨rfl,rfl⟩
  ·rcases ac9.mp h with h |h
   ·split at h
    ·obtain⟨l',h',rfl⟩:=acA.mp h;have:=oR h';simp[adq,this];omega
    ·simp at h
   ·split at h
    ·obtain⟨l',h',rfl⟩:=acA.mp h;have:=oR h';simp[adq,this];omega
    ·simp at h
section
variable{P:Pc}{l:List Bool}{b:Bool}
theorem Wu:txt (b::l)=⟨#[if b then 99 else 114]++(txt l).cps⟩:=by
 unfold txt;simp
theorem Jl:nats (txt (b::l))=(if b then 99 else 114)::nats (txt l):=by
 unfold nats txt;cases b <;> simp
theorem YL{l:List Bool}(e:nats (txt l)=nats (txt l')):l=l':=by
 unfold nats txt at e;simp only[acz] at e;refine (List.map_inj_right (f:=aes ∘ λb=>if b=true then 99 else 114) λx y h=>?_).mp e;cases x <;> cases y <;> first |rfl |(exact absurd h (by decide))
def key(m:Str)(P:Pc)(l:List Bool):List Int:=(run m l P).1::nats (txt l)
theorem Qy{l:List Bool}(e:key m P l=key m P l'):l=l':=YL (afm e).2
theorem Fx:kJ (key m P l)= .tup [.int (run m l P).1,.str (txt l)]:=Qe _ _
theorem Wv{l:List Bool}:bO (key m P (b::l)) (key m P (b::l'))=bO (key m (stp m b P).2 l) (key m (stp m b P).2 l'):=by
 unfold key;rw[Jl,Jl,bO,bO,bO,if_pos rfl];show (if (stp m b P).1+(run m l (stp m b P).2).1=(stp m b P).1+(run m l' (stp m b P).2).1 then _ else decide ((stp m b P).1+(run m l (stp m b P).2).1<(stp m b P).1+(run m l' (stp m b P).2).1))=_;by_cases e:(run m l (stp m b P).2).1=(run m l' (stp m b P).2).1
 ·rw[if_pos (by rw[e]),if_pos e]
 ·rw[if_neg (by omega),if_neg e];exact decide_eq_decide.mpr (by omega)
def Lst(m:Str)(P:Pc)(L:List (List Bool))(l:List Bool):Prop:=l∈L/\∀l'∈L,l'≠l->bO (key m P l) (key m P l')=true
theorem Lst.cons(q:Lst m (stp m b P).2 L l):Lst m P (L.map (b:: ·)) (b::l):=by
 refine⟨acA.mpr ⟨l,q.1,rfl⟩,λl' h' hn=>?_⟩;obtain⟨k,hk,rfl⟩:=acA.mp h';rw[Wv];exact q.2 k hk λe=>hn (by rw[e])
theorem Lst.two{L':List (List Bool)}(q:Lst m P L l)(q':Lst m P L' l')(hn:l≠l'):jE [key m P l,key m P l']=key m P (if bO (key m P l') (key m P l) then l' else l)/\Lst m P (L++L') (if bO (key m P l') (key m P l) then l' else l):=by
 by_cases c:bO (key m P l') (key m P l)=true
 ·rw[if_pos c];refine⟨by show (if bO (key m P l') (key m P l)=true then _ else _)=_;rw[if_pos c],ac9.mpr (.inr q'.1),λk hk kn=>?_⟩;rcases ac9.mp hk with h |h
  ·by_cases e:k=l
   ·rw[e];exact c
   ·exact gC c (q.2 k h e)
  ·exact q'.2 k h kn
 ·rw[if_neg c];refine⟨by show (if bO (key m P l') (key m P l)=true then _ else _)=_;rw[if_neg c],ac9.mpr (.inl q.1),λk hk kn=>?_⟩;have c':bO (key m P l) (key m P l')=true:=qZ (λe=>hn (Qy e).symm) (by simpa using c);rcases ac9.mp hk with h |h
  ·exact q.2 k h kn
  ·by_cases e:k=l'
   ·rw[e];exact c'
   ·exact gC c' (q'.2 k h e)
theorem Bp(h:l.length<999):rW (.str (sgn b)) (.str (txt l))= .ok (.str (txt (b::l))):=by
 have e:(sgn b).length+(txt l).length<=1000:=by
  have h1:(sgn b).length=1:=by cases b <;> rfl
  have h2:(txt l).length=l.length:=by show (txt l).cps.size=_;unfold txt;simp
  omega
 show (if (sgn b).length+(txt l).length<=1000 then R.ok (D.str (sgn b++txt l)) else .bad)=_;rw[if_pos e,Wu];cases b <;> rfl
theorem Hl:l.length=l.count true+l.count false:=by
 induction l with
 |nil=>rfl
 |cons b l ih=>cases b <;> simp[adq,ih] <;> omega
theorem mn1{t:List Int}{d:D}(e:CQ d=some t)(e2:kJ t=d):EY [.lst [d]]= .ok d:=by
 show (match iw [d] with |some ts=>if 0<ts.length then R.ok (kJ (jE ts)) else .bad |none=> .bad)=_;rw[iw,e,iw];show R.ok (kJ t)=_;rw[e2]
theorem mn2{k1 k2:List Int}{d1 d2:D}(e1:CQ d1=some k1)(e2:CQ d2=some k2):EY [.lst [d1,d2]]= .ok (kJ (jE [k1,k2])):=by
 show (match iw [d1,d2] with |some ts=>if 0<ts.length then R.ok (kJ (jE ts)) else .bad |none=> .bad)=_;rw[iw,e1,iw,e2,iw];rfl
def jX(m:Str)(P:Pc)(l:List Bool):D:= .tup [.int (run m l P).1,.str (txt l)]
theorem zp:CQ (jX m P l)=some (key m P l):=rfl
theorem Fy(h:0<a):cT (.int (a:Int)) (.int 1)= .ok (.int ((a - 1:Nat):Int)):=by
 show R.ok (D.int ((a:Int) - 1))=_;rw[show (a:Int) - 1=((a - 1:Nat):Int) by omega]
theorem gt0(h:0<a):qQ (.int (a:Int)) (.int 0)= .ok (.bl true):=by rw[o7,decide_eq_true (by omega)]
theorem sI(hm:m= "worth"\/m= "joins"):∀{n d a:Nat} {P:Pc},d+a<n->d+a<=40->m9 P->a<P.w->d<P.h->∃l,Lst m P (gq n d a) l/\dG n [pD P,.int (d:Int),.int (a:Int),.str m]= .ok (jX m P l)
 |0,_,_,_,h,_,_,_,_=>absurd h (Nat.not_lt_zero _)
 | n+1,d,a,P,h,h40,o,ha,hd=>by
  rw[gq];by_cases z:d=0/\a=0
  ·rw[if_pos z];obtain⟨rfl,rfl⟩:=z;refine⟨[],⟨acV.mpr rfl,λl' h' hn=>absurd (acV.mp h') hn⟩,?_⟩;rw[dG];exact fW (gD (cP (jr (aN (aq rfl rfl rfl)) (aN (aq rfl rfl rfl))) (aZ (cu (ao rfl (au rfl))))))
  ·rw[if_neg z];have t1:∀{e4 e5 e6 e7 e8:Option Ent},(jG (bR (bin (gv 1) (ci 0) iM)) (bR (bin (gv 2) (ci 0) iM))) [vA (pD P),vA (.int (d:Int)),vA (.int (a:Int)),vA (.str m),e4,e5,e6,e7,e8]= .ok false:=by
    intro e4 e5 e6 e7 e8;by_cases d0:d=0
    ·subst d0;exact jr (aN (aq rfl rfl rfl)) (aN (aq rfl rfl (by rw[m7,decide_eq_false (by omega)])))
    ·exact vM (aN (aq rfl rfl (by rw[m7,decide_eq_false (by omega)])))
   have col:0<a->∃l,Lst m P ((gq n d (a - 1)).map (true:: ·)) (true::l)/\l.length<999/\dG n [pD (stp m true P).2,.int (d:Int),.int ((a - 1:Nat):Int),.str m]= .ok (jX m (stp m true P).2 l):=λa0=>by
    obtain⟨l,q,e⟩:=sI hm (n:=n) (d:=d) (a:=a - 1) (P:=(stp m true P).2) (by omega) (by omega) (Ok.less o (by omega)) (by show _<P.w - 1;omega) hd;have c:=oR q.1;have c2:=Hl (l:=l);exact⟨l,q.cons,by omega,e⟩
   have rw':0<d->∃l,Lst m P ((gq n (d - 1) a).map (false:: ·)) (false::l)/\l.length<999/\dG n [pD (stp m false P).2,.int ((d - 1:Nat):Int),.int (a:Int),.str m]= .ok (jX m (stp m false P).2 l):=λd0=>by
    obtain⟨l,q,e⟩:=sI hm (n:=n) (d:=d - 1) (a:=a) (P:=(stp m false P).2) (by omega) (by omega) ((Ok.tr o).less (by omega)).tr ha (by show _<P.h - 1;omega);have c:=oR q.1;have c2:=Hl (l:=l);exact⟨l,q.cons,by omega,e⟩
   by_cases a0:0<a
   ·obtain⟨l1,q1,n1,e1⟩:=col a0;by_cases d0:0<d
    ·obtain⟨l2,q2,n2,e2⟩:=rw' d0;obtain⟨b1,b2⟩:=Lst.two q1 q2 (λe=>absurd (afm e).1 (by decide));rw[if_pos a0,if_pos d0]
     clear col rw'
     refine⟨_,b2,?_⟩;rw[dG];refine fW (aF (bU t1 rfl) (aF (jw rfl) (aF (cP (aN (aq rfl rfl (gt0 a0))) (aF (aQ (aR (ao rfl (au rfl)) (m8 hm o (by omega))) rfl) (aF (aQ (aR (ao rfl (ao rfl (ao (aq rfl rfl (Fy a0)) (au rfl)))) e1) rfl) (sy (ds:=[]) (d:=jX m P (true::l1)) (cu (ao (aq rfl rfl rfl) (au (aq rfl rfl (Bp (b:=true) n1))))) rfl (by decide))))) (aF (cP (aN (aq rfl rfl (gt0 d0))) (aF (aQ (aR (ao rfl (au rfl)) (zj hm o (by omega))) rfl) (aF (aQ (aR (ao rfl (ao (aq rfl rfl (Fy d0)) (ao rfl (au rfl)))) e2) rfl) (sy (ds:=[jX m P (true::l1)]) (d:=jX m P (false::l2)) (cu (ao (aq rfl rfl rfl) (au (aq rfl rfl (Bp (b:=false) n2))))) rfl (by show 1<1000000;decide))))) (aZ (aU (au rfl) ?_))))));exact (mn2 zp zp).trans (by rw[b1,Fx];rfl)
    ·rw[if_pos a0,if_neg d0,acE]
     clear col rw'
     refine⟨_,q1,?_⟩;rw[dG];refine fW (aF (bU t1 rfl) (aF (jw rfl) (aF (cP (aN (aq rfl rfl (gt0 a0))) (aF (aQ (aR (ao rfl (au rfl)) (m8 hm o (by omega))) rfl) (aF (aQ (aR (ao rfl (ao rfl (ao (aq rfl rfl (Fy a0)) (au rfl)))) e1) rfl) (sy (ds:=[]) (d:=jX m P (true::l1)) (cu (ao (aq rfl rfl rfl) (au (aq rfl rfl (Bp (b:=true) n1))))) rfl (by decide))))) (aF (bU (aN (aq rfl rfl (by rw[o7,decide_eq_false (by omega)]))) rfl) (aZ (aU (au rfl) (mn1 zp Fx)))))))
   ·have d0:0<d:=by clear col rw';omega
    obtain⟨l2,q2,n2,e2⟩:=rw' d0
    clear col rw'
    rw[if_neg a0,if_pos d0,ad2];refine⟨_,q2,?_⟩;rw[dG];refine fW (aF (bU t1 rfl) (aF (jw rfl) (aF (bU (aN (aq rfl rfl (by rw[o7,decide_eq_false (by omega)]))) rfl) (aF (cP (aN (aq rfl rfl (gt0 d0))) (aF (aQ (aR (ao rfl (au rfl)) (zj hm o (by omega))) rfl) (aF (aQ (aR (ao rfl (ao (aq rfl rfl (Fy d0)) (ao rfl (au rfl)))) e2) rfl) (sy (ds:=[]) (d:=jX m P (false::l2)) (cu (ao (aq rfl rfl rfl) (au (aq rfl rfl (Bp (b:=false) n2))))) rfl (by decide))))) (aZ (aU (au rfl) (mn1 zp Fx)))))))
theorem U9{d:Nat}(hd:d<=2)(ha:a<=1):qg [.int (d:Int),.int (a:Int)]= .ok (.lst ((gq 4 d a).map λl=> .str (txt l))):=by
 have h1:d=0\/d=1\/d=2:=by omega
 have h2:a=0\/a=1:=by omega
 rcases h1 with rfl |rfl |rfl <;> rcases h2 with rfl |rfl <;> rfl
theorem Cg{d:Nat}(o:m9 P)(hl:l∈gq 4 d a)(hd:d<=2)(ha:a<=1)(h1:a<P.w)(h2:d<P.h):jd [.str (txt l),pD P]= .ok (.bl true):=by
 have key:(∃i j:Nat,i<P.w/\j<P.h/\(aei (txt l) "c" 0 (txt l).length ((txt l).length+1)).length=i/\(aei (txt l) "r" 0 (txt l).length ((txt l).length+1)).length=j):=by
  have z1:d=0\/d=1\/d=2:=by omega
  have z2:a=0\/a=1:=by omega
  refine⟨a,d,h1,h2,?_⟩;rcases z1 with rfl |rfl |rfl <;> rcases z2 with rfl |rfl <;> simp[gq] at hl
  ·subst hl;exact⟨by kernel_rfl,by kernel_rfl⟩
  ·subst hl;exact⟨by kernel_rfl,by kernel_rfl⟩
  ·subst hl;exact⟨by kernel_rfl,by kernel_rfl⟩
  ·rcases hl with rfl |rfl <;> exact⟨by kernel_rfl,by kernel_rfl⟩
  ·subst hl;exact⟨by kernel_rfl,by kernel_rfl⟩
  ·rcases hl with rfl |rfl |rfl <;> exact⟨by kernel_rfl,by kernel_rfl⟩
 obtain⟨i,j,hi,hj,e1,e2⟩:=key;have len:l.length<=1000000:=by have c:=oR hl;have c2:=Hl (l:=l);omega
 refine bQ (aF (bU (rM (eY (b:=true) (aN rfl)) (eY (b:=true) (aN (aU (au (cj (c:=λb=> .str (sgn b)) (h:=λ_=> .bl true) (l:=l) (Bo rfl) len λb _=>cM rfl (aq rfl (cu (ao rfl (au rfl))) (by cases b <;> rfl)))) vN)))) rfl) (aZ (yx (aq (x:= .int (i:Int)) (congrArg (λn:Nat=>R.ok (D.int (n:Int))) e1) (len0 o rfl) ?_) (aq (x:= .int (j:Int)) (congrArg (λn:Nat=>R.ok (D.int (n:Int))) e2) (aU (au rfl) mH) ?_))))
 ·show R.ok (D.bl (decide ((i:Int)<(P.w:Int))))=_;rw[decide_eq_true (by omega)]
 ·show R.ok (D.bl (decide ((j:Int)<(P.h:Int))))=_;rw[decide_eq_true (by omega)]
end
end
section
variable{ns:List Int}{w h k:Nat}{f M:Nat->Nat->Int}{T:Nat->Nat->Nat->Int}{m:Str}{s:Nat->Nat}{ρ:aB}
theorem sJ{F:List D->R D}{n:Nat}(e1:fa ρ= .ok ds)(e3:F ds=r)(hl:ds.length=n:=by rfl):gM F n 0 [] fa nA ρ=r:=
 iW (ds:=ds) (zs:=[]) e1 rfl (by show F (ds++[])=r;rw[acE];exact e3) (by show (ds++[]).length=n;rw[acE];exact hl)
theorem qm{i n:Nat}(h2:i<=n):jU [.int (i:Int),.int 0,.int (n:Int)]= .ok .non:=
 JW (bU (rM (eY (b:=true) (aN (aR (au rfl) uH))) (eY (b:=true) (aN (Eb rfl rfl (uc (by omega)) rfl (uc (by omega)))))) rfl)
theorem YM{f g h:aB->R D}{k l:D->D->R D}{x y:D}(e1:f ρ= .ok x)(e2:g ρ= .ok y)(e3:k x y= .ok (.bl false)):Bt f g h k l ρ= .ok (.bl false):=by
 rw[Bt,e1,R.bh,e2,R.bh,e3,R.bh]
theorem Xq(h:j<i):yg (.int i) (.int j)= .ok (.bl false):=by rw[aae,decide_eq_false (by omega)]
def Df(w:Nat)(d:D):Prop:=mY [d]= .ok (.bl false)\/∃i:Int,d= .int i/\(i<0\/(w:Int)<i)
theorem Jm{d:D}(hw:w<=20)(z:Df w d):jU [d,.int 0,.int (w:Int)]= .err "NoWidth" :=by
 rcases z with z |⟨i,rfl,z⟩
 ·exact yF (cP (YJ (eY (b:=false) (aN (aR (au rfl) z)))) (Xe (Xd rfl rfl (by decide) (by omega))))
 ·refine yF (cP (rM (eY (b:=true) (aN (aR (au rfl) uH))) (eY (b:=false) (aN ?_))) (Xe (Xd rfl rfl (by decide) (by omega))));by_cases c:i<0
  ·exact YM rfl rfl (Xq c)
  ·exact Eb rfl rfl (uc (by omega)) rfl (Xq (by omega))
theorem Mt{k:Nat}(hk:k<=4):minD [.int 4,.int (k:Int)]= .ok (.int (k:Int)):=by
 show R.ok (D.int (if (k:Int)<4 then (k:Int) else 4))=_;by_cases c:(k:Int)<4
 ·rw[if_pos c]
 ·rw[if_neg c,show (k:Int)=4 by omega]
section
variable{P:Pc}{l:List Bool}{x y:D}
theorem xW{d:Nat}(hm:m= "worth"\/m= "joins")(o:m9 P)(w4:P.w<=4)(h4:P.h<=4)(ha:a<P.w)(hd:d<P.h)(hs:d+a<4):∃l,Lst m P (gq 4 d a) l/\fV [pD P,.int (d:Int),.int (a:Int),.str m]= .ok (jX m P l):=by
 obtain⟨l,q,e⟩:=sI hm (n:=4) hs (by omega) o ha hd;exact⟨l,q,bQ (aF (aQ (aR (au rfl) (size_eq o)) rfl) (aF (iQ (aR (au rfl) (iR hm))) (aF (iQ (sJ (ao rfl (ao rfl (au (aU (ao rfl (au (aq rfl rfl (Fy o.h1)))) (Mt (by omega)))))) (qm (by omega)))) (aF (iQ (sJ (ao rfl (ao rfl (au (aU (ao rfl (au (aq rfl rfl (Fy o.w1)))) (Mt (by omega)))))) (qm (by omega)))) (aZ (aR (ao rfl (ao rfl (ao rfl (au rfl)))) e))))))⟩
theorem Jo(o:m9 P)(h4:P.h<=4)(z:Df (P.h - 1) x):fV [pD P,x,y,.str "worth"]= .err "NoWidth" :=
 yF (aF (aQ (aR (au rfl) (size_eq o)) rfl) (aF (iQ (aR (au rfl) (iR (.inl rfl)))) (KR (Az (sJ (ao rfl (ao rfl (au (aU (ao rfl (au (aq rfl rfl (Fy o.h1)))) (Mt (by omega)))))) (Jm (by omega) z))))))
theorem Jp(o:m9 P)(w4:P.w<=4)(h4:P.h<=4)(z:Df (P.w - 1) y):fV [pD P,.int 0,y,.str "worth"]= .err "NoWidth" :=
 yF (aF (aQ (aR (au rfl) (size_eq o)) rfl) (aF (iQ (aR (au rfl) (iR (.inl rfl)))) (aF (iQ (sJ (ao rfl (ao rfl (au (aU (ao rfl (au (aq rfl rfl (Fy o.h1)))) (Mt (by omega)))))) (qm (i:=0) (adX _)))) (KR (Az (sJ (ao rfl (ao rfl (au (aU (ao rfl (au (aq rfl rfl (Fy o.w1)))) (Mt (by omega)))))) (Jm (by omega) z)))))))
theorem aaB(o:m9 P)(z:jd [x,pD P]= .ok (.bl false)):iz [pD P,x,.str "worth"]= .err "NoDeeds" :=
 yF (aF (iQ (aR (au rfl) (G6 o))) (aF (iQ (aR (au rfl) (iR (.inl rfl)))) (KR (cP (eY (b:=false) (aN (aR (ao rfl (au rfl)) z))) rfl))))
theorem abI(e:iz [pD P,x,.str "worth"]= .err "NoDeeds"):iV [.int 0,pD P,x,.non]= .ok (.lst [.bl true,.bl false]):=by
 refine fW (gD (Tp (c:= "NoDeeds") (ρ1:=[vA (.int 0),vA (pD P),vA x,vA .non,none]) ?_ (by decide) ?_))
 ·exact cP (aN (aq rfl rfl rfl)) (Az (iW (ds:=[pD P,x]) (zs:=[]) (ao rfl (au rfl)) rfl e))
 ·exact aZ (dX (ao (wI (c:= "NoDeeds") rfl (by decide)) (au (wI (c:= "NoDeeds") rfl (by decide)))))
theorem Rp(e:fV [pD P,x,y,.str "worth"]= .err "NoWidth"):iV [.int 1,pD P,x,y]= .ok (.lst [.bl false,.bl true]):=by
 refine fW (gD (Tp (c:= "NoWidth") (ρ1:=[vA (.int 1),vA (pD P),vA x,vA y,none]) ?_ (by decide) ?_))
 ·exact bU (aN (aq rfl rfl rfl)) (Az (iW (ds:=[pD P,x,y]) (zs:=[]) (ao rfl (ao rfl (au rfl))) rfl e))
 ·exact aZ (dX (ao (wI (c:= "NoWidth") rfl (by decide)) (au (wI (c:= "NoWidth") rfl (by decide)))))
theorem Ww{f g:aB->R D}(e:f ρ= .ok (.bl false)):uw f g ρ= .ok (.bl false):=by rw[uw,e];rfl
def mt(k:Nat)(b:Bool):Str:=txt (ab3 k b)
theorem aaC(o:m9 P)(hw:P.w=2\/P.w=3)(hh:P.h=2\/P.h=3):∀d∈[D.non,.str "x",.str "C",.int 7,.lst [.str "c"],.str (mt P.w true),.str (mt P.h false),.str "cr "],jd [d,pD P]= .ok (.bl false):=by
 have all:∀k:Nat,k<=3->∀b:Bool,(vG (lR (bR (Ao vL (gv 0)))) (lR (bR (aD wD (ak (bL 1 [] (CN (gv 0)) (aK 0) tT (bin (gv 0) (cU (ak (λ_=> .ok (.str "c")) (ak (λ_=> .ok (.str "r")) nA))) (Ei false))) nA))))) [vA (.str (mt k b)),vA (pD P)]= .ok false:=λk hk b=>
  rM (eY (b:=true) (aN rfl)) (eY (b:=true) (aN (aU (au (cj (c:=λb=> .str (sgn b)) (h:=λ_=> .bl true) (l:=ab3 k b) (Bo rfl) (by rw[acN];omega) λb _=>cM rfl (aq rfl (cu (ao rfl (au rfl))) (by cases b <;> rfl)))) vN)))
 intro d hd;simp only[ach,adi,or_false] at hd;rcases hd with rfl |rfl |rfl |rfl |rfl |rfl |rfl |rfl
 ·rfl
 ·exact bQ (gD (cP (by kernel_rfl) (aZ rfl)))
 ·exact bQ (gD (cP (by kernel_rfl) (aZ rfl)))
 ·rfl
 ·rfl
 ·refine bQ (aF (bU (all _ (by omega) true) rfl) (aZ (Ww (aq (x:= .int (P.w:Int)) ?_ (len0 o rfl) ?_))))
  ·rcases hw with e |e <;> rw[e] <;> kernel_rfl
  ·show R.ok (D.bl (decide ((P.w:Int)<(P.w:Int))))=_;rw[decide_eq_false (by omega)]
 ·refine bQ (aF (bU (all _ (by omega) false) rfl) (aZ (yx (aq (x:= .int 0) ?_ (len0 o rfl) ?_) (aq (x:= .int (P.h:Int)) ?_ (aU (au rfl) mH) ?_))))
  ·rcases hh with e |e <;> rw[e] <;> kernel_rfl
  ·show R.ok (D.bl (decide ((0:Int)<(P.w:Int))))=_;rw[decide_eq_true (by omega)]
  ·rcases hh with e |e <;> rw[e] <;> kernel_rfl
  ·show R.ok (D.bl (decide ((P.h:Int)<(P.h:Int))))=_;rw[decide_eq_false (by omega)]
 ·exact bQ (gD (cP (by kernel_rfl) (aZ rfl)))
theorem Va{b:Bool}{k:Nat}(hk:k=2\/k=3):CV (.str (sgn b)) (.int (k:Int))= .ok (.str (mt k b)):=by
 rcases hk with rfl |rfl <;> cases b <;> rfl
theorem Mu:∀{L:List (List Bool)},iw (L.map (jX m P))=some (L.map (key m P))
 |[]=>rfl
 |l::L=>by rw[z1h,z1h,iw,zp,Mu]
theorem Rq{d:Nat}(hd:d<=2)(ha:a<=1):(gq 4 d a).Nodup/\(gq 4 d a).length<64:=by
 have h1:d=0\/d=1\/d=2:=by omega
 have h2:a=0\/a=1:=by omega
 rcases h1 with rfl |rfl |rfl <;> rcases h2 with rfl |rfl <;> decide
theorem sort_keys(hn:L.Nodup)(hl:L.length<64):Ez [.lst (L.map (jX m P))]= .ok (.lst ((dZ (L.map (key m P))).map kJ))/\(L.map (key m P)).Nodup:=by
 have nd:(L.map (key m P)).Nodup:=List.Pairwise.map (key m P) (λa b hab e=>hab (Qy e)) hn;refine⟨?_,nd⟩;show (match iw (L.map (jX m P)) with |some ts=>if ts.length<64/\ts.Nodup then R.ok (D.lst ((dZ ts).map kJ)) else .bad |none=> .bad)=_;rw[Mu];show (if (L.map (key m P)).length<64/\(L.map (key m P)).Nodup then R.ok (D.lst ((dZ (L.map (key m P))).map kJ)) else .bad)=_;rw[if_pos ⟨by rw[z1g];exact hl,nd⟩]
theorem aaD{j:Nat}(hj:j<L.length):∃l∈L,((dZ (L.map (key m P))).map kJ)[j]?=some (jX m P l):=by
 have hp:=eG (L.map (key m P));have hl:j<(dZ (L.map (key m P))).length:=by rw[hp.length_eq,z1g];exact hj
 obtain⟨l,h1,h2⟩:=acA.mp (hp.mem_iff.mp (List.getElem_mem hl));refine⟨l,h1,?_⟩;rw[z2b,ac0 hl,<-h2];show some (kJ (key m P l))=_;rw[Fx];rfl
theorem abf(q:Lst m P L l)(nd:(L.map (key m P)).Nodup):((dZ (L.map (key m P))).map kJ)[0]?=some (jX m P l):=by
 have hp:=eG (L.map (key m P));have hr:=tY nd;cases e:dZ (L.map (key m P)) with
 | nil=>
  rw[e] at hp;have:=hp.mem_iff.mpr (acA.mpr ⟨l,q.1,rfl⟩);simp at this
 | cons k r=>
  rw[e] at hp hr;obtain⟨l',h1,h2⟩:=acA.mp (hp.mem_iff.mp (acq (a:=k) (l:=r)));have:l'=l:=by
   by_cases c:l'=l
   ·exact c
   ·exfalso;have h3:=q.2 l' h1 c;rw[h2] at h3;rcases ach.mp (hp.mem_iff.mpr (acA.mpr ⟨l,q.1,rfl⟩)) with h4 |h4
    ·rw[h4,ig] at h3;cases h3
    ·have:=gC h3 ((adN.mp hr).1 _ h4);rw[ig] at this;cases this
  rw[z1h,List.getElem?_cons_zero,<-h2,this,Fx];rfl
theorem Qz:dep (jX m P l)<=40:=adM rfl
end
end
section
variable{ns:List Int}{w h k:Nat}{f M:Nat->Nat->Int}{T:Nat->Nat->Nat->Int}{m:Str}{s:Nat->Nat}{ρ:aB}
theorem Wx(ns:List Int)(hns:ns.length<=63):Fl [.lst (ns.map .int)]= .ok (.bl true):=by
 have hn:ns.length<=1000000:=by omega
 obtain⟨a1,a2,a3⟩:=o8 (k:=0) (m:=2) hn (by omega) (by omega);obtain⟨b1,b2,b3⟩:=o8 (k:=1) (m:=2) hn (by omega) (by omega);obtain⟨w,hw⟩:=acF (show 0<=2+dr ns 0 2 by omega);obtain⟨h,hh⟩:=acF (show 0<=2+dr ns 1 2 by omega);have w23:w=2\/w=3:=by omega
 have h23:h=2\/h=3:=by omega
 obtain⟨f,e1,o⟩:=Ri (ns:=ns) (a:=2) (w:=w) (h:=h) hn (by decide) (by omega) (by omega) (by omega) (by omega);obtain⟨m,hm,e3⟩:=U0 (ns:=ns) (i:=40) (by decide) hn;have hw0:("worth" :Str)= "worth"\/("worth" :Str)= "joins" := .inl rfl;obtain⟨c1,c2,c3⟩:=o8 (k:=41) (m:=(h:Int)) hn (by omega) (by omega);obtain⟨d1,d2,d3⟩:=o8 (k:=42) (m:=2) hn (by omega) (by omega);obtain⟨d,hd⟩:=acF c2;obtain⟨a,ha⟩:=acF d2;rw[hd] at c1 c3;rw[ha] at d1 d3;have dh:d<h:=by omega
 have d2':d<=2:=by omega
 have a1':a<=1:=by omega
 have aw:a<w:=by omega
 obtain⟨P,hP⟩:∃P:Pc,P=⟨w,h,f⟩:=⟨_,rfl⟩;have oP:m9 P:=by rw[hP];exact o
 have Pw:P.w=w:=by rw[hP]
 have Ph:P.h=h:=by rw[hP]
 have e1:kI [.lst (ns.map .int),.int 2,.int (w:Int),.int (h:Int)]= .ok (pD P):=by rw[hP];exact e1
 have w4:P.w<=4:=by omega
 have h4:P.h<=4:=by omega
 have em:minD [.int 3,.int (h:Int)]= .ok (.int (h:Int)):=by rcases h23 with rfl |rfl <;> rfl
 have fit:∀l∈gq 4 d a,Fits l P:=λl hl=>by
  obtain⟨z1,z2⟩:=oR hl;exact⟨by omega,by omega⟩
 obtain⟨nd,l64⟩:=Rq d2' a1';obtain⟨es,kn⟩:=sort_keys (m:=m) (P:=P) nd l64;obtain⟨l0,q0,eb⟩:=xW (d:=d) (a:=a) hm oP w4 h4 (by omega) (by omega) (by omega);have er0:=abf q0 kn;have hpos:0<(gq 4 d a).length:=List.length_pos_of_mem q0.1;have jF:((dZ ((gq 4 d a).map (key m P))).map kJ).length=(gq 4 d a).length:=by rw[z1g,(eG _).length_eq,z1g]
 obtain⟨f1,f2,f3⟩:=o8 (k:=43) (m:=((gq 4 d a).length:Int)) hn (by omega) (by omega);obtain⟨j,hj⟩:=acF f2;rw[hj] at f1 f3;obtain⟨l1,m1,er1⟩:=aaD (m:=m) (P:=P) (L:=gq 4 d a) (j:=j) (by omega);have io:=Cg oP m1 d2' a1' (by omega) (by omega);have abJ:jd [.str (txt []),pD P]= .ok (.bl true):=Cg (d:=0) (a:=0) oP (by decide) (by omega) (by omega) (by omega) (by omega);have abK:Fits [] P:=⟨by show 0<P.w;omega,by show 0<P.h;omega⟩
 generalize hR:(dZ ((gq 4 d a).map (key m P))).map kJ=Rw at *
 refine fW (aF (aQ (aR (ao rfl (ao rfl (ao (aq rfl (aR (ao rfl (ao rfl (au rfl))) a1) (congrArg (λz=>R.ok (D.int z)) hw)) (au (aq rfl (aR (ao rfl (ao rfl (au rfl))) b1) (congrArg (λz=>R.ok (D.int z)) hh)))))) e1) rfl) ?_);refine aF (aQ (cu (ao (len0 oP rfl) (ao (aU (au rfl) mH) (au (aR (ao rfl (au rfl)) e3))))) rfl) ?_;rw[Pw,Ph];refine aF (qY (aR (ao rfl (ao rfl (au (aU (ao rfl (au rfl)) em)))) c1) (aR (ao rfl (ao rfl (au rfl))) d1)) ?_;refine aF (aQ (aU (au (cj (c:=λl=> .str (txt l)) (h:=λl=>jX m P l) (l:=gq 4 d a) (j9 (aR (ao rfl (au rfl)) (U9 d2' a1'))) (by omega) λl hl=>cM rfl (cu (ao (aq (aR (ao rfl (ao rfl (au rfl))) (zm hm oP w4 h4 (fit l hl))) rfl (iI (i:=0) rfl)) (au rfl))))) es) rfl) ?_;refine aF (bU (aN (aq (iW (ao rfl (ao rfl (au rfl))) (au rfl) eb) (aq rfl rfl (Ec (i:=0) er0)) (Pu.oE rfl Qz))) rfl) ?_;refine aF (aQ (aq (aq rfl (aR (ao rfl (ao rfl (au (aU (au rfl) (congrArg (λn:Nat=>R.ok (D.int (n:Int))) jF))))) f1) (Ec er1)) rfl (iI (i:=1) rfl)) rfl) ?_;refine aF (bU (aN (aq (iW (ao rfl (au rfl)) (au rfl) (uJ hm oP (fit l1 m1) io)) (aq (aR (ao rfl (ao rfl (au rfl))) (zm hm oP w4 h4 (fit l1 m1))) rfl (iI (i:=1) rfl)) (Pu.oE rfl G7))) rfl) ?_;refine aF (bU (aN (aq (iW (ds:=[pD P,.str (txt [])]) (zs:=[]) (ao rfl (au rfl)) rfl (uJ hw0 oP abK abJ)) rfl (Pu.oE rfl G7))) rfl) ?_;have bad:=aaC oP (by rw[Pw];exact w23) (by rw[Ph];exact h23);rw[Pw,Ph] at bad;refine aF (aQ (dX (ao rfl (ao rfl (ao rfl (ao rfl (ao (dX (au rfl)) (ao (aq rfl rfl (Va (b:=true) w23)) (ao (aq rfl rfl (Va (b:=false) h23)) (au rfl))))))))) rfl) ?_;refine aF (bU (aN (aq (Fv (c:=λd:D=>d) (o:=λ_=>none) (l:=[D.non,.str "x",.str "C",.int 7,.lst [.str "c"],.str (mt w true),.str (mt h false),.str "cr "]) (j9 rfl) (adM rfl) λd hd=>Bl (b:=false) rfl (aN (aq (aR (ao rfl (ao rfl (ao rfl (au rfl)))) (abI (aaB oP (bad d hd)))) (dX (ao rfl (au rfl))) rfl)) rfl) (dX rfl) rfl)) rfl) ?_;obtain⟨g1,g2,g3⟩:=o8 (k:=44) (m:=6) hn (by omega) (by omega);obtain⟨x,hx,zh,zw⟩:∃x,bN (.lst [.int (-1),.int 5,.non,.bl true,.str "1",.tup [.int 0]]) (.int (dr ns 44 6))= .ok x/\Df (P.h - 1) x/\Df (P.w - 1) x:=by
  obtain⟨i,hi⟩:=acF g2;rw[hi] at g3 |-;have:i=0\/i=1\/i=2\/i=3\/i=4\/i=5:=by omega
  rcases this with rfl |rfl |rfl |rfl |rfl |rfl
  ·exact⟨_,rfl,.inr ⟨-1,rfl,by omega⟩,.inr ⟨-1,rfl,by omega⟩⟩
  ·exact⟨_,rfl,.inr ⟨5,rfl,by omega⟩,.inr ⟨5,rfl,by omega⟩⟩
  ·exact⟨_,rfl,.inl rfl,.inl rfl⟩
  ·exact⟨_,rfl,.inl rfl,.inl rfl⟩
  ·exact⟨_,rfl,.inl rfl,.inl rfl⟩
  ·exact⟨_,rfl,.inl rfl,.inl rfl⟩
 refine aF (aQ (aq (dX (ao (UG rfl) (ao rfl (ao rfl (ao rfl (ao rfl (au (cu (au rfl))))))))) (aR (ao rfl (ao rfl (au rfl))) g1) hx) rfl) ?_;have zt:Df (P.h - 1) (.int (h:Int)):= .inr ⟨_,rfl,by omega⟩;have zb:Df (P.w - 1) (.int (w:Int)):= .inr ⟨_,rfl,by omega⟩;refine aF (aQ (dX (ao (aR (ao rfl (ao rfl (ao rfl (au rfl)))) (Rp (Jo oP h4 zh))) (ao (aR (ao rfl (ao rfl (ao rfl (au rfl)))) (Rp (Jp oP w4 h4 zw))) (au (aR (ao rfl (ao rfl (ao rfl (au rfl)))) (Rp (Jo oP h4 zt))))))) rfl) ?_;refine aF (bU (aN (aq (aq rfl (dX (au (aR (ao rfl (ao rfl (ao rfl (au rfl)))) (Rp (Jp oP w4 h4 zb))))) rfl) (aq (dX (au (dX (ao rfl (au rfl))))) rfl rfl) rfl)) rfl) ?_;obtain⟨l2,q2,eb0⟩:=xW (d:=0) (a:=0) hw0 oP w4 h4 (by omega) (by omega) (by omega);have:l2=[]:=by have:=q2.1;simpa[gq] using this
 subst this;refine aF (bU (aN (aq (iW (ds:=[pD P,.int 0,.int 0]) (zs:=[]) (ao rfl (ao rfl (au rfl))) rfl eb0) (cu (ao rfl (au rfl))) (Pu.oE rfl Qz))) rfl) ?_;exact aZ (aq (iW (ds:=[pD P,.str (txt l1)]) (zs:=[]) (ao rfl (au rfl)) rfl (uJ hw0 oP (fit l1 m1) io)) (aq (aR (ao rfl (ao rfl (au rfl))) (zm hw0 oP w4 h4 (fit l1 m1))) rfl (iI (i:=1) rfl)) (Ku rfl G7))
end
end yN
namespace yN
open PySem PySem.Spec L2 Pu
open PyProof.Rows hiding St
variable{f:abX}{F:acK}{outer:List PySem.Env}{ps N:List Str}{us:List abY}{n:Nat}{K:PySem.W.Frag}{g:aB->So}{st:acp}{x:Str}{cdv:abY}
def DX(K:PySem.W.Frag)(x:Str)(st:acp):Prop:=∃f fd,Fun K x x st f fd/\PySem.W.nsIn K ab5 x=some (some (.ref f))
theorem abg{oc:abY}{od an:Option abX}{osl:Array (Option abY)}{kV doc pm ct:abY}(a:PySem.W.nsIn K ab5 x=some (some (.ref f)))(l:K.lookup f=some ⟨oc,od,.func (PySem.W.fnOf x x (defArgs st) (defBody st) (defScope st) .none kV doc pm an cdv ct),osl⟩)
  (c:PySem.W.codeIn K cdv x=true)(k:PySem.W.keepIn K (.ref f)=true):DX K x st:=⟨f,_,fun_mk l c k,a⟩
def DY(K:PySem.W.Frag)(mg:Str->Option abY)(x:Str)(st:acp)(ps:List Str):Prop:=∃f fd,Fun K x x st f fd/\mg x=some (.ref f)/\Binds K fd ps []
theorem dy{mg:Str->Option abY}{h:ace}(X:K.In h)(G:h.Ns ab5 mg)(q:DX K x st)
  (b:∀(kV doc pm:abY) (an:Option abX) (cdv ct:abY) (us:List abY),us.length=ps.length->adU (PySem.W.fnOf x x (defArgs st) (defBody st) (defScope st) .none kV doc pm an cdv ct) ⟨us,[]⟩=pure (ps.zip us)):DY K mg x st ps:=
 let⟨f,fd,u,a⟩:=q;⟨f,fd,u,PySem.W.mg_of X G a,u.binds b⟩
section
variable{P:ab9}{w:acf}{K:PySem.W.Frag}{mg:Str->Option abY}{base:ace}
theorem fH{k m:Nat}(q:DY K mg x st ps)(S:FnScope N ps (defScope st))(hn:ps.length=n)(hm:N.length=n+m)
  (hb:∀{f:abX} (cdv:abY) (A:acg) (outer:List PySem.Env) (s:abZ) (H:Hp) (E:XK),Room k (A.deeper (adF x (defScope st) s.heap.objs.size f cdv))->jB (cxOf CX0 P w K mg base N x (defScope st) f cdv A outer s H E).nox (defBody st) g):d7 P w K mg base (k+1) x n (bV m g):=
 let⟨_,_,Fn,hmg,b⟩:=q;Zq Fn hmg b S hn hm hb
def ni(P:ab9)(w:acf)(K:PySem.W.Frag)(mg:Str->Option abY)(base:ace)(k:Nat)(x:Str)(n:Nat)(F:List D->R D)(ps:List Str)(ts:List (abX×Str)):Prop:=∃fd,VR P w K mg base k x n F fd ps ts/\Binds K fd ps []
def Rr(P:ab9)(w:acf)(K:PySem.W.Frag)(mg:Str->Option abY)(base:ace)(k:Nat)(x:Str)(n:Nat)(F:List D->R D)(ps:List Str)(ts:List (abX×Str)):Prop:=∃fd,Le P w K mg base k x n F fd ps ts/\Binds K fd ps []
theorem zq{k m:Nat}{ts:List (abX×Str)}(q:DY K mg x st ps)(S:FnScope N ps (defScope st))(hn:ps.length=n)(hm:N.length=n+m)
  (hb:∀{f:abX} (cdv:abY) (A:acg) (outer:List PySem.Env) (s:abZ) (H:Hp) (E:XK),True->Room k (A.deeper (adF x (defScope st) s.heap.objs.size f cdv))->Tb ts H->jB (cxOf CX0 P w K mg base N x (defScope st) f cdv A outer s H E).nox (defBody st) g):ni P w K mg base (k+1) x n (λds=>gb m g (ds.map .val)) ps ts:=
 let⟨f,fd,Fn,hmg,b⟩:=q;⟨fd,⟨f,ZK Fn S hn hm λcdv A outer s H E _=>hb cdv A outer s H E trivial,hmg,Fn.kp⟩,b⟩
theorem abL{k m:Nat}{ts:List (abX×Str)}(q:DY K mg x st ps)(S:FnScope N ps (defScope st))(hn:ps.length=n)(hm:N.length=n+m)
  (hb:∀{f:abX} (cdv:abY) (A:acg) (outer:List PySem.Env) (s:abZ) (H:Hp) (E:XK),Room k (A.deeper (adF x (defScope st) s.heap.objs.size f cdv))->Tb ts H->jB (cxOf (Pq P w) P w K mg base N x (defScope st) f cdv A outer s H E) (defBody st) g):Rr P w K mg base (k+1) x n (bV m g) ps ts:=
 let⟨f,fd,Fn,hmg,b⟩:=q;⟨fd,⟨f,V8 Fn S hn hm hb,hmg,Fn.kp⟩,b⟩
end
section
variable{X:Cx}{k m n:Nat}{ps:List Str}{F:List D->R D}{x:Str}{p pos:Pos}{e:ab6}{es:List ab6}{fa:aB->R (List D)}{ts:List (abX×Str)}
theorem dY(G:ni X.prog X.w X.K X.mg X.base k x n F ps ts)(hT:Tb ts X.H₀)(hr:Room m X.A)(hkm:k<=m)(ha:DA X (e::es) fa)(hg:Gl X x:=by rfl)
  (hdb:(x ==("__debug__" :Str))=false:=by decide)(he:ab2 (e::es) X.env=(false,eval e X.env)::ab2 es X.env:=by rfl)(hpl:(acO pos (ab2 es X.env)).any (·.1)=false:=by rfl):
  DE X (.Call (.Name x p) (e::es) [] pos) (aD (aV F n) fa):=let⟨_,g,b⟩:=G;ZL g hT hr hkm b ha hg hdb he hpl
theorem QB(G:Rr X.prog X.w X.K X.mg X.base k x n F ps ts)(hT:Tb ts X.H₀)(hr:Room m X.A)(hkm:k<=m)(ha:DA X (e::es) fa)(hg:Gl X x:=by rfl)
  (hdb:(x ==("__debug__" :Str))=false:=by decide)(he:ab2 (e::es) X.env=(false,eval e X.env)::ab2 es X.env:=by rfl)(hpl:(acO pos (ab2 es X.env)).any (·.1)=false:=by rfl):
  DE X (.Call (.Name x p) (e::es) [] pos) (gM F n 0 [] fa nA):=let⟨_,g,b⟩:=G;q9 Sel.nil g hT hr hkm (aa4 b) ha hg hdb he hpl
end
theorem sO(hl:us.length=n+1):∃a u,us=a::u/\u.length=n:=by
 cases us with
 |nil=>cases hl
 |cons a u=>exact⟨a,u,rfl,Nat.succ.inj hl⟩
theorem ud(hl:us.length=1)(h:∀a0,adU F ⟨[a0],[]⟩=pure (ps.zip [a0])):adU F ⟨us,[]⟩=pure (ps.zip us):=by
 obtain⟨a0,u1,rfl,h1⟩:=sO hl;cases acu h1;exact h a0
theorem sS(hl:us.length=2)(h:∀a0 a1,adU F ⟨[a0,a1],[]⟩=pure (ps.zip [a0,a1])):adU F ⟨us,[]⟩=pure (ps.zip us):=by
 obtain⟨a0,u1,rfl,h1⟩:=sO hl;obtain⟨a1,u2,rfl,h2⟩:=sO h1;cases acu h2;exact h a0 a1
theorem zu(hl:us.length=3)(h:∀a0 a1 a2,adU F ⟨[a0,a1,a2],[]⟩=pure (ps.zip [a0,a1,a2])):adU F ⟨us,[]⟩=pure (ps.zip us):=by
 obtain⟨a0,u1,rfl,h1⟩:=sO hl;obtain⟨a1,u2,rfl,h2⟩:=sO h1;obtain⟨a2,u3,rfl,h3⟩:=sO h2;cases acu h3;exact h a0 a1 a2
theorem Vb(hl:us.length=4)(h:∀a0 a1 a2 a3,adU F ⟨[a0,a1,a2,a3],[]⟩=pure (ps.zip [a0,a1,a2,a3])):adU F ⟨us,[]⟩=pure (ps.zip us):=by
 obtain⟨a0,u1,rfl,h1⟩:=sO hl;obtain⟨a1,u2,rfl,h2⟩:=sO h1;obtain⟨a2,u3,rfl,h3⟩:=sO h2;obtain⟨a3,u4,rfl,h4⟩:=sO h3;cases acu h4;exact h a0 a1 a2 a3
theorem lk5(hl:us.length=5)(h:∀a0 a1 a2 a3 a4,adU F ⟨[a0,a1,a2,a3,a4],[]⟩=pure (ps.zip [a0,a1,a2,a3,a4])):adU F ⟨us,[]⟩=pure (ps.zip us):=by
 obtain⟨a0,u1,rfl,h1⟩:=sO hl;obtain⟨a1,u2,rfl,h2⟩:=sO h1;obtain⟨a2,u3,rfl,h3⟩:=sO h2;obtain⟨a3,u4,rfl,h4⟩:=sO h3;obtain⟨a4,u5,rfl,h5⟩:=sO h4;cases acu h5;exact h a0 a1 a2 a3 a4
def top(i:Nat):acp:=PySem.Challenge.pw_seamhall_k36_orders_of_both.main.body.getD i (.Pass ⟨0,0,0,0⟩)
abbrev zx:acp:=top 53
theorem Rt:FnScope ["_law_picture_here","_law_x","_law_y"] ["_law_picture_here","_law_x","_law_y"] (defScope zx):=⟨rfl,rfl,rfl,by decide +kernel,rfl,by decide +kernel,by decide +kernel⟩
abbrev uK:acp:=top 54
theorem sU:FnScope ["_law_picture_here","_law_mode","_law_x","_law_y","_law_before","_law_found"] ["_law_picture_here","_law_mode","_law_x","_law_y","_law_before"] (defScope uK):=⟨rfl,rfl,rfl,by decide +kernel,rfl,by decide +kernel,by decide +kernel⟩
abbrev uL:acp:=top 55
theorem zy:FnScope ["_law_picture_here","_law_mode","_law_seam","_law_befores"] ["_law_picture_here","_law_mode","_law_seam"] (defScope uL):=⟨rfl,rfl,rfl,by decide +kernel,rfl,by decide +kernel,by decide +kernel⟩
abbrev sV:acp:=top 58
theorem Jz:FnScope ["_law_tags","_law_seam","_law_sign"] ["_law_tags","_law_seam","_law_sign"] (defScope sV):=⟨rfl,rfl,rfl,by decide +kernel,rfl,by decide +kernel,by decide +kernel⟩
abbrev uM:acp:=top 56
theorem gO:FnScope ["_law_broad","_law_tall","_law_found","_law_y","_law_more","_law_way"] ["_law_broad","_law_tall"] (defScope uM):=⟨rfl,rfl,rfl,by decide +kernel,rfl,by decide +kernel,by decide +kernel⟩
abbrev uN:acp:=top 59
theorem jY:FnScope ["_law_picture_here","_law_mode","_law_tags","_law_best_here","_law_way","_law_here"] ["_law_picture_here","_law_mode","_law_tags"] (defScope uN):=⟨rfl,rfl,rfl,by decide +kernel,rfl,by decide +kernel,by decide +kernel⟩
abbrev wW:acp:=top 60
theorem NP:FnScope ["_law_rows","_law_seam"] ["_law_rows","_law_seam"] (defScope wW):=⟨rfl,rfl,rfl,by decide +kernel,rfl,by decide +kernel,by decide +kernel⟩
abbrev uO:acp:=top 57
theorem Mv:FnScope ["_law_picture_here"] ["_law_picture_here"] (defScope uO):=⟨rfl,rfl,rfl,by decide +kernel,rfl,by decide +kernel,by decide +kernel⟩
abbrev qu:acp:=top 62
theorem Ho:FnScope ["_law_rows"] ["_law_rows"] (defScope qu):=⟨rfl,rfl,rfl,by decide +kernel,rfl,by decide +kernel,by decide +kernel⟩
abbrev zA:acp:=top 63
theorem je:FnScope ["_law_picture_here","_law_text","_law_mode","_law_cost_here","_law_sign","_law_side","_law_seam"] ["_law_picture_here","_law_text","_law_mode"] (defScope zA):=⟨rfl,rfl,rfl,by decide +kernel,rfl,by decide +kernel,by decide +kernel⟩
abbrev sW:acp:=top 51
theorem dI:FnScope ["_law_script","_law_k","_law_many","_law_cell","_law_turn","_law_rest"] ["_law_script","_law_k","_law_many"] (defScope sW):=⟨rfl,rfl,rfl,by decide +kernel,rfl,by decide +kernel,by decide +kernel⟩
abbrev qw:acp:=top 61
theorem Hq:FnScope ["_law_script","_law_at_here"] ["_law_script","_law_at_here"] (defScope qw):=⟨rfl,rfl,rfl,by decide +kernel,rfl,by decide +kernel,by decide +kernel⟩
abbrev wX:acp:=top 26
theorem NQ:FnScope ["picture"] ["picture"] (defScope wX):=⟨rfl,rfl,rfl,by decide +kernel,rfl,by decide +kernel,by decide +kernel⟩
abbrev qy:acp:=top 38
theorem Hr:FnScope ["picture","seam"] ["picture","seam"] (defScope qy):=⟨rfl,rfl,rfl,by decide +kernel,rfl,by decide +kernel,by decide +kernel⟩
abbrev Mw:acp:=top 18
theorem QC:FnScope ["line","last"] ["line"] (defScope Mw):=⟨rfl,rfl,rfl,by decide +kernel,rfl,by decide +kernel,by decide +kernel⟩
abbrev sX:acp:=top 28
theorem eN:FnScope ["picture","y","row","above","last","told","x","gap","from_left","from_right"] ["picture","y"] (defScope sX):=⟨rfl,rfl,rfl,by decide +kernel,rfl,by decide +kernel,by decide +kernel⟩
abbrev zB:acp:=top 11
theorem Ru:FnScope ["thing"] ["thing"] (defScope zB):=⟨rfl,rfl,rfl,by decide +kernel,rfl,by decide +kernel,by decide +kernel⟩
abbrev wY:acp:=top 9
theorem NT:FnScope ["thing"] ["thing"] (defScope wY):=⟨rfl,rfl,rfl,by decide +kernel,rfl,by decide +kernel,by decide +kernel⟩
abbrev zE:acp:=top 10
theorem Rv:FnScope ["thing"] ["thing"] (defScope zE):=⟨rfl,rfl,rfl,by decide +kernel,rfl,by decide +kernel,by decide +kernel⟩
abbrev Dg:acp:=top 12
theorem Vc:FnScope ["thing"] ["thing"] (defScope Dg):=⟨rfl,rfl,rfl,by decide +kernel,rfl,by decide +kernel,by decide +kernel⟩
abbrev sY:acp:=top 13
theorem JB:FnScope ["thing"] ["thing"] (defScope sY):=⟨rfl,rfl,rfl,by decide +kernel,rfl,by decide +kernel,by decide +kernel⟩
abbrev oU:acp:=top 14
theorem Fz:FnScope ["thing"] ["thing"] (defScope oU):=⟨rfl,rfl,rfl,by decide +kernel,rfl,by decide +kernel,by decide +kernel⟩
abbrev zF:acp:=top 15
theorem Rx:FnScope ["picture"] ["picture"] (defScope zF):=⟨rfl,rfl,rfl,by decide +kernel,rfl,by decide +kernel,by decide +kernel⟩
abbrev Dh:acp:=top 16
theorem Jq:FnScope ["picture","wide","high"] ["picture"] (defScope Dh):=⟨rfl,rfl,rfl,by decide +kernel,rfl,by decide +kernel,by decide +kernel⟩
abbrev Di:acp:=top 19
theorem uf:FnScope ["picture","wide","high","across","down"] ["picture"] (defScope Di):=⟨rfl,rfl,rfl,by decide +kernel,rfl,by decide +kernel,by decide +kernel⟩
abbrev Hs:acp:=top 29
theorem Wz:FnScope ["picture","manner"] ["picture","manner"] (defScope Hs):=⟨rfl,rfl,rfl,by decide +kernel,rfl,by decide +kernel,by decide +kernel⟩
abbrev zG:acp:=top 30
theorem Ry:FnScope ["row","above","place"] ["row","above","place"] (defScope zG):=⟨rfl,rfl,rfl,by decide +kernel,rfl,by decide +kernel,by decide +kernel⟩
abbrev Mx:acp:=top 27
theorem YQ:FnScope ["place","wide"] ["place","wide"] (defScope Mx):=⟨rfl,rfl,rfl,by decide +kernel,rfl,by decide +kernel,by decide +kernel⟩
abbrev Dj:acp:=top 31
theorem pW:FnScope ["beneath","row","x","told","place","fare"] ["beneath","row","x"] (defScope Dj):=⟨rfl,rfl,rfl,by decide +kernel,rfl,by decide +kernel,by decide +kernel⟩
abbrev rm:acp:=top 32
theorem jf:FnScope ["table","marks","start","gather","rows","y","row","x","mark","told","lost"] ["table","marks","start","gather"] (defScope rm):=⟨rfl,rfl,rfl,by decide +kernel,rfl,by decide +kernel,by decide +kernel⟩
abbrev iC:acp:=top 33
theorem zH:FnScope ["table","marks","many","first_ones"] ["table","marks","many"] (defScope iC):=⟨rfl,rfl,rfl,by decide +kernel,rfl,by decide +kernel,by decide +kernel⟩
abbrev wZ:acp:=top 34
theorem lJ:FnScope ["table","rows","told","x","cell","fare"] ["table","rows"] (defScope wZ):=⟨rfl,rfl,rfl,by decide +kernel,rfl,by decide +kernel,by decide +kernel⟩
abbrev qz:acp:=top 35
theorem Ht:FnScope ["table","marks","many"] ["table","marks","many"] (defScope qz):=⟨rfl,rfl,rfl,by decide +kernel,rfl,by decide +kernel,by decide +kernel⟩
abbrev uP:acp:=top 36
theorem sZ:FnScope ["table","marks","found","less","cost","seam"] ["table","marks"] (defScope uP):=⟨rfl,rfl,rfl,by decide +kernel,rfl,by decide +kernel,by decide +kernel⟩
abbrev zJ:acp:=top 39
theorem Rz:FnScope ["rows","seam"] ["rows","seam"] (defScope zJ):=⟨rfl,rfl,rfl,by decide +kernel,rfl,by decide +kernel,by decide +kernel⟩
abbrev Hu:acp:=top 43
theorem jZ:FnScope ["picture","many","manner","marks","left","marked","steps","total","found","cost","seam"] ["picture","many","manner","marks"] (defScope Hu):=⟨rfl,rfl,rfl,by decide +kernel,rfl,by decide +kernel,by decide +kernel⟩
abbrev uQ:acp:=top 44
theorem zK:FnScope ["picture","manner","left","steps","cost"] ["picture","manner"] (defScope uQ):=⟨rfl,rfl,rfl,by decide +kernel,rfl,by decide +kernel,by decide +kernel⟩
abbrev Dk:acp:=top 45
theorem Jr:FnScope ["picture","manner","cost","left"] ["picture","manner"] (defScope Dk):=⟨rfl,rfl,rfl,by decide +kernel,rfl,by decide +kernel,by decide +kernel⟩
abbrev uR:acp:=top 48
theorem gP:FnScope ["picture","down","across","manner","told","cost","left","rest","text"] ["picture","down","across","manner"] (defScope uR):=⟨rfl,rfl,rfl,by decide +kernel,rfl,by decide +kernel,by decide +kernel⟩
abbrev qC:acp:=top 25
theorem Hv:FnScope ["thing"] ["thing"] (defScope qC):=⟨rfl,rfl,rfl,by decide +kernel,rfl,by decide +kernel,by decide +kernel⟩
abbrev tu:acp:=top 42
theorem JC:FnScope ["thing","least","most"] ["thing","least","most"] (defScope tu):=⟨rfl,rfl,rfl,by decide +kernel,rfl,by decide +kernel,by decide +kernel⟩
abbrev dj:acp:=top 49
theorem xX:FnScope ["picture","down","across","manner","wide","high"] ["picture","down","across","manner"] (defScope dj):=⟨rfl,rfl,rfl,by decide +kernel,rfl,by decide +kernel,by decide +kernel⟩
abbrev w5:acp:=top 46
theorem NZ:FnScope ["thing","picture"] ["thing","picture"] (defScope w5):=⟨rfl,rfl,rfl,by decide +kernel,rfl,by decide +kernel,by decide +kernel⟩
abbrev dU:acp:=top 47
theorem pC:FnScope ["picture","text","manner","left","sign","cost"] ["picture","text","manner"] (defScope dU):=⟨rfl,rfl,rfl,by decide +kernel,rfl,by decide +kernel,by decide +kernel⟩
abbrev zL:acp:=top 65
theorem FJ:FnScope ["_law_way","_law_picture_here","_law_one","_law_other","e"] ["_law_way","_law_picture_here","_law_one","_law_other"] (defScope zL):=⟨rfl,rfl,rfl,by decide +kernel,rfl,by decide +kernel,by decide +kernel⟩
abbrev qD:acp:=top 64
theorem oV:FnScope ["_law_down","_law_across","_law_first"] ["_law_down","_law_across"] (defScope qD):=⟨rfl,rfl,rfl,by decide +kernel,rfl,by decide +kernel,by decide +kernel⟩
abbrev oW:acp:=top 52
theorem nj:FnScope ["_law_script","_law_at_here","_law_broad","_law_tall","_law_most","_law_rows","_law_y"] ["_law_script","_law_at_here","_law_broad","_law_tall"] (defScope oW):=⟨rfl,rfl,rfl,by decide +kernel,rfl,by decide +kernel,by decide +kernel⟩
abbrev qW:acp:=top 66
theorem nq:FnScope ["_law_script","_law_picture_here","_law_broad","_law_tall","_law_mode","_law_down","_law_across","_law_rows","_law_text","_law_bad","_law_odd","_law_told"] ["_law_script"] (defScope qW):=⟨rfl,rfl,rfl,by decide +kernel,rfl,by decide +kernel,by decide +kernel⟩
abbrev gQ:acp:=(defBody iC).getD 0 (.Pass ⟨0,0,0,0⟩)
theorem JD:GF ["x","told","many"] ["x","told"] "many" (defScope gQ):=⟨rfl,rfl,rfl,by decide +kernel,rfl,by decide +kernel,by decide +kernel,by decide +kernel,by decide +kernel⟩
structure Txt(K:PySem.W.Frag)(mg:Str->Option abY):Prop where
 Mz:∃t,mg "FREE" =some (.int 0 t)
 MF:∃t,mg "GONE" =some (.int 2 t)
 MJ:∃t,mg "KEPT" =some (.int 1 t)
 uT:∃t,mg "MOST_CELL" =some (.int 99 t)
 uU:∃t,mg "MOST_LONG" =some (.int 20 t)
 tD:∃t,mg "MOST_TAKEN" =some (.int 4 t)
 zM:VB K mg "MANNERS" ["worth","joins"]
 ug:mg "abs" =none
 Bq:mg "all" =none
 MK:mg "bool" =none
 iG:mg "enumerate" =none
 RB:mg "int" =none
 fY:mg "isinstance" =none
 cW:mg "len" =none
 MN:mg "list" =none
 uh:mg "max" =none
 nu:mg "min" =none
 fD:mg "range" =none
 w6:mg "reversed" =none
 tE:mg "sorted" =none
 RD:mg "str" =none
 RG:mg "sum" =none
 eF:mg "tuple" =none
 Br:mg "zip" =none
 FN:∀d:D,PySem.W.kitOne K (.type (iK d)) (.type "int")=some (Av (iK d))
 zN:∀d:D,PySem.W.kitOne K (.type (iK d)) (.type "bool")=some (wF (iK d))
 wk:∀d:D,PySem.W.kitOne K (.type (iK d)) (.type "tuple")=some (tW (iK d))
 FQ:∀d:D,PySem.W.kitOne K (.type (iK d)) (.type "list")=some (Ks (iK d))
 FW:∀d:D,PySem.W.kitOne K (.type (iK d)) (.type "str")=some (vL (iK d))
 zO:∃C,W8 K mg "NoDeeds" C
 zP:∃C,W8 K mg "NoWidth" C
 uV:∃C,mg "SeamError" =some (.ref C)/\∀c C',jc c "SeamError" =true->PySem.W.nsIn K ab5 c=some (some (.ref C'))->PySem.W.exmOne K (.ref C') (.ref C)=some true
 pX:∃C,mg "NoDeeds" =some (.ref C)/\∀c C',jc c c=true->PySem.W.nsIn K ab5 c=some (some (.ref C'))->Bu K C'/\PySem.W.kitOne K (.ref C') (.ref C)=some (jc c "NoDeeds")
 pY:∃C,mg "NoWidth" =some (.ref C)/\∀c C',jc c c=true->PySem.W.nsIn K ab5 c=some (some (.ref C'))->Bu K C'/\PySem.W.kitOne K (.ref C') (.ref C)=some (jc c "NoWidth")
abbrev tz(TP:abX):List (abX×Str):=[(TP,"best_ways.<locals>.first_ones")]
structure HX(K:PySem.W.Frag)(mg:Str->Option abY):Prop extends Txt K mg where
 zQ:DY K mg "_law_at" zx ["_law_picture_here","_law_x","_law_y"]
 uW:DY K mg "_law_step" uK ["_law_picture_here","_law_mode","_law_x","_law_y","_law_before"]
 uX:DY K mg "_law_cost" uL ["_law_picture_here","_law_mode","_law_seam"]
 tH:DY K mg "_law_signs" sV ["_law_tags","_law_seam","_law_sign"]
 uY:DY K mg "_law_ways" uM ["_law_broad","_law_tall"]
 uZ:DY K mg "_law_best" uN ["_law_picture_here","_law_mode","_law_tags"]
 xg:DY K mg "_law_cut" wW ["_law_rows","_law_seam"]
 u6:DY K mg "_law_free" uO ["_law_picture_here"]
 qF:DY K mg "_law_turned" qu ["_law_rows"]
 zR:DY K mg "_law_by" zA ["_law_picture_here","_law_text","_law_mode"]
 tK:DY K mg "_law_drawn" sW ["_law_script","_law_k","_law_many"]
 qG:DY K mg "_law_manner" qw ["_law_script","_law_at_here"]
 xq:DY K mg "all_free" wX ["picture"]
 qH:DY K mg "cells_along" qy ["picture","seam"]
 MP:DY K mg "gaps" Mw ["line"]
 tL:DY K mg "join_fares" sX ["picture","y"]
 zT:DY K mg "is_line" zB ["thing"]
 xr:DY K mg "is_whole" wY ["thing"]
 zU:DY K mg "is_cell" zE ["thing"]
 Dl:DY K mg "is_row" Dg ["thing"]
 tM:DY K mg "is_picture" sY ["thing"]
 oX:DY K mg "need_picture" oU ["thing"]
 zV:DY K mg "size_of" zF ["picture"]
 Dm:DY K mg "turned" Dh ["picture"]
 Dn:DY K mg "worths" Di ["picture"]
 Hw:DY K mg "fares" Hs ["picture","manner"]
 zW:DY K mg "fare_of" zG ["row","above","place"]
 M4:DY K mg "near" Mx ["place","wide"]
 Dq:DY K mg "onward" Dj ["beneath","row","x"]
 Hx:DY K mg "swept" rm ["table","marks","start","gather"]
 u9:DY K mg "best_ways" iC ["table","marks","many"]
 xu:DY K mg "from_top" wZ ["table","rows"]
 qI:DY K mg "first_seams" qz ["table","marks","many"]
 vd:DY K mg "least_way" uP ["table","marks"]
 zX:DY K mg "without" zJ ["rows","seam"]
 Hy:DY K mg "taken" Hu ["picture","many","manner","marks"]
 vf:DY K mg "by_column" uQ ["picture","manner"]
 Dr:DY K mg "by_row" Dk ["picture","manner"]
 pF:DY K mg "best_from" uR ["picture","down","across","manner"]
 qJ:DY K mg "need_manner" qC ["thing"]
 tO:DY K mg "need_width" tu ["thing","least","most"]
 xG:DY K mg "is_order" w5 ["thing","picture"]
 zY:DY K mg "_law_no" zL ["_law_way","_law_picture_here","_law_one","_law_other"]
 lO:DY K mg "_law_orders" qD ["_law_down","_law_across"]
 oY:DY K mg "_law_picture" oW ["_law_script","_law_at_here","_law_broad","_law_tall"]
 M5:∃f fd,Fun K "best_order" "best_order" dj f fd/\mg "best_order" =some (.ref f)/\(∃cX,KB K fd ["picture","down","across","manner"] [] [.inr (.str "worth" cX)])/\KB K fd ["picture","down","across","manner"] ["manner"] [.inl 0]
 RJ:∃f fd,Fun K "by_order" "by_order" dU f fd/\mg "by_order" =some (.ref f)/\(∃dH,KB K fd ["picture","text","manner"] [] [.inr (.str "worth" dH)])/\KB K fd ["picture","text","manner"] ["manner"] [.inl 0]
structure HB(K:PySem.W.Frag)(mg:Str->Option abY)(base:ace)(cN TP:abX):Prop extends HX K mg where
 hB:pq base mg cN TP
 hC:yI K mg "best_ways" cN
section
variable{P:ab9}{w:acf}{K:PySem.W.Frag}{mg:Str->Option abY}{base:ace}{cN TP:abX}
theorem JF{c:abX}{A:acg}{s:abZ}{H:Hp}(T:Txt K mg)(hr:Room 0 (A.deeper (wK "best_ways.<locals>.first_ones" (defScope gQ) f cdv s "many" c))):jB (wL P w K mg base ["x","told","many"] "best_ways.<locals>.first_ones" (defScope gQ) f cdv A outer s H "many" c) (defBody gQ) yW:=by
 exact (aL (bf (bW ["less","cost","places"] [0] rfl (by kernel_rfl) (by kernel_rfl) (dM (Ir (aW (K9 (Ew hr)) rfl T.tE boot_sorted (aj (dv 1) aA)) rP (rQ (dv 2)))) (gB (bM (aX (by decide)) (bM (aX (by decide)) (bM (aX (by decide)) gA)))) (λ_ _ _ _ nd=>lu rfl (cB (bx 0 nd) (cB (bx 1 nd) (cB (bx 2 nd) jk)))) (λ_ _ _ _=>bY) (λ_ _ _ _=>(cC (aj (dv 0) (aj (dv 1) (aj (aM cD (cC (aj (dv 3) aA)) (dv 2)) aA))))))))
theorem Hz(T:Txt K mg)(my:Int)(a c:abX)(H:Hp)(co:Obj)(uy:abY)(fh:jQ H a "first_ones" "best_ways.<locals>.first_ones" (defArgs gQ) (defBody gQ) (defScope gQ) [("many",c)])(hc:H c=some (.frz co (.own c)))(hcd:co.data= .cell (some uy))(hy:RelV (.int my) uy):yH P w K mg base 1 (dR my) 2 a H:=
 ZQ (k:=0) (m:=0) JD rfl rfl (λ_ _ _ _ _ us hl=>sS hl λ_ _=>rfl) (λcdv A outer s H f c hr=>JF T  hr) fh hc hcd hy
theorem um(T:HX K mg):d7 P w K mg base 1 "_law_at" 3 iU:=
 fH (k:=0) (g:=Iz) T.zQ Rt rfl rfl λcdv A outer s H E hr=>(aL (bf (bH (bH (dv 0) (aW (vP rfl) rfl T.uh agy (aj aH (aj (aW (pN rfl) rfl T.nu ae7 (aj (aM cJ (aW cL rfl T.cW PySem.boot_len (aj (dv 0) aA)) aH) (aj (dv 2) aA))) aA)))) (aW (vP rfl) rfl T.uh agy (aj aH (aj (aW (pN rfl) rfl T.nu ae7 (aj (aM cJ (aW cL rfl T.cW PySem.boot_len (aj (bH (dv 0) aH) aA)) aH) (aj (dv 1) aA))) aA))))))
theorem N5(T:HX K mg):d7 P w K mg base 2 "_law_step" 5 jt:=
 fH (k:=1) (g:=BJ) T.uW sU rfl rfl λcdv A outer s H E hr=>(aJ (bF 5 sU.nd (aW vO rfl T.ug agz (aj (aM cJ (bA (um T) hr (by decide) (aj (dv 0) (aj (aM cJ (dv 2) aH) (aj (dv 3) aA)))) (bA (um T) hr (by decide) (aj (dv 0) (aj (aM cD (dv 2) aH) (aj (dv 3) aA))))) aA))) (aJ (dD (bK (iH (cV hr)) (dv 1) cI) (aL (bf (aM cD (dv 5) (aW vO rfl T.ug agz (aj (aM cJ (bA (um T) hr (by decide) (aj (dv 0) (aj (dv 2) (aj (aM cJ (dv 3) aH) aA)))) (bA (um T) hr (by decide) (aj (dv 0) (aj (dv 2) (aj (aM cD (dv 3) aH) aA))))) aA))))) cH) (aJ (dD (DW.dt (yq (bK Vu (dv 4) jg) (vH (bK (oZ (cV hr)) (dv 4) (dv 2))))) (aL (bF 5 sU.nd (aM cD (dv 5) (aW vO rfl T.ug agz (aj (aM cJ (bH (bH (dv 0) (aM cJ (dv 3) aH)) (dv 2)) (bH (bH (dv 0) (dv 3)) (wA (bK Ah (dv 4) (dv 2)) (aM cJ (dv 2) aH) (aM cD (dv 2) aH)))) aA))))) cH) (aL (bf (dv 5))))))
theorem Ci(T:HX K mg):d7 P w K mg base 3 "_law_cost" 3 ju:=
 fH (k:=2) (g:=BK) T.uX zy rfl rfl λcdv A outer s H E hr=>(aJ (bF 3 zy.nd (aM cD (cC (aj jg aA)) (Cu (dv 2) rP (rQ (rO aH))))) (aL (bf (aW (Zj rfl) rfl T.RG boot_sum (aj (bW ["_law_y","_law_x"] [3,1,0] rfl (by kernel_rfl) (by kernel_rfl) (vU rfl T.iG (aj (dv 2) aA)) (gB (bM (aX (by decide)) (bM (aX (by decide)) gA))) (λ_ _ _ _ nd=>lu rfl (cB (bx 0 nd) (cB (bx 1 nd) jk))) (λ_ _ _ _=>bY) (λ_ _ _ _=>(bA (N5 T) hr (by decide) (aj (dv 4) (aj (dv 3) (aj (dv 1) (aj (dv 0) (aj (bH (dv 2) (dv 0)) aA)))))))) aA)))))
theorem zZ(T:HX K mg):d7 P w K mg base 1 "_law_signs" 3 jT:=
 fH (k:=0) (g:=yP) T.tH Jz rfl rfl λcdv A outer s H E hr=>(aL (bf (aW cL rfl T.cW PySem.boot_len (aj (bW ["_law_row","_law_x"] [2] rfl (by kernel_rfl) (by kernel_rfl) (Ax rfl T.Br (aj (dv 0) (aj (dv 1) aA))) (gB (bM (aX (by decide)) (bM (aX (by decide)) gA))) (λ_ _ _ _ nd=>lu rfl (cB (bx 0 nd) (cB (bx 1 nd) jk))) (λ_ _ _ _=>(Am (bK (iH (cV hr)) (bH (dv 0) (dv 1)) (dv 2)))) (λ_ _ _ _=>(dv 1))) aA))))
theorem N6(T:HX K mg):d7 P w K mg base 1 "_law_ways" 2 uD:=
 fH (k:=0) (g:=BL) T.uY gO rfl rfl λcdv A outer s H E hr=>(aJ (Pn 2 gO.nd ["_law_x"] [] rfl (by kernel_rfl) (by kernel_rfl) (fM rfl T.fD (aj (dv 0) aA)) (aX (by decide)) (λ_ _ _ _ nd=>bx 0 nd) (λ_ _ _ _=>bY) (λ_ _ _ _=>(cC (aj (dv 0) aA)))) (aJ (jL adg rfl (fM rfl T.fD (aj (aM cJ (dv 1) aH) aA)) (jK 3 gO.nd) (aJ (bF 4 gO.nd (eX aA)) (aJ (jL adg rfl (dM (dv 2)) (jK 5 gO.nd) (aL (bF 4 gO.nd (aM cD (dv 4) (bW ["_law_x"] [0,5] rfl (by kernel_rfl) (by kernel_rfl) (dM (cC (aj (aM cJ (bH (dv 5) (rO aH)) aH) (aj (bH (dv 5) (rO aH)) (aj (aM cD (bH (dv 5) (rO aH)) aH) aA))))) (aX (by decide)) (λ_ _ _ _ nd=>bx 0 nd) (λ_ _ _ _=>(Am (DW.dt (yq (bK wz aH (dv 0)) (vH (bK Ah (dv 0) (dv 1))))))) (λ_ _ _ _=>(aM cD (dv 2) (cC (aj (dv 0) aA))))))))) (aL (bF 2 gO.nd (dv 4)))))) (aL (bf (dv 2)))))
theorem N7(T:HX K mg):d7 P w K mg base 4 "_law_best" 3 pA:=
 fH (k:=3) (g:=BP) T.uZ jY rfl rfl λcdv A outer s H E hr=>(aJ (bF 3 jY.nd jg) (aJ (jL adg rfl (dM (bA (N6 T) hr (by decide) (aj (aW cL rfl T.cW PySem.boot_len (aj (bH (dv 0) aH) aA)) (aj (aW cL rfl T.cW PySem.boot_len (aj (dv 0) aA)) aA)))) (jK 4 jY.nd) (aL (dD (bK (iH (cV hr)) (bA (zZ T) hr (by decide) (aj (dv 2) (aj (dv 4) (aj aH aA)))) aH) (aJ (bF 5 jY.nd (cC (aj (rO (bA (zZ T) hr (by decide) (aj (dv 2) (aj (dv 4) (aj aH aA))))) (aj (bA (Ci T) hr (by decide) (aj (dv 0) (aj (dv 1) (aj (dv 4) aA)))) (aj (dv 4) aA))))) (aL (bF 3 jY.nd (wA (DW.dt (Dy (bK QL (dv 3) jg) (yp (bK (Z1 (Ew hr)) (dv 5) (dv 3))))) (dv 5) (dv 3))))) cH))) (aL (bf (wA (bK QL (dv 3) jg) jg (bH (dv 3) aH))))))
theorem RK(T:HX K mg):d7 P w K mg base 1 "_law_cut" 2 qT:=
 fH (k:=0) (g:=Fb) T.xg NP rfl rfl λcdv A outer s H E hr=>(aL (bf (eZ fB rfl T.eF adE (aj (bW ["_law_row","_law_x"] [] rfl (by kernel_rfl) (by kernel_rfl) (Ax rfl T.Br (aj (dv 0) (aj (dv 1) aA))) (gB (bM (aX (by decide)) (bM (aX (by decide)) gA))) (λ_ _ _ _ nd=>lu rfl (cB (bx 0 nd) (cB (bx 1 nd) jk))) (λ_ _ _ _=>bY) (λ_ _ _ _=>(eZ fB rfl T.eF adE (aj (bW ["_law_at_here","_law_one"] [1] rfl (by kernel_rfl) (by kernel_rfl) (vU rfl T.iG (aj (dv 0) aA)) (gB (bM (aX (by decide)) (bM (aX (by decide)) gA))) (λ_ _ _ _ nd=>lu rfl (cB (bx 0 nd) (cB (bx 1 nd) jk))) (λ_ _ _ _=>(Am (bK (oZ (cV hr)) (dv 0) (dv 2)))) (λ_ _ _ _=>(dv 1))) aA)))) aA))))
theorem N8(T:HX K mg):d7 P w K mg base 1 "_law_free" 1 uE:=
 fH (k:=0) (g:=BR) T.u6 Mv rfl rfl λcdv A outer s H E hr=>(aL (bf (eZ fB rfl T.eF adE (aj (bW ["_law_row"] [] rfl (by kernel_rfl) (by kernel_rfl) (dM (dv 0)) (aX (by decide)) (λ_ _ _ _ nd=>bx 0 nd) (λ_ _ _ _=>bY) (λ_ _ _ _=>(aM vR (cC (aj aH aA)) (aW cL rfl T.cW PySem.boot_len (aj (dv 0) aA))))) aA))))
theorem xY(T:HX K mg):d7 P w K mg base 1 "_law_turned" 1 lM:=
 fH (k:=0) (g:=xM) T.qF Ho rfl rfl λcdv A outer s H E hr=>(aL (bf (eZ fB rfl T.eF adE (aj (bW ["_law_x"] [0] rfl (by kernel_rfl) (by kernel_rfl) (fM rfl T.fD (aj (aW cL rfl T.cW PySem.boot_len (aj (bH (dv 0) aH) aA)) aA)) (aX (by decide)) (λ_ _ _ _ nd=>bx 0 nd) (λ_ _ _ _=>bY) (λ_ _ _ _=>(eZ fB rfl T.eF adE (aj (bW ["_law_row"] [0] rfl (by kernel_rfl) (by kernel_rfl) (dM (dv 1)) (aX (by decide)) (λ_ _ _ _ nd=>bx 0 nd) (λ_ _ _ _=>bY) (λ_ _ _ _=>(bH (dv 0) (dv 1)))) aA)))) aA))))
theorem Aa(T:HX K mg):d7 P w K mg base 5 "_law_by" 3 pO:=
 fH (k:=4) (g:=IK) T.zR je rfl rfl λcdv A outer s H E hr=>(aJ (bF 3 je.nd aH) (aJ (jL adg rfl (G3 (dv 1)) (jK 4 je.nd) (aJ (bF 5 je.nd (wA (bK (iH (cV hr)) (dv 4) cI) (dv 0) (bA (xY T) hr (by decide) (aj (dv 0) aA)))) (aJ (bF 6 je.nd (bA (N7 T) hr (by decide) (aj (dv 5) (aj (dv 2) (aj (bA (N8 T) hr (by decide) (aj (dv 5) aA)) aA))))) (aJ (DR 3 5 rfl je.nd (aM cD (dv 3) (bA (Ci T) hr (by decide) (aj (dv 5) (aj (dv 2) (aj (dv 6) aA))))) (bA (RK T) hr (by decide) (aj (dv 5) (aj (dv 6) aA)))) (aL (bF 0 je.nd (wA (bK (iH (cV hr)) (dv 4) cI) (dv 5) (bA (xY T) hr (by decide) (aj (dv 5) aA))))))))) (aL (bf (cC (aj (dv 3) (aj (dv 0) aA)))))))
theorem eE(T:HX K mg):d7 P w K mg base 1 "_law_drawn" 3 dg:=
 fH (k:=0) (g:=yQ) T.tK dI rfl rfl λcdv A outer s H E hr=>(aJ (bF 3 dI.nd (aM pH aH (dv 1))) (aJ (dD (bK (oZ (cV hr)) (dv 0) (eX aA)) (aJ (bF 3 dI.nd (bH (dv 0) (aM pI (dv 1) (aW cL rfl T.cW PySem.boot_len (aj (dv 0) aA))))) (aJ (bF 4 dI.nd (aM rE (dv 1) (aW cL rfl T.cW PySem.boot_len (aj (dv 0) aA)))) (aJ (dD (DW.dt (yq (bK aaQ (dv 3) (aM Sd aH aH)) (vH (bK Ah (dv 4) aH)))) (aJ (bF 5 dI.nd (aM rE (dv 3) (aM Sd aH aH))) (aJ (Ke 64 adg (DW.dt (yq (bK Dw (dv 5) aH) (vH (bK Dw (dv 4) aH)))) (aJ (bF 5 dI.nd (aM rE (dv 5) aH)) (aL (bF 4 dI.nd (aM cJ (dv 4) aH))))) (aL (dD (bK Dw (dv 5) aH) (aL (bf (aM pI (aM pI (dv 5) aH) (dv 2)))) cH)))) cH) (aL (bF 3 dI.nd (aM pL (dv 3) (aM pH aH (aM rE (dv 1) (aW cL rfl T.cW PySem.boot_len (aj (dv 0) aA)))))))))) cH) (aJ (bF 3 dI.nd (aM pI (aM pL (aM pH (aM pI (dv 3) aH) aH) (aM pH aH (aM pL (dv 1) aH))) aH)) (aJ (bF 3 dI.nd (aM pI (aM pL (aM pH (dv 3) (dv 3)) (aM rE (dv 3) aH)) aH)) (aL (bf (aM pI (aM rE (aM pI (aM pL (aM pH (dv 3) (dv 3)) (aM rE (dv 3) aH)) aH) aH) (dv 2))))))))
theorem JG(T:HX K mg):d7 P w K mg base 2 "_law_manner" 2 qb:=
 fH (k:=1) (g:=xO) T.qG Hq rfl rfl λcdv A outer s H E hr=>(aL (bf (bH (eX (aj cI (aj cI aA))) (bA (eE T) hr (by decide) (aj (dv 0) (aj (dv 1) (aj aH aA)))))))
theorem RL(T:HX K mg):d7 P w K mg base 1 "all_free" 1 wM:=
  fH (k:=0) (g:=Fd) T.xq NQ rfl rfl fun cdv A outer s H E hr=>(by
    obtain⟨abN,aaE⟩:=T.Mz
    exact (aL (bf (aM vR (cC (aj (aM vR (cC (aj (nR rfl aaE) aA)) (aW cL rfl T.cW PySem.boot_len (aj (bH (dv 0) aH) aA))) aA)) (aW cL rfl T.cW PySem.boot_len (aj (dv 0) aA))))))
theorem JH(T:HX K mg):d7 P w K mg base 1 "cells_along" 2 qd:=
 fH (k:=0) (g:=xP) T.qH Hr rfl rfl λcdv A outer s H E hr=>(aL (bf (eZ fB rfl T.eF adE (aj (bW ["row","place"] [] rfl (by kernel_rfl) (by kernel_rfl) (Ax rfl T.Br (aj (dv 0) (aj (dv 1) aA))) (gB (bM (aX (by decide)) (bM (aX (by decide)) gA))) (λ_ _ _ _ nd=>lu rfl (cB (bx 0 nd) (cB (bx 1 nd) jk))) (λ_ _ _ _=>bY) (λ_ _ _ _=>(bH (dv 0) (dv 1)))) aA))))
theorem M6(T:HX K mg):d7 P w K mg base 1 "gaps" 1 yR:=
 fH (k:=0) (g:=Ue) T.MP QC rfl rfl λcdv A outer s H E hr=>(aJ (bF 1 QC.nd (aM cJ (aW cL rfl T.cW PySem.boot_len (aj (dv 0) aA)) aH)) (aL (bf (bW ["at"] [1,0] rfl (by kernel_rfl) (by kernel_rfl) (fM rfl T.fD (aj (aW cL rfl T.cW PySem.boot_len (aj (dv 0) aA)) aA)) (aX (by decide)) (λ_ _ _ _ nd=>bx 0 nd) (λ_ _ _ _=>bY) (λ_ _ _ _=>(aW vO rfl T.ug agz (aj (aM cJ (bH (dv 2) (aW (vP rfl) rfl T.uh agy (aj (aM cJ (dv 0) aH) (aj aH aA)))) (bH (dv 2) (aW (pN rfl) rfl T.nu ae7 (aj (aM cD (dv 0) aH) (aj (dv 1) aA))))) aA)))))))
theorem M7(T:HX K mg):d7 P w K mg base 2 "join_fares" 2 rY:=
 fH (k:=1) (g:=yS) T.tL eN rfl rfl λcdv A outer s H E hr=>(aJ (bF 2 eN.nd (bH (dv 0) (dv 1))) (aJ (bF 3 eN.nd (bH (dv 0) (aW (vP rfl) rfl T.uh agy (aj (aM cJ (dv 1) aH) (aj aH aA))))) (aJ (bF 4 eN.nd (aM cJ (aW cL rfl T.cW PySem.boot_len (aj (dv 2) aA)) aH)) (aJ (nZ 5 eN.nd aA) (aJ (jL adg rfl (vU rfl T.iG (aj (bA (M6 T) hr (by decide) (aj (dv 2) aA)) aA)) (Gw 6 7 rfl eN.nd) (aJ (bF 8 eN.nd (aM cD (dv 7) (aW vO rfl T.ug agz (aj (aM cJ (bH (dv 3) (dv 6)) (bH (dv 2) (aW (vP rfl) rfl T.uh agy (aj (aM cJ (dv 6) aH) (aj aH aA))))) aA)))) (aJ (bF 9 eN.nd (aM cD (dv 7) (aW vO rfl T.ug agz (aj (aM cJ (bH (dv 3) (dv 6)) (bH (dv 2) (aW (pN rfl) rfl T.nu ae7 (aj (aM cD (dv 6) aH) (aj (dv 4) aA))))) aA)))) (aL (vK 5 (cC (aj (dv 8) (aj (dv 7) (aj (dv 9) aA))))))))) (aL (bf (dv 5))))))))
theorem Js(T:HX K mg):d7 P w K mg base 1 "is_line" 1 pP:=
  fH (k:=0) (g:=IV) T.zT Ru rfl rfl fun cdv A outer s H E hr=>(by
    obtain⟨aaN,Oa⟩:=T.uU
    exact (aL (bf (yj (Aq (ans:=tW) T.wk (dv 0) rfl T.fY aeY rfl T.eF adE) (yh (J7 wz wz aH (aW cL rfl T.cW PySem.boot_len (aj (dv 0) aA)) (nR rfl Oa)))))))
theorem FZ(T:HX K mg):d7 P w K mg base 1 "is_whole" 1 mY:=
 fH (k:=0) (g:=Fe) T.xr NT rfl rfl λcdv A outer s H E hr=>(aL (bf (yj (Aq (ans:=Av) T.FN (dv 0) rfl T.fY aeY rfl T.RB boot_int) (yh (Y6 (Aq (ans:=wF) T.zN (dv 0) rfl T.fY aeY rfl T.MK boot_bool))))))
theorem Vd(T:HX K mg):d7 P w K mg base 2 "is_cell" 1 yU:=
  fH (k:=1) (g:=IW) T.zU Rv rfl rfl fun cdv A outer s H E hr=>(by
    obtain⟨aaO,Oc⟩:=T.uT
    exact (aL (bf (yj (bA (FZ T) hr (by decide) (aj (dv 0) aA)) (yh (J7 wz wz aH (dv 0) (nR rfl Oc)))))))
theorem WD(T:HX K mg):d7 P w K mg base 3 "is_row" 1 CW:=
 fH (k:=2) (g:=Lf) T.Dl Vc rfl rfl λcdv A outer s H E hr=>(aL (bf (yj (bA (Js T) hr (by decide) (aj (dv 0) aA)) (yh (aW (DQ rfl) rfl T.Bq boot_all (aj (bW ["cell"] [] rfl (by kernel_rfl) (by kernel_rfl) (dM (dv 0)) (aX (by decide)) (λ_ _ _ _ nd=>bx 0 nd) (λ_ _ _ _=>bY) (λ_ _ _ _=>(bA (Vd T) hr (by decide) (aj (dv 0) aA)))) aA))))))
theorem M8(T:HX K mg):d7 P w K mg base 4 "is_picture" 1 rZ:=
 fH (k:=3) (g:=yV) T.tM JB rfl rfl λcdv A outer s H E hr=>(aJ (dD (DW.dt (Dy (lq (rA (bA (Js T) hr (by decide) (aj (dv 0) aA)))) (yp (lq (rA (aW (DQ rfl) rfl T.Bq boot_all (aj (bW ["row"] [] rfl (by kernel_rfl) (by kernel_rfl) (dM (dv 0)) (aX (by decide)) (λ_ _ _ _ nd=>bx 0 nd) (λ_ _ _ _=>bY) (λ_ _ _ _=>(bA (WD T) hr (by decide) (aj (dv 0) aA)))) aA))))))) (aL (bf j7)) cH) (aL (bf (aW (DQ rfl) rfl T.Bq boot_all (aj (bW ["row"] [0] rfl (by kernel_rfl) (by kernel_rfl) (dM (dv 0)) (aX (by decide)) (λ_ _ _ _ nd=>bx 0 nd) (λ_ _ _ _=>bY) (λ_ _ _ _=>(yd (iH (cV hr)) (aW cL rfl T.cW PySem.boot_len (aj (dv 0) aA)) (aW cL rfl T.cW PySem.boot_len (aj (bH (dv 1) aH) aA))))) aA)))))
theorem wu(T:HX K mg):d7 P w K mg base 5 "need_picture" 1 kh:=
 fH (k:=4) (g:=vW) T.oX Fz rfl rfl λcdv A outer s H E hr=>(aL (dD (lq (rA (bA (M8 T) hr (by decide) (aj (dv 0) aA)))) (aL Kd) cH))
theorem Ab(T:HX K mg):d7 P w K mg base 6 "size_of" 1 pQ:=
 fH (k:=5) (g:=Ja) T.zV Rx rfl rfl λcdv A outer s H E hr=>(aJ (mj (bA (wu T) hr (by decide) (aj (dv 0) aA))) (aL (bf (cC (aj (aW cL rfl T.cW PySem.boot_len (aj (bH (dv 0) aH) aA)) (aj (aW cL rfl T.cW PySem.boot_len (aj (dv 0) aA)) aA))))))
theorem Ds(T:HX K mg):d7 P w K mg base 7 "turned" 1 su:=
 fH (k:=6) (g:=Lg) T.Dm Jq rfl rfl λcdv A outer s H E hr=>(aJ (jm 1 2 rfl Jq.nd (bA (Ab T) hr (by decide) (aj (dv 0) aA))) (aL (bf (eZ fB rfl T.eF adE (aj (bW ["x"] [2,0] rfl (by kernel_rfl) (by kernel_rfl) (fM rfl T.fD (aj (dv 1) aA)) (aX (by decide)) (λ_ _ _ _ nd=>bx 0 nd) (λ_ _ _ _=>bY) (λ_ _ _ _=>(eZ fB rfl T.eF adE (aj (bW ["y"] [2,0] rfl (by kernel_rfl) (by kernel_rfl) (fM rfl T.fD (aj (dv 1) aA)) (aX (by decide)) (λ_ _ _ _ nd=>bx 0 nd) (λ_ _ _ _=>bY) (λ_ _ _ _=>(bH (bH (dv 1) (dv 0)) (dv 2)))) aA)))) aA)))))
theorem WK(T:HX K mg):d7 P w K mg base 8 "worths" 1 CZ:=
 fH (k:=7) (g:=Lh) T.Dn uf rfl rfl λcdv A outer s H E hr=>(aJ (jm 1 2 rfl uf.nd (bA (Ab T) hr (by decide) (aj (dv 0) aA))) (aJ (bF 3 uf.nd (bW ["row"] [] rfl (by kernel_rfl) (by kernel_rfl) (dM (dv 0)) (aX (by decide)) (λ_ _ _ _ nd=>bx 0 nd) (λ_ _ _ _=>bY) (λ_ _ _ _=>(bA (M6 T) hr (by decide) (aj (dv 0) aA))))) (aJ (bF 4 uf.nd (bW ["column"] [] rfl (by kernel_rfl) (by kernel_rfl) (dM (bA (Ds T) hr (by decide) (aj (dv 0) aA))) (aX (by decide)) (λ_ _ _ _ nd=>bx 0 nd) (λ_ _ _ _=>bY) (λ_ _ _ _=>(bA (M6 T) hr (by decide) (aj (dv 0) aA))))) (aL (bf (eZ fB rfl T.eF adE (aj (bW ["y"] [3,4,1] rfl (by kernel_rfl) (by kernel_rfl) (fM rfl T.fD (aj (dv 2) aA)) (aX (by decide)) (λ_ _ _ _ nd=>bx 0 nd) (λ_ _ _ _=>bY) (λ_ _ _ _=>(eZ fB rfl T.eF adE (aj (bW ["x"] [1,2,0] rfl (by kernel_rfl) (by kernel_rfl) (fM rfl T.fD (aj (dv 3) aA)) (aX (by decide)) (λ_ _ _ _ nd=>bx 0 nd) (λ_ _ _ _=>bY) (λ_ _ _ _=>(aM cD (bH (bH (dv 1) (dv 3)) (dv 0)) (bH (bH (dv 2) (dv 0)) (dv 3))))) aA)))) aA)))))))
theorem YS(T:HX K mg):d7 P w K mg base 9 "fares" 2 vX:=
 fH (k:=8) (g:=Qg) T.Hw Wz rfl rfl λcdv A outer s H E hr=>(aJ (dD (bK (iH (cV hr)) (dv 1) cI) (aL (bf (bW ["row"] [] rfl (by kernel_rfl) (by kernel_rfl) (dM (bA (WK T) hr (by decide) (aj (dv 0) aA))) (aX (by decide)) (λ_ _ _ _ nd=>bx 0 nd) (λ_ _ _ _=>bY) (λ_ _ _ _=>(bW ["worth"] [] rfl (by kernel_rfl) (by kernel_rfl) (dM (dv 0)) (aX (by decide)) (λ_ _ _ _ nd=>bx 0 nd) (λ_ _ _ _=>bY) (λ_ _ _ _=>(cC (aj (dv 0) (aj (dv 0) (aj (dv 0) aA)))))))))) cH) (aL (bf (bW ["y"] [0] rfl (by kernel_rfl) (by kernel_rfl) (fM rfl T.fD (aj (aW cL rfl T.cW PySem.boot_len (aj (dv 0) aA)) aA)) (aX (by decide)) (λ_ _ _ _ nd=>bx 0 nd) (λ_ _ _ _=>bY) (λ_ _ _ _=>(bA (M7 T) hr (by decide) (aj (dv 1) (aj (dv 0) aA))))))))
theorem Jt(T:HX K mg):d7 P w K mg base 1 "fare_of" 3 mF:=
 fH (k:=0) (g:=Jb) T.zW Ry rfl rfl λcdv A outer s H E hr=>(aL (bf (bH (bH (dv 0) (dv 2)) (aM cD (aM cJ (dv 1) (dv 2)) aH))))
theorem aaF(T:HX K mg):d7 P w K mg base 1 "near" 2 Li:=
 fH (k:=0) (g:=Ug) T.M4 YQ rfl rfl λcdv A outer s H E hr=>(aL (bf (V6 rfl rfl T.MN rfl T.fD (aj (aW (vP rfl) rfl T.uh agy (aj (aM cJ (dv 0) aH) (aj aH aA))) (aj (aW (pN rfl) rfl T.nu ae7 (aj (aM cD (dv 0) aH) (aj (dv 1) aA))) aA)))))
theorem Dt(T:HX K mg):d7 P w K mg base 2 "onward" 3 wN:=
 fH (k:=1) (g:=Lj) T.Dq pW rfl rfl λcdv A outer s H E hr=>(aJ (nZ 3 pW.nd aA) (aJ (jL adg rfl (dM (bA (aaF T) hr (by decide) (aj (dv 2) (aj (aW cL rfl T.cW PySem.boot_len (aj (dv 0) aA)) aA)))) (jK 4 pW.nd) (aJ (bF 5 pW.nd (bA (Jt T) hr (by decide) (aj (dv 1) (aj (dv 2) (aj (dv 4) aA))))) (aL (PN 3 pW.nd (bW ["less","cost","rest"] [5] rfl (by kernel_rfl) (by kernel_rfl) (dM (bH (dv 0) (dv 4))) (gB (bM (aX (by decide)) (bM (aX (by decide)) (bM (aX (by decide)) gA)))) (λ_ _ _ _ nd=>lu rfl (cB (bx 0 nd) (cB (bx 1 nd) (cB (bx 2 nd) jk)))) (λ_ _ _ _=>bY) (λ_ _ _ _=>(cC (aj (dv 0) (aj (aM cD (dv 1) (dv 3)) (aj (dv 2) aA)))))))))) (aL (bf (dv 3)))))
theorem WL{A:acg}{s:abZ}{H:Hp}{E:XK}(T:Txt K mg)(Dt:d7 P w K mg base 2 "onward" 3 wN){aG:Nat}{GG:List D->R D}(hG:yH P w K mg base 1 GG 2 aG H)(hr:Room 2 (A.deeper (adF "swept" (defScope rm) s.heap.objs.size f cdv))):jB (cxOf CX0 P w K mg base ["table","marks","start","gather","rows","y","row","x","mark","told","lost"] "swept" (defScope rm) f cdv A outer s H E).nox (defBody rm) (G5 aG GG):=by
 obtain⟨abO,aaG⟩:=T.MF;obtain⟨abP,aaH⟩:=T.MJ;exact (aJ (nZ 4 jf.nd aA) (aJ (jL adg rfl (Yg rfl T.w6 rfl T.fD (aj (aW cL rfl T.cW PySem.boot_len (aj (dv 1) aA)) aA)) (jK 5 jf.nd) (aJ (nZ 6 jf.nd aA) (aJ (jL adg rfl (vU rfl T.iG (aj (bH (dv 1) (dv 5)) aA)) (Gw 7 8 rfl jf.nd) (aJ (dD (bK (iH (cV hr)) (dv 8) (nR rfl aaH)) (aL (bF 9 jf.nd (eX aA))) (aL (dD (lq (TX (dv 4))) (aL (bF 9 jf.nd (K1 3 hG hr (by decide) (aj (dv 7) (aj (eX (aj (cC (aj aH (aj aH (aj (dv 2) aA)))) aA)) aA))))) (aL (bF 9 jf.nd (K1 3 hG hr (by decide) (aj (dv 7) (aj (bA Dt hr (by decide) (aj (ZV 4 (rO aH)) (aj (bH (dv 0) (aM cD (dv 5) aH)) (aj (dv 7) aA)))) aA)))))))) (aJ (bF 10 jf.nd (wA (bK (iH (cV hr)) (dv 8) (nR rfl aaG)) aH aH)) (aL (vK 6 (bW ["less","cost","rest"] [10] rfl (by kernel_rfl) (by kernel_rfl) (dM (dv 9)) (gB (bM (aX (by decide)) (bM (aX (by decide)) (bM (aX (by decide)) gA)))) (λ_ _ _ _ nd=>lu rfl (cB (bx 0 nd) (cB (bx 1 nd) (cB (bx 2 nd) jk)))) (λ_ _ _ _=>bY) (λ_ _ _ _=>(cC (aj (aM cJ (dv 0) (dv 3)) (aj (dv 1) (aj (dv 2) aA))))))))))) (aL (Yd 4 6 (by decide)))))) (aL (bf (Yc (dv 4))))))
theorem HD(T:HX K mg):FnS P w K mg base 3 "swept" 1 3 2 vY:=by
 obtain⟨f,fd,Fn,hmg,hb⟩:=T.Hx;exact⟨f,fd,["table","marks","start","gather"],fnS (k:=2) (m:=7) (g:=G5) Fn jf rfl rfl λcdv A outer s H E a G hr hG=>WL T.toTxt (Dt T) hG hr,hmg,Fn.kp,hb⟩
theorem M9{cc TP:abX}{A:acg}{s:abZ}{H:Hp}{E:XK}(T:Txt K mg)(HD:FnS P w K mg base 3 "swept" 1 3 2 vY)(hB:pq base mg cc TP)(hT:Tb [(TP,"best_ways.<locals>.first_ones")] H)(hr:Room 3 (A.deeper (adF "best_ways" (defScope iC) s.heap.objs.size f (.ref cc)))):jB (cxOf CX0 P w K mg base ["table","marks","many","first_ones"] "best_ways" (defScope iC) f (.ref cc) A outer s H E).nox (defBody iC) uF:=by
 obtain⟨fS,K4,Io,Sw,hm,hk,hb⟩:=HD;exact V5 (c:=s.heap.objs.size+1) (y:= "many") 3 2 zH.nd hB hT rfl Sw (hr.mono (by decide)) hm hk hb (Hz T ) (dv 0) (dv 1) (cC aA) rfl rfl rfl rfl (by decide) (.inl rfl)
theorem Od(T:HB K mg base cN TP):ni P w K mg base 4 "best_ways" 3 uG ["table","marks","many"] (tz TP):=by
 obtain⟨f,fd,Fn,hmg,hb⟩:=T.u9;refine⟨fd,⟨f,ZK (k:=3) (m:=1) (g:=uF) Fn zH rfl rfl λcdv A outer s H E hcd hr hT=>?_,hmg,Fn.kp⟩,hb⟩;have e:fd.code= .ref cN:=by
  obtain⟨oc,od,kV,doc,pm,an,abV,ct,osl,e1,lk,_⟩:=Fn.ex;exact T.hC f oc od fd osl hmg lk
 cases hcd.symm.trans e;exact M9 T.toHX.toTxt (HD T.toHX) T.hB hT hr
theorem RM(T:HX K mg):d7 P w K mg base 2 "from_top" 2 wO:=
 fH (k:=1) (g:=Fg) T.xu lJ rfl rfl λcdv A outer s H E hr=>(aJ (nZ 2 lJ.nd aA) (aJ (jL adg rfl (vU rfl T.iG (aj (bH (dv 1) aH) aA)) (Gw 3 4 rfl lJ.nd) (aJ (bF 5 lJ.nd (bA (Jt T) hr (by decide) (aj (bH (dv 0) aH) (aj (dv 3) (aj (dv 3) aA))))) (aL (PN 2 lJ.nd (bW ["less","cost","rest"] [5] rfl (by kernel_rfl) (by kernel_rfl) (dM (dv 4)) (gB (bM (aX (by decide)) (bM (aX (by decide)) (bM (aX (by decide)) gA)))) (λ_ _ _ _ nd=>lu rfl (cB (bx 0 nd) (cB (bx 1 nd) (cB (bx 2 nd) jk)))) (λ_ _ _ _=>bY) (λ_ _ _ _=>(cC (aj (dv 0) (aj (aM cD (dv 1) (dv 3)) (aj (dv 2) aA)))))))))) (aL (bf (dv 2)))))
theorem JK(T:HB K mg base cN TP):ni P w K mg base 5 "first_seams" 3 qe ["table","marks","many"] (tz TP):=
 zq (k:=4) (m:=0) (g:=xQ) T.qI Ht rfl rfl λcdv A outer s H E _ hr hT=>((aL (bf (Ir (aW (K9 (Ew hr)) rfl T.tE boot_sorted (aj (bA (RM T.toHX) hr (by decide) (aj (dv 0) (aj (dY (Od T) hT hr (by decide) (aj (dv 0) (aj (dv 1) (aj (dv 2) aA)))) aA))) aA)) rP (rQ (dv 2))))))
theorem Oe(T:HB K mg base cN TP):ni P w K mg base 6 "least_way" 2 pB ["table","marks"] (tz TP):=
 zq (k:=5) (m:=4) (g:=BW) T.vd sZ rfl rfl λcdv A outer s H E _ hr hT=>((aJ (bF 2 sZ.nd (dY (JK T) hT hr (by decide) (aj (dv 0) (aj (dv 1) (aj aH aA))))) (aJ (dD (lq (TX (dv 2))) (aL (bf jg)) cH) (aJ (GR 3 4 5 rfl sZ.nd (bH (dv 2) aH)) (aL (bf (cC (aj (dv 4) (aj (dv 5) aA)))))))))
theorem Ju(T:HX K mg):d7 P w K mg base 1 "without" 2 tZ:=
 fH (k:=0) (g:=Jc) T.zX Rz rfl rfl λcdv A outer s H E hr=>(aL (bf (eZ fB rfl T.eF adE (aj (bW ["row","place"] [] rfl (by kernel_rfl) (by kernel_rfl) (Ax rfl T.Br (aj (dv 0) (aj (dv 1) aA))) (gB (bM (aX (by decide)) (bM (aX (by decide)) gA))) (λ_ _ _ _ nd=>lu rfl (cB (bx 0 nd) (cB (bx 1 nd) jk))) (λ_ _ _ _=>bY) (λ_ _ _ _=>(aM cD (Cu (dv 0) rP (rQ (dv 1))) (Cu (dv 0) (rQ (aM cD (dv 1) aH)) rP)))) aA))))
theorem YT(T:HB K mg base cN TP):ni P w K mg base 10 "taken" 4 Bd ["picture","many","manner","marks"] (tz TP):=
 zq (k:=9) (m:=7) (g:=Qh) T.Hy jZ rfl rfl λcdv A outer s H E _ hr hT=>((aJ (DR 4 5 rfl jZ.nd (dv 0) (dv 3)) (aJ (nZ 6 jZ.nd aA) (aJ (bF 7 jZ.nd aH) (aJ (Ke 64 adg (bK Ah (aW cL rfl T.cW PySem.boot_len (aj (dv 6) aA)) (dv 1)) (aJ (bF 8 jZ.nd (dY (Oe T) hT hr (by decide) (aj (bA (YS T.toHX) hr (by decide) (aj (dv 4) (aj (dv 2) aA))) (aj (dv 5) aA)))) (aJ (dD (bK QL (dv 8) jg) (aL (bf jg)) cH) (aJ (jm 9 10 rfl jZ.nd (dv 8)) (aJ (vK 6 (cC (aj (dv 10) (aj (bA (JH T.toHX) hr (by decide) (aj (dv 4) (aj (dv 10) aA))) aA)))) (aJ (Zz 7 jZ.nd (dv 9)) (aL (DR 4 5 rfl jZ.nd (bA (Ju T.toHX) hr (by decide) (aj (dv 4) (aj (dv 10) aA))) (bA (Ju T.toHX) hr (by decide) (aj (dv 5) (aj (dv 10) aA))))))))))) (aL (bf (cC (aj (dv 4) (aj (dv 6) (aj (dv 7) aA)))))))))))
theorem vg(T:HB K mg base cN TP):ni P w K mg base 11 "by_column" 2 lH ["picture","manner"] (tz TP):=
 zq (k:=10) (m:=3) (g:=BX) T.vf zK rfl rfl λcdv A outer s H E _ hr hT=>((aJ (GR 2 3 4 rfl zK.nd (dY (YT T) hT hr (by decide) (aj (dv 0) (aj aH (aj (dv 1) (aj (bA (RL T.toHX) hr (by decide) (aj (dv 0) aA)) aA)))))) (aL (bf (cC (aj (dv 4) (aj (dv 2) aA)))))))
theorem Nb(T:HB K mg base cN TP):ni P w K mg base 12 "by_row" 2 wQ ["picture","manner"] (tz TP):=
 zq (k:=11) (m:=2) (g:=Ln) T.Dr Jr rfl rfl λcdv A outer s H E _ hr hT=>((aJ (jm 2 3 rfl Jr.nd (dY (vg T) hT hr (by decide) (aj (bA (Ds T.toHX) hr (by decide) (aj (dv 0) aA)) (aj (dv 1) aA)))) (aL (bf (cC (aj (dv 2) (aj (bA (Ds T.toHX) hr (by decide) (aj (dv 3) aA)) aA)))))))
theorem vh(T:HB K mg base cN TP):∀j:Nat,ni P w K mg base (13+j) "best_from" 4 (dG j) ["picture","down","across","manner"] (tz TP)
 |0=>zq (k:=12) (m:=5) (g:=λ_=> .bad) T.pF gP rfl rfl λcdv A outer s H E _ hr hT=>Qf
 | j+1=>zq (k:=13+j) (m:=5) (g:=BZ (dG j)) T.pF gP rfl rfl λcdv A outer s H E _ hr0 hT=>
  have hr:Room 12 _:=hr0.mono (by omega)
  ((aJ (dD (DW.dt (yq (bK (iH (cV hr)) (dv 1) aH) (vH (bK (iH (cV hr)) (dv 2) aH)))) (aL (bf (cC (aj aH (aj cI aA))))) cH) (aJ (nZ 4 gP.nd aA) (aJ (dD (bK Dw (dv 2) aH) (aJ (jm 5 6 rfl gP.nd (dY (vg T) hT hr (by decide) (aj (dv 0) (aj (dv 3) aA)))) (aJ (jm 7 8 rfl gP.nd (dY (vh T j) hT hr0 (z0g _) (aj (dv 6) (aj (dv 1) (aj (aM cJ (dv 2) aH) (aj (dv 3) aA)))))) (aL (vK 4 (cC (aj (aM mD (dv 5) (dv 7)) (aj (aM mD cI (dv 8)) aA))))))) cH) (aJ (dD (bK Dw (dv 1) aH) (aJ (jm 5 6 rfl gP.nd (dY (Nb T) hT hr (by decide) (aj (dv 0) (aj (dv 3) aA)))) (aJ (jm 7 8 rfl gP.nd (dY (vh T j) hT hr0 (z0g _) (aj (dv 6) (aj (aM cJ (dv 1) aH) (aj (dv 2) (aj (dv 3) aA)))))) (aL (vK 4 (cC (aj (aM mD (dv 5) (dv 7)) (aj (aM mD cI (dv 8)) aA))))))) cH) (aL (bf (aW (Yn rfl (aac hr)) rfl T.nu ae7 (aj (dv 4) aA)))))))))
theorem Og(T:HB K mg base cN TP):ni P w K mg base 17 "best_from" 4 Ca ["picture","down","across","manner"] (tz TP):=vh T 4
theorem xZ(T:HX K mg):d7 P w K mg base 1 "need_manner" 1 lN:=
 fH (k:=0) (g:=xR) T.qJ Hv rfl rfl λcdv A outer s H E hr=>(aL (dD (bK Vv (dv 0) (XR (ss:=["worth","joins"]) rfl T.zM) (by rfl)) (aL Kd) cH))
theorem Ac(T:HB K mg base cN TP):Rr P w K mg base 2 "need_width" 3 jU ["thing","least","most"] (tz TP):=
  abL (k:=1) (m:=0) (g:=yX) T.tO JC rfl rfl fun cdv A outer s H E hr hT=>((by
    obtain⟨cQ,zP⟩:=T.zP
    exact (aL (dD (DW.dt (Dy (lq (rA (bA (FZ T.toHX) hr (by decide) (aj (dv 0) aA)))) (yp (lq (Vo wz wz (dv 1) (dv 0) (dv 2)))))) (aL (T8 rfl zP (aj (aa5 (dv 1) (dv 2)) aA))) cH))))
theorem gR(T:HB K mg base cN TP):∃fd,Le P w K mg base 18 "best_order" 4 fV fd ["picture","down","across","manner"] (tz TP)∧(∃cX,KB K fd ["picture","down","across","manner"] [] [.inr (.str "worth" cX)])∧KB K fd ["picture","down","across","manner"] ["manner"] [.inl 0]:=by
  obtain⟨f,fd,Fn,hmg,B⟩:=T.M5
  exact⟨fd,⟨f,V8 (k:=17) (m:=2) (g:=yZ) Fn xX rfl rfl fun cdv A outer s H E hr hT=>((by
    obtain⟨aaI,Ad⟩:=T.tD
    exact (aJ (jm 4 5 rfl xX.nd (bA (Ab T.toHX) hr (by decide) (aj (dv 0) aA))) (aJ (mj (bA (xZ T.toHX) hr (by decide) (aj (dv 3) aA))) (aJ (mj (QB (Ac T) hT hr (by decide) (aj (dv 1) (aj aH (aj (aW (pN rfl) rfl T.nu ae7 (aj (nR rfl Ad) (aj (aM cJ (dv 5) aH) aA))) aA))))) (aJ (mj (QB (Ac T) hT hr (by decide) (aj (dv 2) (aj aH (aj (aW (pN rfl) rfl T.nu ae7 (aj (nR rfl Ad) (aj (aM cJ (dv 4) aH) aA))) aA))))) (aL (bf (dY (Og T) hT hr (by decide) (aj (dv 0) (aj (dv 1) (aj (dv 2) (aj (dv 3) aA))))))))))))),hmg,Fn.kp⟩,B⟩
theorem RN(T:HX K mg):d7 P w K mg base 1 "is_order" 2 jd:=
 fH (k:=0) (g:=Fi) T.xG NZ rfl rfl λcdv A outer s H E hr=>(aJ (dD (DW.dt (Dy (lq (rA (Aq (ans:=vL) T.FW (dv 0) rfl T.fY aeY rfl T.RD boot_str))) (yp (lq (rA (aW (DQ rfl) rfl T.Bq boot_all (aj (bW ["sign"] [] rfl (by kernel_rfl) (by kernel_rfl) (G3 (dv 0)) (aX (by decide)) (λ_ _ _ _ nd=>bx 0 nd) (λ_ _ _ _=>bY) (λ_ _ _ _=>(yd aaU (dv 0) (cC (aj cI (aj cI aA))) (by rfl)))) aA))))))) (aL (bf j7)) cH) (aL (bf (yj (yd Ah (Iw (dv 0) cI) (aW cL rfl T.cW PySem.boot_len (aj (bH (dv 1) aH) aA))) (yh (yd Ah (Iw (dv 0) cI) (aW cL rfl T.cW PySem.boot_len (aj (dv 1) aA))))))))
theorem iB(T:HB K mg base cN TP):∃fd,Le P w K mg base 13 "by_order" 3 iz fd ["picture","text","manner"] (tz TP)∧(∃dH,KB K fd ["picture","text","manner"] [] [.inr (.str "worth" dH)])∧KB K fd ["picture","text","manner"] ["manner"] [.inl 0]:=by
  obtain⟨f,fd,Fn,hmg,B⟩:=T.RJ
  exact⟨fd,⟨f,V8 (k:=12) (m:=3) (g:=Fj) Fn pC rfl rfl fun cdv A outer s H E hr hT=>((by
    obtain⟨cR,zO⟩:=T.zO
    exact (aJ (mj (bA (wu T.toHX) hr (by decide) (aj (dv 0) aA))) (aJ (mj (bA (xZ T.toHX) hr (by decide) (aj (dv 2) aA))) (aJ (dD (lq (rA (bA (RN T.toHX) hr (by decide) (aj (dv 1) (aj (dv 0) aA))))) (aL (VN rfl zO (aj cI aA) (fun _=>⟨_,rfl,by decide⟩))) cH) (aJ (bF 3 pC.nd (dv 0)) (aJ (jL PassesOwn.leaving rfl (G3 (dv 1)) (jK 4 pC.nd) (aL (jm 5 3 rfl pC.nd (wA (bK (iH (cV hr)) (dv 4) cI) (dY (vg T) hT hr (by decide) (aj (dv 3) (aj (dv 2) aA))) (dY (Nb T) hT hr (by decide) (aj (dv 3) (aj (dv 2) aA))))))) (aL (bf (dv 3)))))))))),hmg,Fn.kp⟩,B⟩
theorem pZ(T:HB K mg base cN TP):ni P w K mg base 19 "_law_no" 4 iV ["_law_way","_law_picture_here","_law_one","_law_other"] (tz TP):=
  zq (k:=18) (m:=1) (g:=Jd) T.zY FJ rfl rfl fun cdv A outer s H E _ hr hT=>((by
    obtain⟨JL,gR,⟨cX,fG⟩,gF⟩:=gR T
    obtain⟨Oh,iB,⟨dH,fZ⟩,iT⟩:=iB T
    obtain⟨aaJ,Oi,Oj⟩:=T.uV
    obtain⟨RP,pX,Ve⟩:=T.pX
    obtain⟨RQ,pY,Vf⟩:=T.pY
    exact (aJ (ZG 4 FJ.nd rfl rfl rfl Oi Oj (fun _ _=>(aL (dD (bK (iH (cV hr)) (dv 0) aH) (aL (mj (q9 (.str _ _ .nil) iB hT hr (by decide) fZ (aj (dv 1) (aj (dv 2) aA))))) (aL (mj (q9 (.str _ _ .nil) gR hT hr (by decide) fG (aj (dv 1) (aj (dv 2) (aj (dv 3) aA))))))))) (fun _=>(aL (bf (eX (aj (KZ 4 rfl T.fY (pe_glob (v:= .ref RP) rfl pX rfl (by decide)) (fun _ z=>z) Ve) (aj (KZ 4 rfl T.fY (pe_glob (v:= .ref RQ) rfl pY rfl (by decide)) (fun _ z=>z) Vf) aA))))))) (aL (bf (eX aA))))))
theorem qK(T:HX K mg):∀j:Nat,d7 P w K mg base (1+j) "_law_orders" 2 (kj j)
 |0=>fH (k:=0) (g:=λ_=> .bad) T.lO oV rfl rfl λcdv A outer s H E hr=>Qf
 | j+1=>fH (k:=1+j) (g:=xT (kj j)) T.lO oV rfl rfl λcdv A outer s H E hr0=>
  have hr:Room 0 _:=hr0.mono (by omega)
  ((aJ (dD (DW.dt (Dy (bK (iH (cV hr)) (dv 0) aH) (yp (bK (iH (cV hr)) (dv 1) aH)))) (aL (bf (eX (aj (aM mD (aM Bc cI (dv 0)) (aM Bc cI (dv 1))) aA)))) cH) (aJ (Pn 2 oV.nd ["_law_text"] [] rfl (by kernel_rfl) (by kernel_rfl) (dM (bA (qK T j) hr0 (z0g _) (aj (dv 0) (aj (aM cJ (dv 1) aH) aA)))) (aX (by decide)) (λ_ _ _ _ nd=>bx 0 nd) (λ_ _ _ _=>bY) (λ_ _ _ _=>(aM mD cI (dv 0)))) (aL (bf (aM mD (dv 2) (bW ["_law_text"] [] rfl (by kernel_rfl) (by kernel_rfl) (dM (bA (qK T j) hr0 (z0g _) (aj (aM cJ (dv 0) aH) (aj (dv 1) aA)))) (aX (by decide)) (λ_ _ _ _ nd=>bx 0 nd) (λ_ _ _ _=>bY) (λ_ _ _ _=>(aM mD cI (dv 0))))))))))
theorem JM(T:HX K mg):d7 P w K mg base 4 "_law_orders" 2 qg:=qK T 3
theorem HF(T:HX K mg):d7 P w K mg base 2 "_law_picture" 4 kI:=
 fH (k:=1) (g:=vZ) T.oY nj rfl rfl λcdv A outer s H E hr=>(aJ (Xy 4 5 rfl nj.nd (bH (eX (aj aH (aj aH (aj aH (aj aH aA))))) (bA (eE T) hr (by decide) (aj (dv 0) (aj (dv 1) (aj aH aA))))) aA) (aJ (jL adg rfl (fM rfl T.fD (aj (dv 3) aA)) (jK 6 nj.nd) (aL (vK 5 (eZ fB rfl T.eF adE (aj (bW ["_law_x"] [1,2,4,0,6] rfl (by kernel_rfl) (by kernel_rfl) (fM rfl T.fD (aj (dv 2) aA)) (aX (by decide)) (λ_ _ _ _ nd=>bx 0 nd) (λ_ _ _ _=>bY) (λ_ _ _ _=>(bA (eE T) hr (by decide) (aj (dv 4) (aj (aM pL (aM pL (aM pL (dv 1) aH) (aM pH (dv 2) (dv 5))) (dv 0)) (aj (dv 3) aA)))))) aA))))) (aL (bf (eZ fB rfl T.eF adE (aj (dv 5) aA))))))
theorem ok_law{fd:acK}(Fn:Fun K "law" "law" qW f fd)(hmg:mg "law" =some (.ref f))(T:HB K mg base cN TP):VR P w K mg base 20 "law" 1 Fl fd ["_law_script"] (tz TP):=
  ⟨f,ZK (k:=19) (m:=11) (g:=Xi) Fn nq rfl rfl fun cdv A outer s H E _ hr hT=>((by
    obtain⟨JL,gR,⟨cX,fG⟩,gF⟩:=gR T
    obtain⟨Oh,iB,⟨dH,fZ⟩,iT⟩:=iB T
    exact (aJ (bF 1 nq.nd (bA (HF T.toHX) hr (by decide) (aj (dv 0) (aj aH (aj (aM cD aH (bA (eE T.toHX) hr (by decide) (aj (dv 0) (aj aH (aj aH aA))))) (aj (aM cD aH (bA (eE T.toHX) hr (by decide) (aj (dv 0) (aj aH (aj aH aA))))) aA)))))) (aJ (GR 2 3 4 rfl nq.nd (cC (aj (aW cL rfl T.cW PySem.boot_len (aj (bH (dv 1) aH) aA)) (aj (aW cL rfl T.cW PySem.boot_len (aj (dv 1) aA)) (aj (bA (JG T.toHX) hr (by decide) (aj (dv 0) (aj aH aA))) aA))))) (aJ (DR 5 6 rfl nq.nd (bA (eE T.toHX) hr (by decide) (aj (dv 0) (aj aH (aj (aW (pN rfl) rfl T.nu ae7 (aj aH (aj (dv 3) aA))) aA)))) (bA (eE T.toHX) hr (by decide) (aj (dv 0) (aj aH (aj aH aA))))) (aJ (bF 7 nq.nd (aW (Wd (Ew hr)) rfl T.tE boot_sorted (aj (bW ["_law_text"] [4,1] rfl (by kernel_rfl) (by kernel_rfl) (dM (bA (JM T.toHX) hr (by decide) (aj (dv 5) (aj (dv 6) aA)))) (aX (by decide)) (fun _ _ _ _ nd=>bx 0 nd) (fun _ _ _ _=>bY) (fun _ _ _ _=>(cC (aj (bH (bA (Aa T.toHX) hr (by decide) (aj (dv 2) (aj (dv 0) (aj (dv 1) aA)))) aH) (aj (dv 0) aA))))) aA))) (aJ (dD (bK (oZ (cV hr)) (Qa (ks:=["manner"]) (.at 0 .nil) gR hT hr (by decide) gF (aj (dv 1) (aj (dv 5) (aj (dv 6) aA))) (O8 (dv 4) S8)) (bH (dv 7) aH)) (aL (bf j7)) cH) (aJ (bF 8 nq.nd (bH (bH (dv 7) (bA (eE T.toHX) hr (by decide) (aj (dv 0) (aj aH (aj (aW cL rfl T.cW PySem.boot_len (aj (dv 7) aA)) aA))))) aH)) (aJ (dD (bK (oZ (cV hr)) (Qa (ks:=["manner"]) (.at 0 .nil) iB hT hr (by decide) iT (aj (dv 1) (aj (dv 8) aA)) (O8 (dv 4) S8)) (bH (bA (Aa T.toHX) hr (by decide) (aj (dv 1) (aj (dv 8) (aj (dv 4) aA)))) aH)) (aL (bf j7)) cH) (aJ (dD (bK (oZ (cV hr)) (q9 (.str _ _ .nil) iB hT hr (by decide) fZ (aj (dv 1) (aj cI aA))) (dv 1)) (aL (bf j7)) cH) (aJ (bF 9 nq.nd (eX (aj jg (aj cI (aj cI (aj aH (aj (eX (aj cI aA)) (aj (aM Bc cI (dv 2)) (aj (aM Bc cI (dv 3)) (aj cI aA)))))))))) (aJ (dD (bK (oZ (cV hr)) (V9 ["_law_one"] [1] rfl (by kernel_rfl) (by kernel_rfl) (dM (dv 9)) (aX (by decide)) (fun _ _ _ _ nd=>bx 0 nd) hT (fun _ _ _ _ hT=>(Am (bK (oZ (cV hr)) (dY (pZ T) hT hr (by decide) (aj aH (aj (dv 1) (aj (dv 0) (aj jg aA))))) (eX (aj j7 (aj j7 aA)))))) (fun _ _ _ _ hT=>(dv 0))) (eX aA)) (aL (bf j7)) cH) (aJ (bF 10 nq.nd (bH (eX (aj (rO aH) (aj aH (aj jg (aj j7 (aj cI (aj (cC (aj aH aA)) aA))))))) (bA (eE T.toHX) hr (by decide) (aj (dv 0) (aj aH (aj aH aA)))))) (aJ (bF 11 nq.nd (eX (aj (dY (pZ T) hT hr (by decide) (aj aH (aj (dv 1) (aj (dv 10) (aj aH aA))))) (aj (dY (pZ T) hT hr (by decide) (aj aH (aj (dv 1) (aj aH (aj (dv 10) aA))))) (aj (dY (pZ T) hT hr (by decide) (aj aH (aj (dv 1) (aj (dv 3) (aj aH aA))))) aA))))) (aJ (dD (bK (oZ (cV hr)) (aM cD (dv 11) (eX (aj (dY (pZ T) hT hr (by decide) (aj aH (aj (dv 1) (aj aH (aj (dv 2) aA))))) aA))) (aM X6 (eX (aj (eX (aj j7 (aj j7 aA))) aA)) aH)) (aL (bf j7)) cH) (aJ (dD (bK (oZ (cV hr)) (q9 (.str _ _ .nil) gR hT hr (by decide) fG (aj (dv 1) (aj aH (aj aH aA)))) (cC (aj aH (aj cI aA)))) (aL (bf j7)) cH) (aL (bf (yd (iH (cV hr)) (q9 (.str _ _ .nil) iB hT hr (by decide) fZ (aj (dv 1) (aj (dv 8) aA))) (bH (bA (Aa T.toHX) hr (by decide) (aj (dv 1) (aj (dv 8) (aj cI aA)))) aH)))))))))))))))))))),hmg,Fn.kp⟩
end
theorem all_mk{l:PySem.W.OpenLaw}{w:acf}{h:ace}{mg:Str->Option abY}{fa nD qX RT:abX}(X:K.In h)(G:h.Ns ab5 mg)(hfa:mg "law" =some (.ref fa))
  {JN qL:Option abX}{JQ:Array (Option abY)}{JR qM qN qO lQ qP:abY}
  {Ol vm:Option abX}{Om:Array (Option abY)}{Oo vo vp vB pG vC:abY}
  {aaK Vg:Option abX}{aaL:Array (Option abY)}{aaM Vh Vi Vj Nf Vk:abY}
  {YW:Tok}(Mz:PySem.W.nsIn K ab5 "FREE" =some (some (.int 0 YW)))
  {YX:Tok}(MF:PySem.W.nsIn K ab5 "GONE" =some (some (.int 2 YX)))
  {YZ:Tok}(MJ:PySem.W.nsIn K ab5 "KEPT" =some (some (.int 1 YZ)))
  {Ng:Tok}(uT:PySem.W.nsIn K ab5 "MOST_CELL" =some (some (.int 99 Ng)))
  {Nh:Tok}(uU:PySem.W.nsIn K ab5 "MOST_LONG" =some (some (.int 20 Nh)))
  {JT:Tok}(tD:PySem.W.nsIn K ab5 "MOST_TAKEN" =some (some (.int 4 JT)))
  {Ga:abX}{RV:Nat}{RW:Array (Option abY)}{Ni Nj:Tok}(zM:PySem.W.nsIn K ab5 "MANNERS" =some (some (.ref Ga)))(Vl:K.lookup Ga=some ⟨.type "tuple",none,.seq #[.str "worth" Ni,.str "joins" Nj] RV,RW⟩)
  (ug:PySem.W.nsIn K ab5 "abs" =some none)
  (Bq:PySem.W.nsIn K ab5 "all" =some none)
  (MK:PySem.W.nsIn K ab5 "bool" =some none)
  (iG:PySem.W.nsIn K ab5 "enumerate" =some none)
  (RB:PySem.W.nsIn K ab5 "int" =some none)
  (fY:PySem.W.nsIn K ab5 "isinstance" =some none)
  (cW:PySem.W.nsIn K ab5 "len" =some none)
  (MN:PySem.W.nsIn K ab5 "list" =some none)
  (uh:PySem.W.nsIn K ab5 "max" =some none)
  (nu:PySem.W.nsIn K ab5 "min" =some none)
  (fD:PySem.W.nsIn K ab5 "range" =some none)
  (w6:PySem.W.nsIn K ab5 "reversed" =some none)
  (tE:PySem.W.nsIn K ab5 "sorted" =some none)
  (RD:PySem.W.nsIn K ab5 "str" =some none)
  (RG:PySem.W.nsIn K ab5 "sum" =some none)
  (eF:PySem.W.nsIn K ab5 "tuple" =some none)
  (Br:PySem.W.nsIn K ab5 "zip" =some none)
  (FN:∀d:D,PySem.W.kitOne K (.type (iK d)) (.type "int")=some (Av (iK d)))
  (zN:∀d:D,PySem.W.kitOne K (.type (iK d)) (.type "bool")=some (wF (iK d)))
  (wk:∀d:D,PySem.W.kitOne K (.type (iK d)) (.type "tuple")=some (tW (iK d)))
  (FQ:∀d:D,PySem.W.kitOne K (.type (iK d)) (.type "list")=some (Ks (iK d)))
  (FW:∀d:D,PySem.W.kitOne K (.type (iK d)) (.type "str")=some (vL (iK d)))
  {cR:abX}(mL:PySem.W.nsIn K ab5 "NoDeeds" =some (some (.ref cR)))
  {cQ:abX}(mO:PySem.W.nsIn K ab5 "NoWidth" =some (some (.ref cQ)))
  {lK:abX}(Oq:PySem.W.nsIn K ab5 "SeamError" =some (some (.ref lK)))
  (Ae:PySem.W.excIn K cR VL "ValueError.__new__" =true)
  (Gb:PySem.W.findIn K (.ref cR) "__getattribute__" =some (some (.builtin "BaseException.__getattribute__")))(Gd:PySem.W.findIn K (.ref cR) "__getattr__" =some none)(Ge:(PySem.W.clsIn K cR).isSome=true)(Gf:PySem.W.findIn K (.ref cR) "__class__" =some (some (.builtin "object.__class__")))
  (Gg:PySem.W.specialIn K (.builtin "object.__class__") "__get__" =some (some (.builtin "getset_descriptor.__get__")))(Gh:PySem.W.takesIn K (.builtin "object.__class__")=some true)(Gi:PySem.W.mroIn K cR (.type "object")=some true)(Gj:PySem.W.mroIn K cR (.type "BaseException")=some true)
  (nH:PySem.W.exmOne K (.ref cR) (.ref lK)=some true)
  (kW:PySem.W.kitOne K (.ref cR) (.ref cR)=some true)
  (kY:PySem.W.kitOne K (.ref cR) (.ref cQ)=some false)
  (Af:PySem.W.excIn K cQ VL "ValueError.__new__" =true)
  (Gk:PySem.W.findIn K (.ref cQ) "__getattribute__" =some (some (.builtin "BaseException.__getattribute__")))(Gm:PySem.W.findIn K (.ref cQ) "__getattr__" =some none)(Gn:(PySem.W.clsIn K cQ).isSome=true)(Gp:PySem.W.findIn K (.ref cQ) "__class__" =some (some (.builtin "object.__class__")))
  (Gq:PySem.W.specialIn K (.builtin "object.__class__") "__get__" =some (some (.builtin "getset_descriptor.__get__")))(Gr:PySem.W.takesIn K (.builtin "object.__class__")=some true)(Gs:PySem.W.mroIn K cQ (.type "object")=some true)(Gu:PySem.W.mroIn K cQ (.type "BaseException")=some true)
  (nJ:PySem.W.exmOne K (.ref cQ) (.ref lK)=some true)
  (kZ:PySem.W.kitOne K (.ref cQ) (.ref cR)=some false)
  (lg:PySem.W.kitOne K (.ref cQ) (.ref cQ)=some true)
  (zQ:DX K "_law_at" zx)
  (uW:DX K "_law_step" uK)
  (uX:DX K "_law_cost" uL)
  (tH:DX K "_law_signs" sV)
  (uY:DX K "_law_ways" uM)
  (uZ:DX K "_law_best" uN)
  (xg:DX K "_law_cut" wW)
  (u6:DX K "_law_free" uO)
  (qF:DX K "_law_turned" qu)
  (zR:DX K "_law_by" zA)
  (tK:DX K "_law_drawn" sW)
  (qG:DX K "_law_manner" qw)
  (xq:DX K "all_free" wX)
  (qH:DX K "cells_along" qy)
  (MP:DX K "gaps" Mw)
  (tL:DX K "join_fares" sX)
  (zT:DX K "is_line" zB)
  (xr:DX K "is_whole" wY)
  (zU:DX K "is_cell" zE)
  (Dl:DX K "is_row" Dg)
  (tM:DX K "is_picture" sY)
  (oX:DX K "need_picture" oU)
  (zV:DX K "size_of" zF)
  (Dm:DX K "turned" Dh)
  (Dn:DX K "worths" Di)
  (Hw:DX K "fares" Hs)
  (zW:DX K "fare_of" zG)
  (M4:DX K "near" Mx)
  (Dq:DX K "onward" Dj)
  (Hx:DX K "swept" rm)
  (u9:DX K "best_ways" iC)
  (xu:DX K "from_top" wZ)
  (qI:DX K "first_seams" qz)
  (vd:DX K "least_way" uP)
  (zX:DX K "without" zJ)
  (Hy:DX K "taken" Hu)
  (vf:DX K "by_column" uQ)
  (Dr:DX K "by_row" Dk)
  (pF:DX K "best_from" uR)
  (qJ:DX K "need_manner" qC)
  (tO:DX K "need_width" tu)
  (Nk:PySem.W.nsIn K ab5 "best_order" =some (some (.ref nD)))(Nm:K.lookup nD=some ⟨JR,JN,.func (PySem.W.fnOf "best_order" "best_order" (defArgs dj) (defBody dj) (defScope dj) .none qM qN qO qL lQ qP),JQ⟩)(Np:PySem.W.codeIn K lQ "best_order" =true)(Nq:PySem.W.keepIn K (.ref nD)=true)
  (xG:DX K "is_order" w5)
  (RX:PySem.W.nsIn K ab5 "by_order" =some (some (.ref qX)))(RZ:K.lookup qX=some ⟨Oo,Ol,.func (PySem.W.fnOf "by_order" "by_order" (defArgs dU) (defBody dU) (defScope dU) .none vo vp vB vm pG vC),Om⟩)(R0:PySem.W.codeIn K pG "by_order" =true)(R4:PySem.W.keepIn K (.ref qX)=true)
  (zY:DX K "_law_no" zL)
  (lO:DX K "_law_orders" qD)
  (oY:DX K "_law_picture" oW)
  (R5:PySem.W.nsIn K ab5 "law" =some (some (.ref RT)))(abh:K.lookup RT=some ⟨aaM,aaK,.func (PySem.W.fnOf "law" "law" (defArgs qW) (defBody qW) (defScope qW) .none Vh Vi Vj Vg Nf Vk),aaL⟩)(abj:PySem.W.codeIn K Nf "law" =true)(abk:PySem.W.keepIn K (.ref RT)=true)
  {cX dH:Tok}
  (fG:KB K (PySem.W.fnOf "best_order" "best_order" (defArgs dj) (defBody dj) (defScope dj) .none qM qN qO qL lQ qP) ["picture","down","across","manner"] [] [.inr (.str "worth" cX)])
  (gF:KB K (PySem.W.fnOf "best_order" "best_order" (defArgs dj) (defBody dj) (defScope dj) .none qM qN qO qL lQ qP) ["picture","down","across","manner"] ["manner"] [.inl 0])
  (fZ:KB K (PySem.W.fnOf "by_order" "by_order" (defArgs dU) (defBody dU) (defScope dU) .none vo vp vB vm pG vC) ["picture","text","manner"] [] [.inr (.str "worth" dH)])
  (iT:KB K (PySem.W.fnOf "by_order" "by_order" (defArgs dU) (defBody dU) (defScope dU) .none vo vp vB vm pG vC) ["picture","text","manner"] ["manner"] [.inl 0])
  :∃fd:acK,(∀(s:abZ) (v:abY),ae9 s fd ⟨[v],[]⟩ [("_law_script",v)])/\∀(base:ace) (c TP:abX),K.In base->base.Ns ab5 mg->pq base mg c TP->yI K mg "best_ways" c->FnOk l.prog w K mg base CX0 20 fa fd ["_law_script"] (spT [(TP,"best_ways.<locals>.first_ones")] K 1 Fl):=by
 have e:=hfa.symm.trans (PySem.W.mg_of X G R5);cases e;have Jv:Bu K cR:=⟨Gb,Gd,Ge,Gf,Gg,Gh,Gi,Gj⟩;have Jw:Bu K cQ:=⟨Gk,Gm,Gn,Gp,Gq,Gr,Gs,Gu⟩;have uV:∀c C',jc c "SeamError" =true->PySem.W.nsIn K ab5 c=some (some (.ref C'))->PySem.W.exmOne K (.ref C') (.ref lK)=some true:=by
  intro c C' h1 h2;rcases yO h1 with rfl |rfl
  ·cases mO.symm.trans h2;exact nJ
  ·cases mL.symm.trans h2;exact nH
 have pX:∀c C',jc c c=true->PySem.W.nsIn K ab5 c=some (some (.ref C'))->Bu K C'/\PySem.W.kitOne K (.ref C') (.ref cR)=some (jc c "NoDeeds"):=by
  intro c C' h1 h2;rcases yO h1 with rfl |rfl
  ·cases mO.symm.trans h2;exact⟨Jw,by rw[show jc "NoWidth" "NoDeeds" =false from by decide];exact kZ⟩
  ·cases mL.symm.trans h2;exact⟨Jv,by rw[show jc "NoDeeds" "NoDeeds" =true from by decide];exact kW⟩
 have pY:∀c C',jc c c=true->PySem.W.nsIn K ab5 c=some (some (.ref C'))->Bu K C'/\PySem.W.kitOne K (.ref C') (.ref cQ)=some (jc c "NoWidth"):=by
  intro c C' h1 h2;rcases yO h1 with rfl |rfl
  ·cases mO.symm.trans h2;exact⟨Jw,by rw[show jc "NoWidth" "NoWidth" =true from by decide];exact lg⟩
  ·cases mL.symm.trans h2;exact⟨Jv,by rw[show jc "NoDeeds" "NoWidth" =false from by decide];exact kY⟩
 have T:Txt K mg:=⟨⟨_,PySem.W.mg_of X G Mz⟩,⟨_,PySem.W.mg_of X G MF⟩,⟨_,PySem.W.mg_of X G MJ⟩,⟨_,PySem.W.mg_of X G uT⟩,⟨_,PySem.W.mg_of X G uU⟩,⟨_,PySem.W.mg_of X G tD⟩,XS X G zM Vl (show 2<=sizeLine from z0b (by decide) (z0e fJ)) (.cons ⟨_,rfl⟩ (.cons ⟨_,rfl⟩ (.nil))),PySem.W.mg_none_of X G ug,PySem.W.mg_none_of X G Bq,PySem.W.mg_none_of X G MK,PySem.W.mg_none_of X G iG,PySem.W.mg_none_of X G RB,PySem.W.mg_none_of X G fY,PySem.W.mg_none_of X G cW,PySem.W.mg_none_of X G MN,PySem.W.mg_none_of X G uh,PySem.W.mg_none_of X G nu,PySem.W.mg_none_of X G fD,PySem.W.mg_none_of X G w6,PySem.W.mg_none_of X G tE,PySem.W.mg_none_of X G RD,PySem.W.mg_none_of X G RG,PySem.W.mg_none_of X G eF,PySem.W.mg_none_of X G Br,FN,zN,wk,FQ,FW,⟨cR,mL,PySem.W.mg_of X G mL,Ae⟩,⟨cQ,mO,PySem.W.mg_of X G mO,Af⟩,⟨lK,PySem.W.mg_of X G Oq,uV⟩,⟨cR,PySem.W.mg_of X G mL,pX⟩,⟨cQ,PySem.W.mg_of X G mO,pY⟩⟩;have Nr:=fun_mk (st:=dj) Nm Np Nq;have R6:=fun_mk (st:=dU) RZ R0 R4;have abl:=fun_mk (st:=qW) abh abj abk;have hX:HX K mg:=⟨T,dy X G zQ (λ_ _ _ _ _ _ us hl=>zu hl λ_ _ _=>rfl),dy X G uW (λ_ _ _ _ _ _ us hl=>lk5 hl λ_ _ _ _ _=>rfl),dy X G uX (λ_ _ _ _ _ _ us hl=>zu hl λ_ _ _=>rfl),dy X G tH (λ_ _ _ _ _ _ us hl=>zu hl λ_ _ _=>rfl),dy X G uY (λ_ _ _ _ _ _ us hl=>sS hl λ_ _=>rfl),dy X G uZ (λ_ _ _ _ _ _ us hl=>zu hl λ_ _ _=>rfl),dy X G xg (λ_ _ _ _ _ _ us hl=>sS hl λ_ _=>rfl),dy X G u6 (λ_ _ _ _ _ _ us hl=>ud hl λ_=>rfl),dy X G qF (λ_ _ _ _ _ _ us hl=>ud hl λ_=>rfl),dy X G zR (λ_ _ _ _ _ _ us hl=>zu hl λ_ _ _=>rfl),dy X G tK (λ_ _ _ _ _ _ us hl=>zu hl λ_ _ _=>rfl),dy X G qG (λ_ _ _ _ _ _ us hl=>sS hl λ_ _=>rfl),dy X G xq (λ_ _ _ _ _ _ us hl=>ud hl λ_=>rfl),dy X G qH (λ_ _ _ _ _ _ us hl=>sS hl λ_ _=>rfl),dy X G MP (λ_ _ _ _ _ _ us hl=>ud hl λ_=>rfl),dy X G tL (λ_ _ _ _ _ _ us hl=>sS hl λ_ _=>rfl),dy X G zT (λ_ _ _ _ _ _ us hl=>ud hl λ_=>rfl),dy X G xr (λ_ _ _ _ _ _ us hl=>ud hl λ_=>rfl),dy X G zU (λ_ _ _ _ _ _ us hl=>ud hl λ_=>rfl),dy X G Dl (λ_ _ _ _ _ _ us hl=>ud hl λ_=>rfl),dy X G tM (λ_ _ _ _ _ _ us hl=>ud hl λ_=>rfl),dy X G oX (λ_ _ _ _ _ _ us hl=>ud hl λ_=>rfl),dy X G zV (λ_ _ _ _ _ _ us hl=>ud hl λ_=>rfl),dy X G Dm (λ_ _ _ _ _ _ us hl=>ud hl λ_=>rfl),dy X G Dn (λ_ _ _ _ _ _ us hl=>ud hl λ_=>rfl),dy X G Hw (λ_ _ _ _ _ _ us hl=>sS hl λ_ _=>rfl),dy X G zW (λ_ _ _ _ _ _ us hl=>zu hl λ_ _ _=>rfl),dy X G M4 (λ_ _ _ _ _ _ us hl=>sS hl λ_ _=>rfl),dy X G Dq (λ_ _ _ _ _ _ us hl=>zu hl λ_ _ _=>rfl),dy X G Hx (λ_ _ _ _ _ _ us hl=>Vb hl λ_ _ _ _=>rfl),dy X G u9 (λ_ _ _ _ _ _ us hl=>zu hl λ_ _ _=>rfl),dy X G xu (λ_ _ _ _ _ _ us hl=>sS hl λ_ _=>rfl),dy X G qI (λ_ _ _ _ _ _ us hl=>zu hl λ_ _ _=>rfl),dy X G vd (λ_ _ _ _ _ _ us hl=>sS hl λ_ _=>rfl),dy X G zX (λ_ _ _ _ _ _ us hl=>sS hl λ_ _=>rfl),dy X G Hy (λ_ _ _ _ _ _ us hl=>Vb hl λ_ _ _ _=>rfl),dy X G vf (λ_ _ _ _ _ _ us hl=>sS hl λ_ _=>rfl),dy X G Dr (λ_ _ _ _ _ _ us hl=>sS hl λ_ _=>rfl),dy X G pF (λ_ _ _ _ _ _ us hl=>Vb hl λ_ _ _ _=>rfl),dy X G qJ (λ_ _ _ _ _ _ us hl=>ud hl λ_=>rfl),dy X G tO (λ_ _ _ _ _ _ us hl=>zu hl λ_ _ _=>rfl),dy X G xG (λ_ _ _ _ _ _ us hl=>sS hl λ_ _=>rfl),dy X G zY (λ_ _ _ _ _ _ us hl=>Vb hl λ_ _ _ _=>rfl),dy X G lO (λ_ _ _ _ _ _ us hl=>sS hl λ_ _=>rfl),dy X G oY (λ_ _ _ _ _ _ us hl=>Vb hl λ_ _ _ _=>rfl),⟨nD,_,Nr,PySem.W.mg_of X G Nk,⟨_,fG⟩,gF⟩,⟨qX,_,R6,PySem.W.mg_of X G RX,⟨_,fZ⟩,iT⟩⟩;refine⟨PySem.W.fnOf "law" "law" (defArgs qW) (defBody qW) (defScope qW) .none Vh Vi Vj Vg Nf Vk,λs v=> .of_eq rfl,λbase cN TP _ _ hB hCI=>?_⟩;obtain⟨f',ok',hm',_⟩:=ok_law (P:=l.prog) (w:=w) (base:=base) abl (PySem.W.mg_of X G R5) ⟨hX,hB,hCI⟩;cases (PySem.W.mg_of X G R5).symm.trans hm';exact ok'
end yN
namespace yN
open PySem PySem.Spec L2 Pu
theorem walk{l:PySem.W.OpenLaw}{q:ab9}{loose:List Str}{XP:(Str->Option abY)->ace->Prop}{YP:acf->ace->Prop}{d:DefRec}{K:Params->PySem.W.Frag}(hn:l.most=some 63)(hdf:d.params.defaults=[])
  (hY:∀(w:acf) (h:ace),YP w h->(K w.params).In h)(hnt:∀w:acf,PySem.W.noTabs (K w.params)=true)(hrec:∃dy,(PyProof.Rows.recsOf q).find? (λe:DefRec=>e.name ==("best_ways" :Str))=some dy)
  (F:∀(w:acf) (mg:Str->Option abY) (fa:abX) (h:ace),(K w.params).In h->h.Ns ab5 mg->mg d.name=some (.ref fa)->
   ∃fd:acK,(∀(s:abZ) (u:abY),ae9 s fd ⟨[u],[]⟩ [("_law_script",u)])/\∀(base:ace) (c T:abX),(K w.params).In base->base.Ns ab5 mg->pq base mg c T->yI (K w.params) mg "best_ways" c->FnOk l.prog w (K w.params) mg base CX0 20 fa fd ["_law_script"] (spT [(T,"best_ways.<locals>.first_ones")] (K w.params) 1 Fl)):
  PySem.W.WalkO q loose XP YP l.row.toRowW d [] (λf vs=>PySem.call f vs):=
 Pu.aa1 (n:=63) (k:=20) (x:= "_law_script") (y:= "best_ways") (q:= "best_ways.<locals>.first_ones") (FL:=Fl) hn (by decide) hdf ⟨rfl,by decide,by decide⟩ hY hnt (by obtain⟨dy,e⟩:=hrec;exact⟨dy,List.mem_of_find?_eq_some e,beq_iff_eq.mp (List.find?_some (p:=λe:DefRec=>e.name ==("best_ways" :Str)) e)⟩) F Wx
end yN
namespace PySem.W.Fast
theorem tw14152076447773460309:True:=trivial
theorem tw5112175896300771926:True:=trivial
theorem tw17213864703327503611:True:=trivial
theorem tw5375608914491231490:True:=trivial
theorem tw13360592992842789231:True:=trivial
theorem tw5514074794952613322:True:=trivial
theorem tw7434810840852071919:True:=trivial
theorem tw6709363760287646366:True:=trivial
theorem tw10161979879226051033:True:=trivial
theorem tw3487074216129537616:True:=trivial
theorem tw16540419020599839280:True:=trivial
theorem tw6251562888680345265:True:=trivial
theorem tw6726394956911848741:True:=trivial
theorem tw8616947421443170483:True:=trivial
theorem tw10613471529503360222:True:=trivial
theorem tw1742792584739896573:True:=trivial
theorem tw2850508898755957335:True:=trivial
theorem tw1559603948940629505:True:=trivial
theorem tw14479029891029834903:True:=trivial
theorem tw13027425490705142438:True:=trivial
theorem tw9217751140476422623:True:=trivial
theorem tw2652351032339167518:True:=trivial
theorem tw17004843112210535173:True:=trivial
theorem tw1270109382043366860:True:=trivial
end PySem.W.Fast
open PySem PySem.W PyProof.Rows
set_option bootstrap.genMatcherCode true
set_option compiler.extract_closed true
set_option maxRecDepth 100000 in
set_option maxHeartbeats 0 in
theorem PySem.Challenge.cw_seamhall_k36_orders_of_both_holds : PySem.Challenge.rw_seamhall_k36_orders_of_both.Holds := by
 w_on;o_law;k_head;(case hw=>w_witness2)
 k_fill
 refine yN.walk (l:=PySem.Challenge.rw_seamhall_k36_orders_of_both) rfl rfl (λw h Y=>PySem.W.km_in_of Y) ?nt ?rec ?F
 case nt=>intro w;kernel_rfl
 case rec=>exact⟨_,rfl⟩
 case F=>
  intro w mg fa h KX G hmg
  refine' yN.all_mk KX G hmg ?_ ?_ ?_ ?_ ?_ ?_ ?_ ?_ ?_ ?_ ?_ ?_ ?_ ?_ ?_ ?_ ?_ ?_ ?_ ?_ ?_ ?_ ?_ ?_ ?_ ?FN ?zN ?wk ?FQ ?FW ?_ ?_ ?_ ?Ae ?Gb ?Gd ?Ge ?Gf ?Gg ?Gh ?Gi ?Gj ?nH ?kW ?kY ?Af ?Gk ?Gm ?Gn ?Gp ?Gq ?Gr ?Gs ?Gu ?nJ ?kZ ?lg ?_ ?_ ?_ ?_ ?_ ?_ ?_ ?_ ?_ ?_ ?_ ?_ ?_ ?_ ?_ ?_ ?_ ?_ ?_ ?_ ?_ ?_ ?_ ?_ ?_ ?_ ?_ ?_ ?_ ?_ ?_ ?_ ?_ ?_ ?_ ?_ ?_ ?_ ?_ ?_ ?_ ?_ ?_ ?_ ?_ ?_ ?_ ?_ ?_ ?_ ?_ ?_ ?_ ?_ ?_ ?_ ?_ ?fG ?gF ?fZ ?iT
  all_goals try first |k_is |(refine' yN.abg ?qa ?ql ?qc ?qp;(case qa=>k_is);(case ql=>k_is);(case qc=>k_is);(case qp=>k_is))
  (case FN=>intro d;cases d;(show PySem.W.kitOne _ (ab7 "NoneType") (ab7 "int")=some false);kit_is;(show PySem.W.kitOne _ (ab7 "bool") (ab7 "int")=some true);kit_is;(show PySem.W.kitOne _ (ab7 "int") (ab7 "int")=some true);kit_is;(show PySem.W.kitOne _ (ab7 "str") (ab7 "int")=some false);kit_is;(show PySem.W.kitOne _ (ab7 "tuple") (ab7 "int")=some false);kit_is;(show PySem.W.kitOne _ (ab7 "list") (ab7 "int")=some false);kit_is)
  (case zN=>intro d;cases d;(show PySem.W.kitOne _ (ab7 "NoneType") (ab7 "bool")=some false);kit_is;(show PySem.W.kitOne _ (ab7 "bool") (ab7 "bool")=some true);kit_is;(show PySem.W.kitOne _ (ab7 "int") (ab7 "bool")=some false);kit_is;(show PySem.W.kitOne _ (ab7 "str") (ab7 "bool")=some false);kit_is;(show PySem.W.kitOne _ (ab7 "tuple") (ab7 "bool")=some false);kit_is;(show PySem.W.kitOne _ (ab7 "list") (ab7 "bool")=some false);kit_is)
  (case wk=>intro d;cases d;(show PySem.W.kitOne _ (ab7 "NoneType") (ab7 "tuple")=some false);kit_is;(show PySem.W.kitOne _ (ab7 "bool") (ab7 "tuple")=some false);kit_is;(show PySem.W.kitOne _ (ab7 "int") (ab7 "tuple")=some false);kit_is;(show PySem.W.kitOne _ (ab7 "str") (ab7 "tuple")=some false);kit_is;(show PySem.W.kitOne _ (ab7 "tuple") (ab7 "tuple")=some true);kit_is;(show PySem.W.kitOne _ (ab7 "list") (ab7 "tuple")=some false);kit_is)
  (case FQ=>intro d;cases d;(show PySem.W.kitOne _ (ab7 "NoneType") (ab7 "list")=some false);kit_is;(show PySem.W.kitOne _ (ab7 "bool") (ab7 "list")=some false);kit_is;(show PySem.W.kitOne _ (ab7 "int") (ab7 "list")=some false);kit_is;(show PySem.W.kitOne _ (ab7 "str") (ab7 "list")=some false);kit_is;(show PySem.W.kitOne _ (ab7 "tuple") (ab7 "list")=some false);kit_is;(show PySem.W.kitOne _ (ab7 "list") (ab7 "list")=some true);kit_is)
  (case FW=>intro d;cases d;(show PySem.W.kitOne _ (ab7 "NoneType") (ab7 "str")=some false);kit_is;(show PySem.W.kitOne _ (ab7 "bool") (ab7 "str")=some false);kit_is;(show PySem.W.kitOne _ (ab7 "int") (ab7 "str")=some false);kit_is;(show PySem.W.kitOne _ (ab7 "str") (ab7 "str")=some true);kit_is;(show PySem.W.kitOne _ (ab7 "tuple") (ab7 "str")=some false);kit_is;(show PySem.W.kitOne _ (ab7 "list") (ab7 "str")=some false);kit_is)
  (case Ae=>k_exc)
  (case kW=>kit_is)
  (case kY=>kit_is)
  (case Af=>k_exc)
  (case kZ=>kit_is)
  (case lg=>kit_is)
  (case fG=>intro s us ws i hl hw;have h0:us.length=3:=(by simp only[acn,adP] at hl;omega);clear hl;obtain⟨u0,us0,rfl,h1⟩:=Pu.lW h0;clear h0;obtain⟨u1,us1,rfl,h2⟩:=Pu.lW h1;clear h1;obtain⟨u2,us2,rfl,h3⟩:=Pu.lW h2;clear h2;cases Pu.len0 h3;have g0:ws.length=0:=hw;clear hw;cases Pu.len0 g0;exact PySem.W.kp_binds i (λS=>rfl))
  (case gF=>intro s us ws i hl hw;have h0:us.length=3:=(by simp only[acn,adP] at hl;omega);clear hl;obtain⟨u0,us0,rfl,h1⟩:=Pu.lW h0;clear h0;obtain⟨u1,us1,rfl,h2⟩:=Pu.lW h1;clear h1;obtain⟨u2,us2,rfl,h3⟩:=Pu.lW h2;clear h2;cases Pu.len0 h3;have g0:ws.length=1:=hw;clear hw;obtain⟨w0,ws0,rfl,g1⟩:=Pu.lW g0;clear g0;cases Pu.len0 g1;exact PySem.W.kp_binds i (λS=>rfl))
  (case fZ=>intro s us ws i hl hw;have h0:us.length=2:=(by simp only[acn,adP] at hl;omega);clear hl;obtain⟨u0,us0,rfl,h1⟩:=Pu.lW h0;clear h0;obtain⟨u1,us1,rfl,h2⟩:=Pu.lW h1;clear h1;cases Pu.len0 h2;have g0:ws.length=0:=hw;clear hw;cases Pu.len0 g0;exact PySem.W.kp_binds i (λS=>rfl))
  (case iT=>intro s us ws i hl hw;have h0:us.length=2:=(by simp only[acn,adP] at hl;omega);clear hl;obtain⟨u0,us0,rfl,h1⟩:=Pu.lW h0;clear h0;obtain⟨u1,us1,rfl,h2⟩:=Pu.lW h1;clear h1;cases Pu.len0 h2;have g0:ws.length=1:=hw;clear hw;obtain⟨w0,ws0,rfl,g1⟩:=Pu.lW g0;clear g0;cases Pu.len0 g1;exact PySem.W.kp_binds i (λS=>rfl))
  all_goals first |k_is |kernel_rfl
