import PyProof.Rows.All
import Wide.All
import OpenK.AllK
import Wide.FinOn
import Lean
import PyProof.EqAt
import PyProof.EqKinds
import PyProof.TupleCall
import PyProof.NeKinds
import PySem.Challenge.RW_seamhall_k31_whole_narrowed
set_option bootstrap.genMatcherCode false
set_option compiler.extract_closed false
set_option Elab.async false
set_option linter.all false
set_option maxRecDepth 100000
set_option maxHeartbeats 4000000
namespace L2
open PySem PySem.Spec PyProof.Rows
noncomputable abbrev Key:=Sum Int Str
noncomputable def keyIs:Key→Value→Bool
  | .inl k,v=>Value.isInt k v
  | .inr x,v=>Value.isStrOf x v
noncomputable def keyH (w:World):Key→Int
  | .inl k=>hashInt k
  | .inr x=>hashStr w x
theorem keyIs_shape:∀{k:Key} {v:Value},keyIs k v=true→(∃i t,k=Sum.inl i∧v=Value.int i t)∨(∃x t,k=Sum.inr x∧v=Value.str x t)
  | .inl i,v,h=>by
    obtain⟨t,e⟩:=Value.isInt_shape (k:=i) (v:=v) h
    exact .inl ⟨i,t,rfl,e⟩
  | .inr x,v,h=>by
    obtain⟨t,e⟩:=Value.isStrOf_shape (x:=x) (v:=v) h
    exact .inr ⟨x,t,rfl,e⟩
theorem key_ll (a b:Int):decide ((Sum.inl a:Key)=Sum.inl b)=(a ==b):=by
  by_cases e:a=b
  · subst e;simp
  · have h:¬(Sum.inl a:Key)=Sum.inl b:=fun q=>e (Sum.inl.inj q)
    rw[decide_eq_false h]
    exact (beq_eq_false_iff_ne.mpr e).symm
theorem key_rr (a b:Str):decide ((Sum.inr a:Key)=Sum.inr b)=decide (a=b):=by
  by_cases e:a=b
  · subst e;simp
  · have h:¬(Sum.inr a:Key)=Sum.inr b:=fun q=>e (Sum.inr.inj q)
    rw[decide_eq_false h,decide_eq_false e]
theorem key_lr (a:Int) (b:Str):decide ((Sum.inl a:Key)=Sum.inr b)=false:=decide_eq_false (fun q=>nomatch q)
theorem key_rl (a:Str) (b:Int):decide ((Sum.inr a:Key)=Sum.inl b)=false:=decide_eq_false (fun q=>nomatch q)
noncomputable def mixKind (prog:Program) (w:World):PySem.KeyKind prog w Key where
  is:=keyIs
  hash:=keyH w
  inj :=fun v a b ha hb=>by
    rcases keyIs_shape ha with⟨i,t,rfl,rfl⟩ |⟨x,t,rfl,rfl⟩
    · rcases keyIs_shape hb with⟨j,u,rfl,e⟩ |⟨y,u,rfl,e⟩
      · injection e with e1 _;rw[e1]
      · exact nomatch e
    · rcases keyIs_shape hb with⟨j,u,rfl,e⟩ |⟨y,u,rfl,e⟩
      · exact nomatch e
      · injection e with e1 _;rw[e1]
  byValue:=fun k v h=>by
    rcases keyIs_shape h with⟨i,t,rfl,rfl⟩ |⟨x,t,rfl,rfl⟩ <;> rfl
  pyHash:=fun hv h=>by
    rcases keyIs_shape hv with⟨i,t,rfl,rfl⟩ |⟨x,t,rfl,rfl⟩
    · exact wpAny_pyHash_int h
    · exact wpAny_pyHash_str h
  eqBool:=fun hu hv h=>by
    rcases keyIs_shape hu with⟨i,t,rfl,rfl⟩ |⟨x,t,rfl,rfl⟩
    · rcases keyIs_shape hv with⟨j,u,rfl,rfl⟩ |⟨y,u,rfl,rfl⟩
      · rw[key_ll] at h;exact wpAny_eqBool_int h
      · rw[key_lr] at h;exact SeqAt.EqAt.int_str i t y u _ _ _ _ h
    · rcases keyIs_shape hv with⟨j,u,rfl,rfl⟩ |⟨y,u,rfl,rfl⟩
      · rw[key_rl] at h;exact SeqAt.EqAt.str_int x t j u _ _ _ _ h
      · rw[key_rr] at h;exact wpAny_eqBool_str h
  «strs»:=fun k x t v h=>by
    rcases keyIs_shape h with⟨i,u,rfl,e⟩ |⟨y,u,rfl,e⟩
    · exact nomatch e
    · injection e with e1 _
      subst e1
      cases v <;> rfl
end L2
namespace L2
open PySem PySem.Spec PyProof.Rows
inductive V where
  |non |bl (b:Bool) |int (i:Int) |str (x:Str) |byt (b:Array UInt8) |flt (b:UInt64) |ref (a:Addr) |ty (n:String)
  deriving DecidableEq
noncomputable def RelV:V→Value→Prop
  | .non,u=>u=Value.none
  | .bl b,u=>u=Value.bool b
  | .int i,u=>∃t,u=Value.int i t
  | .str x,u=>∃t,u=Value.str x t
  | .byt b,u=>∃t,u=Value.bytes b t
  | .flt b,u=>∃t,u=Value.float b t
  | .ref a,u=>u=Value.ref a
  | .ty n,u=>u=Value.type n
noncomputable abbrev Vals:List V→List Value→Prop:=Paired RelV
theorem Vals.length {xs:List V} {us:List Value} (r:Vals xs us):xs.length=us.length:=Paired.length r
theorem Vals.get:∀{xs:List V} {us:List Value} {i:Nat} {x:V},Vals xs us→xs[i]?=some x→∃u,us[i]?=some u∧RelV x u
  |_,_,_,_,.nil,e=>by simp at e
  |_,_,0,_,.cons r _,e=>by simp at e;subst e;exact⟨_,rfl,r⟩
  | _,_,i+1,x,.cons _ t,e=>by
    obtain⟨u,h1,h2⟩:=Vals.get (i:=i) (x:=x) t (by simpa using e)
    exact⟨u,by simpa using h1,h2⟩
theorem Vals.append:∀{xs ys:List V} {us ws:List Value},Vals xs us→Vals ys ws→Vals (xs++ys) (us++ws)
  :=by
  intro xs ys us ws h q
  induction h with
  |nil=>exact q
  |cons r t ih=>exact .cons r ih
theorem Vals.take:∀{xs:List V} {us:List Value} (n:Nat),Vals xs us→Vals (xs.take n) (us.take n)
  |_,_,0,_=> .nil
  |_,_,_+1,.nil=> .nil
  |_,_,n+1,.cons r t=> .cons r (Vals.take n t)
theorem Vals.drop:∀{xs:List V} {us:List Value} (n:Nat),Vals xs us→Vals (xs.drop n) (us.drop n)
  |_,_,0,r=>r
  |_,_,_+1,.nil=> .nil
  |_,_,n+1,.cons _ t=>Vals.drop n t
noncomputable def RelO:Option V→Option Value→Prop
  |some v,some u=>RelV v u
  |none,none=>True
  |_,_=>False
noncomputable def KV {κ:Type}:List (κ×V)→List (κ×Value)→Prop:=Paired fun (p:κ×V) (q:κ×Value)=>p.1=q.1∧RelV p.2 q.2
noncomputable def kV:Key→V
  | .inl i=> .int i
  | .inr x=> .str x
inductive HO where
  /-- a list -/
  |lst (xs:List V)
  /-- a tuple (never changes) -/
  |tup (xs:List V)
  /-- a dict whose keys are ints and texts;one whose keys are tuples of ints and texts (the empty one is both) -/
  |dK (kvs:List (Key×V)) |dT (kvs:List (List Key×V))
  /-- a set of ints:its members,its size -/
  |set (S:Int→Bool) (n:Nat)
  /-- an instance of the class at C,its dict at dx,its attributes -/
  |ins (C dx:Addr) (fs:List (Str×V))
  /-- the dict of the instance at x -/
  |own (x:Addr)
  /-- the dict of an exception -/
  |xd (fs:List (Str×V))
  /-- a bound method,f of x -/
  |met (f x:Addr)
  /-- a range object lo,lo+1,.. below hi -/
  |rng (lo hi:Int)
  /-- a thing that is known to the object (the script;a dict while a loop walks it):read,never written while it is so -/
  |frz (o:Obj) (u:HO)
  /-- a code object's table -/
  |tbl (ps:Array Value)
  /-- any other thing,by what is true of its one object (a def of one's own:SetO a S n:=HO.ext fun h=> ..) -/
  |ext (φ:Heap→Prop)
noncomputable abbrev Hp:=Addr→Option HO
noncomputable def upd (H:Hp) (a:Addr) (o:HO):Hp:=fun b=>if b=a then some o else H b
theorem upd_same {H:Hp} {a:Addr} {o:HO}:upd H a o a=some o:=by unfold upd;rw[if_pos rfl]
theorem upd_ne {H:Hp} {a b:Addr} {o:HO} (h:b≠a):upd H a o b=H b:=by unfold upd;rw[if_neg h]
theorem ne_of_none {H:Hp} {a b:Addr} {o:HO} (h:H a=some o) (h':H b=none):a≠b:=by
  intro e;subst e;rw[h] at h';cases h'
section
variable (P:Program) (w:World)
noncomputable def ObjOk (H:Hp) (h:Heap) (a:Addr):HO→Prop
  | .lst xs=>xs.length≤sizeLine∧∃(its:List Value) (n:Nat),Vals xs its∧h.get? a=some {cls:= .type "list",data:= .seq its.toArray n}
  | .tup xs=>xs.length≤sizeLine∧∃its:List Value,Vals xs its∧IsTup h a its.toArray
  | .dK kvs=>kvs.length≤sizeLine∧(a ==sysModules)=false∧∃vs,KV kvs vs∧h.DictOf (mixKind P w) a vs
  | .dT kvs=>kvs.length≤sizeLine∧(a ==sysModules)=false∧∃xs:List (List Key×Addr×Value),
      Paired (fun (p:List Key×V) (q:List Key×Addr×Value)=>p.1=q.1∧H q.2.1=some (.tup (p.1.map kV))∧RelV p.2 q.2.2) kvs xs∧
      ∃o es ep,h.get? a=some o∧o.ExactDict∧o.data= .dict es ep∧es.toList=xs.map (entryOfKey (tupleKind (mixKind P w)))∧(xs.map (·.1)).Nodup
  | .set S n=>h.SetOf (intKind P w) a S n
  | .ins C dx fs=>H dx=some (.own a)∧fs.length≤1000∧dx≠a∧h.get? a=some (PySem.W.instObj C dx)∧
      ∃mA,h.Ns1 dx mA∧(∀f,RelO (fs.lookup f) (mA f))∧PySem.Within mA (fs.map (·.1))
  | .own _=>∃o,h.get? a=some o
  | .xd fs=>∃mA,h.Ns1 a mA∧∀f,RelO (fs.lookup f) (mA f)
  | .rng lo hi=>∃t u v,h.get? a=some {cls:= .type "range",data:= .fields #[.int lo t,.int hi u,.int 1 v]}
  | .frz o u=>h.get? a=some o∧ObjOk H h a u
  | .tbl ps=>∃qs:Array Value,h.get? a=some (PySem.W.tabObj qs)∧TriplesOk qs.toList∧∀pos cv,codeAmong pos qs.toList=some cv→∃c oc vs q t tq,cv= .ref c∧H c=some (.frz oc (.own c))∧oc.data= .fields vs∧vs[1]?=some (.str q t)∧ps[0]?=some (.str q tq)
  | .met f x=>h.get? a=some (PySem.W.methodObj (.ref f) (.ref x))
  | .ext φ=>φ h∧(∃o,h.get? a=some o)∧∀h1 h2:Heap,φ h1→(∀o,h1.get? a=some o→h2.get? a=some o)→φ h2
noncomputable def HOk (H:Hp) (h:Heap):Prop:=∀a o,H a=some o→ObjOk P w H h a o
end
section
variable {P:Program} {w:World} {H H':Hp} {h h':Heap} {a:Addr} {o:HO}
theorem ObjOk.lt (x:ObjOk P w H h a o):a < h.objs.size:=by
  cases o with
  |lst xs=>obtain⟨_,_,_,_,e⟩:=x;exact Heap.lt_size e
  |tup xs=>obtain⟨_,_,_,p⟩:=x;exact p.lt
  |dK kvs=>obtain⟨_,_,_,_,o,_,_,e,_⟩:=x;exact Heap.lt_size e
  |dT kvs=>obtain⟨_,_,_,_,o,_,_,e,_⟩:=x;exact Heap.lt_size e
  |set S n=>obtain⟨o,_,_,_,e,_⟩:=x;exact Heap.lt_size e
  |ins C dx fs=>obtain⟨_,_,_,e,_⟩:=x;exact Heap.lt_size e
  |own y=>obtain⟨_,e⟩:=x;exact Heap.lt_size e
  |xd fs=>obtain⟨_,⟨_,_,_,e,_⟩,_⟩:=x;exact Heap.lt_size e
  |rng lo hi=>obtain⟨_,_,_,e⟩:=x;exact Heap.lt_size e
  |frz ob u=>obtain⟨e,_⟩:=x;exact Heap.lt_size e
  |tbl ps=>obtain⟨_,e,_⟩:=x;exact Heap.lt_size e
  |met f y=>exact Heap.lt_size (show h.get? a=some _ from x)
  |ext φ=>obtain⟨_,⟨_,e⟩,_⟩:=x;exact Heap.lt_size e
theorem Paired.mapP {α β:Type} {F G:α→β→Prop}:∀{l₁:List α} {l₂:List β},Paired F l₁ l₂→(∀a b,F a b→G a b)→Paired G l₁ l₂
  :=by
  intro l₁ l₂ h f
  induction h with
  |nil=>exact .nil
  |cons r t ih=>exact .cons (f _ _ r) ih
theorem ObjOk.stay (x:ObjOk P w H h a o) (k:∀b u,(b=a∨H b=some (.own a))→h.get? b=some u→h'.get? b=some u)
    (ho:∀b,H b=some (.own a)→H' b=some (.own a)) (ht:∀b xs,H b=some (.tup xs)→H' b=some (.tup xs)) (hz:∀b o u,(∃vs,o.data= .fields vs)→H b=some (.frz o u)→H' b=some (.frz o u)):ObjOk P w H' h' a o:=by
  induction o with
  |lst xs=>obtain⟨z,its,n,r,e⟩:=x;exact⟨z,its,n,r,k _ _ (.inl rfl) e⟩
  |tup xs=>obtain⟨z,its,r,ob,e,c⟩:=x;exact⟨z,its,r,ob,k _ _ (.inl rfl) e,c⟩
  |dK kvs=>obtain⟨z,y,vs,r,ob,es,ep,e,c⟩:=x;exact⟨z,y,vs,r,ob,es,ep,k _ _ (.inl rfl) e,c⟩
  | dT kvs=>
    obtain⟨z,y,xs,r,ob,es,ep,e,c⟩:=x
    exact⟨z,y,xs,Paired.mapP r fun p q z=>⟨z.1,ht _ _ z.2.1,z.2.2⟩,ob,es,ep,k _ _ (.inl rfl) e,c⟩
  |set S n=>obtain⟨ob,es,ep,t,e,c⟩:=x;exact⟨ob,es,ep,t,k _ _ (.inl rfl) e,c⟩
  | ins C dx fs=>
    obtain⟨d,z,ne,e,mA,⟨od,es,ep,e2,c⟩,r⟩:=x
    exact⟨ho _ d,z,ne,k _ _ (.inl rfl) e,mA,⟨od,es,ep,k _ _ (.inr d) e2,c⟩,r⟩
  |own y=>obtain⟨ob,e⟩:=x;exact⟨ob,k _ _ (.inl rfl) e⟩
  |xd fs=>obtain⟨mA,⟨od,es,ep,e,c⟩,r⟩:=x;exact⟨mA,⟨od,es,ep,k _ _ (.inl rfl) e,c⟩,r⟩
  |rng lo hi=>obtain⟨t,u,v,e⟩:=x;exact⟨t,u,v,k _ _ (.inl rfl) e⟩
  |frz ob u ih=>obtain⟨e,q⟩:=x;exact⟨k _ _ (.inl rfl) e,ih q⟩
  | tbl ps=>
    obtain⟨qs,e,tr,al⟩:=x
    exact⟨qs,k a _ (.inl rfl) e,tr,fun p cv z=>by
      obtain⟨c,oc,vs,q,t,tq,e1,e2,e3,r⟩:=al p cv z
      exact⟨c,oc,vs,q,t,tq,e1,hz _ _ _ ⟨vs,e3⟩ e2,e3,r⟩⟩
  | met f y=>
    have e:h.get? a=some (PySem.W.methodObj (.ref f) (.ref y)):=x
    show h'.get? a=some (PySem.W.methodObj (.ref f) (.ref y))
    exact k a _ (.inl rfl) e
  |ext φ=>obtain⟨p,⟨o,e⟩,st⟩:=x;exact⟨st _ _ p fun o q=>k _ _ (.inl rfl) q,⟨o,k _ _ (.inl rfl) e⟩,st⟩
theorem HOk.lt (x:HOk P w H h) (e:H a=some o):a < h.objs.size:=(x a o e).lt
theorem HOk.fresh (x:HOk P w H h) (e:h.objs.size≤a):H a=none:=by
  cases q:H a with
  |none=>rfl
  |some u=>exact absurd (Nat.lt_of_lt_of_le (x.lt q) e) (Nat.lt_irrefl _)
theorem HOk.kept (x:HOk P w H h) (k:∀b u,h.get? b=some u→h'.get? b=some u):HOk P w H h':=fun a o e=>
  (x a o e).stay (fun b u _ q=>k b u q) (fun _ q=>q) (fun _ _ q=>q) fun _ _ _ _ q=>q
theorem HOk.laid (x:HOk P w H h) (k:∀b u,h.get? b=some u→h'.get? b=some u) (hp:h.objs.size≤a) (new:ObjOk P w (upd H a o) h' a o):HOk P w (upd H a o) h':=fun b u e=>by
  have hn:=x.fresh hp
  by_cases hb:b=a
  · subst hb;rw[upd_same] at e;cases e;exact new
  · rw[upd_ne hb] at e
    exact (x b u e).stay (fun c v _ q=>k c v q) (fun c q=>by rw[upd_ne (ne_of_none q hn)];exact q) (fun c xs q=>by rw[upd_ne (ne_of_none q hn)];exact q) fun c _ _ _ q=>by rw[upd_ne (ne_of_none q hn)];exact q
end
noncomputable def Rd (H:Hp) (a:Addr) (u:HO):Prop:=H a=some u∨∃o,H a=some (.frz o u)
theorem Rd.ok {P:Program} {w:World} {H:Hp} {h:Heap} {a:Addr} {u:HO} (r:Rd H a u) (x:HOk P w H h):ObjOk P w H h a u:=by
  rcases r with r |⟨o,r⟩
  · exact x a u r
  · obtain⟨_,q⟩:=x a _ r
    exact q
noncomputable def Mut:Option HO→Prop
  |some (.lst _)=>True
  |some (.dK _)=>True
  |some (.dT _)=>True
  |some (.set _ _)=>True
  |some (.ins _ _ _)=>True
  |some (.ext _)=>True
  |_=>False
section
variable {P:Program} {w:World} {H:Hp} {h h':Heap} {x e:Addr} {o':HO}
theorem HOk.write (ok:HOk P w H h) (mu:Mut (H x)) (he:e=x∨H e=some (.own x)) (k:∀b u,b≠e→h.get? b=some u→h'.get? b=some u) (heo:∃u,h'.get? e=some u)
    (new:ObjOk P w (upd H x o') h' x o'):HOk P w (upd H x o') h':=fun b u q=>by
  have nown:∀c y,H c=some (.own y)→c≠x:=fun c y r z=>by subst z;rw[r] at mu;exact mu
  have ntup:∀c xs,H c=some (.tup xs)→c≠x:=fun c xs r z=>by subst z;rw[r] at mu;exact mu
  by_cases hb:b=x
  · subst hb;rw[upd_same] at q;cases q;exact new
  · rw [upd_ne hb] at q
    by_cases hbe:b=e
    · have q':H b=some (.own x):=by
        rcases he with z |z
        · exact absurd (hbe.trans z) hb
        · rw[hbe];exact z
      rw[q] at q';cases q'
      obtain⟨v,hv⟩:=heo
      exact⟨v,by rw[hbe];exact hv⟩
    · refine (ok b u q).stay (fun c v hc r=>k c v ?_ r) (fun c r=>by rw[upd_ne (nown c b r)];exact r) (fun c xs r=>by rw[upd_ne (ntup c xs r)];exact r) fun c o1 u1 _ r=>by rw[upd_ne (fun z=>by rw[z] at r;rw[r] at mu;exact mu)];exact r
      rcases hc with rfl |hc
      · exact hbe
      · rintro rfl
        rcases he with z |z
        · exact nown c b hc z
        · rw[hc] at z;cases z;exact hb rfl
end
structure Un (fs ex:List Addr) (H H':Hp) (h h':Heap):Prop where
  keep:∀b o,h.get? b=some o→H b=none→b∉fs→b∉ex→h'.get? b=some o
  slot:∀b o,h.get? b=some o→H b=none→b∈fs→b∉ex→∃sl,h'.get? b=some {o with slots:=sl}
  free:∀b o,h.get? b=some o→H b=none→b∉ex→H' b=none
  there:∀b o,h.get? b=some o→b∉ex→∃o',h'.get? b=some o'
  tups:∀b xs,H b=some (.tup xs)→H' b=some (.tup xs)
  frzs:∀b o u,H b=some (.frz o u)→H' b=some (.frz o u)
  tbls:∀b ps,H b=some (.tbl ps)→∃more,H' b=some (.tbl (ps++more))
section
variable {fs fs' ex ex':List Addr} {H H1 H2:Hp} {h h1 h2 h':Heap} {a x e:Addr} {o:HO}
theorem Un.any (u:Un fs ex H H1 h h1) {b:Addr} {ob:Obj} (q:h.get? b=some ob) (n:H b=none) (hx:b∉ex):∃sl,h1.get? b=some {ob with slots:=sl}:=by
  by_cases hb:b∈fs
  · exact u.slot b ob q n hb hx
  · exact⟨ob.slots,u.keep b ob q n hb hx⟩
theorem Un.kept (k:∀b u,h.get? b=some u→h'.get? b=some u):Un fs ex H H h h':=
  ⟨fun b ob q _ _ _=>k b ob q,fun b ob q _ _ _=>⟨ob.slots,k b ob q⟩,fun _ _ _ n _=>n,fun b ob q _=>⟨ob,k b ob q⟩,fun _ _ q=>q,fun _ _ _ q=>q,fun _ ps q=>⟨#[],by rw[q];simp⟩⟩
theorem Un.refl:Un fs ex H H h h:=Un.kept fun _ _ q=>q
theorem Un.laid (k:∀b u,h.get? b=some u→h'.get? b=some u) (hp:h.objs.size≤a) (hn:H a=none):Un fs ex H (upd H a o) h h' where
  keep:=fun b u q _ _ _=>k b u q
  slot:=fun b u q _ _ _=>⟨u.slots,k b u q⟩
  free:=fun b u q n _=>by rw[upd_ne (Nat.ne_of_lt (Nat.lt_of_lt_of_le (Heap.lt_size q) hp))];exact n
  there:=fun b u q _=>⟨u,k b u q⟩
  tups:=fun b xs q=>by rw[upd_ne (ne_of_none q hn)];exact q
  frzs:=fun b u xs q=>by rw[upd_ne (ne_of_none q hn)];exact q
  tbls:=fun b ps q=>⟨#[],by rw[upd_ne (ne_of_none q hn),q];simp⟩
theorem Un.write (mu:Mut (H x)) (he:e=x∨H e=some (.own x)) (k:∀b u,b≠e→h.get? b=some u→h'.get? b=some u) (heo:∃u,h'.get? e=some u):Un fs ex H (upd H x o) h h':=by
  have hx:∀b,H b=none→b≠x:=fun b n z=>by subst z;rw[n] at mu;exact mu
  have hb:∀b,H b=none→b≠e:=fun b n z=>by
    subst z
    rcases he with r |r
    · exact hx b n r
    · rw[n] at r;cases r
  have hm:∀b u,H b=some u→¬Mut (some u)→b≠x:=fun b u q nm z=>by subst z;rw[q] at mu;exact nm mu
  refine⟨fun b u q n _ _=>k b u (hb b n) q,fun b u q n _ _=>⟨u.slots,k b u (hb b n) q⟩,fun b u q n _=>by rw[upd_ne (hx b n)];exact n,fun b u q _=>?_,
    fun b xs q=>by rw[upd_ne (hm b _ q fun z=>z)];exact q,fun b u xs q=>by rw[upd_ne (hm b _ q fun z=>z)];exact q,fun b ps q=>⟨#[],by rw[upd_ne (hm b _ q fun z=>z),q];simp⟩⟩
  by_cases hbe:b=e
  · subst hbe;exact heo
  · exact⟨u,k b u hbe q⟩
end
noncomputable def trk (h:Heap) (H:Hp):List Addr:=(List.range h.objs.size).filter fun a=>(H a).isSome
noncomputable def hidT (h:Heap) (H:Hp):Heap:=PySem.W.hideAll h (trk h H)
theorem hidT_size (h:Heap) (H:Hp):(hidT h H).objs.size=h.objs.size:=PySem.W.hideAll_size _ _
theorem hidT_get {h:Heap} {H:Hp} {b:Addr} {o:Obj} (e:h.get? b=some o) (n:H b=none):(hidT h H).get? b=some o:=
  PySem.W.hideAll_get _ e fun hm=>by
    have q:(H b).isSome=true:=(List.mem_filter.mp hm).2
    rw[n] at q;simp at q
theorem of_hidT {h:Heap} {H:Hp} {b:Addr} {o:Obj} (e:(hidT h H).get? b=some o):h.get? b=some o∧H b=none:=by
  have e':h.get? b=some o:=PySem.W.of_hideAll (trk h H) e
  refine⟨e',?_⟩
  cases q:H b with
  |none=>rfl
  | some x=>
    have hm:b∈trk h H:=List.mem_filter.mpr ⟨List.mem_range.mpr (Heap.lt_size e'),by simp[q]⟩
    have z:(hidT h H).get? b=none:=PySem.W.hideAll_none (trk h H) hm
    rw[z] at e;cases e
noncomputable def allNews (g h:Heap) (L:Addr):List (Addr×Obj):=(List.range h.objs.size).filterMap fun a=>if a=L∨(g.get? a).isSome=true then none else (h.get? a).map fun o=>(a,o)
noncomputable def rest (g h:Heap) (L d:Addr):List (Addr×Obj):=(allNews g h L).filter fun p=>decide (p.1≠d)
end L2
namespace L2
open PySem PySem.Spec PyProof.Rows
structure Mod (K:PySem.W.Frag) (mg:Str→Option Value) (base:Heap):Prop where
  kin:K.In base
  glob:base.Ns mainGlobals mg
  blt:∃mb,base.Ns builtinsNs mb∧∀x:Str,x≠"__name__"→mb x=bootBuiltins x
  nolimit:base.NoLimit
structure Cx where
  prog:Program
  w:World
  K:PySem.W.Frag
  mg:Str→Option Value
  base:Heap
  A:Around
  N:List Str
  s₀:Shared
  H₀:Hp
  env:Env
  outer:List Env
  stack:List Env
  ex:List Addr
  fn:Str→Bool
  calm:Bool
  pn:List (Addr×Obj)
  xe:Value→Shared→Prop
noncomputable def frs (l:List Env):List Addr:=l.filterMap (·.frame)
noncomputable abbrev Cx.fs (X:Cx):List Addr:=frs X.outer
noncomputable def Vis (sc:Scope) (x:Str):Prop:=sc.names.lookup x=some .local∨sc.names.lookup x=some .cell∨sc.names.lookup x=some .free
noncomputable def Loc (sc:Scope) (x:Str):Prop:=sc.names.lookup x=some .local∨sc.names.lookup x=some .cell
noncomputable def Look (env:Env) (h:Heap) (m:Str→Option Value) (x:Str) (u:Value):Prop:=
  (env.kindOf x=some .local∧m x=some u)∨((env.kindOf x=some .cell∨env.kindOf x=some .free)∧∃c,env.cells.lookup x=some c∧h.IsCell c (some u))
structure Cx.Ok (X:Cx):Prop where
  mod:Mod X.K X.mg X.base
  kind:X.env.scope.kind= .function
  glob:X.env.globals=mainGlobals
  blt:X.env.builtins=builtinsNs
  above:X.s₀.heap.objs.size≤X.env.locals
  inj:∀x y c,X.env.cells.lookup x=some c→X.env.cells.lookup y=some c→x=y
  has:∀x,(X.env.kindOf x=some .cell∨X.env.kindOf x=some .free)→∃c,X.env.cells.lookup x=some c
  cab:∀x c,X.fn x=true→X.env.cells.lookup x=some c→X.s₀.heap.objs.size≤c
  hd:X.calm=true→X.A.handled=none
  frames:X.A.frames=some X.stack
  stk:X.stack=X.outer∨(X.stack=X.env::X.outer∧X.env.frame=some X.env.locals)
  exf:∀b∈X.ex,b≠X.env.locals∧∀x c,X.env.cells.lookup x=some c→c≠b
  bs:∀b o,X.base.get? b=some o→X.s₀.heap.get? b=some o∧X.H₀ b=none
  bsz:X.base.objs.size≤X.s₀.heap.objs.size
  noex:∀b o,X.base.get? b=some o→b∉X.ex
  exfs:∀b∈X.ex,b∉X.fs
  funs:X.s₀.heap.FunFrames X.base X.outer
  frf:∀b∈X.fs,X.H₀ b=none
structure Inv (X:Cx) (pins:List (Addr×Obj)) (σ:List (Option V)) (H:Hp) (s:Shared):Prop where
  ok:X.Ok
  os:s.os=X.s₀.os
  bare:AllBare s.gens
  base:Un X.fs X.ex X.H₀ H X.s₀.heap s.heap
  loc:∃m,s.heap.Ns X.env.locals m∧∀(i:Nat) (x:Str) (v:V),X.N[i]?=some x→σ[i]?=some (some v)→Vis X.env.scope x→∃u,RelV v u∧Look X.env s.heap m x u
  cell:∀x c,X.env.cells.lookup x=some c→∃v,s.heap.IsCell c v
  free:H X.env.locals=none
  freeC:∀x c,X.env.cells.lookup x=some c→H c=none
  pin:∀p∈X.pn++pins,s.heap.get? p.1=some p.2∧H p.1=none∧p.1≠X.env.locals∧p.1∉X.fs∧∀v,p.2.data≠.cell v
  hok:HOk X.prog X.w H s.heap
  len:σ.length=X.N.length
section
variable {X:Cx} {pins:List (Addr×Obj)} {σ:List (Option V)} {H H':Hp} {s:Shared} {h':Heap}
theorem Cx.Ok.nofr (ok:X.Ok) {b:Addr} {o:Obj} (e:X.base.get? b=some o):b∉X.fs:=fun hb=>by
  have:=(ok.funs.mem hb).1
  rw[e] at this;cases this
theorem Inv.bs (I:Inv X pins σ H s):∀b o,X.base.get? b=some o→s.heap.get? b=some o∧H b=none:=fun b o e=>
  ⟨I.base.keep b o (I.ok.bs b o e).1 (I.ok.bs b o e).2 (I.ok.nofr e) (I.ok.noex b o e),I.base.free b o (I.ok.bs b o e).1 (I.ok.bs b o e).2 (I.ok.noex b o e)⟩
theorem Inv.bk (I:Inv X pins σ H s):∀b o,X.base.get? b=some o→s.heap.get? b=some o:=fun b o e=>(I.bs b o e).1
theorem Inv.mod (I:Inv X pins σ H s):Mod X.K X.mg X.base:=I.ok.mod
theorem Inv.kIn (I:Inv X pins σ H s):X.K.In s.heap:=I.ok.mod.kin.keeps I.bk
theorem Inv.lt (I:Inv X pins σ H s):X.env.locals < s.heap.objs.size:=let ⟨_,hn,_⟩:=I.loc;hn.lt
theorem Inv.sz (I:Inv X pins σ H s):X.s₀.heap.objs.size≤s.heap.objs.size:=Nat.le_trans I.ok.above (Nat.le_of_lt I.lt)
theorem Inv.nofs (I:Inv X pins σ H s) {a:Addr} (h:s.heap.objs.size≤a):a∉X.fs:=fun hb=>by
  obtain⟨_,o,ho,_⟩:=I.ok.funs.mem hb
  exact absurd (Nat.lt_of_lt_of_le (Heap.lt_size ho) (Nat.le_trans I.sz h)) (Nat.lt_irrefl _)
theorem Inv.cne (I:Inv X pins σ H s):∀x c,X.env.cells.lookup x=some c→c≠X.env.locals:=fun x c e z=>by
  obtain⟨v,o,ho,hd⟩:=I.cell x c e
  obtain⟨m,⟨o',es,ep,ho',hd',_⟩,_⟩:=I.loc
  rw[z,ho'] at ho;cases ho;rw[hd'] at hd;cases hd
theorem Inv.funs (I:Inv X pins σ H s):s.heap.FunFrames X.base X.outer:=by
  have all:∀(l:List Env),(∀b∈frs l,b∈X.fs)→X.s₀.heap.FunFrames X.base l→s.heap.FunFrames X.base l:=by
    intro l
    induction l with
    |nil=>intro _ _;trivial
    | cons env r ih=>
      intro hs hl
      obtain⟨hk,⟨L,o,hf,hn,ho,hd⟩,hr⟩:=hl
      have hL:L∈X.fs:=hs L (by unfold frs;rw[List.filterMap_cons,hf];exact List.mem_cons_self)
      obtain⟨sl,e⟩:=I.base.slot L o ho (I.ok.frf L hL) hL fun z=>I.ok.exfs L z hL
      exact⟨hk,⟨L,_,hf,hn,e,hd⟩,ih (fun b hb=>hs b (by unfold frs;rw[List.filterMap_cons,hf];exact List.mem_cons_of_mem _ hb)) hr⟩
  exact all X.outer (fun _ hb=>hb) I.ok.funs
theorem Inv.stack (I:Inv X pins σ H s):s.heap.FunFrames X.base X.stack:=by
  rcases I.ok.stk with e |⟨e,hf⟩
  · rw[e];exact I.funs
  · rw[e]
    obtain⟨m,hn,_⟩:=I.loc
    refine .cons (by rw[I.ok.kind];decide) hf hn ?_ I.funs
    exact Heap.get?_none_of_le (Nat.le_trans I.ok.bsz I.ok.above)
theorem Inv.stkSub (I:Inv X pins σ H s):∀b∈frs X.stack,b∈X.env.locals::X.fs:=fun b hb=>by
  rcases I.ok.stk with e |⟨e,hf⟩
  · rw[e] at hb;exact List.mem_cons_of_mem _ hb
  · rw[e] at hb
    unfold frs at hb
    rw[List.filterMap_cons,hf] at hb
    exact hb
theorem Inv.stkFree (I:Inv X pins σ H s):∀b∈frs X.stack,H b=none:=fun b hb=>by
  rcases List.mem_cons.mp (I.stkSub b hb) with e |hb
  · rw[e];exact I.free
  · obtain⟨_,o,ho,_⟩:=I.ok.funs.mem hb
    exact I.base.free b o ho (I.ok.frf b hb) fun z=>I.ok.exfs b z hb
theorem Inv.step {g':Array GenState} {t':Nat} {d':Drawn} {ch:List Addr} (I:Inv X pins σ H s)
    (hch:∀b∈ch,(b∈X.ex∨X.s₀.heap.objs.size≤b)∧b≠X.env.locals∧(∀x c,X.env.cells.lookup x=some c→c≠b)∧∀p∈X.pn++pins,p.1≠b)
    (keep:∀b o,b≠X.env.locals→b∉X.fs→b∉ch→s.heap.get? b=some o→H b=none→h'.get? b=some o)
    (slot:∀b o,b≠X.env.locals→b∈X.fs→b∉ch→s.heap.get? b=some o→H b=none→∃sl,h'.get? b=some {o with slots:=sl}) (free:∀b o,b∉ch→s.heap.get? b=some o→H b=none→H' b=none)
    (there:∀b o,b∉ch→s.heap.get? b=some o→∃o',h'.get? b=some o')
    (tups:∀b xs,H b=some (.tup xs)→H' b=some (.tup xs)) (frzs:∀b o u,H b=some (.frz o u)→H' b=some (.frz o u)) (tbls:∀b ps,H b=some (.tbl ps)→∃more,H' b=some (.tbl (ps++more)))
    (ns:∀m,s.heap.Ns X.env.locals m→h'.Ns X.env.locals m) (hok:HOk X.prog X.w H' h') (hg:AllBare g'):
    Inv X pins σ H' {s with heap:=h',gens:=g',drawn:=d',toks:=t'}:=by
  have neL:∀b o,X.s₀.heap.get? b=some o→b≠X.env.locals:=fun b o e=>Nat.ne_of_lt (Nat.lt_of_lt_of_le (Heap.lt_size e) I.ok.above)
  have neC:∀b o,X.s₀.heap.get? b=some o→b∉X.ex→b∉ch:=fun b o e hx hb=>by
    rcases (hch b hb).1 with z |z
    · exact hx z
    · exact absurd (Nat.lt_of_lt_of_le (Heap.lt_size e) z) (Nat.lt_irrefl _)
  have cellK:∀x c,X.env.cells.lookup x=some c→∀v,s.heap.IsCell c v→h'.IsCell c v:=fun x c e v ⟨o,ho,hd⟩=>by
    have nch:c∉ch:=fun z=>(hch c z).2.2.1 x c e rfl
    by_cases hc:c∈X.fs
    · obtain⟨sl,q⟩:=slot c o (I.cne x c e) hc nch ho (I.freeC x c e)
      exact⟨_,q,hd⟩
    · exact⟨o,keep c o (I.cne x c e) hc nch ho (I.freeC x c e),hd⟩
  refine⟨I.ok,I.os,hg,⟨fun b o e n hb hx=>?_,fun b o e n hb hx=>?_,fun b o e n hx=>?_,fun b o e hx=>?_,fun b xs e=>tups b xs (I.base.tups b xs e),fun b o xs e=>frzs b o xs (I.base.frzs b o xs e),fun b ps e=>?_⟩,?_,fun x c e=>?_,?_,fun x c e=>?_,fun p hp=>?_,hok,I.len⟩
  · exact keep b o (neL b o e) hb (neC b o e hx) (I.base.keep b o e n hb hx) (I.base.free b o e n hx)
  · obtain⟨sl,e1⟩:=I.base.slot b o e n hb hx
    obtain⟨sl',e2⟩:=slot b _ (neL b o e) hb (neC b o e hx) e1 (I.base.free b o e n hx)
    exact⟨sl',e2⟩
  · obtain⟨o',e1⟩:=I.base.there b o e hx
    exact free b o' (neC b o e hx) e1 (I.base.free b o e n hx)
  · obtain⟨o',e1⟩:=I.base.there b o e hx
    exact there b o' (neC b o e hx) e1
  · obtain⟨m1,e1⟩:=I.base.tbls b ps e
    obtain⟨m2,e2⟩:=tbls b _ e1
    exact⟨m1++m2,by rw[e2,Array.append_assoc]⟩
  · obtain⟨m,hn,hl⟩:=I.loc
    refine⟨m,ns m hn,fun i x v e1 e2 e3=>?_⟩
    obtain⟨u,r,l⟩:=hl i x v e1 e2 e3
    refine⟨u,r,?_⟩
    rcases l with l |⟨k,c,e,z⟩
    · exact .inl l
    · exact .inr ⟨k,c,e,cellK x c e _ z⟩
  · obtain⟨v,z⟩:=I.cell x c e
    exact⟨v,cellK x c e v z⟩
  · obtain⟨m,⟨o,_,_,ho,_⟩,_⟩:=I.loc
    exact free _ o (fun z=>(hch _ z).2.1 rfl) ho I.free
  · obtain⟨v,o,ho,hd⟩:=I.cell x c e
    exact free c o (fun z=>(hch c z).2.2.1 x c e rfl) ho (I.freeC x c e)
  · obtain⟨e,n,ne,nf,d⟩:=I.pin p hp
    have nch:p.1∉ch:=fun z=>(hch p.1 z).2.2.2 p hp rfl
    exact⟨keep p.1 p.2 ne nf nch e n,free p.1 p.2 nch e n,ne,nf,d⟩
theorem Inv.un {t':Nat} (I:Inv X pins σ H s) (u:Un X.fs [] H H' s.heap h') (hok:HOk X.prog X.w H' h'):Inv X pins σ H' {s with heap:=h',toks:=t'}:=by
  obtain⟨m,⟨o,es,ep,ho,r⟩,_⟩:=id I.loc
  obtain⟨sl,hL⟩:=u.any ho I.free (by simp)
  exact I.step (g':=s.gens) (d':=s.drawn) (ch:=[]) (fun _ z=>nomatch z) (fun b o _ hb _ e n=>u.keep b o e n hb (by simp)) (fun b o _ hb _ e n=>u.slot b o e n hb (by simp)) (fun b o _ e n=>u.free b o e n (by simp)) (fun b o _ e=>u.there b o e (by simp)) u.tups u.frzs u.tbls (fun m' hm=>by
    obtain⟨o',es',ep',ho',r'⟩:=hm
    rw[ho] at ho';cases ho'
    exact⟨_,es',ep',hL,r'⟩) hok I.bare
theorem Inv.call {g':Array GenState} {t':Nat} {d':Drawn} {ch:List Addr} (I:Inv X pins σ H s) (u:Un (frs X.stack) ch H H' s.heap h') (hok:HOk X.prog X.w H' h') (hg:AllBare g')
    (hch:∀b∈ch,(b∈X.ex∨X.s₀.heap.objs.size≤b)∧b≠X.env.locals∧(∀x c,X.env.cells.lookup x=some c→c≠b)∧∀p∈X.pn++pins,p.1≠b):
    Inv X pins σ H' {s with heap:=h',gens:=g',drawn:=d',toks:=t'}:=by
  obtain⟨m,⟨o,es,ep,ho,r⟩,_⟩:=id I.loc
  obtain⟨sl,hL⟩:=u.any ho I.free fun z=>(hch _ z).2.1 rfl
  exact I.step (ch:=ch) hch (fun b o hL hb hc e n=>u.keep b o e n (fun z=>(List.mem_cons.mp (I.stkSub b z)).elim hL hb) hc) (fun b o _ _ hc e n=>u.any e n hc) (fun b o hc e n=>u.free b o e n hc) (fun b o hc e=>u.there b o e hc) u.tups u.frzs u.tbls (fun m' hm=>by
    obtain⟨o',es',ep',ho',r'⟩:=hm
    rw[ho] at ho';cases ho'
    exact⟨_,es',ep',hL,r'⟩) hok hg
theorem Inv.turned {t':Nat} {it:Addr} (I:Inv X pins σ H s) (k:∀b o,b≠it→s.heap.get? b=some o→h'.get? b=some o) (hn:H it=none) (hL:it≠X.env.locals)
    (h1:it∈X.ex∨X.s₀.heap.objs.size≤it) (h2:∀x c,X.env.cells.lookup x=some c→c≠it) (h3:∀p∈X.pn++pins,p.1≠it):Inv X pins σ H {s with heap:=h',toks:=t'}:=by
  have nit:∀b u,H b=some u→b≠it:=fun b u e z=>by rw[z,hn] at e;cases e
  refine I.step (g':=s.gens) (d':=s.drawn) (ch:=[it]) (fun b hb=>?_) (fun b o _ _ hc e _=>k b o (fun z=>hc (by simp[z])) e) (fun b o _ _ hc e _=>⟨o.slots,k b o (fun z=>hc (by simp[z])) e⟩) (fun _ _ _ _ n=>n)
    (fun b o hc e=>⟨o,k b o (fun z=>hc (by simp[z])) e⟩) (fun _ _ e=>e) (fun _ _ _ e=>e) (fun b ps e=>⟨#[],by rw[e];simp⟩) (fun m hm=>?_) (fun b u e=>?_) I.bare
  · have e:b=it:=by simpa using hb
    subst e
    exact⟨h1,hL,h2,h3⟩
  · obtain⟨o,es,ep,ho,r⟩:=hm
    exact⟨o,es,ep,k _ o (Ne.symm hL) ho,r⟩
  · refine (I.hok b u e).stay (fun c v hc q=>k c v ?_ q) (fun _ q=>q) (fun _ _ q=>q) fun _ _ _ _ q=>q
    rcases hc with z |z
    · rw[z];exact nit b u e
    · exact nit c _ z
theorem Inv.tok (I:Inv X pins σ H s) (t:Nat):Inv X pins σ H {s with toks:=t}:=I.un (h':=s.heap) (t':=t) Un.refl I.hok
theorem Inv.kept {t':Nat} (I:Inv X pins σ H s) (k:∀b u,s.heap.get? b=some u→h'.get? b=some u):Inv X pins σ H {s with heap:=h',toks:=t'}:=I.un (Un.kept k) (I.hok.kept k)
theorem Inv.laid {a:Addr} {o:HO} {t':Nat} (I:Inv X pins σ H s) (k:∀b u,s.heap.get? b=some u→h'.get? b=some u) (hp:s.heap.objs.size≤a) (new:ObjOk X.prog X.w (upd H a o) h' a o):
    Inv X pins σ (upd H a o) {s with heap:=h',toks:=t'}:=I.un (Un.laid k hp (I.hok.fresh hp)) (I.hok.laid k hp new)
theorem Inv.write {x e:Addr} {o:HO} {t':Nat} (I:Inv X pins σ H s) (mu:Mut (H x)) (he:e=x∨H e=some (.own x)) (k:∀b u,b≠e→s.heap.get? b=some u→h'.get? b=some u) (heo:∃u,h'.get? e=some u)
    (new:ObjOk X.prog X.w (upd H x o) h' x o):Inv X pins σ (upd H x o) {s with heap:=h',toks:=t'}:=I.un (Un.write mu he k heo) (I.hok.write mu he k heo new)
theorem Inv.pins_of {pins':List (Addr×Obj)} (I:Inv X pins σ H s) (h:∀p∈pins',s.heap.get? p.1=some p.2∧H p.1=none∧p.1≠X.env.locals∧p.1∉X.fs∧∀v,p.2.data≠.cell v):Inv X pins' σ H s:=
  ⟨I.ok,I.os,I.bare,I.base,I.loc,I.cell,I.free,I.freeC,fun p hp=>(List.mem_append.mp hp).elim (fun z=>I.pin p (List.mem_append_left _ z)) (h p),I.hok,I.len⟩
theorem nodup_ix {N:List Str} (hN:N.Nodup) {i j:Nat} {x:Str} (a:N[i]?=some x) (b:N[j]?=some x):i=j:=by
  obtain⟨h1,e1⟩:=List.getElem?_eq_some_iff.mp a
  obtain⟨h2,e2⟩:=List.getElem?_eq_some_iff.mp b
  exact (List.getElem_inj hN).mp (e1.trans e2.symm)
theorem store_ok2 {M:Model} {A:Around} {E:Value→Shared→Prop} {i:Nat} {x:Str} {v:V} {u:Value} {Q:Unit→Shared→Prop} (I:Inv X pins σ H s) (hN:X.N.Nodup) (hi:X.N[i]?=some x) (hx:Loc X.env.scope x) (r:RelV v u)
    (h:∀s',Inv X pins (σ.set i (some v)) H s'→(∃a,Heap.SameBut a s.heap s'.heap∧(a=X.env.locals∨X.env.cells.lookup x=some a))→Q () s') (hf:X.fn x=true∨X.env.scope.names.lookup x=some .local:=by first |exact .inl rfl |exact .inr rfl |assumption):wpAny M A (storeName X.env x u) Q E s:=by
  obtain⟨m,hn,hl⟩:=id I.loc
  have hcls:(X.env.scope.kind == .class || (X.env.scope.kind == .module && X.env.locals !=X.env.globals))=false:=by rw[I.ok.kind];rfl
  have hiσ:i < σ.length:=by rw[I.len];exact (List.getElem?_eq_some_iff.mp hi).1
  have cne:=I.cne
  have tracked:∀{a:Addr} {h':Heap},(∃o,s.heap.get? a=some o∧H a=none)→Heap.SameBut a s.heap h'→HOk X.prog X.w H h':=fun {a h'} ha hs b ob e=>by
    obtain⟨_,_,hfree⟩:=ha
    refine (I.hok b ob e).stay (fun c w' hc q=>(hs.2 c ?_).trans q) (fun _ q=>q) (fun _ _ q=>q) fun _ _ _ _ q=>q
    rintro rfl
    rcases hc with rfl |hc
    · rw[hfree] at e;cases e
    · rw[hfree] at hc;cases hc
  rcases hx with hk |hk
  · refine wpAny_storeName_local hk hn (fun h' hn' hs=>?_) hcls
    obtain⟨oL,_,_,hoL,_⟩:=id hn
    refine h _ ⟨I.ok,I.os,I.bare,⟨fun b o e n hb hx=>?_,fun b o e n hb hx=>?_,I.base.free,fun b o e hx=>?_,I.base.tups,I.base.frzs,I.base.tbls⟩,⟨_,hn',fun j y v' e1 e2 e3=>?_⟩,fun y c e=>?_,I.free,I.freeC,fun p hp=>?_,tracked ⟨oL,hoL,I.free⟩ hs,by simpa using I.len⟩ ⟨_,hs,.inl rfl⟩
    · exact (hs.2 b (Nat.ne_of_lt (Nat.lt_of_lt_of_le (Heap.lt_size e) I.ok.above))).trans (I.base.keep b o e n hb hx)
    · obtain⟨sl,e1⟩:=I.base.slot b o e n hb hx
      exact⟨sl,(hs.2 b (Nat.ne_of_lt (Nat.lt_of_lt_of_le (Heap.lt_size e) I.ok.above))).trans e1⟩
    · obtain⟨o',e1⟩:=I.base.there b o e hx
      exact⟨o',(hs.2 b (Nat.ne_of_lt (Nat.lt_of_lt_of_le (Heap.lt_size e) I.ok.above))).trans e1⟩
    · by_cases hj:j=i
      · subst hj
        rw[hi] at e1;cases e1
        rw[List.getElem?_set_self hiσ] at e2
        cases e2
        exact⟨u,r,.inl ⟨hk,by simp⟩⟩
      · rw[List.getElem?_set_ne (Ne.symm hj)] at e2
        obtain⟨u',r',q⟩:=hl j y v' e1 e2 e3
        refine⟨u',r',?_⟩
        rcases q with⟨k,e⟩ |⟨k,c,e,z⟩
        · refine .inl ⟨k,?_⟩
          have:y≠x:=fun e=>hj (nodup_ix hN e1 (e▸hi))
          simp[this,e]
        · exact .inr ⟨k,c,e,z.sameBut hs (cne y c e)⟩
    · obtain⟨w',z⟩:=I.cell y c e
      exact⟨w',z.sameBut hs (cne y c e)⟩
    · obtain⟨e,n,ne,nf,d⟩:=I.pin p hp
      exact⟨(hs.2 p.1 ne).trans e,n,ne,nf,d⟩
  · have hfn:X.fn x=true:=by
      rcases hf with z |z
      · exact z
      · rw[z] at hk;cases hk
    obtain⟨c,hc⟩:=I.ok.has x (.inl hk)
    obtain⟨w',z⟩:=I.cell x c hc
    refine wpAny_storeName_cell I.ok.kind hk hc z (fun h' hc' hs=>?_)
    obtain⟨oc,hoc,hocd⟩:=id z
    refine h {s with heap:=h'} ⟨I.ok,I.os,I.bare,⟨fun b o e n hb hx=>?_,fun b o e n hb hx=>?_,I.base.free,fun b o e hx=>?_,I.base.tups,I.base.frzs,I.base.tbls⟩,⟨m,hn.sameBut hs (Ne.symm (cne x c hc)),fun j y v' e1 e2 e3=>?_⟩,fun y c' e=>?_,I.free,I.freeC,fun p hp=>?_,tracked ⟨oc,hoc,I.freeC x c hc⟩ hs,by simpa using I.len⟩ ⟨c,hs,.inr hc⟩
    · exact (hs.2 b (Nat.ne_of_lt (Nat.lt_of_lt_of_le (Heap.lt_size e) (I.ok.cab x c hfn hc)))).trans (I.base.keep b o e n hb hx)
    · obtain⟨sl,e1⟩:=I.base.slot b o e n hb hx
      exact⟨sl,(hs.2 b (Nat.ne_of_lt (Nat.lt_of_lt_of_le (Heap.lt_size e) (I.ok.cab x c hfn hc)))).trans e1⟩
    · obtain⟨o',e1⟩:=I.base.there b o e hx
      exact⟨o',(hs.2 b (Nat.ne_of_lt (Nat.lt_of_lt_of_le (Heap.lt_size e) (I.ok.cab x c hfn hc)))).trans e1⟩
    · by_cases hj:j=i
      · subst hj
        rw[hi] at e1;cases e1
        rw[List.getElem?_set_self hiσ] at e2
        cases e2
        exact⟨u,r,.inr ⟨.inl hk,c,hc,hc'⟩⟩
      · rw[List.getElem?_set_ne (Ne.symm hj)] at e2
        obtain⟨u',r',q⟩:=hl j y v' e1 e2 e3
        refine⟨u',r',?_⟩
        rcases q with q |⟨k,c',e,z'⟩
        · exact .inl q
        · refine .inr ⟨k,c',e,z'.sameBut hs ?_⟩
          rintro rfl
          exact hj (nodup_ix hN e1 (I.ok.inj _ _ _ e hc▸hi))
    · by_cases hcc:c'=c
      · subst hcc;exact⟨_,hc'⟩
      · obtain⟨w2,z2⟩:=I.cell y c' e
        exact⟨w2,z2.sameBut hs hcc⟩
    · obtain⟨e,n,ne,nf,d⟩:=I.pin p hp
      refine⟨(hs.2 p.1 ?_).trans e,n,ne,nf,d⟩
      intro q
      rw[q,hoc] at e
      have q':oc=p.2:=Option.some.inj e
      exact d w' (by rw[←q'];exact hocd)
theorem store_ok {M:Model} {A:Around} {E:Value→Shared→Prop} {i:Nat} {x:Str} {v:V} {u:Value} {Q:Unit→Shared→Prop} (I:Inv X pins σ H s) (hN:X.N.Nodup) (hi:X.N[i]?=some x) (hx:Loc X.env.scope x) (r:RelV v u)
    (h:∀s',Inv X pins (σ.set i (some v)) H s'→Q () s') (hf:X.fn x=true∨X.env.scope.names.lookup x=some .local:=by first |exact .inl rfl |exact .inr rfl |assumption):wpAny M A (storeName X.env x u) Q E s:=
  store_ok2 I hN hi hx r (fun s' I' _=>h s' I') hf
theorem Inv.call' {s':Shared} {ch:List Addr} (I:Inv X pins σ H s) (ho:s'.os=s.os) (u:Un (frs X.stack) ch H H' s.heap s'.heap) (hok:HOk X.prog X.w H' s'.heap) (hg:AllBare s'.gens)
    (hch:∀b∈ch,(b∈X.ex∨X.s₀.heap.objs.size≤b)∧b≠X.env.locals∧(∀x c,X.env.cells.lookup x=some c→c≠b)∧∀p∈X.pn++pins,p.1≠b):Inv X pins σ H' s':=by
  obtain⟨h',g',d',t',o'⟩:=s'
  have e:o'=s.os:=ho
  subst e
  exact I.call (g':=g') (t':=t') (d':=d') u hok hg hch
end
noncomputable abbrev XK:=Value→Option Addr→Hp→Prop
noncomputable abbrev St:=List (Option V)
noncomputable abbrev VK:=V→Hp→Prop
noncomputable abbrev TE:=St→Hp→VK→Prop
noncomputable abbrev TT:=St→Hp→(Bool→Hp→Prop)→Prop
noncomputable abbrev TA:=St→Hp→(List V→Hp→Prop)→Prop
structure Ends where
  nx:St→Hp→Prop
  rt:VK
  bk:St→Hp→Prop:=fun _ _=>False
  ct:St→Hp→Prop:=fun _ _=>False
noncomputable abbrev TS:=Ends→St→Hp→Prop
inductive EP (X:Cx) (pins:List (Addr×Obj)) (σ:St) (Q:VK) (u:Value) (s':Shared):Prop
  |mk (v:V) (H':Hp) (I:Inv X pins σ H' s') (r:RelV v u) (q:Q v H'):EP X pins σ Q u s'
inductive TP (X:Cx) (pins:List (Addr×Obj)) (σ:St) (Q:Bool→Hp→Prop) (b:Bool) (s':Shared):Prop
  |mk (H':Hp) (I:Inv X pins σ H' s') (q:Q b H'):TP X pins σ Q b s'
inductive AP (X:Cx) (pins:List (Addr×Obj)) (σ:St) (Q:List V→Hp→Prop) (us:List Value) (s':Shared):Prop
  |mk (vs:List V) (H':Hp) (I:Inv X pins σ H' s') (r:Vals vs us) (q:Q vs H'):AP X pins σ Q us s'
inductive SPn (X:Cx) (pins:List (Addr×Obj)) (D:St→Hp→Prop) (s':Shared):Prop
  |mk (σ':St) (H':Hp) (I:Inv X pins σ' H' s') (d:D σ' H'):SPn X pins D s'
inductive SPr (X:Cx) (pins:List (Addr×Obj)) (D:V→Hp→Prop) (u:Value) (s':Shared):Prop
  |mk (v:V) (σ':St) (H':Hp) (I:Inv X pins σ' H' s') (r:RelV v u) (d:D v H'):SPr X pins D u s'
def SP (X:Cx) (pins:List (Addr×Obj)) (D:Ends) (f:Flow) (s':Shared):Prop:=
  match f with
  | .next=>SPn X pins D.nx s'
  | .brk=>SPn X pins D.bk s'
  | .cont=>SPn X pins D.ct s'
  | .ret u=>SPr X pins D.rt u s'
noncomputable def PE (X:Cx) (e:Expr) (t:TE):Prop:=
  ∀(pins:List (Addr×Obj)) (s:Shared) (σ:St) (H:Hp) (Q:VK),Inv X pins σ H s→t σ H Q→wpAny (model X.prog X.w) X.A (eval e X.env) (EP X pins σ Q) X.xe s
noncomputable def PT (X:Cx) (e:Expr) (t:TT):Prop:=
  ∀(pins:List (Addr×Obj)) (s:Shared) (σ:St) (H:Hp) (Q:Bool→Hp→Prop),Inv X pins σ H s→t σ H Q→wpAny (model X.prog X.w) X.A (isTrue e X.env (eval e X.env)) (TP X pins σ Q) X.xe s
noncomputable def PW (X:Cx) (e:Expr) (t:TT):Prop:=
  ∀(whole:Sem Value) (pins:List (Addr×Obj)) (s:Shared) (σ:St) (H:Hp) (Q:Bool→Hp→Prop),Inv X pins σ H s→t σ H Q→wpAny (model X.prog X.w) X.A (isTrue e X.env whole) (TP X pins σ Q) X.xe s
noncomputable def PA (X:Cx) (es:List Expr) (t:TA):Prop:=
  ∀(pos:Pos) (pins:List (Addr×Obj)) (s:Shared) (σ:St) (H:Hp) (Q:List V→Hp→Prop),Inv X pins σ H s→t σ H Q→wpAny (model X.prog X.w) X.A (spliced (backTo pos (starEach es X.env))) (AP X pins σ Q) X.xe s
noncomputable def PS (X:Cx) (st:Stmt) (t:TS):Prop:=
  ∀(pins:List (Addr×Obj)) (s:Shared) (σ:St) (H:Hp) (D:Ends),Inv X pins σ H s→t D σ H→wpAny (model X.prog X.w) X.A (exec st X.env) (SP X pins D) X.xe s
noncomputable def PSs (X:Cx) (st:List Stmt) (t:TS):Prop:=
  ∀(pins:List (Addr×Obj)) (s:Shared) (σ:St) (H:Hp) (D:Ends),Inv X pins σ H s→t D σ H→wpAny (model X.prog X.w) X.A (execs st X.env) (SP X pins D) X.xe s
theorem thn {α:Type} {t:Sem α} {Q Q':α→Shared→Prop} {M:Model} {A:Around} {E:Value→Shared→Prop} {s:Shared} (h:wpAny M A t Q E s) (hQ:∀a s,Q a s→Q' a s):wpAny M A t Q' E s:=wpAny_mono h hQ fun _ _ x=>x
end L2
namespace L2
open PySem PySem.Spec PyProof.Rows
section
variable {X:Cx}
theorem bin {a b:Expr} {ta tb:TE} (ha:PE X a ta) (hb:PE X b tb) {pins:List (Addr×Obj)} {s:Shared} {σ:St} {H:Hp} {R:V→V→Hp→Prop} (I:Inv X pins σ H s) (h:ta σ H fun x H1=>tb σ H1 fun y H2=>R x y H2)
    {α:Type} {Q:α→Shared→Prop} {f:Value→Value→Sem α}
    (hf:∀v u s2 x y H2,Inv X pins σ H2 s2→RelV x v→RelV y u→R x y H2→wpAny (model X.prog X.w) X.A (f v u) Q X.xe s2):
    wpAny (model X.prog X.w) X.A (eval a X.env) (fun v s₁=>wpAny (model X.prog X.w) X.A (eval b X.env) (fun u s₂=>wpAny (model X.prog X.w) X.A (f v u) Q X.xe s₂) X.xe s₁) X.xe s:=by
  refine thn (ha pins s σ H _ I h) fun v s1 bL=>?_
  obtain⟨x,H1,I1,r1,q1⟩:=bL
  refine thn (hb pins s1 σ H1 _ I1 q1) fun u s2 bL=>?_
  obtain⟨y,H2,I2,r2,q2⟩:=bL
  exact hf v u s2 x y H2 I2 r1 r2 q2
noncomputable def tVar (i:Nat):TE:=fun σ H Q=>∃v,σ[i]?=some (some v)∧Q v H
noncomputable def tC (v:V):TE:=fun _ H Q=>Q v H
theorem pe_var {i:Nat} {x:Str} {pos:Pos} (hN:X.N[i]?=some x) (hv:Vis X.env.scope x) (hd:(x ==("__debug__" :Str))=false:=by decide) (hcd:(x ==("__classdict__" :Str))=false:=by decide):PE X (.Name x pos) (tVar i):=by
  intro pins s σ H Q I h
  obtain⟨v,e,h⟩:=h
  obtain⟨m,hn,hl⟩:=I.loc
  obtain⟨u,r,l⟩:=hl i x v hN e hv
  have fin:EP X pins σ Q u s:=⟨v,H,I,r,h⟩
  rcases l with⟨hk,hm⟩ |⟨hk,c,hc,hcell⟩
  · exact wpAny_Name (wpAny_loadName_local I.ok.kind hk hn hm fin) hd
  · rcases hk with hk |hk
    · exact wpAny_Name (wpAny_loadName_cell I.ok.kind hk hc hcell fin) hd
    · exact wpAny_Name (wpAny_loadName_free I.ok.kind hk hc hcell fin hcd) hd
theorem pe_int {i j pos}:PE X (.Constant (.int i) j pos) (tC (.int i)):=fun _ _ _ H _ I h=>wpAny_Constant_int ⟨.int i,H,I.tok _,⟨_,rfl⟩,h⟩
theorem pe_bl {b j pos}:PE X (.Constant (.bool b) j pos) (tC (.bl b)):=fun _ _ _ H _ I h=>Constant_bool ⟨.bl b,H,I,rfl,h⟩
theorem pe_non {j pos}:PE X (.Constant .none j pos) (tC .non):=fun _ _ _ H _ I h=>Constant_none ⟨.non,H,I,rfl,h⟩
theorem pe_str {x j pos}:PE X (.Constant (.str x) j pos) (tC (.str x)):=fun _ _ _ H _ I h=>Calls.Constant_str ⟨.str x,H,I.tok _,⟨_,rfl⟩,h⟩
noncomputable def Gl (X:Cx) (x:Str):Prop:=X.env.kindOf x=some .globalImplicit
theorem ld_glob {E:Value→Shared→Prop} {pins:List (Addr×Obj)} {s:Shared} {σ:St} {H:Hp} {x:Str} {u:Value} {pos:Pos} {Q:Value→Shared→Prop} (I:Inv X pins σ H s) (hg:Gl X x) (hm:X.mg x=some u) (h:Q u s)
    (hd:(x ==("__debug__" :Str))=false:=by decide):wpAny (model X.prog X.w) X.A (eval (.Name x pos) X.env) Q E s:=
  Calls.Name_function_global I.ok.kind hg (Calls.loadGlobal_global (by rw[I.ok.glob];exact I.mod.glob.keeps I.bk) hm h) hd
theorem ld_blt {E:Value→Shared→Prop} {pins:List (Addr×Obj)} {s:Shared} {σ:St} {H:Hp} {x:Str} {u:Value} {pos:Pos} {Q:Value→Shared→Prop} (I:Inv X pins σ H s) (hg:Gl X x) (hm:X.mg x=none) (hv:bootBuiltins x=some u) (h:Q u s)
    (hn:x≠"__name__" :=by decide) (hd:(x ==("__debug__" :Str))=false:=by decide):wpAny (model X.prog X.w) X.A (eval (.Name x pos) X.env) Q E s:=by
  obtain⟨mb,h1,h2⟩:=I.mod.blt
  exact Calls.Name_function_global I.ok.kind hg (Calls.loadGlobal_builtin (by rw[I.ok.glob];exact I.mod.glob.keeps I.bk) hm (by rw[I.ok.blt];exact h1.keeps I.bk) ((h2 x hn).trans hv) h) hd
theorem pe_glob {x:Str} {v:V} {u:Value} {pos:Pos} (hg:Gl X x) (hm:X.mg x=some u) (r:RelV v u) (hd:(x ==("__debug__" :Str))=false:=by decide):PE X (.Name x pos) (tC v):=
  fun _ _ _ H _ I h=>ld_glob I hg hm ⟨v,H,I,r,h⟩ hd
theorem pe_bltn {x:Str} {v:V} {u:Value} {pos:Pos} (hg:Gl X x) (hm:X.mg x=none) (hv:bootBuiltins x=some u) (r:RelV v u) (hn:x≠"__name__" :=by decide) (hd:(x ==("__debug__" :Str))=false:=by decide):PE X (.Name x pos) (tC v):=
  fun _ _ _ H _ I h=>ld_blt I hg hm hv ⟨v,H,I,r,h⟩ hn hd
variable {a b:Expr} {ta tb:TE} {pos:Pos}
noncomputable def PC (X:Cx) (op:CmpOp) (a b:Expr) (t:TE):Prop:=
  ∀ (pins:List (Addr×Obj)) (s:Shared) (σ:St) (H:Hp) (Q:VK),Inv X pins σ H s→t σ H Q→
    wpAny (model X.prog X.w) X.A (eval a X.env) (fun v s₁=>wpAny (model X.prog X.w) X.A (eval b X.env) (fun u s₂=>wpAny (model X.prog X.w) X.A (compareOp op v u) (EP X pins σ Q) X.xe s₂) X.xe s₁) X.xe s
theorem nobehind (b:Expr) {op:CmpOp} (h:op≠.In) (h2:op≠.NotIn):behindInMarks op b=false:=by
  have e1:(op ==CmpOp.In)=false:=by cases op <;> first |rfl |exact absurd rfl h
  have e2:(op ==CmpOp.NotIn)=false:=by cases op <;> first |rfl |exact absurd rfl h2
  cases b <;> simp[behindInMarks,e1,e2]
noncomputable def tB (t:TE):TT:=fun σ H Q=>t σ H fun x H1=>∃c,x= .bl c∧Q c H1
theorem pt_cmp {op:CmpOp} {t:TE} (h:PC X op a b t) (h1:behindInMarks op b=false:=by first |exact nobehind _ (by decide) (by decide) |rfl):PT X (.Compare a [op] [b] pos) (tB t):=by
  intro pins s σ H Q I hw
  refine wpAny_isTrue_Compare1 (thn (h pins s σ H _ I hw) fun v s1 h1=>thn h1 fun u s2 h2=>thn h2 fun c s3 ⟨x,H1,I1,r1,q1⟩=>?_) h1
  obtain⟨d,rfl,q⟩:=q1
  cases r1
  exact wpAny_truthy_bool ⟨H1,I1,q⟩
theorem pt_val {e:Expr} {t:TE} (h:PE X e t) (he:∀whole,isTrue e X.env whole=(do let v ←whole;standAt e.pos;holding [v] (truthy v)):=by intro _;rfl):PT X e (tB t):=by
  intro pins s σ H Q I hw
  refine isTrue_plain (thn (h pins s σ H _ I hw) fun v s1 ⟨x,H1,I1,r1,q1⟩=>?_) (he _)
  obtain⟨d,rfl,q⟩:=q1
  cases r1
  exact wpAny_truthy_bool ⟨H1,I1,q⟩
variable {tA tB':TT} {rest:List Expr}
noncomputable def tAnd (t u:TT):TT:=fun σ H Q=>t σ H fun c H1=>if c=true then u σ H1 Q else Q false H1
noncomputable def tOr (t u:TT):TT:=fun σ H Q=>t σ H fun c H1=>if c=true then Q true H1 else u σ H1 Q
noncomputable def tNot (t:TT):TT:=fun σ H Q=>t σ H fun c H1=>Q (!c) H1
theorem pw_and1 (ha:PT X a tA):PW X (.BoolOp .And [a] pos) tA:=by
  intro wh pins s σ H Q I h
  refine isTrue_and (thn (ha pins s σ H Q I h) fun c s1 e=>?_)
  cases c with
  |true=>exact isTrue_and_nil e
  |false=>exact e
theorem pw_or1 (ha:PT X a tA):PW X (.BoolOp .Or [a] pos) tA:=by
  intro wh pins s σ H Q I h
  refine isTrue_or (thn (ha pins s σ H Q I h) fun c s1 e=>?_)
  cases c with
  |false=>exact isTrue_or_nil e
  |true=>exact e
theorem pw_and (ha:PT X a tA) (hb:PW X (.BoolOp .And (b::rest) pos) tB'):PW X (.BoolOp .And (a::b::rest) pos) (tAnd tA tB'):=by
  intro wh pins s σ H Q I h
  refine isTrue_and (thn (ha pins s σ H _ I h) fun c s1 bL=>?_)
  obtain⟨H1,I1,q1⟩:=bL
  cases c with
  |true=>exact hb wh pins s1 σ H1 Q I1 q1
  |false=>exact⟨H1,I1,q1⟩
theorem pw_or (ha:PT X a tA) (hb:PW X (.BoolOp .Or (b::rest) pos) tB'):PW X (.BoolOp .Or (a::b::rest) pos) (tOr tA tB'):=by
  intro wh pins s σ H Q I h
  refine isTrue_or (thn (ha pins s σ H _ I h) fun c s1 bL=>?_)
  obtain⟨H1,I1,q1⟩:=bL
  cases c with
  |true=>exact⟨H1,I1,q1⟩
  |false=>exact hb wh pins s1 σ H1 Q I1 q1
theorem pt_not (ha:PT X a tA):PT X (.UnaryOp .Not a pos) (tNot tA):=by
  intro pins s σ H Q I h
  refine isTrue_not (thn (ha pins s σ H (fun c H1=>Q (!c) H1) I h) fun c s1 hz=>?_)
  obtain⟨H1,I1,q1⟩:=hz
  exact⟨H1,I1,q1⟩
noncomputable def tAndV (ta tb:TE):TE:=fun σ H Q=>ta σ H fun x H1=>∃c,x= .bl c∧if c=true then tb σ H1 Q else Q (.bl false) H1
noncomputable def tOrV (ta tb:TE):TE:=fun σ H Q=>ta σ H fun x H1=>∃c,x= .bl c∧if c=true then Q (.bl true) H1 else tb σ H1 Q
noncomputable def tNotV (ta:TE):TE:=fun σ H Q=>ta σ H fun x H1=>∃c,x= .bl c∧Q (.bl (!c)) H1
theorem pe_one {op} {t:TE} (h:PE X a t):PE X (.BoolOp op [a] pos) t:=fun pins s σ H Q I hw=>BoolOp_one (h pins s σ H Q I hw)
theorem pe_and (ha:PE X a ta) (hb:PE X (.BoolOp .And (b::rest) pos) tb):PE X (.BoolOp .And (a::b::rest) pos) (tAndV ta tb):=by
  intro pins s σ H Q I h
  refine BoolOp_and (thn (ha pins s σ H _ I h) fun v s1 bL=>?_)
  obtain⟨x,H1,I1,r1,q1⟩:=bL
  obtain⟨c,rfl,q1⟩:=q1
  cases r1
  refine wpAny_truthy_bool ?_
  cases c with
  |true=>exact hb pins s1 σ H1 Q I1 q1
  |false=>exact⟨.bl false,H1,I1,rfl,q1⟩
theorem pe_or (ha:PE X a ta) (hb:PE X (.BoolOp .Or (b::rest) pos) tb):PE X (.BoolOp .Or (a::b::rest) pos) (tOrV ta tb):=by
  intro pins s σ H Q I h
  refine BoolOp_or (thn (ha pins s σ H _ I h) fun v s1 bL=>?_)
  obtain⟨x,H1,I1,r1,q1⟩:=bL
  obtain⟨c,rfl,q1⟩:=q1
  cases r1
  refine wpAny_truthy_bool ?_
  cases c with
  |false=>exact hb pins s1 σ H1 Q I1 q1
  |true=>exact⟨.bl true,H1,I1,rfl,q1⟩
theorem pe_not (ha:PE X a ta):PE X (.UnaryOp .Not a pos) (tNotV ta):=by
  intro pins s σ H Q I h
  refine UnaryOp_ (thn (ha pins s σ H _ I h) fun v s1 bL=>?_)
  obtain⟨x,H1,I1,r1,q1⟩:=bL
  obtain⟨c,rfl,q1⟩:=q1
  cases r1
  exact not_of (wpAny_truthy_bool ⟨.bl (!c),H1,I1,rfl,q1⟩)
noncomputable def tIf (t:TT) (ta tb:TE):TE:=fun σ H Q=>t σ H fun c H1=>if c=true then ta σ H1 Q else tb σ H1 Q
theorem pe_ifExp {c:Expr} (hc:PT X c tA) (ha:PE X a ta) (hb:PE X b tb):PE X (.IfExp c a b pos) (tIf tA ta tb):=by
  intro pins s σ H Q I h
  refine wpAny_IfExp (thn (hc pins s σ H _ I h) fun d s1 bL=>?_)
  obtain⟨H1,I1,q1⟩:=bL
  cases d with
  |true=>exact ha pins s1 σ H1 Q I1 q1
  |false=>exact hb pins s1 σ H1 Q I1 q1
end
end L2
namespace L2
open PySem PySem.Spec PyProof.Rows
noncomputable def SqL (K:PySem.W.Frag) (H:Hp) (a:Addr) (xs:List V):Prop:=
  Rd H a (.lst xs)∨
    ∃(o:Obj) (its:Array Value) (n:Nat),K.lookup a=some o∧o.cls= .type "list"∧o.dict=none∧o.data= .seq its n∧its.size≤sizeLine∧Vals xs its.toList
noncomputable def SqT (K:PySem.W.Frag) (H:Hp) (a:Addr) (xs:List V):Prop:=
  Rd H a (.tup xs)∨
    ∃(o:Obj) (its:Array Value) (n:Nat),K.lookup a=some o∧o.cls= .type "tuple"∧o.data= .seq its n∧its.size≤sizeLine∧Vals xs its.toList
noncomputable def absV:Value→Option V
  | .none=>some .non
  | .bool b=>some (.bl b)
  | .int i _=>some (.int i)
  | .str x _=>some (.str x)
  | .bytes b _=>some (.byt b)
  | .float b _=>some (.flt b)
  | .ref a=>some (.ref a)
  | .type n=>some (.ty n)
  |_=>none
theorem RelV.abs {x:V} {u:Value} (r:RelV x u):absV u=some x:=by
  cases x with
  |non=>cases r;rfl
  |bl _=>cases r;rfl
  |int _=>obtain⟨t,rfl⟩:=r;rfl
  |str _=>obtain⟨t,rfl⟩:=r;rfl
  |byt _=>obtain⟨t,rfl⟩:=r;rfl
  |flt _=>obtain⟨t,rfl⟩:=r;rfl
  |ref _=>cases r;rfl
  |ty _=>cases r;rfl
theorem RelV.inj {x y:V} {u:Value} (r:RelV x u) (q:RelV y u):x=y:=Option.some.inj (r.abs.symm.trans q.abs)
theorem Vals.inj:∀{xs ys:List V} {us:List Value},Vals xs us→Vals ys us→xs=ys
  :=by
  intro xs ys us h
  induction h generalizing ys with
  |nil=>intro q;cases q;rfl
  |cons r t ih=>intro q;cases q with |cons r' t'=>rw[r.inj r',ih t']
section
variable {X:Cx} {pins:List (Addr×Obj)} {σ:St} {H:Hp} {s:Shared} {a:Addr} {xs ys:List V}
theorem SqL.of {K:PySem.W.Frag} (h:H a=some (.lst xs)):SqL K H a xs:= .inl (.inl h)
theorem SqT.of {K:PySem.W.Frag} (h:H a=some (.tup xs)):SqT K H a xs:= .inl (.inl h)
theorem Inv.list (I:Inv X pins σ H s) (h:SqL X.K H a xs):∃its:List Value,Vals xs its∧PlainL s.heap a its.toArray∧xs.length≤sizeLine:=by
  rcases h with h |⟨o,its,n,hk,hc,hd,hs,hz,r⟩
  · obtain⟨z,its,n,r,e⟩:=h.ok I.hok
    exact⟨its,r,⟨_,n,e,rfl,rfl,rfl⟩,z⟩
  · refine⟨its.toList,r,⟨o,n,I.kIn a o hk,hc,hd,by simpa using hs⟩,?_⟩
    have e:=r.length
    simp only[Array.length_toList] at e
    omega
theorem Inv.tuple (I:Inv X pins σ H s) (h:SqT X.K H a xs):∃its:List Value,Vals xs its∧IsTup s.heap a its.toArray∧xs.length≤sizeLine:=by
  rcases h with h |⟨o,its,n,hk,hc,hs,hz,r⟩
  · obtain⟨z,its,r,p⟩:=h.ok I.hok
    exact⟨its,r,p,z⟩
  · refine⟨its.toList,r,⟨o,I.kIn a o hk,hc,n,by simpa using hs⟩,?_⟩
    have e:=r.length
    simp only[Array.length_toList] at e
    omega
theorem Inv.list_inj (I:Inv X pins σ H s) (h:SqL X.K H a xs) (h':SqL X.K H a ys):xs=ys:=by
  obtain⟨its,r,⟨o,n,e,_,_,d⟩,_⟩:=I.list h
  obtain⟨its',r',⟨o',n',e',_,_,d'⟩,_⟩:=I.list h'
  rw[e] at e';cases e'
  rw[d] at d'
  injection d' with d1 _
  have:its=its':=by simpa using congrArg Array.toList d1
  subst this
  exact r.inj r'
theorem Inv.tuple_inj (I:Inv X pins σ H s) (h:SqT X.K H a xs) (h':SqT X.K H a ys):xs=ys:=by
  obtain⟨its,r,⟨o,e,_,n,d⟩,_⟩:=I.tuple h
  obtain⟨its',r',⟨o',e',_,n',d'⟩,_⟩:=I.tuple h'
  rw[e] at e';cases e'
  rw[d] at d'
  injection d' with d1 _
  have:its=its':=by simpa using congrArg Array.toList d1
  subst this
  exact r.inj r'
end
noncomputable abbrev Cx.wish (X:Cx) (E:Value→Shared→Prop):Cx:={X with xe:=E}
noncomputable abbrev Cx.nox (X:Cx):Cx:=X.wish fun _ _=>False
theorem Cx.Ok.wish {X:Cx} (ok:X.Ok) (E:Value→Shared→Prop):(X.wish E).Ok:=
  ⟨ok.mod,ok.kind,ok.glob,ok.blt,ok.above,ok.inj,ok.has,ok.cab,ok.hd,ok.frames,ok.stk,ok.exf,ok.bs,ok.bsz,ok.noex,ok.exfs,ok.funs,ok.frf⟩
theorem Cx.Ok.unwish {X:Cx} {E:Value→Shared→Prop} (ok:(X.wish E).Ok):X.Ok:=
  ⟨ok.mod,ok.kind,ok.glob,ok.blt,ok.above,ok.inj,ok.has,ok.cab,ok.hd,ok.frames,ok.stk,ok.exf,ok.bs,ok.bsz,ok.noex,ok.exfs,ok.funs,ok.frf⟩
section
variable {X:Cx} {pins:List (Addr×Obj)} {σ:St} {H:Hp} {s:Shared} {E:Value→Shared→Prop}
theorem Inv.wish (I:Inv X pins σ H s) (E:Value→Shared→Prop):Inv (X.wish E) pins σ H s:=⟨I.ok.wish E,I.os,I.bare,I.base,I.loc,I.cell,I.free,I.freeC,I.pin,I.hok,I.len⟩
theorem Inv.unwish (I:Inv (X.wish E) pins σ H s):Inv X pins σ H s:=⟨I.ok.unwish,I.os,I.bare,I.base,I.loc,I.cell,I.free,I.freeC,I.pin,I.hok,I.len⟩
theorem SP.unwish {D:Ends} {f:Flow} {s':Shared} (h:SP (X.wish E) pins D f s'):SP X pins D f s':=by
  cases f with
  |next=>obtain⟨σ',H',I,q⟩:=h;exact⟨σ',H',I.unwish,q⟩
  |brk=>obtain⟨σ',H',I,q⟩:=h;exact⟨σ',H',I.unwish,q⟩
  |cont=>obtain⟨σ',H',I,q⟩:=h;exact⟨σ',H',I.unwish,q⟩
  |ret u=>obtain⟨v,σ',H',I,r,q⟩:=h;exact⟨v,σ',H',I.unwish,r,q⟩
theorem PSs.nox {st:List Stmt} {t:TS} (h:PSs X.nox st t):PSs X st t:=fun pins s σ H D I hw=>
  wpAny_mono (h pins s σ H D (I.wish _) hw) (fun _ _ q=>q.unwish) fun _ _ z=>False.elim z
end
section
variable {X:Cx} {st:Stmt} {rest:List Stmt} {t u:TS} {e:Expr} {te:TE} {pos:Pos}
noncomputable def tNext:TS:=fun D σ H=>D.nx σ H
noncomputable def tSeq (t u:TS):TS:=fun D σ H=>t {D with nx:=u D} σ H
theorem pss_nil:PSs X [] tNext:=fun _ _ σ H _ I h=>wpAny_execs_nil ⟨σ,H,I,h⟩
theorem pss_cons (h1:PS X st t) (h2:PSs X rest u):PSs X (st::rest) (tSeq t u):=by
  intro pins s σ H D I h
  refine wpAny_execs_cons (thn (h1 pins s σ H {D with nx:=u D} I h) fun f s1 q=>?_)
  cases f with
  | next=>
    obtain⟨σ',H',I',q⟩:=q
    exact h2 pins s1 σ' H' D I' q
  |ret v=>exact q
  |brk=>exact q
  |cont=>exact q
theorem pss_one (h1:PS X st t):PSs X [st] t:=by
  intro pins s σ H D I h
  refine wpAny_execs_cons (thn (h1 pins s σ H D I h) fun f s1 q=>?_)
  cases f with
  |next=>exact wpAny_execs_nil q
  |ret v=>exact q
  |brk=>exact q
  |cont=>exact q
theorem Inv.quiet {pins:List (Addr×Obj)} {σ:St} {H:Hp} {s:Shared} (I:Inv X pins σ H s):interactive X.env=false:=by simp[interactive,I.ok.kind]
noncomputable def tDrop (te:TE):TS:=fun D σ H=>te σ H fun _ H1=>D.nx σ H1
theorem ps_expr (he:PE X e te) (hs:swapsWith e none pos.line X.env=pure false:=by rfl):PS X (.Expr e pos) (tDrop te):=by
  intro pins s σ H D I h
  exact wpAny_Expr_any (thn (he pins s σ H _ I h) fun v s1 ⟨x,H1,I1,r1,q1⟩=>⟨σ,H1,I1,q1⟩) I.quiet hs
noncomputable def tRet (te:TE):TS:=fun D σ H=>te σ H D.rt
theorem ps_ret (he:PE X e te):PS X (.Return (some e) pos) (tRet te):=by
  intro pins s σ H D I h
  exact wpAny_Return_some (thn (he pins s σ H _ I h) fun v s1 ⟨x,H1,I1,r1,q1⟩=>⟨x,σ,H1,I1,r1,q1⟩)
noncomputable def tIfS (c:TT) (t u:TS):TS:=fun D σ H=>c σ H fun b H1=>if b=true then t D σ H1 else u D σ H1
theorem ps_if {c:Expr} {a b:List Stmt} {tc:TT} (hc:PT X c tc) (ha:PSs X a t) (hb:PSs X b u):PS X (.If c a b pos) (tIfS tc t u):=by
  intro pins s σ H D I h
  refine wpAny_If (thn (hc pins s σ H _ I h) fun d s1 bL=>?_)
  obtain⟨H1,I1,q1⟩:=bL
  cases d with
  |true=>exact ha pins s1 σ H1 D I1 q1
  |false=>exact hb pins s1 σ H1 D I1 q1
end
noncomputable abbrev TG:=V→St→Hp→(St→Hp→Prop)→Prop
noncomputable abbrev TGs:=List V→St→Hp→(St→Hp→Prop)→Prop
noncomputable def PG (X:Cx) (target:Expr) (t:TG):Prop:=
  ∀ (pins:List (Addr×Obj)) (s:Shared) (σ:St) (H:Hp) (v:V) (u:Value) (Q:St→Hp→Prop),Inv X pins σ H s→RelV v u→t v σ H Q→
    wpAny (model X.prog X.w) X.A (assign target X.env u) (fun _ s'=>SPn X pins Q s') X.xe s
noncomputable def PGs (X:Cx) (ts:List Expr) (t:TGs):Prop:=
  ∀ (pins:List (Addr×Obj)) (s:Shared) (σ:St) (H:Hp) (vs:List V) (us:List Value) (Q:St→Hp→Prop),Inv X pins σ H s→Vals vs us→t vs σ H Q→
    wpAny (model X.prog X.w) X.A (assignInOrder ((assignEach ts X.env).map (·.2)) us) (fun _ s'=>SPn X pins Q s') X.xe s
noncomputable abbrev TIp:=V→V→Hp→VK→Prop
noncomputable def PIp (X:Cx) (op:Operator) (t:TIp):Prop:=
  ∀ (pins:List (Addr×Obj)) (s:Shared) (σ:St) (H:Hp) (x y:V) (v u:Value) (Q:VK),Inv X pins σ H s→RelV x v→RelV y u→t x y H Q→
    wpAny (model X.prog X.w) X.A (inplaceOp op v u) (EP X pins σ Q) X.xe s
section
variable {X:Cx} {pos:Pos}
noncomputable def gName (i:Nat):TG:=fun v σ H Q=>Q (σ.set i (some v)) H
theorem pg_name {i:Nat} {x:Str} (hN:X.N.Nodup) (hi:X.N[i]?=some x) (hx:Loc X.env.scope x) (hf:X.fn x=true∨X.env.scope.names.lookup x=some .local:=by first |exact .inl rfl |exact .inr rfl |assumption):PG X (.Name x pos) (gName i):=by
  intro pins s σ H v u Q I r h
  exact wpAny_assign_Name (store_ok I hN hi hx r (fun s' I'=>⟨_,H,I',h⟩) hf)
noncomputable def gNil:TGs:=fun vs σ H Q=>vs=[]∧Q σ H
noncomputable def gCons (t:TG) (u:TGs):TGs:=fun vs σ H Q=>∃v r,vs=v::r∧t v σ H fun σ' H'=>u r σ' H' Q
theorem pgs_nil:PGs X [] gNil:=by
  intro pins s σ H vs us Q I r h
  obtain⟨e,h⟩:=h
  subst e
  cases r
  exact assignInOrder_nil ⟨σ,H,I,h⟩
theorem pgs_cons {e:Expr} {es:List Expr} {t:TG} {u:TGs} (h1:PG X e t) (h2:PGs X es u)
    (hs:(assignEach (e::es) X.env).map (·.2)=assign e X.env::(assignEach es X.env).map (·.2):=by rfl):PGs X (e::es) (gCons t u):=by
  intro pins s σ H vs us Q I r h
  obtain⟨v,vr,e1,h⟩:=h
  subst e1
  cases r with
  | cons r rr=>
    rw[hs]
    refine assignInOrder_cons (thn (h1 pins s σ H _ _ _ I r h) fun _ s1 bL=>?_)
    obtain⟨σ1,H1,I1,q1⟩:=bL
    exact h2 pins s1 σ1 H1 _ _ Q I1 rr q1
noncomputable def gTup (K:PySem.W.Frag) (n:Nat) (t:TGs):TG:=fun v σ H Q=>∃a xs,v= .ref a∧SqT K H a xs∧xs.length=n∧t xs σ H Q
theorem pg_tup {es:List Expr} {k:Nat} {t:TGs} {n:Nat} (hc:X.calm=true) (h:PGs X es t)
    (hn:(assignEach es X.env).length=n:=by rfl) (hst:(assignEach es X.env).findIdx? (·.1)=none:=by rfl):PG X (.Tuple es k pos) (gTup X.K n t):=by
  intro pins s σ H v u Q I r hw
  obtain⟨a,xs,e1,hq,hl,hw⟩:=hw
  subst e1
  cases r
  obtain⟨its,rv,ht,hz⟩:=I.tuple hq
  refine assign_Tuple_tuple (I.ok.hd hc) ht (by simp[hn,←hl,rv.length]) hst fun h' hx=>?_
  have I1:Inv X pins σ H {s with heap:=h'}:=I.kept (t':=s.toks) fun b o e=>hx b o (Nat.ne_of_lt (Heap.lt_size e)) e
  exact h pins _ σ H xs _ Q I1 (by simpa using rv) hw
noncomputable def tAsg (te:TE) (g:TG):TS:=fun D σ H=>te σ H fun x H1=>g x σ H1 D.nx
theorem ps_asg {tg e:Expr} {te:TE} {g:TG} (he:PE X e te) (hg:PG X tg g) (hs:swapsWithSole [tg] e pos.line X.env=pure false:=by rfl) (hw:swappedStores [tg] e X.env=pure none:=by rfl)
    (h1:(assignEach [tg] X.env).map (·.2)=[assign tg X.env]:=by rfl):PS X (.Assign [tg] e pos) (tAsg te g):=by
  intro pins s σ H D I h
  refine wpAny_Assign_stores (thn (he pins s σ H _ I h) fun v s1 ⟨x,H1,I1,r1,q1⟩=>?_) hs hw
  rw[h1]
  exact thn (hg pins s1 σ H1 x v _ I1 r1 q1) fun _ s2 q=>q
theorem ps_set {i:Nat} {x:Str} {e:Expr} {te:TE} {pos':Pos} (hN:X.N.Nodup) (hi:X.N[i]?=some x) (hx:Loc X.env.scope x) (he:PE X e te) (hs:swapsWith e (some (.Name x pos')) pos.line X.env=pure false:=by rfl) (hf:X.fn x=true∨X.env.scope.names.lookup x=some .local:=by first |exact .inl rfl |exact .inr rfl |assumption):
    PS X (.Assign [.Name x pos'] e pos) (tAsg te (gName i)):=by
  intro pins s σ H D I h
  refine wpAny_Assign_Name (thn (he pins s σ H _ I h) fun v s1 ⟨y,H1,I1,r1,q1⟩=>?_) hs
  exact store_ok I1 hN hi hx r1 (fun s2 I2=>⟨_,H1,I2,q1⟩) hf
noncomputable def tPar (i j:Nat) (ta:TA):TS:=fun D σ H=>ta σ H fun vs H1=>∃v w,vs=[v,w]∧D.nx ((σ.set i (some v)).set j (some w)) H1
theorem ps_par {i j:Nat} {x y:Str} {a b:Expr} {ta:TA} {px py pt:Pos} {kt k2 pt2} (hc:X.calm=true) (hN:X.N.Nodup) (hi:X.N[i]?=some x) (hj:X.N[j]?=some y) (hij:i≠j)
    (hx:X.env.scope.names.lookup x=some .local) (hy:X.env.scope.names.lookup y=some .local) (ha:PA X [a,b] ta)
    (hw:swappedStores [.Tuple [.Name x px,.Name y py] kt pt] (.Tuple [a,b] k2 pt2) X.env=pure (some [x,y]))
    (hs:swapsWithSole [.Tuple [.Name x px,.Name y py] kt pt] (.Tuple [a,b] k2 pt2) pos.line X.env=pure false:=by rfl):
    PS X (.Assign [.Tuple [.Name x px,.Name y py] kt pt] (.Tuple [a,b] k2 pt2) pos) (tPar i j ta):=by
  intro pins s σ H D I h
  rw[exec_Assign_arm]
  refine wpAny_bind (wpAny_standAt ?_)
  rw[hs]
  refine wpAny_bind (wpAny_pure ?_)
  rw[if_neg (by decide)]
  refine wpAny_bind (Tuple_ (thn (ha _ pins s σ H _ I h) fun us s1 bL=>?_))
  obtain⟨vs,H1,I1,r1,q1⟩:=bL
  obtain⟨v,w,e1,q1⟩:=q1
  subst e1
  obtain⟨u1,u2,rfl,rv,rw'⟩:∃u1 u2,us=[u1,u2]∧RelV v u1∧RelV w u2:=by
    cases r1 with
    | cons p q=>
      cases q with
      | cons p' q'=>
        cases q'
        exact⟨_,_,rfl,p,p'⟩
  refine wpAny_newObj_type ?_ (by show 2≤sizeLine;decide)
  have I2:Inv X pins σ H1 {s1 with heap:=s1.heap.push {cls:= .type "tuple",data:= .seq [u1,u2].toArray}}:=I1.kept (t':=s1.toks) fun b o e=>Heap.get?_push_of_some _ e
  rw[hw]
  refine wpAny_bind (wpAny_pure ?_)
  show wpAny (model X.prog X.w) X.A (do rule "assign.swapped-stores";let items ←unpackItems (.ref s1.heap.objs.size) 2 none;assignInOrder [fun v=>bindName X.env y v,fun v=>bindName X.env x v] items.reverse;pure Flow.next) _ _ _
  refine wpAny_bind (wpAny_rule (wpAny_bind (unpackItems_tuple (items:= #[u1,u2]) (I.ok.hd hc) (IsTup.new s1.heap _) fun h' hx'=>?_)))
  have I3:=I2.kept (h':=h') (t':=s1.toks) fun b o e=>hx' b o (Nat.ne_of_lt (Heap.lt_size e)) e
  show wpAny _ _ (assignInOrder [fun v=>bindName X.env y v,fun v=>bindName X.env x v] [u2,u1] >>=fun _=>pure Flow.next) _ _ _
  refine wpAny_bind (assignInOrder_cons (wpAny_bindName (store_ok I3 hN hj (.inl hy) rw' (fun s2 I4=>?_) (.inr hy))))
  refine assignInOrder_cons (wpAny_bindName (store_ok I4 hN hi (.inl hx) rv (fun s3 I5=>assignInOrder_nil (wpAny_pure ?_)) (.inr hx)))
  rw[List.set_comm _ _ (Ne.symm hij)] at I5
  exact⟨_,H1,I5,q1⟩
noncomputable def tAug (i:Nat) (te:TE) (ti:TIp):TS:=fun D σ H=>∃x,σ[i]?=some (some x)∧te σ H fun y H1=>ti x y H1 fun z H2=>D.nx (σ.set i (some z)) H2
theorem ps_aug {i:Nat} {x:Str} {e:Expr} {te:TE} {op:Operator} {ti:TIp} {pos':Pos} (hN:X.N.Nodup) (hi:X.N[i]?=some x) (hx:Loc X.env.scope x) (he:PE X e te) (ho:PIp X op ti) (hf:X.fn x=true∨X.env.scope.names.lookup x=some .local:=by first |exact .inl rfl |exact .inr rfl |assumption):
    PS X (.AugAssign (.Name x pos') op e pos) (tAug i te ti):=by
  intro pins s σ H D I h
  obtain⟨v,e1,h⟩:=h
  obtain⟨m,hn,hl⟩:=I.loc
  have vis:Vis X.env.scope x:=by rcases hx with k |k;exact .inl k;exact .inr (.inl k)
  obtain⟨u,r,l⟩:=hl i x v hi e1 vis
  refine wpAny_AugAssign_Name ?_
  have go:wpAny (model X.prog X.w) X.A (eval e X.env) (fun w s₂=>wpAny (model X.prog X.w) X.A (inplaceOp op u w) (fun r s₃=>wpAny (model X.prog X.w) X.A (storeName X.env x r) (fun _=>SP X pins D .next) X.xe s₃) X.xe s₂) X.xe s:=by
    refine thn (he pins s σ H _ I h) fun w s1 bL=>?_
    obtain⟨y,H1,I1,r1,q1⟩:=bL
    refine thn (ho pins s1 σ H1 v y u w _ I1 r r1 q1) fun z s2 bL=>?_
    obtain⟨zv,H2,I2,r2,q2⟩:=bL
    exact store_ok I2 hN hi hx r2 (fun s3 I3=>⟨_,H2,I3,q2⟩) hf
  rcases l with⟨hk,hm⟩ |⟨hk,c,hc,hcell⟩
  · exact wpAny_loadName_local I.ok.kind hk hn hm go
  · rcases hk with hk |hk
    · exact wpAny_loadName_cell I.ok.kind hk hc hcell go
    · rcases hx with k |k
      · have:X.env.scope.names.lookup x=some .free:=hk
        rw[k] at this;cases this
      · have:X.env.scope.names.lookup x=some .free:=hk
        rw[k] at this;cases this
noncomputable def ipI (f:Int→Int→Int):TIp:=fun x y H Q=>∃i j,x= .int i∧y= .int j∧Q (.int (f i j)) H
theorem ip_add:PIp X .Add (ipI fun i j=>i+j):=by
  intro pins s σ H x y v u Q I r1 r2 h
  obtain⟨i,j,e1,e2,q⟩:=h
  subst e1;subst e2
  obtain⟨t,rfl⟩:=r1
  obtain⟨t',rfl⟩:=r2
  exact iadd_int ⟨.int _,H,I.tok _,⟨_,rfl⟩,q⟩
end
section
variable {X:Cx} {pos:Pos}
noncomputable def tWhile (c:TT) (tb:TS):TS:=fun D σ H=>∃W:Nat→St→Hp→Prop,(∃m,W m σ H)∧∀m σ H,W m σ H→
  c σ H fun b H1=>if b=true then ∃N:St→Hp→Prop,(∀σ' H',N σ' H'→∃m',m' < m∧W m' σ' H')∧tb {D with nx:=N,ct:=N,bk:=D.nx} σ H1 else D.nx σ H1
theorem ps_while {c:Expr} {body:List Stmt} {tc:TT} {tb:TS} (hp:PassesOwn (model X.prog X.w) X.A X.env X.xe) (hc:PT X c tc) (hb:PSs X body tb):PS X (.While c body [] pos) (tWhile tc tb):=by
  intro pins s σ H D I h
  obtain⟨W,⟨m0,w0⟩,turn⟩:=h
  refine wpAny_While (codeAny_whileLoop (fun n s'=>∃σ' H',Inv X pins σ' H' s'∧W n σ' H') ?_ m0 ⟨σ,H,I,w0⟩)
  rintro n s1 ⟨σ1,H1,I1,w1⟩
  refine wpAny_passesOwn hp (thn (hc pins s1 σ1 H1 _ I1 (turn n σ1 H1 w1)) fun b s2 bL=>?_)
  obtain⟨H2,I2,q2⟩:=bL
  cases b with
  | true=>
    obtain⟨N,hN,q2⟩:=q2
    rw[if_pos rfl]
    refine wpAny_passesOwn hp (thn (hb pins s2 σ1 H2 _ I2 q2) fun f s3 q3=>?_)
    cases f with
    | next=>
      obtain⟨σ3,H3,I3,n3⟩:=q3
      obtain⟨m',hm,w3⟩:=hN σ3 H3 n3
      exact⟨m',hm,σ3,H3,I3,w3⟩
    | cont=>
      obtain⟨σ3,H3,I3,n3⟩:=q3
      obtain⟨m',hm,w3⟩:=hN σ3 H3 n3
      exact⟨m',hm,σ3,H3,I3,w3⟩
    |brk=>exact q3
    |ret v=>exact q3
  | false=>
    rw[if_neg Bool.false_ne_true]
    exact wpAny_execs_nil ⟨σ1,H2,I2,q2⟩
end
structure It where
  go:Nat→Hp→Prop
  yld:Nat→Hp→V→Hp→Prop
  stop:Nat→Hp→Prop
noncomputable def FpOk (X:Cx) (pins:List (Addr×Obj)) (H:Hp) (b:Addr):Prop:=
  H b=none∧b≠X.env.locals∧b∉X.fs∧(b∈X.ex∨X.s₀.heap.objs.size≤b)∧(∀x c,X.env.cells.lookup x=some c→c≠b)∧∀p∈X.pn++pins,p.1≠b
theorem Inv.fpOk {X:Cx} {pins:List (Addr×Obj)} {σ:St} {H H':Hp} {s:Shared} {b:Addr} (I:Inv X pins σ H s) (hb:s.heap.objs.size≤b) (hn:H' b=none):FpOk X pins H' b:=by
  refine⟨hn,Nat.ne_of_gt (Nat.lt_of_lt_of_le I.lt hb),I.nofs hb,.inr (Nat.le_trans I.sz hb),fun x c e z=>?_,fun p hp z=>?_⟩
  · obtain⟨v,q⟩:=I.cell x c e
    exact absurd (Nat.lt_of_lt_of_le q.lt (by rw[z];exact hb)) (Nat.lt_irrefl _)
  · exact absurd (Nat.lt_of_lt_of_le (Heap.lt_size (I.pin p hp).1) (by rw[z];exact hb)) (Nat.lt_irrefl _)
inductive aj5 (X:Cx) (pins:List (Addr×Obj)) (σ:St) (H:Hp) (J:It) (tn:Nat→Heap→Prop) (fp:List Addr) (i:Nat) (u:Value) (s2:Shared):Prop
  |mk (x:V) (H':Hp) (I:Inv X pins σ H' s2) (r:RelV x u) (y:J.yld i H x H') (st:tn (i+1) s2.heap) (f:∀b∈fp,H' b=none):aj5 X pins σ H J tn fp i u s2
structure Turn (P:Program) (w:World) (K:PySem.W.Frag) (tg:Expr) (J:It) (fp:List Addr) (it:Addr) (tn:Nat→Heap→Prop):Prop where
  mem:it∈fp
  obj:∀i h,tn i h→∀b∈fp,∃o,h.get? b=some o∧∀v,o.data≠.cell v
  keep:∀i h h',tn i h→(∀b∈fp,∀o,h.get? b=some o→h'.get? b=some o)→tn i h'
  item:∀(X:Cx),X.prog=P→X.w=w→X.K=K→X.calm=true→∀(i:Nat) (pins:List (Addr×Obj)) (s:Shared) (σ:St) (H:Hp) (E:Value→Shared→Prop),Inv X pins σ H s→(∀b∈fp,FpOk X pins H b)→tn i s.heap→J.go i H→
    wpAny (model P w) X.A (pyNext (.ref it)) (fun r s1=>∃u,r=some u∧
      wpAny (model P w) X.A (letOwnedTupleGo tg (.ref it) u) (fun _ s2=>aj5 X pins σ H J tn fp i u s2) E s1) E s
  done:∀(X:Cx),X.prog=P→X.w=w→X.K=K→X.calm=true→∀(i:Nat) (pins:List (Addr×Obj)) (s:Shared) (σ:St) (H:Hp) (E:Value→Shared→Prop),Inv X pins σ H s→(∀b∈fp,FpOk X pins H b)→tn i s.heap→J.stop i H→
    wpAny (model P w) X.A (pyNext (.ref it)) (fun r s1=>r=none∧Inv X pins σ H s1) E s
  self:∀(A:Around) (i:Nat) (s:Shared) (Q:Value→Shared→Prop) (E:Value→Shared→Prop),tn i s.heap→Q (.ref it) s→wpAny (model P w) A (pyIter (.ref it)) Q E s
noncomputable abbrev TI:=St→Hp→(It→Hp→Prop)→Prop
inductive PIE (X:Cx) (pins:List (Addr×Obj)) (σ:St) (tg:Expr) (R:It→Hp→Prop) (itv:Value) (s2:Shared):Prop
  |mk (it:Addr) (fp:List Addr) (tn:Nat→Heap→Prop) (J:It) (H':Hp) (e:itv= .ref it) (I:Inv X pins σ H' s2) (T:Turn X.prog X.w X.K tg J fp it tn) (st:tn 0 s2.heap) (f:∀b∈fp,FpOk X pins H' b) (r:R J H'):PIE X pins σ tg R itv s2
noncomputable def PI (X:Cx) (tg iter:Expr) (wi:TI):Prop:=
  ∀ (pins:List (Addr×Obj)) (s:Shared) (σ:St) (H:Hp) (R:It→Hp→Prop),Inv X pins σ H s→wi σ H R→
    wpAny (model X.prog X.w) X.A (eval iter X.env) (fun v s1=>wpAny (model X.prog X.w) X.A (pyIter v) (PIE X pins σ tg R) X.xe s1) X.xe s
theorem go_of {M:Model} {A:Around} {E:Value→Shared→Prop} {s:Shared} {tg:Expr} {it:Addr} {u:Value} {o:Obj} {n:String} {vs:Array Value} {Q:Unit→Shared→Prop} (ho:s.heap.get? it=some o) (hc:o.cls= .type n) (hd:o.data= .fields vs)
    (hn:["enumerate","zip","dict_itemiterator","dict_reverseitemiterator","odict_iterator","itertools.zip_longest","itertools.pairwise"].contains n=false) (hQ:Q () s):wpAny M A (letOwnedTupleGo tg (.ref it) u) Q E s:=by
  unfold letOwnedTupleGo
  cases tg <;> first
    |exact wpAny_pure hQ
    | (cases u <;> first
        |exact wpAny_pure hQ
        | (refine wpAny_bind (wpAny_load ho ?_)
           rw[hc,hd]
           show wpAny M A (if (["enumerate","zip","dict_itemiterator","dict_reverseitemiterator","odict_iterator","itertools.zip_longest","itertools.pairwise"].contains n && vs[0]? ==some (rawInt _))=true then _ else _) Q E s
           rw[if_neg (by intro h;rw[hn,Bool.false_and] at h;cases h)]
           exact wpAny_pure hQ))
noncomputable def Itl (K:PySem.W.Frag) (a:Addr):It:=
  ⟨fun i H=>∃xs x,SqL K H a xs∧xs[i]?=some x,fun i H x H'=>H'=H∧∀xs,SqL K H a xs→xs[i]?=some x,fun i H=>∃xs,SqL K H a xs∧xs.length≤i⟩
noncomputable def Itt (K:PySem.W.Frag) (a:Addr):It:=
  ⟨fun i H=>∃xs x,SqT K H a xs∧xs[i]?=some x,fun i H x H'=>H'=H∧∀xs,SqT K H a xs→xs[i]?=some x,fun i H=>∃xs,SqT K H a xs∧xs.length≤i⟩
noncomputable def Itr (lo:Int) (n:Nat):It:=⟨fun i _=>i < n,fun i H x H'=>H'=H∧x= .int (lo+i),fun i _=>n≤i⟩
theorem turn_list {P:Program} {w:World} {K:PySem.W.Frag} {tg:Expr} (a it:Addr):Turn P w K tg (Itl K a) [it] it (fun i h=>h.IsListIter it a i) where
  mem:=by simp
  obj:=fun i h st b hb=>by
    have e:b=it:=by simpa using hb
    subst e
    obtain⟨o,e,c,d⟩:=st
    exact⟨o,e,fun v z=>by rw[d] at z;cases z⟩
  keep:=fun i h h' st k=>st.at fun o e=>k it (by simp) o e
  item:=by
    intro X hP hw hK hc i pins s σ H E I hf st hg
    subst hP hw hK
    obtain⟨xs,x,hq,hx⟩:=hg
    obtain⟨its,rv,p,hz⟩:=I.list hq
    obtain⟨u,hu,ru⟩:=rv.get hx
    obtain⟨f0,f1,f2,f3,f4,f5⟩:=hf it (by simp)
    refine wpAny_pyNext_list_item st p.isList (x:=u) (by simpa using hu) fun h' st' sb=>?_
    have I1:Inv X pins σ H {s with heap:=h'}:=I.turned (t':=s.toks) (fun b o hb e=>(sb.2 b hb).trans e) f0 f1 f3 f4 f5
    obtain⟨o,e,c,d⟩:=id st'
    exact⟨u,rfl,go_of (s:={s with heap:=h'}) e c d (by decide) ⟨x,H,I1,ru,⟨rfl,fun ys hy=>by rw[I.list_inj hy hq];exact hx⟩,st',fun b hb=>(hf b hb).1⟩⟩
  done:=by
    intro X hP hw hK hc i pins s σ H E I hf st hg
    subst hP hw hK
    obtain⟨xs,hq,hx⟩:=hg
    obtain⟨its,rv,p,hz⟩:=I.list hq
    obtain⟨f0,f1,f2,f3,f4,f5⟩:=hf it (by simp)
    have hl:=rv.length
    exact wpAny_pyNext_list_end (I.ok.hd hc) st p.isList (by simp;omega) fun h' eb=>⟨rfl,I.turned (t':=s.toks) (fun b o hb e=>eb b o hb e) f0 f1 f3 f4 f5⟩
  self:=fun _ _ _ _ _ st h=>wpAny_pyIter_listiter st h
theorem turn_tuple {P:Program} {w:World} {K:PySem.W.Frag} {tg:Expr} (a it:Addr):Turn P w K tg (Itt K a) [it] it (fun i h=>h.IsTupleIter it a i) where
  mem:=by simp
  obj:=fun i h st b hb=>by
    have e:b=it:=by simpa using hb
    subst e
    obtain⟨o,e,c,d⟩:=st
    exact⟨o,e,fun v z=>by rw[d] at z;cases z⟩
  keep:=fun i h h' st k=>st.at fun o e=>k it (by simp) o e
  item:=by
    intro X hP hw hK hc i pins s σ H E I hf st hg
    subst hP hw hK
    obtain⟨xs,x,hq,hx⟩:=hg
    obtain⟨its,rv,p,hz⟩:=I.tuple hq
    obtain⟨u,hu,ru⟩:=rv.get hx
    obtain⟨f0,f1,f2,f3,f4,f5⟩:=hf it (by simp)
    refine wpAny_pyNext_tuple_item st (show s.heap.IsTuple a its.toArray from p) (x:=u) (by simpa using hu) fun h' st' sb=>?_
    have I1:Inv X pins σ H {s with heap:=h'}:=I.turned (t':=s.toks) (fun b o hb e=>(sb.2 b hb).trans e) f0 f1 f3 f4 f5
    obtain⟨o,e,c,d⟩:=id st'
    exact⟨u,rfl,go_of (s:={s with heap:=h'}) e c d (by decide) ⟨x,H,I1,ru,⟨rfl,fun ys hy=>by rw[I.tuple_inj hy hq];exact hx⟩,st',fun b hb=>(hf b hb).1⟩⟩
  done:=by
    intro X hP hw hK hc i pins s σ H E I hf st hg
    subst hP hw hK
    obtain⟨xs,hq,hx⟩:=hg
    obtain⟨its,rv,p,hz⟩:=I.tuple hq
    obtain⟨f0,f1,f2,f3,f4,f5⟩:=hf it (by simp)
    have hl:=rv.length
    exact wpAny_pyNext_tuple_end (I.ok.hd hc) st (show s.heap.IsTuple a its.toArray from p) (by simp;omega) fun h' eb=>⟨rfl,I.turned (t':=s.toks) (fun b o hb e=>eb b o hb e) f0 f1 f3 f4 f5⟩
  self:=fun _ _ _ _ _ st h=>wpAny_pyIter_tupleiter st h
theorem turn_range {P:Program} {w:World} {K:PySem.W.Frag} {tg:Expr} (it:Addr) (lo:Int) (n:Nat):Turn P w K tg (Itr lo n) [it] it (fun i h=>IsRangeIter h it (lo+(i:Nat)*1) ((n:Int) - (i:Nat)) 1) where
  mem:=by simp
  obj :=fun i h st b hb=>by
    have e:b=it:=by simpa using hb
    subst e
    exact⟨_,st,fun v z=>by
      have z':Data.fields _=Data.cell v:=z
      cases z'⟩
  keep:=fun i h h' st k=>k it (by simp) _ st
  item:=by
    intro X hP hw hK hc i pins s σ H E I hf st hg
    subst hP hw hK
    obtain⟨f0,f1,f2,f3,f4,f5⟩:=hf it (by simp)
    have W:=Walks.range (prog:=X.prog) (w:=X.w) (I.ok.hd hc) it lo 1 n
    refine W.item i s _ _ hg st fun v h' tk hv st' kk=>?_
    obtain⟨t,rfl⟩:=hv
    have I1:Inv X pins σ H {s with heap:=h',toks:=tk}:=I.turned (fun b o hb e=>kk b o (by simpa using hb) e) f0 f1 f3 f4 f5
    refine⟨_,rfl,go_of (s:={s with heap:=h',toks:=tk}) (n:= "range_iterator") st' rfl rfl (by decide) ⟨.int (lo+i),H,I1,⟨t,?_⟩,⟨rfl,rfl⟩,st',fun b hb=>(hf b hb).1⟩⟩
    rw[Int.mul_one]
  done:=by
    intro X hP hw hK hc i pins s σ H E I hf st hg
    subst hP hw hK
    obtain⟨f0,f1,f2,f3,f4,f5⟩:=hf it (by simp)
    exact wpAny_pyNext_range_end (I.ok.hd hc) st (by have:n≤i:=hg;omega) fun h' eb=>⟨rfl,I.turned (t':=s.toks) (fun b o hb e=>eb b o hb e) f0 f1 f3 f4 f5⟩
  self:=fun _ _ _ _ _ st h=>wpAny_pyIter_rangeiter st h
end L2
namespace L2
open PySem PySem.Spec PyProof.Rows
section
variable {X:Cx} {tg:Expr}
theorem range_it {pins:List (Addr×Obj)} {σ:St} {H:Hp} {s:Shared} {R:It→Hp→Prop} {E:Value→Shared→Prop} {lo hi:Int} {t u v:Tok} {tk:Nat} (I:Inv X pins σ H s) (h1: -(2 ^ 62)≤lo) (h2:lo < 2 ^ 62) (h3: -(2 ^ 62)≤hi) (h4:hi < 2 ^ 62)
    (q:R (Itr lo (hi - lo).toNat) H):wpAny (model X.prog X.w) X.A (pyIter (.ref s.heap.objs.size)) (PIE X pins σ tg R) E {s with heap:=s.heap.push {cls:= .type "range",data:= .fields #[.int lo t,.int hi u,.int 1 v]},toks:=tk}:=by
  refine wpAny_pyIter_range (IsRange.new ..) (small_one h1 h2 h3 h4) ?_
  have I1:Inv X pins σ H {s with heap:=s.heap.push {cls:= .type "range",data:= .fields #[.int lo t,.int hi u,.int 1 v]},toks:=tk}:=I.kept fun b o e=>Heap.get?_push_of_some _ e
  refine⟨(s.heap.push {cls:= .type "range",data:= .fields #[.int lo t,.int hi u,.int 1 v]}).objs.size,[(s.heap.push {cls:= .type "range",data:= .fields #[.int lo t,.int hi u,.int 1 v]}).objs.size],_,_,H,rfl,
    I1.kept (t':=tk) fun b o e=>Heap.get?_push_of_some _ e,turn_range _ lo (hi - lo).toNat,?_,fun b hb=>?_,q⟩
  · have e1:lo+((0:Nat):Int)*1=lo:=by simp
    have e2:(((hi - lo).toNat:Nat):Int) - ((0:Nat):Int)=Builtin.Range.rangeSize lo hi 1:=by rw[rangeSize_one];split <;> omega
    show IsRangeIter _ _ (lo+((0:Nat):Int)*1) ((((hi - lo).toNat:Nat):Int) - ((0:Nat):Int)) 1
    rw[e1,e2]
    exact Heap.get?_push_size _ rfl
  · have e:b=(s.heap.push {cls:= .type "range",data:= .fields #[.int lo t,.int hi u,.int 1 v]}).objs.size:=by simpa using hb
    subst e
    exact I1.fpOk (Nat.le_refl _) (I1.hok.fresh (Nat.le_refl _))
noncomputable def iRng1 (ta:TA):TI:=fun σ H R=>ta σ H fun vs H1=>∃j:Int,vs=[.int j]∧-(2 ^ 62)≤j∧j < 2 ^ 62∧R (Itr 0 j.toNat) H1
noncomputable def iRng2 (ta:TA):TI:=fun σ H R=>ta σ H fun vs H1=>∃i j:Int,vs=[.int i,.int j]∧(-(2 ^ 62)≤i∧i < 2 ^ 62∧-(2 ^ 62)≤j∧j < 2 ^ 62)∧R (Itr i (j - i).toNat) H1
theorem pi_range1 {a:Expr} {ta:TA} {p pos:Pos} (hg:Gl X "range") (hm:X.mg "range" =none) (ha:PA X [a] ta) (hs:starEach [a] X.env=[(false,eval a X.env)]:=by rfl):PI X tg (.Call (.Name "range" p) [a] [] pos) (iRng1 ta):=by
  intro pins s σ H R I h
  refine Call_ (ld_blt I hg hm boot_range (PyProof.Rows.callWith_type1 (thn (ha pos pins s σ H _ I h) fun us s1 ⟨vs,H1,I1,r1,q1⟩=>?_) hs rfl))
  obtain⟨j,e,q1,q2,q⟩:=q1
  subst e
  cases r1 with
  | cons r rr=>
    cases rr
    obtain⟨t,rfl⟩:=r
    exact call_range_1 (range_it I1 (by omega) (by omega) q1 q2 (by simpa using q))
theorem pi_range2 {a b:Expr} {ta:TA} {p pos:Pos} (hg:Gl X "range") (hm:X.mg "range" =none) (ha:PA X [a,b] ta) (hs:starEach [a,b] X.env=[(false,eval a X.env),(false,eval b X.env)]:=by rfl) (hs2:starEach [b] X.env=[(false,eval b X.env)]:=by rfl):
    PI X tg (.Call (.Name "range" p) [a,b] [] pos) (iRng2 ta):=by
  intro pins s σ H R I h
  refine Call_ (ld_blt I hg hm boot_range (PyProof.Rows.callWith_type1 (thn (ha pos pins s σ H _ I h) fun us s1 ⟨vs,H1,I1,r1,q1⟩=>?_) (by rw[hs,hs2]) (by rw[hs2];rfl)))
  obtain⟨i,j,e,⟨q1,q2,q3,q4⟩,q⟩:=q1
  subst e
  cases r1 with
  | cons r rr=>
    cases rr with
    | cons r' rr=>
      cases rr
      obtain⟨t,rfl⟩:=r
      obtain⟨t',rfl⟩:=r'
      exact call_range_2 (range_it I1 q1 q2 q3 q4 q)
noncomputable def tFor (wi:TI) (g:TG) (tb:TS):TS:=fun D σ H=>wi σ H fun J H1=>∃W:Nat→Nat→St→Hp→Prop,(∃m,W 0 m σ H1)∧∀i m σ H,W i m σ H→
  (J.stop i H∧D.nx σ H)∨(J.go i H∧∃N:St→Hp→Prop,(∀σ' H',N σ' H'→∃m',m' < m∧W (i+1) m' σ' H')∧∀x H',J.yld i H x H'→g x σ H' fun σ2 H2=>tb {D with nx:=N,ct:=N,bk:=D.nx} σ2 H2)
noncomputable def pinsAt (fp:List Addr) (h:Heap):List (Addr×Obj):=fp.filterMap fun b=>(h.get? b).map fun o=>(b,o)
theorem mem_pinsAt {fp:List Addr} {h:Heap} {b:Addr} {o:Obj} (hb:b∈fp) (e:h.get? b=some o):(b,o)∈pinsAt fp h:=List.mem_filterMap.mpr ⟨b,hb,by rw[e];rfl⟩
theorem of_pinsAt {fp:List Addr} {h:Heap} {p:Addr×Obj} (hp:p∈pinsAt fp h):p.1∈fp∧h.get? p.1=some p.2:=by
  obtain⟨b,hb,e⟩:=List.mem_filterMap.mp hp
  cases q:h.get? b with
  |none=>rw[q] at e;cases e
  | some o=>
    rw[q] at e
    have e':(b,o)=p:=Option.some.inj e
    subst e'
    exact⟨hb,q⟩
theorem Inv.pinned {pins:List (Addr×Obj)} {σ:St} {H:Hp} {s:Shared} {fp:List Addr} (I:Inv X pins σ H s) (hf:∀b∈fp,FpOk X pins H b) (ho:∀b∈fp,∃o,s.heap.get? b=some o∧∀v,o.data≠.cell v):Inv X (pins++pinsAt fp s.heap) σ H s:=
  I.pins_of fun p hp=>(List.mem_append.mp hp).elim (fun z=>I.pin p (List.mem_append_right _ z)) fun z=>by
    obtain⟨hb,e⟩:=of_pinsAt z
    obtain⟨f0,f1,f2,_⟩:=hf p.1 hb
    obtain⟨o,e',d⟩:=ho p.1 hb
    rw[e] at e';cases e'
    exact⟨e,f0,f1,f2,d⟩
theorem Inv.unpinned {pins pl:List (Addr×Obj)} {σ:St} {H:Hp} {s:Shared} (I:Inv X (pins++pl) σ H s):Inv X pins σ H s:=I.pins_of fun p hp=>I.pin p (List.mem_append_right _ (List.mem_append_left _ hp))
inductive aiK (X:Cx) (pins:List (Addr×Obj)) (tn:Nat→Heap→Prop) (fp:List Addr) (W:Nat→Nat→St→Hp→Prop) (n:Nat) (s':Shared):Prop
  |mk (i:Nat) (σ':St) (H':Hp) (I:Inv X pins σ' H' s') (st:tn i s'.heap) (fr:∀b∈fp,H' b=none) (w:W i n σ' H'):aiK X pins tn fp W n s'
theorem ps_for {iter:Expr} {body:List Stmt} {wi:TI} {g:TG} {tb:TS} {pos:Pos} (hp:PassesOwn (model X.prog X.w) X.A X.env X.xe) (hc:X.calm=true) (hi:PI X tg iter wi) (hg:PG X tg g) (hb:PSs X body tb)
    (hs:∀x,foldedSetIterable iter X.env x=pure x:=by intro _;rfl):PS X (.For tg iter body [] pos) (tFor wi g tb):=by
  intro pins s σ H D I h
  refine wpAny_For (thn (hi pins s σ H _ I h) fun v s1 h1=>thn h1 fun itv s2 h2=>?_) hs
  obtain⟨it,fp,tn,J,H2,e,I2,T,st2,f2,W,⟨m0,w0⟩,turn⟩:=h2
  subst e
  have stat:∀{H':Hp},(∀b∈fp,H' b=none)→∀b∈fp,FpOk X pins H' b:=fun hn b hb=>⟨hn b hb,(f2 b hb).2⟩
  refine codeAny_forLoop_any (fun n s'=>aiK X pins tn fp W n s') ?_ m0 ⟨0,σ,H2,I2,st2,fun b hb=>(f2 b hb).1,w0⟩
  rintro n s3 ⟨i,σ3,H3,I3,st3,fr3,w3⟩
  rcases turn i n σ3 H3 w3 with⟨stop,qn⟩ |⟨go,N,hN,step⟩
  · refine wpAny_passesOwn hp (thn (T.done X rfl rfl rfl hc i pins s3 σ3 H3 X.xe I3 (stat fr3) st3 stop) fun r s4 bL=>?_)
    obtain⟨hr,I4⟩:=bL
    subst hr
    exact wpAny_execs_nil ⟨σ3,H3,I4,qn⟩
  · refine wpAny_passesOwn hp (thn (T.item X rfl rfl rfl hc i pins s3 σ3 H3 X.xe I3 (stat fr3) st3 go) fun r s4 bL=>?_)
    obtain⟨u,hr,h4⟩:=bL
    subst hr
    refine wpAny_passesOwn hp (thn h4 fun _ s5 bL=>?_)
    obtain⟨x,H5,I5,r5,y5,st5,fr5⟩:=bL
    have I5':=I5.pinned (stat fr5) (T.obj _ _ st5)
    refine wpAny_passesOwn hp (thn (hg _ s5 σ3 H5 x u _ I5' r5 (step x H5 y5)) fun _ s6 bL=>?_)
    obtain⟨σ6,H6,I6,q6⟩:=bL
    refine wpAny_passesOwn hp (thn (hb _ s6 σ6 H6 _ I6 q6) fun f s7 q7=>?_)
    have again:∀{σ7:St} {H7:Hp},Inv X (pins++pinsAt fp s5.heap) σ7 H7 s7→N σ7 H7→∃m,m < n∧aiK X pins tn fp W m s7:=fun {σ7 H7} I7 n7=>by
      obtain⟨m',hm,w7⟩:=hN σ7 H7 n7
      refine⟨m',hm,i+1,σ7,H7,I7.unpinned,T.keep _ _ _ st5 fun b hb o e=>(I7.pin (b,o) (List.mem_append_right _ (List.mem_append_right _ (mem_pinsAt hb e)))).1,fun b hb=>?_,w7⟩
      obtain⟨o,e,d⟩:=T.obj _ _ st5 b hb
      exact (I7.pin (b,o) (List.mem_append_right _ (List.mem_append_right _ (mem_pinsAt hb e)))).2.1
    cases f with
    |next=>obtain⟨σ7,H7,I7,n7⟩:=q7;exact again I7 n7
    |cont=>obtain⟨σ7,H7,I7,n7⟩:=q7;exact again I7 n7
    |brk=>obtain⟨σ7,H7,I7,q7⟩:=q7;exact⟨σ7,H7,I7.unpinned,q7⟩
    |ret v=>obtain⟨x7,σ7,H7,I7,r7,q7⟩:=q7;exact⟨x7,σ7,H7,I7.unpinned,r7,q7⟩
end
end L2
namespace L2
open PySem PySem.Spec PyProof.Rows
noncomputable abbrev R2:=V→V→Hp→VK→Prop
noncomputable def OpR (X:Cx) (f:Value→Value→Sem Value) (r:R2):Prop:=
  ∀ (pins:List (Addr×Obj)) (s:Shared) (σ:St) (H:Hp) (x y:V) (v u:Value) (Q:VK),Inv X pins σ H s→RelV x v→RelV y u→r x y H Q→
    wpAny (model X.prog X.w) X.A (f v u) (EP X pins σ Q) X.xe s
noncomputable def UnR (X:Cx) (f:Value→Sem Value) (r:V→Hp→VK→Prop):Prop:=
  ∀ (pins:List (Addr×Obj)) (s:Shared) (σ:St) (H:Hp) (x:V) (v:Value) (Q:VK),Inv X pins σ H s→RelV x v→r x H Q→
    wpAny (model X.prog X.w) X.A (f v) (EP X pins σ Q) X.xe s
noncomputable def CallR (X:Cx) (f:Value) (r:List V→Hp→VK→Prop):Prop:=
  ∀ (pins:List (Addr×Obj)) (s:Shared) (σ:St) (H:Hp) (xs:List V) (us:List Value) (Q:VK),Inv X pins σ H s→Vals xs us→r xs H Q→
    wpAny (model X.prog X.w) X.A (call f us) (EP X pins σ Q) X.xe s
noncomputable def TruR (X:Cx) (r:V→Hp→(Bool→Hp→Prop)→Prop):Prop:=
  ∀ (pins:List (Addr×Obj)) (s:Shared) (σ:St) (H:Hp) (x:V) (v:Value) (Q:Bool→Hp→Prop),Inv X pins σ H s→RelV x v→r x H Q→
    wpAny (model X.prog X.w) X.A (truthy v) (TP X pins σ Q) X.xe s
noncomputable def tOp (r:R2) (ta tb:TE):TE:=fun σ H Q=>ta σ H fun x H1=>tb σ H1 fun y H2=>r x y H2 Q
noncomputable def tUn (r:V→Hp→VK→Prop) (ta:TE):TE:=fun σ H Q=>ta σ H fun x H1=>r x H1 Q
noncomputable def rI (C:Int→Int→Prop) (g:Int→Int→V):R2:=fun x y H Q=>∃i j,x= .int i∧y= .int j∧C i j∧Q (g i j) H
noncomputable def rI0 (g:Int→Int→V):R2:=fun x y H Q=>∃i j,x= .int i∧y= .int j∧Q (g i j) H
noncomputable def rU (g:Int→V):V→Hp→VK→Prop:=fun x H Q=>∃i,x= .int i∧Q (g i) H
section
variable {X:Cx} {a b c:Expr} {ta tb tc:TE} {pos:Pos}
theorem binT (ha:PE X a ta) (hb:PE X b tb) {pins:List (Addr×Obj)} {s:Shared} {σ:St} {H:Hp} {R:V→V→Hp→Prop} (I:Inv X pins σ H s)
    (h:ta σ H fun x H1=>tb σ H1 fun y H2=>R x y H2) {Q:Value→Shared→Prop} {f:Value→Value→Sem Value}
    (hf:∀v u s2 x y H2,Inv X pins σ H2 s2→RelV x v→RelV y u→R x y H2→wpAny (model X.prog X.w) X.A (f v u) Q X.xe s2):
    wpAny (model X.prog X.w) X.A (eval a X.env) (fun v s₁=>wpAny (model X.prog X.w) X.A (eval b X.env) (fun u s₂=>wpAny (model X.prog X.w) X.A (f v u) Q X.xe s₂) X.xe s₁) X.xe s:=by
  refine thn (ha pins s σ H _ I h) fun v s1 bL=>?_
  obtain⟨x,H1,I1,r1,q1⟩:=bL
  refine thn (hb pins s1 σ H1 _ I1 q1) fun u s2 bL=>?_
  obtain⟨y,H2,I2,r2,q2⟩:=bL
  exact hf v u s2 x y H2 I2 r1 r2 q2
theorem pe_op {op:Operator} {r:R2} (ho:OpR X (binaryOp op) r) (ha:PE X a ta) (hb:PE X b tb):PE X (.BinOp a op b pos) (tOp r ta tb):=by
  intro pins s σ H Q I h
  exact wpAny_BinOp (binT ha hb I h fun v u s2 x y H2 I2 rx ry q=>ho pins s2 σ H2 x y v u Q I2 rx ry q)
theorem pe_un {op:UnaryOp} {r:V→Hp→VK→Prop} (ho:UnR X (unaryOp op) r) (ha:PE X a ta):PE X (.UnaryOp op a pos) (tUn r ta):=by
  intro pins s σ H Q I h
  exact UnaryOp_ (thn (ha pins s σ H _ I h) fun v s1 ⟨x,H1,I1,r1,q1⟩=>ho pins s1 σ H1 x v Q I1 r1 q1)
theorem opI {f:Value→Value→Sem Value} {C:Int→Int→Prop} {g:Int→Int→Int}
    (rule:∀(i j:Int) (t u:Tok) (s:Shared) (Q:Value→Shared→Prop) (E:Value→Shared→Prop),C i j→Q (.int (g i j) s.toks) {s with toks:=s.toks+1}→wpAny (model X.prog X.w) X.A (f (.int i t) (.int j u)) Q E s):
    OpR X f (rI C fun i j=> .int (g i j)):=by
  intro pins s σ H x y v u Q I rx ry h
  obtain⟨i,j,rfl,rfl,hc,q⟩:=h
  obtain⟨t,rfl⟩:=rx
  obtain⟨t',rfl⟩:=ry
  exact rule i j t t' s _ _ hc ⟨.int (g i j),H,I.tok _,⟨_,rfl⟩,q⟩
theorem opI0 {f:Value→Value→Sem Value} {g:Int→Int→Int}
    (rule:∀(i j:Int) (t u:Tok) (s:Shared) (Q:Value→Shared→Prop) (E:Value→Shared→Prop),Q (.int (g i j) s.toks) {s with toks:=s.toks+1}→wpAny (model X.prog X.w) X.A (f (.int i t) (.int j u)) Q E s):
    OpR X f (rI0 fun i j=> .int (g i j)):=by
  intro pins s σ H x y v u Q I rx ry h
  obtain⟨i,j,rfl,rfl,q⟩:=h
  obtain⟨t,rfl⟩:=rx
  obtain⟨t',rfl⟩:=ry
  exact rule i j t t' s _ _ ⟨.int (g i j),H,I.tok _,⟨_,rfl⟩,q⟩
theorem opB0 {f:Value→Value→Sem Value} {g:Int→Int→Bool}
    (rule:∀(i j:Int) (t u:Tok) (s:Shared) (Q:Value→Shared→Prop) (E:Value→Shared→Prop),Q (.bool (g i j)) s→wpAny (model X.prog X.w) X.A (f (.int i t) (.int j u)) Q E s):
    OpR X f (rI0 fun i j=> .bl (g i j)):=by
  intro pins s σ H x y v u Q I rx ry h
  obtain⟨i,j,rfl,rfl,q⟩:=h
  obtain⟨t,rfl⟩:=rx
  obtain⟨t',rfl⟩:=ry
  exact rule i j t t' s _ _ ⟨.bl (g i j),H,I,rfl,q⟩
noncomputable def CPow (i j:Int):Prop:=0≤j∧j≤1000000∧i.natAbs < 2 ^ 64
noncomputable def CMul (i j:Int):Prop:=(-(2 ^ 64) < i∧i < 2 ^ 64)∨(-(2 ^ 64) < j∧j < 2 ^ 64)
theorem CMul.ok {i j:Int} (h:CMul i j):IntMulOk i j:=by
  rcases h with⟨h1,h2⟩ |⟨h1,h2⟩
  · exact .of_left (intBits_le_64 h1 h2)
  · exact .of_right (intBits_le_64 h1 h2)
theorem op_add:OpR X (binaryOp .Add) (rI0 fun i j=> .int (i+j)):=opI0 fun _ _ _ _ _ _ _ q=>add_int q
theorem op_sub:OpR X (binaryOp .Sub) (rI0 fun i j=> .int (i - j)):=opI0 fun _ _ _ _ _ _ _ q=>sub_int q
theorem op_mul:OpR X (binaryOp .Mult) (rI CMul fun i j=> .int (i*j)):=opI fun _ _ _ _ _ _ _ hc q=>mul_int q hc.ok
theorem op_mod:OpR X (binaryOp .Mod) (rI (fun _ j=>0 < j) fun i j=> .int (i % j)):=opI fun i j _ _ _ _ _ hc q=>by
  have h1:(0:Int) < j:=hc
  exact mod_int' (by omega) (by rw[Int.fmod_eq_emod_of_nonneg i (by omega)];exact q)
theorem op_pow:OpR X (binaryOp .Pow) (rI CPow fun i j=> .int (i ^ j.toNat)):=opI fun _ _ _ _ _ _ _ hc q=>pow_int_small hc.1 hc.2.1 hc.2.2 q
theorem unI {f:Value→Sem Value} {g:Int→Int}
    (rule:∀(i:Int) (t:Tok) (s:Shared) (Q:Value→Shared→Prop) (E:Value→Shared→Prop),Q (.int (g i) s.toks) {s with toks:=s.toks+1}→wpAny (model X.prog X.w) X.A (f (.int i t)) Q E s):
    UnR X f (rU fun i=> .int (g i)):=by
  intro pins s σ H x v Q I rx h
  obtain⟨i,rfl,q⟩:=h
  obtain⟨t,rfl⟩:=rx
  exact rule i t s _ _ ⟨.int (g i),H,I.tok _,⟨_,rfl⟩,q⟩
theorem un_neg:UnR X (unaryOp .USub) (rU fun i=> .int (-i)):=unI fun _ _ _ _ _ q=>neg_int q
end
section
variable {X:Cx} {a b c:Expr} {ta tb tc:TE} {pos:Pos}
theorem fin_bl {pins:List (Addr×Obj)} {σ:St} {H:Hp} {s:Shared} {Q:VK} {k k':Bool} (I:Inv X pins σ H s) (q:Q (.bl k) H) (e:k=k'):EP X pins σ Q (.bool k') s:=by
  subst e
  exact⟨.bl k,H,I,rfl,q⟩
theorem op_lt:OpR X (compareOp .Lt) (rI0 fun i j=> .bl (decide (i < j))):=opB0 fun _ _ _ _ _ _ _ q=>lt_int q
theorem op_le:OpR X (compareOp .LtE) (rI0 fun i j=> .bl (decide (i≤j))):=opB0 fun _ _ _ _ _ _ _ q=>le_int q
theorem op_gt:OpR X (compareOp .Gt) (rI0 fun i j=> .bl (decide (j < i))):=opB0 fun _ _ _ _ _ _ _ q=>gt_int q
theorem op_ge:OpR X (compareOp .GtE) (rI0 fun i j=> .bl (decide (j≤i))):=opB0 fun _ _ _ _ _ _ _ q=>ge_int q
theorem op_isN:OpR X (compareOp .Is) (fun x y H Q=>y= .non∧Q (.bl (decide (x= .non))) H):=by
  intro pins s σ H x y v u Q I rx ry h
  obtain⟨rfl,q⟩:=h
  cases ry
  refine is_none_gen (fin_bl I q ?_)
  cases x <;> first
    |(cases rx;rfl)
    |(obtain⟨t,rfl⟩:=rx;rfl)
theorem op_notN:OpR X (compareOp .IsNot) (fun x y H Q=>y= .non∧Q (.bl (!decide (x= .non))) H):=by
  intro pins s σ H x y v u Q I rx ry h
  obtain⟨rfl,q⟩:=h
  cases ry
  refine isnot_none_gen (fin_bl I q ?_)
  cases x <;> first
    |(cases rx;rfl)
    |(obtain⟨t,rfl⟩:=rx;rfl)
theorem OpR.or {f:Value→Value→Sem Value} {r r':R2} (h:OpR X f r) (h':OpR X f r'):OpR X f (fun x y H Q=>r x y H Q∨r' x y H Q):=by
  intro pins s σ H x y v u Q I rx ry q
  rcases q with q |q
  · exact h pins s σ H x y v u Q I rx ry q
  · exact h' pins s σ H x y v u Q I rx ry q
theorem nomark (b:Expr) {op:CmpOp} (h:op≠.In:=by decide) (h2:op≠.NotIn:=by decide):behindInMarks op b=false:=by
  have e1:(op ==CmpOp.In)=false:=by cases op <;> first |rfl |exact absurd rfl h
  have e2:(op ==CmpOp.NotIn)=false:=by cases op <;> first |rfl |exact absurd rfl h2
  cases b <;> simp[behindInMarks,e1,e2]
theorem pe_cmpR {op:CmpOp} {r:R2} (ho:OpR X (compareOp op) r) (ha:PE X a ta) (hb:PE X b tb) (hm:behindInMarks op b=false):PE X (.Compare a [op] [b] pos) (tOp r ta tb):=by
  intro pins s σ H Q I h
  exact wpAny_Compare1 (binT ha hb I h fun v u s2 x y H2 I2 rx ry q=>ho pins s2 σ H2 x y v u Q I2 rx ry q) hm
noncomputable def tTest (t:TE):TT:=fun σ H Q=>t σ H fun x H'=>∃k,x= .bl k∧Q k H'
theorem pt_cmpR {op:CmpOp} {r:R2} (ho:OpR X (compareOp op) r) (ha:PE X a ta) (hb:PE X b tb) (hm:behindInMarks op b=false):PT X (.Compare a [op] [b] pos) (tTest (tOp r ta tb)):=by
  intro pins s σ H Q I h
  refine wpAny_isTrue_Compare1 (thn (ha pins s σ H _ I h) fun v s1 ⟨x,H1,I1,r1,q1⟩=>thn (hb pins s1 σ H1 _ I1 q1) fun u s2 ⟨y,H2,I2,r2,q2⟩=>
    thn (ho pins s2 σ H2 x y v u _ I2 r1 r2 q2) fun c s3 ⟨z,H3,I3,r3,k,e,q3⟩=>?_) hm
  subst e
  cases r3
  exact wpAny_truthy_bool ⟨H3,I3,q3⟩
noncomputable def tChain (r r':R2) (ta tb tc:TE):TE:=fun σ H Q=>ta σ H fun x H1=>tb σ H1 fun y H2=>r x y H2 fun z H3=>∃k,z= .bl k∧
  (if k=true then tc σ H3 fun w' H4=>r' y w' H4 Q else Q (.bl false) H3)
theorem pe_chain {op op':CmpOp} {r r':R2} (ho:OpR X (compareOp op) r) (ho':OpR X (compareOp op') r') (ha:PE X a ta) (hb:PE X b tb) (hc:PE X c tc)
    (hm:lastMarks [op,op'] [b,c]=false:=by with_unfolding_all rfl):PE X (.Compare a [op,op'] [b,c] pos) (tChain r r' ta tb tc):=by
  intro pins s σ H Q I h
  refine Compare_chain (thn (ha pins s σ H _ I h) fun v s1 ⟨x,H1,I1,r1,q1⟩=>chain_link (thn (hb pins s1 σ H1 _ I1 q1) fun u s2 ⟨y,H2,I2,r2,q2⟩=>
    thn (ho pins s2 σ H2 x y v u _ I2 r1 r2 q2) fun d s3 ⟨z,H3,I3,r3,k,e,q3⟩=>?_)) hm
  subst e
  cases r3
  refine wpAny_truthy_bool ?_
  cases k with
  |false=>exact ite_ff ⟨.bl false,H3,I3,rfl,q3⟩
  |true=>exact ite_tt (chain_last (thn (hc pins s3 σ H3 _ I3 q3) fun w' s4 ⟨z',H4,I4,r4,q4⟩=>ho' pins s4 σ H4 y z' u w' Q I4 r2 r4 q4))
theorem pt_chain {op op':CmpOp} {r r':R2} (ho:OpR X (compareOp op) r) (ho':OpR X (compareOp op') r') (ha:PE X a ta) (hb:PE X b tb) (hc:PE X c tc)
    (hm:lastMarks [op,op'] [b,c]=false:=by with_unfolding_all rfl):PT X (.Compare a [op,op'] [b,c] pos) (tTest (tChain r r' ta tb tc)):=by
  intro pins s σ H Q I h
  refine isTrue_chain (thn (ha pins s σ H _ I h) fun v s1 ⟨x,H1,I1,r1,q1⟩=>test_link (thn (hb pins s1 σ H1 _ I1 q1) fun u s2 ⟨y,H2,I2,r2,q2⟩=>
    thn (ho pins s2 σ H2 x y v u _ I2 r1 r2 q2) fun d s3 ⟨z,H3,I3,r3,k,e,q3⟩=>?_)) hm
  subst e
  cases r3
  refine wpAny_truthy_bool ?_
  cases k with
  | false=>
    obtain⟨k',e',q'⟩:=q3
    cases e'
    exact ite_ff ⟨H3,I3,q'⟩
  | true=>
    refine ite_tt (test_last (thn (hc pins s3 σ H3 _ I3 q3) fun w' s4 ⟨z',H4,I4,r4,q4⟩=>thn (ho' pins s4 σ H4 y z' u w' _ I4 r2 r4 q4) fun d' s5 bL=>?_))
    obtain⟨z2,H5,I5,r5,k2,e2,q5⟩:=bL
    subst e2
    cases r5
    exact wpAny_truthy_bool ⟨H5,I5,q5⟩
noncomputable def TruV (K:PySem.W.Frag) (x:V) (H:Hp) (k:Bool):Prop:=
  match x with
  | .non=>k=false
  | .bl b=>k=b
  | .int i=>k=(i !=0)
  | .str y=>y.length≤sizeLine∧k=((y.length:Int) !=0)
  | .byt y=>y.size≤sizeLine∧k=((y.size:Int) !=0)
  | .ref p=>(∃xs,SqL K H p xs∧k= !xs.isEmpty)∨(∃xs,SqT K H p xs∧k= !xs.isEmpty)∨∃kvs,H p=some (.dK kvs)∧k= !kvs.isEmpty
  |_=>False
theorem isEmpty_kv {κ:Type} {kvs:List (κ×V)} {vs:List (κ×Value)} (r:KV kvs vs):(!vs.isEmpty)= !kvs.isEmpty:=by
  cases r <;> rfl
theorem isEmpty_of {xs:List V} {its:List Value} (r:Vals xs its):(!its.toArray.isEmpty)= !xs.isEmpty:=by
  cases r <;> simp
theorem line63:(sizeLine:Nat) < 2 ^ 63:=by rw[sizeLine_eq];decide
theorem tru_ok:TruR X (fun x H Q=>∃k,TruV X.K x H k∧Q k H):=by
  intro pins s σ H x v Q I rx h
  obtain⟨k,e,q⟩:=h
  have hl:=line63
  have hs:sizeLine=16777216:=sizeLine_eq
  cases x with
  | non=>
    cases rx
    have e':k=false:=e
    subst e'
    exact truthy_none ⟨H,I,q⟩
  | bl b=>
    cases rx
    have e':k=b:=e
    subst e'
    exact wpAny_truthy_bool ⟨H,I,q⟩
  | int i=>
    obtain⟨t,rfl⟩:=rx
    have e':k=(i !=0):=e
    subst e'
    exact PySem.P.truthy_int ⟨H,I,q⟩
  | str y=>
    obtain⟨t,rfl⟩:=rx
    obtain⟨hy,e'⟩:y.length≤sizeLine∧k=((y.length:Int) !=0):=e
    subst e'
    exact PySem.P.truthy_str (by omega) ⟨H,I.tok _,q⟩
  | byt y=>
    obtain⟨t,rfl⟩:=rx
    obtain⟨hy,e'⟩:y.size≤sizeLine∧k=((y.size:Int) !=0):=e
    subst e'
    exact PySem.W.truthy_bytes (by omega) ⟨H,I.tok _,q⟩
  | ref p=>
    cases rx
    have e':(∃xs,SqL X.K H p xs∧k= !xs.isEmpty)∨(∃xs,SqT X.K H p xs∧k= !xs.isEmpty)∨∃kvs,H p=some (.dK kvs)∧k= !kvs.isEmpty:=e
    rcases e' with⟨xs,hx,e'⟩ |⟨xs,hx,e'⟩ |⟨kvs,hx,e'⟩
    · subst e'
      obtain⟨its,r,pl,hz⟩:=I.list hx
      have hlen:=r.length
      exact wpAny_truthy_list pl.isList (by simp only[List.size_toArray];omega) ⟨H,I.tok _,by rw[isEmpty_of r];exact q⟩
    · subst e'
      obtain⟨its,r,pl,hz⟩:=I.tuple hx
      have hlen:=r.length
      exact truthy_tuple pl (by simp only[List.size_toArray];omega) ⟨H,I.tok _,by rw[isEmpty_of r];exact q⟩
    · subst e'
      obtain⟨hz,hS,vs,r,m⟩:kvs.length≤sizeLine∧(p ==sysModules)=false∧∃vs,KV kvs vs∧s.heap.DictOf (mixKind X.prog X.w) p vs:=I.hok p _ hx
      have hlen:kvs.length=vs.length:=Paired.length r
      exact wpAny_truthy_dict hS m (by omega) ⟨H,I.tok _,by rw[isEmpty_kv r];exact q⟩
  |_=>exact (show False from e).elim
theorem pt_truth (ha:PE X a ta) (he:∀whole,isTrue a X.env whole=(do let v ←whole;standAt a.pos;holding [v] (truthy v))):
    PT X a (fun σ H Q=>ta σ H fun x H'=>∃k,TruV X.K x H' k∧Q k H'):=by
  intro pins s σ H Q I h
  exact isTrue_plain (thn (ha pins s σ H _ I h) fun v s1 ⟨x,H1,I1,r1,q1⟩=>tru_ok pins s1 σ H1 x v Q I1 r1 q1) (he _)
theorem vals1 {x:V} {us:List Value} (r:Vals [x] us):∃u,us=[u]∧RelV x u:=by
  cases r with
  |cons r1 r2=>cases r2;exact⟨_,rfl,r1⟩
theorem vals2 {x y:V} {us:List Value} (r:Vals [x,y] us):∃u w',us=[u,w']∧RelV x u∧RelV y w':=by
  cases r with
  | cons r1 r2=>
    cases r2 with
    |cons r3 r4=>cases r4;exact⟨_,_,rfl,r1,r3⟩
theorem call_abs:CallR X (.builtin "abs") (fun xs H Q=>∃i,xs=[.int i]∧Q (.int (if i < 0 then -i else i)) H):=by
  intro pins s σ H xs us Q I r h
  obtain⟨i,rfl,q⟩:=h
  obtain⟨u,rfl,t,rfl⟩:=vals1 r
  exact call_abs_int fun u tk=>⟨.int (if i < 0 then -i else i),H,I.tok _,⟨_,rfl⟩,q⟩
theorem call_max2 (hc:X.calm=true):CallR X (.builtin "max") (fun xs H Q=>∃i j,xs=[.int i,.int j]∧Q (.int (if j > i then j else i)) H):=by
  intro pins s σ H xs us Q I r h
  obtain⟨i,j,rfl,q⟩:=h
  obtain⟨u,w',rfl,⟨t,rfl⟩,⟨t',rfl⟩⟩:=vals2 r
  refine max_two_ints (I.ok.hd hc) fun h' tk k=>⟨_,H,I.kept k,?_,q⟩
  by_cases hj:j > i
  · rw[if_pos hj,if_pos hj];exact⟨_,rfl⟩
  · rw[if_neg hj,if_neg hj];exact⟨_,rfl⟩
theorem call_min2 (hc:X.calm=true):CallR X (.builtin "min") (fun xs H Q=>∃i j,xs=[.int i,.int j]∧Q (.int (if j < i then j else i)) H):=by
  intro pins s σ H xs us Q I r h
  obtain⟨i,j,rfl,q⟩:=h
  obtain⟨u,w',rfl,⟨t,rfl⟩,⟨t',rfl⟩⟩:=vals2 r
  refine min_two_ints (I.ok.hd hc) fun h' tk k=>⟨_,H,I.kept k,?_,q⟩
  by_cases hj:j < i
  · rw[if_pos hj,if_pos hj];exact⟨_,rfl⟩
  · rw[if_neg hj,if_neg hj];exact⟨_,rfl⟩
end
end L2
namespace L2
open PySem PySem.Spec PyProof.Rows
section
variable {prog:Program} {w:World} {A:Around} {E:Value→Shared→Prop} {s:Shared} {K:PySem.W.Frag} {x dx C f:Addr} {mA:Str→Option Value} {name:Str} {v:Value}
end
section
variable {P:Program} {w:World} {H H':Hp} {h h':Heap} {a C dx:Addr} {fs fs':List (Str×V)}
end
section
variable {X:Cx} {pins:List (Addr×Obj)} {σ:St} {H:Hp} {s:Shared} {a C dx:Addr} {fs:List (Str×V)} {f:Str} {v:V} {A:Around} {E:Value→Shared→Prop}
end
section
variable {X:Cx} {o e value:Expr} {f:Str} {pos pos' tpos:Pos} {ta tv:TE}
end
section
variable {X:Cx} {pins:List (Addr×Obj)} {σ:St} {H:Hp} {s:Shared} {A:Around} {E:Value→Shared→Prop} {Q:Value→Shared→Prop} {c:Value} {b:Bool}
end
end L2
namespace L2
open PySem PySem.Spec PyProof.Rows
structure Room (k:Nat) (A:Around):Prop where
  hd:A.handled=none
  dp:A.depth+3*k+5 < recursionLimit
  un:A.units+16*k+200 < cLine
theorem Room.mono {j k:Nat} {A:Around} (r:Room k A) (h:j≤k):Room j A:=⟨r.hd,by have:=r.dp;omega,by have:=r.un;omega⟩
theorem Room.deeper {k:Nat} {A:Around} (r:Room (k+1) A) (env:Env):Room k (A.deeper env):=
  ⟨r.hd,by have:=r.dp;show A.depth+1+3*k+5 < _;omega,by have:=r.un;show A.units+3+16*k+200 < _;omega⟩
theorem Room.depth {k:Nat} {A:Around} (r:Room k A):A.depth < recursionLimit:=by have:=r.dp;omega
noncomputable def tNil:TA:=fun _ H Q=>Q [] H
noncomputable def tCons (ta:TE) (tr:TA):TA:=fun σ H Q=>ta σ H fun x H1=>tr σ H1 fun xs H2=>Q (x::xs) H2
section
variable {X:Cx} {e:Expr} {es:List Expr} {te:TE} {t:TA} {pos:Pos}
theorem pa_nil:PA X [] tNil:=fun _ _ _ _ H Q I h=>Calls.spliced_nil ⟨[],H,I,.nil,h⟩
theorem pa_cons (ha:PE X e te) (hr:PA X es t) (hs:starEach (e::es) X.env=(false,eval e X.env)::starEach es X.env:=by rfl):PA X (e::es) (tCons te t):=by
  intro pos pins s σ H Q I h
  rw[hs]
  show wpAny _ _ (spliced ((false,eval e X.env)::backTo pos (starEach es X.env))) _ _ s
  refine Calls.spliced_cons (thn (ha pins s σ H _ I h) fun u s1 bL=>?_)
  obtain⟨x,H1,I1,r1,q1⟩:=bL
  refine thn (hr pos pins s1 σ H1 _ I1 q1) fun us s2 bL=>?_
  obtain⟨xs,H2,I2,r2,q2⟩:=bL
  exact⟨x::xs,H2,I2,.cons r1 r2,q2⟩
noncomputable def tTup (t:TA):TE:=fun σ H Q=>t σ H fun xs H1=>xs.length≤sizeLine∧∀p,H1 p=none→Q (.ref p) (upd H1 p (.tup xs))
noncomputable def tLst (t:TA):TE:=fun σ H Q=>t σ H fun xs H1=>xs.length≤sizeLine∧∀p,H1 p=none→Q (.ref p) (upd H1 p (.lst xs))
theorem pe_tup {x1} (h:PA X es t):PE X (.Tuple es x1 pos) (tTup t):=by
  intro pins s σ H Q I hq
  refine wpAny_Tuple_spliced (thn (h pos pins s σ H _ I hq) fun us s1 ⟨xs,H1,I1,r,z,q⟩=>⟨by rw[←r.length];exact z,?_⟩)
  have hf:H1 s1.heap.objs.size=none:=I1.hok.fresh (Nat.le_refl _)
  refine⟨.ref s1.heap.objs.size,upd H1 s1.heap.objs.size (.tup xs),I1.laid (t':=s1.toks) (fun b u e=>Heap.get?_push_of_some _ e) (Nat.le_refl _) ?_,rfl,q _ hf⟩
  exact⟨z,us,r,⟨_,Heap.get?_push_size _ rfl,rfl,_,rfl⟩⟩
theorem pe_lst (h:PA X es t):PE X (.List es pos) (tLst t):=by
  intro pins s σ H Q I hq
  refine wpAny_List_spliced (thn (h pos pins s σ H _ I hq) fun us s1 ⟨xs,H1,I1,r,z,q⟩=>⟨by rw[←r.length];exact z,?_⟩)
  have hf:H1 s1.heap.objs.size=none:=I1.hok.fresh (Nat.le_refl _)
  refine⟨.ref s1.heap.objs.size,upd H1 s1.heap.objs.size (.lst xs),I1.laid (t':=s1.toks) (fun b u e=>Heap.get?_push_of_some _ e) (Nat.le_refl _) ?_,rfl,q _ hf⟩
  exact⟨z,us,0,r,Heap.get?_push_size _ rfl⟩
end
noncomputable abbrev Sp:=List V→Hp→VK→XK→Prop
noncomputable abbrev CXT:=List Env→Hp→Shared→XK→Value→Shared→Prop
structure Env0 (P:Program) (w:World) (K:PySem.W.Frag) (mg:Str→Option Value) (base:Heap) (A:Around) (outer:List Env) (s:Shared) (H:Hp):Prop where
  frames:A.frames=some outer
  mod:Mod K mg base
  bs:∀b o,base.get? b=some o→s.heap.get? b=some o∧H b=none
  bsz:base.objs.size≤s.heap.objs.size
  funs:s.heap.FunFrames base outer
  frf:∀b∈frs outer,H b=none
  hok:HOk P w H s.heap
  bare:AllBare s.gens
inductive CE (outer:List Env) (P:Program) (w:World) (H:Hp) (s:Shared) (Q:VK) (u:Value) (s':Shared):Prop
  |mk (v:V) (H':Hp) (os:s'.os=s.os) (bare:AllBare s'.gens) (un:Un (frs outer) [] H H' s.heap s'.heap) (hok:HOk P w H' s'.heap) (r:RelV v u) (q:Q v H'):CE outer P w H s Q u s'
noncomputable def CR (CX:CXT) (outer:List Env) (P:Program) (w:World) (H:Hp) (s:Shared) (Q:VK) (E:XK) (r:Result) (s':Shared):Prop:=
  match r with
  | .ok (.ret u)=>CE outer P w H s Q u s'
  | .ok _=>False
  | .error e=>CX outer H s E e s'
structure FnOk (P:Program) (w:World) (K:PySem.W.Frag) (mg:Str→Option Value) (base:Heap) (CX:CXT) (k:Nat) (f:Addr) (fd:FuncData) (ps:List Str) (sp:Sp):Prop where
  len:∀vs H Q E,sp vs H Q E→vs.length=ps.length
  run:∀(A:Around) (outer:List Env) (s:Shared) (H:Hp) (args:Args) (us:List Value) (vs:List V) (Q:VK) (E:XK),Room k A→Env0 P w K mg base A outer s H→BindsTo s fd args (ps.zip us)→Vals vs us→sp vs H Q E→
    codeAny (model P w) A (.call (.ref f) args) (CR CX outer P w H s Q E) s
theorem FnOk.mono {P:Program} {w:World} {K:PySem.W.Frag} {mg:Str→Option Value} {base:Heap} {CX:CXT} {j k:Nat} {f:Addr} {fd:FuncData} {ps:List Str} {sp:Sp} (F:FnOk P w K mg base CX j f fd ps sp) (h:j≤k):
    FnOk P w K mg base CX k f fd ps sp:=⟨F.len,fun A outer s H args us vs Q E hr=>F.run A outer s H args us vs Q E (hr.mono h)⟩
section
variable {X:Cx} {pins:List (Addr×Obj)} {σ:St} {H:Hp} {s s':Shared}
theorem Inv.env0 (I:Inv X pins σ H s):Env0 X.prog X.w X.K X.mg X.base X.A X.stack s H:=
  ⟨I.ok.frames,I.ok.mod,I.bs,Nat.le_trans I.ok.bsz I.sz,I.stack,I.stkFree,I.hok,I.bare⟩
theorem Inv.after {Q:VK} {u:Value} (I:Inv X pins σ H s) (h:CE X.stack X.prog X.w H s Q u s'):EP X pins σ Q u s':=by
  obtain⟨v,H',os,bare,un,hok,r,q⟩:=h
  obtain⟨hh,g,d,t,os'⟩:=s'
  obtain rfl:os'=s.os:=os
  exact⟨v,H',I.call (h':=hh) (g':=g) (d':=d) (t':=t) (ch:=[]) un hok bare (fun b z=>absurd z (by simp)),r,q⟩
end
noncomputable def tCall (sp:Sp) (dvs:List V) (E:XK) (t:TA):TE:=fun σ H Q=>t σ H fun vs H1=>sp (vs++dvs) H1 Q E
noncomputable def Binds (K:PySem.W.Frag) (fd:FuncData) (ps:List Str) (ds:List Value):Prop:=
  ∀(s:Shared) (us:List Value),K.In s.heap→(us++ds).length=ps.length→BindsTo s fd ⟨us,[]⟩ (ps.zip (us++ds))
theorem Binds.all {K:PySem.W.Frag} {fd:FuncData} {ps:List Str} (h:∀us:List Value,us.length=ps.length→bindArgs fd ⟨us,[]⟩=pure (ps.zip us)):Binds K fd ps []:=fun s us _ hl=>by
  rw[List.append_nil] at hl ⊢
  exact .of_eq (h us hl)
noncomputable def Passes (CX:CXT) (X:Cx) (E:XK):Prop:=∀(pins:List (Addr×Obj)) (σ:St) (H:Hp) (s:Shared) (e:Value) (s':Shared),Inv X pins σ H s→CX X.stack H s E e s'→X.xe e s'
section
variable {X:Cx} {CX:CXT} {k:Nat} {f C:Addr} {fd:FuncData} {ps:List Str} {sp:Sp} {dvs:List V} {ds:List Value} {E:XK} {x m:Str} {p pos apos:Pos} {e o:Expr} {es:List Expr} {ta:TE} {t:TA}
theorem run_fn {pins:List (Addr×Obj)} {σ:St} {H:Hp} {s:Shared} {Q:VK} {us:List Value} {vs:List V} (F:FnOk X.prog X.w X.K X.mg X.base CX k f fd ps sp) (hr:Room k X.A) (hb:Binds X.K fd ps ds) (hd:Vals dvs ds) (hx:Passes CX X E)
    (I:Inv X pins σ H s) (r:Vals vs us) (h:sp (vs++dvs) H Q E):wpAny (model X.prog X.w) X.A (call (.ref f) us) (EP X pins σ Q) X.xe s:=by
  have r2:Vals (vs++dvs) (us++ds):=r.append hd
  have hl:(us++ds).length=ps.length:=by rw[←r2.length];exact F.len _ _ _ _ h
  refine wpAny_call (codeAny_mono (F.run X.A X.stack s H ⟨us,[]⟩ (us++ds) (vs++dvs) Q E hr I.env0 (hb s us I.kIn hl) r2 h) fun r s' hq=>?_)
  cases r with
  |error e=>exact hx pins σ H s e s' I hq
  | ok fl=>
    cases fl with
    |ret u=>exact I.after hq
    |next=>exact False.elim hq
    |brk=>exact False.elim hq
    |cont=>exact False.elim hq
theorem pe_call (F:FnOk X.prog X.w X.K X.mg X.base CX k f fd ps sp) (hr:Room k X.A) (hg:Gl X x) (hm:X.mg x=some (.ref f)) (hk:PySem.W.keepIn X.K (.ref f)=true) (hb:Binds X.K fd ps ds) (hd:Vals dvs ds) (hx:Passes CX X E)
    (ha:PA X (e::es) t) (hdb:(x ==("__debug__" :Str))=false:=by decide) (he:starEach (e::es) X.env=(false,eval e X.env)::starEach es X.env:=by rfl) (hpl:(backTo pos (starEach es X.env)).any (·.1)=false:=by rfl):
    PE X (.Call (.Name x p) (e::es) [] pos) (tCall sp dvs E t):=by
  intro pins s σ H Q I h
  refine wpAny_Call_Name_kw (ld_glob I hg hm ?_ hdb)
  refine PySem.W.callWith_K (h₀:=X.base) I.ok.mod.kin hk (thn (ha pos pins s σ H _ I h) fun us s1 ⟨vs,H1,I1,r,q⟩=>⟨I1.kIn,?_⟩) he hpl
  exact run_fn F hr hb hd hx I1 r q
end
noncomputable def PK (X:Cx) (kws:List Keyword) (t:TA):Prop:=
  ∀(pos:Pos) (pins:List (Addr×Obj)) (s:Shared) (σ:St) (H:Hp) (Q:List V→Hp→Prop),Inv X pins σ H s→t σ H Q→wpAny (model X.prog X.w) X.A (evalAll ((backToKw pos (keywordEach kws X.env)).map (·.2))) (AP X pins σ Q) X.xe s
section
variable {X:Cx} {CX:CXT} {k:Nat} {f C:Addr} {fd:FuncData} {ps ks:List Str} {sp:Sp} {E:XK} {x m:Str} {p pos apos kpos:Pos} {e o:Expr} {es:List Expr} {kws:List Keyword} {te ta:TE} {t tk:TA} {nm:Option Str}
theorem pk_nil:PK X [] tNil:=fun _ _ _ _ H Q I h=>wpAny_evalAll_nil ⟨[],H,I,.nil,h⟩
theorem pk_cons (ha:PE X e te) (hr:PK X kws t):PK X (⟨nm,e,kpos⟩::kws) (tCons te t):=by
  intro pos pins s σ H Q I h
  show wpAny _ _ (evalAll ((do let v ←eval e X.env;standAt pos;pure v)::(backToKw pos (keywordEach kws X.env)).map (·.2))) _ _ s
  refine wpAny_evalAll_cons (wpAny_bind (thn (ha pins s σ H _ I h) fun u s1 ⟨x,H1,I1,r1,q1⟩=>wpAny_bind (wpAny_standAt (wpAny_pure ?_))))
  refine thn (hr pos pins s1 σ H1 _ I1 q1) fun us s2 bL=>?_
  obtain⟨xs,H2,I2,r2,q2⟩:=bL
  exact⟨x::xs,H2,I2,.cons r1 r2,q2⟩
variable {g:List Value→List Value→List Value} {gV:List V→List V→List V}
end
structure FnScope (N P:List Str) (sc:Scope):Prop where
  kind:sc.kind= .function
  co:sc.isCoroutine=false
  gen:sc.isGenerator=false
  nd:N.Nodup
  pre:N.take P.length=P
  par:∀x∈P,sc.names.lookup x=some .local∨sc.names.lookup x=some .cell
  nofree:∀y∈sc.names,y.2≠.free
theorem bindL_out {kindOf:Str→Option NameKind} {x:Str}:∀{binds:List (Str×Value)} {m:Str→Option Value},(∀v,(x,v)∉binds)→bindL kindOf binds m x=m x
  |[],_,_=>rfl
  | (n,v)::r,m,h=>by
    unfold bindL
    rw[bindL_out fun w hw=>h w (List.mem_cons_of_mem _ hw)]
    split
    · have:x≠n:=by rintro rfl;exact h v List.mem_cons_self
      simp[this]
    · rfl
theorem bindC_out {kindOf:Str→Option NameKind} {x:Str}:∀{binds:List (Str×Value)} {m:Str→Option Value},(∀v,(x,v)∉binds)→bindC kindOf binds m x=m x
  |[],_,_=>rfl
  | (n,v)::r,m,h=>by
    unfold bindC
    rw[bindC_out fun w hw=>h w (List.mem_cons_of_mem _ hw)]
    split
    · rfl
    · have:x≠n:=by rintro rfl;exact h v List.mem_cons_self
      simp[this]
theorem bindL_get {kindOf:Str→Option NameKind} {x:Str} {v:Value}:∀{P:List Str} {vs:List Value} {i:Nat} {m:Str→Option Value},P.Nodup→P[i]?=some x→vs[i]?=some v→kindOf x=some .local→
    bindL kindOf (P.zip vs) m x=some v
  |[],_,_,_,_,h,_,_=>by simp at h
  |_::_,[],_,_,_,_,h,_=>by simp at h
  | p::P,w::vs,0,m,nd,h1,h2,hk=>by
    simp at h1 h2;subst h1;subst h2
    show bindL kindOf ((p,w)::P.zip vs) m p=_
    unfold bindL
    rw[bindL_out fun v hv=>(List.nodup_cons.mp nd).1 (List.of_mem_zip hv).1,if_pos hk]
    simp
  | p::P,w::vs,i+1,m,nd,h1,h2,hk=>by
    show bindL kindOf ((p,w)::P.zip vs) m x=_
    unfold bindL
    exact bindL_get (i:=i) (List.nodup_cons.mp nd).2 (by simpa using h1) (by simpa using h2) hk
theorem bindC_get {kindOf:Str→Option NameKind} {x:Str} {v:Value}:∀{P:List Str} {vs:List Value} {i:Nat} {m:Str→Option Value},P.Nodup→P[i]?=some x→vs[i]?=some v→kindOf x≠some .local→
    bindC kindOf (P.zip vs) m x=some v
  |[],_,_,_,_,h,_,_=>by simp at h
  |_::_,[],_,_,_,_,h,_=>by simp at h
  | p::P,w::vs,0,m,nd,h1,h2,hk=>by
    simp at h1 h2;subst h1;subst h2
    show bindC kindOf ((p,w)::P.zip vs) m p=_
    unfold bindC
    rw[bindC_out fun v hv=>(List.nodup_cons.mp nd).1 (List.of_mem_zip hv).1,if_neg hk]
    simp
  | p::P,w::vs,i+1,m,nd,h1,h2,hk=>by
    show bindC kindOf ((p,w)::P.zip vs) m x=_
    unfold bindC
    exact bindC_get (i:=i) (List.nodup_cons.mp nd).2 (by simpa using h1) (by simpa using h2) hk
noncomputable def start (N:List Str) (vs:List V):St:=vs.map some++List.replicate (N.length - vs.length) none
noncomputable def cxOf (CX:CXT) (P:Program) (w:World) (K:PySem.W.Frag) (mg:Str→Option Value) (base:Heap) (N:List Str) (qual:Str) (scope:Scope) (f:Addr) (cd:Value) (A:Around) (outer:List Env) (s:Shared) (H:Hp) (E:XK):Cx where
  prog:=P
  w:=w
  K:=K
  mg:=mg
  base:=base
  A:=A.deeper (envOfC qual scope s.heap.objs.size f cd)
  N:=N
  s₀:=s
  H₀:=H
  env:=envOfC qual scope s.heap.objs.size f cd
  outer:=outer
  stack:=envOfC qual scope s.heap.objs.size f cd::outer
  ex:=[]
  calm:=true
  fn:=fun _=>true
  pn:=[]
  xe:=fun e s'=>wpAny (model P w) (A.deeper (envOfC qual scope s.heap.objs.size f cd)) (leaving (envOfC qual scope s.heap.objs.size f cd) e) (fun _ s''=>CX outer H s E e s'') (fun e' s''=>CX outer H s E e' s'') s'
theorem cell_has {sc:Scope} {n:Nat} {x:Str} (h:sc.names.lookup x=some .cell):∃c,(cellsFrom n sc.names []).lookup x=some c:=by
  have q:=PySem.W.cellsFrom_some sc.names n [] (.inl h)
  exact Option.isSome_iff_exists.mp q
theorem inv_start {CX:CXT} {P:Program} {w:World} {K:PySem.W.Frag} {mg:Str→Option Value} {base:Heap} {N ps:List Str} {qual:Str} {scope:Scope} {f:Addr} {cd:Value} {A:Around} {outer:List Env} {s s1:Shared} {H:Hp} {E:XK} {us:List Value} {vs:List V}
    (S:FnScope N ps scope) (hd:A.handled=none) (e0:Env0 P w K mg base A outer s H) (hl:vs.length=ps.length) (r:Vals vs us)
    (x:InCallC s s.heap.objs.size (bindL (envOfC qual scope s.heap.objs.size f cd).kindOf (ps.zip us) fun _=>none) (cellsFrom (s.heap.objs.size+1) scope.names []) (bindC (envOfC qual scope s.heap.objs.size f cd).kindOf (ps.zip us) fun _=>none) s1):
    Inv (cxOf CX P w K mg base N qual scope f cd A outer s H E) [] (start N vs) H s1:=by
  have hpl:ps.length≤N.length:=by have:=congrArg List.length S.pre;rw[List.length_take] at this;omega
  obtain⟨h1,tk,rfl,hk⟩:=x.done
  have noA:∀b:Addr,b∉(cxOf CX P w K mg base N qual scope f cd A outer s H E).ex:=fun b z=>absurd (show b∈([]:List Addr) from z) (by simp)
  refine⟨⟨e0.mod,S.kind,rfl,rfl,Nat.le_refl _,fun y z c h1 h2=>?_,fun y hy=>?_,fun y c _ h=>?_,fun _=>hd,Around.frames_deeper e0.frames,.inr ⟨rfl,rfl⟩,fun b z=>absurd z (noA b),e0.bs,e0.bsz,fun b _ _=>noA b,fun b z=>absurd z (noA b),e0.funs,e0.frf⟩,
    rfl,e0.bare,Un.kept hk,⟨_,x.toInCall.ns,fun i y v h1 h2 h3=>?_⟩,fun y c h=>⟨_,x.cell y c h⟩,e0.hok.fresh (Nat.le_refl _),fun y c h=>?_,fun p hp=>absurd (show p∈([]:List (Addr×Obj)) from hp) (by simp),e0.hok.kept hk,?_⟩
  · exact name_of_addr x.apart (PySem.mem_of_lookup h1) (PySem.mem_of_lookup h2)
  · have hy:scope.names.lookup y=some .cell∨scope.names.lookup y=some .free:=hy
    rcases hy with hy |hy
    · exact cell_has hy
    · exact absurd rfl (S.nofree _ (PySem.mem_of_lookup hy))
  · exact Nat.le_of_lt (x.above y c (PySem.mem_of_lookup h))
  · have hi:i < vs.length:=by
      unfold start at h2
      by_cases hi:i < vs.length
      · exact hi
      · rw[List.getElem?_append_right (by simpa using hi)] at h2
        rw[List.getElem?_replicate] at h2
        split at h2 <;> cases h2
    have ha:vs[i]?=some v:=by
      unfold start at h2
      rw[List.getElem?_append_left (by simpa using hi),List.getElem?_map] at h2
      cases e:vs[i]? with
      |none=>rw[e] at h2;cases h2
      |some a=>rw[e] at h2;cases h2;rfl
    obtain⟨u,hu,rv⟩:=r.get ha
    have hp:ps[i]?=some y:=by
      rw[←S.pre,List.getElem?_take_of_lt (by omega)];exact h1
    have ndP:ps.Nodup:=by rw[←S.pre];exact S.nd.sublist (List.take_sublist _ _)
    refine⟨u,rv,?_⟩
    rcases S.par y (List.mem_of_getElem? hp) with k |k
    · exact .inl ⟨k,bindL_get ndP hp hu k⟩
    · obtain⟨c,e⟩:=cell_has (n:=s.heap.objs.size+1) k
      refine .inr ⟨.inl k,c,e,?_⟩
      have q:=x.cell y c e
      rw[bindC_get ndP hp hu (by show scope.names.lookup y≠_;rw[k];decide)] at q
      exact q
  · exact e0.hok.fresh (Nat.le_of_lt (x.above y c (PySem.mem_of_lookup h)))
  · unfold start
    show _=N.length
    rw[List.length_append,List.length_map,List.length_replicate]
    omega
theorem fn_of {CX:CXT} {P:Program} {w:World} {K:PySem.W.Frag} {mg:Str→Option Value} {base:Heap} {k:Nat} {f:Addr} {name qual:Str} {params:Arguments} {body:List Stmt} {scope:Scope} {dV kV doc pm cdv ct oc:Value} {an od:Option Addr}
    {osl:Array (Option Value)} {N ps:List Str} {sp:Sp} (lk:K.lookup f=some ⟨oc,od,.func (PySem.W.fnOf name qual params body scope dV kV doc pm an cdv ct),osl⟩) (hcd:PySem.W.codeIn K cdv qual=true) (S:FnScope N ps scope)
    (len:∀vs H Q E,sp vs H Q E→vs.length=ps.length)
    (hbody:∀(A:Around) (outer:List Env) (s:Shared) (H:Hp) (vs:List V) (Q:VK) (E:XK),Room k (A.deeper (envOfC qual scope s.heap.objs.size f cdv))→sp vs H Q E→
      ∃t,PSs (cxOf CX P w K mg base N qual scope f cdv A outer s H E) body t∧t {nx:=fun _ H'=>Q .non H',rt:=Q} (start N vs) H):
    FnOk P w K mg base CX (k+1) f (PySem.W.fnOf name qual params body scope dV kV doc pm an cdv ct) ps sp:=by
  refine⟨len,fun A outer s H args us vs Q E hr e0 hb r hsp=>?_⟩
  have hl:=len _ _ _ _ hsp
  have KX:K.In s.heap:=e0.mod.kin.keeps fun b o e=>(e0.bs b o e).1
  have lim:s.heap.NoLimit:=e0.mod.nolimit.keeps fun b o e=>(e0.bs b o e).1
  have hkind:∀y∈ps.zip us,scope.names.lookup y.1=some .local∨(scope.names.lookup y.1=some .cell∧((cellsFrom (s.heap.objs.size+1) scope.names []).lookup y.1).isSome=true):=fun ⟨n,v⟩ hy=>by
    rcases S.par n (List.of_mem_zip hy).1 with q |q
    · exact .inl q
    · exact .inr ⟨q,PySem.W.cellsFrom_some _ _ _ (.inl q)⟩
  refine codeAny_call_function hr.depth (KX _ _ lk) rfl S.co S.gen rfl (PySem.W.codeRec_of KX hcd) (hb _ _ _ _ ?_)
  refine wpAny_newFunctionEnv_cells S.kind hkind fun env he s1 x=>?_
  subst he
  refine⟨lim.keeps x.toInCall.keep,codeAny_func ?_⟩
  obtain⟨t,ht,hq⟩:=hbody A outer s H vs Q E (hr.deeper _) hsp
  have I:Inv (cxOf CX P w K mg base N qual scope f cdv A outer s H E) [] (start N vs) H s1:=inv_start S hr.hd e0 hl r x
  refine wpAny_mono (ht [] s1 (start N vs) H _ I hq) (fun fl s' hs=>?_) fun e s' hs=>hs
  have fin:∀{σ':St} {H':Hp} {v:V} {u:Value},Inv (cxOf CX P w K mg base N qual scope f cdv A outer s H E) [] σ' H' s'→RelV v u→Q v H'→CE outer P w H s Q u s':=
    fun {σ' H' v u} J rv q=>⟨v,H',J.os,J.bare,J.base,J.hok,rv,q⟩
  cases fl with
  | ret u=>
    obtain⟨v,σ',H',J,rv,q⟩:=hs
    exact fin J rv q
  | next=>
    obtain⟨σ',H',J,q⟩:=hs
    exact fin (v:=V.non) (u:=Value.none) J rfl q
  | brk=>
    obtain⟨_,_,_,q⟩:=hs
    exact False.elim q
  | cont=>
    obtain⟨_,_,_,q⟩:=hs
    exact False.elim q
end L2
namespace L2
open PySem PySem.Spec PyProof.Rows
section
variable {X:Cx} {x:Str} {p pos:Pos} {e:Expr} {es:List Expr} {t:TA} {id T:String} {r:List V→Hp→VK→Prop}
noncomputable def tCB (r:List V→Hp→VK→Prop) (t:TA):TE:=fun σ H Q=>t σ H fun vs H1=>r vs H1 Q
theorem pe_callB (hc:CallR X (.builtin id) r) (hg:Gl X x) (hm:X.mg x=none) (hv:bootBuiltins x=some (.builtin id)) (ha:PA X (e::es) t) (hn:x≠"__name__" :=by decide) (hdb:(x ==("__debug__" :Str))=false:=by decide)
    (he:starEach (e::es) X.env=(false,eval e X.env)::starEach es X.env:=by rfl) (hpl:(backTo pos (starEach es X.env)).any (·.1)=false:=by rfl):PE X (.Call (.Name x p) (e::es) [] pos) (tCB r t):=by
  intro pins s σ H Q I h
  refine wpAny_Call_Name_kw (ld_blt I hg hm hv ?_ hn hdb)
  exact PyProof.Rows.callWith_builtin1 (thn (ha pos pins s σ H _ I h) fun us s1 ⟨vs,H1,I1,r1,q1⟩=>hc pins s1 σ H1 vs us Q I1 r1 q1) he hpl
theorem pe_callTy (hc:CallR X (.type T) r) (hg:Gl X x) (hm:X.mg x=none) (hv:bootBuiltins x=some (.type T)) (ha:PA X (e::es) t) (hn:x≠"__name__" :=by decide) (hdb:(x ==("__debug__" :Str))=false:=by decide)
    (he:starEach (e::es) X.env=(false,eval e X.env)::starEach es X.env:=by rfl) (hpl:(backTo pos (starEach es X.env)).any (·.1)=false:=by rfl):PE X (.Call (.Name x p) (e::es) [] pos) (tCB r t):=by
  intro pins s σ H Q I h
  refine wpAny_Call_Name_kw (ld_blt I hg hm hv ?_ hn hdb)
  exact PyProof.Rows.callWith_type1 (thn (ha pos pins s σ H _ I h) fun us s1 ⟨vs,H1,I1,r1,q1⟩=>hc pins s1 σ H1 vs us Q I1 r1 q1) he hpl
end
end L2
namespace HT
open PySem PyProof.Rows
section
open PySem.SeqAt
open PySem.AutoSeq1 (wpAny_loadPart')
open PySem.MeetsSeq PySem.MeetsSeq2 PySem.MeetsSeq3
end
section
variable {prog:Program} {w:World} {A:Around} {E:Value→Shared→Prop} {s:Shared}
theorem cat_tup {t b:Addr} {vs ws:List Value} {Q:Value→Shared→Prop} (ht:IsTup s.heap t vs.toArray) (hb:IsTup s.heap b ws.toArray) (hv:vs≠[])
    (h1:ws=[]→Q (.ref t) s) (h2:ws≠[]→Q (.ref s.heap.objs.size) {s with heap:=s.heap.push {cls:= .type "tuple",data:= .seq (vs++ws).toArray}})
    (hsz:vs.length+ws.length≤sizeLine):wpAny (model prog w) A (binaryOp .Add (.ref t) (.ref b)) Q E s:=by
  obtain⟨⟨cls,dd,data,sl⟩,ho,hc,n,hd⟩:=id ht
  obtain⟨⟨cls2,dd2,data2,sl2⟩,ho2,hc2,n2,hd2⟩:=id hb
  simp only at hc hd hc2 hd2
  subst hc hd hc2 hd2
  have e:vs.toArray++ws.toArray=(vs++ws).toArray:=by simp
  by_cases hw:ws=[]
  · exact concat_meets ⟨_,ho,rfl⟩ ⟨_,ho2,rfl⟩ noFill_tuple_add seq_tuple_add PySem.F.slot_tuple_add PySem.F.entry_tuple_add (PySem.F.args_tuple_add_2 _ _)
      (tuple_addW1 t b vs.toArray ws.toArray n n2 dd dd2 sl sl2 (by simpa using hv) (by simp[hw])) ⟨ho,ho2,h1 hw⟩
  · refine concat_meets ⟨_,ho,rfl⟩ ⟨_,ho2,rfl⟩ noFill_tuple_add seq_tuple_add PySem.F.slot_tuple_add PySem.F.entry_tuple_add (PySem.F.args_tuple_add_2 _ _)
      (tuple_addW2 t b vs.toArray ws.toArray n n2 dd dd2 sl sl2 (by simpa using hv) (by simpa using hw) (by rw[List.size_toArray,List.size_toArray];exact hsz)) ⟨ho,ho2,?_⟩
    rw[e]
    exact h2 hw
noncomputable def sIx (n d:Nat):Option Int→Nat
  |none=>d
  |some v=>if v < 0 then (v+(n:Int)).toNat else min v.toNat n
theorem sIx_le (n d:Nat) (hd:d≤n) (o:Option Int):sIx n d o≤n:=by
  cases o with
  |none=>exact hd
  | some v=>
    show (if v < 0 then (v+(n:Int)).toNat else min v.toNat n)≤n
    by_cases hv:v < 0
    · rw[if_pos hv];omega
    · rw[if_neg hv];exact Nat.min_le_right _ _
theorem agC (a b:Nat):((min a b:Nat):Int)=min (a:Int) (b:Int):=by
  rcases Nat.le_total a b with h |h
  · rw[Nat.min_eq_left h,Int.min_eq_left (Int.ofNat_le.mpr h)]
  · rw[Nat.min_eq_right h,Int.min_eq_right (Int.ofNat_le.mpr h)]
theorem alF {i:Int} (n:Nat) (h:i < 0):max 0 (min (i+(n:Int)) (n:Int))=(((i+(n:Int)).toNat:Nat):Int):=by
  rw[Int.min_eq_left (by omega),Int.max_comm];exact (Int.ofNat_toNat _).symm
theorem alG (k n:Nat):max 0 (min (k:Int) (n:Int))=((min (k:Int).toNat n:Nat):Int):=by
  rw[Int.max_eq_right (Int.le_min.mpr ⟨Int.natCast_nonneg _,Int.natCast_nonneg _⟩)];exact (agC k n).symm
theorem clip_eq (v:Int) (n d:Nat):(if v < 0 then max (v+(n:Int)) 0 else min v (n:Int))=((sIx n d (some v):Nat):Int):=by
  show (if v < 0 then max (v+(n:Int)) 0 else min v (n:Int))=(((if v < 0 then (v+(n:Int)).toNat else min v.toNat n):Nat):Int)
  by_cases hv:v < 0
  · simp only[if_pos hv];exact (Int.ofNat_toNat _).symm
  · simp only[if_neg hv]
    obtain⟨k,rfl⟩:=Int.eq_ofNat_of_zero_le (Int.not_lt.mp hv)
    exact (agC k n).symm
theorem adjust_gen (lo hi:Option Int) (n:Nat):Builtin.Slice.sliceAdjust lo hi 1 (n:Int)=(((sIx n 0 lo:Nat):Int),((sIx n n hi:Nat):Int)):=by
  have h1:¬((1:Int) < 0):=by omega
  unfold Builtin.Slice.sliceAdjust
  simp only[h1,if_false]
  refine Prod.ext ?_ ?_
  · cases lo with
    |none=>rfl
    |some v=>exact clip_eq v n 0
  · cases hi with
    |none=>rfl
    |some v=>exact clip_eq v n n
theorem places_gen (i j:Nat):Builtin.Slice.slicePlaces (i:Int) (j:Int) 1=j - i:=by
  unfold Builtin.Slice.slicePlaces
  have h1:(1:Int) > 0:=by omega
  simp only[h1,if_true,Int.ediv_one]
  split <;> omega
theorem slicePart_ {v:Value} {o:Option Int} {Q:Option Int→Shared→Prop} (p:IsPart v o) (h:Q o s):wpAny (model prog w) A (Builtin.Slice.slicePartIndex v) Q E s:=by
  cases p with
  |none=>exact slicePart_none h
  |int i t=>exact slicePart_int h
theorem sliceApplied_gen {sl:Addr} {vl vu:Value} {lo hi:Option Int} {n:Nat} {Q:Int×Int×Nat→Shared→Prop} (hs:s.heap.IsSliceOf sl vl vu .none) (pl:IsPart vl lo) (pu:IsPart vu hi)
    (h:Q (((sIx n 0 lo:Nat):Int),1,sIx n n hi - sIx n 0 lo) s):wpAny (model prog w) A (Builtin.Slice.sliceApplied (.ref sl) (pure (n:Int))) Q E s:=by
  obtain⟨os,hos,hcs,hds⟩:=id hs
  unfold Builtin.Slice.sliceApplied Builtin.Slice.sliceFields
  refine wpAny_bind (wpAny_bind (wpAny_field hos hds (x:=vl) rfl (wpAny_bind (wpAny_field hos hds (x:=vu) rfl (wpAny_bind (wpAny_field hos hds (x:= .none) rfl (wpAny_pure ?_)))))))
  refine wpAny_bind (slicePart_none ?_)
  show wpAny _ _ (if ((1:Int) ==0)=true then _ else _) _ _ s
  rw[if_neg (by decide)]
  refine wpAny_bind (slicePart_ pl (wpAny_bind (slicePart_ pu (wpAny_bind (wpAny_pure ?_)))))
  show wpAny _ _ (match Builtin.Slice.sliceAdjust lo hi 1 (n:Int) with |(lo,hi)=>pure (lo,(1:Int),Builtin.Slice.slicePlaces lo hi 1)) _ _ s
  rw[adjust_gen lo hi n]
  show wpAny _ _ (pure (((sIx n 0 lo:Nat):Int),(1:Int),Builtin.Slice.slicePlaces ((sIx n 0 lo:Nat):Int) ((sIx n n hi:Nat):Int) 1)) _ _ s
  rw[places_gen]
  exact wpAny_pure h
theorem pick_gen (xs:Array Value) (i k:Nat):((List.range k).filterMap fun (m:Nat)=>xs[((i:Int)+(m:Int)*1).toNat]?).toArray=((xs.toList.drop i).take k).toArray:=by
  have e:(fun (m:Nat)=>xs[((i:Int)+(m:Int)*1).toNat]?)=fun m=>xs[i+m]?:=by
    funext m
    have:((i:Int)+(m:Int)*1).toNat=i+m:=by omega
    rw[this]
  rw[e]
  have:=pick_run xs i k
  rw[List.filterMap_map] at this
  have e2:((fun x=>xs[x]?) ∘ fun x=>i+x)=fun m=>xs[i+m]?:=rfl
  rw[e2] at this
  rw[this]
theorem getItem_tuple_cut {t sl:Addr} {items:Array Value} {vl vu:Value} {lo hi:Option Int} {Q:Value→Shared→Prop} (ht:IsTup s.heap t items) (hs:s.heap.IsSliceOf sl vl vu .none) (pl:IsPart vl lo) (pu:IsPart vu hi)
    (hw:¬(sIx items.size 0 lo=0∧sIx items.size items.size hi=items.size))
    (h:Q (.ref s.heap.objs.size) {s with heap:=s.heap.push {cls:= .type "tuple",data:= .seq ((items.toList.drop (sIx items.size 0 lo)).take (sIx items.size items.size hi - sIx items.size 0 lo)).toArray}})
    (hsz:items.size≤sizeLine):wpAny (model prog w) A (getItem (.ref t) (.ref sl)) Q E s:=by
  have htake:sizeOk (.seq ((items.toList.drop (sIx items.size 0 lo)).take (sIx items.size items.size hi - sIx items.size 0 lo)).toArray):=by
    show ((items.toList.drop (sIx items.size 0 lo)).take (sIx items.size items.size hi - sIx items.size 0 lo)).toArray.size≤sizeLine
    rw[List.size_toArray,List.length_take,List.length_drop,Array.length_toList]
    omega
  have hj:sIx items.size items.size hi≤items.size:=sIx_le _ _ (Nat.le_refl _) hi
  obtain⟨os,hos,hcs,hds⟩:=id hs
  have hTs:s.TypeIs (.ref sl) "slice" :=⟨os,hos,hcs⟩
  unfold getItem
  try with_reducible refine wpAny_holding ?_
  first |refine wpAny_bind (wpAny_pure ?_) |skip
  refine wpAny_bind (wpAny_sequenceKey ht.typeIs (by decide) ?_)
  refine wpAny_bind (wpAny_callSpecial?_slot (name:=Str.ofString "__getitem__") ht.typeIs PyProof.Rows.slot_tuple_getitem
    (wpAny_call_entry PyProof.Rows.slot_tuple_getitem ht.typeIs entry_tuple_getitem ?_ (args_tuple_getitem _ _)))
  show wpAny _ _ (Builtin.Tuple.tupleItemsOf (.ref t) >>=_) _ _ s
  refine wpAny_bind (tupleItemsOf_ ht ?_)
  refine wpAny_bind (wpAny_typeOf hTs ?_)
  rw[if_pos (by decide)]
  refine wpAny_bind (sliceApplied_gen hs pl pu ?_)
  have hno:¬((((sIx items.size 0 lo:Nat):Int) ==0 && (1:Int) ==1 && (sIx items.size items.size hi - sIx items.size 0 lo) ==items.size)=true):=by
    intro q
    rw[Bool.and_eq_true,Bool.and_eq_true] at q
    have q1:((sIx items.size 0 lo:Nat):Int)=0:=eq_of_beq q.1.1
    have q2:sIx items.size items.size hi - sIx items.size 0 lo=items.size:=eq_of_beq q.2
    exact hw ⟨by omega,by omega⟩
  show wpAny _ _ (if (((sIx items.size 0 lo:Nat):Int) ==0 && (1:Int) ==1 && (sIx items.size items.size hi - sIx items.size 0 lo) ==items.size)=true then _ else _) _ _ s
  rw[if_neg hno,pick_gen]
  first
    |exact wpAny_bind (m:=Builtin.Tuple.tupleExact _) (wpAny_newObj_type (wpAny_pure ⟨_,rfl,wpAny_pure h⟩) htake)
    |exact wpAny_bind (m:=Builtin.Tuple.tupleExact _) (wpAny_newObj_type (wpAny_bind (wpAny_pure (wpAny_pure ⟨_,rfl,wpAny_pure h⟩))) htake)
    |exact wpAny_bind (wpAny_bind (m:=Builtin.Tuple.tupleExact _) (wpAny_newObj_type (wpAny_pure (wpAny_pure ⟨_,rfl,wpAny_pure h⟩)) htake))
    |exact wpAny_bind (wpAny_bind (m:=Builtin.Tuple.tupleExact _) (wpAny_newObj_type (wpAny_pure ⟨_,rfl,wpAny_pure h⟩) htake))
end
end HT
namespace L2
open PySem PySem.Spec PyProof.Rows
noncomputable abbrev TO:=St→Hp→(Option Int→Hp→Prop)→Prop
noncomputable def PO (X:Cx) (e:Option Expr) (t:TO):Prop:=
  ∀ (pins:List (Addr×Obj)) (s:Shared) (σ:St) (H:Hp) (Q:Option Int→Hp→Prop),Inv X pins σ H s→t σ H Q→
    wpAny (model X.prog X.w) X.A (evalPart e X.env) (fun u s'=>∃o H',Inv X pins σ H' s'∧IsPart u o∧Q o H') X.xe s
noncomputable def tNoPart:TO:=fun _ H Q=>Q none H
noncomputable def tPart (t:TE):TO:=fun σ H Q=>t σ H fun x H1=>∃i,x= .int i∧Q (some i) H1
theorem intsAre_of {ns:List Int}:∀{us:List Value},Vals (ns.map V.int) us→IntsAre us ns:=by
  induction ns with
  |nil=>intro us r;rw[List.map_nil] at r;cases r;exact .nil
  | cons n ns ih=>
    intro us r
    rw[List.map_cons] at r
    cases r with
    | cons r1 r2=>
      obtain⟨t,e⟩:=r1
      subst e
      exact .cons n t (ih r2)
section
variable {X:Cx} {e:Expr} {te:TE} {lo hi:Option Expr} {tl th:TO} {pos p2:Pos}
theorem po_none:PO X none tNoPart:=by
  intro pins s σ H Q I h
  rw[evalPart_none]
  exact wpAny_pure ⟨none,H,I,.none,h⟩
theorem po_some (h:PE X e te):PO X (some e) (tPart te):=by
  intro pins s σ H Q I hw
  rw[evalPart_some]
  refine thn (h pins s σ H _ I hw) fun u s1 bL=>?_
  obtain⟨x,H1,I1,r1,q1⟩:=bL
  obtain⟨i,rfl,q⟩:=q1
  obtain⟨t,rfl⟩:=r1
  exact⟨some i,H1,I1,.int i t,q⟩
noncomputable def SlR (X:Cx) (r:V→Option Int→Option Int→Hp→VK→Prop):Prop:=
  ∀ (pins:List (Addr×Obj)) (s:Shared) (σ:St) (H:Hp) (x:V) (v vl vu:Value) (lo hi:Option Int) (sl:Addr) (Q:VK),Inv X pins σ H s→RelV x v→s.heap.IsSliceOf sl vl vu .none→IsPart vl lo→IsPart vu hi→r x lo hi H Q→
    ∃T id,typeLookup (.type T) "__getitem__" =pure (some (.builtin id))∧s.TypeIs v T∧wpAny (model X.prog X.w) X.A (getItem v (.ref sl)) (EP X pins σ Q) X.xe s
theorem SlR.or {r r':V→Option Int→Option Int→Hp→VK→Prop} (h:SlR X r) (h':SlR X r'):SlR X (fun x lo hi H Q=>r x lo hi H Q∨r' x lo hi H Q):=by
  intro pins s σ H x v vl vu lo hi sl Q I rx hs pl pu q
  rcases q with q |q
  · exact h pins s σ H x v vl vu lo hi sl Q I rx hs pl pu q
  · exact h' pins s σ H x v vl vu lo hi sl Q I rx hs pl pu q
noncomputable def tSl (r:V→Option Int→Option Int→Hp→VK→Prop) (te:TE) (tl th:TO):TE:=fun σ H Q=>te σ H fun x H1=>tl σ H1 fun l H2=>th σ H2 fun u H3=>r x l u H3 Q
theorem pe_slice {r:V→Option Int→Option Int→Hp→VK→Prop} (hr:SlR X r) (he:PE X e te) (hl:PO X lo tl) (hu:PO X hi th):PE X (.Subscript e (.Slice lo hi none p2) pos) (tSl r te tl th):=by
  intro pins s σ H Q I h
  refine Subscript_ (thn (he pins s σ H _ I h) fun v s1 bL=>?_)
  obtain⟨x,H1,I1,r1,q1⟩:=bL
  refine wpAny_Slice (thn (hl pins s1 σ H1 _ I1 q1) fun vl s2 ⟨l,H2,I2,pl,q2⟩=>thn (hu pins s2 σ H2 _ I2 q2) fun vu s3 bL=>?_)
  obtain⟨u,H3,I3,pu,q3⟩:=bL
  rw[evalPart_none]
  refine wpAny_pure ?_
  have I4:Inv X pins σ H3 {s3 with heap:=s3.heap.push {cls:= .type "slice",data:= .fields #[vl,vu,.none]}}:=I3.kept (t':=s3.toks) fun b ob q=>Heap.get?_push_of_some _ q
  obtain⟨T,id,hT,ht,hg⟩:=hr pins {s3 with heap:=s3.heap.push {cls:= .type "slice",data:= .fields #[vl,vu,.none]}} σ H3 x v vl vu l u s3.heap.objs.size Q I4 r1 (Heap.IsSliceOf.new ..) pl pu q3
  show wpAny (model X.prog X.w) X.A (subscriptTail e (.Slice lo hi none p2) v (.ref s3.heap.objs.size)) (EP X pins σ Q) X.xe {s3 with heap:=s3.heap.push {cls:= .type "slice",data:= .fields #[vl,vu,.none]}}
  exact tail_any (ops:=[.ref s3.heap.objs.size,v]) ht hT hg (by with_unfolding_all rfl)
noncomputable def cutV (xs:List V) (lo hi:Option Int):List V:=(xs.drop (HT.sIx xs.length 0 lo)).take (HT.sIx xs.length xs.length hi - HT.sIx xs.length 0 lo)
theorem cutV_length (xs:List V) (lo hi:Option Int):(cutV xs lo hi).length≤xs.length:=by
  unfold cutV
  rw[List.length_take,List.length_drop]
  omega
noncomputable def rSlT (K:PySem.W.Frag):V→Option Int→Option Int→Hp→VK→Prop:=fun x lo hi H Q=>∃a xs,x= .ref a∧SqT K H a xs∧
  ¬(HT.sIx xs.length 0 lo=0∧HT.sIx xs.length xs.length hi=xs.length)∧∀p,H p=none→Q (.ref p) (upd H p (.tup (cutV xs lo hi)))
theorem sl_tup:SlR X (rSlT X.K):=by
  intro pins s σ H x v vl vu lo hi sl Q I rx hs pl pu h
  obtain⟨a,xs,rfl,hx,hw,q⟩:=h
  cases rx
  obtain⟨its,r,ht,hz⟩:=I.tuple hx
  have hlen:its.toArray.size=xs.length:=by rw[List.size_toArray];exact r.length.symm
  refine⟨"tuple",_,PyProof.Rows.slot_tuple_getitem.lookup,ht.typeIs,?_⟩
  refine HT.getItem_tuple_cut ht hs pl pu (by rw[hlen];exact hw) ?_ (by rw[hlen];exact hz)
  rw[hlen]
  refine⟨.ref s.heap.objs.size,_,I.laid (t':=s.toks) (o:= .tup (cutV xs lo hi)) (fun b ob q=>Heap.get?_push_of_some _ q) (Nat.le_refl _) ?_,rfl,q _ (I.hok.fresh (Nat.le_refl _))⟩
  exact⟨Nat.le_trans (cutV_length xs lo hi) hz,_,(r.drop (HT.sIx xs.length 0 lo)).take (HT.sIx xs.length xs.length hi - HT.sIx xs.length 0 lo),IsTup.new _ _⟩
noncomputable def rCatT (K:PySem.W.Frag):R2:=fun x y H Q=>∃a b xs ys,x= .ref a∧y= .ref b∧SqT K H a xs∧SqT K H b ys∧xs≠[]∧xs.length+ys.length≤sizeLine∧
  (ys=[]→Q (.ref a) H)∧(ys≠[]→∀p,H p=none→Q (.ref p) (upd H p (.tup (xs++ys))))
theorem Vals.nil_iff {xs:List V} {us:List Value} (r:Vals xs us):us=[]↔xs=[]:=by
  cases r with
  |nil=>simp
  |cons _ _=>simp
theorem op_catT:OpR X (binaryOp .Add) (rCatT X.K):=by
  intro pins s σ H x y v u Q I rx ry h
  obtain⟨a,b,xs,ys,rfl,rfl,ha,hb,hx,hz,q1,q2⟩:=h
  cases rx
  cases ry
  obtain⟨its,r1,p1,_⟩:=I.tuple ha
  obtain⟨its2,r2,p2,_⟩:=I.tuple hb
  refine HT.cat_tup p1 p2 (fun z=>hx (r1.nil_iff.mp z)) (fun z=>⟨.ref a,H,I,rfl,q1 (r2.nil_iff.mp z)⟩) (fun z=>?_) (by rw[←r1.length,←r2.length];exact hz)
  refine⟨.ref s.heap.objs.size,_,I.laid (t':=s.toks) (o:= .tup (xs++ys)) (fun b ob q=>Heap.get?_push_of_some _ q) (Nat.le_refl _) ?_,rfl,q2 (fun w=>z (r2.nil_iff.mpr w)) _ (I.hok.fresh (Nat.le_refl _))⟩
  exact⟨by rw[List.length_append];exact hz,_,r1.append r2,IsTup.new _ _⟩
end
end L2
namespace L2
open PySem PySem.Spec PyProof.Rows
noncomputable def ixN (n:Nat) (i:Int):Option Nat:=if 0≤i then (if i < n then some i.toNat else none) else if -(n:Int)≤i then some (i+n).toNat else none
noncomputable def atI {α:Type} (xs:List α) (i:Int):Option α:=(ixN xs.length i).bind fun j=>xs[j]?
theorem ixN_seq {n:Nat} {i:Int} {j:Nat} (h:ixN n i=some j):seqIndex? i n=some j∧j < n∧-(n:Int)≤i∧i < n:=by
  unfold ixN at h
  by_cases h0:0≤i
  · rw[if_pos h0] at h
    by_cases h1:i < n
    · rw[if_pos h1] at h
      have e:i.toNat=j:=Option.some.inj h
      exact⟨by rw[seqIndex_of h0 h1,e],by omega,by omega,h1⟩
    · rw[if_neg h1] at h;cases h
  · rw[if_neg h0] at h
    by_cases h1: -(n:Int)≤i
    · rw[if_pos h1] at h
      have e:(i+n).toNat=j:=Option.some.inj h
      exact⟨by rw[seqIndex_neg (by omega) h1,e],by omega,h1,by omega⟩
    · rw[if_neg h1] at h;cases h
theorem atI_get {α:Type} {xs:List α} {i:Int} {v:α} (h:atI xs i=some v):∃j,seqIndex? i xs.length=some j∧xs[j]?=some v∧j < xs.length∧-(xs.length:Int)≤i∧i < xs.length:=by
  unfold atI at h
  cases e:ixN xs.length i with
  |none=>rw[e] at h;cases h
  | some j=>
    rw[e] at h
    obtain⟨h1,h2,h3,h4⟩:=ixN_seq e
    exact⟨j,h1,h,h2,h3,h4⟩
noncomputable def PlainIx (b:Expr):Prop:=∀o i,subscripted b false o i=operate [o,i] (getItem o i)
noncomputable def IxR (X:Cx) (r:R2):Prop:=
  ∀ (value slice:Expr) (pins:List (Addr×Obj)) (s:Shared) (σ:St) (H:Hp) (x y:V) (v u:Value) (Q:VK),Inv X pins σ H s→RelV x v→RelV y u→r x y H Q→
    subscripted slice false v u=operate [v,u] (getItem v u)→wpAny (model X.prog X.w) X.A (subscriptTail value slice v u) (EP X pins σ Q) X.xe s
noncomputable def MtR (X:Cx) (id:String) (r:V→List V→Hp→VK→Prop):Prop:=
  ∀ (pins:List (Addr×Obj)) (s:Shared) (σ:St) (H:Hp) (x:V) (xs:List V) (v:Value) (us:List Value) (Q:VK),Inv X pins σ H s→RelV x v→Vals xs us→r x xs H Q→
    wpAny (model X.prog X.w) X.A (call (.builtin id) (v::us)) (EP X pins σ Q) X.xe s
section
variable {X:Cx} {a b:Expr} {ta tb:TE} {pos:Pos}
theorem IxR.or {r r':R2} (h:IxR X r) (h':IxR X r'):IxR X (fun x y H Q=>r x y H Q∨r' x y H Q):=by
  intro value slice pins s σ H x y v u Q I rx ry q hs
  rcases q with q |q
  · exact h value slice pins s σ H x y v u Q I rx ry q hs
  · exact h' value slice pins s σ H x y v u Q I rx ry q hs
theorem pe_ix {r:R2} (hr:IxR X r) (ha:PE X a ta) (hb:PE X b tb) (hs:PlainIx b):PE X (.Subscript a b pos) (tOp r ta tb):=by
  intro pins s σ H Q I h
  exact Subscript_ (binT ha hb I h fun v u s2 x y H2 I2 rx ry q=>hr a b pins s2 σ H2 x y v u Q I2 rx ry q (hs _ _))
noncomputable def rIxL (K:PySem.W.Frag):R2:=fun x y H Q=>∃p xs i v,x= .ref p∧y= .int i∧SqL K H p xs∧atI xs i=some v∧Q v H
noncomputable def rIxT (K:PySem.W.Frag):R2:=fun x y H Q=>∃p xs i v,x= .ref p∧y= .int i∧SqT K H p xs∧atI xs i=some v∧Q v H
noncomputable def rIxS:R2:=fun x y H Q=>∃z i c,x= .str z∧y= .int i∧z.length≤sizeLine∧atI z.cps.toList i=some c∧Q (.str ⟨#[c]⟩) H
theorem ix_list:IxR X (rIxL X.K):=by
  intro value slice pins s σ H x y v u Q I rx ry h hs
  obtain⟨p,xs,i,z,rfl,rfl,hq,he,q⟩:=h
  cases rx
  obtain⟨t,rfl⟩:=ry
  obtain⟨its,r,pl,hz⟩:=I.list hq
  obtain⟨j,h1,h2,h3,h4,h5⟩:=atI_get he
  obtain⟨w,ew,rw'⟩:=r.get h2
  have hl:=r.length
  have hn:=line63
  have fin:EP X pins σ Q w s:=⟨z,H,I,rw',q⟩
  by_cases h0:0≤i
  · have hj:i.toNat=j:=by
      rw[seqIndex_of h0 h5] at h1
      exact Option.some.inj h1
    exact item_listR pl.isList h0 (by omega) (by rw[hj];simpa using ew) fin hs
  · have hj:(i+(its.toArray.size:Int)).toNat=j:=by
      rw[seqIndex_neg (by omega) h4] at h1
      rw[List.size_toArray,←hl]
      exact Option.some.inj h1
    exact subscriptTail_builtinR (x:=w) pl.isList.typeIs slot_list_getitem.lookup
      (wpAny_getItem_list_neg (Q:=fun r s'=>r=w∧EP X pins σ Q r s') pl.isList (by omega) (by rw[List.size_toArray] <;> omega) (by omega) (by rw[hj];simpa using ew) ⟨rfl,fin⟩) hs
theorem ix_tup:IxR X (rIxT X.K):=by
  intro value slice pins s σ H x y v u Q I rx ry h hs
  obtain⟨p,xs,i,z,rfl,rfl,hq,he,q⟩:=h
  cases rx
  obtain⟨t,rfl⟩:=ry
  obtain⟨its,r,pl,hz⟩:=I.tuple hq
  obtain⟨j,h1,h2,h3,h4,h5⟩:=atI_get he
  obtain⟨w,ew,rw'⟩:=r.get h2
  have hl:=r.length
  have hn:=line63
  have fin:EP X pins σ Q w s:=⟨z,H,I,rw',q⟩
  exact subscriptTail_builtinR (x:=w) pl.typeIs slot_tuple_getitem.lookup
    (getItem_tuple (j:=j) (Q:=fun r s'=>r=w∧EP X pins σ Q r s') pl (by omega) (by omega) (by rw[List.size_toArray,←hl];exact h1) (by simpa using ew) ⟨rfl,fin⟩) hs
theorem ix_str:IxR X rIxS:=by
  intro value slice pins s σ H x y v u Q I rx ry h hs
  obtain⟨z,i,c,rfl,rfl,hz,he,q⟩:=h
  obtain⟨t,rfl⟩:=rx
  obtain⟨t',rfl⟩:=ry
  obtain⟨j,h1,h2,h3,h4,h5⟩:=atI_get he
  have hl:z.cps.toList.length=z.length:=by simp[Str.length]
  rw[hl] at h1 h4 h5
  have hn:=line63
  exact tail_any (typeIs_str s z t) slot_str_getitem.lookup (getItem_str (c:=c) (by
    have e1:decide (i < -(2 ^ 63:Int))=false:=decide_eq_false (by omega)
    have e2:decide (i≥2 ^ 63)=false:=decide_eq_false (by omega)
    rw[e1,e2,Bool.or_false]) (by rw[h1];simpa using h2) ⟨.str ⟨#[c]⟩,H,I.tok _,⟨_,rfl⟩,q⟩) hs
noncomputable def rIx (K:PySem.W.Frag):R2:=fun x y H Q=>rIxL K x y H Q∨rIxT K x y H Q∨rIxS x y H Q
theorem ix_seq:IxR X (rIx X.K):=ix_list.or (ix_tup.or ix_str)
theorem Inv.lst {pins:List (Addr×Obj)} {σ:St} {H:Hp} {s:Shared} {p:Addr} {xs:List V} (I:Inv X pins σ H s) (h:H p=some (.lst xs)):
    ∃(its:List Value) (n:Nat),Vals xs its∧s.heap.get? p=some {cls:= .type "list",data:= .seq its.toArray n}∧xs.length≤sizeLine:=by
  obtain⟨z,its,n,r,e⟩:=I.hok p _ h
  exact⟨its,n,r,e,z⟩
theorem slice_bounds (lo hi:Option Int) (n:Nat):(sliceBounds lo hi none n).1=((HT.sIx n 0 lo:Nat):Int)∧(sliceBounds lo hi none n).2.1=((HT.sIx n n hi:Nat):Int)∧(sliceBounds lo hi none n).2.2=1:=by
  refine⟨?_,?_,rfl⟩
  · cases lo with
    |none=>simp[sliceBounds,HT.sIx]
    | some i=>
      simp only[sliceBounds,HT.sIx,Option.getD_none,show (1:Int) > 0 by decide,if_true]
      by_cases h:i < 0
      · simp only[h,if_true];exact HT.alF n h
      · simp only[h,if_false]
        obtain⟨k,rfl⟩:=Int.eq_ofNat_of_zero_le (Int.not_lt.mp h)
        exact HT.alG k n
  · cases hi with
    |none=>simp[sliceBounds,HT.sIx]
    | some i=>
      simp only[sliceBounds,HT.sIx,Option.getD_none,show (1:Int) > 0 by decide,if_true]
      by_cases h:i < 0
      · simp only[h,if_true];exact HT.alF n h
      · simp only[h,if_false]
        obtain⟨k,rfl⟩:=Int.eq_ofNat_of_zero_le (Int.not_lt.mp h)
        exact HT.alG k n
theorem slicePick_cut (its:List Value) (lo hi:Option Int):slicePick its.toArray lo hi none=((its.drop (HT.sIx its.length 0 lo)).take (HT.sIx its.length its.length hi - HT.sIx its.length 0 lo)).toArray:=by
  obtain⟨h1,h2,h3⟩:=slice_bounds lo hi its.toArray.size
  unfold slicePick
  rw[h1,h2,h3]
  simp only[sliceRange_one,pick_run,List.size_toArray] <;> rfl
noncomputable def rSlL (K:PySem.W.Frag):V→Option Int→Option Int→Hp→VK→Prop:=fun x lo hi H Q=>∃a xs,x= .ref a∧SqL K H a xs∧∀p,H p=none→Q (.ref p) (upd H p (.lst (cutV xs lo hi)))
theorem sl_list:SlR X (rSlL X.K):=by
  intro pins s σ H x v vl vu lo hi sl Q I rx hs pl pu h
  obtain⟨a,xs,rfl,hx,q⟩:=h
  cases rx
  obtain⟨its,r,ht,hz⟩:=I.list hx
  have hlen:=r.length
  refine⟨"list",_,slot_list_getitem.lookup,ht.isList.typeIs,?_⟩
  refine wpAny_getItem_list_slice ht.isList hs pl pu .none (by simp) ?_ (by rw[List.size_toArray] <;> omega)
  rw[slicePick_cut,←hlen]
  refine⟨.ref s.heap.objs.size,_,I.laid (t':=s.toks) (o:= .lst (cutV xs lo hi)) (fun b ob q=>Heap.get?_push_of_some _ q) (Nat.le_refl _) ?_,rfl,q _ (I.hok.fresh (Nat.le_refl _))⟩
  exact⟨Nat.le_trans (cutV_length xs lo hi) hz,_,0,(r.drop (HT.sIx xs.length 0 lo)).take (HT.sIx xs.length xs.length hi - HT.sIx xs.length 0 lo),Heap.get?_push_size _ rfl⟩
noncomputable def flatV:V→Bool
  | .non=>true
  | .bl _=>true
  | .int _=>true
  | .str _=>true
  |_=>false
noncomputable def eqV:V→V→Bool
  | .non,.non=>true
  | .bl a,.bl b=>a ==b
  | .bl a,.int b=>(if a then 1 else 0) ==b
  | .int a,.bl b=>a ==(if b then 1 else 0)
  | .int a,.int b=>a ==b
  | .str a,.str b=>a ==b
  |_,_=>false
theorem eqAt_V {A:Around} {s:Shared} {y x:V} {u v:Value} (ry:RelV y u) (rx:RelV x v) (fy:flatV y=true) (fx:flatV x=true):SeqAt.EqAt A s u v (eqV y x):=by
  cases y with
  | non=>
    cases ry
    cases x with
    |non=>cases rx;exact SeqAt.EqAt.same _
    |bl b=>cases rx;exact SeqAt.EqAt.none_bool b
    |int b=>obtain⟨t,rfl⟩:=rx;exact SeqAt.EqAt.none_int b t
    |str b=>obtain⟨t,rfl⟩:=rx;exact SeqAt.EqAt.none_str b t
    |_=>exact absurd (show false=true from fx) Bool.false_ne_true
  | bl a=>
    cases ry
    cases x with
    |non=>cases rx;exact SeqAt.EqAt.bool_none a
    |bl b=>cases rx;exact SeqAt.EqAt.bool_bool a b
    |int b=>obtain⟨t,rfl⟩:=rx;exact SeqAt.EqAt.bool_int a b t
    |str b=>obtain⟨t,rfl⟩:=rx;exact SeqAt.EqAt.bool_str a b t
    |_=>exact absurd (show false=true from fx) Bool.false_ne_true
  | int a=>
    obtain⟨t',rfl⟩:=ry
    cases x with
    |non=>cases rx;exact SeqAt.EqAt.int_none a t'
    |bl b=>cases rx;exact SeqAt.EqAt.int_bool a t' b
    |int b=>obtain⟨t,rfl⟩:=rx;exact SeqAt.EqAt.int_int a t' b t
    |str b=>obtain⟨t,rfl⟩:=rx;exact SeqAt.EqAt.int_str a t' b t
    |_=>exact absurd (show false=true from fx) Bool.false_ne_true
  | str a=>
    obtain⟨t',rfl⟩:=ry
    cases x with
    |non=>cases rx;exact SeqAt.EqAt.str_none a t'
    |bl b=>cases rx;exact SeqAt.EqAt.str_bool a t' b
    |int b=>obtain⟨t,rfl⟩:=rx;exact SeqAt.EqAt.str_int a t' b t
    |str b=>obtain⟨t,rfl⟩:=rx;exact SeqAt.EqAt.str_str a t' b t
    |_=>exact absurd (show false=true from fx) Bool.false_ne_true
  |_=>exact absurd (show false=true from fy) Bool.false_ne_true
noncomputable def eqU (x:V) (u:Value):Bool:=match u with
  | .none=>eqV .non x
  | .bool b=>eqV (.bl b) x
  | .int i _=>eqV (.int i) x
  | .str z _=>eqV (.str z) x
  |_=>false
theorem eqU_of {x y:V} {u:Value} (r:RelV y u) (f:flatV y=true):eqU x u=eqV y x:=by
  cases y with
  |non=>cases r;rfl
  |bl b=>cases r;rfl
  |int i=>obtain⟨t,rfl⟩:=r;rfl
  |str z=>obtain⟨t,rfl⟩:=r;rfl
  |_=>exact absurd (show false=true from f) Bool.false_ne_true
theorem any_eqU {x:V}:∀{xs:List V} {us:List Value},Vals xs us→xs.all flatV=true→us.any (eqU x)=xs.any fun y=>eqV y x
  |_,_,.nil,_=>rfl
  | y::xs,u::us,.cons r t,f=>by
    rw[List.all_cons,Bool.and_eq_true] at f
    rw[List.any_cons,List.any_cons,eqU_of r f.1,any_eqU t f.2]
theorem mem_eqAt {A:Around} {s:Shared} {x:V} {v:Value} (rx:RelV x v) (fx:flatV x=true):∀{xs:List V} {us:List Value},Vals xs us→xs.all flatV=true→∀u∈us,SeqAt.EqAt A s u v (eqU x u)
  |_,_,.nil,_=>fun u hu=>by cases hu
  | y::xs,u::us,.cons r t,f=>fun u' hu=>by
    rw[List.all_cons,Bool.and_eq_true] at f
    rcases List.mem_cons.mp hu with rfl |hu
    · rw[eqU_of r f.1];exact eqAt_V r rx f.1 fx
    · exact mem_eqAt rx fx t f.2 u' hu
noncomputable def inV (x:V) (xs:List V):Bool:=xs.any fun y=>eqV y x
noncomputable def rIn (K:PySem.W.Frag) (neg:Bool):R2:=fun x y H Q=>∃p xs,y= .ref p∧(SqL K H p xs∨SqT K H p xs)∧flatV x=true∧xs.all flatV=true∧Q (.bl (if neg then !inV x xs else inV x xs)) H
theorem op_in_seq:OpR X (compareOp .In) (rIn X.K false):=by
  intro pins s σ H x y v u Q I rx ry h
  obtain⟨p,xs,rfl,hq,fx,fs,q⟩:=h
  cases ry
  rcases hq with hq |hq
  · obtain⟨its,r,pl,hz⟩:=I.list hq
    refine SeqAt.in_listAt (eqU x) pl.isList (fun w hw=>mem_eqAt rx fx r fs w (by simpa using hw)) ⟨.bl _,H,I,rfl,?_⟩
    rw[show its.toArray.any (eqU x)=its.any (eqU x) by simp,any_eqU r fs]
    exact q
  · obtain⟨its,r,pl,hz⟩:=I.tuple hq
    refine SeqAt.in_tupleAt (eqU x) pl (fun w hw=>mem_eqAt rx fx r fs w (by simpa using hw)) ⟨.bl _,H,I,rfl,?_⟩
    rw[show its.toArray.any (eqU x)=its.any (eqU x) by simp,any_eqU r fs]
    exact q
theorem op_notIn_seq:OpR X (compareOp .NotIn) (rIn X.K true):=by
  intro pins s σ H x y v u Q I rx ry h
  obtain⟨p,xs,rfl,hq,fx,fs,q⟩:=h
  cases ry
  rcases hq with hq |hq
  · obtain⟨its,r,pl,hz⟩:=I.list hq
    refine SeqAt.notIn_listAt (eqU x) pl.isList (fun w hw=>mem_eqAt rx fx r fs w (by simpa using hw)) ⟨.bl _,H,I,rfl,?_⟩
    rw[show its.toArray.any (eqU x)=its.any (eqU x) by simp,any_eqU r fs]
    exact q
  · obtain⟨its,r,pl,hz⟩:=I.tuple hq
    refine SeqAt.notIn_tupleAt (eqU x) pl (fun w hw=>mem_eqAt rx fx r fs w (by simpa using hw)) ⟨.bl _,H,I,rfl,?_⟩
    rw[show its.toArray.any (eqU x)=its.any (eqU x) by simp,any_eqU r fs]
    exact q
theorem call_len_seq:CallR X (.builtin "len") (fun xs H Q=>∃p ys,xs=[.ref p]∧(SqL X.K H p ys∨SqT X.K H p ys)∧Q (.int ys.length) H):=by
  intro pins s σ H xs us Q I r h
  obtain⟨p,ys,rfl,hq,q⟩:=h
  obtain⟨u,rfl,rx⟩:=vals1 r
  cases rx
  have hn:=line63
  rcases hq with hq |hq
  · obtain⟨its,r',pl,hz⟩:=I.list hq
    have hlen:=r'.length
    exact Calls.call_len_list pl.isList (by simp only[List.size_toArray] <;> omega) ⟨.int ys.length,H,I.tok _,⟨s.toks+1,by rw[List.size_toArray,hlen]⟩,q⟩
  · obtain⟨its,r',pl,hz⟩:=I.tuple hq
    have hlen:=r'.length
    exact len_tuple pl (by simp only[List.size_toArray] <;> omega) ⟨.int ys.length,H,I.tok _,⟨s.toks+1,by rw[List.size_toArray,hlen]⟩,q⟩
theorem call_tuple_of:CallR X (.type "tuple") (fun xs H Q=>∃p ys,xs=[.ref p]∧((SqL X.K H p ys∧∀l,H l=none→Q (.ref l) (upd H l (.tup ys)))∨(SqT X.K H p ys∧Q (.ref p) H))):=by
  intro pins s σ H xs us Q I r h
  obtain⟨p,ys,rfl,h⟩:=h
  obtain⟨u,rfl,rx⟩:=vals1 r
  cases rx
  rcases h with⟨hq,q⟩ |⟨hq,q⟩
  · obtain⟨its,r',pl,hz⟩:=I.list hq
    have hlen:=r'.length
    refine call_tuple_list pl.isList (fun h' kp=>?_) (by simp only[List.size_toArray] <;> omega)
    have I1:Inv X pins σ H {s with heap:=h'}:=I.kept (t':=s.toks) kp
    have I2:Inv X pins σ (upd H h'.objs.size (.tup ys)) {s with heap:=h'.push {cls:= .type "tuple",data:= .seq its.toArray}}:=
      I1.laid (t':=s.toks) (fun b o e=>Heap.get?_push_of_some _ e) (Nat.le_refl _) (show ObjOk X.prog X.w _ _ _ (.tup ys) from ⟨hz,its,r',IsTup.new _ _⟩)
    exact⟨.ref h'.objs.size,_,I2,rfl,q _ (I1.hok.fresh (Nat.le_refl _))⟩
  · obtain⟨its,r',pl,hz⟩:=I.tuple hq
    exact call_tuple_same pl ⟨.ref p,H,I,rfl,q⟩
noncomputable def tyV (K:PySem.W.Frag) (T:String) (x:V) (H:Hp):Prop:=match x with
  | .str _=>T= "str"
  | .int _=>T= "int"
  | .ref p=>(T= "list"∧∃xs,SqL K H p xs)∨(T= "tuple"∧∃o,K.lookup p=some o∧o.cls= .type "tuple"∧o.dict=none)∨
      (T= "dict"∧((∃kvs,H p=some (.dK kvs))∨∃kvs,H p=some (.dT kvs)))∨(T= "set"∧∃S n,H p=some (.set S n))
  |_=>False
theorem tyV_is {pins:List (Addr×Obj)} {σ:St} {H:Hp} {s:Shared} {T:String} {x:V} {v:Value} (I:Inv X pins σ H s) (r:RelV x v) (ty:tyV X.K T x H):
    s.TypeIs v T∧∀a,v= .ref a→∃ob,s.heap.get? a=some ob∧ob.dict=none:=by
  cases x with
  | str z=>
    obtain⟨t,rfl⟩:=r
    cases (show T= "str" from ty)
    exact⟨typeIs_str s z t,fun _ e=>nomatch e⟩
  | int i=>
    obtain⟨t,rfl⟩:=r
    cases (show T= "int" from ty)
    exact⟨typeIs_int s i t,fun _ e=>nomatch e⟩
  | ref p =>
    cases r
    rcases ty with⟨rfl,xs,hq⟩ |⟨rfl,o,hk,hc,hd⟩ |⟨rfl,hk⟩ |⟨rfl,S,n,hk⟩
    · obtain⟨its,_,pl,_⟩:=I.list hq
      refine⟨pl.isList.typeIs,fun a e=>?_⟩
      cases e
      obtain⟨o,n,e,c,hd,_⟩:=pl
      exact⟨o,e,hd⟩
    · refine⟨⟨o,I.kIn p o hk,hc⟩,fun a e=>?_⟩
      cases e
      exact⟨o,I.kIn _ o hk,hd⟩
    · have z:∃o,s.heap.get? p=some o∧o.ExactDict:=by
        rcases hk with⟨kvs,hk⟩ |⟨kvs,hk⟩
        · obtain⟨_,_,_,_,o,_,_,e,ex,_⟩:=I.hok p _ hk
          exact⟨o,e,ex⟩
        · obtain⟨_,_,_,_,o,_,_,e,ex,_⟩:=I.hok p _ hk
          exact⟨o,e,ex⟩
      obtain⟨o,e,ex⟩:=z
      refine⟨⟨o,e,ex.1⟩,fun a e2=>?_⟩
      cases e2
      exact⟨o,e,ex.2.1⟩
    · obtain⟨o,_,_,_,e,ex,_⟩:=I.hok p _ hk
      refine⟨⟨o,e,ex.1⟩,fun a e2=>?_⟩
      cases e2
      exact⟨o,e,ex.2.1⟩
  |_=>exact False.elim ty
noncomputable def tBM (K:PySem.W.Frag) (T:String) (r:V→List V→Hp→VK→Prop) (to:TE) (t:TA):TE:=fun σ H Q=>to σ H fun x H1=>tyV K T x H1∧t σ H1 fun xs H2=>r x xs H2 Q
variable {o e:Expr} {es:List Expr} {to:TE} {t:TA} {name:Str} {apos cpos:Pos} {T id:String} {r:V→List V→Hp→VK→Prop}
theorem pe_bm (pa:PlainAttrs T) (slot:Slot T name id) (hty:typeOf (.builtin id)=pure (.type "method_descriptor")) (hm:MtR X id r) (ho:PE X o to) (ha:PA X (e::es) t)
    (hbase:attributeBase o name X.env (eval o X.env)=eval o X.env:=by rfl)
    (hfew:((backTo cpos (starEach (e::es) X.env)).all (fun x=> !x.1) && (backToKw cpos (keywordEach [] X.env)).all (fun x=>x.1.isSome)
      && decide ((e::es).length+([]:List Keyword).length+(if ([]:List Keyword).isEmpty then 0 else 1) < 30))=true:=by rfl)
    (hline:(apos.endLine ==cpos.line)=true:=by rfl) (hs:starEach (e::es) X.env=(false,eval e X.env)::starEach es X.env:=by rfl) (hplain:(backTo cpos (starEach es X.env)).any (·.1)=false:=by rfl):
    PE X (.Call (.Attribute o name apos) (e::es) [] cpos) (tBM X.K T r to t):=by
  intro pins s σ H Q I h
  refine wpAny_Call_method_late hbase hfew hline rfl (thn (ho pins s σ H _ I h) fun v s1 bL=>?_)
  obtain⟨x,H1,I1,r1,ty,q1⟩:=bL
  obtain⟨h1,h2⟩:=tyV_is I1 r1 ty
  refine⟨T,id,pa,slot,hty,h1,h2,?_⟩
  have hA:=ha cpos pins s1 σ H1 _ I1 q1
  rw[hs] at hA ⊢
  refine Calls.callWith_builtin (by show (false || (backTo cpos (starEach es X.env)).any (·.1))=false;rw[hplain] <;> rfl) (Calls.evalArgs_plain ?_)
  refine thn hA fun us s2 bL=>?_
  obtain⟨vs,H2,I2,r2,q2⟩:=bL
  exact hm pins s2 σ H2 x vs v us Q I2 r1 r2 q2
end
end L2
namespace L2
open PySem PySem.Spec PyProof.Rows
noncomputable def MtM (X:Cx) (id:String) (r:V→List V→Hp→VK→Prop):Prop:=
  ∀ (pins:List (Addr×Obj)) (s:Shared) (σ:St) (H:Hp) (x:V) (xs:List V) (v:Value) (us:List Value) (Q:VK),Inv X pins σ H s→RelV x v→Vals xs us→r x xs H Q→
    wpAny (model X.prog X.w) X.A (call (.builtin id) (v::us)) (EP X pins σ Q) X.xe s
theorem Vals.one:∀{x:V} {us:List Value},Vals [x] us→∃u,us=[u]∧RelV x u
  | _,_,h=>by
    cases h with
    |cons r t=>cases t;exact⟨_,rfl,r⟩
theorem Vals.rep {xs:List V} {us:List Value} (h:Vals xs us):∀k:Nat,Vals (List.replicate k xs).flatten (List.replicate k us).flatten
  |0=> .nil
  | k+1=>by
    rw[List.replicate_succ,List.replicate_succ,List.flatten_cons,List.flatten_cons]
    exact Vals.append h (Vals.rep h k)
theorem foldl_rep (its:List Value):∀(k:Nat) (acc:List Value),
    List.foldl (fun x1 x2=>x1++x2) acc.toArray (List.replicate k its.toArray)=(acc++(List.replicate k its).flatten).toArray
  |0,acc=>by simp
  | k +1,acc=>by
    have e:acc.toArray++its.toArray=(acc++its).toArray:=by simp
    have e2:(acc++its)++(List.replicate k its).flatten=acc++(List.replicate (k+1) its).flatten:=by
      rw[List.replicate_succ,List.flatten_cons,List.append_assoc]
    rw[←e2,←foldl_rep its k (acc++its),←e,List.replicate_succ,List.foldl_cons]
section
variable {X:Cx} {pins:List (Addr×Obj)} {σ:St} {H:Hp} {s:Shared} {l b:Addr} {xs ys zs:List V}
theorem Inv.lset {its its':List Value} {n:Nat} {f:Array Value→Array Value} {t':Nat} (I:Inv X pins σ H s) (hH:H l=some (.lst xs))
    (e:s.heap.get? l=some {cls:= .type "list",data:= .seq its.toArray n}) (hf:f its.toArray=its'.toArray) (hv:Vals ys its') (hz:ys.length≤sizeLine):
    Inv X pins σ (upd H l (.lst ys)) {s with heap:=s.heap.update l (Obj.mapSeq f),toks:=t'}:=by
  have q:=PySem.IsL.update e f
  rw[hf] at q
  refine I.write (x:=l) (e:=l) (by rw[hH];exact trivial) (.inl rfl) (fun b' u hb hu=>(Heap.get?_update_other s.heap (Obj.mapSeq f) (Ne.symm hb)).trans hu) ⟨_,q⟩ ?_
  exact⟨hz,its',_,hv,q⟩
theorem Inv.lnew {its:List Value} {t':Nat} (I:Inv X pins σ H s) (hv:Vals ys its) (hz:ys.length≤sizeLine):
    Inv X pins σ (upd H s.heap.objs.size (.lst ys)) {s with heap:=s.heap.push {cls:= .type "list",data:= .seq its.toArray},toks:=t'}:=
  I.laid (fun _ _ q=>Heap.get?_push_of_some _ q) (Nat.le_refl _) ⟨hz,its,0,hv,Heap.get?_push_size _ rfl⟩
theorem Inv.fresh (I:Inv X pins σ H s):H s.heap.objs.size=none:=I.hok.fresh (Nat.le_refl _)
theorem Inv.lstM (I:Inv X pins σ H s) (hH:H l=some (.lst xs)):xs.length≤sizeLine∧∃(its:List Value) (n:Nat),Vals xs its∧xs.length=its.length∧s.heap.get? l=some {cls:= .type "list",data:= .seq its.toArray n}:=by
  obtain⟨z,its,n,r,e⟩:=I.hok l _ hH
  exact⟨z,its,n,r,r.length,e⟩
end
section
variable {X:Cx}
noncomputable def rAppend:V→List V→Hp→VK→Prop:=fun x vs H Q=>∃l xs y,x= .ref l∧vs=[y]∧H l=some (.lst xs)∧xs.length < sizeLine∧Q .non (upd H l (.lst (xs++[y])))
theorem mt_append:MtM X "list.append" rAppend:=by
  intro pins s σ H x vs v us Q I rx rv h
  obtain⟨l,xs,y,rfl,rfl,hH,hz,q⟩:=h
  cases rx
  obtain⟨u,rfl,ru⟩:=rv.one
  obtain⟨z,its,n,r,hl,e⟩:=I.lstM hH
  refine call_meets F.slot_list_append ⟨_,e,rfl⟩ F.entry_list_append (F.args_list_append_2 _ _) (PySem.list_append l its.toArray n u (by rw[List.size_toArray];omega)) ⟨e,?_⟩
  refine⟨.non,_,I.lset (its':=its++[u]) hH e (by simp) (r.append (.cons ru .nil)) ?_,rfl,q⟩
  rw[List.length_append,List.length_singleton]
  omega
theorem len_rep {α:Type} (xs:List α) (k:Nat):(List.replicate k xs).flatten.length=k*xs.length:=by
  induction k with
  |zero=>simp
  |succ k ih=>rw[List.replicate_succ,List.flatten_cons,List.length_append,ih,Nat.succ_mul,Nat.add_comm]
end
section
variable {prog:Program} {w:World} {A:Around} {E:Value→Shared→Prop} {s:Shared}
end
section
variable {X:Cx}
end
end L2
namespace L2
open PySem PySem.Spec PyProof.Rows
section
variable {κ:Type} [DecidableEq κ]
end
section
variable {P:Program} {w:World} {H:Hp} {h:Heap} {a:Addr}
end
section
variable {X:Cx} {pins:List (Addr×Obj)} {σ:St} {H:Hp} {s:Shared} {a:Addr} {y v:V} {u r:Value} {o:Option V} {A:Around} {E:Value→Shared→Prop}
end
section
variable {X:Cx} {pins:List (Addr×Obj)} {σ:St} {H:Hp} {s:Shared} {a:Addr} {kvs:List (Key×V)} {k:Key} {u:Value} {A:Around} {E:Value→Shared→Prop}
end
section
variable {X:Cx} {o i e value:Expr} {pos pos' tpos:Pos} {td ty tv:TE}
end
section
variable {X:Cx} {pos:Pos}
end
section
variable {X:Cx} {pins:List (Addr×Obj)} {σ:St} {H:Hp} {s:Shared} {a:Addr} {y d:V} {u r:Value} {o:Option V} {A:Around} {E:Value→Shared→Prop}
end
section
variable {X:Cx} {o e f:Expr} {apos cpos:Pos} {td ty tx:TE}
end
section
variable {X:Cx} {pins:List (Addr×Obj)} {σ:St} {H:Hp} {s:Shared} {a:Addr} {kvs:List (Key×V)} {A:Around} {E:Value→Shared→Prop}
end
section
variable {X:Cx} {pins:List (Addr×Obj)} {σ:St} {H:Hp} {s:Shared} {a:Addr} {y:V} {u:Value} {A:Around} {E:Value→Shared→Prop}
end
end L2
namespace Att
open PySem PySem.W PySem.Calls PyProof.Rows
theorem ints_of_wellAll {P:Params} {h:Heap}:∀(ns:List Int) (vs:List Value),WellAll P h vs (ns.map WData.int)→IntsAre vs ns:=by
  intro ns
  induction ns with
  | nil=>
    intro vs w
    rw[List.map_nil] at w
    cases w
    exact .nil
  | cons n ns ih=>
    intro vs w
    rw[List.map_cons] at w
    cases w with
    | cons a b=>
      cases a
      exact .cons _ _ (ih _ b)
theorem script_of {l:OpenLaw} {n:Nat} (hn:l.most=some n) {P:Params} {h:Heap} {args:List WData} {vals:List Value}
    (hpre:l.row.toRowW.claim.pre args=true) (hwl:WellAll P h vals args):
    ∃a vs ns,vals=[Value.ref a]∧args=[WData.list (ns.map WData.int)]∧h.get? a=some {cls:= .type "list",data:= .seq vs.toArray}∧IntsAre vs ns∧ns.length≤n:=by
  have hsh:WShape.hasAll [] args [.list .int]=true:=(pre_splitW hpre).1
  have hc:l.pre.holds [] {args:=args}=true:=(pre_splitW hpre).2
  obtain⟨d,r,rfl,h1,h2⟩:=hasAllW_cons hsh
  obtain rfl:=hasAllW_nil h2
  obtain⟨xs,rfl,h3⟩:=hasW_list h1
  obtain⟨ns,rfl⟩:=items_int h3
  have hlen:ns.length≤n:=by
    unfold OpenLaw.pre at hc
    have h4:(WTm.not (.lt (.lit (.int (n:Int))) (.len (.arg 0)))).holds [] {args:=[.list (ns.map .int)]}=true:=by
      have h4:=(holds_andW hc).1
      rw[hn] at h4
      exact h4
    have h5:=condW_of h4 (w_not (w_lt w_lit (w_len_list (w_arg rfl))))
    rw[List.length_map] at h5
    refine Nat.le_of_not_lt fun q=>?_
    have q':(n:Int) < ((ns.length:Nat):Int):=by omega
    first
      |(rw[decide_eq_true q'] at h5;exact absurd h5 (by decide))
      |(simp at h5;omega)
  cases hwl with
  | cons w1 w2=>
    cases w2
    cases w1 with
    |list ho hall=>exact⟨_,_,ns,rfl,rfl,ho,ints_of_wellAll ns _ hall,hlen⟩
theorem post_true (l:OpenLaw) (args:List WData):l.row.toRowW.claim.post args (.bool true) args=true:=
  postW_of (r:=l.row.toRowW) (X:=(true ==true))
    (show WShape.has [] (.bool true) .bool=true by first |rfl |decide |simp [WShape.has,WShape.arms,WShape.armsAll])
    (show (WTm.eq .res (.lit (.bool true))).value [] {args:=args,res:=some (.bool true),after:=args}=some (.bool (true ==true)) from w_eq_bool (w_res rfl) w_lit) rfl
theorem attach_call {l:OpenLaw} {n:Nat} {q:Program} {loose:List Str} {XP:(Str→Option Value)→Heap→Prop} {YP:World→Heap→Prop} {d:DefRec}
    (hn:l.most=some n) (hdf:d.params.defaults=[])
    (call:∀(w:World) (s₀ s₁:Shared) (mg mb:Str→Option Value) (fa:Addr) (o:Obj) (pm cd doc:Value) (a:Addr) (vs:List Value) (ns:List Int),
      Ground q loose [] XP w s₀ mg mb s₁.heap→YP w s₁.heap→
      s₁.heap.get? fa=some o→o.data= .func (docDef d.name d.params d.body d.scope pm cd doc)→s₁.heap.CodeRec cd d.name→mg d.name=some (.ref fa)→
      s₁.heap.get? a=some {cls:= .type "list",data:= .seq vs.toArray}→IntsAre vs ns→ns.length≤n→s₁.gens= #[]→
      codeAny (model l.prog w) callerA (.call (.ref fa) ⟨[.ref a],[]⟩) (fun r s'=>r= .ok (.ret (.bool true))∧OldK s₁.heap s'.heap∧s'.os=s₁.os∧AllBare s'.gens) s₁):
    WalkO q loose XP YP l.row.toRowW d [] (fun f vs=>PySem.call f vs):=by
  intro w s₀ s₁ mg mb G Y fa o pm cd doc dV kV ho hd hcd hD hmg hg args vals as hpre hlay hrd hwl hlo
  obtain rfl:dV= .none:=Dflts.none hD hdf
  obtain rfl:kV= .none:=Dflts.noKw hD
  obtain⟨a,vs,ns,rfl,rfl,hobj,hints,hlen⟩:=script_of hn hpre hwl
  refine enter_call (codeAny_mono (call w s₀ s₁ mg mb fa o pm cd doc a vs ns G Y ho (fd_plain hd) hcd hmg hobj hints hlen hg) fun r s' hq=>?_)
  obtain⟨rfl,h2,h3,h4⟩:=hq
  exact⟨.inl ⟨.bool true,.bool true,[],rfl,fun _=>rfl,.bool true,post_true l _,fun _=>⟨List.Pairwise.nil,fun _ hm=>(nomatch hm)⟩⟩,h2,h3,h4⟩
section
variable {prog:Program} {w:World} {A:Around} {E:Value→Shared→Prop} {s:Shared} {K:Frag}
end
end Att
namespace L2
open PySem PySem.Spec PyProof.Rows
theorem vals_ints:∀{vs:List Value} {ns:List Int},IntsAre vs ns→Vals (ns.map V.int) vs
  :=by
  intro vs ns h
  induction h with
  |nil=>exact .nil
  |cons n t h ih=>exact .cons ⟨t,rfl⟩ ih
noncomputable def Only (H:Hp):Prop:=∀b,H b=none∨∃o xs,H b=some (.frz o (.lst xs))
theorem law_call {P:Program} {w:World} {K:PySem.W.Frag} {mg mb:Str→Option Value} {CX:CXT} {k:Nat} {fa a:Addr} {fd:FuncData} {x:Str} {sp:Sp} {s₁:Shared} {vs:List Value} {ns:List Int}
    (KX:K.In s₁.heap) (hns:s₁.heap.Ns mainGlobals mg) (hb:s₁.heap.Ns builtinsNs mb) (hbb:∀x:Str,x≠"__name__"→mb x=bootBuiltins x) (hlim:s₁.heap.NoLimit) (hg:s₁.gens= #[])
    (ha:s₁.heap.get? a=some {cls:= .type "list",data:= .seq vs.toArray}) (hi:IntsAre vs ns) (hl:ns.length≤sizeLine) (hr:Room k callerA)
    (F:∀base:Heap,K.In base→base.Ns mainGlobals mg→FnOk P w K mg base CX k fa fd [x] sp) (hbind:∀(s:Shared) (u:Value),BindsTo s fd ⟨[u],[]⟩ [(x,u)])
    (hsp:∀H:Hp,Only H→SqL K H a (ns.map V.int)→sp [.ref a] H (fun v _=>v= .bl true) fun _ _ _=>False)
    (hCX:∀H e s',CX [] H s₁ (fun _ _ _=>False) e s'→False):
    codeAny (model P w) callerA (.call (.ref fa) ⟨[.ref a],[]⟩) (fun r s'=>r= .ok (.ret (.bool true))∧OldK s₁.heap s'.heap∧s'.os=s₁.os∧AllBare s'.gens) s₁:=by
  have rv:=vals_ints hi
  have lenV:=hi.length
  have core :∀H:Hp,Only H→SqL K H a (ns.map V.int)→HOk P w H s₁.heap→(∀b,H b≠none→b=a)→(H a≠none→K.lookup a=none)→
      codeAny (model P w) callerA (.call (.ref fa) ⟨[.ref a],[]⟩) (fun r s'=>r= .ok (.ret (.bool true))∧OldK s₁.heap s'.heap∧s'.os=s₁.os∧AllBare s'.gens) s₁:=by
    intro H hO hS hok hA hK
    have base_of:∀{b:Addr} {o:Obj},s₁.heap.get? b=some o→H b=none→(hidT s₁.heap H).get? b=some o:=fun e n=>hidT_get e n
    have noA:∀{b:Addr} {o:Obj} {es:Array DictEntry} {ep:Nat},s₁.heap.get? b=some o→o.data= .dict es ep→H b=none:=fun {b o es ep} e d=>by
      cases q:H b with
      |none=>rfl
      | some u=>
        have e':b=a:=hA b (by rw[q];simp)
        subst e'
        rw[ha] at e;cases e
        have d':Data.seq vs.toArray _=Data.dict es ep:=d
        cases d'
    have nsK:∀{b:Addr} {m:Str→Option Value},s₁.heap.Ns b m→(hidT s₁.heap H).Ns b m:=fun {b m} ⟨o,es,ep,e,d,r⟩=>⟨o,es,ep,base_of e (noA e d),d,r⟩
    have hKb:K.In (hidT s₁.heap H):=fun b o e=>base_of (KX b o e) (by
      cases q:H b with
      |none=>rfl
      | some u=>
        have e':b=a:=hA b (by rw[q];simp)
        subst e'
        rw[hK (by rw[q];simp)] at e;cases e)
    have hM:Mod K mg (hidT s₁.heap H):=⟨hKb,nsK hns,⟨mb,nsK hb,hbb⟩,let ⟨mc,h1,h2⟩:=hlim;⟨mc,nsK h1,h2⟩⟩
    have e0:Env0 P w K mg (hidT s₁.heap H) callerA [] s₁ H:=⟨rfl,hM,fun b o e=>of_hidT e,Nat.le_of_eq (hidT_size _ _),trivial,fun b hb=>absurd (show b∈([]:List Addr) from hb) (by simp),hok,.of_eq hg⟩
    refine codeAny_mono ((F _ hKb (nsK hns)).run callerA [] s₁ H ⟨[.ref a],[]⟩ [.ref a] [.ref a] _ _ hr e0 (hbind s₁ (.ref a)) (.cons rfl .nil) (hsp H hO hS)) fun r s' h=>?_
    cases r with
    |error e=>exact (hCX H e s' h).elim
    | ok fl =>
      cases fl with
      |next=>exact False.elim h
      |brk=>exact False.elim h
      |cont=>exact False.elim h
      | ret u=>
        obtain⟨v,H',os,bare,un,hok',r',q⟩:=h
        have q':v= .bl true:=q
        subst q'
        obtain rfl:u=Value.bool true:=r'
        refine⟨rfl,OldK.of_keep fun b o e=>?_,os,bare⟩
        cases q:H b with
        |none=>exact un.keep b o e q (by intro z;exact absurd (show b∈([]:List Addr) from z) (by simp)) (by simp)
        | some u=>
          rcases hO b with z |⟨ob,xs,z⟩
          · rw[q] at z;cases z
          · have z2:=un.frzs b ob _ z
            obtain⟨e1,_⟩:=hok b _ z
            obtain⟨e2,_⟩:=hok' b _ z2
            rw[e] at e1;cases e1
            exact e2
  cases hk:K.lookup a with
  | some o=>
    have e:=KX a o hk
    rw[ha] at e
    cases e
    refine core (fun _=>none) (fun _=> .inl rfl) (.inr ⟨_,vs.toArray,_,hk,rfl,rfl,rfl,by rw[List.size_toArray,lenV];exact hl,by simpa using rv⟩) (fun b u z=>by have z':(none:Option HO)=some u:=z;cases z') (fun b z=>absurd rfl z) fun z=>absurd rfl z
  | none=>
    refine core (fun b=>if b=a then some (.frz {cls:= .type "list",data:= .seq vs.toArray} (.lst (ns.map V.int))) else none) (fun b=>?_) (.inl (.inr ⟨{cls:= .type "list",data:= .seq vs.toArray},if_pos rfl⟩)) (fun b u z=>?_) (fun b z=>?_) fun _=>hk
    · by_cases hb:b=a
      · exact .inr ⟨_,_,if_pos hb⟩
      · exact .inl (if_neg hb)
    · by_cases hb:b=a
      · have z':=(if_pos hb).symm.trans z
        cases z'
        subst hb
        exact⟨ha,by rw[List.length_map];exact hl,vs,_,rv,ha⟩
      · have z':=(if_neg hb).symm.trans z
        cases z'
    · by_cases hb:b=a
      · exact hb
      · exact absurd (if_neg hb) z
end L2
namespace L2
open PySem PySem.Spec PyProof.Rows
theorem walk_of {l:PySem.W.OpenLaw} {n k:Nat} {q:Program} {loose:List Str} {XP:(Str→Option Value)→Heap→Prop} {YP:World→Heap→Prop} {d:DefRec} {K:Params→PySem.W.Frag} {CX:World→CXT} {sp:World→Sp} {x:Str}
    (hn:l.most=some n) (hn2:n≤sizeLine) (hdf:d.params.defaults=[]) (hr:Room k callerA)
    (hY:∀(w:World) (h:Heap),YP w h→(K w.params).In h)
    (F:∀(w:World) (mg:Str→Option Value) (fa:Addr) (h:Heap),(K w.params).In h→h.Ns mainGlobals mg→mg d.name=some (.ref fa)→
      ∃ fd:FuncData,(∀(s:Shared) (u:Value),BindsTo s fd ⟨[u],[]⟩ [(x,u)])∧
        ∀base:Heap,(K w.params).In base→base.Ns mainGlobals mg→FnOk l.prog w (K w.params) mg base (CX w) k fa fd [x] (sp w))
    (hsp:∀(w:World) (H:Hp) (a:Addr) (ns:List Int),ns.length≤n→Only H→SqL (K w.params) H a (ns.map V.int)→sp w [.ref a] H (fun v _=>v= .bl true) fun _ _ _=>False)
    (hCX:∀(w:World) (H:Hp) (s:Shared) (e:Value) (s':Shared),CX w [] H s (fun _ _ _=>False) e s'→False):
    PySem.W.WalkO q loose XP YP l.row.toRowW d [] (fun f vs=>PySem.call f vs):=by
  refine Att.attach_call hn hdf fun w s₀ s₁ mg mb fa o pm cd doc a vs ns G Y ho hd hcd hmg hobj hints hlen hg=>?_
  have KX:=hY w _ Y
  obtain⟨fd,hb,hF⟩:=F w mg fa _ KX G.T.g hmg
  exact law_call KX G.T.g G.T.b G.T.builtins G.T.nolimit hg hobj hints (Nat.le_trans hlen hn2) hr hF hb (fun H hO hS=>hsp w H a ns hlen hO hS) fun H e s'=>hCX w H s₁ e s'
end L2
namespace L2
open PySem PySem.Spec PyProof.Rows
noncomputable def defArgs (s:Stmt):Arguments:=match s with
  | .FunctionDef _ a _ _ _ _ _ _ _ _=>a
  |_=>{posonlyargs:=[],args:=[],vararg:=none,kwonlyargs:=[],kw_defaults:=[],kwarg:=none,defaults:=[]}
noncomputable def defBody (s:Stmt):List Stmt:=match s with
  | .FunctionDef _ _ b _ _ _ _ _ _ _=>b
  |_=>[]
noncomputable def defScope (s:Stmt):Scope:=match s with
  | .FunctionDef _ _ _ _ _ _ sc _ _ _=>sc
  |_=>{kind:= .function,names:=[],isGenerator:=false,isCoroutine:=false}
noncomputable abbrev CX0:CXT:=fun _ _ _ _ _ _=>False
noncomputable abbrev E0:XK:=fun _ _ _=>False
theorem pass0 {X:Cx}:Passes CX0 X E0:=fun _ _ _ _ _ _ _ h=>h.elim
inductive aj6 (K:PySem.W.Frag) (x qual:Str) (st:Stmt) (f:Addr) (fd:FuncData):Prop
  |mk (oc:Value) (od:Option Addr) (kV doc pm:Value) (an:Option Addr) (cdv ct:Value) (osl:Array (Option Value)) (e:fd=PySem.W.fnOf x qual (defArgs st) (defBody st) (defScope st) .none kV doc pm an cdv ct) (lk:K.lookup f=some ⟨oc,od,.func fd,osl⟩) (hcd:PySem.W.codeIn K cdv qual=true):aj6 K x qual st f fd
structure Fun (K:PySem.W.Frag) (x qual:Str) (st:Stmt) (f:Addr) (fd:FuncData):Prop where
  ex:aj6 K x qual st f fd
  kp:PySem.W.keepIn K (.ref f)=true
section
variable {P:Program} {w:World} {K:PySem.W.Frag} {mg:Str→Option Value} {base:Heap}
theorem Fun.ok {x qual:Str} {st:Stmt} {f:Addr} {fd:FuncData} {N ps:List Str} {k:Nat} {sp:Sp} (F:Fun K x qual st f fd) (S:FnScope N ps (defScope st)) (len:∀vs H Q E,sp vs H Q E→vs.length=ps.length)
    (hbody:∀(cdv:Value) (A:Around) (outer:List Env) (s:Shared) (H:Hp) (vs:List V) (Q:VK) (E:XK),Room k (A.deeper (envOfC qual (defScope st) s.heap.objs.size f cdv))→sp vs H Q E→
      ∃t,PSs (cxOf CX0 P w K mg base N qual (defScope st) f cdv A outer s H E).nox (defBody st) t∧t {nx:=fun _ H'=>Q .non H',rt:=Q} (start N vs) H):FnOk P w K mg base CX0 (k+1) f fd ps sp:=by
  obtain⟨oc,od,kV,doc,pm,an,cdv,ct,osl,rfl,lk,hcd⟩:=F.ex
  refine fn_of lk hcd S len fun A outer s H vs Q E hr hsp=>?_
  obtain⟨t,h,q⟩:=hbody cdv A outer s H vs Q E hr hsp
  exact⟨t,h.nox,q⟩
theorem Fun.binds {x qual:Str} {st:Stmt} {f:Addr} {fd:FuncData} {ps:List Str} (F:Fun K x qual st f fd)
    (h:∀(kV doc pm:Value) (an:Option Addr) (cdv ct:Value) (us:List Value),us.length=ps.length→bindArgs (PySem.W.fnOf x qual (defArgs st) (defBody st) (defScope st) .none kV doc pm an cdv ct) ⟨us,[]⟩=pure (ps.zip us)):Binds K fd ps []:=by
  obtain⟨oc,od,kV,doc,pm,an,cdv,ct,osl,rfl,lk,hcd⟩:=F.ex
  exact .all (h kV doc pm an cdv ct)
theorem fun_mk {x qual:Str} {st:Stmt} {f:Addr} {oc:Value} {od an:Option Addr} {osl:Array (Option Value)} {kV doc pm cdv ct:Value} (l:K.lookup f=some ⟨oc,od,.func (PySem.W.fnOf x qual (defArgs st) (defBody st) (defScope st) .none kV doc pm an cdv ct),osl⟩)
    (c:PySem.W.codeIn K cdv qual=true) (k:PySem.W.keepIn K (.ref f)=true):Fun K x qual st f (PySem.W.fnOf x qual (defArgs st) (defBody st) (defScope st) .none kV doc pm an cdv ct):=⟨⟨oc,od,kV,doc,pm,an,cdv,ct,osl,rfl,l,c⟩,k⟩
end
section
variable {X:Cx}
end
noncomputable def Same (H H':Hp):Prop:=∀b o,H b=some o→H' b=some o
theorem Same.refl (H:Hp):Same H H:=fun _ _ h=>h
theorem Same.trans {H H1 H2:Hp} (a:Same H H1) (b:Same H1 H2):Same H H2:=fun c o h=>b c o (a c o h)
theorem Same.free {H H':Hp} (e:Same H H') {l:Addr} (h:H' l=Option.none):H l=Option.none:=by
  cases q:H l with
  |none=>rfl
  | some o=>
    rw[e l o q] at h
    cases h
section
variable {κ:Type} [DecidableEq κ]
end
end L2
namespace Pu
open PySem PySem.Spec L2
open PyProof.Rows hiding St
inductive D where
  |non |bl (b:Bool) |int (i:Int) |str (x:Str) |tup (xs:List D) |lst (xs:List D)
inductive R (α:Type) where
  |bad |ok (a:α) |err (c:Str)
namespace R
noncomputable def bind {α β:Type} (r:R α) (k:α→R β):R β:=match r with
  | .ok a=>k a
  | .err c=> .err c
  | .bad=> .bad
@[simp] theorem bx {α β:Type} (a:α) (k:α→R β):(R.ok a).bind k=k a:=rfl
end R
mutual
noncomputable def Rep (K:PySem.W.Frag) (O:Addr→Prop) (H:Hp):D→V→Prop
  | .non,v=>v= .non
  | .bl b,v=>v= .bl b
  | .int i,v=>v= .int i
  | .str x,v=>v= .str x
  | .tup ds,v=>∃a xs,v= .ref a∧SqT K H a xs∧aQ K O H ds xs
  | .lst ds,v=>∃a xs,v= .ref a∧SqL K H a xs∧¬O a∧aQ K O H ds xs
noncomputable def aQ (K:PySem.W.Frag) (O:Addr→Prop) (H:Hp):List D→List V→Prop
  |[],xs=>xs=[]
  |d::ds,xs=>∃x r,xs=x::r∧Rep K O H d x∧aQ K O H ds r
end
structure Ext (O:Addr→Prop) (H H':Hp):Prop where
  tup:∀b xs,Rd H b (.tup xs)→Rd H' b (.tup xs)
  lst:∀b xs,¬O b→Rd H b (.lst xs)→Rd H' b (.lst xs)
section
variable {K:PySem.W.Frag} {O O':Addr→Prop} {H H':Hp}
theorem SqL.ext (e:Ext O H H') {a:Addr} {xs:List V} (n:¬O a) (h:SqL K H a xs):SqL K H' a xs:=by
  rcases h with h |h
  · exact .inl (e.lst _ _ n h)
  · exact .inr h
theorem SqT.ext (e:Ext O H H') {a:Addr} {xs:List V} (h:SqT K H a xs):SqT K H' a xs:=by
  rcases h with h |h
  · exact .inl (e.tup _ _ h)
  · exact .inr h
mutual
theorem Rep.ext (e:Ext O H H') (o:∀b xs,¬O b→SqL K H b xs→¬O' b):∀(d:D) (v:V),Rep K O H d v→Rep K O' H' d v
  | .non,_,h=>by simpa only[Rep] using h
  | .bl _,_,h=>by simpa only[Rep] using h
  | .int _,_,h=>by simpa only[Rep] using h
  | .str _,_,h=>by simpa only[Rep] using h
  | .tup ds,v,h=>by
    simp only[Rep] at h ⊢
    obtain⟨a,xs,e1,h1,h2⟩:=h
    exact⟨a,xs,e1,SqT.ext e h1,aQ.ext e o ds xs h2⟩
  | .lst ds,v,h=>by
    simp only[Rep] at h ⊢
    obtain⟨a,xs,e1,h1,h2,h3⟩:=h
    exact⟨a,xs,e1,SqL.ext e h2 h1,o _ _ h2 h1,aQ.ext e o ds xs h3⟩
theorem aQ.ext (e:Ext O H H') (o:∀b xs,¬O b→SqL K H b xs→¬O' b):∀(ds:List D) (xs:List V),aQ K O H ds xs→aQ K O' H' ds xs
  |[],xs,h=>by simpa only[aQ] using h
  | d::ds,xs,h=>by
    simp only[aQ] at h ⊢
    obtain⟨x,r,e1,h1,h2⟩:=h
    exact⟨x,r,e1,Rep.ext e o d x h1,aQ.ext e o ds r h2⟩
end
end
structure iu (K:PySem.W.Frag) (O:Addr→Prop) (H:Hp) (O':Addr→Prop) (H':Hp):Prop where
  ext:Ext O H H'
  new:∀a,O' a→O a∨(H a=none∧K.lookup a=none)
  dom:∀a,H' a=none→H a=none
section
variable {K:PySem.W.Frag} {O O1 O2:Addr→Prop} {H H1 H2:Hp}
theorem Rd.some {a:Addr} {u:HO} (h:Rd H a u):H a≠none:=by
  rcases h with h |⟨o,h⟩ <;> rw[h] <;> simp
theorem iu.out (r:iu K O H O1 H1) (b:Addr) (xs:List V) (n:¬O b) (h:SqL K H b xs):¬O1 b:=fun z=>by
  rcases r.new b z with z |⟨z1,z2⟩
  · exact n z
  · rcases h with h |⟨o,_,_,h,_⟩
    · exact Rd.some h z1
    · rw[z2] at h;cases h
theorem iu.refl:iu K O H O H:=⟨⟨fun _ _ h=>h,fun _ _ _ h=>h⟩,fun _ h=> .inl h,fun _ h=>h⟩
theorem iu.trans (r:iu K O H O1 H1) (q:iu K O1 H1 O2 H2):iu K O H O2 H2 where
  ext:=⟨fun b xs h=>q.ext.tup b xs (r.ext.tup b xs h),fun b xs n h=>q.ext.lst b xs (r.out b xs n (.inl h)) (r.ext.lst b xs n h)⟩
  new:=fun a z=>(q.new a z).elim (r.new a) fun w=> .inr ⟨r.dom a w.1,w.2⟩
  dom:=fun a z=>r.dom a (q.dom a z)
theorem Same.rd (s:Same H H1) {a:Addr} {u:HO} (h:Rd H a u):Rd H1 a u:=by
  rcases h with h |⟨o,h⟩
  · exact .inl (s _ _ h)
  · exact .inr ⟨o,s _ _ h⟩
theorem Same.iR (s:Same H H1):iu K O H O H1:=⟨⟨fun _ _ h=>Same.rd s h,fun _ _ _ h=>Same.rd s h⟩,fun _ h=> .inl h,fun _ h=>s.free h⟩
theorem Rep.go (r:iu K O H O1 H1) {d:D} {v:V} (h:Rep K O H d v):Rep K O1 H1 d v:=Rep.ext r.ext r.out d v h
theorem aQ.go (r:iu K O H O1 H1) {d:List D} {v:List V} (h:aQ K O H d v):aQ K O1 H1 d v:=aQ.ext r.ext r.out d v h
theorem Rep.same (s:Same H H1) {d:D} {v:V} (h:Rep K O H d v):Rep K O H1 d v:=h.go (Same.iR s)
theorem aQ.same (s:Same H H1) {d:List D} {v:List V} (h:aQ K O H d v):aQ K O H1 d v:=h.go (Same.iR s)
theorem Rep.fewer (w:∀a,O1 a→O a) {d:D} {v:V} (h:Rep K O H d v):Rep K O1 H d v:=Rep.ext ⟨fun _ _ h=>h,fun _ _ _ h=>h⟩ (fun b _ n _ z=>n (w b z)) d v h
theorem aQ.fewer (w:∀a,O1 a→O a) {d:List D} {v:List V} (h:aQ K O H d v):aQ K O1 H d v:=aQ.ext ⟨fun _ _ h=>h,fun _ _ _ h=>h⟩ (fun b _ n _ z=>n (w b z)) d v h
theorem aQ.nil:aQ K O H [] []:=by simp only[aQ]
theorem aQ.cons {d:D} {v:V} {ds:List D} {vs:List V} (h:Rep K O H d v) (t:aQ K O H ds vs):aQ K O H (d::ds) (v::vs):=by simp only[aQ];exact⟨v,vs,rfl,h,t⟩
theorem aQ.cons_inv {d:D} {ds:List D} {vs:List V} (h:aQ K O H (d::ds) vs):∃x r,vs=x::r∧Rep K O H d x∧aQ K O H ds r:=by simpa only[aQ] using h
theorem aQ.nil_inv {vs:List V} (h:aQ K O H [] vs):vs=[]:=by simpa only[aQ] using h
theorem aQ.length:∀{ds:List D} {vs:List V},aQ K O H ds vs→ds.length=vs.length
  |[],vs,h=>by rw[h.nil_inv];rfl
  | d::ds,vs,h=>by
    obtain⟨x,r,rfl,_,t⟩:=h.cons_inv
    simp[aQ.length t]
theorem aQ.get:∀{ds:List D} {vs:List V} {i:Nat} {d:D},aQ K O H ds vs→ds[i]?=some d→∃v,vs[i]?=some v∧Rep K O H d v
  |[],_,_,_,_,e=>by simp at e
  | d::ds,vs,i,d',h,e=>by
    obtain⟨x,r,rfl,h1,t⟩:=h.cons_inv
    cases i with
    |zero=>simp at e;subst e;exact⟨x,rfl,h1⟩
    |succ i=>simpa using aQ.get t (i:=i) (by simpa using e)
theorem aQ.ak {ds:List D} {vs:List V} {i:Nat} {v:V} (h:aQ K O H ds vs) (e:vs[i]?=some v):∃d,ds[i]?=some d∧Rep K O H d v:=by
  have hl:=h.length
  have hi:i < ds.length:=by rw[hl];exact (List.getElem?_eq_some_iff.mp e).1
  obtain⟨v',e',r⟩:=h.get (i:=i) (d:=ds[i]) (by simp[hi])
  rw[e] at e';cases e'
  exact⟨_,by simp[hi],r⟩
theorem aQ.append:∀{ds es:List D} {vs ws:List V},aQ K O H ds vs→aQ K O H es ws→aQ K O H (ds++es) (vs++ws)
  |[],_,vs,_,h,t=>by rw[h.nil_inv];exact t
  | d::ds,es,vs,ws,h,t=>by
    obtain⟨x,r,rfl,h1,h2⟩:=h.cons_inv
    exact .cons h1 (aQ.append h2 t)
theorem aQ.reverse:∀{ds:List D} {vs:List V},aQ K O H ds vs→aQ K O H ds.reverse vs.reverse
  |[],vs,h=>by rw[h.nil_inv];exact .nil
  | d::ds,vs,h=>by
    obtain⟨x,r,rfl,h1,h2⟩:=h.cons_inv
    simp only[List.reverse_cons]
    exact h2.reverse.append (.cons h1 .nil)
theorem aQ.drop:∀{ds:List D} {vs:List V} (n:Nat),aQ K O H ds vs→aQ K O H (ds.drop n) (vs.drop n)
  |_,_,0,h=>h
  |[],vs,n+1,h=>by rw[h.nil_inv];exact .nil
  | d::ds,vs,n+1,h=>by
    obtain⟨x,r,rfl,h1,h2⟩:=h.cons_inv
    exact h2.drop n
theorem aQ.take:∀{ds:List D} {vs:List V} (n:Nat),aQ K O H ds vs→aQ K O H (ds.take n) (vs.take n)
  |_,_,0,_=>by simpa using aQ.nil
  |[],vs,n+1,h=>by rw[h.nil_inv];exact .nil
  | d::ds,vs,n+1,h=>by
    obtain⟨x,r,rfl,h1,h2⟩:=h.cons_inv
    exact .cons h1 (h2.take n)
theorem Rep.int {i:Int} {v:V} (h:Rep K O H (.int i) v):v= .int i:=by simpa only[Rep] using h
theorem Rep.bl {b:Bool} {v:V} (h:Rep K O H (.bl b) v):v= .bl b:=by simpa only[Rep] using h
theorem Rep.non {v:V} (h:Rep K O H .non v):v= .non:=by simpa only[Rep] using h
theorem Rep.str {x:Str} {v:V} (h:Rep K O H (.str x) v):v= .str x:=by simpa only[Rep] using h
theorem Rep.tup {ds:List D} {v:V} (h:Rep K O H (.tup ds) v):∃a xs,v= .ref a∧SqT K H a xs∧aQ K O H ds xs:=by simpa only[Rep] using h
theorem Rep.lst {ds:List D} {v:V} (h:Rep K O H (.lst ds) v):∃a xs,v= .ref a∧SqL K H a xs∧¬O a∧aQ K O H ds xs:=by simpa only[Rep] using h
theorem cM (i:Int):Rep K O H (.int i) (.int i):=by simp only[Rep]
theorem iw (b:Bool):Rep K O H (.bl b) (.bl b):=by simp only[Rep]
theorem wH:Rep K O H .non .non:=by simp only[Rep]
theorem Ra (x:Str):Rep K O H (.str x) (.str x):=by simp only[Rep]
theorem jG {ds:List D} {a:Addr} {xs:List V} (h:SqT K H a xs) (r:aQ K O H ds xs):Rep K O H (.tup ds) (.ref a):=by simp only[Rep];exact⟨a,xs,rfl,h,r⟩
theorem wI {ds:List D} {a:Addr} {xs:List V} (h:SqL K H a xs) (n:¬O a) (r:aQ K O H ds xs):Rep K O H (.lst ds) (.ref a):=by simp only[Rep];exact⟨a,xs,rfl,h,n,r⟩
end
inductive Ob where
  |exc (c:Str) |fn (a:Addr)
inductive Ent where
  |val (d:D) |lst (ds:List D) |G5 (kvs:List (Key×D)) |obj (t:Ob)
noncomputable def Ent.own:Ent→Bool
  | .val _=>false
  | .obj _=>false
  |_=>true
noncomputable def Ent.isV:Ent→Bool
  | .val _=>true
  |_=>false
theorem akj {e:Ent} (h:e.isV=true):e.own=false:=by cases e <;> first |rfl |cases h
noncomputable abbrev au:=List (Option Ent)
noncomputable def amW (K:PySem.W.Frag) (O:Addr→Prop) (H:Hp) (kvs:List (Key×D)) (ys:List (Key×V)):Prop:=kvs.map (·.1)=ys.map (·.1)∧aQ K O H (kvs.map (·.2)) (ys.map (·.2))
noncomputable def wO (K:PySem.W.Frag) (H:Hp):Ob→V→Prop
  | .exc c,v=>∃a o C,v= .ref a∧H a=some (.frz o (.own a))∧o.cls= .ref C∧o.dict=none∧(∃vs,o.data= .fields vs)∧PySem.W.nsIn K mainGlobals c=some (some (.ref C))
  | .fn a,v=>v= .ref a∧∃o fd,H a=some (.frz o (.own a))∧o.data= .func fd
noncomputable def vd (K:PySem.W.Frag) (O:Addr→Prop) (H:Hp):Ent→V→Prop
  | .val d,v=>Rep K O H d v
  | .lst ds,v=>∃a xs,v= .ref a∧O a∧H a=some (.lst xs)∧aQ K O H ds xs
  | .G5 kvs,v=>∃a ys,v= .ref a∧O a∧H a=some (.dK ys)∧amW K O H kvs ys
  | .obj t,v=>wO K H t v
structure Env (K:PySem.W.Frag) (O:Addr→Prop) (H:Hp) (ρ:au) (σ:St):Prop where
  get:∀(i:Nat) e,ρ[i]?=some (some e)→∃v,σ[i]?=some (some v)∧vd K O H e v
  sep:∀(i j:Nat) e e' v,i≠j→ρ[i]?=some (some e)→ρ[j]?=some (some e')→e.own=true→e'.own=true→σ[i]?=some (some v)→σ[j]?=some (some v)→False
structure In (X:Cx) (O:Addr→Prop) (H:Hp) (ρ:au) (σ:St):Prop where
  env:Env X.K O H ρ σ
  al:∀a,O a→∃o,H a=some o
  len:σ.length=X.N.length
  vf:ρ.length=X.N.length
section
variable {X:Cx} {O:Addr→Prop} {H H1:Hp} {ρ:au} {σ:St} {K:PySem.W.Frag}
theorem wO.fz (s:∀b o u,H b=some (.frz o u)→H1 b=some (.frz o u)):∀{t:Ob} {v:V},wO K H t v→wO K H1 t v
  | .exc _,_,z=>by
    obtain⟨a,o,C,e,h,q,n⟩:=z
    exact⟨a,o,C,e,s _ _ _ h,q,n⟩
  | .fn _,_,z=>by
    obtain⟨e,o,fd,h,q⟩:=z
    exact⟨e,o,fd,s _ _ _ h,q⟩
theorem wO.same (s:Same H H1) {t:Ob} {v:V} (h:wO K H t v):wO K H1 t v:=h.fz fun _ _ _ q=>s _ _ q
theorem vd.same (s:Same H H1):∀{e:Ent} {v:V},vd K O H e v→vd K O H1 e v
  | .val d,v,h=>Rep.same s h
  | .lst ds,v,z=>by
    obtain⟨a,xs,e,o,h,r⟩:=z
    exact⟨a,xs,e,o,s _ _ h,r.same s⟩
  | .G5 kvs,v,z=>by
    obtain⟨a,xs,e,o,h,k,r⟩:=z
    exact⟨a,xs,e,o,s _ _ h,k,r.same s⟩
  | .obj t,v,h=>wO.same s h
theorem In.same (i:In X O H ρ σ) (s:Same H H1):In X O H1 ρ σ:=
  ⟨⟨fun j e h=>let ⟨v,h1,h2⟩:=i.env.get j e h;⟨v,h1,h2.same s⟩,i.env.sep⟩,fun a h=>let ⟨o,q⟩:=i.al a h;⟨o,s _ _ q⟩,i.len,i.vf⟩
end
noncomputable def Exc (h:Heap) (e C:Addr) (T:Option Addr):Prop:=∃(oe:Obj) (vs:Array Value),h.get? e=some oe∧oe.cls= .ref C∧oe.dict=none∧oe.data= .fields vs∧match T with
  |none=>vs[1]?=some Value.none
  |some t=>vs[1]?=some (.ref t)∧t≠e∧∃(ot:Obj) (ts:Array Value),h.get? t=some ot∧ot.data= .fields ts∧ts[3]?=some Value.none
structure Rsd (P:Program) (w:World) (fs:List Addr) (H:Hp) (s:Shared) (a C:Addr) (T:Option Addr) (s':Shared) (H':Hp):Prop where
  same:Same H H'
  un:Un fs [] H H' s.heap s'.heap
  hok:HOk P w H' s'.heap
  os:s'.os=s.os
  bare:AllBare s'.gens
  exc:Exc s'.heap a C T
  na:s.heap.get? a=none
  ha:H' a=none
  nt:∀t,T=some t→s.heap.get? t=none∧H' t=none
noncomputable def Ua (X:Cx) (c:Str) (σ:St) (H:Hp):Prop:=∀(H1:Hp) (pins:List (Addr×Obj)) (s:Shared) (a C:Addr) (T:Option Addr) (s':Shared) (H':Hp),Same H H1→Inv X pins σ H1 s→
  PySem.W.nsIn X.K mainGlobals c=some (some (.ref C))→Rsd X.prog X.w (frs X.stack) H1 s a C T s' H'→X.xe (.ref a) s'
theorem Ua.same {X:Cx} {c:Str} {σ:St} {H H1:Hp} (h:Ua X c σ H) (s:Same H H1):Ua X c σ H1:=fun H2 pins s0 a C T s' H' s2=>h H2 pins s0 a C T s' H' (s.trans s2)
noncomputable def good {α β:Type} (X:Cx) (Rl:(Addr→Prop)→Hp→α→β→Prop) (O:Addr→Prop) (r:R α) (σ:St) (H:Hp) (Q:β→Hp→Prop):Prop:=match r with
  | .ok a=>∀b H',Same H H'→Rl O H' a b→Q b H'
  | .err c=>Ua X c σ H
  | .bad=>False
theorem good.same {α β:Type} {X:Cx} {Rl:(Addr→Prop)→Hp→α→β→Prop} {O:Addr→Prop} {r:R α} {σ:St} {H H1:Hp} {Q:β→Hp→Prop} (h:good X Rl O r σ H Q) (s:Same H H1):good X Rl O r σ H1 Q:=by
  cases r with
  |ok a=>exact fun b H' s' q=>h b H' (s.trans s') q
  |err c=>exact Ua.same (show Ua X c σ H from h) s
  |bad=>exact h
inductive TGd {α β:Type} (X:Cx) (Rl:(Addr→Prop)→Hp→α→β→Prop) (f:au→R α) (σ:St) (H:Hp) (Q:β→Hp→Prop):Prop
  |mk (ρ:au) (O:Addr→Prop) (j:In X O H ρ σ) (g:good X Rl O (f ρ) σ H Q):TGd X Rl f σ H Q
noncomputable def tG {α β:Type} (X:Cx) (Rl:(Addr→Prop)→Hp→α→β→Prop) (f:au→R α):St→Hp→(β→Hp→Prop)→Prop:=fun σ H Q=>TGd X Rl f σ H Q
noncomputable abbrev rB:(Addr→Prop)→Hp→Bool→Bool→Prop:=fun _ _ a b=>a=b
noncomputable abbrev rD (X:Cx):(Addr→Prop)→Hp→D→V→Prop:=fun O H d v=>Rep X.K O H d v
noncomputable abbrev Ub (X:Cx):(Addr→Prop)→Hp→List D→List V→Prop:=fun O H d v=>aQ X.K O H d v
noncomputable def DE (X:Cx) (e:Expr) (f:au→R D):Prop:=PE X e (tG X (rD X) f)
noncomputable def DT (X:Cx) (e:Expr) (f:au→R Bool):Prop:=PT X e (tG X rB f)
noncomputable def DW (X:Cx) (e:Expr) (f:au→R Bool):Prop:=PW X e (tG X rB f)
noncomputable def DA (X:Cx) (es:List Expr) (f:au→R (List D)):Prop:=PA X es (tG X (Ub X) f)
theorem PE.imp {X:Cx} {e:Expr} {t t':TE} (h:PE X e t) (w:∀σ H Q,t' σ H Q→t σ H Q):PE X e t':=fun pins s σ H Q I q=>h pins s σ H Q I (w σ H Q q)
theorem PT.imp {X:Cx} {e:Expr} {t t':TT} (h:PT X e t) (w:∀σ H Q,t' σ H Q→t σ H Q):PT X e t':=fun pins s σ H Q I q=>h pins s σ H Q I (w σ H Q q)
theorem PW.imp {X:Cx} {e:Expr} {t t':TT} (h:PW X e t) (w:∀σ H Q,t' σ H Q→t σ H Q):PW X e t':=fun wh pins s σ H Q I q=>h wh pins s σ H Q I (w σ H Q q)
theorem PA.imp {X:Cx} {e:List Expr} {t t':TA} (h:PA X e t) (w:∀σ H Q,t' σ H Q→t σ H Q):PA X e t':=fun pos pins s σ H Q I q=>h pos pins s σ H Q I (w σ H Q q)
section
variable {X:Cx} {O:Addr→Prop} {H:Hp} {ρ:au} {σ:St}
theorem go {α β γ δ:Type} {Rl:(Addr→Prop)→Hp→α→β→Prop} {Rm:(Addr→Prop)→Hp→γ→δ→Prop} {f:au→R α} {g:α→R γ} {Q:δ→Hp→Prop} {Q':β→Hp→Prop}
    (i:In X O H ρ σ) (h:good X Rm O ((f ρ).bind g) σ H Q)
    (k:∀a b H1,f ρ= .ok a→Same H H1→Rl O H1 a b→In X O H1 ρ σ→good X Rm O (g a) σ H1 Q→Q' b H1):tG X Rl f σ H Q':=by
  refine⟨ρ,O,i,?_⟩
  cases e:f ρ with
  |ok a=>rw[e] at h;exact fun b H1 s r=>k a b H1 e s r (i.same s) (good.same h s)
  |err c=>rw[e] at h;exact h
  |bad=>rw[e] at h;exact h
theorem fin {α β:Type} {Rl:(Addr→Prop)→Hp→α→β→Prop} {a:α} {b:β} {Q:β→Hp→Prop} (h:good X Rl O (.ok a) σ H Q) (r:Rl O H a b):Q b H:=h b H (Same.refl H) r
end
end Pu
namespace Pu
open PySem PySem.Spec L2
open PyProof.Rows hiding St
theorem Same.upd {H:Hp} {p:Addr} {o:HO} (h:H p=none):Same H (L2.upd H p o):=fun b u e=>by
  rw[upd_ne (ne_of_none e h)];exact e
theorem Rep.wJ {X:Cx} {O:Addr→Prop} {H:Hp} {p:Addr} {ds:List D} {xs:List V} (h:H p=none) (r:aQ X.K O H ds xs):Rep X.K O (upd H p (.tup xs)) (.tup ds) (.ref p):=
  jG (SqT.of upd_same) (r.same (Same.upd h))
theorem In.G6 {X:Cx} {O:Addr→Prop} {H:Hp} {ρ:au} {σ:St} (i:In X O H ρ σ) {p:Addr} (h:H p=none):¬O p:=fun z=>by
  obtain⟨o,e⟩:=i.al p z
  rw[h] at e;cases e
theorem Rep.wK {X:Cx} {O:Addr→Prop} {H:Hp} {p:Addr} {ds:List D} {xs:List V} (h:H p=none) (n:¬O p) (r:aQ X.K O H ds xs):Rep X.K O (upd H p (.lst xs)) (.lst ds) (.ref p):=
  wI (SqL.of upd_same) n (r.same (Same.upd h))
section
variable {X:Cx} {a b c:Expr} {f g h:au→R D} {pos:Pos}
noncomputable def ak (ρ:au) (i:Nat):R D:=match ρ[i]? with
  |some (some (.val d))=> .ok d
  |_=> .bad
theorem dv (i:Nat) {x:Str} {pos:Pos} (hN:X.N[i]?=some x:=by rfl) (hv:Vis X.env.scope x:=by first |exact Or.inl rfl |exact Or.inr (Or.inl rfl) |exact Or.inr (Or.inr rfl)) (hd:(x ==("__debug__" :Str))=false:=by decide) (hcd:(x ==("__classdict__" :Str))=false:=by decide):
    DE X (.Name x pos) (fun ρ=>ak ρ i):=by
  refine PE.imp (pe_var hN hv hd hcd) fun σ H Q h=>?_
  obtain⟨ρ,O,j,h⟩:=h
  have h:good X (rD X) O (ak ρ i) σ H Q:=h
  unfold ak at h
  split at h
  · rename_i d e
    obtain⟨v,e1,r⟩:=j.env.get i _ e
    exact⟨v,e1,fin h r⟩
  · exact h.elim
theorem Rb {e:Expr} {d:D} {v:V} (h:PE X e (tC v)) (r:∀O H,Rep X.K O H d v):DE X e (fun _=> .ok d):=PE.imp h fun σ H Q h=>by
  obtain⟨ρ,O,j,h⟩:=h
  exact fin h (r O H)
theorem aN {i:Int} {j pos}:DE X (.Constant (.int i) j pos) (fun _=> .ok (.int i)):=Rb pe_int fun _ _=>cM i
theorem mH {i:Bool} {j pos}:DE X (.Constant (.bool i) j pos) (fun _=> .ok (.bl i)):=Rb pe_bl fun _ _=>iw i
theorem iZ {j pos}:DE X (.Constant .none j pos) (fun _=> .ok .non):=Rb pe_non fun _ _=>wH
theorem X4 {x:Str} {j pos}:DE X (.Constant (.str x) j pos) (fun _=> .ok (.str x)):=Rb pe_str fun _ _=>Ra x
theorem qM {x:Str} {i:Int} {t:Tok} {pos:Pos} (hg:Gl X x) (hm:X.mg x=some (.int i t)) (hd:(x ==("__debug__" :Str))=false:=by decide):DE X (.Name x pos) (fun _=> .ok (.int i)):=
  Rb (pe_glob (v:= .int i) hg hm ⟨t,rfl⟩ hd) fun _ _=>cM i
noncomputable def lK (X:Cx) (o:Value→Value→Sem Value) (k:D→D→R D):Prop:=∃r:R2,OpR X o r∧
  ∀(ρ:au) (O:Addr→Prop) (σ:St) (H:Hp) (Q:VK) (x y:V) (dx dy:D),In X O H ρ σ→Rep X.K O H dx x→Rep X.K O H dy y→good X (rD X) O (k dx dy) σ H Q→r x y H Q
noncomputable def bin (f g:au→R D) (k:D→D→R D):au→R D:=fun ρ=>(f ρ).bind fun x=>(g ρ).bind fun y=>k x y
theorem N5 {r:R2} {k:D→D→R D} {σ:St} {H:Hp} {Q:VK}
    (hr:∀(ρ:au) (O:Addr→Prop) (σ:St) (H:Hp) (Q:VK) (x y:V) (dx dy:D),In X O H ρ σ→Rep X.K O H dx x→Rep X.K O H dy y→good X (rD X) O (k dx dy) σ H Q→r x y H Q)
    (h:tG X (rD X) (bin f g k) σ H Q):tOp r (tG X (rD X) f) (tG X (rD X) g) σ H Q:=by
  obtain⟨ρ,O,j,h⟩:=h
  refine go j h fun dx x H1 e1 s1 r1 j1 h1=>?_
  exact go j1 h1 fun dy y H2 e2 s2 r2 j2 h2=>hr ρ O σ H2 Q x y dx dy j2 (r1.same s2) r2 h2
theorem aR {op:Operator} {k:D→D→R D} (ho:lK X (binaryOp op) k) (ha:DE X a f) (hb:DE X b g):DE X (.BinOp a op b pos) (bin f g k):=by
  obtain⟨r,ho,hr⟩:=ho
  exact PE.imp (pe_op ho ha hb) fun σ H Q h=>N5 hr h
theorem uM {op:CmpOp} {k:D→D→R D} (ho:lK X (compareOp op) k) (ha:DE X a f) (hb:DE X b g) (hm:behindInMarks op b=false:=by exact nomark _):DE X (.Compare a [op] [b] pos) (bin f g k):=by
  obtain⟨r,ho,hr⟩:=ho
  exact PE.imp (pe_cmpR ho ha hb hm) fun σ H Q h=>N5 hr h
noncomputable def asB:D→R Bool
  | .bl b=> .ok b
  |_=> .bad
noncomputable def bZ (f:au→R D):au→R Bool:=fun ρ=>(f ρ).bind asB
theorem Mi {t:TE} {k:au→R D} {σ:St} {H:Hp} {Q:Bool→Hp→Prop} (w:∀Q,tG X (rD X) k σ H Q→t σ H Q) (h:tG X rB (bZ k) σ H Q):tTest t σ H Q:=by
  refine w _ ?_
  obtain⟨ρ,O,j,h⟩:=h
  refine go j h fun d x H1 e1 s1 r1 j1 h1=>?_
  cases d with
  |bl b=>exact⟨b,r1.bl,fin h1 rfl⟩
  |_=>exact h1.elim
theorem bY {op:CmpOp} {k:D→D→R D} (ho:lK X (compareOp op) k) (ha:DE X a f) (hb:DE X b g) (hm:behindInMarks op b=false:=by exact nomark _):DT X (.Compare a [op] [b] pos) (bZ (bin f g k)):=by
  obtain⟨r,ho,hr⟩:=ho
  exact PT.imp (pt_cmpR ho ha hb hm) fun σ H Q h=>Mi (fun Q h=>N5 hr h) h
theorem mZ {e:Expr} (h:DE X e f) (he:∀whole,isTrue e X.env whole=(do let v ←whole;standAt e.pos;holding [v] (truthy v)):=by intro _;rfl):DT X e (bZ f):=
  PT.imp (pt_val h he) fun σ H Q h=>Mi (t:=tG X (rD X) f) (fun Q h=>h) h
noncomputable def iD (k:Int→Int→R D):D→D→R D
  | .int i,.int j=>k i j
  |_,_=> .bad
theorem Ky {o:Value→Value→Sem Value} {C:Int→Int→Prop} {g:Int→Int→V} {k:Int→Int→R D} (ho:OpR X o (rI C g)) (hk:∀i j,k i j= .bad∨∃d,k i j= .ok d∧C i j∧∀K O H,Rep K O H d (g i j)):lK X o (iD k):=by
  refine⟨_,ho,fun ρ O σ H Q x y dx dy j0 rx ry h=>?_⟩
  cases dx <;> cases dy <;> first
    |exact h.elim
    |skip
  rename_i i j
  rcases hk i j with e |⟨d,e,c,r⟩
  · have h':good X (rD X) O (k i j) σ H Q:=h
    rw[e] at h';exact h'.elim
  · have h':good X (rD X) O (k i j) σ H Q:=h
    rw[e] at h'
    exact⟨i,j,rx.int,ry.int,c,fin h' (r _ _ _)⟩
theorem wQ {o:Value→Value→Sem Value} {g:Int→Int→V} {k:Int→Int→R D} (ho:OpR X o (rI0 g)) (hk:∀i j,∃d,k i j= .ok d∧∀K O H,Rep K O H d (g i j)):lK X o (iD k):=by
  refine⟨_,ho,fun ρ O σ H Q x y dx dy j0 rx ry h=>?_⟩
  cases dx <;> cases dy <;> first
    |exact h.elim
    |skip
  rename_i i j
  obtain⟨d,e,r⟩:=hk i j
  have h':good X (rD X) O (k i j) σ H Q:=h
  rw[e] at h'
  exact⟨i,j,rx.int,ry.int,fin h' (r _ _ _)⟩
noncomputable def gC:D→D→R D:=iD fun i j=> .ok (.int (i - j))
noncomputable def jL:D→D→R D:=iD fun i j=>if (-(2 ^ 64) < i∧i < 2 ^ 64)∨(-(2 ^ 64) < j∧j < 2 ^ 64) then .ok (.int (i*j)) else .bad
noncomputable def jX:D→D→R D:=iD fun i j=>if 0 < j∧j < 2 ^ 64 then .ok (.int (i / j)) else .bad
noncomputable def iW:D→D→R D:=iD fun i j=>if 0 < j then .ok (.int (i % j)) else .bad
noncomputable def Ac:D→D→R D:=iD fun i j=>if 0≤j∧j≤1000000∧i.natAbs < 2 ^ 64 then .ok (.int (i ^ j.toNat)) else .bad
noncomputable def ltI:D→D→R D:=iD fun i j=> .ok (.bl (decide (i < j)))
noncomputable def Bu:D→D→R D:=iD fun i j=> .ok (.bl (decide (i≤j)))
noncomputable def wR:D→D→R D:=iD fun i j=> .ok (.bl (decide (j < i)))
noncomputable def geI:D→D→R D:=iD fun i j=> .ok (.bl (decide (j≤i)))
theorem fK:lK X (binaryOp .Sub) gC:=wQ op_sub fun i j=>⟨_,rfl,fun _ _ _=>cM _⟩
theorem adU:lK X (compareOp .Lt) ltI:=wQ op_lt fun i j=>⟨_,rfl,fun _ _ _=>iw _⟩
theorem uD:lK X (compareOp .LtE) Bu:=wQ op_le fun i j=>⟨_,rfl,fun _ _ _=>iw _⟩
theorem N6:lK X (compareOp .Gt) wR:=wQ op_gt fun i j=>⟨_,rfl,fun _ _ _=>iw _⟩
theorem amX:lK X (compareOp .GtE) geI:=wQ op_ge fun i j=>⟨_,rfl,fun _ _ _=>iw _⟩
theorem Kz {c:Prop} [Decidable c] (d:D) {P:D→Prop} (hP:c→P d):(if c then R.ok d else R.bad)=R.bad∨∃d',(if c then R.ok d else R.bad)=R.ok d'∧c∧P d':=by
  by_cases h:c
  · exact .inr ⟨d,by rw[if_pos h],h,hP h⟩
  · exact .inl (by rw[if_neg h])
theorem uN:lK X (binaryOp .Mult) jL:=Ky op_mul fun i j=>Kz (.int (i*j)) (P:=fun d=>∀K O H,Rep K O H d (.int (i*j))) fun _ _ _ _=>cM _
theorem agD {j:Int} (h0:0 < j) (h:j < 2 ^ 64):j.natAbs.log2 < 9000:=by
  have h1:j.natAbs≠0:=by omega
  have h2:j.natAbs < 2 ^ 64:=by omega
  have h3:j.natAbs.log2 < 64:=(Nat.log2_lt h1).mpr h2
  omega
theorem aiL:OpR X (binaryOp .FloorDiv) (rI (fun _ j=>0 < j∧j < 2 ^ 64) fun i j=> .int (i / j)):=opI fun i j _ _ _ _ _ hc q=>by
  refine floordiv_int (by have:=hc.1;omega) ?_ (.inl (PyProof.noPylong_of_log2 (agD hc.1 hc.2)))
  rw[Int.fdiv_eq_ediv_of_nonneg _ (by have:=hc.1;omega)]
  exact q
theorem wU:lK X (binaryOp .FloorDiv) jX:=Ky aiL fun i j=>Kz (.int (i / j)) (P:=fun d=>∀K O H,Rep K O H d (.int (i / j))) fun _ _ _ _=>cM _
theorem uO:lK X (binaryOp .Mod) iW:=Ky op_mod fun i j=>Kz (.int (i % j)) (P:=fun d=>∀K O H,Rep K O H d (.int (i % j))) fun _ _ _ _=>cM _
theorem agE:lK X (binaryOp .Pow) Ac:=Ky op_pow fun i j=>Kz (.int (i ^ j.toNat)) (P:=fun d=>∀K O H,Rep K O H d (.int (i ^ j.toNat))) fun _ _ _ _=>cM _
noncomputable def La (f g h:au→R D) (k l:D→D→R D):au→R D:=fun ρ=>(f ρ).bind fun x=>(g ρ).bind fun y=>(k x y).bind fun z=>match z with
  | .bl true=>(h ρ).bind fun w=>l y w
  | .bl false=> .ok (.bl false)
  |_=> .bad
noncomputable def q8 (f g:au→R D):au→R D:=fun ρ=>(f ρ).bind fun x=>match x with
  | .bl true=>g ρ
  | .bl false=> .ok (.bl false)
  |_=> .bad
noncomputable def orV (f g:au→R D):au→R D:=fun ρ=>(f ρ).bind fun x=>match x with
  | .bl true=> .ok (.bl true)
  | .bl false=>g ρ
  |_=> .bad
noncomputable def alH (f:au→R D):au→R D:=fun ρ=>(f ρ).bind fun x=>match x with
  | .bl b=> .ok (.bl (!b))
  |_=> .bad
variable {rest:List Expr}
theorem qb {op} (h:DE X a f):DE X (.BoolOp op [a] pos) f:=pe_one h
theorem nU (ha:DE X a f) (hb:DE X (.BoolOp .And (b::rest) pos) g):DE X (.BoolOp .And (a::b::rest) pos) (q8 f g):=by
  refine PE.imp (pe_and ha hb) fun σ H Q h=>?_
  obtain⟨ρ,O,j,h⟩:=h
  refine go j h fun d x H1 e1 s1 r1 j1 h1=>?_
  cases d with
  | bl k=>
    cases k with
    |true=>exact⟨true,r1.bl,by rw[if_pos rfl];exact⟨ρ,O,j1,h1⟩⟩
    |false=>exact⟨false,r1.bl,by rw[if_neg Bool.false_ne_true];exact fin h1 (iw _)⟩
  |_=>exact h1.elim
theorem amY (ha:DE X a f) (hb:DE X (.BoolOp .Or (b::rest) pos) g):DE X (.BoolOp .Or (a::b::rest) pos) (orV f g):=by
  refine PE.imp (pe_or ha hb) fun σ H Q h=>?_
  obtain⟨ρ,O,j,h⟩:=h
  refine go j h fun d x H1 e1 s1 r1 j1 h1=>?_
  cases d with
  | bl k=>
    cases k with
    |true=>exact⟨true,r1.bl,by rw[if_pos rfl];exact fin h1 (iw _)⟩
    |false=>exact⟨false,r1.bl,by rw[if_neg Bool.false_ne_true];exact⟨ρ,O,j1,h1⟩⟩
  |_=>exact h1.elim
theorem alI (ha:DE X a f):DE X (.UnaryOp .Not a pos) (alH f):=by
  refine PE.imp (pe_not ha) fun σ H Q h=>?_
  obtain⟨ρ,O,j,h⟩:=h
  refine go j h fun d x H1 e1 s1 r1 j1 h1=>?_
  cases d with
  |bl k=>exact⟨k,r1.bl,fin h1 (iw _)⟩
  |_=>exact h1.elim
noncomputable def sI (f g:au→R Bool):au→R Bool:=fun ρ=>(f ρ).bind fun x=>if x=true then g ρ else .ok false
noncomputable def Gi (f g:au→R Bool):au→R Bool:=fun ρ=>(f ρ).bind fun x=>if x=true then .ok true else g ρ
noncomputable def nP (f:au→R Bool):au→R Bool:=fun ρ=>(f ρ).bind fun x=> .ok (!x)
variable {p q:au→R Bool}
theorem acW (ha:DT X a p):DW X (.BoolOp .And [a] pos) p:=pw_and1 ha
theorem q9 (ha:DT X a p):DW X (.BoolOp .Or [a] pos) p:=pw_or1 ha
theorem agF (ha:DT X a p) (hb:DW X (.BoolOp .And (b::rest) pos) q):DW X (.BoolOp .And (a::b::rest) pos) (sI p q):=by
  refine PW.imp (pw_and ha hb) fun σ H Q h=>?_
  obtain⟨ρ,O,j,h⟩:=h
  refine go j h fun d x H1 e1 s1 r1 j1 h1=>?_
  subst r1
  cases d with
  |true=>rw[if_pos rfl] at h1 ⊢;exact⟨ρ,O,j1,h1⟩
  |false=>rw[if_neg Bool.false_ne_true] at h1 ⊢;exact fin h1 rfl
theorem wz (ha:DT X a p) (hb:DW X (.BoolOp .Or (b::rest) pos) q):DW X (.BoolOp .Or (a::b::rest) pos) (Gi p q):=by
  refine PW.imp (pw_or ha hb) fun σ H Q h=>?_
  obtain⟨ρ,O,j,h⟩:=h
  refine go j h fun d x H1 e1 s1 r1 j1 h1=>?_
  subst r1
  cases d with
  |true=>rw[if_pos rfl] at h1 ⊢;exact fin h1 rfl
  |false=>rw[if_neg Bool.false_ne_true] at h1 ⊢;exact⟨ρ,O,j1,h1⟩
theorem DW.dt {e:Expr} (h:DW X e p):DT X e p:=h _
theorem jM (ha:DT X a p):DT X (.UnaryOp .Not a pos) (nP p):=by
  refine PT.imp (pt_not ha) fun σ H Q h=>?_
  obtain⟨ρ,O,j,h⟩:=h
  refine go j h fun d x H1 e1 s1 r1 j1 h1=>?_
  subst r1
  exact fin h1 rfl
noncomputable def X5 (c:au→R Bool) (f g:au→R D):au→R D:=fun ρ=>(c ρ).bind fun x=>if x=true then f ρ else g ρ
theorem amZ (hc:DT X c p) (ha:DE X a f) (hb:DE X b g):DE X (.IfExp c a b pos) (X5 p f g):=by
  refine PE.imp (pe_ifExp hc ha hb) fun σ H Q h=>?_
  obtain⟨ρ,O,j,h⟩:=h
  refine go j h fun d x H1 e1 s1 r1 j1 h1=>?_
  subst r1
  cases d with
  |true=>rw[if_pos rfl] at h1 ⊢;exact⟨ρ,O,j1,h1⟩
  |false=>rw[if_neg Bool.false_ne_true] at h1 ⊢;exact⟨ρ,O,j1,h1⟩
noncomputable def ao (f:au→R D) (g:au→R (List D)):au→R (List D):=fun ρ=>(f ρ).bind fun x=>(g ρ).bind fun xs=> .ok (x::xs)
variable {es:List Expr} {fa:au→R (List D)}
theorem aq:DA X [] (fun _=> .ok []):=PA.imp pa_nil fun σ H Q h=>by
  obtain⟨ρ,O,j,h⟩:=h
  exact fin h .nil
theorem aj (ha:DE X a f) (hr:DA X es fa) (hs:starEach (a::es) X.env=(false,eval a X.env)::starEach es X.env:=by rfl):DA X (a::es) (ao f fa):=by
  refine PA.imp (pa_cons ha hr hs) fun σ H Q h=>?_
  obtain⟨ρ,O,j,h⟩:=h
  refine go j h fun d x H1 e1 s1 r1 j1 h1=>?_
  exact go j1 h1 fun ds xs H2 e2 s2 r2 j2 h2=>fin h2 (.cons (r1.same s2) r2)
noncomputable def cap (k:List D→D) (ds:List D):R D:=if ds.length≤1000000 then .ok (k ds) else .bad
theorem jx:1000000≤sizeLine:=by rw[sizeLine_eq];decide
noncomputable def jh (fa:au→R (List D)):au→R D:=fun ρ=>(fa ρ).bind (cap .tup)
noncomputable def nQ (fa:au→R (List D)):au→R D:=fun ρ=>(fa ρ).bind (cap .lst)
theorem fL {x1} (h:DA X es fa):DE X (.Tuple es x1 pos) (jh fa):=by
  refine PE.imp (pe_tup h) fun σ H Q h=>?_
  obtain⟨ρ,O,j,h⟩:=h
  refine go j h fun ds xs H1 e1 s1 r1 j1 h1=>?_
  unfold cap at h1
  split at h1
  · rename_i hl
    exact⟨by rw[←r1.length];exact Nat.le_trans hl jx,fun p hp=>h1 _ _ (Same.upd hp) (Rep.wJ hp r1)⟩
  · exact h1.elim
theorem rm (h:DA X es fa):DE X (.List es pos) (nQ fa):=by
  refine PE.imp (pe_lst h) fun σ H Q h=>?_
  obtain⟨ρ,O,j,h⟩:=h
  refine go j h fun ds xs H1 e1 s1 r1 j1 h1=>?_
  unfold cap at h1
  split at h1
  · rename_i hl
    exact⟨by rw[←r1.length];exact Nat.le_trans hl jx,fun p hp=>h1 _ _ (Same.upd hp) (Rep.wK hp (j1.G6 hp) r1)⟩
  · exact h1.elim
noncomputable def cg:D→D→R D
  | .tup ds,.int i=>match atI ds i with |some d=> .ok d |none=> .bad
  | .lst ds,.int i=>match atI ds i with |some d=> .ok d |none=> .bad
  |_,_=> .bad
theorem aQ.atI {K:PySem.W.Frag} {O:Addr→Prop} {H:Hp} {ds:List D} {vs:List V} {i:Int} {d:D} (r:aQ K O H ds vs) (e:atI ds i=some d):∃v,atI vs i=some v∧Rep K O H d v:=by
  unfold L2.atI at e ⊢
  rw[r.length] at e
  cases q:ixN vs.length i with
  |none=>rw[q] at e;cases e
  | some k=>
    rw[q] at e
    obtain⟨v,h1,h2⟩:=r.get (i:=k) (d:=d) e
    exact⟨v,h1,h2⟩
theorem bQ (ha:DE X a f) (hb:DE X b g) (hs:PlainIx b:=by exact fun _ _=>rfl):DE X (.Subscript a b pos) (bin f g cg):=by
  refine PE.imp (pe_ix ix_seq ha hb hs) fun σ H Q h=>N5 (fun ρ O σ H Q x y dx dy j0 rx ry h=>?_) h
  cases dx <;> cases dy <;> first
    |exact h.elim
    |skip
  · rename_i ds i
    obtain⟨p,xs,rfl,hq,r⟩:=rx.tup
    have h':good X (rD X) O (match L2.atI ds i with |some d=>R.ok d |none=>R.bad) σ H Q:=h
    cases e:L2.atI ds i with
    |none=>rw[e] at h';exact h'.elim
    | some d=>
      rw[e] at h'
      obtain⟨v,e1,rv⟩:=r.atI e
      exact .inr (.inl ⟨p,xs,i,v,rfl,ry.int,hq,e1,fin h' rv⟩)
  · rename_i ds i
    obtain⟨p,xs,rfl,hq,_,r⟩:=rx.lst
    have h':good X (rD X) O (match L2.atI ds i with |some d=>R.ok d |none=>R.bad) σ H Q:=h
    cases e:L2.atI ds i with
    |none=>rw[e] at h';exact h'.elim
    | some d=>
      rw[e] at h'
      obtain⟨v,e1,rv⟩:=r.atI e
      exact .inl ⟨p,xs,i,v,rfl,ry.int,hq,e1,fin h' rv⟩
noncomputable def CallD (X:Cx) (u:Value) (k:List D→R D):Prop:=∃r:List V→Hp→VK→Prop,CallR X u r∧
  ∀(ρ:au) (O:Addr→Prop) (σ:St) (H:Hp) (Q:VK) (xs:List V) (ds:List D),In X O H ρ σ→aQ X.K O H ds xs→good X (rD X) O (k ds) σ H Q→r xs H Q
noncomputable def aF (k:List D→R D) (fa:au→R (List D)):au→R D:=fun ρ=>(fa ρ).bind k
variable {x:Str} {pp:Pos} {k:List D→R D} {id T:String}
theorem aV (hc:CallD X (.builtin id) k) (hg:Gl X x) (hm:X.mg x=none) (hv:bootBuiltins x=some (.builtin id)) (ha:DA X (a::es) fa) (hn:x≠"__name__" :=by decide) (hdb:(x ==("__debug__" :Str))=false:=by decide)
    (he:starEach (a::es) X.env=(false,eval a X.env)::starEach es X.env:=by rfl) (hpl:(backTo pos (starEach es X.env)).any (·.1)=false:=by rfl):DE X (.Call (.Name x pp) (a::es) [] pos) (aF k fa):=by
  obtain⟨r,hc,hr⟩:=hc
  refine PE.imp (pe_callB hc hg hm hv ha hn hdb he hpl) fun σ H Q h=>?_
  obtain⟨ρ,O,j,h⟩:=h
  exact go j h fun ds xs H1 e1 s1 r1 j1 h1=>hr ρ O σ H1 Q xs ds j1 r1 h1
theorem gK (hc:CallD X (.type T) k) (hg:Gl X x) (hm:X.mg x=none) (hv:bootBuiltins x=some (.type T)) (ha:DA X (a::es) fa) (hn:x≠"__name__" :=by decide) (hdb:(x ==("__debug__" :Str))=false:=by decide)
    (he:starEach (a::es) X.env=(false,eval a X.env)::starEach es X.env:=by rfl) (hpl:(backTo pos (starEach es X.env)).any (·.1)=false:=by rfl):DE X (.Call (.Name x pp) (a::es) [] pos) (aF k fa):=by
  obtain⟨r,hc,hr⟩:=hc
  refine PE.imp (pe_callTy hc hg hm hv ha hn hdb he hpl) fun σ H Q h=>?_
  obtain⟨ρ,O,j,h⟩:=h
  exact go j h fun ds xs H1 e1 s1 r1 j1 h1=>hr ρ O σ H1 Q xs ds j1 r1 h1
end
end Pu
namespace Pu
open PySem PySem.Spec L2
open PyProof.Rows hiding St
section
variable {X:Cx} {a b c:Expr} {f g h:au→R D} {pos:Pos}
theorem Uc {r r':R2} {k l:D→D→R D} {σ:St} {H:Hp} {Q:VK}
    (hr:∀(ρ:au) (O:Addr→Prop) (σ:St) (H:Hp) (Q:VK) (x y:V) (dx dy:D),In X O H ρ σ→Rep X.K O H dx x→Rep X.K O H dy y→good X (rD X) O (k dx dy) σ H Q→r x y H Q)
    (hl:∀(ρ:au) (O:Addr→Prop) (σ:St) (H:Hp) (Q:VK) (x y:V) (dx dy:D),In X O H ρ σ→Rep X.K O H dx x→Rep X.K O H dy y→good X (rD X) O (l dx dy) σ H Q→r' x y H Q)
    (q:tG X (rD X) (La f g h k l) σ H Q):tChain r r' (tG X (rD X) f) (tG X (rD X) g) (tG X (rD X) h) σ H Q:=by
  obtain⟨ρ,O,j,q⟩:=q
  refine go j q fun dx x H1 e1 s1 r1 j1 h1=>?_
  refine go j1 h1 fun dy y H2 e2 s2 r2 j2 h2=>?_
  have r1':=r1.same s2
  cases e3:k dx dy with
  |bad=>rw[e3] at h2;exact h2.elim
  |err n=>rw[e3] at h2;exact hr ρ O σ H2 _ x y dx dy j2 r1' r2 (by rw[e3];exact h2)
  | ok z=>
    rw[e3] at h2
    refine hr ρ O σ H2 _ x y dx dy j2 r1' r2 ?_
    rw[e3]
    intro v H3 s3 r3
    have j3:=j2.same s3
    cases z with
    | bl t=>
      refine⟨t,r3.bl,?_⟩
      cases t with
      | true=>
        rw[if_pos rfl]
        exact go j3 (good.same h2 s3) fun dw w H4 e4 s4 r4 j4 h4=>hl ρ O σ H4 Q y w dy dw j4 (r2.same (s3.trans s4)) r4 h4
      | false=>
        rw[if_neg Bool.false_ne_true]
        exact fin (good.same h2 s3) (iw _)
    |_=>exact h2.elim
theorem CK {op op':CmpOp} {k l:D→D→R D} (ho:lK X (compareOp op) k) (ho':lK X (compareOp op') l) (ha:DE X a f) (hb:DE X b g) (hc:DE X c h)
    (hm:lastMarks [op,op'] [b,c]=false:=by with_unfolding_all rfl):DE X (.Compare a [op,op'] [b,c] pos) (La f g h k l):=by
  obtain⟨r,ho,hr⟩:=ho
  obtain⟨r',ho',hr'⟩:=ho'
  exact PE.imp (pe_chain ho ho' ha hb hc hm) fun σ H Q q=>Uc hr hr' q
theorem aiM {op op':CmpOp} {k l:D→D→R D} (ho:lK X (compareOp op) k) (ho':lK X (compareOp op') l) (ha:DE X a f) (hb:DE X b g) (hc:DE X c h)
    (hm:lastMarks [op,op'] [b,c]=false:=by with_unfolding_all rfl):DT X (.Compare a [op,op'] [b,c] pos) (bZ (La f g h k l)):=by
  obtain⟨r,ho,hr⟩:=ho
  obtain⟨r',ho',hr'⟩:=ho'
  exact PT.imp (pt_chain ho ho' ha hb hc hm) fun σ H Q q=>Mi (fun Q q=>Uc hr hr' q) q
end
noncomputable def YAt (K:PySem.W.Frag) (O:Addr→Prop) (J:It) (xs:List D) (H:Hp):Prop:=
  ∀i:Nat,(∀d,xs[i]?=some d→J.go i H∧∀x H',J.yld i H x H'→Same H H'∧Rep K O H' d x)∧(xs.length≤i→J.stop i H)
noncomputable def YR (K:PySem.W.Frag) (O:Addr→Prop) (H:Hp) (J:It) (xs:List D):Prop:=∀O' H',iu K O H O' H'→YAt K O' J xs H'
noncomputable abbrev rIt (X:Cx):(Addr→Prop)→Hp→List D→It→Prop:=fun O H xs J=>YR X.K O H J xs
noncomputable def DI (X:Cx) (tg iter:Expr) (fi:au→R (List D)):Prop:=PI X tg iter (tG X (rIt X) fi)
theorem PI.imp {X:Cx} {tg e:Expr} {t t':TI} (h:PI X tg e t) (w:∀σ H Q,t' σ H Q→t σ H Q):PI X tg e t':=fun pins s σ H Q I q=>h pins s σ H Q I (w σ H Q q)
section
variable {X:Cx} {tg:Expr}
noncomputable def anm (K:PySem.W.Frag) (tl:TE):TI:=fun σ H R=>tl σ H fun x H1=>∃a,x= .ref a∧(((∃xs,SqL K H1 a xs)∧R (Itl K a) H1)∨((∃xs,SqT K H1 a xs)∧R (Itt K a) H1))
theorem alJ {l:Expr} {tl:TE} (hl:PE X l tl):PI X tg l (anm X.K tl):=by
  intro pins s σ H R I h
  refine thn (hl pins s σ H _ I h) fun v s1 bL=>?_
  obtain⟨x,H1,I1,r1,q1⟩:=bL
  obtain⟨a,e,q⟩:=q1
  subst e
  cases r1
  have fp:∀b∈[s1.heap.objs.size],FpOk X pins H1 b:=fun b hb=>by
    have e:b=s1.heap.objs.size:=by simpa using hb
    subst e
    exact I1.fpOk (Nat.le_refl _) (I1.hok.fresh (Nat.le_refl _))
  rcases q with⟨⟨xs,hq⟩,q⟩ |⟨⟨xs,hq⟩,q⟩
  · obtain⟨its,rv,p,hz⟩:=I1.list hq
    refine wpAny_pyIter_list p.isList ?_
    exact⟨s1.heap.objs.size,[s1.heap.objs.size],_,_,H1,rfl,I1.kept (t':=s1.toks) fun b o e=>Heap.get?_push_of_some _ e,turn_list a _,⟨_,Heap.get?_push_size _ rfl,rfl,rfl⟩,fp,q⟩
  · obtain⟨its,rv,p,hz⟩:=I1.tuple hq
    refine wpAny_pyIter_tuple (show s1.heap.IsTuple a its.toArray from p) ?_
    exact⟨s1.heap.objs.size,[s1.heap.objs.size],_,_,H1,rfl,I1.kept (t':=s1.toks) fun b o e=>Heap.get?_push_of_some _ e,turn_tuple a _,⟨_,Heap.get?_push_size _ rfl,rfl,rfl⟩,fp,q⟩
noncomputable def dR:D→R (List D)
  | .tup ds=> .ok ds
  | .lst ds=> .ok ds
  |_=> .bad
theorem YR.lst {K:PySem.W.Frag} {O:Addr→Prop} {H:Hp} {a:Addr} {ds:List D} {xs:List V} (h:SqL K H a xs) (n:¬O a) (r:aQ K O H ds xs):YR K O H (Itl K a) ds:=by
  intro O' H' q
  have h':SqL K H' a xs:=SqL.ext q.ext n h
  have r':=r.go q
  intro i
  refine⟨fun d e=>?_,fun e=>⟨xs,h',by rw[←r.length];exact e⟩⟩
  obtain⟨v,e1,rv⟩:=r'.get e
  refine⟨⟨xs,v,h',e1⟩,fun x H2 y=>?_⟩
  obtain⟨eH,y⟩:=y
  subst eH
  have:=y xs h'
  rw[e1] at this;cases this
  exact⟨Same.refl _,rv⟩
theorem YR.tup {K:PySem.W.Frag} {O:Addr→Prop} {H:Hp} {a:Addr} {ds:List D} {xs:List V} (h:SqT K H a xs) (r:aQ K O H ds xs):YR K O H (Itt K a) ds:=by
  intro O' H' q
  have h':SqT K H' a xs:=SqT.ext q.ext h
  have r':=r.go q
  intro i
  refine⟨fun d e=>?_,fun e=>⟨xs,h',by rw[←r.length];exact e⟩⟩
  obtain⟨v,e1,rv⟩:=r'.get e
  refine⟨⟨xs,v,h',e1⟩,fun x H2 y=>?_⟩
  obtain⟨eH,y⟩:=y
  subst eH
  have:=y xs h'
  rw[e1] at this;cases this
  exact⟨Same.refl _,rv⟩
noncomputable def fM (f:au→R D):au→R (List D):=fun ρ=>(f ρ).bind dR
theorem eF {l:Expr} {f:au→R D} (h:DE X l f):DI X tg l (fM f):=by
  refine PI.imp (alJ h) fun σ H Q q=>?_
  obtain⟨ρ,O,j,q⟩:=q
  refine go j q fun d x H1 e1 s1 r1 j1 h1=>?_
  cases d with
  | tup ds=>
    obtain⟨a,xs,rfl,hq,r⟩:=r1.tup
    exact⟨a,rfl,.inr ⟨⟨xs,hq⟩,fin h1 (YR.tup hq r)⟩⟩
  | lst ds=>
    obtain⟨a,xs,rfl,hq,n,r⟩:=r1.lst
    exact⟨a,rfl,.inl ⟨⟨xs,hq⟩,fin h1 (YR.lst hq n r)⟩⟩
  |_=>exact h1.elim
noncomputable def upto (lo:Int) (n:Nat):List D:=(List.range n).map fun (i:Nat)=>D.int (lo+(i:Int))
theorem YR.rng {K:PySem.W.Frag} {O:Addr→Prop} {H:Hp} (lo:Int) (n:Nat):YR K O H (Itr lo n) (upto lo n):=by
  intro O' H' q i
  have hl:(upto lo n).length=n:=by simp[upto]
  refine⟨fun d e=>?_,fun e=>by rw[hl] at e;exact e⟩
  have hi:i < n:=by rw[←hl];exact (List.getElem?_eq_some_iff.mp e).1
  have e2:d=D.int (lo+(i:Int)):=by
    simp only[upto,List.getElem?_map,List.getElem?_range hi] at e
    exact (Option.some.inj e).symm
  subst e2
  refine⟨hi,fun x H2 y=>?_⟩
  obtain⟨eH,y⟩:=y
  subst eH;subst y
  exact⟨Same.refl _,cM _⟩
noncomputable def p8:List D→R (List D)
  |[.int j]=>if -(2 ^ 62)≤j∧j < 2 ^ 62 then .ok (upto 0 j.toNat) else .bad
  |_=> .bad
noncomputable def Mj:List D→R (List D)
  |[.int i,.int j]=>if -(2 ^ 62)≤i∧i < 2 ^ 62∧-(2 ^ 62)≤j∧j < 2 ^ 62 then .ok (upto i (j - i).toNat) else .bad
  |_=> .bad
theorem aQ.one {K:PySem.W.Frag} {O:Addr→Prop} {H:Hp} {d:D} {xs:List V} (r:aQ K O H [d] xs):∃x,xs=[x]∧Rep K O H d x:=by
  obtain⟨x,t,rfl,h1,h2⟩:=r.cons_inv
  rw[h2.nil_inv];exact⟨x,rfl,h1⟩
theorem aQ.two {K:PySem.W.Frag} {O:Addr→Prop} {H:Hp} {d e:D} {xs:List V} (r:aQ K O H [d,e] xs):∃x y,xs=[x,y]∧Rep K O H d x∧Rep K O H e y:=by
  obtain⟨x,t,rfl,h1,h2⟩:=r.cons_inv
  obtain⟨y,rfl,h3⟩:=h2.one
  exact⟨x,y,rfl,h1,h3⟩
variable {a b:Expr} {fa:au→R (List D)} {p pos:Pos}
theorem j7 (hg:Gl X "range") (hm:X.mg "range" =none) (ha:DA X [a] fa) (hs:starEach [a] X.env=[(false,eval a X.env)]:=by rfl):DI X tg (.Call (.Name "range" p) [a] [] pos) (fun ρ=>(fa ρ).bind p8):=by
  refine PI.imp (pi_range1 hg hm ha hs) fun σ H Q q=>?_
  obtain⟨ρ,O,j,q⟩:=q
  refine go j q fun ds xs H1 e1 s1 r1 j1 h1=>?_
  unfold p8 at h1
  split at h1
  · obtain⟨x,rfl,rx⟩:=r1.one
    split at h1
    · rename_i i hi
      exact⟨i,by rw[rx.int],hi.1,hi.2,fin h1 (YR.rng 0 i.toNat)⟩
    · exact h1.elim
  · exact h1.elim
theorem Ud (hg:Gl X "range") (hm:X.mg "range" =none) (ha:DA X [a,b] fa) (hs:starEach [a,b] X.env=[(false,eval a X.env),(false,eval b X.env)]:=by rfl) (hs2:starEach [b] X.env=[(false,eval b X.env)]:=by rfl):
    DI X tg (.Call (.Name "range" p) [a,b] [] pos) (fun ρ=>(fa ρ).bind Mj):=by
  refine PI.imp (pi_range2 hg hm ha hs hs2) fun σ H Q q=>?_
  obtain⟨ρ,O,j,q⟩:=q
  refine go j q fun ds xs H1 e1 s1 r1 j1 h1=>?_
  unfold Mj at h1
  split at h1
  · obtain⟨x,y,rfl,rx,ry⟩:=r1.two
    split at h1
    · rename_i i k hi
      exact⟨i,k,by rw[rx.int,ry.int],hi,fin h1 (YR.rng i (k - i).toNat)⟩
    · exact h1.elim
  · exact h1.elim
end
inductive DGp (X:Cx) (gt:D→au→R au) (v:V) (σ:St) (H:Hp) (Q:St→Hp→Prop):Prop
  |mk (ρ:au) (O:Addr→Prop) (d:D) (ρ':au) (j:In X O H ρ σ) (r:Rep X.K O H d v) (e:gt d ρ= .ok ρ') (q:∀σ',In X O H ρ' σ'→Q σ' H):DGp X gt v σ H Q
noncomputable def DG (X:Cx) (tg:Expr) (gt:D→au→R au):Prop:=PG X tg fun v σ H Q=>DGp X gt v σ H Q
inductive alK (X:Cx) (gt:List D→au→R au) (vs:List V) (σ:St) (H:Hp) (Q:St→Hp→Prop):Prop
  |mk (ρ:au) (O:Addr→Prop) (ds:List D) (ρ':au) (j:In X O H ρ σ) (r:aQ X.K O H ds vs) (e:gt ds ρ= .ok ρ') (q:∀σ',In X O H ρ' σ'→Q σ' H):alK X gt vs σ H Q
noncomputable def DGs (X:Cx) (ts:List Expr) (gt:List D→au→R au):Prop:=PGs X ts fun vs σ H Q=>alK X gt vs σ H Q
section
variable {X:Cx} {pos:Pos}
theorem In.set {O:Addr→Prop} {H:Hp} {ρ:au} {σ:St} (j:In X O H ρ σ) {i:Nat} (hi:i < X.N.length) {d:D} {v:V} (r:Rep X.K O H d v):In X O H (ρ.set i (some (.val d))) (σ.set i (some v)):=by
  have h1:i < ρ.length:=by rw[j.vf];exact hi
  have h2:i < σ.length:=by rw[j.len];exact hi
  refine⟨⟨fun k e q=>?_,fun k l e e' u hkl qk ql ok ol sk sl=>?_⟩,j.al,by rw[List.length_set];exact j.len,by rw[List.length_set];exact j.vf⟩
  · by_cases hk:k=i
    · subst hk
      rw[List.getElem?_set_self h1] at q
      cases q
      exact⟨v,List.getElem?_set_self h2,r⟩
    · rw[List.getElem?_set_ne (Ne.symm hk)] at q
      obtain⟨u,q1,q2⟩:=j.env.get k e q
      exact⟨u,by rw[List.getElem?_set_ne (Ne.symm hk)];exact q1,q2⟩
  · have hk:k≠i:=fun z=>by subst z;rw[List.getElem?_set_self h1] at qk;cases qk;cases ok
    have hl:l≠i:=fun z=>by subst z;rw[List.getElem?_set_self h1] at ql;cases ql;cases ol
    rw[List.getElem?_set_ne (Ne.symm hk)] at qk sk
    rw[List.getElem?_set_ne (Ne.symm hl)] at ql sl
    exact j.env.sep k l e e' u hkl qk ql ok ol sk sl
noncomputable def aL (i:Nat) (d:D) (ρ:au):R au:= .ok (ρ.set i (some (.val d)))
theorem bF (i:Nat) {x:Str} (hN:X.N.Nodup) (hi:X.N[i]?=some x:=by rfl) (hx:Loc X.env.scope x:=by first |exact Or.inl rfl |exact Or.inr rfl) (hf:X.fn x=true∨X.env.scope.names.lookup x=some .local:=by first |exact .inl rfl |exact .inr rfl):DG X (.Name x pos) (aL i):=by
  intro pins s σ H v u Q I r h
  obtain⟨ρ,O,d,ρ',j,rd,e,q⟩:=h
  cases e
  exact pg_name hN hi hx hf pins s σ H v u Q I r (q _ (j.set (List.getElem?_eq_some_iff.mp hi).1 rd))
noncomputable def nilG:List D→au→R au
  |[],ρ=> .ok ρ
  |_,_=> .bad
noncomputable def bf (t:D→au→R au) (u:List D→au→R au):List D→au→R au
  |d::ds,ρ=>(t d ρ).bind fun ρ'=>u ds ρ'
  |_,_=> .bad
theorem lM:DGs X [] nilG:=by
  intro pins s σ H vs us Q I r h
  obtain⟨ρ,O,ds,ρ',j,rd,e,q⟩:=h
  cases ds with
  |nil=>cases e;exact pgs_nil pins s σ H vs us Q I r ⟨rd.nil_inv,q _ j⟩
  |cons d ds=>cases e
theorem cA {e:Expr} {es:List Expr} {t:D→au→R au} {u:List D→au→R au} (h1:DG X e t) (h2:DGs X es u)
    (hs:(assignEach (e::es) X.env).map (·.2)=assign e X.env::(assignEach es X.env).map (·.2):=by rfl):DGs X (e::es) (bf t u):=by
  intro pins s σ H vs us Q I r h
  obtain⟨ρ,O,ds,ρ',j,rd,e,q⟩:=h
  cases ds with
  |nil=>cases e
  | cons d ds=>
    obtain⟨x,xs,rfl,rx,rxs⟩:=rd.cons_inv
    have e':(t d ρ).bind (fun ρ'=>u ds ρ')= .ok ρ':=e
    cases q1:t d ρ with
    |bad=>rw[q1] at e';cases e'
    |err c=>rw[q1] at e';cases e'
    | ok ρ1=>
      rw[q1] at e'
      refine pgs_cons h1 h2 hs pins s σ H _ us Q I r ⟨x,xs,rfl,ρ,O,d,ρ1,j,rx,q1,fun σ1 j1=>?_⟩
      exact⟨ρ1,O,ds,ρ',j1,rxs,e',q⟩
noncomputable def c7 (u:List D→au→R au):D→au→R au
  | .tup ds,ρ=>u ds ρ
  |_,_=> .bad
noncomputable def dg (n:Nat) (u:List D→au→R au):List D→au→R au:=fun ds ρ=>if ds.length=n then u ds ρ else .bad
theorem nW {es:List Expr} {k:Nat} {u:List D→au→R au} {n:Nat} (hc:X.calm=true) (h:DGs X es u)
    (hn:(assignEach es X.env).length=n:=by rfl) (hst:(assignEach es X.env).findIdx? (·.1)=none:=by rfl):DG X (.Tuple es k pos) (c7 (dg n u)):=by
  intro pins s σ H v w Q I r q
  obtain⟨ρ,O,d,ρ',j,rd,e,q⟩:=q
  cases d with
  | tup ds=>
    obtain⟨a,xs,rfl,hq,rs⟩:=rd.tup
    have e':(if ds.length=n then u ds ρ else .bad)= .ok ρ':=e
    by_cases hl:ds.length=n
    · rw[if_pos hl] at e'
      exact pg_tup hc h hn hst pins s σ H _ w Q I r ⟨a,xs,rfl,hq,by rw[←rs.length];exact hl,ρ,O,ds,ρ',j,rs,e',q⟩
    · rw[if_neg hl] at e';cases e'
  |_=>cases e
end
end Pu
namespace Pu
open PySem PySem.Spec L2
open PyProof.Rows hiding St
noncomputable def vg (x:Str):List Str→Nat
  |[]=>0
  |y::r=>if x=y then 0 else vg x r+1
theorem CN {x:Str}:∀{N:List Str},x∈N→N[vg x N]?=some x
  |[],h=>by simp at h
  | y ::r,h=>by
    unfold vg
    by_cases e:x=y
    · rw[if_pos e,e];rfl
    · rw[if_neg e]
      rcases List.mem_cons.mp h with z |z
      · exact absurd z e
      · simpa using CN z
noncomputable def pull {α:Type} (N caps:List Str) (n:Nat) (l:List (Option α)):List (Option α):=List.replicate n none++caps.map fun x=>(l[vg x N]?).join
theorem CP {α:Type} (N caps:List Str) (n:Nat) (l:List (Option α)):(pull N caps n l).length=n+caps.length:=by simp[pull]
theorem join_some {α:Type} {o:Option (Option α)} {a:α} (h:o.join=some a):o=some (some a):=by
  cases o with
  |none=>cases h
  |some o=>exact congrArg some h
theorem wV {α:Type} {N caps:List Str} {n:Nat} {l:List (Option α)} {i:Nat} {a:α} (h:(pull N caps n l)[i]?=some (some a)):∃j x,i=n+j∧caps[j]?=some x∧l[vg x N]?=some (some a):=by
  unfold pull at h
  by_cases hi:i < n
  · rw[List.getElem?_append_left (by simpa using hi),List.getElem?_replicate,if_pos hi] at h
    cases h
  · rw[List.getElem?_append_right (by simpa using hi),List.length_replicate,List.getElem?_map] at h
    cases e:caps[i - n]? with
    |none=>rw[e] at h;cases h
    | some x=>
      rw[e] at h
      exact⟨i - n,x,by omega,e,join_some (Option.some.inj h)⟩
theorem Rc {α:Type} {N caps:List Str} {n:Nat} {l:List (Option α)} {j:Nat} {x:Str} (h:caps[j]?=some x):(pull N caps n l)[n+j]?=some (l[vg x N]?).join:=by
  unfold pull
  rw[List.getElem?_append_right (by simp),List.length_replicate,List.getElem?_map,show n+j - n=j by omega,h]
  rfl
noncomputable def gD (sc:Scope):List Str:=(sc.names.filter fun x=>decide (x.2= .free)).map (·.1)
noncomputable def adV (outer sc:Scope) (ts N:List Str):Bool:=
  decide (sc.kind= .function) && sc.names.all (fun x=>(!decide (x.2= .local)) || decide (sc.names.lookup x.1=some .local)) && sc.names.all (fun x=>(!decide (x.2= .cell)) || decide (sc.names.lookup x.1=some .cell)) &&
    (gD sc).all (fun x=>(decide (outer.names.lookup x=some .cell) || decide (outer.names.lookup x=some .free)) && decide (x∈N) && decide (sc.names.lookup x=some .free)) && decide (ts++gD sc).Nodup
structure KC (outer sc:Scope) (ts N:List Str):Prop where
  kind:sc.kind= .function
  loc:∀x∈sc.names,x.2= .local→sc.names.lookup x.1=some .local
  cel:∀x∈sc.names,x.2= .cell→sc.names.lookup x.1=some .cell
  out:∀x∈gD sc,outer.names.lookup x=some .cell∨outer.names.lookup x=some .free
  mem:∀x∈gD sc,x∈N
  Ue:∀x∈gD sc,sc.names.lookup x=some .free
  nd:(ts++gD sc).Nodup
theorem am0 {outer sc:Scope} {ts N:List Str} (h:adV outer sc ts N=true):KC outer sc ts N:=by
  unfold adV at h
  simp only[Bool.and_eq_true,List.all_eq_true,decide_eq_true_eq,Bool.or_eq_true,Bool.not_eq_true',decide_eq_false_iff_not] at h
  obtain⟨⟨⟨⟨h1,h2⟩,h3⟩,h4⟩,h5⟩:=h
  exact⟨h1,fun x hx e=>(h2 x hx).resolve_left fun n=>n e,fun x hx e=>(h3 x hx).resolve_left fun n=>n e,fun x hx=>(h4 x hx).1.1,fun x hx=>(h4 x hx).1.2,fun x hx=>(h4 x hx).2,h5⟩
noncomputable def jN (cs:List (Str×Addr)):List (Str×NameKind)→List (Str×Addr)→List (Str×Addr)
  |[],acc=>acc
  |(n,k)::r,acc=>if k= .free then jN cs r ((n,(cs.lookup n).getD 0)::acc) else jN cs r acc
theorem adW {scope:Scope} {env:PySem.Env} (h:∀x∈scope.names,x.2= .free→∃c,env.cells.lookup x.1=some c):closureFor scope env=pure (jN env.cells scope.names []):=by
  unfold closureFor
  have all:∀(l:List (Str×NameKind)) (acc:List (Str×Addr)),(∀x∈l,x.2= .free→∃c,env.cells.lookup x.1=some c)→
      (forIn l acc fun x r=>match x with |(name,kind)=>if (kind ==NameKind.free)=true then do let a ←cellOf env name;pure (ForInStep.yield ((name,a)::r)) else pure (ForInStep.yield r):Sem (List (Str×Addr)))=pure (jN env.cells l acc):=by
    intro l
    induction l with
    |nil=>intro acc _;rfl
    | cons x r ih=>
      intro acc hx
      obtain⟨n,k⟩:=x
      rw[List.forIn_cons]
      unfold jN
      by_cases hk:k= .free
      · obtain⟨c,hc⟩:=hx (n,k) List.mem_cons_self hk
        have hc:env.cells.lookup n=some c:=hc
        have e1:cellOf env n=pure c:=by unfold cellOf;rw[hc]
        subst hk
        simp only[e1,hc,Option.getD_some,beq_self_eq_true,if_true,pure_bind]
        exact ih _ fun y hy=>hx y (List.mem_cons_of_mem _ hy)
      · have e2:(k ==NameKind.free)=false:=by simpa using hk
        simp only[e2,Bool.false_eq_true,if_false,pure_bind,hk]
        exact ih _ fun y hy=>hx y (List.mem_cons_of_mem _ hy)
  simpa using all scope.names [] h
theorem qd (cs:List (Str×Addr)):∀(l:List (Str×NameKind)) (acc:List (Str×Addr)),jN cs l acc=jN cs l []++acc
  |[],acc=>rfl
  | (n,k)::r,acc=>by
    unfold jN
    split
    · rw[qd cs r (_::acc),qd cs r [_]];simp
    · exact qd cs r acc
theorem wW (cs:List (Str×Addr)):∀(l:List (Str×NameKind)) {n:Str} {c:Addr},(n,c)∈jN cs l []→(n,NameKind.free)∈l∧c=(cs.lookup n).getD 0
  |[],_,_,h=>by simp[jN] at h
  | (m, k)::r,n,c,h=>by
    unfold jN at h
    split at h
    · rename_i hk
      rw[qd] at h
      rcases List.mem_append.mp h with h |h
      · obtain⟨h1,h2⟩:=wW cs r h
        exact⟨List.mem_cons_of_mem _ h1,h2⟩
      · have e:=List.mem_singleton.mp h
        cases e
        subst hk
        exact⟨List.mem_cons_self,rfl⟩
    · obtain⟨h1,h2⟩:=wW cs r h
      exact⟨List.mem_cons_of_mem _ h1,h2⟩
theorem Ml (cs:List (Str×Addr)):∀(l:List (Str×NameKind)) {n:Str},(n,NameKind.free)∈l→((jN cs l []).lookup n).isSome=true
  |[],_,h=>by simp at h
  | (m, k)::r,n,h=>by
    unfold jN
    split
    · rename_i hk
      rw[qd,List.lookup_append]
      rcases List.mem_cons.mp h with e |h
      · cases e
        simp[List.lookup_cons]
      · simp[Ml cs r h]
    · rename_i hk
      rcases List.mem_cons.mp h with e |h
      · cases e;exact absurd rfl hk
      · exact Ml cs r h
theorem eO:∀(l:List (Str×NameKind)) (n:Nat) (acc:List (Str×Addr)),cellsFrom n l acc=cellsFrom n l []++acc
  |[],_,_=>rfl
  | (m,k)::r,n,acc=>by
    unfold cellsFrom
    split
    · rw[eO r _ (_::acc),eO r _ [_]];simp
    · exact eO r n acc
theorem m6:∀(l:List (Str×NameKind)) (n:Nat) {x:Str} {c:Addr},(x,c)∈cellsFrom n l []→(x,NameKind.cell)∈l∧n≤c
  |[],_,_,_,h=>by simp[cellsFrom] at h
  | (m, k)::r,n,x,c,h=>by
    unfold cellsFrom at h
    split at h
    · rename_i hk
      rw[eO] at h
      rcases List.mem_append.mp h with h |h
      · obtain⟨h1,h2⟩:=m6 r _ h
        exact⟨List.mem_cons_of_mem _ h1,by omega⟩
      · have e:=List.mem_singleton.mp h
        cases e
        have:k= .cell:=by simpa using hk
        subst this
        exact⟨List.mem_cons_self,Nat.le_refl _⟩
    · obtain⟨h1,h2⟩:=m6 r _ h
      exact⟨List.mem_cons_of_mem _ h1,h2⟩
section
variable {M:Model} {A:Around} {E:Value→Shared→Prop} {s:Shared}
theorem agG {scope:Scope} {globals:Addr} {cl:List (Str×Addr)} {qual:Str} {env:PySem.Env} {Q:PySem.Env→Shared→Prop}
    (hQ:Q (newEnv scope s.heap.objs.size globals (cellsFrom (s.heap.objs.size+1) scope.names cl) qual none .none (some env) builtinsNs) {s with heap:=pushCells (s.heap.push {cls:= .type "dict",data:= .dict #[]}) scope.names}):
    wpAny M A (newFunctionEnv scope globals cl [] qual none .none (some env)) Q E s:=by
  simp only[newFunctionEnv,Option.isSome_some,if_true]
  refine wpAny_bind (wpAny_alloc ?_)
  refine wpAny_bind (wpAny_layCells _ (fun name kind cells=>by cases hkc:kind ==NameKind.cell <;> simp[hkc]) _ _ _ _ ?_)
  rw[show ({s with heap:=s.heap.push {cls:= .type "dict",data:= .dict #[]}}:Shared).heap.objs.size=s.heap.objs.size+1 from Heap.size_push ..]
  exact wpAny_bind (wpAny_pure (wpAny_pure hQ))
end
noncomputable def jf (scope:Scope) (env:PySem.Env) (C:Addr):PySem.Env:=
  {scope:=relabel scope env,locals:=C,globals:=env.globals,cells:=cellsFrom (C+1) scope.names (jN env.cells scope.names []),qual:=env.qual,func:=none,code:=env.code,frame:=env.frame,builtins:=env.builtins}
noncomputable def fC (X:Cx) (scope:Scope) (ts:List Str) (C:Addr) (s:Shared) (H:Hp) (ex:List Addr):Cx where
  prog:=X.prog
  w:=X.w
  K:=X.K
  mg:=X.mg
  base:=X.base
  A:=X.A
  N:=ts++gD scope
  s₀:=s
  H₀:=H
  env:=jf scope X.env C
  outer:=X.stack
  stack:=X.stack
  ex:=ex
  fn:=fun x=>decide (scope.names.lookup x=some .cell)
  calm:=X.calm
  pn:=[]
  xe:=fun _ _=>False
theorem sJ {scope:Scope} {env:PySem.Env} {x:Str}:∀{names:List (Str×NameKind)},
    (names.map fun (n,k)=>if (k ==NameKind.free && env.scope.kind == .function && env.kindOf n ==some .cell) then (n,NameKind.cell) else (n,k)).lookup x =
      (names.lookup x).map fun k=>if (k ==NameKind.free && env.scope.kind == .function && env.kindOf x ==some .cell) then .cell else k
  |[]=>rfl
  | (n, k)::r=>by
    have ih:= @sJ scope env x r
    rw[List.map_cons]
    show List.lookup x ((if (k ==NameKind.free && env.scope.kind == .function && env.kindOf n ==some .cell)=true then (n,NameKind.cell) else (n,k))::_)=_
    cases hx:x ==n with
    | true=>
      have e:x=n:=by simpa using hx
      subst e
      by_cases hc:(k ==NameKind.free && env.scope.kind == .function && env.kindOf x ==some .cell)=true
      · rw[if_pos hc]
        simp only[List.lookup_cons,beq_self_eq_true,Option.map_some,hc,if_true]
      · rw[if_neg hc]
        simp only[List.lookup_cons,beq_self_eq_true,Option.map_some,hc,if_false] <;> rfl
    | false=>
      by_cases hc:(k ==NameKind.free && env.scope.kind == .function && env.kindOf n ==some .cell)=true
      · rw[if_pos hc]
        simp only[List.lookup_cons,hx]
        exact ih
      · rw[if_neg hc]
        simp only[List.lookup_cons,hx]
        exact ih
theorem wX {sc:Scope} {x:Str} (h:(x,NameKind.free)∈sc.names):x∈gD sc:=List.mem_map.mpr ⟨(x,.free),List.mem_filter.mpr ⟨h,by simp⟩,rfl⟩
theorem akk {sc:Scope} {x:Str} (h:x∈gD sc):(x,NameKind.free)∈sc.names:=by
  obtain⟨⟨n,k⟩,h1,h2⟩:=List.mem_map.mp h
  obtain⟨h3,h4⟩:=List.mem_filter.mp h1
  have h4:k=NameKind.free:=by simpa using h4
  subst h4
  have h2:n=x:=h2
  subst h2
  exact h3
section
variable {X:Cx} {scope:Scope} {ts:List Str} {C:Addr}
theorem nY (B:KC X.env.scope scope ts X.N) (has:∀x,(X.env.kindOf x=some .cell∨X.env.kindOf x=some .free)→∃c,X.env.cells.lookup x=some c) {x:Str} {c:Addr} (h:(jf scope X.env C).cells.lookup x=some c):
    (scope.names.lookup x=some .cell∧@LE.le Nat _ (C+1) c)∨(x∈gD scope∧X.env.cells.lookup x=some c):=by
  have h:(cellsFrom (C+1) scope.names (jN X.env.cells scope.names [])).lookup x=some c:=h
  rw[eO,List.lookup_append] at h
  cases e:(cellsFrom (C+1) scope.names []).lookup x with
  | some c'=>
    rw[e] at h
    have e2:c'=c:=by simpa using h
    subst e2
    obtain⟨h1,h2⟩:=m6 _ _ (PySem.mem_of_lookup e)
    exact .inl ⟨B.cel _ h1 rfl,h2⟩
  | none=>
    rw[e] at h
    have h:(jN X.env.cells scope.names []).lookup x=some c:=by simpa using h
    obtain⟨h1,h2⟩:=wW _ _ (PySem.mem_of_lookup h)
    have hx:=wX h1
    obtain⟨c',hc'⟩:=has x (B.out x hx)
    rw[hc'] at h2
    have h2:c=c':=h2
    subst h2
    exact .inr ⟨hx,hc'⟩
theorem X6 (B:KC X.env.scope scope ts X.N) {x:Str} {c:Addr} (hx:x∈gD scope) (hc:X.env.cells.lookup x=some c) (has:∀x,(X.env.kindOf x=some .cell∨X.env.kindOf x=some .free)→∃c,X.env.cells.lookup x=some c):(jf scope X.env C).cells.lookup x=some c:=by
  have hs:=Ml X.env.cells scope.names (akk hx)
  obtain⟨c',e⟩:=Option.isSome_iff_exists.mp hs
  have hl:∃d,(jf scope X.env C).cells.lookup x=some d:=by
    show ∃d,(cellsFrom (C+1) scope.names (jN X.env.cells scope.names [])).lookup x=some d
    rw[eO,List.lookup_append,e]
    cases (cellsFrom (C+1) scope.names []).lookup x with
    |none=>exact⟨c',rfl⟩
    |some d=>exact⟨d,rfl⟩
  obtain⟨d,hd⟩:=hl
  rcases nY B has hd with⟨h1,_⟩ |⟨_,h2⟩
  · rw[B.Ue x hx] at h1;cases h1
  · rw[hc] at h2;cases h2;exact hd
theorem aiN (B:KC X.env.scope scope ts X.N) {x:Str} (hx:x∈gD scope):(jf scope X.env C).kindOf x=some .cell∨(jf scope X.env C).kindOf x=some .free:=by
  show (relabel scope X.env).names.lookup x=some .cell∨(relabel scope X.env).names.lookup x=some .free
  have e:(relabel scope X.env).names.lookup x=(scope.names.lookup x).map fun k=>if (k ==NameKind.free && X.env.scope.kind == .function && X.env.kindOf x ==some .cell) then .cell else k:=sJ (scope:=scope)
  rw[e,B.Ue x hx]
  simp only[Option.map_some]
  split
  · exact .inl rfl
  · exact .inr rfl
end
end Pu
namespace Pu
open PySem PySem.Spec L2
open PyProof.Rows hiding St
noncomputable def X7 {α:Type}:R α→R α
  | .err _=> .bad
  | .ok a=> .ok a
  | .bad=> .bad
@[simp] theorem N7 {α:Type} (a:α):X7 (R.ok a)= .ok a:=rfl
noncomputable def nR (k:D→R (Option D)):List D→R (List D)
  |[]=> .ok []
  |x::xs=>(X7 (k x)).bind fun o=>(nR k xs).bind fun ds=> .ok (o.toList++ds)
noncomputable def sO (gt:D→au→R au) (ft:au→R Bool) (fe:au→R D) (ρ:au) (x:D):R (Option D):=
  (gt x ρ).bind fun ρ1=>(ft ρ1).bind fun b=>if b=true then (fe ρ1).bind fun d=> .ok (some d) else .ok none
noncomputable def CQ:Option Ent→Option Ent
  |some (.val d)=>some (.val d)
  |_=>none
noncomputable def KD (n:Nat) (caps:List Nat) (ρ:au):au:=List.replicate n none++caps.map fun k=>((ρ.map CQ)[k]?).join
noncomputable def cj (n:Nat) (caps:List Nat) (fi:au→R (List D)) (gt:D→au→R au) (ft:au→R Bool) (fe:au→R D):au→R D:=
  fun ρ=>(fi ρ).bind fun xs=>(nR (sO gt ft fe (KD n caps ρ)) xs).bind (cap .lst)
noncomputable def G7 (n:Nat) (gt:D→au→R au):Prop:=∀d ρ ρ',gt d ρ= .ok ρ'→∀i,n≤i→ρ'[i]?=ρ[i]?
noncomputable def KH (n:Nat) (gt:List D→au→R au):Prop:=∀d ρ ρ',gt d ρ= .ok ρ'→∀i,n≤i→ρ'[i]?=ρ[i]?
theorem aY {n i:Nat} (h:i < n):G7 n (aL i):=fun d ρ ρ' e j hj=>by
  cases e
  rw[List.getElem?_set_ne (by omega)]
theorem iz {n:Nat}:KH n nilG:=fun d ρ ρ' e j hj=>by
  cases d with
  |nil=>cases e;rfl
  |cons _ _=>cases e
theorem bK {n:Nat} {t:D→au→R au} {u:List D→au→R au} (h1:G7 n t) (h2:KH n u):KH n (bf t u):=fun d ρ ρ' e j hj=>by
  cases d with
  |nil=>cases e
  | cons d ds=>
    have e':(t d ρ).bind (fun ρ'=>u ds ρ')= .ok ρ':=e
    cases q:t d ρ with
    |ok ρ1=>rw[q] at e';rw[h2 ds ρ1 ρ' e' j hj,h1 d ρ ρ1 q j hj]
    |err c=>rw[q] at e';cases e'
    |bad=>rw[q] at e';cases e'
theorem iB {n m:Nat} {u:List D→au→R au} (h:KH n u):G7 n (c7 (dg m u)):=fun d ρ ρ' e j hj=>by
  cases d with
  | tup ds=>
    have e':(if ds.length=m then u ds ρ else .bad)= .ok ρ':=e
    by_cases hl:ds.length=m
    · rw[if_pos hl] at e';exact h ds ρ ρ' e' j hj
    · rw[if_neg hl] at e';cases e'
  |_=>cases e
noncomputable def DTs (Y:Cx) (ifs:List Expr) (ft:au→R Bool):Prop:=∀(pins:List (Addr×Obj)) (s:Shared) (σ:St) (H:Hp) (Q:Bool→Hp→Prop),Inv Y pins σ H s→tG Y rB ft σ H Q→
  wpAny (model Y.prog Y.w) Y.A (forIn ifs true fun c r=>if r=true then do let ok ←isTrue c Y.env (eval c Y.env);pure (ForInStep.yield ok) else pure (ForInStep.yield r)) (TP Y pins σ Q) Y.xe s
theorem cD {Y:Cx}:DTs Y [] (fun _=> .ok true):=fun pins s σ H Q I h=>by
  obtain⟨ρ,O,j,h⟩:=h
  exact wpAny_tests_nil ⟨H,I,fin h rfl⟩
theorem Rf {Y:Cx} {c:Expr} {p:au→R Bool} (hc:DT Y c p):DTs Y [c] p:=fun pins s σ H Q I h=>wpAny_tests_one (hc pins s σ H Q I h)
theorem agH {k:D→R (Option D)} {x:D} {xs:List D} {all:List D} (h:nR k (x::xs)= .ok all):∃o rest,k x= .ok o∧nR k xs= .ok rest∧all=o.toList++rest:=by
  have h:(X7 (k x)).bind (fun o=>(nR k xs).bind fun ds=> .ok (o.toList++ds))= .ok all:=h
  cases e:k x with
  |bad=>rw[e] at h;cases h
  |err c=>rw[e] at h;cases h
  | ok o=>
    rw[e] at h
    cases e2:nR k xs with
    |bad=>rw[e2] at h;cases h
    |err c=>rw[e2] at h;cases h
    | ok rest=>
      rw[e2] at h
      cases h
      exact⟨o,rest,rfl,rfl,rfl⟩
theorem N8 {k:D→R (Option D)}:∀{xs:List D} {c:Str},nR k xs≠.err c
  |[],c=>fun h=>by cases h
  | x ::xs,c=>fun h=>by
    have h:(X7 (k x)).bind (fun o=>(nR k xs).bind fun ds=> .ok (o.toList++ds))= .err c:=h
    cases e:k x with
    |bad=>rw[e] at h;cases h
    |err c=>rw[e] at h;cases h
    | ok o=>
      rw[e] at h
      cases e2:nR k xs with
      |bad=>rw[e2] at h;cases h
      |err c'=>exact N8 e2
      |ok rest=>rw[e2] at h;cases h
section
variable {X:Cx}
theorem adX {o:Option Ent} {e:Ent} (h:CQ o=some e):o=some e∧e.isV=true:=by
  cases o with
  |none=>cases h
  | some e'=>
    cases e' with
    |val d=>cases h;exact⟨rfl,rfl⟩
    |lst _=>cases h
    |G5 _=>cases h
    |obj _=>cases h
theorem CV {ρ:au} {i:Nat} {e:Ent} (h:(ρ.map CQ)[i]?=some (some e)):ρ[i]?=some (some e)∧e.isV=true:=by
  rw[List.getElem?_map] at h
  cases q:ρ[i]? with
  |none=>rw[q] at h;cases h
  | some o=>
    rw[q] at h
    obtain⟨h1,h2⟩:=adX (Option.some.inj h)
    rw[h1];exact⟨rfl,h2⟩
theorem In.vals {O:Addr→Prop} {H:Hp} {ρ:au} {σ:St} (j:In X O H ρ σ):In X O H (ρ.map CQ) σ:=
  ⟨⟨fun i e h=>j.env.get i e (CV h).1,fun i k e e' v hik hi hk=>j.env.sep i k e e' v hik (CV hi).1 (CV hk).1⟩,j.al,j.len,by rw[List.length_map];exact j.vf⟩
theorem adY {N caps:List Str} {ks:List Nat} {n:Nat} {ρ:au} (h:caps.map (fun x=>vg x N)=ks):pull N caps n (ρ.map CQ)=KD n ks ρ:=by
  unfold pull KD
  rw[←h,List.map_map]
  rfl
theorem akl {scope:Scope} {ts:List Str} {pins:List (Addr×Obj)} {σ:St} {H:Hp} {s:Shared} {fp:List Addr} (I:Inv X pins σ H s) (B:KC X.env.scope scope ts X.N)
    (hf:∀b∈fp,FpOk X pins H b) (ho:∀b∈fp,b < s.heap.objs.size) {h4:Heap} {C:Nat} (hC:C=s.heap.objs.size+1)
    (e4:h4=pushCells ((s.heap.push {cls:= .type "list",dict:=none,data:= .seq ([]:List Value).toArray}).push {cls:= .type "dict",data:= .dict #[]}) scope.names):
    Inv (fC X scope ts C s H fp) [] (pull X.N (gD scope) ts.length σ) (upd H s.heap.objs.size (.lst [])) {s with heap:=h4}:=by
  have hD:H s.heap.objs.size=none:=I.hok.fresh (Nat.le_refl _)
  have aj7:∀b o,(s.heap.push {cls:= .type "list",dict:=none,data:= .seq ([]:List Value).toArray}).get? b=some o→h4.get? b=some o:=fun b o e=>by
    rw[e4];exact pushCells_keeps _ _ b o (Heap.get?_push_of_some _ e)
  have keep:∀b o,s.heap.get? b=some o→h4.get? b=some o:=fun b o e=>aj7 b o (Heap.get?_push_of_some _ e)
  have sz3:(s.heap.push {cls:= .type "list",dict:=none,data:= .seq ([]:List Value).toArray}).objs.size=s.heap.objs.size+1:=Heap.size_push ..
  have hns:h4.Ns C fun _=>none:=by
    rw[e4,hC,←sz3]
    exact (Heap.Ns.new _ (.type "dict")).keeps (pushCells_keeps _ _)
  have ok:=cellsFrom_ok scope.names ((s.heap.push {cls:= .type "list",dict:=none,data:= .seq ([]:List Value).toArray}).push {cls:= .type "dict",data:= .dict #[]}) (C+1) [] ⟨fun _ _ hm=>(nomatch hm),List.Pairwise.nil⟩ (by rw[Heap.size_push,sz3,hC];exact Nat.le_refl _)
  rw[Heap.size_push,sz3,←hC,←e4] at ok
  have akm:∀x c,(jf scope X.env C).cells.lookup x=some c→scope.names.lookup x=some .cell→h4.IsCell c none:=fun x c h hk=>by
    have h:(cellsFrom (C+1) scope.names (jN X.env.cells scope.names [])).lookup x=some c:=h
    rw[eO,List.lookup_append] at h
    cases e:(cellsFrom (C+1) scope.names []).lookup x with
    | some c'=>
      rw[e] at h
      have e2:c'=c:=by simpa using h
      subst e2
      exact (ok.empty x c' (PySem.mem_of_lookup e)).1
    | none=>
      rw[e] at h
      have h:(jN X.env.cells scope.names []).lookup x=some c:=by simpa using h
      have:=B.Ue x (wX (wW _ _ (PySem.mem_of_lookup h)).1)
      rw[hk] at this;cases this
  have adZ:∀x (c:Nat),X.env.cells.lookup x=some c→c < s.heap.objs.size:=fun x c e=>by
    obtain⟨v,q⟩:=I.cell x c e
    exact q.lt
  have alL:∀x c,(jf scope X.env C).cells.lookup x=some c→∃v,h4.IsCell c v:=fun x c h=>by
    rcases nY B I.ok.has h with⟨h1,_⟩ |⟨_,h2⟩
    · exact⟨_,akm x c h h1⟩
    · obtain⟨v,q⟩:=I.cell x c h2
      exact⟨v,q.keeps keep⟩
  refine⟨⟨I.ok.mod,B.kind,I.ok.glob,I.ok.blt,by show @LE.le Nat _ s.heap.objs.size C;omega,?inj,?has,?cab,I.ok.hd,I.ok.frames,.inl rfl,?exf,I.bs,Nat.le_trans I.ok.bsz I.sz,?noex,?exfs,I.stack,I.stkFree⟩,
    rfl,I.bare,Un.laid keep (Nat.le_refl _) hD,⟨_,hns,?loc⟩,alL,?free,?freeC,fun p hp=>absurd (show p∈([]:List (Addr×Obj)) from hp) (by simp),I.hok.laid keep (Nat.le_refl _) ?new,?len⟩
  case inj=>
    intro x y c h1 h2
    have h1:(jf scope X.env C).cells.lookup x=some c:=h1
    have h2:(jf scope X.env C).cells.lookup y=some c:=h2
    rcases nY B I.ok.has h1 with⟨a1,a2⟩ |⟨a1,a2⟩ <;> rcases nY B I.ok.has h2 with⟨b1,b2⟩ |⟨b1,b2⟩
    · -- both its own
      have look:∀z,(jf scope X.env C).cells.lookup z=some c→scope.names.lookup z=some .cell→(z,c)∈cellsFrom (C+1) scope.names []:=fun z h hk=>by
        have h:(cellsFrom (C+1) scope.names (jN X.env.cells scope.names [])).lookup z=some c:=h
        rw[eO,List.lookup_append] at h
        cases e:(cellsFrom (C+1) scope.names []).lookup z with
        | some c'=>
          rw[e] at h
          have e2:c'=c:=by simpa using h
          subst e2
          exact PySem.mem_of_lookup e
        | none=>
          rw[e] at h
          have h:(jN X.env.cells scope.names []).lookup z=some c:=by simpa using h
          have:=B.Ue z (wX (wW _ _ (PySem.mem_of_lookup h)).1)
          rw[hk] at this;cases this
      exact name_of_addr ok.apart (look x h1 a1) (look y h2 b1)
    · have:=adZ y c b2;omega
    · have:=adZ x c a2;omega
    · exact I.ok.inj x y c a2 b2
  case has=>
    intro x hx
    have hx:(relabel scope X.env).names.lookup x=some .cell∨(relabel scope X.env).names.lookup x=some .free:=hx
    have hx:(scope.names.map fun (n,k)=>if (k ==NameKind.free && X.env.scope.kind == .function && X.env.kindOf n ==some .cell) then (n,NameKind.cell) else (n,k)).lookup x=some .cell∨(scope.names.map fun (n,k)=>if (k ==NameKind.free && X.env.scope.kind == .function && X.env.kindOf n ==some .cell) then (n,NameKind.cell) else (n,k)).lookup x=some .free:=hx
    rw[sJ (scope:=scope)] at hx
    cases e:scope.names.lookup x with
    |none=>rw[e] at hx;rcases hx with z |z <;> cases z
    | some k=>
      rw[e] at hx
      by_cases hk:k= .free
      · subst hk
        have hm:=wX (PySem.mem_of_lookup e)
        obtain⟨c,hc⟩:=I.ok.has x (B.out x hm)
        exact⟨c,X6 B hm hc I.ok.has⟩
      · have hk':(k ==NameKind.free)=false:=by simpa using hk
        simp only[Option.map_some,hk',Bool.false_and,Bool.false_eq_true,if_false] at hx
        have hc:k= .cell:=by
          rcases hx with z |z
          · exact Option.some.inj z
          · exact absurd (Option.some.inj z) hk
        subst hc
        have q:=PySem.W.cellsFrom_some scope.names (C+1) (jN X.env.cells scope.names []) (.inl e)
        exact Option.isSome_iff_exists.mp q
  case cab=>
    intro x c hfn h
    have h:(jf scope X.env C).cells.lookup x=some c:=h
    have hfn:scope.names.lookup x=some .cell:=of_decide_eq_true hfn
    rcases nY B I.ok.has h with⟨_,a2⟩ |⟨a1,_⟩
    · show @LE.le Nat _ s.heap.objs.size c;omega
    · rw[B.Ue x a1] at hfn;cases hfn
  case exf=>
    intro b hb
    have hb:b∈fp:=hb
    have hl: @LT.lt Nat _ b s.heap.objs.size:=ho b hb
    refine⟨by show @Ne Nat b C;omega,fun x c h=>?_⟩
    rcases nY B I.ok.has h with⟨_,a2⟩ |⟨_,a2⟩
    · show @Ne Nat c b;omega
    · exact (hf b hb).2.2.2.2.1 x c a2
  case noex=>
    intro b o e hb
    have hb:b∈fp:=hb
    rcases (hf b hb).2.2.2.1 with z |z
    · exact I.ok.noex b o e z
    · exact absurd (Nat.lt_of_lt_of_le (Heap.lt_size e) (Nat.le_trans I.ok.bsz z)) (Nat.lt_irrefl _)
  case exfs=>
    intro b hb hz
    have hb:b∈fp:=hb
    have hz:b∈frs X.stack:=hz
    rcases List.mem_cons.mp (I.stkSub b hz) with z |z
    · exact (hf b hb).2.1 z
    · exact (hf b hb).2.2.1 z
  case loc=>
    intro i x v h1 h2 h3
    have h1:(ts++gD scope)[i]?=some x:=h1
    obtain⟨k,y,e1,e2,e3⟩:=wV h2
    have hy:x=y:=by
      rw[e1,List.getElem?_append_right (by omega),show ts.length+k - ts.length=k by omega,e2] at h1
      exact (Option.some.inj h1).symm
    subst hy
    have hm:x∈gD scope:=List.mem_of_getElem? e2
    obtain⟨m,_,hl⟩:=I.loc
    have vis:Vis X.env.scope x:=by
      rcases B.out x hm with z |z
      · exact .inr (.inl z)
      · exact .inr (.inr z)
    obtain⟨u,ru,lk⟩:=hl (vg x X.N) x v (CN (B.mem x hm)) e3 vis
    refine⟨u,ru,.inr ⟨aiN B hm,?_⟩⟩
    rcases lk with⟨z,_⟩ |⟨_,c,hc,q⟩
    · have z:X.env.scope.names.lookup x=some .local:=z
      rcases B.out x hm with z' |z' <;> rw[z] at z' <;> cases z'
    · exact⟨c,X6 B hm hc I.ok.has,q.keeps keep⟩
  case free=>
    show upd H s.heap.objs.size (.lst []) C=none
    rw[upd_ne (show @Ne Nat C s.heap.objs.size by omega)]
    exact I.hok.fresh (show @LE.le Nat _ s.heap.objs.size C by omega)
  case freeC=>
    intro x c h
    rcases nY B I.ok.has h with⟨_,a2⟩ |⟨_,a2⟩
    · rw[upd_ne (show @Ne Nat c s.heap.objs.size by omega)]
      exact I.hok.fresh (show @LE.le Nat _ s.heap.objs.size c by omega)
    · have:=adZ x c a2
      rw[upd_ne (show @Ne Nat c s.heap.objs.size by omega)]
      exact I.freeC x c a2
  case new=>
    exact⟨Nat.zero_le _,[],0,.nil,aj7 _ _ (Heap.get?_push_size _ rfl)⟩
  case len=>
    show (pull X.N (gD scope) ts.length σ).length=(ts++gD scope).length
    rw[CP,List.length_append]
theorem alM {scope:Scope} {ts:List Str} {σ:St} {ρ:au} {H:Hp} {s:Shared} {fp:List Addr} {O:Addr→Prop} {C:Addr} (B:KC X.env.scope scope ts X.N) (j:In X O H ρ σ):In (fC X scope ts C s H fp) O H (pull X.N (gD scope) ts.length ρ) (pull X.N (gD scope) ts.length σ):=by
  refine⟨⟨fun i e h=>?_,fun i k e e' v hik hi hk oi ok si sk=>?_⟩,j.al,?_,?_⟩
  · obtain⟨m,x,rfl,e1,e2⟩:=wV h
    obtain⟨v,e3,r⟩:=j.env.get _ e e2
    exact⟨v,by rw[Rc e1,e3];rfl,r⟩
  · obtain⟨m,x,rfl,e1,e2⟩:=wV hi
    obtain⟨m',x',rfl,e1',e2'⟩:=wV hk
    have hx:x≠x':=fun z=>by
      subst z
      have nd:=(List.nodup_append.mp B.nd).2.1
      exact hik (by rw[nodup_ix nd e1 e1'])
    have hm:=B.mem x (List.mem_of_getElem? e1)
    have hm':=B.mem x' (List.mem_of_getElem? e1')
    have hne:vg x X.N≠vg x' X.N:=fun z=>by
      have q1:=CN hm
      have q2:=CN hm'
      rw[z,q2] at q1
      exact hx (Option.some.inj q1).symm
    rw[Rc e1] at si
    rw[Rc e1'] at sk
    exact j.env.sep _ _ e e' v hne e2 e2' oi ok (join_some (Option.some.inj si)) (join_some (Option.some.inj sk))
  · show (pull X.N (gD scope) ts.length σ).length=(ts++gD scope).length
    rw[CP,List.length_append]
  · show (pull X.N (gD scope) ts.length ρ).length=(ts++gD scope).length
    rw[CP,List.length_append]
end
end Pu
namespace Pu
open PySem PySem.Spec L2
open PyProof.Rows hiding St
theorem jz:1000000 < sizeLine:=by rw[sizeLine_eq];decide
section
variable {X:Cx}
theorem In.back {Y:Cx} {O:Addr→Prop} {H:Hp} {ρ ρ1:au} {σ:St} {n:Nat} (j:In Y O H ρ1 σ) (h0:∀i,i < n→ρ[i]?=some none) (h1:∀i,n≤i→ρ1[i]?=ρ[i]?) (hl:ρ.length=Y.N.length):In Y O H ρ σ:=by
  have sub:∀(i:Nat) e,ρ[i]?=some (some e)→ρ1[i]?=some (some e):=fun i e h=>by
    by_cases hi:i < n
    · rw[h0 i hi] at h;cases h
    · rw[h1 i (by omega)];exact h
  exact⟨⟨fun i e h=>j.env.get i e (sub i e h),fun i k e e' v hik hi hk=>j.env.sep i k e e' v hik (sub i e hi) (sub k e' hk)⟩,j.al,j.len,hl⟩
theorem agI {α:Type} {N caps:List Str} {n:Nat} {l:List (Option α)} {i:Nat} (h:i < n):(pull N caps n l)[i]?=some none:=by
  unfold pull
  rw[List.getElem?_append_left (by simpa using h),List.getElem?_replicate,if_pos h]
theorem In.go {Y:Cx} {O O':Addr→Prop} {H H':Hp} {ρ:au} {σ:St} (j:In Y O H ρ σ) (hv:∀(i:Nat) e,ρ[i]?=some (some e)→e.isV=true) (r:iu Y.K O H O' H') (al:∀a,O' a→∃o,H' a=some o):In Y O' H' ρ σ:=by
  refine⟨⟨fun i e h=>?_,fun i k e e' v _ hi _ oi=>?_⟩,al,j.len,j.vf⟩
  · obtain⟨v,h1,h2⟩:=j.env.get i e h
    refine⟨v,h1,?_⟩
    cases e with
    |val d=>exact Rep.go r h2
    |lst _=>cases hv i _ h
    |G5 _=>cases hv i _ h
    |obj _=>cases hv i _ h
  · rw[akj (hv i e hi)] at oi;cases oi
theorem Ug {N caps:List Str} {n:Nat} {ρ:au}:∀(i:Nat) e,(pull N caps n (ρ.map CQ))[i]?=some (some e)→e.isV=true:=fun i e h=>by
  obtain⟨_,_,_,_,q⟩:=wV h
  exact (CV q).2
end
end Pu
namespace Pu
open PySem PySem.Spec L2
open PyProof.Rows hiding St
inductive So where
  |bad |nx (ρ:au) |rt (d:D) |bk (ρ:au) |ct (ρ:au) |ex (c:Str) (ρ:au)
structure At (X:Cx) (H0:Hp) (O0 O:Addr→Prop) (H:Hp) (ρ:au) (σ:St):Prop where
  same:Same H0 H
  iR:iu X.K O0 H0 O H
  sub:∀a,O0 a→O a
  inn:In X O H ρ σ
  mine:∀(i:Nat) e a,ρ[i]?=some (some e)→e.own=true→σ[i]?=some (some (.ref a))→H0 a=none∧¬O0 a
noncomputable def Gj (X:Cx) (H0:Hp) (O0 O:Addr→Prop) (H:Hp) (E:Ends) (o:So):Prop:=match o with
  | .nx ρ'=>∀σ' H' O',At X H0 O0 O' H' ρ' σ'→iu X.K O H O' H'→E.nx σ' H'
  | .bk ρ'=>∀σ' H' O',At X H0 O0 O' H' ρ' σ'→iu X.K O H O' H'→E.bk σ' H'
  | .ct ρ'=>∀σ' H' O',At X H0 O0 O' H' ρ' σ'→iu X.K O H O' H'→E.ct σ' H'
  | .rt d=>∀v H',Same H0 H'→Rep X.K O0 H' d v→E.rt v H'
  | .ex c ρ'=>∀σ' H' O',At X H0 O0 O' H' ρ' σ'→Ua X c σ' H'
  | .bad=>False
theorem Gj.go {X:Cx} {H0 H H1:Hp} {O0 O O1:Addr→Prop} {E:Ends} {o:So} (h:Gj X H0 O0 O H E o) (r:iu X.K O H O1 H1):Gj X H0 O0 O1 H1 E o:=by
  cases o with
  |bad=>exact h
  |rt d=>exact h
  |bk ρ2=>exact fun σ2 H2 O2 j2 r2=>h σ2 H2 O2 j2 (r.trans r2)
  |ct ρ2=>exact fun σ2 H2 O2 j2 r2=>h σ2 H2 O2 j2 (r.trans r2)
  |nx ρ2=>exact fun σ2 H2 O2 j2 r2=>h σ2 H2 O2 j2 (r.trans r2)
  |ex c ρ2=>exact h
noncomputable def tS (X:Cx) (g:au→So):TS:=fun E σ H=>∃H0 O0 O ρ,At X H0 O0 O H ρ σ∧Gj X H0 O0 O H E (g ρ)
noncomputable def DS (X:Cx) (st:Stmt) (g:au→So):Prop:=PS X st (tS X g)
noncomputable def cG (X:Cx) (st:List Stmt) (g:au→So):Prop:=PSs X st (tS X g)
theorem PS.imp {X:Cx} {e:Stmt} {t t':TS} (h:PS X e t) (w:∀σ H Q,t' Q σ H→t Q σ H):PS X e t':=fun pins s σ H Q I q=>h pins s σ H Q I (w σ H Q q)
theorem PSs.imp {X:Cx} {e:List Stmt} {t t':TS} (h:PSs X e t) (w:∀σ H Q,t' Q σ H→t Q σ H):PSs X e t':=fun pins s σ H Q I q=>h pins s σ H Q I (w σ H Q q)
section
variable {X:Cx} {H0 H H1:Hp} {O0 O:Addr→Prop} {ρ:au} {σ:St}
theorem At.grow (j:At X H0 O0 O H ρ σ) (s:Same H H1):At X H0 O0 O H1 ρ σ:=⟨j.same.trans s,j.iR.trans (Same.iR s),j.sub,j.inn.same s,j.mine⟩
theorem At.set (j:At X H0 O0 O H ρ σ) {i:Nat} (hi:i < X.N.length) {d:D} {v:V} (r:Rep X.K O H d v):At X H0 O0 O H (ρ.set i (some (.val d))) (σ.set i (some v)):=by
  refine⟨j.same,j.iR,j.sub,j.inn.set hi r,fun k e a h ho hs=>?_⟩
  have h1:i < ρ.length:=by rw[j.inn.vf];exact hi
  by_cases hk:k=i
  · subst hk
    rw[List.getElem?_set_self h1] at h
    cases h;cases ho
  · rw[List.getElem?_set_ne (Ne.symm hk)] at h hs
    exact j.mine k e a h ho hs
noncomputable def ad0:Option Ent→Option Ent
  |some (.lst ds)=>some (.val (.lst ds))
  |o=>o
noncomputable def dN (ρ:au):au:=ρ.map ad0
noncomputable def thO (ρ:au) (σ:St) (O:Addr→Prop):Addr→Prop:=fun a=>O a∧∀(i:Nat) ds,ρ[i]?=some (some (.lst ds))→σ[i]?≠some (some (.ref a))
theorem X8 {i:Nat} {e:Ent} (h:(dN ρ)[i]?=some (some e)):(ρ[i]?=some (some e)∧∀ds,e≠.lst ds)∨∃ds,ρ[i]?=some (some (.lst ds))∧e= .val (.lst ds):=by
  unfold dN at h
  rw[List.getElem?_map] at h
  cases q:ρ[i]? with
  |none=>rw[q] at h;cases h
  | some o=>
    rw[q] at h
    have h:ad0 o=some e:=Option.some.inj h
    cases o with
    |none=>cases h
    | some e'=>
      cases e' with
      |val d=>cases h;exact .inl ⟨rfl,fun _ z=>by cases z⟩
      |lst ds=>cases h;exact .inr ⟨ds,rfl,rfl⟩
      |G5 kvs=>cases h;exact .inl ⟨rfl,fun _ z=>by cases z⟩
      |obj t=>cases h;exact .inl ⟨rfl,fun _ z=>by cases z⟩
theorem In.dN (j:In X O H ρ σ):In X (thO ρ σ O) H (Pu.dN ρ) σ:=by
  refine⟨⟨fun i e h=>?_,fun i k e e' v hik hi hk oi ok si sk=>?_⟩,fun a z=>j.al a z.1,j.len,by unfold Pu.dN;rw[List.length_map];exact j.vf⟩
  · rcases X8 h with⟨h1,h2⟩ |⟨ds,h1,rfl⟩
    · obtain⟨v,h3,h4⟩:=j.env.get i e h1
      refine⟨v,h3,?_⟩
      cases e with
      |val d=>exact Rep.fewer (fun a z=>z.1) h4
      |lst ds=>exact absurd rfl (h2 ds)
      |obj t=>exact h4
      | G5 kvs=>
        obtain⟨a,ys,e1,o1,e2,k1,r1⟩:=h4
        refine⟨a,ys,e1,⟨o1,fun k ds hk hs=>?_⟩,e2,k1,r1.fewer fun a z=>z.1⟩
        by_cases hik:i=k
        · subst hik;rw[h1] at hk;cases hk
        · exact j.env.sep i k _ _ v hik h1 hk rfl rfl h3 (by rw[e1];exact hs)
    · obtain⟨v,h3,a,xs,e1,o1,e2,r1⟩:=j.env.get i _ h1
      exact⟨v,h3,by rw[e1];exact wI (SqL.of e2) (fun z=>z.2 i ds h1 (by rw[←e1];exact h3)) (r1.fewer fun a z=>z.1)⟩
  · have un:∀{m:Nat} {e:Ent},(Pu.dN ρ)[m]?=some (some e)→e.own=true→ρ[m]?=some (some e):=fun {m e} h ho=>by
      rcases X8 h with⟨h1,_⟩ |⟨ds,_,rfl⟩
      · exact h1
      · cases ho
    exact j.env.sep i k e e' v hik (un hi oi) (un hk ok) oi ok si sk
theorem At.ano (j:At X H0 O0 O H ρ σ):∀a,O0 a→thO ρ σ O a:=fun a z=>⟨j.sub a z,fun i ds h hs=>(j.mine i _ a h rfl hs).2 z⟩
end
section
variable {X:Cx} {st:Stmt} {rest:List Stmt} {g k:au→So} {f:au→R D} {p:au→R Bool} {e:Expr} {pos:Pos}
noncomputable def aO (g k:au→So):au→So:=fun ρ=>match g ρ with
  | .nx ρ'=>k ρ'
  |o=>o
theorem bU:cG X [] .nx:=PSs.imp pss_nil fun σ H E h=>by
  obtain⟨H0,O0,O,ρ,j,h⟩:=h
  exact h σ H O j .refl
theorem aK (h:DS X st g):cG X [st] g:=pss_one h
theorem aH (h1:DS X st g) (h2:cG X rest k):cG X (st::rest) (aO g k):=by
  refine PSs.imp (pss_cons h1 h2) fun σ H E h=>?_
  obtain⟨H0,O0,O,ρ,j,h⟩:=h
  unfold aO at h
  refine⟨H0,O0,O,ρ,j,?_⟩
  cases e1:g ρ with
  |bad=>rw[e1] at h;exact h
  |rt d=>rw[e1] at h;exact h
  |bk ρ'=>rw[e1] at h;exact h
  |ct ρ'=>rw[e1] at h;exact h
  |ex c ρ'=>rw[e1] at h;exact h
  | nx ρ'=>
    rw[e1] at h
    have h:Gj X H0 O0 O H E (k ρ'):=h
    exact fun σ' H' O' j' r'=>⟨H0,O0,O',ρ',j',h.go r'⟩
noncomputable def nZ (r:R D) (ρ:au) (k:D→So):So:=match r with
  | .ok d=>k d
  | .err c=> .ex c ρ
  | .bad=> .bad
noncomputable def retS (f:au→R D):au→So:=fun ρ=>nZ (f (dN ρ)) ρ .rt
theorem aX (he:DE X e f):DS X (.Return (some e) pos) (retS f):=by
  refine PS.imp (ps_ret he) fun σ H E h=>?_
  obtain⟨H0,O0,O,ρ,j,h⟩:=h
  refine⟨dN ρ,thO ρ σ O,j.inn.dN,?_⟩
  unfold retS nZ at h
  cases e1:f (dN ρ) with
  |bad=>rw[e1] at h;exact h
  |err c=>rw[e1] at h;exact h σ H O j
  |ok d=>rw[e1] at h;exact fun v H' s r=>h v H' (j.same.trans s) (Rep.fewer j.ano r)
noncomputable def mJ (f:au→R D):au→So:=fun ρ=>nZ (f (dN ρ)) ρ fun _=> .nx ρ
theorem lN (he:DE X e f) (hs:swapsWith e none pos.line X.env=pure false:=by rfl):DS X (.Expr e pos) (mJ f):=by
  refine PS.imp (ps_expr he hs) fun σ H E h=>?_
  obtain⟨H0,O0,O,ρ,j,h⟩:=h
  refine⟨dN ρ,thO ρ σ O,j.inn.dN,?_⟩
  unfold mJ nZ at h
  cases e1:f (dN ρ) with
  |bad=>rw[e1] at h;exact h
  |err c=>rw[e1] at h;exact h σ H O j
  |ok d=>rw[e1] at h;exact fun v H' s r=>h σ H' O (j.grow s) (Same.iR s)
noncomputable def bH (f:au→R D) (gt:D→au→R au):au→So:=fun ρ=>nZ (f ρ) ρ fun d=>match gt d ρ with
  | .ok ρ'=> .nx ρ'
  |_=> .bad
theorem bN (i:Nat) {x:Str} {pos':Pos} (hN:X.N.Nodup) (he:DE X e f) (hi:X.N[i]?=some x:=by rfl) (hx:Loc X.env.scope x:=by first |exact Or.inl rfl |exact Or.inr rfl) (hs:swapsWith e (some (.Name x pos')) pos.line X.env=pure false:=by rfl)
    (hf:X.fn x=true∨X.env.scope.names.lookup x=some .local:=by first |exact .inl rfl |exact .inr rfl):DS X (.Assign [.Name x pos'] e pos) (bH f (aL i)):=by
  refine PS.imp (ps_set hN hi hx he hs hf) fun σ H E h=>?_
  obtain⟨H0,O0,O,ρ,j,h⟩:=h
  refine⟨ρ,O,j.inn,?_⟩
  unfold bH nZ at h
  cases e1:f ρ with
  |bad=>rw[e1] at h;exact h
  |err c=>rw[e1] at h;exact h σ H O j
  |ok d=>rw[e1] at h;exact fun v H' s r=>h _ H' O ((j.grow s).set (List.getElem?_eq_some_iff.mp hi).1 r) (Same.iR s)
theorem qN (i k:Nat) {x y:Str} {px py pt:Pos} {kt} (hc:X.calm=true) (hN:X.N.Nodup) (he:DE X e f) (hi:X.N[i]?=some x:=by rfl) (hk:X.N[k]?=some y:=by rfl)
    (hx:Loc X.env.scope x:=by first |exact Or.inl rfl |exact Or.inr rfl) (hy:Loc X.env.scope y:=by first |exact Or.inl rfl |exact Or.inr rfl)
    (hfx:X.fn x=true∨X.env.scope.names.lookup x=some .local:=by first |exact .inl rfl |exact .inr rfl) (Yb:X.fn y=true∨X.env.scope.names.lookup y=some .local:=by first |exact .inl rfl |exact .inr rfl)
    (hs:swapsWithSole [.Tuple [.Name x px,.Name y py] kt pt] e pos.line X.env=pure false:=by rfl) (hw:swappedStores [.Tuple [.Name x px,.Name y py] kt pt] e X.env=pure none:=by rfl):
    DS X (.Assign [.Tuple [.Name x px,.Name y py] kt pt] e pos) (bH f (c7 (dg 2 (bf (aL i) (bf (aL k) nilG))))):=by
  refine PS.imp (ps_asg he (pg_tup hc (pgs_cons (pg_name hN hi hx hfx) (pgs_cons (pg_name hN hk hy Yb) pgs_nil))) hs hw) fun σ H E h=>?_
  obtain⟨H0,O0,O,ρ,j,h⟩:=h
  refine⟨ρ,O,j.inn,?_⟩
  unfold bH nZ at h
  cases e1:f ρ with
  |bad=>rw[e1] at h;exact h
  |err c=>rw[e1] at h;exact h σ H O j
  | ok d=>
    rw[e1] at h
    intro v H' s r
    cases d with
    | tup ds=>
      match ds,h,r with
      |[],h,_=>exact h.elim
      |[_],h,_=>exact h.elim
      |_::_::_::_,h,_=>exact (show False by simpa[c7,dg,Gj] using h).elim
      | [d1,d2],h,r=>
        obtain⟨a,xs,rfl,hq,rs⟩:=r.tup
        obtain⟨v1,v2,rfl,r1,r2⟩:=rs.two
        refine⟨a,[v1,v2],rfl,hq,rfl,v1,[v2],rfl,v2,[],rfl,rfl,?_⟩
        exact h _ H' O (((j.grow s).set (List.getElem?_eq_some_iff.mp hi).1 r1).set (List.getElem?_eq_some_iff.mp hk).1 r2) (Same.iR s)
    |_=>exact h.elim
noncomputable def dU (p:au→R Bool) (g k:au→So):au→So:=fun ρ=>match p (dN ρ) with
  | .ok true=>g ρ
  | .ok false=>k ρ
  | .err c=> .ex c ρ
  | .bad=> .bad
theorem acX {g:au→So} {E:Ends} {H0 H H1:Hp} {O0 O:Addr→Prop} {ρ:au} {σ:St} (j:At X H0 O0 O H ρ σ) (s:Same H H1) (h:Gj X H0 O0 O H E (g ρ)):tS X g E σ H1:=
  ⟨H0,O0,O,ρ,j.grow s,h.go (Same.iR s)⟩
theorem cT {c:Expr} {a b:List Stmt} (hc:DT X c p) (ha:cG X a g) (hb:cG X b k):DS X (.If c a b pos) (dU p g k):=by
  refine PS.imp (ps_if hc ha hb) fun σ H E h=>?_
  obtain⟨H0,O0,O,ρ,j,h⟩:=h
  refine⟨dN ρ,thO ρ σ O,j.inn.dN,?_⟩
  unfold dU at h
  cases e1:p (dN ρ) with
  |bad=>rw[e1] at h;exact h
  |err c=>rw[e1] at h;exact h σ H O j
  | ok t=>
    rw[e1] at h
    intro b' H' s e
    subst e
    cases t with
    |true=>rw[if_pos rfl];exact acX j s h
    |false=>rw[if_neg Bool.false_ne_true];exact acX j s h
theorem qG:DS X st (fun _=> .bad):=fun pins s σ H E I h=>by
  obtain⟨_,_,_,_,_,h⟩:=h
  exact h.elim
noncomputable def forL (gt:D→au→R au) (b:au→So):List D→au→So
  |[],ρ=> .nx ρ
  | x ::xs,ρ=>match gt x ρ with
    | .ok ρ1=>match b ρ1 with
      | .nx ρ2=>forL gt b xs ρ2
      | .ct ρ2=>forL gt b xs ρ2
      | .bk ρ2=> .nx ρ2
      |o=>o
    |_=> .bad
noncomputable def qH (fi:au→R (List D)) (gt:D→au→R au) (b:au→So):au→So:=fun ρ=>match fi ρ with
  | .ok xs=>forL gt b xs ρ
  | .err c=> .ex c ρ
  | .bad=> .bad
inductive alN (X:Cx) (gt:D→au→R au) (v:V) (σ:St) (H:Hp) (Q:St→Hp→Prop):Prop
  |mk (H0:Hp) (O0 O:Addr→Prop) (ρ:au) (d:D) (ρ':au) (j:At X H0 O0 O H ρ σ) (r:Rep X.K O H d v) (e:gt d ρ= .ok ρ') (q:∀σ',At X H0 O0 O H ρ' σ'→Q σ' H):alN X gt v σ H Q
noncomputable def DGA (X:Cx) (tg:Expr) (gt:D→au→R au):Prop:=PG X tg fun v σ H Q=>alN X gt v σ H Q
theorem wY (i:Nat) {x:Str} (hN:X.N.Nodup) (hi:X.N[i]?=some x:=by rfl) (hx:Loc X.env.scope x:=by first |exact Or.inl rfl |exact Or.inr rfl) (hf:X.fn x=true∨X.env.scope.names.lookup x=some .local:=by first |exact .inl rfl |exact .inr rfl):DGA X (.Name x pos) (aL i):=by
  intro pins s σ H v u Q I r h
  obtain⟨H0,O0,O,ρ,d,ρ',j,rd,e,q⟩:=h
  cases e
  exact pg_name hN hi hx hf pins s σ H v u Q I r (q _ (j.set (List.getElem?_eq_some_iff.mp hi).1 rd))
theorem wL (i k:Nat) {x y:Str} {px py:Pos} {kt} (hc:X.calm=true) (hN:X.N.Nodup) (hi:X.N[i]?=some x:=by rfl) (hk:X.N[k]?=some y:=by rfl)
    (hx:Loc X.env.scope x:=by first |exact Or.inl rfl |exact Or.inr rfl) (hy:Loc X.env.scope y:=by first |exact Or.inl rfl |exact Or.inr rfl)
    (hfx:X.fn x=true∨X.env.scope.names.lookup x=some .local:=by first |exact .inl rfl |exact .inr rfl) (Yb:X.fn y=true∨X.env.scope.names.lookup y=some .local:=by first |exact .inl rfl |exact .inr rfl):
    DGA X (.Tuple [.Name x px,.Name y py] kt pos) (c7 (dg 2 (bf (aL i) (bf (aL k) nilG)))):=by
  intro pins s σ H v u Q I r h
  obtain⟨H0,O0,O,ρ,d,ρ',j,rd,e,q⟩:=h
  cases d with
  | tup ds=>
    match ds,e,rd with
    |[],e,_=>cases e
    |[_],e,_=>cases e
    |_::_::_::_,e,_=>simp[c7,dg] at e
    | [d1,d2],e,rd=>
      obtain⟨a,xs,rfl,hq,rs⟩:=rd.tup
      obtain⟨v1,v2,rfl,r1,r2⟩:=rs.two
      cases e
      refine pg_tup hc (pgs_cons (pg_name hN hi hx hfx) (pgs_cons (pg_name hN hk hy Yb) pgs_nil)) rfl rfl pins s σ H _ u Q I r ⟨a,[v1,v2],rfl,hq,rfl,v1,[v2],rfl,v2,[],rfl,rfl,?_⟩
      exact q _ ((j.set (List.getElem?_eq_some_iff.mp hi).1 r1).set (List.getElem?_eq_some_iff.mp hk).1 r2)
  |_=>cases e
theorem oh {tg iter:Expr} {body:List Stmt} {fi:au→R (List D)} {gt:D→au→R au} {b:au→So} (hp:PassesOwn (model X.prog X.w) X.A X.env X.xe) (hc:X.calm=true) (hi:DI X tg iter fi) (hg:DGA X tg gt) (hb:cG X body b)
    (hs:∀x,foldedSetIterable iter X.env x=pure x:=by intro _;rfl):DS X (.For tg iter body [] pos) (qH fi gt b):=by
  refine PS.imp (ps_for hp hc hi hg hb hs) fun σ H E h=>?_
  obtain⟨H0,O0,O,ρ,j,h⟩:=h
  refine⟨ρ,O,j.inn,?_⟩
  unfold qH at h
  cases e1:fi ρ with
  |bad=>rw[e1] at h;exact h
  |err c=>rw[e1] at h;exact h σ H O j
  | ok xs =>
    rw[e1] at h
    have h:Gj X H0 O0 O H E (forL gt b xs ρ):=h
    intro J H1 s1 yr
    have j1:=j.grow s1
    have q1:iu X.K O H O H1:=Same.iR s1
    refine⟨fun i m σ' H'=>∃O' ρ',At X H0 O0 O' H' ρ' σ'∧iu X.K O H1 O' H'∧i≤xs.length∧m=xs.length - i∧forL gt b (xs.drop i) ρ'=forL gt b xs ρ,⟨_,O,ρ,j1,.refl,Nat.zero_le _,rfl,by simp⟩,?_⟩
    rintro i m σ' H' ⟨O',ρ',j',r',hil,rfl,hf⟩
    have yat:=yr O' H' r' i
    by_cases hlt:i < xs.length
    · have ed:xs.drop i=xs[i]::xs.drop (i+1):=List.drop_eq_getElem_cons hlt
      obtain⟨jgo,jy⟩:=yat.1 xs[i] (by simp[hlt])
      refine .inr ⟨jgo,fun σ2 H2=>∃O2 ρ2,At X H0 O0 O2 H2 ρ2 σ2∧iu X.K O H1 O2 H2∧forL gt b (xs.drop (i+1)) ρ2=forL gt b xs ρ,?_,fun x H2 y=>?_⟩
      · rintro σ2 H2 ⟨O2,ρ2,j2,r2,hf2⟩
        exact⟨xs.length - (i+1),by omega,O2,ρ2,j2,r2,by omega,rfl,hf2⟩
      · obtain⟨sm,rep⟩:=jy x H2 y
        rw[ed] at hf
        have hf:(match gt xs[i] ρ' with
          | .ok ρ1=>match b ρ1 with
            | .nx ρ2=>forL gt b (xs.drop (i+1)) ρ2
            | .ct ρ2=>forL gt b (xs.drop (i+1)) ρ2
            | .bk ρ2=> .nx ρ2
            |o=>o
          |_=> .bad)=forL gt b xs ρ:=hf
        cases e2:gt xs[i] ρ' with
        |bad=>rw[e2] at hf;rw[←hf] at h;exact h.elim
        |err c=>rw[e2] at hf;rw[←hf] at h;exact h.elim
        | ok ρ1=>
          rw[e2] at hf
          refine⟨H0,O0,O',ρ',xs[i],ρ1,j'.grow sm,rep,e2,fun σ3 j3=>?_⟩
          refine⟨H0,O0,O',ρ1,j3,?_⟩
          have r3:iu X.K O H1 O' H2:=r'.trans (Same.iR sm)
          have hf:(match b ρ1 with
            | .nx ρ2=>forL gt b (xs.drop (i+1)) ρ2
            | .ct ρ2=>forL gt b (xs.drop (i+1)) ρ2
            | .bk ρ2=> .nx ρ2
            |o=>o)=forL gt b xs ρ:=hf
          cases e3:b ρ1 with
          |bad=>rw[e3] at hf;rw[←hf] at h;exact h
          |rt d=>rw[e3] at hf;rw[←hf] at h;exact h
          |ex c ρ2=>rw[e3] at hf;rw[←hf] at h;exact h
          |bk ρ2=>rw[e3] at hf;rw[←hf] at h;exact fun σ4 H4 O4 j4 r4=>h σ4 H4 O4 j4 (q1.trans (r3.trans r4))
          |nx ρ2=>rw[e3] at hf;exact fun σ4 H4 O4 j4 r4=>⟨O4,ρ2,j4,r3.trans r4,hf⟩
          |ct ρ2=>rw[e3] at hf;exact fun σ4 H4 O4 j4 r4=>⟨O4,ρ2,j4,r3.trans r4,hf⟩
    · have ei:i=xs.length:=by omega
      subst ei
      have hf:forL gt b (xs.drop xs.length) ρ'=forL gt b xs ρ:=hf
      rw[List.drop_length] at hf
      rw[←hf] at h
      exact .inl ⟨yat.2 (Nat.le_refl _),h σ' H' O' j' (q1.trans r')⟩
noncomputable def j9 (p:au→R Bool) (b:au→So):Nat→au→So
  |0,_=> .bad
  | n +1,ρ=>match p (dN ρ) with
    | .ok true=>match b ρ with
      | .nx ρ'=>j9 p b n ρ'
      | .ct ρ'=>j9 p b n ρ'
      | .bk ρ'=> .nx ρ'
      |o=>o
    | .ok false=> .nx ρ
    | .err c=> .ex c ρ
    | .bad=> .bad
theorem Yc (n:Nat) {c:Expr} {body:List Stmt} {b:au→So} (hp:PassesOwn (model X.prog X.w) X.A X.env X.xe) (hc:DT X c p) (hb:cG X body b):DS X (.While c body [] pos) (j9 p b n):=by
  refine PS.imp (ps_while hp hc hb) fun σ H E h=>?_
  obtain⟨H0,O0,O,ρ,j,h⟩:=h
  have h:Gj X H0 O0 O H E (j9 p b n ρ):=h
  refine⟨fun m σ' H'=>∃O' ρ',At X H0 O0 O' H' ρ' σ'∧iu X.K O H O' H'∧j9 p b m ρ'=j9 p b n ρ,⟨n,O,ρ,j,.refl,rfl⟩,?_⟩
  rintro m σ' H' ⟨O',ρ',j',r',hf⟩
  refine⟨dN ρ',thO ρ' σ' O',j'.inn.dN,?_⟩
  cases m with
  |zero=>rw[←hf] at h;exact h.elim
  | succ m =>
    have hf:(match p (dN ρ') with
      | .ok true=>match b ρ' with
        | .nx ρ'=>j9 p b m ρ'
        | .ct ρ'=>j9 p b m ρ'
        | .bk ρ'=> .nx ρ'
        |o=>o
      | .ok false=> .nx ρ'
      | .err c=> .ex c ρ'
      | .bad=> .bad)=j9 p b n ρ:=hf
    cases e1:p (dN ρ') with
    |bad=>rw[e1] at hf;rw[←hf] at h;exact h
    |err c=>rw[e1] at hf;rw[←hf] at h;exact h σ' H' O' j'
    | ok t =>
      rw[e1] at hf
      intro t' H1 s1 e
      subst e
      have j1:=j'.grow s1
      have r1:iu X.K O H O' H1:=r'.trans (Same.iR s1)
      cases t with
      | false=>
        rw[if_neg Bool.false_ne_true]
        rw[←hf] at h
        exact h σ' H1 O' j1 r1
      | true=>
        rw[if_pos rfl]
        refine⟨fun σ2 H2=>∃O2 ρ2,At X H0 O0 O2 H2 ρ2 σ2∧iu X.K O H O2 H2∧j9 p b m ρ2=j9 p b n ρ,?_,H0,O0,O',ρ',j1,?_⟩
        · rintro σ2 H2 ⟨O2,ρ2,j2,r2,hf2⟩
          exact⟨m,by omega,O2,ρ2,j2,r2,hf2⟩
        · have hf:(match b ρ' with
            | .nx ρ'=>j9 p b m ρ'
            | .ct ρ'=>j9 p b m ρ'
            | .bk ρ'=> .nx ρ'
            |o=>o)=j9 p b n ρ:=hf
          cases e3:b ρ' with
          |bad=>rw[e3] at hf;rw[←hf] at h;exact h
          |rt d=>rw[e3] at hf;rw[←hf] at h;exact h
          |ex c ρ2=>rw[e3] at hf;rw[←hf] at h;exact h
          |bk ρ2=>rw[e3] at hf;rw[←hf] at h;exact fun σ4 H4 O4 j4 r4=>h σ4 H4 O4 j4 (r1.trans r4)
          |nx ρ2=>rw[e3] at hf;exact fun σ4 H4 O4 j4 r4=>⟨O4,ρ2,j4,r1.trans r4,hf⟩
          |ct ρ2=>rw[e3] at hf;exact fun σ4 H4 O4 j4 r4=>⟨O4,ρ2,j4,r1.trans r4,hf⟩
end
end Pu
namespace Pu
open PySem PySem.Spec L2
open PyProof.Rows hiding St
section
variable {X:Cx} {a b e:Expr} {es:List Expr} {f g:au→R D} {fa:au→R (List D)} {pos:Pos}
noncomputable def am1 (K:PySem.W.Frag) (t:TA):TE:=fun σ H Q=>t σ H fun xs H1=>xs.length≤sizeLine∧∀p,H1 p=none→K.lookup p=none→Q (.ref p) (upd H1 p (.lst xs))
theorem Inv.anp {pins:List (Addr×Obj)} {σ:St} {H:Hp} {s:Shared} (I:Inv X pins σ H s):X.K.lookup s.heap.objs.size=none:=by
  cases q:X.K.lookup s.heap.objs.size with
  |none=>rfl
  |some o=>exact absurd (Heap.lt_size (I.kIn _ _ q)) (Nat.lt_irrefl _)
theorem acY {t:TA} (h:PA X es t):PE X (.List es pos) (am1 X.K t):=by
  intro pins s σ H Q I hq
  refine wpAny_List_spliced (thn (h pos pins s σ H _ I hq) fun us s1 ⟨xs,H1,I1,r,z,q⟩=>⟨by rw[←r.length];exact z,?_⟩)
  have hf:H1 s1.heap.objs.size=none:=I1.hok.fresh (Nat.le_refl _)
  refine⟨.ref s1.heap.objs.size,upd H1 s1.heap.objs.size (.lst xs),I1.laid (t':=s1.toks) (fun b u e=>Heap.get?_push_of_some _ e) (Nat.le_refl _) ?_,rfl,q _ hf (Inv.anp I1)⟩
  exact⟨z,us,0,r,Heap.get?_push_size _ rfl⟩
noncomputable def newL (fa:au→R (List D)) (i:Nat):au→So:=fun ρ=>match fa ρ with
  | .ok ds=>if ds.length≤1000000 then .nx (ρ.set i (some (.lst ds))) else .bad
  | .err c=> .ex c ρ
  | .bad=> .bad
theorem At.own {H0 H:Hp} {O0 O:Addr→Prop} {ρ:au} {σ:St} (j:At X H0 O0 O H ρ σ) {i:Nat} (hi:i < X.N.length) {p:Addr} {o:HO} {en:Ent} (hp:H p=none) (hk:X.K.lookup p=none) (ho:en.own=true)
    (hr:vd X.K (fun a=>O a∨a=p) (upd H p o) en (.ref p)):
    At X H0 O0 (fun a=>O a∨a=p) (upd H p o) (ρ.set i (some en)) (σ.set i (some (.ref p)))∧iu X.K O H (fun a=>O a∨a=p) (upd H p o):=by
  have s1:Same H (upd H p o):=Same.upd hp
  have r1:iu X.K O H (fun a=>O a∨a=p) (upd H p o):=⟨(Same.iR (K:=X.K) (O:=O) s1).ext,fun a z=>z.elim .inl fun e=> .inr (by rw[e];exact⟨hp,hk⟩),(Same.iR (K:=X.K) (O:=O) s1).dom⟩
  have h1:i < ρ.length:=by rw[j.inn.vf];exact hi
  have h2:i < σ.length:=by rw[j.inn.len];exact hi
  have nOp:¬O p:=j.inn.G6 hp
  have old:∀{e:Ent} {v:V},vd X.K O H e v→vd X.K (fun a=>O a∨a=p) (upd H p o) e v∧(e.own=true→v≠.ref p):=fun {e v} h=>by
    cases e with
    |val d=>exact⟨Rep.go r1 h,fun z=>by cases z⟩
    | lst ds=>
      obtain⟨a,xs,e1,o1,e2,r⟩:=h
      exact⟨⟨a,xs,e1,.inl o1,s1 _ _ e2,r.go r1⟩,fun _ z=>by rw[e1] at z;cases z;exact nOp o1⟩
    |obj t=>exact⟨wO.same s1 h,fun z=>by cases z⟩
    | G5 kvs=>
      obtain⟨a,xs,e1,o1,e2,k,r⟩:=h
      exact⟨⟨a,xs,e1,.inl o1,s1 _ _ e2,k,r.go r1⟩,fun _ z=>by rw[e1] at z;cases z;exact nOp o1⟩
  refine⟨⟨j.same.trans s1,j.iR.trans r1,fun a z=> .inl (j.sub a z),⟨⟨fun k e h=>?_,fun k l e e' v hkl hk' hl ok ol sk sl=>?_⟩,fun a z=>?_,by rw[List.length_set];exact j.inn.len,by rw[List.length_set];exact j.inn.vf⟩,fun k e a h hoo hs=>?_⟩,r1⟩
  · by_cases hki:k=i
    · subst hki
      rw[List.getElem?_set_self h1] at h
      cases h
      exact⟨.ref p,List.getElem?_set_self h2,hr⟩
    · rw[List.getElem?_set_ne (Ne.symm hki)] at h
      obtain⟨v,q1,q2⟩:=j.inn.env.get k e h
      exact⟨v,by rw[List.getElem?_set_ne (Ne.symm hki)];exact q1,(old q2).1⟩
  · by_cases hki:k=i
    · subst hki
      rw[List.getElem?_set_self h2] at sk
      cases sk
      rw[List.getElem?_set_ne hkl] at hl sl
      obtain⟨v,q1,q2⟩:=j.inn.env.get l e' hl
      rw[q1] at sl
      cases sl
      exact (old q2).2 ol rfl
    · rw[List.getElem?_set_ne (Ne.symm hki)] at hk' sk
      by_cases hli:l=i
      · subst hli
        rw[List.getElem?_set_self h2] at sl
        cases sl
        obtain⟨v,q1,q2⟩:=j.inn.env.get k e hk'
        rw[q1] at sk
        cases sk
        exact (old q2).2 ok rfl
      · rw[List.getElem?_set_ne (Ne.symm hli)] at hl sl
        exact j.inn.env.sep k l e e' v hkl hk' hl ok ol sk sl
  · rcases z with z |z
    · obtain⟨u,q⟩:=j.inn.al a z
      exact⟨u,s1 _ _ q⟩
    · rw[z];exact⟨o,upd_same⟩
  · by_cases hki:k=i
    · subst hki
      rw[List.getElem?_set_self h2] at hs
      cases hs
      exact⟨j.same.free hp,fun z=>nOp (j.sub _ z)⟩
    · rw[List.getElem?_set_ne (Ne.symm hki)] at h hs
      exact j.mine k e a h hoo hs
theorem sS (i:Nat) {x:Str} {pos' p2:Pos} (hN:X.N.Nodup) (ha:DA X es fa) (hi:X.N[i]?=some x:=by rfl) (hx:Loc X.env.scope x:=by first |exact Or.inl rfl |exact Or.inr rfl) (hs:swapsWith (.List es p2) (some (.Name x pos')) pos.line X.env=pure false:=by rfl)
    (hf:X.fn x=true∨X.env.scope.names.lookup x=some .local:=by first |exact .inl rfl |exact .inr rfl):DS X (.Assign [.Name x pos'] (.List es p2) pos) (newL fa i):=by
  refine PS.imp (ps_set hN hi hx (acY ha) hs hf) fun σ H E h=>?_
  obtain⟨H0,O0,O,ρ,j,h⟩:=h
  refine⟨ρ,O,j.inn,?_⟩
  unfold newL at h
  cases e1:fa ρ with
  |bad=>rw[e1] at h;exact h
  |err c=>rw[e1] at h;exact h σ H O j
  | ok ds=>
    rw[e1] at h
    intro vs H1 s1 r1
    by_cases hl:ds.length≤1000000
    · simp only[if_pos hl] at h
      refine⟨by rw[←r1.length];exact Nat.le_trans hl jx,fun p hp hk=>?_⟩
      obtain⟨j2,r2⟩:=(j.grow s1).own (List.getElem?_eq_some_iff.mp hi).1 (o:= .lst vs) (en:= .lst ds) hp hk rfl ⟨p,vs,rfl,.inr rfl,upd_same,r1.go ⟨(Same.iR (K:=X.K) (O:=O) (Same.upd hp)).ext,fun a z=>z.elim .inl fun e=> .inr (by rw[e];exact⟨hp,hk⟩),(Same.iR (K:=X.K) (O:=O) (Same.upd hp)).dom⟩⟩
      exact h _ _ _ j2 ((Same.iR s1).trans r2)
    · simp only[if_neg hl] at h
      exact h.elim
theorem At.chg {H0 H:Hp} {O0 O:Addr→Prop} {ρ:au} {σ:St} (j:At X H0 O0 O H ρ σ) {i:Nat} {e0 en:Ent} {p:Addr} {u o:HO} (hi:ρ[i]?=some (some e0)) (h0:e0.own=true) (hp:σ[i]?=some (some (.ref p))) (hO:O p) (hu:H p=some u) (hm:Mut (some u)) (ho:en.own=true)
    (hr:iu X.K O H O (upd H p o)→vd X.K O (upd H p o) en (.ref p)):At X H0 O0 O (upd H p o) (ρ.set i (some en)) σ∧iu X.K O H O (upd H p o):=by
  have nt:∀b xs,Rd H b (.tup xs)→b≠p:=fun b xs h z=>by
    subst z
    rcases h with h |⟨_,h⟩ <;> rw[hu] at h <;> cases h <;> exact hm
  have r1:iu X.K O H O (upd H p o):=by
    refine⟨⟨fun b xs h=>?_,fun b xs n h=>?_⟩,fun a z=> .inl z,fun a z=>?_⟩
    · have nb:=nt b xs h
      rcases h with h |⟨q,h⟩
      · exact .inl (by rw[upd_ne nb];exact h)
      · exact .inr ⟨q,by rw[upd_ne nb];exact h⟩
    · have nb:b≠p:=fun z=>n (by rw[z];exact hO)
      rcases h with h |⟨q,h⟩
      · exact .inl (by rw[upd_ne nb];exact h)
      · exact .inr ⟨q,by rw[upd_ne nb];exact h⟩
    · by_cases ea:a=p
      · rw[ea,upd_same] at z;cases z
      · rw[upd_ne ea] at z;exact z
  have h1:i < ρ.length:=(List.getElem?_eq_some_iff.mp hi).1
  obtain⟨hH0,hO0⟩:=j.mine i e0 p hi h0 hp
  refine⟨⟨fun b q z=>?_,j.iR.trans r1,j.sub,⟨⟨fun k e h=>?_,fun k l e e' v hkl hk' hl ok ol sk sl=>?_⟩,fun a z=>?_,j.inn.len,by rw[List.length_set];exact j.inn.vf⟩,fun k e a h hoo hs=>?_⟩,r1⟩
  · rw[upd_ne (ne_of_none z hH0)];exact j.same _ _ z
  · by_cases hki:k=i
    · subst hki
      rw[List.getElem?_set_self h1] at h
      cases h
      exact⟨_,hp,hr r1⟩
    · rw [List.getElem?_set_ne (Ne.symm hki)] at h
      obtain⟨v,q1,q2⟩:=j.inn.env.get k e h
      refine⟨v,q1,?_⟩
      have nv:e.own=true→v≠.ref p:=fun z w=>by
        subst w
        exact j.inn.env.sep k i e e0 _ hki h hi z h0 q1 hp
      cases e with
      |val d=>exact Rep.go r1 q2
      | obj t=>exact wO.fz (fun b o' u hb=>by
          have nb:b≠p:=fun z=>by rw[z,hu] at hb;cases hb;exact hm
          rw[upd_ne nb];exact hb) q2
      | lst ds=>
        obtain⟨a,xs,e1,o1,e2,r⟩:=q2
        have na:a≠p:=fun z=>nv rfl (by rw[e1,z])
        exact⟨a,xs,e1,o1,by rw[upd_ne na];exact e2,r.go r1⟩
      | G5 kvs=>
        obtain⟨a,xs,e1,o1,e2,kk,r⟩:=q2
        have na:a≠p:=fun z=>nv rfl (by rw[e1,z])
        exact⟨a,xs,e1,o1,by rw[upd_ne na];exact e2,kk,r.go r1⟩
  · have un:∀{m:Nat} {x:Ent},(ρ.set i (some en))[m]?=some (some x)→x.own=true→∃y,ρ[m]?=some (some y)∧y.own=true:=fun {m x} h ho'=>by
      by_cases hmi:m=i
      · rw[hmi];exact⟨e0,hi,h0⟩
      · rw[List.getElem?_set_ne (Ne.symm hmi)] at h;exact⟨x,h,ho'⟩
    obtain⟨y,hy,oy⟩:=un hk' ok
    obtain⟨y',hy',oy'⟩:=un hl ol
    exact j.inn.env.sep k l y y' v hkl hy hy' oy oy' sk sl
  · by_cases ea:a=p
    · rw[ea];exact⟨o,upd_same⟩
    · obtain⟨w,q⟩:=j.inn.al a z
      exact⟨w,by rw[upd_ne ea];exact q⟩
  · by_cases hki:k=i
    · subst hki
      rw[hp] at hs;cases hs
      exact⟨hH0,hO0⟩
    · rw[List.getElem?_set_ne (Ne.symm hki)] at h
      exact j.mine k e a h hoo hs
noncomputable def vh (i:Nat) (f:au→R D):au→So:=fun ρ=>nZ (X7 (f ρ)) ρ fun d=>match ρ[i]? with
  |some (some (.lst ds))=>if ds.length < 1000000 then .nx (ρ.set i (some (.lst (ds++[d])))) else .bad
  |_=> .bad
theorem G8 (i:Nat) {x:Str} {px apos cpos:Pos} (he:DE X e f) (hN:X.N[i]?=some x:=by rfl) (hv:Vis X.env.scope x:=by first |exact Or.inl rfl |exact Or.inr (Or.inl rfl) |exact Or.inr (Or.inr rfl))
    (hd:(x ==("__debug__" :Str))=false:=by decide) (hcd:(x ==("__classdict__" :Str))=false:=by decide)
    (hbase:attributeBase (.Name x px) "append" X.env (eval (.Name x px) X.env)=eval (.Name x px) X.env:=by rfl)
    (hfew:((backTo cpos (starEach [e] X.env)).all (fun x=> !x.1) && (backToKw cpos (keywordEach [] X.env)).all (fun x=>x.1.isSome)
      && decide ([e].length+([]:List Keyword).length+(if ([]:List Keyword).isEmpty then 0 else 1) < 30))=true:=by rfl)
    (hline:(apos.endLine ==cpos.line)=true:=by rfl) (hs1:starEach [e] X.env=(false,eval e X.env)::starEach [] X.env:=by rfl) (hplain:(backTo cpos (starEach [] X.env)).any (·.1)=false:=by rfl)
    (hs:swapsWith (.Call (.Attribute (.Name x px) "append" apos) [e] [] cpos) none pos.line X.env=pure false:=by rfl):
    DS X (.Expr (.Call (.Attribute (.Name x px) "append" apos) [e] [] cpos) pos) (vh i f):=by
  refine PS.imp (ps_expr (pe_bm PySem.F.plainAttrs_list PySem.F.slot_list_append PySem.F.type_list_append mt_append (pe_var hN hv hd hcd) (pa_cons he pa_nil hs1) hbase hfew hline hs1 hplain) hs) fun σ H E h=>?_
  obtain⟨H0,O0,O,ρ,j,h⟩:=h
  unfold vh nZ at h
  cases e1:f ρ with
  |bad=>rw[e1] at h;exact h.elim
  |err c=>rw[e1] at h;exact h.elim
  | ok d =>
    rw[e1] at h
    cases e2:ρ[i]? with
    |none=>simp only[e2] at h;exact h.elim
    | some oe=>
      cases oe with
      |none=>simp only[e2] at h;exact h.elim
      | some en=>
        cases en with
        |val _=>simp only[e2] at h;exact h.elim
        |G5 _=>simp only[e2] at h;exact h.elim
        |obj _=>simp only[e2] at h;exact h.elim
        | lst ds=>
          simp only[e2] at h
          by_cases hl:ds.length < 1000000
          · simp only[if_pos hl] at h
            obtain⟨v,hv1,a,xs,rfl,hO,hH,rs⟩:=j.inn.env.get i _ e2
            refine⟨.ref a,hv1,.inl ⟨rfl,xs,SqL.of hH⟩,?_⟩
            refine⟨ρ,O,j.inn,?_⟩
            rw[e1]
            intro w H1 s1 rw1
            have j1:=j.grow s1
            obtain⟨_,hv2,a2,xs2,e3,hO2,hH2,Oa⟩:=j1.inn.env.get i _ e2
            rw[hv1] at hv2
            cases hv2
            cases e3
            have hlen:=Oa.length
            refine⟨a,xs2,w,rfl,rfl,hH2,by have:=jz;omega,?_⟩
            obtain⟨j2,r2⟩:=j1.chg (o:= .lst (xs2++[w])) (en:= .lst (ds++[d])) e2 rfl hv1 hO2 hH2 trivial rfl fun r=>⟨a,xs2++[w],rfl,hO2,upd_same,(Oa.append (.cons rw1 .nil)).go r⟩
            exact h _ _ _ j2 ((Same.iR s1).trans r2)
          · simp only[if_neg hl] at h;exact h.elim
end
inductive SpD (K:PySem.W.Frag) (n:Nat) (F:List D→R D) (vs:List V) (H:Hp) (Q:VK):Prop
  | mk (O:Addr→Prop) (ds:List D) (r:aQ K O H ds vs) (hl:ds.length=n) (al:∀a,O a→∃o,H a=some o) (h:match F ds with
    | .ok d=>∀v H',Same H H'→Rep K O H' d v→Q v H'
    |_=>False):SpD K n F vs H Q
noncomputable def Lb (K:PySem.W.Frag) (n:Nat) (F:List D→R D):Sp:=fun vs H Q _=>SpD K n F vs H Q
noncomputable def cB (n:Nat) (g:au→So) (ds:List D):R D:=match g (ds.map (fun d=>some (.val d))++List.replicate n none) with
  | .rt d=> .ok d
  | .nx _=> .ok .non
  | .ex c _=> .err c
  |_=> .bad
section
variable {P:Program} {w:World} {K:PySem.W.Frag} {mg:Str→Option Value} {base:Heap}
theorem Rg {K:PySem.W.Frag} {O:Addr→Prop} {H:Hp} {ds:List D} {vs:List V} (r:aQ K O H ds vs) (m:Nat) (i:Nat) (e:Ent) (h:(ds.map (fun d=>some (Ent.val d))++List.replicate m none)[i]?=some (some e)):∃v,(vs.map some++List.replicate m none)[i]?=some (some v)∧vd K O H e v∧e.own=false:=by
  by_cases hi:i < ds.length
  · rw[List.getElem?_append_left (by simpa using hi),List.getElem?_map] at h
    cases q:ds[i]? with
    |none=>rw[q] at h;cases h
    | some d=>
      rw[q] at h
      cases h
      obtain⟨v,e1,rv⟩:=r.get q
      exact⟨v,by rw[List.getElem?_append_left (by rw[List.length_map,←r.length];exact hi),List.getElem?_map,e1];rfl,rv,rfl⟩
  · rw[List.getElem?_append_right (by simpa using hi),List.getElem?_replicate] at h
    split at h <;> cases h
theorem fnD {x qual:Str} {st:Stmt} {f:Addr} {fd:FuncData} {N ps:List Str} {k n m:Nat} {g:au→So} {F:List D→R D} (Fn:Fun K x qual st f fd) (S:FnScope N ps (defScope st)) (hn:ps.length=n) (hm:N.length=n+m)
    (hb:∀(cdv:Value) (A:Around) (outer:List PySem.Env) (s:Shared) (H:Hp) (E:XK),Room k (A.deeper (envOfC qual (defScope st) s.heap.objs.size f cdv))→cG (cxOf CX0 P w K mg base N qual (defScope st) f cdv A outer s H E).nox (defBody st) g)
    (hF:∀ds d,ds.length=n→F ds= .ok d→cB m g ds= .ok d):FnOk P w K mg base CX0 (k+1) f fd ps (Lb K n F):=by
  refine Fn.ok S (fun vs H Q E h=>?_) (fun cdv A outer s H vs Q E hr h=>?_)
  · obtain⟨O,ds,r,hl,_⟩:=h
    rw[hn,←hl,r.length]
  · obtain⟨O,ds,r,hl,al,h⟩:=h
    refine⟨_,hb cdv A outer s H E hr,H,O,O,ds.map (fun d=>some (.val d))++List.replicate m none,?_,?_⟩
    · have hst:L2.start N vs=vs.map some++List.replicate m none:=by
        unfold L2.start
        rw[show N.length - vs.length=m by rw[←r.length];omega]
      refine⟨Same.refl _,.refl,fun _ z=>z,⟨⟨fun i e q=>?_,fun i k e e' v _ hi _ oi=>?_⟩,al,?_,?_⟩,fun i e a q ho=>?_⟩
      · obtain⟨v,h1,h2,_⟩:=Rg r m i e q
        exact⟨v,by rw[hst];exact h1,h2⟩
      · obtain⟨_,_,_,h3⟩:=Rg r m i e hi
        rw[h3] at oi;cases oi
      · show (L2.start N vs).length=N.length
        rw[hst,List.length_append,List.length_map,List.length_replicate,←r.length];omega
      · show (ds.map (fun d=>some (Ent.val d))++List.replicate m none).length=N.length
        rw[List.length_append,List.length_map,List.length_replicate];omega
      · obtain⟨_,_,_,h3⟩:=Rg r m i e q
        rw[h3] at ho;cases ho
    · cases e:F ds with
      |bad=>rw[e] at h;exact h.elim
      |err c=>rw[e] at h;exact h.elim
      | ok d=>
        rw[e] at h
        have q:=hF ds d hl e
        unfold cB at q
        cases e2:g (ds.map (fun d=>some (.val d))++List.replicate m none) with
        | rt d'=>
          rw[e2] at q
          cases q
          exact fun v H' s' r'=>h v H' s' r'
        | nx ρ'=>
          rw[e2] at q
          cases q
          exact fun σ' H' O' j' _=>h .non H' j'.same wH
        |bk _=>rw[e2] at q;cases q
        |ct _=>rw[e2] at q;cases q
        |ex _ _=>rw[e2] at q;cases q
        |bad=>rw[e2] at q;cases q
end
section
variable {X:Cx} {k n:Nat} {f:Addr} {fd:FuncData} {ps:List Str} {F:List D→R D} {x:Str} {p pos:Pos} {e:Expr} {es:List Expr} {fa:au→R (List D)}
noncomputable def aP (F:List D→R D) (n:Nat) (ds:List D):R D:=if ds.length=n then X7 (F ds) else .bad
theorem akn (G:FnOk X.prog X.w X.K X.mg X.base CX0 k f fd ps (Lb X.K n F)) (hr:Room k X.A) (hg:Gl X x) (hm:X.mg x=some (.ref f)) (hk:PySem.W.keepIn X.K (.ref f)=true) (hb:Binds X.K fd ps [])
    (ha:DA X (e::es) fa) (hdb:(x ==("__debug__" :Str))=false:=by decide) (he:starEach (e::es) X.env=(false,eval e X.env)::starEach es X.env:=by rfl) (hpl:(backTo pos (starEach es X.env)).any (·.1)=false:=by rfl):
    DE X (.Call (.Name x p) (e::es) [] pos) (aF (aP F n) fa):=by
  refine PE.imp (pe_call (dvs:=[]) G hr hg hm hk hb .nil pass0 ha hdb he hpl) fun σ H Q h=>?_
  obtain⟨ρ,O,j,h⟩:=h
  refine go j h fun ds vs H1 e1 s1 r1 j1 h1=>?_
  unfold aP at h1
  by_cases hl:ds.length=n
  · rw[if_pos hl] at h1
    rw[List.append_nil]
    refine⟨O,ds,r1,hl,j1.al,?_⟩
    cases q:F ds with
    |ok d=>rw[q] at h1;exact h1
    |err c=>rw[q] at h1;exact h1
    |bad=>rw[q] at h1;exact h1
  · rw[if_neg hl] at h1;exact h1.elim
end
end Pu
namespace Pu
open PySem PySem.Spec L2
open PyProof.Rows hiding St
section
variable {X:Cx}
noncomputable def cC:List D→R D
  |[.tup ds]=> .ok (.int ds.length)
  |[.lst ds]=> .ok (.int ds.length)
  |_=> .bad
theorem cH:CallD X (.builtin "len") cC:=by
  refine⟨_,call_len_seq,fun ρ O σ H Q xs ds j r h=>?_⟩
  unfold cC at h
  split at h
  · obtain⟨x,rfl,rx⟩:=r.one
    obtain⟨a,ys,rfl,hq,rs⟩:=rx.tup
    exact⟨a,ys,rfl,.inr hq,by rw[←rs.length];exact fin h (cM _)⟩
  · obtain⟨x,rfl,rx⟩:=r.one
    obtain⟨a,ys,rfl,hq,_,rs⟩:=rx.lst
    exact⟨a,ys,rfl,.inl hq,by rw[←rs.length];exact fin h (cM _)⟩
  · exact h.elim
noncomputable def ou:List D→R D
  |[.tup ds]=> .ok (.tup ds)
  |[.lst ds]=> .ok (.tup ds)
  |_=> .bad
theorem gM:CallD X (.type "tuple") ou:=by
  refine⟨_,call_tuple_of,fun ρ O σ H Q xs ds j r h=>?_⟩
  unfold ou at h
  split at h
  · obtain⟨x,rfl,rx⟩:=r.one
    obtain⟨a,ys,rfl,hq,rs⟩:=rx.tup
    exact⟨a,ys,rfl,.inr ⟨hq,fin h (jG hq rs)⟩⟩
  · obtain⟨x,rfl,rx⟩:=r.one
    obtain⟨a,ys,rfl,hq,_,rs⟩:=rx.lst
    exact⟨a,ys,rfl,.inl ⟨hq,fun l hl=>h _ _ (Same.upd hl) (Rep.wJ hl rs)⟩⟩
  · exact h.elim
noncomputable def boolsOf:List D→Option (List Bool)
  |[]=>some []
  | .bl b::r=>(boolsOf r).map (b:: ·)
  |_=>none
noncomputable def intsOf:List D→Option (List Int)
  |[]=>some []
  | .int i::r=>(intsOf r).map (i:: ·)
  |_=>none
theorem acZ {K:PySem.W.Frag} {O:Addr→Prop} {H:Hp}:∀{ds:List D} {bs:List Bool} {vs:List V},boolsOf ds=some bs→aQ K O H ds vs→vs=bs.map V.bl
  |[],bs,vs,e,r=>by cases e;exact r.nil_inv
  | d ::ds,bs,vs,e,r=>by
    cases d with
    | bl b=>
      have e:(boolsOf ds).map (b:: ·)=some bs:=e
      cases q:boolsOf ds with
      |none=>rw[q] at e;cases e
      | some l=>
        rw[q] at e
        cases e
        obtain⟨x,t,rfl,rx,rt⟩:=r.cons_inv
        rw[rx.bl,acZ q rt];rfl
    |_=>cases e
theorem Yd {K:PySem.W.Frag} {O:Addr→Prop} {H:Hp}:∀{ds:List D} {bs:List Int} {vs:List V},intsOf ds=some bs→aQ K O H ds vs→vs=bs.map V.int
  |[],bs,vs,e,r=>by cases e;exact r.nil_inv
  | d ::ds,bs,vs,e,r=>by
    cases d with
    | int b=>
      have e:(intsOf ds).map (b:: ·)=some bs:=e
      cases q:intsOf ds with
      |none=>rw[q] at e;cases e
      | some l=>
        rw[q] at e
        cases e
        obtain⟨x,t,rfl,rx,rt⟩:=r.cons_inv
        rw[rx.int,Yd q rt];rfl
    |_=>cases e
theorem Ye:∀{bs:List Bool} {us:List Value},Vals (bs.map V.bl) us→LSm.BoolsAre us bs
  |[],_,.nil=> .nil
  |b::bs,_,.cons r t=>by cases r;exact .cons b (Ye t)
theorem agJ (hc:X.calm=true):CallR X (.builtin "all") (fun xs H Q=>∃p,∃bs:List Bool,xs=[.ref p]∧SqL X.K H p (bs.map V.bl)∧Q (.bl (bs.all id)) H):=by
  intro pins s σ H xs us Q I r h
  obtain⟨p,bs,rfl,hq,q⟩:=h
  obtain⟨u,rfl,rx⟩:=vals1 r
  cases rx
  obtain⟨its,r',pl,hz⟩:=I.list hq
  have hb:=Ye r'
  have hl:=pl.isList
  have hlt:p < s.heap.objs.size:=by obtain⟨_,e,_⟩:=hl;exact Heap.lt_size e
  refine call_all_walk (wpAny_pyIter_list hl ?_)
  refine⟨s.heap.objs.size,[s.heap.objs.size,p],[s.heap.objs.size],its.toArray.size,_,_,fun i=>(bs[i]?).getD true,rfl,Walks.list (A:=X.A.in1) (I.ok.hd hc) _ p (Nat.ne_of_lt hlt) its.toArray,
    ⟨⟨_,Heap.get?_push_size _ rfl,rfl,rfl⟩,hl.push _⟩,fun i v s' Q' E' hP hQ=>?_,fun h' tk hk=>?_⟩
  · obtain⟨b,e,rfl⟩:=hb.get i v (by simpa using hP)
    simp only[e,Option.getD_some] at hQ
    exact wpAny_truthy_bool hQ
  · have e:((List.range its.toArray.size).all fun i=>(bs[i]?).getD true)=bs.all id:=by
      rw[List.size_toArray,hb.length];exact LSm.range_all bs
    rw[e]
    exact⟨.bl _,H,I.kept (LSm.kept_iter hk),rfl,q⟩
noncomputable def sU:List D→R D
  | [.lst ds]=>match boolsOf ds with
    |some bs=> .ok (.bl (bs.all id))
    |none=> .bad
  |_=> .bad
theorem uP (hc:X.calm=true):CallD X (.builtin "all") sU:=by
  refine⟨_,agJ hc,fun ρ O σ H Q xs ds j r h=>?_⟩
  unfold sU at h
  split at h
  · rename_i ds
    obtain⟨x,rfl,rx⟩:=r.one
    obtain⟨a,ys,rfl,hq,_,rs⟩:=rx.lst
    cases e:boolsOf ds with
    |none=>rw[e] at h;exact h.elim
    | some bs=>
      rw[e] at h
      have ey:=acZ e rs
      subst ey
      exact⟨a,bs,rfl,hq,fin h (iw _)⟩
  · exact h.elim
theorem agK (hc:X.calm=true):CallR X (.builtin "sum") (fun xs H Q=>∃p,∃ns:List Int,xs=[.ref p]∧(SqL X.K H p (ns.map V.int)∨SqT X.K H p (ns.map V.int))∧Q (.int ns.sum) H):=by
  intro pins s σ H xs us Q I r h
  obtain⟨p,ns,rfl,hq,q⟩:=h
  obtain⟨u,rfl,rx⟩:=vals1 r
  cases rx
  have key:∀(its:List Value),Vals (ns.map V.int) its→∃zs:Array (Int×Tok),its.toArray=intItems zs∧preSum (numAt zs) zs.size=ns.sum:=fun its r'=>by
    have hi:=intsAre_of r'
    obtain⟨zs,hx⟩:=hi.allInts.items
    refine⟨zs,hx,?_⟩
    have e1:ns=zs.toList.map (·.1):=by
      rw[←nums_intItems,←hx]
      exact (show numsOf its.toArray.toList=ns from hi.numsOf).symm
    rw[preSum_eq,List.take_of_length_le (by simp),e1]
  rcases hq with hq |hq
  · obtain⟨its,r',pl,hz⟩:=I.list hq
    obtain⟨zs,e1,e2⟩:=key its r'
    refine sum_intListG (I.ok.hd hc) (e1▸pl.isList) fun h' tk t' hk=>?_
    rw[e2]
    exact⟨.int _,H,I.kept hk,⟨t',rfl⟩,q⟩
  · obtain⟨its,r',pl,hz⟩:=I.tuple hq
    obtain⟨zs,e1,e2⟩:=key its r'
    refine PySem.W.ktm_sumG (I.ok.hd hc) (show s.heap.IsTuple p (intItems zs) from e1▸pl) fun h' tk t' hk=>?_
    rw[e2]
    exact⟨.int _,H,I.kept hk,⟨t',rfl⟩,q⟩
noncomputable def Ad:List D→R D
  | [.lst ds]=>match intsOf ds with
    |some bs=> .ok (.int bs.sum)
    |none=> .bad
  | [.tup ds]=>match intsOf ds with
    |some bs=> .ok (.int bs.sum)
    |none=> .bad
  |_=> .bad
theorem Oc (hc:X.calm=true):CallD X (.builtin "sum") Ad:=by
  refine⟨_,agK hc,fun ρ O σ H Q xs ds j r h=>?_⟩
  unfold Ad at h
  split at h
  · rename_i ds
    obtain⟨x,rfl,rx⟩:=r.one
    obtain⟨a,ys,rfl,hq,_,rs⟩:=rx.lst
    cases e:intsOf ds with
    |none=>rw[e] at h;exact h.elim
    | some bs=>
      rw[e] at h
      have ey:=Yd e rs
      subst ey
      exact⟨a,bs,rfl,.inl hq,fin h (cM _)⟩
  · rename_i ds
    obtain⟨x,rfl,rx⟩:=r.one
    obtain⟨a,ys,rfl,hq,rs⟩:=rx.tup
    cases e:intsOf ds with
    |none=>rw[e] at h;exact h.elim
    | some bs=>
      rw[e] at h
      have ey:=Yd e rs
      subst ey
      exact⟨a,bs,rfl,.inr hq,fin h (cM _)⟩
  · exact h.elim
noncomputable def oA:D→String
  | .non=> "NoneType"
  | .bl _=> "bool"
  | .int _=> "int"
  | .str _=> "str"
  | .tup _=> "tuple"
  | .lst _=> "list"
theorem agL (T:String) (ans:String→Bool) (hk:∀d:D,PySem.W.kitOne X.K (.type (oA d)) (.type T)=some (ans (oA d))):
    CallR X (.builtin "isinstance") (fun xs H Q=>∃x O d,xs=[x,.ty T]∧Rep X.K O H d x∧Q (.bl (ans (oA d))) H):=by
  intro pins s σ H xs us Q I r h
  obtain⟨x,O,d,rfl,rd,q⟩:=h
  obtain⟨u,u2,rfl,rx,r2⟩:=vals2 r
  cases r2
  have e:=hk d
  have fin':∀tk,EP X pins σ Q (.bool (ans (oA d))) {s with toks:=tk}:=fun tk=>⟨.bl _,H,I.tok _,rfl,q⟩
  cases d with
  | non=>
    cases rd.non
    cases (show u=Value.none from rx)
    exact PySem.W.kia_one PySem.W.kitx_none I.kIn True.intro e (fun z=>nomatch z) fin'
  | bl b=>
    cases rd.bl
    cases (show u=Value.bool b from rx)
    exact PySem.W.kia_one PySem.W.kitx_bool I.kIn True.intro e (fun z=>nomatch z) fin'
  | int i=>
    cases rd.int
    obtain⟨t,z⟩:=(show ∃t,u=Value.int i t from rx)
    cases z
    exact PySem.W.kia_one PySem.W.kitx_int I.kIn True.intro e (fun z=>nomatch z) fin'
  | str y=>
    cases rd.str
    obtain⟨t,z⟩:=(show ∃t,u=Value.str y t from rx)
    cases z
    exact PySem.W.kia_one PySem.W.kitx_str I.kIn True.intro e (fun z=>nomatch z) fin'
  | tup ds=>
    obtain⟨a,ys,rfl,hq,_⟩:=rd.tup
    cases (show u=Value.ref a from rx)
    obtain⟨its,_,pl,_⟩:=I.tuple hq
    obtain⟨o,h1,h2,_⟩:=pl
    exact PySem.W.kia_one PySem.W.kitx_tuple I.kIn ⟨o,h1,h2⟩ e (fun z=>nomatch z) fin'
  | lst ds=>
    obtain⟨a,ys,rfl,hq,_,_⟩:=rd.lst
    cases (show u=Value.ref a from rx)
    obtain⟨its,_,pl,_⟩:=I.list hq
    obtain⟨o,n,h1,h2,_⟩:=pl
    exact PySem.W.kia_one PySem.W.kitx_list I.kIn ⟨o,h1,h2⟩ e (fun z=>nomatch z) fin'
noncomputable def uE (ans:String→Bool) (f:au→R D):au→R D:=fun ρ=>(f ρ).bind fun d=> .ok (.bl (ans (oA d)))
theorem pI {T:String} {ans:String→Bool} {x y:Str} {e:Expr} {f:au→R D} {p p2 pos:Pos} (hk:∀d:D,PySem.W.kitOne X.K (.type (oA d)) (.type T)=some (ans (oA d))) (he:DE X e f)
    (hg:Gl X x) (hm:X.mg x=none) (hv:bootBuiltins x=some (.builtin "isinstance")) (hgy:Gl X y) (hmy:X.mg y=none) (hvy:bootBuiltins y=some (.type T)) (hn:x≠"__name__" :=by decide) (hdb:(x ==("__debug__" :Str))=false:=by decide)
    (hny:y≠"__name__" :=by decide) (hdy:(y ==("__debug__" :Str))=false:=by decide)
    (hs:starEach [e,.Name y p2] X.env=(false,eval e X.env)::starEach [.Name y p2] X.env:=by rfl) (hs2:starEach [.Name y p2] X.env=(false,eval (.Name y p2) X.env)::starEach [] X.env:=by rfl) (hpl:(backTo pos (starEach [.Name y p2] X.env)).any (·.1)=false:=by rfl):
    DE X (.Call (.Name x p) [e,.Name y p2] [] pos) (uE ans f):=by
  refine PE.imp (pe_callB (agL T ans hk) hg hm hv (pa_cons he (pa_cons (pe_bltn (v:= .ty T) hgy hmy hvy rfl hny hdy) pa_nil hs2) hs) hn hdb hs hpl) fun σ H Q h=>?_
  obtain⟨ρ,O,j,h⟩:=h
  refine go j h fun d v H1 e1 s1 r1 j1 h1=>?_
  exact⟨v,O,d,rfl,r1,fin h1 (iw _)⟩
end
mutual
noncomputable def gH:D→D→Bool
  | .non,.non=>true
  | .bl a,.bl b=>a ==b
  | .bl a,.int b=>(if a then 1 else 0) ==b
  | .int a,.bl b=>a ==(if b then 1 else 0)
  | .int a,.int b=>a ==b
  | .str a,.str b=>a ==b
  | .tup a,.tup b=>vm a b
  | .lst a,.lst b=>vm a b
  |_,_=>false
noncomputable def vm:List D→List D→Bool
  |[],[]=>true
  |x::xs,y::ys=>gH x y && vm xs ys
  |_,_=>false
end
mutual
noncomputable def dep:D→Nat
  | .tup a=>deps a+1
  | .lst a=>deps a+1
  |_=>0
noncomputable def deps:List D→Nat
  |[]=>0
  |x::xs=>max (dep x) (deps xs)
end
theorem sV:∀{ds:List D} {d:D},d∈ds→dep d≤deps ds
  |[],_,h=>by simp at h
  | x::xs,d,h=>by
    rw[deps]
    rcases List.mem_cons.mp h with e |h
    · subst e;exact Nat.le_max_left _ _
    · exact Nat.le_trans (sV h) (Nat.le_max_right _ _)
theorem oE (a b:Bool):gH (.bl a) (.bl b)=(a ==b):=rfl
theorem oF (a:Bool) (b:Int):gH (.bl a) (.int b)=((if a then 1 else 0) ==b):=rfl
theorem oG (a:Int) (b:Bool):gH (.int a) (.bl b)=(a ==(if b then 1 else 0)):=rfl
theorem oH (a b:Int):gH (.int a) (.int b)=(a ==b):=rfl
theorem oJ (a b:Str):gH (.str a) (.str b)=(a ==b):=rfl
theorem jg (a b:List D):gH (.tup a) (.tup b)=vm a b:=rfl
theorem fj (a b:List D):gH (.lst a) (.lst b)=vm a b:=rfl
mutual
theorem Mp:∀d:D,gH d d=true
  | .non=>rfl
  | .bl a=>by simp[oE,oF,oG,oH,oJ,jg,fj]
  | .int a=>by simp[oE,oF,oG,oH,oJ,jg,fj]
  | .str a=>by simp[oE,oF,oG,oH,oJ,jg,fj]
  | .tup a=>by rw[jg];exact uQ a
  | .lst a=>by rw[fj];exact uQ a
theorem uQ:∀d:List D,vm d d=true
  |[]=>rfl
  |x::xs=>by rw[vm,Mp x,uQ xs];rfl
end
theorem wZ:∀{xs ys:List D},xs.length≠ys.length→vm xs ys=false
  |[],[],h=>absurd rfl h
  |[],_::_,_=>rfl
  |_::_,[],_=>rfl
  | x::xs,y::ys,h=>by
    rw[vm,wZ (xs:=xs) (ys:=ys) (fun e=>h (by simp[e])),Bool.and_false]
theorem w5:∀{xs ys:List D},xs.length=ys.length→vm xs ys=(List.range xs.length).all fun i=>gH (xs.getD i .non) (ys.getD i .non)
  |[],[],_=>rfl
  |[],_::_,h=>by simp at h
  |_::_,[],h=>by simp at h
  | x::xs,y::ys,h=>by
    rw[vm,w5 (xs:=xs) (ys:=ys) (by simpa using h),List.length_cons,List.range_succ_eq_map,List.all_cons,List.all_map]
    rfl
end Pu
namespace Pu
open PySem PySem.Spec L2
open PyProof.Rows hiding St
open PySem.SeqAt
inductive LkT (X:Cx) (O:Addr→Prop) (H:Hp) (s:Shared) (ds:List D) (u:Value):Prop
  |mk (a:Addr) (xs:List V) (its:List Value) (e:u=Value.ref a) (q:SqT X.K H a xs) (v:Vals xs its) (p:s.heap.IsTuple a its.toArray) (r:aQ X.K O H ds xs):LkT X O H s ds u
inductive LkL (X:Cx) (O:Addr→Prop) (H:Hp) (s:Shared) (ds:List D) (u:Value):Prop
  |mk (a:Addr) (xs:List V) (its:List Value) (e:u=Value.ref a) (q:SqL X.K H a xs) (v:Vals xs its) (p:s.heap.IsList a its.toArray) (r:aQ X.K O H ds xs):LkL X O H s ds u
noncomputable def Lk (X:Cx) (O:Addr→Prop) (H:Hp) (s:Shared):D→Value→Prop
  | .non,u=>u=Value.none
  | .bl b,u=>u=Value.bool b
  | .int i,u=>∃t,u=Value.int i t
  | .str x,u=>∃t,u=Value.str x t
  | .tup ds,u=>LkT X O H s ds u
  | .lst ds,u=>LkL X O H s ds u
section
variable {X:Cx} {pins:List (Addr×Obj)} {σ:St} {H:Hp} {s:Shared} {O O':Addr→Prop}
theorem zJ (I:Inv X pins σ H s) {d:D} {v:V} {u:Value} (r:Rep X.K O H d v) (q:RelV v u):Lk X O H s d u:=by
  cases d with
  |non=>cases r.non;exact q
  |bl b=>cases r.bl;exact q
  |int i=>cases r.int;exact q
  |str x=>cases r.str;exact q
  | tup ds=>
    obtain⟨a,xs,rfl,hq,rs⟩:=r.tup
    cases (show u=Value.ref a from q)
    obtain⟨its,rv,p,_⟩:=I.tuple hq
    exact⟨a,xs,its,rfl,hq,rv,p,rs⟩
  | lst ds=>
    obtain⟨a,xs,rfl,hq,_,rs⟩:=r.lst
    cases (show u=Value.ref a from q)
    obtain⟨its,rv,p,_⟩:=I.list hq
    exact⟨a,xs,its,rfl,hq,rv,p.isList,rs⟩
theorem isTuple_list {a:Addr} {p q:Array Value} (h1:s.heap.IsTuple a p) (h2:s.heap.IsList a q):False:=ne_of_list_tuple h2 h1 rfl
mutual
theorem Rep.inj (I:Inv X pins σ H s):∀(d e:D) (v:V),Rep X.K O H d v→Rep X.K O' H e v→d=e
  | .non,e,v,r,q=>by
    cases r.non
    cases e with
    |non=>rfl
    |bl _=>cases q.bl
    |int _=>cases q.int
    |str _=>cases q.str
    |tup _=>obtain⟨_,_,z,_⟩:=q.tup;cases z
    |lst _=>obtain⟨_,_,z,_⟩:=q.lst;cases z
  | .bl b,e,v,r,q=>by
    cases r.bl
    cases e with
    |non=>cases q.non
    |bl _=>cases q.bl;rfl
    |int _=>cases q.int
    |str _=>cases q.str
    |tup _=>obtain⟨_,_,z,_⟩:=q.tup;cases z
    |lst _=>obtain⟨_,_,z,_⟩:=q.lst;cases z
  | .int b,e,v,r,q=>by
    cases r.int
    cases e with
    |non=>cases q.non
    |bl _=>cases q.bl
    |int _=>cases q.int;rfl
    |str _=>cases q.str
    |tup _=>obtain⟨_,_,z,_⟩:=q.tup;cases z
    |lst _=>obtain⟨_,_,z,_⟩:=q.lst;cases z
  | .str b,e,v,r,q=>by
    cases r.str
    cases e with
    |non=>cases q.non
    |bl _=>cases q.bl
    |int _=>cases q.int
    |str _=>cases q.str;rfl
    |tup _=>obtain⟨_,_,z,_⟩:=q.tup;cases z
    |lst _=>obtain⟨_,_,z,_⟩:=q.lst;cases z
  | .tup ds,e,v,r,q=>by
    obtain⟨a,xs,rfl,hq,rs⟩:=r.tup
    cases e with
    |non=>cases q.non
    |bl _=>cases q.bl
    |int _=>cases q.int
    |str _=>cases q.str
    | tup es=>
      obtain⟨b,ys,z,hq',rs'⟩:=q.tup
      cases z
      cases I.tuple_inj hq hq'
      rw[aQ.inj I ds es xs rs rs']
    | lst es=>
      obtain⟨b,ys,z,hq',_,rs'⟩:=q.lst
      cases z
      obtain⟨_,_,p1,_⟩:=I.tuple hq
      obtain⟨_,_,p2,_⟩:=I.list hq'
      exact (isTuple_list p1 p2.isList).elim
  | .lst ds,e,v,r,q=>by
    obtain⟨a,xs,rfl,hq,_,rs⟩:=r.lst
    cases e with
    |non=>cases q.non
    |bl _=>cases q.bl
    |int _=>cases q.int
    |str _=>cases q.str
    | tup es=>
      obtain⟨b,ys,z,hq',rs'⟩:=q.tup
      cases z
      obtain⟨_,_,p1,_⟩:=I.tuple hq'
      obtain⟨_,_,p2,_⟩:=I.list hq
      exact (isTuple_list p1 p2.isList).elim
    | lst es=>
      obtain⟨b,ys,z,hq',_,rs'⟩:=q.lst
      cases z
      cases I.list_inj hq hq'
      rw[aQ.inj I ds es xs rs rs']
theorem aQ.inj (I:Inv X pins σ H s):∀(ds es:List D) (vs:List V),aQ X.K O H ds vs→aQ X.K O' H es vs→ds=es
  | [],es,vs,r,q=>by
    rw[r.nil_inv] at q
    cases es with
    |nil=>rfl
    |cons e es=>obtain⟨_,_,z,_⟩:=q.cons_inv;cases z
  | d ::ds,es,vs,r,q=>by
    obtain⟨x,t,rfl,rx,rt⟩:=r.cons_inv
    cases es with
    |nil=>cases q.nil_inv
    | cons e es=>
      obtain⟨_,_,z,qx,qt⟩:=q.cons_inv
      cases z
      rw[Rep.inj I d e x rx qx,aQ.inj I ds es t rt qt]
end
theorem sW {A:Around} {ds es:List D} {xs ys:List V} {its jts:List Value} (r1:aQ X.K O H ds xs) (r2:aQ X.K O' H es ys) (v1:Vals xs its) (v2:Vals ys jts)
    (ih:∀d∈ds,∀(e:D) (v w:V) (u u':Value),Rep X.K O H d v→Rep X.K O' H e w→RelV v u→RelV w u'→EqAt A s u u' (gH d e)):
    ∀j (h1:j < its.toArray.size) (h2:j < jts.toArray.size),EqAt A s its.toArray[j] jts.toArray[j] (gH (ds.getD j .non) (es.getD j .non)):=by
  intro j h1 h2
  have e1:its[j]?=some its.toArray[j]:=by simp
  have e2:jts[j]?=some jts.toArray[j]:=by simp
  have l1:=v1.length
  have l2:=v2.length
  have k1:=r1.length
  have k2:=r2.length
  simp only[List.size_toArray] at h1 h2
  obtain⟨v,ev,rv⟩:∃v,xs[j]?=some v∧RelV v its.toArray[j]:=by
    have hj:j < xs.length:=by omega
    obtain⟨u,eu,ru⟩:=v1.get (i:=j) (x:=xs[j]) (by simp[hj])
    rw[e1] at eu;cases eu
    exact⟨_,by simp[hj],ru⟩
  obtain⟨w,ew,rw'⟩:∃v,ys[j]?=some v∧RelV v jts.toArray[j]:=by
    have hj:j < ys.length:=by omega
    obtain⟨u,eu,ru⟩:=v2.get (i:=j) (x:=ys[j]) (by simp[hj])
    rw[e2] at eu;cases eu
    exact⟨_,by simp[hj],ru⟩
  obtain⟨d,ed,rd⟩:=r1.ak ev
  obtain⟨e,ee,re⟩:=r2.ak ew
  have g1:ds.getD j .non=d:=by simp[List.getD,ed]
  have g2:es.getD j .non=e:=by simp[List.getD,ee]
  rw[g1,g2]
  exact ih d (List.mem_of_getElem? ed) e v w _ _ rd re rv rw'
theorem Mq {ds es:List D} {n m:Nat} (hn:ds.length=n) (hm:es.length=m):((List.range (min n m)).all (fun j=>gH (ds.getD j .non) (es.getD j .non)) && n ==m)=vm ds es:=by
  by_cases h:n=m
  · subst h
    rw[Nat.min_self,beq_self_eq_true,Bool.and_true,w5 (by rw[hn,hm]),hn]
  · rw[wZ (by rw[hn,hm];exact h),show (n ==m)=false by simpa using h,Bool.and_false]
theorem Yg (I:Inv X pins σ H s) {A:Around} (hu:A.units < cLine) {d e:D} {u u':Value} (h1:Lk X O H s d u) (h2:Lk X O' H s e u')
    (ih:∀c∈(match d with | .tup ds=>ds | .lst ds=>ds |_=>[]),∀(e:D) (v w:V) (u u':Value),Rep X.K O H c v→Rep X.K O' H e w→RelV v u→RelV w u'→EqAt A.in1 s u u' (gH c e)):EqAt A s u u' (gH d e):=by
  cases d with
  | non=>
    cases h1
    cases e with
    | non=>
      cases h2
      exact EqAt.same _
    | bl b=>
      cases h2
      exact EqAt.none_bool _
    | int b=>
      obtain⟨t2,rfl⟩:=h2
      exact EqAt.none_int _ _
    | str b=>
      obtain⟨t2,rfl⟩:=h2
      exact EqAt.none_str _ _
    | tup es=>
      obtain⟨p2,ys,jts,rfl,hq2,v2,hp2,r2⟩:=h2
      exact EqAt.none_tuple hp2 hu
    | lst es=>
      obtain⟨p2,ys,jts,rfl,hq2,v2,hp2,r2⟩:=h2
      exact EqAt.none_list hp2 hu
  | bl a=>
    cases h1
    cases e with
    | non=>
      cases h2
      exact EqAt.bool_none _
    | bl b=>
      cases h2
      exact EqAt.bool_bool _ _
    | int b=>
      obtain⟨t2,rfl⟩:=h2
      exact EqAt.bool_int _ _ _
    | str b=>
      obtain⟨t2,rfl⟩:=h2
      exact EqAt.bool_str _ _ _
    | tup es=>
      obtain⟨p2,ys,jts,rfl,hq2,v2,hp2,r2⟩:=h2
      exact EqAt.bool_tuple _ hp2 hu
    | lst es=>
      obtain⟨p2,ys,jts,rfl,hq2,v2,hp2,r2⟩:=h2
      exact EqAt.bool_list _ hp2 hu
  | int a=>
    obtain⟨t1,rfl⟩:=h1
    cases e with
    | non=>
      cases h2
      exact EqAt.int_none _ _
    | bl b=>
      cases h2
      exact EqAt.int_bool _ _ _
    | int b=>
      obtain⟨t2,rfl⟩:=h2
      exact EqAt.int_int _ _ _ _
    | str b=>
      obtain⟨t2,rfl⟩:=h2
      exact EqAt.int_str _ _ _ _
    | tup es=>
      obtain⟨p2,ys,jts,rfl,hq2,v2,hp2,r2⟩:=h2
      exact EqAt.int_tuple _ _ hp2 hu
    | lst es=>
      obtain⟨p2,ys,jts,rfl,hq2,v2,hp2,r2⟩:=h2
      exact EqAt.int_list _ _ hp2 hu
  | str a=>
    obtain⟨t1,rfl⟩:=h1
    cases e with
    | non=>
      cases h2
      exact EqAt.str_none _ _
    | bl b=>
      cases h2
      exact EqAt.str_bool _ _ _
    | int b=>
      obtain⟨t2,rfl⟩:=h2
      exact EqAt.str_int _ _ _ _
    | str b=>
      obtain⟨t2,rfl⟩:=h2
      exact EqAt.str_str _ _ _ _
    | tup es=>
      obtain⟨p2,ys,jts,rfl,hq2,v2,hp2,r2⟩:=h2
      exact EqAt.str_tuple _ _ hp2 hu
    | lst es=>
      obtain⟨p2,ys,jts,rfl,hq2,v2,hp2,r2⟩:=h2
      exact EqAt.str_list _ _ hp2 hu
  | tup ds=>
    obtain⟨p1,xs,its,rfl,hq1,v1,hp1,r1⟩:=h1
    cases e with
    | non=>
      cases h2
      exact EqAt.tuple_none hp1 hu
    | bl b=>
      cases h2
      exact EqAt.tuple_bool _ hp1 hu
    | int b=>
      obtain⟨t2,rfl⟩:=h2
      exact EqAt.tuple_int _ _ hp1 hu
    | str b=>
      obtain⟨t2,rfl⟩:=h2
      exact EqAt.tuple_str _ _ hp1 hu
    | tup es=>
      obtain⟨p2,ys,jts,rfl,hq2,v2,hp2,r2⟩:=h2
      by_cases hne:p1=p2
      · subst hne
        cases I.tuple_inj hq1 hq2
        rw[jg,aQ.inj I ds es xs r1 r2,uQ]
        exact EqAt.same _
      · have q:=EqAt.of_refs hne (RcAt.tuples hp1 hp2 hu (sW r1 r2 v1 v2 ih))
        simp only[List.size_toArray] at q
        rw[Mq (r1.length.trans v1.length) (r2.length.trans v2.length)] at q
        rw[jg];exact q
    | lst es=>
      obtain⟨p2,ys,jts,rfl,hq2,v2,hp2,r2⟩:=h2
      exact EqAt.tuple_list hp1 hp2 hu
  | lst ds=>
    obtain⟨p1,xs,its,rfl,hq1,v1,hp1,r1⟩:=h1
    cases e with
    | non=>
      cases h2
      exact EqAt.list_none hp1 hu
    | bl b=>
      cases h2
      exact EqAt.list_bool _ hp1 hu
    | int b=>
      obtain⟨t2,rfl⟩:=h2
      exact EqAt.list_int _ _ hp1 hu
    | str b=>
      obtain⟨t2,rfl⟩:=h2
      exact EqAt.list_str _ _ hp1 hu
    | tup es=>
      obtain⟨p2,ys,jts,rfl,hq2,v2,hp2,r2⟩:=h2
      exact EqAt.list_tuple hp1 hp2 hu
    | lst es=>
      obtain⟨p2,ys,jts,rfl,hq2,v2,hp2,r2⟩:=h2
      by_cases hne:p1=p2
      · subst hne
        cases I.list_inj hq1 hq2
        rw[fj,aQ.inj I ds es xs r1 r2,uQ]
        exact EqAt.same _
      · by_cases hz:ds.length=es.length
        · have q:=EqAt.of_refs hne (RcAt.lists hp1 hp2 (by simp only[List.size_toArray];rw[←v1.length,←v2.length,←r1.length,←r2.length];exact hz) hu (sW r1 r2 v1 v2 ih))
          rw[List.size_toArray,←v1.length,←r1.length,←w5 hz] at q
          rw[fj];exact q
        · rw[fj,wZ hz]
          exact EqAt.of_refs hne (RcAt.lists_lengths hp1 hp2 (by simp only[List.size_toArray];rw[←v1.length,←v2.length,←r1.length,←r2.length];simpa using hz) hu)
theorem aiO (I:Inv X pins σ H s) {A:Around} (hu:A.units < cLine) {d e:D} {u u':Value} (h1:Lk X O H s d u) (h2:Lk X O' H s e u')
    (ih:∀c∈(match d with | .tup ds=>ds | .lst ds=>ds |_=>[]),∀(e:D) (v w:V) (u u':Value),Rep X.K O H c v→Rep X.K O' H e w→RelV v u→RelV w u'→EqAt A.in1 s u u' (gH c e)):RcAt A s u u' (gH d e):=by
  cases d with
  | non=>
    cases h1
    cases e with
    | non=>
      cases h2
      exact RcAt.none_none
    | bl b=>
      cases h2
      exact RcAt.none_bool _
    | int b=>
      obtain⟨t2,rfl⟩:=h2
      exact RcAt.none_int _ _
    | str b=>
      obtain⟨t2,rfl⟩:=h2
      exact RcAt.none_str _ _
    | tup es=>
      obtain⟨p2,ys,jts,rfl,hq2,v2,hp2,r2⟩:=h2
      exact RcAt.none_tuple hp2 hu
    | lst es=>
      obtain⟨p2,ys,jts,rfl,hq2,v2,hp2,r2⟩:=h2
      exact RcAt.none_list hp2 hu
  | bl a=>
    cases h1
    cases e with
    | non=>
      cases h2
      exact RcAt.bool_none _
    | bl b=>
      cases h2
      exact RcAt.bool_bool _ _
    | int b=>
      obtain⟨t2,rfl⟩:=h2
      exact RcAt.bool_int _ _ _
    | str b=>
      obtain⟨t2,rfl⟩:=h2
      exact RcAt.bool_str _ _ _
    | tup es=>
      obtain⟨p2,ys,jts,rfl,hq2,v2,hp2,r2⟩:=h2
      exact RcAt.bool_tuple _ hp2 hu
    | lst es=>
      obtain⟨p2,ys,jts,rfl,hq2,v2,hp2,r2⟩:=h2
      exact RcAt.bool_list _ hp2 hu
  | int a=>
    obtain⟨t1,rfl⟩:=h1
    cases e with
    | non=>
      cases h2
      exact RcAt.int_none _ _
    | bl b=>
      cases h2
      exact RcAt.int_bool _ _ _
    | int b=>
      obtain⟨t2,rfl⟩:=h2
      exact RcAt.int_int _ _ _ _
    | str b=>
      obtain⟨t2,rfl⟩:=h2
      exact RcAt.int_str _ _ _ _
    | tup es=>
      obtain⟨p2,ys,jts,rfl,hq2,v2,hp2,r2⟩:=h2
      exact RcAt.int_tuple _ _ hp2 hu
    | lst es=>
      obtain⟨p2,ys,jts,rfl,hq2,v2,hp2,r2⟩:=h2
      exact RcAt.int_list _ _ hp2 hu
  | str a=>
    obtain⟨t1,rfl⟩:=h1
    cases e with
    | non=>
      cases h2
      exact RcAt.str_none _ _
    | bl b=>
      cases h2
      exact RcAt.str_bool _ _ _
    | int b=>
      obtain⟨t2,rfl⟩:=h2
      exact RcAt.str_int _ _ _ _
    | str b=>
      obtain⟨t2,rfl⟩:=h2
      exact RcAt.str_str _ _ _ _
    | tup es=>
      obtain⟨p2,ys,jts,rfl,hq2,v2,hp2,r2⟩:=h2
      exact RcAt.str_tuple _ _ hp2 hu
    | lst es=>
      obtain⟨p2,ys,jts,rfl,hq2,v2,hp2,r2⟩:=h2
      exact RcAt.str_list _ _ hp2 hu
  | tup ds=>
    obtain⟨p1,xs,its,rfl,hq1,v1,hp1,r1⟩:=h1
    cases e with
    | non=>
      cases h2
      exact RcAt.tuple_none hp1 hu
    | bl b=>
      cases h2
      exact RcAt.tuple_bool _ hp1 hu
    | int b=>
      obtain⟨t2,rfl⟩:=h2
      exact RcAt.tuple_int _ _ hp1 hu
    | str b=>
      obtain⟨t2,rfl⟩:=h2
      exact RcAt.tuple_str _ _ hp1 hu
    | tup es=>
      obtain⟨p2,ys,jts,rfl,hq2,v2,hp2,r2⟩:=h2
      have q:=RcAt.tuples hp1 hp2 hu (sW r1 r2 v1 v2 ih)
      simp only[List.size_toArray] at q
      rw[Mq (r1.length.trans v1.length) (r2.length.trans v2.length)] at q
      rw[jg];exact q
    | lst es=>
      obtain⟨p2,ys,jts,rfl,hq2,v2,hp2,r2⟩:=h2
      exact RcAt.tuple_list hp1 hp2 hu
  | lst ds=>
    obtain⟨p1,xs,its,rfl,hq1,v1,hp1,r1⟩:=h1
    cases e with
    | non=>
      cases h2
      exact RcAt.list_none hp1 hu
    | bl b=>
      cases h2
      exact RcAt.list_bool _ hp1 hu
    | int b=>
      obtain⟨t2,rfl⟩:=h2
      exact RcAt.list_int _ _ hp1 hu
    | str b=>
      obtain⟨t2,rfl⟩:=h2
      exact RcAt.list_str _ _ hp1 hu
    | tup es=>
      obtain⟨p2,ys,jts,rfl,hq2,v2,hp2,r2⟩:=h2
      exact RcAt.list_tuple hp1 hp2 hu
    | lst es=>
      obtain⟨p2,ys,jts,rfl,hq2,v2,hp2,r2⟩:=h2
      by_cases hz:ds.length=es.length
      · have q:=RcAt.lists hp1 hp2 (by simp only[List.size_toArray];rw[←v1.length,←v2.length,←r1.length,←r2.length];exact hz) hu (sW r1 r2 v1 v2 ih)
        rw[List.size_toArray,←v1.length,←r1.length,←w5 hz] at q
        rw[fj];exact q
      · rw[fj,wZ hz]
        exact RcAt.lists_lengths hp1 hp2 (by simp only[List.size_toArray];rw[←v1.length,←v2.length,←r1.length,←r2.length];simpa using hz) hu
theorem aiP (I:Inv X pins σ H s) {A:Around} (hu:A.units < cLine) {d e:D} {u u':Value} (h1:Lk X O H s d u) (h2:Lk X O' H s e u')
    (ih:∀c∈(match d with | .tup ds=>ds | .lst ds=>ds |_=>[]),∀(e:D) (v w:V) (u u':Value),Rep X.K O H c v→Rep X.K O' H e w→RelV v u→RelV w u'→EqAt A.in1 s u u' (gH c e)):RcNeAt A s u u' (!gH d e):=by
  cases d with
  | non=>
    cases h1
    cases e with
    | non=>
      cases h2
      exact RcNeAt.none_none
    | bl b=>
      cases h2
      exact RcNeAt.none_bool _
    | int b=>
      obtain⟨t2,rfl⟩:=h2
      exact RcNeAt.none_int _ _
    | str b=>
      obtain⟨t2,rfl⟩:=h2
      exact RcNeAt.none_str _ _
    | tup es=>
      obtain⟨p2,ys,jts,rfl,hq2,v2,hp2,r2⟩:=h2
      exact RcNeAt.none_tuple hp2 hu
    | lst es=>
      obtain⟨p2,ys,jts,rfl,hq2,v2,hp2,r2⟩:=h2
      exact RcNeAt.none_list hp2 hu
  | bl a=>
    cases h1
    cases e with
    | non=>
      cases h2
      exact RcNeAt.bool_none _
    | bl b=>
      cases h2
      exact RcNeAt.bool_bool _ _
    | int b=>
      obtain⟨t2,rfl⟩:=h2
      exact RcNeAt.bool_int _ _ _
    | str b=>
      obtain⟨t2,rfl⟩:=h2
      exact RcNeAt.bool_str _ _ _
    | tup es=>
      obtain⟨p2,ys,jts,rfl,hq2,v2,hp2,r2⟩:=h2
      exact RcNeAt.bool_tuple _ hp2 hu
    | lst es=>
      obtain⟨p2,ys,jts,rfl,hq2,v2,hp2,r2⟩:=h2
      exact RcNeAt.bool_list _ hp2 hu
  | int a=>
    obtain⟨t1,rfl⟩:=h1
    cases e with
    | non=>
      cases h2
      exact RcNeAt.int_none _ _
    | bl b=>
      cases h2
      exact RcNeAt.int_bool _ _ _
    | int b=>
      obtain⟨t2,rfl⟩:=h2
      exact RcNeAt.int_int _ _ _ _
    | str b=>
      obtain⟨t2,rfl⟩:=h2
      exact RcNeAt.int_str _ _ _ _
    | tup es=>
      obtain⟨p2,ys,jts,rfl,hq2,v2,hp2,r2⟩:=h2
      exact RcNeAt.int_tuple _ _ hp2 hu
    | lst es=>
      obtain⟨p2,ys,jts,rfl,hq2,v2,hp2,r2⟩:=h2
      exact RcNeAt.int_list _ _ hp2 hu
  | str a=>
    obtain⟨t1,rfl⟩:=h1
    cases e with
    | non=>
      cases h2
      exact RcNeAt.str_none _ _
    | bl b=>
      cases h2
      exact RcNeAt.str_bool _ _ _
    | int b=>
      obtain⟨t2,rfl⟩:=h2
      exact RcNeAt.str_int _ _ _ _
    | str b=>
      obtain⟨t2,rfl⟩:=h2
      exact RcNeAt.str_str _ _ _ _
    | tup es=>
      obtain⟨p2,ys,jts,rfl,hq2,v2,hp2,r2⟩:=h2
      exact RcNeAt.str_tuple _ _ hp2 hu
    | lst es=>
      obtain⟨p2,ys,jts,rfl,hq2,v2,hp2,r2⟩:=h2
      exact RcNeAt.str_list _ _ hp2 hu
  | tup ds=>
    obtain⟨p1,xs,its,rfl,hq1,v1,hp1,r1⟩:=h1
    cases e with
    | non=>
      cases h2
      exact RcNeAt.tuple_none hp1 hu
    | bl b=>
      cases h2
      exact RcNeAt.tuple_bool _ hp1 hu
    | int b=>
      obtain⟨t2,rfl⟩:=h2
      exact RcNeAt.tuple_int _ _ hp1 hu
    | str b=>
      obtain⟨t2,rfl⟩:=h2
      exact RcNeAt.tuple_str _ _ hp1 hu
    | tup es=>
      obtain⟨p2,ys,jts,rfl,hq2,v2,hp2,r2⟩:=h2
      have q:=RcNeAt.tuples hp1 hp2 hu (sW r1 r2 v1 v2 ih)
      simp only[List.size_toArray] at q
      rw[Mq (r1.length.trans v1.length) (r2.length.trans v2.length)] at q
      rw[jg];exact q
    | lst es=>
      obtain⟨p2,ys,jts,rfl,hq2,v2,hp2,r2⟩:=h2
      exact RcNeAt.tuple_list hp1 hp2 hu
  | lst ds=>
    obtain⟨p1,xs,its,rfl,hq1,v1,hp1,r1⟩:=h1
    cases e with
    | non=>
      cases h2
      exact RcNeAt.list_none hp1 hu
    | bl b=>
      cases h2
      exact RcNeAt.list_bool _ hp1 hu
    | int b=>
      obtain⟨t2,rfl⟩:=h2
      exact RcNeAt.list_int _ _ hp1 hu
    | str b=>
      obtain⟨t2,rfl⟩:=h2
      exact RcNeAt.list_str _ _ hp1 hu
    | tup es=>
      obtain⟨p2,ys,jts,rfl,hq2,v2,hp2,r2⟩:=h2
      exact RcNeAt.list_tuple hp1 hp2 hu
    | lst es=>
      obtain⟨p2,ys,jts,rfl,hq2,v2,hp2,r2⟩:=h2
      by_cases hz:ds.length=es.length
      · have q:=RcNeAt.lists hp1 hp2 (by simp only[List.size_toArray];rw[←v1.length,←v2.length,←r1.length,←r2.length];exact hz) hu (sW r1 r2 v1 v2 ih)
        rw[List.size_toArray,←v1.length,←r1.length,←w5 hz] at q
        rw[fj];exact q
      · rw[fj,wZ hz]
        exact RcNeAt.lists_lengths hp1 hp2 (by simp only[List.size_toArray];rw[←v1.length,←v2.length,←r1.length,←r2.length];simpa using hz) hu
theorem Yh (I:Inv X pins σ H s):∀(n:Nat) (A:Around) (d:D),dep d≤n→A.units+n < cLine→∀(e:D) (v w:V) (u u':Value),Rep X.K O H d v→Rep X.K O' H e w→RelV v u→RelV w u'→EqAt A s u u' (gH d e):=by
  intro n
  induction n with
  | zero=>
    intro A d hd hu e v w u u' r1 r2 q1 q2
    refine Yg I (by omega) (zJ I r1 q1) (zJ I r2 q2) fun c hc=>?_
    cases d with
    |tup ds=>rw[dep] at hd;omega
    |lst ds=>rw[dep] at hd;omega
    |_=>simp at hc
  | succ n ihn=>
    intro A d hd hu e v w u u' r1 r2 q1 q2
    refine Yg I (by omega) (zJ I r1 q1) (zJ I r2 q2) fun c hc=>?_
    have hc':dep c≤n:=by
      cases d with
      |tup ds=>rw[dep] at hd;have:=sV (ds:=ds) hc;omega
      |lst ds=>rw[dep] at hd;have:=sV (ds:=ds) hc;omega
      |_=>simp at hc
    exact ihn A.in1 c hc' (by show A.units+1+n < cLine;omega)
end
noncomputable def rA (d e:D):R D:=if dep d≤40 then .ok (.bl (gH d e)) else .bad
noncomputable def iT (d e:D):R D:=if dep d≤40 then .ok (.bl (!gH d e)) else .bad
section
variable {X:Cx}
theorem alP (hu:X.A.units+60 < cLine):OpR X (compareOp .Eq) (fun x y H Q=>∃O O' d e,Rep X.K O H d x∧Rep X.K O' H e y∧dep d≤40∧Q (.bl (gH d e)) H):=by
  intro pins s σ H x y v u Q I rx ry h
  obtain⟨O,O',d,e,r1,r2,hd,q⟩:=h
  refine aiO I (show X.A.units < cLine by omega) (zJ I r1 rx) (zJ I r2 ry) (fun c hc=>?_) X.prog X.w X.xe _ ⟨.bl _,H,I,rfl,q⟩
  have hc':dep c≤40:=by
    cases d with
    |tup ds=>rw[dep] at hd;have:=sV (ds:=ds) hc;omega
    |lst ds=>rw[dep] at hd;have:=sV (ds:=ds) hc;omega
    |_=>simp at hc
  exact Yh I 40 X.A.in1 c hc' (by show X.A.units+1+40 < cLine;omega)
theorem alQ (hu:X.A.units+60 < cLine):OpR X (compareOp .NotEq) (fun x y H Q=>∃O O' d e,Rep X.K O H d x∧Rep X.K O' H e y∧dep d≤40∧Q (.bl (!gH d e)) H):=by
  intro pins s σ H x y v u Q I rx ry h
  obtain⟨O,O',d,e,r1,r2,hd,q⟩:=h
  refine aiP I (show X.A.units < cLine by omega) (zJ I r1 rx) (zJ I r2 ry) (fun c hc=>?_) X.prog X.w X.xe _ ⟨.bl _,H,I,rfl,q⟩
  have hc':dep c≤40:=by
    cases d with
    |tup ds=>rw[dep] at hd;have:=sV (ds:=ds) hc;omega
    |lst ds=>rw[dep] at hd;have:=sV (ds:=ds) hc;omega
    |_=>simp at hc
  exact Yh I 40 X.A.in1 c hc' (by show X.A.units+1+40 < cLine;omega)
theorem zK (hu:X.A.units+60 < cLine):lK X (compareOp .Eq) rA:=by
  refine⟨_,alP hu,fun ρ O σ H Q x y dx dy j rx ry h=>?_⟩
  unfold rA at h
  by_cases hd:dep dx≤40
  · rw[if_pos hd] at h;exact⟨O,O,dx,dy,rx,ry,hd,fin h (iw _)⟩
  · rw[if_neg hd] at h;exact h.elim
theorem jW (hu:X.A.units+60 < cLine):lK X (compareOp .NotEq) iT:=by
  refine⟨_,alQ hu,fun ρ O σ H Q x y dx dy j rx ry h=>?_⟩
  unfold iT at h
  by_cases hd:dep dx≤40
  · rw[if_pos hd] at h;exact⟨O,O,dx,dy,rx,ry,hd,fin h (iw _)⟩
  · rw[if_neg hd] at h;exact h.elim
end
end Pu
namespace Pu
open PySem PySem.Spec L2
open PyProof.Rows hiding St
section
variable {prog:Program} {w:World} {A:Around} {E:Value→Shared→Prop} {s:Shared}
end
section
variable {X:Cx} {e:Expr} {te:TE} {pos p2 p3 p4:Pos} {j:Nat} {f:au→R D}
theorem Vals.rev {xs:List V} {us:List Value} (h:Vals xs us):Vals xs.reverse us.reverse:=by
  induction h with
  |nil=>exact .nil
  | cons r _ ih=>
    simp only[List.reverse_cons]
    exact ih.append (.cons r .nil)
noncomputable def anK:D→R D
  | .tup ds=> .ok (.tup ds.reverse)
  |_=> .bad
noncomputable def gF:D→D→R D
  | .int i,.int j=> .ok (.int (i+j))
  | .tup xs,.tup ys=>if 0 < xs.length∧xs.length+ys.length≤1000000 then .ok (.tup (xs++ys)) else .bad
  |_,_=> .bad
theorem m7:lK X (binaryOp .Add) gF:=by
  refine⟨_,OpR.or op_add op_catT,fun ρ O σ H Q x y dx dy j0 rx ry h=>?_⟩
  cases dx <;> cases dy <;> first
    |exact h.elim
    |skip
  · rename_i i j
    exact .inl ⟨i,j,rx.int,ry.int,fin h (cM _)⟩
  · rename_i xs ys
    have h:good X (rD X) O (if 0 < xs.length∧xs.length+ys.length≤1000000 then .ok (.tup (xs++ys)) else .bad) σ H Q:=h
    by_cases hc:0 < xs.length∧xs.length+ys.length≤1000000
    · rw[if_pos hc] at h
      obtain⟨a,us,rfl,ha,r1⟩:=rx.tup
      obtain⟨b,ws,rfl,hb,r2⟩:=ry.tup
      refine .inr ⟨a,b,us,ws,rfl,rfl,ha,hb,fun z=>?_,?_,fun z=>?_,fun z l hl=>?_⟩
      · have h1:=r1.length
        have h2:=hc.1
        rw[z] at h1
        rw[h1] at h2
        exact Nat.lt_irrefl _ h2
      · rw[←r1.length,←r2.length];exact Nat.le_trans hc.2 jx
      · subst z
        have:ys=[]:=List.eq_nil_of_length_eq_zero r2.length
        subst this
        rw[List.append_nil] at h
        exact fin h (jG ha r1)
      · exact h _ _ (Same.upd hl) (Rep.wJ hl (r1.append r2))
    · rw[if_neg hc] at h;exact h.elim
end
end Pu
namespace Pu
open PySem PySem.Spec L2
open PyProof.Rows hiding St
section
variable {K:PySem.W.Frag} {O:Addr→Prop} {H:Hp}
end
section
variable {X:Cx} {e e1 e2:Expr} {f g:au→R D} {pos:Pos}
end
end Pu
namespace Pu
open PySem PySem.W PyProof.Rows
noncomputable def Sat {α:Type} (n:Nat) (lt:Nat→Nat→Bool):KasT α→(α→Prop)→Prop
  | .ret a,Q=>Q a
  | .ask i j k,Q=>i < n∧j < n∧Sat n lt (k (lt i j)) Q
section
variable {n:Nat} {lt:Nat→Nat→Bool}
theorem Sat.bind {α β:Type} {f:α→KasT β} {Q:β→Prop}:∀{t:KasT α},Sat n lt t (fun a=>Sat n lt (f a) Q)→Sat n lt (t.bind f) Q
  | .ret _,h=>h
  | .ask i j k,h=>⟨h.1,h.2.1,Sat.bind h.2.2⟩
theorem Sat.mono {α:Type} {Q Q':α→Prop} (w:∀a,Q a→Q' a):∀{t:KasT α},Sat n lt t Q→Sat n lt t Q'
  | .ret _,h=>w _ h
  | .ask _ _ _,h=>⟨h.1,h.2.1,Sat.mono w h.2.2⟩
theorem Sat.wp {α:Type} {cmp:Nat→Nat→(Bool→Shared→Prop)→Shared→Prop} {s:Shared} {P:α→Prop} {Q:α→Shared→Prop} (hc:∀i j C,i < n→j < n→C (lt i j) s→cmp i j C s) (hQ:∀a,P a→Q a s):
    ∀{t:KasT α},Sat n lt t P→t.kasWp cmp Q s
  | .ret _,h=>hQ _ h
  | .ask i j k,h=>hc i j _ h.1 h.2.1 (Sat.wp hc hQ h.2.2)
structure Ord (n:Nat) (lt:Nat→Nat→Bool):Prop where
  tr:∀a b c,a < n→b < n→c < n→lt a b=true→lt b c=true→lt a c=true
  tot:∀a b,a < n→b < n→a≠b→lt a b=false→lt b a=true
structure Pm (n:Nat) (p:Array Nat):Prop where
  size:p.size=n
  perm:p.toList.Perm (List.range n)
theorem Pm.bd {p:Array Nat} (h:Pm n p) {i:Nat} (hi:i < n):p.getD i 0 < n:=by
  have hs:i < p.size:=by rw[h.size];exact hi
  have:p.getD i 0=p[i]:=by simp[Array.getD,hs]
  rw[this]
  have hm:p[i]∈p.toList:=by simp
  exact List.mem_range.mp (h.perm.mem_iff.mp hm)
theorem Pm.ne {p:Array Nat} (h:Pm n p) {i j:Nat} (hi:i < n) (hj:j < n) (hij:i≠j):p.getD i 0≠p.getD j 0:=by
  have hs:i < p.size:=by rw[h.size];exact hi
  have hs2:j < p.size:=by rw[h.size];exact hj
  have e1:p.getD i 0=p.toList[i]'(by simpa using hs):=by simp[Array.getD,hs]
  have e2:p.getD j 0=p.toList[j]'(by simpa using hs2):=by simp[Array.getD,hs2]
  rw[e1,e2]
  have nd:p.toList.Nodup:=h.perm.nodup_iff.mpr List.nodup_range
  intro z
  exact hij ((List.getElem_inj nd).mp z)
theorem Pm.of {p q:Array Nat} (h:Pm n p) (w:q.Perm p):Pm n q:=
  ⟨by rw[←h.size];exact w.size_eq,(Array.perm_iff_toList_perm.mp w).trans h.perm⟩
noncomputable def S (lt:Nat→Nat→Bool) (p:Array Nat) (k:Nat):Prop:=∀i j,i < j→j < k→lt (p.getD i 0) (p.getD j 0)=true
noncomputable def De (lt:Nat→Nat→Bool) (p:Array Nat) (k:Nat):Prop:=∀i j,i < j→j < k→lt (p.getD j 0) (p.getD i 0)=true
theorem S.one {p:Array Nat}:S lt p 1:=fun i j h1 h2=>by omega
theorem S.ext (o:Ord n lt) {p:Array Nat} (h:Pm n p) {a:Nat} (ha:1≤a) (hn:a < n) (s:S lt p a) (e:lt (p.getD (a - 1) 0) (p.getD a 0)=true):S lt p (a+1):=fun i j h1 h2=>by
  by_cases hj:j < a
  · exact s i j h1 hj
  · have ej:j=a:=by omega
    subst ej
    by_cases hi:i=j - 1
    · rw[hi];exact e
    · exact o.tr _ _ _ (h.bd (by omega)) (h.bd (by omega)) (h.bd hn) (s i (j - 1) (by omega) (by omega)) e
theorem De.ext (o:Ord n lt) {p:Array Nat} (h:Pm n p) {a:Nat} (ha:1≤a) (hn:a < n) (s:De lt p a) (e:lt (p.getD a 0) (p.getD (a - 1) 0)=true):De lt p (a+1):=fun i j h1 h2=>by
  by_cases hj:j < a
  · exact s i j h1 hj
  · have ej:j=a:=by omega
    subst ej
    by_cases hi:i=j - 1
    · rw[hi];exact e
    · exact o.tr _ _ _ (h.bd hn) (h.bd (by omega)) (h.bd (by omega)) e (s i (j - 1) (by omega) (by omega))
theorem Rh (o:Ord n lt) {p:Array Nat} (h:Pm n p):∀(f a:Nat),1≤a→a+f≤n→S lt p a→Sat n lt (kas_asc p f a) (fun m=>a≤m∧m≤a+f∧S lt p m∧(m < a+f→lt (p.getD m 0) (p.getD (m - 1) 0)=true))
  |0,a,h1,h2,s=>⟨Nat.le_refl _,Nat.le_refl _,s,fun z=>absurd z (by omega)⟩
  | f +1,a,h1,h2,s=>by
    refine⟨h.bd (by omega),h.bd (by omega),?_⟩
    cases e:lt (p.getD a 0) (p.getD (a - 1) 0) with
    |true=>exact⟨Nat.le_refl _,by omega,s,fun _=>e⟩
    | false=>
      have e':=o.tot _ _ (h.bd (by omega)) (h.bd (by omega)) (h.ne (i:=a) (j:=a - 1) (by omega) (by omega) (by omega)) e
      show Sat n lt (kas_asc p f (a+1)) _
      refine Sat.mono (fun m ⟨m1,m2,m3,m4⟩=>⟨by omega,by omega,m3,fun z=>m4 (by omega)⟩) (Rh o h f (a+1) (by omega) (by omega) (S.ext o h h1 (by omega) s e'))
theorem Yi (o:Ord n lt) {p:Array Nat} (h:Pm n p):∀(f a:Nat),1≤a→a+f≤n→De lt p a→Sat n lt (kas_desc f p a 0) (fun r=>r.1=p∧r.2.2=0∧a≤r.2.1∧r.2.1≤a+f∧De lt p r.2.1)
  |0,a,h1,h2,s=>⟨rfl,rfl,Nat.le_refl _,Nat.le_refl _,s⟩
  | f +1,a,h1,h2,s=>by
    refine⟨h.bd (by omega),h.bd (by omega),?_⟩
    cases e:lt (p.getD a 0) (p.getD (a - 1) 0) with
    | true=>
      show Sat n lt (kas_desc f p (a+1) 0) _
      exact Sat.mono (fun r ⟨m1,m2,m3,m4,m5⟩=>⟨m1,m2,by omega,by omega,m5⟩) (Yi o h f (a+1) (by omega) (by omega) (De.ext o h h1 (by omega) s e))
    | false=>
      have e':=o.tot _ _ (h.bd (by omega)) (h.bd (by omega)) (h.ne (i:=a) (j:=a - 1) (by omega) (by omega) (by omega)) e
      refine⟨h.bd (by omega),h.bd (by omega),?_⟩
      rw[e']
      exact⟨rfl,rfl,Nat.le_refl _,Nat.le_add_right _ _,s⟩
theorem KJ {p q:Array Nat} {i j:Nat} (h:p[i]?=q[j]?):p.getD i 0=q.getD j 0:=by
  rw[Array.getD_eq_getD_getElem?,Array.getD_eq_getD_getElem?,h]
theorem agM (o:Ord n lt) {p:Array Nat} (h:Pm n p) {m:Nat} (h1:1≤m) (h2:m≤n) (s:De lt p m):Sat n lt (kas_tail3 m n p) (fun r=>Pm n r.2∧1≤r.1∧r.1≤n∧S lt r.2 r.1):=by
  have hq:Pm n (kas_rev p 0 m):=h.of (mirror_perm _ _ _ _)
  have hs:S lt (kas_rev p 0 m) m:=fun i j hij hj=>by
    have g:∀k,k < m→(kas_rev p 0 m).getD k 0=p.getD (m - 1 - k) 0:=fun k hk=>by
      apply KJ
      show (mirror p 0 m ((m - 0) / 2))[k]?=_
      rw[getElem?_mirror_all (by rw[h.size];exact h2),if_pos ⟨by omega,hk⟩]
      congr 1;omega
    rw[g i (by omega),g j hj]
    exact s (m - 1 - j) (m - 1 - i) (by omega) (by omega)
  exact Sat.bind (Sat.mono (fun k ⟨k1,k2,k3,_⟩=>⟨hq,by omega,by omega,k3⟩) (Rh o hq (n - m) m h1 (by omega) hs))
theorem agN (o:Ord n lt) {p:Array Nat} (h:Pm n p) (hn:1≤n):Sat n lt (kas_count n p) (fun r=>Pm n r.2∧1≤r.1∧r.1≤n∧S lt r.2 r.1):=by
  refine Sat.bind (Sat.mono (fun m ⟨m1,m2,m3,m4⟩=>?_) (Rh o h (n - 1) 1 (Nat.le_refl _) (by omega) S.one))
  by_cases e:m=n
  · rw[if_pos (by simp[e])]
    exact⟨h,m1,by omega,m3⟩
  · rw[if_neg (by simp[e])]
    by_cases hm:m > 1
    · rw[if_pos hm]
      refine⟨h.bd (by omega),h.bd (by omega),?_⟩
      rw[m3 0 (m - 1) (by omega) (by omega)]
      exact⟨h,m1,by omega,m3⟩
    · rw[if_neg hm]
      have em:m=1:=by omega
      subst em
      have e0:=m4 (by omega)
      have d2:De lt p 2:=De.ext o h (a:=1) (Nat.le_refl _) (by omega) (fun i j a1 a2=>by omega) e0
      refine Sat.bind (Sat.mono (fun r ⟨r1,r2,r3,r4,r5⟩=>?_) (Yi o h (n - (1+1)) (1+1) (by omega) (by omega) d2))
      rw[if_neg (by omega),r1]
      exact agM o h (by omega) (by omega) r5
theorem G9 (o:Ord n lt) {p:Array Nat} (h:Pm n p) {k:Nat} (hk:k < n) (s:S lt p k):∀(f l r:Nat),l≤r→r≤k→r - l≤f→(∀i,i < l→lt (p.getD i 0) (p.getD k 0)=true)→(∀i,r≤i→i < k→lt (p.getD k 0) (p.getD i 0)=true)→
    Sat n lt (kas_place p k f l r) (fun m=>m≤k∧(∀i,i < m→lt (p.getD i 0) (p.getD k 0)=true)∧∀i,m≤i→i < k→lt (p.getD k 0) (p.getD i 0)=true)
  |0,l,r,h1,h2,h3,hl,hr=>⟨by omega,hl,fun i a b=>hr i (by omega) b⟩
  | f + 1,l,r,h1,h2,h3,hl,hr=>by
    unfold kas_place
    by_cases hlr:l≥r
    · rw[if_pos hlr]
      exact⟨by omega,hl,fun i a b=>hr i (by omega) b⟩
    · rw[if_neg hlr]
      have hm:(l+r) / 2 < k:=by omega
      refine⟨h.bd hk,h.bd (by omega),?_⟩
      cases e:lt (p.getD k 0) (p.getD ((l+r) / 2) 0) with
      | true=>
        refine G9 o h hk s f l ((l+r) / 2) (by omega) (by omega) (by omega) hl fun i a b=>?_
        by_cases hi:i=(l+r) / 2
        · rw[hi];exact e
        · exact o.tr _ _ _ (h.bd hk) (h.bd (by omega)) (h.bd (by omega)) e (s _ _ (by omega) b)
      | false=>
        have e':=o.tot _ _ (h.bd hk) (h.bd (by omega)) (h.ne (i:=k) (j:=(l+r) / 2) hk (by omega) (by omega)) e
        refine G9 o h hk s f ((l+r) / 2+1) r (by omega) h2 (by omega) (fun i a=>?_) hr
        by_cases hi:i=(l+r) / 2
        · rw[hi];exact e'
        · exact o.tr _ _ _ (h.bd (by omega)) (h.bd (by omega)) (h.bd hk) (s i ((l+r) / 2) (by omega) hm) e'
theorem ac0 (o:Ord n lt):∀(f:Nat) (p:Array Nat) (k:Nat),Pm n p→S lt p k→k+f≤n→Sat n lt (kas_bin f p k) (fun q=>Pm n q∧S lt q (k+f))
  |0,p,k,h,s,_=>⟨h,s⟩
  | f + 1, p, k,h,s,hk=>by
    refine Sat.bind (Sat.mono (fun l ⟨l1,l2,l3⟩=>?_) (G9 o h (by omega) s k 0 k (Nat.zero_le _) (Nat.le_refl _) (by omega) (fun i a=>by omega) fun i a b=>by omega))
    have hq:Pm n (bubble p k (k - l)):=h.of (bubble_perm _ _ _)
    have g:∀i,(bubble p k (k - l)).getD i 0=if i=l then p.getD k 0 else if l < i∧i≤k then p.getD (i - 1) 0 else p.getD i 0:=fun i=>by
      have e:=getElem?_bubble (xs:=p) (src:=k) (by rw[h.size];omega) (k - l) (by omega) i
      rw[show k - (k - l)=l by omega] at e
      by_cases c1:i=l
      · rw[if_pos c1] at e ⊢;exact KJ e
      · rw[if_neg c1] at e ⊢
        by_cases c2:l < i∧i≤k
        · rw[if_pos c2] at e ⊢;exact KJ e
        · rw[if_neg c2] at e ⊢;exact KJ e
    have hs : S lt (bubble p k (k - l)) (k+1):=fun i j hij hj=>by
      rw[g i,g j]
      by_cases c1:i=l
      · rw[if_pos c1,if_neg (by omega),if_pos ⟨by omega,by omega⟩]
        exact l3 (j - 1) (by omega) (by omega)
      · rw [if_neg c1]
        by_cases c2:l < i∧i≤k
        · rw[if_pos c2,if_neg (by omega),if_pos ⟨by omega,by omega⟩]
          exact s (i - 1) (j - 1) (by omega) (by omega)
        · rw [if_neg c2]
          have hil:i < l:=by omega
          by_cases c3:j=l
          · rw[if_pos c3];exact l2 i hil
          · rw[if_neg c3]
            by_cases c4:l < j∧j≤k
            · rw[if_pos c4]
              by_cases c5:i=j - 1
              · omega
              · exact s i (j - 1) (by omega) (by omega)
            · rw[if_neg c4]
              exact s i j hij (by omega)
    have:=ac0 o f (bubble p k (k - l)) (k+1) hq hs (by omega)
    exact Sat.mono (fun q ⟨q1,q2⟩=>⟨q1,by rw[show k+(f+1)=k+1+f by omega];exact q2⟩) this
theorem aiQ (o:Ord n lt) (hn:1≤n):Sat n lt (kas_sort n) (fun q=>Pm n q∧S lt q n):=by
  have h0:Pm n (List.toArray (List.range n)):=⟨by simp,by simp⟩
  refine Sat.bind (Sat.mono (fun r ⟨r1,r2,r3,r4⟩=>?_) (agN o h0 hn))
  by_cases hr:r.1 < n
  · rw[if_pos hr]
    have e:max r.1 1=r.1:=by omega
    rw[e]
    refine Sat.mono (fun q ⟨q1,q2⟩=>⟨q1,?_⟩) (ac0 o (n - r.1) r.2 r.1 r1 r4 (by omega))
    rw[show r.1+(n - r.1)=n by omega] at q2
    exact q2
  · rw[if_neg hr]
    have e:r.1=n:=by omega
    rw[e] at r4
    exact⟨r1,r4⟩
end
end Pu
namespace Pu
open PySem PySem.Spec PySem.W L2
open PyProof.Rows hiding St
theorem Od {h:Heap} {a b:Addr} {vs:List Value} {out:Array Value} {o:Obj} (hb:b≠a) (e:h.get? b=some o):(sortedHeap h a vs out).get? b=some o:=by
  unfold sortedHeap
  rw[Heap.get?_update_ne _ _ _ _ hb]
  exact Heap.get?_push_of_some _ (Heap.get?_push_of_some _ (by rw[Heap.get?_update_ne _ _ _ _ hb];exact e))
theorem sortedHeap_at {h:Heap} {a:Addr} {vs:List Value} {out:Array Value} {n:Nat} (e:h.get? a=some (seqObj "list" vs.toArray n)):∃c,(sortedHeap h a vs out).get? a=some (seqObj "list" out c):=by
  unfold sortedHeap
  have h1:=get?_update_seq e (fun _=>(#[]:Array Value))
  exact⟨_,get?_update_seq (Heap.get?_push_of_some _ (Heap.get?_push_of_some _ h1)) fun _=>out⟩
theorem agO (vs:List Value) (h:vs.length < 2):(vs.toArray.zip vs.toArray).map (·.2)=List.toArray ((List.toArray (List.range vs.length)).toList.map fun i=>vs.getD i Value.none):=by
  match vs,h with
  |[],_=>simp
  |[v],_=>simp[List.range_succ]
  |_::_::_,h=>exact absurd h (by simp)
section
variable {prog:Program} {w:World} {A:Around} {E:Value→Shared→Prop} {s:Shared}
theorem ako {a:Addr} {vs:List Value} {n:Nat} {P:PySem.Fin→Shared→Prop} {lt:Nat→Nat→Bool} {kk:SortKind} (ho:s.heap.get? a=some (seqObj "list" vs.toArray n)) (h64:vs.length < 64) (od:Ord vs.length lt)
    (kind:2≤vs.length→∀h':Heap,(∀b ob,b≠a→s.heap.get? b=some ob→h'.get? b=some ob)→∀Q:SortKind→Shared→Prop,Q kk {s with heap:=h'}→wpAny (model prog w) A (keyKind' vs.toArray) Q (fun _ _=>False) {s with heap:=h'})
    (ask:∀h':Heap,(∀b ob,b≠a→s.heap.get? b=some ob→h'.get? b=some ob)→∀i j C,i < vs.length→j < vs.length→C (lt i j) {s with heap:=h'}→kas_ask prog w A kk vs i j C {s with heap:=h'})
    (h:∀q:Array Nat,Pm vs.length q→S lt q vs.length→P (.done (.ret .none)) {s with heap:=sortedHeap s.heap a vs (List.toArray (q.toList.map fun i=>vs.getD i Value.none))}):
    wpAny (model prog w) A (Builtin.«list.sort» ⟨[.ref a],[]⟩) P E s:=by
  rw[list_sort_plain]
  have ha:a < s.heap.objs.size:=Heap.lt_size ho
  refine wpAny_bind (listItems_at ho rfl ?_)
  refine wpAny_bind (listUpdate_at ho rfl ?_ (by rw[List.size_toArray,sizeLine_eq];omega) (Nat.zero_le _))
  obtain⟨e1,ho1⟩:∃e1,(s.heap.update a (Obj.mapSeq fun _=>(#[]:Array Value))).get? a=some (seqObj "list" #[] e1):=⟨_,get?_update_seq ho (fun _=> #[])⟩
  refine wpAny_bind (seqEpoch_at ho1 rfl ?_)
  refine wpAny_bind (wpAny_newTuple ?_ (by show vs.length≤_;rw[sizeLine_eq];omega))
  refine wpAny_bind (wpAny_newList ?_ (Nat.zero_le _))
  refine wpAny_holding ?_
  generalize hh6:((s.heap.update a (Obj.mapSeq fun _=>(#[]:Array Value))).push (seqObj "tuple" vs.toArray 0)).push (seqObj "list" #[] 0)=h6
  have ho6:h6.get? a=some (seqObj "list" #[] e1):=by
    rw[←hh6];exact Heap.get?_push_of_some _ (Heap.get?_push_of_some _ ho1)
  have keep:∀b ob,b≠a→s.heap.get? b=some ob→h6.get? b=some ob:=fun b ob hb e=>by
    rw[←hh6]
    exact Heap.get?_push_of_some _ (Heap.get?_push_of_some _ (by rw[Heap.get?_update_ne _ _ _ _ hb];exact e))
  have hsh:∀out:Array Value,sortedHeap s.heap a vs out=h6.update a (Obj.mapSeq fun _=>out):=fun out=>by rw[←hh6];rfl
  show wpAny (model prog w) A _ P E {s with heap:=h6}
  dsimp only
  have hsz:vs.toArray.size=vs.length:=by simp
  by_cases h2:vs.toArray.size < 2
  · rw[if_pos h2,if_pos h2]
    refine wpAny_bind (wpAny_pure ?_)
    rw[StateT.run_pure]
    refine wpAny_bind (wpAny_pure ?_)
    dsimp only
    refine wpAny_bind (seqEpoch_at ho6 rfl ?_)
    refine wpAny_bind (listUpdate_at ho6 rfl ?_ (Nat.zero_le _) (by show (((pairsOf vs)).map (·.2)).size≤_;rw[Array.size_map,pairsOf_size,sizeLine_eq];omega))
    simp only[bne_self_eq_false,Bool.false_eq_true,if_false]
    have q:=h (List.toArray (List.range vs.length)) ⟨by simp,by simp⟩ (fun i j h1 h3=>by omega)
    rw[hsh] at q
    have eo:(arrOf (SortSt.mk' general' (vs.toArray.zip vs.toArray) #[] 7 none)).map (·.2)=List.toArray ((List.toArray (List.range vs.length)).toList.map fun i=>vs.getD i Value.none):=by
      show (vs.toArray.zip vs.toArray).map (·.2)=_
      exact agO vs (by rw[←hsz];exact h2)
    refine wpAny_pure ?_
    show P _ {s with heap:=h6.update a (Obj.mapSeq fun _=>(arrOf (SortSt.mk' general' (vs.toArray.zip vs.toArray) #[] 7 none)).map (·.2))}
    rw[eo]
    exact q
  · rw[if_neg h2,if_neg h2]
    have h2':2≤vs.length:=by rw[hsz] at h2;omega
    refine wpAny_bind (wpAny_mono (kind h2' h6 keep (fun κ s'=>κ=kk∧s'={s with heap:=h6}) ⟨rfl,rfl⟩) (fun κ s0 hk=>?_) fun _ _ x=>x.elim)
    obtain⟨rfl,rfl⟩:=hk
    have wp:(kas_sort vs.length).kasWp (kas_ask prog w A κ vs) (fun p s''=>(Pm vs.length p∧S lt p vs.length)∧s''={s with heap:=h6}) {s with heap:=h6}:=
      Sat.wp (ask h6 keep) (fun p hp=>⟨hp,rfl⟩) (aiQ od (by omega))
    refine wpAny_bind (wpAny_mono (kat_run (Q:=fun st' s'=>∃p:Array Nat,p.size=vs.length∧arrOf st'=p.map (kas_item (vs.toArray.zip vs.toArray))∧failedOf st'=none∧(Pm vs.length p∧S lt p vs.length)∧s'={s with heap:=h6})
      rfl h2' h64 (fun p' st' s' a1 a2 a3 a4=>⟨p',a1,a2,a3,a4⟩) wp) ?_ fun _ _ e=>e)
    rintro⟨⟨⟩,st'⟩ s' ⟨p,hp,har,hf,⟨hpm,hps⟩,rfl⟩
    dsimp only
    have hout:=kat_snds rfl har
    rw[hout]
    refine wpAny_bind (seqEpoch_at ho6 rfl ?_)
    refine wpAny_bind (listUpdate_at ho6 rfl ?_ (Nat.zero_le _) (by show (List.toArray (p.toList.map fun i=>vs.getD i Value.none)).size≤_;rw[List.size_toArray,List.length_map,Array.length_toList,hp,sizeLine_eq];omega))
    rw[hf]
    simp only[bne_self_eq_false,Bool.false_eq_true,if_false]
    have q:=h p hpm hps
    rw[hsh] at q
    exact wpAny_pure q
end
end Pu
namespace Pu
open PySem PySem.Spec PySem.W L2
open PyProof.Rows hiding St
section
variable {prog:Program} {w:World} {A:Around} {E:Value→Shared→Prop} {s:Shared}
end
end Pu
namespace Pu
open PySem PySem.Spec PySem.W L2
open PyProof.Rows hiding St
section
variable {X:Cx} {pins:List (Addr×Obj)} {σ:St} {H:Hp} {s:Shared}
end
theorem ac1:∀as:List Addr,Vals (as.map V.ref) (as.map Value.ref)
  |[]=> .nil
  |a::as=> .cons rfl (ac1 as)
section
variable {X:Cx}
end
end Pu
namespace Pu
open PySem PySem.Spec PySem.W L2
open PyProof.Rows hiding St
section
variable {X:Cx}
end
end Pu
namespace Pu
open PySem PySem.Spec L2
open PyProof.Rows hiding St
section
variable {X:Cx} {a b:Expr} {es:List Expr} {f g:au→R D} {fa:au→R (List D)} {pos:Pos}
noncomputable def Ae (i k:Nat) (f g:au→R D):au→So:=fun ρ=>nZ (f ρ) ρ fun d=>nZ (g ρ) ρ fun e=> .nx ((ρ.set i (some (.val d))).set k (some (.val e)))
theorem Bv (i k:Nat) {x y:Str} {px py pt:Pos} {kt k2 pt2} (hc:X.calm=true) (hN:X.N.Nodup) (ha:DE X a f) (hb:DE X b g) (hi:X.N[i]?=some x:=by rfl) (hk:X.N[k]?=some y:=by rfl) (hik:i≠k:=by decide)
    (hx:X.env.scope.names.lookup x=some .local:=by rfl) (hy:X.env.scope.names.lookup y=some .local:=by rfl)
    (h1:starEach [a,b] X.env=(false,eval a X.env)::starEach [b] X.env:=by rfl) (h2:starEach [b] X.env=(false,eval b X.env)::starEach [] X.env:=by rfl)
    (hw:swappedStores [.Tuple [.Name x px,.Name y py] kt pt] (.Tuple [a,b] k2 pt2) X.env=pure (some [x,y]):=by rfl)
    (hs:swapsWithSole [.Tuple [.Name x px,.Name y py] kt pt] (.Tuple [a,b] k2 pt2) pos.line X.env=pure false:=by rfl):
    DS X (.Assign [.Tuple [.Name x px,.Name y py] kt pt] (.Tuple [a,b] k2 pt2) pos) (Ae i k f g):=by
  refine PS.imp (ps_par hc hN hi hk hik hx hy (pa_cons ha (pa_cons hb pa_nil h2) h1) hw hs) fun σ H E h=>?_
  obtain⟨H0,O0,O,ρ,j,h⟩:=h
  refine⟨ρ,O,j.inn,?_⟩
  unfold Ae nZ at h
  cases e1:f ρ with
  |bad=>rw[e1] at h;exact h
  |err c=>rw[e1] at h;exact h σ H O j
  | ok d=>
    rw[e1] at h
    intro v H1 s1 rv
    have j1:=j.grow s1
    refine⟨ρ,O,j1.inn,?_⟩
    cases e2:g ρ with
    |bad=>simp only[e2] at h;exact h
    |err c=>simp only[e2] at h;exact Ua.same (h σ H O j) s1
    | ok e=>
      simp only[e2] at h
      intro w H2 s2 rw2
      refine⟨v,w,rfl,?_⟩
      exact h _ H2 O (((j1.grow s2).set (List.getElem?_eq_some_iff.mp hi).1 (rv.same s2)).set (List.getElem?_eq_some_iff.mp hk).1 rw2) ((Same.iR s1).trans (Same.iR s2))
noncomputable def Yj (i k:Nat) (f:au→R D) (fa:au→R (List D)):au→So:=fun ρ=>nZ (f ρ) ρ fun d=>match fa ρ with
  | .ok ds=>if ds.length≤1000000 then .nx ((ρ.set i (some (.val d))).set k (some (.lst ds))) else .bad
  |_=> .bad
theorem akp (i k:Nat) {x y:Str} {px py pt p3:Pos} {kt k2 pt2} (hc:X.calm=true) (hN:X.N.Nodup) (ha:DE X a f) (hb:DA X es fa) (hi:X.N[i]?=some x:=by rfl) (hk:X.N[k]?=some y:=by rfl)
    (hx:Loc X.env.scope x:=by first |exact Or.inl rfl |exact Or.inr rfl) (hy:Loc X.env.scope y:=by first |exact Or.inl rfl |exact Or.inr rfl)
    (hfx:X.fn x=true∨X.env.scope.names.lookup x=some .local:=by first |exact .inl rfl |exact .inr rfl) (Yb:X.fn y=true∨X.env.scope.names.lookup y=some .local:=by first |exact .inl rfl |exact .inr rfl)
    (h1:starEach [a,.List es p3] X.env=(false,eval a X.env)::starEach [.List es p3] X.env:=by rfl) (h2:starEach [.List es p3] X.env=(false,eval (.List es p3) X.env)::starEach [] X.env:=by rfl)
    (hs:swapsWithSole [.Tuple [.Name x px,.Name y py] kt pt] (.Tuple [a,.List es p3] k2 pt2) pos.line X.env=pure false:=by rfl) (hw:swappedStores [.Tuple [.Name x px,.Name y py] kt pt] (.Tuple [a,.List es p3] k2 pt2) X.env=pure none:=by rfl):
    DS X (.Assign [.Tuple [.Name x px,.Name y py] kt pt] (.Tuple [a,.List es p3] k2 pt2) pos) (Yj i k f fa):=by
  refine PS.imp (ps_asg (pe_tup (pa_cons ha (pa_cons (acY hb) pa_nil h2) h1)) (pg_tup hc (pgs_cons (pg_name hN hi hx hfx) (pgs_cons (pg_name hN hk hy Yb) pgs_nil))) hs hw) fun σ H E h=>?_
  obtain⟨H0,O0,O,ρ,j,h⟩:=h
  refine⟨ρ,O,j.inn,?_⟩
  unfold Yj nZ at h
  cases e1:f ρ with
  |bad=>rw[e1] at h;exact h
  |err c=>rw[e1] at h;exact h σ H O j
  | ok d=>
    rw[e1] at h
    intro v H1 s1 rv
    have j1:=j.grow s1
    refine⟨ρ,O,j1.inn,?_⟩
    cases e2:fa ρ with
    |bad=>simp only[e2] at h;exact h
    |err c=>simp only[e2] at h;exact h.elim
    | ok ds=>
      simp only[e2] at h
      by_cases hl:ds.length≤1000000
      · simp only[if_pos hl] at h
        intro vs H2 s2 rvs
        refine⟨by rw[←rvs.length];exact Nat.le_trans hl jx,fun p hp hpk=>?_⟩
        refine⟨by show 2≤sizeLine;decide,fun t ht=>?_⟩
        refine⟨t,[v,.ref p],rfl,SqT.of upd_same,rfl,v,[.ref p],rfl,.ref p,[],rfl,rfl,?_⟩
        have j2:=(j1.grow s2).set (List.getElem?_eq_some_iff.mp hi).1 (rv.same s2)
        obtain⟨j3,r3⟩:=j2.own (List.getElem?_eq_some_iff.mp hk).1 (o:= .lst vs) (en:= .lst ds) hp hpk rfl ⟨p,vs,rfl,.inr rfl,upd_same,rvs.go ⟨(Same.iR (K:=X.K) (O:=O) (Same.upd hp)).ext,fun a z=>z.elim .inl fun e=> .inr (by rw[e];exact⟨hp,hpk⟩),(Same.iR (K:=X.K) (O:=O) (Same.upd hp)).dom⟩⟩
        have s4:Same (upd H2 p (.lst vs)) (upd (upd H2 p (.lst vs)) t (.tup [v,.ref p])):=Same.upd ht
        exact h _ _ _ (j3.grow s4) ((((Same.iR s1).trans (Same.iR s2)).trans r3).trans (Same.iR s4))
      · simp only[if_neg hl] at h;exact h.elim
end
noncomputable def KN (s:String):Bool:=s == "int" || s == "bool"
noncomputable def CW (s:String):Bool:=s == "bool"
noncomputable def eE (s:String):Bool:=s == "tuple"
noncomputable def CZ (s:String):Bool:=s == "list"
noncomputable def aM (P:Program) (w:World) (K:PySem.W.Frag) (mg:Str→Option Value) (base:Heap) (k:Nat) (x:Str) (n:Nat) (F:List D→R D):Prop:=
  ∃f fd ps,FnOk P w K mg base CX0 k f fd ps (Lb K n F)∧mg x=some (.ref f)∧PySem.W.keepIn K (.ref f)=true∧Binds K fd ps []
theorem bh {X:Cx} {k n m:Nat} {F:List D→R D} {x:Str} {p pos:Pos} {e:Expr} {es:List Expr} {fa:au→R (List D)} (G:aM X.prog X.w X.K X.mg X.base k x n F) (hr:Room m X.A) (hkm:k≤m) (ha:DA X (e::es) fa) (hg:Gl X x:=by rfl)
    (hdb:(x ==("__debug__" :Str))=false:=by decide) (he:starEach (e::es) X.env=(false,eval e X.env)::starEach es X.env:=by rfl) (hpl:(backTo pos (starEach es X.env)).any (·.1)=false:=by rfl):
    DE X (.Call (.Name x p) (e::es) [] pos) (aF (aP F n) fa):=by
  obtain⟨f,fd,ps,ok,hm,hk,hb⟩:=G
  exact akn ok (hr.mono hkm) hg hm hk hb ha hdb he hpl
theorem dD {A:Around} {k:Nat} (hr:Room k A):A.units+60 < cLine:=by have:=hr.un;omega
theorem bO {P:Program} {w:World} {K:PySem.W.Frag} {mg:Str→Option Value} {base:Heap} {x qual:Str} {st:Stmt} {f:Addr} {fd:FuncData} {N ps:List Str} {k n m:Nat} {g:au→So} (Fn:Fun K x qual st f fd) (hmg:mg x=some (.ref f)) (hb:Binds K fd ps []) (S:FnScope N ps (defScope st)) (hn:ps.length=n) (hm:N.length=n+m)
    (hbody:∀(cdv:Value) (A:Around) (outer:List PySem.Env) (s:Shared) (H:Hp) (E:XK),Room k (A.deeper (envOfC qual (defScope st) s.heap.objs.size f cdv))→cG (cxOf CX0 P w K mg base N qual (defScope st) f cdv A outer s H E).nox (defBody st) g):
    aM P w K mg base (k+1) x n (cB m g):=⟨f,fd,ps,fnD Fn S hn hm hbody fun ds d _ e=>e,hmg,Fn.kp,hb⟩
theorem sp_law {K:PySem.W.Frag} {F:List D→R D} {H:Hp} {a:Addr} {ns:List Int} {E:XK} (hS:SqL K H a (ns.map V.int)) (hF:F [.lst (ns.map D.int)]= .ok (.bl true)):Lb K 1 F [.ref a] H (fun v _=>v= .bl true) E:=by
  refine⟨fun _=>False,[.lst (ns.map D.int)],.cons (wI hS (fun z=>z) ?_) .nil,rfl,fun a z=>z.elim,?_⟩
  · have:∀l:List Int,aQ K (fun _=>False) H (l.map D.int) (l.map V.int):=by
      intro l
      induction l with
      |nil=>exact .nil
      |cons i l ih=>exact .cons (cM i) ih
    exact this ns
  · rw[hF]
    exact fun v H' _ r=>r.bl
end Pu
namespace Pu
open PySem PySem.Spec L2
theorem ac2 {α:Type} {k:D→R (Option D)} {c h:α→D}:∀{l:List α},(∀a∈l,k (c a)= .ok (some (h a)))→nR k (l.map c)= .ok (l.map h)
  |[],_=>rfl
  | a::l,q=>by
    rw[List.map_cons,nR,q a (by simp),N7,R.bx,ac2 fun b hb=>q b (by simp[hb])]
    rfl
theorem Oe {α:Type} {c:α→Bool}:∀{l:List α},boolsOf (l.map fun a=> .bl (c a))=some (l.map c)
  |[]=>rfl
  | a::l=>by
    rw[List.map_cons,boolsOf,Oe]
    rfl
theorem zL {α:Type} {c:α→Int}:∀{l:List α},intsOf (l.map fun a=> .int (c a))=some (l.map c)
  |[]=>rfl
  | a::l=>by
    rw[List.map_cons,intsOf,zL]
    rfl
theorem qO {α:Type} {c:α→D} {n:Nat}:∀{l:List α},(∀a∈l,dep (c a)≤n)→deps (l.map c)≤n
  |[],_=>by rw[List.map_nil,deps];omega
  | a::l,h=>by
    rw[List.map_cons,deps]
    have:=h a (by simp)
    have:=qO (l:=l) fun b hb=>h b (by simp[hb])
    omega
theorem jO {d e:D} (h:d=e) (hd:dep d≤40):iT d e= .ok (.bl false):=by
  subst h
  rw[iT,if_pos hd,Mp];rfl
theorem aiR {d e:D} (h:d=e) (hd:dep d≤40):rA d e= .ok (.bl true):=by
  subst h
  rw[rA,if_pos hd,Mp]
theorem all_true {l:List α}:(l.map fun _=>true).all id=true:=by
  induction l with
  |nil=>rfl
  |cons a l ih=>rw[List.map_cons,List.all_cons,ih];rfl
theorem atI_nat {α:Type} {xs:List α} {j:Nat} (h:j < xs.length):atI xs (j:Int)=some xs[j]:=by
  unfold atI ixN
  rw[if_pos (by omega),if_pos (by omega),Int.toNat_natCast,Option.bind_some,List.getElem?_eq_getElem h]
theorem KQ {α:Type} {xs:List α} {i:Int} (h0:0≤i) (h1:i < xs.length):∃x∈xs,atI xs i=some x:=by
  obtain⟨j,rfl⟩:=Int.eq_ofNat_of_zero_le h0
  have hj:j < xs.length:=by omega
  exact⟨xs[j],List.getElem_mem hj,atI_nat hj⟩
theorem cF {α:Type} {n:Nat} {caps:List Nat} {fi:au→R (List D)} {gt:D→au→R au} {ft:au→R Bool} {fe:au→R D} {ρ:au} {c h:α→D} {l:List α} (e1:fi ρ= .ok (l.map c)) (hl:l.length≤1000000)
    (e2:∀a∈l,sO gt ft fe (KD n caps ρ) (c a)= .ok (some (h a))):cj n caps fi gt ft fe ρ= .ok (.lst (l.map h)):=by
  rw[cj,e1,R.bx,ac2 e2,R.bx,cap,if_pos (by rw[List.length_map];exact hl)]
noncomputable def look:List (Int×Int)→Int→Int
  |[],_=>0
  |(k,v)::r,c=>if k=c then v else look r c
noncomputable abbrev keys (ps:List (Int×Int)):List Int:=ps.map (·.1)
end Pu
namespace Pu
open PySem PySem.Spec L2
section
variable {ρ ρ':au} {f g:au→R D} {fa:au→R (List D)} {p q:au→R Bool} {x y d:D} {xs ds:List D} {r:R D} {k:D→D→R D} {c:List D→R D} {n:Nat} {F:List D→R D} {o:So} {s t:au→So} {gt:D→au→R au} {b:Bool}
theorem aW (e:fa ρ= .ok ds) (h:c ds=r):aF c fa ρ=r:=by rw[aF,e];exact h
theorem aU (e:fa ρ= .ok ds) (h:F ds= .ok d) (hl:ds.length=n:=by rfl):aF (aP F n) fa ρ= .ok d:=by rw[aF,e,R.bx,aP,if_pos hl,h];rfl
theorem aD (e1:f ρ= .ok x) (e2:fa ρ= .ok xs):ao f fa ρ= .ok (x::xs):=by rw[ao,e1,R.bx,e2];rfl
theorem aA (e:f ρ= .ok x):ao f (fun _=> .ok []) ρ= .ok [x]:=aD e rfl
theorem aB (e1:f ρ= .ok x) (e2:g ρ= .ok y) (h:k x y=r):bin f g k ρ=r:=by rw[bin,e1,R.bx,e2];exact h
theorem qe (e1:f ρ= .ok (.bl true)) (e2:g ρ=r):q8 f g ρ=r:=by rw[q8,e1];exact e2
theorem Hf {h:au→R D} {l:D→D→R D} {z:D} (e1:f ρ= .ok x) (e2:g ρ= .ok y) (e3:k x y= .ok (.bl true)) (e4:h ρ= .ok z) (e5:l y z=r):La f g h k l ρ=r:=by
  rw[La,e1,R.bx,e2,R.bx,e3,R.bx]
  show (h ρ).bind _=_
  rw[e4];exact e5
theorem gJ (e:fa ρ= .ok ds) (h:ds.length≤1000000:=by exact Nat.le_of_ble_eq_true rfl):jh fa ρ= .ok (.tup ds):=by rw[jh,e,R.bx,cap,if_pos h]
theorem kh (e:fa ρ= .ok ds) (h:ds.length≤1000000:=by exact Nat.le_of_ble_eq_true rfl):nQ fa ρ= .ok (.lst ds):=by rw[nQ,e,R.bx,cap,if_pos h]
theorem jH (e:f ρ= .ok (.tup ds)):fM f ρ= .ok ds:=by rw[fM,e];rfl
theorem qP (e:f ρ= .ok (.lst ds)):fM f ρ= .ok ds:=by rw[fM,e];rfl
theorem rC {m:Nat} (e:fa ρ= .ok [.int (m:Int)]) (h:m < 2 ^ 62):(fun ρ=>(fa ρ).bind p8) ρ= .ok ((List.range m).map fun (i:Nat)=>D.int (i:Int)):=by
  show (fa ρ).bind p8=_
  rw[e,R.bx,p8,if_pos ⟨by have:(0:Int)≤m:=Int.natCast_nonneg m;omega,by omega⟩]
  simp[upto]
theorem cR {ρ1:au} (e1:gt x ρ= .ok ρ1) (e2:f ρ1= .ok d):sO gt (fun _=> .ok true) f ρ x= .ok (some d):=by
  rw[sO,e1,R.bx,R.bx,if_pos rfl,e2];rfl
theorem aZ (e:f ρ= .ok (.bl b)):bZ f ρ= .ok b:=by rw[bZ,e];rfl
theorem iC (e:p ρ= .ok b):nP p ρ= .ok (!b):=by rw[nP,e];rfl
theorem rE (e1:p ρ= .ok false) (e2:q ρ= .ok b):Gi p q ρ= .ok b:=by rw[Gi,e1,R.bx,if_neg (by decide)];exact e2
theorem KR (e1:p ρ= .ok true) (e2:q ρ= .ok b):sI p q ρ= .ok b:=by rw[sI,e1,R.bx,if_pos rfl];exact e2
theorem ac3 (e1:p ρ= .ok false):sI p q ρ= .ok false:=by rw[sI,e1,R.bx,if_neg (by decide)]
theorem kj {i:Nat} (h:xs[i]?=some d):cg (.tup xs) (.int (i:Int))= .ok d:=by
  obtain⟨hi,e⟩:=List.getElem?_eq_some_iff.mp h
  rw[cg,atI_nat hi,e]
theorem Yk {i:Nat} (h:xs[i]?=some d):cg (.lst xs) (.int (i:Int))= .ok d:=by
  obtain⟨hi,e⟩:=List.getElem?_eq_some_iff.mp h
  rw[cg,atI_nat hi,e]
theorem aJ (e1:s ρ= .nx ρ') (e2:t ρ'=o):aO s t ρ=o:=by rw[aO,e1];exact e2
theorem bB (e:f (dN ρ)= .ok d):retS f ρ= .rt d:=by rw[retS,e];rfl
theorem bA (e:f ρ= .ok d) (e2:gt d ρ= .ok ρ'):bH f gt ρ= .nx ρ':=by rw[bH,e];show (match gt d ρ with | .ok ρ'=>So.nx ρ' |_=> .bad)=_;rw[e2]
theorem lO (e:f (dN ρ)= .ok d):mJ f ρ= .nx ρ:=by rw[mJ,e];rfl
theorem jP (e:p (dN ρ)= .ok true) (e2:s ρ=o):dU p s t ρ=o:=by rw[dU,e];exact e2
theorem bV (e:p (dN ρ)= .ok false) (e2:t ρ=o):dU p s t ρ=o:=by rw[dU,e];exact e2
theorem cu {m:Nat} (e:s (ds.map (fun d=>some (.val d))++List.replicate m none)= .rt d):cB m s ds= .ok d:=by rw[cB,e]
theorem Og {m:Nat} (e:s (ds.map (fun d=>some (.val d))++List.replicate m none)= .nx ρ):cB m s ds= .ok .non:=by rw[cB,e]
theorem qg {i j:Int} (h:(-(2 ^ 64) < i∧i < 2 ^ 64)∨(-(2 ^ 64) < j∧j < 2 ^ 64)):jL (.int i) (.int j)= .ok (.int (i*j)):=by
  show (if _ then _ else _)=_
  rw[if_pos h]
theorem rF {i j:Int} (h:0 < j∧j < 2 ^ 64):jX (.int i) (.int j)= .ok (.int (i / j)):=by
  show (if _ then _ else _)=_
  rw[if_pos h]
theorem rG {i j:Int} (h:0 < j):iW (.int i) (.int j)= .ok (.int (i % j)):=by
  show (if _ then _ else _)=_
  rw[if_pos h]
theorem sX {α:Type} {l:List α}:sU [.lst (l.map fun _=> .bl true)]= .ok (.bl true):=by
  have:=Oe (c:=fun _:α=>true) (l:=l)
  rw[sU,this]
  show R.ok (D.bl _)=_
  rw[all_true]
theorem ac4 {α:Type} {c:α→Int} {l:List α}:Ad [.lst (l.map fun a=> .int (c a))]= .ok (.int (l.map c).sum):=by rw[Ad,zL]
theorem ac5 {α:Type} {c:α→Int} {l:List α}:Ad [.tup (l.map fun a=> .int (c a))]= .ok (.int (l.map c).sum):=by rw[Ad,zL]
end
end Pu
namespace Pu
open PySem PySem.Spec L2
noncomputable def Ri:au→So:=(aO (bH (bin (fun _=> .ok (.int 7)) (fun ρ=>ak ρ 1) jL) (aL 3)) (aO (dU (bZ (bin (fun ρ=>ak ρ 0) (nQ (fun _=> .ok [])) iT)) (aO (bH (bin (fun ρ=>ak ρ 0) (bin (fun ρ=>ak ρ 1) (aF cC (ao (fun ρ=>ak ρ 0) (fun _=> .ok []))) iW) cg) (aL 3)) (aO (bH (bin (fun ρ=>ak ρ 1) (aF cC (ao (fun ρ=>ak ρ 0) (fun _=> .ok []))) jX) (aL 4)) (aO (dU (sI (bZ (bin (fun ρ=>ak ρ 3) (bin (fun _=> .ok (.int 10)) (fun _=> .ok (.int 18)) Ac) geI)) (bZ (bin (fun ρ=>ak ρ 4) (fun _=> .ok (.int 60)) ltI))) (aO (bH (bin (fun ρ=>ak ρ 3) (bin (fun _=> .ok (.int 10)) (fun _=> .ok (.int 18)) Ac) jX) (aL 5)) (aO (j9 (sI (bZ (bin (fun ρ=>ak ρ 5) (fun _=> .ok (.int 0)) wR)) (bZ (bin (fun ρ=>ak ρ 4) (fun _=> .ok (.int 0)) wR))) (aO (bH (bin (fun ρ=>ak ρ 5) (fun _=> .ok (.int 1000000)) jX) (aL 5)) (bH (bin (fun ρ=>ak ρ 4) (fun _=> .ok (.int 1)) gC) (aL 4))) 64) (dU (bZ (bin (fun ρ=>ak ρ 5) (fun _=> .ok (.int 0)) wR)) (retS (bin (bin (fun ρ=>ak ρ 5) (fun _=> .ok (.int 1000000)) iW) (fun ρ=>ak ρ 2) iW)) So.nx))) So.nx) (bH (bin (fun ρ=>ak ρ 3) (bin (fun _=> .ok (.int 6553)) (bin (fun ρ=>ak ρ 1) (aF cC (ao (fun ρ=>ak ρ 0) (fun _=> .ok []))) jX) jL) gF) (aL 3))))) So.nx) (aO (bH (bin (bin (bin (bin (fun ρ=>ak ρ 3) (fun _=> .ok (.int 2147483563)) iW) (fun _=> .ok (.int 69069)) jL) (bin (fun _=> .ok (.int 104723)) (bin (fun ρ=>ak ρ 1) (fun _=> .ok (.int 1)) gF) jL) gF) (fun _=> .ok (.int 2147483563)) iW) (aL 3)) (aO (bH (bin (bin (bin (fun ρ=>ak ρ 3) (fun ρ=>ak ρ 3) jL) (bin (fun ρ=>ak ρ 3) (fun _=> .ok (.int 3)) jX) gF) (fun _=> .ok (.int 2147483399)) iW) (aL 3)) (retS (bin (bin (bin (bin (bin (fun ρ=>ak ρ 3) (fun ρ=>ak ρ 3) jL) (bin (fun ρ=>ak ρ 3) (fun _=> .ok (.int 7)) jX) gF) (fun _=> .ok (.int 2147483647)) iW) (fun _=> .ok (.int 11)) jX) (fun ρ=>ak ρ 2) iW))))))
noncomputable def tailD:au→So:=(aO (bH (bin (bin (bin (bin (fun ρ=>ak ρ 3) (fun _=> .ok (.int 2147483563)) iW) (fun _=> .ok (.int 69069)) jL) (bin (fun _=> .ok (.int 104723)) (bin (fun ρ=>ak ρ 1) (fun _=> .ok (.int 1)) gF) jL) gF) (fun _=> .ok (.int 2147483563)) iW) (aL 3)) (aO (bH (bin (bin (bin (fun ρ=>ak ρ 3) (fun ρ=>ak ρ 3) jL) (bin (fun ρ=>ak ρ 3) (fun _=> .ok (.int 3)) jX) gF) (fun _=> .ok (.int 2147483399)) iW) (aL 3)) (retS (bin (bin (bin (bin (bin (fun ρ=>ak ρ 3) (fun ρ=>ak ρ 3) jL) (bin (fun ρ=>ak ρ 3) (fun _=> .ok (.int 7)) jX) gF) (fun _=> .ok (.int 2147483647)) iW) (fun _=> .ok (.int 11)) jX) (fun ρ=>ak ρ 2) iW))))
noncomputable def alR:au→So:=(dU (sI (bZ (bin (fun ρ=>ak ρ 3) (bin (fun _=> .ok (.int 10)) (fun _=> .ok (.int 18)) Ac) geI)) (bZ (bin (fun ρ=>ak ρ 4) (fun _=> .ok (.int 60)) ltI))) (aO (bH (bin (fun ρ=>ak ρ 3) (bin (fun _=> .ok (.int 10)) (fun _=> .ok (.int 18)) Ac) jX) (aL 5)) (aO (j9 (sI (bZ (bin (fun ρ=>ak ρ 5) (fun _=> .ok (.int 0)) wR)) (bZ (bin (fun ρ=>ak ρ 4) (fun _=> .ok (.int 0)) wR))) (aO (bH (bin (fun ρ=>ak ρ 5) (fun _=> .ok (.int 1000000)) jX) (aL 5)) (bH (bin (fun ρ=>ak ρ 4) (fun _=> .ok (.int 1)) gC) (aL 4))) 64) (dU (bZ (bin (fun ρ=>ak ρ 5) (fun _=> .ok (.int 0)) wR)) (retS (bin (bin (fun ρ=>ak ρ 5) (fun _=> .ok (.int 1000000)) iW) (fun ρ=>ak ρ 2) iW)) So.nx))) So.nx)
noncomputable def wcD:au→R Bool:=(sI (bZ (bin (fun ρ=>ak ρ 5) (fun _=> .ok (.int 0)) wR)) (bZ (bin (fun ρ=>ak ρ 4) (fun _=> .ok (.int 0)) wR)))
noncomputable def wbD:au→So:=(aO (bH (bin (fun ρ=>ak ρ 5) (fun _=> .ok (.int 1000000)) jX) (aL 5)) (bH (bin (fun ρ=>ak ρ 4) (fun _=> .ok (.int 1)) gC) (aL 4)))
section
variable {S s0 s1 s2 s3 x y:Option Ent} {k m c:Int}
theorem tail_eq (hm:0 < m):∃v,tailD [S,some (.val (.int k)),some (.val (.int m)),some (.val (.int c)),x,y]= .rt (.int v)∧0≤v∧v < m:=by
  refine⟨_,aJ (bA (aB (aB (aB (aB rfl rfl (rG (by omega))) rfl (qg (.inr ⟨by omega,by omega⟩))) (aB rfl (aB rfl rfl rfl) (qg (.inl ⟨by omega,by omega⟩))) rfl) rfl (rG (by omega))) rfl)
    (aJ (bA (aB (aB (aB rfl rfl (qg (.inl ?b1))) (aB rfl rfl (rF ⟨by omega,by omega⟩)) rfl) rfl (rG (by omega))) rfl)
    (bB (aB (aB (aB (aB (aB rfl rfl (qg (.inl ?b2))) (aB rfl rfl (rF ⟨by omega,by omega⟩)) rfl) rfl (rG (by omega))) rfl (rF ⟨by omega,by omega⟩)) rfl (rG hm)))),Int.emod_nonneg _ (by omega),Int.emod_lt_of_pos _ hm⟩
  case b1=>
    have h1:=Int.emod_nonneg (c % 2147483563*69069+104723*(k+1)) (b:=2147483563) (by omega)
    have h2:=Int.emod_lt_of_pos (c % 2147483563*69069+104723*(k+1)) (b:=2147483563) (by omega)
    constructor <;> omega
  case b2=>
    generalize (c % 2147483563*69069+104723*(k+1)) % 2147483563=z
    have h1:=Int.emod_nonneg (z*z+z / 3) (b:=2147483399) (by omega)
    have h2:=Int.emod_lt_of_pos (z*z+z / 3) (b:=2147483399) (by omega)
    constructor <;> omega
theorem zM {i j:Int}:wR (.int i) (.int j)= .ok (.bl (decide (j < i))):=rfl
theorem Yl:∀{n:Nat} {t r:Int},0≤t→t < n→∃t' r',j9 wcD wbD n [s0,s1,s2,s3,some (.val (.int t)),some (.val (.int r))]= .nx [s0,s1,s2,s3,some (.val (.int t')),some (.val (.int r'))]
  |0,t,r,h0,h1=>by omega
  | n + 1,t,r,h0,h1=>by
    rw[j9]
    by_cases hr:0 < r
    · by_cases ht:0 < t
      · obtain⟨t',r',e⟩:=Yl (n:=n) (t:=t - 1) (r:=r / 1000000) (by omega) (by omega)
        refine⟨t',r',?_⟩
        have e1:wcD (dN [s0,s1,s2,s3,some (.val (.int t)),some (.val (.int r))])= .ok true:=KR (aZ (aB rfl rfl (by rw[zM,decide_eq_true hr]))) (aZ (aB rfl rfl (by rw[zM,decide_eq_true ht])))
        have e2:wbD [s0,s1,s2,s3,some (.val (.int t)),some (.val (.int r))]= .nx [s0,s1,s2,s3,some (.val (.int (t - 1))),some (.val (.int (r / 1000000)))]:=aJ (bA (aB rfl rfl (rF ⟨by omega,by omega⟩)) rfl) (bA (aB rfl rfl rfl) rfl)
        simp only[e1,e2]
        exact e
      · refine⟨t,r,?_⟩
        have e1:wcD (dN [s0,s1,s2,s3,some (.val (.int t)),some (.val (.int r))])= .ok false:=KR (aZ (aB rfl rfl (by rw[zM,decide_eq_true hr]))) (aZ (aB rfl rfl (by rw[zM,decide_eq_false ht])))
        simp only[e1]
    · refine⟨t,r,?_⟩
      have e1:wcD (dN [s0,s1,s2,s3,some (.val (.int t)),some (.val (.int r))])= .ok false:=ac3 (aZ (aB rfl rfl (by rw[zM,decide_eq_false hr])))
      simp only[e1]
theorem Oh:Ac (.int 10) (.int 18)= .ok (.int 1000000000000000000):=by
  unfold Ac iD
  simp only[]
  rw[if_pos ⟨by decide,by decide,by decide⟩];rfl
theorem alS {t:Int} (hm:0 < m) (ht:0≤t):(∃t' x',alR [S,some (.val (.int k)),some (.val (.int m)),some (.val (.int c)),some (.val (.int t)),x]= .nx [S,some (.val (.int k)),some (.val (.int m)),some (.val (.int c)),some (.val (.int t')),x'])∨
    ∃v,alR [S,some (.val (.int k)),some (.val (.int m)),some (.val (.int c)),some (.val (.int t)),x]= .rt (.int v)∧0≤v∧v < m:=by
  by_cases h1:1000000000000000000≤c
  · by_cases h2:t < 60
    · have e:(sI (bZ (bin (fun ρ=>ak ρ 3) (bin (fun _=> .ok (.int 10)) (fun _=> .ok (.int 18)) Ac) geI)) (bZ (bin (fun ρ=>ak ρ 4) (fun _=> .ok (.int 60)) ltI))) (dN [S,some (.val (.int k)),some (.val (.int m)),some (.val (.int c)),some (.val (.int t)),x])= .ok true:=
        KR (aZ (aB rfl (aB rfl rfl Oh) (by show R.ok (D.bl (decide _))=_;rw[decide_eq_true h1]))) (aZ (aB rfl rfl (by show R.ok (D.bl (decide _))=_;rw[decide_eq_true h2])))
      obtain⟨t',r',ew⟩:=Yl (s0:=S) (s1:=some (.val (.int k))) (s2:=some (.val (.int m))) (s3:=some (.val (.int c))) (n:=64) (t:=t) (r:=c / 1000000000000000000) ht (by omega)
      by_cases h3:0 < r'
      · exact .inr ⟨_,jP e (aJ (bA (aB rfl (aB rfl rfl Oh) (rF ⟨by omega,by omega⟩)) rfl) (aJ ew (jP (aZ (aB rfl rfl (by rw[zM,decide_eq_true h3]))) (bB (aB (aB rfl rfl (rG (by omega))) rfl (rG hm)))))),Int.emod_nonneg _ (by omega),Int.emod_lt_of_pos _ hm⟩
      · exact .inl ⟨t',some (.val (.int r')),jP e (aJ (bA (aB rfl (aB rfl rfl Oh) (rF ⟨by omega,by omega⟩)) rfl) (aJ ew (bV (aZ (aB rfl rfl (by rw[zM,decide_eq_false h3]))) rfl)))⟩
    · exact .inl ⟨t,x,bV (KR (aZ (aB rfl (aB rfl rfl Oh) (by show R.ok (D.bl (decide _))=_;rw[decide_eq_true h1]))) (aZ (aB rfl rfl (by show R.ok (D.bl (decide _))=_;rw[decide_eq_false h2])))) rfl⟩
  · exact .inl ⟨t,x,bV (ac3 (aZ (aB rfl (aB rfl rfl Oh) (by show R.ok (D.bl (decide _))=_;rw[decide_eq_false h1])))) rfl⟩
end
theorem nH {ρ:au} {s t:au→So} {d:D} (e1:s ρ= .rt d):aO s t ρ= .rt d:=by rw[aO,e1]
theorem Bw {xs:List D} {i:Int} {d:D} (h:atI xs i=some d):cg (.lst xs) (.int i)= .ok d:=by rw[cg,h]
theorem aiS {ns:List Int} {k m:Int} (hl:ns.length≤1000000) (hk:0≤k) (hm:0 < m):∃v,cB 3 Ri [.lst (ns.map .int),.int k,.int m]= .ok (.int v)∧0≤v∧v < m:=by
  have hd:dep (.lst (ns.map .int))≤40:=by
    rw[dep]
    have:=qO (c:=D.int) (n:=0) (l:=ns) (fun a _=>by simp[dep])
    omega
  cases ns with
  | nil=>
    obtain⟨v,e,h⟩:=tail_eq (S:=some (.val (.lst []))) (k:=k) (c:=7*k) (x:=none) (y:=none) hm
    exact⟨v,cu (aJ (bA (aB rfl rfl (qg (.inl ⟨by omega,by omega⟩))) rfl) (aJ (bV (aZ (aB rfl (kh rfl) (jO rfl hd))) rfl) e)),h⟩
  | cons a ns=>
    have hn:iT (.lst ((a::ns).map .int)) (.lst [])= .ok (.bl true):=by
      rw[iT,if_pos hd];rfl
    have hlen:(0:Int) < (((a::ns).map D.int).length:Int):=by rw[List.length_map,List.length_cons];omega
    have hlen2:(((a::ns).map D.int).length:Int) < 2 ^ 64:=by rw[List.length_map];omega
    obtain⟨d,hd1,hd2⟩:=KQ (xs:=(a::ns).map D.int) (i:=k % (((a::ns).map D.int).length:Int)) (Int.emod_nonneg _ (by omega)) (Int.emod_lt_of_pos _ hlen)
    obtain⟨c,-,rfl⟩:=List.mem_map.mp hd1
    have ht:0≤k / (((a::ns).map D.int).length:Int):=Int.ediv_nonneg hk (by omega)
    generalize hL:(((a::ns).map D.int).length:Int)=L at *
    have Oi:∀(S x1 x2 x3 x4 x5:Option Ent),S=some (Ent.val (.lst ((a::ns).map D.int)))→aF cC (ao (fun ρ=>ak ρ 0) (fun _=> .ok [])) [S,x1,x2,x3,x4,x5]= .ok (.int L):=by
      intro S x1 x2 x3 x4 x5 e
      subst e
      rw[←hL]
      exact aW (aA rfl) rfl
    rcases alS (S:=some (.val (.lst ((a::ns).map .int)))) (k:=k) (m:=m) (c:=c) (x:=none) hm ht with⟨t',x',e⟩ |⟨v,e,h⟩
    · obtain⟨v,e2,h⟩:=tail_eq (S:=some (.val (.lst ((a::ns).map .int)))) (k:=k) (c:=c+6553*(k / L)) (x:=some (.val (.int t'))) (y:=x') hm
      exact⟨v,cu (aJ (bA (aB rfl rfl (qg (.inl ⟨by omega,by omega⟩))) rfl) (aJ (jP (aZ (aB rfl (kh rfl) hn))
        (aJ (bA (aB rfl (aB rfl (Oi _ _ _ _ _ _ rfl) (rG hlen)) (Bw hd2)) rfl) (aJ (bA (aB rfl (Oi _ _ _ _ _ _ rfl) (rF ⟨hlen,hlen2⟩)) rfl) (aJ e (bA (aB rfl (aB rfl (aB rfl (Oi _ _ _ _ _ _ rfl) (rF ⟨hlen,hlen2⟩)) (qg (.inl ⟨by omega,by omega⟩))) rfl) rfl))))) e2)),h⟩
    · exact⟨v,cu (aJ (bA (aB rfl rfl (qg (.inl ⟨by omega,by omega⟩))) rfl) (nH (jP (aZ (aB rfl (kh rfl) hn))
        (aJ (bA (aB rfl (aB rfl (Oi _ _ _ _ _ _ rfl) (rG hlen)) (Bw hd2)) rfl) (aJ (bA (aB rfl (Oi _ _ _ _ _ _ rfl) (rF ⟨hlen,hlen2⟩)) rfl) (nH e)))))),h⟩
theorem iG {ρ ρ1 ρ2:au} {gt:D→au→R au} {b:au→So} {x:D} {xs:List D} {o:So} (e1:gt x ρ= .ok ρ1) (e2:b ρ1= .nx ρ2) (e3:forL gt b xs ρ2=o):forL gt b (x::xs) ρ=o:=by
  rw[forL]
  simp only[e1,e2]
  exact e3
theorem oK {ρ:au} {fi:au→R (List D)} {gt:D→au→R au} {b:au→So} {xs:List D} {o:So} (e1:fi ρ= .ok xs) (e2:forL gt b xs ρ=o):qH fi gt b ρ=o:=by
  rw[qH,e1];exact e2
theorem akq {ρ:au} {i k:Nat} {f:au→R D} {fa:au→R (List D)} {d:D} {ds:List D} (e1:f ρ= .ok d) (e2:fa ρ= .ok ds) (h:ds.length≤1000000:=by exact Nat.le_of_ble_eq_true rfl):Yj i k f fa ρ= .nx ((ρ.set i (some (.val d))).set k (some (.lst ds))):=by
  unfold Yj
  rw[e1]
  simp only[nZ,e2]
  rw[if_pos h]
theorem sY {ρ:au} {i k:Nat} {f g:au→R D} {d e:D} (e1:f ρ= .ok d) (e2:g ρ= .ok e):Ae i k f g ρ= .nx ((ρ.set i (some (.val d))).set k (some (.val e))):=by
  unfold Ae
  rw[e1]
  simp only[nZ,e2]
noncomputable def dr (ns:List Int) (k m:Int):Int:=match cB 3 Ri [.lst (ns.map .int),.int k,.int m] with
  | .ok (.int v)=>v
  |_=>0
theorem uF {ns:List Int} {k m:Int} (hl:ns.length≤1000000) (hk:0≤k) (hm:0 < m):cB 3 Ri [.lst (ns.map .int),.int k,.int m]= .ok (.int (dr ns k m))∧0≤dr ns k m∧dr ns k m < m:=by
  obtain⟨v,e,h⟩:=aiS hl hk hm
  have:dr ns k m=v:=by rw[dr,e]
  rw[this]
  exact⟨e,h⟩
end Pu
namespace Pu
open PySem PySem.Spec L2
open PyProof.Rows hiding St
section
variable {X:Cx}
noncomputable def Hg:List D→R D
  |[.int i]=> .ok (.int (if i < 0 then -i else i))
  |_=> .bad
theorem Oj:CallD X (.builtin "abs") Hg:=by
  refine⟨_,call_abs,fun ρ O σ H Q xs ds j r h=>?_⟩
  unfold Hg at h
  split at h
  · rename_i i
    obtain⟨x,rfl,rx⟩:=r.one
    exact⟨i,by rw[rx.int],fin h (cM _)⟩
  · exact h.elim
noncomputable def maxD:List D→R D
  |[.int i,.int j]=> .ok (.int (if j > i then j else i))
  |_=> .bad
theorem Ol (hc:X.calm=true):CallD X (.builtin "max") maxD:=by
  refine⟨_,call_max2 hc,fun ρ O σ H Q xs ds j r h=>?_⟩
  unfold maxD at h
  split at h
  · rename_i i k
    obtain⟨x,y,rfl,rx,ry⟩:=r.two
    exact⟨i,k,by rw[rx.int,ry.int],fin h (cM _)⟩
  · exact h.elim
noncomputable def minD:List D→R D
  |[.int i,.int j]=> .ok (.int (if j < i then j else i))
  |_=> .bad
theorem Ym (hc:X.calm=true):CallD X (.builtin "min") minD:=by
  refine⟨_,call_min2 hc,fun ρ O σ H Q xs ds j r h=>?_⟩
  unfold minD at h
  split at h
  · rename_i i k
    obtain⟨x,y,rfl,rx,ry⟩:=r.two
    exact⟨i,k,by rw[rx.int,ry.int],fin h (cM _)⟩
  · exact h.elim
noncomputable def Om:D→Bool
  | .non=>true
  |_=>false
theorem ac6 {K:PySem.W.Frag} {O:Addr→Prop} {H:Hp} {d:D} {v:V} (r:Rep K O H d v):decide (v= .non)=Om d:=by
  cases d with
  |non=>rw[r.non];rfl
  |bl b=>rw[r.bl];rfl
  |int i=>rw[r.int];rfl
  |str x=>rw[r.str];rfl
  |tup ds=>obtain⟨a,xs,rfl,_⟩:=r.tup;rfl
  |lst ds=>obtain⟨a,xs,rfl,_⟩:=r.lst;rfl
noncomputable def isD:D→D→R D
  |d,.non=> .ok (.bl (Om d))
  |_,_=> .bad
noncomputable def Yn:D→D→R D
  |d,.non=> .ok (.bl (!Om d))
  |_,_=> .bad
theorem Dc:lK X (compareOp .Is) isD:=by
  refine⟨_,op_isN,fun ρ O σ H Q x y dx dy j0 rx ry h=>?_⟩
  cases dy with
  |non=>exact⟨ry.non,by rw[ac6 rx];exact fin (a:=D.bl (Om dx)) h (iw _)⟩
  |_=>cases dx <;> exact h.elim
theorem Yo:lK X (compareOp .IsNot) Yn:=by
  refine⟨_,op_notN,fun ρ O σ H Q x y dx dy j0 rx ry h=>?_⟩
  cases dy with
  |non=>exact⟨ry.non,by rw[ac6 rx];exact fin (a:=D.bl (!Om dx)) h (iw _)⟩
  |_=>cases dx <;> exact h.elim
theorem akr:OpR X (binaryOp .Add) (fun x y H Q=>∃a b ys,x= .ref a∧y= .ref b∧SqT X.K H a []∧SqT X.K H b ys∧Q (.ref b) H):=by
  intro pins s σ H x y v u Q I rx ry h
  obtain⟨a,b,ys,rfl,rfl,ha,hb,q⟩:=h
  cases rx
  cases ry
  obtain⟨its,r1,p1,_⟩:=I.tuple ha
  obtain⟨its2,r2,p2,_⟩:=I.tuple hb
  cases r1
  obtain⟨⟨cls,dd,data,sl⟩,ho,hc,n,hd⟩:=id p1
  obtain⟨⟨cls2,dd2,data2,sl2⟩,ho2,hc2,n2,hd2⟩:=id p2
  simp only at hc hd hc2 hd2
  subst hc hd hc2 hd2
  exact concat_meets ⟨_,ho,rfl⟩ ⟨_,ho2,rfl⟩ noFill_tuple_add seq_tuple_add PySem.F.slot_tuple_add PySem.F.entry_tuple_add (PySem.F.args_tuple_add_2 _ _)
      (tuple_addW0 a b _ _ n n2 dd dd2 sl sl2 rfl) ⟨ho,ho2,⟨.ref b,H,I,rfl,q⟩⟩
noncomputable def anq:D→R D
  | .int i=> .ok (.int (-i))
  |_=> .bad
noncomputable def alT (f:au→R D):au→R D:=fun ρ=>(f ρ).bind anq
theorem alU {e:Expr} {f:au→R D} {pos:Pos} (he:DE X e f):DE X (.UnaryOp .USub e pos) (alT f):=by
  refine PE.imp (pe_un un_neg he) fun σ H Q h=>?_
  obtain⟨ρ,O,j,h⟩:=h
  refine go j h fun d v H1 e1 s1 r1 j1 h1=>?_
  cases d with
  |int i=>exact⟨i,r1.int,fin h1 (cM _)⟩
  |_=>exact h1.elim
theorem aks:OpR X (binaryOp .Add) (fun x y H Q=>∃a b xs ys,x= .ref a∧y= .ref b∧SqL X.K H a xs∧SqL X.K H b ys∧xs.length+ys.length≤sizeLine∧∀p,H p=none→Q (.ref p) (upd H p (.lst (xs++ys)))):=by
  intro pins s σ H x y v u Q I rx ry h
  obtain⟨a,b,xs,ys,rfl,rfl,ha,hb,hz,q⟩:=h
  cases rx
  cases ry
  obtain⟨its,r1,p1,_⟩:=I.list ha
  obtain⟨its2,r2,p2,_⟩:=I.list hb
  obtain⟨⟨cls,dd,data,sl⟩,n,ho,hc,hdd,hd⟩:=id p1
  obtain⟨⟨cls2,dd2,data2,sl2⟩,n2,ho2,hc2,anL,hd2⟩:=id p2
  simp only at hc hd hc2 hd2
  subst hc hd hc2 hd2
  refine concat_meets ⟨_,ho,rfl⟩ ⟨_,ho2,rfl⟩ noFill_list_add seq_list_add PySem.F.slot_list_add PySem.F.entry_list_add (PySem.F.args_list_add_2 _ _)
      (list_addW a b _ _ n n2 dd dd2 sl sl2 (by rw[List.size_toArray,List.size_toArray,←r1.length,←r2.length];exact hz)) ⟨ho,ho2,?_⟩
  have ea:its.toArray++its2.toArray=(its++its2).toArray:=by simp
  rw[ea]
  exact⟨.ref _,_,I.lnew (t':=s.toks) (r1.append r2) (by rw[List.length_append];omega),rfl,q _ I.fresh⟩
noncomputable def eG:D→D→R D
  | .int i,.int j=> .ok (.int (i+j))
  | .tup xs,.tup ys=>if xs.length+ys.length≤1000000 then .ok (.tup (xs++ys)) else .bad
  | .lst xs,.lst ys=>if xs.length+ys.length≤1000000 then .ok (.lst (xs++ys)) else .bad
  |_,_=> .bad
theorem cU:lK X (binaryOp .Add) eG:=by
  refine⟨_,OpR.or op_add (OpR.or op_catT (OpR.or akr aks)),fun ρ O σ H Q x y dx dy j0 rx ry h=>?_⟩
  cases dx <;> cases dy <;> first
    |exact h.elim
    |skip
  · rename_i i j
    exact .inl ⟨i,j,rx.int,ry.int,fin h (cM _)⟩
  · rename_i xs ys
    have h:good X (rD X) O (if xs.length+ys.length≤1000000 then .ok (.tup (xs++ys)) else .bad) σ H Q:=h
    by_cases hc:xs.length+ys.length≤1000000
    · rw [if_pos hc] at h
      obtain⟨a,us,rfl,ha,r1⟩:=rx.tup
      obtain⟨b,ws,rfl,hb,r2⟩:=ry.tup
      by_cases hx:us=[]
      · subst hx
        have:xs=[]:=List.eq_nil_of_length_eq_zero r1.length
        subst this
        exact .inr (.inr (.inl ⟨a,b,ws,rfl,rfl,ha,hb,fin h (jG hb r2)⟩))
      · refine .inr (.inl ⟨a,b,us,ws,rfl,rfl,ha,hb,hx,?_,fun z=>?_,fun z l hl=>?_⟩)
        · rw[←r1.length,←r2.length];exact Nat.le_trans hc jx
        · subst z
          have:ys=[]:=List.eq_nil_of_length_eq_zero r2.length
          subst this
          rw[List.append_nil] at h
          exact fin h (jG ha r1)
        · exact h _ _ (Same.upd hl) (Rep.wJ hl (r1.append r2))
    · rw[if_neg hc] at h;exact h.elim
  · rename_i xs ys
    have h:good X (rD X) O (if xs.length+ys.length≤1000000 then .ok (.lst (xs++ys)) else .bad) σ H Q:=h
    by_cases hc:xs.length+ys.length≤1000000
    · rw[if_pos hc] at h
      obtain⟨a,us,rfl,ha,_,r1⟩:=rx.lst
      obtain⟨b,ws,rfl,hb,_,r2⟩:=ry.lst
      refine .inr (.inr (.inr ⟨a,b,us,ws,rfl,rfl,ha,hb,?_,fun l hl=>?_⟩))
      · rw[←r1.length,←r2.length];exact Nat.le_trans hc jx
      · exact h _ _ (Same.upd hl) (Rep.wK hl (j0.G6 hl) (r1.append r2))
    · rw[if_neg hc] at h;exact h.elim
end
section
variable {prog:Program} {w:World} {A:Around} {E:Value→Shared→Prop} {s:Shared}
open HT in
theorem G4 {t sl:Addr} {items:Array Value} {vl vu:Value} {lo hi:Option Int} {Q:Value→Shared→Prop} (ht:IsTup s.heap t items) (hs:s.heap.IsSliceOf sl vl vu .none) (pl:IsPart vl lo) (pu:IsPart vu hi)
    (hw:sIx items.size 0 lo=0∧sIx items.size items.size hi=items.size) (h:Q (.ref t) s):wpAny (model prog w) A (getItem (.ref t) (.ref sl)) Q E s:=by
  obtain⟨os,hos,hcs,hds⟩:=id hs
  have hTs:s.TypeIs (.ref sl) "slice" :=⟨os,hos,hcs⟩
  unfold getItem
  try with_reducible refine wpAny_holding ?_
  first |refine wpAny_bind (wpAny_pure ?_) |skip
  refine wpAny_bind (wpAny_sequenceKey ht.typeIs (by decide) ?_)
  refine wpAny_bind (wpAny_callSpecial?_slot (name:=Str.ofString "__getitem__") ht.typeIs PyProof.Rows.slot_tuple_getitem
    (wpAny_call_entry PyProof.Rows.slot_tuple_getitem ht.typeIs entry_tuple_getitem ?_ (args_tuple_getitem _ _)))
  show wpAny _ _ (Builtin.Tuple.tupleItemsOf (.ref t) >>=_) _ _ s
  refine wpAny_bind (tupleItemsOf_ ht ?_)
  refine wpAny_bind (wpAny_typeOf hTs ?_)
  rw[if_pos (by decide)]
  refine wpAny_bind (sliceApplied_gen hs pl pu ?_)
  show wpAny _ _ (if (((sIx items.size 0 lo:Nat):Int) ==0 && (1:Int) ==1 && (sIx items.size items.size hi - sIx items.size 0 lo) ==items.size)=true then _ else _) _ _ s
  rw[if_pos (by rw[hw.1,hw.2];simp)]
  refine wpAny_bind (m:=Builtin.Tuple.tupleIsExact _) (wpAny_bind (wpAny_typeOf ht.typeIs (wpAny_pure ?_)))
  rw[if_pos (beq_self_eq_true _)]
  first
    |exact wpAny_bind (wpAny_pure (wpAny_pure ⟨_,rfl,wpAny_pure h⟩))
    |exact wpAny_bind (wpAny_rule (wpAny_pure ⟨_,rfl,wpAny_pure h⟩))
end
section
variable {X:Cx} {e e1:Expr} {lo hi:Option Expr} {f f1:au→R D} {fl fu:au→R (Option Int)} {pos p2:Pos}
noncomputable def anr (K:PySem.W.Frag):V→Option Int→Option Int→Hp→VK→Prop:=fun x lo hi H Q=>∃a xs,x= .ref a∧SqT K H a xs∧
  (HT.sIx xs.length 0 lo=0∧HT.sIx xs.length xs.length hi=xs.length)∧Q (.ref a) H
theorem akt:SlR X (anr X.K):=by
  intro pins s σ H x v vl vu lo hi sl Q I rx hs pl pu h
  obtain⟨a,xs,rfl,hx,hw,q⟩:=h
  cases rx
  obtain⟨its,r,ht,hz⟩:=I.tuple hx
  have hlen:its.toArray.size=xs.length:=by rw[List.size_toArray];exact r.length.symm
  exact⟨"tuple",_,PyProof.Rows.slot_tuple_getitem.lookup,ht.typeIs,G4 ht hs pl pu (by rw[hlen];exact hw) ⟨.ref a,H,I,rfl,q⟩⟩
noncomputable abbrev ant:(Addr→Prop)→Hp→Option Int→Option Int→Prop:=fun _ _ a b=>a=b
noncomputable def DPo (X:Cx) (lo:Option Expr) (fo:au→R (Option Int)):Prop:=PO X lo (tG X ant fo)
theorem PO.imp {t t':TO} (h:PO X lo t) (w:∀σ H Q,t' σ H Q→t σ H Q):PO X lo t':=fun pins s σ H Q I q=>h pins s σ H Q I (w σ H Q q)
theorem qI:DPo X none (fun _=> .ok none):=by
  refine PO.imp po_none fun σ H Q h=>?_
  obtain⟨ρ,O,j,h⟩:=h
  exact fin h rfl
noncomputable def Uh:D→R (Option Int)
  | .int i=> .ok (some i)
  |_=> .bad
theorem qJ (h:DE X e1 f1):DPo X (some e1) (fun ρ=>(f1 ρ).bind Uh):=by
  refine PO.imp (po_some h) fun σ H Q h=>?_
  obtain⟨ρ,O,j,h⟩:=h
  refine go j h fun d v H1 e1 s1 r1 j1 h1=>?_
  cases d with
  |int i=>exact⟨i,r1.int,fin h1 rfl⟩
  |_=>exact h1.elim
noncomputable def nT (ds:List D) (lo hi:Option Int):List D:=(ds.drop (HT.sIx ds.length 0 lo)).take (HT.sIx ds.length ds.length hi - HT.sIx ds.length 0 lo)
noncomputable def Yp (d:D) (lo hi:Option Int):R D:=match d with
  | .tup ds=> .ok (.tup (nT ds lo hi))
  |_=> .bad
noncomputable def rH (f:au→R D) (fl fu:au→R (Option Int)):au→R D:=fun ρ=>(f ρ).bind fun d=>(fl ρ).bind fun l=>(fu ρ).bind fun u=>Yp d l u
theorem Df (he:DE X e f) (hl:DPo X lo fl) (hu:DPo X hi fu):DE X (.Subscript e (.Slice lo hi none p2) pos) (rH f fl fu):=by
  refine PE.imp (pe_slice (SlR.or sl_tup akt) he hl hu) fun σ H Q h=>?_
  obtain⟨ρ,O,j,h⟩:=h
  refine go j h fun d v H1 e1 s1 r1 j1 h1=>?_
  refine go j1 h1 fun l l' H2 e2 s2 r2 j2 h2=>?_
  refine go j2 h2 fun u u' H3 e3 s3 r3 j3 h3=>?_
  have r2:l=l':=r2
  have r3:u=u':=r3
  subst r2 r3
  cases d with
  | tup ds=>
    have r1':=(r1.same s2).same s3
    obtain⟨a,xs,rfl,hq,rs⟩:=r1'.tup
    have hlen:=rs.length
    by_cases hw:HT.sIx xs.length 0 l=0∧HT.sIx xs.length xs.length u=xs.length
    · refine .inr ⟨a,xs,rfl,hq,hw,?_⟩
      have e:nT ds l u=ds:=by
        unfold nT
        rw[hlen,hw.1,hw.2,List.drop_zero,Nat.sub_zero,←hlen,List.take_length]
      have h3:good X (rD X) O (.ok (.tup (nT ds l u))) σ H3 Q:=h3
      rw[e] at h3
      exact fin h3 (jG hq rs)
    · refine .inl ⟨a,xs,rfl,hq,hw,fun p hp=>?_⟩
      refine h3 _ _ (Same.upd hp) (Rep.wJ hp ?_)
      unfold nT cutV
      rw[hlen]
      exact (rs.drop _).take _
  |_=>exact h3.elim
end
end Pu
namespace Pu
open PySem PySem.Spec L2
open PyProof.Rows hiding St
noncomputable def pickK {α:Type} (z:α) (sel:List (Sum Nat α)) (ws:List α):List α:=sel.map fun
  | .inl i=>ws.getD i z
  | .inr c=>c
inductive Sel:List (Sum Nat Value)→List (Sum Nat V)→List (Sum Nat D)→Prop
  |nil:Sel [] [] []
  |at (i:Nat) {a b c}:Sel a b c→Sel (.inl i::a) (.inl i::b) (.inl i::c)
  |non {a b c}:Sel a b c→Sel (.inr .none::a) (.inr .non::b) (.inr .non::c)
  |str (x:Str) (t:Tok) {a b c}:Sel a b c→Sel (.inr (.str x t)::a) (.inr (.str x)::b) (.inr (.str x)::c)
  |int (x:Int) (t:Tok) {a b c}:Sel a b c→Sel (.inr (.int x t)::a) (.inr (.int x)::b) (.inr (.int x)::c)
  |bl (x:Bool) {a b c}:Sel a b c→Sel (.inr (.bool x)::a) (.inr (.bl x)::b) (.inr (.bl x)::c)
theorem agP {zs:List V} {ws:List Value} (r:Vals zs ws) (i:Nat):RelV (zs.getD i .non) (ws.getD i .none):=by
  induction r generalizing i with
  |nil=>exact rfl
  | cons h _ ih=>
    cases i with
    |zero=>exact h
    |succ i=>exact ih i
theorem Sel.vals {a b c} (s:Sel a b c) {zs:List V} {ws:List Value} (r:Vals zs ws):Vals (pickK .non b zs) (pickK .none a ws):=by
  induction s with
  |nil=>exact .nil
  | «at» i _ ih=>exact .cons (agP r i) ih
  |non _ ih=>exact .cons rfl ih
  |str x t _ ih=>exact .cons ⟨t,rfl⟩ ih
  |int x t _ ih=>exact .cons ⟨t,rfl⟩ ih
  |bl x _ ih=>exact .cons rfl ih
section
variable {K:PySem.W.Frag} {O:Addr→Prop} {H:Hp}
theorem Ui:∀{ds:List D} {zs:List V},aQ K O H ds zs→∀i:Nat,Rep K O H (ds.getD i .non) (zs.getD i .non)
  |[],zs,r,i=>by rw[r.nil_inv];exact wH
  | d::ds,zs,r,i=>by
    obtain⟨x,t,rfl,h1,h2⟩:=r.cons_inv
    cases i with
    |zero=>exact h1
    |succ i=>exact Ui h2 i
theorem Sel.reps {a b c} (s:Sel a b c) {ds:List D} {zs:List V} (r:aQ K O H ds zs):aQ K O H (pickK .non c ds) (pickK .non b zs):=by
  induction s with
  |nil=>exact .nil
  | «at» i _ ih=>exact .cons (Ui r i) ih
  |non _ ih=>exact .cons wH ih
  |str x t _ ih=>exact .cons (Ra x) ih
  |int x t _ ih=>exact .cons (cM x) ih
  |bl x _ ih=>exact .cons (iw x) ih
end
section
variable {X:Cx} {k n:Nat} {f:Addr} {fd:FuncData} {ps ks:List Str} {F:List D→R D} {x:Str} {p pos kpos:Pos} {e:Expr} {es:List Expr} {kws:List Keyword} {fa fk:au→R (List D)} {fe:au→R D} {nm:Option Str}
noncomputable def DK (X:Cx) (kws:List Keyword) (fk:au→R (List D)):Prop:=PK X kws (tG X (Ub X) fk)
theorem PK.imp {t t':TA} (h:PK X kws t) (w:∀σ H Q,t' σ H Q→t σ H Q):PK X kws t':=fun pos pins s σ H Q I q=>h pos pins s σ H Q I (w σ H Q q)
theorem qj:DK X [] (fun _=> .ok []):=by
  refine PK.imp pk_nil fun σ H Q h=>?_
  obtain⟨ρ,O,j,h⟩:=h
  exact fin h .nil
theorem jY (he:DE X e fe) (hr:DK X kws fk):DK X (⟨nm,e,kpos⟩::kws) (ao fe fk):=by
  refine PK.imp (pk_cons he hr) fun σ H Q h=>?_
  obtain⟨ρ,O,j,h⟩:=h
  refine go j h fun d v H1 e1 s1 r1 j1 h1=>?_
  refine go j1 h1 fun ds vs H2 e2 s2 r2 j2 h2=>?_
  exact fin h2 (.cons (r1.same s2) r2)
theorem Uj {α:Type} {z:α} {sel:List (Sum Nat α)} {ws:List α}:(pickK z sel ws).length=sel.length:=by unfold pickK;rw[List.length_map]
noncomputable def KB (K:PySem.W.Frag) (fd:FuncData) (ps ks:List Str) (sel:List (Sum Nat Value)):Prop:=∀(s:Shared) (us ws:List Value),K.In s.heap→us.length+sel.length=ps.length→ws.length=ks.length→BindsTo s fd ⟨us,ks.zip ws⟩ (ps.zip (us++pickK .none sel ws))
noncomputable def mK (F:List D→R D) (n m:Nat) (sel:List (Sum Nat D)) (fa fk:au→R (List D)):au→R D:=fun ρ=>(fa ρ).bind fun ds=>(fk ρ).bind fun zs=>if zs.length=m then aP F n (ds++pickK .non sel zs) else .bad
theorem aiT {sa sb sc} (S:Sel sa sb sc) (G:FnOk X.prog X.w X.K X.mg X.base CX0 k f fd ps (Lb X.K n F)) (hr:Room k X.A) (hg:Gl X x) (hm:X.mg x=some (.ref f)) (hk:PySem.W.keepIn X.K (.ref f)=true) (hb:KB X.K fd ps ks sa)
    (ha:DA X (e::es) fa) (hkw:DK X kws fk) (hall:(backToKw pos (keywordEach kws X.env)).all (·.1.isSome)=true:=by rfl) (hks:(backToKw pos (keywordEach kws X.env)).filterMap (·.1)=ks:=by rfl)
    (hdb:(x ==("__debug__" :Str))=false:=by decide) (he:starEach (e::es) X.env=(false,eval e X.env)::starEach es X.env:=by rfl)
    (hpl:((backTo pos (starEach (e::es) X.env)).any (·.1) || (backToKw pos (keywordEach kws X.env)).any (·.1.isNone))=false:=by rfl):
    DE X (.Call (.Name x p) (e::es) kws pos) (mK F n ks.length sc fa fk):=by
  intro pins s σ H Q I h
  refine wpAny_Call_Name_kw (ld_glob I hg hm ?_ hdb)
  obtain⟨ρ,O,j,h⟩:=h
  have key:tG X (Ub X) fa σ H fun vs H1=>tG X (Ub X) fk σ H1 fun zs H2=>zs.length=ks.length∧Lb X.K n F (vs++pickK .non sb zs) H2 Q E0:=by
    refine go j h fun ds vs H1 e1 s1 r1 j1 h1=>?_
    refine go j1 h1 fun zd zs H2 e2 s2 r2 j2 h2=>?_
    by_cases hz:zd.length=ks.length
    · rw[if_pos hz] at h2
      unfold aP at h2
      by_cases hl:(ds++pickK .non sc zd).length=n
      · rw[if_pos hl] at h2
        refine⟨by rw[←r2.length];exact hz,O,_,(r1.same s2).append (S.reps r2),hl,j2.al,?_⟩
        cases q:F (ds++pickK .non sc zd) with
        |ok d=>rw[q] at h2;exact h2
        |err c=>rw[q] at h2;exact h2
        |bad=>rw[q] at h2;exact h2
      · rw[if_neg hl] at h2;exact h2.elim
    · rw[if_neg hz] at h2;exact h2.elim
  refine PySem.W.callWith_KW (h₀:=X.base) I.ok.mod.kin hk hall (thn (ha pos pins s σ H _ I key) fun us s1 ⟨vs,H1,I1,r,q⟩=>?_) hpl he
  refine thn (hkw pos pins s1 σ H1 _ I1 q) fun ws s2 ⟨zs,H2,I2,rz,q2⟩=>⟨I2.kIn,?_⟩
  rw[hks]
  obtain⟨hz,q2⟩:=q2
  have r2:=r.append (S.vals rz)
  have hl:(us++pickK .none sa ws).length=ps.length:=by rw[←r2.length];exact G.len _ _ _ _ q2
  refine wpAny_call (codeAny_mono (G.run X.A X.stack s2 H2 ⟨us,ks.zip ws⟩ _ _ Q E0 hr I2.env0 (hb s2 us ws I2.kIn (by rw[List.length_append,Uj] at hl;exact hl) (by rw[←rz.length];exact hz)) r2 q2) fun r s' hq=>?_)
  cases r with
  |error e=>exact pass0 pins σ H2 s2 e s' I2 hq
  | ok fl=>
    cases fl with
    |ret u=>exact I2.after hq
    |next=>exact False.elim hq
    |brk=>exact False.elim hq
    |cont=>exact False.elim hq
end
section
variable {X:Cx} {k n:Nat} {f:Addr} {fd:FuncData} {ps:List Str} {F:List D→R D} {x:Str} {p pos:Pos} {e:Expr} {es:List Expr} {fa:au→R (List D)}
end
theorem len0 {α:Type} {l:List α} (h:l.length=0):l=[]:=List.eq_nil_of_length_eq_zero h
theorem iY {α:Type} {l:List α} {n:Nat} (h:l.length=n+1):∃a m,l=a::m∧m.length=n:=by
  cases l with
  |nil=>simp at h
  |cons a m=>exact⟨a,m,rfl,by simpa using h⟩
noncomputable def FnE (P:Program) (w:World) (K:PySem.W.Frag) (mg:Str→Option Value) (base:Heap) (k:Nat) (x:Str) (n:Nat) (F:List D→R D) (fd:FuncData) (ps:List Str):Prop:=
  ∃f,FnOk P w K mg base CX0 k f fd ps (Lb K n F)∧mg x=some (.ref f)∧PySem.W.keepIn K (.ref f)=true
section
variable {X:Cx} {k m n:Nat} {fd:FuncData} {ps ks:List Str} {F:List D→R D} {x:Str} {p pos:Pos} {e:Expr} {es:List Expr} {kws:List Keyword} {fa fk:au→R (List D)}
theorem alV {sa sb sc} (S:Sel sa sb sc) (G:FnE X.prog X.w X.K X.mg X.base k x n F fd ps) (hr:Room m X.A) (hkm:k≤m) (hb:KB X.K fd ps ks sa)
    (ha:DA X (e::es) fa) (hkw:DK X kws fk) (hg:Gl X x:=by rfl) (hall:(backToKw pos (keywordEach kws X.env)).all (·.1.isSome)=true:=by rfl) (hks:(backToKw pos (keywordEach kws X.env)).filterMap (·.1)=ks:=by rfl)
    (hdb:(x ==("__debug__" :Str))=false:=by decide) (he:starEach (e::es) X.env=(false,eval e X.env)::starEach es X.env:=by rfl)
    (hpl:((backTo pos (starEach (e::es) X.env)).any (·.1) || (backToKw pos (keywordEach kws X.env)).any (·.1.isNone))=false:=by rfl):
    DE X (.Call (.Name x p) (e::es) kws pos) (mK F n ks.length sc fa fk):=by
  obtain⟨f,ok,hm,hk⟩:=G
  exact aiT S ok (hr.mono hkm) hg hm hk hb ha hkw hall hks hdb he hpl
end
theorem alW {P:Program} {w:World} {K:PySem.W.Frag} {mg:Str→Option Value} {base:Heap} {x qual:Str} {st:Stmt} {f:Addr} {fd:FuncData} {N ps:List Str} {k n m:Nat} {g:au→So} (Fn:Fun K x qual st f fd) (hmg:mg x=some (.ref f)) (S:FnScope N ps (defScope st)) (hn:ps.length=n) (hm:N.length=n+m)
    (hbody:∀(cdv:Value) (A:Around) (outer:List PySem.Env) (s:Shared) (H:Hp) (E:XK),Room k (A.deeper (envOfC qual (defScope st) s.heap.objs.size f cdv))→cG (cxOf CX0 P w K mg base N qual (defScope st) f cdv A outer s H E).nox (defBody st) g):
    FnE P w K mg base (k+1) x n (cB m g) fd ps:=⟨f,fnD Fn S hn hm hbody fun ds d _ e=>e,hmg,Fn.kp⟩
section
variable {K:PySem.W.Frag} {kV doc pm cdv ct:Value} {an:Option Addr} {body:List Stmt} {scope:Scope} {d:Addr} {t:Tok} {q:Pos}
noncomputable def agQ (q:Pos):Arguments:={posonlyargs:=[],args:=[⟨"p",none,q⟩],vararg:=none,kwonlyargs:=[⟨"manner",none,q⟩,⟨"marks",none,q⟩],kw_defaults:=[some (.Constant (.str "worth") 0 q),some (.Constant .none 0 q)],kwarg:=none,defaults:=[]}
example:KB K (PySem.W.fnOf "f" "f" (agQ q) body scope .none kV doc pm an cdv ct) ["p","manner","marks"] ["marks","manner"] [.inl 1,.inl 0]:=by
  intro s us ws i hl hw
  have hl1:us.length=1:=by simpa using hl
  clear hl
  obtain⟨u,us',rfl,hl2⟩:=iY hl1
  clear hl1
  cases len0 hl2
  obtain⟨w1,ws1,rfl,hw1⟩:=iY hw
  clear hw
  obtain⟨w2,ws2,rfl,hw2⟩:=iY hw1
  clear hw1
  cases len0 hw2
  exact .of_eq rfl
end
end Pu
namespace Pu
open PySem PySem.Spec L2
open PyProof.Rows hiding St
section
variable {X:Cx}
end
end Pu
namespace Pu
open PySem PySem.Spec L2
open PyProof.Rows hiding St
section
variable {K:PySem.W.Frag} {O O':Addr→Prop} {H:Hp}
end
section
variable {X:Cx} {e:Expr} {f:au→R D} {pos:Pos}
end
section
variable {prog:Program} {w:World} {A:Around} {E:Value→Shared→Prop} {s:Shared} {t:Addr}
end
section
variable {X:Cx}
end
end Pu
namespace Pu
open PySem PySem.Spec L2
open PyProof.Rows hiding St
theorem Mr:fillsNumberSlot (.type "tuple") "mul" =pure false:=
  PySem.fillsNumberSlot_seq (id:= "tuple.__mul__") (r:=some (.builtin "tuple.__rmul__")) F.slot_tuple_mul.lookup (by decide +kernel) F.slot_tuple_rmul.lookup (by decide +kernel)
theorem Yq:seqRepeat? (.type "tuple")=pure (some (.builtin "tuple.__mul__")):=by
  unfold seqRepeat?
  rw[PySem.seqSlot_of (T:= "tuple") (name:= "__mul__") (id:= "tuple.__mul__") F.slot_tuple_mul.lookup (by decide +kernel),PySem.seqSlot_of (T:= "tuple") (name:= "__rmul__") (id:= "tuple.__rmul__") F.slot_tuple_rmul.lookup (by decide +kernel)]
  rfl
theorem Rj (a:Int) (t:Tok) (l:Addr) (items:Array Value) (n:Nat) (dd:Option Addr) (sl:Array (Option Value)):
    Meets (Builtin.«int.__rmul__» ⟨[.int a t,.ref l],[]⟩) (fun _ R s=>s.heap.get? l=some {cls:= .type "tuple",dict:=dd,data:= .seq items n,slots:=sl}∧R (.ok (.ret Value.notImplemented)) s):=
  .of_wp fun prog w A R s h=>by obtain⟨hp,g,d,tk,os⟩:=s;obtain⟨hl,h⟩:=h;wp_walk;exact⟨_,rfl,h⟩
theorem ad1 (l:Addr) (items:Array Value) (n:Nat) (dd:Option Addr) (sl:Array (Option Value)) (t:Tok):
    Meets (Builtin.«tuple.__mul__» ⟨[.ref l,.int 1 t],[]⟩) (fun _ R s=>s.heap.get? l=some {cls:= .type "tuple",dict:=dd,data:= .seq items n,slots:=sl}∧R (.ok (.ret (.ref l))) {s with heap:=s.heap,toks:=s.toks}):=
  .of_wp fun prog w A R s h=>by obtain⟨hp,g,d,tk,os⟩:=s;obtain⟨hl,h⟩:=h;have f1:=AutoSeq1.idx_int;have hc0:(items.isEmpty || (1:Int) ==1)=true:=(by simp);unfold Builtin.«tuple.__mul__»;wp_walk using wpAny_loadPart' hl;exact⟨_,rfl,h⟩
theorem ad2 (l:Addr) (items:Array Value) (n:Nat) (dd:Option Addr) (sl:Array (Option Value)) (k:Int) (t:Tok) (hf:¬(decide (k < -(2 ^ 63)) || decide (k≥2 ^ 63))=true) (hc0:¬(items.isEmpty || k ==1)=true) (hc1:¬(decide (k≤0) || items.isEmpty)=true)
    (hc2:¬(items.size:Int)*k > (2 ^ 63 - 1) / 8) (hc3:¬Builtin.Tuple.tupleTooMany ((items.size:Int)*k)=true) (hsz:sizeOk (.seq (List.foldl (fun x1 x2=>x1++x2) #[] (List.replicate k.toNat items)))):
    Meets (Builtin.«tuple.__mul__» ⟨[.ref l,.int k t],[]⟩) (fun _ R s=>s.heap.get? l=some {cls:= .type "tuple",dict:=dd,data:= .seq items n,slots:=sl}∧R (.ok (.ret (.ref s.heap.objs.size))) {s with heap:=s.heap.push {cls:=Value.type "tuple",data:=Data.seq (List.foldl (fun x1 x2=>x1++x2) #[] (List.replicate k.toNat items))},toks:=s.toks}):=
  .of_wp fun prog w A R s h=>by
    obtain⟨hp,g,d,tk,os⟩:=s
    obtain⟨hl,h⟩:=h
    have f1:=AutoSeq1.idx_int
    unfold Builtin.«tuple.__mul__»
    wp_walk using wpAny_loadPart' hl
    refine wpAny_ite_false (by simpa using hf) ?_
    wp_walk using wpAny_loadPart' hl
    refine wpAny_ite_false (by simpa using hc2) ?_
    wp_walk using wpAny_loadPart' hl
    refine wpAny_ite_false (by simpa[sizeOk] using hsz) ?_
    wp_walk using wpAny_loadPart' hl
    exact⟨_,rfl,h⟩
section
variable {X:Cx}
theorem aku:OpR X (binaryOp .Mult) (fun x y H Q=>∃a k xs,x= .ref a∧y= .int k∧SqT X.K H a xs∧xs≠[]∧1≤k∧k < 2 ^ 63∧xs.length*k.toNat≤sizeLine∧(k=1→Q (.ref a) H)∧
    (k≠1→∀p,H p=none→Q (.ref p) (upd H p (.tup (List.replicate k.toNat xs).flatten)))):=by
  intro pins s σ H x y v u Q I rx ry h
  obtain⟨a,k,xs,rfl,rfl,hq,hx,h1,h2,hz,q1,q2⟩:=h
  cases rx
  obtain⟨t,rfl⟩:=ry
  obtain⟨its,r,p1,_⟩:=I.tuple hq
  obtain⟨⟨cls,dd,data,sl⟩,ho,hc,n,hd⟩:=id p1
  simp only at hc hd
  subst hc hd
  have hlen:=r.length
  have hne:its≠[]:=fun z=>hx (by rw[z] at r;cases r;rfl)
  have hpos:0 < its.length:=by cases its with |nil=>exact absurd rfl hne |cons _ _=>simp
  have hemp:its.toArray.isEmpty=false:=by cases its with |nil=>exact absurd rfl hne |cons _ _=>simp
  refine wpAny_binaryOp_repeat_ref (T:= "tuple") (U:= "int") (by decide) ⟨_,ho,rfl⟩ (fun s'=>typeIs_int s' k t) Mr F.fills_int_mul F.slot_int_rmul Yq F.slot_int_index.lookup
    (call_meets F.slot_int_rmul (typeIs_int s k t) F.entry_int_rmul (F.args_int_rmul_2 _ _) (Rj k t a its.toArray n dd sl) ⟨ho,rfl,⟨_,ho,rfl⟩,?_⟩)
  by_cases hk:k=1
  · subst hk
    exact call_meets F.slot_tuple_mul ⟨_,ho,rfl⟩ F.entry_tuple_mul (F.args_tuple_mul_2 _ _) (ad1 a its.toArray n dd sl t) ⟨ho,⟨.ref a,H,I,rfl,q1 rfl⟩⟩
  · have hmul:(its.toArray.size:Int)*k=((xs.length*k.toNat:Nat):Int):=by
      rw[List.size_toArray,←hlen,Int.natCast_mul,Int.toNat_of_nonneg (by omega)]
    have hnew:List.foldl (fun x1 x2=>x1++x2) #[] (List.replicate k.toNat its.toArray)=(List.replicate k.toNat its).flatten.toArray:=by
      have:=foldl_rep its k.toNat []
      rw[List.nil_append] at this
      exact this
    have hs:sizeOk (.seq (List.foldl (fun x1 x2=>x1++x2) #[] (List.replicate k.toNat its.toArray))):=by
      rw[hnew]
      show (List.replicate k.toNat its).flatten.toArray.size≤sizeLine
      rw[List.size_toArray,len_rep,←hlen,Nat.mul_comm];exact hz
    have hbig:(sizeLine:Nat)≤(2 ^ 63 - 1) / 8:=by decide
    refine call_meets F.slot_tuple_mul ⟨_,ho,rfl⟩ F.entry_tuple_mul (F.args_tuple_mul_2 _ _) (ad2 a its.toArray n dd sl k t (by simp;omega) (by rw[hemp];simp[hk]) (by rw[hemp];simp;omega) (by rw[hmul];omega) (by rw[hmul];unfold Builtin.Tuple.tupleTooMany;intro z;have z:=of_decide_eq_true z;omega) hs) ⟨ho,?_⟩
    rw[hnew]
    refine⟨.ref s.heap.objs.size,_,I.laid (t':=s.toks) (o:= .tup (List.replicate k.toNat xs).flatten) (fun b ob q=>Heap.get?_push_of_some _ q) (Nat.le_refl _) ?_,rfl,q2 hk _ (I.hok.fresh (Nat.le_refl _))⟩
    exact⟨by rw[len_rep,Nat.mul_comm];exact hz,_,r.rep k.toNat,IsTup.new _ _⟩
theorem Yr {K:PySem.W.Frag} {O:Addr→Prop} {H:Hp} {ds:List D} {xs:List V} (r:aQ K O H ds xs):∀k:Nat,aQ K O H (List.replicate k ds).flatten (List.replicate k xs).flatten
  |0=> .nil
  |k+1=>by rw[List.replicate_succ,List.replicate_succ,List.flatten_cons,List.flatten_cons];exact r.append (Yr r k)
noncomputable def Ms:D→D→R D
  | .int i,.int j=>jL (.int i) (.int j)
  | .tup ds,.int k=>if ds≠[]∧1≤k∧k < 2 ^ 63∧ds.length*k.toNat≤1000000 then .ok (.tup (List.replicate k.toNat ds).flatten) else .bad
  |_,_=> .bad
theorem Rk:lK X (binaryOp .Mult) Ms:=by
  obtain⟨r0,o0,c0⟩:=uN (X:=X)
  refine⟨_,OpR.or o0 aku,fun ρ O σ H Q x y dx dy j0 rx ry h=>?_⟩
  cases dx <;> cases dy <;> first
    |exact h.elim
    |skip
  · exact .inl (c0 ρ O σ H Q x y _ _ j0 rx ry h)
  · rename_i ds k
    have h:good X (rD X) O (if ds≠[]∧1≤k∧k < 2 ^ 63∧ds.length*k.toNat≤1000000 then .ok (.tup (List.replicate k.toNat ds).flatten) else .bad) σ H Q:=h
    by_cases hc:ds≠[]∧1≤k∧k < 2 ^ 63∧ds.length*k.toNat≤1000000
    · rw[if_pos hc] at h
      obtain⟨a,us,rfl,ha,r1⟩:=rx.tup
      obtain⟨h0,h1,h2,h3⟩:=hc
      refine .inr ⟨a,k,us,rfl,ry.int,ha,fun z=>h0 (by have:=r1.length;rw[z] at this;exact List.eq_nil_of_length_eq_zero this),h1,h2,by rw[←r1.length];exact Nat.le_trans h3 jx,fun z=>?_,fun z l hl=>?_⟩
      · subst z
        have e:(List.replicate (1:Int).toNat ds).flatten=ds:=by simp
        rw[e] at h
        exact fin h (jG ha r1)
      · exact h _ _ (Same.upd hl) (Rep.wJ hl (Yr r1 _))
    · rw[if_neg hc] at h;exact h.elim
end
end Pu
namespace Pu
open PySem PySem.Spec L2
open PyProof.Rows hiding St
noncomputable def gQ:D→Bool
  | .tup _=>false
  | .lst _=>false
  |_=>true
noncomputable def vD:D→V
  | .non=> .non
  | .bl b=> .bl b
  | .int i=> .int i
  | .str x=> .str x
  |_=> .non
section
variable {K:PySem.W.Frag} {O:Addr→Prop} {H:Hp}
theorem ac7 {d:D} {v:V} (f:gQ d=true) (r:Rep K O H d v):v=vD d:=by
  cases d with
  |non=>exact r.non
  |bl b=>exact r.bl
  |int i=>exact r.int
  |str x=>exact r.str
  |tup _=>cases f
  |lst _=>cases f
theorem Ys:∀{ds:List D} {vs:List V},ds.all gQ=true→aQ K O H ds vs→vs=ds.map vD
  |[],vs,_,r=>r.nil_inv
  | d::ds,vs,f,r=>by
    obtain⟨x,t,rfl,h1,h2⟩:=r.cons_inv
    rw[List.all_cons,Bool.and_eq_true] at f
    rw[ac7 f.1 h1,Ys f.2 h2];rfl
theorem agR {d:D} (f:gQ d=true):flatV (vD d)=true:=by cases d <;> first |rfl |cases f
theorem am2 {a b:D} (fa:gQ a=true) (fb:gQ b=true):eqV (vD a) (vD b)=gH a b:=by
  cases a <;> cases b <;> first |rfl |(simp[gQ] at fa;done) |(simp[gQ] at fb;done) |(rw[fj];rfl) |(simp[vD,eqV,oE,oF,oG,oH,oJ,jg,fj])
theorem aj8 {d:D} (fd:gQ d=true):∀{ds:List D},ds.all gQ=true→inV (vD d) (ds.map vD)=ds.any fun y=>gH y d
  |[],_=>rfl
  | y::ds,f=>by
    rw[List.all_cons,Bool.and_eq_true] at f
    have ih:=aj8 fd f.2
    unfold inV at ih ⊢
    rw[List.map_cons,List.any_cons,List.any_cons,am2 f.1 fd,ih]
theorem ac8:∀{ds:List D},ds.all gQ=true→(ds.map vD).all flatV=true
  |[],_=>rfl
  | y::ds,f=>by
    rw[List.all_cons,Bool.and_eq_true] at f
    rw[List.map_cons,List.all_cons,agR f.1,ac8 f.2];rfl
end
noncomputable def ad3:D→Option (List D)
  | .tup ds=>some ds
  | .lst ds=>some ds
  |_=>none
noncomputable def Hh (neg:Bool) (d s:D):R D:=match ad3 s with
  |some ds=>if gQ d=true∧ds.all gQ=true then .ok (.bl (if neg then !(ds.any fun y=>gH y d) else ds.any fun y=>gH y d)) else .bad
  |none=> .bad
section
variable {X:Cx}
theorem in_of {neg:Bool} {ρ:au} {O:Addr→Prop} {σ:St} {H:Hp} {Q:VK} {x y:V} {dx dy:D} (rx:Rep X.K O H dx x) (ry:Rep X.K O H dy y) (h:good X (rD X) O (Hh neg dx dy) σ H Q):rIn X.K neg x y H Q:=by
  unfold Hh at h
  cases e:ad3 dy with
  |none=>rw[e] at h;exact h.elim
  | some ds=>
    rw[e] at h
    have h:good X (rD X) O (if gQ dx=true∧ds.all gQ=true then .ok (.bl (if neg then !(ds.any fun y=>gH y dx) else ds.any fun y=>gH y dx)) else .bad) σ H Q:=h
    by_cases hc:gQ dx=true∧ds.all gQ=true
    · rw [if_pos hc] at h
      have key:∃p xs,y= .ref p∧(SqL X.K H p xs∨SqT X.K H p xs)∧aQ X.K O H ds xs:=by
        cases dy with
        | tup ds'=>
          cases e
          obtain⟨a,xs,rfl,hq,rs⟩:=ry.tup
          exact⟨a,xs,rfl,.inr hq,rs⟩
        | lst ds'=>
          cases e
          obtain⟨a,xs,rfl,hq,_,rs⟩:=ry.lst
          exact⟨a,xs,rfl,.inl hq,rs⟩
        |_=>cases e
      obtain⟨p,xs,rfl,hq,rs⟩:=key
      have e1:=ac7 hc.1 rx
      have e2:=Ys hc.2 rs
      subst e1 e2
      refine⟨p,_,rfl,hq,agR hc.1,ac8 hc.2,?_⟩
      rw[aj8 hc.1 hc.2]
      exact fin h (iw _)
    · rw[if_neg hc] at h;exact h.elim
theorem am3:lK X (compareOp .In) (Hh false):=⟨_,op_in_seq,fun ρ O σ H Q x y dx dy j0 rx ry h=>in_of (ρ:=ρ) rx ry h⟩
theorem aiU:lK X (compareOp .NotIn) (Hh true):=⟨_,op_notIn_seq,fun ρ O σ H Q x y dx dy j0 rx ry h=>in_of (ρ:=ρ) rx ry h⟩
end
end Pu
namespace Pu
open PySem PySem.Spec L2
open PyProof.Rows hiding St
noncomputable def m8:Bool→Heap→Addr→Addr→Nat→Prop
  |true,h,it,l,k=>h.IsTupleIter it l k
  |false,h,it,l,k=>h.IsListIter it l k
noncomputable def m9:Bool→Heap→Addr→Array Value→Prop
  |true,h,l,xs=>h.IsTuple l xs
  |false,h,l,xs=>h.IsList l xs
noncomputable def itC (t:Bool):String:=if t then "tuple_iterator" else "list_iterator"
noncomputable def Sq:Bool→PySem.W.Frag→Hp→Addr→List V→Prop
  |true,K,H,a,xs=>SqT K H a xs
  |false,K,H,a,xs=>SqL K H a xs
theorem m8.of {t:Bool} {h h':Heap} {it l:Addr} {k:Nat} (x:m8 t h it l k) (q:∀o,h.get? it=some o→h'.get? it=some o):m8 t h' it l k:=by
  cases t <;> (obtain⟨o,e,r⟩:=x;exact⟨o,q o e,r⟩)
theorem m8.obj {t:Bool} {h:Heap} {it l:Addr} {k:Nat} (x:m8 t h it l k):∃o,h.get? it=some o∧∀v,o.data≠.cell v:=by
  cases t <;> (obtain⟨o,e,c,d⟩:=x;exact⟨o,e,fun v z=>by rw[d] at z;cases z⟩)
theorem m8.new {t:Bool} {h:Heap} {l:Addr} {it:Addr} (e:h.get? it=some {cls:= .type (itC t),data:= .fields #[.ref l,.int 0 0]}):m8 t h it l 0:=by
  cases t <;> exact⟨_,e,rfl,rfl⟩
theorem m9.of {t:Bool} {h h':Heap} {l:Addr} {xs:Array Value} (x:m9 t h l xs) (q:∀o,h.get? l=some o→h'.get? l=some o):m9 t h' l xs:=by
  cases t <;> (obtain⟨o,e,r⟩:=x;exact⟨o,q o e,r⟩)
section
variable {prog:Program} {w:World} {A:Around} {E:Value→Shared→Prop} {s:Shared}
theorem nextT {it l:Addr} {i:Nat} {xs:Array Value} {v:Value} {Q:Value→Shared→Prop} (hit:s.heap.IsTupleIter it l i) (hl:s.heap.IsTuple l xs) (hv:xs[i]?=some v)
    (hQ:∀h',h'.IsTupleIter it l (i+1)→Heap.SameBut it s.heap h'→Q v {s with heap:=h'}):wpAny (model prog w) A (Builtin.SmallTypes.nextOf (.ref it)) Q E s:=by
  have ty:=hit.typeIs
  obtain⟨o,g,c,dt⟩:=hit
  obtain⟨p,gp,_,m,dp⟩:=hl
  unfold Builtin.SmallTypes.nextOf
  refine wpAny_bind (wpAny_callSpecial?_slot (name:=Str.ofString "__next__") ty F.slot_tuple_iterator_next (wpAny_call_entry F.slot_tuple_iterator_next ty F.entry_tuple_iterator_next ?_ (F.args_tuple_iterator_next_1 _)))
  show wpAny _ _ (field (.ref it) 0 >>=_) _ _ s;refine wpAny_bind (wpAny_field g dt (x:= .ref l) rfl ?_)
  show wpAny _ _ (if (Value.ref l ==Value.none)=true then _ else _) _ _ s;rw[if_neg (show ¬((Value.ref l ==Value.none)=true) from Bool.false_ne_true)]
  show wpAny _ _ (field (.ref it) 1 >>=_) _ _ s;refine wpAny_bind (wpAny_field g dt (x:= .int i 0) rfl ?_)
  show wpAny _ _ (seqItems? (.ref l) >>=_) _ _ s;refine wpAny_bind (wpAny_seqItems gp dp ?_)
  simp only[Int.toNat_natCast,hv]
  refine wpAny_bind (wpAny_setField g dt (by simp) (wpAny_pure ⟨v,rfl,wpAny_pure (hQ _ ⟨_,Heap.get?_update_self _ g (Obj.isFreed_of_fields (Obj.data_mapFields dt _)),(Obj.cls_mapFields ..).trans c,?_⟩ (Heap.SameBut.update ..))⟩))
  rw[Obj.data_mapFields dt];simp[rawInt]
theorem aiV {it l:Addr} {i:Nat} {xs:Array Value} {Q:Value→Shared→Prop} (hh:A.handled=none) (hit:s.heap.IsTupleIter it l i) (hl:s.heap.IsTuple l xs) (hv:xs[i]?=none)
    (hE:∀h' e,Heap.ExtBut it s.heap h'→(∃o,h'.get? e=some o∧o.cls= .type "StopIteration")→E (.ref e) {s with heap:=h'}):wpAny (model prog w) A (Builtin.SmallTypes.nextOf (.ref it)) Q E s:=by
  have ty:=hit.typeIs
  obtain⟨o,g,c,dt⟩:=hit
  obtain⟨p,gp,_,m,dp⟩:=hl
  unfold Builtin.SmallTypes.nextOf
  refine wpAny_bind (wpAny_callSpecial?_slot (name:=Str.ofString "__next__") ty F.slot_tuple_iterator_next (wpAny_call_entry F.slot_tuple_iterator_next ty F.entry_tuple_iterator_next ?_ (F.args_tuple_iterator_next_1 _)))
  show wpAny _ _ (field (.ref it) 0 >>=_) _ _ s;refine wpAny_bind (wpAny_field g dt (x:= .ref l) rfl ?_)
  show wpAny _ _ (if (Value.ref l ==Value.none)=true then _ else _) _ _ s;rw[if_neg (show ¬((Value.ref l ==Value.none)=true) from Bool.false_ne_true)]
  show wpAny _ _ (field (.ref it) 1 >>=_) _ _ s;refine wpAny_bind (wpAny_field g dt (x:= .int i 0) rfl ?_)
  show wpAny _ _ (seqItems? (.ref l) >>=_) _ _ s;refine wpAny_bind (wpAny_seqItems gp dp ?_)
  simp only[Int.toNat_natCast,hv]
  refine wpAny_bind (wpAny_rule (wpAny_bind (wpAny_setField g dt (by simp) ?_)))
  show wpAny _ _ (newExc (.type "StopIteration") [] >>=_) _ _ _;refine wpAny_bind ?_
  simp only[newExc,newTuple];refine wpAny_bind (wpAny_newObj_type ?_ (by size_fits))
  refine wpAny_bind (m:=firstArgMember _ _) (wpAny_of_eq (a:=Value.none) (by first |(simp only[firstArgMember];rfl) |rfl) ?_)
  refine wpAny_newObj_type ?_ (by size_fits);simp only[raiseNew]
  refine wpAny_bind (wpAny_handled ?_);first |rw [show A.in1.handled=none from hh] |rw [hh]
  exact wpAny_bind (wpAny_pure (wpAny_throw (hE _ _ (((Heap.SameBut.update ..).extBut.push _).push _) ⟨_,Heap.get?_push_size _ rfl,rfl⟩)))
theorem wA {t:Bool} {it l:Addr} {i:Nat} {xs:Array Value} {v:Value} {Q:Value→Shared→Prop} (hit:m8 t s.heap it l i) (hl:m9 t s.heap l xs) (hv:xs[i]?=some v)
    (hQ:∀h',m8 t h' it l (i+1)→Heap.SameBut it s.heap h'→Q v {s with heap:=h'}):wpAny (model prog w) A (Builtin.SmallTypes.nextOf (.ref it)) Q E s:=by
  cases t with
  |true=>exact nextT hit hl hv hQ
  |false=>exact wpAny_nextOf_list_item hit hl hv hQ
theorem sZ {t:Bool} {it l:Addr} {i:Nat} {xs:Array Value} {Q:Value→Shared→Prop} (hh:A.handled=none) (hit:m8 t s.heap it l i) (hl:m9 t s.heap l xs) (hv:xs[i]?=none)
    (hE:∀h' e,Heap.ExtBut it s.heap h'→(∃o,h'.get? e=some o∧o.cls= .type "StopIteration")→E (.ref e) {s with heap:=h'}):wpAny (model prog w) A (Builtin.SmallTypes.nextOf (.ref it)) Q E s:=by
  cases t with
  |true=>exact aiV hh hit hl hv hE
  |false=>exact wpAny_nextOf_list_end hh hit hl hv hE
theorem zN {t:Bool} {l:Addr} {xs:Array Value} {Q:Value→Shared→Prop} (hl:m9 t s.heap l xs) (hQ:Q (.ref s.heap.objs.size) {s with heap:=s.heap.push {cls:= .type (itC t),data:= .fields #[.ref l,.int 0 0]}}):
    wpAny (model prog w) A (pyIter (.ref l)) Q E s:=by
  cases t with
  |true=>exact wpAny_pyIter_tuple hl hQ
  |false=>exact wpAny_pyIter_list hl hQ
theorem uR {T:Addr} {arr:Array Value} {x:Value} {k:Nat} {Q:Unit→Shared→Prop} (hT:s.heap.get? T=some {cls:= .type "tuple",data:= .seq arr})
    (h:∀h',h'.get? T=some {cls:= .type "tuple",data:= .seq (arr.setIfInBounds k x)}→Heap.SameBut T s.heap h'→Q () {s with heap:=h'}) (hs:arr.size≤sizeLine:=by size_fits):wpAny (model prog w) A (updateSeq T (·.setIfInBounds k x)) Q E s:=by
  refine wpAny_updateSeq (hz:=hs) (_hz':=by simpa using Nat.le_succ_of_le hs) hT rfl (h _ (by rw[Heap.get?_update_self _ hT rfl];simp[Obj.mapSeq]) (Heap.SameBut.update ..))
end
section
variable {X:Cx} {pins:List (Addr×Obj)} {σ:St} {H:Hp} {s:Shared}
theorem _root_.L2.Inv.fp {b:Addr} {h':Heap} (I:Inv X pins σ H s) (f:FpOk X pins H b) (sb:Heap.SameBut b s.heap h'):Inv X pins σ H {s with heap:=h'}:=
  I.turned (t':=s.toks) (fun c o hc e=>(sb.2 c hc).trans e) f.1 f.2.1 f.2.2.2.1 f.2.2.2.2.1 f.2.2.2.2.2
theorem _root_.L2.Inv.fpE {b:Addr} {h':Heap} (I:Inv X pins σ H s) (f:FpOk X pins H b) (sb:Heap.ExtBut b s.heap h'):Inv X pins σ H {s with heap:=h'}:=
  I.turned (t':=s.toks) (fun c o hc e=>sb c o hc e) f.1 f.2.1 f.2.2.2.1 f.2.2.2.2.1 f.2.2.2.2.2
theorem _root_.L2.FpOk.upd {b p:Addr} {o:HO} (f:FpOk X pins H b) (n:b≠p):FpOk X pins (L2.upd H p o) b:=⟨by rw[upd_ne n];exact f.1,f.2⟩
theorem _root_.L2.Inv.sq {t:Bool} {l:Addr} {xs:List V} (I:Inv X pins σ H s) (q:Sq t X.K H l xs):∃its:List Value,Vals xs its∧m9 t s.heap l its.toArray:=by
  cases t with
  |true=>obtain⟨its,r,p,_⟩:=I.tuple q;exact⟨its,r,p⟩
  |false=>obtain⟨its,r,p,_⟩:=I.list q;exact⟨its,r,p.isList⟩
theorem _root_.L2.Inv.Bx {t:Bool} {l:Addr} {xs ys:List V} (I:Inv X pins σ H s) (q:Sq t X.K H l xs) (r:Sq t X.K H l ys):xs=ys:=by
  cases t with
  |true=>exact I.tuple_inj q r
  |false=>exact I.list_inj q r
end
end Pu
namespace Pu
open PySem PySem.Spec L2
open PyProof.Rows hiding St
noncomputable abbrev jQ (h:Heap) (T:Addr) (arr:Array Value):Prop:=h.get? T=some {cls:= .type "tuple",data:= .seq arr}
structure Z2 (h:Heap) (z TI TO i1 i2:Addr) (t1 t2:Bool) (l1 l2:Addr) (k:Nat):Prop where
  z:IsZip h z TI TO .none
  ti:jQ h TI #[.ref i1,.ref i2]
  to:∃a b,jQ h TO #[a,b]
  s1:m8 t1 h i1 l1 k
  s2:m8 t2 h i2 l2 k
structure Z3 (h:Heap) (z TI TO i1 i2 i3:Addr) (t1 t2 t3:Bool) (l1 l2 l3:Addr) (k:Nat):Prop where
  z:IsZip h z TI TO .none
  ti:jQ h TI #[.ref i1,.ref i2,.ref i3]
  to:∃a b c,jQ h TO #[a,b,c]
  s1:m8 t1 h i1 l1 k
  s2:m8 t2 h i2 l2 k
  s3:m8 t3 h i3 l3 k
noncomputable def aiW (K:PySem.W.Frag) (t1:Bool) (l1:Addr) (t2:Bool) (l2:Addr):It:=
  ⟨fun i H=>∃xs ys x y,Sq t1 K H l1 xs∧xs[i]?=some x∧Sq t2 K H l2 ys∧ys[i]?=some y,
   fun i H v H'=>∃p x y,H p=none∧v= .ref p∧H'=upd H p (.tup [x,y])∧(∀xs,Sq t1 K H l1 xs→xs[i]?=some x)∧∀ys,Sq t2 K H l2 ys→ys[i]?=some y,
   fun i H=>∃xs ys,Sq t1 K H l1 xs∧Sq t2 K H l2 ys∧(xs.length≤i∨ys.length≤i)⟩
noncomputable def aiX (K:PySem.W.Frag) (t1:Bool) (l1:Addr) (t2:Bool) (l2:Addr) (t3:Bool) (l3:Addr):It:=
  ⟨fun i H=>∃xs ys zs x y z,Sq t1 K H l1 xs∧xs[i]?=some x∧Sq t2 K H l2 ys∧ys[i]?=some y∧Sq t3 K H l3 zs∧zs[i]?=some z,
   fun i H v H'=>∃p x y z,H p=none∧v= .ref p∧H'=upd H p (.tup [x,y,z])∧(∀xs,Sq t1 K H l1 xs→xs[i]?=some x)∧(∀ys,Sq t2 K H l2 ys→ys[i]?=some y)∧∀zs,Sq t3 K H l3 zs→zs[i]?=some z,
   fun i H=>∃xs ys zs,Sq t1 K H l1 xs∧Sq t2 K H l2 ys∧Sq t3 K H l3 zs∧(xs.length≤i∨ys.length≤i∨zs.length≤i)⟩
section
variable {X:Cx} {pins:List (Addr×Obj)} {σ:St} {H:Hp} {s:Shared} {A':Around} {E:Value→Shared→Prop}
theorem agS:2≤sizeLine:=Nat.le_trans (by decide) (Nat.le_of_lt jz)
theorem aiY:3≤sizeLine:=Nat.le_trans (by decide) (Nat.le_of_lt jz)
theorem agT {z TI TO i1 i2 l1 l2:Addr} {t1 t2:Bool} {k:Nat} {xs ys:List V} {x y:V} {Q:Value→Shared→Prop} (I:Inv X pins σ H s)
    (fz:FpOk X pins H z) (fO:FpOk X pins H TO) (f1:FpOk X pins H i1) (f2:FpOk X pins H i2)
    (n1:TI≠z) (n2:TO≠z) (n3:i1≠z) (n4:i2≠z) (n5:TI≠TO) (n6:TI≠i1) (n7:TI≠i2) (n8:TO≠i1) (n9:TO≠i2) (n10:i1≠i2)
    (st:Z2 s.heap z TI TO i1 i2 t1 t2 l1 l2 k) (q1:Sq t1 X.K H l1 xs) (e1:xs[k]?=some x) (q2:Sq t2 X.K H l2 ys) (e2:ys[k]?=some y)
    (hQ:∀h',Inv X pins σ (upd H s.heap.objs.size (.tup [x,y])) {s with heap:=h'}→IsZip h' z TI TO (rawInt s.heap.objs.size)→jQ h' TI #[.ref i1,.ref i2]→(∃a b,jQ h' TO #[a,b])→
      m8 t1 h' i1 l1 (k+1)→m8 t2 h' i2 l2 (k+1)→Q (.ref s.heap.objs.size) {s with heap:=h'}):
    wpAny (model X.prog X.w) A' (Builtin.«zip.__next__» ⟨[.ref z],[]⟩) (fun fin s'=>∃v,fin= .done (.ret v)∧Q v s') E s:=by
  obtain⟨hz,hTI,⟨a,b,hTO⟩,h1,h2⟩:=st
  show wpAny _ _ (field (.ref z) 2 >>=_) _ _ _;refine wpAny_bind (wpAny_field hz rfl (x:= .bool false) rfl ?_)
  show wpAny _ _ (field (.ref z) 3 >>=_) _ _ _;refine wpAny_bind (wpAny_field hz rfl (x:= .ref TI) rfl ?_)
  refine wpAny_bind (wpAny_seqItems hTI rfl ?_)
  show wpAny _ _ (Builtin.SmallTypes.ownedTupleIsFree (.ref z) >>=_) _ _ _;refine wpAny_bind ?_
  unfold Builtin.SmallTypes.ownedTupleIsFree
  refine wpAny_bind (wpAny_field hz rfl (x:= .none) rfl (wpAny_pure ?_));simp only[if_true]
  refine wpAny_bind (wpAny_rule (wpAny_bind (wpAny_field hz rfl (x:= .ref TO) rfl ?_)))
  refine wpAny_bind (wpAny_setField_rec hz (by simp) fun g1 z1 b1=>?_)
  replace z1:IsZip g1 z TI TO .ellipsis:=z1
  have I1:=I.fp fz b1
  refine wpAny_bind ?_
  simp only[List.zipIdx_cons,List.zipIdx_nil,List.forIn_cons,List.forIn_nil]
  obtain⟨us,r1,p1⟩:=I1.sq q1
  obtain⟨u,hu,ru⟩:=r1.get e1
  refine wpAny_bind (wpAny_bind (wpAny_onRaise ?_));show wpAny _ _ (Builtin.SmallTypes.nextOf (.ref i1) >>=_) _ _ _
  refine wpAny_bind (wA (h1.of fun o e=>b1.extBut _ _ n3 e) p1 (v:=u) (by simpa using hu) fun g2 s12 b2=>wpAny_pure ?_)
  have I2:=I1.fp f1 b2
  have o2:jQ g2 TO #[a,b]:=b2.extBut _ _ n8 (b1.extBut _ _ n2 hTO)
  refine wpAny_bind (wpAny_seqItems o2 rfl (wpAny_bind (uR o2 fun g3 o3 b3=>wpAny_bind (wpAny_letGo (wpAny_pure ?_)))))
  replace o3:jQ g3 TO #[u,b]:=o3
  have I3:=I2.fp fO b3
  obtain⟨vs,r2,p2⟩:=I3.sq q2
  obtain⟨v,hv,rv⟩:=r2.get e2
  refine wpAny_bind (wpAny_bind (wpAny_onRaise ?_));show wpAny _ _ (Builtin.SmallTypes.nextOf (.ref i2) >>=_) _ _ _
  refine wpAny_bind (wA (h2.of fun o e=>b3.extBut _ _ (Ne.symm n9) (b2.extBut _ _ (Ne.symm n10) (b1.extBut _ _ n4 e))) p2 (v:=v) (by simpa using hv) fun g4 s24 b4=>wpAny_pure ?_)
  have I4:=I3.fp f2 b4
  have o4:jQ g4 TO #[u,b]:=b4.extBut _ _ n9 o3
  refine wpAny_bind (wpAny_seqItems o4 rfl (wpAny_bind (uR o4 fun g5 o5 b5=>wpAny_bind (wpAny_letGo (wpAny_pure (wpAny_pure ?_))))))
  replace o5:jQ g5 TO #[u,v]:=o5
  have I5:=I4.fp fO b5
  refine wpAny_bind (wpAny_seqItems o5 rfl (wpAny_bind (wpAny_newTuple ?_)))
  have sz:g5.objs.size=s.heap.objs.size:=by rw[b5.1,b4.1,b3.1,b2.1,b1.1]
  have I6:Inv X pins σ (upd H g5.objs.size (.tup [x,y])) {s with heap:=g5.push {cls:= .type "tuple",data:= .seq #[u,v]}}:=
    I5.laid (t':=s.toks) (fun b u e=>Heap.get?_push_of_some _ e) (Nat.le_refl _) ⟨agS,[u,v],.cons ru (.cons rv .nil),⟨_,Heap.get?_push_size _ rfl,rfl,_,rfl⟩⟩
  have z5:IsZip g5 z TI TO .ellipsis:=b5.extBut _ _ (Ne.symm n2) (b4.extBut _ _ (Ne.symm n4) (b3.extBut _ _ (Ne.symm n2) (b2.extBut _ _ (Ne.symm n3) z1)))
  have lt:∀{c o},g5.get? c=some o→c≠g5.objs.size:=fun e=>Nat.ne_of_lt (Heap.lt_size e)
  show wpAny _ _ (Builtin.SmallTypes.ownedTupleHandOut (.ref z) (.ref g5.objs.size) >>=_) _ _ _;refine wpAny_bind ?_
  unfold Builtin.SmallTypes.ownedTupleHandOut
  refine wpAny_bind (wpAny_setField_rec (Heap.get?_push_of_some _ z5) (by simp) fun g7 z7 b7=>?_)
  replace z7:IsZip g7 z TI TO (rawInt g5.objs.size):=z7
  have I7:=I6.fp (fz.upd (lt z5)) b7
  refine wpAny_setField_rec z7 (by simp) fun g8 z8 b8=>?_
  replace z8:IsZip g8 z TI TO (rawInt g5.objs.size):=z8
  have I8:=I7.fp (fz.upd (lt z5)) b8
  have up:∀c o,c≠z→g5.get? c=some o→g8.get? c=some o:=fun c o c1 e=>b8.extBut _ _ c1 (b7.extBut _ _ c1 (Heap.get?_push_of_some _ e))
  refine wpAny_pure ⟨_,rfl,?_⟩
  rw[sz] at I8 z8
  show Q (.ref g5.objs.size) _
  rw[sz]
  refine hQ g8 I8 z8 (up _ _ n1 (b5.extBut _ _ n5 (b4.extBut _ _ n7 (b3.extBut _ _ n5 (b2.extBut _ _ n6 (b1.extBut _ _ n1 hTI)))))) ⟨u,v,up _ _ n2 o5⟩ ?_ ?_
  · exact s12.of fun o e=>up _ _ n3 (b5.extBut _ _ (Ne.symm n8) (b4.extBut _ _ n10 (b3.extBut _ _ (Ne.symm n8) e)))
  · exact s24.of fun o e=>up _ _ n4 (b5.extBut _ _ (Ne.symm n9) e)
theorem aiZ {z TI TO i1 i2 l1 l2:Addr} {t1 t2:Bool} {k:Nat} {xs ys:List V} {Q:Fin→Shared→Prop} (hh:A'.handled=none) (I:Inv X pins σ H s)
    (fz:FpOk X pins H z) (fO:FpOk X pins H TO) (f1:FpOk X pins H i1) (f2:FpOk X pins H i2)
    (n1:TI≠z) (n2:TO≠z) (n3:i1≠z) (n4:i2≠z) (n5:TI≠TO) (n6:TI≠i1) (n7:TI≠i2) (n8:TO≠i1) (n9:TO≠i2) (n10:i1≠i2)
    (st:Z2 s.heap z TI TO i1 i2 t1 t2 l1 l2 k) (q1:Sq t1 X.K H l1 xs) (q2:Sq t2 X.K H l2 ys) (en:xs.length≤k∨ys.length≤k)
    (hE:∀h' e,Inv X pins σ H {s with heap:=h'}→(∃o,h'.get? e=some o∧o.cls= .type "StopIteration")→E (.ref e) {s with heap:=h'}):
    wpAny (model X.prog X.w) A' (Builtin.«zip.__next__» ⟨[.ref z],[]⟩) Q E s:=by
  obtain⟨hz,hTI,⟨a,b,hTO⟩,h1,h2⟩:=st
  show wpAny _ _ (field (.ref z) 2 >>=_) _ _ _;refine wpAny_bind (wpAny_field hz rfl (x:= .bool false) rfl ?_)
  show wpAny _ _ (field (.ref z) 3 >>=_) _ _ _;refine wpAny_bind (wpAny_field hz rfl (x:= .ref TI) rfl ?_)
  refine wpAny_bind (wpAny_seqItems hTI rfl ?_)
  show wpAny _ _ (Builtin.SmallTypes.ownedTupleIsFree (.ref z) >>=_) _ _ _;refine wpAny_bind ?_
  unfold Builtin.SmallTypes.ownedTupleIsFree
  refine wpAny_bind (wpAny_field hz rfl (x:= .none) rfl (wpAny_pure ?_));simp only[if_true]
  refine wpAny_bind (wpAny_rule (wpAny_bind (wpAny_field hz rfl (x:= .ref TO) rfl ?_)))
  refine wpAny_bind (wpAny_setField_rec hz (by simp) fun g1 z1 b1=>?_)
  replace z1:IsZip g1 z TI TO .ellipsis:=z1
  have I1:=I.fp fz b1
  refine wpAny_bind ?_
  simp only[List.zipIdx_cons,List.zipIdx_nil,List.forIn_cons,List.forIn_nil]
  obtain⟨us,r1,p1⟩:=I1.sq q1
  have leave:∀{g g':Heap} {e:Addr} {c:Addr},Inv X pins σ H {s with heap:=g}→IsZip g z TI TO .ellipsis→FpOk X pins H c→c≠z→Heap.ExtBut c g g'→(∃o,g'.get? e=some o∧o.cls= .type "StopIteration")→
      wpAny (model X.prog X.w) A' (setField (.ref z) 0 .none) (fun _ s'=>E (.ref e) s') E {s with heap:=g'}:=fun {g g' e c} Ig zg fc nc eb ⟨oe,hoe,hce⟩=>by
    have zg':IsZip g' z TI TO .ellipsis:=eb _ _ (Ne.symm nc) zg
    have hez:e≠z:=fun q=>by subst q;rw[zg'] at hoe;cases hoe;simp at hce
    have Ig':Inv X pins σ H {s with heap:=g'}:=Ig.fpE fc eb
    exact wpAny_setField_rec zg' (by simp) fun g'' _ b''=>hE g'' e (Ig'.fp fz b'') ⟨oe,b''.extBut _ _ hez hoe,hce⟩
  refine wpAny_bind (wpAny_bind (wpAny_onRaise ?_));show wpAny _ _ (Builtin.SmallTypes.nextOf (.ref i1) >>=_) _ _ _
  have h1':=h1.of (h':=g1) fun o e=>b1.extBut _ _ n3 e
  by_cases hx:xs.length≤k
  · exact wpAny_bind (sZ hh h1' p1 (by have:=r1.length;simp;omega) fun g2 e eb ex=>leave I1 z1 f1 n3 eb ex)
  · have hy:ys.length≤k:=by rcases en with h |h;exact absurd h hx;exact h
    obtain⟨u,hu,ru⟩:=r1.get (i:=k) (x:=xs[k]'(by omega)) (List.getElem?_eq_getElem (by omega))
    refine wpAny_bind (wA h1' p1 (v:=u) (by simpa using hu) fun g2 s12 b2=>wpAny_pure ?_)
    have I2:=I1.fp f1 b2
    have o2:jQ g2 TO #[a,b]:=b2.extBut _ _ n8 (b1.extBut _ _ n2 hTO)
    refine wpAny_bind (wpAny_seqItems o2 rfl (wpAny_bind (uR o2 fun g3 o3 b3=>wpAny_bind (wpAny_letGo (wpAny_pure ?_)))))
    have I3:=I2.fp fO b3
    obtain⟨vs,r2,p2⟩:=I3.sq q2
    have z3:IsZip g3 z TI TO .ellipsis:=b3.extBut _ _ (Ne.symm n2) (b2.extBut _ _ (Ne.symm n3) z1)
    refine wpAny_bind (wpAny_bind (wpAny_onRaise ?_));show wpAny _ _ (Builtin.SmallTypes.nextOf (.ref i2) >>=_) _ _ _
    exact wpAny_bind (sZ hh (h2.of fun o e=>b3.extBut _ _ (Ne.symm n9) (b2.extBut _ _ (Ne.symm n10) (b1.extBut _ _ n4 e))) p2 (by have:=r2.length;simp;omega) fun g4 e eb ex=>leave I3 z3 f2 n4 eb ex)
end
theorem agU {P:Program} {w:World} {K:PySem.W.Frag} {wk:List Expr} {kk} {pp:Pos} {z TI TO i1 i2 l1 l2:Addr} {t1 t2:Bool}
    (n1:TI≠z) (n2:TO≠z) (n3:i1≠z) (n4:i2≠z) (n5:TI≠TO) (n6:TI≠i1) (n7:TI≠i2) (n8:TO≠i1) (n9:TO≠i2) (n10:i1≠i2):
    Turn P w K (.Tuple wk kk pp) (aiW K t1 l1 t2 l2) [z,TI,TO,i1,i2] z (fun i h=>Z2 h z TI TO i1 i2 t1 t2 l1 l2 i) where
  mem:=by simp
  obj:=fun i h st b hb=>by
    obtain⟨hz,hTI,⟨x,y,hTO⟩,h1,h2⟩:=st
    simp only[List.mem_cons,List.not_mem_nil,or_false] at hb
    rcases hb with rfl |rfl |rfl |rfl |rfl
    · exact⟨_,hz,fun v q=>by have q':Data.fields _=Data.cell v:=q;cases q'⟩
    · exact⟨_,hTI,fun v q=>by have q':Data.seq _=Data.cell v:=q;cases q'⟩
    · exact⟨_,hTO,fun v q=>by have q':Data.seq _=Data.cell v:=q;cases q'⟩
    · exact h1.obj
    · exact h2.obj
  keep:=fun i h h' st k=>by
    obtain⟨hz,hTI,⟨x,y,hTO⟩,h1,h2⟩:=st
    exact⟨k _ (by simp) _ hz,k _ (by simp) _ hTI,⟨x,y,k _ (by simp) _ hTO⟩,h1.of fun o e=>k _ (by simp) o e,h2.of fun o e=>k _ (by simp) o e⟩
  item :=by
    intro X hP hw hK hc i pins s σ H E I hf st hg
    subst hP hw hK
    obtain⟨xs,ys,x,y,q1,e1,q2,e2⟩:=hg
    have hT:s.TypeIs (.ref z) "zip" :=⟨_,st.z,rfl⟩
    unfold pyNext
    refine wpAny_bind (wpAny_attempt (wpAny_callSpecial?_slot (name:=Str.ofString "__next__") hT F.slot_zip_next (wpAny_call_entry F.slot_zip_next hT F.entry_zip_next
      (agT I (hf z (by simp)) (hf TO (by simp)) (hf i1 (by simp)) (hf i2 (by simp)) n1 n2 n3 n4 n5 n6 n7 n8 n9 n10 st q1 e1 q2 e2 fun h' I' z' ti' Yt s1' s2'=>wpAny_pure ⟨_,rfl,?_⟩) (F.args_zip_next_1 _))))
    have hp:H s.heap.objs.size=none:=I.hok.fresh (Nat.le_refl _)
    have nz:∀b,b∈[z,TI,TO,i1,i2]→b≠s.heap.objs.size:=fun b hb q=>by
      obtain⟨o,e,_⟩:∃o,s.heap.get? b=some o∧True:=by
        obtain⟨hz,hTI,⟨x,y,hTO⟩,h1,h2⟩:=st
        simp only[List.mem_cons,List.not_mem_nil,or_false] at hb
        rcases hb with rfl |rfl |rfl |rfl |rfl
        · exact⟨_,hz,trivial⟩
        · exact⟨_,hTI,trivial⟩
        · exact⟨_,hTO,trivial⟩
        · obtain⟨o,e,_⟩:=h1.obj;exact⟨o,e,trivial⟩
        · obtain⟨o,e,_⟩:=h2.obj;exact⟨o,e,trivial⟩
      exact absurd (Heap.lt_size e) (by rw[q];exact Nat.lt_irrefl _)
    refine wpAny_letOwnedTupleGo_zip z' fun h'' z'' b''=>⟨.ref s.heap.objs.size,upd H s.heap.objs.size (.tup [x,y]),I'.fp ((hf z (by simp)).upd (nz z (by simp))) b'',rfl,⟨_,x,y,hp,rfl,rfl,fun xs' q=>by rw[I.Bx q q1];exact e1,fun ys' q=>by rw[I.Bx q q2];exact e2⟩,?_,fun b hb=>?_⟩
    · obtain⟨a,b,Yt⟩:=Yt
      exact⟨z'',b''.extBut _ _ n1 ti',⟨a,b,b''.extBut _ _ n2 Yt⟩,s1'.of fun o e=>b''.extBut _ _ n3 e,s2'.of fun o e=>b''.extBut _ _ n4 e⟩
    · rw[upd_ne (nz b hb)];exact (hf b hb).1
  done:=by
    intro X hP hw hK hc i pins s σ H E I hf st hg
    subst hP hw hK
    obtain⟨xs,ys,q1,q2,en⟩:=hg
    have hT:s.TypeIs (.ref z) "zip" :=⟨_,st.z,rfl⟩
    unfold pyNext
    refine wpAny_bind (wpAny_attempt (wpAny_callSpecial?_slot (name:=Str.ofString "__next__") hT F.slot_zip_next (wpAny_call_entry F.slot_zip_next hT F.entry_zip_next
      (aiZ (I.ok.hd hc) I (hf z (by simp)) (hf TO (by simp)) (hf i1 (by simp)) (hf i2 (by simp)) n1 n2 n3 n4 n5 n6 n7 n8 n9 n10 st q1 q2 en fun h' e I' ex=>?_) (F.args_zip_next_1 _))))
    obtain⟨o,ho,ec⟩:=ex
    exact wpAny_bind (wpAny_isInstance (T:= "StopIteration") (b:=true) ⟨o,ho,ec⟩ isSubtype_stop (wpAny_pure ⟨rfl,I'⟩))
  self:=fun _ _ _ _ _ st h=>wpAny_pyIter_zip st.z h
end Pu
namespace Pu
open PySem PySem.Spec L2
open PyProof.Rows hiding St
noncomputable abbrev itR (t:Bool) (l:Addr):Obj:={cls:= .type (itC t),data:= .fields #[.ref l,.int 0 0]}
noncomputable abbrev zA1 (h:Heap) (t1:Bool) (l1:Addr):Heap:=h.push (itR t1 l1)
noncomputable abbrev zA2 (h:Heap) (t1:Bool) (l1:Addr) (t2:Bool) (l2:Addr):Heap:=(zA1 h t1 l1).push (itR t2 l2)
noncomputable abbrev zA3 (h:Heap) (t1:Bool) (l1:Addr) (t2:Bool) (l2:Addr):Heap:=(zA2 h t1 l1 t2 l2).push {cls:= .type "tuple",data:= .seq #[.ref h.objs.size,.ref (zA1 h t1 l1).objs.size]}
noncomputable abbrev zA4 (h:Heap) (t1:Bool) (l1:Addr) (t2:Bool) (l2:Addr):Heap:=(zA3 h t1 l1 t2 l2).push {cls:= .type "tuple",data:= .seq #[.none,.none]}
noncomputable abbrev zA5 (h:Heap) (t1:Bool) (l1:Addr) (t2:Bool) (l2:Addr):Heap:=(zA4 h t1 l1 t2 l2).push {cls:= .type "zip",data:= .fields #[.none,.bool false,.bool false,.ref (zA2 h t1 l1 t2 l2).objs.size,.ref (zA3 h t1 l1 t2 l2).objs.size]}
theorem ad4 (t1:Bool) (l1:Addr) (t2:Bool) (l2:Addr) (xs ys:Array Value):Meets (Builtin.«zip.__new__» ⟨[.type "zip",.ref l1,.ref l2],[]⟩)
    (fun _ R s=>m9 t1 s.heap l1 xs∧m9 t2 s.heap l2 ys∧R (.ok (.ret (.ref (zA4 s.heap t1 l1 t2 l2).objs.size))) {s with heap:=zA5 s.heap t1 l1 t2 l2}):=
  .of_wp fun prog w A R s h=>by
    obtain⟨hp,g,d,tk,os⟩:=s
    obtain⟨k1,k2,h⟩:=h
    have hsub:=sub_zip
    have L1:m9 t1 (Shared.heap ⟨hp,g,d,tk,os⟩) l1 xs:=k1
    have L2:m9 t2 (Shared.heap ⟨zA1 hp t1 l1,g,d,tk,os⟩) l2 ys:=k2.of fun o e=>Heap.get?_push_of_some _ e
    wp_walk using zN L1,zN L2
    exact⟨_,rfl,h⟩
section
variable {prog:Program} {w:World} {A:Around} {E:Value→Shared→Prop} {s:Shared}
theorem agV {t1 t2:Bool} {l1 l2:Addr} {xs ys:Array Value} {Q:Value→Shared→Prop} (k1:m9 t1 s.heap l1 xs) (k2:m9 t2 s.heap l2 ys)
    (h:∀h',Z2 h' (s.heap.objs.size+4) (s.heap.objs.size+2) (s.heap.objs.size+3) s.heap.objs.size (s.heap.objs.size+1) t1 t2 l1 l2 0→(∀c o,s.heap.get? c=some o→h'.get? c=some o)→Q (.ref (s.heap.objs.size+4)) {s with heap:=h'}):
    wpAny (model prog w) A (call (.type "zip") [.ref l1,.ref l2]) Q E s:=by
  refine callType_new F.called_zip (by decide) (F.typeCall_zip_2 _ _) (F.newCall_zip_2 _ _) (fun obj=>F.args_object_init_3 obj _ _) F.entry_zip_new (ad4 t1 l1 t2 l2 xs ys) ⟨k1,k2,?_⟩
  have z1:(zA1 s.heap t1 l1).objs.size=s.heap.objs.size+1:=Heap.size_push ..
  have z2:(zA2 s.heap t1 l1 t2 l2).objs.size=s.heap.objs.size+2:=by rw[Heap.size_push,z1]
  have z3:(zA3 s.heap t1 l1 t2 l2).objs.size=s.heap.objs.size+3:=by rw[Heap.size_push,z2]
  have z4:(zA4 s.heap t1 l1 t2 l2).objs.size=s.heap.objs.size+4:=by rw[Heap.size_push,z3]
  have a5:(zA5 s.heap t1 l1 t2 l2).get? (zA4 s.heap t1 l1 t2 l2).objs.size=some _:=Heap.get?_push_size _ rfl
  have a4:(zA5 s.heap t1 l1 t2 l2).get? (zA3 s.heap t1 l1 t2 l2).objs.size=some _:=Heap.get?_push_of_some _ (Heap.get?_push_size _ rfl)
  have a3:(zA5 s.heap t1 l1 t2 l2).get? (zA2 s.heap t1 l1 t2 l2).objs.size=some _:=Heap.get?_push_of_some _ (Heap.get?_push_of_some _ (Heap.get?_push_size _ rfl))
  have a2:(zA5 s.heap t1 l1 t2 l2).get? (zA1 s.heap t1 l1).objs.size=some (itR t2 l2):=Heap.get?_push_of_some _ (Heap.get?_push_of_some _ (Heap.get?_push_of_some _ (Heap.get?_push_size _ rfl)))
  have a1:(zA5 s.heap t1 l1 t2 l2).get? s.heap.objs.size=some (itR t1 l1):=Heap.get?_push_of_some _ (Heap.get?_push_of_some _ (Heap.get?_push_of_some _ (Heap.get?_push_of_some _ (Heap.get?_push_size _ rfl))))
  show _∧_
  rw[z2,z3,z4] at a5
  rw[z1,z2] at a3
  rw[z3] at a4
  rw[z1] at a2
  rw[z4]
  exact⟨⟨_,a5,rfl⟩,h _ ⟨a5,a3,⟨_,_,a4⟩,.new a1,.new a2⟩ fun c o e=>Heap.get?_push_of_some _ (Heap.get?_push_of_some _ (Heap.get?_push_of_some _ (Heap.get?_push_of_some _ (Heap.get?_push_of_some _ e))))⟩
end
theorem agW:bootBuiltins "zip" =some (.type "zip"):=by decide +kernel
section
variable {X:Cx} {wk:List Expr} {kk:Nat} {pp:Pos} {a b:Expr} {p pos:Pos}
noncomputable def am4 (K:PySem.W.Frag) (ta:TA):TI:=fun σ H R=>ta σ H fun vs H1=>∃t1 l1 t2 l2,vs=[.ref l1,.ref l2]∧(∃xs,Sq t1 K H1 l1 xs)∧(∃ys,Sq t2 K H1 l2 ys)∧R (aiW K t1 l1 t2 l2) H1
theorem akv {ta:TA} (hg:Gl X "zip") (hm:X.mg "zip" =none) (ha:PA X [a,b] ta) (he:starEach [a,b] X.env=(false,eval a X.env)::starEach [b] X.env:=by rfl) (hpl:(backTo pos (starEach [b] X.env)).any (·.1)=false:=by rfl):
    PI X (.Tuple wk kk pp) (.Call (.Name "zip" p) [a,b] [] pos) (am4 X.K ta):=by
  intro pins s σ H R I h
  refine Call_ (ld_blt I hg hm agW (PyProof.Rows.callWith_type1 (thn (ha pos pins s σ H _ I h) fun us s1 ⟨vs,H1,I1,r1,q1⟩=>?_) he hpl))
  obtain⟨t1,l1,t2,l2,e,⟨xs,w1⟩,⟨ys,w2⟩,q⟩:=q1
  subst e
  cases r1 with
  | cons r rr=>
    cases rr with
    | cons r' rr=>
      cases rr
      cases r
      cases r'
      obtain⟨vs1,_,p1⟩:=I1.sq w1
      obtain⟨vs2,_,p2⟩:=I1.sq w2
      refine agV p1 p2 fun h' st k=>wpAny_pyIter_zip st.z ⟨s1.heap.objs.size+4,[s1.heap.objs.size+4,s1.heap.objs.size+2,s1.heap.objs.size+3,s1.heap.objs.size,s1.heap.objs.size+1],_,_,H1,rfl,I1.kept (t':=s1.toks) k,agU ?_ ?_ ?_ ?_ ?_ ?_ ?_ ?_ ?_ ?_,st,fun c hc=>(by
        have hle:s1.heap.objs.size≤c:=by
          simp only[List.mem_cons,List.not_mem_nil,or_false] at hc
          rcases hc with rfl |rfl |rfl |rfl |rfl <;> first |exact Nat.le_refl _ |exact Nat.le_add_right _ _
        exact I1.fpOk hle (I1.hok.fresh hle)),q⟩
      all_goals (show @Ne Nat _ _;omega)
end
noncomputable def Rn (xs ys:List D):List D:=(xs.zip ys).map fun p=> .tup [p.1,p.2]
noncomputable def KY (xs ys zs:List D):List D:=(xs.zip (ys.zip zs)).map fun p=> .tup [p.1,p.2.1,p.2.2]
noncomputable def zip2:List D→R (List D)
  |[x,y]=>(dR x).bind fun xs=>(dR y).bind fun ys=> .ok (Rn xs ys)
  |_=> .bad
noncomputable def Hi:List D→R (List D)
  |[x,y,z]=>(dR x).bind fun xs=>(dR y).bind fun ys=>(dR z).bind fun zs=> .ok (KY xs ys zs)
  |_=> .bad
section
variable {K:PySem.W.Frag} {O:Addr→Prop} {H:Hp}
structure Src (K:PySem.W.Frag) (O:Addr→Prop) (H:Hp) (t:Bool) (a:Addr) (ds:List D):Prop where
  ex:∃vs,Sq t K H a vs∧aQ K O H ds vs
  no:t=false→¬O a
theorem BJ {d:D} {v:V} {ds:List D} (r:Rep K O H d v) (h:dR d= .ok ds):∃t a,v= .ref a∧Src K O H t a ds:=by
  cases d with
  |tup es=>cases h;obtain⟨a,xs,rfl,q,rs⟩:=r.tup;exact⟨true,a,rfl,⟨xs,q,rs⟩,fun z=>by cases z⟩
  |lst es=>cases h;obtain⟨a,xs,rfl,q,n,rs⟩:=r.lst;exact⟨false,a,rfl,⟨xs,q,rs⟩,fun _=>n⟩
  |_=>cases h
theorem Src.go {O':Addr→Prop} {H':Hp} {t:Bool} {a:Addr} {ds:List D} (s:Src K O H t a ds) (q:iu K O H O' H'):∃vs,Sq t K H' a vs∧aQ K O' H' ds vs:=by
  obtain⟨vs,h,r⟩:=s.ex
  cases t with
  |true=>exact⟨vs,SqT.ext q.ext h,r.go q⟩
  |false=>exact⟨vs,SqL.ext q.ext (s.no rfl) h,r.go q⟩
theorem ai0 {xs ys:List D} {i:Nat} {d:D} (h:(Rn xs ys)[i]?=some d):∃x y,xs[i]?=some x∧ys[i]?=some y∧d= .tup [x,y]:=by
  unfold Rn at h
  rw[List.getElem?_map] at h
  cases e:(xs.zip ys)[i]? with
  |none=>rw[e] at h;cases h
  |some p=>rw[e] at h;cases h;obtain⟨h1,h2⟩:=List.getElem?_zip_eq_some.mp e;exact⟨_,_,h1,h2,rfl⟩
theorem YR.zip2 {t1 t2:Bool} {a1 a2:Addr} {xs ys:List D} (s1:Src K O H t1 a1 xs) (s2:Src K O H t2 a2 ys):YR K O H (aiW K t1 a1 t2 a2) (Rn xs ys):=by
  intro O' H' q i
  obtain⟨v1,q1,r1⟩:=s1.go q
  obtain⟨v2,q2,r2⟩:=s2.go q
  refine⟨fun d e=>?_,fun e=>⟨v1,v2,q1,q2,?_⟩⟩
  · obtain⟨x,y,e1,e2,rfl⟩:=ai0 e
    obtain⟨u1,g1,w1⟩:=r1.get e1
    obtain⟨u2,g2,w2⟩:=r2.get e2
    refine⟨⟨v1,v2,u1,u2,q1,g1,q2,g2⟩,fun x H2 y=>?_⟩
    obtain⟨p,x1,x2,hp,rfl,rfl,k1,k2⟩:=y
    have k1:=k1 _ q1
    have k2:=k2 _ q2
    rw[g1] at k1;cases k1
    rw[g2] at k2;cases k2
    exact⟨Same.upd hp,jG (SqT.of upd_same) ((aQ.cons w1 (.cons w2 .nil)).same (Same.upd hp))⟩
  · rw[←r1.length,←r2.length]
    simp only[Rn,List.length_map,List.length_zip] at e
    omega
end
section
variable {X:Cx} {wk:List Expr} {kk:Nat} {pp:Pos} {a b:Expr} {p pos:Pos} {fa:au→R (List D)}
theorem KZ (hg:Gl X "zip") (hm:X.mg "zip" =none) (ha:DA X [a,b] fa) (he:starEach [a,b] X.env=(false,eval a X.env)::starEach [b] X.env:=by rfl) (hpl:(backTo pos (starEach [b] X.env)).any (·.1)=false:=by rfl):
    DI X (.Tuple wk kk pp) (.Call (.Name "zip" p) [a,b] [] pos) (fun ρ=>(fa ρ).bind zip2):=by
  refine PI.imp (akv hg hm ha he hpl) fun σ H Q q=>?_
  obtain⟨ρ,O,j,q⟩:=q
  refine go j q fun ds vs H1 e1 s1 r1 j1 h1=>?_
  unfold zip2 at h1
  split at h1
  · rename_i x y
    obtain⟨v1,v2,rfl,w1,w2⟩:=r1.two
    cases ex:dR x with
    |bad=>rw[ex] at h1;exact h1.elim
    |err c=>rw[ex] at h1;cases x <;> cases ex
    | ok xs=>
      cases ey:dR y with
      |bad=>rw[ex,R.bx,ey] at h1;exact h1.elim
      |err c=>cases y <;> cases ey
      | ok ys=>
        rw[ex,R.bx,ey,R.bx] at h1
        obtain⟨t1,a1,rfl,c1⟩:=BJ w1 ex
        obtain⟨t2,a2,rfl,c2⟩:=BJ w2 ey
        obtain⟨vs1,k1,_⟩:=c1.ex
        obtain⟨vs2,k2,_⟩:=c2.ex
        exact⟨t1,a1,t2,a2,rfl,⟨vs1,k1⟩,⟨vs2,k2⟩,fin h1 (YR.zip2 c1 c2)⟩
  · exact h1.elim
end
end Pu
namespace Pu
open PySem PySem.Spec L2
open PyProof.Rows hiding St
section
variable {X:Cx} {pins:List (Addr×Obj)} {σ:St} {H:Hp} {s:Shared} {A':Around} {E:Value→Shared→Prop}
theorem agX {z TI TO i1 i2 i3 l1 l2 l3:Addr} {t1 t2 t3:Bool} {k:Nat} {xs1 xs2 Uk:List V} {x1 x2 x3:V} {Q:Value→Shared→Prop} (I:Inv X pins σ H s) (fz:FpOk X pins H z) (fO:FpOk X pins H TO) (f1:FpOk X pins H i1) (f2:FpOk X pins H i2) (f3:FpOk X pins H i3)
    (Yu:TI≠z) (zO:TO≠z) (Yv:TI≠TO) (Gk:i1≠z) (Hj:i2≠z) (Ld:i3≠z) (nT1:TI≠i1) (nT2:TI≠i2) (nT3:TI≠i3) (Oo:TO≠i1) (Le:TO≠i2) (Lf:TO≠i3) (n12:i1≠i2) (n13:i1≠i3) (n23:i2≠i3)
    (st:Z3 s.heap z TI TO i1 i2 i3 t1 t2 t3 l1 l2 l3 k) (q1:Sq t1 X.K H l1 xs1) (q2:Sq t2 X.K H l2 xs2) (q3:Sq t3 X.K H l3 Uk) (e1:xs1[k]?=some x1) (e2:xs2[k]?=some x2) (e3:Uk[k]?=some x3)
    (hQ:∀h',Inv X pins σ (upd H s.heap.objs.size (.tup [x1,x2,x3])) {s with heap:=h'}→IsZip h' z TI TO (rawInt s.heap.objs.size)→jQ h' TI #[.ref i1,.ref i2,.ref i3]→(∃a b c,jQ h' TO #[a,b,c])→
      m8 t1 h' i1 l1 (k+1)→m8 t2 h' i2 l2 (k+1)→m8 t3 h' i3 l3 (k+1)→Q (.ref s.heap.objs.size) {s with heap:=h'}):
    wpAny (model X.prog X.w) A' (Builtin.«zip.__next__» ⟨[.ref z],[]⟩) (fun fin s'=>∃v,fin= .done (.ret v)∧Q v s') E s:=by
  obtain⟨hz,hTI,⟨a1,a2,a3,hTO⟩,h1,h2,h3⟩:=st
  show wpAny _ _ (field (.ref z) 2 >>=_) _ _ _;refine wpAny_bind (wpAny_field hz rfl (x:= .bool false) rfl ?_)
  show wpAny _ _ (field (.ref z) 3 >>=_) _ _ _;refine wpAny_bind (wpAny_field hz rfl (x:= .ref TI) rfl ?_)
  refine wpAny_bind (wpAny_seqItems hTI rfl ?_)
  show wpAny _ _ (Builtin.SmallTypes.ownedTupleIsFree (.ref z) >>=_) _ _ _;refine wpAny_bind ?_
  unfold Builtin.SmallTypes.ownedTupleIsFree
  refine wpAny_bind (wpAny_field hz rfl (x:= .none) rfl (wpAny_pure ?_));simp only[if_true]
  refine wpAny_bind (wpAny_rule (wpAny_bind (wpAny_field hz rfl (x:= .ref TO) rfl ?_)))
  refine wpAny_bind (wpAny_setField_rec hz (by simp) fun c0 z0 b0=>?_)
  replace z0:IsZip c0 z TI TO .ellipsis:=z0
  have J0:=I.fp fz b0
  refine wpAny_bind ?_
  simp only[List.zipIdx_cons,List.zipIdx_nil,List.forIn_cons,List.forIn_nil]
  obtain⟨Yw,r1,p1⟩:=J0.sq q1
  obtain⟨u1,hu1,ru1⟩:=r1.get e1
  refine wpAny_bind (wpAny_bind (wpAny_onRaise ?_));show wpAny _ _ (Builtin.SmallTypes.nextOf (.ref i1) >>=_) _ _ _
  refine wpAny_bind (wA (h1.of fun o e=>(b0.extBut _ _ Gk e)) p1 (v:=u1) (by simpa using hu1) fun d1 sd1 zP=>wpAny_pure ?_)
  have Jd1:=J0.fp f1 zP
  have od1:jQ d1 TO #[a1,a2,a3]:=zP.extBut _ _ Oo (b0.extBut _ _ zO hTO)
  refine wpAny_bind (wpAny_seqItems od1 rfl (wpAny_bind (uR od1 fun c1 o1 BK=>wpAny_bind (wpAny_letGo (wpAny_pure ?_)))))
  replace o1:jQ c1 TO #[u1,a2,a3]:=o1
  have J1:=Jd1.fp fO BK
  obtain⟨us2,r2,p2⟩:=J1.sq q2
  obtain⟨u2,hu2,ru2⟩:=r2.get e2
  refine wpAny_bind (wpAny_bind (wpAny_onRaise ?_));show wpAny _ _ (Builtin.SmallTypes.nextOf (.ref i2) >>=_) _ _ _
  refine wpAny_bind (wA (h2.of fun o e=>(BK.extBut _ _ (Ne.symm Le) (zP.extBut _ _ (Ne.symm n12) (b0.extBut _ _ Hj e)))) p2 (v:=u2) (by simpa using hu2) fun d2 sd2 Gm=>wpAny_pure ?_)
  have Jd2:=J1.fp f2 Gm
  have od2:jQ d2 TO #[u1,a2,a3]:=Gm.extBut _ _ Le o1
  refine wpAny_bind (wpAny_seqItems od2 rfl (wpAny_bind (uR od2 fun c2 o2 Hl=>wpAny_bind (wpAny_letGo (wpAny_pure ?_)))))
  replace o2:jQ c2 TO #[u1,u2,a3]:=o2
  have J2:=Jd2.fp fO Hl
  obtain⟨us3,r3,p3⟩:=J2.sq q3
  obtain⟨u3,hu3,ru3⟩:=r3.get e3
  refine wpAny_bind (wpAny_bind (wpAny_onRaise ?_));show wpAny _ _ (Builtin.SmallTypes.nextOf (.ref i3) >>=_) _ _ _
  refine wpAny_bind (wA (h3.of fun o e=>(Hl.extBut _ _ (Ne.symm Lf) (Gm.extBut _ _ (Ne.symm n23) (BK.extBut _ _ (Ne.symm Lf) (zP.extBut _ _ (Ne.symm n13) (b0.extBut _ _ Ld e)))))) p3 (v:=u3) (by simpa using hu3) fun d3 sd3 Yx=>wpAny_pure ?_)
  have Jd3:=J2.fp f3 Yx
  have od3:jQ d3 TO #[u1,u2,a3]:=Yx.extBut _ _ Lf o2
  refine wpAny_bind (wpAny_seqItems od3 rfl (wpAny_bind (uR od3 fun c3 o3 Yy=>wpAny_bind (wpAny_letGo (wpAny_pure (wpAny_pure ?_))))))
  replace o3:jQ c3 TO #[u1,u2,u3]:=o3
  have J3:=Jd3.fp fO Yy
  refine wpAny_bind (wpAny_seqItems o3 rfl (wpAny_bind (wpAny_newTuple ?_)))
  have sz:c3.objs.size=s.heap.objs.size:=by rw[Yy.1,Yx.1,Hl.1,Gm.1,BK.1,zP.1,b0.1]
  have J7:Inv X pins σ (upd H c3.objs.size (.tup [x1,x2,x3])) {s with heap:=c3.push {cls:= .type "tuple",data:= .seq #[u1,u2,u3]}}:=
    J3.laid (t':=s.toks) (fun b u e=>Heap.get?_push_of_some _ e) (Nat.le_refl _) ⟨aiY,[u1,u2,u3],.cons ru1 (.cons ru2 (.cons ru3 .nil)),⟨_,Heap.get?_push_size _ rfl,rfl,_,rfl⟩⟩
  have zc:IsZip c3 z TI TO .ellipsis:=(Yy.extBut _ _ (Ne.symm zO) (Yx.extBut _ _ (Ne.symm Ld) (Hl.extBut _ _ (Ne.symm zO) (Gm.extBut _ _ (Ne.symm Hj) (BK.extBut _ _ (Ne.symm zO) (zP.extBut _ _ (Ne.symm Gk) z0))))))
  have lt:∀{b o},c3.get? b=some o→b≠c3.objs.size:=fun e=>Nat.ne_of_lt (Heap.lt_size e)
  show wpAny _ _ (Builtin.SmallTypes.ownedTupleHandOut (.ref z) (.ref c3.objs.size) >>=_) _ _ _;refine wpAny_bind ?_
  unfold Builtin.SmallTypes.ownedTupleHandOut
  refine wpAny_bind (wpAny_setField_rec (Heap.get?_push_of_some _ zc) (by simp) fun g7 z7 b7=>?_)
  replace z7:IsZip g7 z TI TO (rawInt c3.objs.size):=z7
  have J8:=J7.fp (fz.upd (lt zc)) b7
  refine wpAny_setField_rec z7 (by simp) fun g8 z8 b8=>?_
  replace z8:IsZip g8 z TI TO (rawInt c3.objs.size):=z8
  have J9:=J8.fp (fz.upd (lt zc)) b8
  have up:∀b o,b≠z→c3.get? b=some o→g8.get? b=some o:=fun b o nb e=>b8.extBut _ _ nb (b7.extBut _ _ nb (Heap.get?_push_of_some _ e))
  refine wpAny_pure ⟨_,rfl,?_⟩
  rw[sz] at J9 z8
  show Q (.ref c3.objs.size) _
  rw[sz]
  refine hQ g8 J9 z8 (up _ _ Yu (Yy.extBut _ _ Yv (Yx.extBut _ _ nT3 (Hl.extBut _ _ Yv (Gm.extBut _ _ nT2 (BK.extBut _ _ Yv (zP.extBut _ _ nT1 (b0.extBut _ _ Yu hTI)))))))) ⟨u1,u2,u3,up _ _ zO o3⟩ ?_ ?_ ?_
  · exact sd1.of fun o e=>up _ _ Gk (Yy.extBut _ _ (Ne.symm Oo) (Yx.extBut _ _ n13 (Hl.extBut _ _ (Ne.symm Oo) (Gm.extBut _ _ n12 (BK.extBut _ _ (Ne.symm Oo) e)))))
  · exact sd2.of fun o e=>up _ _ Hj (Yy.extBut _ _ (Ne.symm Le) (Yx.extBut _ _ n23 (Hl.extBut _ _ (Ne.symm Le) e)))
  · exact sd3.of fun o e=>up _ _ Ld (Yy.extBut _ _ (Ne.symm Lf) e)
theorem ai1 {z TI TO i1 i2 i3 l1 l2 l3:Addr} {t1 t2 t3:Bool} {k:Nat} {xs1 xs2 Uk:List V} {Q:Fin→Shared→Prop} (hh:A'.handled=none) (I:Inv X pins σ H s) (fz:FpOk X pins H z) (fO:FpOk X pins H TO) (f1:FpOk X pins H i1) (f2:FpOk X pins H i2) (f3:FpOk X pins H i3)
    (Yu:TI≠z) (zO:TO≠z) (Yv:TI≠TO) (Gk:i1≠z) (Hj:i2≠z) (Ld:i3≠z) (nT1:TI≠i1) (nT2:TI≠i2) (nT3:TI≠i3) (Oo:TO≠i1) (Le:TO≠i2) (Lf:TO≠i3) (n12:i1≠i2) (n13:i1≠i3) (n23:i2≠i3)
    (st:Z3 s.heap z TI TO i1 i2 i3 t1 t2 t3 l1 l2 l3 k) (q1:Sq t1 X.K H l1 xs1) (q2:Sq t2 X.K H l2 xs2) (q3:Sq t3 X.K H l3 Uk) (en:xs1.length≤k∨xs2.length≤k∨Uk.length≤k)
    (hE:∀h' e,Inv X pins σ H {s with heap:=h'}→(∃o,h'.get? e=some o∧o.cls= .type "StopIteration")→E (.ref e) {s with heap:=h'}):
    wpAny (model X.prog X.w) A' (Builtin.«zip.__next__» ⟨[.ref z],[]⟩) Q E s:=by
  obtain⟨hz,hTI,⟨a1,a2,a3,hTO⟩,h1,h2,h3⟩:=st
  show wpAny _ _ (field (.ref z) 2 >>=_) _ _ _;refine wpAny_bind (wpAny_field hz rfl (x:= .bool false) rfl ?_)
  show wpAny _ _ (field (.ref z) 3 >>=_) _ _ _;refine wpAny_bind (wpAny_field hz rfl (x:= .ref TI) rfl ?_)
  refine wpAny_bind (wpAny_seqItems hTI rfl ?_)
  show wpAny _ _ (Builtin.SmallTypes.ownedTupleIsFree (.ref z) >>=_) _ _ _;refine wpAny_bind ?_
  unfold Builtin.SmallTypes.ownedTupleIsFree
  refine wpAny_bind (wpAny_field hz rfl (x:= .none) rfl (wpAny_pure ?_));simp only[if_true]
  refine wpAny_bind (wpAny_rule (wpAny_bind (wpAny_field hz rfl (x:= .ref TO) rfl ?_)))
  refine wpAny_bind (wpAny_setField_rec hz (by simp) fun c0 z0 b0=>?_)
  replace z0:IsZip c0 z TI TO .ellipsis:=z0
  have J0:=I.fp fz b0
  refine wpAny_bind ?_
  simp only[List.zipIdx_cons,List.zipIdx_nil,List.forIn_cons,List.forIn_nil]
  have leave:∀{g g':Heap} {e:Addr} {c:Addr},Inv X pins σ H {s with heap:=g}→IsZip g z TI TO .ellipsis→FpOk X pins H c→c≠z→Heap.ExtBut c g g'→(∃o,g'.get? e=some o∧o.cls= .type "StopIteration")→
      wpAny (model X.prog X.w) A' (setField (.ref z) 0 .none) (fun _ s'=>E (.ref e) s') E {s with heap:=g'}:=fun {g g' e c} Ig zg fc nc eb ⟨oe,hoe,hce⟩=>by
    have zg':IsZip g' z TI TO .ellipsis:=eb _ _ (Ne.symm nc) zg
    have hez:e≠z:=fun q=>by subst q;rw[zg'] at hoe;cases hoe;simp at hce
    have Ig':Inv X pins σ H {s with heap:=g'}:=Ig.fpE fc eb
    exact wpAny_setField_rec zg' (by simp) fun g'' _ b''=>hE g'' e (Ig'.fp fz b'') ⟨oe,b''.extBut _ _ hez hoe,hce⟩
  obtain⟨Yw,r1,p1⟩:=J0.sq q1
  refine wpAny_bind (wpAny_bind (wpAny_onRaise ?_));show wpAny _ _ (Builtin.SmallTypes.nextOf (.ref i1) >>=_) _ _ _
  have h1':=h1.of (h':=c0) fun o e=>(b0.extBut _ _ Gk e)
  by_cases hx1:xs1.length≤k
  · exact wpAny_bind (sZ hh h1' p1 (by have:=r1.length;simp;omega) fun g e eb ex=>leave J0 z0 f1 Gk eb ex)
  · obtain⟨u1,hu1,ru1⟩:=r1.get (i:=k) (x:=xs1[k]'(by omega)) (List.getElem?_eq_getElem (by omega))
    refine wpAny_bind (wA h1' p1 (v:=u1) (by simpa using hu1) fun d1 sd1 zP=>wpAny_pure ?_)
    have Jd1:=J0.fp f1 zP
    have od1:jQ d1 TO #[a1,a2,a3]:=zP.extBut _ _ Oo (b0.extBut _ _ zO hTO)
    refine wpAny_bind (wpAny_seqItems od1 rfl (wpAny_bind (uR od1 fun c1 o1 BK=>wpAny_bind (wpAny_letGo (wpAny_pure ?_)))))
    replace o1:jQ c1 TO #[u1,a2,a3]:=o1
    have J1:=Jd1.fp fO BK
    obtain⟨us2,r2,p2⟩:=J1.sq q2
    refine wpAny_bind (wpAny_bind (wpAny_onRaise ?_));show wpAny _ _ (Builtin.SmallTypes.nextOf (.ref i2) >>=_) _ _ _
    have h2':=h2.of (h':=c1) fun o e=>(BK.extBut _ _ (Ne.symm Le) (zP.extBut _ _ (Ne.symm n12) (b0.extBut _ _ Hj e)))
    by_cases hx2:xs2.length≤k
    · exact wpAny_bind (sZ hh h2' p2 (by have:=r2.length;simp;omega) fun g e eb ex=>leave J1 (BK.extBut _ _ (Ne.symm zO) (zP.extBut _ _ (Ne.symm Gk) z0)) f2 Hj eb ex)
    · obtain⟨u2,hu2,ru2⟩:=r2.get (i:=k) (x:=xs2[k]'(by omega)) (List.getElem?_eq_getElem (by omega))
      refine wpAny_bind (wA h2' p2 (v:=u2) (by simpa using hu2) fun d2 sd2 Gm=>wpAny_pure ?_)
      have Jd2:=J1.fp f2 Gm
      have od2:jQ d2 TO #[u1,a2,a3]:=Gm.extBut _ _ Le o1
      refine wpAny_bind (wpAny_seqItems od2 rfl (wpAny_bind (uR od2 fun c2 o2 Hl=>wpAny_bind (wpAny_letGo (wpAny_pure ?_)))))
      replace o2:jQ c2 TO #[u1,u2,a3]:=o2
      have J2:=Jd2.fp fO Hl
      obtain⟨us3,r3,p3⟩:=J2.sq q3
      refine wpAny_bind (wpAny_bind (wpAny_onRaise ?_));show wpAny _ _ (Builtin.SmallTypes.nextOf (.ref i3) >>=_) _ _ _
      have h3':=h3.of (h':=c2) fun o e=>(Hl.extBut _ _ (Ne.symm Lf) (Gm.extBut _ _ (Ne.symm n23) (BK.extBut _ _ (Ne.symm Lf) (zP.extBut _ _ (Ne.symm n13) (b0.extBut _ _ Ld e)))))
      have hy3:Uk.length≤k:=by omega
      exact wpAny_bind (sZ hh h3' p3 (by have:=r3.length;simp;omega) fun g e eb ex=>leave J2 (Hl.extBut _ _ (Ne.symm zO) (Gm.extBut _ _ (Ne.symm Hj) (BK.extBut _ _ (Ne.symm zO) (zP.extBut _ _ (Ne.symm Gk) z0)))) f3 Ld eb ex)
end
theorem agY {P:Program} {w:World} {K:PySem.W.Frag} {wk:List Expr} {kk} {pp:Pos} {z TI TO i1 i2 i3 l1 l2 l3:Addr} {t1 t2 t3:Bool}
    (Yu:TI≠z) (zO:TO≠z) (Yv:TI≠TO) (Gk:i1≠z) (Hj:i2≠z) (Ld:i3≠z) (nT1:TI≠i1) (nT2:TI≠i2) (nT3:TI≠i3) (Oo:TO≠i1) (Le:TO≠i2) (Lf:TO≠i3) (n12:i1≠i2) (n13:i1≠i3) (n23:i2≠i3):
    Turn P w K (.Tuple wk kk pp) (aiX K t1 l1 t2 l2 t3 l3) [z,TI,TO,i1,i2,i3] z (fun i h=>Z3 h z TI TO i1 i2 i3 t1 t2 t3 l1 l2 l3 i) where
  mem:=by simp
  obj:=fun i h st b hb=>by
    obtain⟨hz,hTI,⟨x,y,v,hTO⟩,h1,h2,h3⟩:=st
    simp only[List.mem_cons,List.not_mem_nil,or_false] at hb
    rcases hb with rfl |rfl |rfl |rfl |rfl |rfl
    · exact⟨_,hz,fun v q=>by have q':Data.fields _=Data.cell v:=q;cases q'⟩
    · exact⟨_,hTI,fun v q=>by have q':Data.seq _=Data.cell v:=q;cases q'⟩
    · exact⟨_,hTO,fun v q=>by have q':Data.seq _=Data.cell v:=q;cases q'⟩
    · exact h1.obj
    · exact h2.obj
    · exact h3.obj
  keep:=fun i h h' st k=>by
    obtain⟨hz,hTI,⟨x,y,v,hTO⟩,h1,h2,h3⟩:=st
    exact⟨k _ (by simp) _ hz,k _ (by simp) _ hTI,⟨x,y,v,k _ (by simp) _ hTO⟩,h1.of fun o e=>k _ (by simp) o e,h2.of fun o e=>k _ (by simp) o e,h3.of fun o e=>k _ (by simp) o e⟩
  item :=by
    intro X hP hw hK hc i pins s σ H E I hf st hg
    subst hP hw hK
    obtain⟨xs1,xs2,Uk,x1,x2,x3,q1,e1,q2,e2,q3,e3⟩:=hg
    have hT:s.TypeIs (.ref z) "zip" :=⟨_,st.z,rfl⟩
    unfold pyNext
    refine wpAny_bind (wpAny_attempt (wpAny_callSpecial?_slot (name:=Str.ofString "__next__") hT F.slot_zip_next (wpAny_call_entry F.slot_zip_next hT F.entry_zip_next
      (agX I (hf z (by simp)) (hf TO (by simp)) (hf i1 (by simp)) (hf i2 (by simp)) (hf i3 (by simp)) Yu zO Yv Gk Hj Ld nT1 nT2 nT3 Oo Le Lf n12 n13 n23 st q1 q2 q3 e1 e2 e3 fun h' I' z' ti' Yt s1' s2' s3'=>wpAny_pure ⟨_,rfl,?_⟩) (F.args_zip_next_1 _))))
    have hp:H s.heap.objs.size=none:=I.hok.fresh (Nat.le_refl _)
    have nz:∀b,b∈[z,TI,TO,i1,i2,i3]→b≠s.heap.objs.size:=fun b hb q=>by
      obtain⟨o,e,_⟩:∃o,s.heap.get? b=some o∧True:=by
        obtain⟨hz,hTI,⟨x,y,v,hTO⟩,h1,h2,h3⟩:=st
        simp only[List.mem_cons,List.not_mem_nil,or_false] at hb
        rcases hb with rfl |rfl |rfl |rfl |rfl |rfl
        · exact⟨_,hz,trivial⟩
        · exact⟨_,hTI,trivial⟩
        · exact⟨_,hTO,trivial⟩
        · obtain⟨o,e,_⟩:=h1.obj;exact⟨o,e,trivial⟩
        · obtain⟨o,e,_⟩:=h2.obj;exact⟨o,e,trivial⟩
        · obtain⟨o,e,_⟩:=h3.obj;exact⟨o,e,trivial⟩
      exact absurd (Heap.lt_size e) (by rw[q];exact Nat.lt_irrefl _)
    refine wpAny_letOwnedTupleGo_zip z' fun h'' z'' b''=>⟨.ref s.heap.objs.size,upd H s.heap.objs.size (.tup [x1,x2,x3]),I'.fp ((hf z (by simp)).upd (nz z (by simp))) b'',rfl,⟨_,x1,x2,x3,hp,rfl,rfl,fun xs' q=>by rw[I.Bx q q1];exact e1,fun xs' q=>by rw[I.Bx q q2];exact e2,fun xs' q=>by rw[I.Bx q q3];exact e3⟩,?_,fun b hb=>?_⟩
    · obtain⟨a,b,c,Yt⟩:=Yt
      exact⟨z'',b''.extBut _ _ Yu ti',⟨a,b,c,b''.extBut _ _ zO Yt⟩,s1'.of fun o e=>b''.extBut _ _ Gk e,s2'.of fun o e=>b''.extBut _ _ Hj e,s3'.of fun o e=>b''.extBut _ _ Ld e⟩
    · rw[upd_ne (nz b hb)];exact (hf b hb).1
  done:=by
    intro X hP hw hK hc i pins s σ H E I hf st hg
    subst hP hw hK
    obtain⟨xs1,xs2,Uk,q1,q2,q3,en⟩:=hg
    have hT:s.TypeIs (.ref z) "zip" :=⟨_,st.z,rfl⟩
    unfold pyNext
    refine wpAny_bind (wpAny_attempt (wpAny_callSpecial?_slot (name:=Str.ofString "__next__") hT F.slot_zip_next (wpAny_call_entry F.slot_zip_next hT F.entry_zip_next
      (ai1 (I.ok.hd hc) I (hf z (by simp)) (hf TO (by simp)) (hf i1 (by simp)) (hf i2 (by simp)) (hf i3 (by simp)) Yu zO Yv Gk Hj Ld nT1 nT2 nT3 Oo Le Lf n12 n13 n23 st q1 q2 q3 en fun h' e I' ex=>?_) (F.args_zip_next_1 _))))
    obtain⟨o,ho,ec⟩:=ex
    exact wpAny_bind (wpAny_isInstance (T:= "StopIteration") (b:=true) ⟨o,ho,ec⟩ isSubtype_stop (wpAny_pure ⟨rfl,I'⟩))
  self:=fun _ _ _ _ _ st h=>wpAny_pyIter_zip st.z h
theorem Ro (a b c:Value):checkTypeCall "zip" ⟨[a,b,c],[]⟩=pure ():=by kernel_rfl
theorem Vh (a b c:Value):checkBuiltinCall "zip.__new__" ⟨[.type "zip",a,b,c],[]⟩=pure ():=by kernel_rfl
theorem akx (a b c d:Value):argsOk "object.__init__" ⟨[a,b,c,d],[]⟩:=by
  unfold argsOk
  rw[signature?_of (id:= "object.__init__") (n:=['_','_','t','i','n','i','_','_']) (o:=['t','c','e','j','b','o']) (by kernel_rfl) F.owner_object];kernel_rfl
noncomputable abbrev zB1 (h:Heap) (t1:Bool) (l1:Addr):Heap:=h.push (itR t1 l1)
noncomputable abbrev zB2 (h:Heap) (t1:Bool) (l1:Addr) (t2:Bool) (l2:Addr):Heap:=(zB1 h t1 l1).push (itR t2 l2)
noncomputable abbrev zB3 (h:Heap) (t1:Bool) (l1:Addr) (t2:Bool) (l2:Addr) (t3:Bool) (l3:Addr):Heap:=(zB2 h t1 l1 t2 l2).push (itR t3 l3)
noncomputable abbrev zB4 (h:Heap) (t1:Bool) (l1:Addr) (t2:Bool) (l2:Addr) (t3:Bool) (l3:Addr):Heap:=(zB3 h t1 l1 t2 l2 t3 l3).push {cls:= .type "tuple",data:= .seq #[.ref h.objs.size,.ref (zB1 h t1 l1).objs.size,.ref (zB2 h t1 l1 t2 l2).objs.size]}
noncomputable abbrev zB5 (h:Heap) (t1:Bool) (l1:Addr) (t2:Bool) (l2:Addr) (t3:Bool) (l3:Addr):Heap:=(zB4 h t1 l1 t2 l2 t3 l3).push {cls:= .type "tuple",data:= .seq #[.none,.none,.none]}
noncomputable abbrev Yz (h:Heap) (t1:Bool) (l1:Addr) (t2:Bool) (l2:Addr) (t3:Bool) (l3:Addr):Heap:=(zB5 h t1 l1 t2 l2 t3 l3).push {cls:= .type "zip",data:= .fields #[.none,.bool false,.bool false,.ref (zB3 h t1 l1 t2 l2 t3 l3).objs.size,.ref (zB4 h t1 l1 t2 l2 t3 l3).objs.size]}
theorem ad5 (t1:Bool) (l1:Addr) (t2:Bool) (l2:Addr) (t3:Bool) (l3:Addr) (xs ys zs:Array Value):Meets (Builtin.«zip.__new__» ⟨[.type "zip",.ref l1,.ref l2,.ref l3],[]⟩)
    (fun _ R s=>m9 t1 s.heap l1 xs∧m9 t2 s.heap l2 ys∧m9 t3 s.heap l3 zs∧R (.ok (.ret (.ref (zB5 s.heap t1 l1 t2 l2 t3 l3).objs.size))) {s with heap:=Yz s.heap t1 l1 t2 l2 t3 l3}):=
  .of_wp fun prog w A R s h=>by
    obtain⟨hp,g,d,tk,os⟩:=s
    obtain⟨k1,k2,k3,h⟩:=h
    have hsub:=sub_zip
    have L1:m9 t1 (Shared.heap ⟨hp,g,d,tk,os⟩) l1 xs:=k1
    have L2:m9 t2 (Shared.heap ⟨zB1 hp t1 l1,g,d,tk,os⟩) l2 ys:=k2.of fun o e=>Heap.get?_push_of_some _ e
    have L3:m9 t3 (Shared.heap ⟨zB2 hp t1 l1 t2 l2,g,d,tk,os⟩) l3 zs:=k3.of fun o e=>Heap.get?_push_of_some _ (Heap.get?_push_of_some _ e)
    wp_walk using zN L1,zN L2,zN L3
    exact⟨_,rfl,h⟩
section
variable {prog:Program} {w:World} {A:Around} {E:Value→Shared→Prop} {s:Shared}
theorem agZ {t1 t2 t3:Bool} {l1 l2 l3:Addr} {xs ys zs:Array Value} {Q:Value→Shared→Prop} (k1:m9 t1 s.heap l1 xs) (k2:m9 t2 s.heap l2 ys) (k3:m9 t3 s.heap l3 zs)
    (h:∀h',Z3 h' (s.heap.objs.size+5) (s.heap.objs.size+3) (s.heap.objs.size+4) s.heap.objs.size (s.heap.objs.size+1) (s.heap.objs.size+2) t1 t2 t3 l1 l2 l3 0→(∀c o,s.heap.get? c=some o→h'.get? c=some o)→Q (.ref (s.heap.objs.size+5)) {s with heap:=h'}):
    wpAny (model prog w) A (call (.type "zip") [.ref l1,.ref l2,.ref l3]) Q E s:=by
  refine callType_new F.called_zip (by decide) (Ro _ _ _) (Vh _ _ _) (fun obj=>akx obj _ _ _) F.entry_zip_new (ad5 t1 l1 t2 l2 t3 l3 xs ys zs) ⟨k1,k2,k3,?_⟩
  have z1:(zB1 s.heap t1 l1).objs.size=s.heap.objs.size+1:=Heap.size_push ..
  have z2:(zB2 s.heap t1 l1 t2 l2).objs.size=s.heap.objs.size+2:=by rw[Heap.size_push,z1]
  have z3:(zB3 s.heap t1 l1 t2 l2 t3 l3).objs.size=s.heap.objs.size+3:=by rw[Heap.size_push,z2]
  have z4:(zB4 s.heap t1 l1 t2 l2 t3 l3).objs.size=s.heap.objs.size+4:=by rw[Heap.size_push,z3]
  have z5:(zB5 s.heap t1 l1 t2 l2 t3 l3).objs.size=s.heap.objs.size+5:=by rw[Heap.size_push,z4]
  have a6:(Yz s.heap t1 l1 t2 l2 t3 l3).get? (zB5 s.heap t1 l1 t2 l2 t3 l3).objs.size=some _:=Heap.get?_push_size _ rfl
  have a5:(Yz s.heap t1 l1 t2 l2 t3 l3).get? (zB4 s.heap t1 l1 t2 l2 t3 l3).objs.size=some _:=Heap.get?_push_of_some _ (Heap.get?_push_size _ rfl)
  have a4:(Yz s.heap t1 l1 t2 l2 t3 l3).get? (zB3 s.heap t1 l1 t2 l2 t3 l3).objs.size=some _:=Heap.get?_push_of_some _ (Heap.get?_push_of_some _ (Heap.get?_push_size _ rfl))
  have a3:(Yz s.heap t1 l1 t2 l2 t3 l3).get? (zB2 s.heap t1 l1 t2 l2).objs.size=some (itR t3 l3):=Heap.get?_push_of_some _ (Heap.get?_push_of_some _ (Heap.get?_push_of_some _ (Heap.get?_push_size _ rfl)))
  have a2:(Yz s.heap t1 l1 t2 l2 t3 l3).get? (zB1 s.heap t1 l1).objs.size=some (itR t2 l2):=Heap.get?_push_of_some _ (Heap.get?_push_of_some _ (Heap.get?_push_of_some _ (Heap.get?_push_of_some _ (Heap.get?_push_size _ rfl))))
  have a1:(Yz s.heap t1 l1 t2 l2 t3 l3).get? s.heap.objs.size=some (itR t1 l1):=Heap.get?_push_of_some _ (Heap.get?_push_of_some _ (Heap.get?_push_of_some _ (Heap.get?_push_of_some _ (Heap.get?_push_of_some _ (Heap.get?_push_size _ rfl)))))
  show _∧_
  rw[z3,z4,z5] at a6
  rw[z4] at a5
  rw[z1,z2,z3] at a4
  rw[z2] at a3
  rw[z1] at a2
  rw[z5]
  exact⟨⟨_,a6,rfl⟩,h _ ⟨a6,a4,⟨_,_,_,a5⟩,.new a1,.new a2,.new a3⟩ fun c o e=>Heap.get?_push_of_some _ (Heap.get?_push_of_some _ (Heap.get?_push_of_some _ (Heap.get?_push_of_some _ (Heap.get?_push_of_some _ (Heap.get?_push_of_some _ e)))))⟩
end
section
variable {X:Cx} {wk:List Expr} {kk:Nat} {pp:Pos} {a b c:Expr} {p pos:Pos}
noncomputable def am5 (K:PySem.W.Frag) (ta:TA):TI:=fun σ H R=>ta σ H fun vs H1=>∃t1 l1 t2 l2 t3 l3,vs=[.ref l1,.ref l2,.ref l3]∧(∃xs,Sq t1 K H1 l1 xs)∧(∃ys,Sq t2 K H1 l2 ys)∧(∃zs,Sq t3 K H1 l3 zs)∧R (aiX K t1 l1 t2 l2 t3 l3) H1
theorem aky {ta:TA} (hg:Gl X "zip") (hm:X.mg "zip" =none) (ha:PA X [a,b,c] ta) (he:starEach [a,b,c] X.env=(false,eval a X.env)::starEach [b,c] X.env:=by rfl) (hpl:(backTo pos (starEach [b,c] X.env)).any (·.1)=false:=by rfl):
    PI X (.Tuple wk kk pp) (.Call (.Name "zip" p) [a,b,c] [] pos) (am5 X.K ta):=by
  intro pins s σ H R I h
  refine Call_ (ld_blt I hg hm agW (PyProof.Rows.callWith_type1 (thn (ha pos pins s σ H _ I h) fun us s1 ⟨vs,H1,I1,r1,q1⟩=>?_) he hpl))
  obtain⟨t1,l1,t2,l2,t3,l3,e,⟨xs,w1⟩,⟨ys,w2⟩,⟨zs,w3⟩,q⟩:=q1
  subst e
  cases r1 with
  | cons r rr=>
    cases rr with
    | cons r' rr=>
      cases rr with
      | cons r'' rr=>
        cases rr
        cases r
        cases r'
        cases r''
        obtain⟨vs1,_,p1⟩:=I1.sq w1
        obtain⟨vs2,_,p2⟩:=I1.sq w2
        obtain⟨vs3,_,p3⟩:=I1.sq w3
        refine agZ p1 p2 p3 fun h' st k=>wpAny_pyIter_zip st.z ⟨s1.heap.objs.size+5,[s1.heap.objs.size+5,s1.heap.objs.size+3,s1.heap.objs.size+4,s1.heap.objs.size,s1.heap.objs.size+1,s1.heap.objs.size+2],_,_,H1,rfl,I1.kept (t':=s1.toks) k,agY ?_ ?_ ?_ ?_ ?_ ?_ ?_ ?_ ?_ ?_ ?_ ?_ ?_ ?_ ?_,st,fun c hc=>(by
        have hle:s1.heap.objs.size≤c:=by
          simp only[List.mem_cons,List.not_mem_nil,or_false] at hc
          rcases hc with rfl |rfl |rfl |rfl |rfl |rfl <;> first |exact Nat.le_refl _ |exact Nat.le_add_right _ _
        exact I1.fpOk hle (I1.hok.fresh hle)),q⟩
        all_goals (show @Ne Nat _ _;omega)
end
section
variable {K:PySem.W.Frag} {O:Addr→Prop} {H:Hp}
theorem aQ.three {d e f:D} {xs:List V} (r:aQ K O H [d,e,f] xs):∃x y z,xs=[x,y,z]∧Rep K O H d x∧Rep K O H e y∧Rep K O H f z:=by
  obtain⟨x,t,rfl,h1,h2⟩:=r.cons_inv
  obtain⟨y,z,rfl,h3,h4⟩:=h2.two
  exact⟨x,y,z,rfl,h1,h3,h4⟩
theorem ag0 {xs ys zs:List D} {i:Nat} {d:D} (h:(KY xs ys zs)[i]?=some d):∃x y z,xs[i]?=some x∧ys[i]?=some y∧zs[i]?=some z∧d= .tup [x,y,z]:=by
  unfold KY at h
  rw[List.getElem?_map] at h
  cases e:(xs.zip (ys.zip zs))[i]? with
  |none=>rw[e] at h;cases h
  | some p=>
    rw[e] at h;cases h
    obtain⟨h1,h2⟩:=List.getElem?_zip_eq_some.mp e
    obtain⟨h3,h4⟩:=List.getElem?_zip_eq_some.mp h2
    exact⟨_,_,_,h1,h3,h4,rfl⟩
theorem YR.Hi {t1 t2 t3:Bool} {a1 a2 a3:Addr} {xs ys zs:List D} (s1:Src K O H t1 a1 xs) (s2:Src K O H t2 a2 ys) (s3:Src K O H t3 a3 zs):YR K O H (aiX K t1 a1 t2 a2 t3 a3) (KY xs ys zs):=by
  intro O' H' q i
  obtain⟨v1,q1,r1⟩:=s1.go q
  obtain⟨v2,q2,r2⟩:=s2.go q
  obtain⟨v3,q3,r3⟩:=s3.go q
  refine⟨fun d e=>?_,fun e=>⟨v1,v2,v3,q1,q2,q3,?_⟩⟩
  · obtain⟨x,y,z,e1,e2,e3,rfl⟩:=ag0 e
    obtain⟨u1,g1,w1⟩:=r1.get e1
    obtain⟨u2,g2,w2⟩:=r2.get e2
    obtain⟨u3,g3,w3⟩:=r3.get e3
    refine⟨⟨v1,v2,v3,u1,u2,u3,q1,g1,q2,g2,q3,g3⟩,fun x H2 y=>?_⟩
    obtain⟨p,x1,x2,x3,hp,rfl,rfl,k1,k2,k3⟩:=y
    have k1:=k1 _ q1
    have k2:=k2 _ q2
    have k3:=k3 _ q3
    rw[g1] at k1;cases k1
    rw[g2] at k2;cases k2
    rw[g3] at k3;cases k3
    exact⟨Same.upd hp,jG (SqT.of upd_same) ((aQ.cons w1 (.cons w2 (.cons w3 .nil))).same (Same.upd hp))⟩
  · rw[←r1.length,←r2.length,←r3.length]
    simp only[KY,List.length_map,List.length_zip] at e
    omega
end
section
variable {X:Cx} {wk:List Expr} {kk:Nat} {pp:Pos} {a b c:Expr} {p pos:Pos} {fa:au→R (List D)}
theorem uG {x:D} {c:Str} (h:dR x= .err c):False:=by cases x <;> cases h
theorem akz (hg:Gl X "zip") (hm:X.mg "zip" =none) (ha:DA X [a,b,c] fa) (he:starEach [a,b,c] X.env=(false,eval a X.env)::starEach [b,c] X.env:=by rfl) (hpl:(backTo pos (starEach [b,c] X.env)).any (·.1)=false:=by rfl):
    DI X (.Tuple wk kk pp) (.Call (.Name "zip" p) [a,b,c] [] pos) (fun ρ=>(fa ρ).bind Hi):=by
  refine PI.imp (aky hg hm ha he hpl) fun σ H Q q=>?_
  obtain⟨ρ,O,j,q⟩:=q
  refine go j q fun ds vs H1 e1 s1 r1 j1 h1=>?_
  unfold Hi at h1
  split at h1
  · rename_i x y z
    obtain⟨v1,v2,v3,rfl,w1,w2,w3⟩:=r1.three
    cases ex:dR x with
    |bad=>rw[ex] at h1;exact h1.elim
    |err c=>exact (uG ex).elim
    | ok xs=>
      cases ey:dR y with
      |bad=>rw[ex,R.bx,ey] at h1;exact h1.elim
      |err c=>exact (uG ey).elim
      | ok ys=>
        cases ez:dR z with
        |bad=>rw[ex,R.bx,ey,R.bx,ez] at h1;exact h1.elim
        |err c=>exact (uG ez).elim
        | ok zs=>
          rw[ex,R.bx,ey,R.bx,ez,R.bx] at h1
          obtain⟨t1,a1,rfl,c1⟩:=BJ w1 ex
          obtain⟨t2,a2,rfl,c2⟩:=BJ w2 ey
          obtain⟨t3,a3,rfl,c3⟩:=BJ w3 ez
          obtain⟨vs1,k1,_⟩:=c1.ex
          obtain⟨vs2,k2,_⟩:=c2.ex
          obtain⟨vs3,k3,_⟩:=c3.ex
          exact⟨t1,a1,t2,a2,t3,a3,rfl,⟨vs1,k1⟩,⟨vs2,k2⟩,⟨vs3,k3⟩,fin h1 (YR.Hi c1 c2 c3)⟩
  · exact h1.elim
end
end Pu
namespace Pu
open PySem PySem.Spec L2
open PyProof.Rows hiding St
end Pu
namespace Pu
open PySem PySem.Spec L2
open PyProof.Rows hiding St
section
variable {X:Cx}
theorem ac9:∀{ns:List Int} {its:List Value},Vals (ns.map V.int) its→IntsAre its ns
  |[],_,r=>by cases r;exact .nil
  | n::ns,_,r=>by
    cases r with
    |cons h t=>obtain⟨tk,rfl⟩:=h;exact .cons n tk (ac9 t)
theorem Ul {K:PySem.W.Frag} {O:Addr→Prop} {H:Hp}:∀{ds:List D} {ns:List Int} {vs:List V},intsOf ds=some ns→aQ K O H ds vs→vs=ns.map V.int
  |[],ns,vs,e,r=>by cases e;exact r.nil_inv
  | d ::ds,ns,vs,e,r=>by
    obtain⟨x,t,rfl,h1,h2⟩:=r.cons_inv
    cases d with
    | int i=>
      have e:(intsOf ds).map (i:: ·)=some ns:=e
      cases q:intsOf ds with
      |none=>rw[q] at e;cases e
      |some l=>rw[q] at e;cases e;rw[h1.int,Ul q h2];rfl
    |_=>cases e
theorem Ho {K:PySem.W.Frag} {O:Addr→Prop} {H:Hp}:∀{ns:List Int},aQ K O H (ns.map D.int) (ns.map V.int)
  |[]=> .nil
  |_::_=> .cons (cM _) Ho
variable {pos:Pos}
end
end Pu
namespace Pu
open PySem PySem.Spec L2
open PyProof.Rows hiding St
noncomputable def Ite (K:PySem.W.Frag) (t:Bool) (l:Addr):It:=
  ⟨fun i H=>∃xs x,Sq t K H l xs∧xs[i]?=some x,
   fun i H v H'=>∃p x,H p=none∧v= .ref p∧H'=upd H p (.tup [.int (i:Int),x])∧∀xs,Sq t K H l xs→xs[i]?=some x,
   fun i H=>∃xs,Sq t K H l xs∧xs.length≤i⟩
section
variable {X:Cx} {pins:List (Addr×Obj)} {σ:St} {H:Hp} {s:Shared} {A':Around} {E:Value→Shared→Prop}
theorem ag1 {e it l:Addr} {t:Bool} {k:Nat} {xs:List V} {x:V} {old:Value} {Q:Value→Shared→Prop} (I:Inv X pins σ H s) (fe:FpOk X pins H e) (fi:FpOk X pins H it) (ne:e≠it)
    (he:IsEnum s.heap e it k old) (hs:m8 t s.heap it l k) (q:Sq t X.K H l xs) (ex:xs[k]?=some x)
    (hQ:∀h' u,Inv X pins σ (upd H s.heap.objs.size (.tup [.int (k:Int),x])) {s with heap:=h',toks:=s.toks+1}→IsEnumOut h' e it ((k:Int)+1) u s.heap.objs.size→m8 t h' it l (k+1)→Q (.ref s.heap.objs.size) {s with heap:=h',toks:=s.toks+1}):
    wpAny (model X.prog X.w) A' (Builtin.«enumerate.__next__» ⟨[.ref e],[]⟩) (fun fin s'=>∃v,fin= .done (.ret v)∧Q v s') E s:=by
  obtain⟨us,r1,p1⟩:=I.sq q
  obtain⟨u,hu,ru⟩:=r1.get ex
  obtain⟨hp,g,d,tk,os⟩:=s
  show wpAny _ _ (field (.ref e) 2 >>=_) _ _ _;refine wpAny_bind (wpAny_field he rfl (x:= .ref it) rfl ?_)
  refine wpAny_bind (wA hs p1 (v:=u) (by simpa using hu) fun g1 s1 b1=>?_)
  have I1:=I.fp fi b1
  replace b1:Heap.SameBut it hp g1:=b1
  have e1:IsEnum g1 e it k old:=(b1.2 e ne).trans he
  show wpAny _ _ (field (.ref e) 3 >>=_) _ _ ⟨g1,g,d,tk,os⟩;refine wpAny_bind (wpAny_field e1 rfl (x:=rawInt k) rfl ?_)
  show wpAny _ _ (field (.ref e) 4 >>=_) _ _ ⟨g1,g,d,tk,os⟩;refine wpAny_bind (wpAny_field e1 rfl (x:= .none) rfl ?_)
  show wpAny _ _ (mkInt k >>=_) _ _ ⟨g1,g,d,tk,os⟩;refine wpAny_bind (wpAny_mkInt ?_)
  have I1':Inv X pins σ H ⟨g1,g,d,tk+1,os⟩:=Inv.tok (s:=⟨g1,g,d,tk,os⟩) I1 (tk+1)
  show wpAny _ _ (setField (.ref e) 3 (rawInt ((k:Int)+1)) >>=_) _ _ ⟨g1,g,d,tk+1,os⟩
  refine wpAny_bind (wpAny_setField_rec e1 (by simp) fun g2 e2 b2=>?_)
  have I2:=I1'.fp fe b2
  replace b2:Heap.SameBut e g1 g2:=b2
  replace e2:IsEnum g2 e it ((k:Int)+1) old:=e2
  show wpAny _ _ (setField (.ref e) 4 .none >>=_) _ _ ⟨g2,g,d,tk+1,os⟩
  refine wpAny_bind (wpAny_setField_rec e2 (by simp) fun g3 e3 b3=>?_)
  have I3:=I2.fp fe b3
  replace b3:Heap.SameBut e g2 g3:=b3
  replace e3:IsEnum g3 e it ((k:Int)+1) old:=e3
  show wpAny _ _ (newTuple [.int k tk,u] >>=_) _ _ ⟨g3,g,d,tk+1,os⟩;refine wpAny_bind (wpAny_newTuple ?_)
  have sz:g3.objs.size=hp.objs.size:=by rw[b3.1,b2.1,b1.1]
  have lt:e≠g3.objs.size:=Nat.ne_of_lt (Heap.lt_size e3)
  have I4:Inv X pins σ (upd H g3.objs.size (.tup [.int (k:Int),x])) ⟨g3.push {cls:= .type "tuple",data:= .seq #[.int k tk,u]},g,d,tk+1,os⟩:=
    Inv.laid (s:=⟨g3,g,d,tk+1,os⟩) (t':=tk+1) I3 (fun b u e=>Heap.get?_push_of_some _ e) (Nat.le_refl _) ⟨agS,[.int k tk,u],.cons ⟨tk,rfl⟩ (.cons ru .nil),⟨_,Heap.get?_push_size _ rfl,rfl,_,rfl⟩⟩
  have e4:IsEnum (g3.push {cls:= .type "tuple",data:= .seq #[.int k tk,u]}) e it ((k:Int)+1) old:=Heap.get?_push_of_some _ e3
  have s4:m8 t (g3.push {cls:= .type "tuple",data:= .seq #[.int k tk,u]}) it l (k+1):=s1.of fun o z=>Heap.get?_push_of_some _ (b3.extBut _ _ (Ne.symm ne) (b2.extBut _ _ (Ne.symm ne) z))
  show wpAny _ _ (Builtin.SmallTypes.ownedTupleIsFree (.ref e) >>=_) _ _ ⟨g3.push {cls:= .type "tuple",data:= .seq #[.int k tk,u]},g,d,tk+1,os⟩
  generalize g3.push {cls:= .type "tuple",data:= .seq #[.int k tk,u]}=g4 at *
  refine wpAny_bind ?_
  unfold Builtin.SmallTypes.ownedTupleIsFree
  refine wpAny_bind (wpAny_field e4 rfl (x:= .none) rfl (wpAny_pure ?_));simp only[if_true]
  refine wpAny_bind (wpAny_rule (wpAny_bind (wpAny_field e4 rfl (x:=old) rfl ?_)))
  refine wpAny_bind (wpAny_setField_rec e4 (by simp) fun g5 e5 b5=>?_)
  have I5:=I4.fp (fe.upd lt) b5
  replace b5:Heap.SameBut e g4 g5:=b5
  replace e5:IsEnum g5 e it ((k:Int)+1) u:=e5
  show wpAny _ _ (Builtin.SmallTypes.ownedTupleHandOut (.ref e) (.ref g3.objs.size) >>=_) _ _ ⟨g5,g,d,tk+1,os⟩;refine wpAny_bind ?_
  unfold Builtin.SmallTypes.ownedTupleHandOut
  refine wpAny_bind (wpAny_setField_rec e5 (by simp) fun g6 e6 b6=>?_)
  have I6:=I5.fp (fe.upd lt) b6
  replace b6:Heap.SameBut e g5 g6:=b6
  replace e6:IsEnumOut g6 e it ((k:Int)+1) u g3.objs.size:=e6
  refine wpAny_setField_rec e6 (by simp) fun g7 e7 b7=>?_
  have I7:=I6.fp (fe.upd lt) b7
  replace b7:Heap.SameBut e g6 g7:=b7
  replace e7:IsEnumOut g7 e it ((k:Int)+1) u g3.objs.size:=e7
  refine wpAny_bind (wpAny_letGo (wpAny_pure ⟨_,rfl,?_⟩))
  rw[sz] at I7 e7
  show Q (.ref g3.objs.size) _
  rw[sz]
  exact hQ g7 u I7 e7 (s4.of fun o z=>b7.extBut _ _ (Ne.symm ne) (b6.extBut _ _ (Ne.symm ne) (b5.extBut _ _ (Ne.symm ne) z)))
end
theorem ag2 {P:Program} {w:World} {K:PySem.W.Frag} {wk:List Expr} {kk} {pp:Pos} {e it l:Addr} {t:Bool} (ne:e≠it):
    Turn P w K (.Tuple wk kk pp) (Ite K t l) [e,it] e (fun i h=>(∃old,IsEnum h e it i old)∧m8 t h it l i) where
  mem:=by simp
  obj:=fun i h st b hb=>by
    obtain⟨⟨old,he⟩,hs⟩:=st
    simp only[List.mem_cons,List.not_mem_nil,or_false] at hb
    rcases hb with rfl |rfl
    · exact⟨_,he,fun v q=>by have q':Data.fields _=Data.cell v:=q;cases q'⟩
    · exact hs.obj
  keep:=fun i h h' st k=>by
    obtain⟨⟨old,he⟩,hs⟩:=st
    exact⟨⟨old,k _ (by simp) _ he⟩,hs.of fun o z=>k _ (by simp) o z⟩
  item :=by
    intro X hP hw hK hc i pins s σ H E I hf st hg
    subst hP hw hK
    obtain⟨⟨old,he⟩,hs⟩:=st
    obtain⟨xs,x,q,ex⟩:=hg
    have hT:s.TypeIs (.ref e) "enumerate" :=⟨_,he,rfl⟩
    have hp:H s.heap.objs.size=none:=I.hok.fresh (Nat.le_refl _)
    have nz:∀b,b∈[e,it]→b≠s.heap.objs.size:=fun b hb z=>by
      obtain⟨o,eo⟩:∃o,s.heap.get? b=some o:=by
        simp only[List.mem_cons,List.not_mem_nil,or_false] at hb
        rcases hb with rfl |rfl
        · exact⟨_,he⟩
        · obtain⟨o,eo,_⟩:=hs.obj;exact⟨o,eo⟩
      exact absurd (Heap.lt_size eo) (by rw[z];exact Nat.lt_irrefl _)
    unfold pyNext
    refine wpAny_bind (wpAny_attempt (wpAny_callSpecial?_slot (name:=Str.ofString "__next__") hT F.slot_enumerate_next (wpAny_call_entry F.slot_enumerate_next hT F.entry_enumerate_next
      (ag1 I (hf e (by simp)) (hf it (by simp)) ne he hs q ex fun h' u I' e' s'=>wpAny_pure ⟨_,rfl,?_⟩) (F.args_enumerate_next_1 _))))
    refine wpAny_letOwnedTupleGo_enum e' fun h'' e'' b''=>⟨.ref s.heap.objs.size,upd H s.heap.objs.size (.tup [.int (i:Int),x]),I'.fp ((hf e (by simp)).upd (nz e (by simp))) b'',rfl,⟨_,x,hp,rfl,rfl,fun xs' q'=>by rw[I.Bx q' q];exact ex⟩,⟨⟨u,by simpa using e''⟩,s'.of fun o z=>b''.extBut _ _ (Ne.symm ne) z⟩,fun b hb=>?_⟩
    rw[upd_ne (nz b hb)];exact (hf b hb).1
  done:=by
    intro X hP hw hK hc i pins s σ H E I hf st hg
    subst hP hw hK
    obtain⟨⟨old,he⟩,hs⟩:=st
    obtain⟨xs,q,en⟩:=hg
    obtain⟨us,r1,p1⟩:=I.sq q
    have hT:s.TypeIs (.ref e) "enumerate" :=⟨_,he,rfl⟩
    unfold pyNext
    refine wpAny_bind (wpAny_attempt (wpAny_callSpecial?_slot (name:=Str.ofString "__next__") hT F.slot_enumerate_next (wpAny_call_entry F.slot_enumerate_next hT F.entry_enumerate_next ?_ (F.args_enumerate_next_1 _))))
    show wpAny _ _ (field (.ref e) 2 >>=_) _ _ _;refine wpAny_bind (wpAny_field he rfl (x:= .ref it) rfl ?_)
    refine wpAny_bind (sZ (I.ok.hd hc) hs p1 (by have:=r1.length;simp;omega) fun g1 x eb bL=>?_)
    obtain⟨o,ho,ec⟩:=bL
    exact wpAny_bind (wpAny_isInstance (T:= "StopIteration") (b:=true) ⟨o,ho,ec⟩ isSubtype_stop (wpAny_pure ⟨rfl,I.fpE (hf it (by simp)) eb⟩))
  self:=fun _ _ _ _ _ st h=>by
    obtain⟨⟨old,he⟩,_⟩:=st
    exact wpAny_pyIter_enum he h
theorem aaV (t:Bool) (l:Addr) (xs:Array Value):Meets (Builtin.«enumerate.__new__» ⟨[.type "enumerate",.ref l],[]⟩)
    (fun _ R s=>m9 t s.heap l xs∧R (.ok (.ret (.ref (s.heap.push (itR t l)).objs.size))) {s with heap:=(s.heap.push (itR t l)).push {cls:= .type "enumerate",data:= .fields #[.none,.bool false,.ref s.heap.objs.size,rawInt 0,.none,.none]}}):=
  .of_wp fun prog w A R s h=>by
    obtain⟨hp,g,d,tk,os⟩:=s
    obtain⟨k1,h⟩:=h
    have hsub:=sub_enumerate
    have L1:m9 t (Shared.heap ⟨hp,g,d,tk,os⟩) l xs:=k1
    wp_walk using zN L1
    refine wpAny_stack_any fun st=>wpAny_pure ?_
    split
    · rename_i c _ _ _ _ _
      cases (c ==Value.type "enumerate") <;> (wp_walk using zN L1;exact⟨_,rfl,h⟩)
    · wp_walk using zN L1
      exact⟨_,rfl,h⟩
section
variable {prog:Program} {w:World} {A:Around} {E:Value→Shared→Prop} {s:Shared}
theorem ad6 {t:Bool} {l:Addr} {xs:Array Value} {Q:Value→Shared→Prop} (k1:m9 t s.heap l xs)
    (h:∀h',IsEnum h' (s.heap.objs.size+1) s.heap.objs.size 0 .none→m8 t h' s.heap.objs.size l 0→(∀c o,s.heap.get? c=some o→h'.get? c=some o)→Q (.ref (s.heap.objs.size+1)) {s with heap:=h'}):
    wpAny (model prog w) A (call (.type "enumerate") [.ref l]) Q E s:=by
  refine callType_new F.called_enumerate (by decide) (F.typeCall_enumerate_1 _) (F.newCall_enumerate_1 _) (fun obj=>F.args_object_init_2 obj _) F.entry_enumerate_new (aaV t l xs) ⟨k1,?_⟩
  have z1:(s.heap.push (itR t l)).objs.size=s.heap.objs.size+1:=Heap.size_push ..
  have a2:((s.heap.push (itR t l)).push {cls:= .type "enumerate",data:= .fields #[.none,.bool false,.ref s.heap.objs.size,rawInt 0,.none,.none]}).get? (s.heap.push (itR t l)).objs.size=some _:=Heap.get?_push_size _ rfl
  show _∧_
  rw[z1] at a2 ⊢
  exact⟨⟨_,a2,rfl⟩,h _ a2 (.new (Heap.get?_push_of_some _ (Heap.get?_push_size _ rfl))) fun c o e=>Heap.get?_push_of_some _ (Heap.get?_push_of_some _ e)⟩
end
section
variable {X:Cx} {wk:List Expr} {kk:Nat} {pp:Pos} {a:Expr} {p pos:Pos} {fa:au→R (List D)}
noncomputable def am6 (K:PySem.W.Frag) (ta:TA):TI:=fun σ H R=>ta σ H fun vs H1=>∃t l,vs=[.ref l]∧(∃xs,Sq t K H1 l xs)∧R (Ite K t l) H1
theorem akA {ta:TA} (hg:Gl X "enumerate") (hm:X.mg "enumerate" =none) (ha:PA X [a] ta) (he:starEach [a] X.env=(false,eval a X.env)::starEach [] X.env:=by rfl) (hpl:(backTo pos (starEach [] X.env)).any (·.1)=false:=by rfl):
    PI X (.Tuple wk kk pp) (.Call (.Name "enumerate" p) [a] [] pos) (am6 X.K ta):=by
  intro pins s σ H R I h
  refine Call_ (ld_blt I hg hm boot_enumerate (PyProof.Rows.callWith_type1 (thn (ha pos pins s σ H _ I h) fun us s1 ⟨vs,H1,I1,r1,q1⟩=>?_) he hpl))
  obtain⟨t,l,e,⟨xs,w1⟩,q⟩:=q1
  subst e
  cases r1 with
  | cons r rr=>
    cases rr
    cases r
    obtain⟨vs1,_,p1⟩:=I1.sq w1
    refine ad6 p1 fun h' e' s' k=>wpAny_pyIter_enum e' ⟨s1.heap.objs.size+1,[s1.heap.objs.size+1,s1.heap.objs.size],_,_,H1,rfl,I1.kept (t':=s1.toks) k,ag2 ?_,⟨⟨_,e'⟩,s'⟩,fun c hc=>(by
        have hle:s1.heap.objs.size≤c:=by
          simp only[List.mem_cons,List.not_mem_nil,or_false] at hc
          rcases hc with rfl |rfl <;> first |exact Nat.le_refl _ |exact Nat.le_add_right _ _
        exact I1.fpOk hle (I1.hok.fresh hle)),q⟩
    all_goals (show @Ne Nat _ _;omega)
noncomputable def rJ:Nat→List D→List D
  |_,[]=>[]
  |n,d::ds=> .tup [.int (n:Int),d]::rJ (n+1) ds
theorem Um:∀{ds:List D} {n i:Nat} {d:D},(rJ n ds)[i]?=some d→∃x,ds[i]?=some x∧d= .tup [.int ((n+i:Nat):Int),x]
  |[],_,_,_,h=>by simp[rJ] at h
  |x::ds,n,0,d,h=>by simp[rJ] at h;exact⟨x,rfl,by rw[←h];rfl⟩
  | x::ds,n,i+1,d,h=>by
    rw[rJ,List.getElem?_cons_succ] at h
    obtain⟨y,e1,e2⟩:=Um h
    exact⟨y,by rw[List.getElem?_cons_succ];exact e1,by rw[e2,show n+1+i=n+(i+1) by omega]⟩
theorem Uo:∀{ds:List D} {n:Nat},(rJ n ds).length=ds.length
  |[],_=>rfl
  |_::ds,n=>by rw[rJ,List.length_cons,Uo,List.length_cons]
noncomputable def uH:List D→R (List D)
  |[x]=>(dR x).bind fun xs=> .ok (rJ 0 xs)
  |_=> .bad
theorem YR.enum {K:PySem.W.Frag} {O:Addr→Prop} {H:Hp} {t:Bool} {a:Addr} {xs:List D} (s1:Src K O H t a xs):YR K O H (Ite K t a) (rJ 0 xs):=by
  intro O' H' q i
  obtain⟨v1,q1,r1⟩:=s1.go q
  refine⟨fun d e=>?_,fun e=>⟨v1,q1,?_⟩⟩
  · obtain⟨x,e1,rfl⟩:=Um e
    obtain⟨u1,g1,w1⟩:=r1.get e1
    refine⟨⟨v1,u1,q1,g1⟩,fun x H2 y=>?_⟩
    obtain⟨p,x1,hp,rfl,rfl,k1⟩:=y
    have k1:=k1 _ q1
    rw[g1] at k1;cases k1
    rw[Nat.zero_add]
    exact⟨Same.upd hp,jG (SqT.of upd_same) ((aQ.cons (cM _) (.cons w1 .nil)).same (Same.upd hp))⟩
  · rw[←r1.length,←Uo (n:=0)];exact e
theorem BL (hg:Gl X "enumerate") (hm:X.mg "enumerate" =none) (ha:DA X [a] fa) (he:starEach [a] X.env=(false,eval a X.env)::starEach [] X.env:=by rfl) (hpl:(backTo pos (starEach [] X.env)).any (·.1)=false:=by rfl):
    DI X (.Tuple wk kk pp) (.Call (.Name "enumerate" p) [a] [] pos) (fun ρ=>(fa ρ).bind uH):=by
  refine PI.imp (akA hg hm ha he hpl) fun σ H Q q=>?_
  obtain⟨ρ,O,j,q⟩:=q
  refine go j q fun ds vs H1 e1 s1 r1 j1 h1=>?_
  unfold uH at h1
  split at h1
  · rename_i x
    obtain⟨v1,rfl,w1⟩:=r1.one
    cases ex:dR x with
    |bad=>rw[ex] at h1;exact h1.elim
    |err c=>exact (uG ex).elim
    | ok xs=>
      rw[ex,R.bx] at h1
      obtain⟨t1,a1,rfl,c1⟩:=BJ w1 ex
      obtain⟨vs1,k1,_⟩:=c1.ex
      exact⟨t1,a1,rfl,⟨vs1,k1⟩,fin h1 (YR.enum c1)⟩
  · exact h1.elim
end
end Pu
namespace Pu
open PySem PySem.Spec L2
open PyProof.Rows hiding St
section
variable {prog:Program} {w:World} {A:Around} {E:Value→Shared→Prop} {s:Shared}
end
section
variable {X:Cx} {a:Expr} {p pos p2 pos2:Pos} {fa:au→R (List D)}
noncomputable def alX (K:PySem.W.Frag) (ta:TA):TE:=fun σ H Q=>ta σ H fun vs H1=>∃j:Int,vs=[.int j]∧0≤j∧j≤1000∧∀q,H1 q=none→Q (.ref q) (upd H1 q (.rng 0 j))
theorem alY {ta:TA} (hg:Gl X "range") (hm:X.mg "range" =none) (ha:PA X [a] ta) (hs:starEach [a] X.env=[(false,eval a X.env)]:=by rfl):PE X (.Call (.Name "range" p) [a] [] pos) (alX X.K ta):=by
  intro pins s σ H Q I h
  refine Call_ (ld_blt I hg hm boot_range (PyProof.Rows.callWith_type1 (thn (ha pos pins s σ H _ I h) fun us s1 ⟨vs,H1,I1,r1,q1⟩=>?_) hs rfl))
  obtain⟨j,e,h0,h1,q⟩:=q1
  subst e
  cases r1 with
  | cons r rr=>
    cases rr
    obtain⟨t,rfl⟩:=r
    refine call_range_1 ?_
    exact⟨.ref s1.heap.objs.size,upd H1 s1.heap.objs.size (.rng 0 j),I1.laid (fun b o e=>Heap.get?_push_of_some _ e) (Nat.le_refl _) ⟨_,_,_,Heap.get?_push_size _ rfl⟩,rfl,q _ (I1.hok.fresh (Nat.le_refl _))⟩
end
end Pu
namespace Pu
open PySem PySem.Spec L2
open PyProof.Rows hiding St
section
variable {X:Cx} {e:Expr} {f:au→R D} {pos:Pos}
noncomputable def Mt (i:Nat) (f:au→R D):au→So:=fun ρ=>match ρ[i]? with
  | some (some (.val (.int a)))=>nZ (f ρ) ρ fun d=>match d with
    | .int b=> .nx (ρ.set i (some (.val (.int (a+b)))))
    |_=> .bad
  |_=> .bad
theorem ag3 (i:Nat) {x:Str} {pos':Pos} (hN:X.N.Nodup) (he:DE X e f) (hi:X.N[i]?=some x:=by rfl) (hx:Loc X.env.scope x:=by first |exact Or.inl rfl |exact Or.inr rfl)
    (hf:X.fn x=true∨X.env.scope.names.lookup x=some .local:=by first |exact .inl rfl |exact .inr rfl):DS X (.AugAssign (.Name x pos') .Add e pos) (Mt i f):=by
  refine PS.imp (ps_aug hN hi hx he ip_add hf) fun σ H E h=>?_
  obtain⟨H0,O0,O,ρ,j,h⟩:=h
  unfold Mt at h
  cases e1:ρ[i]? with
  |none=>simp only[e1] at h;exact h.elim
  | some oe =>
    cases oe with
    |none=>simp only[e1] at h;exact h.elim
    | some en=>
      cases en with
      |lst _=>simp only[e1] at h;exact h.elim
      |G5 _=>simp only[e1] at h;exact h.elim
      |obj _=>simp only[e1] at h;exact h.elim
      | val d=>
        cases d with
        | int a=>
          simp only[e1] at h
          obtain⟨v,hv,rv⟩:=j.inn.env.get i _ e1
          have rv:v= .int a:=Rep.int (K:=X.K) (O:=O) (H:=H) rv
          subst rv
          refine⟨.int a,hv,ρ,O,j.inn,?_⟩
          unfold nZ at h
          cases e2:f ρ with
          |bad=>rw[e2] at h;exact h
          |err c=>rw[e2] at h;exact h σ H O j
          | ok d=>
            rw[e2] at h
            intro v' H' s r
            cases d with
            |int b=>exact⟨a,b,rfl,r.int,h _ H' O ((j.grow s).set (List.getElem?_eq_some_iff.mp hi).1 (cM _)) (Same.iR s)⟩
            |_=>exact h.elim
        |_=>simp only[e1] at h;exact h.elim
noncomputable def ai2 (K:PySem.W.Frag) (mg:Str→Option Value) (x:Str) (ss:List Str):Prop:=∃a,mg x=some (.ref a)∧∀H,SqT K H a (ss.map V.str)
theorem Uq {K:PySem.W.Frag} {O:Addr→Prop} {H:Hp}:∀{ss:List Str},aQ K O H (ss.map D.str) (ss.map V.str)
  |[]=> .nil
  |_::_=> .cons (Ra _) Uq
theorem akB {x:Str} {ss:List Str} {pos:Pos} (hg:Gl X x) (h:ai2 X.K X.mg x ss) (hd:(x ==("__debug__" :Str))=false:=by decide):DE X (.Name x pos) (fun _=> .ok (.tup (ss.map D.str))):=by
  obtain⟨a,hm,hq⟩:=h
  exact Rb (pe_glob (v:= .ref a) hg hm rfl hd) fun _ H=>jG (hq H) Uq
end
theorem akC {K:PySem.W.Frag} {h:Heap} {mg:Str→Option Value} {x:Str} {ss:List Str} {a:Addr} {od:Option Addr} {its:Array Value} {n:Nat} {sl:Array (Option Value)} (X:K.In h) (G:h.Ns mainGlobals mg)
    (y:PySem.W.nsIn K mainGlobals x=some (some (.ref a))) (l:K.lookup a=some ⟨.type "tuple",od,.seq its n,sl⟩) (hz:its.size≤sizeLine) (hv:Vals (ss.map V.str) its.toList):ai2 K mg x ss:=
  ⟨a,PySem.W.mg_of X G y,fun _=> .inr ⟨_,its,n,l,rfl,rfl,hz,hv⟩⟩
end Pu
namespace Pu
open PySem PySem.Spec L2
open PyProof.Rows hiding St
section
variable {X:Cx}
end
end Pu
namespace Pu
open PySem PySem.Spec L2
open PyProof.Rows hiding St
section
variable {X:Cx}
inductive ai3 (XB:Cx) (K:PySem.W.Frag) (O:Addr→Prop) (H2:Hp) (Dd:Addr) (fp:List Addr) (tn:Nat→Heap→Prop) (ρ0:au) (xs:List D) (F:D→R (Option D)) (all:List D) (n:Nat) (s':Shared):Prop
  |mk (i:Nat) (σ':St) (H':Hp) (ys:List V) (ds rest:List D) (en:n=xs.length+1 - i) (hil:i≤xs.length) (I:Inv XB [] σ' H' s') (st:tn i s'.heap) (fr:∀b∈fp,H' b=none) (j:In XB O H' ρ0 σ') (sm:Same H2 H') (hD:H' Dd=some (.lst ys)) (rp:aQ K O H' ds ys) (hm:nR F (xs.drop i)= .ok rest) (hr:ds++rest=all):ai3 XB K O H2 Dd fp tn ρ0 xs F all n s'
theorem ai4 {tg iter elt:Expr} {ifs:List Expr} {scope:Scope} {pos pos2:Pos} {fi:au→R (List D)} {gt:D→au→R au} {ft:au→R Bool} {fe:au→R D} (ts:List Str) (caps:List Nat)
    (hc:X.calm=true) (hb:adV X.env.scope scope ts X.N=true) (hcap:(gD scope).map (fun x=>vg x X.N)=caps)
    (hi:DI X tg iter fi) (hk:G7 ts.length gt) (hg:∀C s H ex,(fC X scope ts C s H ex).N.Nodup→DG (fC X scope ts C s H ex) tg gt) (ht:∀C s H ex,DTs (fC X scope ts C s H ex) ifs ft) (he:∀C s H ex,DE (fC X scope ts C s H ex) elt fe)
    (hs:∀x,foldedSetIterable iter X.env x=pure x) {use:Option (Value→Sem Unit)} {Qr:Value→Shared→Prop} {pins:List (Addr×Obj)} {s:Shared} {σ:St} {H:Hp} {ρ:au} {O:Addr→Prop} {Q:VK} (I:Inv X pins σ H s) (j:In X O H ρ σ)
    (hQ:∀(v:V) (H':Hp) (s5:Shared) (C:Addr) (m:Str→Option Value) (f:Flow) (acc:Value),Q v H'→Inv X pins σ H' s5→s5.heap.Ns C m→FpOk X pins H' C→RelV v acc→compPost (model X.prog X.w) X.A X.xe use Qr acc C (.ok f) s5)
    (h:good X (rD X) O (cj ts.length caps fi gt ft fe ρ) σ H Q):
    wpAny (model X.prog X.w) X.A (comprehension (.ListComp elt [⟨tg,iter,ifs,0⟩] scope pos) scope X.env pos2 (newList []) false (eval iter X.env) use) Qr X.xe s:=by
  have B:=am0 hb
  refine wpAny_comprehension_free (cl:=jN X.env.cells scope.names []) (use:=use) rfl hs (adW fun x hx e=>?_) B.kind B.loc ?_
  · obtain⟨n,k⟩:=x
    have e:k= .free:=e
    subst e
    exact I.ok.has n (B.out n (wX hx))
  refine thn (hi pins s σ H (fun J H1=>∃xs,YR X.K O H1 J xs∧In X O H1 ρ σ∧good X (rD X) O ((nR (sO gt ft fe (KD ts.length caps ρ)) xs).bind (cap .lst)) σ H1 Q) I (Pu.go j h fun xs J H1 e1 s1 y1 j1 h1=>⟨xs,y1,j1,h1⟩)) fun xv s1 h1=>thn h1 fun itv s2 h2=>?_
  obtain⟨it,fp,tn,J,H2,e,I2,T,st2,f2,xs,yr,j2,g2⟩:=h2
  subst e
  rw[←adY hcap] at g2
  generalize eρ:pull X.N (gD scope) ts.length (ρ.map CQ)=ρ0 at g2
  obtain⟨all,hall,hlen,g3⟩:∃all,nR (sO gt ft fe ρ0) xs= .ok all∧all.length≤1000000∧good X (rD X) O (.ok (.lst all)) σ H2 Q:=by
    cases e:nR (sO gt ft fe ρ0) xs with
    |bad=>rw[e] at g2;exact g2.elim
    |err c=>exact absurd e N8
    | ok all=>
      rw[e] at g2
      have g2:good X (rD X) O (if all.length≤1000000 then .ok (.lst all) else .bad) σ H2 Q:=g2
      by_cases hl:all.length≤1000000
      · rw[if_pos hl] at g2;exact⟨all,rfl,hl,g2⟩
      · rw[if_neg hl] at g2;exact g2.elim
  have hlt:∀b∈fp,b < s2.heap.objs.size:=fun b hb=>by
    obtain⟨o,e,_⟩:=T.obj 0 _ st2 b hb
    exact Heap.lt_size e
  refine wpAny_newObj_type (agG ?_)
  generalize hC:(s2.heap.push {cls:= .type "list",dict:=none,data:= .seq ([]:List Value).toArray}).objs.size=C
  have hC':C=s2.heap.objs.size+1:=by rw[←hC];exact Heap.size_push ..
  generalize e4:pushCells ((s2.heap.push {cls:= .type "list",dict:=none,data:= .seq ([]:List Value).toArray}).push {cls:= .type "dict",data:= .dict #[]}) scope.names=h4
  show codeAny (model X.prog X.w) X.A (.compStart (.ListComp elt [⟨tg,iter,ifs,0⟩] scope pos) 0 (.ref it) (.ref s2.heap.objs.size) (jf scope X.env C)) (compPost (model X.prog X.w) X.A X.xe use Qr (.ref s2.heap.objs.size) C) {s2 with heap:=h4}
  have hDn:H2 s2.heap.objs.size=none:=I2.hok.fresh (Nat.le_refl _)
  have hOn:¬O s2.heap.objs.size:=j2.G6 hDn
  have hDk:X.K.lookup s2.heap.objs.size=none:=by
    cases q:X.K.lookup s2.heap.objs.size with
    |none=>rfl
    |some o=>exact absurd (Heap.lt_size (I2.kIn _ _ q)) (Nat.lt_irrefl _)
  have I4:=akl (ts:=ts) I2 B f2 hlt hC' e4.symm
  have sD:Same H2 (upd H2 s2.heap.objs.size (.lst [])):=Same.upd hDn
  have lρ0:ρ0.length=(ts++gD scope).length:=by rw[←eρ,CP,List.length_append]
  generalize eD:s2.heap.objs.size=Dd at *
  have alZ:∀{H':Hp},Same H2 H'→iu X.K O H2 (fun a=>O a∨a=Dd) H':=fun sm=>⟨(Same.iR (K:=X.K) (O:=O) sm).ext,fun a z=>z.elim .inl fun e=> .inr (by rw[e];exact⟨hDn,hDk⟩),(Same.iR (K:=X.K) (O:=O) sm).dom⟩
  have alO:∀{H':Hp} {ys:List V},Same H2 H'→H' Dd=some (.lst ys)→∀a,(O a∨a=Dd)→∃o,H' a=some o:=fun sm e a z=>z.elim (fun q=>let ⟨o,h⟩:=j2.al a q;⟨o,sm _ _ h⟩) fun q=>by rw[q];exact⟨_,e⟩
  have j4:In (fC X scope ts C s2 H2 fp) (fun a=>O a∨a=Dd) (upd H2 Dd (.lst [])) ρ0 (pull X.N (gD scope) ts.length σ):=by
    rw[←eρ]
    exact In.go (alM B j2.vals) Ug (alZ sD) (alO sD upd_same)
  have hv0:∀(i:Nat) e,ρ0[i]?=some (some e)→e.isV=true:=by rw[←eρ];exact Ug
  have hn0:∀i,i < ts.length→ρ0[i]?=some none:=by rw[←eρ];exact fun i h=>agI h
  have am7:∀b o,s2.heap.get? b=some o→h4.get? b=some o:=fun b o e=>by
    rw[←e4];exact pushCells_keeps _ _ b o (Heap.get?_push_of_some _ (Heap.get?_push_of_some _ e))
  have st4:tn 0 h4:=T.keep _ _ _ st2 fun b _ o e=>am7 b o e
  have stat:∀{H':Hp},(∀b∈fp,H' b=none)→∀b∈fp,FpOk (fC X scope ts C s2 H2 fp) [] H' b:=fun {H'} hn b hb=>by
    have hl: @LT.lt Nat _ b Dd:=hlt b hb
    obtain⟨_,a1,a2,a3,a4,_⟩:=f2 b hb
    refine⟨hn b hb,by show @Ne Nat b C;omega,fun z=>?_,.inl hb,fun x c h=>?_,fun p hp=>absurd (show p∈([]:List (Addr×Obj)) from hp) (by simp)⟩
    · rcases List.mem_cons.mp (I2.stkSub b z) with z |z
      · exact a1 z
      · exact a2 z
    · rcases nY B I2.ok.has h with⟨_,q⟩ |⟨_,q⟩
      · show @Ne Nat c b;omega
      · exact a4 x c q
  have fr4:∀b∈fp,(upd H2 Dd (.lst [])) b=none:=fun b hb=>by
    have hl: @LT.lt Nat _ b Dd:=hlt b hb
    rw[upd_ne (show @Ne Nat b Dd by omega)];exact (f2 b hb).1
  have loop : ∀ s0:Shared,s0={s2 with heap:=h4}→codeAny (model X.prog X.w) X.A (.compLoop (.ListComp elt [⟨tg,iter,ifs,0⟩] scope pos) 0 (.ref it) (.ref Dd) (jf scope X.env C)) (compPost (model X.prog X.w) X.A X.xe use Qr (.ref Dd) C) s0:=by
    intro s0 e0
    refine codeAny_loop rfl (fun n s'=>ai3 (fC X scope ts C s2 H2 fp) X.K (fun a=>O a∨a=Dd) H2 Dd fp tn ρ0 xs (sO gt ft fe ρ0) all n s') (fun n s' hI=>?_) (xs.length+1)
      ⟨0,_,_,[],[],all,rfl,Nat.zero_le _,e0▸I4,e0▸st4,fr4,j4,sD,upd_same,.nil,by simpa using hall,rfl⟩
    obtain⟨i,σ',H',ys,ds,rest,rfl,hil,I',st',fr',j',sm',hD',rp',hm',hr'⟩:=hI
    show wpAny (model X.prog X.w) X.A ((compTurn (.ListComp elt [⟨tg,iter,ifs,0⟩] scope pos) 0 (.ref it) (.ref Dd) (jf scope X.env C)).onRaise (fun x=>do noteFrame x (jf scope X.env C);theTreesLotGoes x)) _ _ s'
    refine wpAny_noted ?_
    rw[compTurn_list]
    have yat:=yr _ H' (alZ sm') i
    refine wpAny_bind (wpAny_standAt (wpAny_bind ?_))
    by_cases hlt':i < xs.length
    · -- a turn
      have ex:xs[i]?=some xs[i]:=by simp[hlt']
      have ed:xs.drop i=xs[i]::xs.drop (i+1):=List.drop_eq_getElem_cons hlt'
      rw[ed] at hm'
      obtain⟨o,rest',k1,k2,k3⟩:=agH hm'
      obtain⟨jgo,jy⟩:=yat.1 _ ex
      refine wpAny_mono (T.item (fC X scope ts C s2 H2 fp) rfl rfl rfl hc i [] s' σ' H' (fun _ _=>False) I' (stat fr') st' jgo) (fun r s4 ⟨u,hr,h4'⟩=>?_) fun _ _ z=>z.elim
      subst hr
      refine wpAny_bind (wpAny_mono h4' (fun _ s5 ⟨x,H5,I5,r5,y5,st5,fr5⟩=>?_) fun _ _ z=>z.elim)
      obtain⟨YB,anu⟩:=jy x H5 y5
      have I5':=I5.pinned (stat fr5) (T.obj _ _ st5)
      have k1:(gt xs[i] ρ0).bind (fun ρ1=>(ft ρ1).bind fun b=>if b=true then (fe ρ1).bind fun d=> .ok (some d) else .ok none)= .ok o:=k1
      cases q1:gt xs[i] ρ0 with
      |bad=>rw[q1] at k1;cases k1
      |err c=>rw[q1] at k1;cases k1
      | ok ρ1 =>
        rw[q1] at k1
        have k1:(ft ρ1).bind (fun b=>if b=true then (fe ρ1).bind fun d=> .ok (some d) else .ok none)= .ok o:=k1
        refine wpAny_bind (wpAny_mono (hg C s2 H2 fp B.nd _ s5 σ' H5 x u (fun σ6 H6=>H6=H5∧In (fC X scope ts C s2 H2 fp) (fun a=>O a∨a=Dd) H5 ρ1 σ6) I5' r5 ⟨ρ0,_,xs[i],ρ1,j'.same YB,anu,q1,fun σ6 j6=>⟨rfl,j6⟩⟩) (fun _ s6 ⟨σ6,H6,I6,eH,j6⟩=>?_) fun _ _ z=>(show False from z).elim)
        subst eH
        cases q2:ft ρ1 with
        |bad=>rw[q2] at k1;cases k1
        |err c=>rw[q2] at k1;cases k1
        | ok bb =>
          rw[q2] at k1
          have k1:(if bb=true then (fe ρ1).bind fun d=>R.ok (some d) else .ok none)= .ok o:=k1
          have gtest:tG (fC X scope ts C s2 H2 fp) rB ft σ6 H6 (fun b H7=>b=bb∧Same H6 H7):=⟨ρ1,_,j6,by rw[q2];exact fun b H7 s7 e7=>⟨e7.symm,s7⟩⟩
          refine wpAny_bind (wpAny_mono (ht C s2 H2 fp _ s6 σ6 H6 _ I6 gtest) (fun ok s7 ⟨H7,I7,ok7,Oq⟩=>?_) fun _ _ z=>(show False from z).elim)
          subst ok7
          have back:∀{H8:Hp} {s8:Shared} {ys':List V} {ds':List D},Inv (fC X scope ts C s2 H2 fp) ([]++pinsAt fp s5.heap) σ6 H8 s8→Same H2 H8→In (fC X scope ts C s2 H2 fp) (fun a=>O a∨a=Dd) H8 ρ0 σ6→H8 Dd=some (.lst ys')→aQ X.K (fun a=>O a∨a=Dd) H8 ds' ys'→ds'++rest'=all→
              ∃m,m < xs.length+1 - i∧ai3 (fC X scope ts C s2 H2 fp) X.K (fun a=>O a∨a=Dd) H2 Dd fp tn ρ0 xs (sO gt ft fe ρ0) all m s8:=by
            intro H8 s8 ys' ds' I8 sm8 j8 hD8 rp8 hr8
            refine⟨xs.length+1 - (i+1),by omega,i+1,σ6,H8,ys',ds',rest',rfl,by omega,I8.unpinned,T.keep _ _ _ st5 fun b hb o e=>(I8.pin (b,o) (List.mem_append_right _ (List.mem_append_right _ (mem_pinsAt hb e)))).1,fun b hb=>?_,j8,sm8,hD8,rp8,k2,hr8⟩
            obtain⟨o,e,d⟩:=T.obj _ _ st5 b hb
            exact (I8.pin (b,o) (List.mem_append_right _ (List.mem_append_right _ (mem_pinsAt hb e)))).2.1
          have j60:In (fC X scope ts C s2 H2 fp) (fun a=>O a∨a=Dd) H6 ρ0 σ6:=In.back (n:=ts.length) j6 hn0 (fun k hk'=>hk _ _ _ q1 k hk') lρ0
          cases ok with
          | false=>
            have k1:R.ok none=R.ok o:=k1
            cases k1
            refine wpAny_pure ⟨rfl,?_⟩
            refine back I7 (sm'.trans (YB.trans Oq)) (j60.same Oq) (Oq _ _ (YB _ _ hD')) (rp'.same (YB.trans Oq)) ?_
            rw[←hr',k3];rfl
          | true =>
            have k1:(fe ρ1).bind (fun d=>R.ok (some d))= .ok o:=k1
            cases q3:fe ρ1 with
            |bad=>rw[q3] at k1;cases k1
            |err c=>rw[q3] at k1;cases k1
            | ok d =>
              rw[q3] at k1
              have k1:R.ok (some d)=R.ok o:=k1
              cases k1
              have anv:tG (fC X scope ts C s2 H2 fp) (rD (fC X scope ts C s2 H2 fp)) fe σ6 H7 (fun v H8=>Same H7 H8∧Rep X.K (fun a=>O a∨a=Dd) H8 d v):=⟨ρ1,_,j6.same Oq,by rw[q3];exact fun v H8 s8 r8=>⟨s8,r8⟩⟩
              refine wpAny_bind (wpAny_bind (wpAny_mono (he C s2 H2 fp _ s7 σ6 H7 _ I7 anv) (fun xv s8 ⟨v8,H8,I8,r8,sm8,anw⟩=>?_) fun _ _ z=>(show False from z).elim))
              have hD8:H8 Dd=some (.lst ys):=sm8 _ _ (Oq _ _ (YB _ _ hD'))
              have rp8:aQ X.K (fun a=>O a∨a=Dd) H8 ds ys:=rp'.same (YB.trans (Oq.trans sm8))
              have hds:ds++d::rest'=all:=by rw[←hr',k3];rfl
              have hyl:ys.length < sizeLine:=by
                have:=jz
                have e1:=rp8.length
                have e2:=congrArg List.length hds
                rw[List.length_append,List.length_cons] at e2
                omega
              refine wpAny_bind (wpAny_mono (mt_append (X:=fC X scope ts C s2 H2 fp) _ s8 σ6 H8 (.ref Dd) [v8] (.ref Dd) [xv] (fun _ H9=>H9=upd H8 Dd (.lst (ys++[v8]))) I8 rfl (.cons r8 .nil) ⟨_,ys,v8,rfl,rfl,hD8,hyl,rfl⟩) (fun _ s9 ⟨_,H9,I9,_,eH9⟩=>?_) fun _ _ z=>(show False from z).elim)
              subst eH9
              have anx:Same H2 H8:=sm'.trans (YB.trans (Oq.trans sm8))
              have al0:iu X.K (fun a=>O a∨a=Dd) H8 (fun a=>O a∨a=Dd) (upd H8 Dd (.lst (ys++[v8]))):=by
                refine⟨⟨fun b zs h=>?_,fun b zs n h=>?_⟩,fun a z=> .inl z,fun a z=>?_⟩
                · have nb:b≠Dd:=fun e=>by
                    rw[e] at h
                    rcases h with h |⟨o,h⟩ <;> rw[hD8] at h <;> cases h
                  rcases h with h |⟨o,h⟩
                  · exact .inl (by rw[upd_ne nb];exact h)
                  · exact .inr ⟨o,by rw[upd_ne nb];exact h⟩
                · have nb:b≠Dd:=fun e=>n (.inr e)
                  rcases h with h |⟨o,h⟩
                  · exact .inl (by rw[upd_ne nb];exact h)
                  · exact .inr ⟨o,by rw[upd_ne nb];exact h⟩
                · by_cases ea:a=Dd
                  · rw[ea,upd_same] at z;cases z
                  · rw[upd_ne ea] at z;exact z
              have sm9:Same H2 (upd H8 Dd (.lst (ys++[v8]))):=fun b o e=>by
                rw[upd_ne (ne_of_none e hDn)];exact anx _ _ e
              refine wpAny_pure (wpAny_pure ⟨rfl,?_⟩)
              refine back I9 sm9 (In.go (j60.same (Oq.trans sm8)) hv0 al0 (alO sm9 upd_same)) upd_same ((rp8.append (.cons anw .nil)).go al0) ?_
              rw[List.append_assoc];exact hds
    · -- the end
      have ei:i=xs.length:=by omega
      subst ei
      have hrest:rest=[]:=by
        have hm':nR (sO gt ft fe ρ0) (xs.drop xs.length)= .ok rest:=hm'
        rw[List.drop_length] at hm'
        cases hm';rfl
      subst hrest
      rw[List.append_nil] at hr'
      subst hr'
      refine wpAny_mono (T.done (fC X scope ts C s2 H2 fp) rfl rfl rfl hc _ [] s' σ' H' (fun _ _=>False) I' (stat fr') st' (yat.2 (Nat.le_refl _))) (fun r s5 ⟨hr,I5⟩=>?_) fun _ _ z=>z.elim
      subst hr
      refine wpAny_pure ?_
      obtain⟨m,hns,_⟩:=I5.loc
      have hCn:H' C=none:=I5.free
      have I6:Inv X pins σ H' s5:=by
        refine I2.call' (s':=s5) (ch:=fp) I5.os ⟨fun b o e n hb hx=>I5.base.keep b o e n hb hx,fun b o e n hb hx=>I5.base.slot b o e n hb hx,I5.base.free,fun b o e hx=>I5.base.there b o e hx,I5.base.tups,I5.base.frzs,I5.base.tbls⟩ (fun b u e=>I5.hok b u e) I5.bare fun b hb=>⟨(f2 b hb).2.2.2.1,(f2 b hb).2.1,(f2 b hb).2.2.2.2.1,(f2 b hb).2.2.2.2.2⟩
      exact hQ (.ref Dd) H' s5 C m _ (.ref Dd) (g3 _ _ sm' (wI (SqL.of hD') hOn (rp'.fewer fun a z=> .inl z))) I6 hns (I2.fpOk (show @LE.le Nat _ _ C by omega) hCn) rfl
  exact codeAny_compStart_list (loop _ rfl) (T.self _ 0 _ _ _ st4 (loop _ rfl))
theorem bW {tg iter elt:Expr} {ifs:List Expr} {scope:Scope} {pos:Pos} {fi:au→R (List D)} {gt:D→au→R au} {ft:au→R Bool} {fe:au→R D} (ts:List Str) (caps:List Nat)
    (hc:X.calm=true) (hb:adV X.env.scope scope ts X.N=true) (hcap:(gD scope).map (fun x=>vg x X.N)=caps)
    (hi:DI X tg iter fi) (hk:G7 ts.length gt) (hg:∀C s H ex,(fC X scope ts C s H ex).N.Nodup→DG (fC X scope ts C s H ex) tg gt) (ht:∀C s H ex,DTs (fC X scope ts C s H ex) ifs ft) (he:∀C s H ex,DE (fC X scope ts C s H ex) elt fe)
    (hs:∀x,foldedSetIterable iter X.env x=pure x:=by intro _;rfl):
    DE X (.ListComp elt [⟨tg,iter,ifs,0⟩] scope pos) (cj ts.length caps fi gt ft fe):=by
  intro pins s σ H Q I h
  obtain⟨ρ,O,j,h⟩:=h
  rw[eval_ListComp]
  exact ai4 ts caps hc hb hcap hi hk hg ht he hs (use:=none) (Qr:=EP X pins σ Q) I j (fun v H' s5 C m f acc hv I6 hns fp rv=>⟨m,hns,fun h' sb=>⟨v,H',I6.fp fp sb,rv,hv⟩⟩) h
end
end Pu
namespace Pu
open PySem PySem.Spec L2
open PyProof.Rows hiding St
noncomputable def ai5:List D→R (List D)
  |[.lst ds]=> .ok ds.reverse
  |_=> .bad
section
variable {ρ ρ1:au} {fa:au→R (List D)} {F:List D→R D} {ds:List D} {n:Nat} {d:D} {c:Str} {f:au→R D} {gt:D→au→R au} {p:au→R Bool} {s t:au→So} {o:So}
end
end Pu
namespace Pu
open PySem PySem.Spec L2
open PyProof.Rows hiding St
section
variable {M:Model} {A:Around} {E:Value→Shared→Prop} {s:Shared}
end
section
variable {P:Program} {w:World} {fs fs':List Addr} {H H' H0:Hp} {s s' s0:Shared} {a C:Addr} {T:Option Addr} {h':Heap} {t':Addr}
end
end Pu
namespace Pu
open PySem PySem.Spec L2
open PyProof.Rows hiding St
section
variable {P:Program} {w:World} {K:PySem.W.Frag} {mg:Str→Option Value} {base:Heap}
end
section
variable {X:Cx} {k n m:Nat} {F:List D→R D} {x:Str} {p pos:Pos} {e:Expr} {es:List Expr} {fa:au→R (List D)}
end
end Pu
namespace Pu
open PySem PySem.Spec L2
open PyProof.Rows hiding St
section
variable {X:Cx} {c:Str} {C:Addr} {np cpos pos:Pos} {e:Expr} {fa:au→R (List D)}
end
section
variable {X:Cx} {pins:List (Addr×Obj)} {σ:St} {H:Hp} {s:Shared}
end
section
variable {X:Cx} {pins:List (Addr×Obj)} {σ:St} {H:Hp} {s:Shared} {E:Value→Shared→Prop}
end
section
variable {X:Cx} {t n:Str} {CT:Addr} {np hpos pos:Pos} {body suite:List Stmt} {b₀:Stmt} {g h:au→So} {sub:Str→Str→Bool}
end
section
variable {prog:Program} {w:World} {A:Around} {E:Value→Shared→Prop} {s:Shared} {K:PySem.W.Frag} {x C:Addr} {ox:Obj} {od:Option Obj}
end
section
variable {X:Cx} {sub:Str→Str→Bool}
end
end Pu
namespace Pu
open PySem PySem.Spec L2
open PyProof.Rows hiding St
noncomputable def Itv (K:PySem.W.Frag) (l:Addr) (n:Nat):It:=
  ⟨fun i H=>∃xs x,SqL K H l xs∧xs.length=n∧i < n∧xs[n - 1 - i]?=some x,fun i H x H'=>H'=H∧∀xs,SqL K H l xs→xs[n - 1 - i]?=some x,fun i _=>n≤i⟩
theorem ai6 {P:Program} {w:World} {K:PySem.W.Frag} {tg:Expr} {l it:Addr} {n:Nat}:Turn P w K tg (Itv K l n) [it] it (fun i h=>i≤n∧h.IsRevIter it l ((n:Int) - 1 - (i:Int))) where
  mem:=by simp
  obj:=fun i h st b hb=>by
    have e:b=it:=by simpa using hb
    subst e
    obtain⟨_,o,e,c,d⟩:=st
    exact⟨o,e,fun v z=>by rw[d] at z;cases z⟩
  keep:=fun i h h' st k=>⟨st.1,st.2.at fun o e=>k it (by simp) o e⟩
  item:=by
    intro X hP hw hK hc i pins s σ H E I hf st hg
    subst hP hw hK
    obtain⟨xs,x,hq,hn,hi,hx⟩:=hg
    obtain⟨its,rv,p,hz⟩:=I.list hq
    obtain⟨u,hu,ru⟩:=rv.get hx
    obtain⟨f0,f1,f2,f3,f4,f5⟩:=hf it (by simp)
    have e1:(n:Int) - 1 - (i:Int)=((n - 1 - i:Nat):Int):=by omega
    have st1:=st.2
    rw[e1] at st1
    refine wpAny_pyNext_rev_item st1 p.isList (x:=u) (by simpa using hu) fun h' st' sb=>?_
    have I1:Inv X pins σ H {s with heap:=h'}:=I.turned (t':=s.toks) (fun b o hb e=>(sb.2 b hb).trans e) f0 f1 f3 f4 f5
    have e2:((n - 1 - i:Nat):Int) - 1=(n:Int) - 1 - ((i+1:Nat):Int):=by omega
    rw[e2] at st'
    obtain⟨o,e,c,d⟩:=id st'
    exact⟨u,rfl,go_of (s:={s with heap:=h'}) e c d (by decide) ⟨x,H,I1,ru,⟨rfl,fun ys hy=>by rw[I.list_inj hy hq];exact hx⟩,⟨hi,st'⟩,fun b hb=>(hf b hb).1⟩⟩
  done:=by
    intro X hP hw hK hc i pins s σ H E I hf st hg
    subst hP hw hK
    have hg:n=i:=Nat.le_antisymm hg st.1
    subst hg
    obtain⟨f0,f1,f2,f3,f4,f5⟩:=hf it (by simp)
    have st1:=st.2
    rw[show (n:Int) - 1 - (n:Int)= -1 by omega] at st1
    exact wpAny_pyNext_rev_end (I.ok.hd hc) st1 fun h' eb=>⟨rfl,I.turned (t':=s.toks) (fun b o hb e=>eb b o hb e) f0 f1 f3 f4 f5⟩
  self:=fun _ _ _ _ _ st h=>wpAny_pyIter_revIter st.2 h
section
variable {X:Cx} {tg a:Expr} {p pos:Pos} {fa:au→R (List D)}
noncomputable def anz (K:PySem.W.Frag) (ta:TA):TI:=fun σ H R=>ta σ H fun vs H1=>∃l xs,vs=[.ref l]∧SqL K H1 l xs∧R (Itv K l xs.length) H1
theorem al1 {ta:TA} (hg:Gl X "reversed") (hm:X.mg "reversed" =none) (ha:PA X [a] ta) (he:starEach [a] X.env=(false,eval a X.env)::starEach [] X.env:=by rfl) (hpl:(backTo pos (starEach [] X.env)).any (·.1)=false:=by rfl):
    PI X tg (.Call (.Name "reversed" p) [a] [] pos) (anz X.K ta):=by
  intro pins s σ H R I h
  refine Call_ (ld_blt I hg hm boot_reversed (PyProof.Rows.callWith_type1 (thn (ha pos pins s σ H _ I h) fun us s1 ⟨vs,H1,I1,r1,q1⟩=>?_) he hpl))
  obtain⟨l,xs,e,hq,q⟩:=q1
  subst e
  cases r1 with
  | cons r rr=>
    cases rr
    cases r
    obtain⟨its,rv,p1,hz⟩:=I1.list hq
    have hl:its.toArray.size=xs.length:=by rw[List.size_toArray,rv.length]
    refine call_reversed_list p1.isList ?_
    rw[hl]
    have hit:(s1.heap.push (revObj l ((xs.length:Int) - 1))).IsRevIter s1.heap.objs.size l ((xs.length:Int) - 1):=⟨_,Heap.get?_push_size _ rfl,rfl,rfl⟩
    refine wpAny_pyIter_revIter (s:={s1 with heap:=s1.heap.push (revObj l ((xs.length:Int) - 1))}) hit ?_
    refine⟨s1.heap.objs.size,[s1.heap.objs.size],_,_,H1,rfl,I1.kept (t':=s1.toks) fun b o e=>Heap.get?_push_of_some _ e,ai6,⟨Nat.zero_le _,?_⟩,fun b hb=>?_,q⟩
    · rw[show (xs.length:Int) - 1 - ((0:Nat):Int)=(xs.length:Int) - 1 by omega];exact hit
    · have e:b=s1.heap.objs.size:=by simpa using hb
      subst e
      exact I1.fpOk (Nat.le_refl _) (I1.hok.fresh (Nat.le_refl _))
theorem YR.rev {K:PySem.W.Frag} {O:Addr→Prop} {H:Hp} {a:Addr} {ds:List D} {xs:List V} (h:SqL K H a xs) (n:¬O a) (r:aQ K O H ds xs):YR K O H (Itv K a xs.length) ds.reverse:=by
  intro O' H' q
  have h':SqL K H' a xs:=SqL.ext q.ext n h
  have r':=r.go q
  intro i
  refine⟨fun d e=>?_,fun e=>?_⟩
  · have hi:i < ds.length:=by
      have:=(List.getElem?_eq_some_iff.mp e).1
      simpa using this
    rw[List.getElem?_reverse (by simpa using hi)] at e
    have hl:=r.length
    obtain⟨v,e1,rv⟩:=r'.get e
    rw[hl] at e1
    refine⟨⟨xs,v,h',rfl,by omega,e1⟩,fun x H2 y=>?_⟩
    obtain⟨eH,y⟩:=y
    subst eH
    have:=y xs h'
    rw[e1] at this;cases this
    exact⟨Same.refl _,rv⟩
  · show xs.length≤i
    rw[←r.length]
    simpa using e
theorem al2 (hg:Gl X "reversed") (hm:X.mg "reversed" =none) (ha:DA X [a] fa) (he:starEach [a] X.env=(false,eval a X.env)::starEach [] X.env:=by rfl) (hpl:(backTo pos (starEach [] X.env)).any (·.1)=false:=by rfl):
    DI X tg (.Call (.Name "reversed" p) [a] [] pos) (fun ρ=>(fa ρ).bind ai5):=by
  refine PI.imp (al1 hg hm ha he hpl) fun σ H Q q=>?_
  obtain⟨ρ,O,j,q⟩:=q
  refine go j q fun ds vs H1 e1 s1 r1 j1 h1=>?_
  unfold ai5 at h1
  split at h1
  · rename_i xs
    obtain⟨v1,rfl,w1⟩:=r1.one
    obtain⟨l,us,rfl,hq,hn,rs⟩:=w1.lst
    exact⟨l,us,rfl,hq,fin h1 (YR.rev hq hn rs)⟩
  · exact h1.elim
end
section
variable {X:Cx}
end
end Pu
namespace Pu
open PySem PySem.Spec L2
open PyProof.Rows hiding St
noncomputable def Tb (ts:List (Addr×Str)) (H:Hp):Prop:=∀p∈ts,∃(ps:Array Value) (tq:Tok),H p.1=some (.tbl ps)∧ps[0]?=some (.str p.2 tq)
theorem Tb.un {ts:List (Addr×Str)} {fs ex:List Addr} {H H':Hp} {h h':Heap} (t:Tb ts H) (u:Un fs ex H H' h h'):Tb ts H':=fun p hp=>by
  obtain⟨ps,tq,e,q⟩:=t p hp
  obtain⟨more,e'⟩:=u.tbls _ _ e
  refine⟨_,tq,e',?_⟩
  obtain⟨hl,_⟩:=Array.getElem?_eq_some_iff.mp q
  rw[Array.getElem?_append_left hl];exact q
theorem Tb.same {ts:List (Addr×Str)} {H H':Hp} (t:Tb ts H) (s:Same H H'):Tb ts H':=fun p hp=>let ⟨ps,tq,e,q⟩:=t p hp;⟨ps,tq,s _ _ e,q⟩
theorem Ot {α β:Type} {F:α→β→Prop}:∀{es:List α} {vs:List β} {i:Nat} {e:α},Paired F es vs→es[i]?=some e→∃v,vs[i]?=some v∧F e v
  |_,_,_,_,.nil,h=>by simp at h
  |_,_,0,_,.cons r _,h=>by simp at h;subst h;exact⟨_,rfl,r⟩
  | _,_,i+1,e,.cons _ t,h=>by
    obtain⟨v,h1,h2⟩:=Ot (i:=i) (e:=e) t (by simpa using h)
    exact⟨v,by simpa using h1,h2⟩
theorem ad7 {α β:Type} {F:α→β→Prop}:∀{es:List α} {vs:List β},Paired F es vs→es.length=vs.length
  :=by
  intro es vs h
  induction h with
  |nil=>rfl
  |cons r t ih=>rw[List.length_cons,List.length_cons,ih]
theorem Ou {α β:Type} {F:α→β→Prop}:∀{es fs:List α} {vs ws:List β},Paired F es vs→Paired F fs ws→Paired F (es++fs) (vs++ws)
  :=by
  intro es fs vs ws h q
  induction h with
  |nil=>exact q
  |cons r t ih=>exact .cons r ih
noncomputable abbrev al3 (K:PySem.W.Frag) (O:Addr→Prop) (H:Hp):Ent→V→Prop:=fun e v=>vd K O H e v∧e.own=false
theorem zQ {K:PySem.W.Frag} {O:Addr→Prop} {H:Hp}:∀{ds:List D} {vs:List V},aQ K O H ds vs→Paired (al3 K O H) (ds.map .val) vs
  |[],vs,r=>by rw[r.nil_inv];exact .nil
  | d::ds,vs,r=>by
    obtain⟨x,t,rfl,h1,h2⟩:=r.cons_inv
    exact .cons ⟨h1,rfl⟩ (zQ h2)
theorem Mu {X:Cx} {O:Addr→Prop} {H:Hp} {es:List Ent} {vs:List V} {m:Nat} (hl:X.N.length=es.length+m) (r:Paired (al3 X.K O H) es vs) (al:∀a,O a→∃o,H a=some o):
    At X H O O H (es.map some++List.replicate m none) (vs.map some++List.replicate m none):=by
  have hlen:=ad7 r
  have get:∀(i:Nat) e,(es.map some++List.replicate m none)[i]?=some (some e)→∃v,(vs.map some++List.replicate m none)[i]?=some (some v)∧vd X.K O H e v∧e.own=false:=fun i e q=>by
    by_cases hi:i < es.length
    · rw[List.getElem?_append_left (by simpa using hi),List.getElem?_map] at q
      cases z:es[i]? with
      |none=>rw[z] at q;cases q
      | some e'=>
        rw[z] at q;cases q
        obtain⟨v,h1,h2,h3⟩:=Ot r z
        exact⟨v,by rw[List.getElem?_append_left (by rw[List.length_map,←hlen];exact hi),List.getElem?_map,h1];rfl,h2,h3⟩
    · rw[List.getElem?_append_right (by simpa using hi),List.getElem?_replicate] at q
      split at q <;> cases q
  refine⟨Same.refl _,.refl,fun _ z=>z,⟨⟨fun i e q=>?_,fun i k e e' v _ hi _ oi=>?_⟩,al,?_,?_⟩,fun i e a q ho=>?_⟩
  · obtain⟨v,h1,h2,_⟩:=get i e q
    exact⟨v,h1,h2⟩
  · obtain⟨_,_,_,h3⟩:=get i e hi
    rw[h3] at oi;cases oi
  · rw[List.length_append,List.length_map,List.length_replicate,←hlen];exact hl.symm
  · rw[List.length_append,List.length_map,List.length_replicate];exact hl.symm
  · obtain⟨_,_,_,h3⟩:=get i e q
    rw[h3] at ho;cases ho
theorem Mv {N:List Str} {vs:List V} {m:Nat} (h:N.length=vs.length+m):L2.start N vs=vs.map some++List.replicate m none:=by
  unfold L2.start
  rw[show N.length - vs.length=m by omega]
noncomputable def spT (ts:List (Addr×Str)) (K:PySem.W.Frag) (n:Nat) (F:List D→R D):Sp:=fun vs H Q E=>Tb ts H∧Lb K n F vs H Q E
section
variable {P:Program} {w:World} {K:PySem.W.Frag} {mg:Str→Option Value} {base:Heap}
noncomputable def ji (m:Nat) (g:au→So) (es:List Ent):R D:=match g (es.map some++List.replicate m none) with
  | .rt d=> .ok d
  | .nx _=> .ok .non
  |_=> .bad
theorem ada {X:Cx} {H:Hp} {O:Addr→Prop} {m:Nat} {g:au→So} {es:List Ent} {Q:VK} (h:match ji m g es with | .ok d=>∀v H',Same H H'→Rep X.K O H' d v→Q v H' |_=>False):
    Gj X H O O H {nx:=fun _ H'=>Q .non H',rt:=Q} (g (es.map some++List.replicate m none)):=by
  unfold ji at h
  cases e2:g (es.map some++List.replicate m none) with
  |rt d=>rw[e2] at h;exact fun v H' s' r'=>h v H' s' r'
  |nx ρ'=>rw[e2] at h;exact fun σ' H' O' j' _=>h .non H' j'.same wH
  |bk _=>rw[e2] at h;exact h.elim
  |ct _=>rw[e2] at h;exact h.elim
  |ex _ _=>rw[e2] at h;exact h.elim
  |bad=>rw[e2] at h;exact h.elim
theorem Lg {x qual:Str} {st:Stmt} {f:Addr} {fd:FuncData} {N ps:List Str} {k n m:Nat} {g:au→So} {ts:List (Addr×Str)} (Fn:Fun K x qual st f fd) (S:FnScope N ps (defScope st)) (hn:ps.length=n) (hm:N.length=n+m)
    (hb:∀(cdv:Value) (A:Around) (outer:List PySem.Env) (s:Shared) (H:Hp) (E:XK),fd.code=cdv→Room k (A.deeper (envOfC qual (defScope st) s.heap.objs.size f cdv))→Tb ts H→cG (cxOf CX0 P w K mg base N qual (defScope st) f cdv A outer s H E).nox (defBody st) g):
    FnOk P w K mg base CX0 (k+1) f fd ps (spT ts K n (fun ds=>ji m g (ds.map .val))):=by
  obtain⟨oc,od,kV,doc,pm,an,cdv,ct,osl,rfl,lk,hcd⟩:=Fn.ex
  refine fn_of lk hcd S (fun vs H Q E h=>?_) fun A outer s H vs Q E hr h=>?_
  · obtain⟨_,O,ds,r,hl,_⟩:=h
    rw[hn,←hl,r.length]
  · obtain⟨hT,O,ds,r,hl,al,h⟩:=h
    have Lh:N.length=vs.length+m:=by rw[hm,←hl,r.length]
    refine⟨_,(hb cdv A outer s H E rfl hr hT).nox,H,O,O,(ds.map Ent.val).map some++List.replicate m none,?_,ada h⟩
    rw[Mv Lh]
    exact Mu (X:=(cxOf CX0 P w K mg base N qual (defScope st) f cdv A outer s H E).nox) (by rw[List.length_map,r.length];exact Lh) (zQ r) al
end
noncomputable def dO (P:Program) (w:World) (K:PySem.W.Frag) (mg:Str→Option Value) (base:Heap) (k:Nat) (x:Str) (n:Nat) (F:List D→R D) (fd:FuncData) (ps:List Str) (ts:List (Addr×Str)):Prop:=
  ∃f,FnOk P w K mg base CX0 k f fd ps (spT ts K n F)∧mg x=some (.ref f)∧PySem.W.keepIn K (.ref f)=true
section
variable {X:Cx} {k m n:Nat} {fd:FuncData} {ps ks:List Str} {F:List D→R D} {x:Str} {p pos:Pos} {e:Expr} {es:List Expr} {kws:List Keyword} {fa fk:au→R (List D)} {ts:List (Addr×Str)}
theorem uT (G:dO X.prog X.w X.K X.mg X.base k x n F fd ps ts) (hT:Tb ts X.H₀) (hr:Room m X.A) (hkm:k≤m) (hb:Binds X.K fd ps []) (ha:DA X (e::es) fa) (hg:Gl X x:=by rfl)
    (hdb:(x ==("__debug__" :Str))=false:=by decide) (he:starEach (e::es) X.env=(false,eval e X.env)::starEach es X.env:=by rfl) (hpl:(backTo pos (starEach es X.env)).any (·.1)=false:=by rfl):
    DE X (.Call (.Name x p) (e::es) [] pos) (aF (aP F n) fa):=by
  obtain⟨f,ok,hm,hk⟩:=G
  intro pins s σ H Q I h
  refine pe_call (dvs:=[]) (ok.mono hkm) hr hg hm hk hb .nil pass0 ha hdb he hpl pins s σ H Q I ?_
  obtain⟨ρ,O,j,h⟩:=h
  refine go j h fun ds vs H1 e1 s1 r1 j1 h1=>?_
  unfold aP at h1
  by_cases hl:ds.length=n
  · rw[if_pos hl] at h1
    rw[List.append_nil]
    refine⟨(hT.un I.base).same s1,O,ds,r1,hl,j1.al,?_⟩
    cases q:F ds with
    |ok d=>rw[q] at h1;exact h1
    |err c=>rw[q] at h1;exact h1
    |bad=>rw[q] at h1;exact h1
  · rw[if_neg hl] at h1;exact h1.elim
theorem pJ {sa sb sc} (S:Sel sa sb sc) (G:dO X.prog X.w X.K X.mg X.base k x n F fd ps ts) (hT:Tb ts X.H₀) (hr:Room m X.A) (hkm:k≤m) (hb:KB X.K fd ps ks sa)
    (ha:DA X (e::es) fa) (hkw:DK X kws fk) (hg:Gl X x:=by rfl) (hall:(backToKw pos (keywordEach kws X.env)).all (·.1.isSome)=true:=by rfl) (hks:(backToKw pos (keywordEach kws X.env)).filterMap (·.1)=ks:=by rfl)
    (hdb:(x ==("__debug__" :Str))=false:=by decide) (he:starEach (e::es) X.env=(false,eval e X.env)::starEach es X.env:=by rfl)
    (hpl:((backTo pos (starEach (e::es) X.env)).any (·.1) || (backToKw pos (keywordEach kws X.env)).any (·.1.isNone))=false:=by rfl):
    DE X (.Call (.Name x p) (e::es) kws pos) (mK F n ks.length sc fa fk):=by
  obtain⟨f,ok,hm,hk⟩:=G
  have G:=ok.mono hkm
  intro pins s σ H Q I h
  refine wpAny_Call_Name_kw (ld_glob I hg hm ?_ hdb)
  obtain⟨ρ,O,j,h⟩:=h
  have key:tG X (Ub X) fa σ H fun vs H1=>tG X (Ub X) fk σ H1 fun zs H2=>zs.length=ks.length∧spT ts X.K n F (vs++pickK .non sb zs) H2 Q E0:=by
    refine go j h fun ds vs H1 e1 s1 r1 j1 h1=>?_
    refine go j1 h1 fun zd zs H2 e2 s2 r2 j2 h2=>?_
    by_cases hz:zd.length=ks.length
    · rw[if_pos hz] at h2
      unfold aP at h2
      by_cases hl:(ds++pickK .non sc zd).length=n
      · rw[if_pos hl] at h2
        refine⟨by rw[←r2.length];exact hz,((hT.un I.base).same s1).same s2,O,_,(r1.same s2).append (S.reps r2),hl,j2.al,?_⟩
        cases q:F (ds++pickK .non sc zd) with
        |ok d=>rw[q] at h2;exact h2
        |err c=>rw[q] at h2;exact h2
        |bad=>rw[q] at h2;exact h2
      · rw[if_neg hl] at h2;exact h2.elim
    · rw[if_neg hz] at h2;exact h2.elim
  refine PySem.W.callWith_KW (h₀:=X.base) I.ok.mod.kin hk hall (thn (ha pos pins s σ H _ I key) fun us s1 ⟨vs,H1,I1,r,q⟩=>?_) hpl he
  refine thn (hkw pos pins s1 σ H1 _ I1 q) fun ws s2 ⟨zs,H2,I2,rz,q2⟩=>⟨I2.kIn,?_⟩
  rw[hks]
  obtain⟨hz,q2⟩:=q2
  have r2:=r.append (S.vals rz)
  have hl:(us++pickK .none sa ws).length=ps.length:=by rw[←r2.length];exact G.len _ _ _ _ q2
  refine wpAny_call (codeAny_mono (G.run X.A X.stack s2 H2 ⟨us,ks.zip ws⟩ _ _ Q E0 hr I2.env0 (hb s2 us ws I2.kIn (by rw[List.length_append,Uj] at hl;exact hl) (by rw[←rz.length];exact hz)) r2 q2) fun r s' hq=>?_)
  cases r with
  |error e=>exact pass0 pins σ H2 s2 e s' I2 hq
  | ok fl=>
    cases fl with
    |ret u=>exact I2.after hq
    |next=>exact False.elim hq
    |brk=>exact False.elim hq
    |cont=>exact False.elim hq
end
end Pu
namespace Pu
open PySem PySem.Spec L2
open PyProof.Rows hiding St
theorem aaW {a b:Int} {s t:Tok} {c:Value} (l:List Value) (h:TriplesOk l):TriplesOk (l++[.int a s,.int b t,c]):=by
  fun_induction TriplesOk l with
  |case1=>simp[TriplesOk]
  |case2 x1 x2 x3 x4 x5 rest ih=>simp only[List.cons_append,TriplesOk];exact ih h
  |case3=>exact h.elim
theorem ag4 {a b:Int} {s t:Tok} {c cv:Value} {pos:Pos} (l:List Value) (h:TriplesOk l) (e:codeAmong pos (l++[.int a s,.int b t,c])=some cv):codeAmong pos l=some cv∨cv=c:=by
  fun_induction TriplesOk l with
  | case1=>
    simp only[List.nil_append,codeAmong] at e
    split at e
    · cases e;exact .inr rfl
    · cases e
  | case2 x1 x2 x3 x4 x5 rest ih=>
    simp only[List.cons_append,codeAmong] at e ⊢
    split at e
    · rename_i z;rw[if_pos z];exact .inl e
    · rename_i z;rw[if_neg z];exact ih h e
  |case3=>exact h.elim
inductive oM (H:Hp) (a:Addr) (name qual:Str) (params:Arguments) (body:List Stmt) (scope:Scope) (clos:List (Str×Addr)):Prop
  |mk (fo:Obj) (doc pm:Value) (c':Addr) (ctv:Value) (oc:Obj) (vs:Array Value) (t:Tok) (h1:H a=some (.frz fo (.own a))) (h2:fo.data= .func (PySem.W.fnX name qual params body scope clos .none .none doc pm none (.ref c') ctv)) (h3:H c'=some (.frz oc (.own c'))) (h4:oc.data= .fields vs) (h5:vs[1]?=some (.str qual t)):oM H a name qual params body scope clos
theorem oM.fz {H H':Hp} {a:Addr} {name qual:Str} {params:Arguments} {body:List Stmt} {scope:Scope} {clos:List (Str×Addr)} (h:oM H a name qual params body scope clos) (s:∀b o u,H b=some (.frz o u)→H' b=some (.frz o u)):oM H' a name qual params body scope clos:=
  by
  obtain⟨fo,doc,pm,c',ctv,oc,vs,t,h1,h2,h3,h4,h5⟩:=h
  exact⟨fo,doc,pm,c',ctv,oc,vs,t,s _ _ _ h1,h2,s _ _ _ h3,h4,h5⟩
structure uI (base:Heap) (mg:Str→Option Value) (c P:Addr):Prop where
  code:PySem.W.CodeHd base c P
  blt:∃bm ob,mg "__builtins__" =some (.ref bm)∧bm≠builtinsNs∧base.get? bm=some ob∧ob.cls= .type "module"∧ob.dict=some builtinsNs∧ob.data= .plain
section
variable {X:Cx} {pins:List (Addr×Obj)} {σ:St} {H:Hp} {s:Shared}
theorem akD {M:Model} {A:Around} {E:Value→Shared→Prop} {name qual:Str} {params:Arguments} {body:List Stmt} {scope:Scope} {clos:List (Str×Addr)} {pos:Pos} {line:Nat} {c P:Addr} {ps:Array Value} {tq:Tok}
    (I:Inv X pins σ H s) (hB:uI X.base X.mg c P) (hc:X.env.code= .ref c) (e0:H P=some (.tbl ps)) (q0:ps[0]?=some (.str qual tq)) (hcl:closureFor scope X.env=pure clos):
    wpAny M A (makeFunction name qual params (.stmts body) scope X.env [] [] [] pos line) (fun v s'=>∃a H1,v= .ref a∧Inv X pins σ H1 s'∧Same H H1∧oM H1 a name qual params body scope clos) E s:=by
  obtain⟨qs,hP,tr,al⟩:=I.hok P _ e0
  have hgs:s.heap.Ns mainGlobals X.mg:=I.mod.glob.keeps I.bk
  have C:PySem.W.CodeHd s.heap c P:=hB.code.keeps I.bk
  obtain⟨bm,ob,b1,b2,b3,b4,b5,b6⟩:=hB.blt
  have hgP:mainGlobals≠P:=fun q=>by
    obtain⟨o,es,ep,e,hd,_⟩:=hgs
    rw[q,hP] at e;cases e;cases hd
  have hbP:bm≠P:=fun q=>by
    have e:=I.bk _ _ b3
    rw[q,hP] at e;cases e;cases b4
  have hbG:bm≠mainGlobals:=fun q=>by
    obtain⟨o,es,ep,e,hd,_⟩:=I.mod.glob
    rw[q,e] at b3;cases b3;rw[hd] at b6;cases b6
  have hbb:s.heap.BuiltinsAt X.mg P:=⟨bm,ob,b1,b2,hbG,hbP,I.bk _ _ b3,b4,b5,b6⟩
  cases hf:codeAmong pos qs.toList with
  | some cv=>
    obtain⟨c',oc,vs,q,t,tq',rfl,h1,h2,h3,h4⟩:=al pos cv hf
    rw[q0] at h4;cases h4
    refine PySem.W.makeFunction_hit (mg:=X.mg) hcl I.ok.glob hgs hc C hP tr hf hbb fun ctv doc h' tk hk hsz=>?_
    have I1:Inv X pins σ H {s with heap:=h',toks:=tk}:=I.kept (t':=tk) hk
    have hn:H h'.objs.size=none:=I1.hok.fresh (Nat.le_refl _)
    refine⟨h'.objs.size,upd H h'.objs.size (.frz _ (.own h'.objs.size)),rfl,I1.laid (t':=tk) (fun b u z=>Heap.get?_push_of_some _ z) (Nat.le_refl _) ⟨Heap.get?_push_size _ rfl,_,Heap.get?_push_size _ rfl⟩,Same.upd hn,?_⟩
    exact⟨_,doc,_,c',ctv,oc,vs,t,upd_same,rfl,by rw[upd_ne (ne_of_none h1 hn)];exact h1,h2,h3⟩
  | none =>
    refine PySem.W.makeFunction_K (mg:=X.mg) hcl I.ok.glob hgs hc C hP tr hf hgP hbb fun c' ctv doc h' tk hx hge hlt hrec htb=>?_
    obtain⟨c2,oc,vs,t,e2,hoc,hd,hv⟩:=hrec
    cases e2
    have hn:H c'=none:=I.hok.fresh hge
    have old:∀b u,H b=some u→upd H c' (.frz oc (.own c')) b=some u:=fun b u z=>by rw[upd_ne (ne_of_none z hn)];exact z
    have I1 : Inv X pins σ (upd H c' (.frz oc (.own c'))) {s with heap:=h',toks:=tk}:=by
      refine I.call' (ch:=[]) rfl ⟨fun b o q n _ _=>hx b o (fun z=>by rw[z,e0] at n;cases n) q,fun b o q n _ _=>⟨o.slots,hx b o (fun z=>by rw[z,e0] at n;cases n) q⟩,fun b o q n _=>?_,fun b o q _=>?_,fun b xs q=>old _ _ q,fun b o u q=>old _ _ q,fun b p q=>⟨#[],by rw[old _ _ q];simp⟩⟩ (fun b u q=>?_) I.bare (fun b z=>absurd z (by simp))
      · rw[upd_ne (Nat.ne_of_lt (Nat.lt_of_lt_of_le (Heap.lt_size q) hge))];exact n
      · by_cases hb:b=P
        · rw[hb];exact⟨_,htb⟩
        · exact⟨o,hx b o hb q⟩
      · by_cases hb:b=c'
        · subst hb
          rw[upd_same] at q;cases q
          exact⟨hoc,oc,hoc⟩
        · rw [upd_ne hb] at q
          by_cases hp:b=P
          · subst hp
            rw[e0] at q;cases q
            refine⟨_,htb,?_,fun p cv z=>?_⟩
            · have:=aaW (a:=pos.line) (s:=0) (b:=pos.col) (t:=0) (c:=Value.ref c') qs.toList tr
              simpa[rawInt] using this
            · have z':codeAmong p (qs.toList++[.int pos.line 0,.int pos.col 0,.ref c'])=some cv:=by simpa[rawInt] using z
              rcases ag4 _ tr z' with z1 |z1
              · obtain⟨c3,o3,v3,q3,t3,tq3,y1,y2,y3⟩:=al p cv z1
                exact⟨c3,o3,v3,q3,t3,tq3,y1,old _ _ y2,y3⟩
              · exact⟨c',oc,vs,qual,t,tq,z1,upd_same,hd,hv,q0⟩
          · exact (I.hok b u q).stay (fun d v hd z=>hx d v (fun y=>hd.elim (fun x=>hp (x.symm.trans y)) fun x=>by rw[y,e0] at x;cases x) z) (fun d z=>old _ _ z) (fun d xs z=>old _ _ z) fun d o u _ z=>old _ _ z
    have hn2:upd H c' (.frz oc (.own c')) h'.objs.size=none:=I1.hok.fresh (Nat.le_refl _)
    refine⟨h'.objs.size,upd (upd H c' (.frz oc (.own c'))) h'.objs.size (.frz _ (.own h'.objs.size)),rfl,I1.laid (t':=tk) (fun b u z=>Heap.get?_push_of_some _ z) (Nat.le_refl _) ⟨Heap.get?_push_size _ rfl,_,Heap.get?_push_size _ rfl⟩,(Same.upd hn).trans (Same.upd hn2),?_⟩
    exact⟨_,doc,_,c',ctv,oc,vs,t,upd_same,rfl,by rw[upd_ne (Nat.ne_of_lt hlt),upd_same],hd,hv⟩
noncomputable def anA (i:Nat) (name qual:Str) (params:Arguments) (body:List Stmt) (scope:Scope) (clos:List (Str×Addr)):TS:=fun D σ H=>∀a H1,Same H H1→oM H1 a name qual params body scope clos→D.nx (σ.set i (some (.ref a))) H1
theorem al4 (i:Nat) {name qual:Str} {params:Arguments} {body:List Stmt} {scope:Scope} {clos:List (Str×Addr)} {pos:Pos} {c P:Addr} (hN:X.N.Nodup) (hB:uI X.base X.mg c P) (hT:Tb [(P,qual)] X.H₀) (hc:X.env.code= .ref c) (hcl:closureFor scope X.env=pure clos)
    (hi:X.N[i]?=some name:=by rfl) (hl:Loc X.env.scope name:=by first |exact Or.inl rfl |exact Or.inr rfl) (hq:qualnameIn X.env name name=qual:=by rfl) (hd0:params.defaults=[]:=by rfl) (hk0:params.kw_defaults=[]:=by rfl) (ha:annTrees params none X.env=[]:=by rfl)
    (hf:X.fn name=true∨X.env.scope.names.lookup name=some .local:=by first |exact .inl rfl |exact .inr rfl):PS X (.FunctionDef name params body [] none [] scope none name pos) (anA i name qual params body scope clos):=by
  intro pins s σ H D I h
  obtain⟨ps,tq,e0,q0⟩:=(hT.un I.base) (P,qual) (by simp)
  refine PySem.W.nestDef_K hd0 hk0 ha ?_
  rw[hq]
  refine wpAny_mono (akD I hB hc e0 q0 hcl) (fun v s1 ⟨a,H1,ev,I1,sm,fh⟩=>?_) fun _ _ z=>z
  subst ev
  exact store_ok I1 hN hi hl (v:= .ref a) rfl (fun s2 I2=>⟨_,H1,I2,h a H1 sm fh⟩) hf
end
noncomputable def Hq (P:Program) (w:World) (K:PySem.W.Frag) (mg:Str→Option Value) (base:Heap) (k:Nat) (G:List D→R D) (n:Nat) (a:Addr) (H:Hp):Prop:=
  ∀ (A:Around) (outer:List PySem.Env) (s:Shared) (H1:Hp) (us:List Value) (vs:List V) (Q:VK) (E:XK),Room k A→Env0 P w K mg base A outer s H1→(∀b o u,H b=some (.frz o u)→H1 b=some (.frz o u))→Vals vs us→Lb K n G vs H1 Q E→
    codeAny (model P w) A (.call (.ref a) ⟨us,[]⟩) (CR CX0 outer P w H1 s Q E) s
noncomputable def K1 (i a:Nat) (G:List D→R D) (n:Nat) (fa:au→R (List D)):au→R D:=fun ρ=>match ρ[i]? with
  |some (some (.obj (.fn b)))=>if b=a then (fa ρ).bind (aP G n) else .bad
  |_=> .bad
section
variable {X:Cx} {k m n:Nat} {G:List D→R D} {x:Str} {p pos:Pos} {e:Expr} {es:List Expr} {fa:au→R (List D)} {a:Addr}
theorem YC (i:Nat) (hc:Hq X.prog X.w X.K X.mg X.base k G n a X.H₀) (hr:Room m X.A) (hkm:k≤m) (ha:DA X (e::es) fa) (hN:X.N[i]?=some x:=by rfl) (hv:Vis X.env.scope x:=by first |exact Or.inl rfl |exact Or.inr (Or.inl rfl) |exact Or.inr (Or.inr rfl))
    (hd:(x ==("__debug__" :Str))=false:=by decide) (hcd:(x ==("__classdict__" :Str))=false:=by decide) (he:starEach (e::es) X.env=(false,eval e X.env)::starEach es X.env:=by rfl) (hpl:(backTo pos (starEach es X.env)).any (·.1)=false:=by rfl):
    DE X (.Call (.Name x p) (e::es) [] pos) (K1 i a G n fa):=by
  intro pins s σ H Q I h
  obtain⟨ρ,O,j,h⟩:=h
  unfold K1 at h
  split at h
  · rename_i b q
    by_cases hb:b=a
    · subst hb
      rw[if_pos rfl] at h
      obtain⟨v,hv1,rfl,o,fd,ho,hod⟩:=j.env.get i _ q
      have at':∀{s':Shared} {H':Hp},Inv X pins σ H' s'→Same H H'→PySem.W.FnAt b s'.heap:=fun {s' H'} I' sm=>by
        obtain⟨ho',_⟩:=I'.hok b _ (sm _ _ ho)
        obtain⟨v1,v2,v3,v4⟩:=o
        have hod:v3= .func fd:=hod
        subst hod
        exact⟨v1,v2,fd,v4,ho'⟩
      refine wpAny_Call_Name_kw (thn (pe_var hN hv hd hcd pins s σ H (fun v H1=>v= .ref b∧H1=H) I ⟨_,hv1,rfl,rfl⟩) fun u s1 bL=>?_)
      obtain⟨v',H1,I1,r1,e1,e2⟩:=bL
      subst e1 e2
      cases (show u=Value.ref b from r1)
      have key:tG X (Ub X) fa σ H1 (fun vs H2=>Same H1 H2∧Lb X.K n G vs H2 Q E0):=by
        refine go j h fun ds vs H2 e1 s2 r2 j2 h2=>⟨s2,?_⟩
        unfold aP at h2
        by_cases hl:ds.length=n
        · rw[if_pos hl] at h2
          refine⟨O,ds,r2,hl,j2.al,?_⟩
          cases q:G ds with
          |ok d=>rw[q] at h2;exact h2
          |err c=>rw[q] at h2;exact h2
          |bad=>rw[q] at h2;exact h2
        · rw[if_neg hl] at h2;exact h2.elim
      refine PySem.W.callWith_F (at' I1 (Same.refl _)) (thn (ha pos pins s1 σ H1 _ I1 key) fun us s2 ⟨vs,H2,I2,r,sm,q2⟩=>⟨at' I2 sm,?_⟩) he hpl
      refine wpAny_call (codeAny_mono (hc X.A X.stack s2 H2 us vs Q E0 (hr.mono hkm) I2.env0 I2.base.frzs r q2) fun r s' hq=>?_)
      cases r with
      |error e=>exact pass0 pins σ H2 s2 e s' I2 hq
      | ok fl=>
        cases fl with
        |ret u=>exact I2.after hq
        |next=>exact False.elim hq
        |brk=>exact False.elim hq
        |cont=>exact False.elim hq
    · rw[if_neg hb] at h;exact h.elim
  · exact h.elim
end
inductive SpS (P:Program) (w:World) (mg:Str→Option Value) (base:Heap) (k:Nat) (K:PySem.W.Frag) (n q:Nat) (F:Addr→(List D→R D)→List D→R D) (vs:List V) (H:Hp) (Q:VK):Prop
  | mk (O:Addr→Prop) (ds:List D) (xs:List V) (a:Addr) (G:List D→R D) (e:vs=xs++[.ref a]) (r:aQ K O H ds xs) (hl:ds.length=n) (al:∀b,O b→∃o,H b=some o) (ro:wO K H (.fn a) (.ref a)) (hc:Hq P w K mg base k G q a H) (h:match F a G ds with
    | .ok d=>∀v H',Same H H'→Rep K O H' d v→Q v H'
    |_=>False):SpS P w mg base k K n q F vs H Q
noncomputable def spS (P:Program) (w:World) (mg:Str→Option Value) (base:Heap) (k:Nat) (K:PySem.W.Frag) (n q:Nat) (F:Addr→(List D→R D)→List D→R D):Sp:=fun vs H Q _=>SpS P w mg base k K n q F vs H Q
section
variable {P:Program} {w:World} {K:PySem.W.Frag} {mg:Str→Option Value} {base:Heap}
theorem fnS {x qual:Str} {st:Stmt} {f:Addr} {fd:FuncData} {N ps:List Str} {k kG n m q:Nat} {g:Addr→(List D→R D)→au→So} (Fn:Fun K x qual st f fd) (S:FnScope N ps (defScope st)) (hn:ps.length=n+1) (hm:N.length=n+1+m)
    (hb:∀(cdv:Value) (A:Around) (outer:List PySem.Env) (s:Shared) (H:Hp) (E:XK) (a:Addr) (G:List D→R D),Room k (A.deeper (envOfC qual (defScope st) s.heap.objs.size f cdv))→Hq P w K mg base kG G q a H→cG (cxOf CX0 P w K mg base N qual (defScope st) f cdv A outer s H E).nox (defBody st) (g a G)):
    FnOk P w K mg base CX0 (k+1) f fd ps (spS P w mg base kG K n q (fun a G ds=>ji m (g a G) (ds.map .val++[.obj (.fn a)]))):=by
  obtain⟨oc,od,kV,doc,pm,an,cdv,ct,osl,rfl,lk,hcd⟩:=Fn.ex
  refine fn_of lk hcd S (fun vs H Q E h=>?_) fun A outer s H vs Q E hr h=>?_
  · obtain⟨O,ds,xs,a,G,rfl,r,hl,_⟩:=h
    rw[hn,List.length_append,←r.length,hl];rfl
  · obtain⟨O,ds,xs,a,G,rfl,r,hl,al,ro,hc,h⟩:=h
    have Lh:N.length=(xs++[V.ref a]).length+m:=by rw[hm,List.length_append,←r.length,hl];rfl
    refine⟨_,(hb cdv A outer s H E a G hr hc).nox,H,O,O,(ds.map Ent.val++[Ent.obj (.fn a)]).map some++List.replicate m none,?_,ada h⟩
    rw[Mv Lh]
    refine Mu (X:=(cxOf CX0 P w K mg base N qual (defScope st) f cdv A outer s H E).nox) (by rw[List.length_append,List.length_map,r.length];rw[List.length_append] at Lh;exact Lh) (Ou (zQ r) (.cons ⟨ro,rfl⟩ .nil)) al
end
end Pu
namespace Pu
open PySem PySem.Spec L2
open PyProof.Rows hiding St
noncomputable def del (H:Hp) (c:Addr):Hp:=fun b=>if b=c then none else H b
theorem mL {H:Hp} {c:Addr}:del H c c=none:=if_pos rfl
theorem dW {H:Hp} {b c:Addr} (h:b≠c):del H c b=H b:=if_neg h
theorem ai7 {H:Hp} {b c:Addr} {u:HO} (h:del H c b=some u):b≠c∧H b=some u:=by
  by_cases e:b=c
  · rw[e,mL] at h;cases h
  · rw[dW e] at h;exact⟨e,h⟩
section
variable {P:Program} {w:World} {H:Hp} {h:Heap} {c:Addr} {co:Obj} {u:Option Value}
theorem adb (x:HOk P w H h) (hc:H c=some (.frz co (.own c))) (hd:co.data= .cell u):HOk P w (del H c) h:=fun b v q=>by
  obtain⟨nb,q⟩:=ai7 q
  refine (x b v q).stay (fun _ _ _ z=>z) (fun d z=>?_) (fun d xs z=>?_) fun d o v' hv z=>?_
  · rw[dW (fun e=>by rw[e,hc] at z;cases z)];exact z
  · rw[dW (fun e=>by rw[e,hc] at z;cases z)];exact z
  · rw[dW (fun e=>by rw[e,hc] at z;cases z;obtain⟨vs,y⟩:=hv;rw[hd] at y;cases y)];exact z
theorem ade (x:HOk P w H h) (hn:H c=none) (ho:h.get? c=some co):HOk P w (upd H c (.frz co (.own c))) h:=fun b v q=>by
  have old:∀b u,H b=some u→upd H c (.frz co (.own c)) b=some u:=fun b u z=>by rw[upd_ne (ne_of_none z hn)];exact z
  by_cases hb:b=c
  · subst hb
    rw[upd_same] at q;cases q
    exact⟨ho,co,ho⟩
  · rw[upd_ne hb] at q
    exact (x b v q).stay (fun _ _ _ z=>z) (fun d z=>old _ _ z) (fun d xs z=>old _ _ z) fun d o v' _ z=>old _ _ z
theorem adf {O:Addr→Prop} (hc:H c=some (.frz co (.own c))):Ext O H (del H c):=by
  refine⟨fun b xs z=>?_,fun b xs _ z=>?_⟩
  · have nb:b≠c:=fun e=>by rcases z with z |⟨o,z⟩ <;> rw[e,hc] at z <;> cases z
    rcases z with z |⟨o,z⟩
    · exact .inl (by rw[dW nb];exact z)
    · exact .inr ⟨o,by rw[dW nb];exact z⟩
  · have nb:b≠c:=fun e=>by rcases z with z |⟨o,z⟩ <;> rw[e,hc] at z <;> cases z
    rcases z with z |⟨o,z⟩
    · exact .inl (by rw[dW nb];exact z)
    · exact .inr ⟨o,by rw[dW nb];exact z⟩
end
section
variable {M:Model} {A:Around} {E:Value→Shared→Prop} {s:Shared}
theorem Ov {env env':PySem.Env} (f f':Str×Value→PUnit→Sem (ForInStep PUnit)) (hf:∀n v u,f (n,v) u=(do storeName env n v;pure (.yield ⟨⟩))) (hf':∀n v u,f' (n,v) u=(do storeName env' n v;pure (.yield ⟨⟩))):
    ∀binds:List (Str×Value),(∀x∈binds,∀v,storeName env x.1 v=storeName env' x.1 v)→(forIn binds (⟨⟩:PUnit) f:Sem PUnit)=forIn binds (⟨⟩:PUnit) f'
  |[],_=>rfl
  | (n,v)::r,h=>by
    rw[List.forIn_cons,List.forIn_cons,hf,hf',h (n,v) List.mem_cons_self v]
    simp only[bind_assoc,pure_bind]
    rw[Ov f f' hf hf' r fun x hx=>h x (List.mem_cons_of_mem _ hx)]
theorem adg {env:PySem.Env} {n:Str} {v:Value} (hk:env.scope.kind= .function) (h:env.scope.names.lookup n=some .local):storeName env n v=nsSet env.locals n v:=by
  have h:env.kindOf n=some .local:=h
  simp[storeName,h,hk]
theorem adh {env:PySem.Env} {n:Str} {v:Value} {d:Addr} (hk:env.scope.kind= .function) (h:env.scope.names.lookup n=some .cell) (hd:env.cells.lookup n=some d):storeName env n v=cellSet d (some v):=by
  have h:env.kindOf n=some .cell:=h
  simp[storeName,h,hk,cellOf,hd]
theorem aaX {scope:Scope} {globals:Addr} {clos:List (Str×Addr)} {binds:List (Str×Value)} {qual:Str} {func:Option Addr} {code:Value} {builtins:Addr} {Q:PySem.Env→Shared→Prop}
    (hk:scope.kind= .function)
    (hkind:∀x∈binds,scope.names.lookup x.1=some .local∨(scope.names.lookup x.1=some .cell∧((cellsFrom (s.heap.objs.size+1) scope.names []).lookup x.1).isSome=true))
    (hQ:∀s',InCallC s s.heap.objs.size (bindL (fun q=>scope.names.lookup q) binds fun _=>none) (cellsFrom (s.heap.objs.size+1) scope.names []) (bindC (fun q=>scope.names.lookup q) binds fun _=>none) s'→
      Q (newEnv scope s.heap.objs.size globals (cellsFrom (s.heap.objs.size+1) scope.names []++clos) qual func code none builtins) s'):
    wpAny M A (newFunctionEnv scope globals clos binds qual func code none builtins) Q E s:=by
  simp only[newFunctionEnv,Option.isSome_none,Bool.false_eq_true,if_false]
  refine wpAny_bind (wpAny_alloc ?_)
  refine wpAny_bind (wpAny_layCells _ (fun name kind cells=>by cases hkc:kind ==NameKind.cell <;> simp[hkc]) _ _ _ _ ?_)
  have ok:=cellsFrom_ok scope.names (s.heap.push {cls:= .type "frame",data:= .dict #[]}) (s.heap.objs.size+1) [] ⟨fun _ _ hm=>(nomatch hm),List.Pairwise.nil⟩ (by rw[Heap.size_push];exact Nat.le_refl _)
  rw[Heap.size_push] at ok
  rw[show ({s with heap:=s.heap.push {cls:= .type "frame",data:= .dict #[]}}:Shared).heap.objs.size=s.heap.objs.size+1 from Heap.size_push ..]
  rw[eO]
  have eq:=Ov (env:=newEnv scope s.heap.objs.size globals (cellsFrom (s.heap.objs.size+1) scope.names []++clos) qual func code none builtins) (env':=newEnv scope s.heap.objs.size globals (cellsFrom (s.heap.objs.size+1) scope.names []) qual func code none builtins)
    (fun x _=>do storeName (newEnv scope s.heap.objs.size globals (cellsFrom (s.heap.objs.size+1) scope.names []++clos) qual func code none builtins) x.1 x.2;pure (.yield ⟨⟩))
    (fun x _=>do storeName (newEnv scope s.heap.objs.size globals (cellsFrom (s.heap.objs.size+1) scope.names []) qual func code none builtins) x.1 x.2;pure (.yield ⟨⟩)) (fun _ _ _=>rfl) (fun _ _ _=>rfl) binds (fun x hx v=>by
      rcases hkind x hx with z |⟨z,z2⟩
      · rw[adg hk z,adg hk z];rfl
      · obtain⟨d,hd⟩:=Option.isSome_iff_exists.mp z2
        have e1:(cellsFrom (s.heap.objs.size+1) scope.names []++clos).lookup x.1=some d:=by rw[List.lookup_append,hd];rfl
        rw[adh hk z e1,adh hk z hd])
  refine wpAny_bind ?_
  show wpAny M A (forIn binds (⟨⟩:PUnit) (fun x _=>do storeName (newEnv scope s.heap.objs.size globals (cellsFrom (s.heap.objs.size+1) scope.names []++clos) qual func code none builtins) x.1 x.2;pure (.yield ⟨⟩))) _ E _
  rw[eq]
  exact wpAny_bindParams (s₀:=s) (env:=newEnv scope s.heap.objs.size globals (cellsFrom (s.heap.objs.size+1) scope.names []) qual func code none builtins)
    _ (fun _ _ _=>rfl) hk binds (fun _=>none) (fun _=>none) _ _
    ⟨⟨⟨_,_,rfl⟩,(Heap.Ns.new s.heap (.type "frame")).keeps (pushCells_keeps _ _),fun b o e=>pushCells_keeps _ _ b o (Heap.get?_push_of_some _ e),Nat.le_refl _⟩,
      fun n c hc=>(ok.empty n c (mem_of_lookup hc)).1,ok.apart,fun n c hm=>(ok.empty n c hm).2⟩
    hkind fun s' x=>wpAny_pure (hQ s' x)
end
structure Rp (N P:List Str) (y:Str) (sc:Scope):Prop where
  kind:sc.kind= .function
  co:sc.isCoroutine=false
  gen:sc.isGenerator=false
  nd:N.Nodup
  pre:N.take (P.length+1)=P++[y]
  par:∀x∈P,sc.names.lookup x=some .local∨sc.names.lookup x=some .cell
  Ue:sc.names.lookup y=some .free
  only:∀z∈sc.names,z.2= .free→z.1=y
  cel:∀z∈sc.names,z.2= .cell→sc.names.lookup z.1=some .cell
section
variable (P:Program) (w:World) (K:PySem.W.Frag) (mg:Str→Option Value) (base:Heap) (N:List Str) (qual:Str) (scope:Scope) (f:Addr) (cd:Value) (A:Around) (outer:List PySem.Env) (s:Shared) (H:Hp) (y:Str) (c:Addr)
noncomputable abbrev Dg:PySem.Env:=PySem.W.envX qual scope s.heap.objs.size f cd (cellsFrom (s.heap.objs.size+1) scope.names []++[(y,c)])
noncomputable def Dh:Cx where
  prog:=P
  w:=w
  K:=K
  mg:=mg
  base:=base
  A:=A.deeper (Dg qual scope f cd s y c)
  N:=N
  s₀:=s
  H₀:=H
  env:=Dg qual scope f cd s y c
  outer:=outer
  stack:=Dg qual scope f cd s y c::outer
  ex:=[]
  calm:=true
  fn:=fun x=>decide (x≠y)
  pn:=[]
  xe:=fun _ _=>False
end
section
variable {P:Program} {w:World} {K:PySem.W.Frag} {mg:Str→Option Value} {base:Heap}
theorem al5 {N ps:List Str} {qual:Str} {scope:Scope} {f:Addr} {cd:Value} {A:Around} {outer:List PySem.Env} {s s1:Shared} {H:Hp} {us:List Value} {vs:List V} {y:Str} {c:Addr} {vy:V} {uy:Value}
    (S:Rp N ps y scope) (hd:A.handled=none) (e0:Env0 P w K mg base A outer s H) (hl:vs.length=ps.length) (r:Vals vs us) (hc:s.heap.IsCell c (some uy)) (hy:RelV vy uy) (hHc:H c=none)
    (x:InCallC s s.heap.objs.size (bindL (fun q=>scope.names.lookup q) (ps.zip us) fun _=>none) (cellsFrom (s.heap.objs.size+1) scope.names []) (bindC (fun q=>scope.names.lookup q) (ps.zip us) fun _=>none) s1):
    Inv (Dh P w K mg base N qual scope f cd A outer s H y c) [] (start N (vs++[vy])) H s1:=by
  have hpl:ps.length+1≤N.length:=by have:=congrArg List.length S.pre;rw[List.length_take,List.length_append,List.length_singleton] at this;omega
  obtain⟨h1,tk,rfl,hk⟩:=x.done
  have noA:∀b:Addr,b∉(Dh P w K mg base N qual scope f cd A outer s H y c).ex:=fun b z=>absurd (show b∈([]:List Addr) from z) (by simp)
  have clt:c < s.heap.objs.size:=hc.lt
  have cells:∀z d,(Dg qual scope f cd s y c).cells.lookup z=some d→((cellsFrom (s.heap.objs.size+1) scope.names []).lookup z=some d∧scope.names.lookup z=some .cell)∨(z=y∧d=c):=fun z d q=>by
    have q:(cellsFrom (s.heap.objs.size+1) scope.names []++[(y,c)]).lookup z=some d:=q
    rw[List.lookup_append] at q
    cases e:(cellsFrom (s.heap.objs.size+1) scope.names []).lookup z with
    | some d'=>
      rw[e] at q
      have q:d'=d:=by simpa using q
      subst q
      obtain⟨m1,_⟩:=m6 _ _ (PySem.mem_of_lookup e)
      exact .inl ⟨rfl,S.cel _ m1 rfl⟩
    | none=>
      rw[e] at q
      have q:List.lookup z [(y,c)]=some d:=by simpa using q
      rw[List.lookup_cons] at q
      cases hz:z ==y with
      |true=>rw[hz] at q;cases q;exact .inr ⟨by simpa using hz,rfl⟩
      |false=>rw[hz] at q;cases q
  have kept:(Dg qual scope f cd s y c).cells.lookup y=some c:=by
    show (cellsFrom (s.heap.objs.size+1) scope.names []++[(y,c)]).lookup y=some c
    rw[List.lookup_append]
    cases e:(cellsFrom (s.heap.objs.size+1) scope.names []).lookup y with
    | some d=>
      obtain⟨m1,_⟩:=m6 _ _ (PySem.mem_of_lookup e)
      have:=S.cel _ m1 rfl
      rw[S.Ue] at this;cases this
    |none=>simp[List.lookup_cons]
  refine⟨⟨e0.mod,S.kind,rfl,rfl,Nat.le_refl _,fun z z' d h1 h2=>?_,fun z hz=>?_,fun z d hf h=>?_,fun _=>hd,Around.frames_deeper e0.frames,.inr ⟨rfl,rfl⟩,fun b z=>absurd z (noA b),e0.bs,e0.bsz,fun b _ _=>noA b,fun b z=>absurd z (noA b),e0.funs,e0.frf⟩,
    rfl,e0.bare,Un.kept hk,⟨_,x.toInCall.ns,fun i z v h1 h2 h3=>?_⟩,fun z d h=>?_,e0.hok.fresh (Nat.le_refl _),fun z d h=>?_,fun p hp=>absurd (show p∈([]:List (Addr×Obj)) from hp) (by simp),e0.hok.kept hk,?_⟩
  · rcases cells z d h1 with⟨q1,_⟩ |⟨q1,q2⟩ <;> rcases cells z' d h2 with⟨q3,_⟩ |⟨q3,q4⟩
    · exact name_of_addr x.apart (PySem.mem_of_lookup q1) (PySem.mem_of_lookup q3)
    · have:=x.above z d (PySem.mem_of_lookup q1);rw[q4] at this;exact absurd (Nat.lt_trans clt this) (Nat.lt_irrefl _)
    · have:=x.above z' d (PySem.mem_of_lookup q3);rw[q2] at this;exact absurd (Nat.lt_trans clt this) (Nat.lt_irrefl _)
    · rw[q1,q3]
  · have hz:scope.names.lookup z=some .cell∨scope.names.lookup z=some .free:=hz
    rcases hz with hz |hz
    · obtain⟨d,e⟩:=cell_has (n:=s.heap.objs.size+1) hz
      exact⟨d,by show (cellsFrom (s.heap.objs.size+1) scope.names []++[(y,c)]).lookup z=some d;rw[List.lookup_append,e];rfl⟩
    · have e:=S.only _ (PySem.mem_of_lookup hz) rfl
      have e:z=y:=e
      rw[e];exact⟨c,kept⟩
  · have hf:z≠y:=of_decide_eq_true hf
    rcases cells z d h with⟨q1,_⟩ |⟨q1,_⟩
    · exact Nat.le_of_lt (x.above z d (PySem.mem_of_lookup q1))
    · exact absurd q1 hf
  · have hi:i < vs.length+1:=by
      unfold L2.start at h2
      by_cases hi:i < vs.length+1
      · exact hi
      · rw[List.getElem?_append_right (by simpa using hi)] at h2
        rw[List.getElem?_replicate] at h2
        split at h2 <;> cases h2
    have ha:(vs++[vy])[i]?=some v:=by
      unfold L2.start at h2
      rw[List.getElem?_append_left (by simpa using hi),List.getElem?_map] at h2
      cases e:(vs++[vy])[i]? with
      |none=>rw[e] at h2;cases h2
      |some a=>rw[e] at h2;cases h2;rfl
    have hp:(ps++[y])[i]?=some z:=by
      rw[←S.pre,List.getElem?_take_of_lt (by omega)];exact h1
    by_cases hiv:i < vs.length
    · rw [List.getElem?_append_left hiv] at ha
      rw[List.getElem?_append_left (by omega)] at hp
      obtain⟨u,hu,rv⟩:=r.get ha
      have ndP:ps.Nodup:=by
        have q:(ps++[y]).Nodup:=by rw[←S.pre];exact S.nd.sublist (List.take_sublist _ _)
        exact (List.nodup_append.mp q).1
      refine⟨u,rv,?_⟩
      rcases S.par z (List.mem_of_getElem? hp) with k |k
      · exact .inl ⟨k,bindL_get ndP hp hu k⟩
      · obtain⟨d,e⟩:=cell_has (n:=s.heap.objs.size+1) k
        refine .inr ⟨.inl k,d,?_,?_⟩
        · show (cellsFrom (s.heap.objs.size+1) scope.names []++[(y,c)]).lookup z=some d
          rw[List.lookup_append,e];rfl
        · have q:=x.cell z d e
          rw[bindC_get ndP hp hu (by rw[k];decide)] at q
          exact q
    · have ei:i=vs.length:=by omega
      subst ei
      rw[List.getElem?_append_right (Nat.le_refl _)] at ha
      rw[hl,List.getElem?_append_right (Nat.le_refl _)] at hp
      have ha:vy=v:=by simpa using ha
      have hp:y=z:=by simpa using hp
      subst ha hp
      exact⟨uy,hy,.inr ⟨.inr S.Ue,c,kept,hc.keeps hk⟩⟩
  · rcases cells z d h with⟨q1,_⟩ |⟨_,q2⟩
    · exact⟨_,x.cell z d q1⟩
    · rw[q2];exact⟨_,hc.keeps hk⟩
  · rcases cells z d h with⟨q1,_⟩ |⟨_,q2⟩
    · exact e0.hok.fresh (Nat.le_of_lt (x.above z d (PySem.mem_of_lookup q1)))
    · rw[q2];exact hHc
  · unfold L2.start
    show _=N.length
    rw[List.length_append,List.length_map,List.length_replicate,List.length_append,List.length_singleton]
    omega
theorem al6 {N ps:List Str} {name qual:Str} {params:Arguments} {body:List Stmt} {scope:Scope} {y:Str} {k n m:Nat} {g:au→So} {my:Int} {a c:Addr} {H:Hp} {co:Obj} {uy:Value}
    (S:Rp N ps y scope) (hn:ps.length=n) (hm:N.length=n+1+m)
    (hbind:∀(doc pm:Value) (cl:List (Str×Addr)) (cdv ct:Value) (us:List Value),us.length=ps.length→bindArgs (PySem.W.fnX name qual params body scope cl .none .none doc pm none cdv ct) ⟨us,[]⟩=pure (ps.zip us))
    (hb:∀(cdv:Value) (A:Around) (outer:List PySem.Env) (s:Shared) (H:Hp) (f c:Addr),Room k (A.deeper (Dg qual scope f cdv s y c))→cG (Dh P w K mg base N qual scope f cdv A outer s H y c) body g)
    (fh:oM H a name qual params body scope [(y,c)]) (hc:H c=some (.frz co (.own c))) (hcd:co.data= .cell (some uy)) (hy:RelV (.int my) uy):
    Hq P w K mg base (k+1) (fun ds=>ji m g (ds.map .val++[.val (.int my)])) n a H:=by
  intro A outer s H1 us vs Q E hr e0 hz r sp
  obtain⟨O,ds,rs,hl,al,sp⟩:=sp
  have sp:(match ji m g (ds.map Ent.val++[Ent.val (.int my)]) with | .ok d=>∀v H',Same H1 H'→Rep K O H' d v→Q v H' |_=>False):=sp
  obtain⟨fo,doc,pm,c',ctv,oc,vq,t,f1,f2,f3,f4,f5⟩:=fh.fz hz
  have hc1:=hz _ _ _ hc
  obtain⟨hco,_⟩:=e0.hok c _ hc1
  obtain⟨hfo,_⟩:=e0.hok a _ f1
  obtain⟨hoc,_⟩:=e0.hok c' _ f3
  have KX:K.In s.heap:=e0.mod.kin.keeps fun b o e=>(e0.bs b o e).1
  have lim:s.heap.NoLimit:=e0.mod.nolimit.keeps fun b o e=>(e0.bs b o e).1
  have e1:Env0 P w K mg base A outer s (del H1 c):=⟨e0.frames,e0.mod,fun b o e=>⟨(e0.bs b o e).1,by
    by_cases q:b=c
    · rw[q];exact mL
    · rw[dW q];exact (e0.bs b o e).2⟩,e0.bsz,e0.funs,fun b hb=>by
    by_cases q:b=c
    · rw[q];exact mL
    · rw[dW q];exact e0.frf b hb,adb e0.hok hc1 hcd,e0.bare⟩
  have hlu:us.length=ps.length:=by rw[←r.length,←rs.length,hl,hn]
  have hkind:∀z∈ps.zip us,scope.names.lookup z.1=some .local∨(scope.names.lookup z.1=some .cell∧((cellsFrom (s.heap.objs.size+1) scope.names []).lookup z.1).isSome=true):=fun ⟨q,v⟩ hy=>by
    rcases S.par q (List.of_mem_zip hy).1 with z |z
    · exact .inl z
    · exact .inr ⟨z,PySem.W.cellsFrom_some _ _ _ (.inl z)⟩
  refine codeAny_call_function hr.depth hfo f2 S.co S.gen rfl ⟨c',oc,vq,t,rfl,hoc,f4,f5⟩ ?_
  rw[hbind doc pm _ _ _ us hlu]
  refine wpAny_pure (aaX S.kind hkind fun s1 x=>?_)
  refine⟨lim.keeps x.toInCall.keep,codeAny_func ?_⟩
  have I:Inv (Dh P w K mg base N qual scope a (.ref c') A outer s (del H1 c) y c) [] (start N (vs++[.int my])) (del H1 c) s1:=
    al5 S hr.hd e1 (by rw[←rs.length,hl,hn]) r ⟨co,hco,hcd⟩ hy mL x
  have Lh:N.length=(vs++[V.int my]).length+m:=by rw[hm,List.length_append,←rs.length,hl];rfl
  have rs':aQ K (fun b=>O b∧b≠c) (del H1 c) ds vs:=aQ.ext (adf hc1) (fun b xs nb _ z=>nb z.1) ds vs rs
  have J:At (Dh P w K mg base N qual scope a (.ref c') A outer s (del H1 c) y c) (del H1 c) (fun b=>O b∧b≠c) (fun b=>O b∧b≠c) (del H1 c) ((ds.map Ent.val++[Ent.val (.int my)]).map some++List.replicate m none) (start N (vs++[.int my])):=by
    rw[Mv Lh]
    refine Mu (by show N.length=_;rw[List.length_append,List.length_map,rs.length];rw[List.length_append] at Lh;exact Lh) (Ou (zQ rs') (.cons ⟨(cM (K:=K) (O:=fun b=>O b∧b≠c) (H:=del H1 c) my:vd K (fun b=>O b∧b≠c) (del H1 c) (.val (.int my)) (.int my)),rfl⟩ .nil)) fun b z=>?_
    obtain⟨o,q⟩:=al b z.1
    exact⟨o,by rw[dW z.2];exact q⟩
  have run:=hb (.ref c') A outer s (del H1 c) a c (hr.deeper _) [] s1 _ _ {nx:=fun _ H'=>ji m g (ds.map .val++[.val (.int my)])= .ok .non∧Same (del H1 c) H',rt:=fun v H'=>∃d,ji m g (ds.map .val++[.val (.int my)])= .ok d∧Same (del H1 c) H'∧Rep K (fun b=>O b∧b≠c) H' d v} I ⟨_,_,_,_,J,by
    unfold ji at sp ⊢
    cases e2:g ((ds.map Ent.val++[Ent.val (.int my)]).map some++List.replicate m none) with
    |rt d=>exact fun v H' s' r'=>⟨d,by simp only[e2],s',r'⟩
    |nx ρ'=>exact fun σ' H' O' j' _=>⟨by simp only[e2],j'.same⟩
    |bk _=>rw[e2] at sp;exact sp.elim
    |ct _=>rw[e2] at sp;exact sp.elim
    |ex _ _=>rw[e2] at sp;exact sp.elim
    |bad=>rw[e2] at sp;exact sp.elim⟩
  have cfr:c∉frs outer:=fun z=>by rw[e0.frf c z] at hc1;cases hc1
  have fin:∀{σ':St} {H':Hp} {v:V} {u:Value} {s':Shared} {d:D},Inv (Dh P w K mg base N qual scope a (.ref c') A outer s (del H1 c) y c) [] σ' H' s'→RelV v u→ji m g (ds.map .val++[.val (.int my)])= .ok d→Same (del H1 c) H'→Rep K (fun b=>O b∧b≠c) H' d v→CE outer P w H1 s Q u s':=fun {σ' H' v u s' d} J rv ed sm rd=>by
    have hn':H' c=none:=J.base.free c co hco mL (by simp[Dh])
    have hc':s'.heap.get? c=some co:=J.base.keep c co hco mL cfr (by simp[Dh])
    have ol:∀b,b≠c→upd H' c (.frz co (.own c)) b=H' b:=fun b z=>upd_ne z
    have kIn:K.In s'.heap:=J.kIn
    refine⟨v,upd H' c (.frz co (.own c)),J.os,J.bare,⟨fun b o q nb hb hx=>?_,fun b o q nb hb hx=>?_,fun b o q nb hx=>?_,fun b o q hx=>J.base.there b o q hx,fun b xs q=>?_,fun b o u q=>?_,fun b ps q=>?_⟩,ade J.hok hn' hc',rv,?_⟩
    · exact J.base.keep b o q (show del H1 c b=none by by_cases z:b=c;(rw[z];exact mL);rw[dW z];exact nb) hb hx
    · exact J.base.slot b o q (show del H1 c b=none by by_cases z:b=c;(rw[z];exact mL);rw[dW z];exact nb) hb hx
    · have nc:b≠c:=fun z=>by rw[z,hc1] at nb;cases nb
      rw[ol b nc];exact J.base.free b o q (show del H1 c b=none by rw[dW nc];exact nb) hx
    · have nc:b≠c:=fun z=>by rw[z,hc1] at q;cases q
      rw[ol b nc];exact J.base.tups b xs (show del H1 c b=some _ by rw[dW nc];exact q)
    · by_cases nc:b=c
      · rw[nc,hc1] at q;cases q;rw[nc,upd_same]
      · rw[ol b nc];exact J.base.frzs b o u (show del H1 c b=some _ by rw[dW nc];exact q)
    · have nc:b≠c:=fun z=>by rw[z,hc1] at q;cases q
      rw[ol b nc];exact J.base.tbls b ps (show del H1 c b=some _ by rw[dW nc];exact q)
    · rw [ed] at sp
      have s2:Same H' (upd H' c (.frz co (.own c))):=Same.upd hn'
      refine sp v _ (fun b o q=>?_) ?_
      · by_cases nc:b=c
        · rw[nc,hc1] at q;cases q;rw[nc,upd_same]
        · exact s2 _ _ (sm b o (by rw[dW nc];exact q))
      · refine Rep.ext ⟨fun b xs z=>Same.rd s2 z,fun b xs _ z=>Same.rd s2 z⟩ (fun b xs nb hq z=>?_) d v rd
        by_cases nc:b=c
        · subst nc
          rcases hq with (hq |⟨o,hq⟩) |⟨o,its,n',hq,h4,_⟩
          · rw[hn'] at hq;cases hq
          · rw[hn'] at hq;cases hq
          · have:=kIn _ _ hq
            rw[hc'] at this;cases this
            simp_all
        · exact nb ⟨z,nc⟩
  refine wpAny_mono run (fun fl s' hs=>?_) fun e s' hs=>hs.elim
  cases fl with
  | ret u=>
    obtain⟨v,σ',H',J,rv,d,q1,q2,q3⟩:=hs
    exact fin J rv q1 q2 q3
  | next=>
    obtain⟨σ',H',J,q1,q2⟩:=hs
    exact fin (v:=V.non) (u:=Value.none) J rfl q1 q2 wH
  |brk=>obtain⟨_,_,_,q⟩:=hs;exact False.elim q
  |cont=>obtain⟨_,_,_,q⟩:=hs;exact False.elim q
end
end Pu
namespace Pu
open PySem PySem.Spec L2
open PyProof.Rows hiding St
section
variable {X:Cx} {name qual:Str} {params:Arguments} {body:List Stmt} {scope:Scope} {y xS:Str} {c fS:Addr} {YD:FuncData} {Ur:List Str} {kS kG n q iy:Nat} {FS:Addr→(List D→R D)→List D→R D} {GG:Int→List D→R D} {p pos:Pos} {e:Expr} {es:List Expr} {ta:TA}
inductive aj9 (K:PySem.W.Frag) (name qual:Str) (params:Arguments) (body:List Stmt) (scope:Scope) (y:Str) (c:Addr) (iy n:Nat) (FS:Addr→(List D→R D)→List D→R D) (GG:Int→List D→R D) (σ:St) (Q:VK) (vs:List V) (H1:Hp):Prop
  |mk (O:Addr→Prop) (ds:List D) (xs:List V) (a:Addr) (my:Int) (d:D) (e:vs=xs++[.ref a]) (r:aQ K O H1 ds xs) (hl:ds.length=n) (al:∀b,O b→∃o,H1 b=some o) (fh:oM H1 a name qual params body scope [(y,c)]) (hσ:σ[iy]?=some (some (.int my))) (hF:∀a,FS a (GG my) ds= .ok d) (hQ:∀v H',Same H1 H'→Rep K O H' d v→Q v H'):aj9 K name qual params body scope y c iy n FS GG σ Q vs H1
noncomputable def am8 (K:PySem.W.Frag) (name qual:Str) (params:Arguments) (body:List Stmt) (scope:Scope) (y:Str) (c:Addr) (iy n:Nat) (FS:Addr→(List D→R D)→List D→R D) (GG:Int→List D→R D) (ta:TA):TE:=fun σ H Q=>ta σ H fun vs H1=>aj9 K name qual params body scope y c iy n FS GG σ Q vs H1
theorem ai8 (Sw:FnOk X.prog X.w X.K X.mg X.base CX0 kS fS YD Ur (spS X.prog X.w X.mg X.base kG X.K n q FS)) (hr:Room kS X.A) (hg:Gl X xS) (hm:X.mg xS=some (.ref fS)) (hk:PySem.W.keepIn X.K (.ref fS)=true) (hb:Binds X.K YD Ur [])
    (ai9:∀my a c H co uy,oM H a name qual params body scope [(y,c)]→H c=some (.frz co (.own c))→co.data= .cell (some uy)→RelV (.int my) uy→Hq X.prog X.w X.K X.mg X.base kG (GG my) q a H)
    (hc:X.env.cells.lookup y=some c) (hyk:X.env.scope.names.lookup y=some .cell) (hfn:X.fn y=true) (hiy:X.N[iy]?=some y) (ha:PA X (e::es) ta) (hdb:(xS ==("__debug__" :Str))=false:=by decide)
    (he:starEach (e::es) X.env=(false,eval e X.env)::starEach es X.env:=by rfl) (hpl:(backTo pos (starEach es X.env)).any (·.1)=false:=by rfl):
    PE X (.Call (.Name xS p) (e::es) [] pos) (am8 X.K name qual params body scope y c iy n FS GG ta):=by
  intro pins s σ H Q I h
  refine wpAny_Call_Name_kw (ld_glob I hg hm ?_ hdb)
  refine PySem.W.callWith_K (h₀:=X.base) I.ok.mod.kin hk (thn (ha pos pins s σ H _ I h) fun us s1 ⟨vs,H1,I1,r,hq⟩=>⟨I1.kIn,?_⟩) he hpl
  obtain⟨O,ds,xs,a,my,d,rfl,rs,hl,al,fh,hσ,hF,hQ⟩:=hq
  obtain⟨m,hn,hl'⟩:=I1.loc
  obtain⟨uy,ry,look⟩:=hl' iy y (.int my) hiy hσ (.inr (.inl hyk))
  have hcell:s1.heap.IsCell c (some uy):=by
    rcases look with⟨z,_⟩ |⟨_,c2,z,hz⟩
    · have z:X.env.scope.names.lookup y=some .local:=z
      rw[hyk] at z;cases z
    · rw[hc] at z;cases z;exact hz
  obtain⟨co,hco,hcd⟩:=hcell
  have hnc:H1 c=none:=I1.freeC y c hc
  have cab:X.s₀.heap.objs.size≤c:=I1.ok.cab y c hfn hc
  have sm:Same H1 (upd H1 c (.frz co (.own c))):=Same.upd hnc
  have nfr:∀b∈frs X.stack,b≠c:=fun b hb z=>by
    rcases List.mem_cons.mp (I1.stkSub b hb) with e |hb'
    · exact I1.cne y c hc (z.symm.trans e)
    · obtain⟨_,o,ho,_⟩:=I1.ok.funs.mem hb'
      exact absurd (Nat.lt_of_lt_of_le (Heap.lt_size ho) cab) (by rw[z];exact Nat.lt_irrefl _)
  have e0:=I1.env0
  have e1:Env0 X.prog X.w X.K X.mg X.base X.A X.stack s1 (upd H1 c (.frz co (.own c))):=⟨e0.frames,e0.mod,fun b o z=>⟨(e0.bs b o z).1,by
    rw[upd_ne (fun w=>by
      have:=Heap.lt_size (I1.ok.bs b o z).1
      rw[w] at this;exact absurd (Nat.lt_of_lt_of_le this cab) (Nat.lt_irrefl _))]
    exact (e0.bs b o z).2⟩,e0.bsz,e0.funs,fun b hb=>by rw[upd_ne (nfr b hb)];exact e0.frf b hb,ade e0.hok hnc hco,e0.bare⟩
  obtain⟨fo,doc,pm,c',ctv,oc,vq,t,f1,f2,f3,f4,f5⟩:=id fh
  have fh1:=fh.fz fun b o u z=>sm b _ z
  have sp:spS X.prog X.w X.mg X.base kG X.K n q FS (xs++[.ref a]) (upd H1 c (.frz co (.own c))) (fun v H'=>Same (upd H1 c (.frz co (.own c))) H'∧Rep X.K O H' d v) E0:=by
    refine⟨O,ds,xs,a,GG my,rfl,rs.same sm,hl,fun b z=>let ⟨o,w⟩:=al b z;⟨o,sm _ _ w⟩,⟨rfl,fo,_,sm _ _ f1,f2⟩,ai9 my a c _ co uy fh1 upd_same hcd ry,?_⟩
    rw[hF a]
    exact fun v H' s' r'=>⟨s',r'⟩
  have hll:us.length=Ur.length:=by rw[←r.length];exact Sw.len _ _ _ _ sp
  have hbb:=hb s1 us I1.kIn (by rw[List.append_nil];exact hll)
  rw[List.append_nil] at hbb
  refine wpAny_call (codeAny_mono (Sw.run X.A X.stack s1 _ ⟨us,[]⟩ us _ _ E0 hr e1 hbb r sp) fun rr s' hq=>?_)
  cases rr with
  |error ev=>exact hq.elim
  | ok fl =>
    cases fl with
    |next=>exact False.elim hq
    |brk=>exact False.elim hq
    |cont=>exact False.elim hq
    | ret u =>
      obtain⟨v,H',os,bare,un,hok,rv,q1,q2⟩:=hq
      have hc':H' c=some (.frz co (.own c)):=un.frzs c co _ upd_same
      have up:∀b,b≠c→upd H1 c (.frz co (.own c)) b=H1 b:=fun b z=>upd_ne z
      have un':Un (frs X.stack) [] H1 (del H' c) s1.heap s'.heap:=by
        refine⟨fun b o z nb hb hx=>?_,fun b o z nb hb hx=>?_,fun b o z nb hx=>?_,un.there,fun b xs z=>?_,fun b o u z=>?_,fun b ps z=>?_⟩
        · by_cases bc:b=c
          · subst bc
            rw[hco] at z;cases z
            exact (hok b _ hc').1
          · exact un.keep b o z (by rw[up b bc];exact nb) hb hx
        · exact un.slot b o z (by rw[up b (nfr b hb)];exact nb) hb hx
        · by_cases bc:b=c
          · rw[bc];exact mL
          · rw[dW bc];exact un.free b o z (by rw[up b bc];exact nb) hx
        · have bc:=ne_of_none z hnc
          rw[dW bc];exact un.tups b xs (by rw[up b bc];exact z)
        · have bc:=ne_of_none z hnc
          rw[dW bc];exact un.frzs b o u (by rw[up b bc];exact z)
        · have bc:=ne_of_none z hnc
          rw[dW bc];exact un.tbls b ps (by rw[up b bc];exact z)
      have J:Inv X pins σ (del H' c) s':=I1.call' os un' (adb hok hc' hcd) bare fun b z=>absurd z (by simp)
      refine⟨v,del H' c,J,rv,hQ v _ (fun b o z=>?_) ?_⟩
      · have bc:=ne_of_none z hnc
        rw[dW bc];exact q1 b o (by rw[up b bc];exact z)
      · exact Rep.ext (adf hc') (fun b xs nb _ z=>nb z) d v q2
end
open Classical in
noncomputable def allOf (f:Addr→R D):R D:=if h:∃d,∀a,f a= .ok d then .ok h.choose else .bad
theorem aja {f:Addr→R D} {d:D} (h:∀a,f a= .ok d):allOf f= .ok d:=by
  have e:∃d,∀a,f a= .ok d:=⟨d,h⟩
  unfold allOf
  rw[dif_pos e]
  have:=e.choose_spec 0
  rw[h 0] at this
  exact this.symm
theorem ajb {f:Addr→R D} {d:D} (h:allOf f= .ok d) (a:Addr):f a= .ok d:=by
  unfold allOf at h
  by_cases e:∃d,∀a,f a= .ok d
  · rw[dif_pos e] at h
    cases h
    exact e.choose_spec a
  · rw[dif_neg e] at h;cases h
noncomputable def ad8 (i iy:Nat) (f1 f2 f3:au→R D) (FS:Addr→(List D→R D)→List D→R D) (GG:Int→List D→R D):au→So:=fun ρ=>match ρ[i]?,ρ[iy]? with
  | some none,some (some (.val (.int my)))=>(match f1 ρ,f2 ρ,f3 ρ with
    | .ok a,.ok b,.ok d=>(match allOf (fun x=>FS x (GG my) [a,b,d]) with
      | .ok r=> .rt r
      |_=> .bad)
    |_,_,_=> .bad)
  |_,_=> .bad
section
variable {X:Cx} {name qual:Str} {params:Arguments} {body:List Stmt} {scope:Scope} {y xS:Str} {c cc P fS:Addr} {YD:FuncData} {Ur:List Str} {kS kG q:Nat} {FS:Addr→(List D→R D)→List D→R D} {GG:Int→List D→R D} {p p4 pos pos2 al7:Pos} {e1 e2 e3:Expr} {f1 f2 f3:au→R D}
theorem In.anB {O:Addr→Prop} {H:Hp} {ρ:au} {σ:St} {i:Nat} {v:V} (j:In X O H ρ σ) (hn:ρ[i]?=some none):In X O H ρ (σ.set i (some v)):=by
  have ne:∀(k:Nat) e,ρ[k]?=some (some e)→i≠k:=fun k e h z=>by rw[←z,hn] at h;cases h
  refine⟨⟨fun k e h=>?_,fun k l e e' u hkl hk hl ok ol sk sl=>?_⟩,j.al,by rw[List.length_set];exact j.len,j.vf⟩
  · rw[List.getElem?_set_ne (ne k e h)];exact j.env.get k e h
  · rw[List.getElem?_set_ne (ne k e hk)] at sk
    rw[List.getElem?_set_ne (ne l e' hl)] at sl
    exact j.env.sep k l e e' u hkl hk hl ok ol sk sl
theorem ajc (i iy:Nat) (hN:X.N.Nodup) (hB:uI X.base X.mg cc P) (hT:Tb [(P,qual)] X.H₀) (hcode:X.env.code= .ref cc) (Sw:FnOk X.prog X.w X.K X.mg X.base CX0 kS fS YD Ur (spS X.prog X.w X.mg X.base kG X.K 3 q FS)) (hr:Room kS X.A) (hm:X.mg xS=some (.ref fS)) (hk:PySem.W.keepIn X.K (.ref fS)=true) (hb:Binds X.K YD Ur [])
    (ai9:∀my a c H co uy,oM H a name qual params body scope [(y,c)]→H c=some (.frz co (.own c))→co.data= .cell (some uy)→RelV (.int my) uy→Hq X.prog X.w X.K X.mg X.base kG (GG my) q a H)
    (h1:DE X e1 f1) (h2:DE X e2 f2) (h3:DE X e3 f3)
    (hcl:closureFor scope X.env=pure [(y,c)]) (hc:X.env.cells.lookup y=some c) (hyk:X.env.scope.names.lookup y=some .cell) (hfn:X.fn y=true) (hii:i≠iy) (hnv:Vis X.env.scope name)
    (hiy:X.N[iy]?=some y:=by rfl) (hi:X.N[i]?=some name:=by rfl) (hl:Loc X.env.scope name:=by first |exact Or.inl rfl |exact Or.inr rfl) (hq:qualnameIn X.env name name=qual:=by rfl) (hd0:params.defaults=[]:=by rfl) (hk0:params.kw_defaults=[]:=by rfl) (ha:annTrees params none X.env=[]:=by rfl)
    (hg:Gl X xS:=by rfl) (hdb:(xS ==("__debug__" :Str))=false:=by decide) (hdn:(name ==("__debug__" :Str))=false:=by decide) (hdc:(name ==("__classdict__" :Str))=false:=by decide)
    (he1:starEach [e1,e2,e3,.Name name p4] X.env=(false,eval e1 X.env)::starEach [e2,e3,.Name name p4] X.env:=by rfl) (he2:starEach [e2,e3,.Name name p4] X.env=(false,eval e2 X.env)::starEach [e3,.Name name p4] X.env:=by rfl)
    (he3:starEach [e3,.Name name p4] X.env=(false,eval e3 X.env)::starEach [.Name name p4] X.env:=by rfl) (he4:starEach [.Name name p4] X.env=(false,eval (.Name name p4) X.env)::starEach [] X.env:=by rfl)
    (hpl:(backTo pos2 (starEach [e2,e3,.Name name p4] X.env)).any (·.1)=false:=by rfl) (hf:X.fn name=true∨X.env.scope.names.lookup name=some .local:=by first |exact .inl rfl |exact .inr rfl):
    cG X [.FunctionDef name params body [] none [] scope none name pos,.Return (some (.Call (.Name xS p) [e1,e2,e3,.Name name p4] [] pos2)) al7] (ad8 i iy f1 f2 f3 FS GG):=by
  have A:=pa_cons h1 (pa_cons h2 (pa_cons h3 (pa_cons (pe_var (X:=X) (pos:=p4) hi hnv hdn hdc) pa_nil he4) he3) he2) he1
  refine PSs.imp (pss_cons (al4 i hN hB hT hcode hcl hi hl hq hd0 hk0 ha hf) (pss_one (ps_ret (ai8 (iy:=iy) (p:=p) (pos:=pos2) Sw hr hg hm hk hb ai9 hc hyk hfn hiy A hdb he1 hpl)))) fun σ H E h=>?_
  obtain⟨H0,O0,O,ρ,j,h⟩:=h
  intro a H1 sm fh
  unfold ad8 at h
  split at h
  · rename_i my en em
    have hil:i < X.N.length:=(List.getElem?_eq_some_iff.mp hi).1
    obtain⟨v,hv,rv⟩:=j.inn.env.get iy _ em
    have rv:v= .int my:=Rep.int (show Rep X.K O H (.int my) v from rv)
    subst rv
    split at h
    · rename_i d1 d2 d3 q1 q2 q3
      cases q4:allOf (fun x=>FS x (GG my) [d1,d2,d3]) with
      |bad=>rw[q4] at h;exact h.elim
      |err _=>rw[q4] at h;exact h.elim
      | ok d=>
        rw[q4] at h
        have jn:In X O H1 ρ (σ.set i (some (.ref a))):=In.anB (j.inn.same sm) en
        refine⟨ρ,O,jn,?_⟩
        rw[q1]
        intro v1 H2 s2 r1
        refine⟨ρ,O,jn.same s2,?_⟩
        rw[q2]
        intro v2 H3 s3 r2
        refine⟨ρ,O,(jn.same s2).same s3,?_⟩
        rw[q3]
        intro v3 H4 s4 r3
        have jl:i < σ.length:=by rw[j.inn.len];exact hil
        refine⟨.ref a,List.getElem?_set_self jl,?_⟩
        have s14:Same H1 H4:=(s2.trans s3).trans s4
        refine⟨O,[d1,d2,d3],[v1,v2,v3],a,my,d,rfl,.cons (r1.same (s3.trans s4)) (.cons (r2.same s4) (.cons r3 .nil)),rfl,(jn.same s14).al,fh.fz fun b o u z=>s14 _ _ z,?_,ajb q4,fun v' H' s' r'=>?_⟩
        · rw[List.getElem?_set_ne hii];exact hv
        · exact h v' H' (j.same.trans (sm.trans (s14.trans s'))) (r'.fewer j.sub)
    · exact h.elim
  · exact h.elim
end
end Pu
namespace Pu
open PySem PySem.Spec L2
open PyProof.Rows hiding St
noncomputable def qQ (a:Addr) (o:Option HO) (T:Addr) (q:Str):Hp:=fun b=>if b=T then some (.tbl #[.str q 0]) else if b=a then o else none
theorem ag5 {P:Program} {w:World} {K:PySem.W.Frag} {mg mb:Str→Option Value} {k:Nat} {fa a c T:Addr} {q:Str} {fd:FuncData} {x:Str} {sp:Sp} {s₁:Shared} {vs:List Value} {ns:List Int}
    (KX:K.In s₁.heap) (hns:s₁.heap.Ns mainGlobals mg) (hb:s₁.heap.Ns builtinsNs mb) (hbb:∀x:Str,x≠"__name__"→mb x=bootBuiltins x) (hlim:s₁.heap.NoLimit) (hg:s₁.gens= #[])
    (ha:s₁.heap.get? a=some {cls:= .type "list",data:= .seq vs.toArray}) (hi:IntsAre vs ns) (hl:ns.length≤sizeLine) (hr:Room k callerA)
    (hC:PySem.W.CodeHd s₁.heap c T) (hT:s₁.heap.get? T=some (PySem.W.tabObj #[])) (hnt:PySem.W.noTabs K=true)
    (hbm:∃bm ob,mg "__builtins__" =some (.ref bm)∧bm≠builtinsNs∧s₁.heap.get? bm=some ob∧ob.cls= .type "module"∧ob.dict=some builtinsNs∧ob.data= .plain)
    (F:∀base:Heap,K.In base→base.Ns mainGlobals mg→uI base mg c T→FnOk P w K mg base CX0 k fa fd [x] sp) (hbind:∀(s:Shared) (u:Value),BindsTo s fd ⟨[u],[]⟩ [(x,u)])
    (hsp:∀H:Hp,Tb [(T,q)] H→SqL K H a (ns.map V.int)→sp [.ref a] H (fun v _=>v= .bl true) fun _ _ _=>False):
    codeAny (model P w) callerA (.call (.ref fa) ⟨[.ref a],[]⟩) (fun r s'=>r= .ok (.ret (.bool true))∧OldK s₁.heap s'.heap∧s'.os=s₁.os∧AllBare s'.gens) s₁:=by
  have rv:=vals_ints hi
  have lenV:=hi.length
  have aT:a≠T:=fun z=>by rw[z,hT] at ha;cases ha
  have core : ∀o:Option HO,(o=none∨o=some (.frz {cls:= .type "list",data:= .seq vs.toArray} (.lst (ns.map V.int))))→SqL K (qQ a o T q) a (ns.map V.int)→(o≠none→K.lookup a=none)→
      codeAny (model P w) callerA (.call (.ref fa) ⟨[.ref a],[]⟩) (fun r s'=>r= .ok (.ret (.bool true))∧OldK s₁.heap s'.heap∧s'.os=s₁.os∧AllBare s'.gens) s₁:=by
    intro o ho hS hK
    have hH:∀b u,qQ a o T q b=some u→(b=T∧u= .tbl #[.str q 0])∨(b=a∧u= .frz {cls:= .type "list",data:= .seq vs.toArray} (.lst (ns.map V.int))∧o≠none):=fun b u z=>by
      unfold qQ at z
      by_cases h1:b=T
      · rw[if_pos h1] at z;cases z;exact .inl ⟨h1,rfl⟩
      · rw[if_neg h1] at z
        by_cases h2:b=a
        · rw[if_pos h2] at z
          rcases ho with ho |ho
          · rw[ho] at z;cases z
          · rw[ho] at z;cases z;exact .inr ⟨h2,rfl,by rw[ho];simp⟩
        · rw[if_neg h2] at z;cases z
    have hok:HOk P w (qQ a o T q) s₁.heap:=fun b u z=>by
      rcases hH b u z with⟨rfl,rfl⟩ |⟨rfl,rfl,_⟩
      · exact⟨#[],hT,trivial,fun p cv y=>by cases y⟩
      · exact⟨ha,by rw[List.length_map];exact hl,vs,_,rv,ha⟩
    have tb:Tb [(T,q)] (qQ a o T q):=fun p hp=>by
      have e:p=(T,q):=by simpa using hp
      subst e
      exact⟨#[.str q 0],0,if_pos rfl,rfl⟩
    have base_of:∀{b:Addr} {u:Obj},s₁.heap.get? b=some u→qQ a o T q b=none→(hidT s₁.heap (qQ a o T q)).get? b=some u:=fun e n=>hidT_get e n
    have free:∀{b:Addr} {u:Obj},s₁.heap.get? b=some u→u.cls≠.type "list"→u.cls≠.none→qQ a o T q b=none:=fun {b u} e n1 n2=>by
      cases z:qQ a o T q b with
      |none=>rfl
      | some y=>
        rcases hH b y z with⟨rfl,_⟩ |⟨rfl,_,_⟩
        · rw[hT] at e;cases e;exact absurd rfl n2
        · rw[ha] at e;cases e;exact absurd rfl n1
    have am9:∀{b:Addr} {u:Obj} {es:Array DictEntry} {ep:Nat},s₁.heap.get? b=some u→u.data= .dict es ep→qQ a o T q b=none:=fun {b u es ep} e d=>by
      cases z:qQ a o T q b with
      |none=>rfl
      | some y=>
        rcases hH b y z with⟨rfl,_⟩ |⟨rfl,_,_⟩
        · rw[hT] at e;cases e;cases d
        · rw[ha] at e;cases e;cases d
    have nsK:∀{b:Addr} {m:Str→Option Value},s₁.heap.Ns b m→(hidT s₁.heap (qQ a o T q)).Ns b m:=fun {b m} ⟨u,es,ep,e,d,r⟩=>⟨u,es,ep,base_of e (am9 e d),d,r⟩
    have hKb:K.In (hidT s₁.heap (qQ a o T q)):=fun b u e=>base_of (KX b u e) (by
      cases z:qQ a o T q b with
      |none=>rfl
      | some y=>
        rcases hH b y z with⟨rfl,_⟩ |⟨rfl,_,no⟩
        · have e1:=KX b u e
          rw[hT] at e1;cases e1
          have h2:=List.all_eq_true.mp hnt (b,PySem.W.tabObj #[]) (PySem.W.mem_of_lookupK e)
          exact absurd (show false=true from h2) Bool.false_ne_true
        · rw[hK no] at e;cases e)
    have hM:Mod K mg (hidT s₁.heap (qQ a o T q)):=⟨hKb,nsK hns,⟨mb,nsK hb,hbb⟩,let ⟨mc,h1,h2⟩:=hlim;⟨mc,nsK h1,h2⟩⟩
    have nb:uI (hidT s₁.heap (qQ a o T q)) mg c T:=by
      refine⟨?_,?_⟩
      · obtain⟨oc,v,file,tf,flags,tg,inF,text,tt,e1,e2,r⟩:=hC
        exact⟨oc,v,file,tf,flags,tg,inF,text,tt,base_of e1 (free e1 (by rw[e2];nofun) (by rw[e2];nofun)),e2,r⟩
      · obtain⟨bm,ob,b1,b2,b3,b4,r⟩:=hbm
        exact⟨bm,ob,b1,b2,base_of b3 (free b3 (by rw[b4];nofun) (by rw[b4];nofun)),b4,r⟩
    have e0:Env0 P w K mg (hidT s₁.heap (qQ a o T q)) callerA [] s₁ (qQ a o T q):=⟨rfl,hM,fun b o e=>of_hidT e,Nat.le_of_eq (hidT_size _ _),trivial,fun b hb=>absurd (show b∈([]:List Addr) from hb) (by simp),hok,.of_eq hg⟩
    refine codeAny_mono ((F _ hKb (nsK hns) nb).run callerA [] s₁ (qQ a o T q) ⟨[.ref a],[]⟩ [.ref a] [.ref a] _ _ hr e0 (hbind s₁ (.ref a)) (.cons rfl .nil) (hsp _ tb hS)) fun r s' h=>?_
    cases r with
    |error e=>exact h.elim
    | ok fl =>
      cases fl with
      |next=>exact False.elim h
      |brk=>exact False.elim h
      |cont=>exact False.elim h
      | ret u =>
        obtain⟨v,H',os,bare,un,hok',r',z⟩:=h
        have z:v= .bl true:=z
        subst z
        obtain rfl:u=Value.bool true:=r'
        have each:∀b o,s₁.heap.get? b=some o→s'.heap.get? b=some o∨(b=T∧o=PySem.W.tabObj #[]∧∃qs,s'.heap.get? b=some (PySem.W.tabObj qs)):=fun b ob e=>by
          cases z:qQ a o T q b with
          |none=>exact .inl (un.keep b ob e z (by intro y;exact absurd (show b∈([]:List Addr) from y) (by simp)) (by simp))
          | some y=>
            rcases hH b y z with⟨rfl,rfl⟩ |⟨rfl,rfl,_⟩
            · obtain⟨more,z2⟩:=un.tbls _ _ z
              obtain⟨qs,e2,_⟩:=hok' _ _ z2
              rw[hT] at e;cases e
              exact .inr ⟨rfl,rfl,qs,e2⟩
            · have z2:=un.frzs _ _ _ z
              obtain⟨e1,_⟩:=hok _ _ z
              obtain⟨e2,_⟩:=hok' _ _ z2
              rw[e] at e1;cases e1
              exact .inl e2
        refine⟨rfl,⟨fun b ob e=>?_,fun b ob e=>?_⟩,os,bare⟩
        · rcases each b ob e with z |⟨rfl,rfl,qs,z⟩
          · exact .inl z
          · exact .inr (.inl ⟨(hC.tab hT).isCodeTable,rfl,#[],qs,rfl,by rw[Array.empty_append];exact z⟩)
        · rcases each b ob e with z |⟨rfl,rfl,qs,z⟩
          · exact⟨_,z⟩
          · exact⟨_,z⟩
  cases hk:K.lookup a with
  | some o=>
    have e:=KX a o hk
    rw[ha] at e
    cases e
    exact core none (.inl rfl) (.inr ⟨_,vs.toArray,_,hk,rfl,rfl,rfl,by rw[List.size_toArray,lenV];exact hl,by simpa using rv⟩) fun z=>absurd rfl z
  |none=>exact core _ (.inr rfl) (.inl (.inr ⟨_,(if_neg aT).trans (if_pos rfl)⟩)) fun _=>hk
noncomputable def Hr (K:PySem.W.Frag) (mg:Str→Option Value) (x:Str) (c:Addr):Prop:=∀f oc od fd osl,mg x=some (.ref f)→K.lookup f=some ⟨oc,od,.func fd,osl⟩→fd.code= .ref c
theorem ana {l:PySem.W.OpenLaw} {n k:Nat} {p:Program} {loose:List Str} {XP:(Str→Option Value)→Heap→Prop} {YP:World→Heap→Prop} {d:DefRec} {K:Params→PySem.W.Frag} {x y q:Str} {FL:List D→R D}
    (hn:l.most=some n) (hn2:n≤sizeLine) (hdf:d.params.defaults=[]) (hr:Room k callerA)
    (hY:∀(w:World) (h:Heap),YP w h→(K w.params).In h) (hnt:∀w:World,PySem.W.noTabs (K w.params)=true) (hrec:∃dy∈recsOf p,dy.name=y)
    (F:∀(w:World) (mg:Str→Option Value) (fa:Addr) (h:Heap),(K w.params).In h→h.Ns mainGlobals mg→mg d.name=some (.ref fa)→
      ∃ fd:FuncData,(∀(s:Shared) (u:Value),BindsTo s fd ⟨[u],[]⟩ [(x,u)])∧
        ∀(base:Heap) (c T:Addr),(K w.params).In base→base.Ns mainGlobals mg→uI base mg c T→Hr (K w.params) mg y c→FnOk l.prog w (K w.params) mg base CX0 k fa fd [x] (spT [(T,q)] (K w.params) 1 FL))
    (hL:∀ns:List Int,ns.length≤n→FL [.lst (ns.map D.int)]= .ok (.bl true)):
    PySem.W.WalkO p loose XP YP l.row.toRowW d [] (fun f vs=>PySem.call f vs):=by
  refine Att.attach_call hn hdf fun w s₀ s₁ mg mb fa o pm cd doc a vs ns G Y ho hd hcd hmg hobj hints hlen hg=>?_
  have KX:=hY w _ Y
  obtain⟨fd,hb,hF⟩:=F w mg fa _ KX G.T.g hmg
  obtain⟨dy,hdy,rfl⟩:=hrec
  obtain⟨f',o',fd',c,T,t1,t2,t3,t4,t5,t6⟩:=G.T.tab dy hdy
  have hci:Hr (K w.params) mg dy.name c:=fun f oc od fd2 osl e1 e2=>by
    rw[t1] at e1;cases e1
    have e3:=KX _ _ e2
    rw[t2] at e3;cases e3
    cases t3
    exact t4
  exact ag5 (q:=q) KX G.T.g G.T.b G.T.builtins G.T.nolimit hg hobj hints (Nat.le_trans hlen hn2) hr (PySem.W.CodeHd.of t5 t6) t6.2 (hnt w) G.T.bmain (fun base h1 h2 h3=>hF base c T h1 h2 h3 hci) hb fun H tb hS=>⟨tb,sp_law hS (hL ns hlen)⟩
end Pu
namespace Pu
open PySem PySem.Spec L2
open PyProof.Rows hiding St
section
variable {X:Cx} {e lo hi:Expr} {f g:au→R D} {fl fu:au→R (Option Int)} {pos p2 p3 p4:Pos}
noncomputable def akE (d:D) (lo hi:Option Int):R D:=match d with
  | .lst ds=> .ok (.lst (nT ds lo hi))
  |_=> .bad
noncomputable def qR (f:au→R D) (fl fu:au→R (Option Int)):au→R D:=fun ρ=>(f ρ).bind fun d=>(fl ρ).bind fun l=>(fu ρ).bind fun u=>akE d l u
theorem Hs {lo hi:Option Expr} (he:DE X e f) (hl:DPo X lo fl) (hu:DPo X hi fu):DE X (.Subscript e (.Slice lo hi none p2) pos) (qR f fl fu):=by
  refine PE.imp (pe_slice sl_list he hl hu) fun σ H Q h=>?_
  obtain⟨ρ,O,j,h⟩:=h
  refine go j h fun d v H1 e1 s1 r1 j1 h1=>?_
  refine go j1 h1 fun l l' H2 e2 s2 r2 j2 h2=>?_
  refine go j2 h2 fun u u' H3 e3 s3 r3 j3 h3=>?_
  have r2:l=l':=r2
  have r3:u=u':=r3
  subst r2 r3
  cases d with
  | lst ds=>
    have r1':=(r1.same s2).same s3
    obtain⟨a,xs,rfl,hq,hn,rs⟩:=r1'.lst
    have hlen:=rs.length
    refine⟨a,xs,rfl,hq,fun p hp=>?_⟩
    refine h3 _ _ (Same.upd hp) (Rep.wK hp (j3.G6 hp) ?_)
    unfold nT cutV
    rw[hlen]
    exact (rs.drop _).take _
  |_=>exact h3.elim
theorem akF {kk} {te:TE} (he:PE X e te):PE X (.Subscript e (.Slice none none (some (.UnaryOp .USub (.Constant (.int 1) kk p3) p4)) p2) pos) (fun σ H Q=>te σ H fun x H1=>∃a xs,x= .ref a∧SqL X.K H1 a xs∧∀p,H1 p=none→Q (.ref p) (upd H1 p (.lst xs.reverse))):=by
  intro pins s σ H Q I h
  refine Subscript_ (thn (he pins s σ H _ I h) fun v s1 bL=>?_)
  obtain⟨x,H1,I1,r1,q1⟩:=bL
  obtain⟨a,xs,rfl,hq,q⟩:=q1
  cases r1
  refine wpAny_Slice ?_
  rw[evalPart_none,evalPart_some]
  refine wpAny_pure (wpAny_pure ?_)
  refine thn (pe_un (X:=X) un_neg pe_int pins s1 σ H1 (fun y H2=>y= .int (-1)∧H2=H1) I1 ⟨1,rfl,rfl,rfl⟩) fun vs s2 bL=>?_
  obtain⟨y,H2,I2,r2,ey,eH⟩:=bL
  subst ey
  subst eH
  obtain⟨t,rfl⟩:=r2
  have I4:Inv X pins σ H2 {s2 with heap:=s2.heap.push {cls:= .type "slice",data:= .fields #[.none,.none,.int (-1) t]}}:=I2.kept (t':=s2.toks) fun b ob q=>Heap.get?_push_of_some _ q
  obtain⟨its,rv,ht,hz⟩:=I4.list hq
  have hlen:=rv.length
  show wpAny (model X.prog X.w) X.A (subscriptTail e (.Slice none none (some (.UnaryOp .USub (.Constant (.int 1) kk p3) p4)) p2) (.ref a) (.ref s2.heap.objs.size)) (EP X pins σ Q) X.xe {s2 with heap:=s2.heap.push {cls:= .type "slice",data:= .fields #[.none,.none,.int (-1) t]}}
  refine tail_any (ops:=[.ref a,.ref s2.heap.objs.size]) ht.isList.typeIs slot_list_getitem.lookup (wpAny_getItem_list_slice ht.isList (Heap.IsSliceOf.new ..) .none .none (.int (-1) t) (by simp) ?_ (by rw[List.size_toArray];omega)) (by with_unfolding_all rfl)
  rw[PySem.W.krv_pick]
  refine⟨.ref _,_,I4.laid (t':=s2.toks) (o:= .lst xs.reverse) (fun b ob q=>Heap.get?_push_of_some _ q) (Nat.le_refl _) ?_,rfl,q _ (I4.hok.fresh (Nat.le_refl _))⟩
  exact⟨by rw[List.length_reverse];exact hz,its.reverse,0,Vals.rev rv,(by have e:its.toArray.toList.reverse=its.reverse:=(by simp);rw[e];exact Heap.get?_push_size _ rfl)⟩
noncomputable def anb:D→R D
  | .lst ds=> .ok (.lst ds.reverse)
  |_=> .bad
noncomputable def XS (f:au→R D):au→R D:=fun ρ=>(f ρ).bind anb
theorem akG {kk} (he:DE X e f):DE X (.Subscript e (.Slice none none (some (.UnaryOp .USub (.Constant (.int 1) kk p3) p4)) p2) pos) (XS f):=by
  refine PE.imp (akF he) fun σ H Q h=>?_
  obtain⟨ρ,O,j,h⟩:=h
  refine go j h fun d v H1 e1 s1 r1 j1 h1=>?_
  cases d with
  | lst ds=>
    obtain⟨a,xs,rfl,hq,hn,rs⟩:=r1.lst
    exact⟨a,xs,rfl,hq,fun p hp=>h1 _ _ (Same.upd hp) (Rep.wK hp (j1.G6 hp) rs.reverse)⟩
  |_=>exact h1.elim
noncomputable def ixO (i:Nat) (f:au→R D):au→R D:=fun ρ=>match ρ[i]? with
  |some (some (.lst ds))=>(f ρ).bind fun d=>cg (.lst ds) d
  |_=> .bad
theorem al8 (i:Nat) {x:Str} {px:Pos} (hb:DE X e f) (hs:PlainIx e:=by exact fun _ _=>rfl) (hN:X.N[i]?=some x:=by rfl) (hv:Vis X.env.scope x:=by first |exact Or.inl rfl |exact Or.inr (Or.inl rfl) |exact Or.inr (Or.inr rfl))
    (hd:(x ==("__debug__" :Str))=false:=by decide) (hcd:(x ==("__classdict__" :Str))=false:=by decide):DE X (.Subscript (.Name x px) e pos) (ixO i f):=by
  refine PE.imp (pe_ix ix_seq (pe_var hN hv hd hcd) hb hs) fun σ H Q h=>?_
  obtain⟨ρ,O,j,h⟩:=h
  unfold ixO at h
  split at h
  · rename_i ds q
    obtain⟨v,hv1,a,xs,rfl,hO,hH,rs⟩:=j.env.get i _ q
    refine⟨.ref a,hv1,?_⟩
    refine go j h fun d y H1 e1 s1 r1 j1 h1=>?_
    cases d with
    | int k=>
      have h':good X (rD X) O (match L2.atI ds k with |some d=>R.ok d |none=>R.bad) σ H1 Q:=h1
      cases e2:L2.atI ds k with
      |none=>rw[e2] at h';exact h'.elim
      | some d=>
        rw[e2] at h'
        obtain⟨v,e3,rv⟩:=(rs.same s1).atI e2
        exact .inl ⟨a,xs,k,v,rfl,r1.int,SqL.of (s1 _ _ hH),e3,fin h' rv⟩
    |_=>exact h1.elim
  · exact h.elim
end
section
variable {X:Cx} {pos:Pos}
noncomputable def YF (i k:Nat):au→So:=fun ρ=>match ρ[i]?,ρ[k]? with
  |some (some (.lst ds)),some (some (.lst es))=>if ds.length < 1000000 then .nx ((ρ.set i (some (.lst (ds++[.lst es])))).set k (some (.val (.lst es)))) else .bad
  |_,_=> .bad
theorem At.give {H0 H:Hp} {O0 O:Addr→Prop} {ρ:au} {σ:St} (j:At X H0 O0 O H ρ σ) {k:Nat} {es:List D} {b:Addr} (hk:ρ[k]?=some (some (.lst es))) (hb:σ[k]?=some (some (.ref b))):
    At X H0 O0 (fun a=>O a∧a≠b) H (ρ.set k (some (.val (.lst es)))) σ∧iu X.K O H (fun a=>O a∧a≠b) H:=by
  obtain⟨hH0,hO0⟩:=j.mine k _ b hk rfl hb
  have rc:iu X.K O H (fun a=>O a∧a≠b) H:=⟨⟨fun _ _ z=>z,fun _ _ _ z=>z⟩,fun a z=> .inl z.1,fun _ z=>z⟩
  have hkl:k < ρ.length:=(List.getElem?_eq_some_iff.mp hk).1
  obtain⟨v,hv,b',xs,e1,hO,hH,rs⟩:=j.inn.env.get k _ hk
  rw[hb] at hv;cases hv;cases e1
  refine⟨⟨j.same,j.iR.trans rc,fun a z=>⟨j.sub a z,fun e=>hO0 (e▸z)⟩,⟨⟨fun m e q=>?_,fun m l e e' u hml hm hl om ol sm sl=>?_⟩,fun a z=>j.inn.al a z.1,j.inn.len,by rw[List.length_set];exact j.inn.vf⟩,fun m e a q ho hs=>?_⟩,rc⟩
  · by_cases hmk:m=k
    · subst hmk
      rw[List.getElem?_set_self hkl] at q;cases q
      exact⟨_,hb,wI (SqL.of hH) (fun z=>z.2 rfl) (rs.go rc)⟩
    · rw[List.getElem?_set_ne (Ne.symm hmk)] at q
      obtain⟨v,q1,q2⟩:=j.inn.env.get m e q
      refine⟨v,q1,?_⟩
      have nb:e.own=true→v≠.ref b:=fun oe z=>by subst z;exact j.inn.env.sep m k _ _ _ hmk q hk oe rfl q1 hb
      cases e with
      |val d=>exact Rep.go rc q2
      |obj t=>exact q2
      | lst ds=>
        obtain⟨a,ys,e2,o2,h2,r2⟩:=q2
        exact⟨a,ys,e2,⟨o2,fun z=>nb rfl (by rw[e2,z])⟩,h2,r2.go rc⟩
      | G5 kvs=>
        obtain⟨a,ys,e2,o2,h2,kk,r2⟩:=q2
        exact⟨a,ys,e2,⟨o2,fun z=>nb rfl (by rw[e2,z])⟩,h2,kk,r2.go rc⟩
  · have un:∀{m:Nat} {x:Ent},(ρ.set k (some (.val (.lst es))))[m]?=some (some x)→x.own=true→ρ[m]?=some (some x):=fun {m x} h ho=>by
      by_cases hmk:m=k
      · subst hmk;rw[List.getElem?_set_self hkl] at h;cases h;cases ho
      · rw[List.getElem?_set_ne (Ne.symm hmk)] at h;exact h
    exact j.inn.env.sep m l e e' u hml (un hm om) (un hl ol) om ol sm sl
  · by_cases hmk:m=k
    · subst hmk;rw[List.getElem?_set_self hkl] at q;cases q;cases ho
    · rw[List.getElem?_set_ne (Ne.symm hmk)] at q;exact j.mine m e a q ho hs
theorem akH (i k:Nat) {x y:Str} {px py apos cpos:Pos} (hik:i≠k) (hN:X.N[i]?=some x:=by rfl) (hNk:X.N[k]?=some y:=by rfl) (hv:Vis X.env.scope x:=by first |exact Or.inl rfl |exact Or.inr (Or.inl rfl) |exact Or.inr (Or.inr rfl)) (hvk:Vis X.env.scope y:=by first |exact Or.inl rfl |exact Or.inr (Or.inl rfl) |exact Or.inr (Or.inr rfl))
    (hd:(x ==("__debug__" :Str))=false:=by decide) (hcd:(x ==("__classdict__" :Str))=false:=by decide) (hdk:(y ==("__debug__" :Str))=false:=by decide) (anC:(y ==("__classdict__" :Str))=false:=by decide)
    (hbase:attributeBase (.Name x px) "append" X.env (eval (.Name x px) X.env)=eval (.Name x px) X.env:=by rfl)
    (hfew:((backTo cpos (starEach [.Name y py] X.env)).all (fun x=> !x.1) && (backToKw cpos (keywordEach [] X.env)).all (fun x=>x.1.isSome)
      && decide ([Expr.Name y py].length+([]:List Keyword).length+(if ([]:List Keyword).isEmpty then 0 else 1) < 30))=true:=by rfl)
    (hline:(apos.endLine ==cpos.line)=true:=by rfl) (hs1:starEach [.Name y py] X.env=(false,eval (.Name y py) X.env)::starEach [] X.env:=by rfl) (hplain:(backTo cpos (starEach [] X.env)).any (·.1)=false:=by rfl)
    (hs:swapsWith (.Call (.Attribute (.Name x px) "append" apos) [.Name y py] [] cpos) none pos.line X.env=pure false:=by rfl):
    DS X (.Expr (.Call (.Attribute (.Name x px) "append" apos) [.Name y py] [] cpos) pos) (YF i k):=by
  refine PS.imp (ps_expr (pe_bm PySem.F.plainAttrs_list PySem.F.slot_list_append PySem.F.type_list_append mt_append (pe_var hN hv hd hcd) (pa_cons (pe_var hNk hvk hdk anC) pa_nil hs1) hbase hfew hline hs1 hplain) hs) fun σ H E h=>?_
  obtain⟨H0,O0,O,ρ,j,h⟩:=h
  unfold YF at h
  split at h
  · rename_i ds es q1 q2
    by_cases hl:ds.length < 1000000
    · rw[if_pos hl] at h
      obtain⟨v,hv1,a,xs,rfl,hO,hH,rs⟩:=j.inn.env.get i _ q1
      obtain⟨v,hv2,b,ys,rfl,hO2,hH2,Oa⟩:=j.inn.env.get k _ q2
      have hab:a≠b:=fun z=>j.inn.env.sep i k _ _ _ hik q1 q2 rfl rfl hv1 (by rw[z];exact hv2)
      refine⟨.ref a,hv1,.inl ⟨rfl,xs,SqL.of hH⟩,.ref b,hv2,?_⟩
      have hlen:=rs.length
      refine⟨a,xs,.ref b,rfl,rfl,hH,by have:=jz;omega,?_⟩
      obtain⟨j1,r1⟩:=j.give q2 hv2
      have q1':(ρ.set k (some (.val (.lst es))))[i]?=some (some (.lst ds)):=by rw[List.getElem?_set_ne (Ne.symm hik)];exact q1
      obtain⟨j2,r2⟩:=j1.chg (o:= .lst (xs++[.ref b])) (en:= .lst (ds++[.lst es])) q1' rfl hv1 ⟨hO,hab⟩ hH trivial rfl fun r=>⟨a,xs++[.ref b],rfl,⟨hO,hab⟩,upd_same,by
        have z1:aQ X.K (fun c=>O c∧c≠b) H (ds++[.lst es]) (xs++[.ref b]):=(rs.go r1).append (.cons (wI (SqL.of hH2) (fun z=>z.2 rfl) (Oa.go r1)) .nil)
        exact z1.go r⟩
      rw[List.set_comm _ _ (Ne.symm hik)] at j2
      exact h _ _ _ j2 (r1.trans r2)
    · rw[if_neg hl] at h;exact h.elim
  · exact h.elim
end
section
open PySem
theorem ad9 (l b:Addr) (items:Array Value) (n:Nat) (items2:Array Value) (n2:Nat) (dd:Option Addr) (sl:Array (Option Value)) (hs0:¬(!items.isEmpty && Builtin.List.listTooLong (items.size+items2.size))=true) (hs1:items.size≤sizeLine) (hs2:items.size+items2.size≤sizeLine+1):
    Meets (Builtin.«list.__iadd__» ⟨[.ref l,.ref b],[]⟩) (fun _ R s=>s.heap.get? l=some {cls:= .type "list",dict:=none,data:= .seq items n,slots:= #[]}∧s.heap.get? b=some {cls:= .type "list",dict:=dd,data:= .seq items2 n2,slots:=sl}∧R (.ok (.ret (Value.ref l))) {s with heap:=s.heap.update l (Obj.mapSeq fun x=>x++items2),toks:=s.toks}):=
  .of_wp fun prog w A R s h=>by
    obtain⟨hp,g,d,tk,os⟩:=s;obtain⟨hl,hb,h⟩:=h;have f1:=AutoSeq1.idx_int;have f2:=AutoSeq1.sub_tuple_tuple;have f3:=AutoSeq1.sub_list_list;have f4:=AutoSeq1.sub_tuple_list;have f5:=AutoSeq1.sub_list_tuple;
    have hz':(items++items2).size≤sizeLine+1:=by rw[Array.size_append];exact hs2
    wp_walk using (wpAny_updateSeq hl rfl (hz:=hs1) (_hz':=hz')),wpAny_loadPart' hl,wpAny_loadPart' hb;exact⟨_,rfl,h⟩
end
section
variable {X:Cx} {e:Expr} {f:au→R D} {pos:Pos}
theorem akI:PIp X .Add (fun x y H Q=>∃a b xs ys,x= .ref a∧y= .ref b∧H a=some (.lst xs)∧SqL X.K H b ys∧xs.length+ys.length≤1000000∧Q (.ref a) (upd H a (.lst (xs++ys)))):=by
  intro pins s σ H x y v u Q I rx ry h
  obtain⟨a,b,xs,ys,rfl,rfl,ha,hb,hz,q⟩:=h
  cases rx
  cases ry
  obtain⟨its,n,r,ho,hzl⟩:=I.lst ha
  obtain⟨its2,r2,p2,hz2⟩:=I.list hb
  obtain⟨⟨cls2,dd2,data2,sl2⟩,ho2,hc2,n2,hd2⟩:=id p2.isList
  simp only at hc2 hd2
  subst hc2 hd2
  have l1:=r.length
  have l2:=r2.length
  have hsl:=jz
  have hT:s.TypeIs (.ref a) "list" :=⟨_,ho,rfl⟩
  have hT2:s.TypeIs (.ref b) "list" :=⟨_,ho2,rfl⟩
  unfold inplaceOp
  refine wpAny_holding ?_
  have hfi:fillsInplaceSlot (.type "list") "add" (Operator.Add == .Add)=pure false:=by
    unfold fillsInplaceSlot
    show (typeLookup (.type "list") (dunderI "add") >>=fun fi=>pure (fi.isSome && !isSeqSlot fi))=pure false
    rw[PySem.F.slot_list_iadd.lookup,pure_bind,show isSeqSlot (some (.builtin "list.__iadd__"))=true from by decide +kernel];rfl
  refine wpAny_bind (wpAny_typeOf hT (wpAny_bind (wpAny_of_eq hfi ?_)))
  show wpAny _ _ (if false=true then _ else _) _ _ s
  rw[if_neg Bool.false_ne_true]
  refine wpAny_bind (binaryOp1_none (nm:= "add") hT hT2 PySem.noFill_list_add ?_)
  refine wpAny_bind (wpAny_of_eq (PySem.seqSlot_of (T:= "list") (name:=dunderI "add") (id:= "list.__iadd__") PySem.F.slot_list_iadd.lookup (by decide +kernel)) ?_)
  refine wpAny_bind (wpAny_rule ?_)
  refine call_meets PySem.F.slot_list_iadd hT PySem.F.entry_list_iadd (PySem.F.args_list_iadd_2 _ _) (ad9 a b its.toArray n its2.toArray n2 dd2 sl2 ?_ (by rw[List.size_toArray];omega) (by rw[List.size_toArray,List.size_toArray];omega)) ⟨ho,ho2,?_⟩
  · rw[List.size_toArray,List.size_toArray]
    have:Builtin.List.listTooLong (its.length+its2.length)=false:=by unfold Builtin.List.listTooLong;exact decide_eq_false (by omega)
    rw[this];simp
  · refine⟨.ref a,upd H a (.lst (xs++ys)),I.lset (its':=its++its2) ha ho (by simp) (r.append r2) (by rw[List.length_append];omega),rfl,q⟩
noncomputable def Mw (i:Nat) (f:au→R D):au→So:=fun ρ=>match ρ[i]? with
  | some (some (.lst ds))=>nZ (X7 (f ρ)) ρ fun d=>match d with
    | .lst es=>if ds.length+es.length≤1000000 then .nx (ρ.set i (some (.lst (ds++es)))) else .bad
    |_=> .bad
  |_=> .bad
theorem adi (i:Nat) {x:Str} {pos':Pos} (hN:X.N.Nodup) (he:DE X e f) (hi:X.N[i]?=some x:=by rfl) (hx:Loc X.env.scope x:=by first |exact Or.inl rfl |exact Or.inr rfl)
    (hf:X.fn x=true∨X.env.scope.names.lookup x=some .local:=by first |exact .inl rfl |exact .inr rfl):DS X (.AugAssign (.Name x pos') .Add e pos) (Mw i f):=by
  refine PS.imp (ps_aug hN hi hx he akI hf) fun σ H E h=>?_
  obtain⟨H0,O0,O,ρ,j,h⟩:=h
  unfold Mw at h
  split at h
  · rename_i ds q
    obtain⟨v,hv1,a,xs,rfl,hO,hH,rs⟩:=j.inn.env.get i _ q
    refine⟨.ref a,hv1,ρ,O,j.inn,?_⟩
    unfold nZ at h
    cases e1:f ρ with
    |bad=>rw[e1] at h;exact h.elim
    |err c=>rw[e1] at h;exact h.elim
    | ok d =>
      rw[e1] at h
      intro w H1 s1 rw1
      cases d with
      | lst es=>
        have h:Gj X H0 O0 O H E (if ds.length+es.length≤1000000 then .nx (ρ.set i (some (.lst (ds++es)))) else .bad):=h
        by_cases hl:ds.length+es.length≤1000000
        · rw[if_pos hl] at h
          have j1:=j.grow s1
          obtain⟨b,ys,rfl,hb,hnb,Oa⟩:=rw1.lst
          have rs1:=rs.same s1
          have hH1:=s1 _ _ hH
          refine⟨a,b,xs,ys,rfl,rfl,hH1,hb,by rw[←rs1.length,←Oa.length];exact hl,?_⟩
          obtain⟨j2,r2⟩:=j1.chg (o:= .lst (xs++ys)) (en:= .lst (ds++es)) q rfl hv1 hO hH1 trivial rfl fun r=>⟨a,xs++ys,rfl,hO,upd_same,(rs1.append Oa).go r⟩
          have eσ:σ.set i (some (V.ref a))=σ:=by
            apply List.ext_getElem?
            intro m
            by_cases hm:m=i
            · subst hm;rw[List.getElem?_set_self (List.getElem?_eq_some_iff.mp hv1).1,hv1]
            · rw[List.getElem?_set_ne (Ne.symm hm)]
          rw[eσ]
          exact h _ _ _ j2 ((Same.iR s1).trans r2)
        · rw[if_neg hl] at h;exact h.elim
      |_=>exact h.elim
  · exact h.elim
end
end Pu
namespace Pu
open PySem PySem.Spec L2
open PyProof.Rows hiding St
noncomputable def Its (lo:Int) (n:Nat) (c:Int):It:=⟨fun i _=>i < n,fun i H x H'=>H'=H∧x= .int (lo+i*c),fun i _=>n≤i⟩
theorem ag6 {P:Program} {w:World} {K:PySem.W.Frag} {tg:Expr} (it:Addr) (lo:Int) (n:Nat) (c:Int):Turn P w K tg (Its lo n c) [it] it (fun i h=>IsRangeIter h it (lo+(i:Nat)*c) ((n:Int) - (i:Nat)) c) where
  mem:=by simp
  obj :=fun i h st b hb=>by
    have e:b=it:=by simpa using hb
    subst e
    exact⟨_,st,fun v z=>by
      have z':Data.fields _=Data.cell v:=z
      cases z'⟩
  keep:=fun i h h' st k=>k it (by simp) _ st
  item:=by
    intro X hP hw hK hc i pins s σ H E I hf st hg
    subst hP hw hK
    obtain⟨f0,f1,f2,f3,f4,f5⟩:=hf it (by simp)
    have W:=Walks.range (prog:=X.prog) (w:=X.w) (I.ok.hd hc) it lo c n
    refine W.item i s _ _ hg st fun v h' tk hv st' kk=>?_
    obtain⟨t,rfl⟩:=hv
    have I1:Inv X pins σ H {s with heap:=h',toks:=tk}:=I.turned (fun b o hb e=>kk b o (by simpa using hb) e) f0 f1 f3 f4 f5
    exact⟨_,rfl,go_of (s:={s with heap:=h',toks:=tk}) (n:= "range_iterator") st' rfl rfl (by decide) ⟨.int (lo+i*c),H,I1,⟨t,rfl⟩,⟨rfl,rfl⟩,st',fun b hb=>(hf b hb).1⟩⟩
  done:=by
    intro X hP hw hK hc i pins s σ H E I hf st hg
    subst hP hw hK
    obtain⟨f0,f1,f2,f3,f4,f5⟩:=hf it (by simp)
    exact wpAny_pyNext_range_end (I.ok.hd hc) st (by have:n≤i:=hg;omega) fun h' eb=>⟨rfl,I.turned (t':=s.toks) (fun b o hb e=>eb b o hb e) f0 f1 f3 f4 f5⟩
  self:=fun _ _ _ _ _ st h=>wpAny_pyIter_rangeiter st h
noncomputable def Ht (hi:Int) (n:Nat):List D:=(List.range n).map fun (i:Nat)=>D.int (hi - (i:Int))
theorem YR.step {K:PySem.W.Frag} {O:Addr→Prop} {H:Hp} (hi:Int) (n:Nat):YR K O H (Its hi n (-1)) (Ht hi n):=by
  intro O' H' _
  intro i
  refine⟨fun d e=>?_,fun e=>?_⟩
  · unfold Ht at e
    rw[List.getElem?_map] at e
    cases q:(List.range n)[i]? with
    |none=>rw[q] at e;cases e
    | some k=>
      rw[q] at e
      have hk:i < n∧i=k:=by simpa[List.getElem?_range] using (List.getElem?_eq_some_iff.mp q)
      obtain⟨h1,rfl⟩:=hk
      cases e
      refine⟨h1,fun x H2 y=>?_⟩
      obtain⟨rfl,rfl⟩:=y
      exact⟨Same.refl _,by rw[show hi+(i:Int)*(-1)=hi - (i:Int) by omega];exact cM _⟩
  · show n≤i
    unfold Ht at e
    simpa using e
section
variable {X:Cx} {tg a b c:Expr} {p pos p2 pos2:Pos} {fa:au→R (List D)} {ta:TA}
noncomputable def anG:List D→R (List D)
  |[.int i,.int j,.int k]=>if k= -1∧-(2 ^ 62)≤i∧i < 2 ^ 62∧-(2 ^ 62)≤j∧j < 2 ^ 62 then .ok (Ht i (i - j).toNat) else .bad
  |_=> .bad
end
section
variable {prog:Program} {w:World} {A:Around} {E:Value→Shared→Prop} {s:Shared}
theorem Ow (r:Addr) (j:Int) (t u v:Tok) (h0:0≤j) (h1:j≤1000):Meets (Builtin.«range.__reversed__» ⟨[.ref r],[]⟩) (fun _ R s=>IsRange s.heap r 0 j 1 t u v∧R (.ok (.ret (.ref s.heap.objs.size))) {s with heap:=s.heap.push {cls:= .type "range_iterator",data:= .fields #[rawInt (j - 1),rawInt j,rawInt (-1)]}}):=
  .of_wp fun prog w A R s h=>by
    obtain⟨hp,g,d,tk,os⟩:=s
    obtain⟨hr,h⟩:=h
    have e1:Builtin.Range.rangeSize 0 j 1=j:=by rw[rangeSize_one];split <;> omega
    have e2:(Builtin.Range.rangeFitsLong 0 && Builtin.Range.rangeFitsLong j && Builtin.Range.rangeFitsLong 1 && Builtin.Range.rangeFitsLong (-1) && Builtin.Range.rangeFitsLong (0 - 1) && Builtin.Range.rangeFitsLong j)=true:=by
      simp only[Builtin.Range.rangeFitsLong,Bool.and_eq_true,decide_eq_true_eq];omega
    have e3:(0:Int)+(j - 1)*1=j - 1:=by omega
    unfold Builtin.«range.__reversed__» Builtin.Range.rangeFields
    wp_walk using wpAny_loadPart' hr
    rw[e1]
    simp only[e2,e3,Bool.not_true,Bool.false_eq_true,if_false,if_true]
    unfold newFields
    refine wpAny_bind (wpAny_newObj_type (wpAny_pure ⟨_,rfl,h⟩) (by size_fits))
theorem Ox:isSubtype (.type "range_iterator") (.type "reversed")=pure false:=by rw[isSubtype_type];kernel_rfl
theorem Rq {r:Addr} {j:Int} {t u v:Tok} {Q₁:Value→Shared→Prop} (h0:0≤j) (h1:j≤1000) (hr:IsRange s.heap r 0 j 1 t u v)
    (h:Q₁ (.ref s.heap.objs.size) {s with heap:=s.heap.push {cls:= .type "range_iterator",data:= .fields #[rawInt (j - 1),rawInt j,rawInt (-1)]}}):
    codeAny (model prog w) A (.call (.builtin "reversed.__new__") ⟨[.type "reversed",.ref r],[]⟩) (wants Q₁ E) s:=by
  have hT:s.TypeIs (.ref r) "range" :=⟨_,hr,rfl⟩
  refine codeAny_of_tree ?_
  show wpAny _ A.in1 (do checkBuiltinCall "reversed.__new__" ⟨[.type "reversed",.ref r],[]⟩;again (.builtin "reversed.__new__" ⟨[.type "reversed",.ref r],[]⟩)) _ _ s
  refine wpAny_bind (wpAny_of_eq (PySem.F.newCall_reversed_1 _) (wpAny_pure ⟨plainId_quiet PySem.F.plain_reversed_new _,codeAny_builtin PySem.F.entry_reversed_new ?_⟩))
  rw[Around.under_plainId PySem.F.plain_reversed_new _]
  unfold Builtin.«reversed.__new__»
  refine wpAny_bind (wpAny_of_eq (newClass_reversed _) ?_)
  try dsimp only
  refine wpAny_bind (wpAny_of_eq (a:=()) (by first |rfl |kernel_rfl) ?_)
  refine wpAny_bind (wpAny_of_eq (a:=()) (by first |rfl |kernel_rfl) ?_)
  try dsimp only
  refine wpAny_bind (wpAny_specialOf hT PySem.F.slot_range_reversed.lookup ?_)
  try dsimp only
  refine wpAny_bind (wpAny_of_eq (PySem.F.slot_range_reversed.bind _) ?_)
  try dsimp only
  first
  |rw [if_neg (show ¬((Value.builtin "range.__reversed__" ==Value.none)=true) from Bool.false_ne_true)]
  |(show wpAny _ _ (if (Value.builtin "range.__reversed__" ==Value.none)=true then _ else _) _ _ _;rw[if_neg (show ¬((Value.builtin "range.__reversed__" ==Value.none)=true) from Bool.false_ne_true)])
  refine wpAny_bind (wpAny_rule ?_)
  refine wpAny_bind (m:=runValue (.call (.builtin "range.__reversed__") ⟨[.ref r],[]⟩)) (show wpAny _ _ (call (.builtin "range.__reversed__") [.ref r]) _ _ _ from call_meets PySem.F.slot_range_reversed hT PySem.F.entry_range_reversed (PySem.F.args_range_reversed_1 _) (Ow r j t u v h0 h1) ⟨hr,?_⟩)
  first
  |exact wpAny_pure h
  |exact wpAny_bind (wpAny_pure (wpAny_pure h))
theorem Rr {r:Addr} {j:Int} {t u v:Tok} {Q:Value→Shared→Prop} (h0:0≤j) (h1:j≤1000) (hr:IsRange s.heap r 0 j 1 t u v)
    (h:Q (.ref s.heap.objs.size) {s with heap:=s.heap.push {cls:= .type "range_iterator",data:= .fields #[rawInt (j - 1),rawInt j,rawInt (-1)]}}):wpAny (model prog w) A (call (.type "reversed") [.ref r]) Q E s:=by
  refine callType_other (U:= "range_iterator") (Q₁:=fun obj s₁=>obj= .ref s.heap.objs.size∧s₁={s with heap:=s.heap.push {cls:= .type "range_iterator",data:= .fields #[rawInt (j - 1),rawInt j,rawInt (-1)]}}) (by decide +kernel) PySem.F.create_reversed ⟨_,_,PySem.F.mro_reversed⟩ PySem.F.made_reversed Ox (PySem.F.typeCall_reversed_1 _) (Rq h0 h1 hr ⟨rfl,rfl⟩) ?_
  rintro obj s₁ ⟨rfl,rfl⟩
  exact⟨⟨_,Heap.get?_push_size _ rfl,rfl⟩,h⟩
end
section
variable {X:Cx} {tg a:Expr} {p pos p2 pos2:Pos} {fa:au→R (List D)}
noncomputable def YG:List D→R (List D)
  |[.int j]=>if 0≤j∧j≤1000 then .ok (Ht (j - 1) j.toNat) else .bad
  |_=> .bad
theorem akJ (hg:Gl X "reversed") (hm:X.mg "reversed" =none) (hg2:Gl X "range") (hm2:X.mg "range" =none) (ha:DA X [a] fa) (hs:starEach [a] X.env=[(false,eval a X.env)]:=by rfl)
    (he:starEach [.Call (.Name "range" p2) [a] [] pos2] X.env=(false,eval (.Call (.Name "range" p2) [a] [] pos2) X.env)::starEach [] X.env:=by rfl) (hpl:(backTo pos (starEach [] X.env)).any (·.1)=false:=by rfl):
    DI X tg (.Call (.Name "reversed" p) [.Call (.Name "range" p2) [a] [] pos2] [] pos) (fun ρ=>(fa ρ).bind YG):=by
  intro pins s σ H R I h
  have A:=pa_cons (alY (p:=p2) (pos:=pos2) hg2 hm2 ha hs) pa_nil he
  obtain⟨ρ,O,jn,h⟩:=h
  have key:tCons (alX X.K (tG X (Ub X) fa)) tNil σ H (fun vs H1=>∃q j,vs=[.ref q]∧H1 q=some (.rng 0 j)∧0≤j∧j≤1000∧R (Its (j - 1) j.toNat (-1)) H1):=by
    refine go jn h fun ds vs H1 e1 s1 r1 j1 h1=>?_
    unfold YG at h1
    split at h1
    · rename_i j
      by_cases hh:0≤j∧j≤1000
      · rw[if_pos hh] at h1
        obtain⟨v,rfl,w⟩:=r1.one
        exact⟨j,by rw[w.int],hh.1,hh.2,fun q hq=>⟨q,j,rfl,upd_same,hh.1,hh.2,h1 _ _ (Same.upd hq) (YR.step _ _)⟩⟩
      · rw[if_neg hh] at h1;exact h1.elim
    · exact h1.elim
  refine Call_ (ld_blt I hg hm boot_reversed (PyProof.Rows.callWith_type1 (thn (A pos pins s σ H _ I key) fun us s1 ⟨vs,H1,I1,r1,q1⟩=>?_) he hpl))
  obtain⟨q,j,e,hq,h0,h1,q⟩:=q1
  subst e
  cases r1 with
  | cons r rr=>
    cases rr
    cases r
    obtain⟨t,u,v,hr⟩:=I1.hok _ _ hq
    refine Rr h0 h1 hr ?_
    have hit:IsRangeIter (s1.heap.push {cls:= .type "range_iterator",data:= .fields #[rawInt (j - 1),rawInt j,rawInt (-1)]}) s1.heap.objs.size (j - 1) j (-1):=Heap.get?_push_size _ rfl
    refine wpAny_pyIter_rangeiter (s:={s1 with heap:=s1.heap.push {cls:= .type "range_iterator",data:= .fields #[rawInt (j - 1),rawInt j,rawInt (-1)]}}) hit ?_
    refine⟨s1.heap.objs.size,[s1.heap.objs.size],_,_,H1,rfl,I1.kept (t':=s1.toks) fun b o e=>Heap.get?_push_of_some _ e,ag6 _ (j - 1) j.toNat (-1),?_,fun b hb=>?_,q⟩
    · show IsRangeIter _ _ (j - 1+((0:Nat):Int)*(-1)) (((j.toNat:Nat):Int) - ((0:Nat):Int)) (-1)
      rw[show j - 1+((0:Nat):Int)*(-1)=j - 1 by simp,show ((j.toNat:Nat):Int) - ((0:Nat):Int)=j by omega]
      exact hit
    · have e:b=s1.heap.objs.size:=by simpa using hb
      subst e
      exact I1.fpOk (Nat.le_refl _) (I1.hok.fresh (Nat.le_refl _))
end
end Pu
namespace Pu
open PySem PySem.Spec PySem.W L2
open PyProof.Rows hiding St
noncomputable def iH:List Int→List Int→Bool
  |[],[]=>false
  |[],_::_=>true
  |_::_,[]=>false
  |x::xs,y::ys=>if x=y then iH xs ys else decide (x < y)
theorem wM:∀a:List Int,iH a a=false
  |[]=>rfl
  |x::xs=>by rw[iH,if_pos rfl];exact wM xs
theorem qT:∀{a b c:List Int},iH a b=true→iH b c=true→iH a c=true
  |[],[],_,h,_=>by cases h
  |[],_::_,[],_,h=>by cases h
  |[],_::_,_::_,_,_=>rfl
  |_::_,[],_,h,_=>by cases h
  |_::_,_::_,[],_,h=>by cases h
  | x ::a,y::b,z::c,h1,h2=>by
    rw[iH] at h1 h2 ⊢
    by_cases e1:x=y
    · rw[if_pos e1] at h1
      subst e1
      by_cases e2:x=z
      · rw[if_pos e2] at h2 ⊢;exact qT h1 h2
      · rw[if_neg e2] at h2 ⊢;exact h2
    · rw[if_neg e1] at h1
      have h1:x < y:=of_decide_eq_true h1
      by_cases e2:y=z
      · subst e2;rw[if_neg e1];exact decide_eq_true h1
      · rw[if_neg e2] at h2
        have h2:y < z:=of_decide_eq_true h2
        rw[if_neg (by omega)];exact decide_eq_true (by omega)
theorem K3:∀{a b:List Int},a≠b→iH a b=false→iH b a=true
  |[],[],h,_=>absurd rfl h
  |[],_::_,_,h=>by cases h
  |_::_,[],_,_=>rfl
  | x ::a,y::b,h,e=>by
    rw[iH] at e ⊢
    by_cases e1:x=y
    · subst e1
      rw[if_pos rfl] at e ⊢
      exact K3 (fun z=>h (by rw[z])) e
    · rw[if_neg e1] at e
      rw[if_neg (fun z=>e1 z.symm)]
      have e:¬x < y:=of_decide_eq_false e
      exact decide_eq_true (by omega)
section
variable {prog:Program} {w:World} {A:Around} {E:Value→Shared→Prop} {s:Shared}
theorem aaY {a b:Addr} {oa ob:Obj} {xs ys:Array Value} {na nb:Nat} {ns ms:List Int} {P:PySem.Fin→Shared→Prop} (hoa:s.heap.get? a=some oa) (hda:oa.data= .seq xs na) (hob:s.heap.get? b=some ob) (hcb:ob.cls= .type "tuple") (hdb:ob.data= .seq ys nb)
    (hia:IntsAre xs.toList ns) (hib:IntsAre ys.toList ms) (h:P (.done (.ret (.bool (iH ns ms)))) s):
    wpAny (model prog w) A (Builtin.«tuple.__lt__» ⟨[.ref a,.ref b],[]⟩) P E s:=by
  have hTb:s.TypeIs (.ref b) "tuple" :=⟨ob,hob,hcb⟩
  show wpAny _ _ (isInstance (.ref b) (.type "tuple") >>=_) _ _ s
  refine wpAny_bind (wpAny_isInstance hTb isSubtype_tuple_tuple ?_)
  simp only[Bool.not_true,Bool.false_eq_true,if_false]
  refine wpAny_bind (wpAny_tupleItemsOf hoa hda ?_)
  refine wpAny_bind (wpAny_tupleItemsOf hob hdb ?_)
  refine wpAny_bind ?_
  refine wpAny_forIn_list _
    (fun rest r s'=>r.1=none∧s'=s∧∃xs' ys' ns' ms',rest=List.zip xs' ys'∧IntsAre xs' ns'∧IntsAre ys' ms'∧iH ns' ms'=iH ns ms∧decide (xs'.length < ys'.length)=decide (xs.size < ys.size))
    _ ?_ ?_ _ _ ⟨rfl,rfl,xs.toList,ys.toList,ns,ms,rfl,hia,hib,rfl,by simp⟩
  · rintro ⟨u,v⟩ rest r s' ⟨hr,rfl,xs',ys',ns',ms',hz,hx',hy',hdec,hlen⟩
    cases hx' with
    |nil=>simp at hz
    | cons k1 t1 hx''=>
      cases hy' with
      |nil=>simp at hz
      | cons k2 t2 hy''=>
        simp only[List.zip_cons_cons,List.cons.injEq,Prod.mk.injEq] at hz
        obtain⟨⟨rfl,rfl⟩,rfl⟩:=hz
        refine wpAny_bind (wpAny_eqBool_int ?_)
        rw[iH] at hdec
        by_cases hk:k1=k2
        · subst hk
          rw[if_pos rfl] at hdec
          simp only[beq_self_eq_true,Bool.not_true,Bool.false_eq_true,if_false]
          exact wpAny_pure ⟨rfl,rfl,_,_,_,_,rfl,hx'',hy'',hdec,by simpa using hlen⟩
        · rw[if_neg hk] at hdec
          have e:(k1 ==k2)=false:=by simpa using hk
          rw[e]
          simp only[Bool.not_false,if_true]
          rw[←hdec] at h
          refine wpAny_bind (wpAny_rule ?_)
          refine wpAny_bind (m:=richCompare .Lt (.int k1 t1) (.int k2 t2)) (show wpAny _ _ (compareOp .Lt (.int k1 t1) (.int k2 t2)) _ _ _ from lt_int ?_)
          first
            |exact wpAny_pure (wpAny_pure h)
            |exact wpAny_bind (wpAny_pure (wpAny_pure (wpAny_pure h)))
            |exact wpAny_bind (wpAny_pure (wpAny_pure h))
  · rintro⟨r1,r2⟩ s' ⟨hr,rfl,xs',ys',ns',ms',hz,hx',hy',hdec,hlen⟩
    simp only at hr
    subst hr
    refine wpAny_pure ?_
    have hfin:decide (xs.size < ys.size)=iH ns ms:=by
      rw[←hdec,←hlen]
      cases hx' with
      | nil=>
        cases hy' with
        |nil=>rfl
        |cons _ _ _=>simp[iH]
      | cons _ _ _=>
        cases hy' with
        |nil=>simp[iH]
        |cons _ _ _=>simp at hz
    show P (.done (.ret (.bool (decide (xs.size < ys.size))))) s'
    rw[hfin];exact h
theorem akK {a b:Addr} {oa ob:Obj} {xs ys:Array Value} {na nb:Nat} {ns ms:List Int} {Q:Value→Shared→Prop} (hu:A.units < cLine) (hoa:s.heap.get? a=some oa) (hca:oa.cls= .type "tuple") (hda:oa.data= .seq xs na) (hob:s.heap.get? b=some ob) (hcb:ob.cls= .type "tuple") (hdb:ob.data= .seq ys nb)
    (hia:IntsAre xs.toList ns) (hib:IntsAre ys.toList ms) (h:Q (.bool (iH ns ms)) s):wpAny (model prog w) A (compareOp .Lt (.ref a) (.ref b)) Q E s:=by
  show wpAny _ _ (richCompare .Lt (.ref a) (.ref b)) _ _ _
  exact wpAny_richCompare_same_room (op:= .Lt) ⟨oa,hoa,hca⟩ ⟨ob,hob,hcb⟩ PySem.F.slot_tuple_lt
      (wpAny_call_entry PySem.F.slot_tuple_lt ⟨oa,hoa,hca⟩ PySem.F.entry_tuple_lt (aaY hoa hda hob hcb hdb hia hib ⟨_,rfl,(fun e=>nomatch e),h⟩) (PySem.F.args_tuple_lt_2 _ _)) hu
end
section
variable {X:Cx}
end
end Pu
namespace Pu
open PySem PySem.Spec PySem.W L2
open PyProof.Rows hiding St
noncomputable def Mx (p:List Int):List (List Int)→List (List Int)
  |[]=>[p]
  |q::r=>if iH p q then p::q::r else q::Mx p r
noncomputable def oN:List (List Int)→List (List Int)
  |[]=>[]
  |p::r=>Mx p (oN r)
theorem Hu (p:List Int):∀l,(Mx p l).Perm (p::l)
  |[]=> .refl _
  | q::r=>by
    unfold Mx
    split
    · exact .refl _
    · exact ((Hu p r).cons q).trans (List.Perm.swap p q r)
theorem mC:∀l,(oN l).Perm l
  |[]=> .refl _
  |p::r=>(Hu p _).trans ((mC r).cons p)
noncomputable abbrev Oz (l:List (List Int)):Prop:=l.Pairwise fun a b=>iH a b=true
theorem Us (p:List Int):∀{l:List (List Int)},Oz l→p∉l→Oz (Mx p l)
  |[],_,_=>by unfold Mx;simp
  | q ::r,h,hn=>by
    obtain⟨h1,h2⟩:=List.pairwise_cons.mp h
    unfold Mx
    by_cases e:iH p q=true
    · rw[if_pos e]
      refine List.pairwise_cons.mpr ⟨fun z hz=>?_,h⟩
      rcases List.mem_cons.mp hz with z1 |z1
      · rw[z1];exact e
      · exact qT e (h1 z z1)
    · rw[if_neg e]
      have e2:iH q p=true:=K3 (fun z=>hn (by rw[z];exact List.mem_cons_self)) (by simpa using e)
      refine List.pairwise_cons.mpr ⟨fun z hz=>?_,Us p h2 fun z=>hn (List.mem_cons_of_mem _ z)⟩
      rcases List.mem_cons.mp ((Hu p r).mem_iff.mp hz) with z1 |z1
      · rw[z1];exact e2
      · exact h1 z z1
theorem Hv:∀{l:List (List Int)},l.Nodup→Oz (oN l)
  |[],_=> .nil
  | p::r,h=>by
    obtain⟨h1,h2⟩:=List.nodup_cons.mp h
    exact Us p (Hv h2) fun z=>h1 ((mC r).mem_iff.mp z)
theorem OD:∀{a b:List (List Int)},a.Perm b→Oz a→Oz b→a=b
  |[],b,p,_,_=>(List.nil_perm.mp p).symm
  |x::a,[],p,_,_=>absurd (List.perm_nil.mp p) (by simp)
  | x :: a,y::b,p,ha,hb=>by
    have ha':=List.pairwise_cons.mp ha
    have hb':=List.pairwise_cons.mp hb
    have h1:x=y:=by
      rcases List.mem_cons.mp (p.mem_iff.mp (List.mem_cons_self (a:=x) (l:=a))) with h |h
      · exact h
      · rcases List.mem_cons.mp (p.mem_iff.mpr (List.mem_cons_self (a:=y) (l:=b))) with k |k
        · exact k.symm
        · have:=qT (ha'.1 y k) (hb'.1 x h)
          rw[wM] at this;cases this
    subst h1
    rw[OD ((List.perm_cons x).mp p) ha'.2 hb'.2]
theorem aea {ts:List (List Int)} (hn:ts.Nodup) {a b:Nat} (ha:a < ts.length) (hb:b < ts.length) (hab:a≠b):ts.getD a []≠ts.getD b []:=by
  simp only[List.getD,List.getElem?_eq_getElem ha,List.getElem?_eq_getElem hb,Option.getD_some]
  intro z
  exact hab ((List.getElem_inj hn).mp z)
theorem akL {ts:List (List Int)} (hn:ts.Nodup):Ord ts.length (fun i j=>iH (ts.getD i []) (ts.getD j [])):=
  ⟨fun a b c _ _ _ h1 h2=>qT h1 h2,fun a b ha hb hab h=>K3 (aea hn ha hb hab) h⟩
theorem YH {ts:List (List Int)} (hn:ts.Nodup) {q:Array Nat} (h:Pm ts.length q) (hs:S (fun i j=>iH (ts.getD i []) (ts.getD j [])) q ts.length):q.toList.map (fun i=>ts.getD i [])=oN ts:=by
  refine OD ?_ ?_ (Hv hn)
  · have e:(List.range ts.length).map (fun i=>ts.getD i [])=ts:=by
      apply List.ext_getElem?
      intro i
      by_cases hi:i < ts.length
      · simp[hi]
      · simp[hi]
    have:=h.perm.map fun i=>ts.getD i []
    rw[e] at this
    exact this.trans (mC ts).symm
  · refine List.pairwise_iff_getElem.mpr fun i j hi hj hij=>?_
    have hl:(q.toList.map fun i=>ts.getD i []).length=ts.length:=by simp[h.size]
    have:=hs i j hij (by rw[←hl];exact hj)
    have e:∀(k:Nat) (hk:k < (q.toList.map fun i=>ts.getD i []).length),(q.toList.map fun i=>ts.getD i [])[k]=ts.getD (q.getD k 0) []:=fun k hk=>by
      have hk':k < q.size:=by simpa using hk
      simp[Array.getD,hk']
    rw[e i hi,e j hj];exact this
section
variable {prog:Program} {w:World} {A:Around} {E:Value→Shared→Prop} {s:Shared}
inductive rK (h:Heap) (a:Addr) (l c:Int) (ps:List Int):Prop
  |mk (o o2:Obj) (n n2:Nat) (t u:Tok) (p:Addr) (vs:Array Value) (h1:h.get? a=some o) (h2:o.cls= .type "tuple") (h3:o.data= .seq #[.int l t,.int c u,.ref p] n) (h4:h.get? p=some o2) (h5:o2.cls= .type "tuple") (h6:o2.data= .seq vs n2) (h7:IntsAre vs.toList ps):rK h a l c ps
theorem rK.keeps {h h':Heap} {a:Addr} {l c:Int} {ps:List Int} (x:rK h a l c ps) (k:∀b o,h.get? b=some o→o.cls= .type "tuple"→h'.get? b=some o):rK h' a l c ps:=
  by
  obtain⟨o,o2,n,n2,t,u,p,vs,h1,h2,h3,h4,h5,h6,h7⟩:=x
  exact⟨o,o2,n,n2,t,u,p,vs,k _ _ h1 h2,h2,h3,k _ _ h4 h5,h5,h6,h7⟩
theorem Mz {prog:Program} {w:World}:∀{vs:List Value} {ns:List Int},IntsAre vs ns→ItemsAre (intKind prog w) ns vs
  |_,_,.nil=> .nil
  |_,_,.cons n t h=> .cons (intKind_is _ _ _ _) (Mz h)
theorem akM {x y:Addr} {l c l' c':Int} {ps qs:List Int} {Q:Bool→Shared→Prop} (hu:A.units < cLine) (hx:rK s.heap x l c ps) (hy:rK s.heap y l' c' qs) (h:Q (iH (l::c::ps) (l'::c'::qs)) s):
    wpAny (model prog w) A (keyLt' (tuples' true) (.ref x) (.ref y)) Q E s:=by
  obtain⟨o,o2,n,n2,t,u,p,vs,h1,h2,h3,h4,h5,h6,h7⟩:=hx
  obtain⟨o',o2',n',n2',t',u',p',vs',g1,g2,g3,g4,g5,g6,g7⟩:=hy
  refine kat_lt h1 h3 g1 g3 ?_
  show KatLex prog w A true (decide (3 < 3)) Q [(.int l t,.int l' t'),(.int c u,.int c' u'),(.ref p,.ref p')] 0 s
  rw[iH,iH] at h
  refine kat_cons (SeqAt.EqAt.int_int l t l' t' prog w _ _ ?_)
  by_cases e1:l=l'
  · rw [if_pos e1] at h
    rw[show (l ==l')=true by simpa using e1]
    refine kat_yes (kat_cons (SeqAt.EqAt.int_int c u c' u' prog w _ _ ?_))
    by_cases e2:c=c'
    · rw[if_pos e2] at h
      rw[show (c ==c')=true by simpa using e2]
      refine kat_yes (kat_cons (wpAny_eqBool_tuple (knd:=intKind prog w) hu ⟨o2,vs,n2,h4,h5,h6,Mz h7⟩ ⟨o2',vs',n2',g4,g5,g6,Mz g7⟩ ?_))
      by_cases e3:ps=qs
      · rw[e3,wM] at h
        rw[decide_eq_true e3]
        exact kat_yes (kat_nil (by simpa using h))
      · rw[decide_eq_false e3]
        refine kat_no ?_
        show wpAny (model prog w) A (oneLt' false _ _) Q _ s
        exact kat_one _ _ (akK hu h4 h5 h6 g4 g5 g6 h7 g7 h)
    · rw[if_neg e2] at h
      rw[show (c ==c')=false by simpa using e2]
      refine kat_no ?_
      show wpAny (model prog w) A (oneLt' false _ _) Q _ s
      exact kat_one _ _ (lt_int h)
  · rw[if_neg e1] at h
    rw[show (l ==l')=false by simpa using e1]
    refine kat_no ?_
    show wpAny (model prog w) A (keyLt' oneType' (.int l t) (.int l' t')) Q _ s
    exact kat_lt_int h
end
theorem YJ {h:Heap}:∀(as:List Addr),(∀a∈as,∃l c ps,rK h a l c ps)→∃fs,KatTups h (as.map Value.ref) fs∧fs.length=as.length∧∀f∈fs,∃k t,f=Value.int k t
  |[],_=>⟨[],.nil,rfl,fun f hf=>by simp at hf⟩
  | a::as,hx=>by
    obtain⟨l,c,ps,o,o2,n,n2,t,u,p,vs,h1,h2,h3,_⟩:=hx a List.mem_cons_self
    obtain⟨fs,k1,k2,k3⟩:=YJ as fun b hb=>hx b (List.mem_cons_of_mem _ hb)
    refine⟨.int l t::fs,KatTups.cons h1 h2 h3 rfl k1,by simp[k2],fun f hf=>?_⟩
    rcases List.mem_cons.mp hf with z |z
    · exact⟨l,t,z⟩
    · exact k3 f z
section
variable {X:Cx}
noncomputable def X3 (K:PySem.W.Frag) (H:Hp) (a:Addr) (ns:List Int):Prop:=∃l c ps p,ns=l::c::ps∧SqT K H a [.int l,.int c,.ref p]∧SqT K H p (ps.map V.int)
theorem akN {pins:List (Addr×Obj)} {σ:St} {H:Hp} {s:Shared} {a:Addr} {ns:List Int} (I:Inv X pins σ H s) (h:X3 X.K H a ns):∃l c ps,ns=l::c::ps∧rK s.heap a l c ps:=by
  obtain⟨l,c,ps,p,rfl,h1,h2⟩:=h
  obtain⟨its,r1,⟨o,ho,hc,n,hd⟩,_⟩:=I.tuple h1
  obtain⟨its2,r2,⟨o2,ho2,hc2,n2,hd2⟩,_⟩:=I.tuple h2
  refine⟨l,c,ps,rfl,?_⟩
  cases r1 with
  | cons a1 r1=>
    cases r1 with
    | cons a2 r1=>
      cases r1 with
      | cons a3 r1=>
        cases r1
        obtain⟨t,rfl⟩:=a1
        obtain⟨u,rfl⟩:=a2
        cases a3
        exact⟨o,o2,n,n2,t,u,p,its2.toArray,ho,hc,hd,ho2,hc2,hd2,by simpa using ac9 r2⟩
theorem aeb (hu:X.A.units+2 < cLine):CallR X (.builtin "sorted") (fun xs H Q=>∃(a:Addr) (as:List Addr) (ts:List (List Int)),xs=[.ref a]∧SqL X.K H a (as.map V.ref)∧as.length=ts.length∧ts.length < 64∧ts.Nodup∧(∀(i:Nat) b t,as[i]?=some b→ts[i]?=some t→X3 X.K H b t)∧
    ∀(B:Addr) (bs:List Addr),H B=none→bs.length=ts.length→(∀(i:Nat) b t,bs[i]?=some b→(oN ts)[i]?=some t→b∈as∧∃j:Nat,as[j]?=some b∧ts[j]?=some t)→Q (.ref B) (upd H B (.lst (bs.map V.ref)))):=by
  intro pins s σ H xs us Q I r h
  obtain⟨a,as,ts,rfl,hq,hl,h64,hn,ht,q⟩:=h
  obtain⟨u,rfl,rx⟩:=vals1 r
  cases rx
  obtain⟨its,rv,pl,hz⟩:=I.list hq
  have hits:its=as.map Value.ref:=by
    have:∀(as:List Addr) (its:List Value),Vals (as.map V.ref) its→its=as.map Value.ref:=by
      intro as
      induction as with
      |nil=>intro its r;cases r;rfl
      |cons b as ih=>intro its r;cases r with |cons r1 r2=>cases r1;rw[ih _ r2];rfl
    exact this as its rv
  subst hits
  have lenV:(as.map Value.ref).length=ts.length:=by rw[List.length_map,hl]
  refine Calls.call_function_entry kind_sorted plain_sorted entry_sorted (args_sorted1 _) ?_
  unfold Builtin.«sorted»
  refine wpAny_bind (m:=checkCount "sorted" 1 1 _) (wpAny_pure ?_)
  refine wpAny_bind (collect_list pl.isList ?_)
  refine wpAny_bind (wpAny_newList ?_ (by rw[lenV,sizeLine_eq];omega))
  have hsz:((s.heap.push (seqObj "list" #[] 0)).update s.heap.objs.size (Obj.mapSeq (· ++(as.map Value.ref).toArray))).objs.size=s.heap.objs.size+1:=by
    rw[Heap.size_update,size_push']
  have hB:(((s.heap.push (seqObj "list" #[] 0)).update s.heap.objs.size (Obj.mapSeq (· ++(as.map Value.ref).toArray))).push (seqObj "list" (as.map Value.ref).toArray 0)).get? (s.heap.objs.size+1)=some (seqObj "list" (as.map Value.ref).toArray 0):=by
    rw[←hsz];exact Heap.get?_push_size _ rfl
  show wpAny _ _ _ _ _ {s with heap:=((s.heap.push (seqObj "list" #[] 0)).update s.heap.objs.size (Obj.mapSeq (· ++(as.map Value.ref).toArray))).push (seqObj "list" (as.map Value.ref).toArray 0)}
  rw[hsz]
  have kp:∀b o,s.heap.get? b=some o→(((s.heap.push (seqObj "list" #[] 0)).update s.heap.objs.size (Obj.mapSeq (· ++(as.map Value.ref).toArray))).push (seqObj "list" (as.map Value.ref).toArray 0)).get? b=some o:=fun b o e=>by
    refine Heap.get?_push_of_some _ ?_
    rw[Heap.get?_update_ne _ _ _ _ (Nat.ne_of_lt (Heap.lt_size e))]
    exact Heap.get?_push_of_some _ e
  have YK:∀(i:Nat) b,as[i]?=some b→∃l c ps,ts.getD i []=l::c::ps∧rK s.heap b l c ps:=fun i b e=>by
    have hi:i < ts.length:=by rw[←hl];exact (List.getElem?_eq_some_iff.mp e).1
    obtain⟨l,c,ps,e1,e2⟩:=akN I (ht i b ts[i] e (by simp[hi]))
    exact⟨l,c,ps,by simp[hi,e1],e2⟩
  have bne:∀b o,s.heap.get? b=some o→b≠s.heap.objs.size+1:=fun b o e=>Nat.ne_of_lt (Nat.lt_succ_of_lt (Heap.lt_size e))
  refine wpAny_bind (wpAny_holding (wpAny_call_entry slot_list_sort ⟨_,hB,rfl⟩ entry_list_sort (ako (lt:=fun i j=>iH (ts.getD i []) (ts.getD j [])) (kk:=tuples' true) hB (by rw[lenV];exact h64) (by rw[lenV];exact akL hn) ?kind ?ask fun qq hq hqs=>⟨_,rfl,?fin⟩) (args_list_sort _)))
  case kind=>
    intro h2 h6 keep Q' hQ'
    obtain⟨fs,kt,fl,fi⟩:=YJ (h:=h6) as fun b hb=>by
      obtain⟨i,hi⟩:=List.mem_iff_getElem?.mp hb
      obtain⟨l,c,ps,_,e⟩:=YK i b hi
      exact⟨l,c,ps,e.keeps fun d o hd _=>keep d o (bne d o hd) (kp d o hd)⟩
    refine kat_kind (T:= .type "int") kt (by rw[fl,hl];rw[lenV] at h2;omega) (fun f hf=>by obtain⟨k,t,rfl⟩:=fi f hf;exact .now) rfl hQ'
  case ask=>
    intro h6 keep i j C hi hj hC
    rw[lenV] at hi hj
    have hi':i < as.length:=by omega
    have hj':j < as.length:=by omega
    obtain⟨l,c,ps,e1,t1⟩:=YK i as[i] (by simp[hi'])
    obtain⟨l',c',ps',e2,t2⟩:=YK j as[j] (by simp[hj'])
    unfold kas_ask
    rw[show (as.map Value.ref).getD i Value.none= .ref as[i] by simp[hi'],show (as.map Value.ref).getD j Value.none= .ref as[j] by simp[hj']]
    refine akM ?_ (t1.keeps fun d o hd _=>keep d o (bne d o hd) (kp d o hd)) (t2.keeps fun d o hd _=>keep d o (bne d o hd) (kp d o hd)) ?_
    · first |exact Nat.lt_of_le_of_lt (by simp) hu |(show X.A.units+_ < cLine;omega)
    · rw[e1,e2] at hC;exact hC
  case fin=>
    rw[lenV] at hq hqs
    refine wpAny_pure ⟨_,rfl,?_⟩
    have hout:(qq.toList.map fun i=>(as.map Value.ref).getD i Value.none)=(qq.toList.map fun i=>as.getD i 0).map Value.ref:=by
      rw[List.map_map]
      refine List.map_congr_left fun i hi=>?_
      have hi':i < as.length:=by rw[hl];exact List.mem_range.mp (hq.perm.mem_iff.mp hi)
      simp[hi']
    rw[hout]
    obtain⟨cc,hFB⟩:=sortedHeap_at (vs:=as.map Value.ref) (out:=List.toArray ((qq.toList.map fun i=>as.getD i 0).map Value.ref)) hB
    have hf:H (s.heap.objs.size+1)=none:=I.hok.fresh (Nat.le_succ _)
    refine⟨.ref (s.heap.objs.size+1),upd H (s.heap.objs.size+1) (.lst ((qq.toList.map fun i=>as.getD i 0).map V.ref)),I.laid (t':=s.toks) (fun b o e=>Od (bne b o e) (kp b o e)) (Nat.le_succ _) ?_,rfl,q _ _ hf ?_ fun i b t eb et=>?_⟩
    · refine⟨?_,_,cc,ac1 _,hFB⟩
      rw[List.length_map,List.length_map,Array.length_toList,hq.size,sizeLine_eq];omega
    · rw[List.length_map,Array.length_toList,hq.size]
    · rw[←YH hn hq hqs] at et
      rw[List.getElem?_map] at eb et
      cases ei:qq.toList[i]? with
      |none=>rw[ei] at eb;cases eb
      | some k=>
        rw[ei] at eb et
        have eb:as.getD k 0=b:=Option.some.inj eb
        have et:ts.getD k []=t:=Option.some.inj et
        have hk:k < ts.length:=List.mem_range.mp (hq.perm.mem_iff.mp (List.mem_of_getElem? ei))
        have hk':k < as.length:=by omega
        have ea:as[k]?=some b:=by simp[List.getD,hk'] at eb ⊢;exact eb
        exact⟨List.mem_of_getElem? ea,k,ea,by simp[List.getD,hk] at et ⊢;exact et⟩
end
end Pu
namespace Pu
open PySem PySem.Spec L2
open PyProof.Rows hiding St
noncomputable def lJ:List Int→D
  |l::c::ps=> .tup [.int l,.int c,.tup (ps.map .int)]
  |_=> .non
noncomputable def BP:D→Option (List Int)
  | .tup [.int l,.int c,.tup ps]=>(intsOf ps).map fun ns=>l::c::ns
  |_=>none
noncomputable def tu:List D→Option (List (List Int))
  |[]=>some []
  | d::ds=>match BP d,tu ds with
    |some t,some ts=>some (t::ts)
    |_,_=>none
noncomputable def rM:List D→R D
  | [.lst ds]=>match tu ds with
    |some ts=>if ts.length < 64∧ts.Nodup then .ok (.lst ((oN ts).map lJ)) else .bad
    |none=> .bad
  |_=> .bad
theorem aec (ns:List Int):intsOf (ns.map D.int)=some ns:=by simpa using zL (c:=fun i:Int=>i) (l:=ns)
theorem YL {l c:Int} {ps:List Int}:BP (lJ (l::c::ps))=some (l::c::ps):=by simp[lJ,BP,aec]
section
variable {K:PySem.W.Frag} {O:Addr→Prop} {H:Hp}
theorem ajd {d:D} {v:V} {t:List Int} (e:BP d=some t) (r:Rep K O H d v):∃b,v= .ref b∧X3 K H b t∧Rep K O H (lJ t) v:=by
  unfold BP at e
  split at e
  · rename_i l c ps
    cases q:intsOf ps with
    |none=>rw[q] at e;cases e
    | some ns=>
      rw[q] at e;cases e
      obtain⟨a,xs,rfl,hq,rs⟩:=r.tup
      obtain⟨v1,v2,v3,rfl,r1,r2,r3⟩:=rs.three
      have r1:=r1.int
      have r2:=r2.int
      subst r1 r2
      obtain⟨p,ys,rfl,hq2,Oa⟩:=r3.tup
      have e2:=Ul q Oa
      subst e2
      refine⟨a,rfl,⟨l,c,ns,p,rfl,hq,hq2⟩,jG hq (.cons (cM l) (.cons (cM c) (.cons (jG hq2 Ho) .nil)))⟩
  · cases e
theorem Ut:∀{ds:List D} {vs:List V} {ts:List (List Int)},tu ds=some ts→aQ K O H ds vs→∃as:List Addr,vs=as.map V.ref∧as.length=ts.length∧∀(i:Nat) b t,as[i]?=some b→ts[i]?=some t→X3 K H b t∧Rep K O H (lJ t) (.ref b)
  | [],vs,ts,e,r=>by
    cases e
    exact⟨[],r.nil_inv,rfl,fun i b t h=>by simp at h⟩
  | d ::ds,vs,ts,e,r=>by
    obtain⟨x,r',rfl,h1,h2⟩:=r.cons_inv
    unfold tu at e
    split at e
    · rename_i t ts' e1 e2
      cases e
      obtain⟨b,rfl,h3,h4⟩:=ajd e1 h1
      obtain⟨as,rfl,h5,h6⟩:=Ut e2 h2
      refine⟨b::as,rfl,by simp[h5],fun i b' t' eb et=>?_⟩
      cases i with
      |zero=>simp at eb et;subst eb et;exact⟨h3,h4⟩
      |succ i=>exact h6 i b' t' (by simpa using eb) (by simpa using et)
    · cases e
theorem Li:∀{ds:List D} {vs:List V},ds.length=vs.length→(∀(i:Nat) d v,ds[i]?=some d→vs[i]?=some v→Rep K O H d v)→aQ K O H ds vs
  |[],[],_,_=> .nil
  |[],_::_,h,_=>by simp at h
  |_::_,[],h,_=>by simp at h
  |d::ds,v::vs,h,p=> .cons (p 0 d v rfl rfl) (Li (by simpa using h) fun i d' v' e1 e2=>p (i+1) d' v' (by simpa using e1) (by simpa using e2))
end
section
variable {X:Cx}
theorem YM (hu:X.A.units+2 < cLine):CallD X (.builtin "sorted") rM:=by
  refine⟨_,aeb hu,fun ρ O σ H Q xs ds j r h=>?_⟩
  unfold rM at h
  split at h
  · rename_i es
    obtain⟨x,rfl,rx⟩:=r.one
    obtain⟨a,ys,rfl,hq,hna,rs⟩:=rx.lst
    cases e:tu es with
    |none=>rw[e] at h;exact h.elim
    | some ts =>
      rw[e] at h
      have h:good X (rD X) O (if ts.length < 64∧ts.Nodup then R.ok (.lst ((oN ts).map lJ)) else .bad) σ H Q:=h
      by_cases hl:ts.length < 64∧ts.Nodup
      · rw [if_pos hl] at h
        obtain⟨as,rfl,h1,h2⟩:=Ut e rs
        refine⟨a,as,ts,rfl,hq,h1,hl.1,hl.2,fun i b t eb et=>(h2 i b t eb et).1,fun B bs hB hbl hp=>?_⟩
        refine h _ _ (Same.upd hB) (Rep.wK hB (j.G6 hB) (Li ?_ fun i d v ed ev=>?_))
        · rw[List.length_map,List.length_map,(mC ts).length_eq,hbl]
        · rw [List.getElem?_map] at ed ev
          cases q1:(oN ts)[i]? with
          |none=>rw[q1] at ed;cases ed
          | some t=>
            cases q2:bs[i]? with
            |none=>rw[q2] at ev;cases ev
            | some b=>
              rw[q1] at ed;rw[q2] at ev
              cases ed;cases ev
              obtain⟨_,k,z1,z2⟩:=hp i b t q2 q1
              exact (h2 k b t z1 z2).2
      · rw[if_neg hl] at h;exact h.elim
  · exact h.elim
end
section
variable {X:Cx} {e:Expr} {f:au→R D} {pos:Pos}
theorem akO (i k m:Nat) {x y z:Str} {px py pz pt:Pos} {kt} (hc:X.calm=true) (hN:X.N.Nodup) (he:DE X e f) (hi:X.N[i]?=some x:=by rfl) (hk:X.N[k]?=some y:=by rfl) (hm:X.N[m]?=some z:=by rfl)
    (hx:Loc X.env.scope x:=by first |exact Or.inl rfl |exact Or.inr rfl) (hy:Loc X.env.scope y:=by first |exact Or.inl rfl |exact Or.inr rfl) (hz:Loc X.env.scope z:=by first |exact Or.inl rfl |exact Or.inr rfl)
    (hfx:X.fn x=true∨X.env.scope.names.lookup x=some .local:=by first |exact .inl rfl |exact .inr rfl) (Yb:X.fn y=true∨X.env.scope.names.lookup y=some .local:=by first |exact .inl rfl |exact .inr rfl) (hfz:X.fn z=true∨X.env.scope.names.lookup z=some .local:=by first |exact .inl rfl |exact .inr rfl)
    (hs:swapsWithSole [.Tuple [.Name x px,.Name y py,.Name z pz] kt pt] e pos.line X.env=pure false:=by rfl) (hw:swappedStores [.Tuple [.Name x px,.Name y py,.Name z pz] kt pt] e X.env=pure none:=by rfl):
    DS X (.Assign [.Tuple [.Name x px,.Name y py,.Name z pz] kt pt] e pos) (bH f (c7 (dg 3 (bf (aL i) (bf (aL k) (bf (aL m) nilG)))))):=by
  refine PS.imp (ps_asg he (pg_tup hc (pgs_cons (pg_name hN hi hx hfx) (pgs_cons (pg_name hN hk hy Yb) (pgs_cons (pg_name hN hm hz hfz) pgs_nil)))) hs hw) fun σ H E h=>?_
  obtain⟨H0,O0,O,ρ,j,h⟩:=h
  refine⟨ρ,O,j.inn,?_⟩
  unfold bH nZ at h
  cases e1:f ρ with
  |bad=>rw[e1] at h;exact h
  |err c=>rw[e1] at h;exact h σ H O j
  | ok d=>
    rw[e1] at h
    intro v H' s r
    cases d with
    | tup ds=>
      match ds,h,r with
      |[],h,_=>exact h.elim
      |[_],h,_=>exact h.elim
      |[_,_],h,_=>exact h.elim
      |_::_::_::_::_,h,_=>exact (show False by simpa[c7,dg,Gj] using h).elim
      | [d1,d2,d3],h,r=>
        obtain⟨a,xs,rfl,hq,rs⟩:=r.tup
        obtain⟨v1,v2,v3,rfl,r1,r2,r3⟩:=rs.three
        refine⟨a,[v1,v2,v3],rfl,hq,rfl,v1,[v2,v3],rfl,v2,[v3],rfl,v3,[],rfl,rfl,?_⟩
        exact h _ H' O ((((j.grow s).set (List.getElem?_eq_some_iff.mp hi).1 r1).set (List.getElem?_eq_some_iff.mp hk).1 r2).set (List.getElem?_eq_some_iff.mp hm).1 r3) (Same.iR s)
    |_=>exact h.elim
end
section
variable {X:Cx} {e:Expr} {f:au→R D}
noncomputable def anD:D→R Bool
  | .lst ds=> .ok (!ds.isEmpty)
  | .tup ds=> .ok (!ds.isEmpty)
  |_=> .bad
noncomputable def YQ (f:au→R D):au→R Bool:=fun ρ=>(f ρ).bind anD
theorem aQ.empty {K:PySem.W.Frag} {O:Addr→Prop} {H:Hp} {ds:List D} {vs:List V} (r:aQ K O H ds vs):ds.isEmpty=vs.isEmpty:=by
  have:=r.length
  cases ds <;> cases vs <;> simp_all
theorem ag7 (h:DE X e f) (he:∀whole,isTrue e X.env whole=(do let v ←whole;standAt e.pos;holding [v] (truthy v)):=by intro _;rfl):DT X e (YQ f):=by
  refine PT.imp (pt_truth h he) fun σ H Q h=>?_
  obtain⟨ρ,O,j,h⟩:=h
  refine go j h fun d v H1 e1 s1 r1 j1 h1=>?_
  cases d with
  | lst ds=>
    obtain⟨a,xs,rfl,hq,hn,rs⟩:=r1.lst
    exact⟨!xs.isEmpty,.inl ⟨xs,hq,rfl⟩,by rw[←rs.empty];exact fin h1 rfl⟩
  | tup ds=>
    obtain⟨a,xs,rfl,hq,rs⟩:=r1.tup
    exact⟨!xs.isEmpty,.inr (.inl ⟨xs,hq,rfl⟩),by rw[←rs.empty];exact fin h1 rfl⟩
  |_=>exact h1.elim
end
theorem ag8 {A:Around} {k:Nat} (hr:Room k A):A.units+2 < cLine:=by have:=hr.un;omega
noncomputable def FnS (P:Program) (w:World) (K:PySem.W.Frag) (mg:Str→Option Value) (base:Heap) (k:Nat) (x:Str) (kG n q:Nat) (F:Addr→(List D→R D)→List D→R D):Prop:=
  ∃f fd ps,FnOk P w K mg base CX0 k f fd ps (spS P w mg base kG K n q F)∧mg x=some (.ref f)∧PySem.W.keepIn K (.ref f)=true∧Binds K fd ps []
end Pu
namespace Pu
open PySem PySem.Spec L2
open PyProof.Rows hiding St
theorem Lj:∀{xs:List V} {us:List Value},xs.length=us.length→(∀(i:Nat) x u,xs[i]?=some x→us[i]?=some u→RelV x u)→Vals xs us
  |[],[],_,_=> .nil
  |[],_::_,h,_=>by simp at h
  |_::_,[],h,_=>by simp at h
  |x::xs,u::us,h,p=> .cons (p 0 x u rfl rfl) (Lj (by simpa using h) fun i d' v' e1 e2=>p (i+1) d' v' (by simpa using e1) (by simpa using e2))
theorem ag9 {lo:Int} {acc:Array Value} {n:Nat} (h:ItemsOf (fun i v=>∃t,v= .int (lo+i*1) t) acc n):Vals ((List.range n).map fun (i:Nat)=>V.int (lo+(i:Int))) acc.toList:=by
  refine Lj (by simp[h.1]) fun i x u e1 e2=>?_
  rw[Array.getElem?_toList] at e2
  obtain⟨t,rfl⟩:=h.2 i u e2
  rw[List.getElem?_map] at e1
  cases q:(List.range n)[i]? with
  |none=>rw[q] at e1;cases e1
  | some k=>
    rw[q] at e1
    have hk:i < n∧i=k:=by simpa[List.getElem?_range] using (List.getElem?_eq_some_iff.mp q)
    obtain⟨_,rfl⟩:=hk
    cases e1
    exact⟨t,by rw[Int.mul_one]⟩
section
variable {X:Cx} {a b:Expr} {p pos p2 pos2:Pos} {fa:au→R (List D)} {ta:TA}
noncomputable def anc (ta:TA):TE:=fun σ H Q=>ta σ H fun vs H1=>∃i j:Int,vs=[.int i,.int j]∧∀q,H1 q=none→Q (.ref q) (upd H1 q (.rng i j))
theorem akP (hg:Gl X "range") (hm:X.mg "range" =none) (ha:PA X [a,b] ta) (hs:starEach [a,b] X.env=[(false,eval a X.env),(false,eval b X.env)]:=by rfl) (hs2:starEach [b] X.env=[(false,eval b X.env)]:=by rfl):PE X (.Call (.Name "range" p) [a,b] [] pos) (anc ta):=by
  intro pins s σ H Q I h
  refine Call_ (ld_blt I hg hm boot_range (PyProof.Rows.callWith_type1 (thn (ha pos pins s σ H _ I h) fun us s1 ⟨vs,H1,I1,r1,q1⟩=>?_) (by rw[hs,hs2]) (by rw[hs2];rfl)))
  obtain⟨i,j,e,q⟩:=q1
  subst e
  cases r1 with
  | cons r rr=>
    cases rr with
    | cons r' rr=>
      cases rr
      obtain⟨t,rfl⟩:=r
      obtain⟨t',rfl⟩:=r'
      refine call_range_2 ?_
      exact⟨.ref s1.heap.objs.size,upd H1 s1.heap.objs.size (.rng i j),I1.laid (fun b o e=>Heap.get?_push_of_some _ e) (Nat.le_refl _) ⟨_,_,_,Heap.get?_push_size _ rfl⟩,rfl,q _ (I1.hok.fresh (Nat.le_refl _))⟩
theorem aha (hc:X.calm=true):CallR X (.type "list") (fun xs H Q=>∃(b:Addr) (i j:Int),xs=[.ref b]∧H b=some (.rng i j)∧-1000≤i∧i≤1000∧-1000≤j∧j≤1000∧∀B,H B=none→Q (.ref B) (upd H B (.lst ((List.range (j - i).toNat).map fun (k:Nat)=>V.int (i+(k:Int)))))):=by
  intro pins s σ H xs us Q I r h
  obtain⟨b,i,j,rfl,hb,h0,h1,h2,h3,q⟩:=h
  obtain⟨u,rfl,rx⟩:=vals1 r
  cases rx
  obtain⟨t,u,v,hr⟩:=(show ObjOk X.prog X.w H s.heap b (.rng i j) from I.hok b _ hb)
  have hn:Builtin.Range.rangeSize i j 1=(((j - i).toNat:Nat):Int):=by rw[rangeSize_one];split <;> omega
  refine call_list_range (I.ok.hd hc) hr (small_one (by omega) (by omega) (by omega) (by omega)) hn (by omega) fun h' tk acc c' hk he hacc=>?_
  have hf:H s.heap.objs.size=none:=I.hok.fresh (Nat.le_refl _)
  refine⟨.ref s.heap.objs.size,_,I.laid (t':=tk) (o:= .lst ((List.range (j - i).toNat).map fun (k:Nat)=>V.int (i+(k:Int)))) hk (Nat.le_refl _) ⟨?_,acc.toList,c',ag9 hacc,by simpa using he⟩,rfl,q _ hf⟩
  rw[List.length_map,List.length_range]
  exact Nat.le_trans (by omega) (Nat.le_of_lt jz)
theorem aed {K:PySem.W.Frag} {O:Addr→Prop} {H:Hp} {lo:Int} {n:Nat}:aQ K O H (upto lo n) ((List.range n).map fun (i:Nat)=>V.int (lo+(i:Int))):=by
  unfold upto
  generalize List.range n=l
  induction l with
  |nil=>exact .nil
  |cons x l ih=>exact .cons (cM _) ih
noncomputable def anI:List D→R D
  |[.int j]=>if 0≤j∧j≤1000 then .ok (.lst (upto 0 j.toNat)) else .bad
  |_=> .bad
noncomputable def aee:List D→R D
  |[.int i,.int j]=>if -1000≤i∧i≤1000∧-1000≤j∧j≤1000 then .ok (.lst (upto i (j - i).toNat)) else .bad
  |_=> .bad
theorem aje (hc:X.calm=true) (hg:Gl X "list") (hm:X.mg "list" =none) (hg2:Gl X "range") (hm2:X.mg "range" =none) (ha:DA X [a,b] fa) (hs2:starEach [a,b] X.env=[(false,eval a X.env),(false,eval b X.env)]:=by rfl) (hs3:starEach [b] X.env=[(false,eval b X.env)]:=by rfl)
    (he:starEach [.Call (.Name "range" p) [a,b] [] pos] X.env=(false,eval (.Call (.Name "range" p) [a,b] [] pos) X.env)::starEach [] X.env:=by rfl) (hpl:(backTo pos2 (starEach [] X.env)).any (·.1)=false:=by rfl):
    DE X (.Call (.Name "list" p2) [.Call (.Name "range" p) [a,b] [] pos] [] pos2) (aF aee fa):=by
  refine PE.imp (pe_callTy (aha hc) hg hm boot_list (pa_cons (akP hg2 hm2 ha hs2 hs3) pa_nil he) (by decide) (by decide) he hpl) fun σ H Q q=>?_
  obtain⟨ρ,O,j,q⟩:=q
  refine go j q fun ds vs H1 e1 s1 r1 j1 h1=>?_
  unfold aee at h1
  split at h1
  · rename_i i k
    obtain⟨x,y,rfl,rx,ry⟩:=r1.two
    by_cases hi: -1000≤i∧i≤1000∧-1000≤k∧k≤1000
    · rw[if_pos hi] at h1
      refine⟨i,k,by rw[rx.int,ry.int],fun q hq=>⟨q,i,k,rfl,upd_same,hi.1,hi.2.1,hi.2.2.1,hi.2.2.2,fun B hB=>?_⟩⟩
      have s2:Same H1 (upd H1 q (.rng i k)):=Same.upd hq
      exact h1 _ _ (s2.trans (Same.upd hB)) (Rep.wK hB ((j1.same s2).G6 hB) aed)
    · rw[if_neg hi] at h1;exact h1.elim
  · exact h1.elim
end
end Pu
namespace Pu
open PySem PySem.Spec PySem.W L2
open PyProof.Rows hiding St
section
variable {prog:Program} {w:World} {A:Around} {s:Shared}
end
section
variable {X:Cx}
end
end Pu
namespace Pu
open PySem PySem.Spec L2
open PyProof.Rows hiding St
section
variable {X:Cx} {pins:List (Addr×Obj)} {σ:St} {H:Hp} {s:Shared}
end
section
variable {X:Cx} {qual:Str} {params:Arguments} {body:Expr} {scope:Scope} {xS:Str} {cc P fS:Addr} {YD:FuncData} {Ur:List Str} {kS kG q:Nat} {FS:Addr→(List D→R D)→List D→R D} {GG:List D→R D} {p p4 pos2 al7:Pos} {e1 e2 e3:Expr} {f1 f2 f3:au→R D}
end
end Pu
namespace Pu
open PySem PySem.Spec PySem.W L2
open PyProof.Rows hiding St
section
variable {prog:Program} {w:World} {A:Around} {R:Result→Shared→Prop} {I l S:Addr} {its:Array Value} {h0:Heap} {bt:Nat→Nat→Bool}
end
section
variable {prog:Program} {w:World} {A:Around} {E:Value→Shared→Prop} {s:Shared} {l:Addr} {its:Array Value} {bt:Nat→Nat→Bool} {Q:Value→Shared→Prop}
end
end Pu
namespace Pu
open PySem PySem.Spec PySem.W L2
open PyProof.Rows hiding St
section
variable {X:Cx}
end
end Pu
namespace Pu
open PySem PySem.Spec PySem.W L2
open PyProof.Rows hiding St
open PySem.SeqAt
section
variable {X:Cx} {e1 e2:Expr} {f g:au→R D}
end
end Pu
namespace Pu
open PySem PySem.Spec L2
open PyProof.Rows hiding St
section
variable {X:Cx}
end
section
variable {X:Cx} {e:Expr} {f:au→R D} {pos:Pos}
end
end Pu
namespace Pu
open PySem PySem.Spec PySem.W L2
open PyProof.Rows hiding St
section
variable {prog:Program} {w:World} {A:Around} {E:Value→Shared→Prop} {s:Shared}
end
section
variable {X:Cx}
end
end Pu
namespace iI
open PySem PySem.Spec L2 Pu
open PyProof.Rows hiding St
noncomputable def Di:au→So:=(retS (aF ou (ao (cj 2 [] (fun ρ=>((ao (fun ρ=>ak ρ 0) (ao (fun ρ=>ak ρ 1) (fun _=> .ok []))) ρ).bind zip2) (c7 (dg 2 (bf (aL 0) (bf (aL 1) nilG)))) (fun _=> .ok true) (aF ou (ao (cj 2 [1] (fun ρ=>((ao (fun ρ=>ak ρ 0) (fun _=> .ok [])) ρ).bind uH) (c7 (dg 2 (bf (aL 0) (bf (aL 1) nilG)))) (bZ (bin (fun ρ=>ak ρ 0) (fun ρ=>ak ρ 2) iT)) (fun ρ=>ak ρ 1)) (fun _=> .ok [])))) (fun _=> .ok []))))
noncomputable def pK:List D→R D:=cB 0 Di
noncomputable def w6:au→So:=(aO (bH (bin (fun _=> .ok (.int 7)) (fun ρ=>ak ρ 1) jL) (aL 3)) (aO (dU (bZ (bin (fun ρ=>ak ρ 0) (nQ (fun _=> .ok [])) iT)) (aO (bH (bin (fun ρ=>ak ρ 0) (bin (fun ρ=>ak ρ 1) (aF cC (ao (fun ρ=>ak ρ 0) (fun _=> .ok []))) iW) cg) (aL 3)) (aO (bH (bin (fun ρ=>ak ρ 1) (aF cC (ao (fun ρ=>ak ρ 0) (fun _=> .ok []))) jX) (aL 4)) (aO (dU (sI (bZ (bin (fun ρ=>ak ρ 3) (bin (fun _=> .ok (.int 10)) (fun _=> .ok (.int 18)) Ac) geI)) (bZ (bin (fun ρ=>ak ρ 4) (fun _=> .ok (.int 60)) ltI))) (aO (bH (bin (fun ρ=>ak ρ 3) (bin (fun _=> .ok (.int 10)) (fun _=> .ok (.int 18)) Ac) jX) (aL 5)) (aO (j9 (sI (bZ (bin (fun ρ=>ak ρ 5) (fun _=> .ok (.int 0)) wR)) (bZ (bin (fun ρ=>ak ρ 4) (fun _=> .ok (.int 0)) wR))) (aO (bH (bin (fun ρ=>ak ρ 5) (fun _=> .ok (.int 1000000)) jX) (aL 5)) (bH (bin (fun ρ=>ak ρ 4) (fun _=> .ok (.int 1)) gC) (aL 4))) 64) (dU (bZ (bin (fun ρ=>ak ρ 5) (fun _=> .ok (.int 0)) wR)) (retS (bin (bin (fun ρ=>ak ρ 5) (fun _=> .ok (.int 1000000)) iW) (fun ρ=>ak ρ 2) iW)) So.nx))) So.nx) (bH (bin (fun ρ=>ak ρ 3) (bin (fun _=> .ok (.int 6553)) (bin (fun ρ=>ak ρ 1) (aF cC (ao (fun ρ=>ak ρ 0) (fun _=> .ok []))) jX) jL) gF) (aL 3))))) So.nx) (aO (bH (bin (bin (bin (bin (fun ρ=>ak ρ 3) (fun _=> .ok (.int 2147483563)) iW) (fun _=> .ok (.int 69069)) jL) (bin (fun _=> .ok (.int 104723)) (bin (fun ρ=>ak ρ 1) (fun _=> .ok (.int 1)) gF) jL) gF) (fun _=> .ok (.int 2147483563)) iW) (aL 3)) (aO (bH (bin (bin (bin (fun ρ=>ak ρ 3) (fun ρ=>ak ρ 3) jL) (bin (fun ρ=>ak ρ 3) (fun _=> .ok (.int 3)) jX) gF) (fun _=> .ok (.int 2147483399)) iW) (aL 3)) (retS (bin (bin (bin (bin (bin (fun ρ=>ak ρ 3) (fun ρ=>ak ρ 3) jL) (bin (fun ρ=>ak ρ 3) (fun _=> .ok (.int 7)) jX) gF) (fun _=> .ok (.int 2147483647)) iW) (fun _=> .ok (.int 11)) jX) (fun ρ=>ak ρ 2) iW))))))
noncomputable def bJ:List D→R D:=cB 3 w6
noncomputable def vo:au→So:=(retS (bin (nQ (ao (fun _=> .ok (.str "worth")) (ao (fun _=> .ok (.str "joins")) (fun _=> .ok [])))) (aF (aP bJ 3) (ao (fun ρ=>ak ρ 0) (ao (fun ρ=>ak ρ 1) (ao (fun _=> .ok (.int 2)) (fun _=> .ok []))))) cg))
noncomputable def jZ:List D→R D:=cB 0 vo
noncomputable def mkB:au→So:=(aO (bH (bin (bin (fun ρ=>ak ρ 1) (fun _=> .ok (.int 1)) eG) (bin (aF cC (ao (fun ρ=>ak ρ 6) (fun _=> .ok []))) (fun ρ=>ak ρ 5) Ms) eG) (aL 7)) (vh 3 (aF ou (ao (cj 1 [7,0,4] (fun ρ=>((ao (aF cC (ao (fun ρ=>ak ρ 6) (fun _=> .ok []))) (fun _=> .ok [])) ρ).bind p8) (aL 0) (fun _=> .ok true) (bin (fun ρ=>ak ρ 3) (aF (aP bJ 3) (ao (fun ρ=>ak ρ 2) (ao (bin (fun ρ=>ak ρ 1) (fun ρ=>ak ρ 0) eG) (ao (aF cC (ao (fun ρ=>ak ρ 3) (fun _=> .ok []))) (fun _=> .ok []))))) cg)) (fun _=> .ok [])))))
noncomputable def xg:au→So:=(aO (newL (fun _=> .ok []) 3) (aO (bH (bin (nQ (ao (nQ (ao (fun _=> .ok (.int 0)) (ao (fun _=> .ok (.int 0)) (ao (fun _=> .ok (.int 0)) (ao (fun _=> .ok (.int 1)) (ao (fun _=> .ok (.int 2)) (fun _=> .ok []))))))) (ao (nQ (ao (fun _=> .ok (.int 0)) (ao (fun _=> .ok (.int 0)) (ao (fun _=> .ok (.int 0)) (ao (fun _=> .ok (.int 0)) (ao (fun _=> .ok (.int 1)) (fun _=> .ok []))))))) (ao (nQ (ao (fun _=> .ok (.int 0)) (ao (fun _=> .ok (.int 0)) (ao (fun _=> .ok (.int 2)) (ao (fun _=> .ok (.int 0)) (ao (fun _=> .ok (.int 0)) (fun _=> .ok []))))))) (ao (nQ (ao (fun _=> .ok (.int 0)) (fun _=> .ok []))) (fun _=> .ok [])))))) (aF (aP bJ 3) (ao (fun ρ=>ak ρ 0) (ao (fun ρ=>ak ρ 1) (ao (fun _=> .ok (.int 4)) (fun _=> .ok []))))) cg) (aL 4)) (aO (qH (fun ρ=>((ao (fun ρ=>ak ρ 2) (fun _=> .ok [])) ρ).bind uH) (c7 (dg 2 (bf (aL 5) (bf (aL 6) nilG)))) mkB) (retS (aF ou (ao (fun ρ=>ak ρ 3) (fun _=> .ok [])))))))
noncomputable def lQ:List D→R D:=cB 5 xg
noncomputable def xq:au→So:=(retS (aF cC (ao (cj 2 [2] (fun ρ=>((ao (fun ρ=>ak ρ 0) (ao (fun ρ=>ak ρ 1) (fun _=> .ok []))) ρ).bind zip2) (c7 (dg 2 (bf (aL 0) (bf (aL 1) nilG)))) (bZ (bin (bin (fun ρ=>ak ρ 0) (fun ρ=>ak ρ 1) cg) (fun ρ=>ak ρ 2) rA)) (fun ρ=>ak ρ 1)) (fun _=> .ok []))))
noncomputable def lR:List D→R D:=cB 0 xq
noncomputable def tD:au→So:=(aO (Yj 4 5 (bin (nQ (ao (fun _=> .ok (.int 2)) (ao (fun _=> .ok (.int 5)) (ao (fun _=> .ok (.int 100)) (ao (fun _=> .ok (.int 10)) (fun _=> .ok [])))))) (aF (aP bJ 3) (ao (fun ρ=>ak ρ 0) (ao (fun ρ=>ak ρ 1) (ao (fun _=> .ok (.int 4)) (fun _=> .ok []))))) cg) (fun _=> .ok [])) (aO (qH (fun ρ=>((ao (fun ρ=>ak ρ 3) (fun _=> .ok [])) ρ).bind p8) (aL 6) (vh 5 (aF ou (ao (cj 1 [1,2,4,0,6] (fun ρ=>((ao (fun ρ=>ak ρ 2) (fun _=> .ok [])) ρ).bind p8) (aL 0) (fun _=> .ok true) (aF (aP bJ 3) (ao (fun ρ=>ak ρ 4) (ao (bin (bin (bin (fun ρ=>ak ρ 1) (fun _=> .ok (.int 1)) gF) (bin (fun ρ=>ak ρ 2) (fun ρ=>ak ρ 5) jL) gF) (fun ρ=>ak ρ 0) gF) (ao (fun ρ=>ak ρ 3) (fun _=> .ok [])))))) (fun _=> .ok []))))) (retS (aF ou (ao (fun ρ=>ak ρ 5) (fun _=> .ok []))))))
noncomputable def jJ:List D→R D:=cB 3 tD
noncomputable def Af:au→So:=(retS (aF (aP jJ 4) (ao (fun ρ=>ak ρ 0) (ao (bin (fun ρ=>ak ρ 1) (fun _=> .ok (.int 2)) gF) (ao (bin (fun _=> .ok (.int 1)) (aF (aP bJ 3) (ao (fun ρ=>ak ρ 0) (ao (fun ρ=>ak ρ 1) (ao (fun ρ=>ak ρ 2) (fun _=> .ok []))))) gF) (ao (bin (fun _=> .ok (.int 1)) (aF (aP bJ 3) (ao (fun ρ=>ak ρ 0) (ao (bin (fun ρ=>ak ρ 1) (fun _=> .ok (.int 1)) gF) (ao (fun ρ=>ak ρ 3) (fun _=> .ok []))))) gF) (fun _=> .ok [])))))))
noncomputable def nJ:List D→R D:=cB 0 Af
noncomputable def Hw:au→So:=(retS (q8 (uE eE (fun ρ=>ak ρ 0)) (La (fun _=> .ok (.int 1)) (aF cC (ao (fun ρ=>ak ρ 0) (fun _=> .ok []))) (fun _=> .ok (.int 20)) Bu Bu)))
noncomputable def jA:List D→R D:=cB 0 Hw
noncomputable def Dj:au→So:=(retS (q8 (uE KN (fun ρ=>ak ρ 0)) (alH (uE CW (fun ρ=>ak ρ 0)))))
noncomputable def cX:List D→R D:=cB 0 Dj
noncomputable def Hx:au→So:=(retS (q8 (aF (aP cX 1) (ao (fun ρ=>ak ρ 0) (fun _=> .ok []))) (La (fun _=> .ok (.int 0)) (fun ρ=>ak ρ 0) (fun _=> .ok (.int 99)) Bu Bu)))
noncomputable def kI:List D→R D:=cB 0 Hx
noncomputable def MF:au→So:=(retS (q8 (aF (aP jA 1) (ao (fun ρ=>ak ρ 0) (fun _=> .ok []))) (aF sU (ao (cj 1 [] (fM (fun ρ=>ak ρ 0)) (aL 0) (fun _=> .ok true) (aF (aP kI 1) (ao (fun ρ=>ak ρ 0) (fun _=> .ok [])))) (fun _=> .ok [])))))
noncomputable def tE:List D→R D:=cB 0 MF
noncomputable def xr:au→So:=(aO (dU (Gi (nP (bZ (aF (aP jA 1) (ao (fun ρ=>ak ρ 0) (fun _=> .ok []))))) (nP (bZ (aF sU (ao (cj 1 [] (fM (fun ρ=>ak ρ 0)) (aL 0) (fun _=> .ok true) (aF (aP tE 1) (ao (fun ρ=>ak ρ 0) (fun _=> .ok [])))) (fun _=> .ok [])))))) (retS (fun _=> .ok (.bl false))) So.nx) (retS (aF sU (ao (cj 1 [0] (fM (fun ρ=>ak ρ 0)) (aL 0) (fun _=> .ok true) (bin (aF cC (ao (fun ρ=>ak ρ 0) (fun _=> .ok []))) (aF cC (ao (bin (fun ρ=>ak ρ 1) (fun _=> .ok (.int 0)) cg) (fun _=> .ok []))) rA)) (fun _=> .ok [])))))
noncomputable def lU:List D→R D:=cB 0 xr
noncomputable def tH:au→So:=(dU (nP (bZ (aF (aP lU 1) (ao (fun ρ=>ak ρ 0) (fun _=> .ok []))))) (fun _=> .bad) So.nx)
noncomputable def bM:List D→R D:=cB 0 tH
noncomputable def xu:au→So:=(aO (mJ (aF (aP bM 1) (ao (fun ρ=>ak ρ 0) (fun _=> .ok [])))) (retS (aF Ad (ao (cj 1 [] (fM (fun ρ=>ak ρ 0)) (aL 0) (fun _=> .ok true) (aF Ad (ao (fun ρ=>ak ρ 0) (fun _=> .ok [])))) (fun _=> .ok [])))))
noncomputable def jR:List D→R D:=cB 0 xu
noncomputable def YS:au→So:=(aO (bH (bin (aF cC (ao (fun ρ=>ak ρ 0) (fun _=> .ok []))) (fun _=> .ok (.int 1)) gC) (aL 1)) (retS (cj 1 [1,0] (fun ρ=>((ao (aF cC (ao (fun ρ=>ak ρ 0) (fun _=> .ok []))) (fun _=> .ok [])) ρ).bind p8) (aL 0) (fun _=> .ok true) (aF Hg (ao (bin (bin (fun ρ=>ak ρ 2) (aF maxD (ao (bin (fun ρ=>ak ρ 0) (fun _=> .ok (.int 1)) gC) (ao (fun _=> .ok (.int 0)) (fun _=> .ok [])))) cg) (bin (fun ρ=>ak ρ 2) (aF minD (ao (bin (fun ρ=>ak ρ 0) (fun _=> .ok (.int 1)) eG) (ao (fun ρ=>ak ρ 1) (fun _=> .ok [])))) cg) gC) (fun _=> .ok []))))))
noncomputable def qm:List D→R D:=cB 1 YS
noncomputable def xG:au→So:=(aO (bH (bin (fun ρ=>ak ρ 0) (fun ρ=>ak ρ 1) cg) (aL 2)) (aO (bH (bin (fun ρ=>ak ρ 0) (aF maxD (ao (bin (fun ρ=>ak ρ 1) (fun _=> .ok (.int 1)) gC) (ao (fun _=> .ok (.int 0)) (fun _=> .ok [])))) cg) (aL 3)) (aO (bH (bin (aF cC (ao (fun ρ=>ak ρ 2) (fun _=> .ok []))) (fun _=> .ok (.int 1)) gC) (aL 4)) (aO (newL (fun _=> .ok []) 5) (aO (qH (fun ρ=>((ao (aF (aP qm 1) (ao (fun ρ=>ak ρ 2) (fun _=> .ok []))) (fun _=> .ok [])) ρ).bind uH) (c7 (dg 2 (bf (aL 6) (bf (aL 7) nilG)))) (aO (bH (bin (fun ρ=>ak ρ 7) (aF Hg (ao (bin (bin (fun ρ=>ak ρ 3) (fun ρ=>ak ρ 6) cg) (bin (fun ρ=>ak ρ 2) (aF maxD (ao (bin (fun ρ=>ak ρ 6) (fun _=> .ok (.int 1)) gC) (ao (fun _=> .ok (.int 0)) (fun _=> .ok [])))) cg) gC) (fun _=> .ok []))) eG) (aL 8)) (aO (bH (bin (fun ρ=>ak ρ 7) (aF Hg (ao (bin (bin (fun ρ=>ak ρ 3) (fun ρ=>ak ρ 6) cg) (bin (fun ρ=>ak ρ 2) (aF minD (ao (bin (fun ρ=>ak ρ 6) (fun _=> .ok (.int 1)) eG) (ao (fun ρ=>ak ρ 4) (fun _=> .ok [])))) cg) gC) (fun _=> .ok []))) eG) (aL 9)) (vh 5 (jh (ao (fun ρ=>ak ρ 8) (ao (fun ρ=>ak ρ 7) (ao (fun ρ=>ak ρ 9) (fun _=> .ok []))))))))) (retS (fun ρ=>ak ρ 5)))))))
noncomputable def lV:List D→R D:=cB 8 xG
noncomputable def Hy:au→So:=(aO (mJ (aF (aP bM 1) (ao (fun ρ=>ak ρ 0) (fun _=> .ok [])))) (retS (jh (ao (aF cC (ao (bin (fun ρ=>ak ρ 0) (fun _=> .ok (.int 0)) cg) (fun _=> .ok []))) (ao (aF cC (ao (fun ρ=>ak ρ 0) (fun _=> .ok []))) (fun _=> .ok []))))))
noncomputable def cQ:List D→R D:=cB 0 Hy
noncomputable def MJ:au→So:=(aO (bH (aF (aP cQ 1) (ao (fun ρ=>ak ρ 0) (fun _=> .ok []))) (c7 (dg 2 (bf (aL 1) (bf (aL 2) nilG))))) (retS (aF ou (ao (cj 1 [2,0] (fun ρ=>((ao (fun ρ=>ak ρ 1) (fun _=> .ok [])) ρ).bind p8) (aL 0) (fun _=> .ok true) (aF ou (ao (cj 1 [2,0] (fun ρ=>((ao (fun ρ=>ak ρ 1) (fun _=> .ok [])) ρ).bind p8) (aL 0) (fun _=> .ok true) (bin (bin (fun ρ=>ak ρ 1) (fun ρ=>ak ρ 0) cg) (fun ρ=>ak ρ 2) cg)) (fun _=> .ok [])))) (fun _=> .ok [])))))
noncomputable def tK:List D→R D:=cB 2 MJ
noncomputable def MK:au→So:=(aO (bH (aF (aP cQ 1) (ao (fun ρ=>ak ρ 0) (fun _=> .ok []))) (c7 (dg 2 (bf (aL 1) (bf (aL 2) nilG))))) (aO (bH (cj 1 [] (fM (fun ρ=>ak ρ 0)) (aL 0) (fun _=> .ok true) (aF (aP qm 1) (ao (fun ρ=>ak ρ 0) (fun _=> .ok [])))) (aL 3)) (aO (bH (cj 1 [] (fM (aF (aP tK 1) (ao (fun ρ=>ak ρ 0) (fun _=> .ok [])))) (aL 0) (fun _=> .ok true) (aF (aP qm 1) (ao (fun ρ=>ak ρ 0) (fun _=> .ok [])))) (aL 4)) (retS (aF ou (ao (cj 1 [3,4,1] (fun ρ=>((ao (fun ρ=>ak ρ 2) (fun _=> .ok [])) ρ).bind p8) (aL 0) (fun _=> .ok true) (aF ou (ao (cj 1 [1,2,0] (fun ρ=>((ao (fun ρ=>ak ρ 3) (fun _=> .ok [])) ρ).bind p8) (aL 0) (fun _=> .ok true) (bin (bin (bin (fun ρ=>ak ρ 1) (fun ρ=>ak ρ 3) cg) (fun ρ=>ak ρ 0) cg) (bin (bin (fun ρ=>ak ρ 2) (fun ρ=>ak ρ 0) cg) (fun ρ=>ak ρ 3) cg) eG)) (fun _=> .ok [])))) (fun _=> .ok [])))))))
noncomputable def tL:List D→R D:=cB 4 MK
noncomputable def Rt:au→So:=(aO (dU (bZ (bin (fun ρ=>ak ρ 1) (fun _=> .ok (.str "worth")) rA)) (retS (cj 1 [] (fM (aF (aP tL 1) (ao (fun ρ=>ak ρ 0) (fun _=> .ok [])))) (aL 0) (fun _=> .ok true) (cj 1 [] (fM (fun ρ=>ak ρ 0)) (aL 0) (fun _=> .ok true) (jh (ao (fun ρ=>ak ρ 0) (ao (fun ρ=>ak ρ 0) (ao (fun ρ=>ak ρ 0) (fun _=> .ok [])))))))) So.nx) (retS (cj 1 [0] (fun ρ=>((ao (aF cC (ao (fun ρ=>ak ρ 0) (fun _=> .ok []))) (fun _=> .ok [])) ρ).bind p8) (aL 0) (fun _=> .ok true) (aF (aP lV 2) (ao (fun ρ=>ak ρ 1) (ao (fun ρ=>ak ρ 0) (fun _=> .ok [])))))))
noncomputable def iU:List D→R D:=cB 0 Rt
noncomputable def vp:au→So:=(dU (bZ (bin (fun ρ=>ak ρ 0) (fun _=> .ok (.tup [.str "worth",.str "joins"])) (Hh true))) (fun _=> .bad) So.nx)
noncomputable def cZ:List D→R D:=cB 0 vp
noncomputable def MN:au→So:=(aO (dU (Gi (nP (bZ (uE eE (fun ρ=>ak ρ 0)))) (bZ (bin (aF cC (ao (fun ρ=>ak ρ 0) (fun _=> .ok []))) (fun ρ=>ak ρ 2) iT))) (retS (fun _=> .ok (.bl false))) So.nx) (aO (dU (nP (bZ (aF sU (ao (cj 1 [1] (fM (fun ρ=>ak ρ 0)) (aL 0) (fun _=> .ok true) (q8 (aF (aP cX 1) (ao (fun ρ=>ak ρ 0) (fun _=> .ok []))) (La (fun _=> .ok (.int 0)) (fun ρ=>ak ρ 0) (fun ρ=>ak ρ 1) Bu ltI))) (fun _=> .ok []))))) (retS (fun _=> .ok (.bl false))) So.nx) (retS (aF sU (ao (cj 1 [0] (fun ρ=>((ao (fun _=> .ok (.int 1)) (ao (fun ρ=>ak ρ 2) (fun _=> .ok []))) ρ).bind Mj) (aL 0) (fun _=> .ok true) (bin (aF Hg (ao (bin (bin (fun ρ=>ak ρ 1) (fun ρ=>ak ρ 0) cg) (bin (fun ρ=>ak ρ 1) (bin (fun ρ=>ak ρ 0) (fun _=> .ok (.int 1)) gC) cg) gC) (fun _=> .ok []))) (fun _=> .ok (.int 1)) Bu)) (fun _=> .ok []))))))
noncomputable def mO:List D→R D:=cB 0 MN
noncomputable def Hz:au→So:=(aO (bH (aF (aP cQ 1) (ao (fun ρ=>ak ρ 1) (fun _=> .ok []))) (c7 (dg 2 (bf (aL 2) (bf (aL 3) nilG))))) (retS (aF (aP mO 3) (ao (fun ρ=>ak ρ 0) (ao (fun ρ=>ak ρ 2) (ao (fun ρ=>ak ρ 3) (fun _=> .ok [])))))))
noncomputable def qU:List D→R D:=cB 2 Hz
noncomputable def Ag:au→So:=(dU (nP (bZ (aF (aP qU 2) (ao (fun ρ=>ak ρ 0) (ao (fun ρ=>ak ρ 1) (fun _=> .ok [])))))) (fun _=> .bad) So.nx)
noncomputable def gR:List D→R D:=cB 0 Ag
noncomputable def HB:au→So:=(retS (bin (bin (fun ρ=>ak ρ 0) (fun ρ=>ak ρ 2) cg) (bin (bin (fun ρ=>ak ρ 1) (fun ρ=>ak ρ 2) gC) (fun _=> .ok (.int 1)) eG) cg))
noncomputable def dF:List D→R D:=cB 0 HB
noncomputable def Dk:au→So:=(aO (bH (aF (aP dF 3) (ao (bin (fun ρ=>ak ρ 0) (fun _=> .ok (.int 0)) cg) (ao (bin (fun ρ=>ak ρ 1) (fun _=> .ok (.int 0)) cg) (ao (bin (fun ρ=>ak ρ 1) (fun _=> .ok (.int 0)) cg) (fun _=> .ok []))))) (aL 2)) (aO (qH (fun ρ=>((ao (fun _=> .ok (.int 1)) (ao (aF cC (ao (fun ρ=>ak ρ 1) (fun _=> .ok []))) (fun _=> .ok []))) ρ).bind Mj) (aL 3) (Mt 2 (aF (aP dF 3) (ao (bin (fun ρ=>ak ρ 0) (fun ρ=>ak ρ 3) cg) (ao (bin (fun ρ=>ak ρ 1) (bin (fun ρ=>ak ρ 3) (fun _=> .ok (.int 1)) gC) cg) (ao (bin (fun ρ=>ak ρ 1) (fun ρ=>ak ρ 3) cg) (fun _=> .ok []))))))) (retS (fun ρ=>ak ρ 2))))
noncomputable def pL:List D→R D:=cB 2 Dk
noncomputable def HD:au→So:=(aO (mJ (aF (aP bM 1) (ao (fun ρ=>ak ρ 0) (fun _=> .ok [])))) (aO (mJ (aF (aP cZ 1) (ao (fun ρ=>ak ρ 2) (fun _=> .ok [])))) (aO (mJ (aF (aP gR 2) (ao (fun ρ=>ak ρ 1) (ao (fun ρ=>ak ρ 0) (fun _=> .ok []))))) (retS (aF (aP pL 2) (ao (aF (aP iU 2) (ao (fun ρ=>ak ρ 0) (ao (fun ρ=>ak ρ 2) (fun _=> .ok [])))) (ao (fun ρ=>ak ρ 1) (fun _=> .ok []))))))))
noncomputable def uU:List D→R D:=cB 0 HD
noncomputable def HF:au→So:=(retS (aF ou (ao (cj 2 [] (fun ρ=>((ao (fun ρ=>ak ρ 0) (ao (fun ρ=>ak ρ 1) (fun _=> .ok []))) ρ).bind zip2) (c7 (dg 2 (bf (aL 0) (bf (aL 1) nilG)))) (fun _=> .ok true) (bin (rH (fun ρ=>ak ρ 0) (fun _=> .ok none) (fun ρ=>((fun ρ=>ak ρ 1) ρ).bind Uh)) (rH (fun ρ=>ak ρ 0) (fun ρ=>((bin (fun ρ=>ak ρ 1) (fun _=> .ok (.int 1)) eG) ρ).bind Uh) (fun _=> .ok none)) eG)) (fun _=> .ok []))))
noncomputable def jB:List D→R D:=cB 0 HF
noncomputable def aef:au→So:=(aO (mJ (aF (aP gR 2) (ao (fun ρ=>ak ρ 1) (ao (fun ρ=>ak ρ 0) (fun _=> .ok []))))) (aO (dU (bZ (bin (aF cC (ao (bin (fun ρ=>ak ρ 0) (fun _=> .ok (.int 0)) cg) (fun _=> .ok []))) (fun _=> .ok (.int 1)) rA)) (retS (fun _=> .ok .non)) So.nx) (retS (aF (aP jB 2) (ao (fun ρ=>ak ρ 0) (ao (fun ρ=>ak ρ 1) (fun _=> .ok [])))))))
noncomputable def K4:List D→R D:=cB 0 aef
noncomputable def Dl:au→So:=(retS (bin (jh (ao (bin (jh (ao (fun _=> .ok (.int 0)) (fun _=> .ok []))) (aF cC (ao (bin (fun ρ=>ak ρ 0) (fun _=> .ok (.int 0)) cg) (fun _=> .ok []))) Ms) (fun _=> .ok []))) (aF cC (ao (fun ρ=>ak ρ 0) (fun _=> .ok []))) Ms))
noncomputable def pN:List D→R D:=cB 0 Dl
noncomputable def HJ:au→So:=(retS (q8 (aF (aP cX 1) (ao (fun ρ=>ak ρ 0) (fun _=> .ok []))) (La (fun _=> .ok (.int 0)) (fun ρ=>ak ρ 0) (fun _=> .ok (.int 2)) Bu Bu)))
noncomputable def qW:List D→R D:=cB 0 HJ
noncomputable def tM:au→So:=(retS (q8 (uE eE (fun ρ=>ak ρ 0)) (q8 (bin (aF cC (ao (fun ρ=>ak ρ 0) (fun _=> .ok []))) (fun ρ=>ak ρ 1) rA) (aF sU (ao (cj 1 [] (fM (fun ρ=>ak ρ 0)) (aL 0) (fun _=> .ok true) (aF (aP qW 1) (ao (fun ρ=>ak ρ 0) (fun _=> .ok [])))) (fun _=> .ok []))))))
noncomputable def jK:List D→R D:=cB 0 tM
noncomputable def Dm:au→So:=(aO (dU (Gi (nP (bZ (uE eE (fun ρ=>ak ρ 0)))) (bZ (bin (aF cC (ao (fun ρ=>ak ρ 0) (fun _=> .ok []))) (aF cC (ao (fun ρ=>ak ρ 1) (fun _=> .ok []))) iT))) (retS (fun _=> .ok (.bl false))) So.nx) (retS (aF sU (ao (cj 1 [1] (fM (fun ρ=>ak ρ 0)) (aL 0) (fun _=> .ok true) (aF (aP jK 2) (ao (fun ρ=>ak ρ 0) (ao (aF cC (ao (bin (fun ρ=>ak ρ 1) (fun _=> .ok (.int 0)) cg) (fun _=> .ok []))) (fun _=> .ok []))))) (fun _=> .ok [])))))
noncomputable def pO:List D→R D:=cB 0 Dm
noncomputable def xH:au→So:=(aO (dU (bZ (bin (fun ρ=>ak ρ 0) (fun _=> .ok .non) isD)) (retS (aF (aP pN 1) (ao (fun ρ=>ak ρ 1) (fun _=> .ok [])))) So.nx) (aO (dU (nP (bZ (aF (aP pO 2) (ao (fun ρ=>ak ρ 0) (ao (fun ρ=>ak ρ 1) (fun _=> .ok [])))))) (fun _=> .bad) So.nx) (retS (fun ρ=>ak ρ 0))))
noncomputable def dh:List D→R D:=cB 0 xH
noncomputable def xJ:au→So:=(dU (Gi (nP (bZ (aF (aP cX 1) (ao (fun ρ=>ak ρ 0) (fun _=> .ok []))))) (nP (bZ (La (fun ρ=>ak ρ 1) (fun ρ=>ak ρ 0) (fun ρ=>ak ρ 2) Bu Bu)))) (fun _=> .bad) So.nx)
noncomputable def lW:List D→R D:=cB 0 xJ
noncomputable def vB:au→So:=(retS (aF ou (ao (cj 2 [] (fun ρ=>((ao (fun ρ=>ak ρ 0) (ao (fun ρ=>ak ρ 1) (fun _=> .ok []))) ρ).bind zip2) (c7 (dg 2 (bf (aL 0) (bf (aL 1) nilG)))) (fun _=> .ok true) (bin (fun ρ=>ak ρ 0) (fun ρ=>ak ρ 1) cg)) (fun _=> .ok []))))
noncomputable def j5:List D→R D:=cB 0 vB
noncomputable def YT:au→So:=(retS (aF aee (ao (aF maxD (ao (bin (fun ρ=>ak ρ 0) (fun _=> .ok (.int 1)) gC) (ao (fun _=> .ok (.int 0)) (fun _=> .ok [])))) (ao (aF minD (ao (bin (fun ρ=>ak ρ 0) (fun _=> .ok (.int 2)) eG) (ao (fun ρ=>ak ρ 1) (fun _=> .ok [])))) (fun _=> .ok [])))))
noncomputable def BR:List D→R D:=cB 0 YT
noncomputable def onB:au→So:=(aO (bH (aF (aP dF 3) (ao (fun ρ=>ak ρ 1) (ao (fun ρ=>ak ρ 2) (ao (fun ρ=>ak ρ 4) (fun _=> .ok []))))) (aL 5)) (Mw 3 (cj 3 [5] (fM (bin (fun ρ=>ak ρ 0) (fun ρ=>ak ρ 4) cg)) (c7 (dg 3 (bf (aL 0) (bf (aL 1) (bf (aL 2) nilG))))) (fun _=> .ok true) (jh (ao (fun ρ=>ak ρ 0) (ao (bin (fun ρ=>ak ρ 1) (fun ρ=>ak ρ 3) eG) (ao (fun ρ=>ak ρ 2) (fun _=> .ok []))))))))
noncomputable def MP:au→So:=(aO (newL (fun _=> .ok []) 3) (aO (qH (fM (aF (aP BR 2) (ao (fun ρ=>ak ρ 2) (ao (aF cC (ao (fun ρ=>ak ρ 0) (fun _=> .ok []))) (fun _=> .ok []))))) (aL 4) onB) (retS (fun ρ=>ak ρ 3))))
noncomputable def tO:List D→R D:=cB 3 MP
noncomputable def akb (aG:Nat) (GG:List D→R D):au→So:=(dU (bZ (bin (fun ρ=>ak ρ 8) (fun _=> .ok (.int 1)) rA)) (bH (nQ (fun _=> .ok [])) (aL 9)) (dU (nP (YQ (fun ρ=>ak ρ 4))) (bH (K1 3 aG GG 2 (ao (fun ρ=>ak ρ 7) (ao (nQ (ao (jh (ao (fun _=> .ok (.int 0)) (ao (fun _=> .ok (.int 0)) (ao (fun ρ=>ak ρ 2) (fun _=> .ok []))))) (fun _=> .ok []))) (fun _=> .ok [])))) (aL 9)) (bH (K1 3 aG GG 2 (ao (fun ρ=>ak ρ 7) (ao (aF (aP tO 3) (ao (ixO 4 (alT (fun _=> .ok (.int 1)))) (ao (bin (fun ρ=>ak ρ 0) (bin (fun ρ=>ak ρ 5) (fun _=> .ok (.int 1)) eG) cg) (ao (fun ρ=>ak ρ 7) (fun _=> .ok []))))) (fun _=> .ok [])))) (aL 9))))
noncomputable def akc:au→So:=(aO (bH (X5 (bZ (bin (fun ρ=>ak ρ 8) (fun _=> .ok (.int 2)) rA)) (fun _=> .ok (.int 1)) (fun _=> .ok (.int 0))) (aL 10)) (vh 6 (cj 3 [10] (fM (fun ρ=>ak ρ 9)) (c7 (dg 3 (bf (aL 0) (bf (aL 1) (bf (aL 2) nilG))))) (fun _=> .ok true) (jh (ao (bin (fun ρ=>ak ρ 0) (fun ρ=>ak ρ 3) gC) (ao (fun ρ=>ak ρ 1) (ao (fun ρ=>ak ρ 2) (fun _=> .ok []))))))))
noncomputable def inW (aG:Nat) (GG:List D→R D):au→So:=(aO (akb aG GG) akc)
noncomputable def ajf (aG:Nat) (GG:List D→R D):au→So:=(aO (newL (fun _=> .ok []) 6) (aO (qH (fun ρ=>((ao (bin (fun ρ=>ak ρ 1) (fun ρ=>ak ρ 5) cg) (fun _=> .ok [])) ρ).bind uH) (c7 (dg 2 (bf (aL 7) (bf (aL 8) nilG)))) (inW aG GG)) (YF 4 6)))
noncomputable def Ru (aG:Nat) (GG:List D→R D):au→So:=(aO (newL (fun _=> .ok []) 4) (aO (qH (fun ρ=>((ao (aF cC (ao (fun ρ=>ak ρ 1) (fun _=> .ok []))) (fun _=> .ok [])) ρ).bind YG) (aL 5) (ajf aG GG)) (retS (XS (fun ρ=>ak ρ 4)))))
noncomputable def wN (aG:Nat) (GG:List D→R D) (ds:List D):R D:=ji 7 (Ru aG GG) (ds.map .val++[.obj (.fn aG)])
noncomputable def HN:au→So:=(retS (cj 3 [0] (fM (qR (aF rM (ao (fun ρ=>ak ρ 1) (fun _=> .ok []))) (fun _=> .ok none) (fun ρ=>((fun ρ=>ak ρ 2) ρ).bind Uh))) (c7 (dg 3 (bf (aL 0) (bf (aL 1) (bf (aL 2) nilG))))) (fun _=> .ok true) (jh (ao (fun ρ=>ak ρ 0) (ao (fun ρ=>ak ρ 1) (ao (bin (jh (ao (fun ρ=>ak ρ 3) (fun _=> .ok []))) (fun ρ=>ak ρ 2) eG) (fun _=> .ok [])))))))
noncomputable def eU (my:Int) (ds:List D):R D:=ji 0 HN (ds.map .val++[.val (.int my)])
noncomputable def Ah:au→So:=(ad8 3 2 ((fun ρ=>ak ρ 0):au→R D) ((fun ρ=>ak ρ 1):au→R D) ((jh (fun _=> .ok [])):au→R D) wN eU)
noncomputable def qp (ds:List D):R D:=ji 1 Ah (ds.map .val)
noncomputable def Dn:au→So:=(aO (newL (fun _=> .ok []) 2) (aO (qH (fun ρ=>((ao (bin (fun ρ=>ak ρ 1) (fun _=> .ok (.int 0)) cg) (fun _=> .ok [])) ρ).bind uH) (c7 (dg 2 (bf (aL 3) (bf (aL 4) nilG)))) (aO (bH (aF (aP dF 3) (ao (bin (fun ρ=>ak ρ 0) (fun _=> .ok (.int 0)) cg) (ao (fun ρ=>ak ρ 3) (ao (fun ρ=>ak ρ 3) (fun _=> .ok []))))) (aL 5)) (Mw 2 (cj 3 [5] (fM (fun ρ=>ak ρ 4)) (c7 (dg 3 (bf (aL 0) (bf (aL 1) (bf (aL 2) nilG))))) (fun _=> .ok true) (jh (ao (fun ρ=>ak ρ 0) (ao (bin (fun ρ=>ak ρ 1) (fun ρ=>ak ρ 3) eG) (ao (fun ρ=>ak ρ 2) (fun _=> .ok []))))))))) (retS (fun ρ=>ak ρ 2))))
noncomputable def pP:List D→R D:=cB 4 Dn
noncomputable def vC:au→So:=(retS (qR (aF rM (ao (aF (aP pP 2) (ao (fun ρ=>ak ρ 0) (ao (aF (aP qp 3) (ao (fun ρ=>ak ρ 0) (ao (fun ρ=>ak ρ 1) (ao (fun ρ=>ak ρ 2) (fun _=> .ok []))))) (fun _=> .ok [])))) (fun _=> .ok []))) (fun _=> .ok none) (fun ρ=>((fun ρ=>ak ρ 2) ρ).bind Uh)))
noncomputable def ni (ds:List D):R D:=ji 0 vC (ds.map .val)
noncomputable def Ai:au→So:=(aO (bH (aF (aP ni 3) (ao (fun ρ=>ak ρ 0) (ao (fun ρ=>ak ρ 1) (ao (fun _=> .ok (.int 1)) (fun _=> .ok []))))) (aL 2)) (aO (dU (nP (YQ (fun ρ=>ak ρ 2))) (retS (fun _=> .ok .non)) So.nx) (aO (bH (bin (fun ρ=>ak ρ 2) (fun _=> .ok (.int 0)) cg) (c7 (dg 3 (bf (aL 3) (bf (aL 4) (bf (aL 5) nilG)))))) (retS (jh (ao (fun ρ=>ak ρ 4) (ao (fun ρ=>ak ρ 5) (fun _=> .ok []))))))))
noncomputable def gU (ds:List D):R D:=ji 4 Ai (ds.map .val)
noncomputable def tkT:au→R Bool:=(bZ (bin (aF cC (ao (fun ρ=>ak ρ 6) (fun _=> .ok []))) (fun ρ=>ak ρ 1) ltI))
noncomputable def tkB:au→So:=(aO (bH (aF (aP gU 2) (ao (aF (aP iU 2) (ao (fun ρ=>ak ρ 4) (ao (fun ρ=>ak ρ 2) (fun _=> .ok [])))) (ao (fun ρ=>ak ρ 5) (fun _=> .ok [])))) (aL 8)) (aO (dU (bZ (bin (fun ρ=>ak ρ 8) (fun _=> .ok .non) isD)) (retS (fun _=> .ok .non)) So.nx) (aO (bH (fun ρ=>ak ρ 8) (c7 (dg 2 (bf (aL 9) (bf (aL 10) nilG))))) (aO (vh 6 (jh (ao (fun ρ=>ak ρ 10) (ao (aF (aP j5 2) (ao (fun ρ=>ak ρ 4) (ao (fun ρ=>ak ρ 10) (fun _=> .ok [])))) (fun _=> .ok []))))) (aO (Mt 7 (fun ρ=>ak ρ 9)) (Ae 4 5 (aF (aP jB 2) (ao (fun ρ=>ak ρ 4) (ao (fun ρ=>ak ρ 10) (fun _=> .ok [])))) (aF (aP jB 2) (ao (fun ρ=>ak ρ 5) (ao (fun ρ=>ak ρ 10) (fun _=> .ok []))))))))))
noncomputable def Rv:au→So:=(aO (Ae 4 5 (fun ρ=>ak ρ 0) (fun ρ=>ak ρ 3)) (aO (newL (fun _=> .ok []) 6) (aO (bH (fun _=> .ok (.int 0)) (aL 7)) (aO (j9 tkT tkB 64) (retS (jh (ao (fun ρ=>ak ρ 4) (ao (fun ρ=>ak ρ 6) (ao (fun ρ=>ak ρ 7) (fun _=> .ok []))))))))))
noncomputable def BW (ds:List D):R D:=ji 7 Rv (ds.map .val)
noncomputable def Dq:au→So:=(aO (mJ (aF (aP bM 1) (ao (fun ρ=>ak ρ 0) (fun _=> .ok [])))) (aO (mJ (aF (aP cZ 1) (ao (fun ρ=>ak ρ 2) (fun _=> .ok [])))) (aO (bH (aF (aP dh 2) (ao (fun ρ=>ak ρ 3) (ao (fun ρ=>ak ρ 0) (fun _=> .ok [])))) (aL 4)) (aO (mJ (aF (aP lW 3) (ao (fun ρ=>ak ρ 1) (ao (fun _=> .ok (.int 1)) (ao (aF cC (ao (bin (fun ρ=>ak ρ 0) (fun _=> .ok (.int 0)) cg) (fun _=> .ok []))) (fun _=> .ok [])))))) (retS (aF (aP BW 4) (ao (fun ρ=>ak ρ 0) (ao (bin (aF cC (ao (bin (fun ρ=>ak ρ 0) (fun _=> .ok (.int 0)) cg) (fun _=> .ok []))) (fun ρ=>ak ρ 1) gC) (ao (fun ρ=>ak ρ 2) (ao (fun ρ=>ak ρ 4) (fun _=> .ok [])))))))))))
noncomputable def fQ (ds:List D):R D:=ji 1 Dq (ds.map .val)
noncomputable def HS:au→So:=(aO (bH (aF (aP fQ 4) (ao (fun ρ=>ak ρ 0) (ao (fun ρ=>ak ρ 1) (ao (fun ρ=>ak ρ 2) (ao (fun ρ=>ak ρ 3) (fun _=> .ok [])))))) (aL 4)) (aO (dU (bZ (bin (fun ρ=>ak ρ 4) (fun _=> .ok .non) isD)) (retS (fun _=> .ok .non)) So.nx) (retS (bin (fun ρ=>ak ρ 4) (fun _=> .ok (.int 1)) cg))))
noncomputable def oO (ds:List D):R D:=ji 1 HS (ds.map .val)
noncomputable def Dr:au→So:=(aO (mJ (aF (aP bM 1) (ao (fun ρ=>ak ρ 0) (fun _=> .ok [])))) (aO (mJ (aF (aP cZ 1) (ao (fun ρ=>ak ρ 1) (fun _=> .ok [])))) (aO (bH (aF (aP dh 2) (ao (fun ρ=>ak ρ 2) (ao (fun ρ=>ak ρ 0) (fun _=> .ok [])))) (aL 3)) (retS (jh (ao (aF (aP iU 2) (ao (fun ρ=>ak ρ 0) (ao (fun ρ=>ak ρ 1) (fun _=> .ok [])))) (ao (fun ρ=>ak ρ 3) (fun _=> .ok []))))))))
noncomputable def pQ:List D→R D:=cB 1 Dr
noncomputable def xK:au→So:=(aO (bH (aF (aP pQ 3) (ao (fun ρ=>ak ρ 0) (ao (fun ρ=>ak ρ 1) (ao (fun ρ=>ak ρ 2) (fun _=> .ok []))))) (c7 (dg 2 (bf (aL 3) (bf (aL 4) nilG))))) (aO (bH (aF (aP gU 2) (ao (fun ρ=>ak ρ 3) (ao (fun ρ=>ak ρ 4) (fun _=> .ok [])))) (aL 5)) (aO (dU (bZ (bin (fun ρ=>ak ρ 5) (fun _=> .ok .non) isD)) (retS (fun _=> .ok .non)) So.nx) (retS (bin (fun ρ=>ak ρ 5) (fun _=> .ok (.int 1)) cg)))))
noncomputable def oR (ds:List D):R D:=ji 3 xK (ds.map .val)
noncomputable def YW:au→So:=(retS (bin (aF (aP fQ 4) (ao (fun ρ=>ak ρ 0) (ao (fun ρ=>ak ρ 1) (ao (fun ρ=>ak ρ 2) (ao (fun _=> .ok .non) (fun _=> .ok [])))))) (fun _=> .ok (.int 2)) cg))
noncomputable def HW (ds:List D):R D:=ji 0 YW (ds.map .val)
noncomputable def Ds:au→So:=(aO (bH (aF (aP fQ 4) (ao (fun ρ=>ak ρ 0) (ao (fun ρ=>ak ρ 1) (ao (fun ρ=>ak ρ 2) (ao (fun ρ=>ak ρ 3) (fun _=> .ok [])))))) (aL 4)) (aO (dU (bZ (bin (fun ρ=>ak ρ 4) (fun _=> .ok .non) isD)) (retS (fun _=> .ok .non)) So.nx) (retS (bin (fun ρ=>ak ρ 4) (fun _=> .ok (.int 0)) cg))))
noncomputable def kJ (ds:List D):R D:=ji 1 Ds (ds.map .val)
noncomputable def Dt:au→So:=(retS (q8 (uE eE (fun ρ=>ak ρ 0)) (q8 (bin (aF cC (ao (fun ρ=>ak ρ 0) (fun _=> .ok []))) (fun ρ=>ak ρ 1) rA) (aF sU (ao (cj 1 [] (fM (fun ρ=>ak ρ 0)) (aL 0) (fun _=> .ok true) (aF (aP kI 1) (ao (fun ρ=>ak ρ 0) (fun _=> .ok [])))) (fun _=> .ok []))))))
noncomputable def pR:List D→R D:=cB 0 Dt
noncomputable def HX:au→So:=(aO (dU (Gi (nP (bZ (uE eE (fun ρ=>ak ρ 0)))) (bZ (bin (aF cC (ao (fun ρ=>ak ρ 0) (fun _=> .ok []))) (fun _=> .ok (.int 2)) iT))) (retS (fun _=> .ok (.bl false))) So.nx) (retS (q8 (aF (aP mO 3) (ao (bin (fun ρ=>ak ρ 0) (fun _=> .ok (.int 0)) cg) (ao (fun ρ=>ak ρ 1) (ao (fun ρ=>ak ρ 2) (fun _=> .ok []))))) (aF (aP pR 2) (ao (bin (fun ρ=>ak ρ 0) (fun _=> .ok (.int 1)) cg) (ao (fun ρ=>ak ρ 2) (fun _=> .ok [])))))))
noncomputable def qX:List D→R D:=cB 0 HX
noncomputable def xM:au→So:=(retS (aF ou (ao (cj 3 [] (fun ρ=>((ao (fun ρ=>ak ρ 0) (ao (fun ρ=>ak ρ 1) (ao (fun ρ=>ak ρ 2) (fun _=> .ok [])))) ρ).bind Hi) (c7 (dg 3 (bf (aL 0) (bf (aL 1) (bf (aL 2) nilG))))) (fun _=> .ok true) (bin (bin (rH (fun ρ=>ak ρ 0) (fun _=> .ok none) (fun ρ=>((fun ρ=>ak ρ 1) ρ).bind Uh)) (jh (ao (fun ρ=>ak ρ 2) (fun _=> .ok []))) eG) (rH (fun ρ=>ak ρ 0) (fun ρ=>((fun ρ=>ak ρ 1) ρ).bind Uh) (fun _=> .ok none)) eG)) (fun _=> .ok []))))
noncomputable def lX:List D→R D:=cB 0 xM
noncomputable def rbB:au→So:=(aO (dU (nP (bZ (aF (aP qX 3) (ao (fun ρ=>ak ρ 5) (ao (bin (aF cC (ao (bin (fun ρ=>ak ρ 4) (fun _=> .ok (.int 0)) cg) (fun _=> .ok []))) (fun _=> .ok (.int 1)) eG) (ao (fun ρ=>ak ρ 3) (fun _=> .ok []))))))) (fun _=> .bad) So.nx) (aO (bH (fun ρ=>ak ρ 5) (c7 (dg 2 (bf (aL 6) (bf (aL 7) nilG))))) (bH (aF (aP lX 3) (ao (fun ρ=>ak ρ 4) (ao (fun ρ=>ak ρ 6) (ao (fun ρ=>ak ρ 7) (fun _=> .ok []))))) (aL 4))))
noncomputable def HY:au→So:=(aO (bH (aF (aP cQ 1) (ao (fun ρ=>ak ρ 0) (fun _=> .ok []))) (c7 (dg 2 (bf (aL 2) (bf (aL 3) nilG))))) (aO (dU (Gi (nP (bZ (uE CZ (fun ρ=>ak ρ 1)))) (bZ (bin (bin (fun ρ=>ak ρ 2) (aF cC (ao (fun ρ=>ak ρ 1) (fun _=> .ok []))) eG) (fun _=> .ok (.int 20)) wR))) (fun _=> .bad) So.nx) (aO (bH (fun ρ=>ak ρ 0) (aL 4)) (aO (qH (fun ρ=>((ao (fun ρ=>ak ρ 1) (fun _=> .ok [])) ρ).bind ai5) (aL 5) rbB) (retS (fun ρ=>ak ρ 4))))))
noncomputable def mD:List D→R D:=cB 6 HY
noncomputable def l1B:au→So:=(aO (dU (bZ (bin (fun ρ=>ak ρ 12) (mK oR 3 1 [.inl 0,.inr .non] (ao (fun ρ=>ak ρ 10) (fun _=> .ok [])) (ao (fun ρ=>ak ρ 4) (fun _=> .ok []))) iT)) (retS (fun _=> .ok (.bl false))) So.nx) (Ae 11 10 (bin (fun ρ=>ak ρ 11) (mK uU 3 1 [.inl 0] (ao (fun ρ=>ak ρ 10) (ao (fun ρ=>ak ρ 12) (fun _=> .ok []))) (ao (fun ρ=>ak ρ 4) (fun _=> .ok []))) eG) (aF (aP K4 2) (ao (fun ρ=>ak ρ 10) (ao (fun ρ=>ak ρ 12) (fun _=> .ok []))))))
noncomputable def l2B:au→So:=(aO (dU (bZ (bin (aF (aP lR 3) (ao (fun ρ=>ak ρ 10) (ao (fun ρ=>ak ρ 12) (ao (fun _=> .ok (.int 1)) (fun _=> .ok []))))) (fun _=> .ok (.int 0)) wR)) (retS (fun _=> .ok (.bl false))) So.nx) (bH (aF (aP pK 2) (ao (fun ρ=>ak ρ 10) (ao (fun ρ=>ak ρ 12) (fun _=> .ok [])))) (aL 10)))
noncomputable def l3B:au→So:=(aO (dU (Gi (bZ (bin (aF (aP mD 2) (ao (fun ρ=>ak ρ 14) (ao (fun ρ=>ak ρ 15) (fun _=> .ok [])))) (fun ρ=>ak ρ 1) iT)) (bZ (bin (aF (aP cQ 1) (ao (fun ρ=>ak ρ 14) (fun _=> .ok []))) (jh (ao (fun ρ=>ak ρ 6) (ao (fun ρ=>ak ρ 3) (fun _=> .ok [])))) iT))) (retS (fun _=> .ok (.bl false))) So.nx) (aO (bH (fun ρ=>ak ρ 5) (aL 10)) (qH (fM (fun ρ=>ak ρ 15)) (c7 (dg 2 (bf (aL 12) (bf (aL 13) nilG)))) l2B)))
noncomputable def aeg:au→So:=(aO (bH (aF (aP nJ 4) (ao (fun ρ=>ak ρ 0) (ao (fun _=> .ok (.int 0)) (ao (fun _=> .ok (.int 9)) (ao (fun _=> .ok (.int 6)) (fun _=> .ok [])))))) (aL 1)) (aO (bH (aF (aP cQ 1) (ao (fun ρ=>ak ρ 1) (fun _=> .ok []))) (c7 (dg 2 (bf (aL 2) (bf (aL 3) nilG))))) (aO (Ae 4 5 (aF (aP jZ 2) (ao (fun ρ=>ak ρ 0) (ao (fun _=> .ok (.int 140)) (fun _=> .ok [])))) (aF (aP lQ 3) (ao (fun ρ=>ak ρ 0) (ao (fun _=> .ok (.int 70)) (ao (fun ρ=>ak ρ 1) (fun _=> .ok [])))))) (aO (bH (bin (fun _=> .ok (.int 1)) (aF (aP bJ 3) (ao (fun ρ=>ak ρ 0) (ao (fun _=> .ok (.int 141)) (ao (fun ρ=>ak ρ 2) (fun _=> .ok []))))) eG) (aL 6)) (aO (bH (bin (fun ρ=>ak ρ 6) (aF (aP bJ 3) (ao (fun ρ=>ak ρ 0) (ao (fun _=> .ok (.int 142)) (ao (bin (bin (fun ρ=>ak ρ 2) (fun ρ=>ak ρ 6) gC) (fun _=> .ok (.int 1)) eG) (fun _=> .ok []))))) eG) (aL 7)) (aO (Ae 8 9 (mK oO 4 1 [.inl 0,.inr .non] (ao (fun ρ=>ak ρ 1) (ao (fun ρ=>ak ρ 6) (fun _=> .ok []))) (ao (fun ρ=>ak ρ 4) (fun _=> .ok []))) (mK kJ 4 1 [.inl 0,.inr .non] (ao (fun ρ=>ak ρ 1) (ao (fun ρ=>ak ρ 6) (fun _=> .ok []))) (ao (fun ρ=>ak ρ 4) (fun _=> .ok [])))) (aO (dU (Gi (bZ (bin (aF (aP cQ 1) (ao (fun ρ=>ak ρ 9) (fun _=> .ok []))) (jh (ao (fun ρ=>ak ρ 6) (ao (fun ρ=>ak ρ 3) (fun _=> .ok [])))) iT)) (bZ (bin (aF cC (ao (fun ρ=>ak ρ 8) (fun _=> .ok []))) (bin (fun ρ=>ak ρ 2) (fun ρ=>ak ρ 6) gC) iT))) (retS (fun _=> .ok (.bl false))) So.nx) (aO (dU (bZ (bin (aF (aP mD 2) (ao (fun ρ=>ak ρ 9) (ao (fun ρ=>ak ρ 8) (fun _=> .ok [])))) (fun ρ=>ak ρ 1) iT)) (retS (fun _=> .ok (.bl false))) So.nx) (aO (dU (bZ (bin (mK kJ 4 1 [.inl 0,.inr .non] (ao (mK kJ 4 1 [.inl 0,.inr .non] (ao (fun ρ=>ak ρ 1) (ao (fun ρ=>ak ρ 7) (fun _=> .ok []))) (ao (fun ρ=>ak ρ 4) (fun _=> .ok []))) (ao (fun ρ=>ak ρ 6) (fun _=> .ok []))) (ao (fun ρ=>ak ρ 4) (fun _=> .ok []))) (fun ρ=>ak ρ 9) iT)) (retS (fun _=> .ok (.bl false))) So.nx) (aO (dU (bZ (bin (mK oO 4 1 [.inl 0,.inr .non] (ao (fun ρ=>ak ρ 1) (ao (fun ρ=>ak ρ 7) (fun _=> .ok []))) (ao (fun ρ=>ak ρ 4) (fun _=> .ok []))) (qR (fun ρ=>ak ρ 8) (fun _=> .ok none) (fun ρ=>((bin (fun ρ=>ak ρ 2) (fun ρ=>ak ρ 7) gC) ρ).bind Uh)) iT)) (retS (fun _=> .ok (.bl false))) So.nx) (aO (Ae 10 11 (fun ρ=>ak ρ 1) (fun _=> .ok (.int 0))) (aO (qH (fM (fun ρ=>ak ρ 8)) (c7 (dg 2 (bf (aL 12) (bf (aL 13) nilG)))) l1B) (aO (dU (Gi (bZ (bin (fun ρ=>ak ρ 10) (fun ρ=>ak ρ 9) iT)) (bZ (bin (mK HW 3 1 [.inl 0] (ao (fun ρ=>ak ρ 1) (ao (fun ρ=>ak ρ 6) (fun _=> .ok []))) (ao (fun ρ=>ak ρ 4) (fun _=> .ok []))) (fun ρ=>ak ρ 11) iT))) (retS (fun _=> .ok (.bl false))) So.nx) (aO (dU (bZ (bin (bin (aF (aP jR 1) (ao (fun ρ=>ak ρ 9) (fun _=> .ok []))) (aF Ad (ao (cj 2 [] (fM (fun ρ=>ak ρ 8)) (c7 (dg 2 (bf (aL 0) (bf (aL 1) nilG)))) (fun _=> .ok true) (aF Ad (ao (fun ρ=>ak ρ 1) (fun _=> .ok [])))) (fun _=> .ok []))) eG) (aF (aP jR 1) (ao (fun ρ=>ak ρ 1) (fun _=> .ok []))) iT)) (retS (fun _=> .ok (.bl false))) So.nx) (aO (bH (mK kJ 4 2 [.inl 0,.inl 1] (ao (fun ρ=>ak ρ 1) (ao (fun ρ=>ak ρ 6) (fun _=> .ok []))) (ao (fun ρ=>ak ρ 4) (ao (fun ρ=>ak ρ 5) (fun _=> .ok [])))) (aL 14)) (aO (bH (mK oO 4 2 [.inl 0,.inl 1] (ao (fun ρ=>ak ρ 1) (ao (fun ρ=>ak ρ 6) (fun _=> .ok []))) (ao (fun ρ=>ak ρ 4) (ao (fun ρ=>ak ρ 5) (fun _=> .ok [])))) (aL 15)) (aO (dU (bZ (bin (bin (fun ρ=>ak ρ 14) (fun _=> .ok .non) isD) (bin (fun ρ=>ak ρ 15) (fun _=> .ok .non) isD) iT)) (retS (fun _=> .ok (.bl false))) So.nx) (aO (dU (bZ (bin (fun ρ=>ak ρ 14) (fun _=> .ok .non) Yn)) l3B So.nx) (retS (orV (bin (fun ρ=>ak ρ 14) (fun _=> .ok .non) Yn) (bin (cj 1 [] (fM (fun ρ=>ak ρ 5)) (aL 0) (bZ (bin (fun _=> .ok (.int 1)) (fun ρ=>ak ρ 0) (Hh false))) (fun ρ=>ak ρ 0)) (nQ (fun _=> .ok [])) iT)))))))))))))))))))))
noncomputable def OJ (ds:List D):R D:=ji 15 aeg (ds.map .val)
end iI
namespace iI
open PySem PySem.Spec L2 Pu
noncomputable def row (w:Nat) (f:Nat→Int):D:= .tup ((List.range w).map fun x=> .int (f x))
noncomputable def bw (w h:Nat) (f:Nat→Nat→Int):D:= .tup ((List.range h).map fun y=>row w (f y))
structure Ok (w h:Nat) (f:Nat→Nat→Int):Prop where
  w1:1≤w
  w2:w≤20
  h1:1≤h
  h2:h≤20
  c:∀y < h,∀x < w,0≤f y x∧f y x≤99
theorem zR {i j:Int} (h:i≤j):Bu (.int i) (.int j)= .ok (.bl true):=by
  show R.ok (D.bl (decide (i≤j)))=_
  rw[decide_eq_true h]
theorem O5 {ds:List D} (h1:1≤ds.length) (h2:ds.length≤20):jA [.tup ds]= .ok (.bl true):=
  cu (bB (qe rfl (Hf rfl (aW (aA rfl) rfl) (zR (by omega)) rfl (zR (by omega)))))
theorem Aj {i:Int}:cX [.int i]= .ok (.bl true):=rfl
theorem O6 {i:Int} (h0:0≤i) (h1:i≤99):kI [.int i]= .ok (.bl true):=by
  exact cu (bB (qe (aU (aA rfl) Aj) (Hf rfl rfl (zR h0) rfl (zR h1))))
theorem ahb {w:Nat} {f:Nat→Int} (h1:1≤w) (h2:w≤20) (hc:∀x < w,0≤f x∧f x≤99):tE [row w f]= .ok (.bl true):=by
  refine cu (bB (qe (aU (aA rfl) (O5 (by simpa using h1) (by simpa using h2))) (aW (aA (cF (c:=fun x=> .int (f x)) (h:=fun _=> .bl true) (l:=List.range w) (jH rfl) (by rw[List.length_range];omega) fun x hx=>?_)) sX)))
  obtain⟨a,b⟩:=hc x (List.mem_range.mp hx)
  exact cR rfl (aU (aA rfl) (O6 a b))
section
variable {w h:Nat} {f:Nat→Nat→Int}
theorem Vi (o:Ok w h f):lU [bw w h f]= .ok (.bl true):=by
  have e1:jA [bw w h f]= .ok (.bl true):=O5 (by simpa using o.h1) (by simpa using o.h2)
  refine cu (aJ (bV (rE (iC (aZ (aU (aA rfl) e1))) (iC (aZ (aW (aA (cF (c:=fun y=>row w (f y)) (h:=fun _=> .bl true) (l:=List.range h) (jH rfl) (by rw[List.length_range];have:=o.h2;omega) fun y hy=>?_)) sX)))) rfl) (bB (aW (aA (cF (c:=fun y=>row w (f y)) (h:=fun _=> .bl true) (l:=List.range h) (jH rfl) (by rw[List.length_range];have:=o.h2;omega) fun y hy=>?_)) sX)))
  · exact cR rfl (aU (aA rfl) (ahb o.w1 o.w2 (o.c y (List.mem_range.mp hy))))
  · refine cR rfl (aB (aW (aA rfl) rfl) (aW (aA (aB rfl rfl (kj (i:=0) (d:=row w (f 0)) ?_))) rfl) (aiR ?_ ?_))
    · rw[List.getElem?_map,List.getElem?_range o.h1];rfl
    · simp
    · simp[dep]
theorem BX (o:Ok w h f):bM [bw w h f]= .ok .non:=Og (bV (iC (aZ (aU (aA rfl) (Vi o)))) rfl)
theorem size_eq (o:Ok w h f):cQ [bw w h f]= .ok (.tup [.int w,.int h]):=by
  refine cu (aJ (lO (aU (aA rfl) (BX o))) (bB (gJ (aD (aW (aA (aB rfl rfl (kj (i:=0) (d:=row w (f 0)) ?_))) ?_) (aA (aW (aA rfl) ?_))))))
  · rw[List.getElem?_map,List.getElem?_range o.h1];rfl
  · simp[row,cC]
  · simp[bw,cC]
theorem ahc (o:Ok w h f):tK [bw w h f]= .ok (bw h w fun y x=>f x y):=by
  refine cu (aJ (bA (aU (aA rfl) (size_eq o)) rfl) (bB (aW (aA (cF (c:=fun (x:Nat)=> .int (x:Int)) (h:=fun x=>row h fun y=>f y x) (l:=List.range w) (rC (aA rfl) (by have:=o.w2;omega)) (by rw[List.length_range];have:=o.w2;omega) fun x hx=>?_)) rfl)))
  refine cR rfl (aW (aA (cF (c:=fun (y:Nat)=> .int (y:Int)) (h:=fun y=> .int (f y x)) (l:=List.range h) (rC (aA rfl) (by have:=o.h2;omega)) (by rw[List.length_range];have:=o.h2;omega) fun y hy=>?_)) rfl)
  refine cR rfl (aB (aB rfl rfl (kj (i:=y) (d:=row w (f y)) ?_)) rfl (kj (i:=x) ?_))
  · rw[List.getElem?_map,List.getElem?_range (List.mem_range.mp hy)];rfl
  · rw[List.getElem?_map,List.getElem?_range (List.mem_range.mp hx)];rfl
theorem Gn (o:Ok w h f):jR [bw w h f]= .ok (.int ((List.range h).map fun y=>((List.range w).map (f y)).sum).sum):=by
  refine cu (aJ (lO (aU (aA rfl) (BX o))) (bB (aW (aA (cF (c:=fun y=>row w (f y)) (h:=fun y=> .int ((List.range w).map (f y)).sum) (l:=List.range h) (jH rfl) (by rw[List.length_range];have:=o.h2;omega) fun y hy=>?_)) ac4)))
  exact cR rfl (aW (aA rfl) ac5)
end
noncomputable def ajg:au→So:=(vh 5 (aF ou (ao (cj 1 [1,2,4,0,6] (fun ρ=>((ao (fun ρ=>ak ρ 2) (fun _=> .ok [])) ρ).bind p8) (aL 0) (fun _=> .ok true) (aF (aP bJ 3) (ao (fun ρ=>ak ρ 4) (ao (bin (bin (bin (fun ρ=>ak ρ 1) (fun _=> .ok (.int 1)) gF) (bin (fun ρ=>ak ρ 2) (fun ρ=>ak ρ 5) jL) gF) (fun ρ=>ak ρ 0) gF) (ao (fun ρ=>ak ρ 3) (fun _=> .ok [])))))) (fun _=> .ok []))))
section
variable {ns:List Int} {a m:Int} {w h:Nat}
noncomputable def vA (d:D):Option Ent:=some (.val d)
theorem al9 (hns:ns.length≤1000000) (ha:0≤a) (hm:0 < m) (hw:w≤20) {acc:List D} {y:Nat} {tl:Option Ent} (hl:acc.length < 1000000):
    ajg [vA (.lst (ns.map .int)),vA (.int a),vA (.int (w:Int)),tl,vA (.int m),some (.lst acc),vA (.int (y:Int))] =
      .nx [vA (.lst (ns.map .int)),vA (.int a),vA (.int (w:Int)),tl,vA (.int m),some (.lst (acc++[row w fun x=>dr ns (a+1+(w:Int)*(y:Int)+(x:Int)) m])),vA (.int (y:Int))]:=by
  have e:aF ou (ao (cj 1 [1,2,4,0,6] (fun ρ=>((ao (fun ρ=>ak ρ 2) (fun _=> .ok [])) ρ).bind p8) (aL 0) (fun _=> .ok true) (aF (aP bJ 3) (ao (fun ρ=>ak ρ 4) (ao (bin (bin (bin (fun ρ=>ak ρ 1) (fun _=> .ok (.int 1)) gF) (bin (fun ρ=>ak ρ 2) (fun ρ=>ak ρ 5) jL) gF) (fun ρ=>ak ρ 0) gF) (ao (fun ρ=>ak ρ 3) (fun _=> .ok [])))))) (fun _=> .ok []))
      [vA (.lst (ns.map .int)),vA (.int a),vA (.int (w:Int)),tl,vA (.int m),some (.lst acc),vA (.int (y:Int))]= .ok (row w fun x=>dr ns (a+1+(w:Int)*(y:Int)+(x:Int)) m):=by
    refine aW (aA (cF (c:=fun (x:Nat)=>D.int (x:Int)) (h:=fun (x:Nat)=>D.int (dr ns (a+1+(w:Int)*(y:Int)+(x:Int)) m)) (l:=List.range w) (rC (aA rfl) (by omega)) (by rw[List.length_range];omega) fun x hx=>?_)) rfl
    refine cR rfl (aU (aD rfl (aD (aB (aB (aB rfl rfl rfl) (aB rfl rfl (qg (.inl ⟨by omega,by omega⟩))) rfl) rfl rfl) (aA rfl))) ?_)
    have hp:(0:Int)≤(w:Int)*(y:Int):=Int.mul_nonneg (by omega) (by omega)
    exact (uF hns (by omega) hm).1
  unfold ajg vh
  rw[e]
  show (if acc.length < 1000000 then So.nx _ else .bad)=_
  rw[if_pos hl];rfl
theorem YX (hns:ns.length≤1000000) (ha:0≤a) (hm:0 < m) (hw:w≤20) {tl:Option Ent}:∀{ys:List Nat} {acc:List D} {x:Option Ent},acc.length+ys.length≤1000000→
    ∃ x',forL (aL 6) ajg (ys.map fun (y:Nat)=>D.int (y:Int)) [vA (.lst (ns.map .int)),vA (.int a),vA (.int (w:Int)),tl,vA (.int m),some (.lst acc),x] =
      .nx [vA (.lst (ns.map .int)),vA (.int a),vA (.int (w:Int)),tl,vA (.int m),some (.lst (acc++ys.map fun (y:Nat)=>row w fun x=>dr ns (a+1+(w:Int)*(y:Int)+(x:Int)) m)),x']
  |[],acc,x,_=>⟨x,by rw[List.map_nil,List.map_nil,List.append_nil];rfl⟩
  | y::ys,acc,x,hl=>by
    rw[List.length_cons] at hl
    obtain⟨x',e⟩:=YX hns ha hm hw (tl:=tl) (ys:=ys) (acc:=acc++[row w fun x=>dr ns (a+1+(w:Int)*(y:Int)+(x:Int)) m]) (x:=vA (.int (y:Int))) (by rw[List.length_append];simp only[List.length_cons,List.length_nil];omega)
    refine⟨x',?_⟩
    rw[List.append_assoc] at e
    rw[List.map_cons,List.map_cons]
    exact iG rfl (al9 hns ha hm hw (by omega)) e
theorem aeh (hns:ns.length≤1000000) (ha:0≤a) (hw:w≤20) (hw1:1≤w) (hh:h≤20) (hh1:1≤h):∃f,jJ [.lst (ns.map .int),.int a,.int (w:Int),.int (h:Int)]= .ok (bw w h f)∧Ok w h f:=by
  obtain⟨e1,h0,h4⟩:=uF (k:=a) (m:=4) hns ha (by omega)
  obtain⟨d,hd,ed⟩:=KQ (xs:=[D.int 2,.int 5,.int 100,.int 10]) h0 h4
  have hm:∃m,d= .int m∧0 < m∧m≤100:=by
    simp only[List.mem_cons,List.not_mem_nil,or_false] at hd
    rcases hd with rfl |rfl |rfl |rfl
    · exact⟨_,rfl,by omega,by omega⟩
    · exact⟨_,rfl,by omega,by omega⟩
    · exact⟨_,rfl,by omega,by omega⟩
    · exact⟨_,rfl,by omega,by omega⟩
  obtain⟨m,rfl,hm0,hm1⟩:=hm
  obtain⟨x',er⟩:=YX hns ha hm0 hw (tl:=vA (.int (h:Int))) (ys:=List.range h) (acc:=[]) (x:=none) (by rw[List.length_range,List.length_nil];omega)
  refine⟨fun y x=>dr ns (a+1+(w:Int)*(y:Int)+(x:Int)) m,cu (aJ (ρ':=[vA (.lst (ns.map .int)),vA (.int a),vA (.int (w:Int)),vA (.int (h:Int)),vA (.int m),some (.lst []),none]) ?_ (aJ (oK (rC (m:=h) (aA rfl) (by omega)) er) (bB (aW (aA (x:= .lst ((List.range h).map fun (y:Nat)=>row w fun x=>dr ns (a+1+(w:Int)*(y:Int)+(x:Int)) m)) rfl) rfl)))),hw1,hw,hh1,hh,fun y hy x hx=>?_⟩
  · exact akq (aB (x:= .lst [D.int 2,.int 5,.int 100,.int 10]) (y:= .int (dr ns a 4)) (kh rfl) (aU (aD rfl (aD rfl (aA rfl))) e1) (Bw ed)) rfl
  · have hp:(0:Int)≤(w:Int)*(y:Int):=Int.mul_nonneg (by omega) (by omega)
    have:=(uF (k:=a+1+(w:Int)*(y:Int)+(x:Int)) (m:=m) hns (by omega) hm0).2
    show 0≤dr _ _ _∧dr _ _ _≤99
    omega
end
section
variable {w h:Nat} {f g:Nat→Nat→Int}
theorem xO {α β:Type} {p q:α→β} {l:List α} (e:∀a∈l,p a=q a):l.map p=l.map q:=List.map_congr_left e
theorem ahd (e:∀y < h,∀x < w,f y x=g y x):bw w h f=bw w h g:=by
  unfold bw row
  exact congrArg D.tup (xO fun y hy=>congrArg D.tup (xO fun x hx=>congrArg D.int (e y (List.mem_range.mp hy) x (List.mem_range.mp hx))))
theorem K5:dep (bw w h f)≤40:=by
  unfold bw
  rw[dep]
  have:=qO (c:=fun y=>row w (f y)) (n:=1) (l:=List.range h) (fun y _=>by
    unfold row
    rw[dep]
    have:=qO (c:=fun x=>D.int (f y x)) (n:=0) (l:=List.range w) (fun x _=>by simp[dep])
    omega)
  omega
end
structure oU (w h:Nat) (s:Nat→Nat):Prop where
  lt:∀y < h,s y < w
  st:∀y,y+1 < h→s (y+1)≤s y+1∧s y≤s (y+1)+1
noncomputable abbrev sm (h:Nat) (s:Nat→Nat):D:=row h fun y=>((s y:Nat):Int)
section
variable {ρ:au} {fa:au→R (List D)} {α:Type} {l:List α} {p q r:α→D} {x y z:D}
theorem adk {m:Nat} (e:fa ρ= .ok [.int 1,.int (m:Int)]) (h:m < 2 ^ 62):(fun ρ=>(fa ρ).bind Mj) ρ= .ok ((List.range (m - 1)).map fun (i:Nat)=>D.int ((i+1:Nat):Int)):=by
  show (fa ρ).bind Mj=_
  rw[e,R.bx,Mj,if_pos ⟨by omega,by omega,by omega,by omega⟩]
  unfold upto
  rw[show ((m:Int) - 1).toNat=m - 1 by omega]
  refine congrArg R.ok (xO fun i _=>?_)
  rw[show (1:Int)+(i:Int)=((i+1:Nat):Int) by omega]
theorem K6 (e:fa ρ= .ok [x,y]) (h1:dR x= .ok (l.map p)) (h2:dR y= .ok (l.map q)):(fun ρ=>(fa ρ).bind zip2) ρ= .ok (l.map fun a=> .tup [p a,q a]):=by
  show (fa ρ).bind zip2=_
  rw[e,R.bx,zip2,h1,R.bx,h2,R.bx,Rn,List.zip_map',List.map_map];rfl
theorem akQ (e:fa ρ= .ok [x,y,z]) (h1:dR x= .ok (l.map p)) (h2:dR y= .ok (l.map q)) (h3:dR z= .ok (l.map r)):(fun ρ=>(fa ρ).bind Hi) ρ= .ok (l.map fun a=> .tup [p a,q a,r a]):=by
  show (fa ρ).bind Hi=_
  rw[e,R.bx,Hi,h1,R.bx,h2,R.bx,h3,R.bx,KY,List.zip_map',List.zip_map',List.map_map];rfl
theorem ane {i j:Int} (h:i < j):ltI (.int i) (.int j)= .ok (.bl true):=by
  show R.ok (D.bl (decide (i < j)))=_
  rw[decide_eq_true h]
theorem BZ {i j:Int} (h:i=j):iT (.int i) (.int j)= .ok (.bl false):=jO (by rw[h]) (by simp[dep])
theorem adl {i j:Int}:rA (.int i) (.int j)= .ok (.bl (decide (i=j))):=by
  rw[rA,if_pos (by simp[dep])]
  show R.ok (D.bl (gH (.int i) (.int j)))=_
  by_cases h:i=j <;> simp[oE,oF,oG,oH,oJ,jg,fj,h]
theorem ahe {n d k:Nat}:HT.sIx n d (some (k:Int))=min k n:=by
  show (if (k:Int) < 0 then ((k:Int)+(n:Int)).toNat else min (k:Int).toNat n)=min k n
  rw[if_neg (by omega),Int.toNat_natCast]
theorem O7 {n d:Nat}:HT.sIx n d none=d:=rfl
theorem adn {ds:List D} {n:Nat} (h:n≤ds.length):nT ds none (some (n:Int))=ds.take n:=by
  rw[nT,ahe,O7,Nat.min_eq_left h,Nat.sub_zero];rfl
theorem ahf {ds:List D} {n:Nat} (h:n≤ds.length):nT ds (some (n:Int)) none=ds.drop n:=by
  rw[nT,ahe,O7,Nat.min_eq_left h,List.take_of_length_le (by rw[List.length_drop];exact Nat.le_refl _)]
theorem ado {f:au→R D} {fu:au→R (Option Int)} {ds:List D} {n:Nat} (e1:f ρ= .ok (.tup ds)) (e2:fu ρ= .ok (some (n:Int))) (h:n≤ds.length):rH f (fun _=> .ok none) fu ρ= .ok (.tup (ds.take n)):=by
  rw[rH,e1,R.bx,R.bx,e2,R.bx,Yp,adn h]
theorem Uu {f:au→R D} {fl:au→R (Option Int)} {ds:List D} {n:Nat} (e1:f ρ= .ok (.tup ds)) (e2:fl ρ= .ok (some (n:Int))) (h:n≤ds.length):rH f fl (fun _=> .ok none) ρ= .ok (.tup (ds.drop n)):=by
  rw[rH,e1,R.bx,e2,R.bx,R.bx,Yp,ahf h]
theorem K7 {xs ys:List D} (h:xs.length+ys.length≤1000000):eG (.tup xs) (.tup ys)= .ok (.tup (xs++ys)):=by
  rw[eG,if_pos h]
end
section
variable {w h:Nat} {g:Nat→Int} {n:Nat} {c:Int}
theorem YZ (hn:n < w):((List.range w).map fun x=>D.int (g x)).take n++((List.range w).map fun x=>D.int (g x)).drop (n+1)=(List.range (w - 1)).map fun x=>D.int (if x < n then g x else g (x+1)):=by
  refine List.ext_getElem (by simp;omega) fun i h1 h2=>?_
  rw[List.getElem_append]
  by_cases hi:i < n
  · rw[dif_pos (by simp;omega)]
    simp[hi]
  · rw[dif_neg (by simp;omega)]
    have e:n+1+(i - min n w)=i+1:=by omega
    simp[hi,e]
theorem row_more (hn:n≤w):(((List.range w).map fun x=>D.int (g x)).take n++[D.int c])++((List.range w).map fun x=>D.int (g x)).drop n=(List.range (w+1)).map fun x=>D.int (if x < n then g x else if x=n then c else g (x - 1)):=by
  refine List.ext_getElem (by simp;omega) fun i h1 h2=>?_
  rw[List.getElem_append]
  by_cases hi:i < n+1
  · rw[dif_pos (by simp;omega),List.getElem_append]
    by_cases hj:i < n
    · rw[dif_pos (by simp;omega)]
      simp[hj]
    · rw[dif_neg (by simp;omega)]
      have:i=n:=by omega
      simp[this]
  · rw[dif_neg (by simp;omega)]
    have e:n+(i - (min n w+1))=i - 1:=by omega
    have e1:¬i < n:=by omega
    have e2:¬i=n:=by omega
    simp[e,e1,e2]
end
section
variable {w h:Nat} {f:Nat→Nat→Int} {s:Nat→Nat}
theorem Uv (q:oU w h s) (oV:h≤20):mO [sm h s,.int (w:Int),.int (h:Int)]= .ok (.bl true):=by
  refine cu (aJ (bV (rE (iC (aZ (b:=true) rfl)) (aZ (aB (aW (aA rfl) rfl) rfl (BZ ?_)))) rfl)
    (aJ (bV (iC (aZ (aW (aA (cF (c:=fun y=> .int ((s y:Nat):Int)) (h:=fun _=> .bl true) (l:=List.range h) (jH rfl) (by rw[List.length_range];omega) fun y hy=>?_)) sX))) rfl)
    (bB (aW (aA (cF (c:=fun y=> .int ((y+1:Nat):Int)) (h:=fun _=> .bl true) (l:=List.range (h - 1)) (adk (aD rfl (aA rfl)) (by omega)) (by rw[List.length_range];omega) fun y hy=>?_)) sX))))
  · simp
  · have:=q.lt y (List.mem_range.mp hy)
    exact cR rfl (qe (aU (aA rfl) Aj) (Hf rfl rfl (zR (by omega)) rfl (ane (by omega))))
  · have hy:y < h - 1:=List.mem_range.mp hy
    obtain⟨h1,h2⟩:=q.st y (by omega)
    refine cR rfl (aB (aW (aA (aB (x:= .int ((s (y+1):Nat):Int)) (y:= .int ((s y:Nat):Int)) (aB rfl rfl (kj (i:=y+1) ?_)) (aB rfl (aB (x:= .int ((y+1:Nat):Int)) (y:= .int 1) rfl rfl ?_) (kj (i:=y) ?_)) rfl)) rfl) rfl (zR ?_))
    · rw[List.getElem?_map,List.getElem?_range (by omega)];rfl
    · show R.ok (D.int (((y+1:Nat):Int) - 1))=_
      rw[show ((y+1:Nat):Int) - 1=(y:Int) by omega]
    · rw[List.getElem?_map,List.getElem?_range (by omega)];rfl
    · split <;> omega
theorem aei (o:Ok w h f) (q:oU w h s):qU [sm h s,bw w h f]= .ok (.bl true):=
  cu (aJ (bA (aU (aA rfl) (size_eq o)) rfl) (bB (aU (aD rfl (aD rfl (aA rfl))) (Uv q o.h2))))
theorem Ia (o:Ok w h f) (q:oU w h s):gR [sm h s,bw w h f]= .ok .non:=
  Og (bV (iC (aZ (aU (aD rfl (aA rfl)) (aei o q)))) rfl)
theorem len0 (o:Ok w h f) {ρ:au} {u:au→R D} (e:u ρ= .ok (bw w h f)):aF cC (ao (bin u (fun _=> .ok (.int 0)) cg) (fun _=> .ok [])) ρ= .ok (.int (w:Int)):=by
  refine aW (aA (aB e rfl (kj (i:=0) (d:=row w (f 0)) ?_))) ?_
  · rw[List.getElem?_map,List.getElem?_range o.h1];rfl
  · simp[row,cC]
theorem Rw (q:oU w h s) (oV:h≤20):j5 [bw w h f,sm h s]= .ok (row h fun y=>f y (s y)):=by
  refine cu (bB (aW (aA (cF (c:=fun y=> .tup [row w (f y),.int ((s y:Nat):Int)]) (h:=fun y=> .int (f y (s y))) (l:=List.range h) (K6 (aD rfl (aA rfl)) rfl rfl) (by rw[List.length_range];omega) fun y hy=>?_)) rfl))
  refine cR rfl (aB rfl rfl (kj (i:=s y) ?_))
  rw[List.getElem?_map,List.getElem?_range (q.lt y (List.mem_range.mp hy))];rfl
noncomputable def less (s:Nat→Nat) (f:Nat→Nat→Int):Nat→Nat→Int:=fun y x=>if x < s y then f y x else f y (x+1)
noncomputable def more (s:Nat→Nat) (c:Nat→Int) (f:Nat→Nat→Int):Nat→Nat→Int:=fun y x=>if x < s y then f y x else if x=s y then c y else f y (x - 1)
theorem Du (q:oU w h s) (oV:h≤20) (w20:w≤20):jB [bw w h f,sm h s]= .ok (bw (w - 1) h (less s f)):=by
  refine cu (bB (aW (aA (cF (c:=fun y=> .tup [row w (f y),.int ((s y:Nat):Int)]) (h:=fun y=>row (w - 1) (less s f y)) (l:=List.range h) (K6 (aD rfl (aA rfl)) rfl rfl) (by rw[List.length_range];omega) fun y hy=>?_)) rfl))
  have hs:=q.lt y (List.mem_range.mp hy)
  refine cR rfl (aB (ado (n:=s y) rfl rfl (by simp;omega)) (Uu (n:=s y+1) rfl rfl (by simp;omega)) ((K7 (by simp;omega)).trans ?_))
  rw[YZ hs];rfl
theorem ama (o:Ok w h f) (q:oU w h s) (h1:1 < w):K4 [bw w h f,sm h s]= .ok (bw (w - 1) h (less s f)):=by
  refine cu (aJ (lO (aU (aD rfl (aA rfl)) (Ia o q))) (aJ (bV (aZ (aB (len0 o rfl) rfl (adl.trans ?_))) rfl) (bB (aU (aD rfl (aA rfl)) (Du q o.h2 o.w2)))))
  rw[decide_eq_false (by omega)]
theorem aaZ {c:Nat→Int} (oV:h≤20) (hc:∀y < h,0≤c y∧c y≤99):pR [row h c,.int (h:Int)]= .ok (.bl true):=by
  refine cu (bB (qe rfl (qe (aB (aW (aA rfl) rfl) rfl (adl.trans ?_)) (aW (aA (cF (c:=fun y=> .int (c y)) (h:=fun _=> .bl true) (l:=List.range h) (jH rfl) (by rw[List.length_range];omega) fun y hy=>?_)) sX))))
  · rw[decide_eq_true (by simp)]
  · obtain⟨a,b⟩:=hc y (List.mem_range.mp hy)
    exact cR rfl (aU (aA rfl) (O6 a b))
theorem Vj {c:Nat→Int} {u v:D} (q:∀y < h,s y≤w) (oV:h≤20) (w20:w≤20) (hu:dR u= .ok ((List.range h).map fun y=> .int ((s y:Nat):Int))) (hv:dR v= .ok ((List.range h).map fun y=> .int (c y))):
    lX [bw w h f,u,v]= .ok (bw (w+1) h (more s c f)):=by
  refine cu (bB (aW (aA (cF (c:=fun y=> .tup [row w (f y),.int ((s y:Nat):Int),.int (c y)]) (h:=fun y=>row (w+1) (more s c f y)) (l:=List.range h) (akQ (aD rfl (aD rfl (aA rfl))) rfl hu hv) (by rw[List.length_range];omega) fun y hy=>?_)) rfl))
  have hs:=q y (List.mem_range.mp hy)
  refine cR rfl (aB (aB (ado (n:=s y) rfl rfl (by simp;omega)) (gJ (aA rfl)) (K7 (by simp;omega))) (Uu (n:=s y) rfl rfl (by simp;omega)) ((K7 (by simp;omega)).trans ?_))
  rw[row_more hs];rfl
end
theorem qY {ρ:au} {fa:au→R (List D)} {ds:List D} {i:Nat} (e:fa ρ= .ok ds) (h:ds.length≤1000000:=by exact Nat.le_of_ble_eq_true rfl):newL fa i ρ= .nx (ρ.set i (some (.lst ds))):=by
  unfold newL
  rw[e]
  show (if _ then _ else _)=_
  rw[if_pos h]
noncomputable def pl (ps:List Nat):List D:=ps.map fun p=> .int ((p:Nat):Int)
section
variable {ns:List Int} {a:Int} {w h:Nat} {t:Option Ent}
end
section
variable {w h:Nat} {f:Nat→Nat→Int}
end
section
variable {w h:Nat} {f:Nat→Nat→Int} {s:Nat→Nat} {c:Nat→Int}
theorem Ok.less (o:Ok w h f) (h1:1 < w):Ok (w - 1) h (less s f):=by
  refine⟨by omega,by have:=o.w2;omega,o.h1,o.h2,fun y hy x hx=>?_⟩
  unfold iI.less
  split
  · exact o.c y hy x (by omega)
  · exact o.c y hy (x+1) (by omega)
theorem Ok.more (o:Ok w h f) (h1:w < 20) (q:∀y < h,s y≤w) (hc:∀y < h,0≤c y∧c y≤99):Ok (w+1) h (more s c f):=by
  refine⟨by omega,by omega,o.h1,o.h2,fun y hy x hx=>?_⟩
  have:=q y hy
  unfold iI.more
  split
  · exact o.c y hy x (by omega)
  · split
    · exact hc y hy
    · exact o.c y hy (x - 1) (by omega)
theorem akR {g:Nat→Int}:dep (row h g)≤40:=by
  unfold row
  rw[dep]
  have:=qO (c:=fun x=>D.int (g x)) (n:=0) (l:=List.range h) (fun x _=>by simp[dep])
  omega
end
end iI
namespace iI
open PySem PySem.Spec L2 Pu
noncomputable def ab (i:Int):Int:=if i < 0 then -i else i
noncomputable def gap (n:Nat) (g:Nat→Int) (x:Nat):Int:=ab (g (x - 1) - g (min (x+1) (n - 1)))
noncomputable def wor (w h:Nat) (f:Nat→Nat→Int) (y x:Nat):Int:=gap w (f y) x+gap h (fun y=>f y x) y
section
variable {n w h:Nat} {g:Nat→Int} {f:Nat→Nat→Int} {s:Nat→Nat} {ρ:au}
theorem tQ:cC [row n g]= .ok (.int (n:Int)):=by simp[row,cC]
theorem Ca:cC [bw w h f]= .ok (.int (h:Int)):=by simp[bw,cC]
theorem ajh {n:Nat} (h1:1≤n):gC (.int (n:Int)) (.int 1)= .ok (.int ((n - 1:Nat):Int)):=by
  show R.ok (D.int ((n:Int) - 1))=_
  rw[show (n:Int) - 1=((n - 1:Nat):Int) by omega]
theorem aej {x:Nat}:maxD [.int ((x:Int) - 1),.int 0]= .ok (.int ((x - 1:Nat):Int)):=by
  show R.ok (D.int (if (0:Int) > (x:Int) - 1 then 0 else (x:Int) - 1))=_
  congr 2
  split <;> omega
theorem min1 {x n:Nat}:minD [.int ((x+1:Nat):Int),.int (n:Int)]= .ok (.int ((min (x+1) n:Nat):Int)):=by
  show R.ok (D.int (if (n:Int) < ((x+1:Nat):Int) then (n:Int) else ((x+1:Nat):Int)))=_
  congr 2
  split <;> omega
theorem oW {x:Nat} (hx:x < n):cg (row n g) (.int (x:Int))= .ok (.int (g x)):=by
  refine kj (i:=x) ?_
  rw[List.getElem?_map,List.getElem?_range hx];rfl
theorem Y0 {y:Nat} (hy:y < h):cg (bw w h f) (.int (y:Int))= .ok (row w (f y)):=by
  refine kj (i:=y) ?_
  rw[List.getElem?_map,List.getElem?_range hy];rfl
theorem oX {α:Type} {p:Nat→D} {x:Nat} (hx:x < n):cg (.lst ((List.range n).map p)) (.int (x:Int))= .ok (p x):=by
  refine Yk (i:=x) ?_
  rw[List.getElem?_map,List.getElem?_range hx];rfl
theorem Rx (h1:1≤n) (oV:n≤20):qm [row n g]= .ok (.lst ((List.range n).map fun x=> .int (gap n g x))):=by
  refine cu (aJ (bA (aB (aW (aA rfl) tQ) rfl (ajh h1)) rfl) (bB (cF (c:=fun (x:Nat)=>D.int (x:Int)) (h:=fun x=> .int (gap n g x)) (l:=List.range n) (rC (aA (aW (aA rfl) tQ)) (by omega)) (by rw[List.length_range];omega) fun x hx=>?_)))
  have hx:=List.mem_range.mp hx
  exact cR rfl (aW (aA (aB (x:= .int (g (x - 1))) (y:= .int (g (min (x+1) (n - 1)))) (aB rfl (aW (aD (aB rfl rfl rfl) (aA rfl)) aej) (oW (by omega))) (aB rfl (aW (aD (x:= .int ((x+1:Nat):Int)) (aB rfl rfl rfl) (aA rfl)) min1) (oW (by omega))) rfl)) rfl)
theorem ahg (o:Ok w h f):tL [bw w h f]= .ok (bw w h (wor w h f)):=by
  have oV:=o.h2
  have w20:=o.w2
  refine cu (aJ (bA (aU (aA rfl) (size_eq o)) rfl)
    (aJ (bA (cF (c:=fun y=>row w (f y)) (h:=fun y=> .lst ((List.range w).map fun x=> .int (gap w (f y) x))) (l:=List.range h) (jH rfl) (by rw[List.length_range];omega) fun y hy=>cR rfl (aU (aA rfl) (Rx o.w1 o.w2))) rfl)
    (aJ (bA (cF (c:=fun x=>row h fun y=>f y x) (h:=fun x=> .lst ((List.range h).map fun y=> .int (gap h (fun y=>f y x) y))) (l:=List.range w) (jH (aU (aA rfl) (ahc o))) (by rw[List.length_range];omega) fun y hy=>cR rfl (aU (aA rfl) (Rx o.h1 o.h2))) rfl)
    (bB (aW (aA (cF (c:=fun (y:Nat)=>D.int (y:Int)) (h:=fun y=>row w (wor w h f y)) (l:=List.range h) (rC (aA rfl) (by omega)) (by rw[List.length_range];omega) fun y hy=>?_)) rfl)))))
  have hy:=List.mem_range.mp hy
  refine cR rfl (aW (aA (cF (c:=fun (x:Nat)=>D.int (x:Int)) (h:=fun x=> .int (wor w h f y x)) (l:=List.range w) (rC (aA rfl) (by omega)) (by rw[List.length_range];omega) fun x hx=>?_)) rfl)
  have hx:=List.mem_range.mp hx
  exact cR rfl (aB (x:= .int (gap w (f y) x)) (y:= .int (gap h (fun y=>f y x) y)) (aB (aB rfl rfl (oX (α:=D) hy)) rfl (oX (α:=D) hx)) (aB (aB rfl rfl (oX (α:=D) hx)) rfl (oX (α:=D) hy)) rfl)
noncomputable def fU (T:Nat→Int):D:= .tup [.int (T 0),.int (T 1),.int (T 2)]
noncomputable def tab (w h:Nat) (T:Nat→Nat→Nat→Int):D:= .lst ((List.range h).map fun y=> .lst ((List.range w).map fun x=>fU (T y x)))
noncomputable def Cd (w:Nat) (f:Nat→Nat→Int) (y x i:Nat):Int:=gap w (f y) x+(if i=0 then ab (f (y - 1) x - f y (x - 1)) else if i=1 then 0 else ab (f (y - 1) x - f y (min (x+1) (w - 1))))
noncomputable def akd:au→So:=(aO (bH (bin (fun ρ=>ak ρ 7) (aF Hg (ao (bin (bin (fun ρ=>ak ρ 3) (fun ρ=>ak ρ 6) cg) (bin (fun ρ=>ak ρ 2) (aF maxD (ao (bin (fun ρ=>ak ρ 6) (fun _=> .ok (.int 1)) gC) (ao (fun _=> .ok (.int 0)) (fun _=> .ok [])))) cg) gC) (fun _=> .ok []))) eG) (aL 8)) (aO (bH (bin (fun ρ=>ak ρ 7) (aF Hg (ao (bin (bin (fun ρ=>ak ρ 3) (fun ρ=>ak ρ 6) cg) (bin (fun ρ=>ak ρ 2) (aF minD (ao (bin (fun ρ=>ak ρ 6) (fun _=> .ok (.int 1)) eG) (ao (fun ρ=>ak ρ 4) (fun _=> .ok [])))) cg) gC) (fun _=> .ok []))) eG) (aL 9)) (vh 5 (jh (ao (fun ρ=>ak ρ 8) (ao (fun ρ=>ak ρ 7) (ao (fun ρ=>ak ρ 9) (fun _=> .ok []))))))))
theorem O8 {i:Nat} {u:au→R D} {d:D} {ds:List D} (e:u ρ= .ok d) (h:ρ[i]?=some (some (.lst ds))) (hl:ds.length < 1000000):vh i u ρ= .nx (ρ.set i (some (.lst (ds++[d])))):=by
  unfold vh
  rw[e]
  simp only[N7,nZ,h]
  rw[if_pos hl]
theorem aji (h1:1≤w) {y x:Nat} (hx:x < w) {e0 e1 e8 e9:Option Ent} {acc:List D} (hl:acc.length < 1000000):
    ∃ z8 z9,akd [e0,e1,vA (row w (f y)),vA (row w (f (y - 1))),vA (.int ((w - 1:Nat):Int)),some (.lst acc),vA (.int (x:Int)),vA (.int (gap w (f y) x)),e8,e9] =
      .nx [e0,e1,vA (row w (f y)),vA (row w (f (y - 1))),vA (.int ((w - 1:Nat):Int)),some (.lst (acc++[fU (Cd w f y x)])),vA (.int (x:Int)),vA (.int (gap w (f y) x)),z8,z9]:=by
  refine⟨_,_,aJ (bA (d:= .int (Cd w f y x 0)) (aB (x:= .int (gap w (f y) x)) (y:= .int (ab (f (y - 1) x - f y (x - 1)))) rfl (aW (aA (aB (x:= .int (f (y - 1) x)) (y:= .int (f y (x - 1))) (aB rfl rfl (oW hx)) (aB rfl (aW (aD (aB rfl rfl rfl) (aA rfl)) aej) (oW (by omega))) rfl)) rfl) rfl) rfl)
    (aJ (bA (d:= .int (Cd w f y x 2)) (aB (x:= .int (gap w (f y) x)) (y:= .int (ab (f (y - 1) x - f y (min (x+1) (w - 1))))) rfl (aW (aA (aB (x:= .int (f (y - 1) x)) (y:= .int (f y (min (x+1) (w - 1)))) (aB rfl rfl (oW hx)) (aB rfl (aW (aD (x:= .int ((x+1:Nat):Int)) (aB rfl rfl rfl) (aA rfl)) min1) (oW (by omega))) rfl)) rfl) rfl) rfl)
    (O8 (d:=fU (Cd w f y x)) ((gJ (aD rfl (aD rfl (aA rfl)))).trans ?_) rfl hl))⟩
  have:Cd w f y x 1=gap w (f y) x:=by simp[Cd]
  rw[fU,this]
theorem join_loop (h1:1≤w) {y:Nat} {e0 e1:Option Ent}:∀{xs:List Nat} {acc:List D} {e6 e7 e8 e9:Option Ent},(∀x∈xs,x < w)→acc.length+xs.length≤1000→
    ∃ z6 z7 z8 z9,forL (c7 (dg 2 (bf (aL 6) (bf (aL 7) nilG)))) akd (xs.map fun (x:Nat)=>D.tup [.int (x:Int),.int (gap w (f y) x)]) [e0,e1,vA (row w (f y)),vA (row w (f (y - 1))),vA (.int ((w - 1:Nat):Int)),some (.lst acc),e6,e7,e8,e9] =
      .nx [e0,e1,vA (row w (f y)),vA (row w (f (y - 1))),vA (.int ((w - 1:Nat):Int)),some (.lst (acc++xs.map fun x=>fU (Cd w f y x))),z6,z7,z8,z9]
  |[],acc,e6,e7,e8,e9,_,_=>⟨e6,e7,e8,e9,by rw[List.map_nil,List.map_nil,List.append_nil];rfl⟩
  | x::xs,acc,e6,e7,e8,e9,hx,hl=>by
    rw[List.length_cons] at hl
    obtain⟨z8,z9,e⟩:=aji (f:=f) (y:=y) h1 (hx x (by simp)) (e0:=e0) (e1:=e1) (e8:=e8) (e9:=e9) (acc:=acc) (by omega)
    obtain⟨y6,y7,y8,y9,e'⟩:=join_loop h1 (y:=y) (e0:=e0) (e1:=e1) (xs:=xs) (acc:=acc++[fU (Cd w f y x)]) (e6:=vA (.int (x:Int))) (e7:=vA (.int (gap w (f y) x))) (e8:=z8) (e9:=z9) (fun z hz=>hx z (by simp[hz])) (by simp;omega)
    refine⟨y6,y7,y8,y9,?_⟩
    rw[List.append_assoc] at e'
    rw[List.map_cons,List.map_cons]
    exact iG rfl e e'
theorem Uw {p:Nat→D}:∀{n m:Nat},rJ m ((List.range' m n).map p)=(List.range' m n).map fun (x:Nat)=>D.tup [.int (x:Int),p x]
  |0,_=>rfl
  |n+1,m=>by rw[List.range'_succ,List.map_cons,List.map_cons,rJ,Uw]
theorem Ce {fa:au→R (List D)} {x:D} {n:Nat} {p:Nat→D} (e:fa ρ= .ok [x]) (h:dR x= .ok ((List.range n).map p)):(fun ρ=>(fa ρ).bind uH) ρ= .ok ((List.range n).map fun (y:Nat)=>D.tup [.int (y:Int),p y]):=by
  show (fa ρ).bind uH=_
  rw[e,R.bx,uH,h,R.bx,List.range_eq_range',Uw]
theorem Vk (o:Ok w h f) {y:Nat} (hy:y < h):lV [bw w h f,.int (y:Int)]= .ok (.lst ((List.range w).map fun x=>fU (Cd w f y x))):=by
  have w20:=o.w2
  obtain⟨z6,z7,z8,z9,e⟩:=join_loop (f:=f) (y:=y) o.w1 (e0:=vA (bw w h f)) (e1:=vA (.int (y:Int))) (xs:=List.range w) (acc:=[]) (e6:=none) (e7:=none) (e8:=none) (e9:=none) (fun x hx=>List.mem_range.mp hx) (by rw[List.length_range,List.length_nil];omega)
  exact cu (aJ (bA (aB rfl rfl (Y0 hy)) rfl) (aJ (bA (aB rfl (aW (aD (aB rfl rfl rfl) (aA rfl)) aej) (Y0 (by omega))) rfl) (aJ (bA (aB (aW (aA rfl) tQ) rfl (ajh o.w1)) rfl) (aJ (qY rfl)
    (aJ (oK (Ce (aA (aU (aA rfl) (Rx o.w1 o.w2))) rfl) e) (bB (d:= .lst ((List.range w).map fun x=>fU (Cd w f y x))) rfl))))))
theorem adp {a b:Str}:rA (.str a) (.str b)= .ok (.bl (a ==b)):=by
  rw[rA,if_pos (by simp[dep])]
  show R.ok (D.bl (gH (.str a) (.str b)))=_
  simp[oE,oF,oG,oH,oJ,jg,fj]
noncomputable def wo3 (w h:Nat) (f:Nat→Nat→Int) (y x i:Nat):Int:=wor w h f y x
theorem adq (o:Ok w h f):iU [bw w h f,.str "worth"]= .ok (tab w h (wo3 w h f)):=by
  have oV:=o.h2
  have w20:=o.w2
  exact cu (nH (jP (aZ (b:=true) (aB rfl rfl adp)) (bB (cF (c:=fun y=>row w (wor w h f y)) (h:=fun y=> .lst ((List.range w).map fun x=>fU (wo3 w h f y x))) (l:=List.range h) (jH (aU (aA rfl) (ahg o))) (by rw[List.length_range];omega) fun y hy=>
    cR rfl (cF (c:=fun x=> .int (wor w h f y x)) (h:=fun x=>fU (wo3 w h f y x)) (l:=List.range w) (jH rfl) (by rw[List.length_range];omega) fun x hx=>cR rfl (gJ (aD rfl (aD rfl (aA rfl)))))))))
theorem adt (o:Ok w h f):iU [bw w h f,.str "joins"]= .ok (tab w h (Cd w f)):=by
  have oV:=o.h2
  exact cu (aJ (bV (aZ (b:=false) (aB rfl rfl adp)) rfl) (bB (cF (c:=fun (y:Nat)=>D.int (y:Int)) (h:=fun y=> .lst ((List.range w).map fun x=>fU (Cd w f y x))) (l:=List.range h) (rC (aA (aW (aA rfl) Ca)) (by omega)) (by rw[List.length_range];omega) fun y hy=>
    cR rfl (aU (aD rfl (aA rfl)) (Vk o (List.mem_range.mp hy))))))
noncomputable def fare (T:Nat→Nat→Nat→Int) (s:Nat→Nat) (y:Nat):Int:=T y (s y) (s (y - 1)+1 - s y)
noncomputable def cost (h:Nat) (T:Nat→Nat→Nat→Int) (s:Nat→Nat):Int:=T 0 (s 0) 1+((List.range (h - 1)).map fun y=>fare T s (y+1)).sum
theorem wB {T:Nat→Int} {p:Nat→D} {a b:Nat} (hb:b < w) (h1:b≤a+1) (h2:a≤b+1) (hp:p b=fU T):dF [.lst ((List.range w).map p),.int (a:Int),.int (b:Int)]= .ok (.int (T (a+1 - b))):=by
  refine cu (bB (aB (x:=fU T) (y:= .int ((a+1 - b:Nat):Int)) (aB rfl rfl ((oX (α:=D) hb).trans (congrArg R.ok hp))) (aB (aB rfl rfl rfl) rfl ?_) (kj (i:=a+1 - b) ?_)))
  · show R.ok (D.int ((a:Int) - (b:Int)+1))=_
    rw[show (a:Int) - (b:Int)+1=((a+1 - b:Nat):Int) by omega]
  · have:a+1 - b=0∨a+1 - b=1∨a+1 - b=2:=by omega
    rcases this with e |e |e <;> rw[e] <;> rfl
noncomputable def anf:au→So:=(Mt 2 (aF (aP dF 3) (ao (bin (fun ρ=>ak ρ 0) (fun ρ=>ak ρ 3) cg) (ao (bin (fun ρ=>ak ρ 1) (bin (fun ρ=>ak ρ 3) (fun _=> .ok (.int 1)) gC) cg) (ao (bin (fun ρ=>ak ρ 1) (fun ρ=>ak ρ 3) cg) (fun _=> .ok []))))))
theorem ahh {i:Nat} {u:au→R D} {a b:Int} (h:ρ[i]?=some (some (.val (.int a)))) (e:u ρ= .ok (.int b)):Mt i u ρ= .nx (ρ.set i (some (.val (.int (a+b))))):=by
  unfold Mt
  simp only[h]
  rw[e];rfl
theorem Ux {T:Nat→Nat→Nat→Int} (q:oU w h s):∀{ys:List Nat} {acc:Int} {e3:Option Ent},(∀y∈ys,y+1 < h)→
    ∃z3,forL (aL 3) anf (ys.map fun (y:Nat)=>D.int ((y+1:Nat):Int)) [vA (tab w h T),vA (sm h s),vA (.int acc),e3]= .nx [vA (tab w h T),vA (sm h s),vA (.int (acc+(ys.map fun y=>fare T s (y+1)).sum)),z3]
  |[],acc,e3,_=>⟨e3,by simp[forL]⟩
  | y::ys,acc,e3,hy=>by
    obtain⟨z3,e⟩:=Ux (T:=T) q (ys:=ys) (acc:=acc+fare T s (y+1)) (e3:=vA (.int ((y+1:Nat):Int))) fun z hz=>hy z (by simp[hz])
    have h1:=hy y (by simp)
    obtain⟨k1,k2⟩:=q.st y h1
    refine⟨z3,?_⟩
    rw[List.map_cons,List.map_cons,List.sum_cons,←Int.add_assoc]
    refine iG rfl (ahh rfl (aU (aD (aB rfl rfl (oX (α:=D) h1)) (aD (aB rfl (aB (x:= .int ((y+1:Nat):Int)) rfl rfl (ajh (by omega))) (oW (x:=y+1 - 1) (by omega))) (aA (aB rfl rfl (oW h1))))) (wB (T:=T (y+1) (s (y+1))) (a:=s y) (q.lt _ h1) k1 k2 rfl))) e
theorem aa0 {T:Nat→Nat→Nat→Int} (h1:1≤h) (oV:h≤20) (q:oU w h s):pL [tab w h T,sm h s]= .ok (.int (cost h T s)):=by
  obtain⟨z3,e⟩:=Ux (T:=T) q (ys:=List.range (h - 1)) (acc:=T 0 (s 0) 1) (e3:=none) fun y hy=>by have:=List.mem_range.mp hy;omega
  have e0:dF [.lst ((List.range w).map fun x=>fU (T 0 x)),.int ((s 0:Nat):Int),.int ((s 0:Nat):Int)]= .ok (.int (T 0 (s 0) 1)):=by
    have:=wB (T:=T 0 (s 0)) (p:=fun x=>fU (T 0 x)) (a:=s 0) (q.lt 0 h1) (by omega) (by omega) rfl
    rwa [show s 0+1 - s 0=1 by omega] at this
  exact cu (aJ (bA (aU (aD (aB rfl rfl (oX (α:=D) (x:=0) h1)) (aD (aB rfl rfl (oW (x:=0) h1)) (aA (aB rfl rfl (oW (x:=0) h1))))) e0) rfl) (aJ (oK (adk (aD rfl (aA (aW (aA rfl) tQ))) (by omega)) e) (bB (d:= .int (cost h T s)) rfl)))
theorem tR {m:Str} (hm:m= "worth"∨m= "joins"):cZ [.str m]= .ok .non:=by
  rcases hm with rfl |rfl
  · exact Og (bV (aZ (b:=false) (aB rfl rfl (by simp[Hh,ad3,gQ,oE,oF,oG,oH,oJ,jg,fj]))) rfl)
  · exact Og (bV (aZ (b:=false) (aB rfl rfl (by simp[Hh,ad3,gQ,oE,oF,oG,oH,oJ,jg,fj]))) rfl)
noncomputable def tbl (m:Str) (w h:Nat) (f:Nat→Nat→Int):Nat→Nat→Nat→Int:=if m= "worth" then wo3 w h f else Cd w f
theorem aek {m:Str} (hm:m= "worth"∨m= "joins") (o:Ok w h f) (q:oU w h s):uU [bw w h f,sm h s,.str m]= .ok (.int (cost h (tbl m w h f) s)):=by
  refine cu (aJ (lO (aU (aA rfl) (BX o))) (aJ (lO (aU (aA rfl) (tR hm))) (aJ (lO (aU (aD rfl (aA rfl)) (Ia o q))) (bB (aU (aD (x:=tab w h (tbl m w h f)) (aU (aD rfl (aA rfl)) ?_) (aA rfl)) (aa0 o.h1 o.h2 q))))))
  rcases hm with rfl |rfl
  · exact adq o
  · exact adt o
end
section
variable {n w h:Nat} {g:Nat→Int} {f:Nat→Nat→Int} {s:Nat→Nat} {c:Int} {m:Str} {ρ:au}
theorem lD {F:List D→R D} {n j:Nat} {sel:List (Sum Nat D)} {fa fk:au→R (List D)} {ds zs:List D} {d:D} (e1:fa ρ= .ok ds) (e2:fk ρ= .ok zs) (e3:F (ds++pickK .non sel zs)= .ok d) (hl:(ds++pickK .non sel zs).length=n:=by rfl) (hj:zs.length=j:=by rfl):mK F n j sel fa fk ρ= .ok d:=by
  rw[mK,e1,R.bx,e2,R.bx,if_pos hj,aP,if_pos hl,e3];rfl
theorem akS {c:au→R Bool} {f g:au→R D} {r:R D} (e:c ρ= .ok true) (h:f ρ=r):X5 c f g ρ=r:=by rw[X5,e,R.bx,if_pos rfl,h]
theorem akT {c:au→R Bool} {f g:au→R D} {r:R D} (e:c ρ= .ok false) (h:g ρ=r):X5 c f g ρ=r:=by rw[X5,e,R.bx,if_neg (by decide),h]
theorem ang {i j:Int}:iT (.int i) (.int j)= .ok (.bl (!decide (i=j))):=by
  rw[iT,if_pos (by simp[dep])]
  show R.ok (D.bl (!gH (.int i) (.int j)))=_
  by_cases h:i=j <;> simp[oE,oF,oG,oH,oJ,jg,fj,h]
end
end iI
namespace iI
open PySem PySem.Spec L2 Pu
noncomputable abbrev Wy:=Int×Int×List Int
noncomputable def fl (t:Wy):List Int:=t.1::t.2.1::t.2.2
noncomputable def un (l:List Int):Wy:=(l.getD 0 0,l.getD 1 0,l.drop 2)
theorem ael (t:Wy):un (fl t)=t:=rfl
theorem ahi {a b:Wy} (h:fl a=fl b):a=b:=by have:=congrArg un h;simpa[ael] using this
noncomputable def iV (t:Wy):D:= .tup [.int t.1,.int t.2.1,.tup (t.2.2.map .int)]
theorem M4 (t:Wy):iV t=lJ (fl t):=rfl
noncomputable def cW (l:List Wy):D:= .lst (l.map iV)
section
variable {n w h:Nat} {g:Nat→Int} {f:Nat→Nat→Int} {ρ:au}
theorem adu {i:Nat} {u:au→R D} {ds es:List D} (h:ρ[i]?=some (some (.lst ds))) (e:u ρ= .ok (.lst es)) (hl:ds.length+es.length≤1000000):Mw i u ρ= .nx (ρ.set i (some (.lst (ds++es)))):=by
  unfold Mw
  simp only[h,e,N7,nZ]
  rw[if_pos hl]
theorem akU {i k:Nat} {ds es:List D} (h:ρ[i]?=some (some (.lst ds))) (h2:ρ[k]?=some (some (.lst es))) (hl:ds.length < 1000000):YF i k ρ= .nx ((ρ.set i (some (.lst (ds++[.lst es])))).set k (some (.val (.lst es)))):=by
  unfold YF
  simp only[h,h2]
  rw[if_pos hl]
theorem Y4 {i a:Nat} {G:List D→R D} {n:Nat} {fa:au→R (List D)} {ds:List D} {d:D} (h:ρ[i]?=some (some (.obj (.fn a)))) (e:fa ρ= .ok ds) (e2:G ds= .ok d) (hl:ds.length=n:=by rfl):K1 i a G n fa ρ= .ok d:=by
  unfold K1
  simp only[h,e,if_true,R.bx,aP,hl,e2]
  rfl
theorem amb {i:Nat} {u:au→R D} {ds:List D} {k:Int} {d:D} (h:ρ[i]?=some (some (.lst ds))) (e:u ρ= .ok (.int k)) (e2:cg (.lst ds) (.int k)= .ok d):ixO i u ρ= .ok d:=by
  unfold ixO
  simp only[h,e,R.bx,e2]
theorem K8 {u:au→R D} {ds:List D} (e:u ρ= .ok (.lst ds)):YQ u ρ= .ok (!ds.isEmpty):=by unfold YQ;rw[e];rfl
theorem iJ {m:Nat} {s:au→So} {es:List Ent} {d:D} (e:s (es.map some++List.replicate m none)= .rt d):ji m s es= .ok d:=by rw[ji,e]
noncomputable def nr (w x:Nat):List Nat:=List.range' (x - 1) (min (x+2) w - (x - 1))
theorem O9 {x p:Nat} (hx:x < w):p∈nr w x↔p < w∧p≤x+1∧x≤p+1:=by
  unfold nr
  rw[List.mem_range'_1,Nat.add_sub_cancel' (Nat.le_min.mpr ⟨Nat.le_trans (Nat.sub_le x 1) (Nat.le_add_right x 2),Nat.le_trans (Nat.sub_le x 1) (Nat.le_of_lt hx)⟩),Nat.lt_min]
  exact⟨fun h=>⟨h.2.2,Nat.le_of_lt_succ h.2.1,Nat.le_add_of_sub_le h.1⟩,fun h=>⟨Nat.sub_le_of_le_add h.2.2,Nat.lt_succ_of_le h.2.1,h.1⟩⟩
theorem ahj {x:Nat}:(nr w x).length≤3:=by unfold nr;rw[List.length_range'];omega
theorem akV {x:Nat} (hx:x < w) (hw:w≤20):BR [.int (x:Int),.int (w:Int)]= .ok (.lst ((nr w x).map fun (p:Nat)=>D.int (p:Int))):=by
  have e2:minD [.int ((x+2:Nat):Int),.int (w:Int)]= .ok (.int ((min (x+2) w:Nat):Int)):=by
    show R.ok (D.int (if (w:Int) < ((x+2:Nat):Int) then (w:Int) else ((x+2:Nat):Int)))=_
    congr 2
    by_cases hz:w < x+2
    · rw[if_pos (Int.ofNat_lt.mpr hz),Nat.min_eq_right (Nat.le_of_lt hz)]
    · rw[if_neg (fun q=>hz (Int.ofNat_lt.mp q)),Nat.min_eq_left (Nat.le_of_not_lt hz)]
  refine cu (bB (aW (aD (x:= .int ((x - 1:Nat):Int)) (aW (aD (aB rfl rfl rfl) (aA rfl)) aej) (aA (x:= .int ((min (x+2) w:Nat):Int)) (aW (aD (x:= .int ((x+2:Nat):Int)) (aB rfl rfl rfl) (aA rfl)) e2))) ?_))
  show (if _ then _ else _)=_
  have b1:x - 1≤1000:=Nat.le_trans (Nat.sub_le x 1) (Nat.le_trans (Nat.le_of_lt hx) (Nat.le_trans hw (by decide)))
  have b2:min (x+2) w≤1000:=Nat.le_trans (Nat.min_le_right _ _) (Nat.le_trans hw (by decide))
  rw[if_pos ⟨Int.le_trans (by decide) (Int.natCast_nonneg _),Int.ofNat_le.mpr b1,Int.le_trans (by decide) (Int.natCast_nonneg _),Int.ofNat_le.mpr b2⟩]
  congr 2
  unfold upto nr
  rw[Int.toNat_sub,List.range'_eq_map_range,List.map_map]
  refine List.map_congr_left fun i _=>?_
  simp
noncomputable def iK (c:Int) (t:Wy):Wy:=(t.1,t.2.1+c,t.2.2)
noncomputable def cands (w:Nat) (C:Nat→List Wy) (T:Nat→Nat→Int) (x:Nat):List Wy:=(nr w x).flatMap fun p=>(C p).map (iK (T p (x+1 - p)))
variable {C:Nat→List Wy} {T:Nat→Nat→Int}
theorem amc {x p:Nat} (hx:x < w) (hp:p∈nr w x) (hC:(C p).length≤1) {e5:Option Ent} {acc:List D} (hl:acc.length≤1000):
    onB [vA (.lst ((List.range w).map fun x=>cW (C x))),vA (.lst ((List.range w).map fun x=>fU (T x))),vA (.int (x:Int)),some (.lst acc),vA (.int (p:Int)),e5] =
      .nx [vA (.lst ((List.range w).map fun x=>cW (C x))),vA (.lst ((List.range w).map fun x=>fU (T x))),vA (.int (x:Int)),some (.lst (acc++((C p).map (iK (T p (x+1 - p)))).map iV)),vA (.int (p:Int)),vA (.int (T p (x+1 - p)))]:=by
  obtain⟨h1,h2,h3⟩:=(O9 hx).mp hp
  refine aJ (bA (aU (aD rfl (aD rfl (aA rfl))) (wB (T:=T p) (p:=fun x=>fU (T x)) h1 (by omega) (by omega) rfl)) rfl) ?_
  refine adu (ds:=acc) rfl (cF (c:=iV) (h:=fun t=>iV (iK (T p (x+1 - p)) t)) (l:=C p) (qP (aB rfl rfl (oX (α:=D) h1))) (by omega) fun t ht=>?_) (by simp;omega) |>.trans ?_
  · exact cR rfl (gJ (aD rfl (aD (x:= .int (t.2.1+T p (x+1 - p))) (aB rfl rfl rfl) (aA rfl))))
  · rw[List.map_map];rfl
theorem adv {x:Nat} (hx:x < w) (hC:∀p < w,(C p).length≤1):∀{ps:List Nat} {acc:List D} {e4 e5:Option Ent},(∀p∈ps,p∈nr w x)→acc.length+ps.length≤1000→
    ∃ z4 z5,forL (aL 4) onB (ps.map fun (p:Nat)=>D.int (p:Int)) [vA (.lst ((List.range w).map fun x=>cW (C x))),vA (.lst ((List.range w).map fun x=>fU (T x))),vA (.int (x:Int)),some (.lst acc),e4,e5] =
      .nx [vA (.lst ((List.range w).map fun x=>cW (C x))),vA (.lst ((List.range w).map fun x=>fU (T x))),vA (.int (x:Int)),some (.lst (acc++(ps.flatMap fun p=>(C p).map (iK (T p (x+1 - p)))).map iV)),z4,z5]
  |[],acc,e4,e5,_,_=>⟨e4,e5,by simp[forL]⟩
  | p::ps,acc,e4,e5,hp,hl=>by
    rw[List.length_cons] at hl
    have hpn:=hp p (by simp)
    have hpw:=((O9 hx).mp hpn).1
    have hc:=hC p hpw
    obtain⟨z4,z5,e⟩:=adv hx hC (ps:=ps) (acc:=acc++((C p).map (iK (T p (x+1 - p)))).map iV) (e4:=vA (.int (p:Int))) (e5:=vA (.int (T p (x+1 - p)))) (fun q hq=>hp q (by simp[hq])) (by simp;omega)
    refine⟨z4,z5,iG rfl (amc hx hpn hc (by omega)) (e.trans ?_)⟩
    rw[List.flatMap_cons,List.map_append,List.append_assoc]
theorem ahk {x:Nat} (hx:x < w) (hw:w≤20) (hC:∀p < w,(C p).length≤1):tO [.lst ((List.range w).map fun x=>cW (C x)),.lst ((List.range w).map fun x=>fU (T x)),.int (x:Int)]= .ok (.lst ((cands w C T x).map iV)):=by
  obtain⟨z4,z5,e⟩:=adv (T:=T) hx hC (ps:=nr w x) (acc:=[]) (e4:=none) (e5:=none) (fun p hp=>hp) (by have:=ahj (w:=w) (x:=x);simp;omega)
  have hlen:cC [.lst ((List.range w).map fun x=>cW (C x))]= .ok (.int (w:Int)):=by simp[cC]
  refine cu (aJ (qY rfl) (aJ (oK (qP (aU (aD rfl (aA (aW (aA rfl) hlen))) (akV hx hw))) e) (bB rfl)))
end
end iI
namespace iI
open PySem PySem.Spec L2 Pu
section
variable {n w h:Nat} {g:Nat→Int} {f:Nat→Nat→Int} {ρ:au}
theorem K9 {i j:Int}:rA (.int i) (.int j)= .ok (.bl (decide (i=j))):=by
  rw[rA,if_pos (by simp[dep])]
  show R.ok (D.bl (gH (.int i) (.int j)))=_
  by_cases h:i=j <;> simp[oE,oF,oG,oH,oJ,jg,fj,h]
noncomputable def cI (cs:List Wy):List Wy:=((oN (cs.map fl)).take 1).map un
noncomputable def pre (x:Nat) (t:Wy):Wy:=(t.1,t.2.1,(x:Int)::t.2.2)
theorem Dv:∀cs:List Wy,tu (cs.map iV)=some (cs.map fl)
  |[]=>rfl
  | t::cs=>by
    rw[List.map_cons,tu,Dv cs,M4,show BP (lJ (fl t))=some (fl t) from YL]
    rfl
theorem Y5 {cs:List Wy}:∀l∈oN (cs.map fl),fl (un l)=l:=fun l hl=>by
  obtain⟨t,_,rfl⟩:=List.mem_map.mp ((mC _).mem_iff.mp hl)
  rw[ael]
theorem Dw {cs:List Wy}:∀t∈cI cs,t∈cs:=fun t ht=>by
  obtain⟨l,hl,rfl⟩:=List.mem_map.mp ht
  have hl:=List.mem_of_mem_take hl
  obtain⟨t,h1,rfl⟩:=List.mem_map.mp ((mC _).mem_iff.mp hl)
  rw[ael];exact h1
theorem wC {cs:List Wy}:(cI cs).length≤1:=by unfold cI;simp;omega
theorem Gp {cs:List Wy} {x:Nat} (hl:cs.length < 64) (hn:(cs.map fl).Nodup) (hp:∀t∈cs,t.2.2.length≤100):eU 1 [.int (x:Int),.lst (cs.map iV)]= .ok (cW ((cI cs).map (pre x))):=by
  have e1:rM [.lst (cs.map iV)]= .ok (.lst ((oN (cs.map fl)).map lJ)):=by
    rw[rM,Dv]
    show (if _ then _ else _)=_
    rw[if_pos ⟨by simpa using hl,hn⟩]
  have e2:nT ((oN (cs.map fl)).map lJ) none (some 1)=(cI cs).map iV:=by
    have e3:∀{n d:Nat},HT.sIx n d (some 1)=min 1 n:=fun {n d}=>by
      show (if (1:Int) < 0 then ((1:Int)+(n:Int)).toNat else min (1:Int).toNat n)=min 1 n
      rw[if_neg (by decide)];rfl
    rw[nT,e3,O7,Nat.sub_zero,List.drop_zero,←List.map_take]
    have e4:∀l:List (List Int),l.take (min 1 (l.map lJ).length)=l.take 1:=fun l=>by cases l <;> simp
    rw[e4]
    unfold cI
    rw[List.map_map]
    refine List.map_congr_left fun l hl=>?_
    show lJ l=iV (un l)
    rw[M4,Y5 l (List.mem_of_mem_take hl)]
  have e5:cW ((cI cs).map (pre x))= .lst ((cI cs).map fun t=>iV (pre x t)):=by unfold cW;rw[List.map_map];rfl
  rw[e5]
  refine iJ (bB (cF (c:=iV) (h:=fun t=>iV (pre x t)) (l:=cI cs) (qP (ds:=(cI cs).map iV) ?_) (by have:=wC (cs:=cs);omega) fun t ht=>?_))
  · show qR _ _ _ _=_
    unfold qR
    rw[aW (aA rfl) e1]
    show R.ok (D.lst (nT _ none (some 1)))=_
    rw[e2]
  · refine cR rfl (gJ (aD rfl (aD rfl (aA (x:= .tup ((((x:Int)::t.2.2)).map .int)) (aB (gJ (aA rfl)) rfl ?_)))))
    have:=hp t (Dw t ht)
    exact K7 (xs:=[.int (x:Int)]) (ys:=t.2.2.map .int) (by simp;omega)
end
end iI
namespace iI
open PySem PySem.Spec L2 Pu
noncomputable def gG (m:Int):Int:=if m=2 then 1 else 0
noncomputable def sb (c:Int) (t:Wy):Wy:=(t.1 - c,t.2.1,t.2.2)
noncomputable def oY (x:Nat) (m:Int) (cs:List Wy):List Wy:=if m=1 then [] else ((cI cs).map (pre x)).map (sb (gG m))
section
variable {w h a y:Nat} {T:Nat→Nat→Nat→Int} {M:Nat→Nat→Int} {ρ:au}
theorem ajj {l:List Wy} (hl:l.length≤1) {m:Int} {e0 e1 e2 e3 e4 e5 e7 e10:Option Ent} {acc:List D} (ha:acc.length≤1000):
    akc [e0,e1,e2,e3,e4,e5,some (.lst acc),e7,vA (.int m),vA (cW l),e10]= .nx [e0,e1,e2,e3,e4,e5,some (.lst (acc++[cW (l.map (sb (gG m)))])),e7,vA (.int m),vA (cW l),vA (.int (gG m))]:=by
  have e:(X5 (bZ (bin (fun ρ=>ak ρ 8) (fun _=> .ok (.int 2)) rA)) (fun _=> .ok (.int 1)) (fun _=> .ok (.int 0))) [e0,e1,e2,e3,e4,e5,some (.lst acc),e7,vA (.int m),vA (cW l),e10]= .ok (.int (gG m)):=by
    unfold gG
    by_cases hm:m=2
    · rw[if_pos hm];exact akS (aZ (aB rfl rfl (by rw[K9,decide_eq_true hm]))) rfl
    · rw[if_neg hm];exact akT (aZ (aB rfl rfl (by rw[K9,decide_eq_false hm]))) rfl
  refine aJ (bA e rfl) ?_
  have e2:cW (l.map (sb (gG m)))= .lst (l.map fun t=>iV (sb (gG m) t)):=by unfold cW;rw[List.map_map];rfl
  rw[e2]
  refine O8 (ds:=acc) (cF (c:=iV) (h:=fun t=>iV (sb (gG m) t)) (l:=l) (qP rfl) (by omega) fun t ht=>?_) rfl (by omega)
  exact cR rfl (gJ (aD (x:= .int (t.1 - gG m)) (aB rfl rfl rfl) (aD rfl (aA rfl))))
inductive Ben (w:Nat) (T:Nat→Nat→Nat→Int) (y:Nat):List D→(Nat→List Wy)→Prop
  |last:Ben w T y [] fun _=>[(0,0,[])]
  |more (rs:List D) (C:Nat→List Wy):(∀p < w,(C p).length≤1)→Ben w T y (rs++[.lst ((List.range w).map fun x=>cW (C x))]) (cands w C (T (y+1)))
theorem ajk {rows:List D} {cs:Nat→List Wy} (B:Ben w T y rows cs) (hy:rows≠[]→y+1 < h) {x:Nat} (hx:x < w) (hw:w≤20) (hl:(cs x).length < 64) (hn:((cs x).map fl).Nodup) (hp:∀t∈cs x,t.2.2.length≤100) {m:Int} {e1 e6 e9 e10:Option Ent}:
    akb a (eU 1) [vA (tab w h T),e1,vA (.tup []),some (.obj (.fn a)),some (.lst rows),vA (.int (y:Int)),e6,vA (.int (x:Int)),vA (.int m),e9,e10] =
      .nx [vA (tab w h T),e1,vA (.tup []),some (.obj (.fn a)),some (.lst rows),vA (.int (y:Int)),e6,vA (.int (x:Int)),vA (.int m),vA (cW (if m=1 then [] else (cI (cs x)).map (pre x))),e10]:=by
  have th:∀(u:Option Ent),ad0 (vA (.int m))=vA (.int m):=fun _=>rfl
  by_cases hm:m=1
  · rw[if_pos hm]
    exact jP (aZ (aB rfl rfl (by rw[K9,decide_eq_true hm]))) (bA (kh rfl) rfl)
  · rw [if_neg hm]
    refine bV (aZ (aB rfl rfl (by rw[K9,decide_eq_false hm]))) ?_
    cases B with
    | last=>
      refine jP (iC (K8 (ds:=[]) rfl)) (bA (Y4 rfl (aD rfl (aA (kh (aA (gJ (aD rfl (aD rfl (aA rfl)))))))) (Gp (cs:=[(0,0,[])]) hl hn hp)) rfl)
    | more rs C hC=>
      have hy:=hy (by simp)
      refine bV (iC (K8 (ds:=rs++[.lst ((List.range w).map fun x=>cW (C x))]) rfl) |>.trans (by simp)) (bA (Y4 rfl (aD rfl (aA (aU (aD (x:= .lst ((List.range w).map fun x=>cW (C x))) (amb rfl (k:= -1) rfl ?_) (aD (aB rfl (aB (x:= .int (y:Int)) (y:= .int 1) (r:= .ok (.int ((y+1:Nat):Int))) rfl rfl rfl) (oX (α:=D) hy)) (aA rfl))) (ahk (C:=C) (T:=T (y+1)) hx hw hC)))) (Gp hl hn hp)) rfl)
      rw[cg]
      have:L2.atI (rs++[D.lst ((List.range w).map fun x=>cW (C x))]) (-1)=some (.lst ((List.range w).map fun x=>cW (C x))):=by
        unfold L2.atI ixN
        rw[if_neg (by decide),if_pos (by simp;omega)]
        simp only[List.length_append,List.length_singleton,Option.bind_some]
        rw[show ((-1:Int)+((rs.length+1:Nat):Int)).toNat=rs.length by omega,List.getElem?_append_right (Nat.le_refl _)]
        simp
      rw[this]
end
end iI
namespace iI
open PySem PySem.Spec L2 Pu
noncomputable def sG (w h:Nat) (T:Nat→Nat→Nat→Int) (M:Nat→Nat→Int):Nat→Nat→List Wy
  |0,_=>[(0,0,[])]
  |k+1,x=>cands w (fun p=>oY p (M (h - 1 - k) p) (sG w h T M k p)) (T (h - 1 - k)) x
noncomputable def sH (w h:Nat) (T:Nat→Nat→Nat→Int) (M:Nat→Nat→Int) (k x:Nat):List Wy:=oY x (M (h - 1 - k) x) (sG w h T M k x)
section
variable {w h a:Nat} {T:Nat→Nat→Nat→Int} {M:Nat→Nat→Int} {ρ:au}
theorem tU {k x:Nat}:sG w h T M (k+1) x=cands w (sH w h T M k) (T (h - 1 - k)) x:=rfl
theorem tV {x:Nat} {m:Int} {cs:List Wy}:(oY x m cs).length≤1:=by
  unfold oY
  split
  · simp
  · have:=wC (cs:=cs);simpa using this
theorem qK {x:Nat} {m:Int} {cs:List Wy} {t:Wy} (h:t∈oY x m cs):∃u∈cs,t=sb (gG m) (pre x u):=by
  unfold oY at h
  split at h
  · simp at h
  · rw[List.map_map] at h
    obtain⟨u,hu,rfl⟩:=List.mem_map.mp h
    exact⟨u,Dw u hu,rfl⟩
theorem M5 {α β:Type} {F:α→List β}:∀{l:List α},(∀a∈l,(F a).length≤1)→(l.flatMap F).length≤l.length
  |[],_=>by simp
  | a::l,h=>by
    rw[List.flatMap_cons,List.length_append,List.length_cons]
    have h1:=h a (by simp)
    have h2:=M5 (l:=l) fun b hb=>h b (by simp[hb])
    omega
theorem akW:∀{k x:Nat},(sG w h T M k x).length < 64
  |0,_=>by simp[sG]
  | k+1,x=>by
    rw[tU]
    unfold cands
    have:=M5 (F:=fun p=>(sH w h T M k p).map (iK (T (h - 1 - k) p (x+1 - p)))) (l:=nr w x) fun p _=>by rw[List.length_map];exact tV
    have h2:=ahj (w:=w) (x:=x)
    omega
theorem ahl:∀{k x:Nat},∀t∈sG w h T M k x,t.2.2.length=k
  |0,_,t,ht=>by simp[sG] at ht;subst ht;rfl
  | k+1,x,t,ht=>by
    rw[tU] at ht
    obtain⟨p,_,hp⟩:=List.mem_flatMap.mp ht
    obtain⟨u,hu,rfl⟩:=List.mem_map.mp hp
    obtain⟨v,hv,rfl⟩:=qK hu
    show (((p:Nat):Int)::v.2.2).length=k+1
    rw[List.length_cons,ahl v hv]
theorem Y6:∀{k x:Nat},((sG w h T M k x).map fl).Nodup
  |0,_=>by simp[sG]
  | k +1,x=>by
    rw[tU]
    unfold cands List.Nodup
    rw[List.pairwise_map,List.pairwise_flatMap]
    refine⟨fun p _=>?_,?_⟩
    · have hl:((sH w h T M k p).map (iK (T (h - 1 - k) p (x+1 - p)))).length≤1:=by rw[List.length_map];exact tV
      match (sH w h T M k p).map (iK (T (h - 1 - k) p (x+1 - p))),hl with
      |[],_=>exact .nil
      |[_],_=>simp
      |_::_::_,hl=>simp at hl
    · have nd:(nr w x).Nodup:=List.nodup_range'
      refine nd.imp fun {p q} hpq t ht u hu z=>?_
      obtain⟨t',ht',rfl⟩:=List.mem_map.mp ht
      obtain⟨u',hu',rfl⟩:=List.mem_map.mp hu
      obtain⟨t2,_,rfl⟩:=qK ht'
      obtain⟨u2,_,rfl⟩:=qK hu'
      have:=ahi z
      have h2:((p:Nat):Int)::t2.2.2=((q:Nat):Int)::u2.2.2:=congrArg (fun t:Wy=>t.2.2) this
      have h3:((p:Nat):Int)=((q:Nat):Int):=(List.cons.inj h2).1
      exact hpq (by omega)
noncomputable def Ak (w h:Nat) (T:Nat→Nat→Nat→Int) (M:Nat→Nat→Int) (k:Nat):D:= .lst ((List.range w).map fun x=>cW (sH w h T M k x))
theorem adw {y:Nat} {rows:List D} {cs:Nat→List Wy} (B:Ben w T y rows cs) (hy:rows≠[]→y+1 < h) (hw:w≤20) (hl:∀x,(cs x).length < 64) (hn:∀x,((cs x).map fl).Nodup) (hp:∀x,∀t∈cs x,t.2.2.length≤100) {e1:Option Ent}:∀{xs:List Nat} {acc:List D} {e7 e8 e9 e10:Option Ent},(∀x∈xs,x < w)→acc.length+xs.length≤1000→
    ∃ z7 z8 z9 mF,forL (c7 (dg 2 (bf (aL 7) (bf (aL 8) nilG)))) (inW a (eU 1)) (xs.map fun (x:Nat)=>D.tup [.int (x:Int),.int (M y x)]) [vA (tab w h T),e1,vA (.tup []),some (.obj (.fn a)),some (.lst rows),vA (.int (y:Int)),some (.lst acc),e7,e8,e9,e10] =
      .nx [vA (tab w h T),e1,vA (.tup []),some (.obj (.fn a)),some (.lst rows),vA (.int (y:Int)),some (.lst (acc++xs.map fun x=>cW (oY x (M y x) (cs x)))),z7,z8,z9,mF]
  |[],acc,e7,e8,e9,e10,_,_=>⟨e7,e8,e9,e10,by simp[forL]⟩
  | x ::xs,acc,e7,e8,e9,e10,hx,hle=>by
    rw[List.length_cons] at hle
    have hxw:=hx x (by simp)
    obtain⟨z7,z8,z9,mF,e⟩:=adw B hy hw hl hn hp (e1:=e1) (xs:=xs) (acc:=acc++[cW (oY x (M y x) (cs x))]) (e7:=vA (.int (x:Int))) (e8:=vA (.int (M y x))) (e9:=vA (cW (if M y x=1 then [] else (cI (cs x)).map (pre x)))) (e10:=vA (.int (gG (M y x)))) (fun q hq=>hx q (by simp[hq])) (by simp;omega)
    refine⟨z7,z8,z9,mF,iG rfl (aJ (ajk B hy hxw hw (hl x) (hn x) (hp x)) (ajj ?_ (by omega) |>.trans ?_)) (e.trans ?_)⟩
    · split
      · simp
      · have:=wC (cs:=cs x);simpa using this
    · have:oY x (M y x) (cs x)=(if M y x=1 then [] else (cI (cs x)).map (pre x)).map (sb (gG (M y x))):=by unfold oY;split <;> rfl
      rw[this]
    · rw[List.map_cons,List.append_assoc];rfl
noncomputable def dn (r:Nat):List D:=(List.range r).map fun (i:Nat)=>D.int ((r:Int) - 1 - (i:Int))
theorem akX (r:Nat):dn (r+1)=D.int (r:Int)::dn r:=by
  unfold dn
  rw[List.range_succ_eq_map,List.map_cons,List.map_map]
  congr 1
  · congr 1;omega
  · refine List.map_congr_left fun i _=>?_
    show D.int _=D.int _
    congr 1
    simp only[Nat.succ_eq_add_one]
    omega
theorem amd {k y:Nat} (hk:k < h) (hy:y=h - 1 - k):Ben w T y ((List.range k).map (Ak w h T M)) (sG w h T M k):=by
  cases k with
  |zero=>exact .last
  | succ k=>
    rw[List.range_succ,List.map_append]
    have e:sG w h T M (k+1)=cands w (sH w h T M k) (T (y+1)):=by
      funext x
      rw[tU,show y+1=h - 1 - k by omega]
    rw[e]
    exact .more _ _ fun p _=>tV
theorem ame {k y:Nat} (hk:k < h) (hy:y=h - 1 - k) (hh:h≤20) (hw:w≤20) {e6 e7 e8 e9 e10:Option Ent}:∃z6 z7 z8 z9 mF,ajf a (eU 1) [vA (tab w h T),vA (bw w h M),vA (.tup []),some (.obj (.fn a)),some (.lst ((List.range k).map (Ak w h T M))),vA (.int (y:Int)),e6,e7,e8,e9,e10] =
    .nx [vA (tab w h T),vA (bw w h M),vA (.tup []),some (.obj (.fn a)),some (.lst ((List.range (k+1)).map (Ak w h T M))),vA (.int (y:Int)),z6,z7,z8,z9,mF]:=by
  obtain⟨z7,z8,z9,mF,e⟩:=adw (h:=h) (a:=a) (M:=M) (e1:=vA (bw w h M)) (amd (w:=w) (T:=T) (M:=M) hk hy) (fun hne=>by
    have:k≠0:=fun z=>hne (by rw[z];rfl)
    omega) hw (fun x=>akW) (fun x=>Y6) (fun x t ht=>by rw[ahl t ht];omega) (xs:=List.range w) (acc:=[]) (e7:=e7) (e8:=e8) (e9:=e9) (e10:=e10) (fun x hx=>List.mem_range.mp hx) (by simp;omega)
  refine⟨vA (.lst ([]++(List.range w).map fun x=>cW (oY x (M y x) (sG w h T M k x)))),z7,z8,z9,mF,aJ (qY rfl) (aJ (oK (Ce (aA (aB rfl rfl (Y0 (by omega)))) rfl) e) ((akU (ds:=(List.range k).map (Ak w h T M)) (es:=[]++(List.range w).map fun x=>cW (oY x (M y x) (sG w h T M k x))) rfl rfl (by rw[List.length_map,List.length_range];omega)).trans ?_))⟩
  rw[List.range_succ,List.map_append]
  have er:((List.range w).map fun x=>cW (oY x (M y x) (sG w h T M k x)))=(List.range w).map fun x=>cW (sH w h T M k x):=by
    refine List.map_congr_left fun x _=>?_
    unfold sH
    rw[hy]
  simp only[List.nil_append]
  rw[er]
  rfl
theorem Y7 (hh:h≤20) (hw:w≤20):∀{r k:Nat} {e5 e6 e7 e8 e9 e10:Option Ent},k+r=h→∃z5 z6 z7 z8 z9 mF,forL (aL 5) (ajf a (eU 1)) (dn r) [vA (tab w h T),vA (bw w h M),vA (.tup []),some (.obj (.fn a)),some (.lst ((List.range k).map (Ak w h T M))),e5,e6,e7,e8,e9,e10] =
    .nx [vA (tab w h T),vA (bw w h M),vA (.tup []),some (.obj (.fn a)),some (.lst ((List.range h).map (Ak w h T M))),z5,z6,z7,z8,z9,mF]
  |0,k,e5,e6,e7,e8,e9,e10,hk=>⟨e5,e6,e7,e8,e9,e10,by rw[show k=h by omega];rfl⟩
  | r+1,k,e5,e6,e7,e8,e9,e10,hk=>by
    obtain⟨y6,y7,y8,y9,y10,e1⟩:=ame (a:=a) (w:=w) (T:=T) (M:=M) (k:=k) (y:=r) (by omega) (by omega) hh hw (e6:=e6) (e7:=e7) (e8:=e8) (e9:=e9) (e10:=e10)
    obtain⟨z5,z6,z7,z8,z9,mF,e2⟩:=Y7 hh hw (r:=r) (k:=k+1) (e5:=vA (.int (r:Int))) (e6:=y6) (e7:=y7) (e8:=y8) (e9:=y9) (e10:=y10) (by omega)
    rw[akX]
    exact⟨z5,z6,z7,z8,z9,mF,iG rfl e1 e2⟩
theorem ajl (hh:h≤20) (hw:w≤20):wN a (eU 1) [tab w h T,bw w h M,.tup []]= .ok (.lst ((List.range h).map (Ak w h T M)).reverse):=by
  obtain⟨z5,z6,z7,z8,z9,mF,e⟩:=Y7 (a:=a) (w:=w) (T:=T) (M:=M) hh hw (r:=h) (k:=0) (e5:=none) (e6:=none) (e7:=none) (e8:=none) (e9:=none) (e10:=none) (by omega)
  have er:YG [.int (h:Int)]= .ok (dn h):=by
    show (if _ then _ else _)=_
    rw[if_pos (by omega)]
    rfl
  refine iJ (aJ (qY rfl) (aJ (oK ?_ e) (bB ?_)))
  · show ((ao (aF cC (ao (fun ρ=>ak ρ 1) (fun _=> .ok []))) (fun _=> .ok [])) _).bind YG=_
    rw[aA (aW (aA rfl) Ca)]
    exact er
  · show XS _ _=_
    unfold XS
    rfl
end
end iI
namespace iI
open PySem PySem.Spec L2 Pu
section
variable {w h:Nat} {T:Nat→Nat→Nat→Int} {M:Nat→Nat→Int} {f:Nat→Nat→Int} {m:Str} {ρ:au}
theorem akY (hh:h≤20) (hw:w≤20):qp [tab w h T,bw w h M,.int 1]= .ok (.lst ((List.range h).map (Ak w h T M)).reverse):=by
  refine iJ ?_
  show (match allOf (fun x=>wN x (eU 1) [tab w h T,bw w h M,.tup []]) with | .ok r=>So.rt r |_=> .bad)=_
  rw[aja fun a=>ajl hh hw]
theorem ahm {F:Nat→D}:((List.range h).map F).reverse=(List.range h).map fun y=>F (h - 1 - y):=by
  apply List.ext_getElem?
  intro i
  by_cases hi:i < h
  · rw[List.getElem?_reverse (by simpa using hi),List.getElem?_map,List.getElem?_map,List.getElem?_range hi,List.length_map,List.length_range,List.getElem?_range (by omega)]
    rfl
  · rw[List.getElem?_eq_none (by simp;omega),List.getElem?_eq_none (by simp;omega)]
noncomputable def Mk (w h:Nat) (M:Nat→Nat→Int):Prop:=∀y x,0≤M y x∧M y x≤2
theorem akZ {i:Int}:cX [.int i]= .ok (.bl true):=by rfl
theorem amf {i j:Int} (h:i≤j):Bu (.int i) (.int j)= .ok (.bl true):=by
  show R.ok (D.bl (decide _))=_
  rw[decide_eq_true h]
theorem aem {i:Int} (h:0≤i∧i≤2):qW [.int i]= .ok (.bl true):=
  cu (bB (qe (aU (aA rfl) akZ) (Hf rfl rfl (amf h.1) rfl (amf h.2))))
theorem ake {α:Type} {l:List α}:sU [.lst (l.map fun _=> .bl true)]= .ok (.bl true):=sX
theorem Pb {g:Nat→Int} (hw:w≤20) (hg:∀x,0≤g x∧g x≤2):jK [row w g,.int (w:Int)]= .ok (.bl true):=by
  refine cu (bB (qe rfl (qe (aB (aW (aA rfl) tQ) rfl (by rw[K9,decide_eq_true rfl])) (aW (aA (cF (c:=fun x=>D.int (g x)) (h:=fun _=>D.bl true) (l:=List.range w) (jH rfl) (by rw[List.length_range];omega) fun x hx=>?_)) ake))))
  exact cR rfl (aU (aA rfl) (aem (hg x)))
theorem jO {i:Int}:iT (.int i) (.int i)= .ok (.bl false):=by rw[ang,decide_eq_true rfl];rfl
theorem aa1 (o:Ok w h f) (hM:Mk w h M):pO [bw w h M,bw w h f]= .ok (.bl true):=by
  have oV:=o.h2
  refine cu (aJ (bV (rE (iC (b:=true) (aZ rfl)) (aZ (aB (aW (aA rfl) Ca) (aW (aA rfl) Ca) jO))) rfl) (bB (aW (aA (cF (c:=fun y=>row w (M y)) (h:=fun _=>D.bl true) (l:=List.range h) (jH rfl) (by rw[List.length_range];omega) fun y hy=>?_)) ake)))
  exact cR rfl (aU (aD rfl (aA (len0 o rfl))) (Pb o.w2 (hM y)))
theorem mul_one {d:D} {k:Nat} (h1:1≤k) (oV:k≤20):Ms (.tup [d]) (.int (k:Int))= .ok (.tup ((List.range k).map fun _=>d)):=by
  rw[Ms,if_pos ⟨by simp,by omega,by omega,by simp;omega⟩]
  congr 2
  rw[show ((k:Nat):Int).toNat=k by omega]
  clear h1 oV
  induction k with
  |zero=>rfl
  |succ k ih=>rw[List.replicate_succ,List.flatten_cons,ih,List.range_succ_eq_map,List.map_cons,List.map_map];rfl
theorem aa2 (o:Ok w h f):pN [bw w h f]= .ok (bw w h fun _ _=>0):=
  cu (bB (aB (gJ (aA (aB (gJ (aA rfl)) (len0 o rfl) (mul_one o.w1 o.w2)))) (aW (aA rfl) Ca) (mul_one o.h1 o.h2)))
theorem oZ (o:Ok w h f):dh [.non,bw w h f]= .ok (bw w h fun _ _=>0):=
  cu (nH (jP (aZ (b:=true) (aB rfl rfl rfl)) (bB (aU (aA rfl) (aa2 o)))))
theorem Uy (o:Ok w h f) (hM:Mk w h M):dh [bw w h M,bw w h f]= .ok (bw w h M):=
  cu (aJ (bV (aZ (b:=false) (aB rfl rfl rfl)) rfl) (aJ (bV (iC (b:=true) (aZ (aU (aD rfl (aA rfl)) (aa1 o hM)))) rfl) (bB rfl)))
theorem M6 (hm:m= "worth"∨m= "joins") (o:Ok w h f):iU [bw w h f,.str m]= .ok (tab w h (tbl m w h f)):=by
  rcases hm with rfl |rfl
  · exact adq o
  · exact adt o
theorem adx {d:D} (hm:m= "worth"∨m= "joins") (o:Ok w h f) (e:dh [d,bw w h f]= .ok (bw w h M)):pQ [bw w h f,.str m,d]= .ok (.tup [tab w h (tbl m w h f),bw w h M]):=
  cu (aJ (lO (aU (aA rfl) (BX o))) (aJ (lO (aU (aA rfl) (tR hm))) (aJ (bA (aU (aD rfl (aA rfl)) e) rfl) (bB (gJ (aD (aU (aD rfl (aA rfl)) (M6 hm o)) (aA rfl)))))))
end
end iI
namespace iI
open PySem PySem.Spec L2 Pu
noncomputable abbrev lt (a b:Wy):Bool:=iH (fl a) (fl b)
section
variable {w h:Nat} {T:Nat→Nat→Nat→Int} {M:Nat→Nat→Int}
theorem ahn {c:Int} {a b:Wy}:lt (iK c a) (iK c b)=lt a b:=by
  obtain⟨a1,a2,a3⟩:=a;obtain⟨b1,b2,b3⟩:=b
  simp only[lt,fl,iK,iH]
  by_cases e1:a1=b1
  · rw[if_pos e1,if_pos e1]
    by_cases e:a2=b2
    · rw[if_pos (by omega),if_pos e]
    · rw[if_neg (by omega),if_neg e];exact decide_eq_decide.mpr (by omega)
  · rw[if_neg e1,if_neg e1]
theorem anh {c:Int} {a b:Wy}:lt (sb c a) (sb c b)=lt a b:=by
  obtain⟨a1,a2,a3⟩:=a;obtain⟨b1,b2,b3⟩:=b
  simp only[lt,fl,sb,iH]
  by_cases e:a1=b1
  · rw[if_pos (by omega),if_pos e]
  · rw[if_neg (by omega),if_neg e];exact decide_eq_decide.mpr (by omega)
theorem amg {x:Nat} {a b:Wy}:lt (pre x a) (pre x b)=lt a b:=by
  obtain⟨a1,a2,a3⟩:=a;obtain⟨b1,b2,b3⟩:=b
  simp only[lt,fl,pre,iH,if_true]
theorem Y8 {a b c:Wy} (h1:lt b a=false) (h2:lt c b=false):lt c a=false:=by
  cases z:lt c a with
  |false=>rfl
  | true=>
    by_cases e:fl b=fl a
    · have h2:iH (fl c) (fl b)=false:=h2
      rw[e] at h2;exact h2.symm.trans z |>.symm
    · have:=qT z (K3 e h1)
      exact (this.symm.trans h2)
theorem xP {cs:List Wy} (hn:(cs.map fl).Nodup) (hne:cs≠[]):∃v,cI cs=[v]∧v∈cs∧∀u∈cs,lt u v=false:=by
  have hr:=Hv hn
  cases es:oN (cs.map fl) with
  | nil=>
    have:=(mC (cs.map fl)).length_eq
    rw[es,List.length_map] at this
    exact absurd (List.length_eq_zero_iff.mp this.symm) hne
  | cons l ls=>
    have ef:cI cs=[un l]:=by unfold cI;rw[es];rfl
    rw[es] at hr
    obtain⟨hr1,_⟩:=List.pairwise_cons.mp hr
    have hl:l∈oN (cs.map fl):=by rw[es];exact List.mem_cons_self
    have hul:fl (un l)=l:=Y5 l hl
    refine⟨un l,ef,Dw _ (by rw[ef];exact List.mem_cons_self),fun u hu=>?_⟩
    have hm:fl u∈oN (cs.map fl):=(mC _).mem_iff.mpr (List.mem_map_of_mem hu)
    rw[es] at hm
    show iH (fl u) (fl (un l))=false
    rw[hul]
    rcases List.mem_cons.mp hm with z |z
    · rw[z];exact wM _
    · cases q:iH (fl u) l with
      |false=>rfl
      |true=>have:=qT q (hr1 _ z);rw[wM] at this;cases this
noncomputable def vl (T:Nat→Nat→Nat→Int) (M:Nat→Nat→Int):Nat→List Nat→Wy
  |_,[]=>(0,0,[])
  |y,[x]=>sb (gG (M y x)) (pre x (0,0,[]))
  |y,x::p::l=>sb (gG (M y x)) (pre x (iK (T (y+1) p (x+1 - p)) (vl T M (y+1) (p::l))))
noncomputable def Pa (w:Nat) (M:Nat→Nat→Int):Nat→List Nat→Prop
  |_,[]=>True
  |y,[x]=>x < w∧M y x≠1
  |y,x::p::l=>x < w∧M y x≠1∧p≤x+1∧x≤p+1∧Pa w M (y+1) (p::l)
theorem Pa.lt {y x:Nat} {l:List Nat} (h:Pa w M y (x::l)):x < w:=by
  cases l with
  |nil=>exact h.1
  |cons p l=>exact h.1
theorem Pa.ne {y x:Nat} {l:List Nat} (h:Pa w M y (x::l)):M y x≠1:=by
  cases l with
  |nil=>exact h.2
  |cons p l=>exact h.2.1
theorem ady {x:Nat} {m:Int} {cs:List Wy} {t:Wy} (h:t∈oY x m cs):m≠1:=fun e=>by
  unfold oY at h
  rw[if_pos e] at h
  cases h
theorem aho {h k:Nat} (hk:k+1 < h):h - 1 - k=h - 1 - (k+1)+1:=by omega
theorem Uz:∀{k x:Nat} {t:Wy},x < w→k < h→t∈sH w h T M k x→∃l,l.length=k∧Pa w M (h - 1 - k) (x::l)∧t=vl T M (h - 1 - k) (x::l)
  | 0,x,t,hx,hk,ht=>by
    obtain⟨u,hu,e⟩:=qK ht
    have hu:u=(0,0,[]):=by simpa[sG] using hu
    subst hu
    exact⟨[],rfl,⟨hx,ady ht⟩,e⟩
  | k+1,x,t,hx,hk,ht=>by
    obtain⟨u,hu,e⟩:=qK ht
    have hm:=ady ht
    rw[tU] at hu
    obtain⟨p,hp,hu⟩:=List.mem_flatMap.mp hu
    obtain⟨v,hv,rfl⟩:=List.mem_map.mp hu
    obtain⟨h1,h2,h3⟩:=(O9 hx).mp hp
    obtain⟨l,hl,hP,hvl⟩:=Uz h1 (by omega) hv
    have ey:h - 1 - k=h - 1 - (k+1)+1:=aho hk
    rw[ey] at hP hvl e
    exact⟨p::l,by rw[List.length_cons,hl],⟨hx,hm,h2,h3,hP⟩,by rw[e,hvl];rfl⟩
theorem UG {x:Nat} {m:Int} {cs:List Wy} {v:Wy} (hm:m≠1) (e:cI cs=[v]):oY x m cs=[sb (gG m) (pre x v)]:=by
  unfold oY
  rw[if_neg hm,e];rfl
theorem UJ:∀{k x:Nat} {l:List Nat},l.length=k→k < h→Pa w M (h - 1 - k) (x::l)→∃t∈sH w h T M k x,lt (vl T M (h - 1 - k) (x::l)) t=false
  | 0,x,l,hl,hk,hP=>by
    cases List.length_eq_zero_iff.mp hl
    obtain⟨v,ev,hv,_⟩:=xP (Y6 (w:=w) (h:=h) (T:=T) (M:=M) (k:=0) (x:=x)) (by simp[sG])
    have hv:v=(0,0,[]):=by simpa[sG] using hv
    subst hv
    exact⟨_,by unfold sH;rw[UG hP.ne ev];exact List.mem_cons_self,wM _⟩
  | k + 1,x,l,hl,hk,hP=>by
    cases l with
    |nil=>cases hl
    | cons p l=>
      have ey:h - 1 - k=h - 1 - (k+1)+1:=aho hk
      obtain⟨hx,hm,h2,h3,hP'⟩:=hP
      have hl:l.length=k:=by simpa using hl
      rw[←ey] at hP'
      obtain⟨t,ht,hlt⟩:=UJ hl (by omega) hP'
      have hu:iK (T (h - 1 - k) p (x+1 - p)) t∈sG w h T M (k+1) x:=by
        rw[tU]
        exact List.mem_flatMap.mpr ⟨p,(O9 hx).mpr ⟨hP'.lt,h2,h3⟩,List.mem_map_of_mem ht⟩
      obtain⟨v,ev,hv,hle⟩:=xP (Y6 (w:=w) (h:=h) (T:=T) (M:=M) (k:=k+1) (x:=x)) (List.ne_nil_of_mem hu)
      refine⟨_,by unfold sH;rw[UG hm ev];exact List.mem_cons_self,?_⟩
      show lt (sb _ (pre x (iK (T (h - 1 - (k+1)+1) p (x+1 - p)) (vl T M (h - 1 - (k+1)+1) (p::l))))) _=false
      rw[anh,amg,←ey]
      exact Y8 (hle _ hu) (by rw[ahn];exact hlt)
noncomputable def topC (w h:Nat) (T:Nat→Nat→Nat→Int) (M:Nat→Nat→Int):List Wy:=(List.range w).flatMap fun x=>(sH w h T M (h - 1) x).map (iK (T 0 x 1))
theorem ajm:(topC w h T M).length≤w:=by
  have:=M5 (F:=fun x=>(sH w h T M (h - 1) x).map (iK (T 0 x 1))) (l:=List.range w) fun p _=>by rw[List.length_map];exact tV
  rw[List.length_range] at this;exact this
theorem adz:((topC w h T M).map fl).Nodup:=by
  unfold topC List.Nodup
  rw[List.pairwise_map,List.pairwise_flatMap]
  refine⟨fun p _=>?_,?_⟩
  · have hl:((sH w h T M (h - 1) p).map (iK (T 0 p 1))).length≤1:=by rw[List.length_map];exact tV
    match (sH w h T M (h - 1) p).map (iK (T 0 p 1)),hl with
    |[],_=>exact .nil
    |[_],_=>simp
    |_::_::_,hl=>simp at hl
  · have nd:(List.range w).Nodup:=List.nodup_range
    refine nd.imp fun {p q} hpq t ht u hu z=>?_
    obtain⟨t',ht',rfl⟩:=List.mem_map.mp ht
    obtain⟨u',hu',rfl⟩:=List.mem_map.mp hu
    obtain⟨t2,_,rfl⟩:=qK ht'
    obtain⟨u2,_,rfl⟩:=qK hu'
    have:=ahi z
    have h2:((p:Nat):Int)::t2.2.2=((q:Nat):Int)::u2.2.2:=congrArg (fun t:Wy=>t.2.2) this
    have h3:((p:Nat):Int)=((q:Nat):Int):=(List.cons.inj h2).1
    exact hpq (by omega)
noncomputable def gn (M:Nat→Nat→Int) (h:Nat) (s:Nat→Nat):Int:=((List.range h).map fun y=>gG (M y (s y))).sum
noncomputable def wS (T:Nat→Nat→Nat→Int) (M:Nat→Nat→Int) (h:Nat) (s:Nat→Nat):Wy:=(-gn M h s,cost h T s,(List.range h).map fun y=>((s y:Nat):Int))
structure Ib (w h:Nat) (M:Nat→Nat→Int) (s:Nat→Nat):Prop where
  sm:oU w h s
  ne:∀y < h,M y (s y)≠1
theorem amh {s:Nat→Nat}:∀{k y:Nat},vl T M y ((List.range' y (k+1)).map s)=(-((List.range' y (k+1)).map fun y=>gG (M y (s y))).sum,((List.range' (y+1) k).map fun y=>fare T s y).sum,(List.range' y (k+1)).map fun y=>((s y:Nat):Int))
  | 0,y=>by
    show (0 - gG (M y (s y)),(0:Int),[((s y:Nat):Int)])=(-(gG (M y (s y))+0),0,[((s y:Nat):Int)])
    rw[show 0 - gG (M y (s y))= -(gG (M y (s y))+0) by omega]
  | k +1,y=>by
    have ih:=amh (s:=s) (k:=k) (y:=y+1)
    rw[List.range'_succ (s:=y),List.map_cons,List.map_cons,List.map_cons,List.sum_cons]
    rw[List.range'_succ (s:=y+1),List.map_cons,List.map_cons,List.map_cons,List.sum_cons] at ih ⊢
    show sb _ (pre _ (iK _ (vl T M (y+1) _)))=_
    rw[ih]
    simp only[sb,pre,iK]
    refine Prod.ext ?_ (Prod.ext ?_ rfl)
    · show -_ - gG _= -_;omega
    · rw[List.map_cons,List.sum_cons]
      show _+T (y+1) (s (y+1)) (s y+1 - s (y+1))=T (y+1) (s (y+1)) (s y+1 - s (y+1))+_
      rw[Int.add_comm]
theorem ami {s:Nat→Nat} (h1:1≤h):iK (T 0 (s 0) 1) (vl T M 0 ((List.range h).map s))=wS T M h s:=by
  obtain⟨k,rfl⟩:∃k,h=k+1:=⟨h - 1,by omega⟩
  rw[List.range_eq_range',amh]
  simp only[iK,wS,gn,cost]
  refine Prod.ext ?_ (Prod.ext ?_ ?_)
  · rw[List.range_eq_range']
  · show ((List.range' (0+1) k).map fun y=>fare T s y).sum+T 0 (s 0) 1=T 0 (s 0) 1+((List.range (k+1 - 1)).map fun y=>fare T s (y+1)).sum
    rw[Int.add_comm,Nat.add_sub_cancel,List.range'_eq_map_range,List.map_map]
    congr 3
    funext i
    show fare T s (0+1+i)=fare T s (i+1)
    rw[show 0+1+i=i+1 by omega]
  · rw[List.range_eq_range']
theorem amj {s : Nat → Nat} : ∀ {k y : Nat},Pa w M y ((List.range' y (k+1)).map s)↔(∀z,y≤z→z≤y+k→s z < w∧M z (s z)≠1)∧∀z,y≤z→z < y+k→s (z+1)≤s z+1∧s z≤s (z+1)+1
  | 0, y => ⟨fun h => ⟨fun z h1 h2 => by have:z=y:=by omega
                                         subst this;exact h,fun z h1 h2=>by omega⟩,fun h=>h.1 y (Nat.le_refl _) (Nat.le_refl _)⟩
  | k + 1,y=>by
    have ih:=amj (s:=s) (k:=k) (y:=y+1)
    rw[List.range'_succ (s:=y),List.map_cons]
    rw[List.range'_succ (s:=y+1),List.map_cons] at ih ⊢
    constructor
    · rintro⟨h1,h2,h3,h4,h5⟩
      obtain⟨q1,q2⟩:=ih.mp h5
      refine⟨fun z z1 z2=>?_,fun z z1 z2=>?_⟩
      · by_cases e:z=y
        · subst e;exact⟨h1,h2⟩
        · exact q1 z (by omega) (by omega)
      · by_cases e:z=y
        · subst e;exact⟨h3,h4⟩
        · exact q2 z (by omega) (by omega)
    · rintro⟨q1,q2⟩
      have a:=q1 y (Nat.le_refl _) (by omega)
      have b:=q2 y (Nat.le_refl _) (by omega)
      exact⟨a.1,a.2,b.1,b.2,ih.mpr ⟨fun z z1 z2=>q1 z (by omega) (by omega),fun z z1 z2=>q2 z (by omega) (by omega)⟩⟩
theorem ahp {s:Nat→Nat} (h1:1≤h):Pa w M 0 ((List.range h).map s)↔Ib w h M s:=by
  obtain⟨k,rfl⟩:∃k,h=k+1:=⟨h - 1,by omega⟩
  rw[List.range_eq_range',amj]
  constructor
  · rintro⟨a,b⟩
    exact⟨⟨fun y hy=>(a y (by omega) (by omega)).1,fun y hy=>b y (by omega) (by omega)⟩,fun y hy=>(a y (by omega) (by omega)).2⟩
  · rintro⟨⟨a,b⟩,c⟩
    exact⟨fun z _ z2=>⟨a z (by omega),c z (by omega)⟩,fun z _ z2=>b z (by omega)⟩
theorem ak0 (l:List Nat):∃s:Nat→Nat,l=(List.range l.length).map s:=
  ⟨fun y=>l.getD y 0,by
    apply List.ext_getElem?
    intro i
    rw[List.getElem?_map]
    by_cases hi:i < l.length
    · rw[List.getElem?_range hi];simp[hi]
    · rw[List.getElem?_eq_none (by omega),List.getElem?_eq_none (by simp;omega)];rfl⟩
theorem ak1 (h1:1≤h) {t:Wy} (ht:t∈topC w h T M):∃s,Ib w h M s∧t=wS T M h s:=by
  obtain⟨x,hx,hu⟩:=List.mem_flatMap.mp ht
  obtain⟨u,hv,rfl⟩:=List.mem_map.mp hu
  obtain⟨l,hl,hP,rfl⟩:=Uz (k:=h - 1) (h:=h) (List.mem_range.mp hx) (by omega) hv
  rw[show h - 1 - (h - 1)=0 by omega] at hP ⊢
  obtain⟨s,hs⟩:=ak0 (x::l)
  have hlen:(x::l).length=h:=by rw[List.length_cons,hl];omega
  rw[hlen] at hs
  have h0:s 0=x:=by
    obtain⟨k,rfl⟩:∃k,h=k+1:=⟨h - 1,by omega⟩
    rw[List.range_succ_eq_map,List.map_cons] at hs
    exact (List.cons.inj hs).1.symm
  rw[hs] at hP ⊢
  refine⟨s,(ahp h1).mp hP,?_⟩
  rw[←ami h1,h0]
theorem ahq (h1:1≤h) {s:Nat→Nat} (q:Ib w h M s):∃t∈topC w h T M,lt (wS T M h s) t=false:=by
  have hP:=(ahp h1).mpr q
  rw[←ami h1]
  obtain⟨k,rfl⟩:∃k,h=k+1:=⟨h - 1,by omega⟩
  have e:(List.range (k+1)).map s=s 0::(List.range k).map fun y=>s (y+1):=by
    rw[List.range_succ_eq_map,List.map_cons,List.map_map];rfl
  rw[e] at hP ⊢
  obtain⟨t,ht,hl⟩:=UJ (w:=w) (h:=k+1) (T:=T) (M:=M) (k:=k+1 - 1) (x:=s 0) (l:=(List.range k).map fun y=>s (y+1)) (by simp) (by omega) (by rw[show k+1 - 1 - (k+1 - 1)=0 by omega];exact hP)
  rw[show k+1 - 1 - (k+1 - 1)=0 by omega] at hl
  exact⟨_,List.mem_flatMap.mpr ⟨s 0,List.mem_range.mpr (q.sm.lt 0 (by omega)),List.mem_map_of_mem ht⟩,by rw[ahn];exact hl⟩
noncomputable def Bst (w h:Nat) (T:Nat→Nat→Nat→Int) (M:Nat→Nat→Int) (s:Nat→Nat):Prop:=Ib w h M s∧∀s',Ib w h M s'→lt (wS T M h s') (wS T M h s)=false
theorem least (h1:1≤h):(cI (topC w h T M)=[]∧∀s,¬Ib w h M s)∨∃s,cI (topC w h T M)=[wS T M h s]∧Bst w h T M s:=by
  by_cases hne:topC w h T M=[]
  · left
    refine⟨by rw[hne];rfl,fun s q=>?_⟩
    obtain⟨t,ht,_⟩:=ahq (T:=T) h1 q
    rw[hne] at ht;cases ht
  · right
    obtain⟨v,ev,hv,hle⟩:=xP adz hne
    obtain⟨s,q,rfl⟩:=ak1 h1 hv
    refine⟨s,ev,q,fun s' q'=>?_⟩
    obtain⟨t,ht,hl⟩:=ahq (T:=T) h1 q'
    exact Y8 (hle t ht) hl
end
end iI
namespace iI
open PySem PySem.Spec L2 Pu
section
variable {w h:Nat} {T:Nat→Nat→Nat→Int} {M:Nat→Nat→Int} {f:Nat→Nat→Int} {m:Str} {ρ:au}
noncomputable def amk:au→So:=(aO (bH (aF (aP dF 3) (ao (bin (fun ρ=>ak ρ 0) (fun _=> .ok (.int 0)) cg) (ao (fun ρ=>ak ρ 3) (ao (fun ρ=>ak ρ 3) (fun _=> .ok []))))) (aL 5)) (Mw 2 (cj 3 [5] (fM (fun ρ=>ak ρ 4)) (c7 (dg 3 (bf (aL 0) (bf (aL 1) (bf (aL 2) nilG))))) (fun _=> .ok true) (jh (ao (fun ρ=>ak ρ 0) (ao (bin (fun ρ=>ak ρ 1) (fun ρ=>ak ρ 3) eG) (ao (fun ρ=>ak ρ 2) (fun _=> .ok []))))))))
theorem ak2 (h1:1≤h) {C:Nat→List Wy} {x:Nat} (hx:x < w) (hC:(C x).length≤1) {e1 e5:Option Ent} {acc:List D} (hl:acc.length≤1000):
    amk [vA (tab w h T),e1,some (.lst acc),vA (.int (x:Int)),vA (cW (C x)),e5]= .nx [vA (tab w h T),e1,some (.lst (acc++((C x).map (iK (T 0 x 1))).map iV)),vA (.int (x:Int)),vA (cW (C x)),vA (.int (T 0 x 1))]:=by
  have e0:dF [.lst ((List.range w).map fun x=>fU (T 0 x)),.int (x:Int),.int (x:Int)]= .ok (.int (T 0 x 1)):=by
    have:=wB (T:=T 0 x) (p:=fun x=>fU (T 0 x)) (a:=x) (b:=x) hx (by omega) (by omega) rfl
    rwa [show x+1 - x=1 by omega] at this
  refine aJ (bA (aU (aD (aB rfl rfl (oX (α:=D) (x:=0) h1)) (aD rfl (aA rfl))) e0) rfl) ?_
  refine (adu (ds:=acc) rfl (cF (c:=iV) (h:=fun t=>iV (iK (T 0 x 1) t)) (l:=C x) (qP rfl) (by omega) fun t ht=>?_) (by simp;omega)).trans ?_
  · exact cR rfl (gJ (aD rfl (aD (x:= .int (t.2.1+T 0 x 1)) (aB rfl rfl rfl) (aA rfl))))
  · rw[List.map_map];rfl
theorem Y9 (h1:1≤h) {C:Nat→List Wy} (hC:∀p,(C p).length≤1) {e1:Option Ent}:∀{ps:List Nat} {acc:List D} {e3 e4 e5:Option Ent},(∀p∈ps,p < w)→acc.length+ps.length≤1000→
    ∃ z3 z4 z5,forL (c7 (dg 2 (bf (aL 3) (bf (aL 4) nilG)))) amk (ps.map fun (p:Nat)=>D.tup [.int (p:Int),cW (C p)]) [vA (tab w h T),e1,some (.lst acc),e3,e4,e5] =
      .nx [vA (tab w h T),e1,some (.lst (acc++(ps.flatMap fun p=>(C p).map (iK (T 0 p 1))).map iV)),z3,z4,z5]
  |[],acc,e3,e4,e5,_,_=>⟨e3,e4,e5,by simp[forL]⟩
  | p::ps,acc,e3,e4,e5,hp,hl=>by
    rw[List.length_cons] at hl
    have hpw:=hp p (by simp)
    have hc:=hC p
    obtain⟨z3,z4,z5,e⟩:=Y9 h1 hC (e1:=e1) (ps:=ps) (acc:=acc++((C p).map (iK (T 0 p 1))).map iV) (e3:=vA (.int (p:Int))) (e4:=vA (cW (C p))) (e5:=vA (.int (T 0 p 1))) (fun q hq=>hp q (by simp[hq])) (by simp;omega)
    refine⟨z3,z4,z5,iG rfl (ak2 h1 hpw hc (by omega)) (e.trans ?_)⟩
    rw[List.flatMap_cons,List.map_append,List.append_assoc]
theorem aa3 (h1:1≤h) (hw:w≤20):pP [tab w h T,.lst ((List.range h).map fun y=>Ak w h T M (h - 1 - y))]= .ok (.lst ((topC w h T M).map iV)):=by
  obtain⟨z3,z4,z5,e⟩:=Y9 (T:=T) h1 (C:=sH w h T M (h - 1)) (fun p=>tV) (e1:=vA (.lst ((List.range h).map fun y=>Ak w h T M (h - 1 - y)))) (ps:=List.range w) (acc:=[]) (e3:=none) (e4:=none) (e5:=none) (fun p hp=>List.mem_range.mp hp) (by simp;omega)
  exact cu (aJ (qY rfl) (aJ (oK (Ce (p:=fun p=>cW (sH w h T M (h - 1) p)) (aA (aB rfl rfl (oX (α:=D) (x:=0) h1))) rfl) e) (bB rfl)))
theorem aen {cs:List Wy} (hl:cs.length < 64) (hn:(cs.map fl).Nodup) {u:au→R D} {v:au→R (Option Int)} (e:u ρ= .ok (.lst (cs.map iV))) (e0:v ρ= .ok (some 1)):qR (aF rM (ao u (fun _=> .ok []))) (fun _=> .ok none) v ρ= .ok (.lst ((cI cs).map iV)):=by
  have e1:rM [.lst (cs.map iV)]= .ok (.lst ((oN (cs.map fl)).map lJ)):=by
    rw[rM,Dv]
    show (if _ then _ else _)=_
    rw[if_pos ⟨by simpa using hl,hn⟩]
  have e2:nT ((oN (cs.map fl)).map lJ) none (some 1)=(cI cs).map iV:=by
    have e3:∀{n d:Nat},HT.sIx n d (some 1)=min 1 n:=fun {n d}=>by
      show (if (1:Int) < 0 then ((1:Int)+(n:Int)).toNat else min (1:Int).toNat n)=min 1 n
      rw[if_neg (by decide)];rfl
    rw[nT,e3,O7,Nat.sub_zero,List.drop_zero,←List.map_take]
    have e4:∀l:List (List Int),l.take (min 1 (l.map lJ).length)=l.take 1:=fun l=>by cases l <;> simp
    rw[e4]
    unfold cI
    rw[List.map_map]
    refine List.map_congr_left fun l hl=>?_
    show lJ l=iV (un l)
    rw[M4,Y5 l (List.mem_of_mem_take hl)]
  unfold qR
  rw[aW (aA e) e1,e0]
  show R.ok (D.lst (nT _ none (some 1)))=_
  rw[e2]
theorem Ry (h1:1≤h) (hh:h≤20) (hw:w≤20):ni [tab w h T,bw w h M,.int 1]= .ok (.lst ((cI (topC w h T M)).map iV)):=by
  have hl:=ajm (w:=w) (h:=h) (T:=T) (M:=M)
  exact iJ (bB (aen (by omega) adz (aU (aD rfl (aA (aU (aD rfl (aD rfl (aA rfl))) ((akY hh hw).trans (by rw[ahm]))))) (aa3 h1 hw)) rfl))
noncomputable def lwD:List Wy→D
  |[]=> .non
  |t::_=> .tup [.int t.2.1,.tup (t.2.2.map .int)]
noncomputable def lsD:List Wy→D
  |[]=> .non
  |t::_=> .tup (t.2.2.map .int)
theorem Ie (h1:1≤h) (hh:h≤20) (hw:w≤20):gU [tab w h T,bw w h M]= .ok (lwD (cI (topC w h T M))):=by
  have e:=Ry (T:=T) (M:=M) h1 hh hw
  have hl:=wC (cs:=topC w h T M)
  match cI (topC w h T M),e,hl with
  |[],e,_=>exact iJ (aJ (bA (aU (aD rfl (aD rfl (aA rfl))) e) rfl) (nH (jP (iC (K8 (ds:=[]) rfl)) (bB rfl))))
  |[t],e,_=>exact iJ (aJ (bA (aU (aD rfl (aD rfl (aA rfl))) e) rfl) (aJ (bV (iC (K8 (ds:=[iV t]) rfl)) rfl) (aJ (bA (d:=iV t) (aB (y:= .int 0) rfl rfl (Yk (i:=0) rfl)) rfl) (bB (gJ (aD rfl (aA rfl)))))))
  |_::_::_,_,hl=>simp at hl
theorem Vl {d:D} (hm:m= "worth"∨m= "joins") (o:Ok w h f) (e:dh [d,bw w h f]= .ok (bw w h M)):oR [bw w h f,.str m,d]= .ok (lsD (cI (topC w h (tbl m w h f) M))):=by
  have e1:=Ie (T:=tbl m w h f) (M:=M) o.h1 o.h2 o.w2
  match cI (topC w h (tbl m w h f) M),e1 with
  |[],e1=>exact iJ (aJ (bA (aU (aD rfl (aD rfl (aA rfl))) (adx hm o e)) rfl) (aJ (bA (aU (aD rfl (aA rfl)) e1) rfl) (nH (jP (aZ (b:=true) (aB rfl rfl rfl)) (bB rfl)))))
  |t::r,e1=>exact iJ (aJ (bA (aU (aD rfl (aD rfl (aA rfl))) (adx hm o e)) rfl) (aJ (bA (aU (aD rfl (aA rfl)) e1) rfl) (aJ (bV (aZ (b:=false) (aB rfl rfl rfl)) rfl) (bB (d:=lsD (t::r)) (aB (y:= .int 1) rfl rfl (kj (i:=1) rfl))))))
theorem ahr {α:Type} {k:D→R (Option D)} {c:α→D} {o:α→Option D}:∀{l:List α},(∀a∈l,k (c a)= .ok (o a))→nR k (l.map c)= .ok (l.filterMap o)
  |[],_=>rfl
  | a::l,h=>by
    rw[List.map_cons,nR,h a (by simp),N7,R.bx,ahr fun b hb=>h b (by simp[hb]),R.bx]
    cases e:o a with
    |none=>rw[List.filterMap_cons_none e];rfl
    |some d=>rw[List.filterMap_cons_some e];rfl
theorem Za {α:Type} {n:Nat} {caps:List Nat} {fi:au→R (List D)} {gt:D→au→R au} {ft:au→R Bool} {fe:au→R D} {ρ:au} {c:α→D} {o:α→Option D} {l:List α} (e1:fi ρ= .ok (l.map c)) (hl:l.length≤1000000)
    (e2:∀a∈l,sO gt ft fe (KD n caps ρ) (c a)= .ok (o a)):cj n caps fi gt ft fe ρ= .ok (.lst (l.filterMap o)):=by
  rw[cj,e1,R.bx,ahr e2,R.bx,cap,if_pos (Nat.le_trans (List.length_filterMap_le _ _) hl)]
theorem Rz {ρ ρ1:au} {gt:D→au→R au} {ft:au→R Bool} {fe:au→R D} {x d:D} {b:Bool} (e1:gt x ρ= .ok ρ1) (e2:ft ρ1= .ok b) (e3:fe ρ1= .ok d):sO gt ft fe ρ x= .ok (if b=true then some d else none):=by
  rw[sO,e1,R.bx,e2,R.bx]
  cases b with
  |true=>rw[if_pos rfl,if_pos rfl,e3];rfl
  |false=>rw[if_neg (by decide),if_neg (by decide)]
noncomputable def cnt (M:Nat→Nat→Int) (h:Nat) (s:Nat→Nat) (k:Int):Int:=((List.range h).map fun y=>if M y (s y)=k then (1:Int) else 0).sum
theorem Zb {α:Type} {p:α→Bool} {g:α→D}:∀{l:List α},((l.filterMap fun a=>if p a=true then some (g a) else none).length:Int)=(l.map fun a=>if p a=true then (1:Int) else 0).sum
  |[]=>rfl
  | a::l=>by
    rw[List.map_cons,List.sum_cons]
    cases e:p a with
    |true=>rw[List.filterMap_cons_some (b:=g a) (by simp[e]),List.length_cons,if_pos rfl,←Zb (g:=g)];omega
    |false=>rw[List.filterMap_cons_none (by simp[e]),if_neg (by decide),←Zb (g:=g)];omega
theorem ajn {s:Nat→Nat} (hh:h≤20) (q:oU w h s) {k:Int}:lR [bw w h M,sm h s,.int k]= .ok (.int (cnt M h s k)):=by
  have e:cnt M h s k=(((List.range h).filterMap fun y=>if decide (M y (s y)=k)=true then some (D.int ((s y:Nat):Int)) else none).length:Int):=by
    rw[Zb]
    unfold cnt
    simp only[decide_eq_true_eq]
  rw[e]
  refine cu (bB (aW (aA (x:= .lst ((List.range h).filterMap fun y=>if decide (M y (s y)=k)=true then some (D.int ((s y:Nat):Int)) else none)) (Za (l:=List.range h) (c:=fun y=> .tup [row w (M y),.int ((s y:Nat):Int)]) (K6 (aD rfl (aA rfl)) rfl rfl) (by rw[List.length_range];omega) fun y hy=>?_)) rfl))
  exact Rz rfl (aZ (aB (aB rfl rfl (oW (q.lt y (List.mem_range.mp hy)))) rfl K9)) rfl
theorem Zc {p:Nat→Bool}:∀{l:List Nat},(l.map fun a=>if p a=true then (1:Int) else 0).sum=0↔∀a∈l,p a=false
  |[]=>by simp
  | a ::l=>by
    have ih:=Zc (p:=p) (l:=l)
    have hp:∀l:List Nat,0≤(l.map fun a=>if p a=true then (1:Int) else 0).sum:=fun l=>by
      induction l with
      |nil=>exact Int.le_refl 0
      |cons a l ih=>rw[List.map_cons,List.sum_cons];split <;> omega
    have:=hp l
    rw[List.map_cons,List.sum_cons]
    cases e:p a with
    | true=>
      rw[if_pos rfl]
      exact⟨fun z=>by omega,fun z=>by have:=z a (by simp);rw[e] at this;cases this⟩
    | false=>
      rw[if_neg (by decide),Int.zero_add,ih]
      exact⟨fun z b hb=>by rcases List.mem_cons.mp hb with q |q;(· rw[q];exact e);exact z b q,fun z b hb=>z b (by simp[hb])⟩
theorem ajo {s:Nat→Nat} {k:Int}:cnt M h s k=0↔∀y < h,M y (s y)≠k:=by
  have:cnt M h s k=((List.range h).map fun y=>if decide (M y (s y)=k)=true then (1:Int) else 0).sum:=by unfold cnt;simp only[decide_eq_true_eq]
  rw[this,Zc]
  exact⟨fun z y hy=>of_decide_eq_false (z y (List.mem_range.mpr hy)),fun z y hy=>decide_eq_false (z y (List.mem_range.mp hy))⟩
end
end iI
namespace iI
open PySem PySem.Spec L2 Pu
section
variable {ns:List Int} {w h:Nat} {f M:Nat→Nat→Int} {T:Nat→Nat→Nat→Int} {m:Str} {s:Nat→Nat} {ρ:au}
theorem aml (hns:ns.length≤1000000):∃w h f,nJ [.lst (ns.map .int),.int 0,.int 9,.int 6]= .ok (bw w h f)∧Ok w h f∧w≤9∧h≤6:=by
  obtain⟨e1,h1,h2⟩:=uF (k:=0) (m:=9) hns (by omega) (by omega)
  obtain⟨e2,h3,h4⟩:=uF (k:=0+1) (m:=6) hns (by omega) (by omega)
  obtain⟨w,hw⟩:=Int.eq_ofNat_of_zero_le (show 0≤1+dr ns 0 9 by omega)
  obtain⟨h,hh⟩:=Int.eq_ofNat_of_zero_le (show 0≤1+dr ns (0+1) 6 by omega)
  obtain⟨f,e,o⟩:=aeh (ns:=ns) (a:=0+2) (w:=w) (h:=h) hns (by omega) (by omega) (by omega) (by omega) (by omega)
  refine⟨w,h,f,cu (bB (aU (aD rfl (aD (aB rfl rfl rfl) (aD (aB rfl (aU (aD rfl (aD rfl (aA rfl))) e1) (congrArg (fun z=>R.ok (D.int z)) hw)) (aA (aB rfl (aU (aD rfl (aD (aB rfl rfl rfl) (aA rfl))) e2) (congrArg (fun z=>R.ok (D.int z)) hh)))))) e)),o,by omega,by omega⟩
noncomputable def Sg (sg:List Int):Prop:=0 < sg.length∧sg.length≤5∧∀i∈sg,0≤i∧i≤2
theorem Sg.get {sg:List Int} (s:Sg sg) (k:Nat):0≤sg.getD k 0∧sg.getD k 0≤2:=by
  by_cases hk:k < sg.length
  · have:sg.getD k 0=sg[k]:=by simp[hk]
    rw[this];exact s.2.2 _ (List.getElem_mem _)
  · have:sg.getD k 0=0:=by simp[List.getD,List.getElem?_eq_none (Nat.le_of_not_lt hk)]
    rw[this];omega
theorem ani {sg:List Int} {k:Int} (h0:0≤k) (h1:k < sg.length):cg (.lst (sg.map .int)) (.int k)= .ok (.int (sg.getD k.toNat 0)):=by
  obtain⟨n,rfl⟩:=Int.eq_ofNat_of_zero_le h0
  have hn:n < sg.length:=by omega
  refine Yk (i:=n) ?_
  rw[List.getElem?_map,List.getElem?_eq_getElem hn]
  simp[hn]
noncomputable def mks (ns:List Int) (w:Nat) (sg:List Int) (y x:Nat):Int:=sg.getD (dr ns (70+1+(w:Int)*(y:Int)+(x:Int)) sg.length).toNat 0
theorem amm (hns:ns.length≤1000000) (hw:w≤20) {sg:List Int} (s:Sg sg) {y:Nat} (hy:y < 20) {e2 e7:Option Ent} {acc:List D} (hl:acc.length≤1000):
    mkB [vA (.lst (ns.map .int)),vA (.int 70),e2,some (.lst acc),vA (.lst (sg.map .int)),vA (.int (y:Int)),vA (row w (f y)),e7] =
      .nx [vA (.lst (ns.map .int)),vA (.int 70),e2,some (.lst (acc++[row w (mks ns w sg y)])),vA (.lst (sg.map .int)),vA (.int (y:Int)),vA (row w (f y)),vA (.int (70+1+(w:Int)*(y:Int)))]:=by
  have hp:(0:Int)≤(w:Int)*(y:Int):=Int.mul_nonneg (by omega) (by omega)
  refine aJ (bA (d:= .int (70+1+(w:Int)*(y:Int))) (aB (x:= .int (70+1)) (aB rfl rfl rfl) (aB (aW (aA rfl) tQ) rfl ((show Ms (.int (w:Int)) (.int (y:Int))=jL (.int (w:Int)) (.int (y:Int)) from rfl).trans (qg (.inl (by omega))))) rfl) rfl) ?_
  refine O8 (ds:=acc) (aW (aA (cF (c:=fun (x:Nat)=>D.int (x:Int)) (h:=fun x=> .int (mks ns w sg y x)) (l:=List.range w) (rC (aA (aW (aA rfl) tQ)) (by omega)) (by rw[List.length_range];omega) fun x hx=>?_)) rfl) rfl (by omega)
  obtain⟨e1,h1,h2⟩:=uF (k:=70+1+(w:Int)*(y:Int)+(x:Int)) (m:=(sg.length:Int)) hns (by omega) (by have:=s.1;omega)
  have hlen:cC [.lst (sg.map .int)]= .ok (.int (sg.length:Int)):=by simp[cC]
  exact cR rfl (aB rfl (aU (aD rfl (aD (aB rfl rfl rfl) (aA (aW (aA rfl) hlen)))) e1) (ani h1 h2))
theorem adA (hns:ns.length≤1000000) (hw:w≤20) {sg:List Int} (s:Sg sg) {e2:Option Ent}:∀{ys:List Nat} {acc:List D} {e5 e6 e7:Option Ent},(∀y∈ys,y < 20)→acc.length+ys.length≤1000→
    ∃ z5 z6 z7,forL (c7 (dg 2 (bf (aL 5) (bf (aL 6) nilG)))) mkB (ys.map fun (y:Nat)=>D.tup [.int (y:Int),row w (f y)]) [vA (.lst (ns.map .int)),vA (.int 70),e2,some (.lst acc),vA (.lst (sg.map .int)),e5,e6,e7] =
      .nx [vA (.lst (ns.map .int)),vA (.int 70),e2,some (.lst (acc++ys.map fun y=>row w (mks ns w sg y))),vA (.lst (sg.map .int)),z5,z6,z7]
  |[],acc,e5,e6,e7,_,_=>⟨e5,e6,e7,by simp[forL]⟩
  | y::ys,acc,e5,e6,e7,hy,hl=>by
    rw[List.length_cons] at hl
    obtain⟨z5,z6,z7,e⟩:=adA hns hw s (e2:=e2) (ys:=ys) (acc:=acc++[row w (mks ns w sg y)]) (e5:=vA (.int (y:Int))) (e6:=vA (row w (f y))) (e7:=vA (.int (70+1+(w:Int)*(y:Int)))) (fun q hq=>hy q (by simp[hq])) (by simp;omega)
    exact⟨z5,z6,z7,iG rfl (amm hns hw s (hy y (by simp)) (by omega)) (e.trans (by rw[List.map_cons,List.append_assoc];rfl))⟩
theorem ajp (hns:ns.length≤1000000) (o:Ok w h f):∃M,lQ [.lst (ns.map .int),.int 70,bw w h f]= .ok (bw w h M)∧Mk w h M:=by
  have oV:=o.h2
  obtain⟨e1,h0,h4⟩:=uF (k:=70) (m:=4) hns (by omega) (by omega)
  obtain⟨d,hd,ed⟩:=KQ (xs:=[D.lst (([0,0,0,1,2]:List Int).map .int),.lst (([0,0,0,0,1]:List Int).map .int),.lst (([0,0,2,0,0]:List Int).map .int),.lst (([0]:List Int).map .int)]) h0 h4
  have hs:∃sg,d= .lst (sg.map .int)∧Sg sg:=by
    simp only[List.mem_cons,List.not_mem_nil,or_false] at hd
    rcases hd with rfl |rfl |rfl |rfl
    · exact⟨[0,0,0,1,2],rfl,by decide,by decide,by decide⟩
    · exact⟨[0,0,0,0,1],rfl,by decide,by decide,by decide⟩
    · exact⟨[0,0,2,0,0],rfl,by decide,by decide,by decide⟩
    · exact⟨[0],rfl,by decide,by decide,by decide⟩
  obtain⟨sg,rfl,s⟩:=hs
  obtain⟨z5,z6,z7,e⟩:=adA (f:=f) hns o.w2 s (e2:=vA (bw w h f)) (ys:=List.range h) (acc:=[]) (e5:=none) (e6:=none) (e7:=none) (fun y hy=>by have:=List.mem_range.mp hy;omega) (by simp;omega)
  refine⟨mks ns w sg,cu (aJ (qY rfl) (aJ (bA (aB (x:= .lst [D.lst (([0,0,0,1,2]:List Int).map .int),.lst (([0,0,0,0,1]:List Int).map .int),.lst (([0,0,2,0,0]:List Int).map .int),.lst (([0]:List Int).map .int)]) (kh (aD (kh rfl) (aD (kh rfl) (aD (kh rfl) (aA (kh rfl)))))) (aU (aD rfl (aD rfl (aA rfl))) e1) (Bw ed)) rfl) (aJ (oK (Ce (aA rfl) rfl) e) (bB (aW (aA rfl) rfl))))),fun y x=>s.get _⟩
theorem ahs (hns:ns.length≤1000000):∃m:Str,(m= "worth"∨m= "joins")∧jZ [.lst (ns.map .int),.int 140]= .ok (.str m):=by
  obtain⟨e1,h0,h2⟩:=uF (k:=140) (m:=2) hns (by omega) (by omega)
  obtain⟨d,hd,ed⟩:=KQ (xs:=[D.str "worth",.str "joins"]) h0 h2
  simp only[List.mem_cons,List.not_mem_nil,or_false] at hd
  rcases hd with rfl |rfl
  · exact⟨"worth",.inl rfl,cu (bB (aB (x:= .lst [D.str "worth",.str "joins"]) (kh rfl) (aU (aD rfl (aD rfl (aA rfl))) e1) (Bw ed)))⟩
  · exact⟨"joins",.inr rfl,cu (bB (aB (x:= .lst [D.str "worth",.str "joins"]) (kh rfl) (aU (aD rfl (aD rfl (aA rfl))) e1) (Bw ed)))⟩
theorem Zd {α β:Type} {f:α→Option β} {g:α→β}:∀{l:List α},(∀a∈l,f a=some (g a))→l.filterMap f=l.map g
  |[],_=>rfl
  |a::l,h=>by rw[List.filterMap_cons_some (h a (by simp)),List.map_cons,Zd fun b hb=>h b (by simp[hb])]
theorem ak3 {g:Nat→Int} {n:Nat} (hn:n < w):(List.range w).filterMap (fun x=>if x=n then none else some (D.int (g x)))=(List.range (w - 1)).map fun x=>D.int (if x < n then g x else g (x+1)):=by
  rw[←YZ hn,←List.map_take,←List.map_drop]
  have e2:List.range w=(List.range w).take n++n::(List.range w).drop (n+1):=by
    have:=List.take_append_drop n (List.range w)
    rw[List.drop_eq_getElem_cons (by simpa using hn)] at this
    simpa using this.symm
  conv=>lhs;rw[e2]
  rw[List.filterMap_append,List.filterMap_cons_none (by simp),Zd (g:=fun x=>D.int (g x)) fun x hx=>?_,Zd (g:=fun x=>D.int (g x)) fun x hx=>?_]
  · obtain⟨i,hi,e⟩:=List.mem_iff_getElem.mp hx
    simp at e
    rw[if_neg (by omega)]
  · rw[List.take_range] at hx
    have:=List.mem_range.mp hx
    rw[if_neg (by omega)]
theorem aht (q:oU w h s) (oV:h≤20) (w20:w≤20):pK [bw w h f,sm h s]= .ok (bw (w - 1) h (less s f)):=by
  refine cu (bB (aW (aA (cF (c:=fun y=> .tup [row w (f y),.int ((s y:Nat):Int)]) (h:=fun y=>row (w - 1) (less s f y)) (l:=List.range h) (K6 (aD rfl (aA rfl)) rfl rfl) (by rw[List.length_range];omega) fun y hy=>?_)) rfl))
  refine cR rfl (aW (aA (x:= .lst ((List.range w).filterMap fun x=>if x=s y then none else some (D.int (f y x)))) (Za (l:=List.range w) (c:=fun (x:Nat)=>D.tup [.int (x:Int),.int (f y x)]) (Ce (aA rfl) rfl) (by rw[List.length_range];omega) fun x hx=>?_)) ?_)
  · have e:iT (.int (x:Int)) (.int ((s y:Nat):Int))= .ok (.bl (!decide (x=s y))):=by
      rw[iT,if_pos (by simp[dep])]
      show R.ok (D.bl (!gH (.int (x:Int)) (.int ((s y:Nat):Int))))=_
      by_cases h:x=s y
      · simp[oE,oF,oG,oH,oJ,jg,fj,h]
      · have h':¬(x:Int)=((s y:Nat):Int):=by omega
        simp[gH,h,h']
    refine (Rz rfl (aZ (aB rfl rfl e)) rfl).trans ?_
    by_cases h:x=s y
    · simp[h]
    · simp[h]
  · rw[ak3 (q.lt y (List.mem_range.mp hy))];rfl
theorem amn:lwD [wS T M h s]= .tup [.int (cost h T s),sm h s]:=by
  show D.tup [.int (cost h T s),.tup (((List.range h).map fun y=>((s y:Nat):Int)).map .int)]=_
  rw[List.map_map];rfl
theorem amo:lsD [wS T M h s]=sm h s:=by
  show D.tup (((List.range h).map fun y=>((s y:Nat):Int)).map .int)=_
  rw[List.map_map];rfl
theorem amq:dep (sm h s)≤40:=akR
theorem anE {p:au→R Bool} {b:au→So} {n:Nat} (e:p (dN ρ)= .ok false):j9 p b (n+1) ρ= .nx ρ:=by rw[j9,e]
theorem amr {p:au→R Bool} {b:au→So} {n:Nat} {ρ1:au} {o:So} (e:p (dN ρ)= .ok true) (e1:b ρ= .nx ρ1) (e2:j9 p b n ρ1=o):j9 p b (n+1) ρ=o:=by rw[j9,e];simp only[e1,e2]
theorem anj {p:au→R Bool} {b:au→So} {n:Nat} {d:D} (e:p (dN ρ)= .ok true) (e1:b ρ= .rt d):j9 p b (n+1) ρ= .rt d:=by rw[j9,e];simp only[e1]
end
end iI
namespace iI
open PySem PySem.Spec L2 Pu
section
variable {ns:List Int} {w h k:Nat} {f M:Nat→Nat→Int} {T:Nat→Nat→Nat→Int} {m:Str} {s:Nat→Nat} {ρ:au}
noncomputable abbrev iM:=(Nat→Nat)×(Nat→Int)
noncomputable def cY (h:Nat) (p:iM):D:= .tup [sm h p.1,row h p.2]
noncomputable def RB (h:Nat):Nat→List iM→Prop
  |_,[]=>True
  |w,p::r=>oU (w+1) h p.1∧(∀y < h,0≤p.2 y∧p.2 y≤99)∧RB h (w+1) r
noncomputable def Ze:(Nat→Nat→Int)→List iM→(Nat→Nat→Int)
  |f,[]=>f
  |f,p::r=>Ze (more p.1 p.2 f) r
theorem Zf {p:iM}:∀{L:List iM} {f:Nat→Nat→Int},Ze f (L++[p])=more p.1 p.2 (Ze f L)
  |[],f=>rfl
  |q::L,f=>Zf (L:=L)
theorem UL {h:Nat} {p:iM}:∀{L:List iM} {w:Nat},RB h w L→oU (w+L.length+1) h p.1→(∀y < h,0≤p.2 y∧p.2 y≤99)→RB h w (L++[p])
  |[],w,_,q,c=>⟨q,c,trivial⟩
  |r::L,w,s,q,c=>⟨s.1,s.2.1,UL s.2.2 (by rw[List.length_cons] at q;rwa [show w+1+L.length+1=w+(L.length+1)+1 by omega]) c⟩
section
variable {p:iM}
theorem aeo (q:oU (w+1) h p.1) (oV:h≤20) (hc:∀y < h,0≤p.2 y∧p.2 y≤99):qX [cY h p,.int ((w+1:Nat):Int),.int (h:Int)]= .ok (.bl true):=
  cu (aJ (bV (rE (iC (b:=true) (aZ rfl)) (aZ (aB (aW (aA rfl) rfl) rfl (BZ rfl)))) rfl)
    (bB (qe (aU (aD (aB rfl rfl (kj (i:=0) rfl)) (aD rfl (aA rfl))) (Uv q oV)) (aU (aD (aB rfl rfl (kj (i:=1) rfl)) (aA rfl)) (aaZ oV hc)))))
theorem ak4 {e0 e1 e2 x6 x7:Option Ent} (o:Ok w h f) (q:oU (w+1) h p.1) (hc:∀y < h,0≤p.2 y∧p.2 y≤99):
    rbB [e0,e1,e2,vA (.int (h:Int)),vA (bw w h f),vA (cY h p),x6,x7]= .nx [e0,e1,e2,vA (.int (h:Int)),vA (bw (w+1) h (more p.1 p.2 f)),vA (cY h p),vA (sm h p.1),vA (row h p.2)]:=
  aJ (bV (iC (aZ (aU (aD rfl (aD (x:= .int ((w+1:Nat):Int)) (aB (len0 o rfl) rfl rfl) (aA rfl))) (aeo q o.h2 hc)))) rfl)
    (aJ (bA (d:=cY h p) rfl rfl) (bA (aU (aD rfl (aD rfl (aA rfl))) (Vj (fun y hy=>by have:=q.lt y hy;omega) o.h2 o.w2 rfl rfl)) rfl))
theorem adB {e0 e1 e2:Option Ent}:∀{L:List iM} {w:Nat} {f:Nat→Nat→Int} {x5 x6 x7:Option Ent},Ok w h f→RB h w L→w+L.length≤20→
    ∃z5 z6 z7,forL (aL 5) rbB (L.map (cY h)) [e0,e1,e2,vA (.int (h:Int)),vA (bw w h f),x5,x6,x7]= .nx [e0,e1,e2,vA (.int (h:Int)),vA (bw (w+L.length) h (Ze f L)),z5,z6,z7]
  |[],w,f,x5,x6,x7,_,_,_=>⟨x5,x6,x7,rfl⟩
  | p::L,w,f,x5,x6,x7,o,s,hl=>by
    rw[List.length_cons] at hl
    obtain⟨z5,z6,z7,e⟩:=adB (e0:=e0) (e1:=e1) (e2:=e2) (L:=L) (w:=w+1) (f:=more p.1 p.2 f) (x5:=vA (cY h p)) (x6:=vA (sm h p.1)) (x7:=vA (row h p.2)) (o.more (by omega) (fun y hy=>by have:=s.1.lt y hy;omega) s.2.1) s.2.2 (by omega)
    refine⟨z5,z6,z7,?_⟩
    rw[List.map_cons,List.length_cons,show w+(L.length+1)=w+1+L.length by omega]
    exact iG rfl (ak4 o s.1 s.2.1) e
theorem aep {L:List iM} (o:Ok w h f) (s:RB h w L) (hl:w+L.length≤20):mD [bw w h f,.lst (L.map (cY h)).reverse]= .ok (bw (w+L.length) h (Ze f L)):=by
  obtain⟨z5,z6,z7,e⟩:=adB (e0:=vA (bw w h f)) (e1:=vA (.lst (L.map (cY h)).reverse)) (e2:=vA (.int (w:Int))) (x5:=none) (x6:=none) (x7:=none) o s hl
  refine cu (aJ (bA (aU (aA rfl) (size_eq o)) rfl) (aJ (bV (rE (iC (b:=true) (aZ rfl)) (aZ (aB (aB rfl (aW (aA rfl) rfl) rfl) rfl ?_))) rfl) (aJ (bA rfl rfl) (aJ (oK (xs:=L.map (cY h)) ?_ e) (bB rfl)))))
  · rw[zM,decide_eq_false (by simp;omega)]
  · show R.ok (L.map (cY h)).reverse.reverse=_
    rw[List.reverse_reverse]
theorem Zg {l:List D} {n:Nat} (h:∀d∈l,dep d≤n):deps l≤n:=by
  have:=qO (c:=id) (n:=n) (l:=l) h
  rwa [List.map_id] at this
theorem ajq {p:iM}:dep (cY h p)≤2:=by
  have hr:∀g:Nat→Int,dep (row h g)≤1:=fun g=>by
    unfold row
    rw[dep]
    have:=qO (c:=fun x=>D.int (g x)) (n:=0) (l:=List.range h) (fun x _=>by simp[dep])
    omega
  unfold cY
  rw[dep]
  have:=Zg (l:=[sm h p.1,row h p.2]) (n:=1) (fun d hd=>by simp at hd;rcases hd with rfl |rfl <;> exact hr _)
  omega
end
noncomputable def Go (m:Str) (h:Nat):Nat→Nat→(Nat→Nat→Int)→(Nat→Nat→Int)→Option (List iM)→Prop
  |0,_,_,_,r=>r=some []
  |k+1,w,f,M,r=>(cI (topC w h (tbl m w h f) M)=[]∧(∀s,¬Ib w h M s)∧r=none)∨∃s r',Ib w h M s∧cI (topC w h (tbl m w h f) M)=[wS (tbl m w h f) M h s]∧Go m h k (w - 1) (less s f) (less s M) r'∧r=r'.map ((s,fun y=>f y (s y)):: ·)
noncomputable def jC:(Nat→Nat→Int)→List iM→Nat→Nat→Int
  |f,[]=>f
  |f,p::L=>jC (less p.1 f) L
noncomputable def tot (m:Str) (h:Nat):Nat→(Nat→Nat→Int)→List iM→Int
  |_,_,[]=>0
  |w,f,p::L=>cost h (tbl m w h f) p.1+tot m h (w - 1) (less p.1 f) L
theorem aer (h1:1≤h):∀{k w:Nat} {f M:Nat→Nat→Int},∃r,Go m h k w f M r
  |0,w,f,M=>⟨_,rfl⟩
  | k +1,w,f,M=>by
    rcases least (w:=w) (T:=tbl m w h f) (M:=M) h1 with⟨e,q⟩ |⟨s,e,q,_⟩
    · exact⟨none,.inl ⟨e,q,rfl⟩⟩
    · obtain⟨r,g⟩:=aer h1 (k:=k) (w:=w - 1) (f:=less s f) (M:=less s M)
      exact⟨_,.inr ⟨s,r,q,e,g,rfl⟩⟩
theorem Ih:∀{k w:Nat} {f M:Nat→Nat→Int} {L:List iM},Go m h k w f M (some L)→L.length=k
  |0,w,f,M,L,g=>by cases Option.some.inj g;rfl
  | k +1,w,f,M,L,g=>by
    rcases g with⟨_,_,e⟩ |⟨s,r,_,_,g,e⟩
    · cases e
    · cases r with
      |none=>cases e
      |some L'=>cases Option.some.inj e;rw[List.length_cons,Ih g]
theorem UW:less s (fun _ _=>(0:Int))=fun _ _=>0:=by funext y x;unfold less;split <;> rfl
theorem Zh:∀{L:List iM},jC (fun _ _=>(0:Int)) L=fun _ _=>0
  |[]=>rfl
  |p::L=>by rw[jC,UW,Zh]
theorem RD:∀{k w:Nat} {f M:Nat→Nat→Int} {r:Option (List iM)},k < w→(∀y < h,∀x < w,M y x≠1)→Go m h k w f M r→∃L,r=some L
  |0,w,f,M,r,_,_,g=>⟨_,g⟩
  | k +1,w,f,M,r,hk,z,g=>by
    rcases g with⟨_,q,_⟩ |⟨s,r',q,_,g,e⟩
    · exact absurd ⟨⟨fun y hy=>by show 0 < w;omega,fun y hy=>by show 0≤0+1∧0≤0+1;omega⟩,fun y hy=>z y hy 0 (by omega)⟩ (q fun _=>0)
    · obtain⟨L,rfl⟩:=RD (by omega) (fun y hy x hx=>by unfold less;split;exact z _ hy _ (by omega);exact z _ hy _ (by omega)) g
      exact⟨_,e⟩
theorem Zi:∀{a b w:Nat} {f M:Nat→Nat→Int} {L:List iM},Go m h (a+b) w f M (some L)→∃L1 L2,L=L1++L2∧Go m h a w f M (some L1)∧Go m h b (w - a) (jC f L1) (jC M L1) (some L2)
  |0,b,w,f,M,L,g=>⟨[],L,rfl,rfl,by rw[Nat.zero_add] at g;exact g⟩
  | a + 1,b,w,f,M,L,g=>by
    rw[show a+1+b=(a+b)+1 by omega] at g
    rcases g with⟨_,_,e⟩ |⟨s,r,q,e1,g,e⟩
    · cases e
    · cases r with
      |none=>cases e
      | some L'=>
        cases Option.some.inj e
        obtain⟨L1,L2,rfl,g1,g2⟩:=Zi g
        exact⟨(s,fun y=>f y (s y))::L1,L2,rfl,.inr ⟨s,some L1,q,e1,g1,rfl⟩,by rw[show w - (a+1)=w - 1 - a by omega];exact g2⟩
theorem Ii:∀{k w:Nat} {f M:Nat→Nat→Int} {L:List iM},Go m h k w f M (some L)→Ok w h f→k < w→Ok (w - k) h (jC f L)
  |0,w,f,M,L,g,o,_=>by cases Option.some.inj g;exact o
  | k + 1,w,f,M,L,g,o,hk=>by
    rcases g with⟨_,_,e⟩ |⟨s,r,q,e1,g,e⟩
    · cases e
    · cases r with
      |none=>cases e
      | some L'=>
        cases Option.some.inj e
        have:=Ii g (o.less (by omega)) (by omega)
        rw[show w - (k+1)=w - 1 - k by omega];exact this
noncomputable def tkD (m:Str) (w h k:Nat) (f:Nat→Nat→Int):Option (List iM)→D
  |none=> .non
  |some L=> .tup [bw (w - k) h (jC f L),.lst (L.map (cY h)),.int (tot m h w f L)]
section
variable (hm:m= "worth"∨m= "joins") (o:Ok w h f)
include hm o
theorem akf:gU [tab w h (tbl m w h f),bw w h M]= .ok (lwD (cI (topC w h (tbl m w h f) M))):=Ie o.h1 o.h2 o.w2
theorem ajr (e:cI (topC w h (tbl m w h f) M)=[]) {e0 e1 e3 e7 e8 e9 e10:Option Ent} {acc:List D}:tkB [e0,e1,vA (.str m),e3,vA (bw w h f),vA (bw w h M),some (.lst acc),e7,e8,e9,e10]= .rt .non:=by
  have el:=akf (M:=M) hm o
  rw[e] at el
  exact aJ (bA (aU (aD (aU (aD rfl (aA rfl)) (M6 hm o)) (aA rfl)) el) rfl) (nH (jP (aZ (aB rfl rfl rfl)) (bB rfl)))
theorem ahu (q:Ib w h M s) (e:cI (topC w h (tbl m w h f) M)=[wS (tbl m w h f) M h s]) {e0 e1 e3 e8 e9 e10:Option Ent} {acc:List D} {t:Int} (hl:acc.length≤1000):tkB [e0,e1,vA (.str m),e3,vA (bw w h f),vA (bw w h M),some (.lst acc),vA (.int t),e8,e9,e10] =
    .nx [e0,e1,vA (.str m),e3,vA (bw (w - 1) h (less s f)),vA (bw (w - 1) h (less s M)),some (.lst (acc++[cY h (s,fun y=>f y (s y))])),vA (.int (t+cost h (tbl m w h f) s)),vA (.tup [.int (cost h (tbl m w h f) s),sm h s]),vA (.int (cost h (tbl m w h f) s)),vA (sm h s)]:=by
  have el:=akf (M:=M) hm o
  rw[e,amn] at el
  refine aJ (bA (aU (aD (aU (aD rfl (aA rfl)) (M6 hm o)) (aA rfl)) el) rfl) (aJ (bV (aZ (aB rfl rfl rfl)) rfl) (aJ (bA rfl rfl) (aJ (O8 (ds:=acc) (d:=cY h (s,fun y=>f y (s y))) (gJ (aD rfl (aA (aU (aD rfl (aA rfl)) (Rw q.sm o.h2))))) rfl (by omega)) (aJ (ahh (a:=t) (b:=cost h (tbl m w h f) s) rfl rfl) ?_))))
  exact sY (aU (aD rfl (aA rfl)) (Du q.sm o.h2 o.w2)) (aU (aD rfl (aA rfl)) (Du q.sm o.h2 o.w2))
end
theorem ahv {e0 e2 e3 e4 e5 e7 e8 e9 e10:Option Ent} {acc:List D} {K:Nat}:tkT (dN [e0,vA (.int (K:Int)),e2,e3,e4,e5,some (.lst acc),e7,e8,e9,e10])= .ok (decide (acc.length < K)):=by
  refine aZ (aB (aW (aA rfl) rfl) rfl ?_)
  show R.ok (D.bl (decide ((acc.length:Int) < (K:Int))))=_
  rw[decide_eq_decide.mpr (by omega:(acc.length:Int) < (K:Int)↔acc.length < K)]
theorem adC (hm:m= "worth"∨m= "joins") {e0 e3:Option Ent}:∀{k w n K:Nat} {f M:Nat→Nat→Int} {r:Option (List iM)} {acc:List D} {t:Int} {e8 e9 e10:Option Ent},Go m h k w f M r→Ok w h f→k < w→k < n→acc.length+k=K→K≤500→
    match (generalizing:=false) r with
    |none=>j9 tkT tkB n [e0,vA (.int (K:Int)),vA (.str m),e3,vA (bw w h f),vA (bw w h M),some (.lst acc),vA (.int t),e8,e9,e10]= .rt .non
    | some L=>∃z5 z8 z9 mF,j9 tkT tkB n [e0,vA (.int (K:Int)),vA (.str m),e3,vA (bw w h f),vA (bw w h M),some (.lst acc),vA (.int t),e8,e9,e10] =
        .nx [e0,vA (.int (K:Int)),vA (.str m),e3,vA (bw (w - k) h (jC f L)),z5,some (.lst (acc++L.map (cY h))),vA (.int (t+tot m h w f L)),z8,z9,mF]
  | 0,w,n,K,f,M,r,acc,t,e8,e9,e10,g,o,hw,hn,hK,hb=>by
    obtain⟨n,rfl⟩:∃j,n=j+1:=⟨n - 1,by omega⟩
    have g:r=some []:=g
    subst g
    refine⟨vA (bw w h M),e8,e9,e10,?_⟩
    rw[anE (by rw[ahv,decide_eq_false (by omega)]),List.map_nil,List.append_nil,jC,tot,Int.add_zero]
    rfl
  | k + 1,w,n,K,f,M,r,acc,t,e8,e9,e10,g,o,hw,hn,hK,hb=>by
    obtain⟨n,rfl⟩:∃j,n=j+1:=⟨n - 1,by omega⟩
    have et:∀e8 e9 e10,tkT (dN [e0,vA (.int (K:Int)),vA (.str m),e3,vA (bw w h f),vA (bw w h M),some (.lst acc),vA (.int t),e8,e9,e10])= .ok true:=fun _ _ _=>by rw[ahv,decide_eq_true (by omega)]
    rcases g with⟨e,_,rfl⟩ |⟨s,r',q,e,g,rfl⟩
    · exact anj (et _ _ _) (ajr hm o e)
    · have ih:=adC hm (e0:=e0) (e3:=e3) (n:=n) (K:=K) (acc:=acc++[cY h (s,fun y=>f y (s y))]) (t:=t+cost h (tbl m w h f) s) (e8:=vA (.tup [.int (cost h (tbl m w h f) s),sm h s])) (e9:=vA (.int (cost h (tbl m w h f) s))) (e10:=vA (sm h s)) g (o.less (by omega)) (by omega) (by omega) (by rw[List.length_append,List.length_singleton];omega) hb
      cases r' with
      |none=>exact amr (et _ _ _) (ahu hm o q e (by omega)) ih
      | some L=>
        obtain⟨z5,z8,z9,mF,e'⟩:=ih
        refine⟨z5,z8,z9,mF,amr (et _ _ _) (ahu hm o q e (by omega)) ?_⟩
        rw[e',List.append_assoc,Int.add_assoc,show w - (k+1)=w - 1 - k by omega]
        rfl
theorem ajs {r:Option (List iM)} (hm:m= "worth"∨m= "joins") (o:Ok w h f) (hk:k < w) (g:Go m h k w f M r):BW [bw w h f,.int (k:Int),.str m,bw w h M]= .ok (tkD m w h k f r):=by
  have ow:=o.w2
  have e:=adC hm (e0:=vA (bw w h f)) (e3:=vA (bw w h M)) (n:=64) (K:=k) (acc:=[]) (t:=0) (e8:=none) (e9:=none) (e10:=none) g o hk (by omega) (by rw[List.length_nil];omega) (by omega)
  cases r with
  |none=>exact iJ (aJ (sY rfl rfl) (aJ (qY rfl) (aJ (bA rfl rfl) (nH e))))
  | some L=>
    obtain⟨z5,z8,z9,mF,e⟩:=e
    rw[List.nil_append,Int.zero_add] at e
    exact iJ (aJ (sY rfl rfl) (aJ (qY rfl) (aJ (bA rfl rfl) (aJ e (bB (gJ (aD rfl (aD rfl (aA rfl)))))))))
end
end iI
namespace iI
open PySem PySem.Spec L2 Pu
section
variable {ns:List Int} {w h k:Nat} {f M:Nat→Nat→Int} {T:Nat→Nat→Nat→Int} {m:Str} {s:Nat→Nat} {ρ:au}
theorem ajt {α:Type} {c:α→Bool}:∀{l:List α},boolsOf (l.map fun a=>D.bl (c a))=some (l.map c)
  |[]=>rfl
  | a::l=>by
    show (boolsOf (l.map fun a=>D.bl (c a))).map (c a:: ·)=_
    rw[ajt];rfl
noncomputable def tw (w:Nat) (g:Nat→Int):Bool:=(List.range w).any fun x=>decide (g x=1)
noncomputable def RG (w h:Nat) (M:Nat→Nat→Int):Bool:=(List.range h).any fun y=>tw w (M y)
theorem ams {g:Nat→Int}:Hh false (.int 1) (row w g)= .ok (.bl (tw w g)):=by
  have fl:((List.range w).map fun x=>D.int (g x)).all gQ=true:=List.all_eq_true.mpr fun d hd=>by
    obtain⟨x,_,rfl⟩:=List.mem_map.mp hd
    rfl
  show (if gQ (.int 1)=true∧((List.range w).map fun x=>D.int (g x)).all gQ=true then R.ok (D.bl (((List.range w).map fun x=>D.int (g x)).any fun y=>gH y (.int 1))) else .bad)=_
  rw[if_pos ⟨rfl,fl⟩,List.any_map]
  rfl
noncomputable def R1 (w h:Nat) (M:Nat→Nat→Int):List D:=(List.range h).filterMap fun y=>if tw w (M y)=true then some (row w (M y)) else none
theorem ahw:R1 w h M=[]↔RG w h M=false:=by
  unfold R1 RG
  rw[List.filterMap_eq_nil_iff,List.any_eq_false]
  constructor
  · intro z y hy e
    have:=z y hy
    rw[if_pos e] at this;cases this
  · intro z y hy
    exact if_neg (z y hy)
theorem amt {u:au→R D} (hh:h≤20) (e:u ρ= .ok (bw w h M)):cj 1 [] (fM u) (aL 0) (bZ (bin (fun _=> .ok (.int 1)) (fun ρ=>ak ρ 0) (Hh false))) (fun ρ=>ak ρ 0) ρ= .ok (.lst (R1 w h M)):=
  Za (c:=fun y=>row w (M y)) (l:=List.range h) (jH e) (by rw[List.length_range];omega) fun y _=>Rz rfl (aZ (aB rfl rfl ams)) rfl
theorem amu:dep (.lst (R1 w h M))≤40:=by
  have:∀l:List Nat,deps (l.filterMap fun y=>if tw w (M y)=true then some (row w (M y)) else none)≤1:=fun l=>by
    induction l with
    |nil=>exact Nat.zero_le _
    | cons y l ih=>
      by_cases q:tw w (M y)=true
      · rw[List.filterMap_cons_some (b:=row w (M y)) (by rw[if_pos q]),deps]
        have d1:dep (row w (M y))≤1:=by
          unfold row
          rw[dep]
          have:=qO (c:=fun x=>D.int (M y x)) (n:=0) (l:=List.range w) fun x _=>by simp[dep]
          omega
        omega
      · rw[List.filterMap_cons_none (by rw[if_neg q])];exact ih
  rw[dep]
  have:=this (List.range h)
  unfold R1
  omega
theorem ne_nil {u:au→R D} (hh:h≤20) (e:u ρ= .ok (bw w h M)):bin (cj 1 [] (fM u) (aL 0) (bZ (bin (fun _=> .ok (.int 1)) (fun ρ=>ak ρ 0) (Hh false))) (fun ρ=>ak ρ 0)) (nQ (fun _=> .ok [])) iT ρ= .ok (.bl (RG w h M)):=by
  refine aB (amt hh e) (kh rfl) ?_
  cases q:RG w h M with
  |false=>rw[ahw.mpr q];rfl
  | true=>
    rw[iT,if_pos amu]
    cases z:R1 w h M with
    |nil=>rw[ahw.mp z] at q;cases q
    |cons a r=>rfl
theorem Vm {i n:Nat} (h1:1≤i) (h2:i≤n):lW [.int (i:Int),.int 1,.int (n:Int)]= .ok .non:=
  Og (bV (rE (iC (b:=true) (aZ (aU (aA rfl) Aj))) (iC (b:=true) (aZ (Hf rfl rfl (zR (by omega)) rfl (zR (by omega)))))) rfl)
noncomputable def nwD (low h:Nat) (f:Nat→Nat→Int):Option (List iM)→D
  |none=> .non
  |some L=>bw low h (jC f L)
noncomputable def hiD (h:Nat):Option (List iM)→D
  |none=> .non
  |some L=> .lst (L.map (cY h))
section
variable {low:Nat} {d:D} {r:Option (List iM)} (hm:m= "worth"∨m= "joins") (o:Ok w h f) (hd:dh [d,bw w h f]= .ok (bw w h M)) (h1:1≤low) (h2:low≤w) (g:Go m h (w - low) w f M r)
include hm o hd h1 h2 g
theorem Al:fQ [bw w h f,.int (low:Int),.str m,d]= .ok (tkD m w h (w - low) f r):=by
  refine iJ (aJ (lO (aU (aA rfl) (BX o))) (aJ (lO (aU (aA rfl) (tR hm))) (aJ (bA (aU (aD rfl (aA rfl)) hd) rfl) (aJ (lO (aU (aD rfl (aD rfl (aA (len0 o rfl)))) (Vm h1 h2))) (bB (aU (aD rfl (aD (x:= .int ((w - low:Nat):Int)) (aB (len0 o rfl) rfl ?_) (aD rfl (aA rfl)))) (ajs hm o (by omega) g)))))))
  show R.ok (D.int ((w:Int) - (low:Int)))=_
  rw[show (w:Int) - (low:Int)=((w - low:Nat):Int) by omega]
theorem uJ:kJ [bw w h f,.int (low:Int),.str m,d]= .ok (nwD low h f r):=by
  have e:=Al hm o hd h1 h2 g
  cases r with
  |none=>exact iJ (aJ (bA (aU (aD rfl (aD rfl (aD rfl (aA rfl)))) e) rfl) (nH (jP (aZ (aB rfl rfl rfl)) (bB rfl))))
  | some L=>
    rw[tkD,show w - (w - low)=low by omega] at e
    exact iJ (aJ (bA (aU (aD rfl (aD rfl (aD rfl (aA rfl)))) e) rfl) (aJ (bV (aZ (aB rfl rfl rfl)) rfl) (bB (aB rfl rfl (kj (i:=0) rfl)))))
theorem Dy:oO [bw w h f,.int (low:Int),.str m,d]= .ok (hiD h r):=by
  have e:=Al hm o hd h1 h2 g
  cases r with
  |none=>exact iJ (aJ (bA (aU (aD rfl (aD rfl (aD rfl (aA rfl)))) e) rfl) (nH (jP (aZ (aB rfl rfl rfl)) (bB rfl))))
  |some L=>exact iJ (aJ (bA (aU (aD rfl (aD rfl (aD rfl (aA rfl)))) e) rfl) (aJ (bV (aZ (aB rfl rfl rfl)) rfl) (bB (aB rfl rfl (kj (i:=1) rfl)))))
end
theorem ak5 {low:Nat} {L:List iM} (hm:m= "worth"∨m= "joins") (o:Ok w h f) (h1:1≤low) (h2:low≤w) (g:Go m h (w - low) w f (fun _ _=>0) (some L)):HW [bw w h f,.int (low:Int),.str m]= .ok (.int (tot m h w f L)):=
  iJ (bB (aB (aU (aD rfl (aD rfl (aD rfl (aA rfl)))) (Al hm o (oZ o) h1 h2 g)) rfl (kj (i:=2) rfl)))
theorem adD:∀{k w:Nat} {f M:Nat→Nat→Int} {L:List iM},Go m h k w f M (some L)→Ok w h f→k < w→RB h (w - k) L.reverse∧∀y < h,∀x < w,Ze (jC f L) L.reverse y x=f y x
  |0,w,f,M,L,g,o,_=>by cases Option.some.inj g;exact⟨trivial,fun _ _ _ _=>rfl⟩
  | k + 1, w,f,M,L,g,o,hk=>by
    rcases g with⟨_,_,e⟩ |⟨s,r,q,e1,g,e⟩
    · cases e
    · cases r with
      |none=>cases e
      | some L'=>
        cases Option.some.inj e
        obtain⟨i1,i2⟩:=adD g (o.less (by omega)) (by omega)
        rw[List.reverse_cons]
        refine⟨?_,fun y hy x hx=>?_⟩
        · rw[show w - (k+1)=w - 1 - k by omega]
          refine UL i1 ?_ fun y hy=>o.c y hy _ (q.sm.lt y hy)
          rw[List.length_reverse,Ih g,show w - 1 - k+k+1=w by omega]
          exact q.sm
        · have hs:=q.sm.lt y hy
          rw[Zf,jC]
          show more s (fun y=>f y (s y)) (Ze (jC (less s f) L') L'.reverse) y x=_
          unfold more
          by_cases c1:x < s y
          · rw[if_pos c1,i2 y hy x (by omega),less,if_pos c1]
          · rw[if_neg c1]
            by_cases c2:x=s y
            · rw[if_pos c2,c2]
            · rw[if_neg c2,i2 y hy (x - 1) (by omega),less,if_neg (by omega),show x - 1+1=x by omega]
theorem back_eq {L:List iM} (o:Ok w h f) (hk:k < w) (g:Go m h k w f M (some L)):mD [bw (w - k) h (jC f L),.lst (L.map (cY h))]= .ok (bw w h f):=by
  obtain⟨i1,i2⟩:=adD g o hk
  have l1:=Ih g
  have ow:=o.w2
  have e:=aep (Ii g o hk) i1 (by rw[List.length_reverse];omega)
  rw[List.map_reverse,List.reverse_reverse,List.length_reverse,l1,show w - k+k=w by omega,ahd i2] at e
  exact e
noncomputable def br (w h:Nat) (f:Nat→Nat→Int):Int:=((List.range h).map fun y=>((List.range w).map (f y)).sum).sum
theorem adE {g:Nat→Int} {n:Nat}:∀{w:Nat},n≤w→((List.range w).map fun x=>if x < n then g x else g (x+1)).sum+g n=((List.range (w+1)).map g).sum
  | w,hn=>by
    by_cases c:n=w
    · subst c
      rw[List.range_succ,List.map_append,List.sum_append,xO (p:=fun x=>if x < n then g x else g (x+1)) (q:=g) fun x hx=>if_pos (List.mem_range.mp hx)]
      simp
    · obtain⟨v,rfl⟩:∃v,w=v+1:=⟨w - 1,by omega⟩
      have ih:=adE (g:=g) (n:=n) (w:=v) (by omega)
      rw[List.range_succ,List.map_append,List.sum_append,List.range_succ (n:=v+1),List.map_append,List.sum_append,←ih]
      have:¬v < n:=by omega
      simp[this];omega
theorem sum_add {α:Type} {p q:α→Int}:∀{l:List α},(l.map p).sum+(l.map q).sum=(l.map fun a=>p a+q a).sum
  |[]=>rfl
  | a::l=>by
    have:=sum_add (p:=p) (q:=q) (l:=l)
    simp only[List.map_cons,List.sum_cons];omega
theorem ak6 (q:oU w h s) (h1:1≤w):br (w - 1) h (less s f)+((List.range h).map fun y=>f y (s y)).sum=br w h f:=by
  unfold br
  rw[sum_add]
  refine congrArg List.sum (xO fun y hy=>?_)
  have hs:=q.lt y (List.mem_range.mp hy)
  obtain⟨v,rfl⟩:∃v,w=v+1:=⟨w - 1,by omega⟩
  exact adE (g:=f y) (n:=s y) (by omega)
theorem akg:∀{k w:Nat} {f M:Nat→Nat→Int} {L:List iM},Go m h k w f M (some L)→k < w→br (w - k) h (jC f L)+(L.map fun p=>((List.range h).map p.2).sum).sum=br w h f
  |0,w,f,M,L,g,_=>by cases Option.some.inj g;simp[jC]
  | k + 1,w,f,M,L,g,hk=>by
    rcases g with⟨_,_,e⟩ |⟨s,r,q,e1,g,e⟩
    · cases e
    · cases r with
      |none=>cases e
      | some L'=>
        cases Option.some.inj e
        have i:=akg g (by omega)
        rw[←ak6 q.sm (by omega),←i,show w - (k+1)=w - 1 - k by omega,List.map_cons,List.sum_cons]
        show br (w - 1 - k) h (jC (less s f) L')+(((List.range h).map fun y=>f y (s y)).sum+_)=_
        omega
theorem amv (hm:m= "worth"∨m= "joins") (o:Ok w h f) (q:Ib w h (fun _ _=>0) s) (e:cI (topC w h (tbl m w h f) fun _ _=>0)=[wS (tbl m w h f) (fun _ _=>0) h s]) (w1:1 < w) {t:Int} {e0 e1 e2 e3 e5 e6 e7 e8 e9 p7 uV uW:Option Ent}:
    l1B [e0,e1,e2,e3,vA (.str m),e5,e6,e7,e8,e9,vA (bw w h f),vA (.int t),vA (sm h s),p7,uV,uW] =
      .nx [e0,e1,e2,e3,vA (.str m),e5,e6,e7,e8,e9,vA (bw (w - 1) h (less s f)),vA (.int (t+cost h (tbl m w h f) s)),vA (sm h s),p7,uV,uW]:=by
  have el:=Vl hm o (oZ o)
  rw[e,amo] at el
  refine aJ (bV (aZ (aB rfl (lD (aA rfl) (aA rfl) el) (Pu.jO rfl amq))) rfl) ?_
  exact sY (aB rfl (lD (aD rfl (aA rfl)) (aA rfl) (aek hm o q.sm)) rfl) (aU (aD rfl (aA rfl)) (ama o q.sm w1))
theorem adF (hm:m= "worth"∨m= "joins") {e0 e1 e2 e3 e5 e6 e7 e8 e9 uV uW:Option Ent}:∀{k w:Nat} {f:Nat→Nat→Int} {L:List iM} {t:Int} {wu p7:Option Ent},Go m h k w f (fun _ _=>0) (some L)→Ok w h f→k < w→
    ∃ zT zU,forL (c7 (dg 2 (bf (aL 12) (bf (aL 13) nilG)))) l1B (L.map (cY h)) [e0,e1,e2,e3,vA (.str m),e5,e6,e7,e8,e9,vA (bw w h f),vA (.int t),wu,p7,uV,uW] =
      .nx [e0,e1,e2,e3,vA (.str m),e5,e6,e7,e8,e9,vA (bw (w - k) h (jC f L)),vA (.int (t+tot m h w f L)),zT,zU,uV,uW]
  | 0,w,f,L,t,wu,p7,g,o,_=>by
    cases Option.some.inj g
    exact⟨wu,p7,by rw[tot,Int.add_zero];rfl⟩
  | k + 1,w,f,L,t,wu,p7,g,o,hk=>by
    rcases g with⟨_,_,e⟩ |⟨s,r,q,e1',g,e⟩
    · cases e
    · cases r with
      |none=>cases e
      | some L'=>
        cases Option.some.inj e
        rw[UW] at g
        obtain⟨zT,zU,i⟩:=adF hm (e0:=e0) (e1:=e1) (e2:=e2) (e3:=e3) (e5:=e5) (e6:=e6) (e7:=e7) (e8:=e8) (e9:=e9) (uV:=uV) (uW:=uW) (t:=t+cost h (tbl m w h f) s) (wu:=vA (sm h s)) (p7:=vA (row h fun y=>f y (s y))) g (o.less (by omega)) (by omega)
        refine⟨zT,zU,?_⟩
        rw[Int.add_assoc,show w - 1 - k=w - (k+1) by omega] at i
        exact iG rfl (amv hm o q e1' (by omega)) i
theorem amw (oV:h≤20) (w20:w≤20) (q:Ib w h M s) {e0 e1 e2 e3 e4 e5 e6 e7 e8 e9 Cg p7 uV uW:Option Ent}:
    l2B [e0,e1,e2,e3,e4,e5,e6,e7,e8,e9,vA (bw w h M),Cg,vA (sm h s),p7,uV,uW] =
      .nx [e0,e1,e2,e3,e4,e5,e6,e7,e8,e9,vA (bw (w - 1) h (less s M)),Cg,vA (sm h s),p7,uV,uW]:=by
  have es:=ajn (M:=M) (k:=1) oV q.sm
  rw[ajo.mpr q.ne] at es
  exact aJ (bV (aZ (aB (aU (aD rfl (aD rfl (aA rfl))) es) rfl rfl)) rfl) (bA (aU (aD rfl (aA rfl)) (aht q.sm oV w20)) rfl)
theorem adG (oV:h≤20) {e0 e1 e2 e3 e4 e5 e6 e7 e8 e9 Cg uV uW:Option Ent}:∀{k w:Nat} {f M:Nat→Nat→Int} {L:List iM} {wu p7:Option Ent},Go m h k w f M (some L)→w≤20→
    ∃ mF zT zU,forL (c7 (dg 2 (bf (aL 12) (bf (aL 13) nilG)))) l2B (L.map (cY h)) [e0,e1,e2,e3,e4,e5,e6,e7,e8,e9,vA (bw w h M),Cg,wu,p7,uV,uW] =
      .nx [e0,e1,e2,e3,e4,e5,e6,e7,e8,e9,mF,Cg,zT,zU,uV,uW]
  | 0,w,f,M,L,wu,p7,g,_=>by
    cases Option.some.inj g
    exact⟨_,_,_,rfl⟩
  | k + 1,w,f,M,L,wu,p7,g,hw=>by
    rcases g with⟨_,_,e⟩ |⟨s,r,q,e1',g,e⟩
    · cases e
    · cases r with
      |none=>cases e
      | some L'=>
        cases Option.some.inj e
        obtain⟨mF,zT,zU,i⟩:=adG oV (e0:=e0) (e1:=e1) (e2:=e2) (e3:=e3) (e4:=e4) (e5:=e5) (e6:=e6) (e7:=e7) (e8:=e8) (e9:=e9) (Cg:=Cg) (uV:=uV) (uW:=uW) (wu:=vA (sm h s)) (p7:=vA (row h fun y=>f y (s y))) g (by omega)
        exact⟨mF,zT,zU,iG rfl (amw oV hw q) i⟩
theorem amx {L:List iM}:dep (.lst (L.map (cY h)))≤40:=by
  rw[dep]
  have:=Zg (l:=L.map (cY h)) (n:=2) (fun d hd=>by obtain⟨p,_,rfl⟩:=List.mem_map.mp hd;exact ajq)
  omega
end
end iI
namespace iI
open PySem PySem.Spec L2 Pu
section
variable {ns:List Int} {w h k:Nat} {f M:Nat→Nat→Int} {T:Nat→Nat→Nat→Int} {m:Str} {s:Nat→Nat} {ρ:au}
theorem adH {L2:List iM}:∀{L1:List iM} {f:Nat→Nat→Int},jC (jC f L1) L2=jC f (L1++L2)
  |[],_=>rfl
  |_::L1,_=>adH (L1:=L1)
theorem adI {i j:Int}:iT (.tup [.int i,.int j]) (.tup [.int i,.int j])= .ok (.bl false):=Pu.jO rfl (by simp[dep,deps])
theorem amy {low:Nat} {L:List iM} (o:Ok w h f) (h1:1≤low) (h2:low≤w) (g:Go m h (w - low) w f M (some L)) {e0 e2 e4 e7 e8 e9 e10 Cg wu p7:Option Ent}:
    ∃ mF zT zU,l3B [e0,vA (bw w h f),e2,vA (.int (h:Int)),e4,vA (bw w h M),vA (.int (low:Int)),e7,e8,e9,e10,Cg,wu,p7,vA (bw low h (jC f L)),vA (.lst (L.map (cY h)))] =
      .nx [e0,vA (bw w h f),e2,vA (.int (h:Int)),e4,vA (bw w h M),vA (.int (low:Int)),e7,e8,e9,mF,Cg,zT,zU,vA (bw low h (jC f L)),vA (.lst (L.map (cY h)))]:=by
  have ow:=o.w1
  have eb:=back_eq o (by omega) g
  have oa:=Ii g o (by omega)
  rw[show w - (w - low)=low by omega] at eb oa
  obtain⟨mF,zT,zU,i⟩:=adG o.h2 (e0:=e0) (e1:=vA (bw w h f)) (e2:=e2) (e3:=vA (.int (h:Int))) (e4:=e4) (e5:=vA (bw w h M)) (e6:=vA (.int (low:Int))) (e7:=e7) (e8:=e8) (e9:=e9) (Cg:=Cg) (uV:=vA (bw low h (jC f L))) (uW:=vA (.lst (L.map (cY h)))) (wu:=wu) (p7:=p7) g o.w2
  exact⟨mF,zT,zU,aJ (bV (rE (aZ (aB (aU (aD rfl (aA rfl)) eb) rfl (Pu.jO rfl K5))) (aZ (aB (aU (aA rfl) (size_eq oa)) (gJ (aD rfl (aA rfl))) adI))) rfl) (aJ (bA rfl rfl) (oK (qP rfl) i))⟩
theorem aju (ns:List Int) (hns:ns.length≤63):OJ [.lst (ns.map .int)]= .ok (.bl true):=by
  have hn:ns.length≤1000000:=by omega
  obtain⟨w,h,f,e1,o,hw,hh⟩:=aml (ns:=ns) hn
  obtain⟨M,e2,hM⟩:=ajp (ns:=ns) hn o
  obtain⟨m,hm,e3⟩:=ahs (ns:=ns) hn
  have w1:=o.w1
  have h1:=o.h1
  obtain⟨d1,d2,d3⟩:=uF (k:=141) (m:=(w:Int)) hn (by omega) (by omega)
  obtain⟨low,hlow⟩:=Int.eq_ofNat_of_zero_le (show 0≤1+dr ns 141 (w:Int) by omega)
  have l1:1≤low:=by omega
  have l2:low≤w:=by omega
  obtain⟨c1,c2,c3⟩:=uF (k:=142) (m:=(w:Int) - (low:Int)+1) hn (by omega) (by omega)
  obtain⟨mid,hmid⟩:=Int.eq_ofNat_of_zero_le (show 0≤(low:Int)+dr ns 142 ((w:Int) - (low:Int)+1) by omega)
  have m1:low≤mid:=by omega
  have m2:mid≤w:=by omega
  obtain⟨r0,g0⟩:=aer (m:=m) h1 (k:=w - low) (w:=w) (f:=f) (M:=fun _ _=>0)
  obtain⟨L,rfl⟩:=RD (by omega) (fun _ _ _ _=>by decide) g0
  have ga:=g0
  rw[show w - low=(w - mid)+(mid - low) by omega] at ga
  obtain⟨L1,L2,eL,ga,gb⟩:=Zi ga
  rw[show w - (w - mid)=mid by omega,Zh] at gb
  have lL:=Ih g0
  have lL1:=Ih ga
  have oL:=Ii g0 o (by omega)
  have o1:=Ii ga o (by omega)
  rw[show w - (w - low)=low by omega] at oL
  rw[show w - (w - mid)=mid by omega] at o1
  have eh:=Dy hm o (oZ o) l1 l2 g0
  have en:=uJ hm o (oZ o) l1 l2 g0
  have eh1:=Dy hm o (oZ o) (by omega) m2 ga
  have en1:=uJ hm o (oZ o) (by omega) m2 ga
  have en2:=uJ hm o1 (oZ o1) l1 m1 gb
  have eb:=back_eq o (by omega) g0
  rw[show w - (w - low)=low by omega] at eb
  have anF:jC (jC f L1) L2=jC f L:=by rw[eL,adH]
  obtain⟨r,g⟩:=aer (m:=m) h1 (k:=w - low) (w:=w) (f:=f) (M:=M)
  have ehM:=Dy hm o (Uy o hM) l1 l2 g
  have enM:=uJ hm o (Uy o hM) l1 l2 g
  refine iJ (aJ (bA (aU (aD rfl (aD rfl (aD rfl (aA rfl)))) e1) rfl) ?_)
  refine aJ (bA (aU (aA rfl) (size_eq o)) rfl) ?_
  refine aJ (sY (aU (aD rfl (aA rfl)) e3) (aU (aD rfl (aD rfl (aA rfl))) e2)) ?_
  refine aJ (bA (d:= .int (low:Int)) (aB rfl (aU (aD rfl (aD rfl (aA rfl))) d1) (congrArg (fun z=>R.ok (D.int z)) hlow)) rfl) ?_
  refine aJ (bA (d:= .int (mid:Int)) (aB rfl (aU (aD rfl (aD rfl (aA (aB (aB rfl rfl rfl) rfl rfl)))) c1) (congrArg (fun z=>R.ok (D.int z)) hmid)) rfl) ?_
  refine aJ (sY (lD (aD rfl (aA rfl)) (aA rfl) eh) (lD (aD rfl (aA rfl)) (aA rfl) en)) ?_
  refine aJ (bV (rE (aZ (aB (aU (aA rfl) (size_eq oL)) (gJ (aD rfl (aA rfl))) adI)) (aZ (aB (aW (aA rfl) rfl) (aB rfl rfl rfl) (BZ (by simp;omega))))) rfl) ?_
  refine aJ (bV (aZ (aB (aU (aD rfl (aA rfl)) eb) rfl (Pu.jO rfl K5))) rfl) ?_
  refine aJ (bV (aZ (aB (lD (aD (lD (aD rfl (aA rfl)) (aA rfl) en1) (aA rfl)) (aA rfl) en2) rfl (Pu.jO (by rw[nwD,anF];rfl) K5))) rfl) ?_
  refine aJ (bV (aZ (aB (x:= .lst (L1.map (cY h))) (y:= .lst ((L.map (cY h)).take (w - mid))) (lD (aD rfl (aA rfl)) (aA rfl) eh1) ?_ (Pu.jO ?_ amx))) rfl) ?_
  · show (R.bind _ _)=_
    show R.ok (D.lst (nT (L.map (cY h)) none (some ((w:Int) - (mid:Int)))))=_
    rw[show (w:Int) - (mid:Int)=((w - mid:Nat):Int) by omega,adn (by rw[List.length_map];omega)]
  · rw[eL,List.map_append,List.take_left' (by rw[List.length_map,lL1])]
  refine aJ (sY rfl rfl) ?_
  obtain⟨zT,zU,i1⟩:=adF hm (e0:=vA (.lst (ns.map .int))) (e1:=vA (bw w h f)) (e2:=vA (.int (w:Int))) (e3:=vA (.int (h:Int))) (e5:=vA (bw w h M)) (e6:=vA (.int (low:Int))) (e7:=vA (.int (mid:Int))) (e8:=vA (.lst (L.map (cY h)))) (e9:=vA (bw low h (jC f L))) (uV:=none) (uW:=none) (t:=0) (wu:=none) (p7:=none) g0 o (by omega)
  rw[Int.zero_add,show w - (w - low)=low by omega] at i1
  refine aJ (oK (qP rfl) i1) ?_
  refine aJ (bV (rE (aZ (aB rfl rfl (Pu.jO rfl K5))) (aZ (aB (lD (aD rfl (aA rfl)) (aA rfl) (ak5 hm o l1 l2 g0)) rfl (BZ rfl)))) rfl) ?_
  have ebr:=akg g0 (by omega)
  rw[show w - (w - low)=low by omega] at ebr
  refine aJ (bV (aZ (aB (aB (aU (aA rfl) (Gn oL)) (aW (aA (cF (c:=cY h) (h:=fun p=> .int ((List.range h).map p.2).sum) (l:=L) (qP rfl) (by omega) fun p _=>cR rfl (aW (aA rfl) ac5))) ac4) rfl) (aU (aA rfl) (Gn o)) (BZ ebr))) rfl) ?_
  refine aJ (bA (lD (aD rfl (aA rfl)) (aD rfl (aA rfl)) enM) rfl) ?_
  refine aJ (bA (lD (aD rfl (aA rfl)) (aD rfl (aA rfl)) ehM) rfl) ?_
  cases r with
  | none =>
    refine aJ (bV (aZ (aB (aB rfl rfl rfl) (aB rfl rfl rfl) rfl)) rfl) ?_
    refine aJ (bV (aZ (aB rfl rfl rfl)) rfl) (bB ?_)
    have hz:RG w h M=true:=by
      cases c:RG w h M with
      |true=>rfl
      | false=>
        obtain⟨L',e⟩:=RD (by omega) (fun y hy x hx e=>by
          have:=List.any_eq_false.mp c y (List.mem_range.mpr hy)
          exact this (List.any_eq_true.mpr ⟨x,List.mem_range.mpr hx,decide_eq_true e⟩)) g
        cases e
    show (R.bind _ _)=_
    have:=ne_nil (w:=w) (M:=M) o.h2 (ρ:=dN [vA (.lst (ns.map .int)),vA (bw w h f),vA (.int (w:Int)),vA (.int (h:Int)),vA (.str m),vA (bw w h M),vA (.int (low:Int)),vA (.int (mid:Int)),vA (.lst (L.map (cY h))),vA (bw low h (jC f L)),vA (bw low h (jC f L)),vA (.int (tot m h w f L)),zT,zU,vA .non,vA .non]) (u:=fun ρ=>ak ρ 5) rfl
    rw[hz] at this
    exact this
  | some L'=>
    obtain⟨mF,anM,anN,i3⟩:=amy o l1 l2 g (e0:=vA (.lst (ns.map .int))) (e2:=vA (.int (w:Int))) (e4:=vA (.str m)) (e7:=vA (.int (mid:Int))) (e8:=vA (.lst (L.map (cY h)))) (e9:=vA (bw low h (jC f L))) (e10:=vA (bw low h (jC f L))) (Cg:=vA (.int (tot m h w f L))) (wu:=zT) (p7:=zU)
    refine aJ (bV (aZ (aB (aB rfl rfl rfl) (aB rfl rfl rfl) rfl)) rfl) ?_
    exact aJ (jP (aZ (aB rfl rfl rfl)) i3) (bB rfl)
end
end iI
namespace iI
open PySem PySem.Spec L2 Pu
open PyProof.Rows hiding St
theorem Ln {us:List Value} {n:Nat} (hl:us.length=n+1):∃a u,us=a::u∧u.length=n:=by
  cases us with
  |nil=>cases hl
  |cons a u=>exact⟨a,u,rfl,Nat.succ.inj hl⟩
theorem xQ {F:FuncData} {ps:List Str} {us:List Value} (hl:us.length=1) (h:∀a0,bindArgs F ⟨[a0],[]⟩=pure (ps.zip [a0])):bindArgs F ⟨us,[]⟩=pure (ps.zip us):=by
  obtain⟨a0,u1,rfl,h1⟩:=Ln hl
  cases List.eq_nil_of_length_eq_zero h1
  exact h a0
theorem rN {F:FuncData} {ps:List Str} {us:List Value} (hl:us.length=2) (h:∀a0 a1,bindArgs F ⟨[a0,a1],[]⟩=pure (ps.zip [a0,a1])):bindArgs F ⟨us,[]⟩=pure (ps.zip us):=by
  obtain⟨a0,u1,rfl,h1⟩:=Ln hl
  obtain⟨a1,u2,rfl,h2⟩:=Ln h1
  cases List.eq_nil_of_length_eq_zero h2
  exact h a0 a1
theorem Gq {F:FuncData} {ps:List Str} {us:List Value} (hl:us.length=3) (h:∀a0 a1 a2,bindArgs F ⟨[a0,a1,a2],[]⟩=pure (ps.zip [a0,a1,a2])):bindArgs F ⟨us,[]⟩=pure (ps.zip us):=by
  obtain⟨a0,u1,rfl,h1⟩:=Ln hl
  obtain⟨a1,u2,rfl,h2⟩:=Ln h1
  obtain⟨a2,u3,rfl,h3⟩:=Ln h2
  cases List.eq_nil_of_length_eq_zero h3
  exact h a0 a1 a2
theorem lk4 {F:FuncData} {ps:List Str} {us:List Value} (hl:us.length=4) (h:∀a0 a1 a2 a3,bindArgs F ⟨[a0,a1,a2,a3],[]⟩=pure (ps.zip [a0,a1,a2,a3])):bindArgs F ⟨us,[]⟩=pure (ps.zip us):=by
  obtain⟨a0,u1,rfl,h1⟩:=Ln hl
  obtain⟨a1,u2,rfl,h2⟩:=Ln h1
  obtain⟨a2,u3,rfl,h3⟩:=Ln h2
  obtain⟨a3,u4,rfl,h4⟩:=Ln h3
  cases List.eq_nil_of_length_eq_zero h4
  exact h a0 a1 a2 a3
noncomputable def top (i:Nat):Stmt:=PySem.Challenge.pw_seamhall_k31_whole_narrowed.main.body.getD i (.Pass ⟨0,0,0,0⟩)
noncomputable abbrev jj:Stmt:=top 72
theorem aa4:FnScope ["_law_rows","_law_seam"] ["_law_rows","_law_seam"] (defScope jj):=⟨rfl,rfl,rfl,by decide +kernel,rfl,by decide +kernel,by decide +kernel⟩
noncomputable abbrev fV:Stmt:=top 67
theorem dZ:FnScope ["_law_script","_law_k","_law_many","_law_cell","_law_turn","_law_rest"] ["_law_script","_law_k","_law_many"] (defScope fV):=⟨rfl,rfl,rfl,by decide +kernel,rfl,by decide +kernel,by decide +kernel⟩
noncomputable abbrev eV:Stmt:=top 73
theorem RJ:FnScope ["_law_script","_law_at"] ["_law_script","_law_at"] (defScope eV):=⟨rfl,rfl,rfl,by decide +kernel,rfl,by decide +kernel,by decide +kernel⟩
noncomputable abbrev fW:Stmt:=top 70
theorem nj:FnScope ["_law_script","_law_at","_law_picture_here","_law_rows","_law_signs_here","_law_y","_law_row","_law_here"] ["_law_script","_law_at","_law_picture_here"] (defScope fW):=⟨rfl,rfl,rfl,by decide +kernel,rfl,by decide +kernel,by decide +kernel⟩
noncomputable abbrev fX:Stmt:=top 71
theorem Vn:FnScope ["_law_tags","_law_seam","_law_sign"] ["_law_tags","_law_seam","_law_sign"] (defScope fX):=⟨rfl,rfl,rfl,by decide +kernel,rfl,by decide +kernel,by decide +kernel⟩
noncomputable abbrev d7:Stmt:=top 68
theorem rO:FnScope ["_law_script","_law_at","_law_broad","_law_tall","_law_most","_law_rows","_law_y"] ["_law_script","_law_at","_law_broad","_law_tall"] (defScope d7):=⟨rfl,rfl,rfl,by decide +kernel,rfl,by decide +kernel,by decide +kernel⟩
noncomputable abbrev gW:Stmt:=top 69
theorem Zj:FnScope ["_law_script","_law_at","_law_broad","_law_tall"] ["_law_script","_law_at","_law_broad","_law_tall"] (defScope gW):=⟨rfl,rfl,rfl,by decide +kernel,rfl,by decide +kernel,by decide +kernel⟩
noncomputable abbrev kO:Stmt:=top 13
theorem aes:FnScope ["thing"] ["thing"] (defScope kO):=⟨rfl,rfl,rfl,by decide +kernel,rfl,by decide +kernel,by decide +kernel⟩
noncomputable abbrev jk:Stmt:=top 11
theorem aa5:FnScope ["thing"] ["thing"] (defScope jk):=⟨rfl,rfl,rfl,by decide +kernel,rfl,by decide +kernel,by decide +kernel⟩
noncomputable abbrev kW:Stmt:=top 12
theorem aeu:FnScope ["thing"] ["thing"] (defScope kW):=⟨rfl,rfl,rfl,by decide +kernel,rfl,by decide +kernel,by decide +kernel⟩
noncomputable abbrev mQ:Stmt:=top 14
theorem ahx:FnScope ["thing"] ["thing"] (defScope mQ):=⟨rfl,rfl,rfl,by decide +kernel,rfl,by decide +kernel,by decide +kernel⟩
noncomputable abbrev fY:Stmt:=top 15
theorem Vo:FnScope ["thing"] ["thing"] (defScope fY):=⟨rfl,rfl,rfl,by decide +kernel,rfl,by decide +kernel,by decide +kernel⟩
noncomputable abbrev d8:Stmt:=top 16
theorem Pg:FnScope ["thing"] ["thing"] (defScope d8):=⟨rfl,rfl,rfl,by decide +kernel,rfl,by decide +kernel,by decide +kernel⟩
noncomputable abbrev fZ:Stmt:=top 19
theorem Vp:FnScope ["picture"] ["picture"] (defScope fZ):=⟨rfl,rfl,rfl,by decide +kernel,rfl,by decide +kernel,by decide +kernel⟩
noncomputable abbrev rP:Stmt:=top 21
theorem adJ:FnScope ["line","last"] ["line"] (defScope rP):=⟨rfl,rfl,rfl,by decide +kernel,rfl,by decide +kernel,by decide +kernel⟩
noncomputable abbrev f9:Stmt:=top 36
theorem gA:FnScope ["picture","y","row","above","last","told","x","gap","from_left","from_right"] ["picture","y"] (defScope f9):=⟨rfl,rfl,rfl,by decide +kernel,rfl,by decide +kernel,by decide +kernel⟩
noncomputable abbrev kY:Stmt:=top 17
theorem aev:FnScope ["picture"] ["picture"] (defScope kY):=⟨rfl,rfl,rfl,by decide +kernel,rfl,by decide +kernel,by decide +kernel⟩
noncomputable abbrev mR:Stmt:=top 18
theorem U0:FnScope ["picture","wide","high"] ["picture"] (defScope mR):=⟨rfl,rfl,rfl,by decide +kernel,rfl,by decide +kernel,by decide +kernel⟩
noncomputable abbrev mU:Stmt:=top 22
theorem zV:FnScope ["picture","wide","high","across","down"] ["picture"] (defScope mU):=⟨rfl,rfl,rfl,by decide +kernel,rfl,by decide +kernel,by decide +kernel⟩
noncomputable abbrev pU:Stmt:=top 37
theorem ajv:FnScope ["picture","manner"] ["picture","manner"] (defScope pU):=⟨rfl,rfl,rfl,by decide +kernel,rfl,by decide +kernel,by decide +kernel⟩
noncomputable abbrev eX:Stmt:=top 28
theorem RK:FnScope ["thing"] ["thing"] (defScope eX):=⟨rfl,rfl,rfl,by decide +kernel,rfl,by decide +kernel,by decide +kernel⟩
noncomputable abbrev mV:Stmt:=top 34
theorem ahy:FnScope ["thing","wide","high"] ["thing","wide","high"] (defScope mV):=⟨rfl,rfl,rfl,by decide +kernel,rfl,by decide +kernel,by decide +kernel⟩
noncomputable abbrev kZ:Stmt:=top 48
theorem Ph:FnScope ["thing","picture","wide","high"] ["thing","picture"] (defScope kZ):=⟨rfl,rfl,rfl,by decide +kernel,rfl,by decide +kernel,by decide +kernel⟩
noncomputable abbrev gY:Stmt:=top 49
theorem Zk:FnScope ["thing","picture"] ["thing","picture"] (defScope gY):=⟨rfl,rfl,rfl,by decide +kernel,rfl,by decide +kernel,by decide +kernel⟩
noncomputable abbrev lg:Stmt:=top 38
theorem aew:FnScope ["row","above","place"] ["row","above","place"] (defScope lg):=⟨rfl,rfl,rfl,by decide +kernel,rfl,by decide +kernel,by decide +kernel⟩
noncomputable abbrev jm:Stmt:=top 39
theorem uK:FnScope ["table","way","total","y"] ["table","way"] (defScope jm):=⟨rfl,rfl,rfl,by decide +kernel,rfl,by decide +kernel,by decide +kernel⟩
noncomputable abbrev gB:Stmt:=top 50
theorem aex:FnScope ["picture","seam","manner"] ["picture","seam","manner"] (defScope gB):=⟨rfl,rfl,rfl,by decide +kernel,rfl,by decide +kernel,by decide +kernel⟩
noncomputable abbrev lq:Stmt:=top 53
theorem aey:FnScope ["rows","seam"] ["rows","seam"] (defScope lq):=⟨rfl,rfl,rfl,by decide +kernel,rfl,by decide +kernel,by decide +kernel⟩
noncomputable abbrev wD:Stmt:=top 55
theorem amA:FnScope ["picture","seam"] ["picture","seam"] (defScope wD):=⟨rfl,rfl,rfl,by decide +kernel,rfl,by decide +kernel,by decide +kernel⟩
noncomputable abbrev jo:Stmt:=top 32
theorem aa6:FnScope ["picture"] ["picture"] (defScope jo):=⟨rfl,rfl,rfl,by decide +kernel,rfl,by decide +kernel,by decide +kernel⟩
noncomputable abbrev lu:Stmt:=top 29
theorem aez:FnScope ["thing"] ["thing"] (defScope lu):=⟨rfl,rfl,rfl,by decide +kernel,rfl,by decide +kernel,by decide +kernel⟩
noncomputable abbrev d9:Stmt:=top 30
theorem Pj:FnScope ["thing","wide"] ["thing","wide"] (defScope d9):=⟨rfl,rfl,rfl,by decide +kernel,rfl,by decide +kernel,by decide +kernel⟩
noncomputable abbrev jq:Stmt:=top 31
theorem aa7:FnScope ["thing","picture"] ["thing","picture"] (defScope jq):=⟨rfl,rfl,rfl,by decide +kernel,rfl,by decide +kernel,by decide +kernel⟩
noncomputable abbrev gj:Stmt:=top 33
theorem Vq:FnScope ["thing","picture"] ["thing","picture"] (defScope gj):=⟨rfl,rfl,rfl,by decide +kernel,rfl,by decide +kernel,by decide +kernel⟩
noncomputable abbrev gk:Stmt:=top 58
theorem Vr:FnScope ["thing","least","most"] ["thing","least","most"] (defScope gk):=⟨rfl,rfl,rfl,by decide +kernel,rfl,by decide +kernel,by decide +kernel⟩
noncomputable abbrev eY:Stmt:=top 52
theorem RL:FnScope ["picture","seam"] ["picture","seam"] (defScope eY):=⟨rfl,rfl,rfl,by decide +kernel,rfl,by decide +kernel,by decide +kernel⟩
noncomputable abbrev rQ:Stmt:=top 35
theorem ak7:FnScope ["place","wide"] ["place","wide"] (defScope rQ):=⟨rfl,rfl,rfl,by decide +kernel,rfl,by decide +kernel,by decide +kernel⟩
noncomputable abbrev mW:Stmt:=top 41
theorem uX:FnScope ["beneath","row","x","told","place","fare"] ["beneath","row","x"] (defScope mW):=⟨rfl,rfl,rfl,by decide +kernel,rfl,by decide +kernel,by decide +kernel⟩
noncomputable abbrev pW:Stmt:=top 42
theorem mX:FnScope ["table","marks","start","gather","rows","y","row","x","mark","told","lost"] ["table","marks","start","gather"] (defScope pW):=⟨rfl,rfl,rfl,by decide +kernel,rfl,by decide +kernel,by decide +kernel⟩
noncomputable abbrev fD:Stmt:=top 43
theorem Ij:FnScope ["table","marks","many","first_ones"] ["table","marks","many"] (defScope fD):=⟨rfl,rfl,rfl,by decide +kernel,rfl,by decide +kernel,by decide +kernel⟩
noncomputable abbrev jr:Stmt:=top 44
theorem qu:FnScope ["table","rows","told","x","cell","fare"] ["table","rows"] (defScope jr):=⟨rfl,rfl,rfl,by decide +kernel,rfl,by decide +kernel,by decide +kernel⟩
noncomputable abbrev eZ:Stmt:=top 45
theorem RM:FnScope ["table","marks","many"] ["table","marks","many"] (defScope eZ):=⟨rfl,rfl,rfl,by decide +kernel,rfl,by decide +kernel,by decide +kernel⟩
noncomputable abbrev gZ:Stmt:=top 46
theorem xR:FnScope ["table","marks","found","less","cost","seam"] ["table","marks"] (defScope gZ):=⟨rfl,rfl,rfl,by decide +kernel,rfl,by decide +kernel,by decide +kernel⟩
noncomputable abbrev pX:Stmt:=top 59
theorem o7:FnScope ["picture","many","manner","marks","left","marked","steps","total","found","cost","seam"] ["picture","many","manner","marks"] (defScope pX):=⟨rfl,rfl,rfl,by decide +kernel,rfl,by decide +kernel,by decide +kernel⟩
noncomputable abbrev jt:Stmt:=top 60
theorem Lp:FnScope ["picture","wide","manner","marks","marked"] ["picture","wide","manner","marks"] (defScope jt):=⟨rfl,rfl,rfl,by decide +kernel,rfl,by decide +kernel,by decide +kernel⟩
noncomputable abbrev dX:Stmt:=top 62
theorem Pk:FnScope ["picture","wide","manner","marks","told"] ["picture","wide","manner","marks"] (defScope dX):=⟨rfl,rfl,rfl,by decide +kernel,rfl,by decide +kernel,by decide +kernel⟩
noncomputable abbrev ju:Stmt:=top 40
theorem Lq:FnScope ["picture","manner","marks","marked"] ["picture","manner","marks"] (defScope ju):=⟨rfl,rfl,rfl,by decide +kernel,rfl,by decide +kernel,by decide +kernel⟩
noncomputable abbrev dJ:Stmt:=top 51
theorem vG:FnScope ["picture","manner","marks","table","marked","found"] ["picture","manner","marks"] (defScope dJ):=⟨rfl,rfl,rfl,by decide +kernel,rfl,by decide +kernel,by decide +kernel⟩
noncomputable abbrev nq:Stmt:=top 63
theorem ak8:FnScope ["picture","wide","manner"] ["picture","wide","manner"] (defScope nq):=⟨rfl,rfl,rfl,by decide +kernel,rfl,by decide +kernel,by decide +kernel⟩
noncomputable abbrev dG:Stmt:=top 61
theorem Lr:FnScope ["picture","wide","manner","marks","told"] ["picture","wide","manner","marks"] (defScope dG):=⟨rfl,rfl,rfl,by decide +kernel,rfl,by decide +kernel,by decide +kernel⟩
noncomputable abbrev jw:Stmt:=top 56
theorem aa8:FnScope ["thing","high"] ["thing","high"] (defScope jw):=⟨rfl,rfl,rfl,by decide +kernel,rfl,by decide +kernel,by decide +kernel⟩
noncomputable abbrev lA:Stmt:=top 64
theorem aeA:FnScope ["thing","wide","high"] ["thing","wide","high"] (defScope lA):=⟨rfl,rfl,rfl,by decide +kernel,rfl,by decide +kernel,by decide +kernel⟩
noncomputable abbrev gq:Stmt:=top 54
theorem Vs:FnScope ["rows","seam","cells"] ["rows","seam","cells"] (defScope gq):=⟨rfl,rfl,rfl,by decide +kernel,rfl,by decide +kernel,by decide +kernel⟩
noncomputable abbrev lB:Stmt:=top 65
theorem pY:FnScope ["picture","steps","wide","high","told","step","seam","cells"] ["picture","steps"] (defScope lB):=⟨rfl,rfl,rfl,by decide +kernel,rfl,by decide +kernel,by decide +kernel⟩
noncomputable abbrev qD:Stmt:=top 74
theorem jT:FnScope ["_law_script","_law_picture_here","_law_broad","_law_tall","_law_mode","_law_tags","_law_low","_law_middle","_law_steps","_law_less","_law_here","_law_cost","_law_seam","_law_cells","_law_some_here","_law_rows"] ["_law_script"] (defScope qD):=⟨rfl,rfl,rfl,by decide +kernel,rfl,by decide +kernel,by decide +kernel⟩
noncomputable abbrev jU:Stmt:=(defBody fD).getD 0 (.Pass ⟨0,0,0,0⟩)
theorem Vt:Rp ["x","told","many"] ["x","told"] "many" (defScope jU):=⟨rfl,rfl,rfl,by decide +kernel,rfl,by decide +kernel,by decide +kernel,by decide +kernel,by decide +kernel⟩
structure Txt (K:PySem.W.Frag) (mg:Str→Option Value):Prop where
  Ci:∃t,mg "FREE" =some (.int 0 t)
  Cj:∃t,mg "GONE" =some (.int 2 t)
  Ik:∃t,mg "KEPT" =some (.int 1 t)
  qw:∃t,mg "MOST_CELL" =some (.int 99 t)
  nM:∃t,mg "MOST_LONG" =some (.int 20 t)
  uY:ai2 K mg "MANNERS" ["worth","joins"]
  zW:mg "abs" =none
  qF:mg "all" =none
  Il:mg "bool" =none
  ig:mg "enumerate" =none
  Pn:mg "int" =none
  dj:mg "isinstance" =none
  cO:mg "len" =none
  Ck:mg "list" =none
  zX:mg "max" =none
  Dz:mg "min" =none
  fB:mg "range" =none
  pZ:mg "reversed" =none
  tW:mg "sorted" =none
  zY:mg "sum" =none
  dB:mg "tuple" =none
  wF:mg "zip" =none
  Pq:∀d:D,PySem.W.kitOne K (.type (oA d)) (.type "int")=some (KN (oA d))
  Im:∀d:D,PySem.W.kitOne K (.type (oA d)) (.type "bool")=some (CW (oA d))
  nO:∀d:D,PySem.W.kitOne K (.type (oA d)) (.type "tuple")=some (eE (oA d))
  Io:∀d:D,PySem.W.kitOne K (.type (oA d)) (.type "list")=some (CZ (oA d))
section
variable {P:Program} {w:World} {K:PySem.W.Frag} {mg:Str→Option Value} {base:Heap}
theorem aa9 {f:Addr} {cdv:Value} {A:Around} {outer:List PySem.Env} {s:Shared} {H:Hp} {E:XK} (T:Txt K mg)  (hr:Room 0 (A.deeper (envOfC "_law_cut" (defScope jj) s.heap.objs.size f cdv))):cG (cxOf CX0 P w K mg base ["_law_rows","_law_seam"] "_law_cut" (defScope jj) f cdv A outer s H E).nox (defBody jj) Di:=by
  exact (aK (aX (gK gM rfl T.dB boot_tuple (aj (bW ["_law_row","_law_x"] [] rfl (by kernel_rfl) (by kernel_rfl) (KZ rfl T.wF (aj (dv 0) (aj (dv 1) aq))) (iB (bK (aY (by decide)) (bK (aY (by decide)) iz))) (fun _ _ _ _ nd=>nW rfl (cA (bF 0 nd) (cA (bF 1 nd) lM))) (fun _ _ _ _=>cD) (fun _ _ _ _=>(gK gM rfl T.dB boot_tuple (aj (bW ["_law_at","_law_one"] [1] rfl (by kernel_rfl) (by kernel_rfl) (BL rfl T.ig (aj (dv 0) aq)) (iB (bK (aY (by decide)) (bK (aY (by decide)) iz))) (fun _ _ _ _ nd=>nW rfl (cA (bF 0 nd) (cA (bF 1 nd) lM))) (fun _ _ _ _=>(Rf (bY (jW (dD hr)) (dv 0) (dv 2)))) (fun _ _ _ _=>(dv 1))) aq)))) aq))))
theorem abb {f:Addr} {fd:FuncData} (Fn:Fun K "_law_cut" "_law_cut" jj f fd) (hmg:mg "_law_cut" =some (.ref f)) (hb:Binds K fd ["_law_rows","_law_seam"] []) (T:Txt K mg)  :aM P w K mg base 1 "_law_cut" 2 pK:=
  bO (k:=0) (g:=Di) Fn hmg hb aa4 rfl rfl fun cdv A outer s H E hr=>aa9 T  hr
theorem Vu {f:Addr} {cdv:Value} {A:Around} {outer:List PySem.Env} {s:Shared} {H:Hp} {E:XK} (T:Txt K mg)  (hr:Room 0 (A.deeper (envOfC "_law_drawn" (defScope fV) s.heap.objs.size f cdv))):cG (cxOf CX0 P w K mg base ["_law_script","_law_k","_law_many","_law_cell","_law_turn","_law_rest"] "_law_drawn" (defScope fV) f cdv A outer s H E).nox (defBody fV) w6:=by
  exact (aH (bN 3 dZ.nd (aR uN aN (dv 1))) (aH (cT (bY (jW (dD hr)) (dv 0) (rm aq)) (aH (bN 3 dZ.nd (bQ (dv 0) (aR uO (dv 1) (aV cH rfl T.cO PySem.boot_len (aj (dv 0) aq))))) (aH (bN 4 dZ.nd (aR wU (dv 1) (aV cH rfl T.cO PySem.boot_len (aj (dv 0) aq)))) (aH (cT (DW.dt (agF (bY amX (dv 3) (aR agE aN aN)) (acW (bY adU (dv 4) aN)))) (aH (bN 5 dZ.nd (aR wU (dv 3) (aR agE aN aN))) (aH (Yc 64 PassesOwn.never (DW.dt (agF (bY N6 (dv 5) aN) (acW (bY N6 (dv 4) aN)))) (aH (bN 5 dZ.nd (aR wU (dv 5) aN)) (aK (bN 4 dZ.nd (aR fK (dv 4) aN))))) (aK (cT (bY N6 (dv 5) aN) (aK (aX (aR uO (aR uO (dv 5) aN) (dv 2)))) bU)))) bU) (aK (bN 3 dZ.nd (aR m7 (dv 3) (aR uN aN (aR wU (dv 1) (aV cH rfl T.cO PySem.boot_len (aj (dv 0) aq)))))))))) bU) (aH (bN 3 dZ.nd (aR uO (aR m7 (aR uN (aR uO (dv 3) aN) aN) (aR uN aN (aR m7 (dv 1) aN))) aN)) (aH (bN 3 dZ.nd (aR uO (aR m7 (aR uN (dv 3) (dv 3)) (aR wU (dv 3) aN)) aN)) (aK (aX (aR uO (aR wU (aR uO (aR m7 (aR uN (dv 3) (dv 3)) (aR wU (dv 3) aN)) aN) aN) (dv 2))))))))
theorem Vv {f:Addr} {fd:FuncData} (Fn:Fun K "_law_drawn" "_law_drawn" fV f fd) (hmg:mg "_law_drawn" =some (.ref f)) (hb:Binds K fd ["_law_script","_law_k","_law_many"] []) (T:Txt K mg)  :aM P w K mg base 1 "_law_drawn" 3 bJ:=
  bO (k:=0) (g:=w6) Fn hmg hb dZ rfl rfl fun cdv A outer s H E hr=>Vu T  hr
theorem RN {f:Addr} {cdv:Value} {A:Around} {outer:List PySem.Env} {s:Shared} {H:Hp} {E:XK} (T:Txt K mg) (bD:aM P w K mg base 1 "_law_drawn" 3 bJ) (hr:Room 1 (A.deeper (envOfC "_law_manner" (defScope eV) s.heap.objs.size f cdv))):cG (cxOf CX0 P w K mg base ["_law_script","_law_at"] "_law_manner" (defScope eV) f cdv A outer s H E).nox (defBody eV) vo:=by
  exact (aK (aX (bQ (rm (aj X4 (aj X4 aq))) (bh bD hr (by decide) (aj (dv 0) (aj (dv 1) (aj aN aq)))))))
theorem RP {f:Addr} {fd:FuncData} (Fn:Fun K "_law_manner" "_law_manner" eV f fd) (hmg:mg "_law_manner" =some (.ref f)) (hb:Binds K fd ["_law_script","_law_at"] []) (T:Txt K mg) (bD:aM P w K mg base 1 "_law_drawn" 3 bJ):aM P w K mg base 2 "_law_manner" 2 jZ:=
  bO (k:=1) (g:=vo) Fn hmg hb RJ rfl rfl fun cdv A outer s H E hr=>RN T bD hr
theorem il1 {X:Cx} {a:Int} {ja} {pa q}:DE X (.List [.Constant (.int a) ja pa] q) (nQ (ao (fun _=> .ok (.int a)) (fun _=> .ok []))):=rm (aj aN aq)
theorem il5 {X:Cx} {a b c d e:Int} {ja jb jc jd je} {pa pb pc pd pe q}:DE X (.List [.Constant (.int a) ja pa,.Constant (.int b) jb pb,.Constant (.int c) jc pc,.Constant (.int d) jd pd,.Constant (.int e) je pe] q) (nQ (ao (fun _=> .ok (.int a)) (ao (fun _=> .ok (.int b)) (ao (fun _=> .ok (.int c)) (ao (fun _=> .ok (.int d)) (ao (fun _=> .ok (.int e)) (fun _=> .ok []))))))):=rm (aj aN (aj aN (aj aN (aj aN (aj aN aq)))))
theorem Vw {f:Addr} {cdv:Value} {A:Around} {outer:List PySem.Env} {s:Shared} {H:Hp} {E:XK} (T:Txt K mg) (bD:aM P w K mg base 1 "_law_drawn" 3 bJ) (hr:Room 1 (A.deeper (envOfC "_law_marks" (defScope fW) s.heap.objs.size f cdv))):cG (cxOf CX0 P w K mg base ["_law_script","_law_at","_law_picture_here","_law_rows","_law_signs_here","_law_y","_law_row","_law_here"] "_law_marks" (defScope fW) f cdv A outer s H E).nox (defBody fW) xg:=by
  refine (aH (sS 3 nj.nd aq) (aH ?_ ?_))
  · refine bN 4 ?_ ?_ (hi:=?_) (hx:=?_) (hs:=?_) (hf:=?_)
    · exact nj.nd
    · refine bQ ?_ ?_
      · refine rm ?_
        refine aj ?_ ?_
        · exact il5
        refine aj ?_ ?_
        · exact il5
        refine aj ?_ ?_
        · exact il5
        refine aj ?_ ?_
        · exact il1
        exact aq
      · exact (bh bD hr (by decide) (aj (dv 0) (aj (dv 1) (aj aN aq))))
    · rfl
    · first |exact Or.inl rfl |exact Or.inr rfl
    · rfl
    · first |exact Or.inl rfl |exact Or.inr rfl
  · exact (aH (oh PassesOwn.never rfl (BL rfl T.ig (aj (dv 2) aq)) (wL 5 6 rfl nj.nd) (aH (bN 7 nj.nd (aR cU (aR cU (dv 1) aN) (aR Rk (aV cH rfl T.cO PySem.boot_len (aj (dv 6) aq)) (dv 5)))) (aK (G8 3 (gK gM rfl T.dB boot_tuple (aj (bW ["_law_x"] [7,0,4] rfl (by kernel_rfl) (by kernel_rfl) (j7 rfl T.fB (aj (aV cH rfl T.cO PySem.boot_len (aj (dv 6) aq)) aq)) (aY (by decide)) (fun _ _ _ _ nd=>bF 0 nd) (fun _ _ _ _=>cD) (fun _ _ _ _=>(bQ (dv 3) (bh bD hr (by decide) (aj (dv 2) (aj (aR cU (dv 1) (dv 0)) (aj (aV cH rfl T.cO PySem.boot_len (aj (dv 3) aq)) aq))))))) aq)))))) (aK (aX (gK gM rfl T.dB boot_tuple (aj (dv 3) aq)))))
theorem Vx {f:Addr} {fd:FuncData} (Fn:Fun K "_law_marks" "_law_marks" fW f fd) (hmg:mg "_law_marks" =some (.ref f)) (hb:Binds K fd ["_law_script","_law_at","_law_picture_here"] []) (T:Txt K mg) (bD:aM P w K mg base 1 "_law_drawn" 3 bJ):aM P w K mg base 2 "_law_marks" 3 lQ:=
  bO (k:=1) (g:=xg) Fn hmg hb nj rfl rfl fun cdv A outer s H E hr=>Vw T bD hr
theorem Vy {f:Addr} {cdv:Value} {A:Around} {outer:List PySem.Env} {s:Shared} {H:Hp} {E:XK} (T:Txt K mg)  (hr:Room 0 (A.deeper (envOfC "_law_signs" (defScope fX) s.heap.objs.size f cdv))):cG (cxOf CX0 P w K mg base ["_law_tags","_law_seam","_law_sign"] "_law_signs" (defScope fX) f cdv A outer s H E).nox (defBody fX) xq:=by
  exact (aK (aX (aV cH rfl T.cO PySem.boot_len (aj (bW ["_law_row","_law_x"] [2] rfl (by kernel_rfl) (by kernel_rfl) (KZ rfl T.wF (aj (dv 0) (aj (dv 1) aq))) (iB (bK (aY (by decide)) (bK (aY (by decide)) iz))) (fun _ _ _ _ nd=>nW rfl (cA (bF 0 nd) (cA (bF 1 nd) lM))) (fun _ _ _ _=>(Rf (bY (zK (dD hr)) (bQ (dv 0) (dv 1)) (dv 2)))) (fun _ _ _ _=>(dv 1))) aq))))
theorem Vz {f:Addr} {fd:FuncData} (Fn:Fun K "_law_signs" "_law_signs" fX f fd) (hmg:mg "_law_signs" =some (.ref f)) (hb:Binds K fd ["_law_tags","_law_seam","_law_sign"] []) (T:Txt K mg)  :aM P w K mg base 1 "_law_signs" 3 lR:=
  bO (k:=0) (g:=xq) Fn hmg hb Vn rfl rfl fun cdv A outer s H E hr=>Vy T  hr
theorem Pr {f:Addr} {cdv:Value} {A:Around} {outer:List PySem.Env} {s:Shared} {H:Hp} {E:XK} (T:Txt K mg) (bD:aM P w K mg base 1 "_law_drawn" 3 bJ) (hr:Room 1 (A.deeper (envOfC "_law_picture" (defScope d7) s.heap.objs.size f cdv))):cG (cxOf CX0 P w K mg base ["_law_script","_law_at","_law_broad","_law_tall","_law_most","_law_rows","_law_y"] "_law_picture" (defScope d7) f cdv A outer s H E).nox (defBody d7) tD:=by
  exact (aH (akp 4 5 rfl rO.nd (bQ (rm (aj aN (aj aN (aj aN (aj aN aq))))) (bh bD hr (by decide) (aj (dv 0) (aj (dv 1) (aj aN aq))))) aq) (aH (oh PassesOwn.never rfl (j7 rfl T.fB (aj (dv 3) aq)) (wY 6 rO.nd) (aK (G8 5 (gK gM rfl T.dB boot_tuple (aj (bW ["_law_x"] [1,2,4,0,6] rfl (by kernel_rfl) (by kernel_rfl) (j7 rfl T.fB (aj (dv 2) aq)) (aY (by decide)) (fun _ _ _ _ nd=>bF 0 nd) (fun _ _ _ _=>cD) (fun _ _ _ _=>(bh bD hr (by decide) (aj (dv 4) (aj (aR m7 (aR m7 (aR m7 (dv 1) aN) (aR uN (dv 2) (dv 5))) (dv 0)) (aj (dv 3) aq)))))) aq))))) (aK (aX (gK gM rfl T.dB boot_tuple (aj (dv 5) aq))))))
theorem Px {f:Addr} {fd:FuncData} (Fn:Fun K "_law_picture" "_law_picture" d7 f fd) (hmg:mg "_law_picture" =some (.ref f)) (hb:Binds K fd ["_law_script","_law_at","_law_broad","_law_tall"] []) (T:Txt K mg) (bD:aM P w K mg base 1 "_law_drawn" 3 bJ):aM P w K mg base 2 "_law_picture" 4 jJ:=
  bO (k:=1) (g:=tD) Fn hmg hb rO rfl rfl fun cdv A outer s H E hr=>Pr T bD hr
theorem Zm {f:Addr} {cdv:Value} {A:Around} {outer:List PySem.Env} {s:Shared} {H:Hp} {E:XK} (T:Txt K mg) (bD:aM P w K mg base 1 "_law_drawn" 3 bJ) (lY:aM P w K mg base 2 "_law_picture" 4 jJ) (hr:Room 2 (A.deeper (envOfC "_law_some" (defScope gW) s.heap.objs.size f cdv))):cG (cxOf CX0 P w K mg base ["_law_script","_law_at","_law_broad","_law_tall"] "_law_some" (defScope gW) f cdv A outer s H E).nox (defBody gW) Af:=by
  exact (aK (aX (bh lY hr (by decide) (aj (dv 0) (aj (aR m7 (dv 1) aN) (aj (aR m7 aN (bh bD hr (by decide) (aj (dv 0) (aj (dv 1) (aj (dv 2) aq))))) (aj (aR m7 aN (bh bD hr (by decide) (aj (dv 0) (aj (aR m7 (dv 1) aN) (aj (dv 3) aq))))) aq)))))))
theorem Zn {f:Addr} {fd:FuncData} (Fn:Fun K "_law_some" "_law_some" gW f fd) (hmg:mg "_law_some" =some (.ref f)) (hb:Binds K fd ["_law_script","_law_at","_law_broad","_law_tall"] []) (T:Txt K mg) (bD:aM P w K mg base 1 "_law_drawn" 3 bJ) (lY:aM P w K mg base 2 "_law_picture" 4 jJ):aM P w K mg base 3 "_law_some" 4 nJ:=
  bO (k:=2) (g:=Af) Fn hmg hb Zj rfl rfl fun cdv A outer s H E hr=>Zm T bD lY hr
theorem aeB {f:Addr} {cdv:Value} {A:Around} {outer:List PySem.Env} {s:Shared} {H:Hp} {E:XK} (T:Txt K mg)  (hr:Room 0 (A.deeper (envOfC "is_line" (defScope kO) s.heap.objs.size f cdv))):cG (cxOf CX0 P w K mg base ["thing"] "is_line" (defScope kO) f cdv A outer s H E).nox (defBody kO) Hw:=by
  obtain⟨abd,Am⟩:=T.nM
  exact (aK (aX (nU (pI (ans:=eE) T.nO (dv 0) rfl T.dj boot_isinstance rfl T.dB boot_tuple) (qb (CK uD uD aN (aV cH rfl T.cO PySem.boot_len (aj (dv 0) aq)) (qM rfl Am))))))
theorem aeC {f:Addr} {fd:FuncData} (Fn:Fun K "is_line" "is_line" kO f fd) (hmg:mg "is_line" =some (.ref f)) (hb:Binds K fd ["thing"] []) (T:Txt K mg)  :aM P w K mg base 1 "is_line" 1 jA:=
  bO (k:=0) (g:=Hw) Fn hmg hb aes rfl rfl fun cdv A outer s H E hr=>aeB T  hr
theorem abe {f:Addr} {cdv:Value} {A:Around} {outer:List PySem.Env} {s:Shared} {H:Hp} {E:XK} (T:Txt K mg)  (hr:Room 0 (A.deeper (envOfC "is_whole" (defScope jk) s.heap.objs.size f cdv))):cG (cxOf CX0 P w K mg base ["thing"] "is_whole" (defScope jk) f cdv A outer s H E).nox (defBody jk) Dj:=by
  exact (aK (aX (nU (pI (ans:=KN) T.Pq (dv 0) rfl T.dj boot_isinstance rfl T.Pn boot_int) (qb (alI (pI (ans:=CW) T.Im (dv 0) rfl T.dj boot_isinstance rfl T.Il boot_bool))))))
theorem abf {f:Addr} {fd:FuncData} (Fn:Fun K "is_whole" "is_whole" jk f fd) (hmg:mg "is_whole" =some (.ref f)) (hb:Binds K fd ["thing"] []) (T:Txt K mg)  :aM P w K mg base 1 "is_whole" 1 cX:=
  bO (k:=0) (g:=Dj) Fn hmg hb aa5 rfl rfl fun cdv A outer s H E hr=>abe T  hr
theorem aeD {f:Addr} {cdv:Value} {A:Around} {outer:List PySem.Env} {s:Shared} {H:Hp} {E:XK} (T:Txt K mg) (cJ:aM P w K mg base 1 "is_whole" 1 cX) (hr:Room 1 (A.deeper (envOfC "is_cell" (defScope kW) s.heap.objs.size f cdv))):cG (cxOf CX0 P w K mg base ["thing"] "is_cell" (defScope kW) f cdv A outer s H E).nox (defBody kW) Hx:=by
  obtain⟨amV,abg⟩:=T.qw
  exact (aK (aX (nU (bh cJ hr (by decide) (aj (dv 0) aq)) (qb (CK uD uD aN (dv 0) (qM rfl abg))))))
theorem aeE {f:Addr} {fd:FuncData} (Fn:Fun K "is_cell" "is_cell" kW f fd) (hmg:mg "is_cell" =some (.ref f)) (hb:Binds K fd ["thing"] []) (T:Txt K mg) (cJ:aM P w K mg base 1 "is_whole" 1 cX):aM P w K mg base 2 "is_cell" 1 kI:=
  bO (k:=1) (g:=Hx) Fn hmg hb aeu rfl rfl fun cdv A outer s H E hr=>aeD T cJ hr
theorem ahz {f:Addr} {cdv:Value} {A:Around} {outer:List PySem.Env} {s:Shared} {H:Hp} {E:XK} (T:Txt K mg) (jD:aM P w K mg base 2 "is_cell" 1 kI) (jE:aM P w K mg base 1 "is_line" 1 jA) (hr:Room 2 (A.deeper (envOfC "is_row" (defScope mQ) s.heap.objs.size f cdv))):cG (cxOf CX0 P w K mg base ["thing"] "is_row" (defScope mQ) f cdv A outer s H E).nox (defBody mQ) MF:=by
  exact (aK (aX (nU (bh jE hr (by decide) (aj (dv 0) aq)) (qb (aV (uP rfl) rfl T.qF boot_all (aj (bW ["cell"] [] rfl (by kernel_rfl) (by kernel_rfl) (eF (dv 0)) (aY (by decide)) (fun _ _ _ _ nd=>bF 0 nd) (fun _ _ _ _=>cD) (fun _ _ _ _=>(bh jD hr (by decide) (aj (dv 0) aq)))) aq))))))
theorem ahA {f:Addr} {fd:FuncData} (Fn:Fun K "is_row" "is_row" mQ f fd) (hmg:mg "is_row" =some (.ref f)) (hb:Binds K fd ["thing"] []) (T:Txt K mg) (jD:aM P w K mg base 2 "is_cell" 1 kI) (jE:aM P w K mg base 1 "is_line" 1 jA):aM P w K mg base 3 "is_row" 1 tE:=
  bO (k:=2) (g:=MF) Fn hmg hb ahx rfl rfl fun cdv A outer s H E hr=>ahz T jD jE hr
theorem VB {f:Addr} {cdv:Value} {A:Around} {outer:List PySem.Env} {s:Shared} {H:Hp} {E:XK} (T:Txt K mg) (jE:aM P w K mg base 1 "is_line" 1 jA) (xT:aM P w K mg base 3 "is_row" 1 tE) (hr:Room 3 (A.deeper (envOfC "is_picture" (defScope fY) s.heap.objs.size f cdv))):cG (cxOf CX0 P w K mg base ["thing"] "is_picture" (defScope fY) f cdv A outer s H E).nox (defBody fY) xr:=by
  exact (aH (cT (DW.dt (wz (jM (mZ (bh jE hr (by decide) (aj (dv 0) aq)))) (q9 (jM (mZ (aV (uP rfl) rfl T.qF boot_all (aj (bW ["row"] [] rfl (by kernel_rfl) (by kernel_rfl) (eF (dv 0)) (aY (by decide)) (fun _ _ _ _ nd=>bF 0 nd) (fun _ _ _ _=>cD) (fun _ _ _ _=>(bh xT hr (by decide) (aj (dv 0) aq)))) aq))))))) (aK (aX mH)) bU) (aK (aX (aV (uP rfl) rfl T.qF boot_all (aj (bW ["row"] [0] rfl (by kernel_rfl) (by kernel_rfl) (eF (dv 0)) (aY (by decide)) (fun _ _ _ _ nd=>bF 0 nd) (fun _ _ _ _=>cD) (fun _ _ _ _=>(uM (zK (dD hr)) (aV cH rfl T.cO PySem.boot_len (aj (dv 0) aq)) (aV cH rfl T.cO PySem.boot_len (aj (bQ (dv 1) aN) aq))))) aq)))))
theorem VD {f:Addr} {fd:FuncData} (Fn:Fun K "is_picture" "is_picture" fY f fd) (hmg:mg "is_picture" =some (.ref f)) (hb:Binds K fd ["thing"] []) (T:Txt K mg) (jE:aM P w K mg base 1 "is_line" 1 jA) (xT:aM P w K mg base 3 "is_row" 1 tE):aM P w K mg base 4 "is_picture" 1 lU:=
  bO (k:=3) (g:=xr) Fn hmg hb Vo rfl rfl fun cdv A outer s H E hr=>VB T jE xT hr
theorem Py {f:Addr} {cdv:Value} {A:Around} {outer:List PySem.Env} {s:Shared} {H:Hp} {E:XK} (T:Txt K mg) (o8:aM P w K mg base 4 "is_picture" 1 lU) (hr:Room 4 (A.deeper (envOfC "need_picture" (defScope d8) s.heap.objs.size f cdv))):cG (cxOf CX0 P w K mg base ["thing"] "need_picture" (defScope d8) f cdv A outer s H E).nox (defBody d8) tH:=by
  exact (aK (cT (jM (mZ (bh o8 hr (by decide) (aj (dv 0) aq)))) (aK qG) bU))
theorem Pz {f:Addr} {fd:FuncData} (Fn:Fun K "need_picture" "need_picture" d8 f fd) (hmg:mg "need_picture" =some (.ref f)) (hb:Binds K fd ["thing"] []) (T:Txt K mg) (o8:aM P w K mg base 4 "is_picture" 1 lU):aM P w K mg base 5 "need_picture" 1 bM:=
  bO (k:=4) (g:=tH) Fn hmg hb Pg rfl rfl fun cdv A outer s H E hr=>Py T o8 hr
theorem VF {f:Addr} {cdv:Value} {A:Around} {outer:List PySem.Env} {s:Shared} {H:Hp} {E:XK} (T:Txt K mg) (bC:aM P w K mg base 5 "need_picture" 1 bM) (hr:Room 5 (A.deeper (envOfC "brightness" (defScope fZ) s.heap.objs.size f cdv))):cG (cxOf CX0 P w K mg base ["picture"] "brightness" (defScope fZ) f cdv A outer s H E).nox (defBody fZ) xu:=by
  exact (aH (lN (bh bC hr (by decide) (aj (dv 0) aq))) (aK (aX (aV (Oc rfl) rfl T.zY boot_sum (aj (bW ["row"] [] rfl (by kernel_rfl) (by kernel_rfl) (eF (dv 0)) (aY (by decide)) (fun _ _ _ _ nd=>bF 0 nd) (fun _ _ _ _=>cD) (fun _ _ _ _=>(aV (Oc rfl) rfl T.zY boot_sum (aj (dv 0) aq)))) aq)))))
theorem VG {f:Addr} {fd:FuncData} (Fn:Fun K "brightness" "brightness" fZ f fd) (hmg:mg "brightness" =some (.ref f)) (hb:Binds K fd ["picture"] []) (T:Txt K mg) (bC:aM P w K mg base 5 "need_picture" 1 bM):aM P w K mg base 6 "brightness" 1 jR:=
  bO (k:=5) (g:=xu) Fn hmg hb Vp rfl rfl fun cdv A outer s H E hr=>VF T bC hr
theorem ak9 {f:Addr} {cdv:Value} {A:Around} {outer:List PySem.Env} {s:Shared} {H:Hp} {E:XK} (T:Txt K mg)  (hr:Room 0 (A.deeper (envOfC "gaps" (defScope rP) s.heap.objs.size f cdv))):cG (cxOf CX0 P w K mg base ["line","last"] "gaps" (defScope rP) f cdv A outer s H E).nox (defBody rP) YS:=by
  exact (aH (bN 1 adJ.nd (aR fK (aV cH rfl T.cO PySem.boot_len (aj (dv 0) aq)) aN)) (aK (aX (bW ["at"] [1,0] rfl (by kernel_rfl) (by kernel_rfl) (j7 rfl T.fB (aj (aV cH rfl T.cO PySem.boot_len (aj (dv 0) aq)) aq)) (aY (by decide)) (fun _ _ _ _ nd=>bF 0 nd) (fun _ _ _ _=>cD) (fun _ _ _ _=>(aV Oj rfl T.zW boot_abs (aj (aR fK (bQ (dv 2) (aV (Ol rfl) rfl T.zX boot_max (aj (aR fK (dv 0) aN) (aj aN aq)))) (bQ (dv 2) (aV (Ym rfl) rfl T.Dz boot_min (aj (aR cU (dv 0) aN) (aj (dv 1) aq))))) aq)))))))
theorem ala {f:Addr} {fd:FuncData} (Fn:Fun K "gaps" "gaps" rP f fd) (hmg:mg "gaps" =some (.ref f)) (hb:Binds K fd ["line"] []) (T:Txt K mg)  :aM P w K mg base 1 "gaps" 1 qm:=
  bO (k:=0) (g:=YS) Fn hmg hb adJ rfl rfl fun cdv A outer s H E hr=>ak9 T  hr
theorem VH {f:Addr} {cdv:Value} {A:Around} {outer:List PySem.Env} {s:Shared} {H:Hp} {E:XK} (T:Txt K mg) (o9:aM P w K mg base 1 "gaps" 1 qm) (hr:Room 1 (A.deeper (envOfC "join_fares" (defScope f9) s.heap.objs.size f cdv))):cG (cxOf CX0 P w K mg base ["picture","y","row","above","last","told","x","gap","from_left","from_right"] "join_fares" (defScope f9) f cdv A outer s H E).nox (defBody f9) xG:=by
  exact (aH (bN 2 gA.nd (bQ (dv 0) (dv 1))) (aH (bN 3 gA.nd (bQ (dv 0) (aV (Ol rfl) rfl T.zX boot_max (aj (aR fK (dv 1) aN) (aj aN aq))))) (aH (bN 4 gA.nd (aR fK (aV cH rfl T.cO PySem.boot_len (aj (dv 2) aq)) aN)) (aH (sS 5 gA.nd aq) (aH (oh PassesOwn.never rfl (BL rfl T.ig (aj (bh o9 hr (by decide) (aj (dv 2) aq)) aq)) (wL 6 7 rfl gA.nd) (aH (bN 8 gA.nd (aR cU (dv 7) (aV Oj rfl T.zW boot_abs (aj (aR fK (bQ (dv 3) (dv 6)) (bQ (dv 2) (aV (Ol rfl) rfl T.zX boot_max (aj (aR fK (dv 6) aN) (aj aN aq))))) aq)))) (aH (bN 9 gA.nd (aR cU (dv 7) (aV Oj rfl T.zW boot_abs (aj (aR fK (bQ (dv 3) (dv 6)) (bQ (dv 2) (aV (Ym rfl) rfl T.Dz boot_min (aj (aR cU (dv 6) aN) (aj (dv 4) aq))))) aq)))) (aK (G8 5 (fL (aj (dv 8) (aj (dv 7) (aj (dv 9) aq))))))))) (aK (aX (dv 5))))))))
theorem VJ {f:Addr} {fd:FuncData} (Fn:Fun K "join_fares" "join_fares" f9 f fd) (hmg:mg "join_fares" =some (.ref f)) (hb:Binds K fd ["picture","y"] []) (T:Txt K mg) (o9:aM P w K mg base 1 "gaps" 1 qm):aM P w K mg base 2 "join_fares" 2 lV:=
  bO (k:=1) (g:=xG) Fn hmg hb gA rfl rfl fun cdv A outer s H E hr=>VH T o9 hr
theorem aeF {f:Addr} {cdv:Value} {A:Around} {outer:List PySem.Env} {s:Shared} {H:Hp} {E:XK} (T:Txt K mg) (bC:aM P w K mg base 5 "need_picture" 1 bM) (hr:Room 5 (A.deeper (envOfC "size_of" (defScope kY) s.heap.objs.size f cdv))):cG (cxOf CX0 P w K mg base ["picture"] "size_of" (defScope kY) f cdv A outer s H E).nox (defBody kY) Hy:=by
  exact (aH (lN (bh bC hr (by decide) (aj (dv 0) aq))) (aK (aX (fL (aj (aV cH rfl T.cO PySem.boot_len (aj (bQ (dv 0) aN) aq)) (aj (aV cH rfl T.cO PySem.boot_len (aj (dv 0) aq)) aq))))))
theorem aeG {f:Addr} {fd:FuncData} (Fn:Fun K "size_of" "size_of" kY f fd) (hmg:mg "size_of" =some (.ref f)) (hb:Binds K fd ["picture"] []) (T:Txt K mg) (bC:aM P w K mg base 5 "need_picture" 1 bM):aM P w K mg base 6 "size_of" 1 cQ:=
  bO (k:=5) (g:=Hy) Fn hmg hb aev rfl rfl fun cdv A outer s H E hr=>aeF T bC hr
theorem ahB {f:Addr} {cdv:Value} {A:Around} {outer:List PySem.Env} {s:Shared} {H:Hp} {E:XK} (T:Txt K mg) (bR:aM P w K mg base 6 "size_of" 1 cQ) (hr:Room 6 (A.deeper (envOfC "turned" (defScope mR) s.heap.objs.size f cdv))):cG (cxOf CX0 P w K mg base ["picture","wide","high"] "turned" (defScope mR) f cdv A outer s H E).nox (defBody mR) MJ:=by
  exact (aH (qN 1 2 rfl U0.nd (bh bR hr (by decide) (aj (dv 0) aq))) (aK (aX (gK gM rfl T.dB boot_tuple (aj (bW ["x"] [2,0] rfl (by kernel_rfl) (by kernel_rfl) (j7 rfl T.fB (aj (dv 1) aq)) (aY (by decide)) (fun _ _ _ _ nd=>bF 0 nd) (fun _ _ _ _=>cD) (fun _ _ _ _=>(gK gM rfl T.dB boot_tuple (aj (bW ["y"] [2,0] rfl (by kernel_rfl) (by kernel_rfl) (j7 rfl T.fB (aj (dv 1) aq)) (aY (by decide)) (fun _ _ _ _ nd=>bF 0 nd) (fun _ _ _ _=>cD) (fun _ _ _ _=>(bQ (bQ (dv 1) (dv 0)) (dv 2)))) aq)))) aq)))))
theorem ahC {f:Addr} {fd:FuncData} (Fn:Fun K "turned" "turned" mR f fd) (hmg:mg "turned" =some (.ref f)) (hb:Binds K fd ["picture"] []) (T:Txt K mg) (bR:aM P w K mg base 6 "size_of" 1 cQ):aM P w K mg base 7 "turned" 1 tK:=
  bO (k:=6) (g:=MJ) Fn hmg hb U0 rfl rfl fun cdv A outer s H E hr=>ahB T bR hr
theorem ahD {f:Addr} {cdv:Value} {A:Around} {outer:List PySem.Env} {s:Shared} {H:Hp} {E:XK} (T:Txt K mg) (o9:aM P w K mg base 1 "gaps" 1 qm) (bR:aM P w K mg base 6 "size_of" 1 cQ) (xU:aM P w K mg base 7 "turned" 1 tK) (hr:Room 7 (A.deeper (envOfC "worths" (defScope mU) s.heap.objs.size f cdv))):cG (cxOf CX0 P w K mg base ["picture","wide","high","across","down"] "worths" (defScope mU) f cdv A outer s H E).nox (defBody mU) MK:=by
  exact (aH (qN 1 2 rfl zV.nd (bh bR hr (by decide) (aj (dv 0) aq))) (aH (bN 3 zV.nd (bW ["row"] [] rfl (by kernel_rfl) (by kernel_rfl) (eF (dv 0)) (aY (by decide)) (fun _ _ _ _ nd=>bF 0 nd) (fun _ _ _ _=>cD) (fun _ _ _ _=>(bh o9 hr (by decide) (aj (dv 0) aq))))) (aH (bN 4 zV.nd (bW ["column"] [] rfl (by kernel_rfl) (by kernel_rfl) (eF (bh xU hr (by decide) (aj (dv 0) aq))) (aY (by decide)) (fun _ _ _ _ nd=>bF 0 nd) (fun _ _ _ _=>cD) (fun _ _ _ _=>(bh o9 hr (by decide) (aj (dv 0) aq))))) (aK (aX (gK gM rfl T.dB boot_tuple (aj (bW ["y"] [3,4,1] rfl (by kernel_rfl) (by kernel_rfl) (j7 rfl T.fB (aj (dv 2) aq)) (aY (by decide)) (fun _ _ _ _ nd=>bF 0 nd) (fun _ _ _ _=>cD) (fun _ _ _ _=>(gK gM rfl T.dB boot_tuple (aj (bW ["x"] [1,2,0] rfl (by kernel_rfl) (by kernel_rfl) (j7 rfl T.fB (aj (dv 3) aq)) (aY (by decide)) (fun _ _ _ _ nd=>bF 0 nd) (fun _ _ _ _=>cD) (fun _ _ _ _=>(aR cU (bQ (bQ (dv 1) (dv 3)) (dv 0)) (bQ (bQ (dv 2) (dv 0)) (dv 3))))) aq)))) aq)))))))
theorem ahE {f:Addr} {fd:FuncData} (Fn:Fun K "worths" "worths" mU f fd) (hmg:mg "worths" =some (.ref f)) (hb:Binds K fd ["picture"] []) (T:Txt K mg) (o9:aM P w K mg base 1 "gaps" 1 qm) (bR:aM P w K mg base 6 "size_of" 1 cQ) (xU:aM P w K mg base 7 "turned" 1 tK):aM P w K mg base 8 "worths" 1 tL:=
  bO (k:=7) (g:=MK) Fn hmg hb zV rfl rfl fun cdv A outer s H E hr=>ahD T o9 bR xU hr
theorem ajw {f:Addr} {cdv:Value} {A:Around} {outer:List PySem.Env} {s:Shared} {H:Hp} {E:XK} (T:Txt K mg) (pq:aM P w K mg base 2 "join_fares" 2 lV) (xV:aM P w K mg base 8 "worths" 1 tL) (hr:Room 8 (A.deeper (envOfC "fares" (defScope pU) s.heap.objs.size f cdv))):cG (cxOf CX0 P w K mg base ["picture","manner"] "fares" (defScope pU) f cdv A outer s H E).nox (defBody pU) Rt:=by
  exact (aH (cT (bY (zK (dD hr)) (dv 1) X4) (aK (aX (bW ["row"] [] rfl (by kernel_rfl) (by kernel_rfl) (eF (bh xV hr (by decide) (aj (dv 0) aq))) (aY (by decide)) (fun _ _ _ _ nd=>bF 0 nd) (fun _ _ _ _=>cD) (fun _ _ _ _=>(bW ["worth"] [] rfl (by kernel_rfl) (by kernel_rfl) (eF (dv 0)) (aY (by decide)) (fun _ _ _ _ nd=>bF 0 nd) (fun _ _ _ _=>cD) (fun _ _ _ _=>(fL (aj (dv 0) (aj (dv 0) (aj (dv 0) aq)))))))))) bU) (aK (aX (bW ["y"] [0] rfl (by kernel_rfl) (by kernel_rfl) (j7 rfl T.fB (aj (aV cH rfl T.cO PySem.boot_len (aj (dv 0) aq)) aq)) (aY (by decide)) (fun _ _ _ _ nd=>bF 0 nd) (fun _ _ _ _=>cD) (fun _ _ _ _=>(bh pq hr (by decide) (aj (dv 1) (aj (dv 0) aq))))))))
theorem ajx {f:Addr} {fd:FuncData} (Fn:Fun K "fares" "fares" pU f fd) (hmg:mg "fares" =some (.ref f)) (hb:Binds K fd ["picture","manner"] []) (T:Txt K mg) (pq:aM P w K mg base 2 "join_fares" 2 lV) (xV:aM P w K mg base 8 "worths" 1 tL):aM P w K mg base 9 "fares" 2 iU:=
  bO (k:=8) (g:=Rt) Fn hmg hb ajv rfl rfl fun cdv A outer s H E hr=>ajw T pq xV hr
theorem RQ {f:Addr} {cdv:Value} {A:Around} {outer:List PySem.Env} {s:Shared} {H:Hp} {E:XK} (T:Txt K mg)  (hr:Room 0 (A.deeper (envOfC "need_manner" (defScope eX) s.heap.objs.size f cdv))):cG (cxOf CX0 P w K mg base ["thing"] "need_manner" (defScope eX) f cdv A outer s H E).nox (defBody eX) vp:=by
  exact (aK (cT (bY aiU (dv 0) (akB (ss:=["worth","joins"]) rfl T.uY) (by rfl)) (aK qG) bU))
theorem RT {f:Addr} {fd:FuncData} (Fn:Fun K "need_manner" "need_manner" eX f fd) (hmg:mg "need_manner" =some (.ref f)) (hb:Binds K fd ["thing"] []) (T:Txt K mg)  :aM P w K mg base 1 "need_manner" 1 cZ:=
  bO (k:=0) (g:=vp) Fn hmg hb RK rfl rfl fun cdv A outer s H E hr=>RQ T  hr
theorem ahF {f:Addr} {cdv:Value} {A:Around} {outer:List PySem.Env} {s:Shared} {H:Hp} {E:XK} (T:Txt K mg) (cJ:aM P w K mg base 1 "is_whole" 1 cX) (hr:Room 1 (A.deeper (envOfC "is_way" (defScope mV) s.heap.objs.size f cdv))):cG (cxOf CX0 P w K mg base ["thing","wide","high"] "is_way" (defScope mV) f cdv A outer s H E).nox (defBody mV) MN:=by
  exact (aH (cT (DW.dt (wz (jM (mZ (pI (ans:=eE) T.nO (dv 0) rfl T.dj boot_isinstance rfl T.dB boot_tuple))) (q9 (bY (jW (dD hr)) (aV cH rfl T.cO PySem.boot_len (aj (dv 0) aq)) (dv 2))))) (aK (aX mH)) bU) (aH (cT (jM (mZ (aV (uP rfl) rfl T.qF boot_all (aj (bW ["place"] [1] rfl (by kernel_rfl) (by kernel_rfl) (eF (dv 0)) (aY (by decide)) (fun _ _ _ _ nd=>bF 0 nd) (fun _ _ _ _=>cD) (fun _ _ _ _=>(nU (bh cJ hr (by decide) (aj (dv 0) aq)) (qb (CK uD adU aN (dv 0) (dv 1)))))) aq)))) (aK (aX mH)) bU) (aK (aX (aV (uP rfl) rfl T.qF boot_all (aj (bW ["y"] [0] rfl (by kernel_rfl) (by kernel_rfl) (Ud rfl T.fB (aj aN (aj (dv 2) aq))) (aY (by decide)) (fun _ _ _ _ nd=>bF 0 nd) (fun _ _ _ _=>cD) (fun _ _ _ _=>(uM uD (aV Oj rfl T.zW boot_abs (aj (aR fK (bQ (dv 1) (dv 0)) (bQ (dv 1) (aR fK (dv 0) aN))) aq)) aN))) aq))))))
theorem ahG {f:Addr} {fd:FuncData} (Fn:Fun K "is_way" "is_way" mV f fd) (hmg:mg "is_way" =some (.ref f)) (hb:Binds K fd ["thing","wide","high"] []) (T:Txt K mg) (cJ:aM P w K mg base 1 "is_whole" 1 cX):aM P w K mg base 2 "is_way" 3 mO:=
  bO (k:=1) (g:=MN) Fn hmg hb ahy rfl rfl fun cdv A outer s H E hr=>ahF T cJ hr
theorem aeH {f:Addr} {cdv:Value} {A:Around} {outer:List PySem.Env} {s:Shared} {H:Hp} {E:XK} (T:Txt K mg) (lE:aM P w K mg base 2 "is_way" 3 mO) (bR:aM P w K mg base 6 "size_of" 1 cQ) (hr:Room 6 (A.deeper (envOfC "is_seam" (defScope kZ) s.heap.objs.size f cdv))):cG (cxOf CX0 P w K mg base ["thing","picture","wide","high"] "is_seam" (defScope kZ) f cdv A outer s H E).nox (defBody kZ) Hz:=by
  exact (aH (qN 2 3 rfl Ph.nd (bh bR hr (by decide) (aj (dv 1) aq))) (aK (aX (bh lE hr (by decide) (aj (dv 0) (aj (dv 2) (aj (dv 3) aq)))))))
theorem aeI {f:Addr} {fd:FuncData} (Fn:Fun K "is_seam" "is_seam" kZ f fd) (hmg:mg "is_seam" =some (.ref f)) (hb:Binds K fd ["thing","picture"] []) (T:Txt K mg) (lE:aM P w K mg base 2 "is_way" 3 mO) (bR:aM P w K mg base 6 "size_of" 1 cQ):aM P w K mg base 7 "is_seam" 2 qU:=
  bO (k:=6) (g:=Hz) Fn hmg hb Ph rfl rfl fun cdv A outer s H E hr=>aeH T lE bR hr
theorem Zo {f:Addr} {cdv:Value} {A:Around} {outer:List PySem.Env} {s:Shared} {H:Hp} {E:XK} (T:Txt K mg) (uZ:aM P w K mg base 7 "is_seam" 2 qU) (hr:Room 7 (A.deeper (envOfC "need_seam" (defScope gY) s.heap.objs.size f cdv))):cG (cxOf CX0 P w K mg base ["thing","picture"] "need_seam" (defScope gY) f cdv A outer s H E).nox (defBody gY) Ag:=by
  exact (aK (cT (jM (mZ (bh uZ hr (by decide) (aj (dv 0) (aj (dv 1) aq))))) (aK qG) bU))
theorem Zq {f:Addr} {fd:FuncData} (Fn:Fun K "need_seam" "need_seam" gY f fd) (hmg:mg "need_seam" =some (.ref f)) (hb:Binds K fd ["thing","picture"] []) (T:Txt K mg) (uZ:aM P w K mg base 7 "is_seam" 2 qU):aM P w K mg base 8 "need_seam" 2 gR:=
  bO (k:=7) (g:=Ag) Fn hmg hb Zk rfl rfl fun cdv A outer s H E hr=>Zo T uZ hr
theorem aeJ {f:Addr} {cdv:Value} {A:Around} {outer:List PySem.Env} {s:Shared} {H:Hp} {E:XK} (T:Txt K mg)  (hr:Room 0 (A.deeper (envOfC "fare_of" (defScope lg) s.heap.objs.size f cdv))):cG (cxOf CX0 P w K mg base ["row","above","place"] "fare_of" (defScope lg) f cdv A outer s H E).nox (defBody lg) HB:=by
  exact (aK (aX (bQ (bQ (dv 0) (dv 2)) (aR cU (aR fK (dv 1) (dv 2)) aN))))
theorem aeK {f:Addr} {fd:FuncData} (Fn:Fun K "fare_of" "fare_of" lg f fd) (hmg:mg "fare_of" =some (.ref f)) (hb:Binds K fd ["row","above","place"] []) (T:Txt K mg)  :aM P w K mg base 1 "fare_of" 3 dF:=
  bO (k:=0) (g:=HB) Fn hmg hb aew rfl rfl fun cdv A outer s H E hr=>aeJ T  hr
theorem abh {f:Addr} {cdv:Value} {A:Around} {outer:List PySem.Env} {s:Shared} {H:Hp} {E:XK} (T:Txt K mg) (dM:aM P w K mg base 1 "fare_of" 3 dF) (hr:Room 1 (A.deeper (envOfC "way_cost" (defScope jm) s.heap.objs.size f cdv))):cG (cxOf CX0 P w K mg base ["table","way","total","y"] "way_cost" (defScope jm) f cdv A outer s H E).nox (defBody jm) Dk:=by
  exact (aH (bN 2 uK.nd (bh dM hr (by decide) (aj (bQ (dv 0) aN) (aj (bQ (dv 1) aN) (aj (bQ (dv 1) aN) aq))))) (aH (oh PassesOwn.never rfl (Ud rfl T.fB (aj aN (aj (aV cH rfl T.cO PySem.boot_len (aj (dv 1) aq)) aq))) (wY 3 uK.nd) (aK (ag3 2 uK.nd (bh dM hr (by decide) (aj (bQ (dv 0) (dv 3)) (aj (bQ (dv 1) (aR fK (dv 3) aN)) (aj (bQ (dv 1) (dv 3)) aq))))))) (aK (aX (dv 2)))))
theorem abj {f:Addr} {fd:FuncData} (Fn:Fun K "way_cost" "way_cost" jm f fd) (hmg:mg "way_cost" =some (.ref f)) (hb:Binds K fd ["table","way"] []) (T:Txt K mg) (dM:aM P w K mg base 1 "fare_of" 3 dF):aM P w K mg base 2 "way_cost" 2 pL:=
  bO (k:=1) (g:=Dk) Fn hmg hb uK rfl rfl fun cdv A outer s H E hr=>abh T dM hr
theorem aeL {f:Addr} {cdv:Value} {A:Around} {outer:List PySem.Env} {s:Shared} {H:Hp} {E:XK} (T:Txt K mg) (gO:aM P w K mg base 9 "fares" 2 iU) (cL:aM P w K mg base 1 "need_manner" 1 cZ) (bC:aM P w K mg base 5 "need_picture" 1 bM) (fG:aM P w K mg base 8 "need_seam" 2 gR) (rR:aM P w K mg base 2 "way_cost" 2 pL) (hr:Room 9 (A.deeper (envOfC "cost_of" (defScope gB) s.heap.objs.size f cdv))):cG (cxOf CX0 P w K mg base ["picture","seam","manner"] "cost_of" (defScope gB) f cdv A outer s H E).nox (defBody gB) HD:=by
  exact (aH (lN (bh bC hr (by decide) (aj (dv 0) aq))) (aH (lN (bh cL hr (by decide) (aj (dv 2) aq))) (aH (lN (bh fG hr (by decide) (aj (dv 1) (aj (dv 0) aq)))) (aK (aX (bh rR hr (by decide) (aj (bh gO hr (by decide) (aj (dv 0) (aj (dv 2) aq))) (aj (dv 1) aq))))))))
theorem aeM {f:Addr} {fd:FuncData} (Fn:Fun K "cost_of" "cost_of" gB f fd) (hmg:mg "cost_of" =some (.ref f)) (T:Txt K mg) (gO:aM P w K mg base 9 "fares" 2 iU) (cL:aM P w K mg base 1 "need_manner" 1 cZ) (bC:aM P w K mg base 5 "need_picture" 1 bM) (fG:aM P w K mg base 8 "need_seam" 2 gR) (rR:aM P w K mg base 2 "way_cost" 2 pL):FnE P w K mg base 10 "cost_of" 3 uU fd ["picture","seam","manner"]:=
  alW (k:=9) (g:=HD) Fn hmg aex rfl rfl fun cdv A outer s H E hr=>aeL T gO cL bC fG rR hr
theorem aeN {f:Addr} {cdv:Value} {A:Around} {outer:List PySem.Env} {s:Shared} {H:Hp} {E:XK} (T:Txt K mg)  (hr:Room 0 (A.deeper (envOfC "without" (defScope lq) s.heap.objs.size f cdv))):cG (cxOf CX0 P w K mg base ["rows","seam"] "without" (defScope lq) f cdv A outer s H E).nox (defBody lq) HF:=by
  exact (aK (aX (gK gM rfl T.dB boot_tuple (aj (bW ["row","place"] [] rfl (by kernel_rfl) (by kernel_rfl) (KZ rfl T.wF (aj (dv 0) (aj (dv 1) aq))) (iB (bK (aY (by decide)) (bK (aY (by decide)) iz))) (fun _ _ _ _ nd=>nW rfl (cA (bF 0 nd) (cA (bF 1 nd) lM))) (fun _ _ _ _=>cD) (fun _ _ _ _=>(aR cU (Df (dv 0) qI (qJ (dv 1))) (Df (dv 0) (qJ (aR cU (dv 1) aN)) qI)))) aq))))
theorem aeO {f:Addr} {fd:FuncData} (Fn:Fun K "without" "without" lq f fd) (hmg:mg "without" =some (.ref f)) (hb:Binds K fd ["rows","seam"] []) (T:Txt K mg)  :aM P w K mg base 1 "without" 2 jB:=
  bO (k:=0) (g:=HF) Fn hmg hb aey rfl rfl fun cdv A outer s H E hr=>aeN T  hr
theorem amB {f:Addr} {cdv:Value} {A:Around} {outer:List PySem.Env} {s:Shared} {H:Hp} {E:XK} (T:Txt K mg) (fG:aM P w K mg base 8 "need_seam" 2 gR) (iQ:aM P w K mg base 1 "without" 2 jB) (hr:Room 8 (A.deeper (envOfC "cut" (defScope wD) s.heap.objs.size f cdv))):cG (cxOf CX0 P w K mg base ["picture","seam"] "cut" (defScope wD) f cdv A outer s H E).nox (defBody wD) aef:=by
  exact (aH (lN (bh fG hr (by decide) (aj (dv 1) (aj (dv 0) aq)))) (aH (cT (bY (zK (dD hr)) (aV cH rfl T.cO PySem.boot_len (aj (bQ (dv 0) aN) aq)) aN) (aK (aX iZ)) bU) (aK (aX (bh iQ hr (by decide) (aj (dv 0) (aj (dv 1) aq)))))))
theorem amC {f:Addr} {fd:FuncData} (Fn:Fun K "cut" "cut" wD f fd) (hmg:mg "cut" =some (.ref f)) (hb:Binds K fd ["picture","seam"] []) (T:Txt K mg) (fG:aM P w K mg base 8 "need_seam" 2 gR) (iQ:aM P w K mg base 1 "without" 2 jB):aM P w K mg base 9 "cut" 2 K4:=
  bO (k:=8) (g:=aef) Fn hmg hb amA rfl rfl fun cdv A outer s H E hr=>amB T fG iQ hr
theorem abk {f:Addr} {cdv:Value} {A:Around} {outer:List PySem.Env} {s:Shared} {H:Hp} {E:XK} (T:Txt K mg)  (hr:Room 0 (A.deeper (envOfC "all_free" (defScope jo) s.heap.objs.size f cdv))):cG (cxOf CX0 P w K mg base ["picture"] "all_free" (defScope jo) f cdv A outer s H E).nox (defBody jo) Dl:=by
  obtain⟨amD,Zr⟩:=T.Ci
  exact (aK (aX (aR Rk (fL (aj (aR Rk (fL (aj (qM rfl Zr) aq)) (aV cH rfl T.cO PySem.boot_len (aj (bQ (dv 0) aN) aq))) aq)) (aV cH rfl T.cO PySem.boot_len (aj (dv 0) aq)))))
theorem abl {f:Addr} {fd:FuncData} (Fn:Fun K "all_free" "all_free" jo f fd) (hmg:mg "all_free" =some (.ref f)) (hb:Binds K fd ["picture"] []) (T:Txt K mg)  :aM P w K mg base 1 "all_free" 1 pN:=
  bO (k:=0) (g:=Dl) Fn hmg hb aa6 rfl rfl fun cdv A outer s H E hr=>abk T  hr
theorem aeP {f:Addr} {cdv:Value} {A:Around} {outer:List PySem.Env} {s:Shared} {H:Hp} {E:XK} (T:Txt K mg) (cJ:aM P w K mg base 1 "is_whole" 1 cX) (hr:Room 1 (A.deeper (envOfC "is_mark" (defScope lu) s.heap.objs.size f cdv))):cG (cxOf CX0 P w K mg base ["thing"] "is_mark" (defScope lu) f cdv A outer s H E).nox (defBody lu) HJ:=by
  obtain⟨amD,Zr⟩:=T.Ci
  obtain⟨amE,Zt⟩:=T.Cj
  exact (aK (aX (nU (bh cJ hr (by decide) (aj (dv 0) aq)) (qb (CK uD uD (qM rfl Zr) (dv 0) (qM rfl Zt))))))
theorem aeQ {f:Addr} {fd:FuncData} (Fn:Fun K "is_mark" "is_mark" lu f fd) (hmg:mg "is_mark" =some (.ref f)) (hb:Binds K fd ["thing"] []) (T:Txt K mg) (cJ:aM P w K mg base 1 "is_whole" 1 cX):aM P w K mg base 2 "is_mark" 1 qW:=
  bO (k:=1) (g:=HJ) Fn hmg hb aez rfl rfl fun cdv A outer s H E hr=>aeP T cJ hr
theorem PB {f:Addr} {cdv:Value} {A:Around} {outer:List PySem.Env} {s:Shared} {H:Hp} {E:XK} (T:Txt K mg) (u5:aM P w K mg base 2 "is_mark" 1 qW) (hr:Room 2 (A.deeper (envOfC "is_marks_row" (defScope d9) s.heap.objs.size f cdv))):cG (cxOf CX0 P w K mg base ["thing","wide"] "is_marks_row" (defScope d9) f cdv A outer s H E).nox (defBody d9) tM:=by
  exact (aK (aX (nU (pI (ans:=eE) T.nO (dv 0) rfl T.dj boot_isinstance rfl T.dB boot_tuple) (nU (uM (zK (dD hr)) (aV cH rfl T.cO PySem.boot_len (aj (dv 0) aq)) (dv 1)) (qb (aV (uP rfl) rfl T.qF boot_all (aj (bW ["mark"] [] rfl (by kernel_rfl) (by kernel_rfl) (eF (dv 0)) (aY (by decide)) (fun _ _ _ _ nd=>bF 0 nd) (fun _ _ _ _=>cD) (fun _ _ _ _=>(bh u5 hr (by decide) (aj (dv 0) aq)))) aq)))))))
theorem PJ {f:Addr} {fd:FuncData} (Fn:Fun K "is_marks_row" "is_marks_row" d9 f fd) (hmg:mg "is_marks_row" =some (.ref f)) (hb:Binds K fd ["thing","wide"] []) (T:Txt K mg) (u5:aM P w K mg base 2 "is_mark" 1 qW):aM P w K mg base 3 "is_marks_row" 2 jK:=
  bO (k:=2) (g:=tM) Fn hmg hb Pj rfl rfl fun cdv A outer s H E hr=>PB T u5 hr
theorem abm {f:Addr} {cdv:Value} {A:Around} {outer:List PySem.Env} {s:Shared} {H:Hp} {E:XK} (T:Txt K mg) (lZ:aM P w K mg base 3 "is_marks_row" 2 jK) (hr:Room 3 (A.deeper (envOfC "is_marks" (defScope jq) s.heap.objs.size f cdv))):cG (cxOf CX0 P w K mg base ["thing","picture"] "is_marks" (defScope jq) f cdv A outer s H E).nox (defBody jq) Dm:=by
  exact (aH (cT (DW.dt (wz (jM (mZ (pI (ans:=eE) T.nO (dv 0) rfl T.dj boot_isinstance rfl T.dB boot_tuple))) (q9 (bY (jW (dD hr)) (aV cH rfl T.cO PySem.boot_len (aj (dv 0) aq)) (aV cH rfl T.cO PySem.boot_len (aj (dv 1) aq)))))) (aK (aX mH)) bU) (aK (aX (aV (uP rfl) rfl T.qF boot_all (aj (bW ["row"] [1] rfl (by kernel_rfl) (by kernel_rfl) (eF (dv 0)) (aY (by decide)) (fun _ _ _ _ nd=>bF 0 nd) (fun _ _ _ _=>cD) (fun _ _ _ _=>(bh lZ hr (by decide) (aj (dv 0) (aj (aV cH rfl T.cO PySem.boot_len (aj (bQ (dv 1) aN) aq)) aq))))) aq)))))
theorem abn {f:Addr} {fd:FuncData} (Fn:Fun K "is_marks" "is_marks" jq f fd) (hmg:mg "is_marks" =some (.ref f)) (hb:Binds K fd ["thing","picture"] []) (T:Txt K mg) (lZ:aM P w K mg base 3 "is_marks_row" 2 jK):aM P w K mg base 4 "is_marks" 2 pO:=
  bO (k:=3) (g:=Dm) Fn hmg hb aa7 rfl rfl fun cdv A outer s H E hr=>abm T lZ hr
theorem VL {f:Addr} {cdv:Value} {A:Around} {outer:List PySem.Env} {s:Shared} {H:Hp} {E:XK} (T:Txt K mg) (rT:aM P w K mg base 1 "all_free" 1 pN) (rW:aM P w K mg base 4 "is_marks" 2 pO) (hr:Room 4 (A.deeper (envOfC "full_marks" (defScope gj) s.heap.objs.size f cdv))):cG (cxOf CX0 P w K mg base ["thing","picture"] "full_marks" (defScope gj) f cdv A outer s H E).nox (defBody gj) xH:=by
  exact (aH (cT (bY Dc (dv 0) iZ) (aK (aX (bh rT hr (by decide) (aj (dv 1) aq)))) bU) (aH (cT (jM (mZ (bh rW hr (by decide) (aj (dv 0) (aj (dv 1) aq))))) (aK qG) bU) (aK (aX (dv 0)))))
theorem VN {f:Addr} {fd:FuncData} (Fn:Fun K "full_marks" "full_marks" gj f fd) (hmg:mg "full_marks" =some (.ref f)) (hb:Binds K fd ["thing","picture"] []) (T:Txt K mg) (rT:aM P w K mg base 1 "all_free" 1 pN) (rW:aM P w K mg base 4 "is_marks" 2 pO):aM P w K mg base 5 "full_marks" 2 dh:=
  bO (k:=4) (g:=xH) Fn hmg hb Vq rfl rfl fun cdv A outer s H E hr=>VL T rT rW hr
theorem VP {f:Addr} {cdv:Value} {A:Around} {outer:List PySem.Env} {s:Shared} {H:Hp} {E:XK} (T:Txt K mg) (cJ:aM P w K mg base 1 "is_whole" 1 cX) (hr:Room 1 (A.deeper (envOfC "need_width" (defScope gk) s.heap.objs.size f cdv))):cG (cxOf CX0 P w K mg base ["thing","least","most"] "need_width" (defScope gk) f cdv A outer s H E).nox (defBody gk) xJ:=by
  exact (aK (cT (DW.dt (wz (jM (mZ (bh cJ hr (by decide) (aj (dv 0) aq)))) (q9 (jM (aiM uD uD (dv 1) (dv 0) (dv 2)))))) (aK qG) bU))
theorem VR {f:Addr} {fd:FuncData} (Fn:Fun K "need_width" "need_width" gk f fd) (hmg:mg "need_width" =some (.ref f)) (hb:Binds K fd ["thing","least","most"] []) (T:Txt K mg) (cJ:aM P w K mg base 1 "is_whole" 1 cX):aM P w K mg base 2 "need_width" 3 lW:=
  bO (k:=1) (g:=xJ) Fn hmg hb Vr rfl rfl fun cdv A outer s H E hr=>VP T cJ hr
theorem RV {f:Addr} {cdv:Value} {A:Around} {outer:List PySem.Env} {s:Shared} {H:Hp} {E:XK} (T:Txt K mg)  (hr:Room 0 (A.deeper (envOfC "cells_along" (defScope eY) s.heap.objs.size f cdv))):cG (cxOf CX0 P w K mg base ["picture","seam"] "cells_along" (defScope eY) f cdv A outer s H E).nox (defBody eY) vB:=by
  exact (aK (aX (gK gM rfl T.dB boot_tuple (aj (bW ["row","place"] [] rfl (by kernel_rfl) (by kernel_rfl) (KZ rfl T.wF (aj (dv 0) (aj (dv 1) aq))) (iB (bK (aY (by decide)) (bK (aY (by decide)) iz))) (fun _ _ _ _ nd=>nW rfl (cA (bF 0 nd) (cA (bF 1 nd) lM))) (fun _ _ _ _=>cD) (fun _ _ _ _=>(bQ (dv 0) (dv 1)))) aq))))
theorem RW {f:Addr} {fd:FuncData} (Fn:Fun K "cells_along" "cells_along" eY f fd) (hmg:mg "cells_along" =some (.ref f)) (hb:Binds K fd ["picture","seam"] []) (T:Txt K mg)  :aM P w K mg base 1 "cells_along" 2 j5:=
  bO (k:=0) (g:=vB) Fn hmg hb RL rfl rfl fun cdv A outer s H E hr=>RV T  hr
theorem alb {f:Addr} {cdv:Value} {A:Around} {outer:List PySem.Env} {s:Shared} {H:Hp} {E:XK} (T:Txt K mg)  (hr:Room 0 (A.deeper (envOfC "near" (defScope rQ) s.heap.objs.size f cdv))):cG (cxOf CX0 P w K mg base ["place","wide"] "near" (defScope rQ) f cdv A outer s H E).nox (defBody rQ) YT:=by
  exact (aK (aX (aje rfl rfl T.Ck rfl T.fB (aj (aV (Ol rfl) rfl T.zX boot_max (aj (aR fK (dv 0) aN) (aj aN aq))) (aj (aV (Ym rfl) rfl T.Dz boot_min (aj (aR cU (dv 0) aN) (aj (dv 1) aq))) aq)))))
theorem alc {f:Addr} {fd:FuncData} (Fn:Fun K "near" "near" rQ f fd) (hmg:mg "near" =some (.ref f)) (hb:Binds K fd ["place","wide"] []) (T:Txt K mg)  :aM P w K mg base 1 "near" 2 BR:=
  bO (k:=0) (g:=YT) Fn hmg hb ak7 rfl rfl fun cdv A outer s H E hr=>alb T  hr
theorem ahH {f:Addr} {cdv:Value} {A:Around} {outer:List PySem.Env} {s:Shared} {H:Hp} {E:XK} (T:Txt K mg) (dM:aM P w K mg base 1 "fare_of" 3 dF) (Ip:aM P w K mg base 1 "near" 2 BR) (hr:Room 1 (A.deeper (envOfC "onward" (defScope mW) s.heap.objs.size f cdv))):cG (cxOf CX0 P w K mg base ["beneath","row","x","told","place","fare"] "onward" (defScope mW) f cdv A outer s H E).nox (defBody mW) MP:=by
  exact (aH (sS 3 uX.nd aq) (aH (oh PassesOwn.never rfl (eF (bh Ip hr (by decide) (aj (dv 2) (aj (aV cH rfl T.cO PySem.boot_len (aj (dv 0) aq)) aq)))) (wY 4 uX.nd) (aH (bN 5 uX.nd (bh dM hr (by decide) (aj (dv 1) (aj (dv 2) (aj (dv 4) aq))))) (aK (adi 3 uX.nd (bW ["less","cost","rest"] [5] rfl (by kernel_rfl) (by kernel_rfl) (eF (bQ (dv 0) (dv 4))) (iB (bK (aY (by decide)) (bK (aY (by decide)) (bK (aY (by decide)) iz)))) (fun _ _ _ _ nd=>nW rfl (cA (bF 0 nd) (cA (bF 1 nd) (cA (bF 2 nd) lM)))) (fun _ _ _ _=>cD) (fun _ _ _ _=>(fL (aj (dv 0) (aj (aR cU (dv 1) (dv 3)) (aj (dv 2) aq)))))))))) (aK (aX (dv 3)))))
theorem ahI {f:Addr} {fd:FuncData} (Fn:Fun K "onward" "onward" mW f fd) (hmg:mg "onward" =some (.ref f)) (hb:Binds K fd ["beneath","row","x"] []) (T:Txt K mg) (dM:aM P w K mg base 1 "fare_of" 3 dF) (Ip:aM P w K mg base 1 "near" 2 BR):aM P w K mg base 2 "onward" 3 tO:=
  bO (k:=1) (g:=MP) Fn hmg hb uX rfl rfl fun cdv A outer s H E hr=>ahH T dM Ip hr
theorem ajy {f:Addr} {cdv:Value} {A:Around} {outer:List PySem.Env} {s:Shared} {H:Hp} {E:XK} (T:Txt K mg) (xW:aM P w K mg base 2 "onward" 3 tO) {aG:Nat} {GG:List D→R D} (hG:Hq P w K mg base 1 GG 2 aG H) (hr:Room 2 (A.deeper (envOfC "swept" (defScope pW) s.heap.objs.size f cdv))):cG (cxOf CX0 P w K mg base ["table","marks","start","gather","rows","y","row","x","mark","told","lost"] "swept" (defScope pW) f cdv A outer s H E).nox (defBody pW) (Ru aG GG):=by
  obtain⟨amE,Zt⟩:=T.Cj
  obtain⟨anH,amF⟩:=T.Ik
  exact (aH (sS 4 mX.nd aq) (aH (oh PassesOwn.never rfl (akJ rfl T.pZ rfl T.fB (aj (aV cH rfl T.cO PySem.boot_len (aj (dv 1) aq)) aq)) (wY 5 mX.nd) (aH (sS 6 mX.nd aq) (aH (oh PassesOwn.never rfl (BL rfl T.ig (aj (bQ (dv 1) (dv 5)) aq)) (wL 7 8 rfl mX.nd) (aH (cT (bY (zK (dD hr)) (dv 8) (qM rfl amF)) (aK (bN 9 mX.nd (rm aq))) (aK (cT (jM (ag7 (dv 4))) (aK (bN 9 mX.nd (YC 3 hG hr (by decide) (aj (dv 7) (aj (rm (aj (fL (aj aN (aj aN (aj (dv 2) aq)))) aq)) aq))))) (aK (bN 9 mX.nd (YC 3 hG hr (by decide) (aj (dv 7) (aj (bh xW hr (by decide) (aj (al8 4 (alU aN)) (aj (bQ (dv 0) (aR cU (dv 5) aN)) (aj (dv 7) aq)))) aq)))))))) (aH (bN 10 mX.nd (amZ (bY (zK (dD hr)) (dv 8) (qM rfl Zt)) aN aN)) (aK (G8 6 (bW ["less","cost","rest"] [10] rfl (by kernel_rfl) (by kernel_rfl) (eF (dv 9)) (iB (bK (aY (by decide)) (bK (aY (by decide)) (bK (aY (by decide)) iz)))) (fun _ _ _ _ nd=>nW rfl (cA (bF 0 nd) (cA (bF 1 nd) (cA (bF 2 nd) lM)))) (fun _ _ _ _=>cD) (fun _ _ _ _=>(fL (aj (aR fK (dv 0) (dv 3)) (aj (dv 1) (aj (dv 2) aq))))))))))) (aK (akH 4 6 (by decide)))))) (aK (aX (akG (dv 4))))))
theorem ajz {f:Addr} {fd:FuncData} (Fn:Fun K "swept" "swept" pW f fd) (hmg:mg "swept" =some (.ref f)) (hb:Binds K fd ["table","marks","start","gather"] []) (T:Txt K mg) (xW:aM P w K mg base 2 "onward" 3 tO):FnS P w K mg base 3 "swept" 1 3 2 wN:=
  ⟨f,fd,["table","marks","start","gather"],fnS (k:=2) (m:=7) (g:=Ru) Fn mX rfl rfl fun cdv A outer s H E a G hr hG=>ajy T xW hG hr,hmg,Fn.kp,hb⟩
theorem V0 {f c:Addr} {cdv:Value} {A:Around} {outer:List PySem.Env} {s:Shared} {H:Hp} (T:Txt K mg)  (hr:Room 0 (A.deeper (Dg "best_ways.<locals>.first_ones" (defScope jU) f cdv s "many" c))):cG (Dh P w K mg base ["x","told","many"] "best_ways.<locals>.first_ones" (defScope jU) f cdv A outer s H "many" c) (defBody jU) HN:=by
  exact (aK (aX (bW ["less","cost","places"] [0] rfl (by kernel_rfl) (by kernel_rfl) (eF (Hs (aV (YM (ag8 hr)) rfl T.tW boot_sorted (aj (dv 1) aq)) qI (qJ (dv 2)))) (iB (bK (aY (by decide)) (bK (aY (by decide)) (bK (aY (by decide)) iz)))) (fun _ _ _ _ nd=>nW rfl (cA (bF 0 nd) (cA (bF 1 nd) (cA (bF 2 nd) lM)))) (fun _ _ _ _=>cD) (fun _ _ _ _=>(fL (aj (dv 0) (aj (dv 1) (aj (aR cU (fL (aj (dv 3) aq)) (dv 2)) aq))))))))
theorem RX (T:Txt K mg)  (my:Int) (a c:Addr) (H:Hp) (co:Obj) (uy:Value) (fh:oM H a "first_ones" "best_ways.<locals>.first_ones" (defArgs jU) (defBody jU) (defScope jU) [("many",c)]) (hc:H c=some (.frz co (.own c))) (hcd:co.data= .cell (some uy)) (hy:RelV (.int my) uy):Hq P w K mg base 1 (eU my) 2 a H:=
  al6 (k:=0) (m:=0) Vt rfl rfl (fun _ _ _ _ _ us hl=>rN hl fun _ _=>rfl) (fun cdv A outer s H f c hr=>V0 T  hr) fh hc hcd hy
theorem Zu {f cc TP:Addr} {A:Around} {outer:List PySem.Env} {s:Shared} {H:Hp} {E:XK} (T:Txt K mg) (Cm:FnS P w K mg base 3 "swept" 1 3 2 wN)  (hB:uI base mg cc TP) (hT:Tb [(TP,"best_ways.<locals>.first_ones")] H) (hr:Room 3 (A.deeper (envOfC "best_ways" (defScope fD) s.heap.objs.size f (.ref cc)))):cG (cxOf CX0 P w K mg base ["table","marks","many","first_ones"] "best_ways" (defScope fD) f (.ref cc) A outer s H E).nox (defBody fD) Ah:=by
  obtain⟨fS,YD,Ur,Sw,hm,hk,hb⟩:=Cm
  exact ajc (c:=s.heap.objs.size+1) (y:= "many") 3 2 Ij.nd hB hT rfl Sw (hr.mono (by decide)) hm hk hb (RX T ) (dv 0) (dv 1) (fL aq) rfl rfl rfl rfl (by decide) (.inl rfl)
theorem Zv {f cc TP:Addr} {fd:FuncData} (Fn:Fun K "best_ways" "best_ways" fD f fd) (hmg:mg "best_ways" =some (.ref f)) (T:Txt K mg) (Cm:FnS P w K mg base 3 "swept" 1 3 2 wN)  (hB:uI base mg cc TP) (hci:Hr K mg "best_ways" cc):dO P w K mg base 4 "best_ways" 3 qp fd ["table","marks","many"] [(TP,"best_ways.<locals>.first_ones")]:=by
  refine⟨f,Lg (k:=3) (m:=1) (g:=Ah) Fn Ij rfl rfl fun cdv A outer s H E hcd hr hT=>?_,hmg,Fn.kp⟩
  have e:fd.code= .ref cc:=by
    obtain⟨oc,od,kV,doc,pm,an,anO,ct,osl,e1,lk,_⟩:=Fn.ex
    exact hci f oc od fd osl hmg lk
  cases hcd.symm.trans e
  exact Zu T Cm  hB hT hr
theorem abo {f:Addr} {cdv:Value} {A:Around} {outer:List PySem.Env} {s:Shared} {H:Hp} {E:XK} (T:Txt K mg) (dM:aM P w K mg base 1 "fare_of" 3 dF) (hr:Room 1 (A.deeper (envOfC "from_top" (defScope jr) s.heap.objs.size f cdv))):cG (cxOf CX0 P w K mg base ["table","rows","told","x","cell","fare"] "from_top" (defScope jr) f cdv A outer s H E).nox (defBody jr) Dn:=by
  exact (aH (sS 2 qu.nd aq) (aH (oh PassesOwn.never rfl (BL rfl T.ig (aj (bQ (dv 1) aN) aq)) (wL 3 4 rfl qu.nd) (aH (bN 5 qu.nd (bh dM hr (by decide) (aj (bQ (dv 0) aN) (aj (dv 3) (aj (dv 3) aq))))) (aK (adi 2 qu.nd (bW ["less","cost","rest"] [5] rfl (by kernel_rfl) (by kernel_rfl) (eF (dv 4)) (iB (bK (aY (by decide)) (bK (aY (by decide)) (bK (aY (by decide)) iz)))) (fun _ _ _ _ nd=>nW rfl (cA (bF 0 nd) (cA (bF 1 nd) (cA (bF 2 nd) lM)))) (fun _ _ _ _=>cD) (fun _ _ _ _=>(fL (aj (dv 0) (aj (aR cU (dv 1) (dv 3)) (aj (dv 2) aq)))))))))) (aK (aX (dv 2)))))
theorem abp {f:Addr} {fd:FuncData} (Fn:Fun K "from_top" "from_top" jr f fd) (hmg:mg "from_top" =some (.ref f)) (hb:Binds K fd ["table","rows"] []) (T:Txt K mg) (dM:aM P w K mg base 1 "fare_of" 3 dF):aM P w K mg base 2 "from_top" 2 pP:=
  bO (k:=1) (g:=Dn) Fn hmg hb qu rfl rfl fun cdv A outer s H E hr=>abo T dM hr
theorem RZ {f:Addr} {cdv:Value} {A:Around} {outer:List PySem.Env} {s:Shared} {H:Hp} {E:XK} (T:Txt K mg) {cV:List (Addr×Str)} {pA:FuncData} (qy:dO P w K mg base 4 "best_ways" 3 qp pA ["table","marks","many"] cV) (qz:Binds K pA ["table","marks","many"] []) (rY:aM P w K mg base 2 "from_top" 2 pP) (hT:Tb cV H) (hr:Room 4 (A.deeper (envOfC "first_seams" (defScope eZ) s.heap.objs.size f cdv))):cG (cxOf CX0 P w K mg base ["table","marks","many"] "first_seams" (defScope eZ) f cdv A outer s H E).nox (defBody eZ) vC:=by
  exact (aK (aX (Hs (aV (YM (ag8 hr)) rfl T.tW boot_sorted (aj (bh rY hr (by decide) (aj (dv 0) (aj (uT qy hT hr (by decide) qz (aj (dv 0) (aj (dv 1) (aj (dv 2) aq)))) aq))) aq)) qI (qJ (dv 2)))))
theorem R0 {f:Addr} {fd:FuncData} (Fn:Fun K "first_seams" "first_seams" eZ f fd) (hmg:mg "first_seams" =some (.ref f)) (T:Txt K mg) {cV:List (Addr×Str)} {pA:FuncData} (qy:dO P w K mg base 4 "best_ways" 3 qp pA ["table","marks","many"] cV) (qz:Binds K pA ["table","marks","many"] []) (rY:aM P w K mg base 2 "from_top" 2 pP):dO P w K mg base 5 "first_seams" 3 ni fd ["table","marks","many"] cV:=
  ⟨f,Lg (k:=4) (m:=0) (g:=vC) Fn RM rfl rfl fun cdv A outer s H E _ hr hT=>RZ T qy qz rY hT hr,hmg,Fn.kp⟩
theorem Zw {f:Addr} {cdv:Value} {A:Around} {outer:List PySem.Env} {s:Shared} {H:Hp} {E:XK} (T:Txt K mg) {cV:List (Addr×Str)} {mj:FuncData} (nu:dO P w K mg base 5 "first_seams" 3 ni mj ["table","marks","many"] cV) (nA:Binds K mj ["table","marks","many"] []) (hT:Tb cV H) (hr:Room 5 (A.deeper (envOfC "least_way" (defScope gZ) s.heap.objs.size f cdv))):cG (cxOf CX0 P w K mg base ["table","marks","found","less","cost","seam"] "least_way" (defScope gZ) f cdv A outer s H E).nox (defBody gZ) Ai:=by
  exact (aH (bN 2 xR.nd (uT nu hT hr (by decide) nA (aj (dv 0) (aj (dv 1) (aj aN aq))))) (aH (cT (jM (ag7 (dv 2))) (aK (aX iZ)) bU) (aH (akO 3 4 5 rfl xR.nd (bQ (dv 2) aN)) (aK (aX (fL (aj (dv 4) (aj (dv 5) aq))))))))
theorem Zx {f:Addr} {fd:FuncData} (Fn:Fun K "least_way" "least_way" gZ f fd) (hmg:mg "least_way" =some (.ref f)) (T:Txt K mg) {cV:List (Addr×Str)} {mj:FuncData} (nu:dO P w K mg base 5 "first_seams" 3 ni mj ["table","marks","many"] cV) (nA:Binds K mj ["table","marks","many"] []):dO P w K mg base 6 "least_way" 2 gU fd ["table","marks"] cV:=
  ⟨f,Lg (k:=5) (m:=4) (g:=Ai) Fn xR rfl rfl fun cdv A outer s H E _ hr hT=>Zw T nu nA hT hr,hmg,Fn.kp⟩
theorem ajA {f:Addr} {cdv:Value} {A:Around} {outer:List PySem.Env} {s:Shared} {H:Hp} {E:XK} (T:Txt K mg) {cV:List (Addr×Str)} (nD:aM P w K mg base 1 "cells_along" 2 j5) (gO:aM P w K mg base 9 "fares" 2 iU) {dY:FuncData} (fH:dO P w K mg base 6 "least_way" 2 gU dY ["table","marks"] cV) (fJ:Binds K dY ["table","marks"] []) (iQ:aM P w K mg base 1 "without" 2 jB) (hT:Tb cV H) (hr:Room 9 (A.deeper (envOfC "taken" (defScope pX) s.heap.objs.size f cdv))):cG (cxOf CX0 P w K mg base ["picture","many","manner","marks","left","marked","steps","total","found","cost","seam"] "taken" (defScope pX) f cdv A outer s H E).nox (defBody pX) Rv:=by
  exact (aH (Bv 4 5 rfl o7.nd (dv 0) (dv 3)) (aH (sS 6 o7.nd aq) (aH (bN 7 o7.nd aN) (aH (Yc 64 PassesOwn.never (bY adU (aV cH rfl T.cO PySem.boot_len (aj (dv 6) aq)) (dv 1)) (aH (bN 8 o7.nd (uT fH hT hr (by decide) fJ (aj (bh gO hr (by decide) (aj (dv 4) (aj (dv 2) aq))) (aj (dv 5) aq)))) (aH (cT (bY Dc (dv 8) iZ) (aK (aX iZ)) bU) (aH (qN 9 10 rfl o7.nd (dv 8)) (aH (G8 6 (fL (aj (dv 10) (aj (bh nD hr (by decide) (aj (dv 4) (aj (dv 10) aq))) aq)))) (aH (ag3 7 o7.nd (dv 9)) (aK (Bv 4 5 rfl o7.nd (bh iQ hr (by decide) (aj (dv 4) (aj (dv 10) aq))) (bh iQ hr (by decide) (aj (dv 5) (aj (dv 10) aq))))))))))) (aK (aX (fL (aj (dv 4) (aj (dv 6) (aj (dv 7) aq))))))))))
theorem ajB {f:Addr} {fd:FuncData} (Fn:Fun K "taken" "taken" pX f fd) (hmg:mg "taken" =some (.ref f)) (T:Txt K mg) {cV:List (Addr×Str)} (nD:aM P w K mg base 1 "cells_along" 2 j5) (gO:aM P w K mg base 9 "fares" 2 iU) {dY:FuncData} (fH:dO P w K mg base 6 "least_way" 2 gU dY ["table","marks"] cV) (fJ:Binds K dY ["table","marks"] []) (iQ:aM P w K mg base 1 "without" 2 jB):dO P w K mg base 10 "taken" 4 BW fd ["picture","many","manner","marks"] cV:=
  ⟨f,Lg (k:=9) (m:=7) (g:=Rv) Fn o7 rfl rfl fun cdv A outer s H E _ hr hT=>ajA T nD gO fH fJ iQ hT hr,hmg,Fn.kp⟩
theorem abq {f:Addr} {cdv:Value} {A:Around} {outer:List PySem.Env} {s:Shared} {H:Hp} {E:XK} (T:Txt K mg) {cV:List (Addr×Str)} (eN:aM P w K mg base 5 "full_marks" 2 dh) (cL:aM P w K mg base 1 "need_manner" 1 cZ) (bC:aM P w K mg base 5 "need_picture" 1 bM) (pB:aM P w K mg base 2 "need_width" 3 lW) {xX:FuncData} (Cp:dO P w K mg base 10 "taken" 4 BW xX ["picture","many","manner","marks"] cV) (Cq:Binds K xX ["picture","many","manner","marks"] []) (hT:Tb cV H) (hr:Room 10 (A.deeper (envOfC "taken_to" (defScope jt) s.heap.objs.size f cdv))):cG (cxOf CX0 P w K mg base ["picture","wide","manner","marks","marked"] "taken_to" (defScope jt) f cdv A outer s H E).nox (defBody jt) Dq:=by
  exact (aH (lN (bh bC hr (by decide) (aj (dv 0) aq))) (aH (lN (bh cL hr (by decide) (aj (dv 2) aq))) (aH (bN 4 Lp.nd (bh eN hr (by decide) (aj (dv 3) (aj (dv 0) aq)))) (aH (lN (bh pB hr (by decide) (aj (dv 1) (aj aN (aj (aV cH rfl T.cO PySem.boot_len (aj (bQ (dv 0) aN) aq)) aq))))) (aK (aX (uT Cp hT hr (by decide) Cq (aj (dv 0) (aj (aR fK (aV cH rfl T.cO PySem.boot_len (aj (bQ (dv 0) aN) aq)) (dv 1)) (aj (dv 2) (aj (dv 4) aq)))))))))))
theorem abr {f:Addr} {fd:FuncData} (Fn:Fun K "taken_to" "taken_to" jt f fd) (hmg:mg "taken_to" =some (.ref f)) (T:Txt K mg) {cV:List (Addr×Str)} (eN:aM P w K mg base 5 "full_marks" 2 dh) (cL:aM P w K mg base 1 "need_manner" 1 cZ) (bC:aM P w K mg base 5 "need_picture" 1 bM) (pB:aM P w K mg base 2 "need_width" 3 lW) {xX:FuncData} (Cp:dO P w K mg base 10 "taken" 4 BW xX ["picture","many","manner","marks"] cV) (Cq:Binds K xX ["picture","many","manner","marks"] []):dO P w K mg base 11 "taken_to" 4 fQ fd ["picture","wide","manner","marks"] cV:=
  ⟨f,Lg (k:=10) (m:=1) (g:=Dq) Fn Lp rfl rfl fun cdv A outer s H E _ hr hT=>abq T eN cL bC pB Cp Cq hT hr,hmg,Fn.kp⟩
theorem aeR {f:Addr} {cdv:Value} {A:Around} {outer:List PySem.Env} {s:Shared} {H:Hp} {E:XK} (T:Txt K mg) {cV:List (Addr×Str)} {cP:FuncData} (dH:dO P w K mg base 11 "taken_to" 4 fQ cP ["picture","wide","manner","marks"] cV) (dI:Binds K cP ["picture","wide","manner","marks"] []) (hT:Tb cV H) (hr:Room 11 (A.deeper (envOfC "history" (defScope dX) s.heap.objs.size f cdv))):cG (cxOf CX0 P w K mg base ["picture","wide","manner","marks","told"] "history" (defScope dX) f cdv A outer s H E).nox (defBody dX) HS:=by
  exact (aH (bN 4 Pk.nd (uT dH hT hr (by decide) dI (aj (dv 0) (aj (dv 1) (aj (dv 2) (aj (dv 3) aq)))))) (aH (cT (bY Dc (dv 4) iZ) (aK (aX iZ)) bU) (aK (aX (bQ (dv 4) aN)))))
theorem aeS {f:Addr} {fd:FuncData} (Fn:Fun K "history" "history" dX f fd) (hmg:mg "history" =some (.ref f)) (T:Txt K mg) {cV:List (Addr×Str)} {cP:FuncData} (dH:dO P w K mg base 11 "taken_to" 4 fQ cP ["picture","wide","manner","marks"] cV) (dI:Binds K cP ["picture","wide","manner","marks"] []):dO P w K mg base 12 "history" 4 oO fd ["picture","wide","manner","marks"] cV:=
  ⟨f,Lg (k:=11) (m:=1) (g:=HS) Fn Pk rfl rfl fun cdv A outer s H E _ hr hT=>aeR T dH dI hT hr,hmg,Fn.kp⟩
theorem abt {f:Addr} {cdv:Value} {A:Around} {outer:List PySem.Env} {s:Shared} {H:Hp} {E:XK} (T:Txt K mg) (gO:aM P w K mg base 9 "fares" 2 iU) (eN:aM P w K mg base 5 "full_marks" 2 dh) (cL:aM P w K mg base 1 "need_manner" 1 cZ) (bC:aM P w K mg base 5 "need_picture" 1 bM) (hr:Room 9 (A.deeper (envOfC "laid_out" (defScope ju) s.heap.objs.size f cdv))):cG (cxOf CX0 P w K mg base ["picture","manner","marks","marked"] "laid_out" (defScope ju) f cdv A outer s H E).nox (defBody ju) Dr:=by
  exact (aH (lN (bh bC hr (by decide) (aj (dv 0) aq))) (aH (lN (bh cL hr (by decide) (aj (dv 1) aq))) (aH (bN 3 Lq.nd (bh eN hr (by decide) (aj (dv 2) (aj (dv 0) aq)))) (aK (aX (fL (aj (bh gO hr (by decide) (aj (dv 0) (aj (dv 1) aq))) (aj (dv 3) aq))))))))
theorem abu {f:Addr} {fd:FuncData} (Fn:Fun K "laid_out" "laid_out" ju f fd) (hmg:mg "laid_out" =some (.ref f)) (hb:Binds K fd ["picture","manner","marks"] []) (T:Txt K mg) (gO:aM P w K mg base 9 "fares" 2 iU) (eN:aM P w K mg base 5 "full_marks" 2 dh) (cL:aM P w K mg base 1 "need_manner" 1 cZ) (bC:aM P w K mg base 5 "need_picture" 1 bM):aM P w K mg base 10 "laid_out" 3 pQ:=
  bO (k:=9) (g:=Dr) Fn hmg hb Lq rfl rfl fun cdv A outer s H E hr=>abt T gO eN cL bC hr
theorem V1 {f:Addr} {cdv:Value} {A:Around} {outer:List PySem.Env} {s:Shared} {H:Hp} {E:XK} (T:Txt K mg) {cV:List (Addr×Str)} (rZ:aM P w K mg base 10 "laid_out" 3 pQ) {dY:FuncData} (fH:dO P w K mg base 6 "least_way" 2 gU dY ["table","marks"] cV) (fJ:Binds K dY ["table","marks"] []) (hT:Tb cV H) (hr:Room 10 (A.deeper (envOfC "least_seam" (defScope dJ) s.heap.objs.size f cdv))):cG (cxOf CX0 P w K mg base ["picture","manner","marks","table","marked","found"] "least_seam" (defScope dJ) f cdv A outer s H E).nox (defBody dJ) xK:=by
  exact (aH (qN 3 4 rfl vG.nd (bh rZ hr (by decide) (aj (dv 0) (aj (dv 1) (aj (dv 2) aq))))) (aH (bN 5 vG.nd (uT fH hT hr (by decide) fJ (aj (dv 3) (aj (dv 4) aq)))) (aH (cT (bY Dc (dv 5) iZ) (aK (aX iZ)) bU) (aK (aX (bQ (dv 5) aN))))))
theorem V2 {f:Addr} {fd:FuncData} (Fn:Fun K "least_seam" "least_seam" dJ f fd) (hmg:mg "least_seam" =some (.ref f)) (T:Txt K mg) {cV:List (Addr×Str)} (rZ:aM P w K mg base 10 "laid_out" 3 pQ) {dY:FuncData} (fH:dO P w K mg base 6 "least_way" 2 gU dY ["table","marks"] cV) (fJ:Binds K dY ["table","marks"] []):dO P w K mg base 11 "least_seam" 3 oR fd ["picture","manner","marks"] cV:=
  ⟨f,Lg (k:=10) (m:=3) (g:=xK) Fn vG rfl rfl fun cdv A outer s H E _ hr hT=>V1 T rZ fH fJ hT hr,hmg,Fn.kp⟩
theorem ald {f:Addr} {cdv:Value} {A:Around} {outer:List PySem.Env} {s:Shared} {H:Hp} {E:XK} (T:Txt K mg) {cV:List (Addr×Str)} {cP:FuncData} (dH:dO P w K mg base 11 "taken_to" 4 fQ cP ["picture","wide","manner","marks"] cV) (dI:Binds K cP ["picture","wide","manner","marks"] []) (hT:Tb cV H) (hr:Room 11 (A.deeper (envOfC "loss" (defScope nq) s.heap.objs.size f cdv))):cG (cxOf CX0 P w K mg base ["picture","wide","manner"] "loss" (defScope nq) f cdv A outer s H E).nox (defBody nq) YW:=by
  exact (aK (aX (bQ (uT dH hT hr (by decide) dI (aj (dv 0) (aj (dv 1) (aj (dv 2) (aj iZ aq))))) aN)))
theorem ale {f:Addr} {fd:FuncData} (Fn:Fun K "loss" "loss" nq f fd) (hmg:mg "loss" =some (.ref f)) (T:Txt K mg) {cV:List (Addr×Str)} {cP:FuncData} (dH:dO P w K mg base 11 "taken_to" 4 fQ cP ["picture","wide","manner","marks"] cV) (dI:Binds K cP ["picture","wide","manner","marks"] []):dO P w K mg base 12 "loss" 3 HW fd ["picture","wide","manner"] cV:=
  ⟨f,Lg (k:=11) (m:=0) (g:=YW) Fn ak8 rfl rfl fun cdv A outer s H E _ hr hT=>ald T dH dI hT hr,hmg,Fn.kp⟩
theorem abv {f:Addr} {cdv:Value} {A:Around} {outer:List PySem.Env} {s:Shared} {H:Hp} {E:XK} (T:Txt K mg) {cV:List (Addr×Str)} {cP:FuncData} (dH:dO P w K mg base 11 "taken_to" 4 fQ cP ["picture","wide","manner","marks"] cV) (dI:Binds K cP ["picture","wide","manner","marks"] []) (hT:Tb cV H) (hr:Room 11 (A.deeper (envOfC "narrowed" (defScope dG) s.heap.objs.size f cdv))):cG (cxOf CX0 P w K mg base ["picture","wide","manner","marks","told"] "narrowed" (defScope dG) f cdv A outer s H E).nox (defBody dG) Ds:=by
  exact (aH (bN 4 Lr.nd (uT dH hT hr (by decide) dI (aj (dv 0) (aj (dv 1) (aj (dv 2) (aj (dv 3) aq)))))) (aH (cT (bY Dc (dv 4) iZ) (aK (aX iZ)) bU) (aK (aX (bQ (dv 4) aN)))))
theorem abw {f:Addr} {fd:FuncData} (Fn:Fun K "narrowed" "narrowed" dG f fd) (hmg:mg "narrowed" =some (.ref f)) (T:Txt K mg) {cV:List (Addr×Str)} {cP:FuncData} (dH:dO P w K mg base 11 "taken_to" 4 fQ cP ["picture","wide","manner","marks"] cV) (dI:Binds K cP ["picture","wide","manner","marks"] []):dO P w K mg base 12 "narrowed" 4 kJ fd ["picture","wide","manner","marks"] cV:=
  ⟨f,Lg (k:=11) (m:=1) (g:=Ds) Fn Lr rfl rfl fun cdv A outer s H E _ hr hT=>abv T dH dI hT hr,hmg,Fn.kp⟩
theorem abx {f:Addr} {cdv:Value} {A:Around} {outer:List PySem.Env} {s:Shared} {H:Hp} {E:XK} (T:Txt K mg) (jD:aM P w K mg base 2 "is_cell" 1 kI) (hr:Room 2 (A.deeper (envOfC "is_cells" (defScope jw) s.heap.objs.size f cdv))):cG (cxOf CX0 P w K mg base ["thing","high"] "is_cells" (defScope jw) f cdv A outer s H E).nox (defBody jw) Dt:=by
  exact (aK (aX (nU (pI (ans:=eE) T.nO (dv 0) rfl T.dj boot_isinstance rfl T.dB boot_tuple) (nU (uM (zK (dD hr)) (aV cH rfl T.cO PySem.boot_len (aj (dv 0) aq)) (dv 1)) (qb (aV (uP rfl) rfl T.qF boot_all (aj (bW ["cell"] [] rfl (by kernel_rfl) (by kernel_rfl) (eF (dv 0)) (aY (by decide)) (fun _ _ _ _ nd=>bF 0 nd) (fun _ _ _ _=>cD) (fun _ _ _ _=>(bh jD hr (by decide) (aj (dv 0) aq)))) aq)))))))
theorem aby {f:Addr} {fd:FuncData} (Fn:Fun K "is_cells" "is_cells" jw f fd) (hmg:mg "is_cells" =some (.ref f)) (hb:Binds K fd ["thing","high"] []) (T:Txt K mg) (jD:aM P w K mg base 2 "is_cell" 1 kI):aM P w K mg base 3 "is_cells" 2 pR:=
  bO (k:=2) (g:=Dt) Fn hmg hb aa8 rfl rfl fun cdv A outer s H E hr=>abx T jD hr
theorem aeT {f:Addr} {cdv:Value} {A:Around} {outer:List PySem.Env} {s:Shared} {H:Hp} {E:XK} (T:Txt K mg) (su:aM P w K mg base 3 "is_cells" 2 pR) (lE:aM P w K mg base 2 "is_way" 3 mO) (hr:Room 3 (A.deeper (envOfC "is_step" (defScope lA) s.heap.objs.size f cdv))):cG (cxOf CX0 P w K mg base ["thing","wide","high"] "is_step" (defScope lA) f cdv A outer s H E).nox (defBody lA) HX:=by
  exact (aH (cT (DW.dt (wz (jM (mZ (pI (ans:=eE) T.nO (dv 0) rfl T.dj boot_isinstance rfl T.dB boot_tuple))) (q9 (bY (jW (dD hr)) (aV cH rfl T.cO PySem.boot_len (aj (dv 0) aq)) aN)))) (aK (aX mH)) bU) (aK (aX (nU (bh lE hr (by decide) (aj (bQ (dv 0) aN) (aj (dv 1) (aj (dv 2) aq)))) (qb (bh su hr (by decide) (aj (bQ (dv 0) aN) (aj (dv 2) aq))))))))
theorem aeU {f:Addr} {fd:FuncData} (Fn:Fun K "is_step" "is_step" lA f fd) (hmg:mg "is_step" =some (.ref f)) (hb:Binds K fd ["thing","wide","high"] []) (T:Txt K mg) (su:aM P w K mg base 3 "is_cells" 2 pR) (lE:aM P w K mg base 2 "is_way" 3 mO):aM P w K mg base 4 "is_step" 3 qX:=
  bO (k:=3) (g:=HX) Fn hmg hb aeA rfl rfl fun cdv A outer s H E hr=>aeT T su lE hr
theorem V3 {f:Addr} {cdv:Value} {A:Around} {outer:List PySem.Env} {s:Shared} {H:Hp} {E:XK} (T:Txt K mg)  (hr:Room 0 (A.deeper (envOfC "with_cells" (defScope gq) s.heap.objs.size f cdv))):cG (cxOf CX0 P w K mg base ["rows","seam","cells"] "with_cells" (defScope gq) f cdv A outer s H E).nox (defBody gq) xM:=by
  exact (aK (aX (gK gM rfl T.dB boot_tuple (aj (bW ["row","place","cell"] [] rfl (by kernel_rfl) (by kernel_rfl) (akz rfl T.wF (aj (dv 0) (aj (dv 1) (aj (dv 2) aq)))) (iB (bK (aY (by decide)) (bK (aY (by decide)) (bK (aY (by decide)) iz)))) (fun _ _ _ _ nd=>nW rfl (cA (bF 0 nd) (cA (bF 1 nd) (cA (bF 2 nd) lM)))) (fun _ _ _ _=>cD) (fun _ _ _ _=>(aR cU (aR cU (Df (dv 0) qI (qJ (dv 1))) (fL (aj (dv 2) aq))) (Df (dv 0) (qJ (dv 1)) qI)))) aq))))
theorem V4 {f:Addr} {fd:FuncData} (Fn:Fun K "with_cells" "with_cells" gq f fd) (hmg:mg "with_cells" =some (.ref f)) (hb:Binds K fd ["rows","seam","cells"] []) (T:Txt K mg)  :aM P w K mg base 1 "with_cells" 3 lX:=
  bO (k:=0) (g:=xM) Fn hmg hb Vs rfl rfl fun cdv A outer s H E hr=>V3 T  hr
theorem aeV {f:Addr} {cdv:Value} {A:Around} {outer:List PySem.Env} {s:Shared} {H:Hp} {E:XK} (T:Txt K mg) (u6:aM P w K mg base 4 "is_step" 3 qX) (bR:aM P w K mg base 6 "size_of" 1 cQ) (pC:aM P w K mg base 1 "with_cells" 3 lX) (hr:Room 6 (A.deeper (envOfC "rebuilt" (defScope lB) s.heap.objs.size f cdv))):cG (cxOf CX0 P w K mg base ["picture","steps","wide","high","told","step","seam","cells"] "rebuilt" (defScope lB) f cdv A outer s H E).nox (defBody lB) HY:=by
  obtain⟨abd,Am⟩:=T.nM
  exact (aH (qN 2 3 rfl pY.nd (bh bR hr (by decide) (aj (dv 0) aq))) (aH (cT (DW.dt (wz (jM (mZ (pI (ans:=CZ) T.Io (dv 1) rfl T.dj boot_isinstance rfl T.Ck boot_list))) (q9 (bY N6 (aR cU (dv 2) (aV cH rfl T.cO PySem.boot_len (aj (dv 1) aq))) (qM rfl Am))))) (aK qG) bU) (aH (bN 4 pY.nd (dv 0)) (aH (oh PassesOwn.never rfl (al2 rfl T.pZ (aj (dv 1) aq)) (wY 5 pY.nd) (aH (cT (jM (mZ (bh u6 hr (by decide) (aj (dv 5) (aj (aR cU (aV cH rfl T.cO PySem.boot_len (aj (bQ (dv 4) aN) aq)) aN) (aj (dv 3) aq)))))) (aK qG) bU) (aH (qN 6 7 rfl pY.nd (dv 5)) (aK (bN 4 pY.nd (bh pC hr (by decide) (aj (dv 4) (aj (dv 6) (aj (dv 7) aq))))))))) (aK (aX (dv 4)))))))
theorem aeW {f:Addr} {fd:FuncData} (Fn:Fun K "rebuilt" "rebuilt" lB f fd) (hmg:mg "rebuilt" =some (.ref f)) (hb:Binds K fd ["picture","steps"] []) (T:Txt K mg) (u6:aM P w K mg base 4 "is_step" 3 qX) (bR:aM P w K mg base 6 "size_of" 1 cQ) (pC:aM P w K mg base 1 "with_cells" 3 lX):aM P w K mg base 7 "rebuilt" 2 mD:=
  bO (k:=6) (g:=HY) Fn hmg hb pY rfl rfl fun cdv A outer s H E hr=>aeV T u6 bR pC hr
theorem amG {f:Addr} {cdv:Value} {A:Around} {outer:List PySem.Env} {s:Shared} {H:Hp} {E:XK} (T:Txt K mg) {cV:List (Addr×Str)} (sy:aM P w K mg base 1 "_law_cut" 2 pK) (bD:aM P w K mg base 1 "_law_drawn" 3 bJ) (nF:aM P w K mg base 2 "_law_manner" 2 jZ) (pD:aM P w K mg base 2 "_law_marks" 3 lQ) (pF:aM P w K mg base 1 "_law_signs" 3 lR) (qC:aM P w K mg base 3 "_law_some" 4 nJ) (mq:aM P w K mg base 6 "brightness" 1 jR) {sE:FuncData} (u9:FnE P w K mg base 10 "cost_of" 3 uU sE ["picture","seam","manner"]) (PL:aM P w K mg base 9 "cut" 2 K4) {mY:FuncData} (pG:dO P w K mg base 12 "history" 4 oO mY ["picture","wide","manner","marks"] cV) {nG:FuncData} (pH:dO P w K mg base 11 "least_seam" 3 oR nG ["picture","manner","marks"] cV) {Cr:FuncData} (Ir:dO P w K mg base 12 "loss" 3 HW Cr ["picture","wide","manner"] cV) {lF:FuncData} (lC:dO P w K mg base 12 "narrowed" 4 kJ lF ["picture","wide","manner","marks"] cV) (qZ:aM P w K mg base 7 "rebuilt" 2 mD) (bR:aM P w K mg base 6 "size_of" 1 cQ) (lG:KB K sE ["picture","seam","manner"] ["manner"] [.inl 0]) (jF:KB K mY ["picture","wide","manner","marks"] ["manner"] [.inl 0,.inr .none]) (lH:KB K mY ["picture","wide","manner","marks"] ["manner","marks"] [.inl 0,.inl 1]) (gP:KB K nG ["picture","manner","marks"] ["manner"] [.inl 0,.inr .none]) (qL:KB K Cr ["picture","wide","manner"] ["manner"] [.inl 0]) (gw:KB K lF ["picture","wide","manner","marks"] ["manner"] [.inl 0,.inr .none]) (jV:KB K lF ["picture","wide","manner","marks"] ["manner","marks"] [.inl 0,.inl 1]) (hT:Tb cV H) (hr:Room 12 (A.deeper (envOfC "law" (defScope qD) s.heap.objs.size f cdv))):cG (cxOf CX0 P w K mg base ["_law_script","_law_picture_here","_law_broad","_law_tall","_law_mode","_law_tags","_law_low","_law_middle","_law_steps","_law_less","_law_here","_law_cost","_law_seam","_law_cells","_law_some_here","_law_rows"] "law" (defScope qD) f cdv A outer s H E).nox (defBody qD) aeg:=by
  exact (aH (bN 1 jT.nd (bh qC hr (by decide) (aj (dv 0) (aj aN (aj aN (aj aN aq)))))) (aH (qN 2 3 rfl jT.nd (bh bR hr (by decide) (aj (dv 1) aq))) (aH (Bv 4 5 rfl jT.nd (bh nF hr (by decide) (aj (dv 0) (aj aN aq))) (bh pD hr (by decide) (aj (dv 0) (aj aN (aj (dv 1) aq))))) (aH (bN 6 jT.nd (aR cU aN (bh bD hr (by decide) (aj (dv 0) (aj aN (aj (dv 2) aq)))))) (aH (bN 7 jT.nd (aR cU (dv 6) (bh bD hr (by decide) (aj (dv 0) (aj aN (aj (aR cU (aR fK (dv 2) (dv 6)) aN) aq)))))) (aH (Bv 8 9 rfl jT.nd (pJ (ks:=["manner"]) (.at 0 (.non .nil)) pG hT hr (by decide) jF (aj (dv 1) (aj (dv 6) aq)) (jY (dv 4) qj)) (pJ (ks:=["manner"]) (.at 0 (.non .nil)) lC hT hr (by decide) gw (aj (dv 1) (aj (dv 6) aq)) (jY (dv 4) qj))) (aH (cT (DW.dt (wz (bY (jW (dD hr)) (bh bR hr (by decide) (aj (dv 9) aq)) (fL (aj (dv 6) (aj (dv 3) aq)))) (q9 (bY (jW (dD hr)) (aV cH rfl T.cO PySem.boot_len (aj (dv 8) aq)) (aR fK (dv 2) (dv 6)))))) (aK (aX mH)) bU) (aH (cT (bY (jW (dD hr)) (bh qZ hr (by decide) (aj (dv 9) (aj (dv 8) aq))) (dv 1)) (aK (aX mH)) bU) (aH (cT (bY (jW (dD hr)) (pJ (ks:=["manner"]) (.at 0 (.non .nil)) lC hT hr (by decide) gw (aj (pJ (ks:=["manner"]) (.at 0 (.non .nil)) lC hT hr (by decide) gw (aj (dv 1) (aj (dv 7) aq)) (jY (dv 4) qj)) (aj (dv 6) aq)) (jY (dv 4) qj)) (dv 9)) (aK (aX mH)) bU) (aH (cT (bY (jW (dD hr)) (pJ (ks:=["manner"]) (.at 0 (.non .nil)) pG hT hr (by decide) jF (aj (dv 1) (aj (dv 7) aq)) (jY (dv 4) qj)) (Hs (dv 8) qI (qJ (aR fK (dv 2) (dv 7))))) (aK (aX mH)) bU) (aH (Bv 10 11 rfl jT.nd (dv 1) aN) (aH (oh PassesOwn.never rfl (eF (dv 8)) (wL 12 13 rfl jT.nd) (aH (cT (bY (jW (dD hr)) (dv 12) (pJ (ks:=["manner"]) (.at 0 (.non .nil)) pH hT hr (by decide) gP (aj (dv 10) aq) (jY (dv 4) qj))) (aK (aX mH)) bU) (aK (Bv 11 10 rfl jT.nd (aR cU (dv 11) (alV (ks:=["manner"]) (.at 0 .nil) u9 hr (by decide) lG (aj (dv 10) (aj (dv 12) aq)) (jY (dv 4) qj))) (bh PL hr (by decide) (aj (dv 10) (aj (dv 12) aq))))))) (aH (cT (DW.dt (wz (bY (jW (dD hr)) (dv 10) (dv 9)) (q9 (bY (jW (dD hr)) (pJ (ks:=["manner"]) (.at 0 .nil) Ir hT hr (by decide) qL (aj (dv 1) (aj (dv 6) aq)) (jY (dv 4) qj)) (dv 11))))) (aK (aX mH)) bU) (aH (cT (bY (jW (dD hr)) (aR cU (bh mq hr (by decide) (aj (dv 9) aq)) (aV (Oc rfl) rfl T.zY boot_sum (aj (bW ["_law_seam","_law_cells"] [] rfl (by kernel_rfl) (by kernel_rfl) (eF (dv 8)) (iB (bK (aY (by decide)) (bK (aY (by decide)) iz))) (fun _ _ _ _ nd=>nW rfl (cA (bF 0 nd) (cA (bF 1 nd) lM))) (fun _ _ _ _=>cD) (fun _ _ _ _=>(aV (Oc rfl) rfl T.zY boot_sum (aj (dv 1) aq)))) aq))) (bh mq hr (by decide) (aj (dv 1) aq))) (aK (aX mH)) bU) (aH (bN 14 jT.nd (pJ (ks:=["manner","marks"]) (.at 0 (.at 1 .nil)) lC hT hr (by decide) jV (aj (dv 1) (aj (dv 6) aq)) (jY (dv 4) (jY (dv 5) qj)))) (aH (bN 15 jT.nd (pJ (ks:=["manner","marks"]) (.at 0 (.at 1 .nil)) pG hT hr (by decide) lH (aj (dv 1) (aj (dv 6) aq)) (jY (dv 4) (jY (dv 5) qj)))) (aH (cT (bY (jW (dD hr)) (uM Dc (dv 14) iZ) (uM Dc (dv 15) iZ)) (aK (aX mH)) bU) (aH (cT (bY Yo (dv 14) iZ) (aH (cT (DW.dt (wz (bY (jW (dD hr)) (bh qZ hr (by decide) (aj (dv 14) (aj (dv 15) aq))) (dv 1)) (q9 (bY (jW (dD hr)) (bh bR hr (by decide) (aj (dv 14) aq)) (fL (aj (dv 6) (aj (dv 3) aq))))))) (aK (aX mH)) bU) (aH (bN 10 jT.nd (dv 5)) (aK (oh PassesOwn.never rfl (eF (dv 15)) (wL 12 13 rfl jT.nd) (aH (cT (bY N6 (bh pF hr (by decide) (aj (dv 10) (aj (dv 12) (aj aN aq)))) aN) (aK (aX mH)) bU) (aK (bN 10 jT.nd (bh sy hr (by decide) (aj (dv 10) (aj (dv 12) aq)))))))))) bU) (aK (aX (amY (uM Yo (dv 14) iZ) (qb (uM (jW (dD hr)) (bW ["_law_row"] [] rfl (by kernel_rfl) (by kernel_rfl) (eF (dv 5)) (aY (by decide)) (fun _ _ _ _ nd=>bF 0 nd) (fun _ _ _ _=>(Rf (bY am3 aN (dv 0) (by rfl)))) (fun _ _ _ _=>(dv 0))) (rm aq))))))))))))))))))))))))
theorem ok_law {f:Addr} {fd:FuncData} (Fn:Fun K "law" "law" qD f fd) (hmg:mg "law" =some (.ref f)) (T:Txt K mg) {cV:List (Addr×Str)} (sy:aM P w K mg base 1 "_law_cut" 2 pK) (bD:aM P w K mg base 1 "_law_drawn" 3 bJ) (nF:aM P w K mg base 2 "_law_manner" 2 jZ) (pD:aM P w K mg base 2 "_law_marks" 3 lQ) (pF:aM P w K mg base 1 "_law_signs" 3 lR) (qC:aM P w K mg base 3 "_law_some" 4 nJ) (mq:aM P w K mg base 6 "brightness" 1 jR) {sE:FuncData} (u9:FnE P w K mg base 10 "cost_of" 3 uU sE ["picture","seam","manner"]) (PL:aM P w K mg base 9 "cut" 2 K4) {mY:FuncData} (pG:dO P w K mg base 12 "history" 4 oO mY ["picture","wide","manner","marks"] cV) {nG:FuncData} (pH:dO P w K mg base 11 "least_seam" 3 oR nG ["picture","manner","marks"] cV) {Cr:FuncData} (Ir:dO P w K mg base 12 "loss" 3 HW Cr ["picture","wide","manner"] cV) {lF:FuncData} (lC:dO P w K mg base 12 "narrowed" 4 kJ lF ["picture","wide","manner","marks"] cV) (qZ:aM P w K mg base 7 "rebuilt" 2 mD) (bR:aM P w K mg base 6 "size_of" 1 cQ) (lG:KB K sE ["picture","seam","manner"] ["manner"] [.inl 0]) (jF:KB K mY ["picture","wide","manner","marks"] ["manner"] [.inl 0,.inr .none]) (lH:KB K mY ["picture","wide","manner","marks"] ["manner","marks"] [.inl 0,.inl 1]) (gP:KB K nG ["picture","manner","marks"] ["manner"] [.inl 0,.inr .none]) (qL:KB K Cr ["picture","wide","manner"] ["manner"] [.inl 0]) (gw:KB K lF ["picture","wide","manner","marks"] ["manner"] [.inl 0,.inr .none]) (jV:KB K lF ["picture","wide","manner","marks"] ["manner","marks"] [.inl 0,.inl 1]):dO P w K mg base 13 "law" 1 OJ fd ["_law_script"] cV:=
  ⟨f,Lg (k:=12) (m:=15) (g:=aeg) Fn jT rfl rfl fun cdv A outer s H E _ hr hT=>amG T sy bD nF pD pF qC mq u9 PL pG pH Ir lC qZ bR lG jF lH gP qL gw jV hT hr,hmg,Fn.kp⟩
end
theorem all_mk {l:PySem.W.OpenLaw} {w:World} {K:PySem.W.Frag} {h:Heap} {mg:Str→Option Value} {fa DN xY vH xZ yc tX Ao Iu DP Iv M7 yd tY yg Zy yh Iw M8 M9 R3 vI Nb Iz Aq IK DQ IV IW aeX DR Ja tZ DX yj yp vJ Zz Nf R4 Ar DY vK Av R5 Ea Jb Eb yq ZC Ec Ed Jc yt Jd aeY:Addr} (X:K.In h) (G:h.Ns mainGlobals mg) (hfa:mg "law" =some (.ref fa))
    {abz abA:Option Addr} {abB:Array (Option Value)} {abC abD abE abF Ls abG:Value}
    {V5 V6:Option Addr} {V7:Array (Option Value)} {V8 V9 Wa Wb Gr Wc:Value}
    {R6 R7:Option Addr} {R8:Array (Option Value)} {R9 Sd Sh Ss Cu Sv:Value}
    {Wd Wf:Option Addr} {Wg:Array (Option Value)} {Wh Wi Wj Wk Gs Wm:Value}
    {Wn Wo:Option Addr} {Wq:Array (Option Value)} {Wr Ws Wt Wu Gu Wv:Value}
    {PN PX:Option Addr} {P0:Array (Option Value)} {Qa Qc Qd Qe zZ Qf:Value}
    {ZD ZF:Option Addr} {ZG:Array (Option Value)} {ZJ ZK ZL ZM Je ZP:Value}
    {aeZ ae0:Option Addr} {ae1:Array (Option Value)} {ae2 ae3 ae4 ae5 Qg ae6:Value}
    {abH abI:Option Addr} {abJ:Array (Option Value)} {abK abL abM abN Lw abO:Value}
    {ae7 ae8:Option Addr} {ae9:Array (Option Value)} {afa afb afc afd Qh afe:Value}
    {ahJ ahK:Option Addr} {ahL:Array (Option Value)} {ahM ahN ahO ahP U3 ahQ:Value}
    {Ww Wx:Option Addr} {Wz:Array (Option Value)} {WD WK WL WM Gv WQ:Value}
    {Qi Qj:Option Addr} {Qk:Array (Option Value)} {Ql Qm Qn Qo Aa Qp:Value}
    {WR WT:Option Addr} {WW:Array (Option Value)} {WX WY W0 W2 Gw W3:Value}
    {alf alg:Option Addr} {alh:Array (Option Value)} {ali alj alk alm adK aln:Value}
    {W4 W5:Option Addr} {W6:Array (Option Value)} {W7 W8 W9 Xa Gx Xb:Value}
    {afg afh:Option Addr} {afi:Array (Option Value)} {afj afk afl afm Qq afn:Value}
    {ahR ahS:Option Addr} {ahT:Array (Option Value)} {ahU ahV ahW ahX U4 ahY:Value}
    {ahZ ah0:Option Addr} {ah1:Array (Option Value)} {ah2 ah3 ah4 ah5 U5 ah6:Value}
    {ajC ajD:Option Addr} {ajE:Array (Option Value)} {ajF ajG ajH ajI ZQ ajJ:Value}
    {Sx Sy:Option Addr} {SJ:Array (Option Value)} {SM SN SQ SX Cv S5:Value}
    {ah7 ah8:Option Addr} {ah9:Array (Option Value)} {aia aib aic aie U6 aif:Value}
    {afo afp:Option Addr} {afq:Array (Option Value)} {afr afs afu afv Qs afw:Value}
    {ZR ZS:Option Addr} {ZV:Array (Option Value)} {ZW ZX Z0 Z1 Jf Z4:Value}
    {afx afy:Option Addr} {afz:Array (Option Value)} {afA afB afC afD Qt afE:Value}
    {abP abQ:Option Addr} {abR:Array (Option Value)} {abS abT abU abV Lx abW:Value}
    {afF Qu:Option Addr} {afG:Array (Option Value)} {afH Qv Qw Qx Ef Qy:Value}
    {afI afJ:Option Addr} {afK:Array (Option Value)} {afL afM afN afO Qz afP:Value}
    {amH amI:Option Addr} {amJ:Array (Option Value)} {amK amL amM amN aii amO:Value}
    {abX abY:Option Addr} {abZ:Array (Option Value)} {ab0 ab1 ab2 ab3 Ly ab4:Value}
    {afQ afR:Option Addr} {afS:Array (Option Value)} {afT afU afV afW QB afX:Value}
    {QC QD:Option Addr} {QF:Array (Option Value)} {QG QH QJ QK Ab QL:Value}
    {ab5 ab6:Option Addr} {ab7:Array (Option Value)} {ab8 ab9 acd ace Lz acf:Value}
    {Xc Xd:Option Addr} {Xe:Array (Option Value)} {Xf Xg Xh Xi Gy Xj:Value}
    {Xk Xl:Option Addr} {Xm:Array (Option Value)} {Xn Xo Xp Xq Gz Xr:Value}
    {S6 S7:Option Addr} {S8:Array (Option Value)} {S9 Tc Td Te Cw Tf:Value}
    {alo alp:Option Addr} {alq:Array (Option Value)} {alr als alu alv adL alw:Value}
    {aij aik:Option Addr} {ail:Array (Option Value)} {ain aio aip aiq U7 air:Value}
    {ajK ajL:Option Addr} {ajM:Array (Option Value)} {ajN ajO ajP ajQ Z5 ajR:Value}
    {Z6 Z7:Option Addr} {Z8:Array (Option Value)} {Z9 aac aad aae Jg aaf:Value}
    {acg ach:Option Addr} {aci:Array (Option Value)} {acj acn aco acp LC acq:Value}
    {Tg Ti:Option Addr} {Tj:Array (Option Value)} {Tn Tp Tq Tr Cy Tt:Value}
    {aag aah:Option Addr} {aai:Array (Option Value)} {aaj aak aal aam Jh aan:Value}
    {ajS ajT:Option Addr} {ajU:Array (Option Value)} {ajV ajW ajX ajY aao ajZ:Value}
    {acr acs:Option Addr} {acu:Array (Option Value)} {acv acw acy acz LK acA:Value}
    {afY Eh:Option Addr} {afZ:Array (Option Value)} {af0 Ei Ej Ek wG El:Value}
    {acB acC:Option Addr} {acD:Array (Option Value)} {acE acF acG acH LQ acI:Value}
    {Xu GC:Option Addr} {Xv:Array (Option Value)} {Xw GD GF GJ vL GK:Value}
    {alx adM:Option Addr} {aly:Array (Option Value)} {alz adN adO adP Tv adQ:Value}
    {acJ Aw:Option Addr} {acK:Array (Option Value)} {acL Ax Ay Az uL Ba:Value}
    {acM acN:Option Addr} {acO:Array (Option Value)} {acP acQ acR acS LR acT:Value}
    {af2 af3:Option Addr} {af4:Array (Option Value)} {af5 af6 af7 af8 QM af9:Value}
    {Xx Xy:Option Addr} {Xz:Array (Option Value)} {XC XD XF XH GQ XJ:Value}
    {aga agb:Option Addr} {agc:Array (Option Value)} {agd agf agg agh QS agi:Value}
    {amP ais:Option Addr} {amQ:Array (Option Value)} {amR ait aiu aiv aap aiw:Value}
    {alA:Tok} (Ci:PySem.W.nsIn K mainGlobals "FREE" =some (some (.int 0 alA)))
    {alB:Tok} (Cj:PySem.W.nsIn K mainGlobals "GONE" =some (some (.int 2 alB)))
    {alC:Tok} (Ik:PySem.W.nsIn K mainGlobals "KEPT" =some (some (.int 1 alC)))
    {aaq:Tok} (qw:PySem.W.nsIn K mainGlobals "MOST_CELL" =some (some (.int 99 aaq)))
    {aar:Tok} (nM:PySem.W.nsIn K mainGlobals "MOST_LONG" =some (some (.int 20 aar)))
    {QT:Addr} {agj:Option Addr} {agk:Nat} {agl:Array (Option Value)} {aas aat:Tok} (uY:PySem.W.nsIn K mainGlobals "MANNERS" =some (some (.ref QT))) (Ji:K.lookup QT=some ⟨.type "tuple",agj,.seq #[.str "worth" aas,.str "joins" aat] agk,agl⟩)
    (zW:PySem.W.nsIn K mainGlobals "abs" =some none)
    (qF:PySem.W.nsIn K mainGlobals "all" =some none)
    (Il:PySem.W.nsIn K mainGlobals "bool" =some none)
    (ig:PySem.W.nsIn K mainGlobals "enumerate" =some none)
    (Pn:PySem.W.nsIn K mainGlobals "int" =some none)
    (dj:PySem.W.nsIn K mainGlobals "isinstance" =some none)
    (cO:PySem.W.nsIn K mainGlobals "len" =some none)
    (Ck:PySem.W.nsIn K mainGlobals "list" =some none)
    (zX:PySem.W.nsIn K mainGlobals "max" =some none)
    (Dz:PySem.W.nsIn K mainGlobals "min" =some none)
    (fB:PySem.W.nsIn K mainGlobals "range" =some none)
    (pZ:PySem.W.nsIn K mainGlobals "reversed" =some none)
    (tW:PySem.W.nsIn K mainGlobals "sorted" =some none)
    (zY:PySem.W.nsIn K mainGlobals "sum" =some none)
    (dB:PySem.W.nsIn K mainGlobals "tuple" =some none)
    (wF:PySem.W.nsIn K mainGlobals "zip" =some none)
    (Pq:∀d:D,PySem.W.kitOne K (.type (oA d)) (.type "int")=some (KN (oA d)))
    (Im:∀d:D,PySem.W.kitOne K (.type (oA d)) (.type "bool")=some (CW (oA d)))
    (nO:∀d:D,PySem.W.kitOne K (.type (oA d)) (.type "tuple")=some (eE (oA d)))
    (Io:∀d:D,PySem.W.kitOne K (.type (oA d)) (.type "list")=some (CZ (oA d)))
    (Em:PySem.W.nsIn K mainGlobals "_law_cut" =some (some (.ref DN))) (En:K.lookup DN=some ⟨abC,abz,.func (PySem.W.fnOf "_law_cut" "_law_cut" (defArgs jj) (defBody jj) (defScope jj) .none abD abE abF abA Ls abG),abB⟩) (Eo:PySem.W.codeIn K Ls "_law_cut" =true) (Ep:PySem.W.keepIn K (.ref DN)=true)
    (yu:PySem.W.nsIn K mainGlobals "_law_drawn" =some (some (.ref xY))) (yw:K.lookup xY=some ⟨V8,V5,.func (PySem.W.fnOf "_law_drawn" "_law_drawn" (defArgs fV) (defBody fV) (defScope fV) .none V9 Wa Wb V6 Gr Wc),V7⟩) (yx:PySem.W.codeIn K Gr "_law_drawn" =true) (yC:PySem.W.keepIn K (.ref xY)=true)
    (vM:PySem.W.nsIn K mainGlobals "_law_manner" =some (some (.ref vH))) (vN:K.lookup vH=some ⟨R9,R6,.func (PySem.W.fnOf "_law_manner" "_law_manner" (defArgs eV) (defBody eV) (defScope eV) .none Sd Sh Ss R7 Cu Sv),R8⟩) (vO:PySem.W.codeIn K Cu "_law_manner" =true) (vP:PySem.W.keepIn K (.ref vH)=true)
    (yD:PySem.W.nsIn K mainGlobals "_law_marks" =some (some (.ref xZ))) (yE:K.lookup xZ=some ⟨Wh,Wd,.func (PySem.W.fnOf "_law_marks" "_law_marks" (defArgs fW) (defBody fW) (defScope fW) .none Wi Wj Wk Wf Gs Wm),Wg⟩) (yF:PySem.W.codeIn K Gs "_law_marks" =true) (yG:PySem.W.keepIn K (.ref xZ)=true)
    (yH:PySem.W.nsIn K mainGlobals "_law_signs" =some (some (.ref yc))) (yI:K.lookup yc=some ⟨Wr,Wn,.func (PySem.W.fnOf "_law_signs" "_law_signs" (defArgs fX) (defBody fX) (defScope fX) .none Ws Wt Wu Wo Gu Wv),Wq⟩) (yJ:PySem.W.codeIn K Gu "_law_signs" =true) (yK:PySem.W.keepIn K (.ref yc)=true)
    (uc:PySem.W.nsIn K mainGlobals "_law_picture" =some (some (.ref tX))) (ud:K.lookup tX=some ⟨Qa,PN,.func (PySem.W.fnOf "_law_picture" "_law_picture" (defArgs d7) (defBody d7) (defScope d7) .none Qc Qd Qe PX zZ Qf),P0⟩) (uf:PySem.W.codeIn K zZ "_law_picture" =true) (ug:PySem.W.keepIn K (.ref tX)=true)
    (Bb:PySem.W.nsIn K mainGlobals "_law_some" =some (some (.ref Ao))) (Bc:K.lookup Ao=some ⟨ZJ,ZD,.func (PySem.W.fnOf "_law_some" "_law_some" (defArgs gW) (defBody gW) (defScope gW) .none ZK ZL ZM ZF Je ZP),ZG⟩) (Bd:PySem.W.codeIn K Je "_law_some" =true) (Bf:PySem.W.keepIn K (.ref Ao)=true)
    (Jj:PySem.W.nsIn K mainGlobals "is_line" =some (some (.ref Iu))) (Jk:K.lookup Iu=some ⟨ae2,aeZ,.func (PySem.W.fnOf "is_line" "is_line" (defArgs kO) (defBody kO) (defScope kO) .none ae3 ae4 ae5 ae0 Qg ae6),ae1⟩) (Jl:PySem.W.codeIn K Qg "is_line" =true) (Jm:PySem.W.keepIn K (.ref Iu)=true)
    (Er:PySem.W.nsIn K mainGlobals "is_whole" =some (some (.ref DP))) (Es:K.lookup DP=some ⟨abK,abH,.func (PySem.W.fnOf "is_whole" "is_whole" (defArgs jk) (defBody jk) (defScope jk) .none abL abM abN abI Lw abO),abJ⟩) (Et:PySem.W.codeIn K Lw "is_whole" =true) (Eu:PySem.W.keepIn K (.ref DP)=true)
    (Jo:PySem.W.nsIn K mainGlobals "is_cell" =some (some (.ref Iv))) (Jp:K.lookup Iv=some ⟨afa,ae7,.func (PySem.W.fnOf "is_cell" "is_cell" (defArgs kW) (defBody kW) (defScope kW) .none afb afc afd ae8 Qh afe),ae9⟩) (Jq:PySem.W.codeIn K Qh "is_cell" =true) (Jr:PySem.W.keepIn K (.ref Iv)=true)
    (Ng:PySem.W.nsIn K mainGlobals "is_row" =some (some (.ref M7))) (Nh:K.lookup M7=some ⟨ahM,ahJ,.func (PySem.W.fnOf "is_row" "is_row" (defArgs mQ) (defBody mQ) (defScope mQ) .none ahN ahO ahP ahK U3 ahQ),ahL⟩) (Ni:PySem.W.codeIn K U3 "is_row" =true) (Nj:PySem.W.keepIn K (.ref M7)=true)
    (yL:PySem.W.nsIn K mainGlobals "is_picture" =some (some (.ref yd))) (yM:K.lookup yd=some ⟨WD,Ww,.func (PySem.W.fnOf "is_picture" "is_picture" (defArgs fY) (defBody fY) (defScope fY) .none WK WL WM Wx Gv WQ),Wz⟩) (yN:PySem.W.codeIn K Gv "is_picture" =true) (yO:PySem.W.keepIn K (.ref yd)=true)
    (uh:PySem.W.nsIn K mainGlobals "need_picture" =some (some (.ref tY))) (um:K.lookup tY=some ⟨Ql,Qi,.func (PySem.W.fnOf "need_picture" "need_picture" (defArgs d8) (defBody d8) (defScope d8) .none Qm Qn Qo Qj Aa Qp),Qk⟩) (uo:PySem.W.codeIn K Aa "need_picture" =true) (uq:PySem.W.keepIn K (.ref tY)=true)
    (yP:PySem.W.nsIn K mainGlobals "brightness" =some (some (.ref yg))) (yQ:K.lookup yg=some ⟨WX,WR,.func (PySem.W.fnOf "brightness" "brightness" (defArgs fZ) (defBody fZ) (defScope fZ) .none WY W0 W2 WT Gw W3),WW⟩) (yR:PySem.W.codeIn K Gw "brightness" =true) (yS:PySem.W.keepIn K (.ref yg)=true)
    (aau:PySem.W.nsIn K mainGlobals "gaps" =some (some (.ref Zy))) (aav:K.lookup Zy=some ⟨ali,alf,.func (PySem.W.fnOf "gaps" "gaps" (defArgs rP) (defBody rP) (defScope rP) .none alj alk alm alg adK aln),alh⟩) (aaw:PySem.W.codeIn K adK "gaps" =true) (aax:PySem.W.keepIn K (.ref Zy)=true)
    (yU:PySem.W.nsIn K mainGlobals "join_fares" =some (some (.ref yh))) (yV:K.lookup yh=some ⟨W7,W4,.func (PySem.W.fnOf "join_fares" "join_fares" (defArgs f9) (defBody f9) (defScope f9) .none W8 W9 Xa W5 Gx Xb),W6⟩) (yW:PySem.W.codeIn K Gx "join_fares" =true) (yX:PySem.W.keepIn K (.ref yh)=true)
    (Js:PySem.W.nsIn K mainGlobals "size_of" =some (some (.ref Iw))) (Jt:K.lookup Iw=some ⟨afj,afg,.func (PySem.W.fnOf "size_of" "size_of" (defArgs kY) (defBody kY) (defScope kY) .none afk afl afm afh Qq afn),afi⟩) (Ju:PySem.W.codeIn K Qq "size_of" =true) (Jv:PySem.W.keepIn K (.ref Iw)=true)
    (Nk:PySem.W.nsIn K mainGlobals "turned" =some (some (.ref M8))) (Nm:K.lookup M8=some ⟨ahU,ahR,.func (PySem.W.fnOf "turned" "turned" (defArgs mR) (defBody mR) (defScope mR) .none ahV ahW ahX ahS U4 ahY),ahT⟩) (Np:PySem.W.codeIn K U4 "turned" =true) (Nq:PySem.W.keepIn K (.ref M8)=true)
    (Nr:PySem.W.nsIn K mainGlobals "worths" =some (some (.ref M9))) (Nt:K.lookup M9=some ⟨ah2,ahZ,.func (PySem.W.fnOf "worths" "worths" (defArgs mU) (defBody mU) (defScope mU) .none ah3 ah4 ah5 ah0 U5 ah6),ah1⟩) (Nu:PySem.W.codeIn K U5 "worths" =true) (Nv:PySem.W.keepIn K (.ref M9)=true)
    (Tw:PySem.W.nsIn K mainGlobals "fares" =some (some (.ref R3))) (Tz:K.lookup R3=some ⟨ajF,ajC,.func (PySem.W.fnOf "fares" "fares" (defArgs pU) (defBody pU) (defScope pU) .none ajG ajH ajI ajD ZQ ajJ),ajE⟩) (TF:PySem.W.codeIn K ZQ "fares" =true) (TJ:PySem.W.keepIn K (.ref R3)=true)
    (vQ:PySem.W.nsIn K mainGlobals "need_manner" =some (some (.ref vI))) (vR:K.lookup vI=some ⟨SM,Sx,.func (PySem.W.fnOf "need_manner" "need_manner" (defArgs eX) (defBody eX) (defScope eX) .none SN SQ SX Sy Cv S5),SJ⟩) (vU:PySem.W.codeIn K Cv "need_manner" =true) (vV:PySem.W.keepIn K (.ref vI)=true)
    (Nx:PySem.W.nsIn K mainGlobals "is_way" =some (some (.ref Nb))) (Ny:K.lookup Nb=some ⟨aia,ah7,.func (PySem.W.fnOf "is_way" "is_way" (defArgs mV) (defBody mV) (defScope mV) .none aib aic aie ah8 U6 aif),ah9⟩) (Nz:PySem.W.codeIn K U6 "is_way" =true) (NK:PySem.W.keepIn K (.ref Nb)=true)
    (Jw:PySem.W.nsIn K mainGlobals "is_seam" =some (some (.ref Iz))) (Jx:K.lookup Iz=some ⟨afr,afo,.func (PySem.W.fnOf "is_seam" "is_seam" (defArgs kZ) (defBody kZ) (defScope kZ) .none afs afu afv afp Qs afw),afq⟩) (Jy:PySem.W.codeIn K Qs "is_seam" =true) (Jz:PySem.W.keepIn K (.ref Iz)=true)
    (Bg:PySem.W.nsIn K mainGlobals "need_seam" =some (some (.ref Aq))) (Bh:K.lookup Aq=some ⟨ZW,ZR,.func (PySem.W.fnOf "need_seam" "need_seam" (defArgs gY) (defBody gY) (defScope gY) .none ZX Z0 Z1 ZS Jf Z4),ZV⟩) (Bj:PySem.W.codeIn K Jf "need_seam" =true) (Bk:PySem.W.keepIn K (.ref Aq)=true)
    (JB:PySem.W.nsIn K mainGlobals "fare_of" =some (some (.ref IK))) (JC:K.lookup IK=some ⟨afA,afx,.func (PySem.W.fnOf "fare_of" "fare_of" (defArgs lg) (defBody lg) (defScope lg) .none afB afC afD afy Qt afE),afz⟩) (JD:PySem.W.codeIn K Qt "fare_of" =true) (JF:PySem.W.keepIn K (.ref IK)=true)
    (Ew:PySem.W.nsIn K mainGlobals "way_cost" =some (some (.ref DQ))) (Ey:K.lookup DQ=some ⟨abS,abP,.func (PySem.W.fnOf "way_cost" "way_cost" (defArgs jm) (defBody jm) (defScope jm) .none abT abU abV abQ Lx abW),abR⟩) (Ez:PySem.W.codeIn K Lx "way_cost" =true) (EY:PySem.W.keepIn K (.ref DQ)=true)
    (JG:PySem.W.nsIn K mainGlobals "cost_of" =some (some (.ref IV))) (JH:K.lookup IV=some ⟨afH,afF,.func (PySem.W.fnOf "cost_of" "cost_of" (defArgs gB) (defBody gB) (defScope gB) .none Qv Qw Qx Qu Ef Qy),afG⟩) (JK:PySem.W.codeIn K Ef "cost_of" =true) (JL:PySem.W.keepIn K (.ref IV)=true)
    (JM:PySem.W.nsIn K mainGlobals "without" =some (some (.ref IW))) (JN:K.lookup IW=some ⟨afL,afI,.func (PySem.W.fnOf "without" "without" (defArgs lq) (defBody lq) (defScope lq) .none afM afN afO afJ Qz afP),afK⟩) (JQ:PySem.W.codeIn K Qz "without" =true) (JR:PySem.W.keepIn K (.ref IW)=true)
    (agm:PySem.W.nsIn K mainGlobals "cut" =some (some (.ref aeX))) (agn:K.lookup aeX=some ⟨amK,amH,.func (PySem.W.fnOf "cut" "cut" (defArgs wD) (defBody wD) (defScope wD) .none amL amM amN amI aii amO),amJ⟩) (ago:PySem.W.codeIn K aii "cut" =true) (agp:PySem.W.keepIn K (.ref aeX)=true)
    (Fb:PySem.W.nsIn K mainGlobals "all_free" =some (some (.ref DR))) (Fd:K.lookup DR=some ⟨ab0,abX,.func (PySem.W.fnOf "all_free" "all_free" (defArgs jo) (defBody jo) (defScope jo) .none ab1 ab2 ab3 abY Ly ab4),abZ⟩) (Fe:PySem.W.codeIn K Ly "all_free" =true) (Fg:PySem.W.keepIn K (.ref DR)=true)
    (JT:PySem.W.nsIn K mainGlobals "is_mark" =some (some (.ref Ja))) (JV:K.lookup Ja=some ⟨afT,afQ,.func (PySem.W.fnOf "is_mark" "is_mark" (defArgs lu) (defBody lu) (defScope lu) .none afU afV afW afR QB afX),afS⟩) (JW:PySem.W.codeIn K QB "is_mark" =true) (JX:PySem.W.keepIn K (.ref Ja)=true)
    (ur:PySem.W.nsIn K mainGlobals "is_marks_row" =some (some (.ref tZ))) (uw:K.lookup tZ=some ⟨QG,QC,.func (PySem.W.fnOf "is_marks_row" "is_marks_row" (defArgs d9) (defBody d9) (defScope d9) .none QH QJ QK QD Ab QL),QF⟩) (ux:PySem.W.codeIn K Ab "is_marks_row" =true) (uz:PySem.W.keepIn K (.ref tZ)=true)
    (Fi:PySem.W.nsIn K mainGlobals "is_marks" =some (some (.ref DX))) (Fj:K.lookup DX=some ⟨ab8,ab5,.func (PySem.W.fnOf "is_marks" "is_marks" (defArgs jq) (defBody jq) (defScope jq) .none ab9 acd ace ab6 Lz acf),ab7⟩) (Fl:PySem.W.codeIn K Lz "is_marks" =true) (Fo:PySem.W.keepIn K (.ref DX)=true)
    (yZ:PySem.W.nsIn K mainGlobals "full_marks" =some (some (.ref yj))) (za:K.lookup yj=some ⟨Xf,Xc,.func (PySem.W.fnOf "full_marks" "full_marks" (defArgs gj) (defBody gj) (defScope gj) .none Xg Xh Xi Xd Gy Xj),Xe⟩) (zf:PySem.W.codeIn K Gy "full_marks" =true) (zj:PySem.W.keepIn K (.ref yj)=true)
    (zm:PySem.W.nsIn K mainGlobals "need_width" =some (some (.ref yp))) (zp:K.lookup yp=some ⟨Xn,Xk,.func (PySem.W.fnOf "need_width" "need_width" (defArgs gk) (defBody gk) (defScope gk) .none Xo Xp Xq Xl Gz Xr),Xm⟩) (zq:PySem.W.codeIn K Gz "need_width" =true) (zu:PySem.W.keepIn K (.ref yp)=true)
    (vW:PySem.W.nsIn K mainGlobals "cells_along" =some (some (.ref vJ))) (vX:K.lookup vJ=some ⟨S9,S6,.func (PySem.W.fnOf "cells_along" "cells_along" (defArgs eY) (defBody eY) (defScope eY) .none Tc Td Te S7 Cw Tf),S8⟩) (vY:PySem.W.codeIn K Cw "cells_along" =true) (vZ:PySem.W.keepIn K (.ref vJ)=true)
    (aay:PySem.W.nsIn K mainGlobals "near" =some (some (.ref Zz))) (aaz:K.lookup Zz=some ⟨alr,alo,.func (PySem.W.fnOf "near" "near" (defArgs rQ) (defBody rQ) (defScope rQ) .none als alu alv alp adL alw),alq⟩) (aaA:PySem.W.codeIn K adL "near" =true) (aaB:PySem.W.keepIn K (.ref Zz)=true)
    (NP:PySem.W.nsIn K mainGlobals "onward" =some (some (.ref Nf))) (NQ:K.lookup Nf=some ⟨ain,aij,.func (PySem.W.fnOf "onward" "onward" (defArgs mW) (defBody mW) (defScope mW) .none aio aip aiq aik U7 air),ail⟩) (NT:PySem.W.codeIn K U7 "onward" =true) (NZ:PySem.W.keepIn K (.ref Nf)=true)
    (TQ:PySem.W.nsIn K mainGlobals "swept" =some (some (.ref R4))) (TV:K.lookup R4=some ⟨ajN,ajK,.func (PySem.W.fnOf "swept" "swept" (defArgs pW) (defBody pW) (defScope pW) .none ajO ajP ajQ ajL Z5 ajR),ajM⟩) (TX:PySem.W.codeIn K Z5 "swept" =true) (TY:PySem.W.keepIn K (.ref R4)=true)
    (Bl:PySem.W.nsIn K mainGlobals "best_ways" =some (some (.ref Ar))) (Bm:K.lookup Ar=some ⟨Z9,Z6,.func (PySem.W.fnOf "best_ways" "best_ways" (defArgs fD) (defBody fD) (defScope fD) .none aac aad aae Z7 Jg aaf),Z8⟩) (Bo:PySem.W.codeIn K Jg "best_ways" =true) (Bp:PySem.W.keepIn K (.ref Ar)=true)
    (Fp:PySem.W.nsIn K mainGlobals "from_top" =some (some (.ref DY))) (Fq:K.lookup DY=some ⟨acj,acg,.func (PySem.W.fnOf "from_top" "from_top" (defArgs jr) (defBody jr) (defScope jr) .none acn aco acp ach LC acq),aci⟩) (Ft:PySem.W.codeIn K LC "from_top" =true) (Fv:PySem.W.keepIn K (.ref DY)=true)
    (v7:PySem.W.nsIn K mainGlobals "first_seams" =some (some (.ref vK))) (v9:K.lookup vK=some ⟨Tn,Tg,.func (PySem.W.fnOf "first_seams" "first_seams" (defArgs eZ) (defBody eZ) (defScope eZ) .none Tp Tq Tr Ti Cy Tt),Tj⟩) (wg:PySem.W.codeIn K Cy "first_seams" =true) (wj:PySem.W.keepIn K (.ref vK)=true)
    (Bq:PySem.W.nsIn K mainGlobals "least_way" =some (some (.ref Av))) (Br:K.lookup Av=some ⟨aaj,aag,.func (PySem.W.fnOf "least_way" "least_way" (defArgs gZ) (defBody gZ) (defScope gZ) .none aak aal aam aah Jh aan),aai⟩) (Bs:PySem.W.codeIn K Jh "least_way" =true) (Bt:PySem.W.keepIn K (.ref Av)=true)
    (T3:PySem.W.nsIn K mainGlobals "taken" =some (some (.ref R5))) (T4:K.lookup R5=some ⟨ajV,ajS,.func (PySem.W.fnOf "taken" "taken" (defArgs pX) (defBody pX) (defScope pX) .none ajW ajX ajY ajT aao ajZ),ajU⟩) (T5:PySem.W.codeIn K aao "taken" =true) (T6:PySem.W.keepIn K (.ref R5)=true)
    (Fw:PySem.W.nsIn K mainGlobals "taken_to" =some (some (.ref Ea))) (Fx:K.lookup Ea=some ⟨acv,acr,.func (PySem.W.fnOf "taken_to" "taken_to" (defArgs jt) (defBody jt) (defScope jt) .none acw acy acz acs LK acA),acu⟩) (Fy:PySem.W.codeIn K LK "taken_to" =true) (Fz:PySem.W.keepIn K (.ref Ea)=true)
    (JZ:PySem.W.nsIn K mainGlobals "history" =some (some (.ref Jb))) (J4:K.lookup Jb=some ⟨af0,afY,.func (PySem.W.fnOf "history" "history" (defArgs dX) (defBody dX) (defScope dX) .none Ei Ej Ek Eh wG El),afZ⟩) (J5:PySem.W.codeIn K wG "history" =true) (J6:PySem.W.keepIn K (.ref Jb)=true)
    (FJ:PySem.W.nsIn K mainGlobals "laid_out" =some (some (.ref Eb))) (FN:K.lookup Eb=some ⟨acE,acB,.func (PySem.W.fnOf "laid_out" "laid_out" (defArgs ju) (defBody ju) (defScope ju) .none acF acG acH acC LQ acI),acD⟩) (FQ:PySem.W.codeIn K LQ "laid_out" =true) (FW:PySem.W.keepIn K (.ref Eb)=true)
    (zx:PySem.W.nsIn K mainGlobals "least_seam" =some (some (.ref yq))) (zy:K.lookup yq=some ⟨Xw,Xu,.func (PySem.W.fnOf "least_seam" "least_seam" (defArgs dJ) (defBody dJ) (defScope dJ) .none GD GF GJ GC vL GK),Xv⟩) (zA:PySem.W.codeIn K vL "least_seam" =true) (zB:PySem.W.keepIn K (.ref yq)=true)
    (aaC:PySem.W.nsIn K mainGlobals "loss" =some (some (.ref ZC))) (aaD:K.lookup ZC=some ⟨alz,alx,.func (PySem.W.fnOf "loss" "loss" (defArgs nq) (defBody nq) (defScope nq) .none adN adO adP adM Tv adQ),aly⟩) (aaE:PySem.W.codeIn K Tv "loss" =true) (aaF:PySem.W.keepIn K (.ref ZC)=true)
    (FZ:PySem.W.nsIn K mainGlobals "narrowed" =some (some (.ref Ec))) (Ga:K.lookup Ec=some ⟨acL,acJ,.func (PySem.W.fnOf "narrowed" "narrowed" (defArgs dG) (defBody dG) (defScope dG) .none Ax Ay Az Aw uL Ba),acK⟩) (Gb:PySem.W.codeIn K uL "narrowed" =true) (Gd:PySem.W.keepIn K (.ref Ec)=true)
    (Ge:PySem.W.nsIn K mainGlobals "is_cells" =some (some (.ref Ed))) (Gf:K.lookup Ed=some ⟨acP,acM,.func (PySem.W.fnOf "is_cells" "is_cells" (defArgs jw) (defBody jw) (defScope jw) .none acQ acR acS acN LR acT),acO⟩) (Gg:PySem.W.codeIn K LR "is_cells" =true) (Gh:PySem.W.keepIn K (.ref Ed)=true)
    (Ka:PySem.W.nsIn K mainGlobals "is_step" =some (some (.ref Jc))) (Kc:K.lookup Jc=some ⟨af5,af2,.func (PySem.W.fnOf "is_step" "is_step" (defArgs lA) (defBody lA) (defScope lA) .none af6 af7 af8 af3 QM af9),af4⟩) (Kd:PySem.W.codeIn K QM "is_step" =true) (Ke:PySem.W.keepIn K (.ref Jc)=true)
    (zE:PySem.W.nsIn K mainGlobals "with_cells" =some (some (.ref yt))) (zF:K.lookup yt=some ⟨XC,Xx,.func (PySem.W.fnOf "with_cells" "with_cells" (defArgs gq) (defBody gq) (defScope gq) .none XD XF XH Xy GQ XJ),Xz⟩) (zG:PySem.W.codeIn K GQ "with_cells" =true) (zH:PySem.W.keepIn K (.ref yt)=true)
    (Kf:PySem.W.nsIn K mainGlobals "rebuilt" =some (some (.ref Jd))) (Kg:K.lookup Jd=some ⟨agd,aga,.func (PySem.W.fnOf "rebuilt" "rebuilt" (defArgs lB) (defBody lB) (defScope lB) .none agf agg agh agb QS agi),agc⟩) (Kh:PySem.W.codeIn K QS "rebuilt" =true) (Kl:PySem.W.keepIn K (.ref Jd)=true)
    (QV:PySem.W.nsIn K mainGlobals "law" =some (some (.ref aeY))) (agq:K.lookup aeY=some ⟨amR,amP,.func (PySem.W.fnOf "law" "law" (defArgs qD) (defBody qD) (defScope qD) .none ait aiu aiv ais aap aiw),amQ⟩) (agr:PySem.W.codeIn K aap "law" =true) (ags:PySem.W.keepIn K (.ref aeY)=true)
    (lG:KB K (PySem.W.fnOf "cost_of" "cost_of" (defArgs gB) (defBody gB) (defScope gB) .none Qv Qw Qx Qu Ef Qy) ["picture","seam","manner"] ["manner"] [.inl 0])
    (jF:KB K (PySem.W.fnOf "history" "history" (defArgs dX) (defBody dX) (defScope dX) .none Ei Ej Ek Eh wG El) ["picture","wide","manner","marks"] ["manner"] [.inl 0,.inr .none])
    (lH:KB K (PySem.W.fnOf "history" "history" (defArgs dX) (defBody dX) (defScope dX) .none Ei Ej Ek Eh wG El) ["picture","wide","manner","marks"] ["manner","marks"] [.inl 0,.inl 1])
    (gP:KB K (PySem.W.fnOf "least_seam" "least_seam" (defArgs dJ) (defBody dJ) (defScope dJ) .none GD GF GJ GC vL GK) ["picture","manner","marks"] ["manner"] [.inl 0,.inr .none])
    (qL:KB K (PySem.W.fnOf "loss" "loss" (defArgs nq) (defBody nq) (defScope nq) .none adN adO adP adM Tv adQ) ["picture","wide","manner"] ["manner"] [.inl 0])
    (gw:KB K (PySem.W.fnOf "narrowed" "narrowed" (defArgs dG) (defBody dG) (defScope dG) .none Ax Ay Az Aw uL Ba) ["picture","wide","manner","marks"] ["manner"] [.inl 0,.inr .none])
    (jV:KB K (PySem.W.fnOf "narrowed" "narrowed" (defArgs dG) (defBody dG) (defScope dG) .none Ax Ay Az Aw uL Ba) ["picture","wide","manner","marks"] ["manner","marks"] [.inl 0,.inl 1])
    :∃fd:FuncData,(∀(s:Shared) (v:Value),BindsTo s fd ⟨[v],[]⟩ [("_law_script",v)])∧∀(base:Heap) (c TP:Addr),K.In base→base.Ns mainGlobals mg→uI base mg c TP→Hr K mg "best_ways" c→FnOk l.prog w K mg base CX0 13 fa fd ["_law_script"] (spT [(TP,"best_ways.<locals>.first_ones")] K 1 OJ):=by
  have e:=hfa.symm.trans (PySem.W.mg_of X G QV)
  cases e
  have T:Txt K mg:=⟨⟨_,PySem.W.mg_of X G Ci⟩,⟨_,PySem.W.mg_of X G Cj⟩,⟨_,PySem.W.mg_of X G Ik⟩,⟨_,PySem.W.mg_of X G qw⟩,⟨_,PySem.W.mg_of X G nM⟩,akC X G uY Ji (show 2≤sizeLine from Nat.le_trans (by decide) (Nat.le_of_lt jz)) (.cons ⟨_,rfl⟩ (.cons ⟨_,rfl⟩ (.nil))),PySem.W.mg_none_of X G zW,PySem.W.mg_none_of X G qF,PySem.W.mg_none_of X G Il,PySem.W.mg_none_of X G ig,PySem.W.mg_none_of X G Pn,PySem.W.mg_none_of X G dj,PySem.W.mg_none_of X G cO,PySem.W.mg_none_of X G Ck,PySem.W.mg_none_of X G zX,PySem.W.mg_none_of X G Dz,PySem.W.mg_none_of X G fB,PySem.W.mg_none_of X G pZ,PySem.W.mg_none_of X G tW,PySem.W.mg_none_of X G zY,PySem.W.mg_none_of X G dB,PySem.W.mg_none_of X G wF,Pq,Im,nO,Io⟩
  have QW:=fun_mk (st:=jj) En Eo Ep
  have Km:=fun_mk (st:=fV) yw yx yC
  have GR:=fun_mk (st:=eV) vN vO vP
  have Ko:=fun_mk (st:=fW) yE yF yG
  have Kp:=fun_mk (st:=fX) yI yJ yK
  have Cz:=fun_mk (st:=d7) ud uf ug
  have Ma:=fun_mk (st:=gW) Bc Bd Bf
  have U8:=fun_mk (st:=kO) Jk Jl Jm
  have QX:=fun_mk (st:=jk) Es Et Eu
  have U9:=fun_mk (st:=kW) Jp Jq Jr
  have aaG:=fun_mk (st:=mQ) Nh Ni Nj
  have Kq:=fun_mk (st:=fY) yM yN yO
  have CG:=fun_mk (st:=d8) um uo uq
  have Kr:=fun_mk (st:=fZ) yQ yR yS
  have aix:=fun_mk (st:=rP) aav aaw aax
  have Ks:=fun_mk (st:=f9) yV yW yX
  have Va:=fun_mk (st:=kY) Jt Ju Jv
  have aaH:=fun_mk (st:=mR) Nm Np Nq
  have aaI:=fun_mk (st:=mU) Nt Nu Nv
  have adR:=fun_mk (st:=pU) Tz TF TJ
  have GX:=fun_mk (st:=eX) vR vU vV
  have aaJ:=fun_mk (st:=mV) Ny Nz NK
  have Vb:=fun_mk (st:=kZ) Jx Jy Jz
  have Mf:=fun_mk (st:=gY) Bh Bj Bk
  have Vc:=fun_mk (st:=lg) JC JD JF
  have QZ:=fun_mk (st:=jm) Ey Ez EY
  have aiy:=fun_mk (st:=gB) JH JK JL
  have Vd:=fun_mk (st:=lq) JN JQ JR
  have akh:=fun_mk (st:=wD) agn ago agp
  have Q0:=fun_mk (st:=jo) Fd Fe Fg
  have Ve:=fun_mk (st:=lu) JV JW JX
  have CJ:=fun_mk (st:=d9) uw ux uz
  have Q5:=fun_mk (st:=jq) Fj Fl Fo
  have Ku:=fun_mk (st:=gj) za zf zj
  have Kv:=fun_mk (st:=gk) zp zq zu
  have GZ:=fun_mk (st:=eY) vX vY vZ
  have aiz:=fun_mk (st:=rQ) aaz aaA aaB
  have aaK:=fun_mk (st:=mW) NQ NT NZ
  have adS:=fun_mk (st:=pW) TV TX TY
  have Mg:=fun_mk (st:=fD) Bm Bo Bp
  have Q6:=fun_mk (st:=jr) Fq Ft Fv
  have G3:=fun_mk (st:=eZ) v9 wg wj
  have Mh:=fun_mk (st:=gZ) Br Bs Bt
  have adT:=fun_mk (st:=pX) T4 T5 T6
  have Q7:=fun_mk (st:=jt) Fx Fy Fz
  have aiA:=fun_mk (st:=dX) J4 J5 J6
  have Q8:=fun_mk (st:=ju) FN FQ FW
  have aaL:=fun_mk (st:=dJ) zy zA zB
  have amS:=fun_mk (st:=nq) aaD aaE aaF
  have agt:=fun_mk (st:=dG) Ga Gb Gd
  have Q9:=fun_mk (st:=jw) Gf Gg Gh
  have Vf:=fun_mk (st:=lA) Kc Kd Ke
  have Kw:=fun_mk (st:=gq) zF zG zH
  have Vg:=fun_mk (st:=lB) Kg Kh Kl
  have aki:=fun_mk (st:=qD) agq agr ags
  have agu:=QW.binds (ps:=["_law_rows","_law_seam"]) fun _ _ _ _ _ _ us hl=>rN hl fun _ _=>rfl
  have aaM:=Km.binds (ps:=["_law_script","_law_k","_law_many"]) fun _ _ _ _ _ _ us hl=>Gq hl fun _ _ _=>rfl
  have XM:=GR.binds (ps:=["_law_script","_law_at"]) fun _ _ _ _ _ _ us hl=>rN hl fun _ _=>rfl
  have aaN:=Ko.binds (ps:=["_law_script","_law_at","_law_picture_here"]) fun _ _ _ _ _ _ us hl=>Gq hl fun _ _ _=>rfl
  have aaO:=Kp.binds (ps:=["_law_tags","_law_seam","_law_sign"]) fun _ _ _ _ _ _ us hl=>Gq hl fun _ _ _=>rfl
  have T7:=Cz.binds (ps:=["_law_script","_law_at","_law_broad","_law_tall"]) fun _ _ _ _ _ _ us hl=>lk4 hl fun _ _ _ _=>rfl
  have acU:=Ma.binds (ps:=["_law_script","_law_at","_law_broad","_law_tall"]) fun _ _ _ _ _ _ us hl=>lk4 hl fun _ _ _ _=>rfl
  have aiB:=U8.binds (ps:=["thing"]) fun _ _ _ _ _ _ us hl=>xQ hl fun _=>rfl
  have agv:=QX.binds (ps:=["thing"]) fun _ _ _ _ _ _ us hl=>xQ hl fun _=>rfl
  have aiC:=U9.binds (ps:=["thing"]) fun _ _ _ _ _ _ us hl=>xQ hl fun _=>rfl
  have aj0:=aaG.binds (ps:=["thing"]) fun _ _ _ _ _ _ us hl=>xQ hl fun _=>rfl
  have aaP:=Kq.binds (ps:=["thing"]) fun _ _ _ _ _ _ us hl=>xQ hl fun _=>rfl
  have T8:=CG.binds (ps:=["thing"]) fun _ _ _ _ _ _ us hl=>xQ hl fun _=>rfl
  have aaQ:=Kr.binds (ps:=["picture"]) fun _ _ _ _ _ _ us hl=>xQ hl fun _=>rfl
  have amT:=aix.binds (ps:=["line"]) fun _ _ _ _ _ _ us hl=>xQ hl fun _=>rfl
  have aaR:=Ks.binds (ps:=["picture","y"]) fun _ _ _ _ _ _ us hl=>rN hl fun _ _=>rfl
  have aiD:=Va.binds (ps:=["picture"]) fun _ _ _ _ _ _ us hl=>xQ hl fun _=>rfl
  have aj1:=aaH.binds (ps:=["picture"]) fun _ _ _ _ _ _ us hl=>xQ hl fun _=>rfl
  have aj2:=aaI.binds (ps:=["picture"]) fun _ _ _ _ _ _ us hl=>xQ hl fun _=>rfl
  have alD:=adR.binds (ps:=["picture","manner"]) fun _ _ _ _ _ _ us hl=>rN hl fun _ _=>rfl
  have XQ:=GX.binds (ps:=["thing"]) fun _ _ _ _ _ _ us hl=>xQ hl fun _=>rfl
  have aj3:=aaJ.binds (ps:=["thing","wide","high"]) fun _ _ _ _ _ _ us hl=>Gq hl fun _ _ _=>rfl
  have aiE:=Vb.binds (ps:=["thing","picture"]) fun _ _ _ _ _ _ us hl=>rN hl fun _ _=>rfl
  have acV:=Mf.binds (ps:=["thing","picture"]) fun _ _ _ _ _ _ us hl=>rN hl fun _ _=>rfl
  have aiF:=Vc.binds (ps:=["row","above","place"]) fun _ _ _ _ _ _ us hl=>Gq hl fun _ _ _=>rfl
  have agw:=QZ.binds (ps:=["table","way"]) fun _ _ _ _ _ _ us hl=>rN hl fun _ _=>rfl
  have aiG:=Vd.binds (ps:=["rows","seam"]) fun _ _ _ _ _ _ us hl=>rN hl fun _ _=>rfl
  have ank:=akh.binds (ps:=["picture","seam"]) fun _ _ _ _ _ _ us hl=>rN hl fun _ _=>rfl
  have agx:=Q0.binds (ps:=["picture"]) fun _ _ _ _ _ _ us hl=>xQ hl fun _=>rfl
  have aiH:=Ve.binds (ps:=["thing"]) fun _ _ _ _ _ _ us hl=>xQ hl fun _=>rfl
  have T9:=CJ.binds (ps:=["thing","wide"]) fun _ _ _ _ _ _ us hl=>rN hl fun _ _=>rfl
  have agy:=Q5.binds (ps:=["thing","picture"]) fun _ _ _ _ _ _ us hl=>rN hl fun _ _=>rfl
  have aaS:=Ku.binds (ps:=["thing","picture"]) fun _ _ _ _ _ _ us hl=>rN hl fun _ _=>rfl
  have aaT:=Kv.binds (ps:=["thing","least","most"]) fun _ _ _ _ _ _ us hl=>Gq hl fun _ _ _=>rfl
  have XR:=GZ.binds (ps:=["picture","seam"]) fun _ _ _ _ _ _ us hl=>rN hl fun _ _=>rfl
  have amU:=aiz.binds (ps:=["place","wide"]) fun _ _ _ _ _ _ us hl=>rN hl fun _ _=>rfl
  have aj4:=aaK.binds (ps:=["beneath","row","x"]) fun _ _ _ _ _ _ us hl=>Gq hl fun _ _ _=>rfl
  have alE:=adS.binds (ps:=["table","marks","start","gather"]) fun _ _ _ _ _ _ us hl=>lk4 hl fun _ _ _ _=>rfl
  have qz:=Mg.binds (ps:=["table","marks","many"]) fun _ _ _ _ _ _ us hl=>Gq hl fun _ _ _=>rfl
  have agz:=Q6.binds (ps:=["table","rows"]) fun _ _ _ _ _ _ us hl=>rN hl fun _ _=>rfl
  have nA:=G3.binds (ps:=["table","marks","many"]) fun _ _ _ _ _ _ us hl=>Gq hl fun _ _ _=>rfl
  have fJ:=Mh.binds (ps:=["table","marks"]) fun _ _ _ _ _ _ us hl=>rN hl fun _ _=>rfl
  have Cq:=adT.binds (ps:=["picture","many","manner","marks"]) fun _ _ _ _ _ _ us hl=>lk4 hl fun _ _ _ _=>rfl
  have dI:=Q7.binds (ps:=["picture","wide","manner","marks"]) fun _ _ _ _ _ _ us hl=>lk4 hl fun _ _ _ _=>rfl
  have agA:=Q8.binds (ps:=["picture","manner","marks"]) fun _ _ _ _ _ _ us hl=>Gq hl fun _ _ _=>rfl
  have agB:=Q9.binds (ps:=["thing","high"]) fun _ _ _ _ _ _ us hl=>rN hl fun _ _=>rfl
  have aiI:=Vf.binds (ps:=["thing","wide","high"]) fun _ _ _ _ _ _ us hl=>Gq hl fun _ _ _=>rfl
  have aaU:=Kw.binds (ps:=["rows","seam","cells"]) fun _ _ _ _ _ _ us hl=>Gq hl fun _ _ _=>rfl
  have aiJ:=Vg.binds (ps:=["picture","steps"]) fun _ _ _ _ _ _ us hl=>rN hl fun _ _=>rfl
  have anJ:=aki.binds (ps:=["_law_script"]) fun _ _ _ _ _ _ us hl=>xQ hl fun _=>rfl
  refine⟨PySem.W.fnOf "law" "law" (defArgs qD) (defBody qD) (defScope qD) .none ait aiu aiv ais aap aiw,fun s v=> .of_eq rfl,fun base cN TP _ _ hB hCI=>?_⟩
  have sy:aM l.prog w K mg base 1 "_law_cut" 2 pK:=abb QW (PySem.W.mg_of X G Em) agu T
  have bD:aM l.prog w K mg base 1 "_law_drawn" 3 bJ:=Vv Km (PySem.W.mg_of X G yu) aaM T
  have nF:aM l.prog w K mg base 2 "_law_manner" 2 jZ:=RP GR (PySem.W.mg_of X G vM) XM T bD
  have pD:aM l.prog w K mg base 2 "_law_marks" 3 lQ:=Vx Ko (PySem.W.mg_of X G yD) aaN T bD
  have pF:aM l.prog w K mg base 1 "_law_signs" 3 lR:=Vz Kp (PySem.W.mg_of X G yH) aaO T
  have lY:aM l.prog w K mg base 2 "_law_picture" 4 jJ:=Px Cz (PySem.W.mg_of X G uc) T7 T bD
  have qC:aM l.prog w K mg base 3 "_law_some" 4 nJ:=Zn Ma (PySem.W.mg_of X G Bb) acU T bD lY
  have jE:aM l.prog w K mg base 1 "is_line" 1 jA:=aeC U8 (PySem.W.mg_of X G Jj) aiB T
  have cJ:aM l.prog w K mg base 1 "is_whole" 1 cX:=abf QX (PySem.W.mg_of X G Er) agv T
  have jD:aM l.prog w K mg base 2 "is_cell" 1 kI:=aeE U9 (PySem.W.mg_of X G Jo) aiC T cJ
  have xT:aM l.prog w K mg base 3 "is_row" 1 tE:=ahA aaG (PySem.W.mg_of X G Ng) aj0 T jD jE
  have o8:aM l.prog w K mg base 4 "is_picture" 1 lU:=VD Kq (PySem.W.mg_of X G yL) aaP T jE xT
  have bC:aM l.prog w K mg base 5 "need_picture" 1 bM:=Pz CG (PySem.W.mg_of X G uh) T8 T o8
  have mq:aM l.prog w K mg base 6 "brightness" 1 jR:=VG Kr (PySem.W.mg_of X G yP) aaQ T bC
  have o9:aM l.prog w K mg base 1 "gaps" 1 qm:=ala aix (PySem.W.mg_of X G aau) amT T
  have pq:aM l.prog w K mg base 2 "join_fares" 2 lV:=VJ Ks (PySem.W.mg_of X G yU) aaR T o9
  have bR:aM l.prog w K mg base 6 "size_of" 1 cQ:=aeG Va (PySem.W.mg_of X G Js) aiD T bC
  have xU:aM l.prog w K mg base 7 "turned" 1 tK:=ahC aaH (PySem.W.mg_of X G Nk) aj1 T bR
  have xV:aM l.prog w K mg base 8 "worths" 1 tL:=ahE aaI (PySem.W.mg_of X G Nr) aj2 T o9 bR xU
  have gO:aM l.prog w K mg base 9 "fares" 2 iU:=ajx adR (PySem.W.mg_of X G Tw) alD T pq xV
  have cL:aM l.prog w K mg base 1 "need_manner" 1 cZ:=RT GX (PySem.W.mg_of X G vQ) XQ T
  have lE:aM l.prog w K mg base 2 "is_way" 3 mO:=ahG aaJ (PySem.W.mg_of X G Nx) aj3 T cJ
  have uZ:aM l.prog w K mg base 7 "is_seam" 2 qU:=aeI Vb (PySem.W.mg_of X G Jw) aiE T lE bR
  have fG:aM l.prog w K mg base 8 "need_seam" 2 gR:=Zq Mf (PySem.W.mg_of X G Bg) acV T uZ
  have dM:aM l.prog w K mg base 1 "fare_of" 3 dF:=aeK Vc (PySem.W.mg_of X G JB) aiF T
  have rR:aM l.prog w K mg base 2 "way_cost" 2 pL:=abj QZ (PySem.W.mg_of X G Ew) agw T dM
  have u9:=aeM (P:=l.prog) (w:=w) (base:=base) aiy (PySem.W.mg_of X G JG) T gO cL bC fG rR
  have iQ:aM l.prog w K mg base 1 "without" 2 jB:=aeO Vd (PySem.W.mg_of X G JM) aiG T
  have PL:aM l.prog w K mg base 9 "cut" 2 K4:=amC akh (PySem.W.mg_of X G agm) ank T fG iQ
  have rT:aM l.prog w K mg base 1 "all_free" 1 pN:=abl Q0 (PySem.W.mg_of X G Fb) agx T
  have u5:aM l.prog w K mg base 2 "is_mark" 1 qW:=aeQ Ve (PySem.W.mg_of X G JT) aiH T cJ
  have lZ:aM l.prog w K mg base 3 "is_marks_row" 2 jK:=PJ CJ (PySem.W.mg_of X G ur) T9 T u5
  have rW:aM l.prog w K mg base 4 "is_marks" 2 pO:=abn Q5 (PySem.W.mg_of X G Fi) agy T lZ
  have eN:aM l.prog w K mg base 5 "full_marks" 2 dh:=VN Ku (PySem.W.mg_of X G yZ) aaS T rT rW
  have pB:aM l.prog w K mg base 2 "need_width" 3 lW:=VR Kv (PySem.W.mg_of X G zm) aaT T cJ
  have nD:aM l.prog w K mg base 1 "cells_along" 2 j5:=RW GZ (PySem.W.mg_of X G vW) XR T
  have Ip:aM l.prog w K mg base 1 "near" 2 BR:=alc aiz (PySem.W.mg_of X G aay) amU T
  have xW:aM l.prog w K mg base 2 "onward" 3 tO:=ahI aaK (PySem.W.mg_of X G NP) aj4 T dM Ip
  have Cm:=ajz (P:=l.prog) (w:=w) (base:=base) adS (PySem.W.mg_of X G TQ) alE T xW
  have qy:=Zv (P:=l.prog) (w:=w) (base:=base) Mg (PySem.W.mg_of X G Bl) T Cm  hB hCI
  have rY:aM l.prog w K mg base 2 "from_top" 2 pP:=abp Q6 (PySem.W.mg_of X G Fp) agz T dM
  have nu:=R0 (P:=l.prog) (w:=w) (base:=base) G3 (PySem.W.mg_of X G v7) T qy qz rY
  have fH:=Zx (P:=l.prog) (w:=w) (base:=base) Mh (PySem.W.mg_of X G Bq) T nu nA
  have Cp:=ajB (P:=l.prog) (w:=w) (base:=base) adT (PySem.W.mg_of X G T3) T nD gO fH fJ iQ
  have dH:=abr (P:=l.prog) (w:=w) (base:=base) Q7 (PySem.W.mg_of X G Fw) T eN cL bC pB Cp Cq
  have pG:=aeS (P:=l.prog) (w:=w) (base:=base) aiA (PySem.W.mg_of X G JZ) T dH dI
  have rZ:aM l.prog w K mg base 10 "laid_out" 3 pQ:=abu Q8 (PySem.W.mg_of X G FJ) agA T gO eN cL bC
  have pH:=V2 (P:=l.prog) (w:=w) (base:=base) aaL (PySem.W.mg_of X G zx) T rZ fH fJ
  have Ir:=ale (P:=l.prog) (w:=w) (base:=base) amS (PySem.W.mg_of X G aaC) T dH dI
  have lC:=abw (P:=l.prog) (w:=w) (base:=base) agt (PySem.W.mg_of X G FZ) T dH dI
  have su:aM l.prog w K mg base 3 "is_cells" 2 pR:=aby Q9 (PySem.W.mg_of X G Ge) agB T jD
  have u6:aM l.prog w K mg base 4 "is_step" 3 qX:=aeU Vf (PySem.W.mg_of X G Ka) aiI T su lE
  have pC:aM l.prog w K mg base 1 "with_cells" 3 lX:=V4 Kw (PySem.W.mg_of X G zE) aaU T
  have qZ:aM l.prog w K mg base 7 "rebuilt" 2 mD:=aeW Vg (PySem.W.mg_of X G Kf) aiJ T u6 bR pC
  have anl:=ok_law (P:=l.prog) (w:=w) (base:=base) aki (PySem.W.mg_of X G QV) T sy bD nF pD pF qC mq u9 PL pG pH Ir lC qZ bR lG jF lH gP qL gw jV
  obtain⟨f',ok',hm',_⟩:=anl
  cases (PySem.W.mg_of X G QV).symm.trans hm'
  exact ok'
end iI
namespace iI
open PySem PySem.Spec L2 Pu
theorem walk {l:PySem.W.OpenLaw} {q:Program} {loose:List Str} {XP:(Str→Option Value)→Heap→Prop} {YP:World→Heap→Prop} {d:DefRec} {K:Params→PySem.W.Frag} (hn:l.most=some 63) (hdf:d.params.defaults=[])
    (hY:∀(w:World) (h:Heap),YP w h→(K w.params).In h) (hnt:∀w:World,PySem.W.noTabs (K w.params)=true) (hrec:∃dy,(PyProof.Rows.recsOf q).find? (fun e:DefRec=>e.name ==("best_ways" :Str))=some dy)
    (F:∀(w:World) (mg:Str→Option Value) (fa:Addr) (h:Heap),(K w.params).In h→h.Ns mainGlobals mg→mg d.name=some (.ref fa)→
      ∃fd:FuncData,(∀(s:Shared) (u:Value),BindsTo s fd ⟨[u],[]⟩ [("_law_script",u)])∧∀(base:Heap) (c T:Addr),(K w.params).In base→base.Ns mainGlobals mg→uI base mg c T→Hr (K w.params) mg "best_ways" c→FnOk l.prog w (K w.params) mg base CX0 13 fa fd ["_law_script"] (spT [(T,"best_ways.<locals>.first_ones")] (K w.params) 1 OJ)):
    PySem.W.WalkO q loose XP YP l.row.toRowW d [] (fun f vs=>PySem.call f vs):=
  Pu.ana (n:=63) (k:=13) (x:= "_law_script") (y:= "best_ways") (q:= "best_ways.<locals>.first_ones") (FL:=OJ) hn (by decide) hdf ⟨rfl,by decide,by decide⟩ hY hnt (by obtain⟨dy,e⟩:=hrec;exact⟨dy,List.mem_of_find?_eq_some e,beq_iff_eq.mp (List.find?_some (p:=fun e:DefRec=>e.name ==("best_ways" :Str)) e)⟩) F aju
end iI
namespace PySem.W.Fast
theorem tw12147471780821968053:True:=trivial
theorem tw7067938716519475930:True:=trivial
theorem tw10973420931614134095:True:=trivial
theorem tw10753082475680024825:True:=trivial
theorem tw1040628589133697919:True:=trivial
theorem tw17236151720861632569:True:=trivial
theorem tw10337533009351188278:True:=trivial
theorem tw14004568440306654635:True:=trivial
theorem tw5990187862369132112:True:=trivial
theorem tw16547415988829672511:True:=trivial
theorem tw12733660896208929539:True:=trivial
theorem tw18332258228165103599:True:=trivial
theorem tw14679469148961205343:True:=trivial
theorem tw12588947568368789909:True:=trivial
theorem tw11044376530282644248:True:=trivial
theorem tw10368540035092854740:True:=trivial
theorem tw5871171250932125286:True:=trivial
theorem tw3585668106039521641:True:=trivial
theorem tw1620318022875991474:True:=trivial
theorem tw12570392688647714089:True:=trivial
theorem tw7560188438111327107:True:=trivial
theorem tw1823852488725516677:True:=trivial
theorem tw6242538267614417859:True:=trivial
theorem tw704045656084037808:True:=trivial
theorem tw9914565945007777834:True:=trivial
theorem tw1746549565052081281:True:=trivial
theorem tw17299887312300926706:True:=trivial
theorem tw18326087914289445511:True:=trivial
theorem tw11322987746720459099:True:=trivial
theorem tw17560571524289171792:True:=trivial
end PySem.W.Fast
open PySem PySem.W PyProof.Rows
set_option bootstrap.genMatcherCode true
set_option compiler.extract_closed true
set_option maxRecDepth 100000 in
set_option maxHeartbeats 0 in
theorem PySem.Challenge.cw_seamhall_k31_whole_narrowed_holds : PySem.Challenge.rw_seamhall_k31_whole_narrowed.Holds := by
  w_on;o_law;k_head;(case hw=>w_witness2)
  k_fill
  refine iI.walk (l:=PySem.Challenge.rw_seamhall_k31_whole_narrowed) rfl rfl (fun w h Y=>PySem.W.km_in_of Y) ?nt ?rec ?F
  case nt=>intro w;kernel_rfl
  case rec=>exact⟨_,rfl⟩
  case F=>
    intro w mg fa h KX G hmg
    refine' iI.all_mk KX G hmg ?Ci ?Cj ?Ik ?qw ?nM ?uY ?Ji ?zW ?qF ?Il ?ig ?Pn ?dj ?cO ?Ck ?zX ?Dz ?fB ?pZ ?tW ?zY ?dB ?wF ?Pq ?Im ?nO ?Io ?Em ?En ?Eo ?Ep ?yu ?yw ?yx ?yC ?vM ?vN ?vO ?vP ?yD ?yE ?yF ?yG ?yH ?yI ?yJ ?yK ?uc ?ud ?uf ?ug ?Bb ?Bc ?Bd ?Bf ?Jj ?Jk ?Jl ?Jm ?Er ?Es ?Et ?Eu ?Jo ?Jp ?Jq ?Jr ?Ng ?Nh ?Ni ?Nj ?yL ?yM ?yN ?yO ?uh ?um ?uo ?uq ?yP ?yQ ?yR ?yS ?aau ?aav ?aaw ?aax ?yU ?yV ?yW ?yX ?Js ?Jt ?Ju ?Jv ?Nk ?Nm ?Np ?Nq ?Nr ?Nt ?Nu ?Nv ?Tw ?Tz ?TF ?TJ ?vQ ?vR ?vU ?vV ?Nx ?Ny ?Nz ?NK ?Jw ?Jx ?Jy ?Jz ?Bg ?Bh ?Bj ?Bk ?JB ?JC ?JD ?JF ?Ew ?Ey ?Ez ?EY ?JG ?JH ?JK ?JL ?JM ?JN ?JQ ?JR ?agm ?agn ?ago ?agp ?Fb ?Fd ?Fe ?Fg ?JT ?JV ?JW ?JX ?ur ?uw ?ux ?uz ?Fi ?Fj ?Fl ?Fo ?yZ ?za ?zf ?zj ?zm ?zp ?zq ?zu ?vW ?vX ?vY ?vZ ?aay ?aaz ?aaA ?aaB ?NP ?NQ ?NT ?NZ ?TQ ?TV ?TX ?TY ?Bl ?Bm ?Bo ?Bp ?Fp ?Fq ?Ft ?Fv ?v7 ?v9 ?wg ?wj ?Bq ?Br ?Bs ?Bt ?T3 ?T4 ?T5 ?T6 ?Fw ?Fx ?Fy ?Fz ?JZ ?J4 ?J5 ?J6 ?FJ ?FN ?FQ ?FW ?zx ?zy ?zA ?zB ?aaC ?aaD ?aaE ?aaF ?FZ ?Ga ?Gb ?Gd ?Ge ?Gf ?Gg ?Gh ?Ka ?Kc ?Kd ?Ke ?zE ?zF ?zG ?zH ?Kf ?Kg ?Kh ?Kl ?QV ?agq ?agr ?ags ?lG ?jF ?lH ?gP ?qL ?gw ?jV
    (case Ci=>k_is)
    (case Cj=>k_is)
    (case Ik=>k_is)
    (case qw=>k_is)
    (case nM=>k_is)
    (case uY=>k_is)
    (case Ji=>k_is)
    (case zW=>k_is)
    (case qF=>k_is)
    (case Il=>k_is)
    (case ig=>k_is)
    (case Pn=>k_is)
    (case dj=>k_is)
    (case cO=>k_is)
    (case Ck=>k_is)
    (case zX=>k_is)
    (case Dz=>k_is)
    (case fB=>k_is)
    (case pZ=>k_is)
    (case tW=>k_is)
    (case zY=>k_is)
    (case dB=>k_is)
    (case wF=>k_is)
    (case Pq=>intro d;cases d;(show PySem.W.kitOne _ (Value.type "NoneType") (Value.type "int")=some false);kit_is;(show PySem.W.kitOne _ (Value.type "bool") (Value.type "int")=some true);kit_is;(show PySem.W.kitOne _ (Value.type "int") (Value.type "int")=some true);kit_is;(show PySem.W.kitOne _ (Value.type "str") (Value.type "int")=some false);kit_is;(show PySem.W.kitOne _ (Value.type "tuple") (Value.type "int")=some false);kit_is;(show PySem.W.kitOne _ (Value.type "list") (Value.type "int")=some false);kit_is)
    (case Im=>intro d;cases d;(show PySem.W.kitOne _ (Value.type "NoneType") (Value.type "bool")=some false);kit_is;(show PySem.W.kitOne _ (Value.type "bool") (Value.type "bool")=some true);kit_is;(show PySem.W.kitOne _ (Value.type "int") (Value.type "bool")=some false);kit_is;(show PySem.W.kitOne _ (Value.type "str") (Value.type "bool")=some false);kit_is;(show PySem.W.kitOne _ (Value.type "tuple") (Value.type "bool")=some false);kit_is;(show PySem.W.kitOne _ (Value.type "list") (Value.type "bool")=some false);kit_is)
    (case nO=>intro d;cases d;(show PySem.W.kitOne _ (Value.type "NoneType") (Value.type "tuple")=some false);kit_is;(show PySem.W.kitOne _ (Value.type "bool") (Value.type "tuple")=some false);kit_is;(show PySem.W.kitOne _ (Value.type "int") (Value.type "tuple")=some false);kit_is;(show PySem.W.kitOne _ (Value.type "str") (Value.type "tuple")=some false);kit_is;(show PySem.W.kitOne _ (Value.type "tuple") (Value.type "tuple")=some true);kit_is;(show PySem.W.kitOne _ (Value.type "list") (Value.type "tuple")=some false);kit_is)
    (case Io=>intro d;cases d;(show PySem.W.kitOne _ (Value.type "NoneType") (Value.type "list")=some false);kit_is;(show PySem.W.kitOne _ (Value.type "bool") (Value.type "list")=some false);kit_is;(show PySem.W.kitOne _ (Value.type "int") (Value.type "list")=some false);kit_is;(show PySem.W.kitOne _ (Value.type "str") (Value.type "list")=some false);kit_is;(show PySem.W.kitOne _ (Value.type "tuple") (Value.type "list")=some false);kit_is;(show PySem.W.kitOne _ (Value.type "list") (Value.type "list")=some true);kit_is)
    (case Em=>k_is)
    (case En=>k_is)
    (case Eo=>k_is)
    (case Ep=>k_is)
    (case yu=>k_is)
    (case yw=>k_is)
    (case yx=>k_is)
    (case yC=>k_is)
    (case vM=>k_is)
    (case vN=>k_is)
    (case vO=>k_is)
    (case vP=>k_is)
    (case yD=>k_is)
    (case yE=>k_is)
    (case yF=>k_is)
    (case yG=>k_is)
    (case yH=>k_is)
    (case yI=>k_is)
    (case yJ=>k_is)
    (case yK=>k_is)
    (case uc=>k_is)
    (case ud=>k_is)
    (case uf=>k_is)
    (case ug=>k_is)
    (case Bb=>k_is)
    (case Bc=>k_is)
    (case Bd=>k_is)
    (case Bf=>k_is)
    (case Jj=>k_is)
    (case Jk=>k_is)
    (case Jl=>k_is)
    (case Jm=>k_is)
    (case Er=>k_is)
    (case Es=>k_is)
    (case Et=>k_is)
    (case Eu=>k_is)
    (case Jo=>k_is)
    (case Jp=>k_is)
    (case Jq=>k_is)
    (case Jr=>k_is)
    (case Ng=>k_is)
    (case Nh=>k_is)
    (case Ni=>k_is)
    (case Nj=>k_is)
    (case yL=>k_is)
    (case yM=>k_is)
    (case yN=>k_is)
    (case yO=>k_is)
    (case uh=>k_is)
    (case um=>k_is)
    (case uo=>k_is)
    (case uq=>k_is)
    (case yP=>k_is)
    (case yQ=>k_is)
    (case yR=>k_is)
    (case yS=>k_is)
    (case aau=>k_is)
    (case aav=>k_is)
    (case aaw=>k_is)
    (case aax=>k_is)
    (case yU=>k_is)
    (case yV=>k_is)
    (case yW=>k_is)
    (case yX=>k_is)
    (case Js=>k_is)
    (case Jt=>k_is)
    (case Ju=>k_is)
    (case Jv=>k_is)
    (case Nk=>k_is)
    (case Nm=>k_is)
    (case Np=>k_is)
    (case Nq=>k_is)
    (case Nr=>k_is)
    (case Nt=>k_is)
    (case Nu=>k_is)
    (case Nv=>k_is)
    (case Tw=>k_is)
    (case Tz=>k_is)
    (case TF=>k_is)
    (case TJ=>k_is)
    (case vQ=>k_is)
    (case vR=>k_is)
    (case vU=>k_is)
    (case vV=>k_is)
    (case Nx=>k_is)
    (case Ny=>k_is)
    (case Nz=>k_is)
    (case NK=>k_is)
    (case Jw=>k_is)
    (case Jx=>k_is)
    (case Jy=>k_is)
    (case Jz=>k_is)
    (case Bg=>k_is)
    (case Bh=>k_is)
    (case Bj=>k_is)
    (case Bk=>k_is)
    (case JB=>k_is)
    (case JC=>k_is)
    (case JD=>k_is)
    (case JF=>k_is)
    (case Ew=>k_is)
    (case Ey=>k_is)
    (case Ez=>k_is)
    (case EY=>k_is)
    (case JG=>k_is)
    (case JH=>k_is)
    (case JK=>k_is)
    (case JL=>k_is)
    (case JM=>k_is)
    (case JN=>k_is)
    (case JQ=>k_is)
    (case JR=>k_is)
    (case agm=>k_is)
    (case agn=>k_is)
    (case ago=>k_is)
    (case agp=>k_is)
    (case Fb=>k_is)
    (case Fd=>k_is)
    (case Fe=>k_is)
    (case Fg=>k_is)
    (case JT=>k_is)
    (case JV=>k_is)
    (case JW=>k_is)
    (case JX=>k_is)
    (case ur=>k_is)
    (case uw=>k_is)
    (case ux=>k_is)
    (case uz=>k_is)
    (case Fi=>k_is)
    (case Fj=>k_is)
    (case Fl=>k_is)
    (case Fo=>k_is)
    (case yZ=>k_is)
    (case za=>k_is)
    (case zf=>k_is)
    (case zj=>k_is)
    (case zm=>k_is)
    (case zp=>k_is)
    (case zq=>k_is)
    (case zu=>k_is)
    (case vW=>k_is)
    (case vX=>k_is)
    (case vY=>k_is)
    (case vZ=>k_is)
    (case aay=>k_is)
    (case aaz=>k_is)
    (case aaA=>k_is)
    (case aaB=>k_is)
    (case NP=>k_is)
    (case NQ=>k_is)
    (case NT=>k_is)
    (case NZ=>k_is)
    (case TQ=>k_is)
    (case TV=>k_is)
    (case TX=>k_is)
    (case TY=>k_is)
    (case Bl=>k_is)
    (case Bm=>k_is)
    (case Bo=>k_is)
    (case Bp=>k_is)
    (case Fp=>k_is)
    (case Fq=>k_is)
    (case Ft=>k_is)
    (case Fv=>k_is)
    (case v7=>k_is)
    (case v9=>k_is)
    (case wg=>k_is)
    (case wj=>k_is)
    (case Bq=>k_is)
    (case Br=>k_is)
    (case Bs=>k_is)
    (case Bt=>k_is)
    (case T3=>k_is)
    (case T4=>k_is)
    (case T5=>k_is)
    (case T6=>k_is)
    (case Fw=>k_is)
    (case Fx=>k_is)
    (case Fy=>k_is)
    (case Fz=>k_is)
    (case JZ=>k_is)
    (case J4=>k_is)
    (case J5=>k_is)
    (case J6=>k_is)
    (case FJ=>k_is)
    (case FN=>k_is)
    (case FQ=>k_is)
    (case FW=>k_is)
    (case zx=>k_is)
    (case zy=>k_is)
    (case zA=>k_is)
    (case zB=>k_is)
    (case aaC=>k_is)
    (case aaD=>k_is)
    (case aaE=>k_is)
    (case aaF=>k_is)
    (case FZ=>k_is)
    (case Ga=>k_is)
    (case Gb=>k_is)
    (case Gd=>k_is)
    (case Ge=>k_is)
    (case Gf=>k_is)
    (case Gg=>k_is)
    (case Gh=>k_is)
    (case Ka=>k_is)
    (case Kc=>k_is)
    (case Kd=>k_is)
    (case Ke=>k_is)
    (case zE=>k_is)
    (case zF=>k_is)
    (case zG=>k_is)
    (case zH=>k_is)
    (case Kf=>k_is)
    (case Kg=>k_is)
    (case Kh=>k_is)
    (case Kl=>k_is)
    (case QV=>k_is)
    (case agq=>k_is)
    (case agr=>k_is)
    (case ags=>k_is)
    (case lG=>intro s us ws i hl hw;have h0:us.length=2:=(by simp only[List.length_cons,List.length_nil] at hl;omega);clear hl;obtain⟨u0,us0,rfl,h1⟩:=Pu.iY h0;clear h0;obtain⟨u1,Yw,rfl,h2⟩:=Pu.iY h1;clear h1;cases Pu.len0 h2;have g0:ws.length=1:=hw;clear hw;obtain⟨w0,ws0,rfl,g1⟩:=Pu.iY g0;clear g0;cases Pu.len0 g1;exact PySem.W.kp_binds i (fun S=>rfl))
    (case jF=>intro s us ws i hl hw;have h0:us.length=2:=(by simp only[List.length_cons,List.length_nil] at hl;omega);clear hl;obtain⟨u0,us0,rfl,h1⟩:=Pu.iY h0;clear h0;obtain⟨u1,Yw,rfl,h2⟩:=Pu.iY h1;clear h1;cases Pu.len0 h2;have g0:ws.length=1:=hw;clear hw;obtain⟨w0,ws0,rfl,g1⟩:=Pu.iY g0;clear g0;cases Pu.len0 g1;exact PySem.W.kp_binds i (fun S=>rfl))
    (case lH=>intro s us ws i hl hw;have h0:us.length=2:=(by simp only[List.length_cons,List.length_nil] at hl;omega);clear hl;obtain⟨u0,us0,rfl,h1⟩:=Pu.iY h0;clear h0;obtain⟨u1,Yw,rfl,h2⟩:=Pu.iY h1;clear h1;cases Pu.len0 h2;have g0:ws.length=2:=hw;clear hw;obtain⟨w0,ws0,rfl,g1⟩:=Pu.iY g0;clear g0;obtain⟨w1,ws1,rfl,g2⟩:=Pu.iY g1;clear g1;cases Pu.len0 g2;exact PySem.W.kp_binds i (fun S=>rfl))
    (case gP=>intro s us ws i hl hw;have h0:us.length=1:=(by simp only[List.length_cons,List.length_nil] at hl;omega);clear hl;obtain⟨u0,us0,rfl,h1⟩:=Pu.iY h0;clear h0;cases Pu.len0 h1;have g0:ws.length=1:=hw;clear hw;obtain⟨w0,ws0,rfl,g1⟩:=Pu.iY g0;clear g0;cases Pu.len0 g1;exact PySem.W.kp_binds i (fun S=>rfl))
    (case qL=>intro s us ws i hl hw;have h0:us.length=2:=(by simp only[List.length_cons,List.length_nil] at hl;omega);clear hl;obtain⟨u0,us0,rfl,h1⟩:=Pu.iY h0;clear h0;obtain⟨u1,Yw,rfl,h2⟩:=Pu.iY h1;clear h1;cases Pu.len0 h2;have g0:ws.length=1:=hw;clear hw;obtain⟨w0,ws0,rfl,g1⟩:=Pu.iY g0;clear g0;cases Pu.len0 g1;exact PySem.W.kp_binds i (fun S=>rfl))
    (case gw=>intro s us ws i hl hw;have h0:us.length=2:=(by simp only[List.length_cons,List.length_nil] at hl;omega);clear hl;obtain⟨u0,us0,rfl,h1⟩:=Pu.iY h0;clear h0;obtain⟨u1,Yw,rfl,h2⟩:=Pu.iY h1;clear h1;cases Pu.len0 h2;have g0:ws.length=1:=hw;clear hw;obtain⟨w0,ws0,rfl,g1⟩:=Pu.iY g0;clear g0;cases Pu.len0 g1;exact PySem.W.kp_binds i (fun S=>rfl))
    (case jV=>intro s us ws i hl hw;have h0:us.length=2:=(by simp only[List.length_cons,List.length_nil] at hl;omega);clear hl;obtain⟨u0,us0,rfl,h1⟩:=Pu.iY h0;clear h0;obtain⟨u1,Yw,rfl,h2⟩:=Pu.iY h1;clear h1;cases Pu.len0 h2;have g0:ws.length=2:=hw;clear hw;obtain⟨w0,ws0,rfl,g1⟩:=Pu.iY g0;clear g0;obtain⟨w1,ws1,rfl,g2⟩:=Pu.iY g1;clear g1;cases Pu.len0 g2;exact PySem.W.kp_binds i (fun S=>rfl))
